import PyProof.Rows.All
import Wide.All
import OpenK.AllK
import Wide.FinOn
import Lean
import PyProof.EqAt
import PyProof.EqKinds
import PyProof.TupleCall
import PyProof.NeKinds
import PyProof.OldK
import KE.KLam
import KE.KSortKey
import PySem.Challenge.RW_twoforone_k36_whole_carry_papers_bound
set_option Elab.async false
set_option linter.all false
set_option maxRecDepth 100000
set_option maxHeartbeats 4000000
def u1N:=@PySem.Around.under_plainId
def u2d:=@Array.Perm.refl
def u1R:=@Array.getElem?_eq_getElem
def i9:=@Array.getElem?_toList
def j5:=@Array.length_toList
def u0H:=@Array.perm_iff_toList_perm
def u3C:=@Array.size_map
def u3t:=@Array.size_push
def m8:=@Array.toList_append
def u1b:=@Array.toList_push
def u1m:=@Array.toList_reverse
def u2T:=@Array.toList_setIfInBounds
def p4:=@Bool.and_eq_true
def u2v:=@Bool.and_false
def u3c:=@Bool.and_true
def u2e:=@Bool.eq_iff_iff
def u1B:=@Bool.false_eq_true
def u4:=@Bool.false_ne_true
def u2q:=@Bool.not_eq_true'
def u3u:=@Bool.or_eq_true
def u2f:=@PySem.Calls.spliced_cons
def u2r:=@PySem.Calls.spliced_nil
def u2s:=@PySem.F.plain_list_iadd
def u1g:=@PySem.F.slot_tuple_iterator_next
def u0v:=@PySem.Heap.SameBut.update
def u5:=@PySem.Heap.get?_push_of_some
def j8:=@PySem.Heap.get?_push_size
def u0u:=@PySem.Heap.get?_update_other
def u0Q:=@PySem.Heap.get?_update_self
def r6:=@PySem.Heap.lt_size
def u1S:=@PySem.Heap.size_push
def u2W:=@Int.ediv_one
def u2g:=@Int.emod_lt_of_pos
def u2L:=@Int.emod_nonneg
def u05:=@Int.le_refl
def u3d:=@Int.lt_irrefl
def u1n:=@Int.toNat_natCast
def u1v:=@Int.toNat_of_nonneg
def u18:=@Int.zero_add
def u0j:=@PyProof.Rows.KeyOrd.kle_of_klt
def u1d:=@PyProof.Rows.KeyOrd.kle_refl
def u1V:=@PyProof.Rows.KeyOrd.kle_trans
def u29:=@List.Pairwise.imp_of_mem
def u19:=@List.Perm.eq_of_pairwise
def u1y:=@List.Perm.refl
def u2E:=@List.all_cons
def u0C:=@List.all_eq_true
def u1E:=@List.all_map
def u2F:=@List.any_cons
def g8:=@List.append_assoc
def u1o:=@List.append_nil
def u2G:=@List.cons.inj
def u2z:=@List.countP_cons
def u2x:=@List.countP_le_length
def u1x:=@List.drop_append_of_le_length
def u01:=@List.drop_drop
def u0p:=@List.drop_eq_getElem_cons
def u2o:=@List.drop_eq_nil_of_le
def u1W:=@List.drop_length
def u0Y:=@List.drop_sublist
def u2w:=@List.drop_take
def u1T:=@List.drop_zero
def u2h:=@List.eraseIdx_append_of_length_le
def u1J:=@List.ext_getElem?
def u2M:=@List.filterMap_cons
def u1F:=@List.find?_cons
def u1p:=@List.flatten_cons
def u3w:=@List.foldl_cons
def u3x:=@List.forIn_cons
def u3D:=@List.forIn_nil
def n8:=@List.getD_eq_getElem?_getD
def u0q:=@List.getElem?_append_left
def u0e:=@List.getElem?_append_right
def u1j:=@List.getElem?_drop
def u7:=@List.getElem?_eq_getElem
def u0m:=@List.getElem?_eq_none
def t7:=@List.getElem?_eq_some_iff
def j9:=@List.getElem?_map
def u1w:=@List.getElem?_range
def u0T:=@List.getElem?_replicate
def u0D:=@List.getElem?_set
def n9:=@List.getElem?_set_ne
def u0i:=@List.getElem?_set_self
def u0b:=@List.getElem?_take_of_lt
def u26:=@List.getElem?_zip_eq_some
def u2A:=@List.getElem_inj
def u1X:=@List.getElem_map
def u0N:=@List.getElem_mem
def p8:=@List.getElem_of_mem
def u2B:=@List.getElem_zip
def r9:=@List.length_append
def e8:=@List.length_cons
def e9:=@List.length_drop
def u0U:=@List.length_eq_zero_iff
def u1q:=@List.length_erase_of_mem
def u6:=@List.length_map
def u2N:=@List.length_nil
def u0R:=@List.length_range
def u0w:=@List.length_replicate
def u13:=@List.length_reverse
def u0x:=@List.length_set
def b9:=@List.length_take
def u0J:=@List.length_zip
def i7:=@List.map_append
def u0y:=@List.map_congr_left
def d8:=@List.map_cons
def u3e:=@List.map_id
def u0z:=@List.map_map
def u3y:=@List.map_nil
def u2a:=@List.map_set
def d9:=@List.mem_append
def u1O:=@List.mem_append_left
def d6:=@List.mem_append_right
def d7:=@List.mem_cons
def b8:=@List.mem_cons_of_mem
def m7:=@List.mem_cons_self
def u0K:=@List.mem_filter
def u1G:=@List.mem_iff_getElem?
def u0c:=@List.mem_map
def j6:=@List.mem_of_getElem?
def i8:=@List.mem_of_mem_drop
def u0d:=@List.mem_of_mem_take
def u1l:=@List.mem_or_eq_of_mem_set
def i5:=@List.mem_range
def u06:=@List.mem_reverse
def t9:=@List.mem_singleton
def u2O:=@List.mergeSort_perm
def u2P:=@List.nil_append
def u0L:=@List.nodup_cons
def u1h:=@List.nodup_iff_pairwise_ne
def u3E:=@List.nodup_nil
def u1i:=@List.nodup_range
def u2Q:=@List.of_mem_zip
def u0s:=@List.pairwise_append
def u0V:=@List.pairwise_cons
def u0r:=@List.pairwise_iff_getElem
def u0S:=@List.pairwise_map
def u2i:=@List.pairwise_mergeSort
def u1H:=@List.pairwise_reverse
def u1k:=@List.perm_append_comm
def u0P:=@List.replicate_succ
def u14:=@List.reverse_append
def u1c:=@List.reverse_perm
def u1P:=@List.reverse_reverse
def j4:=@List.size_toArray
def u02:=@List.sum_cons
def p7:=@List.take_append_drop
def u2C:=@List.take_append_of_le_length
def u1Y:=@List.take_length
def m6:=@List.take_of_length_le
def u1r:=@List.take_sublist
def u3F:=@List.take_succ
def u1z:=@List.take_take
def u3G:=@List.take_zero
def u2X:=@List.zip_cons_cons
def u15:=@Nat.add_le_add_left
def u08:=@Nat.add_sub_cancel_left
def u1Z:=@Nat.le_add_right
def u2Y:=@Nat.le_of_eq
def u1u:=@Nat.le_of_lt
def u10:=@Nat.le_of_not_lt
def q5:=@Nat.le_refl
def u3f:=@Nat.le_succ
def u0t:=@Nat.le_trans
def u09:=@Nat.lt_irrefl
def h9:=@Nat.lt_of_le_of_lt
def o0:=@Nat.lt_of_lt_of_le
def u1K:=@Nat.lt_succ_of_lt
def u3m:=@Nat.lt_succ_self
def u0M:=@Nat.min_eq_left
def u11:=@Nat.min_le_right
def u2b:=@Nat.min_self
def u3z:=@Nat.ne_of_gt
def p5:=@Nat.ne_of_lt
def u3A:=@Nat.not_lt_zero
def u2Z:=@Nat.sub_self
def u1a:=@Nat.zero_add
def u0g:=@Nat.zero_le
def u1Q:=@Ne.symm
def u2j:=@PySem.Obj.data_mapFields
def u0:=@Option.bind_eq_some_iff
def p9:=@Option.bind_some
def u1L:=@Option.isSome_map
def t8:=@Option.map_eq_some_iff
def u0f:=@Option.some.inj
def u3g:=@PySem.Paired.length
def u0a:=@PySem.PassesOwn.never
def u3h:=@Prod.ext
def u0A:=@PyProof.Rows.callWith_type1
def u0k:=@PyProof.Rows.slot_tuple_getitem
def u1U:=@PySem.F.args_dict_keyiterator_next_1
def u2c:=@PySem.F.args_tuple_add_2
def u16:=@PySem.F.entry_dict_keyiterator_next
def u2k:=@PySem.F.entry_tuple_add
def u0E:=@PySem.F.plainAttrs_list
def u0o:=@PySem.F.slot_dict_keyiterator_next
def u03:=@PySem.F.slot_list_append
def u2p:=@PySem.F.slot_tuple_add
def u04:=@PySem.F.type_list_append
def u0n:=@PySem.W.kia_one
def u2t:=@PySem.W.kitx_dict
def i6:=@PySem.W.mg_none_of
def u3i:=@PySem.W.mg_of
def u0h:=@PySem.mem_of_lookup
def u20:=@PySem.SeqAt.EqAt.int_int
def u21:=@PySem.SeqAt.EqAt.of_refs
def u1e:=@beq_eq_false_iff_ne
def g9:=@beq_iff_eq
def u12:=@beq_self_eq_true
def u3a:=@PySem.call_meets
def u2R:=@PySem.codeAny_builtin
def u22:=@PySem.codeAny_mono
def u0W:=@congrArg
def p6:=@decide_eq_false
def u0F:=@decide_eq_false_iff_not
def d4:=@decide_eq_true
def r8:=@decide_eq_true_eq
def u2l:=@PyProof.Rows.get?_update_seq
def u23:=@getElem?_pos
def u2H:=@if_false
def u9:=@if_neg
def u8:=@if_pos
def u3j:=@if_true
def u2y:=@PyProof.Rows.listItems_at
def u1M:=@PyProof.Rows.listUpdate_at
def u1C:=@of_decide_eq_false
def b7:=@of_decide_eq_true
def u1I:=@PySem.sizeLine_eq
def u2m:=@PySem.wpAny_Call_Name_kw
def u2n:=@PySem.wpAny_attempt
def u3:=@PySem.wpAny_bind
def u0G:=@PySem.wpAny_callSpecial?_slot
def u0O:=@PySem.wpAny_call_entry
def u3b:=@PySem.wpAny_dictEntries
def u2S:=@PySem.wpAny_execs_nil
def u17:=@PySem.wpAny_field
def u0X:=@PySem.wpAny_holding
def u1f:=@PySem.wpAny_loadPart'
def u0Z:=@PySem.wpAny_mono
def u2I:=@PySem.wpAny_newList
def u0l:=@PySem.wpAny_newObj_type
def u1s:=@PySem.wpAny_passesOwn
def j3:=@PySem.wpAny_pure
def u2u:=@PySem.wpAny_pyIter_enum
def u1D:=@PySem.wpAny_pyIter_tuple
def u1A:=@PySem.wpAny_rule
def u27:=@PySem.wpAny_setField
def u00:=@PySem.wpAny_truthy_bool
def u07:=@PySem.wpAny_typeNameOfWhole_keyiter
def u1t:=@PySem.wpAny_typeNameOf_keyiter
def u24:=@PySem.wpAny_typeOf
def j7:=@PyProof.Rows.wpS_bind
def u0B:=@PyProof.Rows.wpS_forRange
def u28:=@PyProof.Rows.wpS_get
def u3l:=@PyProof.Rows.wpS_lift
def u2J:=@PyProof.Rows.wpS_modify
def u0I:=@PyProof.Rows.wpS_mono
def d5:=@PyProof.Rows.wpS_pure
namespace L2
open PySem PySem.Spec PyProof.Rows
abbrev Key:=Sum Int Str
def zdt:Key->Value->Bool
 | .inl k,v=>Value.isInt k v
 | .inr x,v=>Value.isStrOf x v
def keyH (w:World):Key->Int
 | .inl k=>hashInt k
 | .inr x=>hashStr w x
theorem zZ:∀ {k:Key} {v:Value},zdt k v=true->(∃ i t,k=Sum.inl i/\v=Value.int i t)\/(∃ x t,k=Sum.inr x/\v=Value.str x t)
 | .inl i,v,h=>by
  obtain⟨t,e⟩:=Value.isInt_shape (k:=i) (v:=v) h
  exact .inl ⟨i,t,rfl,e⟩
 | .inr x,v,h=>by
  obtain⟨t,e⟩:=Value.isStrOf_shape (x:=x) (v:=v) h
  exact .inr ⟨x,t,rfl,e⟩
theorem zeY (i:Int)(t:Tok):zdt (.inl i) (.int i t)=true:=by simp[zdt,Value.isInt]
theorem zdW (x:Str)(t:Tok):zdt (.inr x) (.str x t)=true:=by simp[zdt,Value.isStrOf]
theorem zld (a b:Int):decide ((Sum.inl a:Key)=Sum.inl b)=(a == b):=by
 by_cases e:a=b
 .subst e;simp
 .have h:¬ (Sum.inl a:Key)=Sum.inl b:=λq=>e (Sum.inl.inj q)
  rw[p6 h]
  exact(u1e.mpr e).symm
theorem zkM (a b:Str):decide ((Sum.inr a:Key)=Sum.inr b)=decide (a=b):=by
 by_cases e:a=b
 .subst e;simp
 .have h:¬ (Sum.inr a:Key)=Sum.inr b:=λq=>e (Sum.inr.inj q)
  rw[p6 h,p6 e]
theorem zky (a:Int)(b:Str):decide ((Sum.inl a:Key)=Sum.inr b)=false:=p6 (λq=>nomatch q)
theorem zj2 (a:Str)(b:Int):decide ((Sum.inr a:Key)=Sum.inl b)=false:=p6 (λq=>nomatch q)
def yW (prog:Program)(w:World):PySem.KeyKind prog w Key where
 is:=zdt
 hash:=keyH w
 inj:=λv a b ha hb=>by
  rcases zZ ha with ⟨i,t,rfl,rfl⟩ | ⟨x,t,rfl,rfl⟩
  .rcases zZ hb with ⟨j,u,rfl,e⟩ | ⟨y,u,rfl,e⟩
   .injection e with e1 _;rw[e1]
   .exact nomatch e
  .rcases zZ hb with ⟨j,u,rfl,e⟩ | ⟨y,u,rfl,e⟩
   .exact nomatch e
   .injection e with e1 _;rw[e1]
 byValue:=λk v h=>by
  rcases zZ h with ⟨i,t,rfl,rfl⟩ | ⟨x,t,rfl,rfl⟩ <;> rfl
 pyHash:=λhv h=>by
  rcases zZ hv with ⟨i,t,rfl,rfl⟩ | ⟨x,t,rfl,rfl⟩
  .exact wpAny_pyHash_int h
  .exact wpAny_pyHash_str h
 eqBool:=λhu hv h=>by
  rcases zZ hu with ⟨i,t,rfl,rfl⟩ | ⟨x,t,rfl,rfl⟩
  .rcases zZ hv with ⟨j,u,rfl,rfl⟩ | ⟨y,u,rfl,rfl⟩
   .rw[zld]at h;exact wpAny_eqBool_int h
   .rw[zky]at h;exact SeqAt.EqAt.int_str i t y u _ _ _ _ h
  .rcases zZ hv with ⟨j,u,rfl,rfl⟩ | ⟨y,u,rfl,rfl⟩
   .rw[zj2]at h;exact SeqAt.EqAt.str_int x t j u _ _ _ _ h
   .rw[zkM]at h;exact wpAny_eqBool_str h
 «strs»:=λk x t v h=>by
  rcases zZ h with ⟨i,u,rfl,e⟩ | ⟨y,u,rfl,e⟩
  .exact nomatch e
  .injection e with e1 _
   subst e1
   cases v <;> rfl
theorem zbi (prog:Program)(w:World)(i:Int)(t:Tok):(yW prog w).is (.inl i) (.int i t)=true:=zeY i t
theorem zb0 (prog:Program)(w:World)(x:Str)(t:Tok):(yW prog w).is (.inr x) (.str x t)=true:=zdW x t
inductive V where
 | non | bl (b:Bool) | int (i:Int) | str (x:Str) | byt (b:Array UInt8) | flt (b:UInt64) | ref (a:Addr) | ty (n:String)
 deriving DecidableEq
def yA:V->Value->Prop
 | .non,u=>u=Value.none
 | .bl b,u=>u=Value.bool b
 | .int i,u=>∃ t,u=Value.int i t
 | .str x,u=>∃ t,u=Value.str x t
 | .byt b,u=>∃ t,u=Value.bytes b t
 | .flt b,u=>∃ t,u=Value.float b t
 | .ref a,u=>u=Value.ref a
 | .ty n,u=>u=Value.type n
abbrev zU:List V->List Value->Prop:=Paired yA
theorem zU.length {xs:List V}{us:List Value}(r:zU xs us):xs.length=us.length:=u3g r
theorem zU.get:∀ {xs:List V} {us:List Value} {i:Nat} {x:V},zU xs us->xs[i]?=some x->∃ u,us[i]?=some u/\yA x u
 | _,_,_,_,.nil,e=>by simp at e
 | _,_,0,_,.cons r _,e=>by simp at e;subst e;exact⟨_,rfl,r⟩
 | _,_,i+1,x,.cons _ t,e=>by
  obtain⟨u,h1,h2⟩:=zU.get (i:=i) (x:=x) t (by simpa using e)
  exact⟨u,by simpa using h1,h2⟩
theorem zU.set {x:V}{u:Value}(r:yA x u):∀ {xs:List V} {us:List Value} (i:Nat),zU xs us->zU (xs.set i x) (us.set i u)
 | _,_,_,.nil=>.nil
 | _,_,0,.cons _ t=>.cons r t
 | _,_,i+1,.cons q t=>.cons q (zU.set r i t)
theorem zU.append:∀ {xs ys:List V} {us ws:List Value},zU xs us->zU ys ws->zU (xs++ys) (us++ws):=by
 intro xs ys us ws h s
 induction h with
 | nil=>exact s
 | cons r t ih=>exact .cons r ih
theorem zU.take:∀ {xs:List V} {us:List Value} (n:Nat),zU xs us->zU (xs.take n) (us.take n)
 | _,_,0,_=>.nil
 | _,_,_+1,.nil=>.nil
 | _,_,n+1,.cons r t=>.cons r (zU.take n t)
theorem zU.drop:∀ {xs:List V} {us:List Value} (n:Nat),zU xs us->zU (xs.drop n) (us.drop n)
 | _,_,0,r=>r
 | _,_,_+1,.nil=>.nil
 | _,_,n+1,.cons _ t=>zU.drop n t
def zjt:Option V->Option Value->Prop
 | some v,some u=>yA v u
 | none,none=>True
 | _,_=>False
def KV {κ:Type}:List (κ × V)->List (κ × Value)->Prop:=Paired λ(p:κ × V) (q:κ × Value)=>p.1=q.1/\yA p.2 q.2
def kV:Key->V
 | .inl i=>.int i
 | .inr x=>.str x
inductive HO where
 | lst (xs:List V)
 | tup (xs:List V)
 | dK (kvs:List (Key × V)) | dT (kvs:List (List Key × V))
 | set (S:Int->Bool) (n:Nat)
 | ins (C dx:Addr) (fs:List (Str × V))
 | own (x:Addr)
 | xd (fs:List (Str × V))
 | met (f x:Addr)
 | rng (lo hi:Int)
 | frz (o:Obj) (u:HO)
 | tbl (ps:Array Value)
 | ext (φ:Heap->Prop)
abbrev Hp:=Addr->Option HO
def upd (H:Hp)(a:Addr)(o:HO):Hp:=λb=>if b=a then some o else H b
theorem zp {H:Hp}{a:Addr}{o:HO}:upd H a o a=some o:=by unfold upd;rw[u8 rfl]
theorem zo {H:Hp}{a b:Addr}{o:HO}(h:b≠a):upd H a o b=H b:=by unfold upd;rw[u9 h]
theorem zbE {H:Hp}{a:Addr}{o u:HO}:upd (upd H a o) a u=upd H a u:=by
 funext b;unfold upd;split <;> rfl
theorem zjS {H:Hp}{a b:Addr}{o u:HO}(h:H a=some o)(h':H b=some u)(d:o≠u):a≠b:=by
 intro e;subst e;rw[h]at h';exact d (u0f h')
theorem zm {H:Hp}{a b:Addr}{o:HO}(h:H a=some o)(h':H b=none):a≠b:=by
 intro e;subst e;rw[h]at h';cases h'
section
variable (P:Program)(w:World)
def yo (H:Hp)(h:Heap)(a:Addr):HO->Prop
 | .lst xs=>xs.length<=sizeLine/\∃ (its:List Value) (n:Nat),zU xs its/\h.get? a=some { cls:=.type "list",data:=.seq its.toArray n }
 | .tup xs=>xs.length<=sizeLine/\∃ its:List Value,zU xs its/\IsTup h a its.toArray
 | .dK kvs=>kvs.length<=sizeLine/\(a == sysModules)=false/\∃ vs,KV kvs vs/\h.DictOf (yW P w) a vs
 | .dT kvs=>kvs.length<=sizeLine/\(a == sysModules)=false/\∃ xs:List (List Key × Addr × Value),
  Paired (λ(p:List Key × V) (q:List Key × Addr × Value)=>p.1=q.1/\H q.2.1=some (.tup (p.1.map kV))/\yA p.2 q.2.2) kvs xs /\
  ∃ o es ep,h.get? a=some o/\o.ExactDict/\o.data=.dict es ep/\es.toList=xs.map (entryOfKey (tupleKind (yW P w)))/\(xs.map (·.1)).Nodup
 | .set S n=>h.SetOf (intKind P w) a S n
 | .ins C dx fs=>H dx=some (.own a)/\fs.length<=1000/\dx≠a/\h.get? a=some (W.instObj C dx) /\
  ∃ mA,h.Ns1 dx mA/\(∀ f,zjt (fs.lookup f) (mA f))/\PySem.Within mA (fs.map (·.1))
 | .own _=>∃ o,h.get? a=some o
 | .xd fs=>∃ mA,h.Ns1 a mA/\∀ f,zjt (fs.lookup f) (mA f)
 | .rng lo hi=>∃ t u v,h.get? a=some { cls:=.type "range",data:=.fields #[.int lo t,.int hi u,.int 1 v] }
 | .frz o u=>h.get? a=some o/\yo H h a u
 | .tbl ps=>∃ qs:Array Value,h.get? a=some { cls:=.none,data:=.fields qs }/\TriplesOk qs.toList/\∀ pos c,codeAmong pos qs.toList=some c->∃ ca oc vs q t t2,c=.ref ca/\H ca=some (.frz oc (.own a))/\oc.data=.fields vs/\vs[1]?=some (.str q t)/\ps[0]?=some (.str q t2)
 | .met f x=>h.get? a=some (W.methodObj (.ref f) (.ref x))
 | .ext φ=>φ h/\(∃ o,h.get? a=some o)/\∀ h1 h2:Heap,φ h1->(∀ o,h1.get? a=some o->h2.get? a=some o)->φ h2
def HOk (H:Hp)(h:Heap):Prop:=∀ a o,H a=some o->yo P w H h a o
end
section
variable {P:Program}{w:World}{H H':Hp}{h h':Heap}{a:Addr}{o:HO}
theorem yo.lt (x:yo P w H h a o):a < h.objs.size:=by
 cases o with
 | lst xs=>obtain⟨_,_,_,_,e⟩:=x;exact r6 e
 | tup xs=>obtain⟨_,_,_,p⟩:=x;exact p.lt
 | dK kvs=>obtain⟨_,_,_,_,o,_,_,e,_⟩:=x;exact r6 e
 | dT kvs=>obtain⟨_,_,_,_,o,_,_,e,_⟩:=x;exact r6 e
 | set S n=>obtain⟨o,_,_,_,e,_⟩:=x;exact r6 e
 | ins C dx fs=>obtain⟨_,_,_,e,_⟩:=x;exact r6 e
 | own y=>obtain⟨_,e⟩:=x;exact r6 e
 | xd fs=>obtain⟨_,⟨_,_,_,e,_⟩,_⟩:=x;exact r6 e
 | rng lo hi=>obtain⟨_,_,_,e⟩:=x;exact r6 e
 | frz ob u=>obtain⟨e,_⟩:=x;exact r6 e
 | tbl ps=>obtain⟨_,e,_⟩:=x;exact r6 e
 | met f y=>exact r6 (show h.get? a=some _ from x)
 | ext φ=>obtain⟨_,⟨_,e⟩,_⟩:=x;exact r6 e
theorem Paired.mapP {α β:Type}{F G:α->β->Prop}:∀ {l₁:List α} {l₂:List β},Paired F l₁ l₂->(∀ a b,F a b->G a b)->Paired G l₁ l₂:=by
 intro l1 l2 h f
 induction h with
 | nil=>exact .nil
 | cons r t ih=>exact .cons (f _ _ r) ih
theorem yo.stay (x:yo P w H h a o)(k:∀ b u,(b=a\/H b=some (.own a))->h.get? b=some u->h'.get? b=some u)
 (ho:∀ b,H b=some (.own a)->H' b=some (.own a)) (ht:∀ b xs,H b=some (.tup xs)->H' b=some (.tup xs)) (hz:∀ b o u,H b=some (.frz o u)->H' b=some (.frz o u):=by(intro b ob u q;first | exact q | (rw[zo (zm q (by assumption))];exact q) | (rw[zo (λz=>by subst z;have mm:=‹Mut _›;rw[q]at mm;exact mm)];exact q))):yo P w H' h' a o:=by
 induction o with
 | lst xs=>obtain⟨z,its,n,r,e⟩:=x;exact⟨z,its,n,r,k _ _ (.inl rfl) e⟩
 | tup xs=>obtain⟨z,its,r,ob,e,c⟩:=x;exact⟨z,its,r,ob,k _ _ (.inl rfl) e,c⟩
 | dK kvs=>obtain⟨z,y,vs,r,ob,es,ep,e,c⟩:=x;exact⟨z,y,vs,r,ob,es,ep,k _ _ (.inl rfl) e,c⟩
 | dT kvs =>
  obtain⟨z,y,xs,r,ob,es,ep,e,c⟩:=x
  exact⟨z,y,xs,Paired.mapP r λp q z=>⟨z.1,ht _ _ z.2.1,z.2.2⟩,ob,es,ep,k _ _ (.inl rfl) e,c⟩
 | set S n=>obtain⟨ob,es,ep,t,e,c⟩:=x;exact⟨ob,es,ep,t,k _ _ (.inl rfl) e,c⟩
 | ins C dx fs =>
  obtain⟨d,z,ne,e,mA,⟨od,es,ep,e2,c⟩,r⟩:=x
  exact⟨ho _ d,z,ne,k _ _ (.inl rfl) e,mA,⟨od,es,ep,k _ _ (.inr d) e2,c⟩,r⟩
 | own y=>obtain⟨ob,e⟩:=x;exact⟨ob,k _ _ (.inl rfl) e⟩
 | xd fs=>obtain⟨mA,⟨od,es,ep,e,c⟩,r⟩:=x;exact⟨mA,⟨od,es,ep,k _ _ (.inl rfl) e,c⟩,r⟩
 | rng lo hi=>obtain⟨t,u,v,e⟩:=x;exact⟨t,u,v,k _ _ (.inl rfl) e⟩
 | frz ob u ih=>obtain⟨e,q⟩:=x;exact⟨k _ _ (.inl rfl) e,ih q⟩
 | tbl ps =>
  obtain⟨qs,e,tr,q⟩:=x
  refine⟨qs,k a _ (.inl rfl) e,tr,λpos c hc=>?_⟩
  obtain⟨ca,oc,vs,qn,t,t2,ec,ow,r⟩:=q pos c hc
  exact⟨ca,oc,vs,qn,t,t2,ec,hz _ _ _ ow,r⟩
 | met f y =>
  have e:h.get? a=some (W.methodObj (.ref f) (.ref y)):=x
  show h'.get? a=some (W.methodObj (.ref f) (.ref y))
  exact k a _ (.inl rfl) e
 | ext φ=>obtain⟨p,⟨o,e⟩,st⟩:=x;exact⟨st _ _ p λo q=>k _ _ (.inl rfl) q,⟨o,k _ _ (.inl rfl) e⟩,st⟩
theorem HOk.lt (x:HOk P w H h)(e:H a=some o):a < h.objs.size:=(x a o e).lt
theorem HOk.fresh (x:HOk P w H h)(e:h.objs.size<=a):H a=none:=by
 cases q:H a with
 | none=>rfl
 | some u=>exact absurd (o0 (x.lt q) e) (u09 _)
theorem HOk.kept (x:HOk P w H h)(k:∀ b u,h.get? b=some u->h'.get? b=some u):HOk P w H h':=λa o e =>
 (x a o e).stay (λb u _ q=>k b u q) (λ_ q=>q) λ_ _ q=>q
theorem HOk.laid (x:HOk P w H h)(k:∀ b u,h.get? b=some u->h'.get? b=some u)(hp:h.objs.size<=a)(new:yo P w (upd H a o) h' a o):HOk P w (upd H a o) h':=λb u e=>by
 have hn:=x.fresh hp
 by_cases hb:b=a
 .subst hb;rw[zp]at e;cases e;exact new
 .rw[zo hb]at e
  exact(x b u e).stay (λc v _ q=>k c v q) (λc q=>by rw[zo (zm q hn)];exact q) λc xs q=>by rw[zo (zm q hn)];exact q
end
def Rd (H:Hp)(a:Addr)(u:HO):Prop:=H a=some u\/∃ o,H a=some (.frz o u)
theorem Rd.ok {P:Program}{w:World}{H:Hp}{h:Heap}{a:Addr}{u:HO}(r:Rd H a u)(x:HOk P w H h):yo P w H h a u:=by
 rcases r with r | ⟨o,r⟩
 .exact x a u r
 .obtain⟨_,q⟩:=x a _ r
  exact q
def Mut:Option HO->Prop
 | some (.lst _)=>True
 | some (.dK _)=>True
 | some (.dT _)=>True
 | some (.set _ _)=>True
 | some (.ins _ _ _)=>True
 | some (.ext _)=>True
 | _=>False
section
variable {P:Program}{w:World}{H:Hp}{h h':Heap}{x e:Addr}{o':HO}
theorem HOk.write (ok:HOk P w H h)(mu:Mut (H x))(he:e=x\/H e=some (.own x))(k:∀ b u,b≠e->h.get? b=some u->h'.get? b=some u)(heo:∃ u,h'.get? e=some u)
 (new:yo P w (upd H x o') h' x o'):HOk P w (upd H x o') h':=λb u q=>by
 have nown:∀ c y,H c=some (.own y)->c≠x:=λc y r z=>by subst z;rw[r]at mu;exact mu
 have ntup:∀ c xs,H c=some (.tup xs)->c≠x:=λc xs r z=>by subst z;rw[r]at mu;exact mu
 by_cases hb:b=x
 .subst hb;rw[zp]at q;cases q;exact new
 .rw[zo hb]at q
  by_cases hbe:b=e
  .have q':H b=some (.own x):=by
    rcases he with z | z
    .exact absurd (hbe.trans z) hb
    .rw[hbe];exact z
   rw[q]at q';cases q'
   obtain⟨v,hv⟩:=heo
   exact⟨v,by rw[hbe];exact hv⟩
  .refine(ok b u q).stay (λc v hc r=>k c v ?_ r) (λc r=>by rw[zo (nown c b r)];exact r) λc xs r=>by rw[zo (ntup c xs r)];exact r
   rcases hc with rfl | hc
   .exact hbe
   .rintro rfl
    rcases he with z | z
    .exact nown c b hc z
    .rw[hc]at z;cases z;exact hb rfl
end
structure Un (fs ex:List Addr) (H H':Hp) (h h':Heap):Prop where
 keep:∀ b o,h.get? b=some o->H b=none->b∉fs->b∉ex->h'.get? b=some o
 slot:∀ b o,h.get? b=some o->H b=none->b∈fs->b∉ex->∃ sl,h'.get? b=some { o with slots:=sl }
 free:∀ b o,h.get? b=some o->H b=none->b∉ex->H' b=none
 there:∀ b o,h.get? b=some o->b∉ex->∃ o',h'.get? b=some o'
 tups:∀ b xs,H b=some (.tup xs)->H' b=some (.tup xs)
 frzs:∀ b o u,H b=some (.frz o u)->H' b=some (.frz o u)
 tbls:∀ b ps,H b=some (.tbl ps)->H' b=some (.tbl ps)
section
variable {fs fs' ex ex':List Addr}{H H1 H2:Hp}{h h1 h2 h':Heap}{a x e:Addr}{o:HO}
theorem Un.any (u:Un fs ex H H1 h h1){b:Addr}{ob:Obj}(q:h.get? b=some ob)(n:H b=none)(hx:b∉ex):∃ sl,h1.get? b=some { ob with slots:=sl }:=by
 by_cases hb:b∈fs
 .exact u.slot b ob q n hb hx
 .exact⟨ob.slots,u.keep b ob q n hb hx⟩
theorem Un.kept (k:∀ b u,h.get? b=some u->h'.get? b=some u):Un fs ex H H h h' :=
 ⟨λb ob q _ _ _=>k b ob q,λb ob q _ _ _=>⟨ob.slots,k b ob q⟩,λ_ _ _ n _=>n,λb ob q _=>⟨ob,k b ob q⟩,λ_ _ q=>q,λ_ _ _ q=>q,λ_ _ q=>q⟩
theorem Un.refl:Un fs ex H H h h:=Un.kept λ_ _ q=>q
theorem Un.laid (k:∀ b u,h.get? b=some u->h'.get? b=some u)(hp:h.objs.size<=a)(hn:H a=none):Un fs ex H (upd H a o) h h' where
 keep:=λb u q _ _ _=>k b u q
 slot:=λb u q _ _ _=>⟨u.slots,k b u q⟩
 free:=λb u q n _=>by rw[zo (p5 (o0 (r6 q) hp))];exact n
 there:=λb u q _=>⟨u,k b u q⟩
 tups:=λb xs q=>by rw[zo (zm q hn)];exact q
 frzs:=λb u xs q=>by rw[zo (zm q hn)];exact q
 tbls:=λb ps q=>by rw[zo (zm q hn)];exact q
theorem Un.write (mu:Mut (H x))(he:e=x\/H e=some (.own x))(k:∀ b u,b≠e->h.get? b=some u->h'.get? b=some u)(heo:∃ u,h'.get? e=some u):Un fs ex H (upd H x o) h h':=by
 have hx:∀ b,H b=none->b≠x:=λb n z=>by subst z;rw[n]at mu;exact mu
 have hb:∀ b,H b=none->b≠e:=λb n z=>by
  subst z
  rcases he with r | r
  .exact hx b n r
  .rw[n]at r;cases r
 have hm:∀ b u,H b=some u->¬ Mut (some u)->b≠x:=λb u q nm z=>by subst z;rw[q]at mu;exact nm mu
 refine⟨λb u q n _ _=>k b u (hb b n) q,λb u q n _ _=>⟨u.slots,k b u (hb b n) q⟩,λb u q n _=>by rw[zo (hx b n)];exact n,λb u q _=>?_,
  λb xs q=>by rw[zo (hm b _ q λz=>z)];exact q,λb u xs q=>by rw[zo (hm b _ q λz=>z)];exact q,λb ps q=>by rw[zo (hm b _ q λz=>z)];exact q⟩
 by_cases hbe:b=e
 .subst hbe;exact heo
 .exact⟨u,k b u hbe q⟩
end
def trk (h:Heap)(H:Hp):List Addr:=(List.range h.objs.size).filter λa=>(H a).isSome
def zdG (h:Heap)(H:Hp):Heap:=W.hideAll h (trk h H)
theorem V3 (h:Heap)(H:Hp):(zdG h H).objs.size=h.objs.size:=W.hideAll_size _ _
theorem zgB {h:Heap}{H:Hp}{b:Addr}{o:Obj}(e:h.get? b=some o)(n:H b=none):(zdG h H).get? b=some o :=
 W.hideAll_get _ e λhm=>by
  have q:(H b).isSome=true:=(u0K.mp hm).2
  rw[n]at q;simp at q
theorem zjA {h:Heap}{H:Hp}{b:Addr}{o:Obj}(e:(zdG h H).get? b=some o):h.get? b=some o/\H b=none:=by
 have e':h.get? b=some o:=W.of_hideAll (trk h H) e
 refine⟨e',?_⟩
 cases q:H b with
 | none=>rfl
 | some x =>
  have hm:b∈trk h H:=u0K.mpr ⟨i5.mpr (r6 e'),by simp[q]⟩
  have z:(zdG h H).get? b=none:=W.hideAll_none (trk h H) hm
  rw[z]at e;cases e
def zjl (g h:Heap)(L:Addr):List (Addr × Obj):=(List.range h.objs.size).filterMap λa=>if a=L\/(g.get? a).isSome=true then none else (h.get? a).map λo=>(a,o)
def rest (g h:Heap)(L d:Addr):List (Addr × Obj):=(zjl g h L).filter λp=>decide (p.1≠d)
structure Mod (K:W.Frag) (mg:Str->Option Value) (base:Heap):Prop where
 kin:K.In base
 glob:base.Ns mainGlobals mg
 blt:∃ mb,base.Ns builtinsNs mb/\∀ x:Str,x≠"__name__"->mb x=bootBuiltins x
 nolimit:base.NoLimit
def Yb (q:Str):Obj:={ cls:=.str q 0,data:=.freed }
def Bs (base h:Heap)(H:Hp):Prop:=(∀ b o,base.get? b=some o->h.get? b=some o/\H b=none)/\∀ P q,base.objs[P]?=some (Yb q)->H P=some (.tbl #[.str q 0])
structure Cx where
 prog:Program
 w:World
 K:W.Frag
 mg:Str->Option Value
 base:Heap
 A:Around
 N:List Str
 s₀:Shared
 H₀:Hp
 env:Env
 outer:List Env
 stack:List Env
 ex:List Addr
 fn:Str->Bool
 calm:Bool
 pn:List (Addr × Obj)
 xe:Value->Shared->Prop
def frs (l:List Env):List Addr:=l.filterMap (·.frame)
abbrev Cx.fs (X:Cx):List Addr:=frs X.outer
def Vis (sc:Scope)(x:Str):Prop:=sc.names.lookup x=some .local\/sc.names.lookup x=some .cell\/sc.names.lookup x=some .free
def Loc (sc:Scope)(x:Str):Prop:=sc.names.lookup x=some .local\/sc.names.lookup x=some .cell
def Look (env:Env)(h:Heap)(m:Str->Option Value)(x:Str)(u:Value):Prop :=
 (env.kindOf x=some .local/\m x=some u)\/((env.kindOf x=some .cell\/env.kindOf x=some .free)/\∃ c,env.cells.lookup x=some c/\h.IsCell c (some u))
structure Cx.Ok (X:Cx):Prop where
 mod:Mod X.K X.mg X.base
 kind:X.env.scope.kind=.function
 glob:X.env.globals=mainGlobals
 blt:X.env.builtins=builtinsNs
 above:X.s₀.heap.objs.size<=X.env.locals
 inj:∀ x y c,X.env.cells.lookup x=some c->X.env.cells.lookup y=some c->x=y
 has:∀ x,(X.env.kindOf x=some .cell\/X.env.kindOf x=some .free)->∃ c,X.env.cells.lookup x=some c
 cab:∀ x c,X.fn x=true->X.env.cells.lookup x=some c->X.s₀.heap.objs.size<=c
 hd:X.calm=true->X.A.handled=none
 frames:X.A.frames=some X.stack
 stk:X.stack=X.outer\/(X.stack=X.env::X.outer/\X.env.frame=some X.env.locals)
 exf:∀ b∈X.ex,b≠X.env.locals/\∀ x c,X.env.cells.lookup x=some c->c≠b
 bs:Bs X.base X.s₀.heap X.H₀
 bsz:X.base.objs.size<=X.s₀.heap.objs.size
 noex:∀ b o,X.base.get? b=some o->b∉X.ex
 exfs:∀ b∈X.ex,b∉X.fs
 funs:X.s₀.heap.FunFrames X.base X.outer
 frf:∀ b∈X.fs,X.H₀ b=none
structure Inv (X:Cx) (pins:List (Addr × Obj)) (σ:List (Option V)) (H:Hp) (s:Shared):Prop where
 ok:X.Ok
 os:s.os=X.s₀.os
 bare:AllBare s.gens
 base:Un X.fs X.ex X.H₀ H X.s₀.heap s.heap
 loc:∃ m,s.heap.Ns X.env.locals m/\∀ (i:Nat) (x:Str) (v:V),X.N[i]?=some x->σ[i]?=some (some v)->Vis X.env.scope x->∃ u,yA v u/\Look X.env s.heap m x u
 cell:∀ x c,X.env.cells.lookup x=some c->∃ v,s.heap.IsCell c v
 free:H X.env.locals=none
 freeC:∀ x c,X.env.cells.lookup x=some c->H c=none
 pin:∀ p∈X.pn++pins,s.heap.get? p.1=some p.2/\H p.1=none/\p.1≠X.env.locals/\p.1∉X.fs/\∀ v,p.2.data≠.cell v
 hok:HOk X.prog X.w H s.heap
 len:σ.length=X.N.length
section
variable {X:Cx}{pins:List (Addr × Obj)}{σ:List (Option V)}{H H':Hp}{s:Shared}{h':Heap}
theorem Cx.Ok.nofr (ok:X.Ok){b:Addr}{o:Obj}(e:X.base.get? b=some o):b∉X.fs:=λhb=>by
 have:=(ok.funs.mem hb).1
 rw[e]at this;cases this
theorem Inv.bs (I:Inv X pins σ H s):Bs X.base s.heap H:=⟨λb o e =>
 ⟨I.base.keep b o (I.ok.bs.1 b o e).1 (I.ok.bs.1 b o e).2 (I.ok.nofr e) (I.ok.noex b o e),I.base.free b o (I.ok.bs.1 b o e).1 (I.ok.bs.1 b o e).2 (I.ok.noex b o e)⟩,λP q e=>I.base.tbls _ _ (I.ok.bs.2 P q e)⟩
theorem Inv.bk (I:Inv X pins σ H s):∀ b o,X.base.get? b=some o->s.heap.get? b=some o:=λb o e=>(I.bs.1 b o e).1
theorem Inv.mod (I:Inv X pins σ H s):Mod X.K X.mg X.base:=I.ok.mod
theorem Inv.kIn (I:Inv X pins σ H s):X.K.In s.heap:=I.ok.mod.kin.keeps I.bk
theorem Inv.nolimit (I:Inv X pins σ H s):s.heap.NoLimit:=I.ok.mod.nolimit.keeps I.bk
theorem Inv.fr (I:Inv X pins σ H s):∃ m,Fr X.base X.env.locals s.heap m :=
 let ⟨m,hn,_⟩:=I.loc
 ⟨m,hn,I.bk,u0t I.ok.bsz I.ok.above⟩
theorem Inv.lt (I:Inv X pins σ H s):X.env.locals < s.heap.objs.size:=let ⟨_,hn,_⟩:=I.loc;hn.lt
theorem Inv.sz (I:Inv X pins σ H s):X.s₀.heap.objs.size<=s.heap.objs.size:=u0t I.ok.above (u1u I.lt)
theorem Inv.nofs (I:Inv X pins σ H s){a:Addr}(h:s.heap.objs.size<=a):a∉X.fs:=λhb=>by
 obtain⟨_,o,ho,_⟩:=I.ok.funs.mem hb
 exact absurd (o0 (r6 ho) (u0t I.sz h)) (u09 _)
theorem Inv.cne (I:Inv X pins σ H s):∀ x c,X.env.cells.lookup x=some c->c≠X.env.locals:=λx c e z=>by
 obtain⟨v,o,ho,hd⟩:=I.cell x c e
 obtain⟨m,⟨o',es,ep,ho',hd',_⟩,_⟩:=I.loc
 rw[z,ho']at ho;cases ho;rw[hd']at hd;cases hd
theorem Inv.funs (I:Inv X pins σ H s):s.heap.FunFrames X.base X.outer:=by
 have all:∀ (l:List Env),(∀ b∈frs l,b∈X.fs)->X.s₀.heap.FunFrames X.base l->s.heap.FunFrames X.base l:=by
  intro l
  induction l with
  | nil=>intro _ _;trivial
  | cons env r ih =>
   intro hs hl
   obtain⟨hk,⟨L,o,hf,hn,ho,hd⟩,hr⟩:=hl
   have hL:L∈X.fs:=hs L (by unfold frs;rw[u2M,hf];exact m7)
   obtain⟨sl,e⟩:=I.base.slot L o ho (I.ok.frf L hL) hL λz=>I.ok.exfs L z hL
   exact⟨hk,⟨L,_,hf,hn,e,hd⟩,ih (λb hb=>hs b (by unfold frs;rw[u2M,hf];exact b8 _ hb)) hr⟩
 exact all X.outer (λ_ hb=>hb) I.ok.funs
theorem Inv.stack (I:Inv X pins σ H s):s.heap.FunFrames X.base X.stack:=by
 rcases I.ok.stk with e | ⟨e,hf⟩
 .rw[e];exact I.funs
 .rw[e]
  obtain⟨m,hn,_⟩:=I.loc
  refine .cons (by rw[I.ok.kind];decide) hf hn ?_ I.funs
  exact Heap.get?_none_of_le (u0t I.ok.bsz I.ok.above)
theorem Inv.stkSub (I:Inv X pins σ H s):∀ b∈frs X.stack,b∈X.env.locals::X.fs:=λb hb=>by
 rcases I.ok.stk with e | ⟨e,hf⟩
 .rw[e]at hb;exact b8 _ hb
 .rw[e]at hb
  unfold frs at hb
  rw[u2M,hf]at hb
  exact hb
theorem Inv.stkFree (I:Inv X pins σ H s):∀ b∈frs X.stack,H b=none:=λb hb=>by
 rcases d7.mp (I.stkSub b hb)with e | hb
 .rw[e];exact I.free
 .obtain⟨_,o,ho,_⟩:=I.ok.funs.mem hb
  exact I.base.free b o ho (I.ok.frf b hb) λz=>I.ok.exfs b z hb
theorem Inv.step {g':Array GenState}{t':Nat}{d':Drawn}{ch:List Addr}(I:Inv X pins σ H s)
 (hch:∀ b∈ch,(b∈X.ex\/X.s₀.heap.objs.size<=b)/\b≠X.env.locals/\(∀ x c,X.env.cells.lookup x=some c->c≠b)/\∀ p∈X.pn++pins,p.1≠b)
 (keep:∀ b o,b≠X.env.locals->b∉X.fs->b∉ch->s.heap.get? b=some o->H b=none->h'.get? b=some o)
 (slot:∀ b o,b≠X.env.locals->b∈X.fs->b∉ch->s.heap.get? b=some o->H b=none->∃ sl,h'.get? b=some { o with slots:=sl }) (free:∀ b o,b∉ch->s.heap.get? b=some o->H b=none->H' b=none)
 (there:∀ b o,b∉ch->s.heap.get? b=some o->∃ o',h'.get? b=some o')
 (tups:∀ b xs,H b=some (.tup xs)->H' b=some (.tup xs)) (frzs:∀ b o u,H b=some (.frz o u)->H' b=some (.frz o u)) (tbls:∀ b ps,H b=some (.tbl ps)->H' b=some (.tbl ps))
 (ns:∀ m,s.heap.Ns X.env.locals m->h'.Ns X.env.locals m) (hok:HOk X.prog X.w H' h') (hg:AllBare g') :
 Inv X pins σ H' { s with heap:=h',gens:=g',drawn:=d',toks:=t' }:=by
 have neL:∀ b o,X.s₀.heap.get? b=some o->b≠X.env.locals:=λb o e=>p5 (o0 (r6 e) I.ok.above)
 have neC:∀ b o,X.s₀.heap.get? b=some o->b∉X.ex->b∉ch:=λb o e hx hb=>by
  rcases(hch b hb).1 with z | z
  .exact hx z
  .exact absurd (o0 (r6 e) z) (u09 _)
 have cellK:∀ x c,X.env.cells.lookup x=some c->∀ v,s.heap.IsCell c v->h'.IsCell c v:=λx c e v ⟨o,ho,hd⟩=>by
  have nch:c∉ch:=λz=>(hch c z).2.2.1 x c e rfl
  by_cases hc:c∈X.fs
  .obtain⟨sl,q⟩:=slot c o (I.cne x c e) hc nch ho (I.freeC x c e)
   exact⟨_,q,hd⟩
  .exact⟨o,keep c o (I.cne x c e) hc nch ho (I.freeC x c e),hd⟩
 refine⟨I.ok,I.os,hg,⟨λb o e n hb hx=>?_,λb o e n hb hx=>?_,λb o e n hx=>?_,λb o e hx=>?_,λb xs e=>tups b xs (I.base.tups b xs e),λb o xs e=>frzs b o xs (I.base.frzs b o xs e),λb ps e=>?_⟩,?_,λx c e=>?_,?_,λx c e=>?_,λp hp=>?_,hok,I.len⟩
 .exact keep b o (neL b o e) hb (neC b o e hx) (I.base.keep b o e n hb hx) (I.base.free b o e n hx)
 .obtain⟨sl,e1⟩:=I.base.slot b o e n hb hx
  obtain⟨sl',e2⟩:=slot b _ (neL b o e) hb (neC b o e hx) e1 (I.base.free b o e n hx)
  exact⟨sl',e2⟩
 .obtain⟨o',e1⟩:=I.base.there b o e hx
  exact free b o' (neC b o e hx) e1 (I.base.free b o e n hx)
 .obtain⟨o',e1⟩:=I.base.there b o e hx
  exact there b o' (neC b o e hx) e1
 .exact tbls b _ (I.base.tbls b ps e)
 .obtain⟨m,hn,hl⟩:=I.loc
  refine⟨m,ns m hn,λi x v e1 e2 e3=>?_⟩
  obtain⟨u,r,l⟩:=hl i x v e1 e2 e3
  refine⟨u,r,?_⟩
  rcases l with l | ⟨k,c,e,z⟩
  .exact .inl l
  .exact .inr ⟨k,c,e,cellK x c e _ z⟩
 .obtain⟨v,z⟩:=I.cell x c e
  exact⟨v,cellK x c e v z⟩
 .obtain⟨m,⟨o,_,_,ho,_⟩,_⟩:=I.loc
  exact free _ o (λz=>(hch _ z).2.1 rfl) ho I.free
 .obtain⟨v,o,ho,hd⟩:=I.cell x c e
  exact free c o (λz=>(hch c z).2.2.1 x c e rfl) ho (I.freeC x c e)
 .obtain⟨e,n,ne,nf,d⟩:=I.pin p hp
  have nch:p.1∉ch:=λz=>(hch p.1 z).2.2.2 p hp rfl
  exact⟨keep p.1 p.2 ne nf nch e n,free p.1 p.2 nch e n,ne,nf,d⟩
theorem Inv.un {t':Nat}(I:Inv X pins σ H s)(u:Un X.fs [] H H' s.heap h')(hok:HOk X.prog X.w H' h'):Inv X pins σ H' { s with heap:=h',toks:=t' }:=by
 obtain⟨m,⟨o,es,ep,ho,r⟩,_⟩:=id I.loc
 obtain⟨sl,hL⟩:=u.any ho I.free (by simp)
 exact I.step (g':=s.gens) (d':=s.drawn) (ch:=[]) (λ_ z=>nomatch z) (λb o _ hb _ e n=>u.keep b o e n hb (by simp)) (λb o _ hb _ e n=>u.slot b o e n hb (by simp)) (λb o _ e n=>u.free b o e n (by simp)) (λb o _ e=>u.there b o e (by simp)) u.tups u.frzs u.tbls (λm' hm=>by
  obtain⟨o',es',ep',ho',r'⟩:=hm
  rw[ho]at ho';cases ho'
  exact⟨_,es',ep',hL,r'⟩) hok I.bare
theorem Inv.call {g':Array GenState}{t':Nat}{d':Drawn}{ch:List Addr}(I:Inv X pins σ H s)(u:Un (frs X.stack) ch H H' s.heap h')(hok:HOk X.prog X.w H' h')(hg:AllBare g')
 (hch:∀ b∈ch,(b∈X.ex\/X.s₀.heap.objs.size<=b)/\b≠X.env.locals/\(∀ x c,X.env.cells.lookup x=some c->c≠b)/\∀ p∈X.pn++pins,p.1≠b) :
 Inv X pins σ H' { s with heap:=h',gens:=g',drawn:=d',toks:=t' }:=by
 obtain⟨m,⟨o,es,ep,ho,r⟩,_⟩:=id I.loc
 obtain⟨sl,hL⟩:=u.any ho I.free λz=>(hch _ z).2.1 rfl
 exact I.step (ch:=ch) hch (λb o hL hb hc e n=>u.keep b o e n (λz=>(d7.mp (I.stkSub b z)).elim hL hb) hc) (λb o _ _ hc e n=>u.any e n hc) (λb o hc e n=>u.free b o e n hc) (λb o hc e=>u.there b o e hc) u.tups u.frzs u.tbls (λm' hm=>by
  obtain⟨o',es',ep',ho',r'⟩:=hm
  rw[ho]at ho';cases ho'
  exact⟨_,es',ep',hL,r'⟩) hok hg
theorem Inv.turned {t':Nat}{it:Addr}(I:Inv X pins σ H s)(k:∀ b o,b≠it->s.heap.get? b=some o->h'.get? b=some o)(hn:H it=none)(hL:it≠X.env.locals)
 (h1:it∈X.ex\/X.s₀.heap.objs.size<=it) (h2:∀ x c,X.env.cells.lookup x=some c->c≠it) (h3:∀ p∈X.pn++pins,p.1≠it):Inv X pins σ H { s with heap:=h',toks:=t' }:=by
 have nit:∀ b u,H b=some u->b≠it:=λb u e z=>by rw[z,hn]at e;cases e
 refine I.step (g':=s.gens) (d':=s.drawn) (ch:=[it]) (λb hb=>?_) (λb o _ _ hc e _=>k b o (λz=>hc (by simp[z])) e) (λb o _ _ hc e _=>⟨o.slots,k b o (λz=>hc (by simp[z])) e⟩) (λ_ _ _ _ n=>n)
  (λb o hc e=>⟨o,k b o (λz=>hc (by simp[z])) e⟩) (λ_ _ e=>e) (λ_ _ _ e=>e) (λ_ _ e=>e) (λm hm=>?_) (λb u e=>?_) I.bare
 .have e:b=it:=by simpa using hb
  subst e
  exact⟨h1,hL,h2,h3⟩
 .obtain⟨o,es,ep,ho,r⟩:=hm
  exact⟨o,es,ep,k _ o (u1Q hL) ho,r⟩
 .refine(I.hok b u e).stay (λc v hc q=>k c v ?_ q) (λ_ q=>q) λ_ _ q=>q
  rcases hc with z | z
  .rw[z];exact nit b u e
  .exact nit c _ z
theorem Inv.tok (I:Inv X pins σ H s)(t:Nat):Inv X pins σ H { s with toks:=t }:=I.un (h':=s.heap) (t':=t) Un.refl I.hok
theorem Inv.kept {t':Nat}(I:Inv X pins σ H s)(k:∀ b u,s.heap.get? b=some u->h'.get? b=some u):Inv X pins σ H { s with heap:=h',toks:=t' }:=I.un (Un.kept k) (I.hok.kept k)
theorem Inv.laid {a:Addr}{o:HO}{t':Nat}(I:Inv X pins σ H s)(k:∀ b u,s.heap.get? b=some u->h'.get? b=some u)(hp:s.heap.objs.size<=a)(new:yo X.prog X.w (upd H a o) h' a o) :
 Inv X pins σ (upd H a o) { s with heap:=h',toks:=t' }:=I.un (Un.laid k hp (I.hok.fresh hp)) (I.hok.laid k hp new)
theorem Inv.write {x e:Addr}{o:HO}{t':Nat}(I:Inv X pins σ H s)(mu:Mut (H x))(he:e=x\/H e=some (.own x))(k:∀ b u,b≠e->s.heap.get? b=some u->h'.get? b=some u)(heo:∃ u,h'.get? e=some u)
 (new:yo X.prog X.w (upd H x o) h' x o):Inv X pins σ (upd H x o) { s with heap:=h',toks:=t' }:=I.un (Un.write mu he k heo) (I.hok.write mu he k heo new)
theorem Inv.weak {σ':List (Option V)}(I:Inv X pins σ H s)(hl:σ'.length=σ.length)(w:∀ (i:Nat) v,σ'[i]?=some (some v)->σ[i]?=some (some v)):Inv X pins σ' H s :=
 ⟨I.ok,I.os,I.bare,I.base,let ⟨m,hn,hl'⟩:=I.loc;⟨m,hn,λi x v e1 e2 e3=>hl' i x v e1 (w i v e2) e3⟩,I.cell,I.free,I.freeC,I.pin,I.hok,hl.trans I.len⟩
theorem Inv.pins_of {pins':List (Addr × Obj)}(I:Inv X pins σ H s)(h:∀ p∈pins',s.heap.get? p.1=some p.2/\H p.1=none/\p.1≠X.env.locals/\p.1∉X.fs/\∀ v,p.2.data≠.cell v):Inv X pins' σ H s :=
 ⟨I.ok,I.os,I.bare,I.base,I.loc,I.cell,I.free,I.freeC,λp hp=>(d9.mp hp).elim (λz=>I.pin p (u1O _ z)) (h p),I.hok,I.len⟩
theorem zb3 {N:List Str}(hN:N.Nodup){i j:Nat}{x:Str}(a:N[i]?=some x)(b:N[j]?=some x):i=j:=by
 obtain⟨h1,e1⟩:=t7.mp a
 obtain⟨h2,e2⟩:=t7.mp b
 exact(u2A hN).mp (e1.trans e2.symm)
theorem zec {M:Model}{A:Around}{E:Value->Shared->Prop}{i:Nat}{x:Str}{v:V}{u:Value}{Q:Unit->Shared->Prop}(I:Inv X pins σ H s)(hN:X.N.Nodup)(hi:X.N[i]?=some x)(hx:Loc X.env.scope x)(r:yA v u)
 (h:∀ s',Inv X pins (σ.set i (some v)) H s'->(∃ a,Heap.SameBut a s.heap s'.heap/\(a=X.env.locals\/X.env.cells.lookup x=some a))->Q () s') (hf:X.fn x=true\/X.env.scope.names.lookup x=some .local:=by first | exact .inl rfl | exact .inr rfl | assumption):wpAny M A (storeName X.env x u) Q E s:=by
 obtain⟨m,hn,hl⟩:=id I.loc
 have hcls:(X.env.scope.kind == .class||(X.env.scope.kind == .module&&X.env.locals != X.env.globals))=false:=by rw[I.ok.kind];rfl
 have hiσ:i < σ.length:=by rw[I.len];exact(t7.mp hi).1
 have cne:=I.cne
 have tracked:∀ {a:Addr} {h':Heap},(∃ o,s.heap.get? a=some o/\H a=none)->Heap.SameBut a s.heap h'->HOk X.prog X.w H h':=λ{a h'} ha hs b ob e=>by
  obtain⟨_,_,hfree⟩:=ha
  refine(I.hok b ob e).stay (λc w' hc q=>(hs.2 c ?_).trans q) (λ_ q=>q) λ_ _ q=>q
  rintro rfl
  rcases hc with rfl | hc
  .rw[hfree]at e;cases e
  .rw[hfree]at hc;cases hc
 rcases hx with hk | hk
 .refine wpAny_storeName_local hk hn (λh' hn' hs=>?_) hcls
  obtain⟨oL,_,_,hoL,_⟩:=id hn
  refine h _ ⟨I.ok,I.os,I.bare,⟨λb o e n hb hx=>?_,λb o e n hb hx=>?_,I.base.free,λb o e hx=>?_,I.base.tups,I.base.frzs,I.base.tbls⟩,⟨_,hn',λj y v' e1 e2 e3=>?_⟩,λy c e=>?_,I.free,I.freeC,λp hp=>?_,tracked ⟨oL,hoL,I.free⟩ hs,by simpa using I.len⟩ ⟨_,hs,.inl rfl⟩
  .exact(hs.2 b (p5 (o0 (r6 e) I.ok.above))).trans (I.base.keep b o e n hb hx)
  .obtain⟨sl,e1⟩:=I.base.slot b o e n hb hx
   exact⟨sl,(hs.2 b (p5 (o0 (r6 e) I.ok.above))).trans e1⟩
  .obtain⟨o',e1⟩:=I.base.there b o e hx
   exact⟨o',(hs.2 b (p5 (o0 (r6 e) I.ok.above))).trans e1⟩
  .by_cases hj:j=i
   .subst hj
    rw[hi]at e1;cases e1
    rw[u0i hiσ]at e2
    cases e2
    exact⟨u,r,.inl ⟨hk,by simp⟩⟩
   .rw[n9 (u1Q hj)]at e2
    obtain⟨u',r',q⟩:=hl j y v' e1 e2 e3
    refine⟨u',r',?_⟩
    rcases q with ⟨k,e⟩ | ⟨k,c,e,z⟩
    .refine .inl ⟨k,?_⟩
     have:y≠x:=λe=>hj (zb3 hN e1 (e ▸ hi))
     simp[this,e]
    .exact .inr ⟨k,c,e,z.sameBut hs (cne y c e)⟩
  .obtain⟨w',z⟩:=I.cell y c e
   exact⟨w',z.sameBut hs (cne y c e)⟩
  .obtain⟨e,n,ne,nf,d⟩:=I.pin p hp
   exact⟨(hs.2 p.1 ne).trans e,n,ne,nf,d⟩
 .have hfn:X.fn x=true:=by
   rcases hf with z | z
   .exact z
   .rw[z]at hk;cases hk
  obtain⟨c,hc⟩:=I.ok.has x (.inl hk)
  obtain⟨w',z⟩:=I.cell x c hc
  refine wpAny_storeName_cell I.ok.kind hk hc z (λh' hc' hs=>?_)
  obtain⟨oc,hoc,hocd⟩:=id z
  refine h { s with heap:=h' } ⟨I.ok,I.os,I.bare,⟨λb o e n hb hx=>?_,λb o e n hb hx=>?_,I.base.free,λb o e hx=>?_,I.base.tups,I.base.frzs,I.base.tbls⟩,⟨m,hn.sameBut hs (u1Q (cne x c hc)),λj y v' e1 e2 e3=>?_⟩,λy c' e=>?_,I.free,I.freeC,λp hp=>?_,tracked ⟨oc,hoc,I.freeC x c hc⟩ hs,by simpa using I.len⟩ ⟨c,hs,.inr hc⟩
  .exact(hs.2 b (p5 (o0 (r6 e) (I.ok.cab x c hfn hc)))).trans (I.base.keep b o e n hb hx)
  .obtain⟨sl,e1⟩:=I.base.slot b o e n hb hx
   exact⟨sl,(hs.2 b (p5 (o0 (r6 e) (I.ok.cab x c hfn hc)))).trans e1⟩
  .obtain⟨o',e1⟩:=I.base.there b o e hx
   exact⟨o',(hs.2 b (p5 (o0 (r6 e) (I.ok.cab x c hfn hc)))).trans e1⟩
  .by_cases hj:j=i
   .subst hj
    rw[hi]at e1;cases e1
    rw[u0i hiσ]at e2
    cases e2
    exact⟨u,r,.inr ⟨.inl hk,c,hc,hc'⟩⟩
   .rw[n9 (u1Q hj)]at e2
    obtain⟨u',r',q⟩:=hl j y v' e1 e2 e3
    refine⟨u',r',?_⟩
    rcases q with q | ⟨k,c',e,z'⟩
    .exact .inl q
    .refine .inr ⟨k,c',e,z'.sameBut hs ?_⟩
     rintro rfl
     exact hj (zb3 hN e1 (I.ok.inj _ _ _ e hc ▸ hi))
  .by_cases hcc:c'=c
   .subst hcc;exact⟨_,hc'⟩
   .obtain⟨w2,z2⟩:=I.cell y c' e
    exact⟨w2,z2.sameBut hs hcc⟩
  .obtain⟨e,n,ne,nf,d⟩:=I.pin p hp
   refine⟨(hs.2 p.1 ?_).trans e,n,ne,nf,d⟩
   intro q
   rw[q,hoc]at e
   have q':oc=p.2:=u0f e
   exact d w' (by rw[<-q'];exact hocd)
theorem zb8 {M:Model}{A:Around}{E:Value->Shared->Prop}{i:Nat}{x:Str}{v:V}{u:Value}{Q:Unit->Shared->Prop}(I:Inv X pins σ H s)(hN:X.N.Nodup)(hi:X.N[i]?=some x)(hx:Loc X.env.scope x)(r:yA v u)
 (h:∀ s',Inv X pins (σ.set i (some v)) H s'->Q () s') (hf:X.fn x=true\/X.env.scope.names.lookup x=some .local:=by first | exact .inl rfl | exact .inr rfl | assumption):wpAny M A (storeName X.env x u) Q E s :=
 zec I hN hi hx r (λs' I' _=>h s' I') hf
theorem Inv.call' {s':Shared}{ch:List Addr}(I:Inv X pins σ H s)(ho:s'.os=s.os)(u:Un (frs X.stack) ch H H' s.heap s'.heap)(hok:HOk X.prog X.w H' s'.heap)(hg:AllBare s'.gens)
 (hch:∀ b∈ch,(b∈X.ex\/X.s₀.heap.objs.size<=b)/\b≠X.env.locals/\(∀ x c,X.env.cells.lookup x=some c->c≠b)/\∀ p∈X.pn++pins,p.1≠b):Inv X pins σ H' s':=by
 obtain⟨h',g',d',t',o'⟩:=s'
 have e:o'=s.os:=ho
 subst e
 exact I.call (g':=g') (t':=t') (d':=d') u hok hg hch
end
abbrev XK:=Value->Option Addr->Hp->Prop
abbrev St:=List (Option V)
abbrev VK:=V->Hp->Prop
abbrev TE:=St->Hp->VK->Prop
abbrev TT:=St->Hp->(Bool->Hp->Prop)->Prop
abbrev TA:=St->Hp->(List V->Hp->Prop)->Prop
structure zh1 where
 nx:St->Hp->Prop
 rt:VK
 bk:St->Hp->Prop:=λ_ _=>False
 ct:St->Hp->Prop:=λ_ _=>False
abbrev TS:=zh1->St->Hp->Prop
def EP (X:Cx)(pins:List (Addr × Obj))(σ:St)(Q:VK)(u:Value)(s':Shared):Prop:=∃ v H',Inv X pins σ H' s'/\yA v u/\Q v H'
def TP (X:Cx)(pins:List (Addr × Obj))(σ:St)(Q:Bool->Hp->Prop)(b:Bool)(s':Shared):Prop:=∃ H',Inv X pins σ H' s'/\Q b H'
def AP (X:Cx)(pins:List (Addr × Obj))(σ:St)(Q:List V->Hp->Prop)(us:List Value)(s':Shared):Prop:=∃ vs H',Inv X pins σ H' s'/\zU vs us/\Q vs H'
def SP (X:Cx)(pins:List (Addr × Obj))(D:zh1)(f:Flow)(s':Shared):Prop :=
 match f with
 | .next=>∃ σ' H',Inv X pins σ' H' s'/\D.nx σ' H'
 | .brk=>∃ σ' H',Inv X pins σ' H' s'/\D.bk σ' H'
 | .cont=>∃ σ' H',Inv X pins σ' H' s'/\D.ct σ' H'
 | .ret u=>∃ v σ' H',Inv X pins σ' H' s'/\yA v u/\D.rt v H'
def PE (X:Cx)(e:Expr)(t:TE):Prop :=
 ∀ (pins:List (Addr × Obj)) (s:Shared) (σ:St) (H:Hp) (Q:VK),Inv X pins σ H s->t σ H Q->wpAny (model X.prog X.w) X.A (eval e X.env) (EP X pins σ Q) X.xe s
def PT (X:Cx)(e:Expr)(t:TT):Prop :=
 ∀ (pins:List (Addr × Obj)) (s:Shared) (σ:St) (H:Hp) (Q:Bool->Hp->Prop),Inv X pins σ H s->t σ H Q->wpAny (model X.prog X.w) X.A (isTrue e X.env (eval e X.env)) (TP X pins σ Q) X.xe s
def PW (X:Cx)(e:Expr)(t:TT):Prop :=
 ∀ (whole:Sem Value) (pins:List (Addr × Obj)) (s:Shared) (σ:St) (H:Hp) (Q:Bool->Hp->Prop),Inv X pins σ H s->t σ H Q->wpAny (model X.prog X.w) X.A (isTrue e X.env whole) (TP X pins σ Q) X.xe s
theorem PW.pt {X:Cx}{e:Expr}{t:TT}(h:PW X e t):PT X e t:=h _
def PA (X:Cx)(es:List Expr)(t:TA):Prop :=
 ∀ (pos:Pos) (pins:List (Addr × Obj)) (s:Shared) (σ:St) (H:Hp) (Q:List V->Hp->Prop),Inv X pins σ H s->t σ H Q->wpAny (model X.prog X.w) X.A (spliced (backTo pos (starEach es X.env))) (AP X pins σ Q) X.xe s
def PS (X:Cx)(st:Stmt)(t:TS):Prop :=
 ∀ (pins:List (Addr × Obj)) (s:Shared) (σ:St) (H:Hp) (D:zh1),Inv X pins σ H s->t D σ H->wpAny (model X.prog X.w) X.A (exec st X.env) (SP X pins D) X.xe s
def PSs (X:Cx)(st:List Stmt)(t:TS):Prop :=
 ∀ (pins:List (Addr × Obj)) (s:Shared) (σ:St) (H:Hp) (D:zh1),Inv X pins σ H s->t D σ H->wpAny (model X.prog X.w) X.A (execs st X.env) (SP X pins D) X.xe s
theorem thn {α:Type}{t:Sem α}{Q Q':α->Shared->Prop}{M:Model}{A:Around}{E:Value->Shared->Prop}{s:Shared}(h:wpAny M A t Q E s)(hQ:∀ a s,Q a s->Q' a s):wpAny M A t Q' E s:=u0Z h hQ λ_ _ x=>x
section
variable {X:Cx}
theorem bin {a b:Expr}{ta tb:TE}(ha:PE X a ta)(hb:PE X b tb){pins:List (Addr × Obj)}{s:Shared}{σ:St}{H:Hp}{R:V->V->Hp->Prop}(I:Inv X pins σ H s)(h:ta σ H λx H1=>tb σ H1 λy H2=>R x y H2)
 {α:Type} {Q:α->Shared->Prop} {f:Value->Value->Sem α}
 (hf:∀ v u s2 x y H2,Inv X pins σ H2 s2->yA x v->yA y u->R x y H2->wpAny (model X.prog X.w) X.A (f v u) Q X.xe s2) :
 wpAny (model X.prog X.w) X.A (eval a X.env) (λv s₁=>wpAny (model X.prog X.w) X.A (eval b X.env) (λu s₂=>wpAny (model X.prog X.w) X.A (f v u) Q X.xe s₂) X.xe s₁) X.xe s:=by
 refine thn (ha pins s σ H _ I h) λv s1 hh9=>?_
 obtain⟨x,H1,I1,r1,q1⟩:=hh9
 refine thn (hb pins s1 σ H1 _ I1 q1) λu s2 hh9=>?_
 obtain⟨y,H2,I2,r2,q2⟩:=hh9
 exact hf v u s2 x y H2 I2 r1 r2 q2
def zio (i:Nat):TE:=fun σ H Q=>∃ v,σ[i]?=some (some v)/\Q v H
def tC (v:V):TE:=λ_ H Q=>Q v H
theorem zkS {i:Nat} {x:Str} {pos:Pos} (hN:X.N[i]?=some x) (hv:Vis X.env.scope x) (hd:(x == ("__debug__":Str))=false:=by decide) (hcd:(x == ("__classdict__":Str))=false:=by decide):PE X (.Name x pos) (zio i):=by
 intro pins s σ H Q I h
 obtain⟨v,e,h⟩:=h
 obtain⟨m,hn,hl⟩:=I.loc
 obtain⟨u,r,l⟩:=hl i x v hN e hv
 have fin:EP X pins σ Q u s:=⟨v,H,I,r,h⟩
 rcases l with ⟨hk,hm⟩ | ⟨hk,c,hc,hcell⟩
 .exact wpAny_Name (wpAny_loadName_local I.ok.kind hk hn hm fin) hd
 .rcases hk with hk | hk
  .exact wpAny_Name (wpAny_loadName_cell I.ok.kind hk hc hcell fin) hd
  .exact wpAny_Name (wpAny_loadName_free I.ok.kind hk hc hcell fin hcd) hd
theorem zh {i j pos}:PE X (.Constant (.int i) j pos) (tC (.int i)):=λ_ _ _ H _ I h=>wpAny_Constant_int ⟨.int i,H,I.tok _,⟨_,rfl⟩,h⟩
theorem v9 {b j pos}:PE X (.Constant (.bool b) j pos) (tC (.bl b)):=λ_ _ _ H _ I h=>Constant_bool ⟨.bl b,H,I,rfl,h⟩
theorem zfp {j pos}:PE X (.Constant .none j pos) (tC .non):=λ_ _ _ H _ I h=>Constant_none ⟨.non,H,I,rfl,h⟩
def Gl (X:Cx)(x:Str):Prop:=X.env.kindOf x=some .globalImplicit
theorem ze3 {E:Value->Shared->Prop}{pins:List (Addr × Obj)}{s:Shared}{σ:St}{H:Hp}{x:Str}{u:Value}{pos:Pos}{Q:Value->Shared->Prop}(I:Inv X pins σ H s)(hg:Gl X x)(hm:X.mg x=some u)(h:Q u s)
 (hd:(x == ("__debug__":Str))=false:=by decide):wpAny (model X.prog X.w) X.A (eval (.Name x pos) X.env) Q E s :=
 Calls.Name_function_global I.ok.kind hg (Calls.loadGlobal_global (by rw[I.ok.glob];exact I.mod.glob.keeps I.bk) hm h) hd
theorem Zm {E:Value->Shared->Prop}{pins:List (Addr × Obj)}{s:Shared}{σ:St}{H:Hp}{x:Str}{u:Value}{pos:Pos}{Q:Value->Shared->Prop}(I:Inv X pins σ H s)(hg:Gl X x)(hm:X.mg x=none)(hv:bootBuiltins x=some u)(h:Q u s)
 (hn:x≠"__name__":=by decide) (hd:(x == ("__debug__":Str))=false:=by decide):wpAny (model X.prog X.w) X.A (eval (.Name x pos) X.env) Q E s:=by
 obtain⟨mb,h1,h2⟩:=I.mod.blt
 exact Calls.Name_function_global I.ok.kind hg (Calls.loadGlobal_builtin (by rw[I.ok.glob];exact I.mod.glob.keeps I.bk) hm (by rw[I.ok.blt];exact h1.keeps I.bk) ((h2 x hn).trans hv) h) hd
theorem zfS {x:Str} {v:V} {u:Value} {pos:Pos} (hg:Gl X x) (hm:X.mg x=some u) (r:yA v u) (hd:(x == ("__debug__":Str))=false:=by decide):PE X (.Name x pos) (tC v) :=
 λ_ _ _ H _ I h=>ze3 I hg hm ⟨v,H,I,r,h⟩ hd
theorem ZJ {x:Str} {v:V} {u:Value} {pos:Pos} (hg:Gl X x) (hm:X.mg x=none) (hv:bootBuiltins x=some u) (r:yA v u) (hn:x≠"__name__":=by decide) (hd:(x == ("__debug__":Str))=false:=by decide):PE X (.Name x pos) (tC v) :=
 λ_ _ _ H _ I h=>Zm I hg hm hv ⟨v,H,I,r,h⟩ hn hd
variable {a b:Expr}{ta tb:TE}{pos:Pos}
def PC (X:Cx)(op:CmpOp)(a b:Expr)(t:TE):Prop :=
 ∀ (pins:List (Addr × Obj)) (s:Shared) (σ:St) (H:Hp) (Q:VK),Inv X pins σ H s->t σ H Q ->
  wpAny (model X.prog X.w) X.A (eval a X.env) (λv s₁=>wpAny (model X.prog X.w) X.A (eval b X.env) (λu s₂=>wpAny (model X.prog X.w) X.A (compareOp op v u) (EP X pins σ Q) X.xe s₂) X.xe s₁) X.xe s
theorem zgL (b:Expr){op:CmpOp}(h:op≠.In)(h2:op≠.NotIn):behindInMarks op b=false:=by
 have e1:(op == CmpOp.In)=false:=by cases op <;> first | rfl | exact absurd rfl h
 have e2:(op == CmpOp.NotIn)=false:=by cases op <;> first | rfl | exact absurd rfl h2
 cases b <;> simp[behindInMarks,e1,e2]
def tB (t:TE):TT:=fun σ H Q=>t σ H λx H1=>∃ c,x=.bl c/\Q c H1
theorem pt_cmp {op:CmpOp}{t:TE}(h:PC X op a b t)(h1:behindInMarks op b=false:=by first | exact zgL _ (by decide) (by decide) | rfl):PT X (.Compare a [op] [b] pos) (tB t):=by
 intro pins s σ H Q I hw
 refine wpAny_isTrue_Compare1 (thn (h pins s σ H _ I hw) λv s1 h1=>thn h1 λu s2 h2=>thn h2 λc s3 hh9=>?_) h1
 obtain⟨x,H1,I1,r1,q1⟩:=hh9
 obtain⟨d,rfl,q⟩:=q1
 cases r1
 exact u00 ⟨H1,I1,q⟩
theorem zlO {e:Expr}{t:TE}(h:PE X e t)(he:∀ whole,isTrue e X.env whole=(do let v<-whole;standAt e.pos;holding [v] (truthy v)):=by intro _;rfl):PT X e (tB t):=by
 intro pins s σ H Q I hw
 refine isTrue_plain (thn (h pins s σ H _ I hw) λv s1 hh9=>?_) (he _)
 obtain⟨x,H1,I1,r1,q1⟩:=hh9
 obtain⟨d,rfl,q⟩:=q1
 cases r1
 exact u00 ⟨H1,I1,q⟩
variable {tA tB':TT}{rest:List Expr}
def tAnd (t u:TT):TT:=fun σ H Q=>t σ H λc H1=>if c=true then u σ H1 Q else Q false H1
def tOr (t u:TT):TT:=fun σ H Q=>t σ H λc H1=>if c=true then Q true H1 else u σ H1 Q
def tNot (t:TT):TT:=fun σ H Q=>t σ H λc H1=>Q (!c) H1
theorem zjy (ha:PT X a tA):PW X (.BoolOp .And [a] pos) tA:=by
 intro wh pins s σ H Q I h
 refine isTrue_and (thn (ha pins s σ H Q I h) λc s1 e=>?_)
 cases c with
 | true=>exact isTrue_and_nil e
 | false=>exact e
theorem zkG (ha:PT X a tA):PW X (.BoolOp .Or [a] pos) tA:=by
 intro wh pins s σ H Q I h
 refine isTrue_or (thn (ha pins s σ H Q I h) λc s1 e=>?_)
 cases c with
 | false=>exact isTrue_or_nil e
 | true=>exact e
theorem zkv (ha:PT X a tA)(hb:PW X (.BoolOp .And (b::rest) pos) tB'):PW X (.BoolOp .And (a::b::rest) pos) (tAnd tA tB'):=by
 intro wh pins s σ H Q I h
 refine isTrue_and (thn (ha pins s σ H _ I h) λc s1 hh9=>?_)
 obtain⟨H1,I1,q1⟩:=hh9
 cases c with
 | true=>exact hb wh pins s1 σ H1 Q I1 q1
 | false=>exact⟨H1,I1,q1⟩
theorem zmG (ha:PT X a tA)(hb:PW X (.BoolOp .Or (b::rest) pos) tB'):PW X (.BoolOp .Or (a::b::rest) pos) (tOr tA tB'):=by
 intro wh pins s σ H Q I h
 refine isTrue_or (thn (ha pins s σ H _ I h) λc s1 hh9=>?_)
 obtain⟨H1,I1,q1⟩:=hh9
 cases c with
 | true=>exact⟨H1,I1,q1⟩
 | false=>exact hb wh pins s1 σ H1 Q I1 q1
theorem zll (ha:PT X a tA):PT X (.UnaryOp .Not a pos) (tNot tA):=by
 intro pins s σ H Q I h
 exact isTrue_not (ha pins s σ H (λc H1=>Q (!c) H1) I h)
def zm9 (ta tb:TE):TE:=fun σ H Q=>ta σ H λx H1=>∃ c,x=.bl c/\if c=true then tb σ H1 Q else Q (.bl false) H1
def zmv (ta:TE):TE:=fun σ H Q=>ta σ H λx H1=>∃ c,x=.bl c/\Q (.bl (!c)) H1
theorem zkR {op}{t:TE}(h:PE X a t):PE X (.BoolOp op [a] pos) t:=λpins s σ H Q I hw=>BoolOp_one (h pins s σ H Q I hw)
theorem zkx (ha:PE X a ta)(hb:PE X (.BoolOp .And (b::rest) pos) tb):PE X (.BoolOp .And (a::b::rest) pos) (zm9 ta tb):=by
 intro pins s σ H Q I h
 refine BoolOp_and (thn (ha pins s σ H _ I h) λv s1 hh9=>?_)
 obtain⟨x,H1,I1,r1,q1⟩:=hh9
 obtain⟨c,rfl,q1⟩:=q1
 cases r1
 refine u00 ?_
 cases c with
 | true=>exact hb pins s1 σ H1 Q I1 q1
 | false=>exact⟨.bl false,H1,I1,rfl,q1⟩
theorem zlr (ha:PE X a ta):PE X (.UnaryOp .Not a pos) (zmv ta):=by
 intro pins s σ H Q I h
 refine UnaryOp_ (thn (ha pins s σ H _ I h) λv s1 hh9=>?_)
 obtain⟨x,H1,I1,r1,q1⟩:=hh9
 obtain⟨c,rfl,q1⟩:=q1
 cases r1
 exact not_of (u00 ⟨.bl (!c),H1,I1,rfl,q1⟩)
def tIf (t:TT)(ta tb:TE):TE:=fun σ H Q=>t σ H λc H1=>if c=true then ta σ H1 Q else tb σ H1 Q
theorem zgk {c:Expr}(hc:PT X c tA)(ha:PE X a ta)(hb:PE X b tb):PE X (.IfExp c a b pos) (tIf tA ta tb):=by
 intro pins s σ H Q I h
 refine wpAny_IfExp (thn (hc pins s σ H _ I h) λd s1 hh9=>?_)
 obtain⟨H1,I1,q1⟩:=hh9
 cases d with
 | true=>exact ha pins s1 σ H1 Q I1 q1
 | false=>exact hb pins s1 σ H1 Q I1 q1
end
def SqL (K:W.Frag)(H:Hp)(a:Addr)(xs:List V):Prop :=
 Rd H a (.lst xs) \/
  ∃ (o:Obj) (its:Array Value) (n:Nat),K.lookup a=some o/\o.cls=.type "list"/\o.dict=none/\o.data=.seq its n/\its.size<=sizeLine/\zU xs its.toList
def SqT (K:W.Frag)(H:Hp)(a:Addr)(xs:List V):Prop :=
 Rd H a (.tup xs) \/
  ∃ (o:Obj) (its:Array Value) (n:Nat),K.lookup a=some o/\o.cls=.type "tuple"/\o.data=.seq its n/\its.size<=sizeLine/\zU xs its.toList
def absV:Value->Option V
 | .none=>some .non
 | .bool b=>some (.bl b)
 | .int i _=>some (.int i)
 | .str x _=>some (.str x)
 | .bytes b _=>some (.byt b)
 | .float b _=>some (.flt b)
 | .ref a=>some (.ref a)
 | .type n=>some (.ty n)
 | _=>none
theorem yA.abs {x:V}{u:Value}(r:yA x u):absV u=some x:=by
 cases x with
 | non=>cases r;rfl
 | bl _=>cases r;rfl
 | int _=>obtain⟨t,rfl⟩:=r;rfl
 | str _=>obtain⟨t,rfl⟩:=r;rfl
 | byt _=>obtain⟨t,rfl⟩:=r;rfl
 | flt _=>obtain⟨t,rfl⟩:=r;rfl
 | ref _=>cases r;rfl
 | ty _=>cases r;rfl
theorem yA.inj {x y:V}{u:Value}(r:yA x u)(q:yA y u):x=y:=u0f (r.abs.symm.trans q.abs)
theorem zU.inj:∀ {xs ys:List V} {us:List Value},zU xs us->zU ys us->xs=ys:=by
 intro xs ys us h
 induction h generalizing ys with
 | nil=>intro h2;cases h2;rfl
 | cons r t ih=>intro h2;cases h2 with | cons r' t'=>rw[r.inj r',ih t']
section
variable {X:Cx}{pins:List (Addr × Obj)}{σ:St}{H:Hp}{s:Shared}{a:Addr}{xs ys:List V}
theorem SqL.of {K:W.Frag}(h:H a=some (.lst xs)):SqL K H a xs:=.inl (.inl h)
theorem SqT.of {K:W.Frag}(h:H a=some (.tup xs)):SqT K H a xs:=.inl (.inl h)
theorem Inv.list (I:Inv X pins σ H s)(h:SqL X.K H a xs):∃ its:List Value,zU xs its/\PlainL s.heap a its.toArray/\xs.length<=sizeLine:=by
 rcases h with h | ⟨o,its,n,hk,hc,hd,hs,hz,r⟩
 .obtain⟨z,its,n,r,e⟩:=h.ok I.hok
  exact⟨its,r,⟨_,n,e,rfl,rfl,rfl⟩,z⟩
 .refine⟨its.toList,r,⟨o,n,I.kIn a o hk,hc,hd,by simpa using hs⟩,?_⟩
  have e:=r.length
  simp only[j5]at e
  omega
theorem Inv.tuple (I:Inv X pins σ H s)(h:SqT X.K H a xs):∃ its:List Value,zU xs its/\IsTup s.heap a its.toArray/\xs.length<=sizeLine:=by
 rcases h with h | ⟨o,its,n,hk,hc,hs,hz,r⟩
 .obtain⟨z,its,r,p⟩:=h.ok I.hok
  exact⟨its,r,p,z⟩
 .refine⟨its.toList,r,⟨o,I.kIn a o hk,hc,n,by simpa using hs⟩,?_⟩
  have e:=r.length
  simp only[j5]at e
  omega
theorem Inv.list_inj (I:Inv X pins σ H s)(h:SqL X.K H a xs)(h':SqL X.K H a ys):xs=ys:=by
 obtain⟨its,r,⟨o,n,e,_,_,d⟩,_⟩:=I.list h
 obtain⟨its',r',⟨o',n',e',_,_,d'⟩,_⟩:=I.list h'
 rw[e]at e';cases e'
 rw[d]at d'
 injection d' with d1 _
 have:its=its':=by simpa using u0W Array.toList d1
 subst this
 exact r.inj r'
theorem Inv.tuple_inj (I:Inv X pins σ H s)(h:SqT X.K H a xs)(h':SqT X.K H a ys):xs=ys:=by
 obtain⟨its,r,⟨o,e,_,n,d⟩,_⟩:=I.tuple h
 obtain⟨its',r',⟨o',e',_,n',d'⟩,_⟩:=I.tuple h'
 rw[e]at e';cases e'
 rw[d]at d'
 injection d' with d1 _
 have:its=its':=by simpa using u0W Array.toList d1
 subst this
 exact r.inj r'
end
abbrev Cx.wish (X:Cx)(E:Value->Shared->Prop):Cx:={ X with xe:=E }
abbrev Cx.nox (X:Cx):Cx:=X.wish λ_ _=>False
theorem Cx.Ok.wish {X:Cx}(ok:X.Ok)(E:Value->Shared->Prop):(X.wish E).Ok :=
 ⟨ok.mod,ok.kind,ok.glob,ok.blt,ok.above,ok.inj,ok.has,ok.cab,ok.hd,ok.frames,ok.stk,ok.exf,ok.bs,ok.bsz,ok.noex,ok.exfs,ok.funs,ok.frf⟩
theorem Cx.Ok.unwish {X:Cx}{E:Value->Shared->Prop}(ok:(X.wish E).Ok):X.Ok :=
 ⟨ok.mod,ok.kind,ok.glob,ok.blt,ok.above,ok.inj,ok.has,ok.cab,ok.hd,ok.frames,ok.stk,ok.exf,ok.bs,ok.bsz,ok.noex,ok.exfs,ok.funs,ok.frf⟩
section
variable {X:Cx}{pins:List (Addr × Obj)}{σ:St}{H:Hp}{s:Shared}{E:Value->Shared->Prop}
theorem Inv.wish (I:Inv X pins σ H s)(E:Value->Shared->Prop):Inv (X.wish E) pins σ H s:=⟨I.ok.wish E,I.os,I.bare,I.base,I.loc,I.cell,I.free,I.freeC,I.pin,I.hok,I.len⟩
theorem Inv.unwish (I:Inv (X.wish E) pins σ H s):Inv X pins σ H s:=⟨I.ok.unwish,I.os,I.bare,I.base,I.loc,I.cell,I.free,I.freeC,I.pin,I.hok,I.len⟩
theorem SP.unwish {D:zh1}{f:Flow}{s':Shared}(h:SP (X.wish E) pins D f s'):SP X pins D f s':=by
 cases f with
 | next=>obtain⟨σ',H',I,q⟩:=h;exact⟨σ',H',I.unwish,q⟩
 | brk=>obtain⟨σ',H',I,q⟩:=h;exact⟨σ',H',I.unwish,q⟩
 | cont=>obtain⟨σ',H',I,q⟩:=h;exact⟨σ',H',I.unwish,q⟩
 | ret u=>obtain⟨v,σ',H',I,r,q⟩:=h;exact⟨v,σ',H',I.unwish,r,q⟩
theorem PSs.nox {st:List Stmt}{t:TS}(h:PSs X.nox st t):PSs X st t:=λpins s σ H D I hw =>
 u0Z (h pins s σ H D (I.wish _) hw) (λ_ _ q=>q.unwish) λ_ _ z=>False.elim z
end
section
variable {X:Cx}{st:Stmt}{rest:List Stmt}{t u:TS}{e:Expr}{te:TE}{pos:Pos}
def zmq:TS:=λD σ H=>D.nx σ H
def tSeq (t u:TS):TS:=λD σ H=>t { D with nx:=u D } σ H
theorem zi3:PSs X [] zmq:=λ_ _ σ H _ I h=>u2S ⟨σ,H,I,h⟩
theorem zgZ (h1:PS X st t)(h2:PSs X rest u):PSs X (st::rest) (tSeq t u):=by
 intro pins s σ H D I h
 refine wpAny_execs_cons (thn (h1 pins s σ H { D with nx:=u D } I h) λf s1 q=>?_)
 cases f with
 | next =>
  obtain⟨σ',H',I',q⟩:=q
  exact h2 pins s1 σ' H' D I' q
 | ret v=>exact q
 | brk=>exact q
 | cont=>exact q
theorem zjQ (h1:PS X st t):PSs X [st] t:=by
 intro pins s σ H D I h
 refine wpAny_execs_cons (thn (h1 pins s σ H D I h) λf s1 q=>?_)
 cases f with
 | next=>exact u2S q
 | ret v=>exact q
 | brk=>exact q
 | cont=>exact q
theorem Inv.quiet {pins:List (Addr × Obj)}{σ:St}{H:Hp}{s:Shared}(I:Inv X pins σ H s):interactive X.env=false:=by simp[interactive,I.ok.kind]
def zmQ (te:TE):TS:=λD σ H=>te σ H λ_ H1=>D.nx σ H1
theorem zbp (he:PE X e te)(hs:swapsWith e none pos.line X.env=pure false:=by rfl):PS X (.Expr e pos) (zmQ te):=by
 intro pins s σ H D I h
 exact wpAny_Expr_any (thn (he pins s σ H _ I h) λv s1 ⟨x,H1,I1,r1,q1⟩=>⟨σ,H1,I1,q1⟩) I.quiet hs
def tRet (te:TE):TS:=λD σ H=>te σ H D.rt
theorem zk2 (he:PE X e te):PS X (.Return (some e) pos) (tRet te):=by
 intro pins s σ H D I h
 exact wpAny_Return_some (thn (he pins s σ H _ I h) λv s1 ⟨x,H1,I1,r1,q1⟩=>⟨x,σ,H1,I1,r1,q1⟩)
def tIfS (c:TT)(t u:TS):TS:=λD σ H=>c σ H λb H1=>if b=true then t D σ H1 else u D σ H1
theorem zmn {c:Expr}{a b:List Stmt}{tc:TT}(hc:PT X c tc)(ha:PSs X a t)(hb:PSs X b u):PS X (.If c a b pos) (tIfS tc t u):=by
 intro pins s σ H D I h
 refine wpAny_If (thn (hc pins s σ H _ I h) λd s1 hh9=>?_)
 obtain⟨H1,I1,q1⟩:=hh9
 cases d with
 | true=>exact ha pins s1 σ H1 D I1 q1
 | false=>exact hb pins s1 σ H1 D I1 q1
def zkz:TS:=λ_ _ _=>False
theorem zhd:PS X st zkz:=λ_ _ _ _ _ _ h=>h.elim
end
abbrev TG:=V->St->Hp->(St->Hp->Prop)->Prop
abbrev TGs:=List V->St->Hp->(St->Hp->Prop)->Prop
def PG (X:Cx)(target:Expr)(t:TG):Prop :=
 ∀ (pins:List (Addr × Obj)) (s:Shared) (σ:St) (H:Hp) (v:V) (u:Value) (Q:St->Hp->Prop),Inv X pins σ H s->yA v u->t v σ H Q ->
  wpAny (model X.prog X.w) X.A (assign target X.env u) (λ_ s'=>∃ σ' H',Inv X pins σ' H' s'/\Q σ' H') X.xe s
def PGs (X:Cx)(ts:List Expr)(t:TGs):Prop :=
 ∀ (pins:List (Addr × Obj)) (s:Shared) (σ:St) (H:Hp) (vs:List V) (us:List Value) (Q:St->Hp->Prop),Inv X pins σ H s->zU vs us->t vs σ H Q ->
  wpAny (model X.prog X.w) X.A (assignInOrder ((assignEach ts X.env).map (·.2)) us) (λ_ s'=>∃ σ' H',Inv X pins σ' H' s'/\Q σ' H') X.xe s
abbrev zmy:=V->V->V->Hp->(Hp->Prop)->Prop
def PSet (X:Cx)(t:zmy):Prop :=
 ∀ (pins:List (Addr × Obj)) (s:Shared) (σ:St) (H:Hp) (o i v:V) (ov iv u:Value) (Q:Hp->Prop),Inv X pins σ H s->yA o ov->yA i iv->yA v u->t o i v H Q ->
  wpAny (model X.prog X.w) X.A (setItem ov iv u) (λ_ s'=>∃ H',Inv X pins σ H' s'/\Q H') X.xe s
section
variable {X:Cx}{pos:Pos}
def Y9 (i:Nat):TG:=λv σ H Q=>Q (σ.set i (some v)) H
theorem zI {i:Nat}{x:Str}(hN:X.N.Nodup)(hi:X.N[i]?=some x)(hx:Loc X.env.scope x)(hf:X.fn x=true\/X.env.scope.names.lookup x=some .local:=by first | exact .inl rfl | exact .inr rfl | assumption):PG X (.Name x pos) (Y9 i):=by
 intro pins s σ H v u Q I r h
 exact wpAny_assign_Name (zb8 I hN hi hx r (λs' I'=>⟨_,H,I',h⟩) hf)
def zlW:TGs:=λvs σ H Q=>vs=[]/\Q σ H
def zbP (t:TG)(u:TGs):TGs:=λvs σ H Q=>∃ v r,vs=v::r/\t v σ H fun σ' H'=>u r σ' H' Q
theorem zdJ:PGs X [] zlW:=by
 intro pins s σ H vs us Q I r h
 obtain⟨e,h⟩:=h
 subst e
 cases r
 exact assignInOrder_nil ⟨σ,H,I,h⟩
theorem Vx {e:Expr}{es:List Expr}{t:TG}{u:TGs}(h1:PG X e t)(h2:PGs X es u)
 (hs:(assignEach (e::es) X.env).map (·.2)=assign e X.env::(assignEach es X.env).map (·.2):=by rfl):PGs X (e::es) (zbP t u):=by
 intro pins s σ H vs us Q I r h
 obtain⟨v,vr,e1,h⟩:=h
 subst e1
 cases r with
 | cons r rr =>
  rw[hs]
  refine assignInOrder_cons (thn (h1 pins s σ H _ _ _ I r h) λ_ s1 hh9=>?_)
  obtain⟨σ1,H1,I1,q1⟩:=hh9
  exact h2 pins s1 σ1 H1 _ _ Q I1 rr q1
def zlU (K:W.Frag)(n:Nat)(t:TGs):TG:=λv σ H Q=>∃ a xs,v=.ref a/\SqT K H a xs/\xs.length=n/\t xs σ H Q
theorem zik {es:List Expr}{k:Nat}{t:TGs}{n:Nat}(hc:X.calm=true)(h:PGs X es t)
 (hn:(assignEach es X.env).length=n:=by rfl) (hst:(assignEach es X.env).findIdx? (·.1)=none:=by rfl):PG X (.Tuple es k pos) (zlU X.K n t):=by
 intro pins s σ H v u Q I r hw
 obtain⟨a,xs,e1,hq,hl,hw⟩:=hw
 subst e1
 cases r
 obtain⟨its,rv,ht,hz⟩:=I.tuple hq
 refine assign_Tuple_tuple (I.ok.hd hc) ht (by simp[hn,<- hl,rv.length]) hst λh' hx=>?_
 have I1:Inv X pins σ H { s with heap:=h' }:=I.kept (t':=s.toks) λb o e=>hx b o (p5 (r6 e)) e
 exact h pins _ σ H xs _ Q I1 (by simpa using rv) hw
def gSub (to ti:TE)(t:zmy):TG:=λv σ H Q=>to σ H λo H1=>ti σ H1 λi H2=>t o i v H2 λH3=>Q σ H3
theorem zkc {o i:Expr}{to ti:TE}{t:zmy}(ho:PE X o to)(hi:PE X i ti)(hs:PSet X t)
 (ha:∀ v,assign (.Subscript o i pos) X.env v=(do
  let ov<-holding [v] (eval o X.env)
  let iv<-holding [v,ov] (eval i X.env)
  standAt pos
  holding [v,ov,iv] (setItem ov iv v)
  release [v,ov,iv] []):=by intro _;rfl):PG X (.Subscript o i pos) (gSub to ti t):=by
 intro pins s σ H v u Q I r h
 rw[ha]
 refine u3 (u0X (thn (ho pins s σ H _ I h) λov s1 hh9=>?_))
 obtain⟨x,H1,I1,r1,q1⟩:=hh9
 refine u3 (u0X (thn (hi pins s1 σ H1 _ I1 q1) λiv s2 hh9=>?_))
 obtain⟨y,H2,I2,r2,q2⟩:=hh9
 refine u3 (wpAny_standAt (u3 (u0X (thn (hs pins s2 σ H2 x y v ov iv u _ I2 r1 r2 r q2) λ_ s3 hh9=>?_))))
 obtain⟨H3,I3,q3⟩:=hh9
 exact wpAny_release ⟨σ,H3,I3,q3⟩
def zmc (te:TE)(g:TG):TS:=λD σ H=>te σ H λx H1=>g x σ H1 D.nx
theorem zkQ {tg e:Expr}{te:TE}{g:TG}(he:PE X e te)(hg:PG X tg g)(hs:swapsWithSole [tg] e pos.line X.env=pure false:=by rfl)(hw:swappedStores [tg] e X.env=pure none:=by rfl)
 (h1:(assignEach [tg] X.env).map (·.2)=[assign tg X.env]:=by rfl):PS X (.Assign [tg] e pos) (zmc te g):=by
 intro pins s σ H D I h
 refine wpAny_Assign_stores (thn (he pins s σ H _ I h) λv s1 hh9=>?_) hs hw
 obtain⟨x,H1,I1,r1,q1⟩:=hh9
 rw[h1]
 exact thn (hg pins s1 σ H1 x v _ I1 r1 q1) λ_ s2 q=>q
theorem zcL {i:Nat}{x:Str}{e:Expr}{te:TE}{pos':Pos}(hN:X.N.Nodup)(hi:X.N[i]?=some x)(hx:Loc X.env.scope x)(he:PE X e te)(hs:swapsWith e (some (.Name x pos')) pos.line X.env=pure false:=by rfl)(hf:X.fn x=true\/X.env.scope.names.lookup x=some .local:=by first | exact .inl rfl | exact .inr rfl | assumption) :
 PS X (.Assign [.Name x pos'] e pos) (zmc te (Y9 i)):=by
 intro pins s σ H D I h
 refine wpAny_Assign_Name (thn (he pins s σ H _ I h) λv s1 hh9=>?_) hs
 obtain⟨y,H1,I1,r1,q1⟩:=hh9
 exact zb8 I1 hN hi hx r1 (λs2 I2=>⟨_,H1,I2,q1⟩) hf
def zlM (c:TT)(tb:TS):TS:=λD σ H=>∃ W:Nat->St->Hp->Prop,(∃ m,W m σ H)/\∀ m σ H,W m σ H ->
 c σ H λb H1=>if b=true then ∃ N:St->Hp->Prop,(∀ σ' H',N σ' H'->∃ m',m' < m/\W m' σ' H')/\tb { D with nx:=N,ct:=N,bk:=D.nx } σ H1 else D.nx σ H1
theorem zhx {c:Expr}{body:List Stmt}{tc:TT}{tb:TS}(hp:PassesOwn (model X.prog X.w) X.A X.env X.xe)(hc:PT X c tc)(hb:PSs X body tb):PS X (.While c body [] pos) (zlM tc tb):=by
 intro pins s σ H D I h
 obtain⟨W,⟨m0,w0⟩,turn⟩:=h
 refine wpAny_While (codeAny_whileLoop (λn s'=>∃ σ' H',Inv X pins σ' H' s'/\W n σ' H') ?_ m0 ⟨σ,H,I,w0⟩)
 rintro n s1 ⟨σ1,H1,I1,w1⟩
 refine u1s hp (thn (hc pins s1 σ1 H1 _ I1 (turn n σ1 H1 w1)) λb s2 hh9=>?_)
 obtain⟨H2,I2,q2⟩:=hh9
 cases b with
 | true =>
  obtain⟨N,hN,q2⟩:=q2
  rw[u8 rfl]
  refine u1s hp (thn (hb pins s2 σ1 H2 _ I2 q2) λf s3 q3=>?_)
  cases f with
  | next =>
   obtain⟨σ3,H3,I3,n3⟩:=q3
   obtain⟨m',hm,w3⟩:=hN σ3 H3 n3
   exact⟨m',hm,σ3,H3,I3,w3⟩
  | cont =>
   obtain⟨σ3,H3,I3,n3⟩:=q3
   obtain⟨m',hm,w3⟩:=hN σ3 H3 n3
   exact⟨m',hm,σ3,H3,I3,w3⟩
  | brk=>exact q3
  | ret v=>exact q3
 | false =>
  rw[u9 u4]
  exact u2S ⟨σ1,H2,I2,q2⟩
end
structure It where
 go:Nat->Hp->Prop
 yld:Nat->Hp->V->Hp->Prop
 stop:Nat->Hp->Prop
def VZ (X:Cx)(pins:List (Addr × Obj))(H:Hp)(b:Addr):Prop :=
 H b=none/\b≠X.env.locals/\b∉X.fs/\(b∈X.ex\/X.s₀.heap.objs.size<=b)/\(∀ x c,X.env.cells.lookup x=some c->c≠b)/\∀ p∈X.pn++pins,p.1≠b
theorem Inv.fpOk {X:Cx}{pins:List (Addr × Obj)}{σ:St}{H H':Hp}{s:Shared}{b:Addr}(I:Inv X pins σ H s)(hb:s.heap.objs.size<=b)(hn:H' b=none):VZ X pins H' b:=by
 refine⟨hn,u3z (o0 I.lt hb),I.nofs hb,.inr (u0t I.sz hb),λx c e z=>?_,λp hp z=>?_⟩
 .obtain⟨v,q⟩:=I.cell x c e
  exact absurd (o0 q.lt (by rw[z];exact hb)) (u09 _)
 .exact absurd (o0 (r6 (I.pin p hp).1) (by rw[z];exact hb)) (u09 _)
structure ziH (P:Program) (w:World) (K:W.Frag) (tg:Expr) (J:It) (fp:List Addr) (it:Addr) (tn:Nat->Heap->Prop):Prop where
 mem:it∈fp
 obj:∀ i h,tn i h->∀ b∈fp,∃ o,h.get? b=some o/\∀ v,o.data≠.cell v
 keep:∀ i h h',tn i h->(∀ b∈fp,∀ o,h.get? b=some o->h'.get? b=some o)->tn i h'
 item:∀ (X:Cx),X.prog=P->X.w=w->X.K=K->X.calm=true->∀ (i:Nat) (pins:List (Addr × Obj)) (s:Shared) (σ:St) (H:Hp) (E:Value->Shared->Prop),Inv X pins σ H s->(∀ b∈fp,VZ X pins H b)->tn i s.heap->J.go i H ->
  wpAny (model P w) X.A (pyNext (.ref it)) (λr s1=>∃ u,r=some u /\
   wpAny (model P w) X.A (letOwnedTupleGo tg (.ref it) u) (λ_ s2=>∃ x H',Inv X pins σ H' s2/\yA x u/\J.yld i H x H'/\tn (i+1) s2.heap/\∀ b∈fp,H' b=none) E s1) E s
 done:∀ (X:Cx),X.prog=P->X.w=w->X.K=K->X.calm=true->∀ (i:Nat) (pins:List (Addr × Obj)) (s:Shared) (σ:St) (H:Hp) (E:Value->Shared->Prop),Inv X pins σ H s->(∀ b∈fp,VZ X pins H b)->tn i s.heap->J.stop i H ->
  wpAny (model P w) X.A (pyNext (.ref it)) (λr s1=>r=none/\Inv X pins σ H s1) E s
 self:∀ (A:Around) (i:Nat) (s:Shared) (Q:Value->Shared->Prop) (E:Value->Shared->Prop),tn i s.heap->Q (.ref it) s->wpAny (model P w) A (pyIter (.ref it)) Q E s
abbrev TI:=St->Hp->(It->Hp->Prop)->Prop
def PIE (X:Cx)(pins:List (Addr × Obj))(σ:St)(tg:Expr)(R:It->Hp->Prop)(itv:Value)(s2:Shared):Prop :=
 ∃ (it:Addr) (fp:List Addr) (tn:Nat->Heap->Prop) (J:It) (H':Hp),itv=.ref it/\Inv X pins σ H' s2/\ziH X.prog X.w X.K tg J fp it tn/\tn 0 s2.heap/\(∀ b∈fp,VZ X pins H' b)/\R J H'
def PI (X:Cx)(tg iter:Expr)(wi:TI):Prop :=
 ∀ (pins:List (Addr × Obj)) (s:Shared) (σ:St) (H:Hp) (R:It->Hp->Prop),Inv X pins σ H s->wi σ H R ->
  wpAny (model X.prog X.w) X.A (eval iter X.env) (λv s1=>wpAny (model X.prog X.w) X.A (pyIter v) (PIE X pins σ tg R) X.xe s1) X.xe s
theorem zhJ {M:Model}{A:Around}{E:Value→Shared→Prop}{s:Shared}{tg:Expr}{it:Addr}{u:Value}{o:Obj}{n:String}{vs:Array Value}{Q:Unit→Shared→Prop}(ho:s.heap.get? it=some o)(hc:o.cls=.type n)(hd:o.data=.fields vs)
    (hn:["enumerate","zip","dict_itemiterator","dict_reverseitemiterator","odict_iterator","itertools.zip_longest","itertools.pairwise"].contains n=false) (hQ:Q () s):wpAny M A (letOwnedTupleGo tg (.ref it) u) Q E s:=by
  unfold letOwnedTupleGo
  cases tg <;> first
    | exact j3 hQ
    | (cases u <;> first
        | exact j3 hQ
        | (refine u3 (wpAny_load ho ?_)
           rw [hc,hd]
           show wpAny M A (if (["enumerate","zip","dict_itemiterator","dict_reverseitemiterator","odict_iterator","itertools.zip_longest","itertools.pairwise"].contains n&&vs[0]? == some (rawInt _))=true then _ else _) Q E s
           rw [u9 (by intro h;rw [hn,Bool.false_and] at h;cases h)]
           exact j3 hQ))
def Itl (K:W.Frag)(a:Addr):It :=
 ⟨λi H=>∃ xs x,SqL K H a xs/\xs[i]?=some x,λi H x H'=>H'=H/\∀ xs,SqL K H a xs->xs[i]?=some x,λi H=>∃ xs,SqL K H a xs/\xs.length<=i⟩
def Itt (K:W.Frag)(a:Addr):It :=
 ⟨λi H=>∃ xs x,SqT K H a xs/\xs[i]?=some x,λi H x H'=>H'=H/\∀ xs,SqT K H a xs->xs[i]?=some x,λi H=>∃ xs,SqT K H a xs/\xs.length<=i⟩
def Itr (lo:Int)(n:Nat):It:=⟨λi _=>i < n,λi H x H'=>H'=H/\x=.int (lo+i),λi _=>n<=i⟩
theorem zeb {P:Program}{w:World}{K:W.Frag}{tg:Expr}(a it:Addr):ziH P w K tg (Itl K a) [it] it (λi h=>h.IsListIter it a i) where
 mem:=by simp
 obj:=λi h st b hb=>by
  have e:b=it:=by simpa using hb
  subst e
  obtain⟨o,e,c,d⟩:=st
  exact⟨o,e,λv z=>by rw[d]at z;cases z⟩
 keep:=λi h h' st k=>st.at λo e=>k it (by simp) o e
 item:=by
  intro X hP hw hK hc i pins s σ H E I hf st hg
  subst hP hw hK
  obtain⟨xs,x,hq,hx⟩:=hg
  obtain⟨its,rv,p,hz⟩:=I.list hq
  obtain⟨u,hu,ru⟩:=rv.get hx
  obtain⟨f0,f1,f2,f3,f4,f5⟩:=hf it (by simp)
  refine wpAny_pyNext_list_item st p.isList (x:=u) (by simpa using hu) λh' st' sb=>?_
  have I1:Inv X pins σ H { s with heap:=h' }:=I.turned (t':=s.toks) (λb o hb e=>(sb.2 b hb).trans e) f0 f1 f3 f4 f5
  obtain⟨o,e,c,d⟩:=id st'
  exact⟨u,rfl,zhJ (s:={ s with heap:=h' }) e c d (by decide) ⟨x,H,I1,ru,⟨rfl,λys hy=>by rw[I.list_inj hy hq];exact hx⟩,st',λb hb=>(hf b hb).1⟩⟩
 done:=by
  intro X hP hw hK hc i pins s σ H E I hf st hg
  subst hP hw hK
  obtain⟨xs,hq,hx⟩:=hg
  obtain⟨its,rv,p,hz⟩:=I.list hq
  obtain⟨f0,f1,f2,f3,f4,f5⟩:=hf it (by simp)
  have hl:=rv.length
  exact wpAny_pyNext_list_end (I.ok.hd hc) st p.isList (by simp;omega) λh' eb=>⟨rfl,I.turned (t':=s.toks) (λb o hb e=>eb b o hb e) f0 f1 f3 f4 f5⟩
 self:=λ_ _ _ _ _ st h=>wpAny_pyIter_listiter st h
theorem zdA {P:Program}{w:World}{K:W.Frag}{tg:Expr}(a it:Addr):ziH P w K tg (Itt K a) [it] it (λi h=>h.IsTupleIter it a i) where
 mem:=by simp
 obj:=λi h st b hb=>by
  have e:b=it:=by simpa using hb
  subst e
  obtain⟨o,e,c,d⟩:=st
  exact⟨o,e,λv z=>by rw[d]at z;cases z⟩
 keep:=λi h h' st k=>st.at λo e=>k it (by simp) o e
 item:=by
  intro X hP hw hK hc i pins s σ H E I hf st hg
  subst hP hw hK
  obtain⟨xs,x,hq,hx⟩:=hg
  obtain⟨its,rv,p,hz⟩:=I.tuple hq
  obtain⟨u,hu,ru⟩:=rv.get hx
  obtain⟨f0,f1,f2,f3,f4,f5⟩:=hf it (by simp)
  refine wpAny_pyNext_tuple_item st (show s.heap.IsTuple a its.toArray from p) (x:=u) (by simpa using hu) λh' st' sb=>?_
  have I1:Inv X pins σ H { s with heap:=h' }:=I.turned (t':=s.toks) (λb o hb e=>(sb.2 b hb).trans e) f0 f1 f3 f4 f5
  obtain⟨o,e,c,d⟩:=id st'
  exact⟨u,rfl,zhJ (s:={ s with heap:=h' }) e c d (by decide) ⟨x,H,I1,ru,⟨rfl,λys hy=>by rw[I.tuple_inj hy hq];exact hx⟩,st',λb hb=>(hf b hb).1⟩⟩
 done:=by
  intro X hP hw hK hc i pins s σ H E I hf st hg
  subst hP hw hK
  obtain⟨xs,hq,hx⟩:=hg
  obtain⟨its,rv,p,hz⟩:=I.tuple hq
  obtain⟨f0,f1,f2,f3,f4,f5⟩:=hf it (by simp)
  have hl:=rv.length
  exact wpAny_pyNext_tuple_end (I.ok.hd hc) st (show s.heap.IsTuple a its.toArray from p) (by simp;omega) λh' eb=>⟨rfl,I.turned (t':=s.toks) (λb o hb e=>eb b o hb e) f0 f1 f3 f4 f5⟩
 self:=λ_ _ _ _ _ st h=>wpAny_pyIter_tupleiter st h
theorem zdu {P:Program}{w:World}{K:PySem.W.Frag}{tg:Expr}(it:Addr)(lo:Int)(n:Nat):ziH P w K tg (Itr lo n) [it] it (λi h=>IsRangeIter h it (lo+(i:Nat)*1) ((n:Int) - (i:Nat)) 1) where
 mem:=by simp
 obj:=λi h st b hb=>by
  have e:b=it:=by simpa using hb
  subst e
  exact⟨_,st,λv z=>by
   have z':Data.fields _=Data.cell v:=z
   cases z'⟩
 keep:=λi h h' st k=>k it (by simp) _ st
 item:=by
  intro X hP hw hK hc i pins s σ H E I hf st hg
  subst hP hw hK
  obtain⟨f0,f1,f2,f3,f4,f5⟩:=hf it (by simp)
  have W:=Walks.range (prog:=X.prog) (w:=X.w) (I.ok.hd hc) it lo 1 n
  refine W.item i s _ _ hg st λv h' tk hv st' kk=>?_
  obtain⟨t,rfl⟩:=hv
  have I1:Inv X pins σ H { s with heap:=h',toks:=tk }:=I.turned (λb o hb e=>kk b o (by simpa using hb) e) f0 f1 f3 f4 f5
  refine⟨_,rfl,zhJ (s:={ s with heap:=h',toks:=tk }) (n:="range_iterator") st' rfl rfl (by decide) ⟨.int (lo+i),H,I1,⟨t,?_⟩,⟨rfl,rfl⟩,st',λb hb=>(hf b hb).1⟩⟩
  rw[Int.mul_one]
 done:=by
  intro X hP hw hK hc i pins s σ H E I hf st hg
  subst hP hw hK
  obtain⟨f0,f1,f2,f3,f4,f5⟩:=hf it (by simp)
  exact wpAny_pyNext_range_end (I.ok.hd hc) st (by have:n<=i:=hg;omega) λh' eb=>⟨rfl,I.turned (t':=s.toks) (λb o hb e=>eb b o hb e) f0 f1 f3 f4 f5⟩
 self:=λ_ _ _ _ _ st h=>wpAny_pyIter_rangeiter st h
section
variable {X:Cx}{tg:Expr}
theorem zcH {pins:List (Addr × Obj)}{σ:St}{H:Hp}{s:Shared}{R:It->Hp->Prop}{E:Value->Shared->Prop}{lo hi:Int}{t u v:Tok}{tk:Nat}(I:Inv X pins σ H s)(h1:-(2 ^ 62)<=lo)(h2:lo < 2 ^ 62)(h3:-(2 ^ 62)<=hi)(h4:hi < 2 ^ 62)
 (q:R (Itr lo (hi - lo).toNat) H):wpAny (model X.prog X.w) X.A (pyIter (.ref s.heap.objs.size)) (PIE X pins σ tg R) E { s with heap:=s.heap.push { cls:=.type "range",data:=.fields #[.int lo t,.int hi u,.int 1 v] },toks:=tk }:=by
 refine wpAny_pyIter_range (IsRange.new ..) (small_one h1 h2 h3 h4) ?_
 have I1:Inv X pins σ H { s with heap:=s.heap.push { cls:=.type "range",data:=.fields #[.int lo t,.int hi u,.int 1 v] },toks:=tk }:=I.kept λb o e=>u5 _ e
 refine⟨(s.heap.push { cls:=.type "range",data:=.fields #[.int lo t,.int hi u,.int 1 v] }).objs.size,[(s.heap.push { cls:=.type "range",data:=.fields #[.int lo t,.int hi u,.int 1 v] }).objs.size],_,_,H,rfl,
  I1.kept (t':=tk) λb o e=>u5 _ e,zdu _ lo (hi - lo).toNat,?_,λb hb=>?_,q⟩
 .have e1:lo+((0:Nat):Int)*1=lo:=by simp
  have e2:(((hi - lo).toNat:Nat):Int) - ((0:Nat):Int)=Builtin.Range.rangeSize lo hi 1:=by rw[rangeSize_one];split <;> omega
  show IsRangeIter _ _ (lo+((0:Nat):Int)*1) ((((hi - lo).toNat:Nat):Int) - ((0:Nat):Int)) 1
  rw[e1,e2]
  exact j8 _ rfl
 .have e:b=(s.heap.push { cls:=.type "range",data:=.fields #[.int lo t,.int hi u,.int 1 v] }).objs.size:=by simpa using hb
  subst e
  exact I1.fpOk (q5 _) (I1.hok.fresh (q5 _))
def zmC (ta:TA):TI:=fun σ H R=>ta σ H λvs H1=>∃ j:Int,vs=[.int j]/\-(2 ^ 62)<=j/\j < 2 ^ 62/\R (Itr 0 j.toNat) H1
def zmE (ta:TA):TI:=fun σ H R=>ta σ H λvs H1=>∃ i j:Int,vs=[.int i,.int j]/\(-(2 ^ 62)<=i/\i < 2 ^ 62/\-(2 ^ 62)<=j/\j < 2 ^ 62)/\R (Itr i (j - i).toNat) H1
theorem za6 {a:Expr} {ta:TA} {p pos:Pos} (hg:Gl X "range") (hm:X.mg "range"=none) (ha:PA X [a] ta) (hs:starEach [a] X.env=[(false,eval a X.env)]:=by rfl):PI X tg (.Call (.Name "range" p) [a] [] pos) (zmC ta):=by
 intro pins s σ H R I h
 refine Call_ (Zm I hg hm boot_range (u0A (thn (ha pos pins s σ H _ I h) λus s1 hh9=>?_) hs rfl))
 obtain⟨vs,H1,I1,r1,q1⟩:=hh9
 obtain⟨j,e,q1,q2,q⟩:=q1
 subst e
 cases r1 with
 | cons r rr =>
  cases rr
  obtain⟨t,rfl⟩:=r
  exact call_range_1 (zcH I1 (by omega) (by omega) q1 q2 (by simpa using q))
theorem zd3 {a b:Expr} {ta:TA} {p pos:Pos} (hg:Gl X "range") (hm:X.mg "range"=none) (ha:PA X [a,b] ta) (hs:starEach [a,b] X.env=[(false,eval a X.env),(false,eval b X.env)]:=by rfl) (hs2:starEach [b] X.env=[(false,eval b X.env)]:=by rfl) :
 PI X tg (.Call (.Name "range" p) [a,b] [] pos) (zmE ta):=by
 intro pins s σ H R I h
 refine Call_ (Zm I hg hm boot_range (u0A (thn (ha pos pins s σ H _ I h) λus s1 hh9=>?_) (by rw[hs,hs2]) (by rw[hs2];rfl)))
 obtain⟨vs,H1,I1,r1,q1⟩:=hh9
 obtain⟨i,j,e,⟨q1,q2,q3,q4⟩,q⟩:=q1
 subst e
 cases r1 with
 | cons r rr =>
  cases rr with
  | cons r' rr =>
   cases rr
   obtain⟨t,rfl⟩:=r
   obtain⟨t',rfl⟩:=r'
   exact call_range_2 (zcH I1 q1 q2 q3 q4 q)
def tFor (wi:TI)(g:TG)(tb:TS):TS:=λD σ H=>wi σ H λJ H1=>∃ W:Nat->Nat->St->Hp->Prop,(∃ m,W 0 m σ H1)/\∀ i m σ H,W i m σ H ->
 (J.stop i H/\D.nx σ H)\/(J.go i H/\∃ N:St->Hp->Prop,(∀ σ' H',N σ' H'->∃ m',m' < m/\W (i+1) m' σ' H')/\∀ x H',J.yld i H x H'->g x σ H' fun σ2 H2=>tb { D with nx:=N,ct:=N,bk:=D.nx } σ2 H2)
def v7 (fp:List Addr)(h:Heap):List (Addr × Obj):=fp.filterMap λb=>(h.get? b).map λo=>(b,o)
theorem yC {fp:List Addr}{h:Heap}{b:Addr}{o:Obj}(hb:b∈fp)(e:h.get? b=some o):(b,o)∈v7 fp h:=List.mem_filterMap.mpr ⟨b,hb,by rw[e];rfl⟩
theorem zeA {fp:List Addr}{h:Heap}{p:Addr × Obj}(hp:p∈v7 fp h):p.1∈fp/\h.get? p.1=some p.2:=by
 obtain⟨b,hb,e⟩:=List.mem_filterMap.mp hp
 cases q:h.get? b with
 | none=>rw[q]at e;cases e
 | some o =>
  rw[q]at e
  have e':(b,o)=p:=u0f e
  subst e'
  exact⟨hb,q⟩
theorem Inv.pinned {pins:List (Addr × Obj)}{σ:St}{H:Hp}{s:Shared}{fp:List Addr}(I:Inv X pins σ H s)(hf:∀ b∈fp,VZ X pins H b)(ho:∀ b∈fp,∃ o,s.heap.get? b=some o/\∀ v,o.data≠.cell v):Inv X (pins++v7 fp s.heap) σ H s :=
 I.pins_of λp hp=>(d9.mp hp).elim (λz=>I.pin p (d6 _ z)) λz=>by
  obtain⟨hb,e⟩:=zeA z
  obtain⟨f0,f1,f2,_⟩:=hf p.1 hb
  obtain⟨o,e',d⟩:=ho p.1 hb
  rw[e]at e';cases e'
  exact⟨e,f0,f1,f2,d⟩
theorem Inv.unpinned {pins pl:List (Addr × Obj)}{σ:St}{H:Hp}{s:Shared}(I:Inv X (pins++pl) σ H s):Inv X pins σ H s:=I.pins_of λp hp=>I.pin p (d6 _ (u1O _ hp))
theorem zes {iter:Expr}{body:List Stmt}{wi:TI}{g:TG}{tb:TS}{pos:Pos}(hp:PassesOwn (model X.prog X.w) X.A X.env X.xe)(hc:X.calm=true)(hi:PI X tg iter wi)(hg:PG X tg g)(hb:PSs X body tb)
 (hs:∀ x,foldedSetIterable iter X.env x=pure x:=by intro _;rfl):PS X (.For tg iter body [] pos) (tFor wi g tb):=by
 intro pins s σ H D I h
 refine wpAny_For (thn (hi pins s σ H _ I h) λv s1 h1=>thn h1 λitv s2 h2=>?_) hs
 obtain⟨it,fp,tn,J,H2,e,I2,T,st2,f2,W,⟨m0,w0⟩,turn⟩:=h2
 subst e
 -- what stays true of the iterator's objects through the loop
 have stat:∀ {H':Hp},(∀ b∈fp,H' b=none)->∀ b∈fp,VZ X pins H' b:=λhn b hb=>⟨hn b hb,(f2 b hb).2⟩
 refine codeAny_forLoop_any (λn s'=>∃ i σ' H',Inv X pins σ' H' s'/\tn i s'.heap/\(∀ b∈fp,H' b=none)/\W i n σ' H') ?_ m0 ⟨0,σ,H2,I2,st2,λb hb=>(f2 b hb).1,w0⟩
 rintro n s3 ⟨i,σ3,H3,I3,st3,fr3,w3⟩
 rcases turn i n σ3 H3 w3 with ⟨stop,qn⟩ | ⟨go,N,hN,step⟩
 .refine u1s hp (thn (T.done X rfl rfl rfl hc i pins s3 σ3 H3 X.xe I3 (stat fr3) st3 stop) λr s4 hh9=>?_)
  obtain⟨hr,I4⟩:=hh9
  subst hr
  exact u2S ⟨σ3,H3,I4,qn⟩
 .refine u1s hp (thn (T.item X rfl rfl rfl hc i pins s3 σ3 H3 X.xe I3 (stat fr3) st3 go) λr s4 hh9=>?_)
  obtain⟨u,hr,h4⟩:=hh9
  subst hr
  refine u1s hp (thn h4 λ_ s5 hh9=>?_)
  obtain⟨x,H5,I5,r5,y5,st5,fr5⟩:=hh9
  have I5':=I5.pinned (stat fr5) (T.obj _ _ st5)
  refine u1s hp (thn (hg _ s5 σ3 H5 x u _ I5' r5 (step x H5 y5)) λ_ s6 hh9=>?_)
  obtain⟨σ6,H6,I6,q6⟩:=hh9
  refine u1s hp (thn (hb _ s6 σ6 H6 _ I6 q6) λf s7 q7=>?_)
  have again:∀ {σ7:St} {H7:Hp},Inv X (pins++v7 fp s5.heap) σ7 H7 s7->N σ7 H7->∃ m,m < n/\∃ i σ' H',Inv X pins σ' H' s7/\tn i s7.heap/\(∀ b∈fp,H' b=none)/\W i m σ' H':=λ{σ7 H7} I7 n7=>by
   obtain⟨m',hm,w7⟩:=hN σ7 H7 n7
   refine⟨m',hm,i+1,σ7,H7,I7.unpinned,T.keep _ _ _ st5 λb hb o e=>(I7.pin (b,o) (d6 _ (d6 _ (yC hb e)))).1,λb hb=>?_,w7⟩
   obtain⟨o,e,d⟩:=T.obj _ _ st5 b hb
   exact(I7.pin (b,o) (d6 _ (d6 _ (yC hb e)))).2.1
  cases f with
  | next=>obtain⟨σ7,H7,I7,n7⟩:=q7;exact again I7 n7
  | cont=>obtain⟨σ7,H7,I7,n7⟩:=q7;exact again I7 n7
  | brk=>obtain⟨σ7,H7,I7,q7⟩:=q7;exact⟨σ7,H7,I7.unpinned,q7⟩
  | ret v=>obtain⟨x7,σ7,H7,I7,r7,q7⟩:=q7;exact⟨x7,σ7,H7,I7.unpinned,r7,q7⟩
end
abbrev R2:=V->V->Hp->VK->Prop
def OpR (X:Cx)(f:Value->Value->Sem Value)(r:R2):Prop :=
 ∀ (pins:List (Addr × Obj)) (s:Shared) (σ:St) (H:Hp) (x y:V) (v u:Value) (Q:VK),Inv X pins σ H s->yA x v->yA y u->r x y H Q ->
  wpAny (model X.prog X.w) X.A (f v u) (EP X pins σ Q) X.xe s
def UnR (X:Cx)(f:Value->Sem Value)(r:V->Hp->VK->Prop):Prop :=
 ∀ (pins:List (Addr × Obj)) (s:Shared) (σ:St) (H:Hp) (x:V) (v:Value) (Q:VK),Inv X pins σ H s->yA x v->r x H Q ->
  wpAny (model X.prog X.w) X.A (f v) (EP X pins σ Q) X.xe s
def Ys (X:Cx)(f:Value)(r:List V->Hp->VK->Prop):Prop :=
 ∀ (pins:List (Addr × Obj)) (s:Shared) (σ:St) (H:Hp) (xs:List V) (us:List Value) (Q:VK),Inv X pins σ H s->zU xs us->r xs H Q ->
  wpAny (model X.prog X.w) X.A (call f us) (EP X pins σ Q) X.xe s
def tOp (r:R2)(ta tb:TE):TE:=fun σ H Q=>ta σ H λx H1=>tb σ H1 λy H2=>r x y H2 Q
def tUn (r:V->Hp->VK->Prop)(ta:TE):TE:=fun σ H Q=>ta σ H λx H1=>r x H1 Q
def rI (C:Int->Int->Prop)(g:Int->Int->V):R2:=λx y H Q=>∃ i j,x=.int i/\y=.int j/\C i j/\Q (g i j) H
def rI0 (g:Int->Int->V):R2:=λx y H Q=>∃ i j,x=.int i/\y=.int j/\Q (g i j) H
def rU (g:Int->V):V->Hp->VK->Prop:=λx H Q=>∃ i,x=.int i/\Q (g i) H
section
variable {X:Cx}{a b c:Expr}{ta tb tc:TE}{pos:Pos}
theorem zmA (ha:PE X a ta)(hb:PE X b tb){pins:List (Addr × Obj)}{s:Shared}{σ:St}{H:Hp}{R:V->V->Hp->Prop}(I:Inv X pins σ H s)
 (h:ta σ H λx H1=>tb σ H1 λy H2=>R x y H2) {Q:Value->Shared->Prop} {f:Value->Value->Sem Value}
 (hf:∀ v u s2 x y H2,Inv X pins σ H2 s2->yA x v->yA y u->R x y H2->wpAny (model X.prog X.w) X.A (f v u) Q X.xe s2) :
 wpAny (model X.prog X.w) X.A (eval a X.env) (λv s₁=>wpAny (model X.prog X.w) X.A (eval b X.env) (λu s₂=>wpAny (model X.prog X.w) X.A (f v u) Q X.xe s₂) X.xe s₁) X.xe s:=by
 refine thn (ha pins s σ H _ I h) λv s1 hh9=>?_
 obtain⟨x,H1,I1,r1,q1⟩:=hh9
 refine thn (hb pins s1 σ H1 _ I1 q1) λu s2 hh9=>?_
 obtain⟨y,H2,I2,r2,q2⟩:=hh9
 exact hf v u s2 x y H2 I2 r1 r2 q2
theorem zlJ {op:Operator}{r:R2}(ho:OpR X (binaryOp op) r)(ha:PE X a ta)(hb:PE X b tb):PE X (.BinOp a op b pos) (tOp r ta tb):=by
 intro pins s σ H Q I h
 exact wpAny_BinOp (zmA ha hb I h λv u s2 x y H2 I2 rx ry q=>ho pins s2 σ H2 x y v u Q I2 rx ry q)
theorem zmB {op:UnaryOp}{r:V->Hp->VK->Prop}(ho:UnR X (unaryOp op) r)(ha:PE X a ta):PE X (.UnaryOp op a pos) (tUn r ta):=by
 intro pins s σ H Q I h
 exact UnaryOp_ (thn (ha pins s σ H _ I h) λv s1 ⟨x,H1,I1,r1,q1⟩=>ho pins s1 σ H1 x v Q I1 r1 q1)
theorem opI {f:Value->Value->Sem Value}{C:Int->Int->Prop}{g:Int->Int->Int}
 (rule:∀ (i j:Int) (t u:Tok) (s:Shared) (Q:Value->Shared->Prop) (E:Value->Shared->Prop),C i j->Q (.int (g i j) s.toks) { s with toks:=s.toks+1 }->wpAny (model X.prog X.w) X.A (f (.int i t) (.int j u)) Q E s) :
 OpR X f (rI C λi j=>.int (g i j)):=by
 intro pins s σ H x y v u Q I rx ry h
 obtain⟨i,j,rfl,rfl,hc,q⟩:=h
 obtain⟨t,rfl⟩:=rx
 obtain⟨t',rfl⟩:=ry
 exact rule i j t t' s _ _ hc ⟨.int (g i j),H,I.tok _,⟨_,rfl⟩,q⟩
theorem opI0 {f:Value->Value->Sem Value}{g:Int->Int->Int}
 (rule:∀ (i j:Int) (t u:Tok) (s:Shared) (Q:Value->Shared->Prop) (E:Value->Shared->Prop),Q (.int (g i j) s.toks) { s with toks:=s.toks+1 }->wpAny (model X.prog X.w) X.A (f (.int i t) (.int j u)) Q E s) :
 OpR X f (rI0 λi j=>.int (g i j)):=by
 intro pins s σ H x y v u Q I rx ry h
 obtain⟨i,j,rfl,rfl,q⟩:=h
 obtain⟨t,rfl⟩:=rx
 obtain⟨t',rfl⟩:=ry
 exact rule i j t t' s _ _ ⟨.int (g i j),H,I.tok _,⟨_,rfl⟩,q⟩
theorem zl0 {f:Value->Value->Sem Value}{g:Int->Int->Bool}
 (rule:∀ (i j:Int) (t u:Tok) (s:Shared) (Q:Value->Shared->Prop) (E:Value->Shared->Prop),Q (.bool (g i j)) s->wpAny (model X.prog X.w) X.A (f (.int i t) (.int j u)) Q E s) :
 OpR X f (rI0 λi j=>.bl (g i j)):=by
 intro pins s σ H x y v u Q I rx ry h
 obtain⟨i,j,rfl,rfl,q⟩:=h
 obtain⟨t,rfl⟩:=rx
 obtain⟨t',rfl⟩:=ry
 exact rule i j t t' s _ _ ⟨.bl (g i j),H,I,rfl,q⟩
def zmT (i j:Int):Prop:=(-(2 ^ 64) < i/\i < 2 ^ 64)\/(-(2 ^ 64) < j/\j < 2 ^ 64)
theorem zmT.ok {i j:Int}(h:zmT i j):IntMulOk i j:=by
 rcases h with ⟨h1,h2⟩ | ⟨h1,h2⟩
 .exact .of_left (intBits_le_64 h1 h2)
 .exact .of_right (intBits_le_64 h1 h2)
theorem zkq:OpR X (binaryOp .Add) (rI0 λi j=>.int (i+j)):=opI0 λ_ _ _ _ _ _ _ q=>add_int q
theorem zkw:OpR X (binaryOp .Sub) (rI0 λi j=>.int (i - j)):=opI0 λ_ _ _ _ _ _ _ q=>sub_int q
theorem zk6:OpR X (binaryOp .Mult) (rI zmT λi j=>.int (i*j)):=opI λ_ _ _ _ _ _ _ hc q=>mul_int q hc.ok
theorem zlA:OpR X (binaryOp .Mod) (rI (λ_ j=>0 < j) λi j=>.int (i % j)):=opI λi j _ _ _ _ _ hc q=>by
 have h1:(0:Int) < j:=hc
 exact mod_int' (by omega) (by rw[Int.fmod_eq_emod_of_nonneg i (by omega)];exact q)
theorem unI {f:Value->Sem Value}{g:Int->Int}
 (rule:∀ (i:Int) (t:Tok) (s:Shared) (Q:Value->Shared->Prop) (E:Value->Shared->Prop),Q (.int (g i) s.toks) { s with toks:=s.toks+1 }->wpAny (model X.prog X.w) X.A (f (.int i t)) Q E s) :
 UnR X f (rU λi=>.int (g i)):=by
 intro pins s σ H x v Q I rx h
 obtain⟨i,rfl,q⟩:=h
 obtain⟨t,rfl⟩:=rx
 exact rule i t s _ _ ⟨.int (g i),H,I.tok _,⟨_,rfl⟩,q⟩
theorem zkI:UnR X (unaryOp .USub) (rU λi=>.int (-i)):=unI λ_ _ _ _ _ q=>neg_int q
end
def scal:V->V->Bool
 | .non,.non=>true | .non,.int _=>true | .int _,.non=>true | .non,.bl _=>true | .bl _,.non=>true | .non,.str _=>true | .str _,.non=>true
 | .int _,.int _=>true | .bl _,.bl _=>true | .str _,.str _=>true | .byt _,.byt _=>true
 | .int _,.str _=>true | .str _,.int _=>true | .bl _,.str _=>true | .str _,.bl _=>true
 | _,_=>false
def rEq:R2:=λx y H Q=>scal x y=true/\Q (.bl (decide (x=y))) H
def rNe:R2:=λx y H Q=>scal x y=true/\Q (.bl (!decide (x=y))) H
theorem zdQ {i j:Int}:decide (V.int i=V.int j)=(i == j):=by
 rw[u2e]
 simp
theorem zhW {i j:Bool}:decide (V.bl i=V.bl j)=(i == j):=by
 rw[u2e]
 simp
theorem zeu {i j:Str}:decide (V.str i=V.str j)=(i == j):=by
 rw[u2e]
 simp
theorem zd4 {i j:Array UInt8}:decide (V.byt i=V.byt j)=(i.toList == j.toList):=by
 rw[u2e]
 cases i
 cases j
 simp
section
variable {X:Cx}{a b c:Expr}{ta tb tc:TE}{pos:Pos}
theorem zL {pins:List (Addr × Obj)}{σ:St}{H:Hp}{s:Shared}{Q:VK}{k k':Bool}(I:Inv X pins σ H s)(q:Q (.bl k) H)(e:k=k'):EP X pins σ Q (.bool k') s:=by
 subst e
 exact⟨.bl k,H,I,rfl,q⟩
theorem zm4:OpR X (compareOp .Eq) rEq:=by
 intro pins s σ H x y v u Q I rx ry h
 obtain⟨hs,q⟩:=h
 cases x with
 | non =>
  cases rx
  cases y with
  | non=>cases ry;exact PySem.EqNone.eq_none_none (zL I q (by simp))
  | bl j=>cases ry;exact PySem.EqNone.eq_none_bool (zL I q (by simp))
  | int j=>obtain⟨t',rfl⟩:=ry;exact PySem.EqNone.eq_none_int (zL I q (by simp))
  | str j=>obtain⟨t',rfl⟩:=ry;exact PySem.EqNone.eq_none_str (zL I q (by simp))
  | _=>exact absurd (show false=true from hs) u4
 | bl i =>
  cases rx
  cases y with
  | non=>cases ry;exact PySem.EqNone.eq_bool_none (zL I q (by simp))
  | bl j=>cases ry;exact eq_bool (zL I q zhW)
  | str j=>obtain⟨t',rfl⟩:=ry;exact PySem.EqMixed.eq_bool_str (zL I q (by simp))
  | _=>exact absurd (show false=true from hs) u4
 | int i =>
  obtain⟨t,rfl⟩:=rx
  cases y with
  | non=>cases ry;exact PySem.EqNone.eq_int_none (zL I q (by simp))
  | int j=>obtain⟨t',rfl⟩:=ry;exact eq_int (zL I q zdQ)
  | str j=>obtain⟨t',rfl⟩:=ry;exact PySem.EqMixed.eq_int_str (zL I q (by simp))
  | _=>exact absurd (show false=true from hs) u4
 | str i =>
  obtain⟨t,rfl⟩:=rx
  cases y with
  | non=>cases ry;exact PySem.EqNone.eq_str_none (zL I q (by simp))
  | bl j=>cases ry;exact PySem.EqMixed.eq_str_bool (zL I q (by simp))
  | int j=>obtain⟨t',rfl⟩:=ry;exact PySem.EqMixed.eq_str_int (zL I q (by simp))
  | str j=>obtain⟨t',rfl⟩:=ry;exact eq_str (zL I q zeu)
  | _=>exact absurd (show false=true from hs) u4
 | byt i =>
  obtain⟨t,rfl⟩:=rx
  cases y with
  | byt j=>obtain⟨t',rfl⟩:=ry;exact W.eq_bytes (zL I q zd4)
  | _=>exact absurd (show false=true from hs) u4
 | _=>cases y <;> exact absurd (show false=true from hs) u4
theorem zfv:OpR X (compareOp .NotEq) rNe:=by
 intro pins s σ H x y v u Q I rx ry h
 obtain⟨hs,q⟩:=h
 cases x with
 | non =>
  cases rx
  cases y with
  | non=>cases ry;exact PySem.EqNone.ne_none_none (zL I q (by simp))
  | bl j=>cases ry;exact PySem.EqNone.ne_none_bool (zL I q (by simp))
  | int j=>obtain⟨t',rfl⟩:=ry;exact PySem.EqNone.ne_none_int (zL I q (by simp))
  | str j=>obtain⟨t',rfl⟩:=ry;exact PySem.EqNone.ne_none_str (zL I q (by simp))
  | _=>exact absurd (show false=true from hs) u4
 | bl i =>
  cases rx
  cases y with
  | non=>cases ry;exact PySem.EqNone.ne_bool_none (zL I q (by simp))
  | bl j=>cases ry;exact ne_bool (zL I q (u0W not zhW))
  | str j=>obtain⟨t',rfl⟩:=ry;exact PySem.EqMixed.ne_bool_str (zL I q (by simp))
  | _=>exact absurd (show false=true from hs) u4
 | int i =>
  obtain⟨t,rfl⟩:=rx
  cases y with
  | non=>cases ry;exact PySem.EqNone.ne_int_none (zL I q (by simp))
  | int j=>obtain⟨t',rfl⟩:=ry;exact ne_int (zL I q (u0W not zdQ))
  | str j=>obtain⟨t',rfl⟩:=ry;exact PySem.EqMixed.ne_int_str (zL I q (by simp))
  | _=>exact absurd (show false=true from hs) u4
 | str i =>
  obtain⟨t,rfl⟩:=rx
  cases y with
  | non=>cases ry;exact PySem.EqNone.ne_str_none (zL I q (by simp))
  | bl j=>cases ry;exact PySem.EqMixed.ne_str_bool (zL I q (by simp))
  | int j=>obtain⟨t',rfl⟩:=ry;exact PySem.EqMixed.ne_str_int (zL I q (by simp))
  | str j=>obtain⟨t',rfl⟩:=ry;exact ne_str (zL I q (u0W not zeu))
  | _=>exact absurd (show false=true from hs) u4
 | byt i =>
  obtain⟨t,rfl⟩:=rx
  cases y with
  | byt j=>obtain⟨t',rfl⟩:=ry;exact W.ne_bytes (zL I q (u0W not zd4))
  | _=>exact absurd (show false=true from hs) u4
 | _=>cases y <;> exact absurd (show false=true from hs) u4
theorem zjr:OpR X (compareOp .Lt) (rI0 λi j=>.bl (decide (i < j))):=zl0 λ_ _ _ _ _ _ _ q=>lt_int q
theorem zdK:OpR X (compareOp .LtE) (rI0 λi j=>.bl (decide (i<=j))):=zl0 λ_ _ _ _ _ _ _ q=>le_int q
theorem zbN:OpR X (compareOp .Gt) (rI0 λi j=>.bl (decide (j < i))):=zl0 λ_ _ _ _ _ _ _ q=>gt_int q
theorem znc:OpR X (compareOp .GtE) (rI0 λi j=>.bl (decide (j<=i))):=zl0 λ_ _ _ _ _ _ _ q=>ge_int q
theorem zkF:OpR X (compareOp .Is) (λx y H Q=>y=.non/\Q (.bl (decide (x=.non))) H):=by
 intro pins s σ H x y v u Q I rx ry h
 obtain⟨rfl,q⟩:=h
 cases ry
 refine is_none_gen (zL I q ?_)
 cases x <;> first
  | (cases rx;rfl)
  | (obtain⟨t,rfl⟩:=rx;rfl)
theorem zit:OpR X (compareOp .IsNot) (λx y H Q=>y=.non/\Q (.bl (!decide (x=.non))) H):=by
 intro pins s σ H x y v u Q I rx ry h
 obtain⟨rfl,q⟩:=h
 cases ry
 refine isnot_none_gen (zL I q ?_)
 cases x <;> first
  | (cases rx;rfl)
  | (obtain⟨t,rfl⟩:=rx;rfl)
theorem OpR.or {f:Value->Value->Sem Value}{r r':R2}(h:OpR X f r)(h':OpR X f r'):OpR X f (λx y H Q=>r x y H Q\/r' x y H Q):=by
 intro pins s σ H x y v u Q I rx ry q
 rcases q with q | q
 .exact h pins s σ H x y v u Q I rx ry q
 .exact h' pins s σ H x y v u Q I rx ry q
theorem zN (b:Expr){op:CmpOp}(h:op≠.In:=by decide)(h2:op≠.NotIn:=by decide):behindInMarks op b=false:=by
 have e1:(op == CmpOp.In)=false:=by cases op <;> first | rfl | exact absurd rfl h
 have e2:(op == CmpOp.NotIn)=false:=by cases op <;> first | rfl | exact absurd rfl h2
 cases b <;> simp[behindInMarks,e1,e2]
theorem ziZ {op:CmpOp}{r:R2}(ho:OpR X (compareOp op) r)(ha:PE X a ta)(hb:PE X b tb)(hm:behindInMarks op b=false):PE X (.Compare a [op] [b] pos) (tOp r ta tb):=by
 intro pins s σ H Q I h
 exact wpAny_Compare1 (zmA ha hb I h λv u s2 x y H2 I2 rx ry q=>ho pins s2 σ H2 x y v u Q I2 rx ry q) hm
def zlK (t:TE):TT:=fun σ H Q=>t σ H λx H'=>∃ k,x=.bl k/\Q k H'
theorem zjo {op:CmpOp}{r:R2}(ho:OpR X (compareOp op) r)(ha:PE X a ta)(hb:PE X b tb)(hm:behindInMarks op b=false):PT X (.Compare a [op] [b] pos) (zlK (tOp r ta tb)):=by
 intro pins s σ H Q I h
 refine wpAny_isTrue_Compare1 (thn (ha pins s σ H _ I h) λv s1 ⟨x,H1,I1,r1,q1⟩=>thn (hb pins s1 σ H1 _ I1 q1) λu s2 ⟨y,H2,I2,r2,q2⟩ =>
  thn (ho pins s2 σ H2 x y v u _ I2 r1 r2 q2) λc s3 ⟨z,H3,I3,r3,k,e,q3⟩=>?_) hm
 subst e
 cases r3
 exact u00 ⟨H3,I3,q3⟩
def zf4 (r r':R2)(ta tb tc:TE):TE:=fun σ H Q=>ta σ H λx H1=>tb σ H1 λy H2=>r x y H2 λz H3=>∃ k,z=.bl k /\
 (if k=true then tc σ H3 λw' H4=>r' y w' H4 Q else Q (.bl false) H3)
theorem zg0 {op op':CmpOp}{r r':R2}(ho:OpR X (compareOp op) r)(ho':OpR X (compareOp op') r')(ha:PE X a ta)(hb:PE X b tb)(hc:PE X c tc)
 (hm:lastMarks [op,op'] [b,c]=false:=by with_unfolding_all rfl):PE X (.Compare a [op,op'] [b,c] pos) (zf4 r r' ta tb tc):=by
 intro pins s σ H Q I h
 refine Compare_chain (thn (ha pins s σ H _ I h) λv s1 ⟨x,H1,I1,r1,q1⟩=>chain_link (thn (hb pins s1 σ H1 _ I1 q1) λu s2 ⟨y,H2,I2,r2,q2⟩ =>
  thn (ho pins s2 σ H2 x y v u _ I2 r1 r2 q2) λd s3 ⟨z,H3,I3,r3,k,e,q3⟩=>?_)) hm
 subst e
 cases r3
 refine u00 ?_
 cases k with
 | false=>exact ite_ff ⟨.bl false,H3,I3,rfl,q3⟩
 | true=>exact ite_tt (chain_last (thn (hc pins s3 σ H3 _ I3 q3) λw' s4 ⟨z',H4,I4,r4,q4⟩=>ho' pins s4 σ H4 y z' u w' Q I4 r2 r4 q4))
theorem zaz:(sizeLine:Nat) < 2 ^ 63:=by rw[u1I];decide
theorem zdo:OpR X (binaryOp .Add) (λx y H Q=>∃ i j,x=.str i/\y=.str j/\i.length+j.length<=sizeLine/\Q (.str (i++j)) H):=by
 intro pins s σ H x y v u Q I rx ry h
 obtain⟨i,j,rfl,rfl,hz,q⟩:=h
 obtain⟨t,rfl⟩:=rx
 obtain⟨t',rfl⟩:=ry
 exact add_str (λt' tk=>⟨.str (i++j),H,I.tok _,⟨_,rfl⟩,q⟩) hz
theorem Vk {x:V}{us:List Value}(r:zU [x] us):∃ u,us=[u]/\yA x u:=by
 cases r with
 | cons r1 r2=>cases r2;exact⟨_,rfl,r1⟩
theorem zdR {x y:V}{us:List Value}(r:zU [x,y] us):∃ u w',us=[u,w']/\yA x u/\yA y w':=by
 cases r with
 | cons r1 r2 =>
  cases r2 with
  | cons r3 r4=>cases r4;exact⟨_,_,rfl,r1,r3⟩
theorem Zk (hc:X.calm=true):Ys X (.builtin "max") (λxs H Q=>∃ i j,xs=[.int i,.int j]/\Q (.int (if j > i then j else i)) H):=by
 intro pins s σ H xs us Q I r h
 obtain⟨i,j,rfl,q⟩:=h
 obtain⟨u,w',rfl,⟨t,rfl⟩,⟨t',rfl⟩⟩:=zdR r
 refine max_two_ints (I.ok.hd hc) λh' tk k=>⟨_,H,I.kept k,?_,q⟩
 by_cases hj:j > i
 .rw[u8 hj,u8 hj];exact⟨_,rfl⟩
 .rw[u9 hj,u9 hj];exact⟨_,rfl⟩
theorem zbd (hc:X.calm=true):Ys X (.builtin "min") (λxs H Q=>∃ i j,xs=[.int i,.int j]/\Q (.int (if j < i then j else i)) H):=by
 intro pins s σ H xs us Q I r h
 obtain⟨i,j,rfl,q⟩:=h
 obtain⟨u,w',rfl,⟨t,rfl⟩,⟨t',rfl⟩⟩:=zdR r
 refine min_two_ints (I.ok.hd hc) λh' tk k=>⟨_,H,I.kept k,?_,q⟩
 by_cases hj:j < i
 .rw[u8 hj,u8 hj];exact⟨_,rfl⟩
 .rw[u9 hj,u9 hj];exact⟨_,rfl⟩
end
structure zm3 (h:Heap) (x dx C:Addr) (mA:Str->Option Value):Prop where
 obj:h.get? x=some (W.instObj C dx)
 ns:h.Ns1 dx mA
 ne:dx≠x
theorem zfR {h:Heap}{dx:Addr}{mA:Str->Option Value}(n:h.Ns1 dx mA):∃ od,h.get? dx=some od/\∀ name,W.lookIn name od=some (mA name):=by
 obtain⟨o,es,ep,ho,hd,hk,_,hm⟩:=n
 refine⟨o,ho,λname=>?_⟩
 have e:=hm name
 unfold nsFind findBy at e
 rw[<-Array.find?_toList]at e
 unfold W.lookIn
 rw[hd]
 dsimp only
 split
 .rename_i y q
  rw[q]at e
  exact u0W some e
 .rename_i q
  rw[q]at e
  have a:es.toList.any (·.refKey)=false:=by
   rw[List.any_eq_false]
   intro y hy
   obtain⟨z,t,hkey⟩:=hk y (Array.mem_toList_iff.mp hy)
   simp[DictEntry.refKey,hkey]
  have a':¬ es.toList.any (·.refKey)=true:=by rw[a];exact u4
  rw[u9 a']
  exact u0W some e
theorem zm3.look {h:Heap}{x dx C:Addr}{mA:Str->Option Value}(I:zm3 h x dx C mA):∃ od,PySem.W.InstAt h x (W.instObj C dx) C (some od)/\∀ name,W.lookIn name od=some (mA name) :=
 let ⟨od,ho,hl⟩:=zfR I.ns
 ⟨od,⟨I.obj,rfl,rfl,ho⟩,hl⟩
section
variable {P:Program}{w:World}{H H':Hp}{h h':Heap}{a C dx:Addr}{fs fs':List (Str × V)}
theorem zjI (hok:HOk P w H h)(e:H a=some (.ins C dx fs)):∃ mA,zm3 h a dx C mA/\(∀ f,zjt (fs.lookup f) (mA f))/\PySem.Within mA (fs.map (·.1))/\fs.length<=1000/\H dx=some (.own a):=by
 obtain⟨d,z,ne,ob,mA,n,r,q⟩:=(show yo P w H h a (.ins C dx fs)from hok a _ e)
 exact⟨mA,⟨ob,n,ne⟩,r,q,z,d⟩
end
structure Cls (K:W.Frag) (C:Addr):Prop where
 pg:W.plainGet K C Str.empty=true
 hd:W.hasDictIn K C=true
 po:W.plainOver K C=true
 sa:W.findIn K (.ref C) "__setattr__"=some (some (.builtin "object.__setattr__"))
theorem Cls.get {K:W.Frag}{C:Addr}(c:Cls K C)(f:Str):W.plainGet K C f=true:=c.pg
section
variable {X:Cx}{pins:List (Addr × Obj)}{σ:St}{H:Hp}{s:Shared}{A:Around}{E:Value->Shared->Prop}{Q:Value->Shared->Prop}{c:Value}{b:Bool}
inductive zcu (K:W.Frag) (H:Hp):V->Value->Prop where
 | non:zcu K H .non (.type "NoneType")
 | bl (x:Bool):zcu K H (.bl x) (.type "bool")
 | int (i:Int):zcu K H (.int i) (.type "int")
 | str (x:Str):zcu K H (.str x) (.type "str")
 | flt (x:UInt64):zcu K H (.flt x) (.type "float")
 | lst {a:Addr} {xs:List V} (e:H a=some (.lst xs)):zcu K H (.ref a) (.type "list")
 | frz {a:Addr} {o:Obj} {xs:List V} (e:H a=some (.frz o (.lst xs))):zcu K H (.ref a) (.type "list")
 | tup {a:Addr} {xs:List V} (e:H a=some (.tup xs)):zcu K H (.ref a) (.type "tuple")
 | dK {a:Addr} {kvs:List (Key × V)} (e:H a=some (.dK kvs)):zcu K H (.ref a) (.type "dict")
 | dT {a:Addr} {kvs:List (List Key × V)} (e:H a=some (.dT kvs)):zcu K H (.ref a) (.type "dict")
 | ins {a C dx:Addr} {fs:List (Str × V)} (e:H a=some (.ins C dx fs)) (cl:Cls K C) (ha:W.findIn K (.ref C) "__class__"=some (some (.builtin "object.__class__")))
  (hn:W.specialIn K (.builtin "object.__class__") "__get__"=some (some (.builtin "getset_descriptor.__get__"))) (htk:W.takesIn K (.builtin "object.__class__")=some true)
  (hm:W.mroIn K C (.type "object")=some true):zcu K H (.ref a) (.ref C)
theorem ze5 {x:V}{u t:Value}(I:Inv X pins σ H s)(rx:yA x u)(ty:zcu X.K H x t)(e:W.kitOne X.K t c=some b)(h:∀ tk,Q (.bool b) { s with toks:=tk }) :
 wpAny (model X.prog X.w) A (call (.builtin "isinstance") [u,c]) Q E s:=by
 cases ty with
 | non=>cases (show u=Value.none from rx);exact u0n W.kitx_none I.kIn True.intro e (λz=>nomatch z) h
 | bl y=>cases (show u=Value.bool y from rx);exact u0n W.kitx_bool I.kIn True.intro e (λz=>nomatch z) h
 | int i=>obtain⟨t,q⟩:=(show ∃ t,u=Value.int i t from rx);cases q;exact u0n W.kitx_int I.kIn True.intro e (λz=>nomatch z) h
 | str y=>obtain⟨t,q⟩:=(show ∃ t,u=Value.str y t from rx);cases q;exact u0n W.kitx_str I.kIn True.intro e (λz=>nomatch z) h
 | flt y=>obtain⟨t,q⟩:=(show ∃ t,u=Value.float y t from rx);cases q;exact u0n W.kitx_float I.kIn True.intro e (λz=>nomatch z) h
 | @lst a xs ea =>
  cases (show u=Value.ref a from rx)
  obtain⟨_,_,n,_,h1⟩:=(show yo X.prog X.w H s.heap a (.lst xs)from I.hok a _ ea)
  exact u0n W.kitx_list I.kIn ⟨_,h1,rfl⟩ e (λz=>nomatch z) h
 | @frz a ob xs ea =>
  cases (show u=Value.ref a from rx)
  obtain⟨_,_,_,n,_,h1⟩:=(show yo X.prog X.w H s.heap a (.frz ob (.lst xs))from I.hok a _ ea)
  exact u0n W.kitx_list I.kIn ⟨_,h1,rfl⟩ e (λz=>nomatch z) h
 | @tup a xs ea =>
  cases (show u=Value.ref a from rx)
  obtain⟨_,_,_,p⟩:=(show yo X.prog X.w H s.heap a (.tup xs)from I.hok a _ ea)
  obtain⟨o,h1,h2,_⟩:=p
  exact u0n W.kitx_tuple I.kIn ⟨o,h1,h2⟩ e (λz=>nomatch z) h
 | @dK a kvs ea =>
  cases (show u=Value.ref a from rx)
  obtain⟨_,_,vs,_,p⟩:=(show yo X.prog X.w H s.heap a (.dK kvs)from I.hok a _ ea)
  obtain⟨o,es,ep,h1,h2,_⟩:=p
  exact u0n u2t I.kIn ⟨o,h1,h2.1⟩ e (λz=>nomatch z) h
 | @dT a kvs ea =>
  cases (show u=Value.ref a from rx)
  obtain⟨_,_,xs,_,o,es,ep,h1,h2,_⟩:=(show yo X.prog X.w H s.heap a (.dT kvs)from I.hok a _ ea)
  exact u0n u2t I.kIn ⟨o,h1,h2.1⟩ e (λz=>nomatch z) h
 | @ins a C dx fs ea cl ha hn htk hm =>
  cases (show u=Value.ref a from rx)
  obtain⟨mA,O,_⟩:=zjI I.hok ea
  obtain⟨od,J,_⟩:=O.look
  exact u0n (W.kitx_own (cl.get _) cl.hd ha hn htk hm) I.kIn J e (λz=>nomatch z) h
end
structure vf (k:Nat) (A:Around):Prop where
 hd:A.handled=none
 dp:A.depth+3*k+5 < recursionLimit
 un:A.units+16*k+200 < cLine
theorem vf.mono {j k:Nat}{A:Around}(r:vf k A)(h:j<=k):vf j A:=⟨r.hd,by have:=r.dp;omega,by have:=r.un;omega⟩
theorem vf.deeper {k:Nat}{A:Around}(r:vf (k+1) A)(env:Env):vf k (A.deeper env) :=
 ⟨r.hd,by have:=r.dp;show A.depth+1+3*k+5 < _;omega,by have:=r.un;show A.units+3+16*k+200 < _;omega⟩
theorem vf.in1 {k:Nat}{A:Around}(r:vf (k+1) A):vf k A.in1 :=
 ⟨r.hd,by have:=r.dp;show A.depth+3*k+5 < _;omega,by have:=r.un;show A.units+1+16*k+200 < _;omega⟩
theorem vf.depth {k:Nat}{A:Around}(r:vf k A):A.depth < recursionLimit:=by have:=r.dp;omega
theorem vf.units {k:Nat}{A:Around}(r:vf k A):A.units+64 < cLine:=by have:=r.un;omega
theorem vf.units0 {k:Nat}{A:Around}(r:vf k A):A.units < cLine:=by have:=r.un;omega
def tNil:TA:=λ_ H Q=>Q [] H
def zmo (ta:TE)(tr:TA):TA:=fun σ H Q=>ta σ H λx H1=>tr σ H1 λxs H2=>Q (x::xs) H2
section
variable {X:Cx}{e:Expr}{es:List Expr}{te:TE}{t:TA}{pos:Pos}
theorem zcw:PA X [] tNil:=λ_ _ _ _ H Q I h=>u2r ⟨[],H,I,.nil,h⟩
theorem Zz (ha:PE X e te)(hr:PA X es t)(hs:starEach (e::es) X.env=(false,eval e X.env)::starEach es X.env:=by rfl):PA X (e::es) (zmo te t):=by
 intro pos pins s σ H Q I h
 rw[hs]
 show wpAny _ _ (spliced ((false,eval e X.env)::backTo pos (starEach es X.env))) _ _ s
 refine u2f (thn (ha pins s σ H _ I h) λu s1 hh9=>?_)
 obtain⟨x,H1,I1,r1,q1⟩:=hh9
 exact thn (hr pos pins s1 σ H1 _ I1 q1) λus s2 ⟨xs,H2,I2,r2,q2⟩=>⟨x::xs,H2,I2,.cons r1 r2,q2⟩
def tTup (t:TA):TE:=fun σ H Q=>t σ H λxs H1=>xs.length<=sizeLine/\∀ p,H1 p=none->Q (.ref p) (upd H1 p (.tup xs))
def tLst (t:TA):TE:=fun σ H Q=>t σ H λxs H1=>xs.length<=sizeLine/\∀ p,H1 p=none->Q (.ref p) (upd H1 p (.lst xs))
theorem zlj {x1}(h:PA X es t):PE X (.Tuple es x1 pos) (tTup t):=by
 intro pins s σ H Q I hq
 refine wpAny_Tuple_spliced (thn (h pos pins s σ H _ I hq) λus s1 ⟨xs,H1,I1,r,z,q⟩=>⟨by rw[<-r.length];exact z,?_⟩)
 have hf:H1 s1.heap.objs.size=none:=I1.hok.fresh (q5 _)
 refine⟨.ref s1.heap.objs.size,upd H1 s1.heap.objs.size (.tup xs),I1.laid (t':=s1.toks) (λb u e=>u5 _ e) (q5 _) ?_,rfl,q _ hf⟩
 exact⟨z,us,r,⟨_,j8 _ rfl,rfl,_,rfl⟩⟩
theorem zlL (h:PA X es t):PE X (.List es pos) (tLst t):=by
 intro pins s σ H Q I hq
 refine wpAny_List_spliced (thn (h pos pins s σ H _ I hq) λus s1 ⟨xs,H1,I1,r,z,q⟩=>⟨by rw[<-r.length];exact z,?_⟩)
 have hf:H1 s1.heap.objs.size=none:=I1.hok.fresh (q5 _)
 refine⟨.ref s1.heap.objs.size,upd H1 s1.heap.objs.size (.lst xs),I1.laid (t':=s1.toks) (λb u e=>u5 _ e) (q5 _) ?_,rfl,q _ hf⟩
 exact⟨z,us,0,r,j8 _ rfl⟩
end
abbrev Sp:=List V->Hp->VK->XK->Prop
abbrev CXT:=List Env->Hp->Shared->XK->Value->Shared->Prop
structure zlX (P:Program) (w:World) (K:W.Frag) (mg:Str->Option Value) (base:Heap) (A:Around) (outer:List Env) (s:Shared) (H:Hp):Prop where
 frames:A.frames=some outer
 mod:Mod K mg base
 bs:Bs base s.heap H
 bsz:base.objs.size<=s.heap.objs.size
 funs:s.heap.FunFrames base outer
 frf:∀ b∈frs outer,H b=none
 hok:HOk P w H s.heap
 bare:AllBare s.gens
def CE (outer:List Env)(P:Program)(w:World)(H:Hp)(s:Shared)(Q:VK)(u:Value)(s':Shared):Prop :=
 ∃ v H',s'.os=s.os/\AllBare s'.gens/\Un (frs outer) [] H H' s.heap s'.heap/\HOk P w H' s'.heap/\yA v u/\Q v H'
def CR (CX:CXT)(outer:List Env)(P:Program)(w:World)(H:Hp)(s:Shared)(Q:VK)(E:XK)(r:Result)(s':Shared):Prop :=
 match r with
 | .ok (.ret u)=>CE outer P w H s Q u s'
 | .ok _=>False
 | .error e=>CX outer H s E e s'
structure xo (P:Program) (w:World) (K:W.Frag) (mg:Str->Option Value) (base:Heap) (CX:CXT) (k:Nat) (f:Addr) (fd:FuncData) (ps:List Str) (sp:Sp):Prop where
 len:∀ vs H Q E,sp vs H Q E->vs.length=ps.length
 run:∀ (A:Around) (outer:List Env) (s:Shared) (H:Hp) (args:Args) (us:List Value) (vs:List V) (Q:VK) (E:XK),vf k A->zlX P w K mg base A outer s H->BindsTo s fd args (ps.zip us)->zU vs us->sp vs H Q E ->
  codeAny (model P w) A (.call (.ref f) args) (CR CX outer P w H s Q E) s
theorem xo.mono {P:Program}{w:World}{K:W.Frag}{mg:Str->Option Value}{base:Heap}{CX:CXT}{j k:Nat}{f:Addr}{fd:FuncData}{ps:List Str}{sp:Sp}(F:xo P w K mg base CX j f fd ps sp)(h:j<=k) :
 xo P w K mg base CX k f fd ps sp:=⟨F.len,λA outer s H args us vs Q E hr=>F.run A outer s H args us vs Q E (hr.mono h)⟩
theorem xo.imp {P:Program}{w:World}{K:W.Frag}{mg:Str->Option Value}{base:Heap}{CX:CXT}{k:Nat}{f:Addr}{fd:FuncData}{ps:List Str}{sp sp':Sp}(F:xo P w K mg base CX k f fd ps sp)
 (h:∀ vs H Q E,sp' vs H Q E->sp vs H Q E):xo P w K mg base CX k f fd ps sp' :=
 ⟨λvs H Q E q=>F.len vs H Q E (h _ _ _ _ q),λA outer s H args us vs Q E hr he hb hv hs=>F.run A outer s H args us vs Q E hr he hb hv (h _ _ _ _ hs)⟩
section
variable {X:Cx}{pins:List (Addr × Obj)}{σ:St}{H:Hp}{s s':Shared}
theorem Inv.env0 (I:Inv X pins σ H s):zlX X.prog X.w X.K X.mg X.base X.A X.stack s H :=
 ⟨I.ok.frames,I.ok.mod,I.bs,u0t I.ok.bsz I.sz,I.stack,I.stkFree,I.hok,I.bare⟩
theorem Inv.after {Q:VK}{u:Value}(I:Inv X pins σ H s)(h:CE X.stack X.prog X.w H s Q u s'):EP X pins σ Q u s':=by
 obtain⟨v,H',os,bare,un,hok,r,q⟩:=h
 obtain⟨hh,g,d,t,os'⟩:=s'
 obtain rfl:os'=s.os:=os
 exact⟨v,H',I.call (h':=hh) (g':=g) (d':=d) (t':=t) (ch:=[]) un hok bare (λb z=>absurd z (by simp)),r,q⟩
end
def zm5 (sp:Sp)(dvs:List V)(E:XK)(t:TA):TE:=fun σ H Q=>t σ H λvs H1=>sp (vs++dvs) H1 Q E
def zbq (K:W.Frag)(fd:FuncData)(ps:List Str)(ds:List Value):Prop :=
 ∀ (s:Shared) (us:List Value),K.In s.heap->(us++ds).length=ps.length->BindsTo s fd ⟨us,[]⟩ (ps.zip (us++ds))
theorem zbq.all {K:W.Frag}{fd:FuncData}{ps:List Str}(h:∀ us:List Value,us.length=ps.length->bindArgs fd ⟨us,[]⟩=pure (ps.zip us)):zbq K fd ps []:=λs us _ hl=>by
 rw[u1o]at hl ⊢
 exact .of_eq (h us hl)
def zev (CX:CXT)(X:Cx)(E:XK):Prop:=∀ (pins:List (Addr × Obj)) (σ:St) (H:Hp) (s:Shared) (e:Value) (s':Shared),Inv X pins σ H s->CX X.stack H s E e s'->X.xe e s'
section
variable {X:Cx}{CX:CXT}{k:Nat}{f C:Addr}{fd:FuncData}{ps:List Str}{sp:Sp}{dvs:List V}{ds:List Value}{E:XK}{x m:Str}{p pos apos:Pos}{e o:Expr}{es:List Expr}{ta:TE}{t:TA}
theorem zkT {pins:List (Addr × Obj)}{σ:St}{H:Hp}{s:Shared}{Q:VK}{us:List Value}{vs:List V}(F:xo X.prog X.w X.K X.mg X.base CX k f fd ps sp)(hr:vf k X.A)(hb:zbq X.K fd ps ds)(hd:zU dvs ds)(hx:zev CX X E)
 (I:Inv X pins σ H s) (r:zU vs us) (h:sp (vs++dvs) H Q E):wpAny (model X.prog X.w) X.A (call (.ref f) us) (EP X pins σ Q) X.xe s:=by
 have r2:zU (vs++dvs) (us++ds):=r.append hd
 have hl:(us++ds).length=ps.length:=by rw[<-r2.length];exact F.len _ _ _ _ h
 refine wpAny_call (u22 (F.run X.A X.stack s H ⟨us,[]⟩ (us++ds) (vs++dvs) Q E hr I.env0 (hb s us I.kIn hl) r2 h) λr s' hq=>?_)
 cases r with
 | error e=>exact hx pins σ H s e s' I hq
 | ok fl =>
  cases fl with
  | ret u=>exact I.after hq
  | next=>exact False.elim hq
  | brk=>exact False.elim hq
  | cont=>exact False.elim hq
theorem zi7 (F:xo X.prog X.w X.K X.mg X.base CX k f fd ps sp)(hr:vf k X.A)(hg:Gl X x)(hm:X.mg x=some (.ref f))(hk:W.keepIn X.K (.ref f)=true)(hb:zbq X.K fd ps ds)(hd:zU dvs ds)(hx:zev CX X E)
 (ha:PA X (e::es) t) (hdb:(x == ("__debug__":Str))=false:=by decide) (he:starEach (e::es) X.env=(false,eval e X.env)::starEach es X.env:=by rfl) (hpl:(backTo pos (starEach es X.env)).any (·.1)=false:=by rfl) :
 PE X (.Call (.Name x p) (e::es) [] pos) (zm5 sp dvs E t):=by
 intro pins s σ H Q I h
 refine u2m (ze3 I hg hm ?_ hdb)
 refine W.callWith_K (h₀:=X.base) I.ok.mod.kin hk (thn (ha pos pins s σ H _ I h) λus s1 ⟨vs,H1,I1,r,q⟩=>⟨I1.kIn,?_⟩) he hpl
 exact zkT F hr hb hd hx I1 r q
end
structure zt (N P:List Str) (sc:Scope):Prop where
 kind:sc.kind=.function
 co:sc.isCoroutine=false
 gen:sc.isGenerator=false
 nd:N.Nodup
 pre:N.take P.length=P
 par:∀ x∈P,sc.names.lookup x=some .local\/sc.names.lookup x=some .cell
 nofree:∀ y∈sc.names,y.2≠.free
theorem zax {kindOf:Str->Option NameKind}{x:Str}:∀ {binds:List (Str × Value)} {m:Str->Option Value},(∀ v,(x,v)∉binds)->bindL kindOf binds m x=m x
 | [],_,_=>rfl
 | (n,v)::r,m,h=>by
  unfold bindL
  rw[zax λw hw=>h w (b8 _ hw)]
  split
  .have:x≠n:=by rintro rfl;exact h v m7
   simp[this]
  .rfl
theorem za4 {kindOf:Str->Option NameKind}{x:Str}:∀ {binds:List (Str × Value)} {m:Str->Option Value},(∀ v,(x,v)∉binds)->bindC kindOf binds m x=m x
 | [],_,_=>rfl
 | (n,v)::r,m,h=>by
  unfold bindC
  rw[za4 λw hw=>h w (b8 _ hw)]
  split
  .rfl
  .have:x≠n:=by rintro rfl;exact h v m7
   simp[this]
theorem zaY {kindOf:Str->Option NameKind}{x:Str}{v:Value}:∀ {P:List Str} {vs:List Value} {i:Nat} {m:Str->Option Value},P.Nodup->P[i]?=some x->vs[i]?=some v->kindOf x=some .local ->
 bindL kindOf (P.zip vs) m x=some v
 | [],_,_,_,_,h,_,_=>by simp at h
 | _::_,[],_,_,_,_,h,_=>by simp at h
 | p::P,w::vs,0,m,nd,h1,h2,hk=>by
  simp at h1 h2;subst h1;subst h2
  show bindL kindOf ((p,w)::P.zip vs) m p=_
  unfold bindL
  rw[zax λv hv=>(u0L.mp nd).1 (u2Q hv).1,u8 hk]
  simp
 | p::P,w::vs,i+1,m,nd,h1,h2,hk=>by
  show bindL kindOf ((p,w)::P.zip vs) m x=_
  unfold bindL
  exact zaY (i:=i) (u0L.mp nd).2 (by simpa using h1) (by simpa using h2) hk
theorem zaO {kindOf:Str->Option NameKind}{x:Str}{v:Value}:∀ {P:List Str} {vs:List Value} {i:Nat} {m:Str->Option Value},P.Nodup->P[i]?=some x->vs[i]?=some v->kindOf x≠some .local ->
 bindC kindOf (P.zip vs) m x=some v
 | [],_,_,_,_,h,_,_=>by simp at h
 | _::_,[],_,_,_,_,h,_=>by simp at h
 | p::P,w::vs,0,m,nd,h1,h2,hk=>by
  simp at h1 h2;subst h1;subst h2
  show bindC kindOf ((p,w)::P.zip vs) m p=_
  unfold bindC
  rw[za4 λv hv=>(u0L.mp nd).1 (u2Q hv).1,u9 hk]
  simp
 | p::P,w::vs,i+1,m,nd,h1,h2,hk=>by
  show bindC kindOf ((p,w)::P.zip vs) m x=_
  unfold bindC
  exact zaO (i:=i) (u0L.mp nd).2 (by simpa using h1) (by simpa using h2) hk
def start (N:List Str)(vs:List V):St:=vs.map some++List.replicate (N.length - vs.length) none
def zhN (CX:CXT)(P:Program)(w:World)(K:W.Frag)(mg:Str->Option Value)(base:Heap)(N:List Str)(qual:Str)(scope:Scope)(f:Addr)(cd:Value)(A:Around)(outer:List Env)(s:Shared)(H:Hp)(E:XK):Cx where
 prog:=P
 w:=w
 K:=K
 mg:=mg
 base:=base
 A:=A.deeper (envOfC qual scope s.heap.objs.size f cd)
 N:=N
 s₀:=s
 H₀:=H
 env:=envOfC qual scope s.heap.objs.size f cd
 outer:=outer
 stack:=envOfC qual scope s.heap.objs.size f cd::outer
 ex:=[]
 calm:=true
 fn:=λ_=>true
 pn:=[]
 xe:=λe s'=>wpAny (model P w) (A.deeper (envOfC qual scope s.heap.objs.size f cd)) (leaving (envOfC qual scope s.heap.objs.size f cd) e) (λ_ s''=>CX outer H s E e s'') (λe' s''=>CX outer H s E e' s'') s'
theorem zb4 {sc:Scope}{n:Nat}{x:Str}(h:sc.names.lookup x=some .cell):∃ c,(cellsFrom n sc.names []).lookup x=some c:=by
 have q:=W.cellsFrom_some sc.names n [] (.inl h)
 exact Option.isSome_iff_exists.mp q
theorem zdT {CX:CXT}{P:Program}{w:World}{K:W.Frag}{mg:Str->Option Value}{base:Heap}{N ps:List Str}{qual:Str}{scope:Scope}{f:Addr}{cd:Value}{A:Around}{outer:List Env}{s s1:Shared}{H:Hp}{E:XK}{us:List Value}{vs:List V}
 (S:zt N ps scope) (hd:A.handled=none) (e0:zlX P w K mg base A outer s H) (hl:vs.length=ps.length) (r:zU vs us)
 (x:InCallC s s.heap.objs.size (bindL (envOfC qual scope s.heap.objs.size f cd).kindOf (ps.zip us) λ_=>none) (cellsFrom (s.heap.objs.size+1) scope.names []) (bindC (envOfC qual scope s.heap.objs.size f cd).kindOf (ps.zip us) λ_=>none) s1) :
 Inv (zhN CX P w K mg base N qual scope f cd A outer s H E) [] (start N vs) H s1:=by
 have hpl:ps.length<=N.length:=by have:=u0W List.length S.pre;rw[b9]at this;omega
 obtain⟨h1,tk,rfl,hk⟩:=x.done
 have noA:∀ b:Addr,b∉(zhN CX P w K mg base N qual scope f cd A outer s H E).ex:=λb z=>absurd (show b∈([]:List Addr)from z) (by simp)
 refine⟨⟨e0.mod,S.kind,rfl,rfl,q5 _,λy z c h1 h2=>?_,λy hy=>?_,λy c _ h=>?_,λ_=>hd,Around.frames_deeper e0.frames,.inr ⟨rfl,rfl⟩,λb z=>absurd z (noA b),e0.bs,e0.bsz,λb _ _=>noA b,λb z=>absurd z (noA b),e0.funs,e0.frf⟩,
  rfl,e0.bare,Un.kept hk,⟨_,x.toInCall.ns,λi y v h1 h2 h3=>?_⟩,λy c h=>⟨_,x.cell y c h⟩,e0.hok.fresh (q5 _),λy c h=>?_,λp hp=>absurd (show p∈([]:List (Addr × Obj))from hp) (by simp),e0.hok.kept hk,?_⟩
 .exact name_of_addr x.apart (u0h h1) (u0h h2)
 .have hy:scope.names.lookup y=some .cell\/scope.names.lookup y=some .free:=hy
  rcases hy with hy | hy
  .exact zb4 hy
  .exact absurd rfl (S.nofree _ (u0h hy))
 .exact u1u (x.above y c (u0h h))
 .have hi:i < vs.length:=by
   unfold start at h2
   by_cases hi:i < vs.length
   .exact hi
   .rw[u0e (by simpa using hi)]at h2
    rw[u0T]at h2
    split at h2 <;> cases h2
  have ha:vs[i]?=some v:=by
   unfold start at h2
   rw[u0q (by simpa using hi),j9]at h2
   cases e:vs[i]? with
   | none=>rw[e]at h2;cases h2
   | some a=>rw[e]at h2;cases h2;rfl
  obtain⟨u,hu,rv⟩:=r.get ha
  have hp:ps[i]?=some y:=by
   rw[<-S.pre,u0b (by omega)];exact h1
  have ndP:ps.Nodup:=by rw[<-S.pre];exact S.nd.sublist (u1r _ _)
  refine⟨u,rv,?_⟩
  rcases S.par y (j6 hp)with k | k
  .exact .inl ⟨k,zaY ndP hp hu k⟩
  .obtain⟨c,e⟩:=zb4 (n:=s.heap.objs.size+1) k
   refine .inr ⟨.inl k,c,e,?_⟩
   have q:=x.cell y c e
   rw[zaO ndP hp hu (by show scope.names.lookup y≠_;rw[k];decide)]at q
   exact q
 .exact e0.hok.fresh (u1u (x.above y c (u0h h)))
 .unfold start
  show _=N.length
  rw[r9,u6,u0w]
  omega
theorem zkd {CX:CXT}{P:Program}{w:World}{K:W.Frag}{mg:Str->Option Value}{base:Heap}{k:Nat}{f:Addr}{name qual:Str}{params:Arguments}{body:List Stmt}{scope:Scope}{dV kV doc pm cdv ct oc:Value}{an od:Option Addr}
 {osl:Array (Option Value)} {N ps:List Str} {sp:Sp} (lk:K.lookup f=some ⟨oc,od,.func (W.fnOf name qual params body scope dV kV doc pm an cdv ct),osl⟩) (hcd:W.codeIn K cdv qual=true) (S:zt N ps scope)
 (len:∀ vs H Q E,sp vs H Q E->vs.length=ps.length)
 (hbody:∀ (A:Around) (outer:List Env) (s:Shared) (H:Hp) (vs:List V) (Q:VK) (E:XK),vf k (A.deeper (envOfC qual scope s.heap.objs.size f cdv))->sp vs H Q E ->
  ∃ t,PSs (zhN CX P w K mg base N qual scope f cdv A outer s H E) body t/\t { nx:=λ_ H'=>Q .non H',rt:=Q } (start N vs) H) :
 xo P w K mg base CX (k+1) f (W.fnOf name qual params body scope dV kV doc pm an cdv ct) ps sp:=by
 refine⟨len,λA outer s H args us vs Q E hr e0 hb r hsp=>?_⟩
 have hl:=len _ _ _ _ hsp
 have KX:K.In s.heap:=e0.mod.kin.keeps λb o e=>(e0.bs.1 b o e).1
 have lim:s.heap.NoLimit:=e0.mod.nolimit.keeps λb o e=>(e0.bs.1 b o e).1
 have hkind:∀ y∈ps.zip us,scope.names.lookup y.1=some .local\/(scope.names.lookup y.1=some .cell/\((cellsFrom (s.heap.objs.size+1) scope.names []).lookup y.1).isSome=true):=λ⟨n,v⟩ hy=>by
  rcases S.par n (u2Q hy).1 with q | q
  .exact .inl q
  .exact .inr ⟨q,W.cellsFrom_some _ _ _ (.inl q)⟩
 refine codeAny_call_function hr.depth (KX _ _ lk) rfl S.co S.gen rfl (W.codeRec_of KX hcd) (hb _ _ _ _ ?_)
 refine wpAny_newFunctionEnv_cells S.kind hkind λenv he s1 x=>?_
 subst he
 refine⟨lim.keeps x.toInCall.keep,codeAny_func ?_⟩
 obtain⟨t,ht,hq⟩:=hbody A outer s H vs Q E (hr.deeper _) hsp
 have I:Inv (zhN CX P w K mg base N qual scope f cdv A outer s H E) [] (start N vs) H s1:=zdT S hr.hd e0 hl r x
 refine u0Z (ht [] s1 (start N vs) H _ I hq) (λfl s' hs=>?_) λe s' hs=>hs
 have fin:∀ {σ':St} {H':Hp} {v:V} {u:Value},Inv (zhN CX P w K mg base N qual scope f cdv A outer s H E) [] σ' H' s'->yA v u->Q v H'->CE outer P w H s Q u s' :=
  λ{σ' H' v u} J rv q=>⟨v,H',J.os,J.bare,J.base,J.hok,rv,q⟩
 cases fl with
 | ret u =>
  obtain⟨v,σ',H',J,rv,q⟩:=hs
  exact fin J rv q
 | next =>
  obtain⟨σ',H',J,q⟩:=hs
  exact fin (v:=V.non) (u:=Value.none) J rfl q
 | brk =>
  obtain⟨_,_,_,q⟩:=hs
  exact False.elim q
 | cont =>
  obtain⟨_,_,_,q⟩:=hs
  exact False.elim q
section
variable {X:Cx}{x:Str}{p pos:Pos}{e:Expr}{es:List Expr}{t:TA}{id T:String}{r:List V->Hp->VK->Prop}
def tCB (r:List V->Hp->VK->Prop)(t:TA):TE:=fun σ H Q=>t σ H λvs H1=>r vs H1 Q
theorem Xe (hc:Ys X (.builtin id) r) (hg:Gl X x) (hm:X.mg x=none) (hv:bootBuiltins x=some (.builtin id)) (ha:PA X (e::es) t) (hn:x≠"__name__":=by decide) (hdb:(x == ("__debug__":Str))=false:=by decide)
 (he:starEach (e::es) X.env=(false,eval e X.env)::starEach es X.env:=by rfl) (hpl:(backTo pos (starEach es X.env)).any (·.1)=false:=by rfl):PE X (.Call (.Name x p) (e::es) [] pos) (tCB r t):=by
 intro pins s σ H Q I h
 refine u2m (Zm I hg hm hv ?_ hn hdb)
 exact PyProof.Rows.callWith_builtin1 (thn (ha pos pins s σ H _ I h) λus s1 ⟨vs,H1,I1,r1,q1⟩=>hc pins s1 σ H1 vs us Q I1 r1 q1) he hpl
theorem zaZ (hc:Ys X (.type T) r) (hg:Gl X x) (hm:X.mg x=none) (hv:bootBuiltins x=some (.type T)) (ha:PA X (e::es) t) (hn:x≠"__name__":=by decide) (hdb:(x == ("__debug__":Str))=false:=by decide)
 (he:starEach (e::es) X.env=(false,eval e X.env)::starEach es X.env:=by rfl) (hpl:(backTo pos (starEach es X.env)).any (·.1)=false:=by rfl):PE X (.Call (.Name x p) (e::es) [] pos) (tCB r t):=by
 intro pins s σ H Q I h
 refine u2m (Zm I hg hm hv ?_ hn hdb)
 exact u0A (thn (ha pos pins s σ H _ I h) λus s1 ⟨vs,H1,I1,r1,q1⟩=>hc pins s1 σ H1 vs us Q I1 r1 q1) he hpl
end
end L2
namespace HT
open PySem PyProof.Rows
def lexLt:List Int->List Int->Bool
 | [],[]=>false
 | [],_::_=>true
 | _::_,[]=>false
 | x::xs,y::ys=>if x=y then lexLt xs ys else decide (x < y)
theorem lexLt_cons (x y:Int)(xs ys:List Int):lexLt (x::xs) (y::ys)=if x=y then lexLt xs ys else decide (x < y):=rfl
theorem zhL (A:Around)(s:Shared)(a:Int)(t:Tok)(c:Int)(u:Tok):∃ e,SeqAt.EqAt A s (.int a t) (.int c u) e/\(e=true↔a=c) :=
 ⟨(a == c),u20 a t c u,by simp⟩
section
variable {prog:Program}{w:World}{A:Around}{E:Value->Shared->Prop}{s:Shared}
theorem cat_tup {t b:Addr}{vs ws:List Value}{Q:Value->Shared->Prop}(ht:IsTup s.heap t vs.toArray)(hb:IsTup s.heap b ws.toArray)(hv:vs≠[])
 (h1:ws=[]->Q (.ref t) s) (h2:ws≠[]->Q (.ref s.heap.objs.size) { s with heap:=s.heap.push { cls:=.type "tuple",data:=.seq (vs++ws).toArray } })
 (hsz:vs.length+ws.length<=sizeLine):wpAny (model prog w) A (binaryOp .Add (.ref t) (.ref b)) Q E s:=by
 obtain⟨⟨cls,dd,data,sl⟩,ho,hc,n,hd⟩:=id ht
 obtain⟨⟨cls2,dd2,data2,sl2⟩,ho2,hc2,n2,hd2⟩:=id hb
 simp only at hc hd hc2 hd2
 subst hc hd hc2 hd2
 have e:vs.toArray++ws.toArray=(vs++ws).toArray:=by simp
 by_cases hw:ws=[]
 .exact concat_meets ⟨_,ho,rfl⟩ ⟨_,ho2,rfl⟩ noFill_tuple_add seq_tuple_add u2p u2k (u2c _ _)
   (tuple_addW1 t b vs.toArray ws.toArray n n2 dd dd2 sl sl2 (by simpa using hv) (by simp[hw])) ⟨ho,ho2,h1 hw⟩
 .refine concat_meets ⟨_,ho,rfl⟩ ⟨_,ho2,rfl⟩ noFill_tuple_add seq_tuple_add u2p u2k (u2c _ _)
   (tuple_addW2 t b vs.toArray ws.toArray n n2 dd dd2 sl sl2 (by simpa using hv) (by simpa using hw) (by rw[j4,j4];exact hsz)) ⟨ho,ho2,?_⟩
  rw[e]
  exact h2 hw
def sIx (n d:Nat):Option Int->Nat
 | none=>d
 | some v=>if v < 0 then (v+(n:Int)).toNat else min v.toNat n
theorem zlD (n d:Nat)(hd:d<=n)(o:Option Int):sIx n d o<=n:=by
 cases o with
 | none=>exact hd
 | some v =>
  show(if v < 0 then (v+(n:Int)).toNat else min v.toNat n)<=n
  by_cases hv:v < 0
  .rw[u8 hv];omega
  .rw[u9 hv];exact u11 _ _
theorem zeh (v:Int)(n d:Nat):(if v < 0 then max (v+(n:Int)) 0 else min v (n:Int))=((sIx n d (some v):Nat):Int):=by
 show(if v < 0 then max (v+(n:Int)) 0 else min v (n:Int))=(((if v < 0 then (v+(n:Int)).toNat else min v.toNat n):Nat):Int)
 by_cases hv:v < 0
 .simp only[u8 hv];omega
 .simp only[u9 hv];omega
theorem zcW (lo hi:Option Int)(n:Nat):Builtin.Slice.sliceAdjust lo hi 1 (n:Int)=(((sIx n 0 lo:Nat):Int),((sIx n n hi:Nat):Int)):=by
 have h1:¬ ((1:Int) < 0):=by omega
 unfold Builtin.Slice.sliceAdjust
 simp only[h1,u2H]
 refine u3h ?_ ?_
 .cases lo with
  | none=>rfl
  | some v=>exact zeh v n 0
 .cases hi with
  | none=>rfl
  | some v=>exact zeh v n n
theorem zc7 (i j:Nat):Builtin.Slice.slicePlaces (i:Int) (j:Int) 1=j - i:=by
 unfold Builtin.Slice.slicePlaces
 have h1:(1:Int) > 0:=by omega
 simp only[h1,u3j,u2W]
 split <;> omega
theorem WP {v:Value}{o:Option Int}{Q:Option Int->Shared->Prop}(p:IsPart v o)(h:Q o s):wpAny (model prog w) A (Builtin.Slice.slicePartIndex v) Q E s:=by
 cases p with
 | none=>exact slicePart_none h
 | int i t=>exact slicePart_int h
theorem vI {sl:Addr}{vl vu:Value}{lo hi:Option Int}{n:Nat}{Q:Int × Int × Nat->Shared->Prop}(hs:s.heap.IsSliceOf sl vl vu .none)(pl:IsPart vl lo)(pu:IsPart vu hi)
 (h:Q (((sIx n 0 lo:Nat):Int),1,sIx n n hi - sIx n 0 lo) s):wpAny (model prog w) A (Builtin.Slice.sliceApplied (.ref sl) (pure (n:Int))) Q E s:=by
 obtain⟨os,hos,hcs,hds⟩:=id hs
 unfold Builtin.Slice.sliceApplied Builtin.Slice.sliceFields
 refine u3 (u3 (u17 hos hds (x:=vl) rfl (u3 (u17 hos hds (x:=vu) rfl (u3 (u17 hos hds (x:=.none) rfl (j3 ?_)))))))
 refine u3 (slicePart_none ?_)
 show wpAny _ _ (if ((1:Int) == 0)=true then _ else _) _ _ s
 rw[u9 (by decide)]
 refine u3 (WP pl (u3 (WP pu (u3 (j3 ?_)))))
 show wpAny _ _ (match Builtin.Slice.sliceAdjust lo hi 1 (n:Int)with | (lo,hi)=>pure (lo,(1:Int),Builtin.Slice.slicePlaces lo hi 1)) _ _ s
 rw[zcW lo hi n]
 show wpAny _ _ (pure (((sIx n 0 lo:Nat):Int),(1:Int),Builtin.Slice.slicePlaces ((sIx n 0 lo:Nat):Int) ((sIx n n hi:Nat):Int) 1)) _ _ s
 rw[zc7]
 exact j3 h
theorem zgI (xs:Array Value)(i k:Nat):((List.range k).filterMap λ(m:Nat)=>xs[((i:Int)+(m:Int)*1).toNat]?).toArray=((xs.toList.drop i).take k).toArray:=by
 have e:(λ(m:Nat)=>xs[((i:Int)+(m:Int)*1).toNat]?)=λm=>xs[i+m]?:=by
  funext m
  have:((i:Int)+(m:Int)*1).toNat=i+m:=by omega
  rw[this]
 rw[e]
 have:=pick_run xs i k
 rw[List.filterMap_map]at this
 have e2:((λx=>xs[x]?) ∘ λx=>i+x)=λm=>xs[i+m]?:=rfl
 rw[e2]at this
 rw[this]
theorem getItem_tuple_cut {t sl:Addr}{items:Array Value}{vl vu:Value}{lo hi:Option Int}{Q:Value->Shared->Prop}(ht:IsTup s.heap t items)(hs:s.heap.IsSliceOf sl vl vu .none)(pl:IsPart vl lo)(pu:IsPart vu hi)
 (hw:¬ (sIx items.size 0 lo=0/\sIx items.size items.size hi=items.size))
 (h:Q (.ref s.heap.objs.size) { s with heap:=s.heap.push { cls:=.type "tuple",data:=.seq ((items.toList.drop (sIx items.size 0 lo)).take (sIx items.size items.size hi - sIx items.size 0 lo)).toArray } })
 (hsz:items.size<=sizeLine):wpAny (model prog w) A (getItem (.ref t) (.ref sl)) Q E s:=by
 have htake:sizeOk (.seq ((items.toList.drop (sIx items.size 0 lo)).take (sIx items.size items.size hi - sIx items.size 0 lo)).toArray):=by
  show((items.toList.drop (sIx items.size 0 lo)).take (sIx items.size items.size hi - sIx items.size 0 lo)).toArray.size<=sizeLine
  rw[j4,b9,e9,j5]
  omega
 have hj:sIx items.size items.size hi<=items.size:=zlD _ _ (q5 _) hi
 obtain⟨os,hos,hcs,hds⟩:=id hs
 have hTs:s.TypeIs (.ref sl) "slice":=⟨os,hos,hcs⟩
 unfold getItem
 try with_reducible refine u0X ?_
 first | refine u3 (j3 ?_) | skip
 refine u3 (wpAny_sequenceKey ht.typeIs (by decide) ?_)
 refine u3 (u0G (name:=Str.ofString "__getitem__") ht.typeIs u0k
  (u0O u0k ht.typeIs entry_tuple_getitem ?_ (args_tuple_getitem _ _)))
 show wpAny _ _ (Builtin.Tuple.tupleItemsOf (.ref t)>>=_) _ _ s
 refine u3 (tupleItemsOf_ ht ?_)
 refine u3 (u24 hTs ?_)
 rw[u8 (by decide)]
 refine u3 (vI hs pl pu ?_)
 have hno:¬ ((((sIx items.size 0 lo:Nat):Int) == 0&&(1:Int) == 1&&(sIx items.size items.size hi - sIx items.size 0 lo) == items.size)=true):=by
  intro q
  rw[p4,p4]at q
  have q1:((sIx items.size 0 lo:Nat):Int)=0:=eq_of_beq q.1.1
  have q2:sIx items.size items.size hi - sIx items.size 0 lo=items.size:=eq_of_beq q.2
  exact hw ⟨by omega,by omega⟩
 show wpAny _ _ (if (((sIx items.size 0 lo:Nat):Int) == 0&&(1:Int) == 1&&(sIx items.size items.size hi - sIx items.size 0 lo) == items.size)=true then _ else _) _ _ s
 rw[u9 hno,zgI]
 first
  | exact u3 (m:=Builtin.Tuple.tupleExact _) (u0l (j3 ⟨_,rfl,j3 h⟩) htake)
  | exact u3 (m:=Builtin.Tuple.tupleExact _) (u0l (u3 (j3 (j3 ⟨_,rfl,j3 h⟩))) htake)
  | exact u3 (u3 (m:=Builtin.Tuple.tupleExact _) (u0l (j3 (j3 ⟨_,rfl,j3 h⟩)) htake))
  | exact u3 (u3 (m:=Builtin.Tuple.tupleExact _) (u0l (j3 ⟨_,rfl,j3 h⟩) htake))
end
end HT
namespace L2
open PySem PySem.Spec PyProof.Rows
abbrev TO:=St->Hp->(Option Int->Hp->Prop)->Prop
def PO (X:Cx)(e:Option Expr)(t:TO):Prop :=
 ∀ (pins:List (Addr × Obj)) (s:Shared) (σ:St) (H:Hp) (Q:Option Int->Hp->Prop),Inv X pins σ H s->t σ H Q ->
  wpAny (model X.prog X.w) X.A (evalPart e X.env) (λu s'=>∃ o H',Inv X pins σ H' s'/\IsPart u o/\Q o H') X.xe s
def zml (t:TE):TO:=fun σ H Q=>t σ H λx H1=>∃ i,x=.int i/\Q (some i) H1
theorem vb {ns:List Int}:∀ {us:List Value},zU (ns.map V.int) us->IntsAre us ns:=by
 induction ns with
 | nil=>intro us r;rw[u3y]at r;cases r;exact .nil
 | cons n ns ih =>
  intro us r
  rw[d8]at r
  cases r with
  | cons r1 r2 =>
   obtain⟨t,e⟩:=r1
   subst e
   exact .cons n t (ih r2)
section
variable {X:Cx}{e:Expr}{te:TE}{lo hi:Option Expr}{tl th:TO}{pos p2:Pos}
theorem zjm (h:PE X e te):PO X (some e) (zml te):=by
 intro pins s σ H Q I hw
 rw[evalPart_some]
 refine thn (h pins s σ H _ I hw) λu s1 hh9=>?_
 obtain⟨x,H1,I1,r1,q1⟩:=hh9
 obtain⟨i,rfl,q⟩:=q1
 obtain⟨t,rfl⟩:=r1
 exact⟨some i,H1,I1,.int i t,q⟩
def SlR (X:Cx)(r:V->Option Int->Option Int->Hp->VK->Prop):Prop :=
 ∀ (pins:List (Addr × Obj)) (s:Shared) (σ:St) (H:Hp) (x:V) (v vl vu:Value) (lo hi:Option Int) (sl:Addr) (Q:VK),Inv X pins σ H s->yA x v->s.heap.IsSliceOf sl vl vu .none->IsPart vl lo->IsPart vu hi->r x lo hi H Q ->
  ∃ T id,typeLookup (.type T) "__getitem__"=pure (some (.builtin id))/\s.TypeIs v T/\wpAny (model X.prog X.w) X.A (getItem v (.ref sl)) (EP X pins σ Q) X.xe s
theorem SlR.or {r r':V->Option Int->Option Int->Hp->VK->Prop}(h:SlR X r)(h':SlR X r'):SlR X (λx lo hi H Q=>r x lo hi H Q\/r' x lo hi H Q):=by
 intro pins s σ H x v vl vu lo hi sl Q I rx hs pl pu q
 rcases q with q | q
 .exact h pins s σ H x v vl vu lo hi sl Q I rx hs pl pu q
 .exact h' pins s σ H x v vl vu lo hi sl Q I rx hs pl pu q
def tSl (r:V->Option Int->Option Int->Hp->VK->Prop)(te:TE)(tl th:TO):TE:=fun σ H Q=>te σ H λx H1=>tl σ H1 λl H2=>th σ H2 λu H3=>r x l u H3 Q
theorem zhz {r:V->Option Int->Option Int->Hp->VK->Prop}(hr:SlR X r)(he:PE X e te)(hl:PO X lo tl)(hu:PO X hi th):PE X (.Subscript e (.Slice lo hi none p2) pos) (tSl r te tl th):=by
 intro pins s σ H Q I h
 refine Subscript_ (thn (he pins s σ H _ I h) λv s1 hh9=>?_)
 obtain⟨x,H1,I1,r1,q1⟩:=hh9
 refine wpAny_Slice (thn (hl pins s1 σ H1 _ I1 q1) λvl s2 ⟨l,H2,I2,pl,q2⟩=>thn (hu pins s2 σ H2 _ I2 q2) λvu s3 hh9=>?_)
 obtain⟨u,H3,I3,pu,q3⟩:=hh9
 rw[evalPart_none]
 refine j3 ?_
 have I4:Inv X pins σ H3 { s3 with heap:=s3.heap.push { cls:=.type "slice",data:=.fields #[vl,vu,.none] } }:=I3.kept (t':=s3.toks) λb ob q=>u5 _ q
 obtain⟨T,id,hT,ht,hg⟩:=hr pins { s3 with heap:=s3.heap.push { cls:=.type "slice",data:=.fields #[vl,vu,.none] } } σ H3 x v vl vu l u s3.heap.objs.size Q I4 r1 (Heap.IsSliceOf.new ..) pl pu q3
 show wpAny (model X.prog X.w) X.A (subscriptTail e (.Slice lo hi none p2) v (.ref s3.heap.objs.size)) (EP X pins σ Q) X.xe { s3 with heap:=s3.heap.push { cls:=.type "slice",data:=.fields #[vl,vu,.none] } }
 exact tail_any (ops:=[.ref s3.heap.objs.size,v]) ht hT hg (by with_unfolding_all rfl)
def zbu (xs:List V)(lo hi:Option Int):List V:=(xs.drop (HT.sIx xs.length 0 lo)).take (HT.sIx xs.length xs.length hi - HT.sIx xs.length 0 lo)
theorem XW (xs:List V)(lo hi:Option Int):(zbu xs lo hi).length<=xs.length:=by
 unfold zbu
 rw[b9,e9]
 omega
def rSlT (K:W.Frag):V->Option Int->Option Int->Hp->VK->Prop:=λx lo hi H Q=>∃ a xs,x=.ref a/\SqT K H a xs /\
 ¬ (HT.sIx xs.length 0 lo=0/\HT.sIx xs.length xs.length hi=xs.length)/\∀ p,H p=none->Q (.ref p) (upd H p (.tup (zbu xs lo hi)))
theorem zlc:SlR X (rSlT X.K):=by
 intro pins s σ H x v vl vu lo hi sl Q I rx hs pl pu h
 obtain⟨a,xs,rfl,hx,hw,q⟩:=h
 cases rx
 obtain⟨its,r,ht,hz⟩:=I.tuple hx
 have hlen:its.toArray.size=xs.length:=by rw[j4];exact r.length.symm
 refine⟨"tuple",_,u0k.lookup,ht.typeIs,?_⟩
 refine HT.getItem_tuple_cut ht hs pl pu (by rw[hlen];exact hw) ?_ (by rw[hlen];exact hz)
 rw[hlen]
 refine⟨.ref s.heap.objs.size,_,I.laid (t':=s.toks) (o:=.tup (zbu xs lo hi)) (λb ob q=>u5 _ q) (q5 _) ?_,rfl,q _ (I.hok.fresh (q5 _))⟩
 exact⟨u0t (XW xs lo hi) hz,_,(r.drop (HT.sIx xs.length 0 lo)).take (HT.sIx xs.length xs.length hi - HT.sIx xs.length 0 lo),IsTup.new _ _⟩
def zmD (K:W.Frag):R2:=λx y H Q=>∃ a b xs ys,x=.ref a/\y=.ref b/\SqT K H a xs/\SqT K H b ys/\xs≠[]/\xs.length+ys.length<=sizeLine /\
 (ys=[]->Q (.ref a) H)/\(ys≠[]->∀ p,H p=none->Q (.ref p) (upd H p (.tup (xs++ys))))
theorem zU.nil_iff {xs:List V}{us:List Value}(r:zU xs us):us=[]↔xs=[]:=by
 cases r with
 | nil=>simp
 | cons _ _=>simp
theorem zi4:OpR X (binaryOp .Add) (zmD X.K):=by
 intro pins s σ H x y v u Q I rx ry h
 obtain⟨a,b,xs,ys,rfl,rfl,ha,hb,hx,hz,q1,q2⟩:=h
 cases rx
 cases ry
 obtain⟨its,r1,p1,_⟩:=I.tuple ha
 obtain⟨its2,r2,p2,_⟩:=I.tuple hb
 refine HT.cat_tup p1 p2 (λz=>hx (r1.nil_iff.mp z)) (λz=>⟨.ref a,H,I,rfl,q1 (r2.nil_iff.mp z)⟩) (λz=>?_) (by rw[<-r1.length,<- r2.length];exact hz)
 refine⟨.ref s.heap.objs.size,_,I.laid (t':=s.toks) (o:=.tup (xs++ys)) (λb ob q=>u5 _ q) (q5 _) ?_,rfl,q2 (λw=>z (r2.nil_iff.mpr w)) _ (I.hok.fresh (q5 _))⟩
 exact⟨by rw[r9];exact hz,_,r1.append r2,IsTup.new _ _⟩
end
def ixN (n:Nat)(i:Int):Option Nat:=if 0<=i then (if i < n then some i.toNat else none)else if -(n:Int)<=i then some (i+n).toNat else none
def atI {α:Type}(xs:List α)(i:Int):Option α:=(ixN xs.length i).bind λj=>xs[j]?
theorem zfc {n:Nat}{i:Int}{j:Nat}(h:ixN n i=some j):seqIndex? i n=some j/\j < n/\-(n:Int)<=i/\i < n:=by
 unfold ixN at h
 by_cases h0:0<=i
 .rw[u8 h0]at h
  by_cases h1:i < n
  .rw[u8 h1]at h
   have e:i.toNat=j:=u0f h
   exact⟨by rw[seqIndex_of h0 h1,e],by omega,by omega,h1⟩
  .rw[u9 h1]at h;cases h
 .rw[u9 h0]at h
  by_cases h1:-(n:Int)<=i
  .rw[u8 h1]at h
   have e:(i+n).toNat=j:=u0f h
   exact⟨by rw[seqIndex_neg (by omega) h1,e],by omega,h1,by omega⟩
  .rw[u9 h1]at h;cases h
theorem zbK {α:Type}{xs:List α}{i:Int}{v:α}(h:atI xs i=some v):∃ j,seqIndex? i xs.length=some j/\xs[j]?=some v/\j < xs.length/\-(xs.length:Int)<=i/\i < xs.length:=by
 unfold atI at h
 cases e:ixN xs.length i with
 | none=>rw[e]at h;cases h
 | some j =>
  rw[e]at h
  obtain⟨h1,h2,h3,h4⟩:=zfc e
  exact⟨j,h1,h,h2,h3,h4⟩
theorem zeQ {α:Type}{xs:List α}{j:Nat}{v:α}(h:xs[j]?=some v):atI xs (j:Int)=some v:=by
 have hj:j < xs.length:=(t7.mp h).1
 have e:ixN xs.length (j:Int)=some j:=by
  unfold ixN
  rw[u8 (by omega),u8 (by omega)];simp
 unfold atI;rw[e];exact h
def zfN (b:Expr):Prop:=∀ o i,subscripted b false o i=operate [o,i] (getItem o i)
def IxR (X:Cx)(r:R2):Prop :=
 ∀ (value slice:Expr) (pins:List (Addr × Obj)) (s:Shared) (σ:St) (H:Hp) (x y:V) (v u:Value) (Q:VK),Inv X pins σ H s->yA x v->yA y u->r x y H Q ->
  subscripted slice false v u=operate [v,u] (getItem v u)->wpAny (model X.prog X.w) X.A (subscriptTail value slice v u) (EP X pins σ Q) X.xe s
def MtR (X:Cx)(id:String)(r:V->List V->Hp->VK->Prop):Prop :=
 ∀ (pins:List (Addr × Obj)) (s:Shared) (σ:St) (H:Hp) (x:V) (xs:List V) (v:Value) (us:List Value) (Q:VK),Inv X pins σ H s->yA x v->zU xs us->r x xs H Q ->
  wpAny (model X.prog X.w) X.A (call (.builtin id) (v::us)) (EP X pins σ Q) X.xe s
section
variable {X:Cx}{a b:Expr}{ta tb:TE}{pos:Pos}
theorem IxR.or {r r':R2}(h:IxR X r)(h':IxR X r'):IxR X (λx y H Q=>r x y H Q\/r' x y H Q):=by
 intro value slice pins s σ H x y v u Q I rx ry q hs
 rcases q with q | q
 .exact h value slice pins s σ H x y v u Q I rx ry q hs
 .exact h' value slice pins s σ H x y v u Q I rx ry q hs
theorem zmN {r:R2}(hr:IxR X r)(ha:PE X a ta)(hb:PE X b tb)(hs:zfN b):PE X (.Subscript a b pos) (tOp r ta tb):=by
 intro pins s σ H Q I h
 exact Subscript_ (zmA ha hb I h λv u s2 x y H2 I2 rx ry q=>hr a b pins s2 σ H2 x y v u Q I2 rx ry q (hs _ _))
def rIxL (K:W.Frag):R2:=λx y H Q=>∃ p xs i v,x=.ref p/\y=.int i/\SqL K H p xs/\atI xs i=some v/\Q v H
def rIxT (K:W.Frag):R2:=λx y H Q=>∃ p xs i v,x=.ref p/\y=.int i/\SqT K H p xs/\atI xs i=some v/\Q v H
def rIxS:R2:=λx y H Q=>∃ z i c,x=.str z/\y=.int i/\z.length<=sizeLine/\atI z.cps.toList i=some c/\Q (.str ⟨#[c]⟩) H
theorem ziQ:IxR X (rIxL X.K):=by
 intro value slice pins s σ H x y v u Q I rx ry h hs
 obtain⟨p,xs,i,z,rfl,rfl,hq,he,q⟩:=h
 cases rx
 obtain⟨t,rfl⟩:=ry
 obtain⟨its,r,pl,hz⟩:=I.list hq
 obtain⟨j,h1,h2,h3,h4,h5⟩:=zbK he
 obtain⟨w,ew,rw'⟩:=r.get h2
 have hl:=r.length
 have hn:=zaz
 have fin:EP X pins σ Q w s:=⟨z,H,I,rw',q⟩
 by_cases h0:0<=i
 .have hj:i.toNat=j:=by
   rw[seqIndex_of h0 h5]at h1
   exact u0f h1
  exact item_listR pl.isList h0 (by omega) (by rw[hj];simpa using ew) fin hs
 .have hj:(i+(its.toArray.size:Int)).toNat=j:=by
   rw[seqIndex_neg (by omega) h4]at h1
   rw[j4,<- hl]
   exact u0f h1
  exact subscriptTail_builtinR (x:=w) pl.isList.typeIs slot_list_getitem.lookup
   (wpAny_getItem_list_neg (Q:=λr s'=>r=w/\EP X pins σ Q r s') pl.isList (by omega) (by rw[j4] <;> omega) (by omega) (by rw[hj];simpa using ew) ⟨rfl,fin⟩) hs
theorem zle:IxR X (rIxT X.K):=by
 intro value slice pins s σ H x y v u Q I rx ry h hs
 obtain⟨p,xs,i,z,rfl,rfl,hq,he,q⟩:=h
 cases rx
 obtain⟨t,rfl⟩:=ry
 obtain⟨its,r,pl,hz⟩:=I.tuple hq
 obtain⟨j,h1,h2,h3,h4,h5⟩:=zbK he
 obtain⟨w,ew,rw'⟩:=r.get h2
 have hl:=r.length
 have hn:=zaz
 have fin:EP X pins σ Q w s:=⟨z,H,I,rw',q⟩
 exact subscriptTail_builtinR (x:=w) pl.typeIs slot_tuple_getitem.lookup
  (getItem_tuple (j:=j) (Q:=λr s'=>r=w/\EP X pins σ Q r s') pl (by omega) (by omega) (by rw[j4,<- hl];exact h1) (by simpa using ew) ⟨rfl,fin⟩) hs
theorem zk7:IxR X rIxS:=by
 intro value slice pins s σ H x y v u Q I rx ry h hs
 obtain⟨z,i,c,rfl,rfl,hz,he,q⟩:=h
 obtain⟨t,rfl⟩:=rx
 obtain⟨t',rfl⟩:=ry
 obtain⟨j,h1,h2,h3,h4,h5⟩:=zbK he
 have hl:z.cps.toList.length=z.length:=by simp[Str.length]
 rw[hl]at h1 h4 h5
 have hn:=zaz
 exact tail_any (typeIs_str s z t) slot_str_getitem.lookup (getItem_str (c:=c) (by
  have e1:decide (i < -(2 ^ 63:Int))=false:=p6 (by omega)
  have e2:decide (i >= 2 ^ 63)=false:=p6 (by omega)
  rw[e1,e2,Bool.or_false]) (by rw[h1];simpa using h2) ⟨.str ⟨#[c]⟩,H,I.tok _,⟨_,rfl⟩,q⟩) hs
def rIx (K:W.Frag):R2:=λx y H Q=>rIxL K x y H Q\/rIxT K x y H Q\/rIxS x y H Q
theorem zlk:IxR X (rIx X.K):=ziQ.or (zle.or zk7)
theorem zdm (its:List Value) (n j:Nat) (u:Value):Obj.mapSeq (·.setIfInBounds j u) { cls:=.type "list",data:=.seq its.toArray n }={ cls:=.type "list",data:=.seq (its.set j u).toArray n }:=by
 simp[Obj.mapSeq]
theorem Inv.lst {pins:List (Addr × Obj)}{σ:St}{H:Hp}{s:Shared}{p:Addr}{xs:List V}(I:Inv X pins σ H s)(h:H p=some (.lst xs)) :
 ∃ (its:List Value) (n:Nat),zU xs its/\s.heap.get? p=some { cls:=.type "list",data:=.seq its.toArray n }/\xs.length<=sizeLine:=by
 obtain⟨z,its,n,r,e⟩:=I.hok p _ h
 exact⟨its,n,r,e,z⟩
theorem Inv.lstUpd {pins:List (Addr × Obj)}{σ:St}{H:Hp}{s:Shared}{p:Addr}{xs ys:List V}{its its':List Value}{n n':Nat}{f:Obj->Obj}(I:Inv X pins σ H s)(h:H p=some (.lst xs))
 (ho:s.heap.get? p=some { cls:=.type "list",data:=.seq its.toArray n }) (hf:f { cls:=.type "list",data:=.seq its.toArray n }={ cls:=.type "list",data:=.seq its'.toArray n' }) (r:zU ys its') (hz:ys.length<=sizeLine) (t:Nat) :
 Inv X pins σ (upd H p (.lst ys)) { s with heap:=s.heap.update p f,toks:=t }:=by
 have e:(s.heap.update p f).get? p=some { cls:=.type "list",data:=.seq its'.toArray n' }:=by
  rw[u0Q f ho (by rw[hf] <;> rfl),hf]
 refine I.write (x:=p) (e:=p) (by rw[h];trivial) (.inl rfl) (λb u hb q=>(u0u _ _ (u1Q hb)).trans q) ⟨_,e⟩ ?_
 exact⟨hz,its',n',r,e⟩
def zm2:V->V->V->Hp->(Hp->Prop)->Prop:=λo i v H Q=>∃ p xs k j,o=.ref p/\i=.int k/\H p=some (.lst xs)/\ixN xs.length k=some j/\Q (upd H p (.lst (xs.set j v)))
theorem zgd:PSet X zm2:=by
 intro pins s σ H o i v ov iv u Q I ro ri rv h
 obtain⟨p,xs,k,j,rfl,rfl,hp,hj,q⟩:=h
 cases ro
 obtain⟨t,rfl⟩:=ri
 obtain⟨its,n,r,ho,hz⟩:=I.lst hp
 obtain⟨h1,h2,h3,h4⟩:=zfc hj
 have hl:=r.length
 have hn:=zaz
 have I':Inv X pins σ (upd H p (.lst (xs.set j v))) { s with heap:=s.heap.update p (Obj.mapSeq (·.setIfInBounds j u)) } :=
  I.lstUpd hp ho (zdm its n j u) (r.set rv j) (by rw[u0x];exact hz) s.toks
 by_cases h0:0<=k
 .have hk:k.toNat=j:=by
   rw[seqIndex_of h0 h4]at h1
   exact u0f h1
  exact W.ki_setAt ho h0 (by omega) (by rw[j4,<- hl];exact h4) (by rw[hk];exact⟨_,I',q⟩)
 .have hk:(k+(its.toArray.size:Int)).toNat=j:=by
   rw[seqIndex_neg (by omega) h3]at h1
   rw[j4,<- hl]
   exact u0f h1
  exact W.ki_setBack ho (by omega) (by rw[j4,<- hl];exact h3) (by omega) (by rw[hk];exact⟨_,I',q⟩)
theorem zaD (lo hi:Option Int)(n:Nat):(sliceBounds lo hi none n).1=((HT.sIx n 0 lo:Nat):Int)/\(sliceBounds lo hi none n).2.1=((HT.sIx n n hi:Nat):Int)/\(sliceBounds lo hi none n).2.2=1:=by
 refine⟨?_,?_,rfl⟩
 .cases lo with
  | none=>simp[sliceBounds,HT.sIx]
  | some i =>
   simp only[sliceBounds,HT.sIx,Option.getD_none,show(1:Int) > 0 by decide,u3j]
   by_cases h:i < 0
   .simp only[h,u3j] <;> omega
   .simp only[h,u2H] <;> omega
 .cases hi with
  | none=>simp[sliceBounds,HT.sIx]
  | some i =>
   simp only[sliceBounds,HT.sIx,Option.getD_none,show(1:Int) > 0 by decide,u3j]
   by_cases h:i < 0
   .simp only[h,u3j] <;> omega
   .simp only[h,u2H] <;> omega
theorem VE (its:List Value)(lo hi:Option Int):slicePick its.toArray lo hi none=((its.drop (HT.sIx its.length 0 lo)).take (HT.sIx its.length its.length hi - HT.sIx its.length 0 lo)).toArray:=by
 obtain⟨h1,h2,h3⟩:=zaD lo hi its.toArray.size
 unfold slicePick
 rw[h1,h2,h3]
 simp only[sliceRange_one,pick_run,j4] <;> rfl
def rSlL (K:W.Frag):V->Option Int->Option Int->Hp->VK->Prop:=λx lo hi H Q=>∃ a xs,x=.ref a/\SqL K H a xs/\∀ p,H p=none->Q (.ref p) (upd H p (.lst (zbu xs lo hi)))
theorem ziu:SlR X (rSlL X.K):=by
 intro pins s σ H x v vl vu lo hi sl Q I rx hs pl pu h
 obtain⟨a,xs,rfl,hx,q⟩:=h
 cases rx
 obtain⟨its,r,ht,hz⟩:=I.list hx
 have hlen:=r.length
 refine⟨"list",_,slot_list_getitem.lookup,ht.isList.typeIs,?_⟩
 refine wpAny_getItem_list_slice ht.isList hs pl pu .none (by simp) ?_ (by rw[j4] <;> omega)
 rw[VE,<- hlen]
 refine⟨.ref s.heap.objs.size,_,I.laid (t':=s.toks) (o:=.lst (zbu xs lo hi)) (λb ob q=>u5 _ q) (q5 _) ?_,rfl,q _ (I.hok.fresh (q5 _))⟩
 exact⟨u0t (XW xs lo hi) hz,_,0,(r.drop (HT.sIx xs.length 0 lo)).take (HT.sIx xs.length xs.length hi - HT.sIx xs.length 0 lo),j8 _ rfl⟩
def zix:V->Bool
 | .non=>true
 | .bl _=>true
 | .int _=>true
 | .str _=>true
 | _=>false
def eqV:V->V->Bool
 | .non,.non=>true
 | .bl a,.bl b=>a == b
 | .bl a,.int b=>(if a then 1 else 0) == b
 | .int a,.bl b=>a == (if b then 1 else 0)
 | .int a,.int b=>a == b
 | .str a,.str b=>a == b
 | _,_=>false
theorem zim {A:Around}{s:Shared}{y x:V}{u v:Value}(ry:yA y u)(rx:yA x v)(fy:zix y=true)(fx:zix x=true):SeqAt.EqAt A s u v (eqV y x):=by
 cases y with
 | non =>
  cases ry
  cases x with
  | non=>cases rx;exact SeqAt.EqAt.same _
  | bl b=>cases rx;exact SeqAt.EqAt.none_bool b
  | int b=>obtain⟨t,rfl⟩:=rx;exact SeqAt.EqAt.none_int b t
  | str b=>obtain⟨t,rfl⟩:=rx;exact SeqAt.EqAt.none_str b t
  | _=>exact absurd (show false=true from fx) u4
 | bl a =>
  cases ry
  cases x with
  | non=>cases rx;exact SeqAt.EqAt.bool_none a
  | bl b=>cases rx;exact SeqAt.EqAt.bool_bool a b
  | int b=>obtain⟨t,rfl⟩:=rx;exact SeqAt.EqAt.bool_int a b t
  | str b=>obtain⟨t,rfl⟩:=rx;exact SeqAt.EqAt.bool_str a b t
  | _=>exact absurd (show false=true from fx) u4
 | int a =>
  obtain⟨t',rfl⟩:=ry
  cases x with
  | non=>cases rx;exact SeqAt.EqAt.int_none a t'
  | bl b=>cases rx;exact SeqAt.EqAt.int_bool a t' b
  | int b=>obtain⟨t,rfl⟩:=rx;exact u20 a t' b t
  | str b=>obtain⟨t,rfl⟩:=rx;exact SeqAt.EqAt.int_str a t' b t
  | _=>exact absurd (show false=true from fx) u4
 | str a =>
  obtain⟨t',rfl⟩:=ry
  cases x with
  | non=>cases rx;exact SeqAt.EqAt.str_none a t'
  | bl b=>cases rx;exact SeqAt.EqAt.str_bool a t' b
  | int b=>obtain⟨t,rfl⟩:=rx;exact SeqAt.EqAt.str_int a t' b t
  | str b=>obtain⟨t,rfl⟩:=rx;exact SeqAt.EqAt.str_str a t' b t
  | _=>exact absurd (show false=true from fx) u4
 | _=>exact absurd (show false=true from fy) u4
theorem yy:Ys X (.builtin "len") (λxs H Q=>∃ p ys,xs=[.ref p]/\(SqL X.K H p ys\/SqT X.K H p ys)/\Q (.int ys.length) H):=by
 intro pins s σ H xs us Q I r h
 obtain⟨p,ys,rfl,hq,q⟩:=h
 obtain⟨u,rfl,rx⟩:=Vk r
 cases rx
 have hn:=zaz
 rcases hq with hq | hq
 .obtain⟨its,r',pl,hz⟩:=I.list hq
  have hlen:=r'.length
  exact Calls.call_len_list pl.isList (by simp only[j4] <;> omega) ⟨.int ys.length,H,I.tok _,⟨s.toks+1,by rw[j4,hlen]⟩,q⟩
 .obtain⟨its,r',pl,hz⟩:=I.tuple hq
  have hlen:=r'.length
  exact len_tuple pl (by simp only[j4] <;> omega) ⟨.int ys.length,H,I.tok _,⟨s.toks+1,by rw[j4,hlen]⟩,q⟩
theorem zaj:Ys X (.type "list") (λxs H Q=>∃ p ys,xs=[.ref p]/\(SqL X.K H p ys\/SqT X.K H p ys)/\∀ l,H l=none->Q (.ref l) (upd H l (.lst ys))):=by
 intro pins s σ H xs us Q I r h
 obtain⟨p,ys,rfl,hq,q⟩:=h
 obtain⟨u,rfl,rx⟩:=Vk r
 cases rx
 have fin:∀ (its:List Value),zU ys its->ys.length<=sizeLine->∀ (h':Heap) (c':Nat),(∀ b o',s.heap.get? b=some o'->h'.get? b=some o') ->
  h'.get? s.heap.objs.size=some { cls:=.type "list",dict:=none,data:=.seq its.toArray c',slots:=#[] }->EP X pins σ Q (.ref s.heap.objs.size) { s with heap:=h' }:=λits r' hz h' c' kp e =>
  ⟨.ref s.heap.objs.size,_,I.laid (t':=s.toks) kp (q5 _) (show yo X.prog X.w _ h' _ (.lst ys) from⟨hz,its,c',r',e⟩),rfl,q _ (I.hok.fresh (q5 _))⟩
 rcases hq with hq | hq
 .obtain⟨its,r',pl,hz⟩:=I.list hq
  have hlen:=r'.length
  obtain⟨o,ho,hc,n,hd⟩:=pl.isList
  exact call_list_seq p (.inl rfl) ho hc hd (λh' c' kp e=>fin its r' hz h' c' kp e) (by simp only[j4] <;> omega)
 .obtain⟨its,r',pl,hz⟩:=I.tuple hq
  have hlen:=r'.length
  obtain⟨o,ho,hc,n,hd⟩:=pl
  exact call_list_seq p (.inr rfl) ho hc hd (λh' c' kp e=>fin its r' hz h' c' kp e) (by simp only[j4] <;> omega)
theorem zK:Ys X (.type "tuple") (λxs H Q=>∃ p ys,xs=[.ref p]/\((SqL X.K H p ys/\∀ l,H l=none->Q (.ref l) (upd H l (.tup ys)))\/(SqT X.K H p ys/\Q (.ref p) H))):=by
 intro pins s σ H xs us Q I r h
 obtain⟨p,ys,rfl,h⟩:=h
 obtain⟨u,rfl,rx⟩:=Vk r
 cases rx
 rcases h with ⟨hq,q⟩ | ⟨hq,q⟩
 .obtain⟨its,r',pl,hz⟩:=I.list hq
  have hlen:=r'.length
  refine call_tuple_list pl.isList (λh' kp=>?_) (by simp only[j4] <;> omega)
  have I1:Inv X pins σ H { s with heap:=h' }:=I.kept (t':=s.toks) kp
  have I2:Inv X pins σ (upd H h'.objs.size (.tup ys)) { s with heap:=h'.push { cls:=.type "tuple",data:=.seq its.toArray } } :=
   I1.laid (t':=s.toks) (λb o e=>u5 _ e) (q5 _) (show yo X.prog X.w _ _ _ (.tup ys) from⟨hz,its,r',IsTup.new _ _⟩)
  exact⟨.ref h'.objs.size,_,I2,rfl,q _ (I1.hok.fresh (q5 _))⟩
 .obtain⟨its,r',pl,hz⟩:=I.tuple hq
  exact call_tuple_same pl ⟨.ref p,H,I,rfl,q⟩
def tyV (K:W.Frag)(T:String)(x:V)(H:Hp):Prop:=match x with
 | .str _=>T="str"
 | .int _=>T="int"
 | .ref p=>(T="list"/\∃ xs,SqL K H p xs)\/(T="tuple"/\∃ o,K.lookup p=some o/\o.cls=.type "tuple"/\o.dict=none) \/
  (T="dict"/\((∃ kvs,H p=some (.dK kvs))\/∃ kvs,H p=some (.dT kvs)))\/(T="set"/\∃ S n,H p=some (.set S n))
 | _=>False
theorem zhX {pins:List (Addr × Obj)}{σ:St}{H:Hp}{s:Shared}{T:String}{x:V}{v:Value}(I:Inv X pins σ H s)(r:yA x v)(ty:tyV X.K T x H) :
 s.TypeIs v T/\∀ a,v=.ref a->∃ ob,s.heap.get? a=some ob/\ob.dict=none:=by
 cases x with
 | str z =>
  obtain⟨t,rfl⟩:=r
  cases (show T="str" from ty)
  exact⟨typeIs_str s z t,λ_ e=>nomatch e⟩
 | int i =>
  obtain⟨t,rfl⟩:=r
  cases (show T="int" from ty)
  exact⟨typeIs_int s i t,λ_ e=>nomatch e⟩
 | ref p =>
  cases r
  rcases ty with ⟨rfl,xs,hq⟩ | ⟨rfl,o,hk,hc,hd⟩ | ⟨rfl,hk⟩ | ⟨rfl,S,n,hk⟩
  .obtain⟨its,_,pl,_⟩:=I.list hq
   refine⟨pl.isList.typeIs,λa e=>?_⟩
   cases e
   obtain⟨o,n,e,c,hd,_⟩:=pl
   exact⟨o,e,hd⟩
  .refine⟨⟨o,I.kIn p o hk,hc⟩,λa e=>?_⟩
   cases e
   exact⟨o,I.kIn _ o hk,hd⟩
  .have z:∃ o,s.heap.get? p=some o/\o.ExactDict:=by
    rcases hk with ⟨kvs,hk⟩ | ⟨kvs,hk⟩
    .obtain⟨_,_,_,_,o,_,_,e,ex,_⟩:=I.hok p _ hk
     exact⟨o,e,ex⟩
    .obtain⟨_,_,_,_,o,_,_,e,ex,_⟩:=I.hok p _ hk
     exact⟨o,e,ex⟩
   obtain⟨o,e,ex⟩:=z
   refine⟨⟨o,e,ex.1⟩,λa e2=>?_⟩
   cases e2
   exact⟨o,e,ex.2.1⟩
  .obtain⟨o,_,_,_,e,ex,_⟩:=I.hok p _ hk
   refine⟨⟨o,e,ex.1⟩,λa e2=>?_⟩
   cases e2
   exact⟨o,e,ex.2.1⟩
 | _=>exact False.elim ty
def tBM0 (K:W.Frag)(T:String)(r:V->List V->Hp->VK->Prop)(to:TE):TE:=fun σ H Q=>to σ H λx H1=>tyV K T x H1/\r x [] H1 Q
def tBM (K:W.Frag)(T:String)(r:V->List V->Hp->VK->Prop)(to:TE)(t:TA):TE:=fun σ H Q=>to σ H λx H1=>tyV K T x H1/\t σ H1 λxs H2=>r x xs H2 Q
variable {o e:Expr}{es:List Expr}{to:TE}{t:TA}{name:Str}{apos cpos:Pos}{T id:String}{r:V->List V->Hp->VK->Prop}
theorem zkt (pa:PlainAttrs T) (slot:Slot T name id) (hty:typeOf (.builtin id)=pure (.type "method_descriptor")) (hm:MtR X id r) (ho:PE X o to)
 (hbase:attributeBase o name X.env (eval o X.env)=eval o X.env:=by rfl) (hline:(apos.endLine == cpos.line)=true:=by rfl):PE X (.Call (.Attribute o name apos) [] [] cpos) (tBM0 X.K T r to):=by
 intro pins s σ H Q I h
 refine wpAny_Call_method0_late hbase hline (thn (ho pins s σ H _ I h) λv s1 hh9=>?_)
 obtain⟨x,H1,I1,r1,ty,q1⟩:=hh9
 obtain⟨h1,h2⟩:=zhX I1 r1 ty
 exact⟨T,id,pa,slot,hty,h1,h2,Calls.callWith_builtin rfl (PySem.evalArgs_none (hm pins s1 σ H1 x [] v [] Q I1 r1 .nil q1))⟩
theorem zc9 (pa:PlainAttrs T) (slot:Slot T name id) (hty:typeOf (.builtin id)=pure (.type "method_descriptor")) (hm:MtR X id r) (ho:PE X o to) (ha:PA X (e::es) t)
 (hbase:attributeBase o name X.env (eval o X.env)=eval o X.env:=by rfl)
 (hfew:((backTo cpos (starEach (e::es) X.env)).all (λx=>!x.1)&&(backToKw cpos (keywordEach [] X.env)).all (λx=>x.1.isSome)
  && decide ((e::es).length+([]:List Keyword).length+(if ([]:List Keyword).isEmpty then 0 else 1) < 30))=true:=by rfl)
 (hline:(apos.endLine == cpos.line)=true:=by rfl) (hs:starEach (e::es) X.env=(false,eval e X.env)::starEach es X.env:=by rfl) (hplain:(backTo cpos (starEach es X.env)).any (·.1)=false:=by rfl) :
 PE X (.Call (.Attribute o name apos) (e::es) [] cpos) (tBM X.K T r to t):=by
 intro pins s σ H Q I h
 refine wpAny_Call_method_late hbase hfew hline rfl (thn (ho pins s σ H _ I h) λv s1 hh9=>?_)
 obtain⟨x,H1,I1,r1,ty,q1⟩:=hh9
 obtain⟨h1,h2⟩:=zhX I1 r1 ty
 refine⟨T,id,pa,slot,hty,h1,h2,?_⟩
 have hA:=ha cpos pins s1 σ H1 _ I1 q1
 rw[hs]at hA ⊢
 refine Calls.callWith_builtin (by show(false||(backTo cpos (starEach es X.env)).any (·.1))=false;rw[hplain] <;> rfl) (Calls.evalArgs_plain ?_)
 exact thn hA λus s2 ⟨vs,H2,I2,r2,q2⟩=>hm pins s2 σ H2 x vs v us Q I2 r1 r2 q2
/- xs.append(e),list.index on a module's tuple .. are MtR facts of 06m -/
end
def MtM (X:Cx)(id:String)(r:V->List V->Hp->VK->Prop):Prop :=
 ∀ (pins:List (Addr × Obj)) (s:Shared) (σ:St) (H:Hp) (x:V) (xs:List V) (v:Value) (us:List Value) (Q:VK),Inv X pins σ H s->yA x v->zU xs us->r x xs H Q ->
  wpAny (model X.prog X.w) X.A (call (.builtin id) (v::us)) (EP X pins σ Q) X.xe s
theorem zU.one:∀ {x:V} {us:List Value},zU [x] us->∃ u,us=[u]/\yA x u:=by
 intro x us h
 cases h with | cons r t=>cases t;exact⟨_,rfl,r⟩
theorem zU.two:∀ {x y:V} {us:List Value},zU [x,y] us->∃ u v,us=[u,v]/\yA x u/\yA y v:=by
 intro x y us h
 cases h with | cons r t=>cases t with | cons q t=>cases t;exact⟨_,_,rfl,r,q⟩
theorem zU.rep {xs:List V}{us:List Value}(h:zU xs us):∀ k:Nat,zU (List.replicate k xs).flatten (List.replicate k us).flatten
 | 0=>.nil
 | k+1=>by
  rw[u0P,u0P,u1p,u1p]
  exact zU.append h (zU.rep h k)
theorem zbb (its:List Value):∀ (k:Nat) (acc:List Value),
 List.foldl (λx1 x2=>x1++x2) acc.toArray (List.replicate k its.toArray)=(acc++(List.replicate k its).flatten).toArray
 | 0,acc=>by simp
 | k+1,acc=>by
  have e:acc.toArray++its.toArray=(acc++its).toArray:=by simp
  have e2:(acc++its)++(List.replicate k its).flatten=acc++(List.replicate (k+1) its).flatten:=by
   rw[u0P,u1p,g8]
  rw[<-e2,<- zbb its k (acc++its),<- e,u0P,u3w]
section
variable {X:Cx}{pins:List (Addr × Obj)}{σ:St}{H:Hp}{s:Shared}{l b:Addr}{xs ys zs:List V}
theorem Inv.lset {its its':List Value}{n:Nat}{f:Array Value->Array Value}{t':Nat}(I:Inv X pins σ H s)(hH:H l=some (.lst xs))
 (e:s.heap.get? l=some { cls:=.type "list",data:=.seq its.toArray n }) (hf:f its.toArray=its'.toArray) (hv:zU ys its') (hz:ys.length<=sizeLine) :
 Inv X pins σ (upd H l (.lst ys)) { s with heap:=s.heap.update l (Obj.mapSeq f),toks:=t' }:=by
 have q:=PySem.IsL.update e f
 rw[hf]at q
 refine I.write (x:=l) (e:=l) (by rw[hH];exact trivial) (.inl rfl) (λb' u hb hu=>(u0u s.heap (Obj.mapSeq f) (u1Q hb)).trans hu) ⟨_,q⟩ ?_
 exact⟨hz,its',_,hv,q⟩
theorem Inv.lnew {its:List Value}{t':Nat}(I:Inv X pins σ H s)(hv:zU ys its)(hz:ys.length<=sizeLine) :
 Inv X pins σ (upd H s.heap.objs.size (.lst ys)) { s with heap:=s.heap.push { cls:=.type "list",data:=.seq its.toArray },toks:=t' } :=
 I.laid (λ_ _ q=>u5 _ q) (q5 _) ⟨hz,its,0,hv,j8 _ rfl⟩
theorem Inv.fresh (I:Inv X pins σ H s):H s.heap.objs.size=none:=I.hok.fresh (q5 _)
theorem Inv.lstM (I:Inv X pins σ H s) (hH:H l=some (.lst xs)):xs.length<=sizeLine/\∃ (its:List Value) (n:Nat),zU xs its/\xs.length=its.length/\s.heap.get? l=some { cls:=.type "list",data:=.seq its.toArray n }:=by
 obtain⟨z,its,n,r,e⟩:=I.hok l _ hH
 exact⟨z,its,n,r,r.length,e⟩
theorem zca {n:Nat}(h:n<=sizeLine):Builtin.List.listTooLong n=false:=by
 unfold Builtin.List.listTooLong
 exact p6 (by omega)
end
section
variable {X:Cx}
def zdL:V->List V->Hp->VK->Prop:=λx vs H Q=>∃ l xs y,x=.ref l/\vs=[y]/\H l=some (.lst xs)/\xs.length < sizeLine/\Q .non (upd H l (.lst (xs++[y])))
theorem vX:MtM X "list.append" zdL:=by
 intro pins s σ H x vs v us Q I rx rv h
 obtain⟨l,xs,y,rfl,rfl,hH,hz,q⟩:=h
 cases rx
 obtain⟨u,rfl,ru⟩:=rv.one
 obtain⟨z,its,n,r,hl,e⟩:=I.lstM hH
 refine u3a F.slot_list_append ⟨_,e,rfl⟩ F.entry_list_append (F.args_list_append_2 _ _) (PySem.list_append l its.toArray n u (by rw[j4];omega)) ⟨e,?_⟩
 refine⟨.non,_,I.lset (its':=its++[u]) hH e (by simp) (r.append (.cons ru .nil)) ?_,rfl,q⟩
 rw[r9,List.length_singleton]
 omega
def zjc:V->List V->Hp->VK->Prop:=λx vs H Q=>∃ l b xs zs,x=.ref l/\vs=[.ref b]/\H l=some (.lst xs)/\H b=some (.lst zs)/\xs.length+zs.length<=sizeLine/\Q .non (upd H l (.lst (xs++zs)))
theorem zkU:MtM X "list.extend" zjc:=by
 intro pins s σ H x vs v us Q I rx rv h
 obtain⟨l,b,xs,zs,rfl,rfl,hH,hB,hz,q⟩:=h
 cases rx
 obtain⟨u,rfl,ru⟩:=rv.one
 cases ru
 obtain⟨z,its,n,r,hl,e⟩:=I.lstM hH
 obtain⟨z2,its2,n2,r2,hl2,e2⟩:=I.lstM hB
 have hsz:its.toArray.size+its2.toArray.size<=sizeLine:=by rw[j4,j4];omega
 have hlong:¬ (!its.toArray.isEmpty&&Builtin.List.listTooLong (its.toArray.size+its2.toArray.size))=true:=by
  rw[zca hsz,u2v]
  exact u4
 refine u3a F.slot_list_extend ⟨_,e,rfl⟩ F.entry_list_extend (F.args_list_extend_2 _ _)
  (AutoSeq1.list_extend_list_list_0 l its.toArray n b its2.toArray n2 hlong (by rw[j4];omega) (by omega)) ⟨e,e2,?_⟩
 refine⟨.non,_,I.lset (its':=its++its2) hH e (by simp) (r.append r2) ?_,rfl,q⟩
 rw[r9]
 omega
def rCat:R2:=λx y H Q=>∃ l b xs zs,x=.ref l/\y=.ref b/\H l=some (.lst xs)/\H b=some (.lst zs)/\xs.length+zs.length<=sizeLine/\∀ p,H p=none->Q (.ref p) (upd H p (.lst (xs++zs)))
theorem zlG:OpR X (binaryOp .Add) rCat:=by
 intro pins s σ H x y v u Q I rx ry h
 obtain⟨l,b,xs,zs,rfl,rfl,hH,hB,hz,q⟩:=h
 cases rx
 cases ry
 obtain⟨z,its,n,r,hl,e⟩:=I.lstM hH
 obtain⟨z2,its2,n2,r2,hl2,e2⟩:=I.lstM hB
 refine PySem.P.add_list e e2 ?_ (by rw[j4,j4];omega)
 have ea:its.toArray++its2.toArray=(its++its2).toArray:=by simp
 rw[ea]
 exact⟨.ref _,_,I.lnew (t':=s.toks) (r.append r2) (by rw[r9];omega),rfl,q _ I.fresh⟩
def rRep:R2:=λx y H Q=>∃ l k xs,x=.ref l/\y=.int k/\H l=some (.lst xs)/\-(2 ^ 63)<=k/\k < 2 ^ 63/\xs.length*k.toNat<=sizeLine /\
 ∀ p,H p=none->Q (.ref p) (upd H p (.lst (List.replicate k.toNat xs).flatten))
theorem zjT {α:Type}(xs:List α)(k:Nat):(List.replicate k xs).flatten.length=k*xs.length:=by
 induction k with
 | zero=>simp
 | succ k ih=>rw[u0P,u1p,r9,ih,Nat.succ_mul,Nat.add_comm]
theorem zih:OpR X (binaryOp .Mult) rRep:=by
 intro pins s σ H x y v u Q I rx ry h
 obtain⟨l,k,xs,rfl,rfl,hH,h1,h2,hz,q⟩:=h
 cases rx
 obtain⟨t,rfl⟩:=ry
 obtain⟨z,its,n,r,hl,e⟩:=I.lstM hH
 have hlen:its.toArray.size*k.toNat<=sizeLine:=by rw[j4,<- hl];exact hz
 have hcap:¬ its.toArray.size*k.toNat > (2 ^ 63 - 1) / 8:=by
  have:(sizeLine:Nat)<=(2 ^ 63 - 1) / 8:=by decide
  omega
 have hfit:¬ (!Builtin.List.listFitsIndex k)=true:=by
  rw[fitsIndex_both h1 h2]
  exact u4
 have hlong:¬ Builtin.List.listTooLong (its.toArray.size*k.toNat)=true:=by
  rw[zca hlen]
  exact u4
 have hnew:List.foldl (λx1 x2=>x1++x2) #[] (List.replicate (if its.toArray.isEmpty=true then 0 else k.toNat) its.toArray)=(List.replicate k.toNat its).flatten.toArray:=by
  have f0:∀ m:Nat,List.foldl (λx1 x2=>x1++x2) #[] (List.replicate m its.toArray)=(List.replicate m its).flatten.toArray:=λm=>by
   have:=zbb its m []
   rw[u2P]at this
   exact this
  rw[f0]
  cases its with
  | nil=>simp
  | cons a r'=>rw[u9 (by simp)]
 refine wpAny_binaryOp_repeat_ref (T:="list") (U:="int") (by decide) ⟨_,e,rfl⟩ (λs'=>typeIs_int s' k t) noFill_list_mul F.fills_int_mul F.slot_int_rmul repeat_list F.slot_int_index.lookup
  (u3a F.slot_int_rmul (typeIs_int s k t) F.entry_int_rmul (F.args_int_rmul_2 _ _) (int___rmul___int_list k t l its.toArray n)
   ⟨e,rfl,⟨_,e,rfl⟩,u3a F.slot_list_mul ⟨_,e,rfl⟩ F.entry_list_mul (F.args_list_mul_2 _ _) (AutoListH.list___mul___list_int_3 l its.toArray n k t hfit hcap hlong) ⟨e,?_⟩⟩)
 rw[hnew]
 exact⟨.ref _,_,I.lnew (t':=s.toks) (r.rep k.toNat) (by rw[zjT,Nat.mul_comm];exact hz),rfl,q _ I.fresh⟩
end
end L2
namespace Att
open PySem PySem.W PySem.Calls PyProof.Rows
theorem X6 {P:Params}{h:Heap}:∀ (ns:List Int) (vs:List Value),WellAll P h vs (ns.map WData.int)->IntsAre vs ns:=by
 intro ns
 induction ns with
 | nil =>
  intro vs w
  rw[u3y]at w
  cases w
  exact .nil
 | cons n ns ih =>
  intro vs w
  rw[d8]at w
  cases w with
  | cons a b =>
   cases a
   exact .cons _ _ (ih _ b)
theorem zfg {l:OpenLaw}{n:Nat}(hn:l.most=some n){P:Params}{h:Heap}{args:List WData}{vals:List Value}
 (hpre:l.row.toRowW.claim.pre args=true) (hwl:WellAll P h vals args) :
 ∃ a vs ns,vals=[Value.ref a]/\args=[WData.list (ns.map WData.int)]/\h.get? a=some { cls:=.type "list",data:=.seq vs.toArray }/\IntsAre vs ns/\ns.length<=n:=by
 have hsh:WShape.hasAll [] args [.list .int]=true:=(pre_splitW hpre).1
 have hc:l.pre.holds [] { args:=args }=true:=(pre_splitW hpre).2
 obtain⟨d,r,rfl,h1,h2⟩:=hasAllW_cons hsh
 obtain rfl:=hasAllW_nil h2
 obtain⟨xs,rfl,h3⟩:=hasW_list h1
 obtain⟨ns,rfl⟩:=items_int h3
 have hlen:ns.length<=n:=by
  unfold OpenLaw.pre at hc
  have h4:(WTm.not (.lt (.lit (.int (n:Int))) (.len (.arg 0)))).holds [] { args:=[.list (ns.map .int)] }=true:=by
   have h4:=(holds_andW hc).1
   rw[hn]at h4
   exact h4
  have h5:=condW_of h4 (w_not (w_lt w_lit (w_len_list (w_arg rfl))))
  rw[u6]at h5
  refine u10 λq=>?_
  have q':(n:Int) < ((ns.length:Nat):Int):=by omega
  first
   | (rw[d4 q']at h5;exact absurd h5 (by decide))
   | (simp at h5;omega)
 cases hwl with
 | cons w1 w2 =>
  cases w2
  cases w1 with
  | list ho hall=>exact⟨_,_,ns,rfl,rfl,ho,X6 ns _ hall,hlen⟩
theorem zfD (l:OpenLaw)(args:List WData):l.row.toRowW.claim.post args (.bool true) args=true :=
 postW_of (r:=l.row.toRowW) (X:=(true == true))
  (show WShape.has [] (.bool true) .bool=true by first | rfl | decide | simp[WShape.has,WShape.arms,WShape.armsAll])
  (show(WTm.eq .res (.lit (.bool true))).value [] { args:=args,res:=some (.bool true),after:=args }=some (.bool (true == true))from w_eq_bool (w_res rfl) w_lit) rfl
theorem attach_call {l:OpenLaw}{n:Nat}{q:Program}{loose:List Str}{XP:(Str->Option Value)->Heap->Prop}{YP:World->Heap->Prop}{d:DefRec}
 (hn:l.most=some n) (hdf:d.params.defaults=[])
 (call:∀ (w:World) (s₀ s₁:Shared) (mg mb:Str->Option Value) (fa:Addr) (o:Obj) (pm cd doc:Value) (a:Addr) (vs:List Value) (ns:List Int),
  Ground q loose [] XP w s₀ mg mb s₁.heap->YP w s₁.heap ->
  s₁.heap.get? fa=some o->o.data=.func (docDef d.name d.params d.body d.scope pm cd doc)->s₁.heap.CodeRec cd d.name->mg d.name=some (.ref fa) ->
  s₁.heap.get? a=some { cls:=.type "list",data:=.seq vs.toArray }->IntsAre vs ns->ns.length<=n->s₁.gens=#[] ->
  codeAny (model l.prog w) callerA (.call (.ref fa) ⟨[.ref a],[]⟩) (λr s'=>r=.ok (.ret (.bool true))/\OldK s₁.heap s'.heap/\s'.os=s₁.os/\AllBare s'.gens) s₁) :
 WalkO q loose XP YP l.row.toRowW d [] (λf vs=>PySem.call f vs):=by
 intro w s₀ s₁ mg mb G Y fa o pm cd doc dV kV ho hd hcd hD hmg hg args vals as hpre hlay hrd hwl hlo
 obtain rfl:dV=.none:=Dflts.none hD hdf
 obtain rfl:kV=.none:=Dflts.noKw hD
 obtain⟨a,vs,ns,rfl,rfl,hobj,hints,hlen⟩:=zfg hn hpre hwl
 refine enter_call (u22 (call w s₀ s₁ mg mb fa o pm cd doc a vs ns G Y ho (fd_plain hd) hcd hmg hobj hints hlen hg) λr s' hq=>?_)
 obtain⟨rfl,h2,h3,h4⟩:=hq
 exact⟨.inl ⟨.bool true,.bool true,[],rfl,λ_=>rfl,.bool true,zfD l _,λ_=>⟨List.Pairwise.nil,λ_ hm=>(nomatch hm)⟩⟩,h2,h3,h4⟩
section
variable {prog:Program}{w:World}{A:Around}{E:Value->Shared->Prop}{s:Shared}{K:Frag}
def ledger (h:Heap)(L d:Addr):List (Addr × Obj):=(List.range h.objs.size).filterMap λa=>if a=L\/a=d then none else (h.get? a).map λo=>(a,o)
end
end Att
namespace L2
open PySem PySem.Spec PyProof.Rows
theorem zaQ:∀ {vs:List Value} {ns:List Int},IntsAre vs ns->zU (ns.map V.int) vs:=by
 intro vs ns h
 induction h with
 | nil=>exact .nil
 | cons n t h ih=>exact .cons ⟨t,rfl⟩ ih
def YK (s:Stmt):Arguments:=match s with
 | .FunctionDef _ a _ _ _ _ _ _ _ _=>a
 | _=>{ posonlyargs:=[],args:=[],vararg:=none,kwonlyargs:=[],kw_defaults:=[],kwarg:=none,defaults:=[] }
def wq (s:Stmt):List Stmt:=match s with
 | .FunctionDef _ _ b _ _ _ _ _ _ _=>b
 | _=>[]
def zk (s:Stmt):Scope:=match s with
 | .FunctionDef _ _ _ _ _ _ sc _ _ _=>sc
 | _=>{ kind:=.function,names:=[],isGenerator:=false,isCoroutine:=false }
abbrev CX0:CXT:=λ_ _ _ _ _ _=>False
abbrev E0:XK:=λ_ _ _=>False
theorem zmk {X:Cx}:zev CX0 X E0:=λ_ _ _ _ _ _ _ h=>h.elim
structure Fun (K:W.Frag) (x qual:Str) (st:Stmt) (f:Addr) (fd:FuncData):Prop where
 ex:∃ (oc:Value) (od:Option Addr) (kV doc pm:Value) (an:Option Addr) (cdv ct:Value) (osl:Array (Option Value)),
  fd=W.fnOf x qual (YK st) (wq st) (zk st) .none kV doc pm an cdv ct/\K.lookup f=some ⟨oc,od,.func fd,osl⟩/\W.codeIn K cdv qual=true
 kp:W.keepIn K (.ref f)=true
section
variable {P:Program}{w:World}{K:W.Frag}{mg:Str->Option Value}{base:Heap}
theorem Fun.ok {x qual:Str}{st:Stmt}{f:Addr}{fd:FuncData}{N ps:List Str}{k:Nat}{sp:Sp}(F:Fun K x qual st f fd)(S:zt N ps (zk st))(len:∀ vs H Q E,sp vs H Q E->vs.length=ps.length)
 (hbody:∀ (cdv:Value) (A:Around) (outer:List Env) (s:Shared) (H:Hp) (vs:List V) (Q:VK) (E:XK),vf k (A.deeper (envOfC qual (zk st) s.heap.objs.size f cdv))->sp vs H Q E ->
  ∃ t,PSs (zhN CX0 P w K mg base N qual (zk st) f cdv A outer s H E).nox (wq st) t/\t { nx:=λ_ H'=>Q .non H',rt:=Q } (start N vs) H):xo P w K mg base CX0 (k+1) f fd ps sp:=by
 obtain⟨oc,od,kV,doc,pm,an,cdv,ct,osl,rfl,lk,hcd⟩:=F.ex
 refine zkd lk hcd S len λA outer s H vs Q E hr hsp=>?_
 obtain⟨t,h,q⟩:=hbody cdv A outer s H vs Q E hr hsp
 exact⟨t,h.nox,q⟩
theorem Fun.binds {x qual:Str}{st:Stmt}{f:Addr}{fd:FuncData}{ps:List Str}(F:Fun K x qual st f fd)
 (h:∀ (kV doc pm:Value) (an:Option Addr) (cdv ct:Value) (us:List Value),us.length=ps.length->bindArgs (W.fnOf x qual (YK st) (wq st) (zk st) .none kV doc pm an cdv ct) ⟨us,[]⟩=pure (ps.zip us)):zbq K fd ps []:=by
 obtain⟨oc,od,kV,doc,pm,an,cdv,ct,osl,rfl,lk,hcd⟩:=F.ex
 exact .all (h kV doc pm an cdv ct)
theorem zh4 {x qual:Str}{st:Stmt}{f:Addr}{oc:Value}{od an:Option Addr}{osl:Array (Option Value)}{kV doc pm cdv ct:Value}(l:K.lookup f=some ⟨oc,od,.func (W.fnOf x qual (YK st) (wq st) (zk st) .none kV doc pm an cdv ct),osl⟩)
 (c:W.codeIn K cdv qual=true) (k:W.keepIn K (.ref f)=true):Fun K x qual st f (W.fnOf x qual (YK st) (wq st) (zk st) .none kV doc pm an cdv ct):=⟨⟨oc,od,kV,doc,pm,an,cdv,ct,osl,rfl,l,c⟩,k⟩
end
theorem zjx {A:Around}{k:Nat}(hr:vf k A):A.units+1 < cLine:=h9 (u15 (by decide:1<=64) _) hr.units
theorem YZ {n:Nat}(h:n<=1000):n < sizeLine:=h9 h (by decide)
section
variable {X:Cx}
theorem pv (i:Nat) {x:Str} {pos:Pos} (hN:X.N[i]?=some x:=by rfl) (hv:Vis X.env.scope x:=by first | exact Or.inl rfl | exact Or.inr (Or.inl rfl) | exact Or.inr (Or.inr rfl)) (hd:(x == ("__debug__":Str))=false:=by decide)
 (hcd:(x == ("__classdict__":Str))=false:=by decide):PE X (.Name x pos) (zio i):=zkS hN hv hd hcd
end
def yI (H H':Hp):Prop:=∀ b o,H b=some o->H' b=some o
theorem yI.refl (H:Hp):yI H H:=λ_ _ h=>h
theorem yI.trans {H H1 H2:Hp}(a:yI H H1)(b:yI H1 H2):yI H H2:=λc o h=>b c o (a c o h)
theorem yI.free {H H':Hp}(e:yI H H'){l:Addr}(h:H' l=Option.none):H l=Option.none:=by
 cases q:H l with
 | none=>rfl
 | some o =>
  rw[e l o q]at h
  cases h
theorem yI.seq {K:W.Frag}{H H':Hp}{a:Addr}{xs:List V}(e:yI H H')(h:SqL K H a xs):SqL K H' a xs:=by
 rcases h with (h | ⟨o,h⟩) | h
 .exact .inl (.inl (e _ _ h))
 .exact .inl (.inr ⟨o,e _ _ h⟩)
 .exact .inr h
section
variable {κ:Type}[DecidableEq κ]
def zcF (kvs:List (κ × V))(k:κ):Option V:=(kvs.find? λkv=>decide (kv.1=k)).map (·.2)
def zbW (kvs:List (κ × V))(k:κ)(v:V):List (κ × V) :=
 if (kvs.any λkv=>decide (kv.1=k))=true then kvs.map (λkv=>if kv.1=k then (kv.1,v)else kv)else kvs++[(k,v)]
theorem Xl {p:κ × V}{r:List (κ × V)}{k:κ}(e:p.1=k):zcF (p::r) k=some p.2:=by simp[zcF,u1F,e]
theorem Xf {p:κ × V}{r:List (κ × V)}{k:κ}(e:¬ p.1=k):zcF (p::r) k=zcF r k:=by simp[zcF,u1F,e]
theorem Vi (k:κ):∀ kvs:List (κ × V),(kvs.any λkv=>decide (kv.1=k))=(zcF kvs k).isSome
 | []=>rfl
 | p::r=>by
  rw[u2F]
  by_cases e:p.1=k
  .simp only[Xl e,d4 e,Bool.true_or,Option.isSome_some]
  .rw[Xf e,p6 e,Bool.false_or];exact Vi k r
theorem X2 (kvs:List (κ × V))(k:κ)(v:V):(zbW kvs k v).length<=kvs.length+1:=by
 unfold zbW
 split
 .rw[u6];omega
 .rw[r9,e8,u2N];omega
theorem zjt.isSome_eq {o:Option V}{u:Option Value}(r:zjt o u):o.isSome=u.isSome:=by
 cases o with
 | none=>cases u with
  | none=>rfl
  | some _=>exact(show False from r).elim
 | some _=>cases u with
  | none=>exact(show False from r).elim
  | some _=>rfl
theorem KV.val {kvs:List (κ × V)}{vs:List (κ × Value)}(r:KV kvs vs)(k:κ):zjt (zcF kvs k) (valueAt vs k):=by
 unfold KV at r
 induction r with
 | nil=>exact True.intro
 | @cons p q ps qs h t ih =>
  obtain⟨h1,h2⟩:=h
  by_cases e:p.1=k
  .have e':q.1=k:=h1.symm.trans e
   have b:valueAt (q::qs) k=some q.2:=by simp[valueAt,u1F,e']
   rw[Xl e,b];exact h2
  .have e':¬ q.1=k:=λz=>e (h1.trans z)
   have b:valueAt (q::qs) k=valueAt qs k:=by simp[valueAt,u1F,e']
   rw[Xf e,b];exact ih
theorem KV.any {kvs:List (κ × V)}{vs:List (κ × Value)}(r:KV kvs vs)(k:κ):(kvs.any λkv=>decide (kv.1=k))=vs.any λkv=>decide (kv.1=k):=by
 unfold KV at r
 induction r with
 | nil=>rfl
 | cons h t ih=>rw[u2F,u2F,ih,h.1]
theorem KV.repl {kvs:List (κ × V)}{vs:List (κ × Value)}(r:KV kvs vs)(k:κ){y:V}{u:Value}(ry:yA y u) :
 KV (kvs.map λkv=>if kv.1=k then (kv.1,y)else kv) (vs.map λkv=>if kv.1=k then (kv.1,u)else kv):=by
 unfold KV at r ⊢
 induction r with
 | nil=>exact .nil
 | @cons p q ps qs h t ih =>
  rw[d8,d8]
  refine .cons ?_ ih
  obtain⟨h1,h2⟩:=h
  by_cases e:p.1=k
  .rw[u8 e,u8 (h1.symm.trans e)];exact⟨h1,ry⟩
  .rw[u9 e,u9 (λz=>e (h1.trans z))];exact⟨h1,h2⟩
theorem KV.put {kvs:List (κ × V)}{vs:List (κ × Value)}(r:KV kvs vs)(k:κ){y:V}{u:Value}(ry:yA y u):KV (zbW kvs k y) (stored vs k u):=by
 unfold zbW stored
 rw[r.any k]
 by_cases e:(vs.any λkv=>decide (kv.1=k))=true
 .rw[u8 e,u8 e];exact r.repl k ry
 .rw[u9 e,u9 e];exact Paired.snoc r ⟨rfl,ry⟩
theorem KV.length {kvs:List (κ × V)}{vs:List (κ × Value)}(r:KV kvs vs):kvs.length=vs.length:=u3g r
end
theorem zja {P:Program}{w:World}{k:Key}{u:Value}(r:yA (kV k) u):(yW P w).is k u=true:=by
 cases k with
 | inl i=>obtain⟨t,e⟩:=(show ∃ t,u=Value.int i t from r);subst e;exact zbi P w i t
 | inr x=>obtain⟨t,e⟩:=(show ∃ t,u=Value.str x t from r);subst e;exact zb0 P w x t
theorem zaH {P:Program}{w:World}:∀ {ks:List Key} {us:List Value},zU (ks.map kV) us->ItemsAre (yW P w) ks us
 | [],_,r=>by rw[u3y]at r;cases r;exact .nil
 | k::ks,_,r=>by
  rw[d8]at r
  cases r with
  | cons h t=>exact .cons (zja h) (zaH t)
abbrev KT (H:Hp):List (List Key × V)->List (List Key × Addr × Value)->Prop:=Paired λp q=>p.1=q.1/\H q.2.1=some (.tup (p.1.map kV))/\yA p.2 q.2.2
theorem KT.val {H:Hp}{kvs:List (List Key × V)}{xs:List (List Key × Addr × Value)}(r:KT H kvs xs)(k:List Key):zjt (zcF kvs k) ((atKey xs k).map (·.2)):=by
 induction r with
 | nil=>exact True.intro
 | @cons p q ps qs h t ih =>
  obtain⟨h1,_,h2⟩:=h
  by_cases e:p.1=k
  .have e':q.1=k:=h1.symm.trans e
   have b:atKey (q::qs) k=some q.2:=by simp[atKey,u1F,e']
   rw[Xl e,b];exact h2
  .have e':¬ q.1=k:=λz=>e (h1.trans z)
   have b:atKey (q::qs) k=atKey qs k:=by simp[atKey,u1F,e']
   rw[Xf e,b];exact ih
theorem KT.repl {H:Hp}{kvs:List (List Key × V)}{xs:List (List Key × Addr × Value)}(r:KT H kvs xs)(k:List Key){y:V}{u:Value}(ry:yA y u) :
 KT H (kvs.map λkv=>if kv.1=k then (kv.1,y)else kv) (xs.map (putAt k u)):=by
 induction r with
 | nil=>exact .nil
 | @cons p q ps qs h t ih =>
  rw[d8,d8]
  refine .cons ?_ ih
  obtain⟨h1,h2,h3⟩:=h
  unfold putAt
  by_cases e:p.1=k
  .rw[u8 e,u8 (h1.symm.trans e)];exact⟨h1,h2,ry⟩
  .rw[u9 e,u9 (λz=>e (h1.trans z))];exact⟨h1,h2,h3⟩
theorem KT.put {H:Hp}{kvs:List (List Key × V)}{xs:List (List Key × Addr × Value)}(r:KT H kvs xs)(k:List Key){b:Addr}{y:V}{u:Value}(hb:H b=some (.tup (k.map kV)))(ry:yA y u) :
 KT H (zbW kvs k y) (storedH xs k b u):=by
 have e:(kvs.any λkv=>decide (kv.1=k))=(atKey xs k).isSome:=by
  rw[Vi,(r.val k).isSome_eq,u1L]
 unfold zbW storedH
 rw[e]
 by_cases q:(atKey xs k).isSome=true
 .rw[u8 q,u8 q];exact r.repl k ry
 .rw[u9 q,u9 q];exact Paired.snoc r ⟨rfl,hb,ry⟩
theorem KT.keeps {H H':Hp}{kvs:List (List Key × V)}{xs:List (List Key × Addr × Value)}(r:KT H kvs xs)(ht:∀ b ys,H b=some (.tup ys)->H' b=some (.tup ys)):KT H' kvs xs :=
 Paired.mapP r λ_ _ z=>⟨z.1,ht _ _ z.2.1,z.2.2⟩
section
variable {P:Program}{w:World}{H:Hp}{h:Heap}{a:Addr}
theorem zkb {u:HO}(ok:HOk P w H h)(e:Rd H a u):yo P w H h a u:=e.ok ok
theorem zj3 {kvs:List (Key × V)}(ok:HOk P w H h)(e:Rd H a (.dK kvs)):kvs.length<=sizeLine/\(a == sysModules)=false/\∃ vs,KV kvs vs/\h.DictOf (yW P w) a vs :=
 show yo P w H h a (.dK kvs)from zkb ok e
theorem zmY {kvs:List (Key × V)}(ok:HOk P w H h)(e:H a=some (.dK kvs)):kvs.length<=sizeLine/\(a == sysModules)=false/\∃ vs,KV kvs vs/\h.DictOf (yW P w) a vs:=zj3 ok (.inl e)
theorem zcl {ks:List Key}(ok:HOk P w H h)(e:H a=some (.tup (ks.map kV))):(tupleKind (yW P w)).is h ks a:=by
 obtain⟨_,its,r,o,h1,h2,n,h3⟩:=(show yo P w H h a (.tup (ks.map kV))from ok a _ e)
 exact⟨o,its.toArray,n,h1,h2,h3,by simpa using zaH r⟩
theorem zke {kvs:List (List Key × V)}(ok:HOk P w H h)(e:Rd H a (.dT kvs)):kvs.length<=sizeLine/\(a == sysModules)=false /\
 ∃ xs,KT H kvs xs/\h.DictOfH (tupleKind (yW P w)) a xs:=by
 obtain⟨z,y,xs,r,o,es,ep,h1,h2,h3,h4,h5⟩:=(show yo P w H h a (.dT kvs)from zkb ok e)
 refine⟨z,y,xs,r,o,es,ep,h1,h2,h3,h4,λx hx=>?_,h5⟩
 have all:∀ {l:List (List Key × V)} {m:List (List Key × Addr × Value)},KT H l m->∀ x∈m,(tupleKind (yW P w)).is h x.1 x.2.1:=by
  intro l m q
  induction q with
  | nil=>intro x hx;exact nomatch hx
  | @cons p q ps qs hq t ih =>
   intro x hx
   rcases d7.mp hx with e | hx
   .subst e
    exact zcl ok (by rw[<-hq.1];exact hq.2.1)
   .exact ih x hx
 exact all r x hx
theorem zli {kvs:List (List Key × V)}(ok:HOk P w H h)(e:H a=some (.dT kvs)):kvs.length<=sizeLine/\(a == sysModules)=false /\
 ∃ xs,KT H kvs xs/\h.DictOfH (tupleKind (yW P w)) a xs:=zke ok (.inl e)
end
def zmp (H:Hp)(a:Addr)(y:V)(r:Option V):Prop :=
 (∃ kvs k,Rd H a (.dK kvs)/\y=kV k/\r=zcF kvs k)\/∃ kvs k b,Rd H a (.dT kvs)/\y=.ref b/\H b=some (.tup (k.map kV))/\r=zcF kvs k
def zgp (H:Hp)(a:Addr)(y v:V)(H':Hp):Prop :=
 (∃ kvs k,H a=some (.dK kvs)/\y=kV k/\kvs.length < sizeLine/\H'=upd H a (.dK (zbW kvs k v))) \/
 ∃ kvs k b,H a=some (.dT kvs)/\y=.ref b/\H b=some (.tup (k.map kV))/\kvs.length < sizeLine/\H'=upd H a (.dT (zbW kvs k v))
theorem zgp.k {H:Hp}{a:Addr}{kvs:List (Key × V)}{k:Key}{v:V}(e:H a=some (.dK kvs))(hl:kvs.length < sizeLine):zgp H a (kV k) v (upd H a (.dK (zbW kvs k v))):=.inl ⟨kvs,k,e,rfl,hl,rfl⟩
theorem zgp.t {H:Hp}{a b:Addr}{kvs:List (List Key × V)}{k:List Key}{v:V}(e:H a=some (.dT kvs))(eb:H b=some (.tup (k.map kV)))(hl:kvs.length < sizeLine) :
 zgp H a (.ref b) v (upd H a (.dT (zbW kvs k v))):=.inr ⟨kvs,k,b,e,rfl,eb,hl,rfl⟩
section
variable {X:Cx}{pins:List (Addr × Obj)}{σ:St}{H:Hp}{s:Shared}{a:Addr}{y v:V}{u r:Value}{o:Option V}{A:Around}{E:Value->Shared->Prop}
theorem Inv.big (I:Inv X pins σ H s):sysModules < s.heap.objs.size:=by
 have h:mainGlobals < s.heap.objs.size:=(I.mod.glob.keeps I.bk).lt
 exact Nat.lt_trans (by decide) h
theorem zi5 {Q:Value->Shared->Prop}(hu:A.units+1 < cLine)(I:Inv X pins σ H s)(g:zmp H a y o)(ry:yA y u)(h:∀ s',Inv X pins σ H s'->Q (.bool (!o.isSome)) s') :
 wpAny (model X.prog X.w) A (compareOp .NotIn u (.ref a)) Q E s:=by
 rcases g with ⟨kvs,k,e,ey,l⟩ | ⟨kvs,k,b,e,ey,eb,l⟩
 .subst ey
  obtain⟨z,hd,vs,rel,dd⟩:=zj3 I.hok e
  refine wpAny_notIn_of (zja ry) hd dd.mapOf ?_
  rw[<-(rel.val k).isSome_eq,<- l]
  exact h _ (I.tok _)
 .subst ey
  cases (show u=Value.ref b from ry)
  obtain⟨z,hd,xs,rel,dd⟩:=zke I.hok e
  refine wpAny_notIn_heap (tupleKind_room_in1 hu) (zcl I.hok eb) hd dd ?_
  have q:=(rel.val k).isSome_eq
  rw[u1L]at q
  rw[<-q,<- l]
  exact h _ (I.tok _)
theorem zbs {h':Heap}{t':Nat}{ob:HO}(I:Inv X pins σ H s)(mu:Mut (H a))(hs:Heap.SameBut a s.heap h')(he:∃ q,h'.get? a=some q)(new:yo X.prog X.w (upd H a ob) h' a ob) :
 Inv X pins σ (upd H a ob) { s with heap:=h',toks:=t' } :=
 I.write (x:=a) (e:=a) mu (.inl rfl) (λb q hb z=>(hs.2 b hb).trans z) he new
theorem zk9 {P:Program}{w:World}{H':Hp}{h':Heap}{kvs:List (Key × V)}{vs:List (Key × Value)}(z:kvs.length<=sizeLine)(hd:(a == sysModules)=false)(rel:KV kvs vs)(dd:h'.DictOf (yW P w) a vs) :
 yo P w H' h' a (.dK kvs):=⟨z,hd,vs,rel,dd⟩
theorem zfK {H':Hp}{Q:Unit->Shared->Prop}(hu:A.units+1 < cLine)(I:Inv X pins σ H s)(g:zgp H a y v H')(ry:yA y u)(rv:yA v r)(h:∀ s',Inv X pins σ H' s'->Q () s') :
 wpAny (model X.prog X.w) A (setItem (.ref a) u r) Q E s:=by
 rcases g with ⟨kvs,k,e,ey,l,eH⟩ | ⟨kvs,k,b,e,ey,eb,l,eH⟩
 .subst ey eH
  obtain⟨z,hd,vs,rel,dd⟩:=zmY I.hok e
  have hz:vs.length<=sizeLine:=by rw[<-rel.length];exact z
  have hl:(zbW kvs k v).length<=sizeLine:=by have:=X2 kvs k v;omega
  refine wpAny_setItem_pairs (hsz:=hz) (zja ry) dd λh' dd' hs=>h _ ?_
  have he:∃ q,h'.get? a=some q:=let ⟨q,_,_,hq,_⟩:=dd';⟨q,hq⟩
  exact zbs I (by rw[e];exact True.intro) hs he (zk9 hl hd (rel.put k rv) dd')
 .subst ey eH
  cases (show u=Value.ref b from ry)
  obtain⟨z,hd,xs,rel,dd⟩:=zli I.hok e
  have hz:xs.length<=sizeLine:=by rw[<-u3g rel];exact z
  have hl:(zbW kvs k v).length<=sizeLine:=by have:=X2 kvs k v;omega
  refine wpAny_setItem_heap (hsz:=hz) (tupleKind_room_in1 hu) (zcl I.hok eb) dd λh' dd' hs=>h _ ?_
  obtain⟨q,es,ep,hq,h2,h3,h4,_,h5⟩:=dd'
  refine zbs I (by rw[e];exact True.intro) hs ⟨q,hq⟩ ⟨hl,hd,_,(rel.put k eb rv).keeps λc ys ec=>?_,q,es,ep,hq,h2,h3,h4,h5⟩
  rw[zo (zjS ec e (λz=>nomatch z))]
  exact ec
end
def zms (td ty tv:TE):TS:=λD σ H=>tv σ H λv H1=>td σ H1 λx H2=>ty σ H2 λy H3=>∃ a H4,x=.ref a/\zgp H3 a y v H4/\D.nx σ H4
section
variable {X:Cx}{o i e value:Expr}{pos pos' tpos:Pos}{td ty tv:TE}
theorem ziI (hu:X.A.units+1 < cLine)(ho:PE X o td)(hi:PE X i ty)(hv:PE X value tv)(hs:swapsWith value (some (.Subscript o i pos')) pos.line X.env=pure false) :
 PS X (.Assign [.Subscript o i pos'] value pos) (zms td ty tv):=by
 intro pins s σ H D I h
 refine wpAny_Assign_Subscript (thn (hv pins s σ H _ I h) λr s1 ⟨v,H1,I1,rv,q1⟩=>thn (ho pins s1 σ H1 _ I1 q1) λu s2 ⟨x,H2,I2,rx,q2⟩=>thn (hi pins s2 σ H2 _ I2 q2) λiv s3 hh9=>?_) hs
 obtain⟨y,H3,I3,ry,a,H4,ex,g,q3⟩:=hh9
 subst ex
 obtain rfl:u=Value.ref a:=rx
 exact zfK hu I3 g ry rv λs4 I4=>⟨σ,H4,I4,q3⟩
end
theorem zhH {P:Program} {w:World} {H:Hp} (h:Heap) (hb:sysModules < h.objs.size):yo P w H (h.push { cls:=.type "dict",data:=.dict #[] }) h.objs.size (.dT []) :=
 ⟨u0g _,u1e.mpr (u1Q (p5 hb)),[],.nil,_,#[],0,j8 _ rfl,⟨rfl,rfl,rfl⟩,rfl,rfl,u3E⟩
theorem zbY {X:Cx}:Ys X (.builtin "isinstance") (λxs H Q=>∃ x n t b,xs=[x,.ty n]/\zcu X.K H x t/\W.kitOne X.K t (.type n)=some b/\Q (.bl b) H):=by
 intro pins s σ H xs us Q I r h
 obtain⟨x,n,t,b,rfl,ty,e,q⟩:=h
 obtain⟨u,w',rfl,rx,rt⟩:=zdR r
 cases (show w'=Value.type n from rt)
 exact ze5 I rx ty e λtk=>⟨.bl b,H,I.tok _,rfl,q⟩
theorem zhF {X:Cx}:OpR X (compareOp .Is) (λx y H Q=>∃ i j,x=.bl i/\y=.bl j/\Q (.bl (i == j)) H):=by
 intro pins s σ H x y v u Q I rx ry h
 obtain⟨i,j,rfl,rfl,q⟩:=h
 cases rx
 cases ry
 refine wpAny_is_plain (by rfl) ⟨.bl (i == j),H,I,?_,q⟩
 cases i <;> cases j <;> rfl
theorem zbH {X:Cx}:OpR X (compareOp .IsNot) (λx y H Q=>∃ i j,x=.bl i/\y=.bl j/\Q (.bl (!(i == j))) H):=by
 intro pins s σ H x y v u Q I rx ry h
 obtain⟨i,j,rfl,rfl,q⟩:=h
 cases rx
 cases ry
 refine wpAny_isNot_plain (by rfl) ⟨.bl (!(i == j)),H,I,?_,q⟩
 cases i <;> cases j <;> rfl
def zig (K:W.Frag):R2:=λx y H Q=>∃ a b xs ys,x=.ref a/\y=.ref b/\SqT K H a xs/\SqT K H b ys/\xs.length+ys.length<=sizeLine /\
 (xs=[]->Q (.ref b) H)/\(xs≠[]->ys=[]->Q (.ref a) H)/\(xs≠[]->ys≠[]->∀ p,H p=none->Q (.ref p) (upd H p (.tup (xs++ys))))
theorem zg8 {X:Cx}:OpR X (binaryOp .Add) (zig X.K):=by
 intro pins s σ H x y v u Q I rx ry h
 obtain⟨a,b,xs,ys,rfl,rfl,ha,hb,hz,q0,q1,q2⟩:=h
 by_cases hx:xs=[]
 .subst hx
  cases rx
  cases ry
  obtain⟨its,r,p,_⟩:=I.tuple ha
  obtain⟨its',r',p',_⟩:=I.tuple hb
  cases r
  obtain⟨⟨cls,dd,data,sl⟩,ho,hc,n,hd⟩:=id p
  obtain⟨⟨cls2,dd2,data2,sl2⟩,ho2,hc2,n2,hd2⟩:=id p'
  simp only at hc hd hc2 hd2
  subst hc hd hc2 hd2
  exact concat_meets ⟨_,ho,rfl⟩ ⟨_,ho2,rfl⟩ noFill_tuple_add seq_tuple_add u2p u2k (u2c _ _)
   (tuple_addW0 a b #[] its'.toArray n n2 dd dd2 sl sl2 rfl) ⟨ho,ho2,⟨.ref b,H,I,rfl,q0 rfl⟩⟩
 .refine zi4 pins s σ H (.ref a) (.ref b) v u Q I rx ry ⟨a,b,xs,ys,rfl,rfl,ha,hb,hx,hz,?_⟩
  exact⟨λe=>q1 hx e,λe=>q2 hx e⟩
inductive Zp:St->St->Prop where
 | nil:Zp [] []
 | non {a:Option V} {s t:St}:Zp s t->Zp (none::s) (a::t)
 | same {a:Option V} {s t:St}:Zp s t->Zp (a::s) (a::t)
theorem Zp.refl:∀ s:St,Zp s s
 | []=>.nil
 | _::r=>.same (Zp.refl r)
theorem Zp.length {s t:St}(h:Zp s t):s.length=t.length:=by
 induction h with
 | nil=>rfl
 | non _ ih=>simp[ih]
 | same _ ih=>simp[ih]
theorem Zp.get {s t:St}(h:Zp s t):∀ (i:Nat) (v:V),s[i]?=some (some v)->t[i]?=some (some v):=by
 induction h with
 | nil=>intro i v e;exact e
 | non _ ih =>
  intro i v e
  cases i with
  | zero=>simp at e
  | succ i=>simpa using ih i v (by simpa using e)
 | same _ ih =>
  intro i v e
  cases i with
  | zero=>simpa using e
  | succ i=>simpa using ih i v (by simpa using e)
theorem Zp.set {n:Nat}{v:V}:∀ {s t:St},Zp s t->s[n]?=some none->Zp s (t.set n (some v))
 | _,_,.nil,_=>.nil
 | _,_,.non (a:=a) h,e=>by
  cases n with
  | zero=>exact .non h
  | succ n=>exact .non (Zp.set h (by simpa using e))
 | _,_,.same (a:=a) h,e=>by
  cases n with
  | zero =>
   have e':a=none:=by simpa using e
   subst e'
   exact .non h
  | succ n=>exact .same (Zp.set h (by simpa using e))
theorem Inv.sub {X:Cx}{pins:List (Addr × Obj)}{σ σ':St}{H:Hp}{s:Shared}(I:Inv X pins σ H s)(h:Zp σ' σ):Inv X pins σ' H s:=I.weak h.length h.get
def PIf (X:Cx)(ifs:List Expr)(t:TT):Prop :=
 ∀ (pins:List (Addr × Obj)) (s:Shared) (σ:St) (H:Hp) (Q:Bool->Hp->Prop),Inv X pins σ H s->t σ H Q ->
  wpAny (model X.prog X.w) X.A (forIn ifs true λc r=>if r=true then do let ok<-isTrue c X.env (eval c X.env);pure (ForInStep.yield ok)else pure (ForInStep.yield r)) (TP X pins σ Q) X.xe s
def tYes:TT:=λ_ H Q=>Q true H
theorem zjn {X:Cx}:PIf X [] tYes:=by
 intro pins s σ H Q I h
 rw[u3D]
 exact j3 ⟨H,I,h⟩
theorem zff {X:Cx}{c:Expr}{t:TT}(hc:PT X c t):PIf X [c] t:=by
 intro pins s σ H Q I h
 rw[u3x]
 refine u3 ?_
 rw[u8 rfl]
 refine u3 (thn (hc pins s σ H Q I h) λb s1 q=>j3 ?_)
 show wpAny _ _ (forIn [] b _) _ _ _
 rw[u3D]
 exact j3 q
section
variable {prog:Program}{w:World}{A:Around}{R:Result->Shared->Prop}{s:Shared}
theorem Yv {elt target iter:Expr}{ifs:List Expr}{scope:Scope}{pos:Pos}{it acc:Value}{env:Env}(I:Nat->Shared->Prop)
 (turn:∀ n s,I n s->wpAny (model prog w) A (pyNext it) (λr s₁=>match r with
  | none=>R (.ok .next) s₁
  | some v=>wpAny (model prog w) A (letOwnedTupleGo target it v) (λ_ s₁'=>wpAny (model prog w) A (assign target env v) (λ_ s₂ =>
   wpAny (model prog w) A (forIn ifs true λc r=>if r=true then do let ok<-isTrue c env (eval c env);pure (ForInStep.yield ok)else pure (ForInStep.yield r)) (λok s₃ =>
    if ok=true then wpAny (model prog w) A (eval elt env) (λx s₄ =>
     wpAny (model prog w) A (call (.builtin "list.append") [acc,x]) (λ_ s₅=>∃ m,m < n/\I m s₅) (λ_ _=>False) s₄) (λ_ _=>False) s₃
    else ∃ m,m < n/\I m s₃) (λ_ _=>False) s₂) (λ_ _=>False) s₁') (λ_ _=>False) s₁) (λ_ _=>False) s)
 (n:Nat) (h:I n s) :
 codeAny (model prog w) A (.compLoop (.ListComp elt [⟨target,iter,ifs,0⟩] scope pos) 0 it acc env) R s:=by
 refine codeAny_loop rfl I (λn s hI=>?_) n h
 show wpAny _ A ((compTurn (.ListComp elt [⟨target,iter,ifs,0⟩] scope pos) 0 it acc env).onRaise (λx=>do noteFrame x env;theTreesLotGoes x)) _ _ s
 refine wpAny_noted ?_
 rw[compTurn_list]
 refine u3 (wpAny_standAt (u3 (u0Z (turn n s hI) (λr s₁ h₁=>?_) λ_ _ h'=>h'.elim)))
 cases r with
 | none=>exact j3 h₁
 | some v =>
  refine u3 (u0Z h₁ (λ_ s₁' h₁'=>?_) λ_ _ h'=>h'.elim)
  refine u3 (u0Z h₁' (λ_ s₂ h₂=>u3 (u0Z h₂ (λok s₃ h₃=>?_) λ_ _ h'=>h'.elim)) λ_ _ h'=>h'.elim)
  cases ok with
  | false=>exact j3 ⟨rfl,h₃⟩
  | true =>
   exact u3 (u3 (u0Z h₃ (λx s₄ h₄=>u3 (u0Z h₄ (λ_ s₅ h₅=>j3 (j3 ⟨rfl,h₅⟩)) λ_ _ h'=>h'.elim)) λ_ _ h'=>h'.elim))
end
def tLC (wi:TI)(n:Nat)(g:TG)(tt:TT)(te:TE):TE:=fun σ H Q=>wi σ H λJ H1=>∀ D,H1 D=none->∃ W:Nat->Nat->List V->Hp->Prop,(∃ m,W 0 m [] (upd H1 D (.lst []))) /\
 ∀ i m ys H2,W i m ys H2->(J.stop i H2/\Q (.ref D) H2)\/(J.go i H2/\ys.length < sizeLine/\∀ x H3,J.yld i H2 x H3->g x (List.replicate n none++σ) H3 fun σ2 H4=>tt σ2 H4 λb H5 =>
  if b=true then te σ2 H5 λy H6=>H6 D=some (.lst ys)/\∃ m',m' < m/\W (i+1) m' (ys++[y]) (upd H6 D (.lst (ys++[y])))else ∃ m',m' < m/\W (i+1) m' ys H5)
theorem wM {α:Type}:∀ {l:List (Str × α)} {y:Str},y∈l.map Prod.fst->∃ c,l.lookup y=some c
 | [],_,h=>by simp at h
 | (k,v)::r,y,h=>by
  by_cases e:y=k
  .exact⟨v,by simp[List.lookup,e]⟩
  .obtain⟨c,hc⟩:=wM (l:=r) (y:=y) (by simpa [e]using h)
   have hb:(y == k)=false:=u1e.mpr e
   exact⟨c,by simp only[List.lookup,hb];exact hc⟩
theorem vm {α:Type}{P:α->Prop}:∀ p∈([]:List α),P p:=λ_ h=>nomatch h
theorem all_cons {α:Type}{P:α->Prop}{a:α}{l:List α}(h:P a)(t:∀ p∈l,P p):∀ p∈a::l,P p:=λp hp=>by
 rcases d7.mp hp with e | hp
 .rw[e];exact h
 .exact t p hp
theorem gs1 (σ:St)(v:V)(H:Hp)(Q:St->Hp->Prop)(h:Y9 0 v (List.replicate 1 none++σ) H Q):Y9 0 v (List.replicate 1 none++σ) H (fun σ2 H2=>Zp (List.replicate 1 none++σ) σ2/\Q σ2 H2):=⟨.set (.refl _) rfl,h⟩
theorem gs2 {K:W.Frag}(σ:St)(v:V)(H:Hp)(Q:St->Hp->Prop)(h:zlU K 2 (zbP (Y9 0) (zbP (Y9 1) zlW)) v (List.replicate 2 none++σ) H Q) :
 zlU K 2 (zbP (Y9 0) (zbP (Y9 1) zlW)) v (List.replicate 2 none++σ) H (fun σ2 H2=>Zp (List.replicate 2 none++σ) σ2/\Q σ2 H2):=by
 obtain⟨a,xs,e,hq,hl,x,r,e1,y,r2,e2,e3,q⟩:=h
 exact⟨a,xs,e,hq,hl,x,r,e1,y,r2,e2,e3,.set (.set (.refl _) rfl) rfl,q⟩
def VX (X:Cx)(L M:List Str)(scope:Scope)(cl:List (Str × Addr))(s₀:Shared)(H₀:Hp)(ex:List Addr)(pn:List (Addr × Obj)):Cx :=
 { X with N:=L++M,s₀:=s₀,H₀:=H₀,env:=compEnvC scope cl s₀.heap.objs.size X.env,outer:=X.stack,stack:=X.stack,ex:=ex,fn:=λ_=>false,pn:=pn,xe:=λ_ _=>False }
structure xv (X:Cx) (L M:List Str) (scope:Scope) (cl:List (Str × Addr)):Prop where
 clos:closureFor scope X.env=pure cl
 cell:∀ y∈scope.names,y.2≠.cell
 kind:scope.kind=.function
 names:∀ y∈scope.names,y.2=.local->scope.names.lookup y.1=some .local
 sub:∀ y c,cl.lookup y=some c->X.env.cells.lookup y=some c
 has:∀ y,((relabel scope X.env).names.lookup y=some .cell\/(relabel scope X.env).names.lookup y=some .free)->∃ c,cl.lookup y=some c
 mlen:M.length=X.N.length
 msk:∀ (i:Nat) y,M[i]?=some y->Vis (relabel scope X.env) y->X.N[i]?=some y
 vis:∀ (i:Nat) y,M[i]?=some y->Vis (relabel scope X.env) y->((relabel scope X.env).names.lookup y=some .cell\/(relabel scope X.env).names.lookup y=some .free)
 out:∀ (i:Nat) y,M[i]?=some y->Vis (relabel scope X.env) y->Vis X.env.scope y/\X.env.kindOf y≠some .local
theorem Inv.letGo {X:Cx}{pins:List (Addr × Obj)}{σ:St}{H:Hp}{s:Shared}{C:Addr}{h':Heap}(I:Inv X pins σ H s)(f:VZ X pins H C)(sb:Heap.SameBut C s.heap h'):Inv X pins σ H { s with heap:=h' }:=by
 obtain⟨f0,f1,f2,f3,f4,f5⟩:=f
 have ne:∀ b,b∉[C]->b≠C:=λb hb z=>hb (by rw[z];exact t9.mpr rfl)
 refine I.call' (s':={ s with heap:=h' }) (ch:=[C]) rfl ⟨λb o e _ _ hx=>(sb.2 b (ne b hx)).trans e,λb o e _ _ hx=>⟨o.slots,(sb.2 b (ne b hx)).trans e⟩,λ_ _ _ n _=>n,λb o e hx=>⟨o,(sb.2 b (ne b hx)).trans e⟩,λ_ _ q=>q,λ_ _ _ q=>q,λ_ _ q=>q⟩ ?_ I.bare λb hb=>?_
 .intro b ob e
  refine(I.hok b ob e).stay (λc v hc q=>(sb.2 c ?_).trans q) (λ_ q=>q) λ_ _ q=>q
  rintro rfl
  rcases hc with z | z
  .rw[<-z,f0]at e;cases e
  .rw[f0]at z;cases z
 .rw[t9.mp hb]
  exact⟨f3,f1,f4,f5⟩
theorem zer {use:Option (Value->Sem Unit)}{Qf:Value->Shared->Prop}{X:Cx}{elt tg iter:Expr}{ifs:List Expr}{L M:List Str}{scope:Scope}{cl:List (Str × Addr)}{pos:Pos}{wi:TI}{g:TG}{tt:TT}{te:TE}
 (hc:X.calm=true) (S:xv X L M scope cl) (hi:PI X tg iter wi)
 (hgS:∀ (σ:St) (v:V) (H:Hp) (Q:St->Hp->Prop),g v (List.replicate L.length none++σ) H Q->g v (List.replicate L.length none++σ) H (fun σ2 H2=>Zp (List.replicate L.length none++σ) σ2/\Q σ2 H2))
 (hg:∀ s₀ H₀ ex pn,PG (VX X L M scope cl s₀ H₀ ex pn) tg g) (ht:∀ s₀ H₀ ex pn,PIf (VX X L M scope cl s₀ H₀ ex pn) ifs tt) (he:∀ s₀ H₀ ex pn,PE (VX X L M scope cl s₀ H₀ ex pn) elt te)
 (hs:∀ x,foldedSetIterable iter X.env x=pure x:=by intro _;rfl) :
 ∀ (pos':Pos) (pins:List (Addr × Obj)) (s:Shared) (σ:St) (H:Hp) (Q:VK),Inv X pins σ H s->tLC wi L.length g tt te σ H Q ->
  (∀ (D C:Addr) (H':Hp) (s':Shared),Inv X pins σ H' s'->(∃ m,s'.heap.Ns C m)->VZ X pins H' C->Q (.ref D) H'->compPost (model X.prog X.w) X.A X.xe use Qf (.ref D) C (.ok .next) s') ->
  wpAny (model X.prog X.w) X.A (comprehension (.ListComp elt [⟨tg,iter,ifs,0⟩] scope pos) scope X.env pos' (newList []) false (eval iter X.env) use) Qf X.xe s:=by
 intro pos' pins s σ H Q I h fin
 refine wpAny_comprehension_free (use:=use) rfl hs S.clos S.kind S.names (thn (hi pins s σ H _ I h) λv s1 h1=>thn h1 λitv s2 h2=>?_)
 obtain⟨it,fp,tn,J,H2,e,I2,T,st2,f2,q⟩:=h2
 subst e
 have hD:H2 s2.heap.objs.size=none:=I2.hok.fresh (q5 _)
 obtain⟨W,⟨m0,w0⟩,turn⟩:=q _ hD
 refine u0l (wpAny_newFunctionEnv S.cell (by intro y hy;simp at hy) (λh₁ hns₁ hsb₁=>?_) S.kind)
 have I3:Inv X pins σ (upd H2 s2.heap.objs.size (.lst [])) { s2 with heap:=s2.heap.push { cls:=.type "list",data:=.seq ([]:List Value).toArray } }:=by
  refine I2.laid (t':=s2.toks) (λb u e=>u5 _ e) (q5 _) ?_
  exact⟨u0g _,[],0,.nil,j8 _ rfl⟩
 generalize hs3:({ s2 with heap:=s2.heap.push { cls:=.type "list",data:=.seq ([]:List Value).toArray } }:Shared)=s3 at I3 hns₁ hsb₁ ⊢
 have hobj:∀ b∈fp,b < s2.heap.objs.size:=λb hb=>by
  obtain⟨o,ho,_⟩:=T.obj _ _ st2 b hb
  exact r6 ho
 have hz3:s3.heap.objs.size=s2.heap.objs.size+1:=by rw[<-hs3];exact u1S ..
 have k23:∀ b o,s2.heap.get? b=some o->s3.heap.get? b=some o:=λb o e=>by rw[<-hs3];exact u5 _ e
 have k34:∀ b o,s3.heap.get? b=some o->h₁.get? b=some o:=λb o e=>(hsb₁.2 b (p5 (r6 e))).trans (u5 _ e)
 generalize hH3:upd H2 s2.heap.objs.size (.lst [])=H3 at I3 w0
 have hfp3:∀ b∈fp,H3 b=none:=λb hb=>by
  rw[<-hH3,zo (p5 (hobj b hb))]
  exact(f2 b hb).1
 have nfs:∀ b∈fp,b∉frs X.stack:=λb hb z=>by
  obtain⟨_,n1,n2,_⟩:=f2 b hb
  rcases d7.mp (I3.stkSub b z)with e | e
  .exact n1 e
  .exact n2 e
 let Y:Cx:=VX X L M scope cl s3 H3 fp (X.pn++pins)
 have OkY:Y.Ok:=by
  refine⟨I.ok.mod,S.kind,I.ok.glob,I.ok.blt,q5 _,λx y c h1 h2=>I.ok.inj x y c (S.sub x c h1) (S.sub y c h2),λx hx=>S.has x hx,(λx c h _=>absurd h u4),I.ok.hd,I.ok.frames,.inl rfl,λb hb=>⟨?_,λx c e z=>?_⟩,
   I3.bs,u0t I.ok.bsz I3.sz,λb o e hb=>?_,nfs,I3.stack,I3.stkFree⟩
  .show b≠s3.heap.objs.size
   exact p5 (o0 (hobj b hb) (by rw[hz3];exact u3f _))
  .exact(f2 b hb).2.2.2.2.1 x c (S.sub x c e) z
  .rcases(f2 b hb).2.2.2.1 with z | z
   .exact I.ok.noex b o e z
   .have h1:=r6 e
    have h2:=I.ok.bsz
    exact absurd (o0 h1 (u0t h2 z)) (u09 _)
 have I4:Inv Y [] (List.replicate L.length none++σ) H3 { s3 with heap:=h₁,toks:=s3.toks+([]:List (Str × Value)).length }:=by
  refine⟨OkY,rfl,I3.bare,Un.kept k34,⟨_,hns₁,λi y v e1 e2 e3=>?_⟩,λx c e=>?_,I3.hok.fresh (q5 _),λx c e=>I3.freeC x c (S.sub x c e),λp hp=>?_,I3.hok.kept k34,?_⟩
  .have hi:¬ i < L.length:=λhlt=>by
    rw[u0q (by simpa using hlt),u0T]at e2
    split at e2 <;> cases e2
   have e0':M[i - L.length]?=some y:=by
    have e1:(L++M)[i]?=some y:=e1
    rw[u0e (by omega)]at e1
    exact e1
   have e2':σ[i - L.length]?=some (some v):=by rw[u0e (by simpa using u10 hi)]at e2;simpa using e2
   have e1':=S.msk _ y e0' e3
   obtain⟨ov,ok⟩:=S.out _ y e0' e3
   obtain⟨m,hn,hl⟩:=I3.loc
   obtain⟨u,ru,lk⟩:=hl _ y v e1' e2' ov
   refine⟨u,ru,?_⟩
   rcases lk with ⟨hk,_⟩ | ⟨_,c,hc',hcell⟩
   .exact absurd hk ok
   .have kn:=S.vis _ y e0' e3
    obtain⟨c',hc2⟩:=S.has y kn
    have:=S.sub y c' hc2
    rw[hc']at this
    cases this
    refine .inr ⟨kn,c,hc2,?_⟩
    obtain⟨o,ho,hd⟩:=hcell
    exact⟨o,k34 _ _ ho,hd⟩
  .obtain⟨v,o,ho,hd⟩:=I3.cell x c (S.sub x c e)
   exact⟨v,o,k34 _ _ ho,hd⟩
  .have hp':p∈X.pn++pins:=u1o (X.pn++pins) ▸ hp
   obtain⟨a1,a2,a3,a4,a5⟩:=I3.pin p hp'
   refine⟨k34 _ _ a1,a2,p5 (r6 a1),λz=>?_,a5⟩
   rcases d7.mp (I3.stkSub p.1 z)with e | e
   .exact a3 e
   .exact a4 e
  .show(List.replicate L.length none++σ).length=(L++M).length
   rw[r9,r9,u0w,I.len,S.mlen]
 have fpY:∀ {H':Hp},(∀ b∈fp,H' b=none)->∀ b∈fp,VZ Y [] H' b:=λ{H'} hn b hb=>by
  refine⟨hn b hb,(OkY.exf b hb).1,nfs b hb,.inl hb,(OkY.exf b hb).2,λp hp=>?_⟩
  have hp':p∈X.pn++pins:=u1o (X.pn++pins) ▸ hp
  exact(f2 b hb).2.2.2.2.2 p hp'
 have st4:tn 0 h₁:=T.keep _ _ _ st2 λb hb o e=>k34 b o (k23 b o e)
 -- behind the loop
 have back:∀ (H':Hp) (s':Shared),Inv Y [] (List.replicate L.length none++σ) H' s'->Q (.ref s2.heap.objs.size) H'->compPost (model X.prog X.w) X.A X.xe use Qf (.ref s2.heap.objs.size) s3.heap.objs.size (.ok .next) s':=λH' s' J' q'=>by
  obtain⟨m,hn,_⟩:=J'.loc
  refine fin _ _ H' s' (I3.call' (ch:=fp) J'.os J'.base J'.hok J'.bare λb hb=>?_) ⟨m,hn⟩ (I3.fpOk (q5 _) J'.free) q'
  obtain⟨_,n1,_,n3,n4,n5⟩:=f2 b hb
  exact⟨n3,n1,n4,n5⟩
 have loop:codeAny (model X.prog X.w) X.A (.compLoop (.ListComp elt [⟨tg,iter,ifs,0⟩] scope pos) 0 (.ref it) (.ref s2.heap.objs.size) (compEnvC scope cl s3.heap.objs.size X.env))
  (compPost (model X.prog X.w) X.A X.xe use Qf (.ref s2.heap.objs.size) s3.heap.objs.size) { s3 with heap:=h₁,toks:=s3.toks+([]:List (Str × Value)).length }:=by
  refine Yv (λn s'=>∃ i ys H',Inv Y [] (List.replicate L.length none++σ) H' s'/\tn i s'.heap/\(∀ b∈fp,H' b=none)/\W i n ys H') ?_ m0 ⟨0,[],H3,I4,st4,hfp3,w0⟩
  rintro n s5 ⟨i,ys,H5,I5,st5,fr5,w5⟩
  rcases turn i n ys H5 w5 with ⟨stop,qn⟩ | ⟨go,hlen,step⟩
  .refine thn (T.done Y rfl rfl rfl hc i [] s5 _ H5 _ I5 (fpY fr5) st5 stop) λr s6 hh9=>?_
   obtain⟨hr,I6⟩:=hh9
   subst hr
   exact back H5 s6 I6 qn
  .refine thn (T.item Y rfl rfl rfl hc i [] s5 _ H5 _ I5 (fpY fr5) st5 go) λr s6 hh9=>?_
   obtain⟨u,hr,h6⟩:=hh9
   subst hr
   refine thn h6 λ_ s7 hh9=>?_
   obtain⟨x,H7,I7,r7,y7,st7,fr7⟩:=hh9
   have I7':=I7.pinned (fpY fr7) (T.obj _ _ st7)
   have g7:=hgS σ x H7 _ (step x H7 y7)
   refine thn (hg _ _ _ _ _ s7 _ H7 x u _ I7' r7 g7) λ_ s8 hh9=>?_
   obtain⟨σ8,H8,I8,sub8,q8⟩:=hh9
   have again:∀ {σ9:St} {H9:Hp} {s9:Shared} {zs:List V},Inv Y ([]++v7 fp s7.heap) σ9 H9 s9->Zp (List.replicate L.length none++σ) σ9->(∃ m',m' < n/\W (i+1) m' zs H9) ->
    ∃ m,m < n/\∃ i ys H',Inv Y [] (List.replicate L.length none++σ) H' s9/\tn i s9.heap/\(∀ b∈fp,H' b=none)/\W i m ys H':=λ{σ9 H9 s9 zs} I9 sub9 w9=>by
    obtain⟨m',hm,w9⟩:=w9
    refine⟨m',hm,i+1,zs,H9,(I9.sub sub9).unpinned,T.keep _ _ _ st7 λb hb o e=>(I9.pin (b,o) (d6 _ (d6 _ (yC hb e)))).1,λb hb=>?_,w9⟩
    obtain⟨o,e,d⟩:=T.obj _ _ st7 b hb
    exact(I9.pin (b,o) (d6 _ (d6 _ (yC hb e)))).2.1
   refine thn (ht _ _ _ _ _ s8 σ8 H8 _ I8 q8) λb s9 hh9=>?_
   obtain⟨H9,I9,q9⟩:=hh9
   cases b with
   | false =>
    rw[u9 u4]at q9
    rw[u9 u4]
    exact again I9 sub8 q9
   | true =>
    rw[u8 rfl]at q9
    rw[u8 rfl]
    refine thn (he _ _ _ _ _ s9 σ8 H9 _ I9 q9) λy s10 hh9=>?_
    obtain⟨yv,H10,I10,r10,hD10,w10⟩:=hh9
    obtain⟨z10,its,k,rv,e10⟩:ys.length<=sizeLine/\∃ (its:List Value) (n:Nat),zU ys its/\s10.heap.get? s2.heap.objs.size=some { cls:=.type "list",data:=.seq its.toArray n }:=I10.hok _ _ hD10
    have hl10:s10.heap.PlainList s2.heap.objs.size its.toArray:=⟨k,e10⟩
    refine wpAny_list_append_plain (hsz:=by rw[j4,<- rv.length];exact z10) hl10 λh11 hl11 sb11=>?_
    obtain⟨k',e11⟩:=hl11
    have I11:Inv Y ([]++v7 fp s7.heap) σ8 (upd H10 s2.heap.objs.size (.lst (ys++[yv]))) { s10 with heap:=h11 }:=by
     refine I10.write (x:=s2.heap.objs.size) (e:=s2.heap.objs.size) (t':=s10.toks) (by rw[hD10];exact True.intro) (.inl rfl) (λb u hb e=>(sb11.2 b hb).trans e) ⟨_,e11⟩ ?_
     refine⟨by rw[r9];show ys.length+1<=sizeLine;exact hlen,its++[y],k',rv.append (.cons r10 .nil),?_⟩
     rw[e11]
     simp
    exact again I11 sub8 w10
 exact codeAny_compStart_list loop (T.self _ 0 _ _ _ st4 loop)
theorem zh8 {X:Cx}{elt tg iter:Expr}{ifs:List Expr}{L M:List Str}{scope:Scope}{cl:List (Str × Addr)}{pos:Pos}{wi:TI}{g:TG}{tt:TT}{te:TE}
 (hc:X.calm=true) (S:xv X L M scope cl) (hi:PI X tg iter wi)
 (hgS:∀ (σ:St) (v:V) (H:Hp) (Q:St->Hp->Prop),g v (List.replicate L.length none++σ) H Q->g v (List.replicate L.length none++σ) H (fun σ2 H2=>Zp (List.replicate L.length none++σ) σ2/\Q σ2 H2))
 (hg:∀ s₀ H₀ ex pn,PG (VX X L M scope cl s₀ H₀ ex pn) tg g) (ht:∀ s₀ H₀ ex pn,PIf (VX X L M scope cl s₀ H₀ ex pn) ifs tt) (he:∀ s₀ H₀ ex pn,PE (VX X L M scope cl s₀ H₀ ex pn) elt te)
 (hs:∀ x,foldedSetIterable iter X.env x=pure x:=by intro _;rfl) :
 PE X (.ListComp elt [⟨tg,iter,ifs,0⟩] scope pos) (tLC wi L.length g tt te):=by
 intro pins s σ H Q I h
 rw[eval_ListComp]
 refine zer hc S hi hgS hg ht he hs _ pins s σ H Q I h λD C H' s' I' ⟨m,hn⟩ f q=>⟨m,hn,λh' sb=>⟨.ref D,_,I'.letGo f sb,rfl,q⟩⟩
theorem zkp {i:Nat}{x:Str}{px spos:Pos}{X:Cx}{elt tg iter:Expr}{ifs:List Expr}{L M:List Str}{scope:Scope}{cl:List (Str × Addr)}{pos:Pos}{wi:TI}{g:TG}{tt:TT}{te:TE}
 (hN:X.N.Nodup) (hi':X.N[i]?=some x) (hx:Loc X.env.scope x) (hc:X.calm=true) (S:xv X L M scope cl) (hi:PI X tg iter wi)
 (hgS:∀ (σ:St) (v:V) (H:Hp) (Q:St->Hp->Prop),g v (List.replicate L.length none++σ) H Q->g v (List.replicate L.length none++σ) H (fun σ2 H2=>Zp (List.replicate L.length none++σ) σ2/\Q σ2 H2))
 (hg:∀ s₀ H₀ ex pn,PG (VX X L M scope cl s₀ H₀ ex pn) tg g) (ht:∀ s₀ H₀ ex pn,PIf (VX X L M scope cl s₀ H₀ ex pn) ifs tt) (he:∀ s₀ H₀ ex pn,PE (VX X L M scope cl s₀ H₀ ex pn) elt te)
 (hs:∀ x,foldedSetIterable iter X.env x=pure x:=by intro _;rfl)
 (hsw:swapsWith (.ListComp elt [⟨tg,iter,ifs,0⟩] scope pos) (some (.Name x px)) spos.line X.env=pure true:=by rfl)
 (hf:X.fn x=true\/X.env.scope.names.lookup x=some .local:=by first | exact .inl rfl | exact .inr rfl | assumption) :
 PS X (.Assign [.Name x px] (.ListComp elt [⟨tg,iter,ifs,0⟩] scope pos) spos) (zmc (tLC wi L.length g tt te) (Y9 i)):=by
 intro pins s σ H D I h
 rw[exec_Assign_Name_used _ _ _ _ hsw]
 refine u3 (wpAny_standAt (u3 ?_))
 show wpAny _ X.A (do let _<-comprehension (.ListComp elt [⟨tg,iter,ifs,0⟩] scope pos) scope X.env _ (newList []) false (eval iter X.env) (some (assign (.Name x px) X.env))) _ _ s
 refine u3 (thn (zer (use:=some (assign (.Name x px) X.env)) (Qf:=λ_ s'=>SP X pins D .next s') hc S hi hgS hg ht he hs _ pins s σ H _ I h λD' C H' s' I' ⟨m,hn⟩ f q=>?_) λ_ s' hq=>j3 (j3 hq))
 have hob:∀ b∈[C],∃ o,s'.heap.get? b=some o/\∀ v,o.data≠.cell v:=λb hb=>by
  rw[t9.mp hb]
  obtain⟨o,es,ep,e,d,_⟩:=hn
  exact⟨o,e,λv z=>by rw[z]at d;cases d⟩
 have I2:=I'.pinned (fp:=[C]) (λb hb=>by rw[t9.mp hb];exact f) hob
 refine thn (zI (pos:=px) hN hi' hx hf _ s' σ H' (.ref D') (.ref D') _ I2 rfl q) λ_ s2 hh9=>?_
 obtain⟨σ2,H2,I3,q3⟩:=hh9
 obtain⟨o,es,ep,e,d⟩:=hn
 have pn:=I3.pin (C,o) (d6 _ (d6 _ (yC (t9.mpr rfl) e)))
 exact⟨m,⟨o,es,ep,pn.1,d⟩,λh' sb=>⟨σ2,H2,I3.unpinned.letGo ⟨pn.2.1,f.2⟩ sb,q3⟩⟩
def Yj (names rn dn:List (Str × NameKind))(N M cn:List Str):Bool :=
 names.all (λy=>decide (y.2≠.cell))&&names.all (λy=>decide (y.2=.local->names.lookup y.1=some .local)) &&
 rn.all (λy=>decide ((y.2=.cell\/y.2=.free)->y.1∈cn)) &&
 (M.length == N.length)&&(M.zip N).all (λp=>decide ((rn.lookup p.1=some .local\/rn.lookup p.1=some .cell\/rn.lookup p.1=some .free)->p.1=p.2)) &&
 M.all (λy=>decide ((rn.lookup y=some .local\/rn.lookup y=some .cell\/rn.lookup y=some .free) ->
  (rn.lookup y=some .cell\/rn.lookup y=some .free)/\(dn.lookup y=some .local\/dn.lookup y=some .cell\/dn.lookup y=some .free)/\dn.lookup y≠some .local))
theorem ZT {X:Cx}{L N M cn:List Str}{scope:Scope}{cl:List (Str × Addr)}{rn dn:List (Str × NameKind)}(hr:(relabel scope X.env).names=rn)(hd:X.env.scope.names=dn)(hN:X.N=N)
 (clos:closureFor scope X.env=pure cl) (kind:scope.kind=.function) (hc:cl.map Prod.fst=cn) (good:Yj scope.names rn dn N M cn=true) (sub:∀ p∈cl,X.env.cells.lookup p.1=some p.2):xv X L M scope cl:=by
 unfold Yj at good
 simp only[p4,u0C,r8]at good
 obtain⟨⟨⟨⟨⟨g1,g2⟩,g3⟩,g5⟩,g6⟩,g4⟩:=good
 have g5:M.length=N.length:=by simpa using g5
 refine⟨clos,g1,kind,g2,λy c h=>sub (y,c) (u0h h),λy h=>?_,by rw[hN];exact g5,λi y e v=>?_,λi y e v=>?_,λi y e v=>?_⟩
 .rw[hr]at h
  have hy:y∈cn:=by
   rcases h with h | h
   .exact g3 _ (u0h h) (.inl rfl)
   .exact g3 _ (u0h h) (.inr rfl)
  exact wM (by rw[hc];exact hy)
 .unfold Vis at v
  rw[hr]at v
  have hi:=(t7.mp e).1
  have hj:i < N.length:=by rw[<-g5];exact hi
  have hz:(M.zip N)[i]?=some (y,N[i]):=by
   rw[u26]
   exact⟨e,u7 hj⟩
  have:=g6 _ (j6 hz) v
  rw[hN,u7 hj]
  exact u0W some this.symm
 .unfold Vis at v
  rw[hr]at v ⊢
  exact(g4 y (j6 e) v).1
 .unfold Vis at v
  rw[hr]at v
  obtain⟨_,k1,k2⟩:=g4 y (j6 e) v
  refine⟨?_,?_⟩
  .unfold Vis;rw[hd];exact k1
  .show X.env.scope.names.lookup y≠_;rw[hd];exact k2
end L2
namespace PySem
open Sem (wp)
open AutoSeq1 (wpAny_loadPart')
section
variable {prog:Program}{w:World}{A:Around}{E:Value->Shared->Prop}{s:Shared}
theorem v8 {it l:Addr}{i:Nat}{items}{x:Value}{Q:Value->Shared->Prop}(hit:s.heap.IsTupleIter it l i)
 (hl:s.heap.IsTuple l items) (hx:items[i]?=some x)
 (hQ:∀ h',h'.IsTupleIter it l (i+1)->Heap.SameBut it s.heap h'->Q x { s with heap:=h' }) :
 wpAny (model prog w) A (Builtin.SmallTypes.nextOf (.ref it)) Q E s:=by
 obtain⟨o,ho,hc,hd⟩:=id hit
 obtain⟨ol,hol,_,nl,hdl⟩:=hl
 unfold Builtin.SmallTypes.nextOf
 refine u3 (u0G (name:=Str.ofString "__next__") hit.typeIs u1g
  (u0O u1g hit.typeIs F.entry_tuple_iterator_next ?_ (F.args_tuple_iterator_next_1 _)))
 show wpAny _ _ (field (.ref it) 0>>=_) _ _ s
 refine u3 (u17 ho hd (x:=.ref l) rfl ?_)
 show wpAny _ _ (if (Value.ref l == Value.none)=true then _ else _) _ _ s
 rw[u9 (show ¬ ((Value.ref l == Value.none)=true)from u4)]
 show wpAny _ _ (field (.ref it) 1>>=_) _ _ s
 refine u3 (u17 ho hd (x:=.int i 0) rfl ?_)
 show wpAny _ _ (seqItems? (.ref l)>>=_) _ _ s
 refine u3 (wpAny_seqItems hol hdl ?_)
 simp only[u1n,hx]
 refine u3 (u27 ho hd (by simp) (j3 ⟨x,rfl,j3 (hQ _ ?_ (u0v ..))⟩))
 exact⟨_,u0Q _ ho (Obj.isFreed_of_fields (u2j hd _)),(Obj.cls_mapFields ..).trans hc,by
  rw[u2j hd];simp[rawInt]⟩
theorem xW {it l:Addr}{i:Nat}{items}{Q:Value->Shared->Prop}(hh:A.handled=none)
 (hit:s.heap.IsTupleIter it l i) (hl:s.heap.IsTuple l items) (hx:items[i]?=none)
 (hE:∀ h' e,Heap.ExtBut it s.heap h'->(∃ o,h'.get? e=some o/\o.cls=.type "StopIteration")->E (.ref e) { s with heap:=h' }) :
 wpAny (model prog w) A (Builtin.SmallTypes.nextOf (.ref it)) Q E s:=by
 obtain⟨o,ho,hc,hd⟩:=id hit
 obtain⟨ol,hol,_,nl,hdl⟩:=hl
 unfold Builtin.SmallTypes.nextOf
 refine u3 (u0G (name:=Str.ofString "__next__") hit.typeIs u1g
  (u0O u1g hit.typeIs F.entry_tuple_iterator_next ?_ (F.args_tuple_iterator_next_1 _)))
 show wpAny _ _ (field (.ref it) 0>>=_) _ _ s
 refine u3 (u17 ho hd (x:=.ref l) rfl ?_)
 show wpAny _ _ (if (Value.ref l == Value.none)=true then _ else _) _ _ s
 rw[u9 (show ¬ ((Value.ref l == Value.none)=true)from u4)]
 show wpAny _ _ (field (.ref it) 1>>=_) _ _ s
 refine u3 (u17 ho hd (x:=.int i 0) rfl ?_)
 show wpAny _ _ (seqItems? (.ref l)>>=_) _ _ s
 refine u3 (wpAny_seqItems hol hdl ?_)
 simp only[u1n,hx]
 refine u3 (u1A (u3 (u27 ho hd (by simp) ?_)))
 show wpAny _ _ (newExc (.type "StopIteration") []>>=_) _ _ _
 refine u3 ?_
 simp only[newExc,newTuple]
 refine u3 (u0l ?_ (by size_fits))
 refine u3 (m:=firstArgMember _ _) (wpAny_of_eq (a:=Value.none) (by first | rfl | (simp only[firstArgMember];rfl)) ?_)
 refine u0l ?_ (by size_fits)
 simp only[raiseNew]
 refine u3 (wpAny_handled ?_)
 first | rw[show A.in1.handled=none from hh] | rw[hh]
 refine u3 (j3 (wpAny_throw ?_))
 exact hE _ _ (((u0v ..).extBut.push _).push _) ⟨_,j8 _ rfl,rfl⟩
end
theorem Yt {prog:Program}{w:World}{A:Around}{E:Value->Shared->Prop}{s:Shared}{e it l:Addr}{i:Nat}{items:Array Value}{old:Value}{Q:Option Value->Shared->Prop}(hh:A.handled=none)
 (he:IsEnum s.heap e it i old) (hit:s.heap.IsTupleIter it l i) (hl:s.heap.IsTuple l items) (hx:items[i]?=none)
 (hQ:∀ h',Heap.ExtBut it s.heap h'->Q none { s with heap:=h' }):wpAny (model prog w) A (pyNext (.ref e)) Q E s:=by
 have hT:s.TypeIs (.ref e) "enumerate":=⟨_,he,rfl⟩
 unfold pyNext
 refine u3 (u2n (u0G (name:=Str.ofString "__next__") hT F.slot_enumerate_next
  (u0O F.slot_enumerate_next hT F.entry_enumerate_next ?_ (F.args_enumerate_next_1 _))))
 show wpAny _ _ (field (.ref e) 2>>=_) _ _ _
 refine u3 (u17 he rfl (x:=.ref it) rfl ?_)
 refine u3 (xW hh hit hl hx λh' x he' hx'=>?_)
 obtain⟨o,ho,hc⟩:=hx'
 refine u3 (wpAny_isInstance (T:="StopIteration") (b:=true) ⟨o,ho,hc⟩ isSubtype_stop ?_)
 exact j3 (hQ _ he')
theorem Wa {prog:Program}{w:World}{A:Around}(hh:A.handled=none)(it l:Addr)(hne:l≠it)(items:Array Value) :
 Draws prog w A it [it,l] items.size (λi v=>items[i]?=some v) (λi h=>h.IsTupleIter it l i/\h.IsTuple l items) where
 live:=λ_ _ st=>let ⟨o,ho,_⟩:=st.1;⟨o,ho⟩
 frame:=λ_ _ _ st hk=>by
  obtain⟨⟨o,ho,r⟩,⟨o2,ho2,r2⟩⟩:=st
  exact⟨⟨o,hk it (by simp) o ho,r⟩,⟨o2,hk l (by simp) o2 ho2,r2⟩⟩
 item:=λi s Q E hi st hQ=>by
  refine v8 st.1 st.2 (x:=items[i]) (by simp[hi]) λh' hit' hs'=>?_
  exact hQ _ h' s.toks (by simp[hi]) ⟨hit',st.2.extBut hs'.extBut hne⟩ hs'
 done:=λs Q E st hE=>xW hh st.1 st.2 (by simp) hE
theorem Y5 (l:Addr)(items:Array Value)(n:Nat)(dd:Option Addr)(sl:Array (Option Value)) :
 Meets (Builtin.«enumerate.__new__» ⟨[.type "enumerate",.ref l],[]⟩) (λ_ R s=>s.heap.get? l=some { cls:=.type "tuple",dict:=dd,data:=.seq items n,slots:=sl } /\
  R (.ok (.ret (.ref (s.heap.push { cls:=.type "tuple_iterator",data:=.fields #[.ref l,.int 0 0] }).objs.size)))
   { s with heap:=(s.heap.push { cls:=.type "tuple_iterator",data:=.fields #[.ref l,.int 0 0] }).push { cls:=.type "enumerate",data:=.fields #[.none,.bool false,.ref s.heap.objs.size,rawInt 0,.none,.none] } }) :=
 .of_wp λprog w A R s h=>by
  obtain⟨hp,g,d,tk,os⟩:=s;obtain⟨hl,h⟩:=h
  have hsub:=sub_enumerate
  have hL:Heap.IsTuple (Shared.heap ⟨hp,g,d,tk,os⟩) l items:=⟨_,hl,rfl,n,rfl⟩
  wp_walk using u1f hl
  refine wpAny_stack_any λst=>j3 ?_
  split
  .rename_i c _ _ _ _ _
   cases (c == Value.type "enumerate")
   .wp_walk using u1f hl,u1D hL
    exact⟨_,rfl,h⟩
   .wp_walk using u1f hl,u1D hL
    exact⟨_,rfl,h⟩
  .wp_walk using u1f hl,u1D hL
   exact⟨_,rfl,h⟩
section
variable {prog:Program}{w:World}{A:Around}{E:Value->Shared->Prop}{s:Shared}
theorem Yu {l:Addr}{items:Array Value}{Q:Value->Shared->Prop}
 (hl:s.heap.IsTuple l items)
 (h:∀ h',IsEnum h' (s.heap.objs.size+1) s.heap.objs.size 0 .none->h'.IsTupleIter s.heap.objs.size l 0->h'.objs.size=s.heap.objs.size+2 ->
  (∀ b o,s.heap.get? b=some o->h'.get? b=some o)->Q (.ref (s.heap.objs.size+1)) { s with heap:=h' }) :
 wpAny (model prog w) A (call (.type "enumerate") [.ref l]) Q E s:=by
 obtain⟨⟨cls,dd,data,sl⟩,ho,hc,n,hd⟩:=hl
 simp only at hc hd
 subst hc hd
 refine callType_new F.called_enumerate (by decide) (F.typeCall_enumerate_1 _) (F.newCall_enumerate_1 _) (λobj=>F.args_object_init_2 obj _) F.entry_enumerate_new
  (Y5 l items n dd sl) ⟨ho,?_⟩
 have hz:(s.heap.push { cls:=.type "tuple_iterator",data:=.fields #[.ref l,.int 0 0] }).objs.size=s.heap.objs.size+1:=u1S ..
 show _/\_
 rw[hz]
 have he:IsEnum ((s.heap.push { cls:=.type "tuple_iterator",data:=.fields #[.ref l,.int 0 0] }).push
  { cls:=.type "enumerate",data:=.fields #[.none,.bool false,.ref s.heap.objs.size,rawInt 0,.none,.none] }) (s.heap.objs.size+1) s.heap.objs.size 0 .none:=by
  have:=j8 (s.heap.push { cls:=.type "tuple_iterator",data:=.fields #[.ref l,.int 0 0] })
   (o:={ cls:=.type "enumerate",data:=.fields #[.none,.bool false,.ref s.heap.objs.size,rawInt 0,.none,.none] }) rfl
  rw[hz]at this;exact this
 refine⟨⟨_,he,rfl⟩,h _ he ⟨_,u5 _ (j8 _ rfl),rfl,rfl⟩ (by rw[u1S,hz]) λb o x=>u5 _ (u5 _ x)⟩
end
end PySem
namespace L2
open PySem PySem.Spec PyProof.Rows
section
variable {X:Cx}{pins:List (Addr × Obj)}{σ:St}{H:Hp}{s:Shared}{h':Heap}
theorem Inv.grown {ch:List Addr}{T:Addr}{o:HO}{t':Nat}(I:Inv X pins σ H s)(hch:∀ b∈ch,VZ X pins H b)(hT:s.heap.objs.size<=T)(k:∀ b u,b∉ch->s.heap.get? b=some u->h'.get? b=some u)
 (new:yo X.prog X.w (upd H T o) h' T o):Inv X pins σ (upd H T o) { s with heap:=h',toks:=t' }:=by
 have hn:H T=none:=I.hok.fresh hT
 have neT:∀ b u,s.heap.get? b=some u->b≠T:=λb u e=>p5 (o0 (r6 e) hT)
 have nch:∀ b u,H b=some u->b∉ch:=λb u e z=>by rw[(hch b z).1]at e;cases e
 refine I.step (g':=s.gens) (d':=s.drawn) (ch:=ch) (λb hb=>?_) (λb u _ _ hc e _=>k b u hc e) (λb u _ _ hc e _=>⟨u.slots,k b u hc e⟩) (λb u _ e n=>by rw[zo (neT b u e)];exact n)
  (λb u hc e=>⟨u,k b u hc e⟩) (λb xs e=>by rw[zo (zm e hn)];exact e) (λb u xs e=>by rw[zo (zm e hn)];exact e) (λb ps e=>by rw[zo (zm e hn)];exact e) (λm hm=>?_) (λb u e=>?_) I.bare
 .obtain⟨_,n1,_,n3,n4,n5⟩:=hch b hb
  exact⟨n3,n1,n4,n5⟩
 .obtain⟨ob,es,ep,ho,r⟩:=hm
  exact⟨ob,es,ep,k _ ob (λz=>(hch _ z).2.1 rfl) ho,r⟩
 .by_cases hb:b=T
  .subst hb;rw[zp]at e;cases e;exact new
  .rw[zo hb]at e
   refine(I.hok b u e).stay (λc v hc q=>k c v ?_ q) (λc q=>by rw[zo (zm q hn)];exact q) λc xs q=>by rw[zo (zm q hn)];exact q
   rcases hc with z | z
   .rw[z];exact nch b u e
   .exact nch c _ z
theorem Inv.turnedN {ch:List Addr}{t':Nat}(I:Inv X pins σ H s)(hch:∀ b∈ch,VZ X pins H b)(k:∀ b u,b∉ch->s.heap.get? b=some u->h'.get? b=some u):Inv X pins σ H { s with heap:=h',toks:=t' }:=by
 have nch:∀ b u,H b=some u->b∉ch:=λb u e z=>by rw[(hch b z).1]at e;cases e
 refine I.step (g':=s.gens) (d':=s.drawn) (ch:=ch) (λb hb=>?_) (λb u _ _ hc e _=>k b u hc e) (λb u _ _ hc e _=>⟨u.slots,k b u hc e⟩) (λb u _ e n=>n)
  (λb u hc e=>⟨u,k b u hc e⟩) (λb xs e=>e) (λb u xs e=>e) (λ_ _ e=>e) (λm hm=>?_) (λb u e=>?_) I.bare
 .obtain⟨_,n1,_,n3,n4,n5⟩:=hch b hb
  exact⟨n3,n1,n4,n5⟩
 .obtain⟨ob,es,ep,ho,r⟩:=hm
  exact⟨ob,es,ep,k _ ob (λz=>(hch _ z).2.1 rfl) ho,r⟩
 .refine(I.hok b u e).stay (λc v hc q=>k c v ?_ q) (λc q=>q) λc xs q=>q
  rcases hc with z | z
  .rw[z];exact nch b u e
  .exact nch c _ z
end
def Iel (K:W.Frag)(a:Addr):It :=
 ⟨λi H=>∃ xs x,SqL K H a xs/\xs[i]?=some x,λi H v H'=>∃ T x,v=.ref T/\H T=none/\H'=upd H T (.tup [.int i,x])/\∀ xs,SqL K H a xs->xs[i]?=some x,λi H=>∃ xs,SqL K H a xs/\xs.length<=i⟩
def Iet (K:W.Frag)(a:Addr):It :=
 ⟨λi H=>∃ xs x,SqT K H a xs/\xs[i]?=some x,λi H v H'=>∃ T x,v=.ref T/\H T=none/\H'=upd H T (.tup [.int i,x])/\∀ xs,SqT K H a xs->xs[i]?=some x,λi H=>∃ xs,SqT K H a xs/\xs.length<=i⟩
theorem zc6 {P:Program}{w:World}{K:W.Frag}{es:List Expr}{k:Nat}{tp:Pos}(a e it:Addr)(hne:e≠it) :
 ziH P w K (.Tuple es k tp) (Iel K a) [e,it] e (λi h=>(∃ old,IsEnum h e it i old)/\h.IsListIter it a i) where
 mem:=by simp
 obj:=λi h st b hb=>by
  obtain⟨⟨old,he⟩,o,ho,_,hd⟩:=st
  rcases d7.mp hb with rfl | hb
  .exact⟨_,he,λv z=>by cases z⟩
  .rw[t9.mp hb]
   exact⟨o,ho,λv z=>by rw[hd]at z;cases z⟩
 keep:=λi h h' st kk=>by
  obtain⟨⟨old,he⟩,hit⟩:=st
  exact⟨⟨old,kk e (by simp) _ he⟩,hit.at λo q=>kk it (by simp) o q⟩
 item:=by
  intro X hP hw hK hc i pins s σ H E I hf st hg
  subst hP hw hK
  obtain⟨⟨old,he⟩,hit⟩:=st
  obtain⟨xs,x,hq,hx⟩:=hg
  obtain⟨its,rv,p,hz⟩:=I.list hq
  obtain⟨u,hu,ru⟩:=rv.get hx
  refine wpAny_pyNext_enum_item he hit p.isList (x:=u) (by simpa using hu) hne λh1 ho1 hit1 hT1 hz1 hk1=>?_
  refine⟨_,rfl,wpAny_letOwnedTupleGo_enum ho1 λh2 he2 hs2=>?_⟩
  have hfr:H s.heap.objs.size=none:=I.hok.fresh (q5 _)
  have neE:s.heap.objs.size≠e:=u3z (r6 he)
  have hT2:h2.get? s.heap.objs.size=some { cls:=.type "tuple",data:=.seq #[.int i s.toks,u] }:=(hs2.2 _ neE).trans hT1
  refine⟨.ref s.heap.objs.size,upd H s.heap.objs.size (.tup [.int i,x]),?_,rfl,⟨_,x,rfl,hfr,rfl,λys hy=>by rw[I.list_inj hy hq];exact hx⟩,⟨⟨_,by simpa using he2⟩,hit1.at λo q=>(hs2.2 it (u1Q hne)).trans q⟩,λb hb=>?_⟩
  .refine I.grown (ch:=[e,it]) hf (q5 _) (λb v hb q=>?_) ?_
   .have n1:b≠e:=λz=>hb (by simp[z])
    have n2:b≠it:=λz=>hb (by simp[z])
    exact(hs2.2 b n1).trans (hk1 b v n1 n2 q)
   .exact⟨by show 2<=sizeLine;decide,[.int i s.toks,u],.cons ⟨_,rfl⟩ (.cons ru .nil),⟨_,hT2,rfl,0,rfl⟩⟩
  .obtain⟨o,hb2,_⟩:∃ o,s.heap.get? b=some o/\True:=by
    rcases d7.mp hb with rfl | hb
    .exact⟨_,he,trivial⟩
    .rw[t9.mp hb]
     obtain⟨o,ho,_⟩:=hit
     exact⟨o,ho,trivial⟩
   rw[zo (p5 (r6 hb2))]
   exact(hf b hb).1
 done:=by
  intro X hP hw hK hc i pins s σ H E I hf st hg
  subst hP hw hK
  obtain⟨⟨old,he⟩,hit⟩:=st
  obtain⟨xs,hq,hx⟩:=hg
  obtain⟨its,rv,p,hz⟩:=I.list hq
  have hl:=rv.length
  exact wpAny_pyNext_enum_end (I.ok.hd hc) he hit p.isList (by simp;omega) λh1 hx1=>⟨rfl,I.turnedN (ch:=[e,it]) (t':=s.toks) hf λb v hb q=>hx1 b v (λz=>hb (by simp[z])) q⟩
 self:=λ_ _ _ _ _ st h=>u2u st.1.choose_spec h
theorem zdy {P:Program}{w:World}{K:W.Frag}{es:List Expr}{k:Nat}{tp:Pos}(a e it:Addr)(hne:e≠it)(hai:a≠it)(hae:a≠e) :
 ziH P w K (.Tuple es k tp) (Iet K a) [e,it] e (λi h=>(∃ old,IsEnum h e it i old)/\h.IsTupleIter it a i) where
 mem:=by simp
 obj:=λi h st b hb=>by
  obtain⟨⟨old,he⟩,o,ho,_,hd⟩:=st
  rcases d7.mp hb with rfl | hb
  .exact⟨_,he,λv z=>by cases z⟩
  .rw[t9.mp hb]
   exact⟨o,ho,λv z=>by rw[hd]at z;cases z⟩
 keep:=λi h h' st kk=>by
  obtain⟨⟨old,he⟩,o,ho,r⟩:=st
  exact⟨⟨old,kk e (by simp) _ he⟩,o,kk it (by simp) o ho,r⟩
 item:=by
  intro X hP hw hK hc i pins s σ H E I hf st hg
  subst hP hw hK
  obtain⟨⟨old,he⟩,hit⟩:=st
  obtain⟨xs,x,hq,hx⟩:=hg
  obtain⟨its,rv,p,hz⟩:=I.tuple hq
  obtain⟨u,hu,ru⟩:=rv.get hx
  have p':s.heap.IsTuple a its.toArray:=p
  have D:=Wa (prog:=X.prog) (w:=X.w) (A:=X.A.in1) (I.ok.hd hc) it a hai its.toArray
  have hlt:i < its.toArray.size:=by
   obtain⟨h1,_⟩:=t7.mp hu
   simpa using h1
  refine wpAny_pyNext_enum_itemD D he ⟨hit,p'⟩ hlt hne (by simp[hne,u1Q hae]) λu' h1 tk hP1 ho1 hit1 hT1 hz1 hk1=>?_
  have eu:u'=u:=by
   have:its[i]?=some u':=by simpa using hP1
   rw[hu]at this
   exact(u0f this).symm
  subst eu
  refine⟨_,rfl,wpAny_letOwnedTupleGo_enum ho1 λh2 he2 hs2=>?_⟩
  have hfr:H s.heap.objs.size=none:=I.hok.fresh (q5 _)
  have neE:s.heap.objs.size≠e:=u3z (r6 he)
  have hT2:h2.get? s.heap.objs.size=some { cls:=.type "tuple",data:=.seq #[.int i tk,u'] }:=(hs2.2 _ neE).trans hT1
  refine⟨.ref s.heap.objs.size,upd H s.heap.objs.size (.tup [.int i,x]),?_,rfl,⟨_,x,rfl,hfr,rfl,λys hy=>by rw[I.tuple_inj hy hq];exact hx⟩,⟨⟨_,by simpa using he2⟩,?_⟩,λb hb=>?_⟩
  .refine I.grown (ch:=[e,it]) hf (q5 _) (λb v hb q=>?_) ?_
   .have n1:b≠e:=λz=>hb (by simp[z])
    have n2:b≠it:=λz=>hb (by simp[z])
    exact(hs2.2 b n1).trans (hk1 b v n1 n2 q)
   .exact⟨by show 2<=sizeLine;decide,[.int i tk,u'],.cons ⟨_,rfl⟩ (.cons ru .nil),⟨_,hT2,rfl,0,rfl⟩⟩
  .obtain⟨o,ho,r⟩:=hit1.1
   exact⟨o,(hs2.2 it (u1Q hne)).trans ho,r⟩
  .obtain⟨o,hb2,_⟩:∃ o,s.heap.get? b=some o/\True:=by
    rcases d7.mp hb with rfl | hb
    .exact⟨_,he,trivial⟩
    .rw[t9.mp hb]
     obtain⟨o,ho,_⟩:=hit
     exact⟨o,ho,trivial⟩
   rw[zo (p5 (r6 hb2))]
   exact(hf b hb).1
 done:=by
  intro X hP hw hK hc i pins s σ H E I hf st hg
  subst hP hw hK
  obtain⟨⟨old,he⟩,hit⟩:=st
  obtain⟨xs,hq,hx⟩:=hg
  obtain⟨its,rv,p,hz⟩:=I.tuple hq
  have hl:=rv.length
  have p':s.heap.IsTuple a its.toArray:=p
  exact Yt (I.ok.hd hc) he hit p' (by simp;omega) λh1 hx1=>⟨rfl,I.turnedN (ch:=[e,it]) (t':=s.toks) hf λb v hb q=>hx1 b v (λz=>hb (by simp[z])) q⟩
 self:=λ_ _ _ _ _ st h=>u2u st.1.choose_spec h
def zmM (K:W.Frag)(ta:TA):TI:=fun σ H R=>ta σ H λvs H1=>∃ a,vs=[.ref a]/\((∃ xs,H1 a=some (.lst xs)/\R (Iel K a) H1)\/(∃ xs,SqT K H1 a xs/\R (Iet K a) H1))
theorem zi9 {X:Cx} {es:List Expr} {k:Nat} {tp:Pos} {a:Expr} {ta:TA} {p pos:Pos} (hg:Gl X "enumerate") (hm:X.mg "enumerate"=none) (hb:bootBuiltins "enumerate"=some (.type "enumerate")) (ha:PA X [a] ta)
 (hs:starEach [a] X.env=[(false,eval a X.env)]:=by rfl):PI X (.Tuple es k tp) (.Call (.Name "enumerate" p) [a] [] pos) (zmM X.K ta):=by
 intro pins s σ H R I h
 refine Call_ (Zm I hg hm hb (u0A (thn (ha pos pins s σ H _ I h) λus s1 hh9=>?_) hs rfl))
 obtain⟨vs,H1,I1,r1,q1⟩:=hh9
 obtain⟨l,e,q⟩:=q1
 subst e
 obtain⟨u,rfl,ru⟩:=Vk r1
 cases ru
 have hn:∀ b,s1.heap.objs.size<=b->VZ X pins H1 b:=λb hb=>I1.fpOk hb (I1.hok.fresh hb)
 have hne:s1.heap.objs.size+1≠s1.heap.objs.size:=by omega
 have hfp:∀ b∈[s1.heap.objs.size+1,s1.heap.objs.size],VZ X pins H1 b:=λb hb=>by
  rcases d7.mp hb with rfl | hb
  .exact hn _ (u3f _)
  .rw[t9.mp hb];exact hn _ (q5 _)
 rcases q with ⟨xs,hx,q⟩ | ⟨xs,hx,q⟩
 .obtain⟨_,its,n,_,e⟩:xs.length<=sizeLine/\∃ (its:List Value) (n:Nat),zU xs its/\s1.heap.get? l=some { cls:=.type "list",data:=.seq its.toArray n }:=I1.hok _ _ hx
  refine call_enumerate_1 e λh2 he hit hz hk=>u2u he ?_
  exact⟨_,_,_,_,H1,rfl,I1.kept (t':=s1.toks) hk,zc6 l _ _ hne,⟨⟨_,he⟩,hit⟩,hfp,q⟩
 .obtain⟨its,_,p1,_⟩:=I1.tuple hx
  have lt:l < s1.heap.objs.size:=by
   obtain⟨o,ho,_⟩:=p1
   exact r6 ho
  refine Yu (show s1.heap.IsTuple l its.toArray from p1) λh2 he hit hz hk=>u2u he ?_
  exact⟨_,_,_,_,H1,rfl,I1.kept (t':=s1.toks) hk,zdy l _ _ hne (p5 lt) (p5 (u1K lt)),⟨⟨_,he⟩,hit⟩,hfp,q⟩
end L2
namespace HT
open PySem PyProof.Rows
def lexLe:List Int->List Int->Bool
 | [],_=>true
 | _::_,[]=>false
 | x::xs,y::ys=>if x=y then lexLe xs ys else decide (x<=y)
theorem zdz (x y:Int)(xs ys:List Int):lexLe (x::xs) (y::ys)=if x=y then lexLe xs ys else decide (x<=y):=rfl
theorem zgG (A:Around)(s:Shared)(a:Int)(t:Tok)(c:Int)(u:Tok)(prog:Program)(w:World)(E:Value->Shared->Prop)(Q:Value->Shared->Prop)(h:Q (.bool (decide (a<=c))) s) :
 wpAny (model prog w) A (richCompare .LtE (.int a t) (.int c u)) Q E s :=
 (PyProof.Rows.le_int h:wpAny (model prog w) A (compareOp .LtE (.int a t) (.int c u)) Q E s)
section
open PySem.SeqAt
open PySem.AutoSeq1 (wpAny_loadPart')
open PySem.MeetsSeq PySem.MeetsSeq2 PySem.MeetsSeq3
theorem W5 (l b:Addr)(items items2:Array Value)(n n2:Nat)(dd dd2:Option Addr)(sl sl2:Array (Option Value))(ns ms:List Int)(hi:IntsAre items.toList ns)(hj:IntsAre items2.toList ms) :
 Meets (Builtin.«tuple.__le__» ⟨[.ref l,.ref b],[]⟩)
  (λ_ R s=>s.heap.get? l=some { cls:=.type "tuple",dict:=dd,data:=.seq items n,slots:=sl }/\s.heap.get? b=some { cls:=.type "tuple",dict:=dd2,data:=.seq items2 n2,slots:=sl2 } /\
   R (.ok (.ret (.bool (lexLe ns ms)))) s) :=
 .of_wp λprog w A R s h=>by
  obtain⟨hp,g,d,tk,os⟩:=s;obtain⟨hl,hb,h⟩:=h
  have f2:=AutoSeq1.sub_tuple_tuple
  have z1:items.size=ns.length:=by rw[<-hi.length];simp
  have z2:items2.size=ms.length:=by rw[<-hj.length];simp
  wp_walk using u1f hl,u1f hb,wpAny_forIn_list _ (λrest b s'=>b.1=none/\s'=⟨hp,g,d,tk,os⟩/\∃ (vs ws:List Value) (ns' ms':List Int),rest=vs.zip ws /\
   IntsAre vs ns'/\IntsAre ws ms'/\ns'.length+items2.size=ms'.length+items.size/\R (.ok (.ret (.bool (lexLe ns' ms')))) ⟨hp,g,d,tk,os⟩) _
  case turn =>
   rintro⟨y,x⟩ rest b s' ⟨hb',rfl,vs,ws,ns',ms',hz,hvi,hwi,hlen,hR⟩
   cases hvi with
   | nil=>rw[List.zip_nil_left]at hz;cases hz
   | cons a t hvi' =>
    cases hwi with
    | nil=>rw[List.zip_nil_right]at hz;cases hz
    | cons c u hwi' =>
     rw[u2X]at hz
     injection hz with hyx hrest
     injection hyx with hy hx
     subst hy hx
     rw[zdz]at hR
     simp only[e8]at hlen
     obtain⟨e,he,hiff⟩:=zhL A.in1 ⟨hp,g,d,tk,os⟩ a t c u
     refine u3 (he prog w _ _ ?_)
     cases e with
     | true =>
      rw[u8 (hiff.mp rfl)]at hR
      wp_walk
      exact⟨rfl,rfl,_,_,_,_,hrest,hvi',hwi',by omega,hR⟩
     | false =>
      rw[u9 (λq=>absurd (hiff.mpr q) u4)]at hR
      have hri:=zgG A.in1 ⟨hp,g,d,tk,os⟩ a t c u prog w
      wp_walk using hri
      exact⟨_,rfl,by simpa using hR⟩
  case fin =>
   rintro⟨b1,b2⟩ s' ⟨hb',rfl,vs,ws,ns',ms',hz,hvi,hwi,hlen,hR⟩
   simp only at hb'
   subst hb'
   have hv:lexLe ns' ms'=decide (items.size<=items2.size):=by
    cases hvi with
    | nil =>
     simp only[u2N]at hlen
     show true=_
     exact(d4 (by omega)).symm
    | cons a t hv =>
     cases hwi with
     | nil =>
      simp only[u2N,e8]at hlen
      show false=_
      exact(p6 (by omega)).symm
     | cons c u hw =>
      rw[u2X]at hz
      cases hz
   rw[hv]at hR
   wp_walk
   exact⟨_,rfl,by simpa [Builtin.Tuple.tupleCompareSizes]using hR⟩
  case h =>
   exact⟨rfl,rfl,items.toList,items2.toList,ns,ms,rfl,hi,hj,by omega,h⟩
end
section
variable {prog:Program}{w:World}{A:Around}{E:Value->Shared->Prop}{s:Shared}
theorem le_tupInts {l b:Addr}{items items2:Array Value}{ns ms:List Int}{Q:Value->Shared->Prop}(hl:IsTup s.heap l items)(hb:IsTup s.heap b items2)(hi:IntsAre items.toList ns)(hj:IntsAre items2.toList ms)
 (hu:A.units < cLine) (h:Q (.bool (lexLe ns ms)) s):wpAny (model prog w) A (compareOp .LtE (.ref l) (.ref b)) Q E s:=by
 obtain⟨⟨cls,dd,data,sl⟩,ho,hc,n,hd⟩:=id hl
 obtain⟨⟨cls2,dd2,data2,sl2⟩,ho2,hc2,n2,hd2⟩:=id hb
 simp only at hc hd hc2 hd2
 subst hc hd hc2 hd2
 exact richCompare_meets_room (op:=.LtE) ⟨_,ho,rfl⟩ ⟨_,ho2,rfl⟩ PySem.F.slot_tuple_le PySem.F.entry_tuple_le (PySem.F.args_tuple_le_2 _ _) (W5 l b items items2 n n2 dd dd2 sl sl2 ns ms hi hj)
  ⟨ho,ho2,show Value.bool (lexLe ns ms)≠Value.notImplemented/\Q (.bool (lexLe ns ms)) s from⟨(λx=>nomatch x),h⟩⟩ hu
end
end HT
namespace L2
open PySem PySem.Spec PyProof.Rows
def rLeT (K:W.Frag):R2:=λx y H Q=>∃ a b ns ms,x=.ref a/\y=.ref b/\SqT K H a (ns.map V.int)/\SqT K H b (ms.map V.int)/\Q (.bl (HT.lexLe ns ms)) H
theorem zkZ {X:Cx}(hu:X.A.units < cLine):OpR X (compareOp .LtE) (rLeT X.K):=by
 intro pins s σ H x y v u Q I rx ry h
 obtain⟨a,b,ns,ms,rfl,rfl,ha,hb,q⟩:=h
 cases rx
 cases ry
 obtain⟨its,r1,p1,_⟩:=I.tuple ha
 obtain⟨its2,r2,p2,_⟩:=I.tuple hb
 have i1:IntsAre its.toArray.toList ns:=vb r1
 have i2:IntsAre its2.toArray.toList ms:=vb r2
 exact HT.le_tupInts p1 p2 i1 i2 hu ⟨.bl (HT.lexLe ns ms),H,I,rfl,q⟩
end L2
namespace HT
open PySem PyProof.Rows
section
variable {prog:Program}{w:World}{A:Around}{E:Value->Shared->Prop}{s:Shared}
theorem own_getItem_whole {t sl:Addr}{items:Array Value}{vl vu:Value}{lo hi:Option Int}{Q:Value->Shared->Prop}(ht:IsTup s.heap t items)(hs:s.heap.IsSliceOf sl vl vu .none)(pl:IsPart vl lo)(pu:IsPart vu hi)
 (hw:sIx items.size 0 lo=0/\sIx items.size items.size hi=items.size) (h:Q (.ref t) s):wpAny (model prog w) A (getItem (.ref t) (.ref sl)) Q E s:=by
 obtain⟨os,hos,hcs,hds⟩:=id hs
 have hTs:s.TypeIs (.ref sl) "slice":=⟨os,hos,hcs⟩
 unfold getItem
 try with_reducible refine u0X ?_
 first | refine u3 (j3 ?_) | skip
 refine u3 (wpAny_sequenceKey ht.typeIs (by decide) ?_)
 refine u3 (u0G (name:=Str.ofString "__getitem__") ht.typeIs u0k
  (u0O u0k ht.typeIs entry_tuple_getitem ?_ (args_tuple_getitem _ _)))
 show wpAny _ _ (Builtin.Tuple.tupleItemsOf (.ref t)>>=_) _ _ s
 refine u3 (tupleItemsOf_ ht ?_)
 refine u3 (u24 hTs ?_)
 rw[u8 (by decide)]
 refine u3 (vI hs pl pu ?_)
 have hyes:(((sIx items.size 0 lo:Nat):Int) == 0&&(1:Int) == 1&&(sIx items.size items.size hi - sIx items.size 0 lo) == items.size)=true:=by
  rw[hw.1,hw.2]
  simp
 show wpAny _ _ (if (((sIx items.size 0 lo:Nat):Int) == 0&&(1:Int) == 1&&(sIx items.size items.size hi - sIx items.size 0 lo) == items.size)=true then _ else _) _ _ s
 rw[u8 hyes]
 refine u3 (m:=Builtin.Tuple.tupleIsExact (.ref t)) ?_
 unfold Builtin.Tuple.tupleIsExact
 refine u3 (u24 ht.typeIs (j3 ?_))
 rw[u8 (by decide)]
 refine u3 (u1A ?_)
 first
  | exact j3 ⟨_,rfl,j3 h⟩
  | exact u3 (j3 (j3 ⟨_,rfl,j3 h⟩))
end
end HT
namespace OwnSort
open PySem PyProof.Rows
section pure
variable {κ:KeyKind}{xs:Array Keyed}
theorem turned {n:Nat}(hn:n<=xs.size)(h:NonIncK κ xs n):SortedToK κ (mirror xs 0 n ((n - 0) / 2)) n:=λi j hij hj=>by
 rw[KK_mirror hn,KK_mirror hn,u8 ⟨by omega,by omega⟩,u8 ⟨by omega,by omega⟩]
 exact h _ _ (by omega) (by omega)
end pure
abbrev Pr:=Int × Int
def bltP (s t:Pr):Bool:=decide (s.1 < t.1\/(s.1=t.1/\s.2 < t.2))
def TP (h:Heap) (v:Value) (t:Pr):Prop:=∃ a o n tx ty,v=.ref a/\h.get? a=some o/\o.cls=.type "tuple"/\o.data=.seq #[.int t.1 tx,.int t.2 ty] n
theorem TP.uniq {h:Heap}{v:Value}{s t:Pr}(x:TP h v s)(y:TP h v t):s=t:=by
 obtain⟨a,o,n,tx,ty,rfl,e1,_,d1⟩:=x
 obtain⟨b,o2,n2,ux,uy,e,e2,_,d2⟩:=y
 cases e
 rw[e1]at e2
 cases e2
 rw[d1]at d2
 injection d2 with d2 _
 have:=u0W Array.toList d2
 simp at this
 exact u3h this.1.1 this.2.1
open Classical in
noncomputable def keyP (h:Heap)(v:Value):Option Pr:=if x:∃ t,TP h v t then some x.choose else none
theorem keyP_of {h:Heap}{v:Value}{t:Pr}(x:TP h v t):keyP h v=some t:=by
 unfold keyP
 have y:∃ t,TP h v t:=⟨t,x⟩
 rw[dif_pos y,y.choose_spec.uniq x]
@[reducible] noncomputable def kindP (h:Heap):KeyKind where
 α:=Pr
 blt:=bltP
 irrefl a:=by unfold bltP;exact p6 (by omega)
 trans a b c h1 h2:=by unfold bltP at *;rw[r8]at *;omega
 negTrans a b c h:=by unfold bltP at *;rw[r8]at *;rw[r8];omega
 total a b h1 h2:=by
  unfold bltP at *
  rw[u0F]at *
  exact u3h (by omega) (by omega)
 keyOf:=keyP h
 dflt:=(0,0)
theorem zfT (b:Bool)(x y:Value):keyLt' (tuples' b) x y=(do
 let xs<-Builtin.List.listItems x
 let ys<-Builtin.List.listItems y
 for ((p,q),i)in (xs.toList.zip ys.toList).zipIdx do
  if !(<- eqBool p q)then return<-oneLt' (b&&i == 0) p q
 return xs.size < ys.size):=rfl
theorem zdM (v:Value):firstOfTuple' v=(do
 if (<- typeOf v) != .type "tuple" then return none
 return (<- Builtin.List.listItems v)[0]?):=rfl
section
variable {prog:Program}{w:World}{A:Around}{E:Value->Shared->Prop}{s:Shared}
theorem lt0 {a b:Int}{t u:Tok}{Q:Bool->Shared->Prop}(h:Q (decide (a < b)) s):wpAny (model prog w) A (oneLt' false (.int a t) (.int b u)) Q E s:=by
 rw[oneLt'_eq]
 rw[u9 u4]
 exact u3 (PyProof.Rows.lt_int (u00 h))
theorem zb6:∀ {fs:List Value},(∀ f∈fs,∃ i t,f=.int i t)->fs.mapM typeOf=pure (fs.map λ_=>Value.type "int")
 | [],_=>by simp
 | f::fs,h=>by
  obtain⟨i,t,rfl⟩:=h f m7
  rw[List.mapM_cons,zb6 λg hg=>h g (b8 _ hg),show typeOf (.int i t)=pure (.type "int")from rfl]
  simp
end
end OwnSort
namespace OwnTim
open PySem PyProof.Rows
abbrev SM:=StateT SortSt Sem
def gal:Bool->Keyed->Array Keyed->Nat->Nat->Nat->SM (Option Nat):=sortPriv% PySem.Builtin.gallop
def bey (l:Bool)(q:Keyed)(v:Array Keyed)(b i:Nat):SM (Option Bool):=do
 let x<-elem' v (b+i)
 if l then lt' x q else
  return (<- lt' q x).map (!·)
def zcn (l:Bool)(q:Keyed)(v:Array Keyed)(b n x0 y0:Nat):SM (Option Nat):=do
 let mut x:=x0
 let mut y:=y0
 for _ in [0:n] do
  if x >= y then break
  let c:=x+(y - x) / 2
  let some z<-bey l q v b c | return none
  if z then x:=c+1 else y:=c
 return some y
theorem zkA (l:Bool)(q:Keyed)(v:Array Keyed)(b n t:Nat):gal l q v b n t=(do
 let some r<-bey l q v b t | return none
 let mut u:=0
 let mut o:=1
 if r then
  let w:=n - t
  for _ in [0:n] do
   if o >= w then break
   let some z<-bey l q v b (t+o) | return none
   if !z then break
   u:=o
   o:=2*o+1
  zcn l q v b n (t+u+1) (t+min o w)
 else
  let w:=t+1
  for _ in [0:n] do
   if o >= w then break
   let some z<-bey l q v b (t - o) | return none
   if z then break
   u:=o
   o:=2*o+1
  zcn l q v b n (t+1 - min o w) (t - u)):=rfl
section
variable {prog:Program}{w:World}{A:Around}{E:Value->Shared->Prop}{s:Shared}{st:SortSt}
theorem zeB {l:Bool}{q:Keyed}{v:Array Keyed}{b n t:Nat}{f:Nat->Bool}{P:Option Nat->SortSt->Prop}(BY:∀ i,i < n->∀ Q:Option Bool->SortSt->Prop,Q (some (f i)) st->wpS (model prog w) A E s (bey l q v b i) Q st)
 (hm:∀ i j,i<=j->j < n->f j=true->f i=true) (ht:t < n) (h:∀ k,k<=n->(∀ i,i < k->f i=true)->(∀ i,k<=i->i < n->f i=false)->P (some k) st):wpS (model prog w) A E s (gal l q v b n t) P st:=by
 have hm':∀ i j,i<=j->j < n->f i=false->f j=false:=λi j hij hj hf=>by
  cases e:f j with
  | false=>rfl
  | true=>rw[hm i j hij hj e]at hf;cases hf
 rw[zkA]
 dsimp only
 have last:∀ x y:Nat,x<=y->y<=n->(∀ i,i < x->f i=true)->(∀ i,y<=i->i < n->f i=false)->wpS (model prog w) A E s (zcn l q v b n x y) P st:=λx y hxy hy h1 h2=>by
  unfold zcn
  dsimp only
  refine j7 (u0I (u0B (I:=λi c t'=>t'=st/\∃ x y,c=(none,x,y)/\x<=y/\y<=n/\y - x<=n - i/\(∀ i,i < x->f i=true)/\∀ i,y<=i->i < n->f i=false) (Q:=λc t'=>t'=st/\∃ y,c=(none,y,y)/\y<=n/\(∀ i,i < y->f i=true)/\∀ i,y<=i->i < n->f i=false)
   (λi c t' _ hi hI=>?_) (λc t' hI=>?_) ⟨rfl,x,y,rfl,hxy,hy,by omega,h1,h2⟩) λc t' hI=>?_)
  .obtain⟨rfl,x,y,rfl,a1,a2,a3,a4,a5⟩:=hI
   dsimp only
   by_cases c1:x >= y
   .rw[u8 c1]
    obtain rfl:x=y:=by omega
    exact d5 ⟨rfl,x,rfl,a2,a4,a5⟩
   .rw[u9 c1]
    obtain⟨c,hc⟩:∃ c,x+(y - x) / 2=c:=⟨_,rfl⟩
    rw[hc]
    have c2:x<=c/\c < y:=by omega
    refine j7 (BY c (by omega) _ ?_)
    dsimp only
    cases e:f c with
    | true =>
     rw[u8 rfl]
     exact d5 ⟨rfl,c+1,y,rfl,by omega,a2,by omega,λj hj=>hm j c (by omega) (by omega) e,a5⟩
    | false =>
     rw[u9 u4]
     exact d5 ⟨rfl,x,c,rfl,by omega,by omega,by omega,a4,λj hj hn=>hm' c j hj hn e⟩
  .obtain⟨rfl,x,y,rfl,a1,a2,a3,a4,a5⟩:=hI
   obtain rfl:x=y:=by omega
   exact⟨rfl,x,rfl,a2,a4,a5⟩
  .obtain⟨rfl,y,rfl,a2,a4,a5⟩:=hI
   exact d5 (h y a2 a4 a5)
 refine j7 (BY t ht _ ?_)
 dsimp only
 cases e:f t with
 | true =>
  rw[u8 rfl]
  refine j7 (u0I (u0B (I:=λi c t'=>t'=st/\∃ u o,c=(none,u,o)/\t+u < n/\u+1<=o/\i+1<=o/\f (t+u)=true) (Q:=λc t'=>t'=st/\∃ u o,c=(none,u,o)/\t+u < n/\u+1<=o/\f (t+u)=true/\(n - t<=o\/(t+o < n/\f (t+o)=false)))
   (λi c t' _ hi hI=>?_) (λc t' hI=>?_) ⟨rfl,0,1,rfl,ht,by omega,by omega,e⟩) λc t' hI=>?_)
  .obtain⟨rfl,u,o,rfl,a1,a2,a3,a4⟩:=hI
   dsimp only
   by_cases c1:o >= n - t
   .rw[u8 c1]
    exact d5 ⟨rfl,u,o,rfl,a1,a2,a4,.inl c1⟩
   .rw[u9 c1]
    refine j7 (BY (t+o) (by omega) _ ?_)
    dsimp only
    cases e2:f (t+o) with
    | false=>exact d5 ⟨rfl,u,o,rfl,a1,a2,a4,.inr ⟨by omega,e2⟩⟩
    | true=>exact d5 ⟨rfl,o,2*o+1,rfl,by omega,by omega,by omega,e2⟩
  .obtain⟨rfl,u,o,rfl,a1,a2,a3,a4⟩:=hI
   exact⟨rfl,u,o,rfl,a1,a2,a4,.inl (by omega)⟩
  .obtain⟨rfl,u,o,rfl,a1,a2,a4,a5⟩:=hI
   have e3:min o (n - t)<=n - t:=u11 _ _
   have e5:u+1<=min o (n - t):=Nat.le_min.mpr ⟨a2,by omega⟩
   have e6:(min o (n - t)=n - t/\n - t<=o)\/(min o (n - t)=o/\t+o < n/\f (t+o)=false):=by
    rcases a5 with a5 | a5
    .exact .inl ⟨Nat.min_eq_right a5,a5⟩
    .exact .inr ⟨u0M (by omega),a5⟩
   dsimp only
   refine last (t+u+1) (t+min o (n - t)) (by omega) (by omega) (λi hi=>hm i (t+u) (by omega) a1 a4) λi hi hn=>?_
   rcases e6 with ⟨a5,_⟩ | ⟨a5,a6,a7⟩
   .rw[a5]at hi
    omega
   .rw[a5]at hi
    exact hm' (t+o) i hi hn a7
 | false =>
  rw[u9 u4]
  refine j7 (u0I (u0B (I:=λi c t'=>t'=st/\∃ u o,c=(none,u,o)/\u<=t/\u+1<=o/\i+1<=o/\f (t - u)=false) (Q:=λc t'=>t'=st/\∃ u o,c=(none,u,o)/\u<=t/\u+1<=o/\f (t - u)=false/\(t+1<=o\/(o<=t/\f (t - o)=true)))
   (λi c t' _ hi hI=>?_) (λc t' hI=>?_) ⟨rfl,0,1,rfl,by omega,by omega,by omega,e⟩) λc t' hI=>?_)
  .obtain⟨rfl,u,o,rfl,a1,a2,a3,a4⟩:=hI
   dsimp only
   by_cases c1:o >= t+1
   .rw[u8 c1]
    exact d5 ⟨rfl,u,o,rfl,a1,a2,a4,.inl c1⟩
   .rw[u9 c1]
    refine j7 (BY (t - o) (by omega) _ ?_)
    dsimp only
    cases e2:f (t - o) with
    | true=>exact d5 ⟨rfl,u,o,rfl,a1,a2,a4,.inr ⟨by omega,e2⟩⟩
    | false=>exact d5 ⟨rfl,o,2*o+1,rfl,by omega,by omega,by omega,e2⟩
  .obtain⟨rfl,u,o,rfl,a1,a2,a3,a4⟩:=hI
   exact⟨rfl,u,o,rfl,a1,a2,a4,.inl (by omega)⟩
  .obtain⟨rfl,u,o,rfl,a1,a2,a4,a5⟩:=hI
   have e3:min o (t+1)<=t+1:=u11 _ _
   have e5:u+1<=min o (t+1):=Nat.le_min.mpr ⟨a2,by omega⟩
   have e6:min o (t+1)=t+1\/(min o (t+1)=o/\o<=t/\f (t - o)=true):=by
    rcases a5 with a5 | a5
    .exact .inl (Nat.min_eq_right a5)
    .exact .inr ⟨u0M (by omega),a5⟩
   dsimp only
   refine last (t+1 - min o (t+1)) (t - u) (by omega) (by omega) (λi hi=>?_) λi hi hn=>hm' (t - u) i hi hn a4
   rcases e6 with a5 | ⟨a5,a6,a7⟩
   .rw[a5]at hi
    omega
   .rw[a5]at hi
    exact hm i (t - o) (by omega) (by omega) a7
end
structure WI {α:Type} (R:α->α->Prop) (xs ys o:List α) (i j:Nat):Prop where
 pi:i<=xs.length
 pj:j<=ys.length
 pm:o.Perm (xs.take i++ys.take j)
 so:o.Pairwise R
 bx:∀ z∈o,∀ x∈xs.drop i,R z x
 by_:∀ z∈o,∀ y∈ys.drop j,R z y
section
variable {α:Type}{R:α->α->Prop}{xs ys o:List α}{i j k:Nat}
theorem WI.swap (w:WI R xs ys o i j):WI R ys xs o j i:=⟨w.pj,w.pi,w.pm.trans u1k,w.so,w.by_,w.bx⟩
theorem WI.runA (w:WI R xs ys o i j)(sx:xs.Pairwise R)(hk:i+k<=xs.length)(h:∀ x∈(xs.drop i).take k,∀ y∈ys.drop j,R x y):WI R xs ys (o++(xs.drop i).take k) (i+k) j:=by
 have hs:(xs.drop i).Pairwise R:=sx.sublist (u0Y _ _)
 have hd:xs.drop (i+k)=(xs.drop i).drop k:=by rw[u01]
 refine⟨hk,w.pj,?_,?_,λz hz x hx=>?_,λz hz y hy=>?_⟩
 .rw[List.take_add]
  refine(w.pm.append_right _).trans ?_
  rw[g8,g8]
  exact List.Perm.append_left _ u1k
 .rw[u0s]
  exact⟨w.so,hs.sublist (u1r _ _),λa ha b hb=>w.bx a ha b (u0d hb)⟩
 .rw[hd]at hx
  rcases d9.mp hz with hz | hz
  .exact w.bx z hz x (i8 hx)
  .have e:=p7 k (xs.drop i)
   rw[<-e,u0s]at hs
   exact hs.2.2 z hz x hx
 .rcases d9.mp hz with hz | hz
  .exact w.by_ z hz y hy
  .exact h z hz y hy
theorem WI.runB (w:WI R xs ys o i j)(sy:ys.Pairwise R)(hk:j+k<=ys.length)(h:∀ y∈(ys.drop j).take k,∀ x∈xs.drop i,R y x):WI R xs ys (o++(ys.drop j).take k) i (j+k):=(w.swap.runA sy hk h).swap
theorem zkW {l:List α}{x:α}{i:Nat}(h:l[i]?=some x):(l.drop i).take 1=[x]:=by
 obtain⟨hi,rfl⟩:=t7.mp h
 rw[u0p hi]
 rfl
theorem WI.pushA {x:α}(w:WI R xs ys o i j)(sx:xs.Pairwise R)(hx:xs[i]?=some x)(h:∀ y∈ys.drop j,R x y):WI R xs ys (o++[x]) (i+1) j:=by
 have hi:=(t7.mp hx).1
 have:=w.runA (k:=1) sx (by omega) (by rw[zkW hx];intro z hz y hy;rw[t9.mp hz];exact h y hy)
 rw[zkW hx]at this
 exact this
theorem WI.pushB {y:α}(w:WI R xs ys o i j)(sy:ys.Pairwise R)(hy:ys[j]?=some y)(h:∀ x∈xs.drop i,R y x):WI R xs ys (o++[y]) i (j+1):=(w.swap.pushA sy hy h).swap
theorem WI.done (w:WI R xs ys o i j)(sx:xs.Pairwise R)(sy:ys.Pairwise R)(h:∀ x∈xs.drop i,∀ y∈ys.drop j,R x y):(o++xs.drop i++ys.drop j).Perm (xs++ys)/\(o++xs.drop i++ys.drop j).Pairwise R:=by
 constructor
 .have e1:=p7 i xs
  have e2:=p7 j ys
  have p:(o++xs.drop i++ys.drop j).Perm (xs.take i++ys.take j++xs.drop i++ys.drop j):=(w.pm.append_right _).append_right _
  refine p.trans ?_
  have q:(xs.take i++ys.take j++xs.drop i++ys.drop j).Perm (xs.take i++xs.drop i++(ys.take j++ys.drop j)):=by
   rw[g8 (xs.take i),g8 (xs.take i),g8 (xs.take i)]
   refine List.Perm.append_left _ ?_
   rw[<-g8]
   exact u1k.append_right _
  rw[e1,e2]at q
  exact q
 .rw[u0s,u0s]
  refine⟨⟨w.so,sx.sublist (u0Y _ _),w.bx⟩,sy.sublist (u0Y _ _),λa ha b hb=>?_⟩
  rcases d9.mp ha with ha | ha
  .exact w.by_ a ha b hb
  .exact h a ha b hb
theorem XD (hr:∀ a:α,R a a)(sx:xs.Pairwise R){x:α}(hx:xs[i]?=some x):∀ z∈xs.drop i,R x z:=by
 obtain⟨hi,rfl⟩:=t7.mp hx
 intro z hz
 have hs:(xs.drop i).Pairwise R:=sx.sublist (u0Y _ _)
 rw[u0p hi]at hs hz
 rcases d7.mp hz with rfl | hz
 .exact hr _
 .exact(u0V.mp hs).1 z hz
end
def mlo:Array Keyed->Array Keyed->SM (Array Keyed):=sortPriv% PySem.Builtin.mergeLo
def V2:Nat->SM Unit:=sortPriv% PySem.Builtin.setMinGallop
theorem zgg (g:Nat):V2 g=modify λs=>SortSt.mk' (kindOf s) (arrOf s) (pendingOf s) g (failedOf s):=rfl
abbrev KA:=Array Keyed
abbrev Z1:=Option KA × KA × Nat × Nat × Nat × Nat
abbrev Z2:=Option KA × KA × Nat × Nat × Nat × Nat × Nat
abbrev Z3:=Option KA × KA × Nat × Nat × Nat
abbrev dn (v u o:KA)(i j:Nat):KA:=o++v.extract i v.size++u.extract j u.size
abbrev ls (v u o:KA)(i j:Nat):KA:=o++u.extract j u.size++v.extract i v.size
def zme (v u:KA)(g:Nat)(z:Z1):SM (ForInStep Z1):=do
 let e<-elem' u z.2.2.2.1
 let f<-elem' v z.2.2.1
 let some b<-lt' e f | pure (.done (some (dn v u z.2.1 z.2.2.1 z.2.2.2.1),z.2.1,z.2.2.1,z.2.2.2.1,z.2.2.2.2.1,z.2.2.2.2.2))
 if b=true then do
  let e<-elem' u z.2.2.2.1
  if (z.2.2.2.1+1 == u.size)=true then pure (.done (some (dn v u (z.2.1.push e) z.2.2.1 (z.2.2.2.1+1)),z.2.1.push e,z.2.2.1,z.2.2.2.1+1,0,z.2.2.2.2.2+1))
  else if z.2.2.2.2.2+1 >= g then pure (.done (none,z.2.1.push e,z.2.2.1,z.2.2.2.1+1,0,z.2.2.2.2.2+1))
  else pure (.yield (none,z.2.1.push e,z.2.2.1,z.2.2.2.1+1,0,z.2.2.2.2.2+1))
 else do
  let f<-elem' v z.2.2.1
  if (z.2.2.1+1+1 == v.size)=true then pure (.done (some (ls v u (z.2.1.push f) (z.2.2.1+1) z.2.2.2.1),z.2.1.push f,z.2.2.1+1,z.2.2.2.1,z.2.2.2.2.1+1,0))
  else if z.2.2.2.2.1+1 >= g then pure (.done (none,z.2.1.push f,z.2.2.1+1,z.2.2.2.1,z.2.2.2.2.1+1,0))
  else pure (.yield (none,z.2.1.push f,z.2.2.1+1,z.2.2.2.1,z.2.2.2.2.1+1,0))
def loC (v u o:KA)(i j g c d:Nat):SM (ForInStep Z2):=do
 let f<-elem' v i
 if (i+1+1 == v.size)=true then pure (.done (some (ls v u (o.push f) (i+1) j),o.push f,i+1,j,g,c,d))
 else if (decide (c < 7)&&decide (d < 7))=true then pure (.done (none,o.push f,i+1,j,g,c,d))
 else pure (.yield (none,o.push f,i+1,j,g,c,d))
def loB (v u o:KA)(i j g c d:Nat):SM (ForInStep Z2):=do
 let e<-elem' u j
 if (j+1 == u.size)=true then pure (.done (some (dn v u (o.push e) i (j+1)),o.push e,i,j+1,g,c,d))
 else do
  let f<-elem' v i
  let some k<-gal true f u (j+1) (u.size - (j+1)) 0 | pure (.done (some (dn v u (o.push e) i (j+1)),o.push e,i,j+1,g,c,d))
  if k > 0 then
   if (j+1+k == u.size)=true then pure (.done (some (dn v u (o.push e++u.extract (j+1) (j+1+k)) i (j+1+k)),o.push e++u.extract (j+1) (j+1+k),i,j+1+k,g,c,k))
   else loC v u (o.push e++u.extract (j+1) (j+1+k)) i (j+1+k) g c k
  else loC v u (o.push e) i (j+1) g c k
def loA (v u o:KA)(i j g c d:Nat):SM (ForInStep Z2):=do
 V2 g
 let e<-elem' u j
 let some k<-gal false e v i (v.size - i) 0 | pure (.done (some (dn v u o i j),o,i,j,g,c,d))
 if k > 0 then
  if (i+k+1 == v.size)=true then pure (.done (some (ls v u (o++v.extract i (i+k)) (i+k) j),o++v.extract i (i+k),i+k,j,g,k,d))
  else if (i+k == v.size)=true then pure (.done (some (dn v u (o++v.extract i (i+k)) (i+k) j),o++v.extract i (i+k),i+k,j,g,k,d))
  else loB v u (o++v.extract i (i+k)) (i+k) j g k d
 else loB v u o i j g k d
def zl3 (v u:KA)(z:Z2):SM (ForInStep Z2) :=
 if z.2.2.2.2.1 > 1 then loA v u z.2.1 z.2.2.1 z.2.2.2.1 (z.2.2.2.2.1 - 1) z.2.2.2.2.2.1 z.2.2.2.2.2.2
 else loA v u z.2.1 z.2.2.1 z.2.2.2.1 z.2.2.2.2.1 z.2.2.2.2.2.1 z.2.2.2.2.2.2
def zl1 (v u:KA)(z:Z3):SM (ForInStep Z3):=do
 let y<-forIn [0:v.size+u.size] ((none,z.2.1,z.2.2.1,z.2.2.2.1,0,0):Z1) λ_ q=>zme v u z.2.2.2.2 q
 match y.1 with
 | some r=>pure (.done (some r,y.2.1,y.2.2.1,y.2.2.2.1,z.2.2.2.2))
 | none=>do
  rule "list.sort.gallop"
  let x<-forIn [0:v.size+u.size] ((none,y.2.1,y.2.2.1,y.2.2.2.1,z.2.2.2.2+1,y.2.2.2.2.1,y.2.2.2.2.2):Z2) λ_ q=>zl3 v u q
  match x.1 with
  | some r=>pure (.done (some r,x.2.1,x.2.2.1,x.2.2.2.1,x.2.2.2.2.1))
  | none=>do
   V2 (x.2.2.2.2.1+1)
   pure (.yield (none,x.2.1,x.2.2.1,x.2.2.2.1,x.2.2.2.2.1+1))
theorem zk3 (v u:KA):mlo v u=(do
 rule "list.sort.merge-lo"
 let e<-elem' u 0
 if (1 == u.size)=true then pure (dn v u #[e] 0 1)
 else if (0+1 == v.size)=true then pure (ls v u #[e] 0 1)
 else do
  let g<-get
  let z<-forIn [0:v.size+u.size] ((none,#[e],0,1,gallopOf g):Z3) λ_ q=>zl1 v u q
  match z.1 with
  | some r=>pure r
  | none=>(unsupported ("internal:list.sort.merge-bound"))):=by
 show @bind SM _ _ _ _ _=_
 dsimp only[zl1,zl3,loA,loB,loC,zme,elem',lt',gal,V2,gallopOf]
 congr 1;funext _;congr 1;funext e
 congr 1;congr 1;congr 1;funext g;congr 1
 .congr 1;funext _ z;congr 1
  funext x
  obtain⟨r,x⟩:=x
  cases r with
  | some r=>rfl
  | none =>
   dsimp only
   congr 1;funext _;congr 1
   funext y;obtain⟨r,y⟩:=y;cases r <;> rfl
 .funext y;obtain⟨r,y⟩:=y;cases r <;> rfl
def ky (κ:KeyKind)(x:Keyed):κ.α:=(κ.keyOf x.1).getD κ.dflt
def LE (κ:KeyKind)(x y:Keyed):Prop:=κ.kle (ky κ x) (ky κ y)
theorem LE.refl {κ:KeyKind}(x:Keyed):LE κ x x:=u1d _
theorem LE.trans {κ:KeyKind}{x y z:Keyed}(h:LE κ x y)(h2:LE κ y z):LE κ x z:=u1V h h2
def LtE (prog:Program)(w:World)(A:Around)(E:Value->Shared->Prop)(s:Shared)(κ:KeyKind)(k:SortKind)(D:Keyed->Prop):Prop :=
 ∀ (st:SortSt) (x y:Keyed) (Q:Option Bool->SortSt->Prop),kindOf st=k->D x->D y->Q (some (κ.blt (ky κ x) (ky κ y))) st->wpS (model prog w) A E s (lt' x y) Q st
structure Sm (st t:SortSt):Prop where
 kd:kindOf t=kindOf st
 ar:arrOf t=arrOf st
 pd:pendingOf t=pendingOf st
 fl:failedOf t=failedOf st
theorem Sm.refl (st:SortSt):Sm st st:=⟨rfl,rfl,rfl,rfl⟩
theorem Sm.trans {a b c:SortSt}(h:Sm a b)(h2:Sm b c):Sm a c:=⟨h2.kd.trans h.kd,h2.ar.trans h.ar,h2.pd.trans h.pd,h2.fl.trans h.fl⟩
section
variable {prog:Program}{w:World}{A:Around}{E:Value->Shared->Prop}{s:Shared}{st:SortSt}{κ:KeyKind}{k:SortKind}{D:Keyed->Prop}
theorem zG {v:KA}{i:Nat}{x:Keyed}{Q:Keyed->SortSt->Prop}(h:v.toList[i]?=some x)(q:Q x st):wpS (model prog w) A E s (elem' v i) Q st:=by
 rw[elem'_eq,show v[i]?=some x by rw[<-h];simp]
 exact d5 q
theorem Zj {g:Nat}{Q:Unit->SortSt->Prop}(h:∀ t,Sm st t->Q () t):wpS (model prog w) A E s (V2 g) Q st:=by
 rw[zgg]
 exact u2J (h _ ⟨rfl,rfl,rfl,rfl⟩)
theorem Zv {xs:List Keyed}{b n i:Nat}(hi:i < n)(hn:b+n<=xs.length):∃ x,xs[b+i]?=some x/\((xs.drop b).take n)[i]?=some x:=by
 have:b+i < xs.length:=by omega
 refine⟨xs[b+i],u7 this,?_⟩
 rw[u0b hi,u1j,u7 this]
theorem vE {α:Type}{l:List α}{k:Nat}{x:α}(h:x∈l.take k):∃ i,i < k/\l[i]?=some x:=by
 obtain⟨i,hi⟩:=u1G.mp h
 by_cases c:i < k
 .exact⟨i,c,by rw[<-hi,u0b c]⟩
 .rw[u0m (by rw[b9];omega)]at hi
  cases hi
theorem YE {α:Type}{l:List α}{k:Nat}{x:α}(h:x∈l.drop k):∃ i,k<=i/\l[i]?=some x:=by
 obtain⟨i,hi⟩:=u1G.mp h
 rw[u1j]at hi
 exact⟨k+i,by omega,hi⟩
theorem Vr {l:List Keyed}(sx:l.Pairwise (LE κ)){i j:Nat}{x y:Keyed}(hij:i<=j)(hx:l[i]?=some x)(hy:l[j]?=some y):LE κ x y:=by
 by_cases e:i=j
 .subst e
  rw[hx]at hy
  cases hy
  exact LE.refl _
 .obtain⟨h1,rfl⟩:=t7.mp hx
  obtain⟨h2,rfl⟩:=t7.mp hy
  exact u0r.mp sx i j h1 h2 (by omega)
theorem VW {q:Keyed}{v:KA}{b n t:Nat}{P:Option Nat->SortSt->Prop}(L:LtE prog w A E s κ k D)(hk:kindOf st=k)(hq:D q)(hd:∀ x∈(v.toList.drop b).take n,D x)(hn:b+n<=v.toList.length)(ht:t < n)(sx:((v.toList.drop b).take n).Pairwise (LE κ))
 (h:∀ m,m<=n->(∀ x∈((v.toList.drop b).take n).take m,LE κ x q)->(∀ x∈((v.toList.drop b).take n).drop m,κ.klt (ky κ q) (ky κ x))->P (some m) st):wpS (model prog w) A E s (gal false q v b n t) P st:=by
 let f:Nat->Bool:=λi=>match ((v.toList.drop b).take n)[i]? with
  | some x=>!(κ.blt (ky κ q) (ky κ x))
  | none=>false
 have fx:∀ {i x},((v.toList.drop b).take n)[i]?=some x->f i=!(κ.blt (ky κ q) (ky κ x)):=λ{i x} e=>by show(match ((v.toList.drop b).take n)[i]? with | some x=>!(κ.blt (ky κ q) (ky κ x)) | none=>false)=_;rw[e]
 refine zeB (f:=f) (λi hi Q hQ=>?_) (λi j hij hj hf=>?_) ht λm hm h1 h2=>h m hm (λx hx=>?_) λx hx=>?_
 .obtain⟨x,e1,e2⟩:=Zv hi hn
  rw[fx e2]at hQ
  unfold bey
  refine j7 (zG e1 ?_)
  rw[u9 u4]
  exact j7 (L _ _ _ _ hk hq (hd x (j6 e2)) (d5 hQ))
 .obtain⟨x,_,e1⟩:=Zv (i:=i) (by omega) hn
  obtain⟨y,_,e2⟩:=Zv hj hn
  rw[fx e2,u2q]at hf
  rw[fx e1,u2q]
  exact LE.trans (κ:=κ) (y:=y) (Vr sx hij e1 e2) hf
 .obtain⟨i,hi,e⟩:=vE hx
  have:=h1 i hi
  rw[fx e,u2q]at this
  exact this
 .obtain⟨i,hi,e⟩:=YE hx
  have hil:i < n:=by
   have:=(t7.mp e).1
   rw[b9]at this
   omega
  have:=h2 i hi hil
  rw[fx e,Bool.not_eq_false']at this
  exact this
theorem Vh {q:Keyed}{v:KA}{b n t:Nat}{P:Option Nat->SortSt->Prop}(L:LtE prog w A E s κ k D)(hk:kindOf st=k)(hq:D q)(hd:∀ x∈(v.toList.drop b).take n,D x)(hn:b+n<=v.toList.length)(ht:t < n)(sx:((v.toList.drop b).take n).Pairwise (LE κ))
 (h:∀ m,m<=n->(∀ x∈((v.toList.drop b).take n).take m,κ.klt (ky κ x) (ky κ q))->(∀ x∈((v.toList.drop b).take n).drop m,LE κ q x)->P (some m) st):wpS (model prog w) A E s (gal true q v b n t) P st:=by
 let f:Nat->Bool:=λi=>match ((v.toList.drop b).take n)[i]? with
  | some x=>κ.blt (ky κ x) (ky κ q)
  | none=>false
 have fx:∀ {i x},((v.toList.drop b).take n)[i]?=some x->f i=κ.blt (ky κ x) (ky κ q):=λ{i x} e=>by show(match ((v.toList.drop b).take n)[i]? with | some x=>κ.blt (ky κ x) (ky κ q) | none=>false)=_;rw[e]
 refine zeB (f:=f) (λi hi Q hQ=>?_) (λi j hij hj hf=>?_) ht λm hm h1 h2=>h m hm (λx hx=>?_) λx hx=>?_
 .obtain⟨x,e1,e2⟩:=Zv hi hn
  rw[fx e2]at hQ
  unfold bey
  refine j7 (zG e1 ?_)
  rw[u8 rfl]
  exact L _ _ _ _ hk (hd x (j6 e2)) hq hQ
 .obtain⟨x,_,e1⟩:=Zv (i:=i) (by omega) hn
  obtain⟨y,_,e2⟩:=Zv hj hn
  rw[fx e2]at hf
  rw[fx e1]
  exact KeyOrd.klt_of_kle_of_klt (Vr sx hij e1 e2) hf
 .obtain⟨i,hi,e⟩:=vE hx
  have:=h1 i hi
  rw[fx e]at this
  exact this
 .obtain⟨i,hi,e⟩:=YE hx
  have hil:i < n:=by
   have:=(t7.mp e).1
   rw[b9]at this
   omega
  have:=h2 i hi hil
  rw[fx e]at this
  exact this
end
structure Two (κ:KeyKind) (D:Keyed->Prop) (v u:KA):Prop where
 dv:∀ x∈v.toList,D x
 du:∀ y∈u.toList,D y
 sv:v.toList.Pairwise (LE κ)
 su:u.toList.Pairwise (LE κ)
def Fn (κ:KeyKind)(v u r:KA):Prop:=r.toList.Perm (v.toList++u.toList)/\r.toList.Pairwise (LE κ)
structure MI (κ:KeyKind) (v u o:KA) (i j:Nat):Prop where
 li:i+1 < v.size
 lj:j < u.size
 wi:WI (LE κ) v.toList u.toList o.toList i j
section
variable {prog:Program}{w:World}{A:Around}{E:Value->Shared->Prop}{s:Shared}{st:SortSt}{κ:KeyKind}{k:SortKind}{D:Keyed->Prop}{v u o:KA}{i j:Nat}
theorem wa (v:KA)(i j:Nat):(v.extract i j).toList=(v.toList.drop i).take (j - i):=by simp
theorem VG (v:KA)(i:Nat):(v.extract i v.size).toList=v.toList.drop i:=by
 rw[wa,m6 (by rw[e9,j5];omega)]
theorem zaJ (T:Two κ D v u)(w:WI (LE κ) v.toList u.toList o.toList i j)(h:j=u.size\/i=v.size):Fn κ v u (dn v u o i j):=by
 have:=w.done T.sv T.su λx hx y hy=>by
  rcases h with rfl | rfl
  .rw[<-j5,u1W]at hy;cases hy
  .rw[<-j5,u1W]at hx;cases hx
 unfold Fn dn
 rw[m8,m8,VG,VG]
 exact this
theorem zcC (T:Two κ D v u)(w:WI (LE κ) v.toList u.toList o.toList i j)(hi:i+1=v.size)(top:∀ y∈u.toList,∀ x,v.toList[v.size - 1]?=some x->LE κ y x):Fn κ v u (ls v u o i j):=by
 have:=w.swap.done T.su T.sv λy hy x hx=>by
  refine top y (i8 hy) x ?_
  obtain⟨a,ha,e⟩:=YE hx
  have hl:=(t7.mp e).1
  rw[j5]at hl
  rw[show v.size - 1=a by omega]
  exact e
 unfold Fn ls
 rw[m8,m8,VG,VG]
 exact⟨this.1.trans u1k,this.2⟩
theorem Wv {v:KA}{i:Nat}(h:i < v.size):∃ x,v.toList[i]?=some x:=⟨_,u7 (by rw[j5];exact h)⟩
def Ok2 (κ:KeyKind)(v u:KA)(n:Nat)(c:Z2):Prop:=(∃ r,c.1=some r/\Fn κ v u r)\/(c.1=none/\MI κ v u c.2.1 c.2.2.1 c.2.2.2.1/\n<=c.2.2.1+c.2.2.2.1)
def Go2 (κ:KeyKind)(v u:KA)(n:Nat):ForInStep Z2->Prop
 | .done c=>Ok2 κ v u n c
 | .yield c=>c.1=none/\MI κ v u c.2.1 c.2.2.1 c.2.2.2.1/\n<=c.2.2.1+c.2.2.2.1
variable {top:∀ y∈u.toList,∀ x,v.toList[v.size - 1]?=some x->LE κ y x}{g c d n:Nat}
theorem zdH (T:Two κ D v u)(top:∀ y∈u.toList,∀ x,v.toList[v.size - 1]?=some x->LE κ y x)(m:MI κ v u o i j){x:Keyed}(hx:v.toList[i]?=some x)(h:∀ y∈u.toList.drop j,LE κ x y)(hn:n<=i+j):wpS (model prog w) A E s (loC v u o i j g c d) (λr t=>t=st/\Go2 κ v u n r) st:=by
 unfold loC
 refine j7 (zG hx ?_)
 have w':=m.wi.pushA T.sv hx h
 rw[<-u1b]at w'
 have li:=m.li
 by_cases e:i+1+1=v.size
 .rw[u8 (g9.mpr e)]
  exact d5 ⟨rfl,.inl ⟨_,rfl,zcC T w' e top⟩⟩
 .rw[u9 (λz=>e (g9.mp z))]
  have m':MI κ v u (o.push x) (i+1) j:=⟨by omega,m.lj,w'⟩
  split
  .exact d5 ⟨rfl,.inr ⟨rfl,m',by show n<=i+1+j;omega⟩⟩
  .exact d5 ⟨rfl,rfl,m',by show n<=i+1+j;omega⟩
theorem zdV (L:LtE prog w A E s κ k D)(hk:kindOf st=k)(T:Two κ D v u)(top:∀ y∈u.toList,∀ x,v.toList[v.size - 1]?=some x->LE κ y x)(m:MI κ v u o i j){y:Keyed}(hy:u.toList[j]?=some y)(h:∀ x∈v.toList.drop i,LE κ y x)(hn:n<=i+j):wpS (model prog w) A E s (loB v u o i j g c d) (λr t=>t=st/\Go2 κ v u n r) st:=by
 unfold loB
 refine j7 (zG hy ?_)
 have w':=m.wi.pushB T.su hy h
 rw[<-u1b]at w'
 have li:=m.li
 have lj:=m.lj
 by_cases e:j+1=u.size
 .rw[u8 (g9.mpr e)]
  exact d5 ⟨rfl,.inl ⟨_,rfl,zaJ T w' (.inl e)⟩⟩
 .rw[u9 (λz=>e (g9.mp z))]
  obtain⟨x,hx⟩:=Wv (v:=v) (i:=i) (by omega)
  refine j7 (zG hx ?_)
  have hul:u.toList.length=u.size:=j5
  have eseg:(u.toList.drop (j+1)).take (u.size - (j+1))=u.toList.drop (j+1):=m6 (by rw[e9];omega)
  refine j7 (Vh L hk (T.dv x (j6 hx)) (λz hz=>T.du z (i8 (u0d hz))) (by omega) (by omega) (by rw[eseg];exact T.su.sublist (u0Y _ _)) λq hq h1 h2=>?_)
  rw[eseg]at h1 h2
  dsimp only
  have hx2:=XD (LE.refl (κ:=κ)) T.sv hx
  have w2:=w'.runB (k:=q) T.su (by omega) λz hz a ha=>LE.trans (u0j (h1 z hz)) (hx2 a ha)
  have h3:∀ z∈u.toList.drop (j+1+q),LE κ x z:=λz hz=>h2 z (by rw[u01];exact hz)
  by_cases e0:q > 0
  .rw[u8 e0]
   have ee:(o.push y++u.extract (j+1) (j+1+q)).toList=(o.push y).toList++(u.toList.drop (j+1)).take q:=by rw[m8,wa,u08]
   rw[<-ee]at w2
   by_cases e1:j+1+q=u.size
   .rw[u8 (g9.mpr e1)]
    exact d5 ⟨rfl,.inl ⟨_,rfl,zaJ T w2 (.inl e1)⟩⟩
   .rw[u9 (λz=>e1 (g9.mp z))]
    exact zdH T top ⟨li,by omega,w2⟩ hx h3 (by omega)
  .rw[u9 e0]
   obtain rfl:q=0:=by omega
   exact zdH T top ⟨li,by omega,w'⟩ hx h3 (by omega)
theorem ze9 (L:LtE prog w A E s κ k D)(hk:kindOf st=k)(T:Two κ D v u)(top:∀ y∈u.toList,∀ x,v.toList[v.size - 1]?=some x->LE κ y x)(m:MI κ v u o i j)(hn:n<=i+j):wpS (model prog w) A E s (loA v u o i j g c d) (λr t=>Sm st t/\Go2 κ v u n r) st:=by
 unfold loA
 refine j7 (Zj λt ht=>?_)
 obtain⟨y,hy⟩:=Wv m.lj
 refine j7 (zG hy ?_)
 have li:=m.li
 have lj:=m.lj
 have hvl:v.toList.length=v.size:=j5
 have eseg:(v.toList.drop i).take (v.size - i)=v.toList.drop i:=m6 (by rw[e9];omega)
 refine j7 (VW L (ht.kd.trans hk) (T.du y (j6 hy)) (λz hz=>T.dv z (i8 (u0d hz))) (by omega) (by omega) (by rw[eseg];exact T.sv.sublist (u0Y _ _)) λq hq h1 h2=>?_)
 rw[eseg]at h1 h2
 dsimp only
 have hy2:=XD (LE.refl (κ:=κ)) T.su hy
 have w2:=m.wi.runA (k:=q) T.sv (by omega) λz hz a ha=>LE.trans (h1 z hz) (hy2 a ha)
 have h3:∀ z∈v.toList.drop (i+q),LE κ y z:=λz hz=>u0j (h2 z (by rw[u01];exact hz))
 by_cases e0:q > 0
 .rw[u8 e0]
  have ee:(o++v.extract i (i+q)).toList=o.toList++(v.toList.drop i).take q:=by rw[m8,wa,u08]
  rw[<-ee]at w2
  by_cases e1:i+q+1=v.size
  .rw[u8 (g9.mpr e1)]
   exact d5 ⟨ht,.inl ⟨_,rfl,zcC T w2 e1 top⟩⟩
  .rw[u9 (λz=>e1 (g9.mp z))]
   by_cases e2:i+q=v.size
   .rw[u8 (g9.mpr e2)]
    exact d5 ⟨ht,.inl ⟨_,rfl,zaJ T w2 (.inr e2)⟩⟩
   .rw[u9 (λz=>e2 (g9.mp z))]
    exact u0I (zdV L (ht.kd.trans hk) T top ⟨by omega,lj,w2⟩ hy h3 (by omega)) λr t' h=>⟨h.1 ▸ ht,h.2⟩
 .rw[u9 e0]
  obtain rfl:q=0:=by omega
  exact u0I (zdV L (ht.kd.trans hk) T top m hy h3 hn) λr t' h=>⟨h.1 ▸ ht,h.2⟩
def Ok1 (κ:KeyKind)(v u:KA)(n:Nat)(c:Z1):Prop:=(∃ r,c.1=some r/\Fn κ v u r)\/(c.1=none/\MI κ v u c.2.1 c.2.2.1 c.2.2.2.1/\n<=c.2.2.1+c.2.2.2.1)
def Go1 (κ:KeyKind)(v u:KA)(n:Nat):ForInStep Z1->Prop
 | .done c=>Ok1 κ v u n c
 | .yield c=>c.1=none/\MI κ v u c.2.1 c.2.2.1 c.2.2.2.1/\n<=c.2.2.1+c.2.2.2.1
theorem zgN (L:LtE prog w A E s κ k D)(hk:kindOf st=k)(T:Two κ D v u)(top:∀ y∈u.toList,∀ x,v.toList[v.size - 1]?=some x->LE κ y x){z:Z1}(m:MI κ v u z.2.1 z.2.2.1 z.2.2.2.1):wpS (model prog w) A E s (zme v u g z) (λr t=>t=st/\Go1 κ v u (z.2.2.1+z.2.2.2.1+1) r) st:=by
 obtain⟨r,o,i,j,c,d⟩:=z
 dsimp only at m ⊢
 have li:=m.li
 have lj:=m.lj
 unfold zme
 obtain⟨y,hy⟩:=Wv lj
 obtain⟨x,hx⟩:=Wv (v:=v) (i:=i) (by omega)
 refine j7 (zG hy (j7 (zG hx (j7 (L _ _ _ _ hk (T.du y (j6 hy)) (T.dv x (j6 hx)) ?_)))))
 dsimp only
 have hx2:=XD (LE.refl (κ:=κ)) T.sv hx
 have hy2:=XD (LE.refl (κ:=κ)) T.su hy
 cases e:κ.blt (ky κ y) (ky κ x) with
 | true =>
  rw[u8 rfl]
  refine j7 (zG hy ?_)
  have w':=m.wi.pushB T.su hy λa ha=>LE.trans (u0j e) (hx2 a ha)
  rw[<-u1b]at w'
  by_cases e1:j+1=u.size
  .rw[u8 (g9.mpr e1)]
   exact d5 ⟨rfl,.inl ⟨_,rfl,zaJ T w' (.inl e1)⟩⟩
  .rw[u9 (λz=>e1 (g9.mp z))]
   have m':MI κ v u (o.push y) i (j+1):=⟨li,by omega,w'⟩
   split
   .exact d5 ⟨rfl,.inr ⟨rfl,m',by show i+j+1<=i+(j+1);omega⟩⟩
   .exact d5 ⟨rfl,rfl,m',by show i+j+1<=i+(j+1);omega⟩
 | false =>
  rw[u9 u4]
  refine j7 (zG hx ?_)
  have w':=m.wi.pushA T.sv hx λa ha=>LE.trans (κ:=κ) (y:=y) e (hy2 a ha)
  rw[<-u1b]at w'
  by_cases e1:i+1+1=v.size
  .rw[u8 (g9.mpr e1)]
   exact d5 ⟨rfl,.inl ⟨_,rfl,zcC T w' e1 top⟩⟩
  .rw[u9 (λz=>e1 (g9.mp z))]
   have m':MI κ v u (o.push x) (i+1) j:=⟨by omega,lj,w'⟩
   split
   .exact d5 ⟨rfl,.inr ⟨rfl,m',by show i+j+1<=i+1+j;omega⟩⟩
   .exact d5 ⟨rfl,rfl,m',by show i+j+1<=i+1+j;omega⟩
end
section
variable {prog:Program}{w:World}{A:Around}{E:Value->Shared->Prop}{s:Shared}{st:SortSt}{κ:KeyKind}{k:SortKind}{D:Keyed->Prop}{v u o:KA}{i j:Nat}
def Go3 (κ:KeyKind)(v u:KA)(n:Nat):ForInStep Z3->Prop
 | .done c=>∃ r,c.1=some r/\Fn κ v u r
 | .yield c=>c.1=none/\MI κ v u c.2.1 c.2.2.1 c.2.2.2.1/\n<=c.2.2.1+c.2.2.2.1
theorem zg9 {z:Z2}{n:Nat}(L:LtE prog w A E s κ k D)(hk:kindOf st=k)(T:Two κ D v u)(top:∀ y∈u.toList,∀ x,v.toList[v.size - 1]?=some x->LE κ y x)(m:MI κ v u z.2.1 z.2.2.1 z.2.2.2.1)(hn:n<=z.2.2.1+z.2.2.2.1):wpS (model prog w) A E s (zl3 v u z) (λr t=>Sm st t/\Go2 κ v u n r) st:=by
 unfold zl3
 split
 .exact ze9 L hk T top m hn
 .exact ze9 L hk T top m hn
theorem zgY {z:Z3}(L:LtE prog w A E s κ k D)(hk:kindOf st=k)(T:Two κ D v u)(top:∀ y∈u.toList,∀ x,v.toList[v.size - 1]?=some x->LE κ y x)(m:MI κ v u z.2.1 z.2.2.1 z.2.2.2.1):wpS (model prog w) A E s (zl1 v u z) (λr t=>Sm st t/\Go3 κ v u (z.2.2.1+z.2.2.2.1+1) r) st:=by
 unfold zl1
 have li:=m.li
 refine j7 (u0I (u0B (I:=λx c t=>t=st/\c.1=none/\MI κ v u c.2.1 c.2.2.1 c.2.2.2.1/\(x=0\/z.2.2.1+z.2.2.2.1+1<=c.2.2.1+c.2.2.2.1)/\z.2.2.1+z.2.2.2.1<=c.2.2.1+c.2.2.2.1) (Q:=λc t=>t=st/\Ok1 κ v u (z.2.2.1+z.2.2.2.1+1) c)
  (λx c t _ _ hI=>?_) (λc t hI=>?_) ⟨rfl,rfl,m,.inl rfl,q5 _⟩) λy t hI=>?_)
 .obtain⟨rfl,h1,h2,h3,h4⟩:=hI
  refine u0I (zgN L hk T top h2) λr t' h=>?_
  obtain⟨rfl,hr⟩:=h
  cases r with
  | done c' =>
   rcases hr with hr | ⟨a1,a2,a3⟩
   .exact⟨rfl,.inl hr⟩
   .exact⟨rfl,.inr ⟨a1,a2,by omega⟩⟩
  | yield c' =>
   obtain⟨a1,a2,a3⟩:=hr
   exact⟨rfl,a1,a2,.inr (by omega),by omega⟩
 .obtain⟨rfl,h1,h2,h3,h4⟩:=hI
  refine⟨rfl,.inr ⟨h1,h2,?_⟩⟩
  rcases h3 with h3 | h3
  .exfalso
   have:max 0 (v.size+u.size)=v.size+u.size:=by omega
   omega
  .exact h3
 .obtain⟨rfl,hy⟩:=hI
  rcases hy with ⟨r,e,hr⟩ | ⟨e,m1,h1⟩
  .rw[e]
   exact d5 ⟨Sm.refl _,r,rfl,hr⟩
  .rw[e]
   dsimp only
   refine j7 (u3l (u1A ⟨rfl,?_⟩))
   refine j7 (u0I (u0B (I:=λx c t'=>Sm t t'/\c.1=none/\MI κ v u c.2.1 c.2.2.1 c.2.2.2.1/\z.2.2.1+z.2.2.2.1+1<=c.2.2.1+c.2.2.2.1) (Q:=λc t'=>Sm t t'/\Ok2 κ v u (z.2.2.1+z.2.2.2.1+1) c)
    (λx c t' _ _ hI=>?_) (λc t' hI=>?_) ⟨Sm.refl _,rfl,m1,h1⟩) λx t' hI=>?_)
   .obtain⟨hs,b1,b2,b3⟩:=hI
    refine u0I (zg9 L (hs.kd.trans hk) T top b2 b3) λr t2 h=>?_
    obtain⟨hs2,hr⟩:=h
    cases r with
    | done c'=>exact⟨hs.trans hs2,hr⟩
    | yield c'=>exact⟨hs.trans hs2,hr⟩
   .obtain⟨hs,b1,b2,b3⟩:=hI
    exact⟨hs,.inr ⟨b1,b2,b3⟩⟩
   .obtain⟨hs,hx⟩:=hI
    rcases hx with ⟨r,e,hr⟩ | ⟨e,m2,h2⟩
    .rw[e]
     exact d5 ⟨hs,r,rfl,hr⟩
    .rw[e]
     exact j7 (Zj λt2 hs2=>d5 ⟨hs.trans hs2,rfl,m2,h2⟩)
theorem ziT {P:KA->SortSt->Prop}(L:LtE prog w A E s κ k D)(hk:kindOf st=k)(T:Two κ D v u)(hv:0 < v.size)(hu:0 < u.size)(top:∀ y∈u.toList,∀ x,v.toList[v.size - 1]?=some x->LE κ y x)(bot:∀ x∈v.toList,∀ y,u.toList[0]?=some y->LE κ y x)
 (h:∀ r t,Sm st t->Fn κ v u r->P r t):wpS (model prog w) A E s (mlo v u) P st:=by
 rw[zk3]
 refine j7 (u3l (u1A ⟨rfl,?_⟩))
 obtain⟨y,hy⟩:=Wv hu
 refine j7 (zG hy ?_)
 have w0:WI (LE κ) v.toList u.toList [] 0 0:=⟨u0g _,u0g _,u1y _,List.Pairwise.nil,(λz hz=>by cases hz),(λz hz=>by cases hz)⟩
 have w1:WI (LE κ) v.toList u.toList (#[y]:KA).toList 0 1:=w0.pushB T.su hy λx hx=>bot x (i8 hx) y hy
 by_cases e1:1=u.size
 .rw[u8 (g9.mpr e1)]
  exact d5 (h _ _ (Sm.refl _) (zaJ T w1 (.inl e1)))
 rw[u9 (λz=>e1 (g9.mp z))]
 by_cases e2:0+1=v.size
 .rw[u8 (g9.mpr e2)]
  exact d5 (h _ _ (Sm.refl _) (zcC T w1 e2 top))
 rw[u9 (λz=>e2 (g9.mp z))]
 refine j7 (u28 ?_)
 refine j7 (u0I (u0B (I:=λx c t=>Sm st t/\c.1=none/\MI κ v u c.2.1 c.2.2.1 c.2.2.2.1/\x+1<=c.2.2.1+c.2.2.2.1) (Q:=λc t=>Sm st t/\∃ r,c.1=some r/\Fn κ v u r)
  (λx c t _ _ hI=>?_) (λc t hI=>?_) ⟨Sm.refl _,rfl,⟨by show 0+1 < v.size;omega,by show 1 < u.size;omega,w1⟩,by show 0+1<=0+1;omega⟩) λy t hI=>?_)
 .obtain⟨hs,b1,b2,b3⟩:=hI
  refine u0I (zgY L (hs.kd.trans hk) T top b2) λr t2 h=>?_
  obtain⟨hs2,hr⟩:=h
  cases r with
  | done c'=>exact⟨hs.trans hs2,hr⟩
  | yield c'=>exact⟨hs.trans hs2,hr.1,hr.2.1,by have:=hr.2.2;omega⟩
 .obtain⟨hs,b1,b2,b3⟩:=hI
  exfalso
  have:=b2.li
  have:=b2.lj
  have:max 0 (v.size+u.size)=v.size+u.size:=by omega
  omega
 .obtain⟨hs,r,e,hr⟩:=hI
  rw[e]
  exact d5 (h r t hs hr)
end
def mhi:Array Keyed->Array Keyed->SM (Array Keyed):=sortPriv% PySem.Builtin.mergeHi
abbrev Y1:=Option KA × Nat × Nat × KA × Nat × Nat
abbrev Y2:=Option KA × Nat × Nat × KA × Nat × Nat × Nat
abbrev Y3:=Option KA × Nat × Nat × KA × Nat
abbrev dh (v u o:KA)(i j:Nat):KA:=v.extract 0 i++u.extract 0 j++o.reverse
abbrev fh (v u o:KA)(i j:Nat):KA:=u.extract 0 j++v.extract 0 i++o.reverse
def zmh (v u:KA)(g:Nat)(z:Y1):SM (ForInStep Y1):=do
 let e<-elem' u (z.2.2.1 - 1)
 let f<-elem' v (z.2.1 - 1)
 let some b<-lt' e f | pure (.done (some (dh v u z.2.2.2.1 z.2.1 z.2.2.1),z.2.1,z.2.2.1,z.2.2.2.1,z.2.2.2.2.1,z.2.2.2.2.2))
 if b=true then do
  let f<-elem' v (z.2.1 - 1)
  if (z.2.1 - 1 == 0)=true then pure (.done (some (dh v u (z.2.2.2.1.push f) (z.2.1 - 1) z.2.2.1),z.2.1 - 1,z.2.2.1,z.2.2.2.1.push f,z.2.2.2.2.1+1,0))
  else if z.2.2.2.2.1+1 >= g then pure (.done (none,z.2.1 - 1,z.2.2.1,z.2.2.2.1.push f,z.2.2.2.2.1+1,0))
  else pure (.yield (none,z.2.1 - 1,z.2.2.1,z.2.2.2.1.push f,z.2.2.2.2.1+1,0))
 else do
  let e<-elem' u (z.2.2.1 - 1)
  if (z.2.2.1 - 1 == 1)=true then pure (.done (some (fh v u (z.2.2.2.1.push e) z.2.1 (z.2.2.1 - 1)),z.2.1,z.2.2.1 - 1,z.2.2.2.1.push e,0,z.2.2.2.2.2+1))
  else if z.2.2.2.2.2+1 >= g then pure (.done (none,z.2.1,z.2.2.1 - 1,z.2.2.2.1.push e,0,z.2.2.2.2.2+1))
  else pure (.yield (none,z.2.1,z.2.2.1 - 1,z.2.2.2.1.push e,0,z.2.2.2.2.2+1))
def hiC (v u o:KA)(i j g c d:Nat):SM (ForInStep Y2):=do
 let f<-elem' v (i - 1)
 if (i - 1 == 0)=true then pure (.done (some (dh v u (o.push f) (i - 1) j),i - 1,j,o.push f,g,c,d))
 else if (decide (c < 7)&&decide (d < 7))=true then pure (.done (none,i - 1,j,o.push f,g,c,d))
 else pure (.yield (none,i - 1,j,o.push f,g,c,d))
def hiB (v u o:KA)(i j g c d:Nat):SM (ForInStep Y2):=do
 let e<-elem' u (j - 1)
 if (j - 1 == 1)=true then pure (.done (some (fh v u (o.push e) i (j - 1)),i,j - 1,o.push e,g,c,d))
 else do
  let f<-elem' v (i - 1)
  let some p<-gal true f u 0 (j - 1) (j - 1 - 1) | pure (.done (some (dh v u (o.push e) i (j - 1)),i,j - 1,o.push e,g,c,d))
  if j - 1 - p > 0 then
   if (p == 1)=true then pure (.done (some (fh v u (o.push e++(u.extract p (j - 1)).reverse) i p),i,p,o.push e++(u.extract p (j - 1)).reverse,g,c,j - 1 - p))
   else if (p == 0)=true then pure (.done (some (dh v u (o.push e++(u.extract p (j - 1)).reverse) i p),i,p,o.push e++(u.extract p (j - 1)).reverse,g,c,j - 1 - p))
   else hiC v u (o.push e++(u.extract p (j - 1)).reverse) i p g c (j - 1 - p)
  else hiC v u (o.push e) i (j - 1) g c (j - 1 - p)
def hiA (v u o:KA)(i j g c d:Nat):SM (ForInStep Y2):=do
 V2 g
 let e<-elem' u (j - 1)
 let some p<-gal false e v 0 i (i - 1) | pure (.done (some (dh v u o i j),i,j,o,g,c,d))
 if i - p > 0 then
  if (p == 0)=true then pure (.done (some (dh v u (o++(v.extract p i).reverse) p j),p,j,o++(v.extract p i).reverse,g,i - p,d))
  else hiB v u (o++(v.extract p i).reverse) p j g (i - p) d
 else hiB v u o i j g (i - p) d
def zmf (v u:KA)(z:Y2):SM (ForInStep Y2) :=
 if z.2.2.2.2.1 > 1 then hiA v u z.2.2.2.1 z.2.1 z.2.2.1 (z.2.2.2.2.1 - 1) z.2.2.2.2.2.1 z.2.2.2.2.2.2
 else hiA v u z.2.2.2.1 z.2.1 z.2.2.1 z.2.2.2.2.1 z.2.2.2.2.2.1 z.2.2.2.2.2.2
def zl6 (v u:KA)(z:Y3):SM (ForInStep Y3):=do
 let y<-forIn [0:v.size+u.size] ((none,z.2.1,z.2.2.1,z.2.2.2.1,0,0):Y1) λ_ q=>zmh v u z.2.2.2.2 q
 match y.1 with
 | some r=>pure (.done (some r,y.2.1,y.2.2.1,y.2.2.2.1,z.2.2.2.2))
 | none=>do
  rule "list.sort.gallop"
  let x<-forIn [0:v.size+u.size] ((none,y.2.1,y.2.2.1,y.2.2.2.1,z.2.2.2.2+1,y.2.2.2.2.1,y.2.2.2.2.2):Y2) λ_ q=>zmf v u q
  match x.1 with
  | some r=>pure (.done (some r,x.2.1,x.2.2.1,x.2.2.2.1,x.2.2.2.2.1))
  | none=>do
   V2 (x.2.2.2.2.1+1)
   pure (.yield (none,x.2.1,x.2.2.1,x.2.2.2.1,x.2.2.2.2.1+1))
theorem zkn (v u:KA):mhi v u=(do
 rule "list.sort.merge-hi"
 let e<-elem' v (v.size - 1)
 if (v.size - 1 == 0)=true then pure (dh v u #[e] (v.size - 1) u.size)
 else if (u.size == 1)=true then pure (fh v u #[e] (v.size - 1) u.size)
 else do
  let g<-get
  let z<-forIn [0:v.size+u.size] ((none,v.size - 1,u.size,#[e],gallopOf g):Y3) λ_ q=>zl6 v u q
  match z.1 with
  | some r=>pure r
  | none=>(unsupported ("internal:list.sort.merge-bound"))):=by
 show @bind SM _ _ _ _ _=_
 dsimp only[zl6,zmf,hiA,hiB,hiC,zmh,elem',lt',gal,V2,gallopOf]
 congr 1;funext _;congr 1;funext e
 congr 1;congr 1;congr 1;funext g;congr 1
 .congr 1;funext _ z;congr 1
  funext x
  obtain⟨r,x⟩:=x
  cases r with
  | some r=>rfl
  | none =>
   dsimp only
   congr 1;funext _;congr 1
   funext y;obtain⟨r,y⟩:=y;cases r <;> rfl
 .funext y;obtain⟨r,y⟩:=y;cases r <;> rfl
structure MH (κ:KeyKind) (v u o:KA) (i j:Nat):Prop where
 li:i<=v.size
 lj:j<=u.size
 wi:WI (λa b=>LE κ b a) v.toList.reverse u.toList.reverse o.toList (v.size - i) (u.size - j)
section
variable {κ:KeyKind}{D:Keyed->Prop}{v u o:KA}{i j:Nat}
theorem yD {v:KA}{i:Nat}(h:i<=v.size):v.toList.reverse.drop (v.size - i)=(v.toList.take i).reverse:=by
 rw[List.drop_reverse,j5,Nat.sub_sub_self h]
theorem yY {l:List Keyed}(h:l.Pairwise (LE κ)):l.reverse.Pairwise λa b=>LE κ b a:=u1H.mpr h
theorem zfQ {v:KA}{i:Nat}(h0:0 < i)(h:i<=v.size):v.toList.reverse[v.size - i]?=v.toList[i - 1]?:=by
 rw[List.getElem?_reverse (by rw[j5];omega),j5,show v.size - 1 - (v.size - i)=i - 1 by omega]
theorem MH.pushA (T:Two κ D v u)(m:MH κ v u o i j)(h0:0 < i){x:Keyed}(hx:v.toList[i - 1]?=some x)(h:∀ y∈u.toList.take j,LE κ y x):MH κ v u (o.push x) (i - 1) j:=by
 have li:=m.li
 refine⟨by omega,m.lj,?_⟩
 have:=m.wi.pushA (x:=x) (yY T.sv) (by rw[zfQ h0 li];exact hx) λy hy=>h y (by rw[yD m.lj]at hy;exact u06.mp hy)
 rw[<-u1b,show v.size - i+1=v.size - (i - 1) by omega]at this
 exact this
theorem MH.pushB (T:Two κ D v u)(m:MH κ v u o i j)(h0:0 < j){y:Keyed}(hy:u.toList[j - 1]?=some y)(h:∀ x∈v.toList.take i,LE κ x y):MH κ v u (o.push y) i (j - 1):=by
 have lj:=m.lj
 refine⟨m.li,by omega,?_⟩
 have:=m.wi.pushB (y:=y) (yY T.su) (by rw[zfQ h0 lj];exact hy) λx hx=>h x (by rw[yD m.li]at hx;exact u06.mp hx)
 rw[<-u1b,show u.size - j+1=u.size - (j - 1) by omega]at this
 exact this
theorem Vv {v:KA}{p i:Nat}(hp:p<=i)(h:i<=v.size):(v.toList.reverse.drop (v.size - i)).take (i - p)=(v.extract p i).reverse.toList:=by
 rw[yD h,List.take_reverse,u1m,wa,b9,j5,u0M h,Nat.sub_sub_self hp,u2w]
theorem MH.runA (T:Two κ D v u)(m:MH κ v u o i j){p:Nat}(hp:p<=i)(h:∀ x∈(v.toList.take i).drop p,∀ y∈u.toList.take j,LE κ y x):MH κ v u (o++(v.extract p i).reverse) p j:=by
 have li:=m.li
 refine⟨by omega,m.lj,?_⟩
 have:=m.wi.runA (k:=i - p) (yY T.sv) (by rw[u13,j5];omega) λx hx y hy=>by
  rw[Vv hp li,u1m,wa]at hx
  rw[yD m.lj]at hy
  exact h x (by rw[u2w];exact u06.mp hx) y (u06.mp hy)
 rw[Vv hp li,<- m8,show v.size - i+(i - p)=v.size - p by omega]at this
 exact this
theorem MH.runB (T:Two κ D v u)(m:MH κ v u o i j){p:Nat}(hp:p<=j)(h:∀ y∈(u.toList.take j).drop p,∀ x∈v.toList.take i,LE κ x y):MH κ v u (o++(u.extract p j).reverse) i p:=by
 have lj:=m.lj
 refine⟨m.li,by omega,?_⟩
 have:=m.wi.runB (k:=j - p) (yY T.su) (by rw[u13,j5];omega) λx hx y hy=>by
  rw[Vv hp lj,u1m,wa]at hx
  rw[yD m.li]at hy
  exact h x (by rw[u2w];exact u06.mp hx) y (u06.mp hy)
 rw[Vv hp lj,<- m8,show u.size - j+(j - p)=u.size - p by omega]at this
 exact this
theorem Xc (v:KA)(i:Nat):(v.extract 0 i).toList=v.toList.take i:=by rw[wa,u1T,Nat.sub_zero]
theorem zaT (T:Two κ D v u)(m:MH κ v u o i j)(h:i=0\/j=0):Fn κ v u (dh v u o i j):=by
 have e:=m.wi.swap.done (yY T.su) (yY T.sv) λy hy x hx=>by
  rw[yD m.lj]at hy
  rw[yD m.li]at hx
  rcases h with rfl | rfl
  .rw[u3G]at hx;cases hx
  .rw[u3G]at hy;cases hy
 rw[yD m.lj,yD m.li]at e
 have er:(dh v u o i j).toList=(o.toList++(u.toList.take j).reverse++(v.toList.take i).reverse).reverse:=by
  unfold dh
  rw[m8,m8,Xc,Xc,u1m,u14,u14,u1P,u1P,g8]
 constructor
 .rw[er]
  refine(u1c _).trans (e.1.trans ?_)
  exact(u1k).trans ((u1c _).append (u1c _))
 .rw[er,u1H]
  exact e.2
theorem zcb (T:Two κ D v u)(m:MH κ v u o i j)(hj:j=1)(bot:∀ x∈v.toList,∀ y,u.toList[0]?=some y->LE κ y x):Fn κ v u (fh v u o i j):=by
 have e:=m.wi.done (yY T.sv) (yY T.su) λx hx y hy=>by
  rw[yD m.lj]at hy
  rw[yD m.li]at hx
  refine bot x (u0d (u06.mp hx)) y ?_
  obtain⟨a,ha,ea⟩:=vE (u06.mp hy)
  obtain rfl:a=0:=by omega
  exact ea
 rw[yD m.lj,yD m.li]at e
 have er:(fh v u o i j).toList=(o.toList++(v.toList.take i).reverse++(u.toList.take j).reverse).reverse:=by
  unfold fh
  rw[m8,m8,Xc,Xc,u1m,u14,u14,u1P,u1P,g8]
 constructor
 .rw[er]
  exact(u1c _).trans (e.1.trans ((u1c _).append (u1c _)))
 .rw[er,u1H]
  exact e.2
theorem V9 {l:List Keyed}(s:l.Pairwise (LE κ)){i:Nat}{x:Keyed}(h0:0 < i)(hx:l[i - 1]?=some x):∀ z∈l.take i,LE κ z x:=λz hz=>by
 obtain⟨a,ha,e⟩:=vE hz
 exact Vr s (by omega) e hx
def Oj2 (κ:KeyKind)(v u:KA)(n:Nat)(c:Y2):Prop:=(∃ r,c.1=some r/\Fn κ v u r)\/(c.1=none/\(0 < c.2.1/\1 < c.2.2.1)/\MH κ v u c.2.2.2.1 c.2.1 c.2.2.1/\c.2.1+c.2.2.1<=n)
def Gj2 (κ:KeyKind)(v u:KA)(n:Nat):ForInStep Y2->Prop
 | .done c=>Oj2 κ v u n c
 | .yield c=>c.1=none/\(0 < c.2.1/\1 < c.2.2.1)/\MH κ v u c.2.2.2.1 c.2.1 c.2.2.1/\c.2.1+c.2.2.1<=n
end
section
variable {prog:Program}{w:World}{A:Around}{E:Value->Shared->Prop}{s:Shared}{st:SortSt}{κ:KeyKind}{k:SortKind}{D:Keyed->Prop}{v u o:KA}{i j g c d n:Nat}
theorem zea (T:Two κ D v u)(m:MH κ v u o i j)(h0:0 < i)(h1:1 < j){x:Keyed}(hx:v.toList[i - 1]?=some x)(h:∀ y∈u.toList.take j,LE κ y x)(hn:i+j<=n):wpS (model prog w) A E s (hiC v u o i j g c d) (λr t=>t=st/\Gj2 κ v u n r) st:=by
 unfold hiC
 refine j7 (zG hx ?_)
 have m':=m.pushA T h0 hx h
 by_cases e:i - 1=0
 .rw[u8 (g9.mpr e)]
  exact d5 ⟨rfl,.inl ⟨_,rfl,zaT T m' (.inl e)⟩⟩
 .rw[u9 (λz=>e (g9.mp z))]
  split
  .exact d5 ⟨rfl,.inr ⟨rfl,⟨by show 0 < i - 1;omega,h1⟩,m',by show i - 1+j<=n;omega⟩⟩
  .exact d5 ⟨rfl,rfl,⟨by show 0 < i - 1;omega,h1⟩,m',by show i - 1+j<=n;omega⟩
theorem zfE (L:LtE prog w A E s κ k D)(hk:kindOf st=k)(T:Two κ D v u)(bot:∀ x∈v.toList,∀ y,u.toList[0]?=some y->LE κ y x)(m:MH κ v u o i j)(h0:0 < i)(h1:1 < j){y:Keyed}(hy:u.toList[j - 1]?=some y)(h:∀ x∈v.toList.take i,LE κ x y)(hn:i+j<=n):wpS (model prog w) A E s (hiB v u o i j g c d) (λr t=>t=st/\Gj2 κ v u n r) st:=by
 unfold hiB
 refine j7 (zG hy ?_)
 have m':=m.pushB T (by omega) hy h
 have li:=m.li
 have lj:=m.lj
 by_cases e:j - 1=1
 .rw[u8 (g9.mpr e)]
  exact d5 ⟨rfl,.inl ⟨_,rfl,zcb T m' e bot⟩⟩
 .rw[u9 (λz=>e (g9.mp z))]
  obtain⟨x,hx⟩:=Wv (v:=v) (i:=i - 1) (by omega)
  refine j7 (zG hx ?_)
  have hul:u.toList.length=u.size:=j5
  have eseg:(u.toList.drop 0).take (j - 1)=u.toList.take (j - 1):=by rw[u1T]
  refine j7 (Vh L hk (T.dv x (j6 hx)) (λz hz=>T.du z (i8 (u0d hz))) (by omega) (by omega) (by rw[eseg];exact T.su.sublist (u1r _ _)) λp hp g1 g2=>?_)
  rw[eseg]at g1 g2
  dsimp only
  have hx2:=V9 T.sv h0 hx
  have m2:=m'.runB T hp λz hz a ha=>LE.trans (hx2 a ha) (g2 z hz)
  have h3:∀ z∈u.toList.take p,LE κ z x:=λz hz=>u0j (g1 z (by rw[u1z,u0M hp];exact hz))
  by_cases e0:j - 1 - p > 0
  .rw[u8 e0]
   by_cases e1:p=1
   .rw[u8 (g9.mpr e1)]
    exact d5 ⟨rfl,.inl ⟨_,rfl,zcb T m2 e1 bot⟩⟩
   .rw[u9 (λz=>e1 (g9.mp z))]
    by_cases e2:p=0
    .rw[u8 (g9.mpr e2)]
     exact d5 ⟨rfl,.inl ⟨_,rfl,zaT T m2 (.inr e2)⟩⟩
    .rw[u9 (λz=>e2 (g9.mp z))]
     exact zea T m2 h0 (by omega) hx h3 (by omega)
  .rw[u9 e0]
   obtain rfl:p=j - 1:=by omega
   exact zea T m' h0 (by omega) hx h3 (by omega)
theorem zf0 (L:LtE prog w A E s κ k D)(hk:kindOf st=k)(T:Two κ D v u)(bot:∀ x∈v.toList,∀ y,u.toList[0]?=some y->LE κ y x)(m:MH κ v u o i j)(h0:0 < i)(h1:1 < j)(hn:i+j<=n):wpS (model prog w) A E s (hiA v u o i j g c d) (λr t=>Sm st t/\Gj2 κ v u n r) st:=by
 unfold hiA
 refine j7 (Zj λt ht=>?_)
 have li:=m.li
 have lj:=m.lj
 obtain⟨y,hy⟩:=Wv (v:=u) (i:=j - 1) (by omega)
 refine j7 (zG hy ?_)
 have hvl:v.toList.length=v.size:=j5
 have eseg:(v.toList.drop 0).take i=v.toList.take i:=by rw[u1T]
 refine j7 (VW L (ht.kd.trans hk) (T.du y (j6 hy)) (λz hz=>T.dv z (i8 (u0d hz))) (by omega) (by omega) (by rw[eseg];exact T.sv.sublist (u1r _ _)) λp hp g1 g2=>?_)
 rw[eseg]at g1 g2
 dsimp only
 have hy2:=V9 T.su (i:=j) (by omega) hy
 have m2:=m.runA T hp λz hz a ha=>LE.trans (hy2 a ha) (u0j (g2 z hz))
 have h3:∀ z∈v.toList.take p,LE κ z y:=λz hz=>g1 z (by rw[u1z,u0M hp];exact hz)
 by_cases e0:i - p > 0
 .rw[u8 e0]
  by_cases e1:p=0
  .rw[u8 (g9.mpr e1)]
   exact d5 ⟨ht,.inl ⟨_,rfl,zaT T m2 (.inl e1)⟩⟩
  .rw[u9 (λz=>e1 (g9.mp z))]
   exact u0I (zfE L (ht.kd.trans hk) T bot m2 (by omega) h1 hy h3 (by omega)) λr t' h=>⟨h.1 ▸ ht,h.2⟩
 .rw[u9 e0]
  obtain rfl:p=i:=by omega
  exact u0I (zfE L (ht.kd.trans hk) T bot m h0 h1 hy h3 hn) λr t' h=>⟨h.1 ▸ ht,h.2⟩
def Oj1 (κ:KeyKind)(v u:KA)(n:Nat)(c:Y1):Prop:=(∃ r,c.1=some r/\Fn κ v u r)\/(c.1=none/\(0 < c.2.1/\1 < c.2.2.1)/\MH κ v u c.2.2.2.1 c.2.1 c.2.2.1/\c.2.1+c.2.2.1<=n)
def Gj1 (κ:KeyKind)(v u:KA)(n:Nat):ForInStep Y1->Prop
 | .done c=>Oj1 κ v u n c
 | .yield c=>c.1=none/\(0 < c.2.1/\1 < c.2.2.1)/\MH κ v u c.2.2.2.1 c.2.1 c.2.2.1/\c.2.1+c.2.2.1<=n
theorem zhC (L:LtE prog w A E s κ k D)(hk:kindOf st=k)(T:Two κ D v u)(bot:∀ x∈v.toList,∀ y,u.toList[0]?=some y->LE κ y x){z:Y1}(m:MH κ v u z.2.2.2.1 z.2.1 z.2.2.1)(h0:0 < z.2.1/\1 < z.2.2.1):wpS (model prog w) A E s (zmh v u g z) (λr t=>t=st/\Gj1 κ v u (z.2.1+z.2.2.1 - 1) r) st:=by
 obtain⟨r,i,j,o,c,d⟩:=z
 dsimp only at m h0 ⊢
 obtain⟨h0,h1⟩:=h0
 have li:=m.li
 have lj:=m.lj
 unfold zmh
 obtain⟨y,hy⟩:=Wv (v:=u) (i:=j - 1) (by omega)
 obtain⟨x,hx⟩:=Wv (v:=v) (i:=i - 1) (by omega)
 refine j7 (zG hy (j7 (zG hx (j7 (L _ _ _ _ hk (T.du y (j6 hy)) (T.dv x (j6 hx)) ?_)))))
 dsimp only
 have hx2:=V9 T.sv h0 hx
 have hy2:=V9 T.su (i:=j) (by omega) hy
 cases e:κ.blt (ky κ y) (ky κ x) with
 | true =>
  rw[u8 rfl]
  refine j7 (zG hx ?_)
  have m':=m.pushA T h0 hx λa ha=>LE.trans (hy2 a ha) (u0j e)
  by_cases e1:i - 1=0
  .rw[u8 (g9.mpr e1)]
   exact d5 ⟨rfl,.inl ⟨_,rfl,zaT T m' (.inl e1)⟩⟩
  .rw[u9 (λz=>e1 (g9.mp z))]
   split
   .exact d5 ⟨rfl,.inr ⟨rfl,⟨by show 0 < i - 1;omega,h1⟩,m',by show i - 1+j<=i+j - 1;omega⟩⟩
   .exact d5 ⟨rfl,rfl,⟨by show 0 < i - 1;omega,h1⟩,m',by show i - 1+j<=i+j - 1;omega⟩
 | false =>
  rw[u9 u4]
  refine j7 (zG hy ?_)
  have m':=m.pushB T (by omega) hy λa ha=>LE.trans (κ:=κ) (y:=x) (hx2 a ha) e
  by_cases e1:j - 1=1
  .rw[u8 (g9.mpr e1)]
   exact d5 ⟨rfl,.inl ⟨_,rfl,zcb T m' e1 bot⟩⟩
  .rw[u9 (λz=>e1 (g9.mp z))]
   split
   .exact d5 ⟨rfl,.inr ⟨rfl,⟨h0,by show 1 < j - 1;omega⟩,m',by show i+(j - 1)<=i+j - 1;omega⟩⟩
   .exact d5 ⟨rfl,rfl,⟨h0,by show 1 < j - 1;omega⟩,m',by show i+(j - 1)<=i+j - 1;omega⟩
theorem zgU {z:Y2}(L:LtE prog w A E s κ k D)(hk:kindOf st=k)(T:Two κ D v u)(bot:∀ x∈v.toList,∀ y,u.toList[0]?=some y->LE κ y x)(m:MH κ v u z.2.2.2.1 z.2.1 z.2.2.1)(h0:0 < z.2.1/\1 < z.2.2.1)(hn:z.2.1+z.2.2.1<=n):wpS (model prog w) A E s (zmf v u z) (λr t=>Sm st t/\Gj2 κ v u n r) st:=by
 unfold zmf
 split
 .exact zf0 L hk T bot m h0.1 h0.2 hn
 .exact zf0 L hk T bot m h0.1 h0.2 hn
def Gj3 (κ:KeyKind)(v u:KA)(n:Nat):ForInStep Y3->Prop
 | .done c=>∃ r,c.1=some r/\Fn κ v u r
 | .yield c=>c.1=none/\(0 < c.2.1/\1 < c.2.2.1)/\MH κ v u c.2.2.2.1 c.2.1 c.2.2.1/\c.2.1+c.2.2.1<=n
theorem zgR {z:Y3}(L:LtE prog w A E s κ k D)(hk:kindOf st=k)(T:Two κ D v u)(bot:∀ x∈v.toList,∀ y,u.toList[0]?=some y->LE κ y x)(m:MH κ v u z.2.2.2.1 z.2.1 z.2.2.1)(h0:0 < z.2.1/\1 < z.2.2.1):wpS (model prog w) A E s (zl6 v u z) (λr t=>Sm st t/\Gj3 κ v u (z.2.1+z.2.2.1 - 1) r) st:=by
 unfold zl6
 have li:=m.li
 have lj:=m.lj
 refine j7 (u0I (u0B (I:=λx c t=>t=st/\c.1=none/\(0 < c.2.1/\1 < c.2.2.1)/\MH κ v u c.2.2.2.1 c.2.1 c.2.2.1/\(x=0\/c.2.1+c.2.2.1<=z.2.1+z.2.2.1 - 1)/\c.2.1+c.2.2.1<=z.2.1+z.2.2.1) (Q:=λc t=>t=st/\Oj1 κ v u (z.2.1+z.2.2.1 - 1) c)
  (λx c t _ _ hI=>?_) (λc t hI=>?_) ⟨rfl,rfl,h0,m,.inl rfl,q5 _⟩) λy t hI=>?_)
 .obtain⟨rfl,h1,h2,h3,h4,h5⟩:=hI
  refine u0I (zhC L hk T bot h3 h2) λr t' h=>?_
  obtain⟨rfl,hr⟩:=h
  cases r with
  | done c' =>
   rcases hr with hr | ⟨a1,a2,a3,a4⟩
   .exact⟨rfl,.inl hr⟩
   .exact⟨rfl,.inr ⟨a1,a2,a3,by omega⟩⟩
  | yield c' =>
   obtain⟨a1,a2,a3,a4⟩:=hr
   exact⟨rfl,a1,a2,a3,.inr (by omega),by omega⟩
 .obtain⟨rfl,h1,h2,h3,h4,h5⟩:=hI
  refine⟨rfl,.inr ⟨h1,h2,h3,?_⟩⟩
  rcases h4 with h4 | h4
  .exfalso
   have:max 0 (v.size+u.size)=v.size+u.size:=by omega
   omega
  .exact h4
 .obtain⟨rfl,hy⟩:=hI
  rcases hy with ⟨r,e,hr⟩ | ⟨e,p1,m1,h1⟩
  .rw[e]
   exact d5 ⟨Sm.refl _,r,rfl,hr⟩
  .rw[e]
   dsimp only
   refine j7 (u3l (u1A ⟨rfl,?_⟩))
   refine j7 (u0I (u0B (I:=λx c t'=>Sm t t'/\c.1=none/\(0 < c.2.1/\1 < c.2.2.1)/\MH κ v u c.2.2.2.1 c.2.1 c.2.2.1/\c.2.1+c.2.2.1<=z.2.1+z.2.2.1 - 1) (Q:=λc t'=>Sm t t'/\Oj2 κ v u (z.2.1+z.2.2.1 - 1) c)
    (λx c t' _ _ hI=>?_) (λc t' hI=>?_) ⟨Sm.refl _,rfl,p1,m1,h1⟩) λx t' hI=>?_)
   .obtain⟨hs,b1,b2,b3,b4⟩:=hI
    refine u0I (zgU L (hs.kd.trans hk) T bot b3 b2 b4) λr t2 h=>?_
    obtain⟨hs2,hr⟩:=h
    cases r with
    | done c'=>exact⟨hs.trans hs2,hr⟩
    | yield c'=>exact⟨hs.trans hs2,hr⟩
   .obtain⟨hs,b1,b2,b3,b4⟩:=hI
    exact⟨hs,.inr ⟨b1,b2,b3,b4⟩⟩
   .obtain⟨hs,hx⟩:=hI
    rcases hx with ⟨r,e,hr⟩ | ⟨e,p2,m2,h2⟩
    .rw[e]
     exact d5 ⟨hs,r,rfl,hr⟩
    .rw[e]
     exact j7 (Zj λt2 hs2=>d5 ⟨hs.trans hs2,rfl,p2,m2,h2⟩)
theorem ziC {P:KA->SortSt->Prop}(L:LtE prog w A E s κ k D)(hk:kindOf st=k)(T:Two κ D v u)(hv:0 < v.size)(hu:0 < u.size)(top:∀ y∈u.toList,∀ x,v.toList[v.size - 1]?=some x->LE κ y x)(bot:∀ x∈v.toList,∀ y,u.toList[0]?=some y->LE κ y x)
 (h:∀ r t,Sm st t->Fn κ v u r->P r t):wpS (model prog w) A E s (mhi v u) P st:=by
 rw[zkn]
 refine j7 (u3l (u1A ⟨rfl,?_⟩))
 obtain⟨x,hx⟩:=Wv (v:=v) (i:=v.size - 1) (by omega)
 refine j7 (zG hx ?_)
 have m0:MH κ v u #[] v.size u.size:=⟨q5 _,q5 _,by
  rw[u2Z,u2Z]
  exact⟨u0g _,u0g _,u1y _,List.Pairwise.nil,(λz hz=>by cases hz),(λz hz=>by cases hz)⟩⟩
 have m1:MH κ v u #[x] (v.size - 1) u.size:=m0.pushA T hv hx λy hy=>top y (u0d hy) x hx
 by_cases e1:v.size - 1=0
 .rw[u8 (g9.mpr e1)]
  exact d5 (h _ _ (Sm.refl _) (zaT T m1 (.inl e1)))
 rw[u9 (λz=>e1 (g9.mp z))]
 by_cases e2:u.size=1
 .rw[u8 (g9.mpr e2)]
  exact d5 (h _ _ (Sm.refl _) (zcb T m1 e2 bot))
 rw[u9 (λz=>e2 (g9.mp z))]
 refine j7 (u28 ?_)
 refine j7 (u0I (u0B (I:=λx c t=>Sm st t/\c.1=none/\(0 < c.2.1/\1 < c.2.2.1)/\MH κ v u c.2.2.2.1 c.2.1 c.2.2.1/\x+(c.2.1+c.2.2.1)<=v.size+u.size) (Q:=λc t=>Sm st t/\∃ r,c.1=some r/\Fn κ v u r)
  (λx c t _ _ hI=>?_) (λc t hI=>?_) ⟨Sm.refl _,rfl,⟨by show 0 < v.size - 1;omega,by show 1 < u.size;omega⟩,m1,by show 0+(v.size - 1+u.size)<=v.size+u.size;omega⟩) λy t hI=>?_)
 .obtain⟨hs,b1,b2,b3,b4⟩:=hI
  refine u0I (zgR L (hs.kd.trans hk) T bot b3 b2) λr t2 h=>?_
  obtain⟨hs2,hr⟩:=h
  cases r with
  | done c'=>exact⟨hs.trans hs2,hr⟩
  | yield c'=>exact⟨hs.trans hs2,hr.1,hr.2.1,hr.2.2.1,by have:=hr.2.2.2;omega⟩
 .obtain⟨hs,b1,b2,b3,b4⟩:=hI
  exfalso
  have:max 0 (v.size+u.size)=v.size+u.size:=by omega
  omega
 .obtain⟨hs,r,e,hr⟩:=hI
  rw[e]
  exact d5 (h r t hs hr)
end
abbrev Pd:=Array (Nat × Nat × Nat)
theorem zk5 (i:Nat):mergeAt' i=(do
 let z<-get
 let (some (a,m,p),some (b,n,_)):=((pendingOf z)[i]?,(pendingOf z)[i+1]?) | (unsupported ("internal:list.sort.pending"))
 set (setPending z (((pendingOf z).setIfInBounds i (a,m+n,p)).eraseIdxIfInBounds (i+1)))
 let some k<-gal false (<- elem' (arrOf z) b) (arrOf z) a m 0 | return false
 let (a,m):=(a+k,m - k)
 if m == 0 then return true
 let some n<-gal true (<- elem' (arrOf z) (a+m - 1)) (arrOf z) b n (n - 1) | return false
 if n == 0 then return true
 let x:=(arrOf z).extract a b
 let y:=(arrOf z).extract b (b+n)
 let r<-if m<=n then mlo x y else mhi x y
 modify λs=>setArr s (r.toList.zipIdx.foldl (λx (y,j)=>x.setIfInBounds (a+j) y) (arrOf s))
 return (failedOf (<- get)).isNone):=rfl
theorem zgc:∀ (m:List Keyed) (x:KA) (b n:Nat),b+n+m.length<=x.size->((m.zipIdx n).foldl (λx z=>x.setIfInBounds (b+z.2) z.1) x).toList=x.toList.take (b+n)++m++x.toList.drop (b+n+m.length):=by
 intro m
 induction m with
 | nil=>intro x b n h;simp
 | cons y m ih =>
  intro x b n h
  rw[e8]at h
  rw[List.zipIdx_cons,u3w]
  rw[ih (x.setIfInBounds (b+n) y) b (n+1) (by rw[Array.size_setIfInBounds];omega)]
  rw[u2T,e8,show b+(n+1)=b+n+1 by omega,show b+n+1+m.length=b+n+(m.length+1) by omega]
  have hl:b+n < x.toList.length:=by rw[j5];omega
  rw[List.drop_set_of_lt (by omega),List.take_set]
  have e1:(x.toList.take (b+n+1)).set (b+n) y=x.toList.take (b+n)++[y]:=by
   rw[List.take_add_one,u7 hl]
   have:(x.toList.take (b+n)).length=b+n:=by rw[b9];omega
   rw[List.set_append_right _ _ (by omega),this,u2Z]
   rfl
  rw[e1,g8,g8,g8]
  rfl
theorem YY {l:List Keyed}{a m k:Nat}(h:k<=m):l.take (a+k)=l.take a++((l.drop a).take m).take k:=by
 rw[List.take_add,u1z,u0M h]
theorem zgh {l:List Keyed}{b n q:Nat}(h:q<=n)(hl:b+n<=l.length):l.drop (b+q)=((l.drop b).take n).drop q++l.drop (b+n):=by
 have e:(l.drop b).take n++(l.drop b).drop n=l.drop b:=p7 n (l.drop b)
 rw[<-u01,<- u01]
 have e2:(l.drop b).drop q=((l.drop b).take n++(l.drop b).drop n).drop q:=by rw[e]
 rw[e2,u1x (by rw[b9,e9];omega)]
theorem zi1 {prog:Program}{w:World}{A:Around}{E:Value->Shared->Prop}{s:Shared}{st z:SortSt}{Q:PUnit->SortSt->Prop}(h:Q ⟨⟩ z):wpS (model prog w) A E s (set z:SM PUnit) Q st:=u2J (f:=λ_=>z) h
section
variable {prog:Program}{w:World}{A:Around}{E:Value->Shared->Prop}{s:Shared}{st:SortSt}{κ:KeyKind}{k:SortKind}{D:Keyed->Prop}
theorem zlB {l r:List Keyed}{q:Keyed}(sl:l.Pairwise (LE κ))(sr:r.Pairwise (LE κ))(h1:∀ x∈l,LE κ x q)(h2:∀ y∈r,LE κ q y):(l++r).Pairwise (LE κ):=by
 rw[u0s]
 exact⟨sl,sr,λx hx y hy=>LE.trans (h1 x hx) (h2 y hy)⟩
theorem ziW {P:Bool->SortSt->Prop}{i a m p b n x:Nat}{l S1 S2:List Keyed}(L:LtE prog w A E s κ k D)(hk:kindOf st=k)(hf:failedOf st=none)(h1:(pendingOf st)[i]?=some (a,m,p))(h2:(pendingOf st)[i+1]?=some (b,n,x))
 (el:(arrOf st).toList=l) (hd:∀ x∈l,D x) (hb:a+m=b) (hn:b+n<=l.length) (m0:0 < m) (n0:0 < n) (e1:(l.drop a).take m=S1) (e2:(l.drop b).take n=S2) (s1:S1.Pairwise (LE κ)) (s2:S2.Pairwise (LE κ))
 (h:∀ t M,kindOf t=k->failedOf t=none->pendingOf t=((pendingOf st).setIfInBounds i (a,m+n,p)).eraseIdxIfInBounds (i+1)->(arrOf t).toList=l.take a++M++l.drop (b+n)->M.Perm (S1++S2)->M.Pairwise (LE κ)->P true t):wpS (model prog w) A E s (mergeAt' i) P st:=by
 have hsz:(arrOf st).size=l.length:=by rw[<-el,j5]
 have l1:S1.length=m:=by rw[<-e1,b9,e9];omega
 have l2:S2.length=n:=by rw[<-e2,b9,e9];omega
 have whole:l=l.take a++(S1++S2)++l.drop (b+n):=by
  have q1:=YY (l:=l) (a:=a) (q5 m)
  rw[e1,show S1.take m=S1 from m6 (by omega),hb]at q1
  have q2:=YY (l:=l) (a:=b) (q5 n)
  rw[e2,show S2.take n=S2 from m6 (by omega),q1]at q2
  have q3:=p7 (b+n) l
  rw[q2]at q3
  rw[<-g8]
  exact q3.symm
 have get1:∀ {i x},S1[i]?=some x->l[a+i]?=some x:=λ{i x} e=>by
  have hi:i < m:=by have:=(t7.mp e).1;omega
  rw[<-e1,u0b hi,u1j]at e
  exact e
 have get2:∀ {i x},S2[i]?=some x->l[b+i]?=some x:=λ{i x} e=>by
  have hi:i < n:=by have:=(t7.mp e).1;omega
  rw[<-e2,u0b hi,u1j]at e
  exact e
 have d1:∀ x∈S1,D x:=λx hx=>hd x (by rw[<-e1]at hx;exact i8 (u0d hx))
 have d2:∀ x∈S2,D x:=λx hx=>hd x (by rw[<-e2]at hx;exact i8 (u0d hx))
 rw[zk5]
 refine j7 (u28 ?_)
 dsimp only
 rw[h1,h2]
 dsimp only
 refine j7 (zi1 ?_)
 obtain⟨y0,hy0⟩:∃ y,S2[0]?=some y:=⟨_,u7 (by omega)⟩
 refine j7 (zG (by rw[el];exact get2 hy0) ?_)
 have hy2:∀ y∈S2,LE κ y0 y:=λy hy=>XD (LE.refl (κ:=κ)) s2 hy0 y (by rw[u1T];exact hy)
 have hkz:kindOf (setPending st (((pendingOf st).setIfInBounds i (a,m+n,p)).eraseIdxIfInBounds (i+1)))=k:=hk
 refine j7 (VW L hkz (d2 y0 (j6 hy0)) (λz hz=>d1 z (by rw[el,e1]at hz;exact hz)) (by rw[el];omega) (by omega) (by rw[el,e1];exact s1) λc hc g1 g2=>?_)
 rw[el,e1]at g1 g2
 dsimp only
 by_cases c0:m - c=0
 .rw[u8 (g9.mpr c0)]
  refine d5 (h _ (S1++S2) hk hf rfl (by show(arrOf st).toList=_;rw[el];exact whole) (u1y _) (zlB s1 s2 (λx hx=>g1 x ?_) hy2))
  rw[m6 (by omega)]
  exact hx
 rw[u9 (λz=>c0 (g9.mp z))]
 obtain⟨x0,hx0⟩:∃ x,S1[m - 1]?=some x:=⟨_,u7 (by omega)⟩
 refine j7 (zG (x:=x0) (by rw[el,show a+c+(m - c) - 1=a+(m - 1) by omega];exact get1 hx0) ?_)
 have hx2:∀ x∈S1,LE κ x x0:=λx hx=>V9 s1 (i:=m) (by omega) hx0 x (by rw[m6 (by omega)];exact hx)
 refine j7 (Vh L hkz (d1 x0 (j6 hx0)) (λz hz=>d2 z (by rw[el,e2]at hz;exact hz)) (by rw[el];omega) (by omega) (by rw[el,e2];exact s2) λq hq g3 g4=>?_)
 rw[el,e2]at g3 g4
 dsimp only
 by_cases q0:q=0
 .rw[u8 (g9.mpr q0)]
  subst q0
  exact d5 (h _ (S1++S2) hk hf rfl (by show(arrOf st).toList=_;rw[el];exact whole) (u1y _) (zlB s1 s2 hx2 g4))
 rw[u9 (λz=>q0 (g9.mp z))]
 have ev:((arrOf st).extract (a+c) b).toList=S1.drop c:=by
  rw[wa,el,<- e1,u2w,u01,show b - (a+c)=m - c by omega]
 have eu:((arrOf st).extract b (b+q)).toList=S2.take q:=by
  rw[wa,el,<- e2,u1z,u08,u0M hq]
 have T:Two κ D ((arrOf st).extract (a+c) b) ((arrOf st).extract b (b+q)):=by
  refine⟨?_,?_,?_,?_⟩
  .rw[ev];exact λx hx=>d1 x (i8 hx)
  .rw[eu];exact λx hx=>d2 x (u0d hx)
  .rw[ev];exact s1.sublist (u0Y _ _)
  .rw[eu];exact s2.sublist (u1r _ _)
 have zv:((arrOf st).extract (a+c) b).size=m - c:=by rw[<-j5,ev,e9];omega
 have zu:((arrOf st).extract b (b+q)).size=q:=by rw[<-j5,eu,b9];omega
 have top:∀ y∈((arrOf st).extract b (b+q)).toList,∀ x,((arrOf st).extract (a+c) b).toList[((arrOf st).extract (a+c) b).size - 1]?=some x->LE κ y x:=by
  intro y hy x hx
  rw[eu]at hy
  rw[zv,ev,u1j,show c+(m - c - 1)=m - 1 by omega,hx0]at hx
  cases hx
  exact u0j (g3 y hy)
 have bot:∀ x∈((arrOf st).extract (a+c) b).toList,∀ y,((arrOf st).extract b (b+q)).toList[0]?=some y->LE κ y x:=by
  intro x hx y hy
  rw[ev]at hx
  rw[eu,u0b (by omega),hy0]at hy
  cases hy
  exact u0j (g2 x hx)
 have fin:∀ r t,Sm (setPending st (((pendingOf st).setIfInBounds i (a,m+n,p)).eraseIdxIfInBounds (i+1))) t->Fn κ ((arrOf st).extract (a+c) b) ((arrOf st).extract b (b+q)) r->wpS (model prog w) A E s (do
  modify λs=>setArr s (r.toList.zipIdx.foldl (λx z=>x.setIfInBounds (a+c+z.2) z.1) (arrOf s))
  let z<-get
  pure (failedOf z).isNone:SM Bool) P t:=λr t hs hr=>by
  refine j7 (u2J (j7 (u28 ?_)))
  have hf':failedOf t=none:=hs.fl.trans hf
  show wpS _ _ _ _ (pure (failedOf t).isNone) _ _
  rw[hf']
  have ha:arrOf t=arrOf st:=hs.ar
  obtain⟨rp,rs⟩:=hr
  rw[ev,eu]at rp
  have rl:r.toList.length=m - c+q:=by rw[rp.length_eq,r9,e9,b9];omega
  refine d5 (h _ (S1.take c++r.toList++S2.drop q) (hs.kd.trans hk) hf' hs.pd ?_ ?_ ?_)
  .show((r.toList.zipIdx.foldl (λx z=>x.setIfInBounds (a+c+z.2) z.1) (arrOf t))).toList=_
   rw[ha,zgc r.toList (arrOf st) (a+c) 0 (by rw[rl,hsz];omega),el,Nat.add_zero,rl,show a+c+(m - c+q)=b+q by omega,YY (l:=l) (a:=a) hc,e1,zgh hq hn,e2]
   simp only[g8]
  .refine((rp.append_left (S1.take c)).append_right (S2.drop q)).trans ?_
   rw[<-g8,p7,g8,p7]
  .rw[g8]
   have s3:(r.toList++S2.drop q).Pairwise (LE κ):=by
    rw[u0s]
    refine⟨rs,s2.sublist (u0Y _ _),λx hx y hy=>?_⟩
    rcases d9.mp (rp.mem_iff.mp hx)with hx | hx
    .exact LE.trans (hx2 x (i8 hx)) (g4 y hy)
    .have:=p7 q S2
     rw[<-this,u0s]at s2
     exact s2.2.2 x hx y hy
   rw[u0s]
   refine⟨s1.sublist (u1r _ _),s3,λx hx y hy=>?_⟩
   rcases d9.mp hy with hy | hy
   .rcases d9.mp (rp.mem_iff.mp hy)with hy | hy
    .have:=p7 c S1
     rw[<-this,u0s]at s1
     exact s1.2.2 x hx y hy
    .exact LE.trans (g1 x hx) (hy2 y (u0d hy))
   .exact LE.trans (g1 x hx) (hy2 y (i8 hy))
 by_cases cc:m - c<=q
 .rw[u8 cc]
  exact j7 (ziT L hkz T (by omega) (by omega) top bot fin)
 .rw[u9 cc]
  exact j7 (ziC L hkz T (by omega) (by omega) top bot fin)
end
def zk8 (lo a n:Nat):SM AscSt :=
 forIn [a:n] ((none,a):AscSt) λ_ c=>do
  let some z<-ltAt' (lo+c.2) (lo+c.2 - 1) | pure (.done (some none,c.2))
  if z=true then pure (.done (none,c.2))else pure (.yield (none,c.2+1))
def zfz (lo n m:Nat):SM (Option Nat):=do
 reverseSlice' lo (lo+n)
 let c<-zk8 lo n m
 match c.1 with
 | some r=>pure r
 | none=>pure (some c.2)
def zgM (lo n m:Nat):SM DescSt :=
 forIn [n:m] ((none,n,0):DescSt) λ_ c=>do
  let some z<-ltAt' (lo+c.2.1) (lo+c.2.1 - 1) | pure (.done (some none,c.2.1,c.2.2))
  if z=true then
   if c.2.2 > 0 then do
    reverseSlice' (lo+c.2.1 - (c.2.2+1)) (lo+c.2.1)
    pure (.yield (none,c.2.1+1,0))
   else pure (.yield (none,c.2.1+1,0))
  else do
   let some y<-ltAt' (lo+c.2.1 - 1) (lo+c.2.1) | pure (.done (some none,c.2.1,c.2.2))
   if y=true then pure (.done (none,c.2.1,c.2.2))else pure (.yield (none,c.2.1+1,c.2.2+1))
def ze6 (lo n m:Nat):SM (Option Nat):=do
 (rule ("list.sort.descending-run"))
 let c<-zgM lo (n+1) m
 match c.1 with
 | some r=>pure r
 | none =>
  if c.2.2 > 0 then do
   reverseSlice' (lo+c.2.1 - (c.2.2+1)) (lo+c.2.1)
   zfz lo c.2.1 m
  else zfz lo c.2.1 m
theorem zeO (lo m:Nat):countRun' lo m=(do
 let c<-zk8 lo 1 m
 match c.1 with
 | some r=>pure r
 | none =>
  if (c.2 == m)=true then pure (some c.2)
  else if c.2 > 1 then do
   let some z<-ltAt' lo (lo+c.2 - 1) | pure none
   if z=true then pure (some c.2)else do
    reverseSlice' lo (lo+c.2)
    ze6 lo c.2 m
  else ze6 lo c.2 m):=by
 rw[countRun'_eq]
 unfold ze6 zfz zgM zk8
 dsimp only
 congr 1
 funext c
 obtain⟨r,n⟩:=c
 cases r with
 | some r=>rfl
 | none =>
  dsimp only
  split
  .rfl
  .split
   .congr 1
    funext x
    cases x with
    | none=>rfl
    | some z =>
     dsimp only
     split
     .rfl
     .congr 1;funext _;congr 1;funext _;congr 1;funext d
      obtain⟨r2,n2,q2⟩:=d
      cases r2 with
      | some r2=>rfl
      | none =>
       dsimp only
       split
       .congr 1;funext _;congr 1;funext _;congr 1;funext e
        obtain⟨r3,n3⟩:=e
        cases r3 <;> rfl
       .congr 1;funext _;congr 1;funext e
        obtain⟨r3,n3⟩:=e
        cases r3 <;> rfl
   .congr 1;funext _;congr 1;funext d
    obtain⟨r2,n2,q2⟩:=d
    cases r2 with
    | some r2=>rfl
    | none =>
     dsimp only
     split
     .congr 1;funext _;congr 1;funext _;congr 1;funext e
      obtain⟨r3,n3⟩:=e
      cases r3 <;> rfl
     .congr 1;funext _;congr 1;funext e
      obtain⟨r3,n3⟩:=e
      cases r3 <;> rfl
structure SL (k:SortKind) (a₀ X:KA) (lo:Nat) (p:Pd) (st:SortSt):Prop where
 pm:(arrOf st).Perm a₀
 kd:kindOf st=k
 fl:failedOf st=none
 pd:pendingOf st=p
 bl:∀ i,i < lo->(arrOf st)[i]?=X[i]?
def SO (κ:KeyKind)(xs:KA)(lo n:Nat):Prop:=∀ i j,i<=j->j < n->κ.kle (KK κ xs (lo+i)) (KK κ xs (lo+j))
def NO (κ:KeyKind)(xs:KA)(lo n:Nat):Prop:=∀ i j,i<=j->j < n->κ.kle (KK κ xs (lo+j)) (KK κ xs (lo+i))
section
variable {prog:Program}{w:World}{A:Around}{E:Value->Shared->Prop}{s:Shared}{st:SortSt}{κ:KeyKind}{k:SortKind}{a₀ X:KA}{lo:Nat}{p:Pd}
theorem SL.sz (S:SL k a₀ X lo p st):(arrOf st).size=a₀.size:=S.pm.size_eq
theorem SL.put (S:SL k a₀ X lo p st){ys:KA}(h:ys.Perm (arrOf st))(b:∀ i,i < lo->ys[i]?=(arrOf st)[i]?):SL k a₀ X lo p (setArr st ys):=⟨h.trans S.pm,S.kd,S.fl,S.pd,λi hi=>(b i hi).trans (S.bl i hi)⟩
theorem SL.mirror (S:SL k a₀ X lo p st){i j:Nat}(hi:lo<=i)(hj:j<=a₀.size):SL k a₀ X lo p (setArr st (mirror (arrOf st) i j ((j - i) / 2))) :=
 S.put (mirror_perm _ _ _ _) λq hq=>by rw[getElem?_mirror_all (by rw[S.sz];exact hj),u9 (by omega)]
theorem zeG {xs:KA}{i:Nat}{x:Keyed}(h:xs[i]?=some x):KK κ xs i=ky κ x:=by
 unfold KK
 rw[h]
 rfl
theorem YW {i j:Nat}{Q:Option Bool->SortSt->Prop}(L:LtE prog w A E s κ k (·∈a₀.toList))(S:SL k a₀ X lo p st)(hi:i < a₀.size)(hj:j < a₀.size)(q:Q (some (κ.blt (KK κ (arrOf st) i) (KK κ (arrOf st) j))) st):wpS (model prog w) A E s (ltAt' i j) Q st:=by
 have look:∀ {i},i < a₀.size->∃ x,(arrOf st)[i]?=some x/\x∈a₀.toList:=λ{i} hi=>by
  have hi':i < (arrOf st).size:=by rw[S.sz];exact hi
  exact⟨(arrOf st)[i],u23 _ i hi',(u0H.mp S.pm).mem_iff.mp (by simp)⟩
 obtain⟨x,e1,m1⟩:=look hi
 obtain⟨y,e2,m2⟩:=look hj
 rw[zeG e1,zeG e2]at q
 rw[ltAt'_eq]
 refine j7 (u28 ?_)
 show wpS _ _ _ _ (elem' (arrOf st) i>>=λx=>elem' (arrOf st) j>>=λy=>lt' x y) Q st
 rw[elem'_eq,elem'_eq,e1,e2]
 exact j7 (d5 (j7 (d5 (L _ _ _ _ S.kd m1 m2 q))))
theorem SO.up {xs:KA}{x:Nat}(h:SO κ xs lo x)(hx:1<=x)(e:κ.kle (KK κ xs (lo+x - 1)) (KK κ xs (lo+x))):SO κ xs lo (x+1):=λi j hij hj=>by
 by_cases c:j < x
 .exact h i j hij c
 .obtain rfl:j=x:=by omega
  by_cases d:i=j
  .rw[d];exact u1d _
  .have:=h i (j - 1) (by omega) (by omega)
   rw[show lo+(j - 1)=lo+j - 1 by omega]at this
   exact u1V this e
theorem NO.down {xs:KA}{x:Nat}(h:NO κ xs lo x)(hx:1<=x)(e:κ.kle (KK κ xs (lo+x)) (KK κ xs (lo+x - 1))):NO κ xs lo (x+1):=λi j hij hj=>by
 by_cases c:j < x
 .exact h i j hij c
 .obtain rfl:j=x:=by omega
  by_cases d:i=j
  .rw[d];exact u1d _
  .have:=h i (j - 1) (by omega) (by omega)
   rw[show lo+(j - 1)=lo+j - 1 by omega]at this
   exact u1V e this
theorem SO.one {xs:KA}:SO κ xs lo 1:=λi j hij hj=>by
 obtain rfl:i=j:=by omega
 exact u1d _
theorem NO.one {xs:KA}:NO κ xs lo 1:=λi j hij hj=>by
 obtain rfl:i=j:=by omega
 exact u1d _
theorem NO.of {xs ys:KA}{n:Nat}(h:NO κ xs lo n)(e:∀ i,KK κ ys i=KK κ xs i):NO κ ys lo n:=λi j hij hj=>by rw[e,e];exact h i j hij hj
theorem NO.turn {xs:KA}{n:Nat}(h:NO κ xs lo n)(hn:lo+n<=xs.size):SO κ (mirror xs lo (lo+n) ((lo+n - lo) / 2)) lo n:=λi j hij hj=>by
 rw[KK_mirror hn,KK_mirror hn,u8 ⟨by omega,by omega⟩,u8 ⟨by omega,by omega⟩]
 have:=h (n - 1 - j) (n - 1 - i) (by omega) (by omega)
 rw[show lo+(n - 1 - i)=lo+(lo+n) - 1 - (lo+i) by omega,show lo+(n - 1 - j)=lo+(lo+n) - 1 - (lo+j) by omega]at this
 exact this
theorem zb9 {a n:Nat}{Q:AscSt->SortSt->Prop}(L:LtE prog w A E s κ k (·∈a₀.toList))(hn:lo+n<=a₀.size)(ha:1<=a)(han:a<=n)(S:SL k a₀ X lo p st)(hs:SO κ (arrOf st) lo a)
 (h:∀ m,a<=m->m<=n->SO κ (arrOf st) lo m->(m=n\/κ.klt (KK κ (arrOf st) (lo+m)) (KK κ (arrOf st) (lo+m - 1)))->Q (none,m) st):wpS (model prog w) A E s (zk8 lo a n) Q st:=by
 unfold zk8
 refine u0B (I:=λx c t=>(t=st/\c=(none,x))/\SO κ (arrOf st) lo x) (λx c t h1 h2 hI=>?_) (λc t hI=>?_) ⟨⟨rfl,rfl⟩,hs⟩
 .obtain⟨⟨rfl,rfl⟩,hx⟩:=hI
  refine j7 (YW L S (by omega) (by omega) ?_)
  dsimp only
  cases c:κ.blt (KK κ (arrOf t) (lo+x)) (KK κ (arrOf t) (lo+x - 1)) with
  | true=>exact d5 (h x h1 (by omega) hx (.inr c))
  | false=>exact d5 ⟨⟨rfl,rfl⟩,hx.up (by omega) c⟩
 .obtain⟨⟨rfl,rfl⟩,hx⟩:=hI
  have e:max a n=n:=by omega
  rw[e]at hx ⊢
  exact h n han (q5 _) hx (.inl rfl)
theorem zab {n m:Nat}{Q:Option Nat->SortSt->Prop}(L:LtE prog w A E s κ k (·∈a₀.toList))(hm:lo+m<=a₀.size)(h1:1<=n)(hnm:n<=m)(S:SL k a₀ X lo p st)(hs:NO κ (arrOf st) lo n)
 (h:∀ r t,SL k a₀ X lo p t->1<=r->r<=m->SO κ (arrOf t) lo r->Q (some r) t):wpS (model prog w) A E s (zfz lo n m) Q st:=by
 unfold zfz
 have S':=S.mirror (i:=lo) (j:=lo+n) (q5 _) (by omega)
 exact j7 (wpS_reverse (j7 (zb9 L hm h1 hnm S' (hs.turn (by rw[S.sz];omega)) λr g1 g2 g3 _=>d5 (h r _ S' (by omega) g2 g3))))
theorem zdU {n m:Nat}{Q:DescSt->SortSt->Prop}(L:LtE prog w A E s κ k (·∈a₀.toList))(hm:lo+m<=a₀.size)(h1:1<=n)(hnm:n<=m)(S:SL k a₀ X lo p st)(hs:NO κ (arrOf st) lo n)
 (h:∀ r q t,SL k a₀ X lo p t->n<=r->r<=m->NO κ (arrOf t) lo r->q+1<=r->(∀ i,lo+r - (q+1)<=i->i < lo+r->KK κ (arrOf t) i=KK κ (arrOf t) (lo+r - 1))->Q (none,r,q) t):wpS (model prog w) A E s (zgM lo n m) Q st:=by
 unfold zgM
 refine u0B (I:=λx c t=>∃ q,c=(none,x,q)/\SL k a₀ X lo p t/\NO κ (arrOf t) lo x/\q+1<=x/\∀ i,lo+x - (q+1)<=i->i < lo+x->KK κ (arrOf t) i=KK κ (arrOf t) (lo+x - 1))
  (λx c t g1 g2 hI=>?_) (λc t hI=>?_) ⟨0,rfl,S,hs,h1,λi c1 c2=>by rw[show i=lo+n - 1 by omega]⟩
 .obtain⟨q,rfl,S1,ni,hq,he⟩:=hI
  dsimp only
  refine j7 (YW L S1 (by omega) (by omega) ?_)
  dsimp only
  cases c:κ.blt (KK κ (arrOf t) (lo+x)) (KK κ (arrOf t) (lo+x - 1)) with
  | true =>
   have d:=ni.down (by omega) (u0j c)
   rw[u8 rfl]
   by_cases hq0:q > 0
   .rw[u8 hq0]
    exact j7 (wpS_reverse (d5 ⟨0,rfl,S1.mirror (by omega) (by omega),d.of (KK_mirror_equal (by rw[S1.sz];omega) he),by omega,λi c1 c2=>by rw[show i=lo+(x+1) - 1 by omega]⟩))
   .rw[u9 hq0]
    exact d5 ⟨0,rfl,S1,d,by omega,λi c1 c2=>by rw[show i=lo+(x+1) - 1 by omega]⟩
  | false =>
   rw[u9 u4]
   refine j7 (YW L S1 (by omega) (by omega) ?_)
   dsimp only
   cases c2:κ.blt (KK κ (arrOf t) (lo+x - 1)) (KK κ (arrOf t) (lo+x)) with
   | true=>exact d5 (h x q t S1 g1 (by omega) ni hq he)
   | false =>
    have same:KK κ (arrOf t) (lo+x)=KK κ (arrOf t) (lo+x - 1):=KeyOrd.kle_antisymm c2 c
    refine d5 ⟨q+1,rfl,S1,ni.down (by omega) c2,by omega,λi d1 d2=>?_⟩
    show KK κ (arrOf t) i=KK κ (arrOf t) (lo+x)
    by_cases di:i=lo+x
    .rw[di]
    .rw[same];exact he i (by omega) (by omega)
 .obtain⟨q,rfl,S1,ni,hq,he⟩:=hI
  have e:max n m=m:=by omega
  rw[e]at ni hq he ⊢
  exact h m q t S1 hnm (q5 _) ni hq he
theorem za8 {n m:Nat}{Q:Option Nat->SortSt->Prop}(L:LtE prog w A E s κ k (·∈a₀.toList))(hm:lo+m<=a₀.size)(hnm:n+1<=m)(S:SL k a₀ X lo p st)(hs:NO κ (arrOf st) lo (n+1))
 (h:∀ r t,SL k a₀ X lo p t->1<=r->r<=m->SO κ (arrOf t) lo r->Q (some r) t):wpS (model prog w) A E s (ze6 lo n m) Q st:=by
 unfold ze6
 refine j7 (u3l (u1A ⟨rfl,j7 (zdU L hm (by omega) hnm S hs λr q t S1 r1 r2 ni hq he=>?_)⟩))
 dsimp only
 by_cases hq0:q > 0
 .rw[u8 hq0]
  exact j7 (wpS_reverse (zab (n:=r) L hm (by omega) r2 (S1.mirror (by omega) (by omega)) (ni.of (KK_mirror_equal (by rw[S1.sz];omega) he)) h))
 .rw[u9 hq0]
  exact zab (n:=r) L hm (by omega) r2 S1 ni h
theorem zcT {m:Nat}{Q:Option Nat->SortSt->Prop}(L:LtE prog w A E s κ k (·∈a₀.toList))(hm:lo+m<=a₀.size)(h1:1<=m)(S:SL k a₀ X lo p st)
 (h:∀ r t,SL k a₀ X lo p t->1<=r->r<=m->SO κ (arrOf t) lo r->Q (some r) t):wpS (model prog w) A E s (countRun' lo m) Q st:=by
 rw[zeO]
 refine j7 (zb9 L hm (q5 1) h1 S SO.one λn n1 n2 sn or=>?_)
 dsimp only
 by_cases e:n=m
 .rw[u8 (by rw[e];exact u12 m)]
  exact d5 (h n st S n1 n2 sn)
 .rw[u9 (λz=>e (eq_of_beq z))]
  have lt:=or.resolve_left e
  by_cases g:n > 1
  .rw[u8 g]
   refine j7 (YW L S (by omega) (by omega) ?_)
   dsimp only
   cases c:κ.blt (KK κ (arrOf st) lo) (KK κ (arrOf st) (lo+n - 1)) with
   | true=>exact d5 (h n st S n1 n2 sn)
   | false =>
    have eq:∀ i,lo<=i->i < lo+n->KK κ (arrOf st) i=KK κ (arrOf st) (lo+n - 1):=λi hl hi=>by
     have z1:=sn (i - lo) (n - 1) (by omega) (by omega)
     have z2:=sn 0 (i - lo) (by omega) (by omega)
     rw[show lo+(i - lo)=i by omega,show lo+(n - 1)=lo+n - 1 by omega]at z1
     rw[show lo+(i - lo)=i by omega,Nat.add_zero]at z2
     exact KeyOrd.kle_antisymm z1 (u1V c z2)
    have ni:NO κ (arrOf st) lo n:=λi j _ hj=>by rw[eq (lo+i) (by omega) (by omega),eq (lo+j) (by omega) (by omega)];exact u1d _
    rw[u9 u4]
    exact j7 (wpS_reverse (za8 L hm (by omega) (S.mirror (q5 _) (by omega)) ((ni.down (by omega) (u0j lt)).of (KK_mirror_equal (by rw[S.sz];omega) eq)) h))
  .rw[u9 g]
   obtain rfl:n=1:=by omega
   exact za8 L hm (by omega) S (NO.one.down (q5 1) (u0j lt)) h
theorem SL.bubble (S:SL k a₀ X lo p st){x l:Nat}(hl:l<=x)(hx:lo+x < a₀.size):SL k a₀ X lo p (setArr st (bubble (arrOf st) (lo+x) (lo+x - (lo+l)))) :=
 S.put (bubble_perm _ _ _) λq hq=>by rw[getElem?_bubble (by rw[S.sz];exact hx) _ (by omega),u9 (by omega),u9 (by omega)]
theorem ziJ {xs:KA}{x l:Nat}(hz:lo+x < xs.size)(hl:l<=x)(sx:SO κ xs lo x)(low:∀ i,i < l->κ.kle (KK κ xs (lo+i)) (KK κ xs (lo+x)))(up:∀ i,l<=i->i < x->κ.klt (KK κ xs (lo+x)) (KK κ xs (lo+i))):SO κ (bubble xs (lo+x) (lo+x - (lo+l))) lo (x+1):=by
 have key:∀ i,i < x+1->KK κ (bubble xs (lo+x) (lo+x - (lo+l))) (lo+i)=if i=l then KK κ xs (lo+x)else if l < i then KK κ xs (lo+(i - 1))else KK κ xs (lo+i):=λi hi=>by
  rw[KK_bubble hz (by omega)]
  by_cases c:i=l
  .rw[u8 (by omega),u8 c]
  .rw[u9 (by omega),u9 c]
   by_cases c2:l < i
   .rw[u8 ⟨by omega,by omega⟩,u8 c2,show lo+i - 1=lo+(i - 1) by omega]
   .rw[u9 (by omega),u9 c2]
 intro i j hij hj
 rw[key i (by omega),key j hj]
 by_cases i1:i=l
 .rw[u8 i1]
  by_cases j1:j=l
  .rw[u8 j1];exact u1d _
  .rw[u9 j1,u8 (by omega)]
   exact u0j (up (j - 1) (by omega) (by omega))
 .rw[u9 i1]
  by_cases i2:l < i
  .rw[u8 i2,u9 (by omega),u8 (by omega)]
   exact sx (i - 1) (j - 1) (by omega) (by omega)
  .rw[u9 i2]
   by_cases j1:j=l
   .rw[u8 j1];exact low i (by omega)
   .rw[u9 j1]
    by_cases j2:l < j
    .rw[u8 j2];exact sx i (j - 1) (by omega) (by omega)
    .rw[u9 j2];exact sx i j hij (by omega)
theorem zhR {n r:Nat}{Q:Bool->SortSt->Prop}(L:LtE prog w A E s κ k (·∈a₀.toList))(hn:lo+n<=a₀.size)(hr:r<=n)(h1:1<=r)(S:SL k a₀ X lo p st)(hs:SO κ (arrOf st) lo r)
 (h:∀ t,SL k a₀ X lo p t->SO κ (arrOf t) lo n->Q true t):wpS (model prog w) A E s (binarySort' lo n r) Q st:=by
 rw[binarySort'_eq]
 rw[show max r 1=r by omega]
 refine j7 (u0I (u0B (I:=λx c t=>c=(none,())/\SL k a₀ X lo p t/\SO κ (arrOf t) lo x) (Q:=λc t=>c=(none,())/\SL k a₀ X lo p t/\SO κ (arrOf t) lo n)
  (λx c t g1 g2 hI=>?_) (λc t hI=>?_) ⟨rfl,S,hs⟩) λc t hI=>?_)
 .obtain⟨rfl,S1,sx⟩:=hI
  refine j7 (u0I (u0B
   (I:=λy c t'=>t'=t/\∃ l u,c=(none,l,u)/\(l<=u/\u<=x/\u - l<=x - y)/\(∀ i,i < l->κ.kle (KK κ (arrOf t) (lo+i)) (KK κ (arrOf t) (lo+x)))/\∀ i,u<=i->i < x->κ.klt (KK κ (arrOf t) (lo+x)) (KK κ (arrOf t) (lo+i)))
   (Q:=λc t'=>t'=t/\∃ l u,c=(none,l,u)/\l<=x/\(∀ i,i < l->κ.kle (KK κ (arrOf t) (lo+i)) (KK κ (arrOf t) (lo+x)))/\∀ i,l<=i->i < x->κ.klt (KK κ (arrOf t) (lo+x)) (KK κ (arrOf t) (lo+i)))
   (λy c t' y1 y2 hJ=>?_) (λc t' hJ=>?_) ⟨rfl,0,x,rfl,⟨u0g _,q5 _,q5 _⟩,λi hi=>absurd hi (u3A _),λi i1 i2=>absurd (h9 i1 i2) (u09 _)⟩) λc t' hJ=>?_)
  .obtain⟨rfl,l,u,rfl,⟨e1,e2,e3⟩,low,up⟩:=hJ
   dsimp only
   by_cases c1:l >= u
   .rw[u8 c1]
    obtain rfl:l=u:=by omega
    exact d5 ⟨rfl,l,l,rfl,e2,low,up⟩
   .rw[u9 c1]
    obtain⟨md,hmd⟩:∃ md,(l+u) / 2=md:=⟨_,rfl⟩
    rw[hmd]
    have m1:l<=md/\md < u:=by omega
    refine j7 (YW L S1 (by omega) (by omega) ?_)
    dsimp only
    cases c2:κ.blt (KK κ (arrOf t') (lo+x)) (KK κ (arrOf t') (lo+md)) with
    | true=>exact d5 ⟨rfl,l,md,rfl,⟨m1.1,by omega,by omega⟩,low,λi i1 i2=>KeyOrd.klt_of_klt_of_kle c2 (sx md i i1 i2)⟩
    | false=>exact d5 ⟨rfl,md+1,u,rfl,⟨by omega,e2,by omega⟩,λi i1=>u1V (sx i md (by omega) (by omega)) c2,up⟩
  .obtain⟨rfl,l,u,rfl,⟨e1,e2,e3⟩,low,up⟩:=hJ
   obtain rfl:l=u:=by omega
   exact⟨rfl,l,l,rfl,e2,low,up⟩
  .obtain⟨rfl,l,u,rfl,e2,low,up⟩:=hJ
   dsimp only
   rw[moveDown'_eq]
   exact j7 (u2J (d5 ⟨rfl,S1.bubble e2 (by omega),ziJ (by rw[S1.sz];omega) e2 sx low up⟩))
 .obtain⟨e1,S1,sx⟩:=hI
  rw[show max r n=n by omega]at sx
  exact⟨e1,S1,sx⟩
 .obtain⟨rfl,S1,sx⟩:=hI
  exact d5 (h t S1 sx)
end
abbrev U1:=Option Unit × Unit
abbrev U2:=Option Unit × Nat
def zlS (q:Nat)(_:U1):SM (ForInStep U1):=do
 let z<-get
 let some (_,_,o):=(if (pendingOf z).size > 1 then (pendingOf z)[(pendingOf z).size - 2]? else none) | pure (.done (none,()))
 if o<=q then pure (.done (none,()))else do
  let b<-mergeAt' ((pendingOf z).size - 2)
  if (!b)=true then pure (.done (some (),()))else pure (.yield (none,()))
def zaB (N lo n:Nat):SM (ForInStep U2):=do
 let z<-get
 let some (a,m,_):=(pendingOf z).back? | do
  modify λs=>setPending s ((pendingOf s).push (lo,n,0))
  pure (.yield (none,lo+n))
 let c<-forIn [0:N] ((none,()):U1) λ_ c=>zlS (power' N (2*a+m) (2*a+m+m+n) N) c
 match c.1 with
 | some r=>pure (.done (some r,lo))
 | none=>do
  modify λs=>setPending s ((pendingOf s).modify ((pendingOf s).size - 1) λx=>(x.1,x.2.1,power' N (2*a+m) (2*a+m+m+n) N))
  modify λs=>setPending s ((pendingOf s).push (lo,n,0))
  pure (.yield (none,lo+n))
def zl8 (N M:Nat)(c:U2):SM (ForInStep U2) :=
 if c.2 >= N then pure (.done (none,c.2))else do
  let some f<-countRun' c.2 (N - c.2) | pure (.done (some (),c.2))
  if f < M then do
   (rule ("list.sort.binary-insertion"))
   let b<-binarySort' c.2 (min (N - c.2) M) f
   if (!b)=true then pure (.done (some (),c.2))else zaB N c.2 (min (N - c.2) M)
  else zaB N c.2 f
def zmj (p:Pd):Nat:=if ((if p.size - 2 > 0 then p[p.size - 2 - 1]?.map (·.2.1)else none).any (· < (p[p.size - 2+1]?.elim 0 (·.2.1))))=true then p.size - 2 - 1 else p.size - 2
def zmz (_:U1):SM (ForInStep U1):=do
 let z<-get
 if (pendingOf z).size<=1 then pure (.done (none,()))else do
  let b<-mergeAt' (zmj (pendingOf z))
  if (!b)=true then pure (.done (some (),()))else pure (.yield (none,()))
theorem zjD:sortRuns'=(do
 let z<-get
 let c<-forIn [0:(arrOf z).size] ((none,0):U2) λ_ c=>zl8 (arrOf z).size (minRun' (arrOf z).size (arrOf z).size 0) c
 match c.1 with
 | some r=>pure r
 | none=>do
  let d<-forIn [0:(arrOf z).size] ((none,()):U1) λ_ d=>zmz d
  match d.1 with
  | some r=>pure r
  | none=>pure ()):=by
 rw[sortRuns'_eq]
 dsimp only[zl8,zaB,zlS,zmz,zmj]
 congr 1;funext z;congr 1
 .congr 1;funext _ c
  congr 1;congr 1;funext f
  cases f with
  | none=>rfl
  | some f =>
   dsimp only
   split
   .congr 1;funext _;congr 1;funext b
    congr 1;congr 1;funext y
    cases (pendingOf y).back? with
    | none=>rfl
    | some r =>
     dsimp only
     congr 1;funext d;obtain⟨r,d⟩:=d;cases r <;> rfl
   .congr 1;funext y
    cases (pendingOf y).back? with
    | none=>rfl
    | some r =>
     dsimp only
     congr 1;funext d;obtain⟨r,d⟩:=d;cases r <;> rfl
 .funext c;obtain⟨r,c⟩:=c
  cases r with
  | some r=>rfl
  | none =>
   dsimp only
   congr 1;funext d;obtain⟨r,d⟩:=d;cases r <;> rfl
def Z7 (κ:KeyKind)(l:List Keyed):Nat->List (Nat × Nat)->Nat->Prop
 | a,[],b=>a=b
 | a,r::p,b=>r.1=a/\0 < r.2/\((l.drop a).take r.2).Pairwise (LE κ)/\Z7 κ l (a+r.2) p b
section
variable {κ:KeyKind}{l l':List Keyed}
theorem Z7.le:∀ {p:List (Nat × Nat)} {a b:Nat},Z7 κ l a p b->a+p.length<=b
 | [],a,b,h=>by have:a=b:=h;rw[this];exact q5 _
 | r::p,a,b,h=>by have:=Z7.le h.2.2.2;have:=h.2.1;rw[e8];omega
theorem Z7.split:∀ {p q:List (Nat × Nat)} {a b:Nat},Z7 κ l a (p++q) b->∃ c,Z7 κ l a p c/\Z7 κ l c q b
 | [],q,a,b,h=>⟨a,rfl,h⟩
 | r::p,q,a,b,h=>by
  obtain⟨c,h1,h2⟩:=Z7.split (p:=p) h.2.2.2
  exact⟨c,⟨h.1,h.2.1,h.2.2.1,h1⟩,h2⟩
theorem Z7.join:∀ {p q:List (Nat × Nat)} {a b c:Nat},Z7 κ l a p c->Z7 κ l c q b->Z7 κ l a (p++q) b
 | [],q,a,b,c,h,h2=>by have:a=c:=h;rw[this];exact h2
 | r::p,q,a,b,c,h,h2=>⟨h.1,h.2.1,h.2.2.1,Z7.join h.2.2.2 h2⟩
theorem Z7.low:∀ {p:List (Nat × Nat)} {a b:Nat},Z7 κ l a p b->l'.take b=l.take b->Z7 κ l' a p b
 | [],a,b,h,_=>h
 | r::p,a,b,h,e=>by
  have hl:=h.2.2.2.le
  refine⟨h.1,h.2.1,?_,h.2.2.2.low e⟩
  have key:∀ m:List Keyed,(m.drop a).take r.2=((m.take b).drop a).take r.2:=λm=>by
   rw[u2w,u1z,u0M (by omega)]
  rw[key,e,<- key]
  exact h.2.2.1
theorem Z7.high:∀ {p:List (Nat × Nat)} {a b:Nat},Z7 κ l a p b->l'.drop a=l.drop a->Z7 κ l' a p b
 | [],a,b,h,_=>h
 | r::p,a,b,h,e=>by
  refine⟨h.1,h.2.1,by rw[e];exact h.2.2.1,h.2.2.2.high ?_⟩
  rw[<-u01,e,u01]
end
abbrev g2 (r:Nat × Nat × Nat):Nat × Nat:=(r.1,r.2.1)
structure ST (κ:KeyKind) (k:SortKind) (a₀:KA) (hi:Nat) (st:SortSt):Prop where
 pm:(arrOf st).Perm a₀
 kd:kindOf st=k
 fl:failedOf st=none
 sg:Z7 κ (arrOf st).toList 0 ((pendingOf st).toList.map g2) hi
section
variable {prog:Program}{w:World}{A:Around}{E:Value->Shared->Prop}{s:Shared}{st:SortSt}{κ:KeyKind}{k:SortKind}{a₀:KA}{hi:Nat}
theorem ST.sz (S:ST κ k a₀ hi st):(arrOf st).size=a₀.size:=S.pm.size_eq
theorem ST.mem (S:ST κ k a₀ hi st):∀ x∈(arrOf st).toList,x∈a₀.toList:=λx hx=>(u0H.mp S.pm).mem_iff.mp hx
theorem zfe {α:Type}{l:List α}{i:Nat}(h:i+1 < l.length):∃ P x y Q,l=P++x::y::Q/\P.length=i:=by
 refine⟨l.take i,l[i],l[i+1],l.drop (i+2),?_,by rw[b9];omega⟩
 have e1:l.drop i=l[i]::l[i+1]::l.drop (i+2):=by rw[u0p (by omega),u0p h]
 rw[<-e1,p7]
theorem zae {i:Nat}{Q:Bool->SortSt->Prop}(L:LtE prog w A E s κ k (·∈a₀.toList))(S:ST κ k a₀ hi st)(hi2:i+1 < (pendingOf st).size)(hle:hi<=a₀.size)
 (h:∀ t,ST κ k a₀ hi t->(pendingOf t).size+1=(pendingOf st).size->(arrOf t).toList.drop hi=(arrOf st).toList.drop hi->Q true t):wpS (model prog w) A E s (mergeAt' i) Q st:=by
 obtain⟨P,⟨a,m,p⟩,⟨b,n,x⟩,R,e,hP⟩:=zfe (l:=(pendingOf st).toList) (i:=i) (by rw[j5];exact hi2)
 have sg:=S.sg
 rw[e,i7,d8,d8]at sg
 obtain⟨c,s1,sa,m0,so1,sb,n0,so2,s2⟩:=sg.split
 have sa':a=c:=sa
 have sb':b=c+m:=sb
 subst sa' sb'
 dsimp only at m0 n0 so1 so2 s2
 have hl2:=s2.le
 have hz:(arrOf st).toList.length=a₀.size:=by rw[j5,S.sz]
 have p1:(pendingOf st)[i]?=some (a,m,p):=by
  rw[<-i9,e,u0e (by omega),hP,u2Z]
  rfl
 have p2:(pendingOf st)[i+1]?=some (a+m,n,x):=by
  rw[<-i9,e,u0e (by omega),hP,u08]
  rfl
 refine ziW L S.kd S.fl p1 p2 rfl S.mem rfl (by omega) m0 n0 rfl rfl so1 so2 λt M t1 t2 t3 t4 t5 t6=>?_
 have ep:(pendingOf t).toList=P++(a,m+n,p)::R:=by
  rw[t3,Array.toList_eraseIdxIfInBounds,u2T,e,List.set_append_right _ _ (by omega),hP,u2Z,u2h (by omega),hP,u08]
  rfl
 have lP:((arrOf st).toList.take a).length=a:=by rw[b9];omega
 have lM:M.length=m+n:=by rw[t5.length_eq,r9,b9,b9,e9,e9];omega
 have d1:(arrOf t).toList.take a=(arrOf st).toList.take a:=by rw[t4,g8,u2C (by omega),m6 (by omega)]
 have d2:(arrOf t).toList.drop (a+m+n)=(arrOf st).toList.drop (a+m+n):=by
  rw[t4,u1x (by rw[r9];omega),u2o (by rw[r9];omega),u2P]
 have d3:((arrOf t).toList.drop a).take (m+n)=M:=by
  rw[t4,g8,u1x (by omega),u2o (by omega),u2P,u2C (by omega),m6 (by omega)]
 refine h t ⟨?_,t1,t2,?_⟩ ?_ ?_
 .refine u0H.mpr (List.Perm.trans ?_ (u0H.mp S.pm))
  rw[t4]
  have q1:=YY (l:=(arrOf st).toList) (a:=a) (q5 m)
  rw[u1z,u2b]at q1
  have q2:=YY (l:=(arrOf st).toList) (a:=a+m) (q5 n)
  rw[u1z,u2b,q1]at q2
  have q3:=p7 (a+m+n) (arrOf st).toList
  rw[q2]at q3
  have q4:(arrOf st).toList.Perm (List.take a (arrOf st).toList++(List.take m (List.drop a (arrOf st).toList)++List.take n (List.drop (a+m) (arrOf st).toList))++List.drop (a+m+n) (arrOf st).toList):=by
   rw[<-g8,q3]
  exact((t5.append_left _).append_right _).trans q4.symm
 .rw[ep,i7,d8]
  refine(s1.low d1).join ⟨rfl,by show 0 < m+n;omega,by show(((arrOf t).toList.drop a).take (m+n)).Pairwise _;rw[d3];exact t6,?_⟩
  have:Z7 κ (arrOf t).toList (a+m+n) (R.map g2) hi:=s2.high d2
  show Z7 κ (arrOf t).toList (a+(m+n)) (R.map g2) hi
  rw[<-Nat.add_assoc]
  exact this
 .rw[<-j5,<- j5,ep,e]
  simp only[r9,e8]
  omega
 .rw[show hi=a+m+n+(hi - (a+m+n)) by omega,<- u01,d2,u01]
theorem zfm {xs:KA}{lo n:Nat}(h:SO κ xs lo n):((xs.toList.drop lo).take n).Pairwise (LE κ):=by
 rw[u0r]
 intro i j hi hj hij
 have hj2:j < n:=by rw[b9]at hj;omega
 have z:=h i j (by omega) hj2
 have e:∀ {q} (hq:q < ((xs.toList.drop lo).take n).length),KK κ xs (lo+q)=ky κ ((xs.toList.drop lo).take n)[q]:=λ{q} hq=>by
  refine zeG ?_
  have hq2:q < n:=by rw[b9]at hq;omega
  rw[<-i9,<- u1j,<- u0b hq2,u7 hq]
 rw[e hi,e hj]at z
 exact z
theorem ST.push (S:ST κ k a₀ hi st){n:Nat}(hn:0 < n)(h:(((arrOf st).toList.drop hi).take n).Pairwise (LE κ)):ST κ k a₀ (hi+n) (setPending st ((pendingOf st).push (hi,n,0))):=by
 refine⟨S.pm,S.kd,S.fl,?_⟩
 show Z7 κ (arrOf st).toList 0 (((pendingOf st).push (hi,n,0)).toList.map g2) (hi+n)
 rw[u1b,i7]
 exact S.sg.join ⟨rfl,hn,h,rfl⟩
theorem ziY {f:Nat × Nat × Nat->Nat × Nat × Nat}(hf:∀ r,g2 (f r)=g2 r)(p:Pd)(i:Nat):(p.modify i f).toList.map g2=p.toList.map g2:=by
 refine u1J λj=>?_
 rw[Array.toList_modify,j9,j9,List.getElem?_modify]
 cases p.toList[j]? with
 | none=>rfl
 | some r =>
  show Option.map g2 (some (if i=j then f r else r))=_
  split
  .exact u0W some (hf r)
  .rfl
theorem ST.mod (S:ST κ k a₀ hi st){f:Nat × Nat × Nat->Nat × Nat × Nat}(hf:∀ r,g2 (f r)=g2 r)(i:Nat):ST κ k a₀ hi (setPending st ((pendingOf st).modify i f)):=by
 refine⟨S.pm,S.kd,S.fl,?_⟩
 show Z7 κ (arrOf st).toList 0 (((pendingOf st).modify i f).toList.map g2) hi
 rw[ziY hf]
 exact S.sg
theorem WO {N n:Nat}(L:LtE prog w A E s κ k (·∈a₀.toList))(S:ST κ k a₀ hi st)(hn:0 < n)(hle:hi+n<=a₀.size)(so:(((arrOf st).toList.drop hi).take n).Pairwise (LE κ)) :
 wpS (model prog w) A E s (zaB N hi n) (λr t=>r=.yield (none,hi+n)/\ST κ k a₀ (hi+n) t) st:=by
 unfold zaB
 refine j7 (u28 ?_)
 cases e:(pendingOf st).back? with
 | none=>exact j7 (u2J (d5 ⟨rfl,S.push hn so⟩))
 | some r =>
  obtain⟨a,m,q⟩:=r
  dsimp only
  refine j7 (u0I (u0B (I:=λ_ c t=>c=(none,())/\ST κ k a₀ hi t/\(arrOf t).toList.drop hi=(arrOf st).toList.drop hi) (Q:=λc t=>c=(none,())/\ST κ k a₀ hi t/\(arrOf t).toList.drop hi=(arrOf st).toList.drop hi)
   (λx c t _ _ hI=>?_) (λc t hI=>hI) ⟨rfl,S,rfl⟩) λc t hI=>?_)
  .obtain⟨rfl,S1,d1⟩:=hI
   unfold zlS
   refine j7 (u28 ?_)
   by_cases c1:(pendingOf t).size > 1
   .rw[u8 c1]
    cases e2:(pendingOf t)[(pendingOf t).size - 2]? with
    | none=>exact d5 ⟨rfl,S1,d1⟩
    | some r =>
     obtain⟨r1,r2,o⟩:=r
     dsimp only
     split
     .exact d5 ⟨rfl,S1,d1⟩
     .refine j7 (zae L S1 (by omega) (by omega) λt2 S2 _ d2=>?_)
      exact d5 ⟨rfl,S2,d2.trans d1⟩
   .rw[u9 c1]
    exact d5 ⟨rfl,S1,d1⟩
  .obtain⟨rfl,S1,d1⟩:=hI
   dsimp only
   refine j7 (u2J (j7 (u2J (d5 ⟨rfl,?_⟩))))
   exact(S1.mod (f:=λx=>(x.1,x.2.1,power' N (2*a+m) (2*a+m+m+n) N)) (λ_=>rfl) ((pendingOf t).size - 1)).push hn (by show(((arrOf t).toList.drop hi).take n).Pairwise (LE κ);rw[d1];exact so)
theorem zgo {xs ys:KA}{lo:Nat}(h:∀ i,i < lo->ys[i]?=xs[i]?):ys.toList.take lo=xs.toList.take lo:=by
 refine u1J λi=>?_
 by_cases c:i < lo
 .rw[u0b c,u0b c,i9,i9]
  exact h i c
 .rw[u0m (by rw[b9];omega),u0m (by rw[b9];omega)]
theorem ST.sl (S:ST κ k a₀ hi st):SL k a₀ (arrOf st) hi (pendingOf st) st:=⟨S.pm,S.kd,S.fl,rfl,λ_ _=>rfl⟩
theorem ST.from (S:ST κ k a₀ hi st){t:SortSt}(T:SL k a₀ (arrOf st) hi (pendingOf st) t):ST κ k a₀ hi t:=⟨T.pm,T.kd,T.fl,by rw[T.pd];exact S.sg.low (zgo T.bl)⟩
theorem zhr {M:Nat}{c:U2}(L:LtE prog w A E s κ k (·∈a₀.toList))(S:ST κ k a₀ c.2 st)(hc:c.1=none)(hle:c.2<=a₀.size) :
 wpS (model prog w) A E s (zl8 a₀.size M c) (λr t=>(c.2=a₀.size/\r=.done (none,c.2)/\t=st)\/∃ n,0 < n/\c.2+n<=a₀.size/\r=.yield (none,c.2+n)/\ST κ k a₀ (c.2+n) t) st:=by
 unfold zl8
 by_cases c1:c.2 >= a₀.size
 .rw[u8 c1]
  exact d5 (.inl ⟨by omega,rfl,rfl⟩)
 .rw[u9 c1]
  refine j7 (zcT (m:=a₀.size - c.2) L (by omega) (by omega) S.sl λf t T f1 f2 so=>?_)
  dsimp only
  have S1:=S.from T
  by_cases c2:f < M
  .rw[u8 c2]
   refine j7 (u3l (u1A ⟨rfl,?_⟩))
   have hm:f<=min (a₀.size - c.2) M:=Nat.le_min.mpr ⟨f2,by omega⟩
   have hm2:min (a₀.size - c.2) M<=a₀.size - c.2:=Nat.min_le_left _ _
   refine j7 (zhR (n:=min (a₀.size - c.2) M) L (by omega) hm f1 S1.sl so λt2 T2 so2=>?_)
   exact u0I (WO L (S1.from T2) (by omega) (by omega) (zfm so2)) λr t3 h=>.inr ⟨_,by omega,by omega,h.1,h.2⟩
  .rw[u9 c2]
   exact u0I (WO L S1 (by omega) (by omega) (zfm so)) λr t3 h=>.inr ⟨f,by omega,by omega,h.1,h.2⟩
theorem ziE {p:Pd}(h:1 < p.size):zmj p+1 < p.size:=by
 have key:∀ b:Bool,(if b=true then p.size - 2 - 1 else p.size - 2)+1 < p.size:=λb=>by
  cases b with
  | true=>rw[u8 rfl];omega
  | false=>rw[u9 u4];omega
 exact key _
theorem own_runsE {Q:Unit->SortSt->Prop}(L:LtE prog w A E s κ k (·∈a₀.toList))(pm:(arrOf st).Perm a₀)(kd:kindOf st=k)(fl:failedOf st=none)(pd:pendingOf st=#[])
 (h:∀ t,(arrOf t).Perm a₀->failedOf t=none->SortedToK κ (arrOf t) a₀.size->Q () t):wpS (model prog w) A E s sortRuns' Q st:=by
 rw[zjD]
 refine j7 (u28 ?_)
 have hz:(arrOf st).size=a₀.size:=pm.size_eq
 rw[hz]
 have S0:ST κ k a₀ 0 st:=⟨pm,kd,fl,by rw[pd];exact rfl⟩
 refine j7 (u0I (u0B (I:=λx c t=>c.1=none/\ST κ k a₀ c.2 t/\c.2<=a₀.size/\(x<=c.2\/c.2=a₀.size)) (Q:=λc t=>c.1=none/\ST κ k a₀ a₀.size t)
  (λx c t _ hx hI=>?_) (λc t hI=>?_) ⟨rfl,S0,u0g _,.inl (q5 _)⟩) λc t hI=>?_)
 .obtain⟨h1,h2,h3,h4⟩:=hI
  refine u0I (zhr L h2 h1 h3) λr t2 hr=>?_
  rcases hr with ⟨e,rfl,rfl⟩ | ⟨n,n0,n1,rfl,S2⟩
  .exact⟨rfl,by rw[e]at h2;exact h2⟩
  .exact⟨rfl,S2,n1,by rcases h4 with h4 | h4 <;> (show x+1<=c.2+n\/c.2+n=a₀.size;omega)⟩
 .obtain⟨h1,h2,h3,h4⟩:=hI
  refine⟨h1,?_⟩
  have e:c.2=a₀.size:=by
   rcases h4 with h4 | h4
   .have:max 0 a₀.size=a₀.size:=by omega
    omega
   .exact h4
  rw[e]at h2
  exact h2
 .obtain⟨h1,S1⟩:=hI
  rw[h1]
  dsimp only
  have len:=S1.sg.le
  rw[u6,j5]at len
  refine j7 (u0I (u0B (I:=λx d t=>d=(none,())/\ST κ k a₀ a₀.size t/\(pendingOf t).size+x<=a₀.size) (Q:=λd t=>d=(none,())/\ST κ k a₀ a₀.size t/\(pendingOf t).size<=1)
   (λx d t _ hx hI=>?_) (λd t hI=>?_) ⟨rfl,S1,by omega⟩) λd t hI=>?_)
  .obtain⟨rfl,S2,h2⟩:=hI
   unfold zmz
   refine j7 (u28 ?_)
   by_cases c1:(pendingOf t).size<=1
   .rw[u8 c1]
    exact d5 ⟨rfl,S2,c1⟩
   .rw[u9 c1]
    refine j7 (zae L S2 (ziE (by omega)) (q5 _) λt2 S3 e3 _=>?_)
    exact d5 ⟨rfl,S3,by omega⟩
  .obtain⟨rfl,S2,h2⟩:=hI
   refine⟨rfl,S2,?_⟩
   have:max 0 a₀.size=a₀.size:=by omega
   omega
  .obtain⟨rfl,S2,h2⟩:=hI
   refine d5 (h t S2.pm S2.fl ?_)
   have sz:(arrOf t).toList.length=a₀.size:=by rw[j5,S2.sz]
   have so:(arrOf t).toList.Pairwise (LE κ):=by
    have sg:=S2.sg
    have hl:((pendingOf t).toList.map g2).length<=1:=by rw[u6,j5];exact h2
    match e:(pendingOf t).toList.map g2 with
    | [] =>
     rw[e]at sg
     have z:0=a₀.size:=sg
     have:(arrOf t).toList=[]:=u0U.mp (by omega)
     rw[this]
     exact List.Pairwise.nil
    | [r] =>
     rw[e]at sg
     obtain⟨_,_,s3,s4⟩:=sg
     have z:0+r.2=a₀.size:=s4
     rw[u1T,m6 (by omega)]at s3
     exact s3
    | r::r2::q=>rw[e]at hl;simp at hl
   intro i j hij hj
   obtain⟨y,hy⟩:∃ y,(arrOf t).toList[j]?=some y:=⟨_,u7 (by omega)⟩
   obtain⟨x,hx⟩:∃ x,(arrOf t).toList[i]?=some x:=⟨_,u7 (by omega)⟩
   rw[zeG (by rw[<-i9];exact hx),zeG (by rw[<-i9];exact hy)]
   exact Vr so hij hx hy
end
end OwnTim
namespace OwnSortT
open PySem PyProof.Rows OwnSort
theorem lex_irr:∀ a:List Int,HT.lexLt a a=false:=by
 intro a
 induction a with
 | nil=>rfl
 | cons x xs ih=>rw[HT.lexLt_cons,u8 rfl,ih]
theorem lex_trans:∀ a b c:List Int,HT.lexLt a b=true->HT.lexLt b c=true->HT.lexLt a c=true:=by
 intro a
 induction a with
 | nil =>
  intro b c h1 h2
  cases c with
  | nil=>cases b <;> cases h2
  | cons _ _=>rfl
 | cons x xs ih =>
  intro b c h1 h2
  cases b with
  | nil=>cases h1
  | cons y ys=>cases c with
   | nil=>cases h2
   | cons z zs =>
    rw[HT.lexLt_cons]at h1 h2 ⊢
    by_cases e1:x=y
    .rw[u8 e1]at h1
     by_cases e2:y=z
     .rw[u8 e2]at h2;rw[u8 (e1.trans e2)];exact ih _ _ h1 h2
     .rw[u9 e2,r8]at h2;rw[u9 (by omega),r8];omega
    .rw[u9 e1,r8]at h1
     by_cases e2:y=z
     .rw[u9 (by omega),r8];omega
     .rw[u9 e2,r8]at h2;rw[u9 (by omega),r8];omega
theorem lex_total:∀ a b:List Int,HT.lexLt a b=false->HT.lexLt b a=false->a=b:=by
 intro a
 induction a with
 | nil =>
  intro b h1 h2
  cases b with
  | nil=>rfl
  | cons _ _=>cases h1
 | cons x xs ih =>
  intro b h1 h2
  cases b with
  | nil=>cases h2
  | cons y ys =>
   rw[HT.lexLt_cons]at h1 h2
   by_cases e:x=y
   .rw[u8 e]at h1;rw[u8 e.symm]at h2;rw[e,ih _ h1 h2]
   .rw[u9 e,u0F]at h1;rw[u9 (u1Q e),u0F]at h2;omega
theorem lex_neg (a b c:List Int)(h:HT.lexLt a c=true):HT.lexLt a b=true\/HT.lexLt b c=true:=by
 cases h1:HT.lexLt a b with
 | true=>exact .inl rfl
 | false =>
  refine .inr ?_
  cases h2:HT.lexLt b a with
  | true=>exact lex_trans _ _ _ h2 h
  | false=>rw[<-lex_total _ _ h1 h2];exact h
def TT (h:Heap) (v:Value) (t:List Int):Prop:=∃ a o n its,v=.ref a/\h.get? a=some o/\o.cls=.type "tuple"/\o.data=.seq its.toArray n/\IntsAre its t/\t≠[]
theorem zfV:∀ {vs:List Value} {ns ms:List Int},IntsAre vs ns->IntsAre vs ms->ns=ms:=by
 intro vs ns ms h
 induction h generalizing ms with
 | nil=>intro h2;cases h2;rfl
 | cons n t h ih=>intro h2;cases h2 with | cons n' t' h'=>rw[ih h']
theorem TT.uniq {h:Heap}{v:Value}{s t:List Int}(x:TT h v s)(y:TT h v t):s=t:=by
 obtain⟨a,o,n,its,rfl,e1,_,d1,i1,_⟩:=x
 obtain⟨b,p,m,its',e,e2,_,d2,i2,_⟩:=y
 cases e
 rw[e1]at e2
 cases e2
 rw[d1]at d2
 have e3:its.toArray=its'.toArray:=by injection d2
 cases List.toArray_inj e3
 exact zfV i1 i2
theorem TT.keep {h h':Heap}{v:Value}{t:List Int}(x:TT h v t)(k:∀ b o,h.get? b=some o->h'.get? b=some o):TT h' v t:=by
 obtain⟨a,o,n,its,e,e1,r⟩:=x
 exact⟨a,o,n,its,e,k _ _ e1,r⟩
theorem TT.keepT {h h':Heap} {v:Value} {t:List Int} (x:TT h v t) (k:∀ b o,o.cls=.type "tuple"->h.get? b=some o->h'.get? b=some o):TT h' v t:=by
 obtain⟨a,o,n,its,e,e1,c,r⟩:=x
 exact⟨a,o,n,its,e,k _ _ c e1,c,r⟩
open Classical in
noncomputable def keyTT (h:Heap)(v:Value):Option (List Int):=if x:∃ t,TT h v t then some x.choose else none
theorem keyTT_of {h:Heap}{v:Value}{t:List Int}(x:TT h v t):keyTT h v=some t:=by
 unfold keyTT
 have y:∃ t,TT h v t:=⟨t,x⟩
 rw[dif_pos y,y.choose_spec.uniq x]
@[reducible] noncomputable def ZV (h:Heap):KeyKind where
 α:=List Int
 blt:=HT.lexLt
 irrefl:=lex_irr
 trans:=lex_trans
 negTrans:=lex_neg
 total:=lex_total
 keyOf:=keyTT h
 dflt:=[]
section
variable {prog:Program}{w:World}{A:Around}{E:Value->Shared->Prop}{s:Shared}
def zjX (d:Bool):List Int->List Int->Bool
 | x::xs,y::ys=>if x=y then zjX d xs ys else decide (x < y)
 | _,_=>d
theorem zjv:∀ a b:List Int,zjX (decide (a.length < b.length)) a b=HT.lexLt a b:=by
 intro a
 induction a with
 | nil=>intro b;cases b with
  | nil=>rfl
  | cons _ _=>rfl
 | cons x xs ih=>intro b;cases b with
  | nil=>rfl
  | cons y ys =>
   rw[HT.lexLt_cons,<- ih ys]
   show(if x=y then zjX (decide (xs.length+1 < ys.length+1)) xs ys else decide (x < y))=_
   rw[show decide (xs.length+1 < ys.length+1)=decide (xs.length < ys.length) by congr 1;apply propext;omega]
def zf2 (x:(Value × Value) × Nat)(_:Option Bool × Unit):Sem (ForInStep (Option Bool × Unit)):=do
 let b<-eqBool x.1.1 x.1.2
 if (!b)=true then do
  let c<-oneLt' (true&&x.2 == 0) x.1.1 x.1.2
  pure (ForInStep.done (some c,()))
 else pure (ForInStep.yield (none,()))
theorem zg5 {d:Bool}:∀ {xs:List Value} {ns:List Int} {ys:List Value} {ms:List Int} {k:Nat} {Q:Option Bool × Unit->Shared->Prop},IntsAre xs ns->IntsAre ys ms->(∀ r:Option Bool × Unit,r.1.getD d=zjX d ns ms->Q r s) ->
 wpAny (model prog w) A (forIn ((xs.zip ys).zipIdx k) ((none,()):Option Bool × Unit) zf2) Q E s:=by
 intro xs ns ys ms k Q h1
 induction h1 generalizing ys ms k with
 | nil=>intro h2 q;exact j3 (q (none,()) rfl)
 | cons x t h1 ih =>
  intro h2 q
  cases h2 with
  | nil=>exact j3 (q (none,()) rfl)
  | cons y u h2 =>
   rw[u2X,List.zipIdx_cons,u3x]
   refine u3 (u3 (u20 x t y u prog w E _ ?_))
   by_cases c:x=y
   .rw[show(x == y)=true by rw[c];exact u12 _]
    refine j3 (ih h2 λr hr=>q r (hr.trans ?_))
    show _=(if x=y then zjX d _ _ else decide (x < y))
    rw[u8 c]
   .rw[show(x == y)=false by simpa using c]
    have q0:Q (some (decide (x < y)),()) s:=q _ (by
     show decide (x < y)=(if x=y then zjX d _ _ else decide (x < y))
     rw[u9 c])
    cases k with
    | zero=>exact u3 (oneLt_int (j3 (j3 q0)))
    | succ k=>exact u3 (lt0 (j3 (j3 q0)))
theorem zdN {x y:Value}{a b:List Int}{Q:Bool->Shared->Prop}(hx:TT s.heap x a)(hy:TT s.heap y b)(h:Q (HT.lexLt a b) s):wpAny (model prog w) A (keyLt' (tuples' true) x y) Q E s:=by
 obtain⟨p,o,n,xs,rfl,e1,_,d1,i1,_⟩:=hx
 obtain⟨q,o2,n2,ys,rfl,e2,_,d2,i2,_⟩:=hy
 rw[zfT]
 refine u3 (u2y e1 d1 (u3 (u2y e2 d2 ?_)))
 show wpAny _ _ (forIn ((xs.zip ys).zipIdx 0) ((none,()):Option Bool × Unit) zf2>>=_) _ _ _
 refine u3 (zg5 (d:=decide (xs.length < ys.length)) i1 i2 λr hr=>?_)
 have e:Q (r.1.getD (decide (xs.length < ys.length))) s:=by
  rw[hr,i1.length,i2.length,zjv];exact h
 obtain⟨r1,u⟩:=r
 cases r1 with
 | none=>exact j3 e
 | some v=>exact j3 e
theorem zgl {vs:List Value}(hT:∀ v∈vs,∃ t,TT s.heap v t):OwnTim.LtE prog w A E s (ZV s.heap) (tuples' true) (·∈(pairsOf vs).toList):=by
 intro st x y Q hk hx hy h
 have look:∀ {x:Keyed},x∈(pairsOf vs).toList->∃ t,TT s.heap x.1 t/\OwnTim.ky (ZV s.heap) x=t:=λ{x} hm=>by
  rw[pairsOf_toList]at hm
  obtain⟨t,ht⟩:=hT _ (mem_zip_self hm).2
  refine⟨t,ht,?_⟩
  unfold OwnTim.ky
  show(keyTT s.heap x.1).getD _=t
  rw[keyTT_of ht]
  rfl
 obtain⟨a,ta,ka⟩:=look hx
 obtain⟨b,tb,kb⟩:=look hy
 rw[ka,kb]at h
 rw[lt'_eq]
 refine j7 (u28 ?_)
 rw[hk]
 exact j7 (u3l (u2n (zdN ta tb ⟨rfl,d5 h⟩)))
theorem WQ:∀ {vs:List Value} {Q:List (Option Value)->Shared->Prop},(∀ v∈vs,∃ t,TT s.heap v t)->(∀ fs:List Value,fs.length=vs.length->(∀ f∈fs,∃ i t,f=.int i t)->Q (fs.map some) s)->wpAny (model prog w) A (vs.mapM firstOfTuple') Q E s
 | [],Q,_,h=>by rw[List.mapM_nil];exact j3 (h [] rfl (by simp))
 | v::vs,Q,hT,h=>by
  obtain⟨t,a,o,n,its,rfl,e1,c1,d1,hi,hne⟩:=hT v m7
  obtain⟨z,zs,i0,tk,rfl,rfl⟩:∃ z zs i0 tk,its=z::zs/\z=.int i0 tk:=by
   cases hi with
   | nil=>exact absurd rfl hne
   | cons i0 tk hi=>exact⟨_,_,_,_,rfl,rfl⟩
  rw[List.mapM_cons,zdM]
  refine u3 (u3 (u24 (T:="tuple") ⟨o,e1,c1⟩ ?_))
  rw[u9 (by simp)]
  refine u3 (u2y e1 d1 (j3 (u3 (WQ (λu hu=>hT u (b8 _ hu)) λfs hl hf=>j3 ?_))))
  exact h (.int i0 tk::fs) (by simp[hl]) λf hf'=>by
   rcases d7.mp hf' with rfl | hf'
   .exact⟨_,_,rfl⟩
   .exact hf f hf'
theorem zaq {v₁:Value}{vs:List Value}{Q:SortKind->Shared->Prop}(hT:∀ v∈v₁::vs,∃ t,TT s.heap v t)(h:Q (tuples' true) s):wpAny (model prog w) A (keyKind' (v₁::vs).toArray) Q E s:=by
 rw[keyKind'_eq,List.mapM_toArray,<- bind_pure_comp,bind_assoc]
 refine u3 (WQ hT λfs hl hf=>u3 (j3 ?_))
 cases fs with
 | nil=>simp at hl
 | cons f fs =>
  rw[u8 (by simp)]
  have ef:((f::fs).map some).toArray.filterMap id=(f::fs).toArray:=by simp
  refine u3 (u1A ?_)
  rw[ef,oneTypeOnly'_eq,List.mapM_toArray,zb6 hf]
  simp only[map_pure,pure_bind]
  rw[show(List.map (λ_=>Value.type "int") (f::fs)).toArray[0]?=some (Value.type "int") by simp]
  have al:((List.map (λ_=>Value.type "int") (f::fs)).toArray.all λx=>x == Value.type "int")=true:=by
   simp only[List.all_toArray,u1E,u0C]
   intro _ _
   rfl
  simp only[al,u3j,pure_bind,Option.any_some]
  rw[show(Value.type "int" != Value.type "tuple")=true by decide +kernel]
  exact j3 h
end
def Rise (h:Heap)(out:List Value):Prop:=∃ ts:List (List Int),out.length=ts.length/\(∀ (i:Nat) (v:Value) (t:(List Int)),out[i]?=some v->ts[i]?=some t->TT h v t)/\ts.Pairwise λa b=>HT.lexLt b a=false
theorem zfU {h h':Heap}{vs:List Value}{xs:Array Keyed}(hT:∀ v∈vs,∃ t,TT h v t)(hk:∀ v t,TT h v t->TT h' v t)(pm:xs.Perm (pairsOf vs))(hs:SortedToK (ZV h') xs (pairsOf vs).size):(xs.map (·.2)).toList.Perm vs/\Rise h (xs.map (·.2)).toList:=by
 have hl:xs.toList.Perm (vs.zip vs):=by rw[<-pairsOf_toList];exact u0H.mp pm
 have hm:∀ p∈xs.toList,p.1=p.2/\p.1∈vs:=λp hp=>mem_zip_self (hl.mem_iff.mp hp)
 have e2:(xs.map (·.2)).toList=xs.toList.map (·.2):=by simp
 rw[e2]
 refine⟨?_,xs.toList.map λp=>(keyTT h' p.1).getD ([]:List Int),by simp,λi v t hv ht=>?_,?_⟩
 .have:=hl.map (·.2)
  rwa[show(vs.zip vs).map (·.2)=vs from List.map_snd_zip (q5 _)]at this
 .rw[j9]at hv ht
  cases hx:xs.toList[i]? with
  | none=>rw[hx]at hv;cases hv
  | some p =>
   rw[hx]at hv ht
   cases hv
   cases ht
   obtain⟨q1,q2⟩:=hm p (j6 hx)
   obtain⟨t,ht⟩:=hT _ q2
   show TT h p.2 ((keyTT h' p.1).getD ([]:List Int))
   rw[keyTT_of (hk _ _ ht),<- q1]
   exact ht
 .rw[u0r]
  intro i j hi hj hij
  have hi':i < xs.size:=by simpa using hi
  have hj':j < xs.size:=by simpa using hj
  have:=hs i j (u1u hij) (by rw[<-pm.size_eq];exact hj')
  unfold KK at this
  rw[u23 xs i hi',u23 xs j hj']at this
  have this:HT.lexLt ((keyTT h' xs[j].1).getD ([]:List Int)) ((keyTT h' xs[i].1).getD ([]:List Int))=false:=this
  simpa using this
section
variable {prog:Program}{w:World}{A:Around}{E:Value->Shared->Prop}{s:Shared}
theorem ownT_list_sort {a:Addr} {vs:List Value} {n:Nat} {P:Fin->Shared->Prop} (ho:s.heap.get? a=some (seqObj "list" vs.toArray n)) (hT:∀ v∈vs,∃ t,TT s.heap v t) (h64:vs.length < 10000000)
 (h:∀ out:Array Value,out.toList.Perm vs->Rise s.heap out.toList->P (.done (.ret .none)) { s with heap:=sortedHeap s.heap a vs out }):wpAny (model prog w) A (Builtin.«list.sort» ⟨[.ref a],[]⟩) P E s:=by
 have la:a < s.heap.objs.size:=r6 ho
 have zl:vs.toArray.size=vs.length:=j4
 obtain⟨e1,o1⟩:∃ e1,(s.heap.update a (Obj.mapSeq λ_=>#[])).get? a=some (seqObj "list" #[] e1):=⟨_,u2l ho (λ_=>#[])⟩
 have o6:(((s.heap.update a (Obj.mapSeq λ_=>#[])).push (seqObj "tuple" vs.toArray 0)).push (seqObj "list" #[] 0)).get? a=some (seqObj "list" #[] e1):=u5 _ (u5 _ o1)
 have up:∀ b o,o.cls=.type "tuple"->s.heap.get? b=some o->(((s.heap.update a (Obj.mapSeq λ_=>#[])).push (seqObj "tuple" vs.toArray 0)).push (seqObj "list" #[] 0)).get? b=some o:=λb o c e=>by
  refine u5 _ (u5 _ ((u0u _ _ λz=>?_).trans e))
  subst z
  rw[ho]at e
  cases e
  exact absurd (show Value.type "list"=Value.type "tuple" from c) (by decide +kernel)
 have hT6:∀ v∈vs,∃ t,TT (((s.heap.update a (Obj.mapSeq λ_=>#[])).push (seqObj "tuple" vs.toArray 0)).push (seqObj "list" #[] 0)) v t:=λv hv=>let ⟨t,ht⟩:=hT v hv;⟨t,ht.keepT up⟩
 rw[list_sort_plain]
 refine u3 (u2y ho rfl (u3 (u1M ho rfl (u3 (seqEpoch_at o1 rfl (u3 (wpAny_newTuple (u3 (u2I (u0X ?_))))))))))
 show wpAny (model prog w) A _ P E { s with heap:=((s.heap.update a (Obj.mapSeq λ_=>#[])).push (seqObj "tuple" vs.toArray 0)).push (seqObj "list" #[] 0) }
 by_cases c2:vs.toArray.size < 2
 .rw[u8 c2,u8 c2]
  refine u3 (j3 ?_)
  dsimp only
  rw[StateT.run_pure]
  refine u3 (j3 ?_)
  obtain⟨r1,r2⟩:=zfU (xs:=pairsOf vs) hT (λv t ht=>ht) (u2d _) (λi j hij hj=>by
   obtain rfl:i=j:=by rw[pairsOf_size]at hj;omega
   exact u1d _)
  refine u3 (seqEpoch_at o6 rfl (u3 (u1M o6 rfl ?_ (hsz2:=by rw[u3C];show(pairsOf vs).size<=_;rw[pairsOf_size,u1I];omega))))
  rw[show(e1 != e1)=false by simp]
  exact j3 (h _ r1 r2)
 .rw[u9 c2,u9 c2]
  cases vs with
  | nil=>simp at c2
  | cons v₁ rest =>
   refine u3 (zaq hT6 ?_)
   refine u3 (u0Z (OwnTim.own_runsE (st:=SortSt.mk' (tuples' true) ((v₁::rest).toArray.zip (v₁::rest).toArray) #[] 7 none) (Q:=λ_ t=>(arrOf t).Perm (pairsOf (v₁::rest))/\failedOf t=none/\SortedToK (ZV _) (arrOf t) (pairsOf (v₁::rest)).size)
    (zgl hT6) (u2d _) rfl rfl rfl λt p1 p2 p3=>⟨p1,p2,p3⟩) ?_ λ_ _ e=>e)
   rintro⟨⟨⟩,t⟩ s' ⟨rfl,p1,p2,p3⟩
   obtain⟨r1,r2⟩:=zfU hT (λv t ht=>ht.keepT up) p1 p3
   refine u3 (seqEpoch_at o6 rfl (u3 (u1M o6 rfl ?_ (hsz2:=by rw[u3C];show(arrOf t).size<=_;rw[p1.size_eq,pairsOf_size,u1I];omega))))
   rw[p2,show(e1 != e1)=false by simp]
   exact j3 (h _ r1 r2)
theorem ownT_sorted {l:Addr}{vs:List Value}{Q:Value->Shared->Prop}(hl:s.heap.IsList l vs.toArray)(hT:∀ v∈vs,∃ t,TT s.heap v t)(h64:vs.length < 10000000)
 (h:∀ out:Array Value,out.toList.Perm vs->Rise s.heap out.toList->Q (.ref (s.heap.objs.size+1)) { s with heap:=sortedAll s.heap vs out }):wpAny (model prog w) A (call (.builtin "sorted") [.ref l]) Q E s:=by
 have z1:((s.heap.push (seqObj "list" #[] 0)).update s.heap.objs.size (Obj.mapSeq (·++vs.toArray))).objs.size=s.heap.objs.size+1:=(Heap.size_update ..).trans (size_push' _ _)
 have oL:(((s.heap.push (seqObj "list" #[] 0)).update s.heap.objs.size (Obj.mapSeq (·++vs.toArray))).push (seqObj "list" vs.toArray 0)).get? (s.heap.objs.size+1)=some (seqObj "list" vs.toArray 0):=z1 ▸ j8 _ rfl
 have up:∀ b o,s.heap.get? b=some o->(((s.heap.push (seqObj "list" #[] 0)).update s.heap.objs.size (Obj.mapSeq (·++vs.toArray))).push (seqObj "list" vs.toArray 0)).get? b=some o:=λb o e =>
  u5 _ ((u0u _ _ λz=>by subst z;exact absurd (r6 e) (u09 _)).trans (u5 _ e))
 refine Calls.call_function_entry kind_sorted plain_sorted entry_sorted (args_sorted1 _) ?_
 unfold Builtin.«sorted»
 refine u3 (m:=checkCount "sorted" 1 1 _) (j3 (u3 (collect_list hl (u3 (u2I ?_)))))
 show wpAny _ _ _ _ _ (Shared.mk (((s.heap.push (seqObj "list" #[] 0)).update s.heap.objs.size (Obj.mapSeq (·++vs.toArray))).push (seqObj "list" vs.toArray 0)) s.gens s.drawn s.toks s.os)
 rw[z1]
 refine u3 (u0X (u0O slot_list_sort ⟨_,oL,rfl⟩ entry_list_sort (ownT_list_sort oL (λv hv=>let ⟨t,ht⟩:=hT v hv;⟨t,ht.keep up⟩) h64 λout p1 p2=>⟨_,rfl,j3 ⟨_,rfl,h out p1 ?_⟩⟩) (args_list_sort _)))
 obtain⟨ts,q1,q2,q3⟩:=p2
 refine⟨ts,q1,λi v t hv ht=>?_,q3⟩
 obtain⟨t0,ht0⟩:=hT v (p1.mem_iff.mp (j6 hv))
 rw[(q2 i v t hv ht).uniq (ht0.keep up)]
 exact ht0
end
end OwnSortT
namespace OwnSort
open PySem PyProof.Rows
def Rise (h:Heap)(out:List Value):Prop:=∃ ts:List Pr,out.length=ts.length/\(∀ (i:Nat) (v:Value) (t:Pr),out[i]?=some v->ts[i]?=some t->TP h v t)/\ts.Pairwise λa b=>bltP b a=false
theorem TP.tt {h:Heap}{v:Value}{t:Pr}(x:TP h v t):OwnSortT.TT h v [t.1,t.2]:=by
 obtain⟨a,o,n,tx,ty,e1,e2,e3,e4⟩:=x
 exact⟨a,o,n,[.int t.1 tx,.int t.2 ty],e1,e2,e3,e4,.cons _ _ (.cons _ _ .nil),List.cons_ne_nil _ _⟩
theorem zgn (a b:Pr):HT.lexLt [a.1,a.2] [b.1,b.2]=bltP a b:=by
 rw[HT.lexLt_cons,HT.lexLt_cons]
 unfold bltP
 by_cases c:a.1=b.1
 .rw[u8 c]
  by_cases c2:a.2=b.2
  .rw[u8 c2,p6 (by omega)];rfl
  .rw[u9 c2,decide_eq_decide];omega
 .rw[u9 c,decide_eq_decide];omega
theorem zfb {h:Heap}{vs out:List Value}(hT:∀ v∈vs,∃ t,TP h v t)(pm:out.Perm vs)(r:OwnSortT.Rise h out):Rise h out:=by
 obtain⟨ts,l1,l2,l3⟩:=r
 have key:∀ (i:Nat) (v:Value) (t:List Int),out[i]?=some v->ts[i]?=some t->∃ p:Pr,TP h v p/\t=[p.1,p.2]:=λi v t h1 h2=>by
  obtain⟨p,hp⟩:=hT v (pm.mem_iff.mp (j6 h1))
  exact⟨p,hp,OwnSortT.TT.uniq (l2 i v t h1 h2) hp.tt⟩
 have ex:∀ t∈ts,∃ p:Pr,t=[p.1,p.2]:=λt ht=>by
  obtain⟨i,hi,rfl⟩:=p8 ht
  obtain⟨p,_,e⟩:=key i out[i] ts[i] (u7 (by omega)) (u7 hi)
  exact⟨p,e⟩
 refine⟨ts.map λt=>(t.getD 0 0,t.getD 1 0),by rw[u6,l1],λi v t h1 h2=>?_,?_⟩
 .rw[j9]at h2
  obtain⟨u,hu,rfl⟩:=t8.mp h2
  obtain⟨p,hp,rfl⟩:=key i v u h1 hu
  exact hp
 .rw[u0S]
  refine l3.imp_of_mem λ{a b} ha hb hab=>?_
  obtain⟨p,rfl⟩:=ex a ha
  obtain⟨q,rfl⟩:=ex b hb
  rw[zgn]at hab
  exact hab
section
variable {prog:Program}{w:World}{A:Around}{E:Value->Shared->Prop}{s:Shared}
theorem own_sorted {l:Addr}{vs:List Value}{Q:Value->Shared->Prop}(hl:s.heap.IsList l vs.toArray)(hT:∀ v∈vs,∃ t,TP s.heap v t)(h64:vs.length < 64)
 (h:∀ out:Array Value,out.toList.Perm vs->Rise s.heap out.toList->Q (.ref (s.heap.objs.size+1)) { s with heap:=sortedAll s.heap vs out }):wpAny (model prog w) A (call (.builtin "sorted") [.ref l]) Q E s :=
 OwnSortT.ownT_sorted hl (λv hv=>(hT v hv).imp' (λt=>[t.1,t.2]) λ_ ht=>ht.tt) (by omega) λout p r=>h out p (zfb hT p r)
end
end OwnSort
namespace Dl
open PySem L2
class KK where
 K:W.Frag
inductive D where
 | non | bl (b:Bool) | int (i:Int) | str (x:Str) | tup (ds:List D) | lst (ds:List D) | scr (ns:List Int)
  | dct (z t:Bool) (ks:List (List Key)) (vs:List D)
 deriving Inhabited
section
variable [KK]
def zcJ (o:HO)(t:Bool)(ks:List (List Key))(xs:List V):Prop :=
 if t=true then ∃ kvs,o=.dT kvs/\kvs.map (·.1)=ks/\kvs.map (·.2)=xs else ∃ kvs:List (Key × V),o=.dK kvs/\kvs.map (λp=>[p.1])=ks/\kvs.map (·.2)=xs
def VQ (H:Hp)(a:Addr)(z t:Bool)(ks:List (List Key))(xs:List V):Prop :=
 ∃ u,zcJ u t ks xs/\if z=true then ∃ ob,H a=some (.frz ob u)else H a=some u
theorem VQ.mono {H H':Hp}{a:Addr}{z t:Bool}{ks:List (List Key)}{xs:List V}(s:yI H H')(h:VQ H a z t ks xs):VQ H' a z t ks xs:=by
 obtain⟨u,h1,h2⟩:=h
 refine⟨u,h1,?_⟩
 cases z with
 | true =>
  rw[u8 rfl]at h2 ⊢
  obtain⟨ob,h2⟩:=h2
  exact⟨ob,s _ _ h2⟩
 | false =>
  rw[u9 u4]at h2 ⊢
  exact s _ _ h2
theorem VQ.rd {H:Hp}{a:Addr}{z t:Bool}{ks:List (List Key)}{xs:List V}(h:VQ H a z t ks xs):∃ u,zcJ u t ks xs/\Rd H a u:=by
 obtain⟨u,h1,h2⟩:=h
 refine⟨u,h1,?_⟩
 cases z with
 | true =>
  rw[u8 rfl]at h2
  obtain⟨ob,h2⟩:=h2
  exact .inr ⟨ob,h2⟩
 | false =>
  rw[u9 u4]at h2
  exact .inl h2
mutual
def At (H:Hp):D->V->Prop
 | .non,v=>v=.non
 | .bl b,v=>v=.bl b
 | .int i,v=>v=.int i
 | .str x,v=>v=.str x
 | .tup ds,v=>∃ a xs,v=.ref a/\H a=some (.tup xs)/\AtL H ds xs
 | .lst ds,v=>∃ a xs,v=.ref a/\H a=some (.lst xs)/\AtL H ds xs
 | .scr ns,v=>∃ a,v=.ref a/\SqL KK.K H a (ns.map V.int)
 | .dct z t ks vs,v=>∃ a xs,v=.ref a/\VQ H a z t ks xs/\AtL H vs xs
def AtL (H:Hp):List D->List V->Prop
 | [],xs=>xs=[]
 | d::ds,xs=>∃ x r,xs=x::r/\At H d x/\AtL H ds r
end
mutual
theorem At.mono {H H':Hp}(s:yI H H'):∀ {d:D} {v:V},At H d v->At H' d v
 | .non,_,h=>by unfold At at h ⊢;exact h
 | .bl _,_,h=>by unfold At at h ⊢;exact h
 | .int _,_,h=>by unfold At at h ⊢;exact h
 | .str _,_,h=>by unfold At at h ⊢;exact h
 | .tup ds,_,h=>by
  unfold At at h ⊢
  obtain⟨a,xs,e,hx,hl⟩:=h
  exact⟨a,xs,e,s _ _ hx,AtL.mono s hl⟩
 | .lst ds,_,h=>by
  unfold At at h ⊢
  obtain⟨a,xs,e,hx,hl⟩:=h
  exact⟨a,xs,e,s _ _ hx,AtL.mono s hl⟩
 | .scr ns,_,h=>by
  unfold At at h ⊢
  obtain⟨a,e,hx⟩:=h
  exact⟨a,e,s.seq hx⟩
 | .dct z t ks vs,_,h=>by
  unfold At at h ⊢
  obtain⟨a,xs,e,hx,hl⟩:=h
  exact⟨a,xs,e,hx.mono s,AtL.mono s hl⟩
theorem AtL.mono {H H':Hp}(s:yI H H'):∀ {ds:List D} {xs:List V},AtL H ds xs->AtL H' ds xs
 | [],_,h=>by unfold AtL at h ⊢;exact h
 | d::ds,_,h=>by
  unfold AtL at h ⊢
  obtain⟨x,r,e,h1,h2⟩:=h
  exact⟨x,r,e,At.mono s h1,AtL.mono s h2⟩
end
mutual
def noL:D->Bool
 | .tup ds=>zlT ds
 | .lst _=>false
 | .scr _=>false
 | .dct _ _ _ _=>false
 | _=>true
def zlT:List D->Bool
 | []=>true
 | d::ds=>noL d&&zlT ds
end
mutual
theorem At.flat {G F:Hp}(h:∀ q xs,G q=some (.tup xs)->F q=some (.tup xs)):∀ {d:D} {v:V},noL d=true->At G d v->At F d v
 | .non,_,_,a=>by unfold At at a ⊢;exact a
 | .bl _,_,_,a=>by unfold At at a ⊢;exact a
 | .int _,_,_,a=>by unfold At at a ⊢;exact a
 | .str _,_,_,a=>by unfold At at a ⊢;exact a
 | .tup ds,_,n,a=>by
  unfold At at a ⊢
  unfold noL at n
  obtain⟨p,xs,e,hx,hl⟩:=a
  exact⟨p,xs,e,h _ _ hx,AtL.flat h n hl⟩
 | .lst ds,_,n,_=>by unfold noL at n;cases n
 | .scr ds,_,n,_=>by unfold noL at n;cases n
 | .dct _ _ _ _,_,n,_=>by unfold noL at n;cases n
theorem AtL.flat {G F:Hp}(h:∀ q xs,G q=some (.tup xs)->F q=some (.tup xs)):∀ {ds:List D} {xs:List V},zlT ds=true->AtL G ds xs->AtL F ds xs
 | [],_,_,a=>by unfold AtL at a ⊢;exact a
 | d::ds,_,n,a=>by
  unfold AtL at a ⊢
  unfold zlT at n
  rw[p4]at n
  obtain⟨x,r,e,h1,h2⟩:=a
  exact⟨x,r,e,At.flat h n.1 h1,AtL.flat h n.2 h2⟩
end
section
variable {H H':Hp}{d:D}{ds es:List D}{v x:V}{xs ys:List V}
theorem At.int {i:Int}:At H (.int i) (.int i):=by unfold At;rfl
theorem At.bl {b:Bool}:At H (.bl b) (.bl b):=by unfold At;rfl
theorem At.non:At H .non .non:=by unfold At;rfl
theorem At.str {y:Str}:At H (.str y) (.str y):=by unfold At;rfl
theorem At.tup {a:Addr}(h:H a=some (.tup xs))(hl:AtL H ds xs):At H (.tup ds) (.ref a):=by unfold At;exact⟨a,xs,rfl,h,hl⟩
theorem At.lst {a:Addr}(h:H a=some (.lst xs))(hl:AtL H ds xs):At H (.lst ds) (.ref a):=by unfold At;exact⟨a,xs,rfl,h,hl⟩
theorem AtL.nil:AtL H [] []:=by unfold AtL;rfl
theorem AtL.cons (h:At H d x)(hl:AtL H ds xs):AtL H (d::ds) (x::xs):=by unfold AtL;exact⟨x,xs,rfl,h,hl⟩
theorem At.int_inv {i:Int}(h:At H (.int i) v):v=.int i:=by unfold At at h;exact h
theorem At.bl_inv {b:Bool}(h:At H (.bl b) v):v=.bl b:=by unfold At at h;exact h
theorem At.non_inv (h:At H .non v):v=.non:=by unfold At at h;exact h
theorem At.str_inv {y:Str}(h:At H (.str y) v):v=.str y:=by unfold At at h;exact h
theorem At.tup_inv (h:At H (.tup ds) v):∃ a xs,v=.ref a/\H a=some (.tup xs)/\AtL H ds xs:=by unfold At at h;exact h
theorem At.lst_inv (h:At H (.lst ds) v):∃ a xs,v=.ref a/\H a=some (.lst xs)/\AtL H ds xs:=by unfold At at h;exact h
theorem At.scr_inv {ns:List Int}(h:At H (.scr ns) v):∃ a,v=.ref a/\SqL KK.K H a (ns.map V.int):=by unfold At at h;exact h
theorem At.dct_inv {z t:Bool}{ks:List (List Key)}{vs:List D}(h:At H (.dct z t ks vs) v):∃ a xs,v=.ref a/\VQ H a z t ks xs/\AtL H vs xs:=by unfold At at h;exact h
theorem AtL.nil_inv (h:AtL H [] xs):xs=[]:=by unfold AtL at h;exact h
theorem AtL.cons_inv (h:AtL H (d::ds) xs):∃ x r,xs=x::r/\At H d x/\AtL H ds r:=by unfold AtL at h;exact h
theorem AtL.length:∀ {ds:List D} {xs:List V},AtL H ds xs->xs.length=ds.length
 | [],_,h=>by rw[h.nil_inv];rfl
 | _::_,_,h=>by
  obtain⟨x,r,rfl,_,h2⟩:=h.cons_inv
  rw[e8,e8,AtL.length h2]
theorem AtL.get:∀ {ds:List D} {xs:List V} {i:Nat} {d:D},AtL H ds xs->ds[i]?=some d->∃ x,xs[i]?=some x/\At H d x
 | [],_,_,_,_,e=>by simp at e
 | _::_,_,i,_,h,e=>by
  obtain⟨x,r,rfl,h1,h2⟩:=h.cons_inv
  cases i with
  | zero =>
   simp at e
   subst e
   exact⟨x,rfl,h1⟩
  | succ i =>
   obtain⟨y,hy,ha⟩:=AtL.get (i:=i) h2 (by simpa using e)
   exact⟨y,by simpa using hy,ha⟩
theorem AtL.append:∀ {ds es:List D} {xs ys:List V},AtL H ds xs->AtL H es ys->AtL H (ds++es) (xs++ys)
 | [],_,_,_,h,k=>by rw[h.nil_inv];exact k
 | _::_,_,_,_,h,k=>by
  obtain⟨x,r,rfl,h1,h2⟩:=h.cons_inv
  exact .cons h1 (AtL.append h2 k)
theorem AtL.snoc (h:AtL H ds xs)(k:At H d v):AtL H (ds++[d]) (xs++[v]):=h.append (.cons k .nil)
theorem AtL.take:∀ (n:Nat) {ds:List D} {xs:List V},AtL H ds xs->AtL H (ds.take n) (xs.take n)
 | 0,_,_,_=>by simpa using AtL.nil
 | n+1,[],_,h=>by rw[h.nil_inv];simpa using AtL.nil
 | n+1,_::_,_,h=>by
  obtain⟨x,r,rfl,h1,h2⟩:=h.cons_inv
  rw[List.take_succ_cons,List.take_succ_cons]
  exact .cons h1 (AtL.take n h2)
theorem AtL.drop:∀ (n:Nat) {ds:List D} {xs:List V},AtL H ds xs->AtL H (ds.drop n) (xs.drop n)
 | 0,_,_,h=>h
 | n+1,[],_,h=>by rw[h.nil_inv];simpa using AtL.nil
 | n+1,_::_,_,h=>by
  obtain⟨x,r,rfl,h1,h2⟩:=h.cons_inv
  rw[List.drop_succ_cons,List.drop_succ_cons]
  exact AtL.drop n h2
theorem AtL.set:∀ (n:Nat) {ds:List D} {xs:List V},AtL H ds xs->At H d v->AtL H (ds.set n d) (xs.set n v)
 | _,[],_,h,_=>by rw[h.nil_inv];simpa using AtL.nil
 | 0,_::_,_,h,k=>by
  obtain⟨x,r,rfl,h1,h2⟩:=h.cons_inv
  exact .cons k h2
 | n+1,_::_,_,h,k=>by
  obtain⟨x,r,rfl,h1,h2⟩:=h.cons_inv
  exact .cons h1 (AtL.set n h2 k)
theorem AtL.reverse:∀ {ds:List D} {xs:List V},AtL H ds xs->AtL H ds.reverse xs.reverse
 | [],_,h=>by rw[h.nil_inv];exact .nil
 | _::_,_,h=>by
  obtain⟨x,r,rfl,h1,h2⟩:=h.cons_inv
  rw[List.reverse_cons,List.reverse_cons]
  exact(AtL.reverse h2).snoc h1
theorem AtL.rep (h:AtL H ds xs):∀ k:Nat,AtL H (List.replicate k ds).flatten (List.replicate k xs).flatten
 | 0=>.nil
 | k+1=>by
  rw[u0P,u0P,u1p,u1p]
  exact h.append (AtL.rep h k)
theorem AtL.ints (ns:List Int):AtL H (ns.map D.int) (ns.map V.int):=by
 induction ns with
 | nil=>exact .nil
 | cons n r ih=>exact .cons .int ih
theorem AtL.of_ints:∀ {ns:List Int} {xs:List V},AtL H (ns.map D.int) xs->xs=ns.map V.int
 | [],_,h=>h.nil_inv
 | n::r,_,h=>by
  obtain⟨x,r',rfl,h1,h2⟩:=AtL.cons_inv (by simpa using h)
  rw[h1.int_inv,AtL.of_ints h2]
  rfl
end
def tyN:D->String
 | .non=>"NoneType" | .bl _=>"bool" | .int _=>"int" | .str _=>"str" | .tup _=>"tuple" | .lst _=>"list" | .scr _=>"list" | .dct _ _ _ _=>"dict"
def Hid (F':Hp)(p:Addr)(o:HO):Prop:=F' p=none\/((∃ xs,o=.tup xs)/\F' p=some o)
def Keep (F H F' H':Hp):Prop:=∀ p o,F p=none->H p=some o->Hid F' p o/\H' p=some o
structure Gr (F H F' H':Hp):Prop where
 ff:yI F F'
 fh:yI F' H'
 kp:Keep F H F' H'
theorem Gr.refl {F H:Hp}(s:yI F H):Gr F H F H:=⟨yI.refl _,s,λ_ _ a b=>⟨.inl a,b⟩⟩
theorem Gr.trans {F H F1 H1 F2 H2:Hp}(a:Gr F H F1 H1)(b:Gr F1 H1 F2 H2):Gr F H F2 H2 :=
 ⟨a.ff.trans b.ff,b.fh,λp o e1 e2=>by
  obtain⟨x,y⟩:=a.kp p o e1 e2
  rcases x with x | ⟨x1,x2⟩
  .exact b.kp p o x y
  .exact⟨.inr ⟨x1,b.ff _ _ x2⟩,b.fh _ _ (b.ff _ _ x2)⟩⟩
theorem Gr.kl {F H F' H':Hp}{p:Addr}{o:HO}(g:Gr F H F' H')(n:∀ xs,o≠.tup xs)(e1:F p=none)(e2:H p=some o):F' p=none/\H' p=some o:=by
 obtain⟨x,y⟩:=g.kp p o e1 e2
 rcases x with x | ⟨⟨xs,x1⟩,_⟩
 .exact⟨x,y⟩
 .exact absurd x1 (n xs)
theorem Gr.alloc {F H:Hp}{p:Addr}(s:yI F H)(h:H p=none)(o:HO):Gr F H (upd F p o) (upd H p o):=by
 have hF:F p=none:=s.free h
 refine⟨λb u q=>?_,λb u q=>?_,λb u q r=>?_⟩
 .rw[zo (zm q hF)];exact q
 .by_cases e:b=p
  .subst e;rw[zp]at q ⊢;exact q
  .rw[zo e]at q ⊢;exact s b u q
 .have e:b≠p:=zm r h
  rw[zo e];exact⟨.inl (by rw[zo e];exact q),r⟩
theorem Gr.hide {F H:Hp}{p:Addr}(s:yI F H)(h:H p=none)(o:HO):Gr F H F (upd H p o):=by
 refine⟨yI.refl _,λb u q=>?_,λb u q r=>?_⟩
 .rw[zo (zm (s b u q) h)];exact s b u q
 .have e:b≠p:=zm r h
  rw[zo e];exact⟨.inl q,r⟩
theorem Gr.show {F H:Hp}{p:Addr}{o:HO}{F0 H0:Hp}(g:Gr F0 H0 F H)(h0:H0 p=none)(hF:F p=none)(h:H p=some o):Gr F0 H0 (upd F p o) H:=by
 refine⟨λb u q=>?_,λb u q=>?_,λb u q r=>?_⟩
 .have:=g.ff b u q
  rw[zo (zm this hF)];exact this
 .by_cases e:b=p
  .subst e;rw[zp]at q;rw[<-q];exact h
  .rw[zo e]at q;exact g.fh b u q
 .have e:b≠p:=zm r h0
  obtain⟨x,y⟩:=g.kp b u q r
  refine⟨?_,y⟩
  unfold Hid
  rw[zo e]
  exact x
abbrev Ev:=List (Option D)
def VAt (F:Hp)(ρ:Ev)(σ:St):Prop:=∀ (i:Nat) (d:D),ρ[i]?=some (some d)->∃ v,σ[i]?=some (some v)/\At F d v
theorem VAt.mono {F F':Hp}{ρ:Ev}{σ:St}(h:VAt F ρ σ)(s:yI F F'):VAt F' ρ σ:=λi d e=>let ⟨v,e1,a⟩:=h i d e;⟨v,e1,a.mono s⟩
def RE (t:TE)(f:Ev->Option D):Prop :=
 ∀ (σ:St) (ρ:Ev) (F H:Hp) (d:D) (Q:VK),yI F H->VAt F ρ σ->f ρ=some d->(∀ F' H' v,Gr F H F' H'->At F' d v->Q v H')->t σ H Q
def RT (t:TT)(f:Ev->Option Bool):Prop :=
 ∀ (σ:St) (ρ:Ev) (F H:Hp) (b:Bool) (Q:Bool->Hp->Prop),yI F H->VAt F ρ σ->f ρ=some b->(∀ F' H',Gr F H F' H'->Q b H')->t σ H Q
def RA (t:TA)(f:Ev->Option (List D)):Prop :=
 ∀ (σ:St) (ρ:Ev) (F H:Hp) (ds:List D) (Q:List V->Hp->Prop),yI F H->VAt F ρ σ->f ρ=some ds->(∀ F' H' vs,Gr F H F' H'->AtL F' ds vs->Q vs H')->t σ H Q
def RF (t:TE)(f:Ev->Option (List D)):Prop :=
 ∀ (σ:St) (ρ:Ev) (F H:Hp) (ds:List D) (Q:VK),yI F H->VAt F ρ σ->f ρ=some ds->(∀ F' H' p xs,Gr F H F' H'->H p=none->F' p=none->H' p=some (.lst xs)->AtL F' ds xs->Q (.ref p) H')->t σ H Q
def ED (X:Cx)(e:Expr)(f:Ev->Option D):Prop:=∃ t,PE X e t/\RE t f
def TD (X:Cx)(e:Expr)(f:Ev->Option Bool):Prop:=∃ t,PT X e t/\RT t f
def WD (X:Cx)(e:Expr)(f:Ev->Option Bool):Prop:=∃ t,PW X e t/\RT t f
def AD (X:Cx)(es:List Expr)(f:Ev->Option (List D)):Prop:=∃ t,PA X es t/\RA t f
def FL (X:Cx)(e:Expr)(f:Ev->Option (List D)):Prop:=∃ t,PE X e t/\RF t f
section
variable {X:Cx}{a b c:Expr}{pos:Pos}
def ww (f:Ev->Option (List D)):Ev->Option D:=fun ρ=>(f ρ).map .lst
theorem vM {f:Ev->Option (List D)}(h:FL X a f):ED X a (ww f):=by
 obtain⟨t,ht,r⟩:=h
 refine⟨t,ht,fun σ ρ F H d Q s va e q=>?_⟩
 obtain⟨ds,e1,rfl⟩:=t8.mp e
 refine r σ ρ F H ds Q s va e1 λF' H' p xs g h0 hF hH hx=>?_
 have g2:=g.show h0 hF hH
 exact q _ _ _ g2 (At.lst zp (hx.mono (λb u e=>by rw[zo (zm e hF)];exact e)))
def zc (i:Nat):Ev->Option D:=fun ρ=>(ρ[i]?).getD none
theorem zkH (i:Nat)(h:PE X a (zio i)):ED X a (zc i):=by
 refine⟨_,h,fun σ ρ F H d Q s va e q=>?_⟩
 have e':ρ[i]?=some (some d):=by
  unfold zc at e
  cases h:ρ[i]? with
  | none=>rw[h]at e;cases e
  | some x=>rw[h]at e;cases x with
   | none=>cases e
   | some y=>cases e;rfl
 obtain⟨v,e1,a1⟩:=va i d e'
 exact⟨v,e1,q _ _ _ (.refl s) a1⟩
def eC (d:D):Ev->Option D:=λ_=>some d
theorem zg {i:Int}(h:PE X a (tC (.int i))):ED X a (eC (.int i)):=⟨_,h,λ_ _ _ _ _ _ s _ e q=>by cases e;exact q _ _ _ (.refl s) .int⟩
theorem vU {i:Bool}(h:PE X a (tC (.bl i))):ED X a (eC (.bl i)):=⟨_,h,λ_ _ _ _ _ _ s _ e q=>by cases e;exact q _ _ _ (.refl s) .bl⟩
theorem zfj (h:PE X a (tC .non)):ED X a (eC .non):=⟨_,h,λ_ _ _ _ _ _ s _ e q=>by cases e;exact q _ _ _ (.refl s) .non⟩
def OpD (r:R2)(g:D->D->Option D):Prop :=
 ∀ (F H:Hp) (x y:V) (d e z:D) (Q:VK),yI F H->At F d x->At F e y->g d e=some z->(∀ F' H' v,Gr F H F' H'->At F' z v->Q v H')->r x y H Q
def zn (g:D->D->Option D)(f h:Ev->Option D):Ev->Option D:=fun ρ=>(f ρ).bind λx=>(h ρ).bind λy=>g x y
theorem zhi {r:R2}{g:D->D->Option D}{ta tb:TE}{f h:Ev->Option D}(hg:OpD r g)(ra:RE ta f)(rb:RE tb h):RE (tOp r ta tb) (zn g f h):=by
 intro σ ρ F H z Q s va e q
 obtain⟨x,e1,e⟩:=u0.mp e
 obtain⟨y,e2,e⟩:=u0.mp e
 refine ra σ ρ F H x _ s va e1 λF1 H1 v g1 a1=>?_
 refine rb σ ρ F1 H1 y _ g1.fh (va.mono g1.ff) e2 λF2 H2 u g2 a2=>?_
 exact hg F2 H2 v u x y z Q g2.fh (a1.mono g2.ff) a2 e λF3 H3 w g3 a3=>q F3 H3 w ((g1.trans g2).trans g3) a3
theorem zau {op:Operator}{r:R2}{g:D->D->Option D}{f h:Ev->Option D}(ho:OpR X (binaryOp op) r)(hg:OpD r g)(ha:ED X a f)(hb:ED X b h):ED X (.BinOp a op b pos) (zn g f h) :=
 let ⟨_,pa,ra⟩:=ha
 let ⟨_,pb,rb⟩:=hb
 ⟨_,zlJ ho pa pb,zhi hg ra rb⟩
theorem za5 {op:CmpOp}{r:R2}{g:D->D->Option D}{f h:Ev->Option D}(ho:OpR X (compareOp op) r)(hg:OpD r g)(hm:behindInMarks op b=false)(ha:ED X a f)(hb:ED X b h):ED X (.Compare a [op] [b] pos) (zn g f h) :=
 let ⟨_,pa,ra⟩:=ha
 let ⟨_,pb,rb⟩:=hb
 ⟨_,ziZ ho pa pb hm,zhi hg ra rb⟩
def asB:D->Option Bool
 | .bl b=>some b
 | _=>none
theorem Xm {d:D}{b:Bool}(h:asB d=some b):d=.bl b:=by
 cases d <;> first | (cases h;rfl) | cases h
def tOf (f:Ev->Option D):Ev->Option Bool:=fun ρ=>(f ρ).bind asB
theorem zlt {t:TE}{f:Ev->Option D}(r:RE t f):RT (zlK t) (tOf f):=by
 intro σ ρ F H b Q s va e q
 obtain⟨x,e1,e⟩:=u0.mp e
 cases Xm e
 exact r σ ρ F H _ _ s va e1 λF1 H1 v g1 a1=>⟨b,a1.bl_inv,q F1 H1 g1⟩
theorem zV {op:CmpOp}{r:R2}{g:D->D->Option D}{f h:Ev->Option D}(ho:OpR X (compareOp op) r)(hg:OpD r g)(hm:behindInMarks op b=false)(ha:ED X a f)(hb:ED X b h):TD X (.Compare a [op] [b] pos) (tOf (zn g f h)) :=
 let ⟨_,pa,ra⟩:=ha
 let ⟨_,pb,rb⟩:=hb
 ⟨_,zjo ho pa pb hm,zlt (zhi hg ra rb)⟩
theorem Yz {f:Ev->Option D}(ha:ED X a f)(he:∀ whole,isTrue a X.env whole=(do let v<-whole;standAt a.pos;holding [v] (truthy v)):=by intro _;rfl):TD X a (tOf f) :=
 let ⟨_,pa,ra⟩:=ha
 ⟨_,zlO pa he,zlt ra⟩
def v6 (f g:Ev->Option Bool):Ev->Option Bool:=fun ρ=>(f ρ).bind λc=>if c=true then g ρ else some false
def Wo (f g:Ev->Option Bool):Ev->Option Bool:=fun ρ=>(f ρ).bind λc=>if c=true then some true else g ρ
def xA (f:Ev->Option Bool):Ev->Option Bool:=fun ρ=>(f ρ).map (!·)
theorem zfi {f:Ev->Option Bool}(ha:TD X a f):WD X (.BoolOp .And [a] pos) f:=let ⟨_,pa,ra⟩:=ha;⟨_,zjy pa,ra⟩
theorem WH {f:Ev->Option Bool}(ha:TD X a f):WD X (.BoolOp .Or [a] pos) f:=let ⟨_,pa,ra⟩:=ha;⟨_,zkG pa,ra⟩
theorem zil {rest:List Expr}{f g:Ev->Option Bool}(ha:TD X a f)(hb:WD X (.BoolOp .And (b::rest) pos) g):WD X (.BoolOp .And (a::b::rest) pos) (v6 f g):=by
 obtain⟨ta,pa,ra⟩:=ha
 obtain⟨tb,pb,rb⟩:=hb
 refine⟨_,zkv pa pb,fun σ ρ F H z Q s va e q=>?_⟩
 obtain⟨x,e1,e⟩:=u0.mp e
 refine ra σ ρ F H x _ s va e1 λF1 H1 g1=>?_
 cases x with
 | true =>
  rw[u8 rfl]at e ⊢
  exact rb σ ρ F1 H1 z Q g1.fh (va.mono g1.ff) e λF2 H2 g2=>q F2 H2 (g1.trans g2)
 | false =>
  rw[u9 u4]at e ⊢
  cases e
  exact q F1 H1 g1
theorem zdx {rest:List Expr}{f g:Ev->Option Bool}(ha:TD X a f)(hb:WD X (.BoolOp .Or (b::rest) pos) g):WD X (.BoolOp .Or (a::b::rest) pos) (Wo f g):=by
 obtain⟨ta,pa,ra⟩:=ha
 obtain⟨tb,pb,rb⟩:=hb
 refine⟨_,zmG pa pb,fun σ ρ F H z Q s va e q=>?_⟩
 obtain⟨x,e1,e⟩:=u0.mp e
 refine ra σ ρ F H x _ s va e1 λF1 H1 g1=>?_
 cases x with
 | false =>
  rw[u9 u4]at e ⊢
  exact rb σ ρ F1 H1 z Q g1.fh (va.mono g1.ff) e λF2 H2 g2=>q F2 H2 (g1.trans g2)
 | true =>
  rw[u8 rfl]at e ⊢
  cases e
  exact q F1 H1 g1
theorem zh7 {f:Ev->Option Bool}(h:WD X a f):TD X a f:=let ⟨_,p,r⟩:=h;⟨_,p.pt,r⟩
theorem YB {f:Ev->Option Bool}(ha:TD X a f):TD X (.UnaryOp .Not a pos) (xA f):=by
 obtain⟨ta,pa,ra⟩:=ha
 refine⟨_,zll pa,fun σ ρ F H z Q s va e q=>?_⟩
 obtain⟨x,e1,rfl⟩:=t8.mp e
 exact ra σ ρ F H x _ s va e1 λF1 H1 g1=>q F1 H1 g1
def ZS (f g:Ev->Option D):Ev->Option D:=fun ρ=>((f ρ).bind asB).bind λc=>if c=true then g ρ else some (.bl false)
def eOr (f g:Ev->Option D):Ev->Option D:=fun ρ=>((f ρ).bind asB).bind λc=>if c=true then some (.bl true)else g ρ
def zbl (f:Ev->Option D):Ev->Option D:=fun ρ=>((f ρ).bind asB).map λc=>.bl (!c)
theorem X1 {op}{f:Ev->Option D}(ha:ED X a f):ED X (.BoolOp op [a] pos) f:=let ⟨_,pa,ra⟩:=ha;⟨_,zkR pa,ra⟩
theorem ZX {rest:List Expr}{f g:Ev->Option D}(ha:ED X a f)(hb:ED X (.BoolOp .And (b::rest) pos) g):ED X (.BoolOp .And (a::b::rest) pos) (ZS f g):=by
 obtain⟨ta,pa,ra⟩:=ha
 obtain⟨tb,pb,rb⟩:=hb
 refine⟨_,zkx pa pb,fun σ ρ F H z Q s va e q=>?_⟩
 obtain⟨x,e1,e⟩:=u0.mp e
 obtain⟨y,e1,e2⟩:=u0.mp e1
 cases Xm e2
 refine ra σ ρ F H _ _ s va e1 λF1 H1 v g1 a1=>⟨x,a1.bl_inv,?_⟩
 cases x with
 | true =>
  rw[u8 rfl]at e ⊢
  exact rb σ ρ F1 H1 z Q g1.fh (va.mono g1.ff) e λF2 H2 w g2 a2=>q F2 H2 w (g1.trans g2) a2
 | false =>
  rw[u9 u4]at e ⊢
  cases e
  exact q F1 H1 _ g1 .bl
theorem zkJ {f:Ev->Option D}(ha:ED X a f):ED X (.UnaryOp .Not a pos) (zbl f):=by
 obtain⟨ta,pa,ra⟩:=ha
 refine⟨_,zlr pa,fun σ ρ F H z Q s va e q=>?_⟩
 obtain⟨x,e1,rfl⟩:=t8.mp e
 obtain⟨y,e1,e2⟩:=u0.mp e1
 cases Xm e2
 exact ra σ ρ F H _ _ s va e1 λF1 H1 v g1 a1=>⟨x,a1.bl_inv,q F1 H1 _ g1 .bl⟩
def eIf (t:Ev->Option Bool)(f g:Ev->Option D):Ev->Option D:=fun ρ=>(t ρ).bind λc=>if c=true then f ρ else g ρ
theorem zj7 {t:Ev->Option Bool}{f g:Ev->Option D}(hc:TD X c t)(ha:ED X a f)(hb:ED X b g):ED X (.IfExp c a b pos) (eIf t f g):=by
 obtain⟨tc,pc,rc⟩:=hc
 obtain⟨ta,pa,ra⟩:=ha
 obtain⟨tb,pb,rb⟩:=hb
 refine⟨_,zgk pc pa pb,fun σ ρ F H z Q s va e q=>?_⟩
 obtain⟨x,e1,e⟩:=u0.mp e
 refine rc σ ρ F H x _ s va e1 λF1 H1 g1=>?_
 cases x with
 | true =>
  rw[u8 rfl]at e ⊢
  exact ra σ ρ F1 H1 z Q g1.fh (va.mono g1.ff) e λF2 H2 w g2 a2=>q F2 H2 w (g1.trans g2) a2
 | false =>
  rw[u9 u4]at e ⊢
  exact rb σ ρ F1 H1 z Q g1.fh (va.mono g1.ff) e λF2 H2 w g2 a2=>q F2 H2 w (g1.trans g2) a2
def eUn (g:D->Option D)(f:Ev->Option D):Ev->Option D:=fun ρ=>(f ρ).bind g
def zbf:D->Option D
 | .int i=>some (.int (-i))
 | _=>none
theorem zlm {f:Ev->Option D}(ha:ED X a f):ED X (.UnaryOp .USub a pos) (eUn zbf f):=by
 obtain⟨ta,pa,ra⟩:=ha
 refine⟨_,zmB zkI pa,fun σ ρ F H z Q s va e q=>?_⟩
 obtain⟨x,e1,e⟩:=u0.mp e
 cases x <;> try cases e
 exact ra σ ρ F H _ _ s va e1 λF1 H1 v g1 a1=>⟨_,a1.int_inv,q F1 H1 _ g1 .int⟩
def zr:Ev->Option (List D):=λ_=>some []
def zb (f:Ev->Option D)(g:Ev->Option (List D)):Ev->Option (List D):=fun ρ=>(f ρ).bind λd=>(g ρ).map (d::·)
theorem ze:AD X [] zr:=⟨_,zcw,λ_ _ _ _ _ _ s _ e q=>by cases e;exact q _ _ _ (.refl s) .nil⟩
theorem za {e:Expr}{es:List Expr}{f:Ev->Option D}{g:Ev->Option (List D)}(ha:ED X e f)(hr:AD X es g)(hs:starEach (e::es) X.env=(false,eval e X.env)::starEach es X.env:=by rfl):AD X (e::es) (zb f g):=by
 obtain⟨ta,pa,ra⟩:=ha
 obtain⟨tb,pb,rb⟩:=hr
 refine⟨_,Zz pa pb hs,fun σ ρ F H z Q s va e q=>?_⟩
 obtain⟨x,e1,e⟩:=u0.mp e
 obtain⟨ds,e2,rfl⟩:=t8.mp e
 refine ra σ ρ F H x _ s va e1 λF1 H1 v g1 a1=>?_
 exact rb σ ρ F1 H1 ds _ g1.fh (va.mono g1.ff) e2 λF2 H2 w g2 a2=>q F2 H2 _ (g1.trans g2) (.cons (a1.mono g2.ff) a2)
def lim (n:Nat):Bool:=decide (n<=sizeLine)
def ZZ (g:Ev->Option (List D)):Ev->Option D:=fun ρ=>(g ρ).bind λds=>if lim ds.length=true then some (.tup ds)else none
def yw (g:Ev->Option (List D)):Ev->Option (List D):=fun ρ=>(g ρ).bind λds=>if lim ds.length=true then some ds else none
theorem zak {es:List Expr}{x1}{g:Ev->Option (List D)}(h:AD X es g):ED X (.Tuple es x1 pos) (ZZ g):=by
 obtain⟨ta,pa,ra⟩:=h
 refine⟨_,zlj pa,fun σ ρ F H z Q s va e q=>?_⟩
 obtain⟨ds,e1,e⟩:=u0.mp e
 split at e <;> cases e
 rename_i hl
 refine ra σ ρ F H ds _ s va e1 λF1 H1 vs g1 a1=>⟨by rw[a1.length];exact b7 hl,λp hp=>?_⟩
 have g2:=Gr.alloc g1.fh hp (.tup vs)
 exact q _ _ _ (g1.trans g2) (.tup zp (a1.mono g2.ff))
theorem wC {es:List Expr}{g:Ev->Option (List D)}(h:AD X es g):FL X (.List es pos) (yw g):=by
 obtain⟨ta,pa,ra⟩:=h
 refine⟨_,zlL pa,fun σ ρ F H z Q s va e q=>?_⟩
 obtain⟨ds,e1,e⟩:=u0.mp e
 split at e <;> cases e
 rename_i hl
 refine ra σ ρ F H _ _ s va e1 λF1 H1 vs g1 a1=>⟨by rw[a1.length];exact b7 hl,λp hp=>?_⟩
 have g2:=Gr.hide g1.fh hp (.lst vs)
 have h0:H p=none:=by
  cases e:H p with
  | none=>rfl
  | some o =>
   cases e2:F p with
   | none=>rw[(g1.kp p o e2 e).2]at hp;cases hp
   | some u=>rw[g1.fh _ _ (g1.ff _ _ e2)]at hp;cases hp
 exact q _ _ _ _ (g1.trans g2) h0 (g1.fh.free hp) zp a1
end
end
end Dl
namespace Dl
open PySem L2
variable [KK]
inductive Sl where
 | no | v (d:D) | o (ds:List D) | m (t:Bool) (ks:List (List Key)) (vs:List D)
 deriving Inhabited
abbrev SE:=List Sl
def Sl.f:Sl->Option D
 | .v d=>some d
 | _=>none
def Sl.g:Sl->Option D
 | .v d=>some d
 | .o ds=>some (.lst ds)
 | .m t ks vs=>some (.dct false t ks vs)
 | .no=>none
def Sl.isO:Sl->Bool
 | .o _=>true
 | .m _ _ _=>true
 | _=>false
def visF (ρ:SE):Ev:=ρ.map Sl.f
def visG (ρ:SE):Ev:=ρ.map Sl.g
def zdi (F:Hp)(o:HO):Sl->Prop
 | .o ds=>∃ xs,o=.lst xs/\AtL F ds xs
 | .m t ks ds=>∃ xs,zcJ o t ks xs/\AtL F ds xs
 | _=>False
theorem zdi.mono {F F':Hp}{o:HO}{s:Sl}(h:zdi F o s)(k:yI F F'):zdi F' o s:=by
 cases s with
 | no=>exact h
 | v d=>exact h
 | o ds=>obtain⟨xs,e,a⟩:=h;exact⟨xs,e,a.mono k⟩
 | m t ks ds=>obtain⟨xs,e,a⟩:=h;exact⟨xs,e,a.mono k⟩
theorem zdi.isO {F:Hp}{o:HO}{s:Sl}(h:zdi F o s):s.isO=true:=by
 cases s with
 | no=>exact h.elim
 | v d=>exact h.elim
 | o ds=>rfl
 | m t ks ds=>rfl
theorem zdi.ntup {F:Hp}{o:HO}{s:Sl}(h:zdi F o s)(xs:List V):o≠.tup xs:=by
 cases s with
 | no=>exact h.elim
 | v d=>exact h.elim
 | o ds=>obtain⟨ys,rfl,_⟩:=h;intro e;cases e
 | m t ks ds =>
  obtain⟨ys,e,_⟩:=h
  unfold zcJ at e
  split at e
  .obtain⟨kvs,rfl,_⟩:=e;intro e;cases e
  .obtain⟨kvs,rfl,_⟩:=e;intro e;cases e
theorem zdi.at {F G:Hp}{o:HO}{s:Sl}{d:D}{p:Addr}(h:zdi F o s)(e:s.g=some d)(hp:G p=some o)(k:yI F G):At G d (.ref p):=by
 cases s with
 | no=>exact h.elim
 | v d=>exact h.elim
 | o ds =>
  cases e
  obtain⟨xs,rfl,a⟩:=h
  exact .lst hp (a.mono k)
 | m t ks ds =>
  cases e
  obtain⟨xs,e,a⟩:=h
  unfold At
  exact⟨p,xs,rfl,⟨o,e,hp⟩,a.mono k⟩
structure Rl (Fb Hb F H:Hp) (ρ:SE) (σ:St):Prop where
 gr:Gr Fb Hb F H
 vals:∀ (i:Nat) (d:D),ρ[i]?=some (.v d)->∃ v,σ[i]?=some (some v)/\At F d v
 ows:∀ (i:Nat) (s:Sl),ρ[i]?=some s->s.isO=true->∃ p o,σ[i]?=some (some (.ref p))/\Hb p=none/\F p=none/\H p=some o/\zdi F o s
 dis:∀ (i j:Nat) (p:Addr) (s t:Sl),ρ[i]?=some s->ρ[j]?=some t->s.isO=true->t.isO=true->σ[i]?=some (some (.ref p))->σ[j]?=some (some (.ref p))->i=j
 len:ρ.length=σ.length
section
variable {Fb Hb F H F' H':Hp}{ρ ρ':SE}{σ σ':St}
theorem Rl.owns (r:Rl Fb Hb F H ρ σ)(i:Nat)(ds:List D)(e:ρ[i]?=some (.o ds)):∃ p xs,σ[i]?=some (some (.ref p))/\Hb p=none/\F p=none/\H p=some (.lst xs)/\AtL F ds xs:=by
 obtain⟨p,o,e1,e2,e3,e4,xs,rfl,a⟩:=r.ows i _ e rfl
 exact⟨p,xs,e1,e2,e3,e4,a⟩
theorem Rl.grow (r:Rl Fb Hb F H ρ σ)(g:Gr F H F' H'):Rl Fb Hb F' H' ρ σ:=by
 refine⟨r.gr.trans g,λi d e=>?_,λi s e h=>?_,r.dis,r.len⟩
 .obtain⟨v,e1,a⟩:=r.vals i d e
  exact⟨v,e1,a.mono g.ff⟩
 .obtain⟨p,o,e1,e2,e3,e4,a⟩:=r.ows i s e h
  obtain⟨k1,k2⟩:=g.kl a.ntup e3 e4
  exact⟨p,o,e1,e2,k1,k2,a.mono g.ff⟩
theorem Rl.visF (r:Rl Fb Hb F H ρ σ):VAt F (visF ρ) σ:=λi d e=>by
 unfold Dl.visF at e
 rw[j9]at e
 cases h:ρ[i]? with
 | none=>rw[h]at e;cases e
 | some x =>
  rw[h]at e
  cases x with
  | no=>cases e
  | v d' =>
   cases e
   exact r.vals i d h
  | o ds=>cases e
  | m t ks ds=>cases e
def Own (ρ:SE)(σ:St)(p:Addr):Prop:=∃ (i:Nat) (s:Sl),ρ[i]?=some s/\s.isO=true/\σ[i]?=some (some (.ref p))
open Classical in
noncomputable def gOf (ρ:SE)(σ:St)(F H:Hp):Hp:=λp=>if Own ρ σ p then H p else F p
open Classical in
noncomputable def fOf (ρ:SE)(σ:St)(G:Hp):Hp:=λp=>if Own ρ σ p then none else G p
theorem Rl.own (r:Rl Fb Hb F H ρ σ){p:Addr}(h:Own ρ σ p):Hb p=none/\F p=none/\∃ o,H p=some o/\∀ xs,o≠.tup xs:=by
 obtain⟨i,s,e1,e2,e3⟩:=h
 obtain⟨q,o,e4,e5,e6,e7,a⟩:=r.ows i s e1 e2
 rw[e3]at e4
 cases e4
 exact⟨e5,e6,o,e7,a.ntup⟩
theorem Rl.notown (r:Rl Fb Hb F H ρ σ){q:Addr}(h:H q=none)(j:Nat)(s:Sl)(e1:ρ[j]?=some s)(e2:s.isO=true):σ[j]?≠some (some (.ref q)):=λe=>by
 obtain⟨p,o,f1,_,_,f4,_⟩:=r.ows j s e1 e2
 rw[e]at f1
 cases f1
 rw[h]at f4
 cases f4
theorem Rl.notbase (r:Rl Fb Hb F H ρ σ){q:Addr}(h:H q=none):Hb q=none:=by
 cases z:Hb q with
 | none=>rfl
 | some o =>
  cases z2:Fb q with
  | none=>rw[(r.gr.kp q o z2 z).2]at h;cases h
  | some u=>rw[r.gr.fh _ _ (r.gr.ff _ _ z2)]at h;cases h
theorem Rl.fg (r:Rl Fb Hb F H ρ σ):yI F (gOf ρ σ F H):=λp o e=>by
 unfold gOf
 split
 .exact r.gr.fh p o e
 .exact e
theorem Rl.gh (r:Rl Fb Hb F H ρ σ):yI (gOf ρ σ F H) H:=λp o e=>by
 unfold gOf at e
 split at e
 .exact e
 .exact r.gr.fh p o e
theorem Rl.visG (r:Rl Fb Hb F H ρ σ):VAt (gOf ρ σ F H) (visG ρ) σ:=λi d e=>by
 unfold Dl.visG at e
 rw[j9]at e
 cases h:ρ[i]? with
 | none=>rw[h]at e;cases e
 | some x =>
  rw[h]at e
  have e:x.g=some d:=u0f e
  have own:x.isO=true->∃ v,σ[i]?=some (some v)/\At (gOf ρ σ F H) d v:=λhx=>by
   obtain⟨p,o,e1,e2,e3,e4,a⟩:=r.ows i x h hx
   refine⟨_,e1,a.at e ?_ r.fg⟩
   unfold gOf
   rw[u8 ⟨i,x,h,hx,e1⟩]
   exact e4
  cases x with
  | no=>cases e
  | v d' =>
   cases e
   obtain⟨v,e1,a⟩:=r.vals i d h
   exact⟨v,e1,a.mono r.fg⟩
  | o ds=>exact own rfl
  | m t ks ds=>exact own rfl
theorem Rl.back {G':Hp}(r:Rl Fb Hb F H ρ σ)(g:Gr (gOf ρ σ F H) H G' H'):Gr F H (fOf ρ σ G') H'/\∀ q xs,G' q=some (.tup xs)->fOf ρ σ G' q=some (.tup xs):=by
 refine⟨⟨λp o e=>?_,λp o e=>?_,λp o e1 e2=>?_⟩,λq xs e=>?_⟩
 .unfold fOf
  rw[u9 (λh=>by rw[(r.own h).2.1]at e;cases e)]
  exact g.ff p o (r.fg p o e)
 .unfold fOf at e
  split at e
  .cases e
  .exact g.fh p o e
 .by_cases h:Own ρ σ p
  .refine⟨.inl (by unfold fOf;rw[u8 h]),g.fh p o (g.ff p o ?_)⟩
   unfold gOf
   rw[u8 h]
   exact e2
  .obtain⟨x,y⟩:=g.kp p o (by unfold gOf;rw[u9 h];exact e1) e2
   refine⟨?_,y⟩
   unfold Hid fOf
   rw[u9 h]
   exact x
 .unfold fOf
  rw[u9 (λh=>?_)]
  .exact e
  .obtain⟨_,_,o,e2,n⟩:=r.own h
   have:G' q=some o:=g.ff q _ (by unfold gOf;rw[u8 h];exact e2)
   rw[this]at e
   cases e
   exact n xs rfl
theorem Rl.out {G':Hp}(r:Rl Fb Hb F H ρ σ)(g:Gr (gOf ρ σ F H) H G' H'):Gr Fb Hb G' H':=by
 refine⟨λp o e=>g.ff p o (r.fg p o (r.gr.ff p o e)),g.fh,λp o e1 e2=>?_⟩
 obtain⟨k1,k2⟩:=r.gr.kp p o e1 e2
 have e3:gOf ρ σ F H p=F p:=by
  unfold gOf
  rw[u9 (λh=>by rw[(r.own h).1]at e2;cases e2)]
 rcases k1 with k1 | ⟨k1,k3⟩
 .exact g.kp p o (by rw[e3];exact k1) k2
 .have:=g.ff p o (by rw[e3];exact k3)
  exact⟨.inr ⟨k1,this⟩,g.fh _ _ this⟩
theorem Rl.set (r:Rl Fb Hb F H ρ σ){i:Nat}{d:D}{v:V}(a:At F d v):Rl Fb Hb F H (ρ.set i (.v d)) (σ.set i (some v)):=by
 have nj:∀ {j:Nat} {s:Sl},(ρ.set i (.v d))[j]?=some s->s.isO=true->i≠j:=λ{j s} h ho e=>by
  subst e
  rw[u0D]at h
  simp only[u3j]at h
  split at h <;> cases h
  cases ho
 refine⟨r.gr,λj e h=>?_,λj s h ho=>?_,λj k p s t h1 h2 o1 o2 h3 h4=>?_,by simp[r.len]⟩
 .by_cases hj:i=j
  .subst hj
   rw[u0D]at h
   simp only[u3j]at h
   split at h
   .rename_i hl
    cases h
    refine⟨v,?_,a⟩
    rw[u0D]
    simp[<-r.len,hl]
   .cases h
  .rw[n9 hj]at h ⊢
   exact r.vals j e h
 .have hj:=nj h ho
  rw[n9 hj]at h ⊢
  exact r.ows j s h ho
 .have a1:=nj h1 o1
  have a2:=nj h2 o2
  rw[n9 a1]at h1 h3
  rw[n9 a2]at h2 h4
  exact r.dis j k p s t h1 h2 o1 o2 h3 h4
theorem Rl.setW (r:Rl Fb Hb F H ρ σ){i:Nat}{w:Sl}{p:Addr}{o:HO}(h0:Hb p=none)(hF:F p=none)(hH:H p=some o)(a:zdi F o w)
 (nw:∀ (j:Nat) (s:Sl),ρ[j]?=some s->s.isO=true->σ[j]?≠some (some (.ref p))):Rl Fb Hb F H (ρ.set i w) (σ.set i (some (.ref p))):=by
 have at_i:∀ {s:Sl},(ρ.set i w)[i]?=some s->i < ρ.length/\s=w:=λ{s} h=>by
  rw[u0D]at h
  simp only[u3j]at h
  split at h
  .rename_i hl
   cases h
   exact⟨hl,rfl⟩
  .cases h
 have st_i:i < ρ.length->(σ.set i (some (V.ref p)))[i]?=some (some (.ref p)):=λhl=>by
  rw[u0D]
  simp[<-r.len,hl]
 refine⟨r.gr,λj e h=>?_,λj s h ho=>?_,λj k q s t h1 h2 o1 o2 h3 h4=>?_,by simp[r.len]⟩
 .by_cases hj:i=j
  .subst hj
   have e:=(at_i h).2
   have:=a.isO
   rw[<-e]at this
   cases this
  .rw[n9 hj]at h ⊢
   exact r.vals j e h
 .by_cases hj:i=j
  .subst hj
   obtain⟨hl,e⟩:=at_i h
   subst e
   exact⟨p,o,st_i hl,h0,hF,hH,a⟩
  .rw[n9 hj]at h ⊢
   exact r.ows j s h ho
 .by_cases hj:i=j
  .subst hj
   by_cases hk:i=k
   .exact hk
   .obtain⟨hl,_⟩:=at_i h1
    rw[st_i hl]at h3
    cases h3
    rw[n9 hk]at h2 h4
    exact absurd h4 (nw k t h2 o2)
  .by_cases hk:i=k
   .subst hk
    obtain⟨hl,_⟩:=at_i h2
    rw[st_i hl]at h4
    cases h4
    rw[n9 hj]at h1 h3
    exact absurd h3 (nw j s h1 o1)
   .rw[n9 hj]at h1 h3
    rw[n9 hk]at h2 h4
    exact r.dis j k q s t h1 h2 o1 o2 h3 h4
theorem Rl.setO (r:Rl Fb Hb F H ρ σ){i:Nat}{ds:List D}{p:Addr}{xs:List V}(h0:Hb p=none)(hF:F p=none)(hH:H p=some (.lst xs))(a:AtL F ds xs)
 (nw:∀ (j:Nat) (s:Sl),ρ[j]?=some s->s.isO=true->σ[j]?≠some (some (.ref p))):Rl Fb Hb F H (ρ.set i (.o ds)) (σ.set i (some (.ref p))):=r.setW h0 hF hH ⟨xs,rfl,a⟩ nw
theorem Rl.mutW (r:Rl Fb Hb F H ρ σ){i:Nat}{w w':Sl}{p:Addr}{o':HO}(e:ρ[i]?=some w)(hw:w.isO=true)(e1:σ[i]?=some (some (.ref p)))(a:zdi F o' w'):Rl Fb Hb F (upd H p o') (ρ.set i w') σ:=by
 obtain⟨q,o,e2,h0,hF,hH,_⟩:=r.ows i w e hw
 rw[e1]at e2
 cases e2
 have hi:i < ρ.length:=(t7.mp e).1
 have neP:∀ {j:Nat} {s:Sl} {q:Addr},i≠j->ρ[j]?=some s->s.isO=true->σ[j]?=some (some (.ref q))->q≠p:=λ{j s q} hne h1 ho h2 z=>by
  subst z
  exact hne (r.dis i j q w s e h1 hw ho e1 h2)
 refine⟨⟨r.gr.ff,λb o z=>?_,λb o z1 z2=>?_⟩,λj d h=>?_,λj s h ho=>?_,λj k q s t h1 h2 o1 o2 h3 h4=>?_,by simp[r.len]⟩
 .rw[zo (zm z hF)]
  exact r.gr.fh b o z
 .rw[zo (zm z2 h0)]
  exact r.gr.kp b o z1 z2
 .by_cases hj:i=j
  .subst hj
   rw[u0i hi]at h
   cases h
   exact(Bool.noConfusion a.isO)
  .rw[n9 hj]at h
   exact r.vals j d h
 .by_cases hj:i=j
  .subst hj
   rw[u0i hi]at h
   cases h
   exact⟨p,o',e1,h0,hF,zp,a⟩
  .rw[n9 hj]at h
   obtain⟨q,z,f1,f2,f3,f4,f5⟩:=r.ows j s h ho
   refine⟨q,z,f1,f2,f3,?_,f5⟩
   rw[zo (neP hj h ho f1)]
   exact f4
 .have back:∀ {j:Nat} {s:Sl},(ρ.set i w')[j]?=some s->s.isO=true->∃ s',ρ[j]?=some s'/\s'.isO=true:=λ{j s} h ho=>by
   by_cases hj:i=j
   .subst hj;exact⟨w,e,hw⟩
   .rw[n9 hj]at h;exact⟨s,h,ho⟩
  obtain⟨f1,g1,g1'⟩:=back h1 o1
  obtain⟨f2,g2,g2'⟩:=back h2 o2
  exact r.dis j k q f1 f2 g1 g2 g1' g2' h3 h4
theorem Rl.mutate (r:Rl Fb Hb F H ρ σ){i:Nat}{ds es:List D}{p:Addr}{ys:List V}(e:ρ[i]?=some (.o ds))(e1:σ[i]?=some (some (.ref p)))(a:AtL F es ys):Rl Fb Hb F (upd H p (.lst ys)) (ρ.set i (.o es)) σ :=
 r.mutW e rfl e1 ⟨ys,rfl,a⟩
def Sl.fz:Sl->Sl
 | .o ds=>.v (.lst ds)
 | .m t ks vs=>.v (.dct false t ks vs)
 | s=>s
def zmg (ρ:SE)(i:Nat):SE:=ρ.set i ((ρ[i]?).getD .no).fz
theorem Rl.freeze (r:Rl Fb Hb F H ρ σ)(i:Nat):∃ F',Rl Fb Hb F' H (zmg ρ i) σ:=by
 unfold zmg
 cases h:ρ[i]? with
 | none =>
  refine⟨F,?_⟩
  rw[List.set_eq_of_length_le (List.getElem?_eq_none_iff.mp h)]
  exact r
 | some s =>
  have hi:i < ρ.length:=(t7.mp h).1
  have same:s.fz=s->∃ F',Rl Fb Hb F' H (ρ.set i ((some s).getD .no).fz) σ:=λe=>by
   refine⟨F,?_⟩
   show Rl Fb Hb F H (ρ.set i s.fz) σ
   rw[e]
   have:ρ.set i s=ρ:=by
    apply u1J
    intro j
    by_cases hj:i=j
    .subst hj;rw[u0i hi,h]
    .rw[n9 hj]
   rw[this]
   exact r
  have give:∀ d,s.isO=true->s.g=some d->s.fz=.v d->∃ F',Rl Fb Hb F' H (ρ.set i ((some s).getD .no).fz) σ:=λd ho hg hz=>by
   obtain⟨p,o,e1,e2,e3,e4,a⟩:=r.ows i s h ho
   have sF:yI F (upd F p o):=λb u e=>by rw[zo (zm e e3)];exact e
   show ∃ F',Rl Fb Hb F' H (ρ.set i s.fz) σ
   rw[hz]
   have nj:∀ {j:Nat} {t:Sl},(ρ.set i (.v d))[j]?=some t->t.isO=true->i≠j:=λ{j t} h ht e=>by
    subst e
    rw[u0i hi]at h
    cases h
    cases ht
   refine⟨upd F p o,r.gr.show e2 e3 e4,λj e z=>?_,λj t z ht=>?_,λj k q t u h1 h2 o1 o2 h3 h4=>?_,by simp[r.len]⟩
   .by_cases hj:i=j
    .subst hj
     rw[u0i hi]at z
     cases z
     exact⟨_,e1,a.at hg zp sF⟩
    .rw[n9 hj]at z
     obtain⟨v,f1,f2⟩:=r.vals j e z
     exact⟨v,f1,f2.mono sF⟩
   .have hj:=nj z ht
    rw[n9 hj]at z
    obtain⟨q,y,f1,f2,f3,f4,f5⟩:=r.ows j t z ht
    refine⟨q,y,f1,f2,?_,f4,f5.mono sF⟩
    rw[zo (λw=>hj (r.dis i j p s t h z ho ht e1 (by rw[<-w];exact f1)))]
    exact f3
   .have a1:=nj h1 o1
    have a2:=nj h2 o2
    rw[n9 a1]at h1
    rw[n9 a2]at h2
    exact r.dis j k q t u h1 h2 o1 o2 h3 h4
  cases s with
  | no=>exact same rfl
  | v d=>exact same rfl
  | o ds=>exact give _ rfl rfl rfl
  | m t ks ds=>exact give _ rfl rfl rfl
end
inductive Ctl where
 | nx (ρ:SE) | rt (d:D) | bk (ρ:SE) | ct (ρ:SE) | no
 deriving Inhabited
def SOk (Fb Hb:Hp)(E:zh1):Ctl->Prop
 | .nx ρ=>∀ F H σ,Rl Fb Hb F H ρ σ->E.nx σ H
 | .bk ρ=>∀ F H σ,Rl Fb Hb F H ρ σ->E.bk σ H
 | .ct ρ=>∀ F H σ,Rl Fb Hb F H ρ σ->E.ct σ H
 | .rt d=>∀ F H v,Gr Fb Hb F H->At F d v->E.rt v H
 | .no=>False
def RS (t:TS)(g:SE->Ctl):Prop:=∀ (Fb Hb F H:Hp) (ρ:SE) (σ:St) (E:zh1),Rl Fb Hb F H ρ σ->SOk Fb Hb E (g ρ)->t E σ H
def SD (X:Cx)(st:Stmt)(g:SE->Ctl):Prop:=∃ t,PS X st t/\RS t g
def SDs (X:Cx)(sts:List Stmt)(g:SE->Ctl):Prop:=∃ t,PSs X sts t/\RS t g
section
variable {X:Cx}{st:Stmt}{sts:List Stmt}{a b c e:Expr}{pos pos':Pos}
def yp:SE->Ctl:=.nx
def zO (g h:SE->Ctl):SE->Ctl:=fun ρ=>match g ρ with
 | .nx ρ'=>h ρ'
 | .rt d=>.rt d
 | .bk ρ'=>.bk ρ'
 | .ct ρ'=>.ct ρ'
 | .no=>.no
theorem zP:SDs X [] yp:=⟨_,zi3,λ_ _ F H ρ σ E r h=>h F H σ r⟩
theorem zd {g h:SE->Ctl}(h1:SD X st g)(h2:SDs X sts h):SDs X (st::sts) (zO g h):=by
 obtain⟨t,p,r⟩:=h1
 obtain⟨u,p2,r2⟩:=h2
 refine⟨_,zgZ p p2,λFb Hb F H ρ σ E rl k=>?_⟩
 refine r Fb Hb F H ρ σ { E with nx:=u E } rl ?_
 unfold zO at k
 cases e:g ρ with
 | nx ρ' =>
  rw[e]at k
  exact λF' H' σ' rl'=>r2 Fb Hb F' H' ρ' σ' E rl' k
 | rt d=>rw[e]at k;exact k
 | bk d=>rw[e]at k;exact k
 | ct d=>rw[e]at k;exact k
 | no=>rw[e]at k;exact k
theorem zi {g:SE->Ctl}(h1:SD X st g):SDs X [st] g:=let ⟨_,p,r⟩:=h1;⟨_,zjQ p,r⟩
def sFz (i:Nat)(g:SE->Ctl):SE->Ctl:=fun ρ=>g (zmg ρ i)
theorem Yf {g:SE->Ctl}(i:Nat)(h:SDs X sts g):SDs X sts (sFz i g):=by
 obtain⟨t,p,r⟩:=h
 refine⟨_,p,λFb Hb F H ρ σ E rl k=>?_⟩
 obtain⟨F',rl'⟩:=rl.freeze i
 exact r Fb Hb F' H _ σ E rl' k
def sNo:SE->Ctl:=λ_=>.no
theorem Xh:SD X st sNo:=⟨_,zhd,λ_ _ _ _ _ _ _ _ h=>h.elim⟩
def y6 (f:Ev->Option D):SE->Ctl:=fun ρ=>match f (visG ρ) with
 | some d=>.rt d
 | none=>.no
theorem zE {f:Ev->Option D}(h:ED X e f):SD X (.Return (some e) pos) (y6 f):=by
 obtain⟨t,p,r⟩:=h
 refine⟨_,zk2 p,λFb Hb F H ρ σ E rl k=>?_⟩
 unfold y6 at k
 cases h:f (visG ρ) with
 | none=>rw[h]at k;exact k.elim
 | some d =>
  rw[h]at k
  exact r σ _ _ H d _ rl.gh rl.visG h λF' H' v g av=>k F' H' v (rl.out g) av
def Zy:SE->Ctl:=λ_=>.rt .non
def vEv (m:Bool)(f:Ev->Option D)(ρ:SE):Option D:=if m=true then (f (visG ρ)).bind λd=>if noL d=true then some d else none else f (visF ρ)
theorem RE.at {Fb Hb F H:Hp}{ρ:SE}{σ:St}{m:Bool}{f:Ev->Option D}{t:TE}{d:D}{Q:VK}(r:RE t f)(rl:Rl Fb Hb F H ρ σ)(h:vEv m f ρ=some d)(q:∀ F' H' v,Gr F H F' H'->At F' d v->Q v H'):t σ H Q:=by
 unfold vEv at h
 cases m with
 | false =>
  rw[u9 u4]at h
  exact r σ _ _ H d _ rl.gr.fh rl.visF h q
 | true =>
  rw[u8 rfl]at h
  obtain⟨d',h1,h2⟩:=u0.mp h
  split at h2 <;> cases h2
  rename_i hn
  refine r σ _ _ H d _ rl.gh rl.visG h1 λF' H' v g av=>?_
  obtain⟨g2,fl⟩:=rl.back g
  exact q _ H' v g2 (av.flat fl hn)
def xE (m:Bool)(i:Nat)(f:Ev->Option D):SE->Ctl:=fun ρ=>match vEv m f ρ with
 | some d=>.nx (ρ.set i (.v d))
 | none=>.no
theorem zX {m:Bool}{i:Nat}{x:Str}{f:Ev->Option D}(hN:X.N.Nodup)(hi:X.N[i]?=some x)(hx:Loc X.env.scope x)(he:ED X e f)(hs:swapsWith e (some (.Name x pos')) pos.line X.env=pure false:=by rfl)
 (hf:X.fn x=true\/X.env.scope.names.lookup x=some .local:=by first | exact .inl rfl | exact .inr rfl | assumption):SD X (.Assign [.Name x pos'] e pos) (xE m i f):=by
 obtain⟨t,p,r⟩:=he
 refine⟨_,zcL hN hi hx p hs hf,λFb Hb F H ρ σ E rl k=>?_⟩
 unfold xE at k
 cases h:vEv m f ρ with
 | none=>rw[h]at k;exact k.elim
 | some d =>
  rw[h]at k
  exact r.at rl h λF' H' v g av=>k F' H' _ ((rl.grow g).set av)
def Xd (f:Ev->Option D):SE->Ctl:=fun ρ=>match f (visG ρ) with
 | some _=>.nx ρ
 | none=>.no
theorem YS {f:Ev->Option D}(he:ED X e f)(hs:swapsWith e none pos.line X.env=pure false:=by rfl):SD X (.Expr e pos) (Xd f):=by
 obtain⟨t,p,r⟩:=he
 refine⟨_,zbp p hs,λFb Hb F H ρ σ E rl k=>?_⟩
 unfold Xd at k
 cases h:f (visG ρ) with
 | none=>rw[h]at k;exact k.elim
 | some d =>
  rw[h]at k
  exact r σ _ _ H d _ rl.gh rl.visG h λF' H' v g av=>k _ H' σ (rl.grow (rl.back g).1)
def Za (i:Nat)(f:Ev->Option (List D)):SE->Ctl:=fun ρ=>match f (visF ρ) with
 | some ds=>.nx (ρ.set i (.o ds))
 | none=>.no
theorem v4 {i:Nat}{x:Str}{f:Ev->Option (List D)}(hN:X.N.Nodup)(hi:X.N[i]?=some x)(hx:Loc X.env.scope x)(he:FL X e f)(hs:swapsWith e (some (.Name x pos')) pos.line X.env=pure false:=by rfl)
 (hf:X.fn x=true\/X.env.scope.names.lookup x=some .local:=by first | exact .inl rfl | exact .inr rfl | assumption):SD X (.Assign [.Name x pos'] e pos) (Za i f):=by
 obtain⟨t,p,r⟩:=he
 refine⟨_,zcL hN hi hx p hs hf,λFb Hb F H ρ σ E rl k=>?_⟩
 unfold Za at k
 cases h:f (visF ρ) with
 | none=>rw[h]at k;exact k.elim
 | some ds =>
  rw[h]at k
  refine r σ _ _ H ds _ rl.gr.fh rl.visF h λF' H' q xs g h0 hF hH hx=>?_
  have rl2:=rl.grow g
  exact k F' H' _ (rl2.setO (rl.notbase h0) hF hH hx (rl.notown h0))
def sIf (t:Ev->Option Bool)(g h:SE->Ctl):SE->Ctl:=fun ρ=>match t (visG ρ) with
 | some true=>g ρ
 | some false=>h ρ
 | none=>.no
theorem wA {as bs:List Stmt}{t:Ev->Option Bool}{g h:SE->Ctl}(hc:TD X c t)(ha:SDs X as g)(hb:SDs X bs h):SD X (.If c as bs pos) (sIf t g h):=by
 obtain⟨tc,pc,rc⟩:=hc
 obtain⟨ta,pa,ra⟩:=ha
 obtain⟨tb,pb,rb⟩:=hb
 refine⟨_,zmn pc pa pb,λFb Hb F H ρ σ E rl k=>?_⟩
 unfold sIf at k
 cases h:t (visG ρ) with
 | none=>rw[h]at k;exact k.elim
 | some d =>
  rw[h]at k
  refine rc σ _ _ H d _ rl.gh rl.visG h λF' H' g=>?_
  have rl2:=rl.grow (rl.back g).1
  cases d with
  | true=>rw[u8 rfl];exact ra Fb Hb _ H' ρ σ E rl2 k
  | false=>rw[u9 u4];exact rb Fb Hb _ H' ρ σ E rl2 k
def vT (t:Ev->Option Bool)(g:SE->Ctl):Nat->SE->Ctl
 | 0,_=>.no
 | n+1,ρ=>match t (visG ρ) with
  | some true=>match g ρ with
   | .nx ρ'=>vT t g n ρ'
   | .ct ρ'=>vT t g n ρ'
   | .bk ρ'=>.nx ρ'
   | .rt d=>.rt d
   | .no=>.no
  | some false=>.nx ρ
  | none=>.no
theorem zb2 {as:List Stmt}{t:Ev->Option Bool}{g:SE->Ctl}(n:Nat)(hp:PassesOwn (model X.prog X.w) X.A X.env X.xe)(hc:TD X c t)(ha:SDs X as g):SD X (.While c as [] pos) (vT t g n):=by
 obtain⟨tc,pc,rc⟩:=hc
 obtain⟨ta,pa,ra⟩:=ha
 refine⟨_,zhx hp pc pa,λFb Hb F H ρ σ E rl k=>?_⟩
 refine⟨λm σ H=>∃ F ρ,Rl Fb Hb F H ρ σ/\SOk Fb Hb E (vT t g m ρ),⟨n,F,ρ,rl,k⟩,?_⟩
 rintro m σ H ⟨F,ρ,rl,k⟩
 cases m with
 | zero=>exact k.elim
 | succ m =>
  unfold vT at k
  cases h:t (visG ρ) with
  | none=>rw[h]at k;exact k.elim
  | some d =>
   rw[h]at k
   refine rc σ _ _ H d _ rl.gh rl.visG h λF' H' gr=>?_
   have rl2:=rl.grow (rl.back gr).1
   cases d with
   | false=>rw[u9 u4];exact k _ H' σ rl2
   | true =>
    rw[u8 rfl]
    refine⟨fun σ H=>∃ F ρ,Rl Fb Hb F H ρ σ/\SOk Fb Hb E (vT t g m ρ),fun σ' H' w=>⟨m,u3m m,w⟩,?_⟩
    refine ra Fb Hb _ H' ρ σ _ rl2 ?_
    dsimp only at k
    cases hg:g ρ with
    | nx ρ'=>rw[hg]at k;exact λF2 H2 σ2 r2=>⟨F2,ρ',r2,k⟩
    | ct ρ'=>rw[hg]at k;exact λF2 H2 σ2 r2=>⟨F2,ρ',r2,k⟩
    | bk ρ'=>rw[hg]at k;exact k
    | rt d=>rw[hg]at k;exact k
    | no=>rw[hg]at k;exact k.elim
def RG (t:TG)(b:D->SE->Option SE):Prop:=∀ (Fb Hb F H:Hp) (ρ ρ':SE) (σ:St) (d:D) (v:V) (Q:St->Hp->Prop),Rl Fb Hb F H ρ σ->At F d v->b d ρ=some ρ'->(∀ σ',Rl Fb Hb F H ρ' σ'->Q σ' H)->t v σ H Q
def RGs (t:TGs)(b:List D->SE->Option SE):Prop:=∀ (Fb Hb F H:Hp) (ρ ρ':SE) (σ:St) (ds:List D) (vs:List V) (Q:St->Hp->Prop),Rl Fb Hb F H ρ σ->AtL F ds vs->b ds ρ=some ρ'->(∀ σ',Rl Fb Hb F H ρ' σ'->Q σ' H)->t vs σ H Q
def BD (X:Cx)(tg:Expr)(b:D->SE->Option SE):Prop:=∃ t,PG X tg t/\RG t b
def BDs (X:Cx)(tgs:List Expr)(b:List D->SE->Option SE):Prop:=∃ t,PGs X tgs t/\RGs t b
def y8 (i:Nat):D->SE->Option SE:=λd ρ=>some (ρ.set i (.v d))
theorem yK {i:Nat}(h:PG X a (Y9 i)):BD X a (y8 i):=by
 refine⟨_,h,λFb Hb F H ρ ρ' σ d v Q rl av e q=>?_⟩
 cases e
 exact q _ (rl.set av)
def zbg:List D->SE->Option SE
 | [],ρ=>some ρ
 | _,_=>none
def vK (b:D->SE->Option SE)(c:List D->SE->Option SE):List D->SE->Option SE
 | d::ds,ρ=>(b d ρ).bind (c ds)
 | [],_=>none
theorem zfo:BDs X [] zbg:=by
 refine⟨_,zdJ,λFb Hb F H ρ ρ' σ ds vs Q rl av e q=>?_⟩
 cases ds with
 | nil=>cases e;exact⟨av.nil_inv,q _ rl⟩
 | cons _ _=>cases e
theorem Xj {es:List Expr}{b:D->SE->Option SE}{c:List D->SE->Option SE}(h1:BD X e b)(h2:BDs X es c)
 (hs:(assignEach (e::es) X.env).map (·.2)=assign e X.env::(assignEach es X.env).map (·.2):=by rfl):BDs X (e::es) (vK b c):=by
 obtain⟨t,p,r⟩:=h1
 obtain⟨u,p2,r2⟩:=h2
 refine⟨_,Vx p p2 hs,λFb Hb F H ρ ρ' σ ds vs Q rl av e q=>?_⟩
 cases ds with
 | nil=>cases e
 | cons d ds =>
  obtain⟨x,xs,rfl,a1,a2⟩:=av.cons_inv
  obtain⟨ρ1,e1,e2⟩:=u0.mp e
  exact⟨x,xs,rfl,r Fb Hb F H ρ ρ1 σ d x _ rl a1 e1 fun σ1 rl1=>r2 Fb Hb F H ρ1 ρ' σ1 ds xs Q rl1 a2 e2 q⟩
def zaP (n:Nat)(c:List D->SE->Option SE):D->SE->Option SE
 | .tup ds,ρ=>if ds.length=n then c ds ρ else none
 | _,_=>none
theorem zh9 {es:List Expr}{k:Nat}{n:Nat}{c:List D->SE->Option SE}(hc:X.calm=true)(h:BDs X es c)
 (hn:(assignEach es X.env).length=n:=by rfl) (hst:(assignEach es X.env).findIdx? (·.1)=none:=by rfl):BD X (.Tuple es k pos) (zaP n c):=by
 obtain⟨t,p,r⟩:=h
 refine⟨_,zik hc p hn hst,λFb Hb F H ρ ρ' σ d v Q rl av e q=>?_⟩
 cases d with
 | tup ds =>
  unfold zaP at e
  dsimp only at e
  split at e
  .rename_i hl
   obtain⟨a,xs,rfl,hx,al⟩:=av.tup_inv
   exact⟨a,xs,rfl,SqT.of (rl.gr.fh _ _ hx),by rw[al.length];exact hl,r Fb Hb F H ρ ρ' σ ds xs Q rl al e q⟩
  .cases e
 | _=>cases e
def zdD (m:Bool)(f:Ev->Option D)(b:D->SE->Option SE):SE->Ctl:=fun ρ=>match (vEv m f ρ).bind λd=>b d ρ with
 | some ρ'=>.nx ρ'
 | none=>.no
def ZP (m:Bool)(i:Nat)(fk fe:Ev->Option D):SE->Ctl:=fun ρ=>match (vEv m fe ρ).bind λd=>(fk (visG ρ)).bind λk=>match ρ[i]?,k with
 | some (.o ds),.int k=>(ixN ds.length k).map λj=>ρ.set i (.o (ds.set j d))
 | _,_=>none with
 | some ρ'=>.nx ρ'
 | none=>.no
theorem XE {m:Bool}{i:Nat}{ko:Expr}{fk fe:Ev->Option D}(he:ED X e fe)(ho:PE X a (zio i))(hk:ED X ko fk)(hs:swapsWithSole [.Subscript a ko pos'] e pos.line X.env=pure false:=by rfl)(hw:swappedStores [.Subscript a ko pos'] e X.env=pure none:=by rfl)
 (h1:(assignEach [.Subscript a ko pos'] X.env).map (·.2)=[assign (.Subscript a ko pos') X.env]:=by rfl)
 (ha:∀ v,assign (.Subscript a ko pos') X.env v=(do
  let ov<-holding [v] (eval a X.env)
  let iv<-holding [v,ov] (eval ko X.env)
  standAt pos'
  holding [v,ov,iv] (setItem ov iv v)
  release [v,ov,iv] []):=by intro _;rfl):SD X (.Assign [.Subscript a ko pos'] e pos) (ZP m i fk fe):=by
 obtain⟨t,p,r⟩:=he
 obtain⟨tk,pk,rk⟩:=hk
 refine⟨_,zkQ p (zkc ho pk zgd ha) hs hw h1,λFb Hb F H ρ σ E rl k=>?_⟩
 unfold ZP at k
 cases h:(vEv m fe ρ).bind λd=>(fk (visG ρ)).bind λk=>match ρ[i]?,k with
  | some (.o ds),.int k=>(ixN ds.length k).map λj=>ρ.set i (.o (ds.set j d))
  | _,_=>none with
 | none=>rw[h]at k;exact k.elim
 | some ρ' =>
  rw[h]at k
  obtain⟨d,e1,e2⟩:=u0.mp h
  obtain⟨kd,e3,e2⟩:=u0.mp e2
  cases hs:ρ[i]? with
  | none=>rw[hs]at e2;cases e2
  | some sl =>
   rw[hs]at e2
   cases sl with
   | no=>cases e2
   | v _=>cases e2
   | m _ _ _=>cases e2
   | o ds =>
    cases kd with
    | int kk =>
     obtain⟨j,e4,rfl⟩:=t8.mp e2
     refine r.at rl e1 λF' H' v g av=>?_
     have rl2:=rl.grow g
     obtain⟨q,xs,f1,_⟩:=rl2.owns i ds hs
     refine⟨_,f1,?_⟩
     refine rk σ _ _ H' _ _ rl2.gh rl2.visG e3 λF3 H3 v3 g3 av3=>?_
     obtain⟨gb,_⟩:=rl2.back g3
     have rl3:=rl2.grow gb
     obtain⟨q3,xs3,f1',_,_,f4,f5⟩:=rl3.owns i ds hs
     rw[f1]at f1'
     cases f1'
     refine⟨q,xs3,kk,j,rfl,av3.int_inv,f4,by rw[f5.length];exact e4,?_⟩
     exact k _ _ σ (rl3.mutate hs f1 (f5.set j (av.mono gb.ff)))
    | _=>cases e2
end
end Dl
namespace L2
open PySem PySem.Spec PyProof.Rows
section
variable {X:Cx}{tg:Expr}
def iSeq (K:W.Frag)(tl:TE):TI:=fun σ H R=>tl σ H λx H1=>(∃ a,x=.ref a/\(∃ xs,SqL K H1 a xs)/\R (Itl K a) H1)\/(∃ a,x=.ref a/\(∃ xs,SqT K H1 a xs)/\R (Itt K a) H1)
theorem zkD {l:Expr}{tl:TE}(hl:PE X l tl):PI X tg l (iSeq X.K tl):=by
 intro pins s σ H R I h
 refine thn (hl pins s σ H _ I h) λv s1 hh9=>?_
 obtain⟨x,H1,I1,r1,q1⟩:=hh9
 rcases q1 with ⟨a,e,⟨xs,hq⟩,q⟩ | ⟨a,e,⟨xs,hq⟩,q⟩
 .subst e
  cases r1
  obtain⟨its,rv,p,hz⟩:=I1.list hq
  refine wpAny_pyIter_list p.isList ?_
  refine⟨s1.heap.objs.size,[s1.heap.objs.size],_,_,H1,rfl,I1.kept (t':=s1.toks) λb o e=>u5 _ e,zeb a _,⟨_,j8 _ rfl,rfl,rfl⟩,λb hb=>?_,q⟩
  have e:b=s1.heap.objs.size:=by simpa using hb
  subst e
  exact I1.fpOk (q5 _) (I1.hok.fresh (q5 _))
 .subst e
  cases r1
  obtain⟨its,rv,p,hz⟩:=I1.tuple hq
  refine u1D (show s1.heap.IsTuple a its.toArray from p) ?_
  refine⟨s1.heap.objs.size,[s1.heap.objs.size],_,_,H1,rfl,I1.kept (t':=s1.toks) λb o e=>u5 _ e,zdA a _,⟨_,j8 _ rfl,rfl,rfl⟩,λb hb=>?_,q⟩
  have e:b=s1.heap.objs.size:=by simpa using hb
  subst e
  exact I1.fpOk (q5 _) (I1.hok.fresh (q5 _))
end
end L2
namespace Dl
open PySem L2
variable [KK]
def zjV (J:It)(F:Hp)(ds:List D):Prop:=∀ (i:Nat) (F2 H2:Hp),yI F F2->yI F2 H2->(i=ds.length->J.stop i H2) /\
 ∀ d,ds[i]?=some d->J.go i H2/\∀ x H3,J.yld i H2 x H3->∃ F3,Gr F2 H2 F3 H3/\At F3 d x
def RI (wi:TI)(f:Ev->Option (List D)):Prop :=
 ∀ (σ:St) (ρ:Ev) (F H:Hp) (ds:List D) (R:It->Hp->Prop),yI F H->VAt F ρ σ->f ρ=some ds->(∀ F' H' J,Gr F H F' H'->zjV J F' ds->R J H')->wi σ H R
def ID (X:Cx)(tg iter:Expr)(f:Ev->Option (List D)):Prop:=∃ wi,PI X tg iter wi/\RI wi f
def xP:D->Option (List D)
 | .lst ds=>some ds
 | .tup ds=>some ds
 | _=>none
section
variable {X:Cx}{tg a b c e:Expr}{pos:Pos}
theorem zlu {K:W.Frag}{F:Hp}{p:Addr}{xs:List V}{ds:List D}(h:F p=some (.lst xs))(al:AtL F ds xs):zjV (Itl K p) F ds:=by
 intro i F2 H2 s1 s2
 have q:SqL K H2 p xs:=SqL.of (s2 _ _ (s1 _ _ h))
 refine⟨λhl=>⟨xs,q,by rw[al.length,hl];exact q5 _⟩,λd hd=>?_⟩
 obtain⟨x,hx,ax⟩:=al.get hd
 refine⟨⟨xs,x,q,hx⟩,λy H3 hy=>?_⟩
 obtain⟨rfl,hy⟩:=hy
 have:=hy xs q
 rw[hx]at this
 cases this
 exact⟨F2,.refl s2,ax.mono s1⟩
theorem zln {K:W.Frag}{F:Hp}{p:Addr}{xs:List V}{ds:List D}(h:F p=some (.tup xs))(al:AtL F ds xs):zjV (Itt K p) F ds:=by
 intro i F2 H2 s1 s2
 have q:SqT K H2 p xs:=SqT.of (s2 _ _ (s1 _ _ h))
 refine⟨λhl=>⟨xs,q,by rw[al.length,hl];exact q5 _⟩,λd hd=>?_⟩
 obtain⟨x,hx,ax⟩:=al.get hd
 refine⟨⟨xs,x,q,hx⟩,λy H3 hy=>?_⟩
 obtain⟨rfl,hy⟩:=hy
 have:=hy xs q
 rw[hx]at this
 cases this
 exact⟨F2,.refl s2,ax.mono s1⟩
def iOf (f:Ev->Option D):Ev->Option (List D):=fun ρ=>(f ρ).bind xP
theorem Ze {f:Ev->Option D}(ha:ED X a f):ID X tg a (iOf f):=by
 obtain⟨t,p,r⟩:=ha
 refine⟨_,zkD p,fun σ ρ F H ds R s va e q=>?_⟩
 obtain⟨d,e1,e2⟩:=u0.mp e
 refine r σ ρ F H d _ s va e1 λF1 H1 v g1 a1=>?_
 cases d <;> try cases e2
 .obtain⟨p,xs,rfl,hx,al⟩:=a1.tup_inv
  exact .inr ⟨p,rfl,⟨xs,SqT.of (g1.fh _ _ hx)⟩,q F1 H1 _ g1 (zln hx al)⟩
 .obtain⟨p,xs,rfl,hx,al⟩:=a1.lst_inv
  exact .inl ⟨p,rfl,⟨xs,SqL.of (g1.fh _ _ hx)⟩,q F1 H1 _ g1 (zlu hx al)⟩
def Z4 (lo:Int)(n:Nat):List D:=(List.range n).map λk:Nat=>.int (lo+k)
theorem zeM {F:Hp}(lo:Int)(n:Nat):zjV (Itr lo n) F (Z4 lo n):=by
 intro i F2 H2 s1 s2
 have hlen:(Z4 lo n).length=n:=by unfold Z4;simp
 refine⟨λhl=>by rw[hlen]at hl;rw[hl];exact q5 _,λd hd=>?_⟩
 have hi:i < n:=by
  have:=(t7.mp hd).1
  omega
 refine⟨hi,λy H3 hy=>?_⟩
 obtain⟨rfl,rfl⟩:=hy
 refine⟨F2,.refl s2,?_⟩
 unfold Z4 at hd
 rw[j9,u1w hi]at hd
 cases hd
 exact .int
@[irreducible] def zf5 (j:Int):Bool:=decide (-(2 ^ 62)<=j/\j < 2 ^ 62)
omit [KK] in
theorem yH {j:Int}:zf5 j=true↔-(2 ^ 62)<=j/\j < 2 ^ 62:=by unfold zf5;exact decide_eq_true_iff
def wB:List D->Option (List D)
 | [.int j]=>if zf5 j=true then some (Z4 0 j.toNat)else none
 | _=>none
def WZ:List D->Option (List D)
 | [.int i,.int j]=>if zf5 i=true/\zf5 j=true then some (Z4 i (j - i).toNat)else none
 | _=>none
def Wp (g:List D->Option (List D))(f:Ev->Option (List D)):Ev->Option (List D):=fun ρ=>(f ρ).bind g
theorem Wh {p:Pos} {f:Ev->Option (List D)} (hg:Gl X "range") (hm:X.mg "range"=none) (ha:AD X [a] f) (hs:starEach [a] X.env=[(false,eval a X.env)]:=by rfl):ID X tg (.Call (.Name "range" p) [a] [] pos) (Wp wB f):=by
 obtain⟨t,pa,r⟩:=ha
 refine⟨_,za6 hg hm pa hs,fun σ ρ F H ds R s va e q=>?_⟩
 obtain⟨d,e1,e2⟩:=u0.mp e
 refine r σ ρ F H d _ s va e1 λF1 H1 v g1 a1=>?_
 unfold wB at e2
 split at e2
 .split at e2
  .cases e2
   rename_i hc
   obtain⟨x,r',rfl,ax,ar⟩:=a1.cons_inv
   cases ar.nil_inv
   exact⟨_,by rw[ax.int_inv],(yH.mp hc).1,(yH.mp hc).2,q F1 H1 _ g1 (zeM 0 _)⟩
  .cases e2
 .cases e2
def W0 (n:Nat):List D->List D
 | []=>[]
 | d::ds=>.tup [.int n,d]::W0 (n+1) ds
omit [KK] in
theorem XZ (ds:List D):∀ (n i:Nat),(W0 n ds)[i]?=(ds[i]?).map λd=>.tup [.int ((n+i:Nat):Int),d]:=by
 induction ds with
 | nil=>intro n i;simp[W0]
 | cons d ds ih =>
  intro n i
  cases i with
  | zero=>simp[W0]
  | succ i =>
   show(W0 (n+1) ds)[i]?=(ds[i]?).map _
   rw[ih]
   have:n+1+i=n+(i+1):=by omega
   rw[this]
omit [KK] in
theorem Ya (ds:List D):∀ n,(W0 n ds).length=ds.length:=by
 induction ds with
 | nil=>intro n;rfl
 | cons d ds ih=>intro n;simp[W0,ih]
def wo (f:Ev->Option (List D)):Ev->Option (List D):=fun ρ=>(f ρ).bind λas=>match as with
 | [d]=>(xP d).map (W0 0)
 | _=>none
theorem zjq {es:List Expr} {k:Nat} {tp p:Pos} {f:Ev->Option (List D)} (hg:Gl X "enumerate") (hm:X.mg "enumerate"=none) (hb:bootBuiltins "enumerate"=some (.type "enumerate")) (ha:AD X [a] f)
 (hs:starEach [a] X.env=[(false,eval a X.env)]:=by rfl):ID X (.Tuple es k tp) (.Call (.Name "enumerate" p) [a] [] pos) (wo f):=by
 obtain⟨t,pa,r⟩:=ha
 refine⟨_,zi9 hg hm hb pa hs,fun σ ρ F H ds R s va e q=>?_⟩
 obtain⟨as,e1,e2⟩:=u0.mp e
 refine r σ ρ F H as _ s va e1 λF1 H1 v g1 a1=>?_
 split at e2
 .obtain⟨x,r',rfl,ax,ar⟩:=a1.cons_inv
  cases ar.nil_inv
  obtain⟨es,e3,rfl⟩:=t8.mp e2
  rename_i d
  cases d <;> try cases e3
  .obtain⟨p,xs,rfl,hx,al⟩:=ax.tup_inv
   refine⟨p,rfl,.inr ⟨xs,SqT.of (g1.fh _ _ hx),q F1 H1 _ g1 λi F2 H2 s1 s2=>?_⟩⟩
   have qq:SqT X.K H2 p xs:=SqT.of (s2 _ _ (s1 _ _ hx))
   refine⟨λhl=>⟨xs,qq,by rw[al.length,hl,Ya];exact q5 _⟩,λd hd=>?_⟩
   rw[XZ]at hd
   obtain⟨d',hd',rfl⟩:=t8.mp hd
   obtain⟨x,hxi,ax⟩:=al.get hd'
   refine⟨⟨xs,x,qq,hxi⟩,λy H3 hy=>?_⟩
   obtain⟨T,y,rfl,hT,rfl,hy⟩:=hy
   have:=hy xs qq
   rw[hxi]at this
   cases this
   have g3:=Gr.alloc s2 hT (.tup [.int i,x])
   exact⟨_,g3,.tup zp (.cons (by rw[u1a];exact .int) (.cons (ax.mono (s1.trans g3.ff)) .nil))⟩
  .obtain⟨p,xs,rfl,hx,al⟩:=ax.lst_inv
   refine⟨p,rfl,.inl ⟨xs,g1.fh _ _ hx,q F1 H1 _ g1 λi F2 H2 s1 s2=>?_⟩⟩
   have qq:SqL X.K H2 p xs:=SqL.of (s2 _ _ (s1 _ _ hx))
   refine⟨λhl=>⟨xs,qq,by rw[al.length,hl,Ya];exact q5 _⟩,λd hd=>?_⟩
   rw[XZ]at hd
   obtain⟨d',hd',rfl⟩:=t8.mp hd
   obtain⟨x,hxi,ax⟩:=al.get hd'
   refine⟨⟨xs,x,qq,hxi⟩,λy H3 hy=>?_⟩
   obtain⟨T,y,rfl,hT,rfl,hy⟩:=hy
   have:=hy xs qq
   rw[hxi]at this
   cases this
   have g3:=Gr.alloc s2 hT (.tup [.int i,x])
   exact⟨_,g3,.tup zp (.cons (by rw[u1a];exact .int) (.cons (ax.mono (s1.trans g3.ff)) .nil))⟩
 .cases e2
def hb2 (F1 Hb:Hp):Hp:=λp=>match F1 p with
 | some o=>some o
 | none=>Hb p
theorem Xv {F1 Hb:Hp}{p:Addr}(h:F1 p=none):hb2 F1 Hb p=Hb p:=by unfold hb2;rw[h]
theorem zha {F1 Hb:Hp}{p:Addr}{o:HO}(h:F1 p=some o):hb2 F1 Hb p=some o:=by unfold hb2;rw[h]
theorem Gr.up {Fb Hb F1 H1 F H:Hp}(g1:Gr Fb Hb F1 H1)(g:Gr F1 (hb2 F1 Hb) F H):Gr Fb Hb F H:=by
 refine⟨g1.ff.trans g.ff,g.fh,λp o e1 e2=>?_⟩
 rcases(g1.kp p o e1 e2).1 with n | ⟨n1,n2⟩
 .exact g.kp p o n (by rw[Xv n];exact e2)
 .exact⟨.inr ⟨n1,g.ff _ _ n2⟩,g.fh _ _ (g.ff _ _ n2)⟩
theorem Gr.dn {Fb Hb F1 F H:Hp}(g:Gr Fb Hb F H)(s1:yI Fb F1)(s:yI F1 F):Gr F1 (hb2 F1 Hb) F H:=by
 refine⟨s,g.fh,λp o e1 e2=>?_⟩
 rw[Xv e1]at e2
 exact g.kp p o (s1.free e1) e2
theorem Rl.up {Fb Hb F1 H1 F H:Hp}{ρ:SE}{σ:St}(g1:Gr Fb Hb F1 H1)(r:Rl F1 (hb2 F1 Hb) F H ρ σ):Rl Fb Hb F H ρ σ:=by
 refine⟨g1.up r.gr,r.vals,λi s e ho=>?_,r.dis,r.len⟩
 obtain⟨p,o,e1,e2,e3⟩:=r.ows i s e ho
 refine⟨p,o,e1,?_,e3⟩
 cases h:F1 p with
 | none=>rw[Xv h]at e2;exact e2
 | some o=>rw[zha h]at e2;cases e2
theorem Rl.dn {Fb Hb F1 F H:Hp}{ρ:SE}{σ:St}(r:Rl Fb Hb F H ρ σ)(s1:yI Fb F1)(s:yI F1 F):Rl F1 (hb2 F1 Hb) F H ρ σ:=by
 refine⟨r.gr.dn s1 s,r.vals,λi t e ho=>?_,r.dis,r.len⟩
 obtain⟨p,o,e1,e2,e3,e4⟩:=r.ows i t e ho
 refine⟨p,o,e1,?_,e3,e4⟩
 rw[Xv (s.free e3)]
 exact e2
def zfs (b:D->SE->Option SE)(g:SE->Ctl):List D->SE->Ctl
 | [],ρ=>.nx ρ
 | d::ds,ρ=>match b d ρ with
  | none=>.no
  | some ρ1=>match g ρ1 with
   | .nx ρ'=>zfs b g ds ρ'
   | .ct ρ'=>zfs b g ds ρ'
   | .bk ρ'=>.nx ρ'
   | .rt d=>.rt d
   | .no=>.no
def XQ (f:Ev->Option (List D))(b:D->SE->Option SE)(g:SE->Ctl):SE->Ctl:=fun ρ=>match f (visF ρ) with
 | some ds=>zfs b g ds ρ
 | none=>.no
theorem zd5 {Fb Hb F1 H1:Hp}{ρ:SE}{σ:St}{E:zh1}{J:It}{g:TG}{tb:TS}{ds:List D}{b:D->SE->Option SE}{gb:SE->Ctl}(hit:zjV J F1 ds)(rg:RG g b)(rb:RS tb gb)(rl0:Rl Fb Hb F1 H1 ρ σ)(k:SOk Fb Hb E (zfs b gb ds ρ)) :
 ∃ W:Nat->Nat->St->Hp->Prop,(∃ m,W 0 m σ H1)/\∀ i m σ H,W i m σ H ->
  (J.stop i H/\E.nx σ H)\/(J.go i H/\∃ N:St->Hp->Prop,(∀ σ' H',N σ' H'->∃ m',m' < m/\W (i+1) m' σ' H')/\∀ x H',J.yld i H x H'->g x σ H' fun σ2 H2=>tb { E with nx:=N,ct:=N,bk:=E.nx } σ2 H2):=by
 refine⟨λi m σ H=>m=ds.length - i/\i<=ds.length/\∃ F ρ,yI F1 F/\Rl Fb Hb F H ρ σ/\SOk Fb Hb E (zfs b gb (ds.drop i) ρ),⟨ds.length,by simp,u0g _,F1,ρ,yI.refl _,rl0,k⟩,?_⟩
 rintro i m σ H ⟨rfl,hi,F,ρ,s1,rl,k⟩
 obtain⟨stop,go⟩:=hit i F H s1 rl.gr.fh
 by_cases hlt:i < ds.length
 .have hd:ds.drop i=ds[i]::ds.drop (i+1):=u0p hlt
  rw[hd]at k
  unfold zfs at k
  obtain⟨g1,g2⟩:=go ds[i] (by simp[hlt])
  refine .inr ⟨g1,fun σ H=>∃ F ρ,yI F1 F/\Rl Fb Hb F H ρ σ/\SOk Fb Hb E (zfs b gb (ds.drop (i+1)) ρ),fun σ' H' w=>⟨ds.length - (i+1),by omega,rfl,hlt,w⟩,λx H' hy=>?_⟩
  obtain⟨F3,g3,a3⟩:=g2 x H' hy
  cases hb:b ds[i] ρ with
  | none=>rw[hb]at k;exact k.elim
  | some ρ1 =>
   rw[hb]at k
   dsimp only at k
   refine rg Fb Hb F3 H' ρ ρ1 σ _ x _ (rl.grow g3) a3 hb fun σ2 rl2=>?_
   have s3:=s1.trans g3.ff
   refine rb F1 (hb2 F1 Hb) F3 H' ρ1 σ2 _ (rl2.dn rl0.gr.ff s3) ?_
   cases hg:gb ρ1 with
   | nx ρ'=>rw[hg]at k;exact λF4 H4 σ4 r4=>⟨F4,ρ',r4.gr.ff,r4.up rl0.gr,k⟩
   | ct ρ'=>rw[hg]at k;exact λF4 H4 σ4 r4=>⟨F4,ρ',r4.gr.ff,r4.up rl0.gr,k⟩
   | bk ρ'=>rw[hg]at k;exact λF4 H4 σ4 r4=>k F4 H4 σ4 (r4.up rl0.gr)
   | rt d=>rw[hg]at k;exact λF4 H4 v g4 a4=>k F4 H4 v (rl0.gr.up g4) a4
   | no=>rw[hg]at k;exact k.elim
 .have e:i=ds.length:=by omega
  subst e
  rw[u1W]at k
  exact .inl ⟨stop rfl,k F H σ rl⟩
theorem WW {iter:Expr}{body:List Stmt}{f:Ev->Option (List D)}{b:D->SE->Option SE}{g:SE->Ctl}(hp:PassesOwn (model X.prog X.w) X.A X.env X.xe)(hc:X.calm=true)(hi:ID X tg iter f)(hg:BD X tg b)(hb:SDs X body g)
 (hs:∀ x,foldedSetIterable iter X.env x=pure x:=by intro _;rfl):SD X (.For tg iter body [] pos) (XQ f b g):=by
 obtain⟨wi,pi,ri⟩:=hi
 obtain⟨tg',pg,rg⟩:=hg
 obtain⟨tb,pb,rb⟩:=hb
 refine⟨_,zes hp hc pi pg pb hs,λFb Hb F H ρ σ E rl k=>?_⟩
 unfold XQ at k
 cases h:f (visF ρ) with
 | none=>rw[h]at k;exact k.elim
 | some ds =>
  rw[h]at k
  exact ri σ _ _ H ds _ rl.gr.fh rl.visF h λF1 H1 J g1 ok=>zd5 ok rg rb (rl.grow g1) k
end
def lcD (b:D->Option (List (Option D)))(t:Ev->Option Bool)(f:Ev->Option D)(ρ:Ev):List D->Option (List D)
 | []=>some []
 | d::ds=>(b d).bind λown=>(t (own++ρ)).bind λc=>if c=true then (f (own++ρ)).bind λy=>(lcD b t f ρ ds).map (y::·)else lcD b t f ρ ds
def fLC (i:Ev->Option (List D))(b:D->Option (List (Option D)))(t:Ev->Option Bool)(f:Ev->Option D):Ev->Option (List D):=fun ρ=>(i ρ).bind λds=>if lim ds.length=true then lcD b t f ρ ds else none
def b1:D->Option (List (Option D)):=λd=>some [some d]
def b2:D->Option (List (Option D))
 | .tup [x,y]=>some [some x,some y]
 | _=>none
def RB (n:Nat)(t:TG)(b:D->Option (List (Option D))):Prop:=∀ (σ:St) (ρ:Ev) (F H:Hp) (d:D) (v:V) (own:List (Option D)) (Q:St->Hp->Prop),yI F H->VAt F ρ σ->At F d v->b d=some own->(∀ σ',VAt F (own++ρ) σ'->Q σ' H)->t v (List.replicate n none++σ) H Q
def xU:Ev->Option Bool:=λ_=>some true
theorem zkg:RT tYes xU:=λ_ _ _ _ _ _ s _ e q=>by cases e;exact q _ _ (.refl s)
theorem zju {wi:TI}{n:Nat}{g:TG}{tt:TT}{te:TE}{fi:Ev->Option (List D)}{b:D->Option (List (Option D))}{ft:Ev->Option Bool}{fe:Ev->Option D}(ri:RI wi fi)(rg:RB n g b)(rt:RT tt ft)(re:RE te fe) :
 RF (tLC wi n g tt te) (fLC fi b ft fe):=by
 intro σ ρ F H out Q s va e q
 obtain⟨ds,e1,e2⟩:=u0.mp e
 split at e2 <;> try cases e2
 rename_i hlim
 have hlim:ds.length<=sizeLine:=b7 hlim
 refine ri σ ρ F H ds _ s va e1 λF1 H1 J g1 ok=>?_
 intro P hP
 have hF1:F1 P=none:=g1.fh.free hP
 have hH0:H P=none:=by
  cases e:H P with
  | none=>rfl
  | some o =>
   cases e2:F P with
   | none=>rw[(g1.kp P o e2 e).2]at hP;cases hP
   | some u=>rw[g1.fh _ _ (g1.ff _ _ e2)]at hP;cases hP
 refine⟨λi m ys H2=>m=ds.length - i/\i<=ds.length/\∃ F2 done,Gr F1 H1 F2 H2/\Gr F1 (upd H1 P (.lst [])) F2 (upd H2 P (.lst []))/\F2 P=none/\H2 P=some (.lst ys)/\AtL F2 done ys/\done.length<=i/\∃ more,lcD b ft fe ρ (ds.drop i)=some more/\done++more=out,⟨ds.length,by simp,u0g _,F1,[],Gr.hide g1.fh hP _,?_,hF1,zp,.nil,u0g _,out,e2,rfl⟩,?_⟩
 .rw[zbE]
  exact .refl λb u z=>by rw[zo (zm z hF1)];exact g1.fh b u z
 rintro i m ys H2 ⟨rfl,hi,F2,done,g2,g2',hF2,hH2,al,hdl,more,hm,hout⟩
 obtain⟨stop,go⟩:=ok i F2 H2 g2.ff g2.fh
 by_cases hlt:i < ds.length
 .have hd:ds.drop i=ds[i]::ds.drop (i+1):=u0p hlt
  rw[hd]at hm
  unfold lcD at hm
  obtain⟨own,hb,hm⟩:=u0.mp hm
  obtain⟨cb,hc,hm⟩:=u0.mp hm
  obtain⟨k1,k2⟩:=go ds[i] (by simp[hlt])
  refine .inr ⟨k1,by rw[al.length];omega,λx H3 hy=>?_⟩
  obtain⟨F3,g3,a3⟩:=k2 x H3 hy
  refine rg σ ρ F3 H3 ds[i] x own _ g3.fh (va.mono (g1.ff.trans (g2.ff.trans g3.ff))) a3 hb fun σ4 va4=>?_
  refine rt σ4 _ F3 H3 cb _ g3.fh va4 hc λF5 H5 g5=>?_
  have g35:=g3.trans g5
  obtain⟨n5,h5⟩:=g35.kl (λ_ e=>by cases e) hF2 hH2
  have keep2:∀ {F6 H6:Hp} {o:HO},Gr F2 H2 F6 H6->F6 P=none->Gr F1 (upd H1 P (.lst [])) F6 (upd (upd H6 P o) P (.lst [])):=λ{F6 H6 o} g6 n6=>by
   rw[zbE]
   refine⟨g2.ff.trans g6.ff,λb u z=>?_,λb u z1 z2=>?_⟩
   .rw[zo (zm z n6)];exact g6.fh b u z
   .by_cases hbP:b=P
    .subst hbP
     rw[zp]at z2 ⊢
     exact⟨.inl n6,z2⟩
    .rw[zo hbP]at z2 ⊢
     exact(g2.trans g6).kp b u z1 z2
  have keep1:∀ {F6 H6:Hp} {o:HO},Gr F2 H2 F6 H6->F6 P=none->Gr F1 H1 F6 (upd H6 P o):=λ{F6 H6 o} g6 n6=>by
   refine⟨g2.ff.trans g6.ff,λb u z=>?_,λb u z1 z2=>?_⟩
   .rw[zo (zm z n6)];exact g6.fh b u z
   .rw[zo (zm z2 hP)]
    exact(g2.trans g6).kp b u z1 z2
  cases cb with
  | false =>
   rw[u9 u4]at hm ⊢
   have ups:H5=upd H5 P (.lst ys):=by
    funext b
    by_cases hbP:b=P
    .subst hbP;rw[zp];exact h5
    .rw[zo hbP]
   refine⟨ds.length - (i+1),by omega,rfl,hlt,F5,done,?_,?_,n5,h5,al.mono g35.ff,by omega,more,hm,hout⟩
   .rw[ups];exact keep1 g35 n5
   .have:=keep2 (o:=.lst ys) g35 n5
    rw[<-ups]at this
    exact this
  | true =>
   rw[u8 rfl]at hm ⊢
   obtain⟨y,hy,hm⟩:=u0.mp hm
   obtain⟨rest,hm',rfl⟩:=t8.mp hm
   refine re σ4 _ F5 H5 y _ g5.fh (va4.mono g5.ff) hy λF6 H6 v g6 a6=>?_
   have g36:=g35.trans g6
   obtain⟨n6,h6⟩:=g36.kl (λ_ e=>by cases e) hF2 hH2
   refine⟨h6,ds.length - (i+1),by omega,rfl,hlt,F6,done++[y],keep1 g36 n6,keep2 g36 n6,n6,zp,(al.mono g36.ff).snoc a6,by rw[r9];simp;omega,rest,hm',by rw[<-hout,g8];rfl⟩
 .have e:i=ds.length:=by omega
  subst e
  rw[u1W]at hm
  cases hm
  rw[u1o]at hout
  subst hout
  exact .inl ⟨stop rfl,q F2 H2 P ys (g1.trans g2) hH0 hF2 hH2 al⟩
theorem rb1:RB 1 (Y9 0) b1:=by
 intro σ ρ F H d v own Q s va av e q
 cases e
 refine q _ λi d' h=>?_
 cases i with
 | zero=>cases h;exact⟨v,rfl,av⟩
 | succ i=>exact va i d' h
theorem rb2 {K:W.Frag}:RB 2 (zlU K 2 (zbP (Y9 0) (zbP (Y9 1) zlW))) b2:=by
 intro σ ρ F H d v own Q s va av e q
 unfold b2 at e
 split at e <;> cases e
 obtain⟨p,xs,rfl,hx,al⟩:=av.tup_inv
 obtain⟨x,r,rfl,ax,al⟩:=al.cons_inv
 obtain⟨y,r,rfl,ay,al⟩:=al.cons_inv
 cases al.nil_inv
 refine⟨p,_,rfl,SqT.of (s _ _ hx),rfl,x,_,rfl,y,_,rfl,rfl,?_⟩
 refine q _ λi d' h=>?_
 match i,h with
 | 0,h=>cases h;exact⟨x,rfl,ax⟩
 | 1,h=>cases h;exact⟨y,rfl,ay⟩
 | i+2,h=>exact va i d' h
def tCan (f:Ev->Option D):TE:=fun σ H Q=>∃ ρ F d,yI F H/\VAt F ρ σ/\f ρ=some d/\∀ F' H' v,Gr F H F' H'->At F' d v->Q v H'
def zki (f:Ev->Option Bool):TT:=fun σ H Q=>∃ ρ F d,yI F H/\VAt F ρ σ/\f ρ=some d/\∀ F' H',Gr F H F' H'->Q d H'
theorem ED.can {X:Cx}{e:Expr}{f:Ev->Option D}(h:ED X e f):PE X e (tCan f):=by
 obtain⟨t,p,r⟩:=h
 rintro pins s σ H Q I ⟨ρ,F,d,h1,h2,h3,h4⟩
 exact p pins s σ H Q I (r σ ρ F H d Q h1 h2 h3 h4)
theorem TD.can {X:Cx}{e:Expr}{f:Ev->Option Bool}(h:TD X e f):PT X e (zki f):=by
 obtain⟨t,p,r⟩:=h
 rintro pins s σ H Q I ⟨ρ,F,d,h1,h2,h3,h4⟩
 exact p pins s σ H Q I (r σ ρ F H d Q h1 h2 h3 h4)
theorem zcK {f:Ev->Option D}:RE (tCan f) f:=λ_ ρ F _ d _ h1 h2 h3 h4=>⟨ρ,F,d,h1,h2,h3,h4⟩
theorem zir {f:Ev->Option Bool}:RT (zki f) f:=λ_ ρ F _ d _ h1 h2 h3 h4=>⟨ρ,F,d,h1,h2,h3,h4⟩
theorem zcQ {X:Cx}{elt tg iter:Expr}{L M:List Str}{scope:Scope}{cl:List (Str × Addr)}{pos:Pos}{fi:Ev->Option (List D)}{b:D->Option (List (Option D))}{fe:Ev->Option D}{g:TG}
 (hc:X.calm=true) (S:xv X L M scope cl) (hi:ID X tg iter fi)
 (hgS:∀ (σ:St) (v:V) (H:Hp) (Q:St->Hp->Prop),g v (List.replicate L.length none++σ) H Q->g v (List.replicate L.length none++σ) H (fun σ2 H2=>Zp (List.replicate L.length none++σ) σ2/\Q σ2 H2))
 (hrb:RB L.length g b)
 (hg:∀ s₀ H₀ ex pn,PG (VX X L M scope cl s₀ H₀ ex pn) tg g) (he:∀ s₀ H₀ ex pn,ED (VX X L M scope cl s₀ H₀ ex pn) elt fe)
 (hs:∀ x,foldedSetIterable iter X.env x=pure x:=by intro _;rfl):FL X (.ListComp elt [⟨tg,iter,[],0⟩] scope pos) (fLC fi b xU fe):=by
 obtain⟨wi,pi,ri⟩:=hi
 exact⟨_,zh8 hc S pi hgS hg (λ_ _ _ _=>zjn) (λ_ _ _ _=>(he _ _ _ _).can) hs,zju ri hrb zkg zcK⟩
theorem ze0 {X:Cx}{elt tg iter c:Expr}{L M:List Str}{scope:Scope}{cl:List (Str × Addr)}{pos:Pos}{fi:Ev->Option (List D)}{b:D->Option (List (Option D))}{ft:Ev->Option Bool}{fe:Ev->Option D}{g:TG}
 (hc:X.calm=true) (S:xv X L M scope cl) (hi:ID X tg iter fi)
 (hgS:∀ (σ:St) (v:V) (H:Hp) (Q:St->Hp->Prop),g v (List.replicate L.length none++σ) H Q->g v (List.replicate L.length none++σ) H (fun σ2 H2=>Zp (List.replicate L.length none++σ) σ2/\Q σ2 H2))
 (hrb:RB L.length g b)
 (hg:∀ s₀ H₀ ex pn,PG (VX X L M scope cl s₀ H₀ ex pn) tg g) (ht:∀ s₀ H₀ ex pn,TD (VX X L M scope cl s₀ H₀ ex pn) c ft) (he:∀ s₀ H₀ ex pn,ED (VX X L M scope cl s₀ H₀ ex pn) elt fe)
 (hs:∀ x,foldedSetIterable iter X.env x=pure x:=by intro _;rfl):FL X (.ListComp elt [⟨tg,iter,[c],0⟩] scope pos) (fLC fi b ft fe):=by
 obtain⟨wi,pi,ri⟩:=hi
 exact⟨_,zh8 hc S pi hgS hg (λ_ _ _ _=>zff (ht _ _ _ _).can) (λ_ _ _ _=>(he _ _ _ _).can) hs,zju ri hrb zir zcK⟩
theorem zlF {t:TE}{f:Ev->Option (List D)}(r:RF t f):RE t (ww f):=by
 intro σ ρ F H d Q s va e q
 obtain⟨ds,e1,rfl⟩:=t8.mp e
 refine r σ ρ F H ds Q s va e1 λF' H' p xs g h0 hF hH hx=>?_
 have g2:=g.show h0 hF hH
 exact q _ _ _ g2 (At.lst zp (hx.mono (λb u e=>by rw[zo (zm e hF)];exact e)))
def FLS (X:Cx)(i:Nat)(st:Stmt)(f:Ev->Option (List D)):Prop:=∃ t,PS X st (zmc t (Y9 i))/\RF t f
theorem zi8 {m:Bool}{i:Nat}{st:Stmt}{f:Ev->Option (List D)}(he:FLS X i st f):SD X st (xE m i (ww f)):=by
 obtain⟨t,p,r⟩:=he
 refine⟨_,p,λFb Hb F H ρ σ E rl k=>?_⟩
 unfold xE at k
 cases h:vEv m (ww f) ρ with
 | none=>rw[h]at k;exact k.elim
 | some d =>
  rw[h]at k
  exact(zlF r).at rl h λF' H' v g av=>k F' H' _ ((rl.grow g).set av)
theorem zjP {i:Nat}{x:Str}{px spos:Pos}{X:Cx}{elt tg iter c:Expr}{L M:List Str}{scope:Scope}{cl:List (Str × Addr)}{pos:Pos}{fi:Ev->Option (List D)}{b:D->Option (List (Option D))}{ft:Ev->Option Bool}{fe:Ev->Option D}{g:TG}
 (hN:X.N.Nodup) (hi':X.N[i]?=some x) (hx:Loc X.env.scope x) (hc:X.calm=true) (S:xv X L M scope cl) (hi:ID X tg iter fi)
 (hgS:∀ (σ:St) (v:V) (H:Hp) (Q:St->Hp->Prop),g v (List.replicate L.length none++σ) H Q->g v (List.replicate L.length none++σ) H (fun σ2 H2=>Zp (List.replicate L.length none++σ) σ2/\Q σ2 H2))
 (hrb:RB L.length g b)
 (hg:∀ s₀ H₀ ex pn,PG (VX X L M scope cl s₀ H₀ ex pn) tg g) (ht:∀ s₀ H₀ ex pn,TD (VX X L M scope cl s₀ H₀ ex pn) c ft) (he:∀ s₀ H₀ ex pn,ED (VX X L M scope cl s₀ H₀ ex pn) elt fe)
 (hs:∀ x,foldedSetIterable iter X.env x=pure x:=by intro _;rfl)
 (hsw:swapsWith (.ListComp elt [⟨tg,iter,[c],0⟩] scope pos) (some (.Name x px)) spos.line X.env=pure true:=by rfl)
 (hf:X.fn x=true\/X.env.scope.names.lookup x=some .local:=by first | exact .inl rfl | exact .inr rfl | assumption):FLS X i (.Assign [.Name x px] (.ListComp elt [⟨tg,iter,[c],0⟩] scope pos) spos) (fLC fi b ft fe):=by
 obtain⟨wi,pi,ri⟩:=hi
 exact⟨_,zkp hN hi' hx hc S pi hgS hg (λ_ _ _ _=>zff (ht _ _ _ _).can) (λ_ _ _ _=>(he _ _ _ _).can) hs hsw hf,zju ri hrb zir zcK⟩
def fnD (n:Nat)(g:SE->Ctl)(ds:List D):Option D:=match g (ds.map .v++List.replicate (n - ds.length) .no) with
 | .rt d=>some d
 | .nx _=>some .non
 | _=>none
def spD (m:Nat)(p:List D->Option D):Sp:=λvs H Q _=>∃ ds d F,ds.length=m/\yI F H/\AtL F ds vs/\p ds=some d/\∀ F' H' v,Gr F H F' H'->At F' d v->Q v H'
theorem zck {F H:Hp}{N:List Str}{ds:List D}{vs:List V}(s:yI F H)(a:AtL F ds vs):Rl F H F H (ds.map .v++List.replicate (N.length - ds.length) .no) (L2.start N vs):=by
 have hl:=a.length
 have noO:∀ (i:Nat) (t:Sl),(ds.map Sl.v++List.replicate (N.length - ds.length) Sl.no)[i]?=some t->t.isO=true->False:=λi t h ho=>by
  by_cases hi:i < ds.length
  .rw[u0q (by simpa using hi),j9]at h
   cases e:ds[i]? with
   | none=>rw[e]at h;cases h
   | some d=>rw[e]at h;cases h;cases ho
  .rw[u0e (by simpa using hi),u0T]at h
   split at h <;> cases h
   cases ho
 refine⟨.refl s,λi d h=>?_,λi t h ho=>(noO i t h ho).elim,λi j p t u h _ ho=>(noO i t h ho).elim,?_⟩
 .by_cases hi:i < ds.length
  .rw[u0q (by simpa using hi),j9]at h
   cases e:ds[i]? with
   | none=>rw[e]at h;cases h
   | some d' =>
    rw[e]at h
    cases h
    obtain⟨x,hx,ax⟩:=a.get e
    refine⟨x,?_,ax⟩
    unfold L2.start
    rw[u0q (by simpa [hl]using hi),j9,hx]
    rfl
  .rw[u0e (by simpa using hi),u0T]at h
   split at h <;> cases h
 .unfold L2.start
  simp[hl]
theorem yR {P:Program}{w:World}{K:W.Frag}{mg:Str->Option Value}{base:Heap}{x qual:Str}{st:Stmt}{f:Addr}{fd:FuncData}{N ps:List Str}{k:Nat}{g:SE->Ctl}(Fu:Fun K x qual st f fd)(S:zt N ps (zk st))
 (hb:∀ (cdv:Value) (A:Around) (outer:List Env) (s:Shared) (H:Hp) (E:XK),vf k (A.deeper (PyProof.Rows.envOfC qual (zk st) s.heap.objs.size f cdv))->SDs (zhN CX0 P w K mg base N qual (zk st) f cdv A outer s H E).nox (wq st) g) :
 xo P w K mg base CX0 (k+1) f fd ps (spD ps.length (fnD N.length g)):=by
 refine Fu.ok S (λvs H Q E h=>?_) λcdv A outer s H vs Q E hr h=>?_
 .obtain⟨ds,d,F,hl,_,a,_⟩:=h
  rw[a.length];exact hl
 .obtain⟨ds,d,F,hl,sm,a,e,q⟩:=h
  obtain⟨t,p,r⟩:=hb cdv A outer s H E hr
  refine⟨t,p,r F H F H _ _ _ (zck sm a) ?_⟩
  unfold fnD at e
  cases hg:g (ds.map .v++List.replicate (N.length - ds.length) .no) with
  | rt d'=>rw[hg]at e;cases e;exact λF' H' v g av=>q F' H' v g av
  | nx ρ=>rw[hg]at e;cases e;exact λF' H' σ rl=>q F' H' _ rl.gr .non
  | bk ρ=>rw[hg]at e;cases e
  | ct ρ=>rw[hg]at e;cases e
  | no=>rw[hg]at e;cases e
theorem wj {P:Program}{w:World}{K:W.Frag}{mg:Str->Option Value}{base:Heap}{f:Addr}{fd:FuncData}{ps:List Str}{k m:Nat}{p q:List D->Option D}(F:xo P w K mg base CX0 k f fd ps (spD m p))(h:∀ ds d,ds.length=m->q ds=some d->p ds=some d):xo P w K mg base CX0 k f fd ps (spD m q) :=
 F.imp λvs H Q E ⟨ds,d,F',h1,h2,h3,h4,h5⟩=>⟨ds,d,F',h1,h2,h3,h ds d h1 h4,h5⟩
def zq (m:Nat)(p:List D->Option D)(f:Ev->Option (List D)):Ev->Option D:=fun ρ=>(f ρ).bind λds=>if ds.length=m then p ds else none
theorem zjb {X:Cx}{x:Str}{k m:Nat}{f:Addr}{fd:FuncData}{ps:List Str}{p:List D->Option D}{e:Expr}{es:List Expr}{pp pos:Pos}{fa:Ev->Option (List D)}(F:xo X.prog X.w X.K X.mg X.base CX0 k f fd ps (spD m p))(hr:vf k X.A)(hg:Gl X x)(hm:X.mg x=some (.ref f))(hk:W.keepIn X.K (.ref f)=true)(hb:zbq X.K fd ps [])
 (ha:AD X (e::es) fa) (hdb:(x == ("__debug__":Str))=false:=by decide) (he:starEach (e::es) X.env=(false,eval e X.env)::starEach es X.env:=by rfl) (hpl:(backTo pos (starEach es X.env)).any (·.1)=false:=by rfl) :
 ED X (.Call (.Name x pp) (e::es) [] pos) (zq m p fa):=by
 obtain⟨t,pa,r⟩:=ha
 refine⟨_,zi7 F hr hg hm hk hb .nil zmk pa hdb he hpl,fun σ ρ F0 H d Q s va e q=>?_⟩
 obtain⟨ds,e1,e2⟩:=u0.mp e
 split at e2 <;> try cases e2
 rename_i hl
 refine r σ ρ F0 H ds _ s va e1 λF1 H1 vs g1 a1=>?_
 refine⟨ds,d,F1,hl,g1.fh,by rw[u1o];exact a1,e2,λF' H' v g av=>q F' H' v (g1.trans g) av⟩
end Dl
namespace Dl
open PySem L2
variable [KK]
section
variable {X:Cx}{a b c e:Expr}{pos:Pos}
theorem VB:bootBuiltins "isinstance"=some (.builtin "isinstance"):=by decide +kernel
theorem XB:bootBuiltins "len"=some (.builtin "len"):=by decide +kernel
theorem zic:bootBuiltins "min"=some (.builtin "min"):=by decide +kernel
theorem zao:bootBuiltins "max"=some (.builtin "max"):=by decide +kernel
theorem XM:bootBuiltins "sorted"=some (.builtin "sorted"):=by decide +kernel
theorem zhV:bootBuiltins "sum"=some (.builtin "sum"):=by decide +kernel
theorem zkV:bootBuiltins "all"=some (.builtin "all"):=by decide +kernel
theorem zlf:bootBuiltins "int"=some (.type "int"):=by decide +kernel
theorem ziS:bootBuiltins "bool"=some (.type "bool"):=by decide +kernel
theorem yF:bootBuiltins "tuple"=some (.type "tuple"):=by decide +kernel
theorem ziG:bootBuiltins "list"=some (.type "list"):=by decide +kernel
theorem zaE:bootBuiltins "enumerate"=some (.type "enumerate"):=by decide +kernel
theorem zbx:bootBuiltins "reversed"=some (.type "reversed"):=by decide +kernel
def V1 (C:Int->Int->Bool)(g:Int->Int->Int):D->D->Option D
 | .int i,.int j=>if C i j=true then some (.int (g i j))else none
 | _,_=>none
def vL (g:Int->Int->Int):D->D->Option D
 | .int i,.int j=>some (.int (g i j))
 | _,_=>none
def VU (g:Int->Int->Bool):D->D->Option D
 | .int i,.int j=>some (.bl (g i j))
 | _,_=>none
theorem VH {C:Int->Int->Prop}{Cb:Int->Int->Bool}{g:Int->Int->Int}(h:∀ i j,Cb i j=true->C i j):OpD (rI C λi j=>.int (g i j)) (V1 Cb g):=by
 intro F H x y d e z Q s ax ay ez q
 cases d <;> try cases ez
 cases e <;> try cases ez
 unfold V1 at ez
 dsimp only at ez
 split at ez <;> cases ez
 rename_i hc
 exact⟨_,_,ax.int_inv,ay.int_inv,h _ _ hc,q F H _ (.refl s) .int⟩
theorem V8 {g:Int->Int->Int}:OpD (rI0 λi j=>.int (g i j)) (vL g):=by
 intro F H x y d e z Q s ax ay ez q
 cases d <;> try cases ez
 cases e <;> try cases ez
 exact⟨_,_,ax.int_inv,ay.int_inv,q F H _ (.refl s) .int⟩
theorem yj {g:Int->Int->Bool}:OpD (rI0 λi j=>.bl (g i j)) (VU g):=by
 intro F H x y d e z Q s ax ay ez q
 cases d <;> try cases ez
 cases e <;> try cases ez
 exact⟨_,_,ax.int_inv,ay.int_inv,q F H _ (.refl s) .bl⟩
theorem zav {r r':R2}{g g':D->D->Option D}(h:OpD r g)(h':OpD r' g'):OpD (λx y H Q=>r x y H Q\/r' x y H Q) (λd e=>(g d e).or (g' d e)):=by
 intro F H x y d e z Q s ax ay ez q
 dsimp only at ez
 cases hg:g d e with
 | some z'=>rw[hg]at ez;cases ez;exact .inl (h F H x y d e z Q s ax ay hg q)
 | none=>rw[hg]at ez;exact .inr (h' F H x y d e z Q s ax ay ez q)
def zj9:D->D->Option D
 | .tup a,.tup b=>if lim (a.length+b.length)=true then some (.tup (a++b))else none
 | _,_=>none
def zlh:D->D->Option (List D)
 | .lst a,.lst b=>if lim (a.length+b.length)=true then some (a++b)else none
 | _,_=>none
def zd2 (d e:D):Option D:=(zlh d e).map .lst
def zlC:D->D->Option D
 | .str a,.str b=>if lim (a.length+b.length)=true then some (.str (a++b))else none
 | _,_=>none
theorem zgC {K:W.Frag}:OpD (zig K) zj9:=by
 intro F H x y d e z Q s ax ay ez q
 cases d <;> try cases ez
 cases e <;> try cases ez
 unfold zj9 at ez
 dsimp only at ez
 split at ez <;> cases ez
 rename_i hl
 obtain⟨p,xs,rfl,hx,al⟩:=ax.tup_inv
 obtain⟨p2,ys,rfl,hy,bl⟩:=ay.tup_inv
 refine⟨p,p2,xs,ys,rfl,rfl,SqT.of (s _ _ hx),SqT.of (s _ _ hy),by rw[al.length,bl.length];exact b7 hl,λe1=>?_,λ_ e2=>?_,λ_ _ r hr=>?_⟩
 .subst e1
  have:(_:List D)=[]:=u0U.mp al.length.symm
  subst this
  exact q F H _ (.refl s) (.tup hy bl)
 .subst e2
  have:(_:List D)=[]:=u0U.mp bl.length.symm
  subst this
  rw[u1o]at q
  exact q F H _ (.refl s) (.tup hx al)
 .have g:=Gr.alloc s hr (.tup (xs++ys))
  exact q _ _ _ g (.tup zp ((al.append bl).mono g.ff))
theorem zhl:OpD rCat zd2:=by
 intro F H x y d e z Q s ax ay ez q
 cases d <;> try cases ez
 cases e <;> try cases ez
 unfold zd2 zlh at ez
 dsimp only at ez
 split at ez <;> cases ez
 rename_i hl
 obtain⟨p,xs,rfl,hx,al⟩:=ax.lst_inv
 obtain⟨p2,ys,rfl,hy,bl⟩:=ay.lst_inv
 refine⟨p,p2,xs,ys,rfl,rfl,s _ _ hx,s _ _ hy,by rw[al.length,bl.length];exact b7 hl,λr hr=>?_⟩
 have g:=Gr.alloc s hr (.lst (xs++ys))
 exact q _ _ _ g (.lst zp ((al.append bl).mono g.ff))
theorem zhh:OpD (λx y H Q=>∃ i j,x=.str i/\y=.str j/\i.length+j.length<=sizeLine/\Q (.str (i++j)) H) zlC:=by
 intro F H x y d e z Q s ax ay ez q
 cases d <;> try cases ez
 cases e <;> try cases ez
 unfold zlC at ez
 dsimp only at ez
 split at ez <;> cases ez
 rename_i hl
 exact⟨_,_,ax.str_inv,ay.str_inv,b7 hl,q F H _ (.refl s) .str⟩
def x5:D->D->Option D
 | .int i,.int j=>some (.int (i+j))
 | .tup a,.tup b=>if lim (a.length+b.length)=true then some (.tup (a++b))else none
 | .lst a,.lst b=>if lim (a.length+b.length)=true then some (.lst (a++b))else none
 | .str a,.str b=>if lim (a.length+b.length)=true then some (.str (a++b))else none
 | _,_=>none
theorem zbo {r:R2}{g g':D->D->Option D}(h:OpD r g)(k:∀ d e z,g' d e=some z->g d e=some z):OpD r g':=λF H x y d e z Q s ax ay ez q=>h F H x y d e z Q s ax ay (k d e z ez) q
theorem yf {f h:Ev->Option D}(ha:ED X a f)(hb:ED X b h):ED X (.BinOp a .Add b pos) (zn x5 f h) :=
 zau (((zkq.or zg8).or zlG).or zdo) (zbo (zav (zav (zav (V8 (g:=λi j=>i+j)) zgC) zhl) zhh) λd e z h=>by
  cases d <;> try cases h
  all_goals cases e <;> try cases h
  .rfl
  .unfold x5 at h;dsimp only at h;split at h <;> cases h;rename_i hl;simp[vL,zj9,hl,zd2,zlh,zlC]
  .unfold x5 at h;dsimp only at h;split at h <;> cases h;rename_i hl;simp[vL,zj9,hl,zd2,zlh,zlC]
  .unfold x5 at h;dsimp only at h;split at h <;> cases h;rename_i hl;simp[vL,zj9,hl,zd2,zlh,zlC]) ha hb
def zlp (g:D->D->Option (List D))(f h:Ev->Option D):Ev->Option (List D):=fun ρ=>(f ρ).bind λx=>(h ρ).bind λy=>g x y
theorem zbV {F H F1 H1:Hp}{p:Addr}(g1:Gr F H F1 H1)(hp:H1 p=none):H p=none:=by
 cases e:H p with
 | none=>rfl
 | some o =>
  cases e2:F p with
  | none=>rw[(g1.kp p o e2 e).2]at hp;cases hp
  | some u=>rw[g1.fh _ _ (g1.ff _ _ e2)]at hp;cases hp
def ZE (i j:Int):Bool:=decide ((-(2 ^ 64) < i/\i < 2 ^ 64)\/(-(2 ^ 64) < j/\j < 2 ^ 64))
def zf6:D->D->Option (List D)
 | .lst a,.int k=>if -(2 ^ 63)<=k/\k < 2 ^ 63/\lim (a.length*k.toNat)=true then some (List.replicate k.toNat a).flatten else none
 | _,_=>none
def zgX (d e:D):Option D:=(zf6 d e).map .lst
def vN:D->D->Option D
 | .int i,.int j=>if ZE i j=true then some (.int (i*j))else none
 | .lst a,.int k=>if -(2 ^ 63)<=k/\k < 2 ^ 63/\lim (a.length*k.toNat)=true then some (.lst (List.replicate k.toNat a).flatten)else none
 | _,_=>none
theorem zgt:OpD rRep zgX:=by
 intro F H x y d e z Q s ax ay ez q
 cases d <;> try cases ez
 cases e <;> try cases ez
 unfold zgX zf6 at ez
 dsimp only at ez
 split at ez <;> cases ez
 rename_i hl
 obtain⟨p,xs,rfl,hx,al⟩:=ax.lst_inv
 refine⟨p,_,xs,rfl,ay.int_inv,s _ _ hx,hl.1,hl.2.1,by rw[al.length];exact b7 hl.2.2,λr hr=>?_⟩
 rename_i ds k
 have g:=Gr.alloc s hr (.lst (List.replicate k.toNat xs).flatten)
 exact q _ _ _ g (.lst zp ((al.rep _).mono g.ff))
theorem ZU {f h:Ev->Option D}(ha:ED X a f)(hb:ED X b h):ED X (.BinOp a .Mult b pos) (zn vN f h) :=
 zau (zk6.or zih) (zbo (zav (VH (Cb:=ZE) (g:=λi j=>i*j) λi j h=>by have h':=b7 (show decide ((-(2 ^ 64) < i/\i < 2 ^ 64)\/(-(2 ^ 64) < j/\j < 2 ^ 64))=true from h);exact h') zgt) λd e z h=>by
  cases d <;> try cases h
  all_goals cases e <;> try cases h
  .unfold vN at h;dsimp only at h;split at h <;> cases h;rename_i hl;simp[V1,hl]
  .unfold vN at h;dsimp only at h;split at h <;> cases h;rename_i hl;show(zgX _ _)=_;unfold zgX zf6;dsimp only;rw[u8 hl];rfl) ha hb
theorem zfZ {f h:Ev->Option D}(ha:ED X a f)(hb:ED X b h):FL X (.BinOp a .Mult b pos) (zlp zf6 f h):=by
 obtain⟨ta,pa,ra⟩:=ha
 obtain⟨tb,pb,rb⟩:=hb
 refine⟨_,zlJ zih pa pb,fun σ ρ F H z Q s va e q=>?_⟩
 obtain⟨x,e1,e3⟩:=u0.mp e
 obtain⟨y,e2,ez⟩:=u0.mp e3
 clear e e3
 refine ra σ ρ F H x _ s va e1 λF1 H1 v g1 a1=>?_
 refine rb σ ρ F1 H1 y _ g1.fh (va.mono g1.ff) e2 λF2 H2 u g2 a2=>?_
 cases x <;> try cases ez
 cases y <;> try cases ez
 unfold zf6 at ez
 dsimp only at ez
 split at ez <;> cases ez
 rename_i hl
 obtain⟨p,xs,rfl,hx,al⟩:=(a1.mono g2.ff).lst_inv
 refine⟨p,_,xs,rfl,a2.int_inv,g2.fh _ _ hx,hl.1,hl.2.1,by rw[al.length];exact b7 hl.2.2,λr hr=>?_⟩
 exact q _ _ _ _ ((g1.trans g2).trans (Gr.hide g2.fh hr _)) (zbV (g1.trans g2) hr) (g2.fh.free hr) zp (al.rep _)
def Xs:=vL λi j=>i - j
def xJ:=V1 (λ_ j=>decide (0 < j/\j < 1606938044258990275541962092341162602522202993782792835301376)) λi j=>i / j
def xK:=V1 (λ_ j=>decide (0 < j)) λi j=>i % j
theorem WF {f h:Ev->Option D}(ha:ED X a f)(hb:ED X b h):ED X (.BinOp a .Sub b pos) (zn Xs f h):=zau zkw V8 ha hb
theorem zhw:OpR X (binaryOp .FloorDiv) (rI (λ_ j=>0 < j/\j < 1606938044258990275541962092341162602522202993782792835301376) λi j=>.int (i / j)):=opI λi j _ _ _ _ _ hc q=>by
 have h1:(0:Int) < j:=hc.1
 have h2:j < 1606938044258990275541962092341162602522202993782792835301376:=hc.2
 refine PyProof.Rows.floordiv_int (by omega) (by rw[Int.fdiv_eq_ediv_of_nonneg i (by omega)];exact q) (.inl (PyProof.noPylong_of_log2 ?_))
 have h0:j.natAbs≠0:=by omega
 have h3:j.natAbs < 1606938044258990275541962092341162602522202993782792835301376:=by omega
 have h4:j.natAbs.log2 < 200:=(Nat.log2_lt h0).mpr h3
 omega
theorem ZA {f h:Ev->Option D}(ha:ED X a f)(hb:ED X b h):ED X (.BinOp a .FloorDiv b pos) (zn xJ f h):=zau zhw (VH λ_ _ h=>by have h':=b7 h;exact h') ha hb
theorem xL {f h:Ev->Option D}(ha:ED X a f)(hb:ED X b h):ED X (.BinOp a .Mod b pos) (zn xK f h):=zau zlA (VH λ_ _ h=>by have h':=b7 h;exact h') ha hb
def ltD:=VU λi j=>decide (i < j)
def leD:=VU λi j=>decide (i<=j)
def gtD:=VU λi j=>decide (j < i)
def geD:=VU λi j=>decide (j<=i)
def eqS:D->D->Option Bool
 | .non,.non=>some true
 | .int i,.int j=>some (decide (i=j))
 | .bl i,.bl j=>some (decide (i=j))
 | .str i,.str j=>some (decide (i=j))
 | .non,.int _=>some false | .int _,.non=>some false | .non,.bl _=>some false | .bl _,.non=>some false | .non,.str _=>some false | .str _,.non=>some false
 | .int _,.str _=>some false | .str _,.int _=>some false | .bl _,.str _=>some false | .str _,.bl _=>some false
 | _,_=>none
def eqD (d e:D):Option D:=(eqS d e).map .bl
def neD (d e:D):Option D:=(eqS d e).map λc=>.bl (!c)
theorem zh5:OpD rEq eqD:=by
 intro F H x y d e z Q s ax ay ez q
 obtain⟨c,e1,rfl⟩:=t8.mp ez
 cases d <;> cases e <;> try cases e1
 .cases ax.non_inv;cases ay.non_inv;exact⟨rfl,q F H _ (.refl s) .bl⟩
 .cases ax.non_inv;cases ay.bl_inv;exact⟨rfl,q F H _ (.refl s) .bl⟩
 .cases ax.non_inv;cases ay.int_inv;exact⟨rfl,q F H _ (.refl s) .bl⟩
 .cases ax.non_inv;cases ay.str_inv;exact⟨rfl,q F H _ (.refl s) .bl⟩
 .cases ax.bl_inv;cases ay.non_inv;exact⟨rfl,q F H _ (.refl s) .bl⟩
 .cases ax.bl_inv;cases ay.bl_inv;refine⟨rfl,?_⟩;rw[show ∀ i j:Bool,decide (V.bl i=V.bl j)=decide (i=j)from λi j=>by simp];exact q F H _ (.refl s) .bl
 .cases ax.bl_inv;cases ay.str_inv;exact⟨rfl,q F H _ (.refl s) .bl⟩
 .cases ax.int_inv;cases ay.non_inv;exact⟨rfl,q F H _ (.refl s) .bl⟩
 .cases ax.int_inv;cases ay.int_inv;refine⟨rfl,?_⟩;rw[show ∀ i j:Int,decide (V.int i=V.int j)=decide (i=j)from λi j=>by simp];exact q F H _ (.refl s) .bl
 .cases ax.int_inv;cases ay.str_inv;exact⟨rfl,q F H _ (.refl s) .bl⟩
 .cases ax.str_inv;cases ay.non_inv;exact⟨rfl,q F H _ (.refl s) .bl⟩
 .cases ax.str_inv;cases ay.bl_inv;exact⟨rfl,q F H _ (.refl s) .bl⟩
 .cases ax.str_inv;cases ay.int_inv;exact⟨rfl,q F H _ (.refl s) .bl⟩
 .cases ax.str_inv;cases ay.str_inv;refine⟨rfl,?_⟩;rw[show ∀ i j:Str,decide (V.str i=V.str j)=decide (i=j)from λi j=>by simp];exact q F H _ (.refl s) .bl
theorem zal:OpD rNe neD:=by
 intro F H x y d e z Q s ax ay ez q
 obtain⟨c,e1,rfl⟩:=t8.mp ez
 have:=zh5 F H x y d e (.bl c) (λv H'=>∃ b,v=.bl b/\Q (.bl (!b)) H') s ax ay (by unfold eqD;rw[e1];rfl) λF' H' v g av=>⟨c,av.bl_inv,q F' H' _ g .bl⟩
 obtain⟨h1,b,h2,h3⟩:=this
 cases h2
 exact⟨h1,h3⟩
def WR:D->D->Option D
 | d,.non=>some (.bl (match d with | .non=>true | _=>false))
 | .bl a,.bl b=>some (.bl (a == b))
 | _,_=>none
def ya:D->D->Option D
 | d,.non=>some (.bl (match d with | .non=>false | _=>true))
 | .bl a,.bl b=>some (.bl (!(a == b)))
 | _,_=>none
theorem zeK {F:Hp}{d:D}{x:V}(h:At F d x):decide (x=V.non)=(match d with | .non=>true | _=>false):=by
 cases d with
 | non=>cases h.non_inv;rfl
 | bl b=>cases h.bl_inv;rfl
 | int b=>cases h.int_inv;rfl
 | str b=>cases h.str_inv;rfl
 | tup ds=>obtain⟨a,xs,rfl,_⟩:=h.tup_inv;rfl
 | lst ds=>obtain⟨a,xs,rfl,_⟩:=h.lst_inv;rfl
 | scr ds=>obtain⟨a,rfl,_⟩:=h.scr_inv;rfl
 | dct z t ks vs=>obtain⟨a,xs,rfl,_⟩:=h.dct_inv;rfl
theorem zdI:OpD (λx y H Q=>(y=.non/\Q (.bl (decide (x=.non))) H)\/∃ i j,x=.bl i/\y=.bl j/\Q (.bl (i == j)) H) WR:=by
 intro F H x y d e z Q s ax ay ez q
 unfold WR at ez
 split at ez
 .cases ez
  refine .inl ⟨ay.non_inv,?_⟩
  rw[zeK ax]
  have:=q F H _ (.refl s) .bl
  cases d <;> exact this
 .cases ez
  exact .inr ⟨_,_,ax.bl_inv,ay.bl_inv,q F H _ (.refl s) .bl⟩
 .cases ez
theorem WN:OpD (λx y H Q=>(y=.non/\Q (.bl (!decide (x=.non))) H)\/∃ i j,x=.bl i/\y=.bl j/\Q (.bl (!(i == j))) H) ya:=by
 intro F H x y d e z Q s ax ay ez q
 unfold ya at ez
 split at ez
 .cases ez
  refine .inl ⟨ay.non_inv,?_⟩
  rw[zeK ax]
  have:=q F H _ (.refl s) .bl
  cases d <;> exact this
 .cases ez
  exact .inr ⟨_,_,ax.bl_inv,ay.bl_inv,q F H _ (.refl s) .bl⟩
 .cases ez
theorem zhT:OpR X (compareOp .Is) (λx y H Q=>(y=.non/\Q (.bl (decide (x=.non))) H)\/∃ i j,x=.bl i/\y=.bl j/\Q (.bl (i == j)) H):=zkF.or zhF
theorem zaI:OpR X (compareOp .IsNot) (λx y H Q=>(y=.non/\Q (.bl (!decide (x=.non))) H)\/∃ i j,x=.bl i/\y=.bl j/\Q (.bl (!(i == j))) H):=zit.or zbH
def xX (g g':D->D->Option D)(f h k:Ev->Option D):Ev->Option D:=fun ρ=>(f ρ).bind λx=>(h ρ).bind λy=>((g x y).bind asB).bind λc=>if c=true then (k ρ).bind λz=>g' y z else some (.bl false)
theorem zhB {r r':R2}{g g':D->D->Option D}{ta tb tc:TE}{f h k:Ev->Option D}(hg:OpD r g)(hg':OpD r' g')(ra:RE ta f)(rb:RE tb h)(rc:RE tc k):RE (zf4 r r' ta tb tc) (xX g g' f h k):=by
 intro σ ρ F H z Q s va e q
 obtain⟨x,e1,e⟩:=u0.mp e
 obtain⟨y,e2,e⟩:=u0.mp e
 obtain⟨c,e3,e⟩:=u0.mp e
 obtain⟨cd,e3,e4⟩:=u0.mp e3
 cases Xm e4
 refine ra σ ρ F H x _ s va e1 λF1 H1 v g1 a1=>?_
 refine rb σ ρ F1 H1 y _ g1.fh (va.mono g1.ff) e2 λF2 H2 u g2 a2=>?_
 refine hg F2 H2 v u x y _ _ g2.fh (a1.mono g2.ff) a2 e3 λF3 H3 w g3 a3=>⟨c,a3.bl_inv,?_⟩
 have g123:=(g1.trans g2).trans g3
 cases c with
 | true =>
  rw[u8 rfl]at e ⊢
  obtain⟨z',e5,e6⟩:=u0.mp e
  refine rc σ ρ F3 H3 z' _ g3.fh (va.mono g123.ff) e5 λF4 H4 w4 g4 a4=>?_
  exact hg' F4 H4 u w4 y z' z Q g4.fh (a2.mono (g3.ff.trans g4.ff)) a4 e6 λF5 H5 w5 g5 a5=>q F5 H5 w5 ((g123.trans g4).trans g5) a5
 | false =>
  rw[u9 u4]at e ⊢
  cases e
  exact q F3 H3 _ g123 .bl
theorem zgW {op op':CmpOp}{r r':R2}{g g':D->D->Option D}{f h k:Ev->Option D}(ho:OpR X (compareOp op) r)(ho':OpR X (compareOp op') r')(hg:OpD r g)(hg':OpD r' g')(ha:ED X a f)(hb:ED X b h)(hc:ED X c k)
 (pch:∀ {ta tb tc:TE},PE X a ta->PE X b tb->PE X c tc->PE X (.Compare a [op,op'] [b,c] pos) (zf4 r r' ta tb tc)):ED X (.Compare a [op,op'] [b,c] pos) (xX g g' f h k) :=
 let ⟨_,pa,ra⟩:=ha
 let ⟨_,pb,rb⟩:=hb
 let ⟨_,pc,rc⟩:=hc
 ⟨_,pch pa pb pc,zhB hg hg' ra rb rc⟩
def zcB:List D->Option (List Int)
 | []=>some []
 | .int b::ds=>(zcB ds).map (b::·)
 | _=>none
omit [KK] in
theorem XG:∀ {ds:List D} {bs:List Int},zcB ds=some bs->ds=bs.map .int
 | [],bs,h=>by cases h;rfl
 | d::ds,bs,h=>by
  cases d <;> try cases h
  obtain⟨cs,h1,rfl⟩:=t8.mp h
  rw[XG h1]
  rfl
def leT:D->D->Option D
 | .tup a,.tup b=>(zcB a).bind λns=>(zcB b).map λms=>.bl (HT.lexLe ns ms)
 | _,_=>none
theorem ziB {K:W.Frag}:OpD (rLeT K) leT:=by
 intro F H x y d e z Q s ax ay ez q
 cases d <;> try cases ez
 cases e <;> try cases ez
 obtain⟨ns,e1,e2⟩:=u0.mp ez
 obtain⟨ms,e3,rfl⟩:=t8.mp e2
 rw[XG e1]at ax
 rw[XG e3]at ay
 obtain⟨p,xs,rfl,hx,al⟩:=ax.tup_inv
 obtain⟨p2,ys,rfl,hy,bl⟩:=ay.tup_inv
 cases al.of_ints
 cases bl.of_ints
 exact⟨p,p2,ns,ms,rfl,rfl,SqT.of (s _ _ hx),SqT.of (s _ _ hy),q F H _ (.refl s) .bl⟩
def ixD:D->D->Option D
 | .lst ds,.int i=>atI ds i
 | .tup ds,.int i=>atI ds i
 | .scr ns,.int i=>(atI ns i).map .int
 | _,_=>none
theorem AtL.atI {F:Hp}{ds:List D}{xs:List V}{i:Int}{d:D}(al:AtL F ds xs)(h:L2.atI ds i=some d):∃ x,L2.atI xs i=some x/\At F d x:=by
 unfold L2.atI at h ⊢
 obtain⟨j,e1,e2⟩:=u0.mp h
 obtain⟨x,hx,ax⟩:=al.get e2
 exact⟨x,by rw[al.length,e1];exact hx,ax⟩
theorem zk0:OpD (rIx KK.K) ixD:=by
 intro F H x y d e z Q s ax ay ez q
 cases e <;> try (cases d <;> cases ez)
 cases ay.int_inv
 cases d with
 | lst ds =>
  obtain⟨p,xs,rfl,hx,al⟩:=ax.lst_inv
  obtain⟨v,e1,av⟩:=al.atI ez
  exact .inl ⟨p,xs,_,v,rfl,rfl,SqL.of (s _ _ hx),e1,q F H _ (.refl s) av⟩
 | tup ds =>
  obtain⟨p,xs,rfl,hx,al⟩:=ax.tup_inv
  obtain⟨v,e1,av⟩:=al.atI ez
  exact .inr (.inl ⟨p,xs,_,v,rfl,rfl,SqT.of (s _ _ hx),e1,q F H _ (.refl s) av⟩)
 | scr ns =>
  obtain⟨p,rfl,hx⟩:=ax.scr_inv
  obtain⟨n,e1,rfl⟩:=t8.mp ez
  refine .inl ⟨p,ns.map V.int,_,.int n,rfl,rfl,s.seq hx,?_,q F H _ (.refl s) .int⟩
  unfold L2.atI at e1 ⊢
  rw[u6]
  obtain⟨j,e2,e3⟩:=u0.mp e1
  rw[e2]
  show(ns.map V.int)[j]?=_
  rw[j9,e3]
  rfl
 | _=>cases ez
theorem zF {f h:Ev->Option D}(ha:ED X a f)(hb:ED X b h)(hs:zfN b)(hK:X.K=KK.K:=by rfl):ED X (.Subscript a b pos) (zn ixD f h) :=
 let ⟨_,pa,ra⟩:=ha
 let ⟨_,pb,rb⟩:=hb
 ⟨_,zmN zlk pa pb hs,zhi (by rw[hK];exact zk0) ra rb⟩
def zdF {α:Type}(xs:List α)(lo hi:Option Int):List α:=(xs.drop (HT.sIx xs.length 0 lo)).take (HT.sIx xs.length xs.length hi - HT.sIx xs.length 0 lo)
theorem AtL.cut {F:Hp}{ds:List D}{xs:List V}{lo hi:Option Int}(al:AtL F ds xs):AtL F (zdF ds lo hi) (zbu xs lo hi):=by
 unfold zdF zbu
 rw[al.length]
 exact(al.drop _).take _
def OD (X:Cx)(e:Option Expr)(f:Ev->Option (Option Int)):Prop:=∃ t,PO X e t/\∀ (σ:St) (ρ:Ev) (F H:Hp) (i:Option Int) (Q:Option Int->Hp->Prop),yI F H->VAt F ρ σ->f ρ=some i->(∀ F' H',Gr F H F' H'->Q i H')->t σ H Q
def ZC:Ev->Option (Option Int):=λ_=>some none
def asI:D->Option Int
 | .int i=>some i
 | _=>none
def vy (f:Ev->Option D):Ev->Option (Option Int):=fun ρ=>((f ρ).bind asI).map some
theorem zeo {f:Ev->Option D}(h:ED X e f):OD X (some e) (vy f):=by
 obtain⟨t,p,r⟩:=h
 refine⟨_,zjm p,fun σ ρ F H i Q s va e q=>?_⟩
 obtain⟨j,e1,rfl⟩:=t8.mp e
 obtain⟨d,e1,e2⟩:=u0.mp e1
 cases d <;> cases e2
 exact r σ ρ F H _ _ s va e1 λF1 H1 v g1 a1=>⟨_,a1.int_inv,q F1 H1 g1⟩
def slD:D->Option Int->Option Int->Option D
 | .lst ds,lo,hi=>some (.lst (zdF ds lo hi))
 | .scr ns,lo,hi=>some (.lst ((zdF ns lo hi).map .int))
 | .tup ds,lo,hi=>some (.tup (zdF ds lo hi))
 | _,_,_=>none
def eSl (g:D->Option Int->Option Int->Option D)(f:Ev->Option D)(l h:Ev->Option (Option Int)):Ev->Option D:=fun ρ=>(f ρ).bind λd=>(l ρ).bind λlo=>(h ρ).bind λhi=>g d lo hi
omit [KK] in
theorem zhO {ns:List Int}{lo hi:Option Int}:zbu (ns.map V.int) lo hi=(zdF ns lo hi).map V.int:=by
 unfold zbu zdF
 rw[u6,List.map_take,List.map_drop]
end
end Dl
namespace L2
open PySem PySem.Spec PyProof.Rows
def rSlN:V->Option Int->Option Int->Hp->VK->Prop:=λx lo hi H Q=>∃ a xs,x=.ref a/\H a=some (.tup xs)/\(zbu xs lo hi=xs->Q (.ref a) H)/\∀ p,H p=none->Q (.ref p) (upd H p (.tup (zbu xs lo hi)))
theorem zji {X:Cx}:SlR X rSlN:=by
 intro pins s σ H x v vl vu lo hi sl Q I rx hs pl pu h
 obtain⟨a,xs,rfl,hx,q1,q2⟩:=h
 by_cases hw:HT.sIx xs.length 0 lo=0/\HT.sIx xs.length xs.length hi=xs.length
 .cases rx
  obtain⟨its,r,ht,hz⟩:=I.tuple (SqT.of hx)
  have hlen:its.toArray.size=xs.length:=by rw[j4];exact r.length.symm
  refine⟨"tuple",_,u0k.lookup,ht.typeIs,?_⟩
  refine HT.own_getItem_whole ht hs pl pu (by rw[hlen];exact hw) ⟨.ref a,H,I,rfl,q1 ?_⟩
  unfold zbu
  rw[hw.1,hw.2,u1T,Nat.sub_zero,u1Y]
 .exact zlc pins s σ H (.ref a) v vl vu lo hi sl Q I rx hs pl pu ⟨a,xs,rfl,SqT.of hx,hw,q2⟩
end L2
namespace Dl
open PySem L2
variable [KK]
section
variable {X:Cx}{a b c e:Expr}{pos:Pos}
theorem zgm {lo hi:Option Expr}{p2:Pos}{f:Ev->Option D}{l h:Ev->Option (Option Int)}(ha:ED X a f)(hl:OD X lo l)(hh:OD X hi h)(hK:X.K=KK.K:=by rfl):ED X (.Subscript a (.Slice lo hi none p2) pos) (eSl slD f l h):=by
 obtain⟨ta,pa,ra⟩:=ha
 obtain⟨tl,ppl,rl⟩:=hl
 obtain⟨th,ph,rh⟩:=hh
 refine⟨_,zhz (ziu.or zji) pa ppl ph,fun σ ρ F H z Q s va e q=>?_⟩
 obtain⟨d,e1,e⟩:=u0.mp e
 obtain⟨i,e2,e⟩:=u0.mp e
 obtain⟨j,e3,e⟩:=u0.mp e
 refine ra σ ρ F H d _ s va e1 λF1 H1 v g1 a1=>?_
 refine rl σ ρ F1 H1 i _ g1.fh (va.mono g1.ff) e2 λF2 H2 g2=>?_
 refine rh σ ρ F2 H2 j _ g2.fh (va.mono (g1.ff.trans g2.ff)) e3 λF3 H3 g3=>?_
 have g123:=(g1.trans g2).trans g3
 have a3:=a1.mono (g2.ff.trans g3.ff)
 cases d <;> try cases e
 .obtain⟨p,xs,rfl,hx,al⟩:=a3.tup_inv
  refine .inr ⟨p,xs,rfl,g3.fh _ _ hx,λec=>?_,λr hr=>?_⟩
  .have:=al.cut (lo:=i) (hi:=j)
   rw[ec]at this
   exact q F3 H3 _ g123 (.tup hx this)
  .have g:=Gr.alloc g3.fh hr (.tup (zbu xs i j))
   exact q _ _ _ (g123.trans g) (.tup zp (al.cut.mono g.ff))
 .obtain⟨p,xs,rfl,hx,al⟩:=a3.lst_inv
  refine .inl ⟨p,xs,rfl,SqL.of (g3.fh _ _ hx),λr hr=>?_⟩
  have g:=Gr.alloc g3.fh hr (.lst (zbu xs i j))
  exact q _ _ _ (g123.trans g) (.lst zp (al.cut.mono g.ff))
 .rename_i ns _ _
  obtain⟨p,rfl,hx⟩:=a3.scr_inv
  refine .inl ⟨p,_,rfl,(by rw[hK];exact g3.fh.seq hx),λr hr=>?_⟩
  rw[zhO]
  have g:=Gr.alloc g3.fh hr (.lst ((zdF ns i j).map V.int))
  exact q _ _ _ (g123.trans g) (.lst zp (.ints _))
def CaD (r:List V->Hp->VK->Prop)(g:List D->Option D):Prop:=∀ (F H:Hp) (vs:List V) (ds:List D) (z:D) (Q:VK),yI F H->AtL F ds vs->g ds=some z->(∀ F' H' v,Gr F H F' H'->At F' z v->Q v H')->r vs H Q
def eFn (g:List D->Option D)(f:Ev->Option (List D)):Ev->Option D:=fun ρ=>(f ρ).bind g
def fFn (g:List D->Option (List D))(f:Ev->Option (List D)):Ev->Option (List D):=fun ρ=>(f ρ).bind g
theorem zR {x:Str}{id:String}{p:Pos}{es:List Expr}{r:List V->Hp->VK->Prop}{g:List D->Option D}{f:Ev->Option (List D)}(hc:Ys X (.builtin id) r)(hg:CaD r g)(hgl:Gl X x)(hm:X.mg x=none)(hv:bootBuiltins x=some (.builtin id))(ha:AD X (e::es) f)
 (hn:x≠"__name__":=by decide) (hdb:(x == ("__debug__":Str))=false:=by decide) (he:starEach (e::es) X.env=(false,eval e X.env)::starEach es X.env:=by rfl) (hpl:(backTo pos (starEach es X.env)).any (·.1)=false:=by rfl) :
 ED X (.Call (.Name x p) (e::es) [] pos) (eFn g f):=by
 obtain⟨t,pa,ra⟩:=ha
 refine⟨_,Xe hc hgl hm hv pa hn hdb he hpl,fun σ ρ F H z Q s va e q=>?_⟩
 obtain⟨ds,e1,e2⟩:=u0.mp e
 refine ra σ ρ F H ds _ s va e1 λF1 H1 vs g1 a1=>?_
 exact hg F1 H1 vs ds z Q g1.fh a1 e2 λF' H' v g av=>q F' H' v (g1.trans g) av
theorem xm {x:Str}{T:String}{p:Pos}{es:List Expr}{r:List V->Hp->VK->Prop}{g:List D->Option D}{f:Ev->Option (List D)}(hc:Ys X (.type T) r)(hg:CaD r g)(hgl:Gl X x)(hm:X.mg x=none)(hv:bootBuiltins x=some (.type T))(ha:AD X (e::es) f)
 (hn:x≠"__name__":=by decide) (hdb:(x == ("__debug__":Str))=false:=by decide) (he:starEach (e::es) X.env=(false,eval e X.env)::starEach es X.env:=by rfl) (hpl:(backTo pos (starEach es X.env)).any (·.1)=false:=by rfl) :
 ED X (.Call (.Name x p) (e::es) [] pos) (eFn g f):=by
 obtain⟨t,pa,ra⟩:=ha
 refine⟨_,zaZ hc hgl hm hv pa hn hdb he hpl,fun σ ρ F H z Q s va e q=>?_⟩
 obtain⟨ds,e1,e2⟩:=u0.mp e
 refine ra σ ρ F H ds _ s va e1 λF1 H1 vs g1 a1=>?_
 exact hg F1 H1 vs ds z Q g1.fh a1 e2 λF' H' v g av=>q F' H' v (g1.trans g) av
def Xk:List D->Option D
 | [.lst ds]=>some (.int ds.length)
 | [.tup ds]=>some (.int ds.length)
 | [.scr ds]=>some (.int ds.length)
 | _=>none
theorem YJ:CaD (λxs H Q=>∃ p ys,xs=[.ref p]/\(SqL KK.K H p ys\/SqT KK.K H p ys)/\Q (.int ys.length) H) Xk:=by
 intro F H vs ds z Q s al e q
 unfold Xk at e
 split at e <;> cases e
 all_goals
  obtain⟨x,r,rfl,ax,ar⟩:=al.cons_inv
  cases ar.nil_inv
 .obtain⟨p,xs,rfl,hx,bl⟩:=ax.lst_inv
  exact⟨p,xs,rfl,.inl (SqL.of (s _ _ hx)),by rw[bl.length];exact q F H _ (.refl s) .int⟩
 .obtain⟨p,xs,rfl,hx,bl⟩:=ax.tup_inv
  exact⟨p,xs,rfl,.inr (SqT.of (s _ _ hx)),by rw[bl.length];exact q F H _ (.refl s) .int⟩
 .obtain⟨p,rfl,hx⟩:=ax.scr_inv
  exact⟨p,_,rfl,.inl ((s.seq hx)),by rw[u6];exact q F H _ (.refl s) .int⟩
def VS:List D->Option D
 | [.int i,.int j]=>some (.int (if j > i then j else i))
 | _=>none
def zgP:List D->Option D
 | [.int i,.int j]=>some (.int (if j < i then j else i))
 | _=>none
theorem zcz {g:Int->Int->Int}:CaD (λxs H Q=>∃ i j,xs=[.int i,.int j]/\Q (.int (g i j)) H) (λds=>match ds with | [.int i,.int j]=>some (.int (g i j)) | _=>none):=by
 intro F H vs ds z Q s al e q
 dsimp only at e
 split at e <;> cases e
 obtain⟨x,r,rfl,ax,ar⟩:=al.cons_inv
 obtain⟨y,r,rfl,ay,ar⟩:=ar.cons_inv
 cases ar.nil_inv
 exact⟨_,_,by rw[ax.int_inv,ay.int_inv],q F H _ (.refl s) .int⟩
theorem Xn:CaD (λxs H Q=>∃ i j,xs=[.int i,.int j]/\Q (.int (if j > i then j else i)) H) VS:=zcz (g:=λi j=>if j > i then j else i)
theorem zcE:CaD (λxs H Q=>∃ i j,xs=[.int i,.int j]/\Q (.int (if j < i then j else i)) H) zgP:=zcz (g:=λi j=>if j < i then j else i)
def zW:List D->Option D
 | [.lst ds]=>some (.tup ds)
 | [.tup ds]=>some (.tup ds)
 | _=>none
theorem xn {K:W.Frag}:CaD (λxs H Q=>∃ p ys,xs=[.ref p]/\((SqL K H p ys/\∀ l,H l=none->Q (.ref l) (upd H l (.tup ys)))\/(SqT K H p ys/\Q (.ref p) H))) zW:=by
 intro F H vs ds z Q s al e q
 unfold zW at e
 split at e <;> cases e
 all_goals
  obtain⟨x,r,rfl,ax,ar⟩:=al.cons_inv
  cases ar.nil_inv
 .obtain⟨p,xs,rfl,hx,bl⟩:=ax.lst_inv
  refine⟨p,xs,rfl,.inl ⟨SqL.of (s _ _ hx),λl hl=>?_⟩⟩
  have g:=Gr.alloc s hl (.tup xs)
  exact q _ _ _ g (.tup zp (bl.mono g.ff))
 .obtain⟨p,xs,rfl,hx,bl⟩:=ax.tup_inv
  exact⟨p,xs,rfl,.inr ⟨SqT.of (s _ _ hx),q F H _ (.refl s) (.tup hx bl)⟩⟩
def v5:List D->Option (List D)
 | [.lst ds]=>some ds
 | [.tup ds]=>some ds
 | [.scr ns]=>some (ns.map .int)
 | _=>none
theorem zfl {p:Pos} {f:Ev->Option (List D)} (hgl:Gl X "list") (hm:X.mg "list"=none) (ha:AD X [e] f) (hK:X.K=KK.K:=by rfl)
 (he:starEach [e] X.env=(false,eval e X.env)::starEach [] X.env:=by rfl) (hpl:(backTo pos (starEach [] X.env)).any (·.1)=false:=by rfl):FL X (.Call (.Name "list" p) [e] [] pos) (fFn v5 f):=by
 obtain⟨t,pa,ra⟩:=ha
 refine⟨_,zaZ zaj hgl hm ziG pa (by decide) (by decide) he hpl,fun σ ρ F H z Q s va e q=>?_⟩
 obtain⟨ds,e1,e2⟩:=u0.mp e
 refine ra σ ρ F H ds _ s va e1 λF1 H1 vs g1 a1=>?_
 unfold v5 at e2
 split at e2 <;> cases e2
 all_goals
  obtain⟨x,r,rfl,ax,ar⟩:=a1.cons_inv
  cases ar.nil_inv
 .obtain⟨p,xs,rfl,hx,bl⟩:=ax.lst_inv
  exact⟨p,xs,rfl,.inl (SqL.of (g1.fh _ _ hx)),λl hl=>q _ _ _ _ (g1.trans (Gr.hide g1.fh hl _)) (zbV g1 hl) (g1.fh.free hl) zp bl⟩
 .obtain⟨p,xs,rfl,hx,bl⟩:=ax.tup_inv
  exact⟨p,xs,rfl,.inr (SqT.of (g1.fh _ _ hx)),λl hl=>q _ _ _ _ (g1.trans (Gr.hide g1.fh hl _)) (zbV g1 hl) (g1.fh.free hl) zp bl⟩
 .obtain⟨p,rfl,hx⟩:=ax.scr_inv
  exact⟨p,_,rfl,.inl (by rw[hK];exact g1.fh.seq hx),λl hl=>q _ _ _ _ (g1.trans (Gr.hide g1.fh hl _)) (zbV g1 hl) (g1.fh.free hl) zp (.ints _)⟩
inductive TyD (K:W.Frag) (H:Hp):V->Value->Prop where
 | of {v:V} {t:Value} (h:zcu K H v t):TyD K H v t
 | dd {a:Addr} {u:HO} (h:Rd H a u) (d:(∃ kvs,u=.dK kvs)\/∃ kvs,u=.dT kvs):TyD K H (.ref a) (.type "dict")
theorem zam {X:Cx}:Ys X (.builtin "isinstance") (λxs H Q=>∃ x n t b,xs=[x,.ty n]/\TyD X.K H x t/\W.kitOne X.K t (.type n)=some b/\Q (.bl b) H):=by
 intro pins s σ H xs us Q I r h
 obtain⟨x,n,t,b,rfl,ty,e,q⟩:=h
 cases ty with
 | of ty=>exact zbY pins s σ H _ us Q I r ⟨x,n,t,b,rfl,ty,e,q⟩
 | @dd a u h d =>
  cases r with
  | cons r1 r2 =>
   cases r2 with
   | cons r3 r4 =>
    cases r4
    cases r1
    cases r3
    have ok:=h.ok I.hok
    rcases d with ⟨kvs,rfl⟩ | ⟨kvs,rfl⟩
    .obtain⟨_,_,vs,_,p⟩:=(show yo X.prog X.w H s.heap a (.dK kvs)from ok)
     obtain⟨o,es,ep,h1,h2,_⟩:=p
     exact u0n u2t I.kIn ⟨o,h1,h2.1⟩ e (λz=>nomatch z) λtk=>⟨.bl b,H,I.tok tk,rfl,q⟩
    .obtain⟨_,_,xs,_,o,es,ep,h1,h2,_⟩:=(show yo X.prog X.w H s.heap a (.dT kvs)from ok)
     exact u0n u2t I.kIn ⟨o,h1,h2.1⟩ e (λz=>nomatch z) λtk=>⟨.bl b,H,I.tok tk,rfl,q⟩
theorem At.ty {K:W.Frag}{F H:Hp}(s:yI F H):∀ {d:D} {v:V},At F d v->(∀ ns,d≠.scr ns)->TyD K H v (.type (tyN d))
 | .non,_,h,_=>by cases h.non_inv;exact .of .non
 | .bl b,_,h,_=>by cases h.bl_inv;exact .of (.bl b)
 | .int i,_,h,_=>by cases h.int_inv;exact .of (.int i)
 | .str x,_,h,_=>by cases h.str_inv;exact .of (.str x)
 | .tup ds,_,h,_=>by obtain⟨a,xs,rfl,e,_⟩:=h.tup_inv;exact .of (.tup (s _ _ e))
 | .lst ds,_,h,_=>by obtain⟨a,xs,rfl,e,_⟩:=h.lst_inv;exact .of (.lst (s _ _ e))
 | .scr ns,_,_,n=>absurd rfl (n ns)
 | .dct z t ks vs,_,h,_=>by
  obtain⟨a,xs,rfl,d,_⟩:=h.dct_inv
  obtain⟨u,e1,e2⟩:=(d.mono s).rd
  exact .dd e2 (by
   unfold zcJ at e1
   split at e1
   .obtain⟨kvs,rfl,_⟩:=e1;exact .inr ⟨kvs,rfl⟩
   .obtain⟨kvs,rfl,_⟩:=e1;exact .inl ⟨kvs,rfl⟩)
inductive Ty where
 | int | bool | tuple | list | str
def Ty.nm:Ty->String
 | .int=>"int" | .bool=>"bool" | .tuple=>"tuple" | .list=>"list" | .str=>"str"
def isT:Ty->D->Bool
 | .int,.int _=>true | .int,.bl _=>true
 | .bool,.bl _=>true
 | .tuple,.tup _=>true
 | .list,.lst _=>true
 | .str,.str _=>true
 | _,_=>false
def vd (n:Ty):D->Option D
 | .scr _=>none
 | d=>some (.bl (isT n d))
theorem zlb (K:W.Frag)(n:Ty)(d:D)(h:∀ ns,d≠.scr ns):W.kitOne K (.type (tyN d)) (.type n.nm)=some (isT n d):=by
 cases n <;> cases d <;> first | exact absurd rfl (h _) | kernel_rfl
theorem vc {p:Pos} {f:Ev->Option D} (n:Ty) (hgl:Gl X "isinstance") (hm:X.mg "isinstance"=none) (ha:ED X a f) (hb:PE X b (tC (.ty n.nm)))
 (hs:starEach [a,b] X.env=(false,eval a X.env)::starEach [b] X.env:=by rfl) (hs2:starEach [b] X.env=(false,eval b X.env)::starEach [] X.env:=by rfl) (hpl:(backTo pos (starEach [b] X.env)).any (·.1)=false:=by rfl) :
 ED X (.Call (.Name "isinstance" p) [a,b] [] pos) (eUn (vd n) f):=by
 obtain⟨t,pa,ra⟩:=ha
 refine⟨_,Xe zam hgl hm VB (Zz pa (Zz hb zcw hs2) hs) (by decide) (by decide) hs hpl,fun σ ρ F H z Q s va e q=>?_⟩
 obtain⟨d,e1,e2⟩:=u0.mp e
 refine ra σ ρ F H d _ s va e1 λF1 H1 v g1 a1=>?_
 have ns:∀ ns,d≠.scr ns:=λns h=>by subst h;cases e2
 have e3:z=.bl (isT n d):=by
  cases d <;> first | exact(u0f e2).symm | exact absurd rfl (ns _)
 subst e3
 exact⟨v,n.nm,_,_,rfl,a1.ty g1.fh ns,zlb _ n d ns,q F1 H1 _ g1 .bl⟩
def Xg (m:Bool)(i:Nat)(f:Ev->Option D):SE->Ctl:=fun ρ=>match (vEv m f ρ).bind λd=>match ρ[i]? with
 | some (.o ds)=>if decide (ds.length < sizeLine)=true then some (ρ.set i (.o (ds++[d])))else none
 | _=>none with
 | some ρ'=>.nx ρ'
 | none=>.no
theorem zaf {m:Bool}{i:Nat}{p pos':Pos}{f:Ev->Option D}(ho:PE X a (zio i))(he:ED X e f)
 (hp:∀ {ta:TE} {t:TA},PE X a ta->PA X [e] t->PE X (.Call (.Attribute a "append" p) [e] [] pos') (tBM X.K "list" zdL ta t)) (hsw:swapsWith (.Call (.Attribute a "append" p) [e] [] pos') none pos.line X.env=pure false:=by rfl)
 (hs:starEach [e] X.env=(false,eval e X.env)::starEach [] X.env:=by rfl):SD X (.Expr (.Call (.Attribute a "append" p) [e] [] pos') pos) (Xg m i f):=by
 obtain⟨t,pe,re⟩:=he
 refine⟨_,zbp (hp ho (Zz pe zcw hs)) hsw,λFb Hb F H ρ σ E rl k=>?_⟩
 unfold Xg at k
 cases h:(vEv m f ρ).bind λd=>match ρ[i]? with
  | some (.o ds)=>if decide (ds.length < sizeLine)=true then some (ρ.set i (.o (ds++[d])))else none
  | _=>none with
 | none=>rw[h]at k;exact k.elim
 | some ρ' =>
  rw[h]at k
  obtain⟨d,e1,e2⟩:=u0.mp h
  cases hs:ρ[i]? with
  | none=>rw[hs]at e2;cases e2
  | some sl =>
   rw[hs]at e2
   cases sl with
   | no=>cases e2
   | v _=>cases e2
   | m _ _ _=>cases e2
   | o ds =>
    dsimp only at e2
    split at e2 <;> cases e2
    rename_i hl
    obtain⟨q,xs,f1,f2,f3,f4,f5⟩:=rl.owns i ds hs
    refine⟨_,f1,.inl ⟨rfl,xs,SqL.of f4⟩,?_⟩
    refine re.at rl e1 λF' H' v g av=>?_
    have rl2:=rl.grow g
    obtain⟨q2,xs2,f1',_,_,f4',f5'⟩:=rl2.owns i ds hs
    rw[f1]at f1'
    cases f1'
    refine⟨q,xs2,v,rfl,rfl,f4',by rw[f5'.length];exact b7 hl,?_⟩
    exact k _ _ σ (rl2.mutate hs f1 (f5'.snoc av))
def zcX (i:Nat)(f:Ev->Option D):SE->Ctl:=fun ρ=>match (f (visF ρ)).bind λd=>match ρ[i]?,d with
 | some (.o ds),.lst es=>if lim (ds.length+es.length)=true then some (ρ.set i (.o (ds++es)))else none
 | _,_=>none with
 | some ρ'=>.nx ρ'
 | none=>.no
end
end Dl
namespace Dl
open PySem L2
variable [KK]
def okE:Nat->D->Bool
 | _,.scr _=>false
 | _,.dct _ _ _ _=>false
 | 0,.tup _=>false
 | 0,.lst _=>false
 | n+1,.tup ds=>ds.all (okE n)
 | n+1,.lst ds=>ds.all (okE n)
 | _,_=>true
def eqN:Nat->D->D->Bool
 | _,.non,.non=>true
 | _,.bl a,.bl b=>a == b
 | _,.bl a,.int b=>(if a then 1 else 0) == b
 | _,.int a,.bl b=>a == (if b then 1 else 0)
 | _,.int a,.int b=>a == b
 | _,.str a,.str b=>a == b
 | n+1,.tup a,.tup b=>(List.zipWith (eqN n) a b).all id&&a.length == b.length
 | n+1,.lst a,.lst b=>(List.zipWith (eqN n) a b).all id&&a.length == b.length
 | _,_,_=>false
omit [KK] in
theorem Vq {n:Nat}:∀ (a b:List D),(List.zipWith (eqN n) a b).all id=(List.range (min a.length b.length)).all λj=>eqN n (a.getD j .non) (b.getD j .non):=by
 intro a b
 have:List.zipWith (eqN n) a b=(List.range (min a.length b.length)).map λj=>eqN n (a.getD j .non) (b.getD j .non):=by
  apply List.ext_getElem
  .simp
  .intro i h1 h2
   simp at h1 h2
   have g1:i < a.length:=o0 h1 (Nat.min_le_left _ _)
   have g2:i < b.length:=o0 h1 (u11 _ _)
   simp[g1,g2]
 rw[this,u1E]
 rfl
omit [KK] in
def vOf:D->V
 | .bl b=>.bl b
 | .int i=>.int i
 | .str t=>.str t
 | _=>.non
theorem xS {F:Hp}{d:D}{x:V}(h:okE 0 d=true)(a:At F d x):x=vOf d:=by
 cases d with
 | non=>exact a.non_inv
 | bl b=>exact a.bl_inv
 | int b=>exact a.int_inv
 | str b=>exact a.str_inv
 | _=>cases h
omit [KK] in
theorem Xo {d:D}(h:okE 0 d=true):zix (vOf d)=true:=by
 cases d <;> first | rfl | cases h
omit [KK] in
theorem Vp {d:D}{p:Addr}(h:okE 0 d=true)(e:vOf d=.ref p):False:=by
 cases d <;> first | (cases h;done) | (cases e;done)
def dOfV:V->D
 | .bl b=>.bl b
 | .int i=>.int i
 | .str t=>.str t
 | _=>.non
omit [KK] in
theorem zeX {d:D}(h:okE 0 d=true):dOfV (vOf d)=d:=by
 cases d <;> first | rfl | (cases h;done)
omit [KK] in
theorem zfO {d e:D}(h1:okE 0 d=true)(h2:okE 0 e=true)(h:vOf d=vOf e):d=e:=by
 rw[<-zeX h1,h,zeX h2]
omit [KK] in
theorem xM {n:Nat}{d:D}(h:okE (n+1) d=true):okE 0 d=true\/(∃ ds,d=.tup ds/\ds.all (okE n)=true)\/∃ ds,d=.lst ds/\ds.all (okE n)=true:=by
 cases d with
 | tup ds=>exact .inr (.inl ⟨ds,rfl,h⟩)
 | lst ds=>exact .inr (.inr ⟨ds,rfl,h⟩)
 | scr _=>cases h
 | dct _ _ _ _=>cases h
 | _=>exact .inl rfl
theorem zef {F:Hp}{n:Nat}(ih:∀ {d e:D} {v:V},okE n d=true->okE n e=true->At F d v->At F e v->d=e):∀ {xs:List V} {ds es:List D},ds.all (okE n)=true->es.all (okE n)=true->AtL F ds xs->AtL F es xs->ds=es:=by
 intro xs
 induction xs with
 | nil =>
  intro ds es _ _ a1 a2
  exact(u0U.mp a1.length.symm).trans (u0U.mp a2.length.symm).symm
 | cons x xs ih2 =>
  intro ds es h1 h2 a1 a2
  cases ds with
  | nil=>cases a1.nil_inv
  | cons d ds=>cases es with
   | nil=>cases a2.nil_inv
   | cons e es =>
    obtain⟨y,r,e1,b1,c1⟩:=a1.cons_inv
    obtain⟨y2,r2,e2,b2,c2⟩:=a2.cons_inv
    cases e1
    cases e2
    rw[u2E,p4]at h1 h2
    rw[ih2 h1.2 h2.2 c1 c2,ih h1.1 h2.1 b1 b2]
theorem zif {F:Hp}:∀ (n:Nat) {d e:D} {v:V},okE n d=true->okE n e=true->At F d v->At F e v->d=e:=by
 intro n
 induction n with
 | zero =>
  intro d e v h1 h2 a1 a2
  exact zfO h1 h2 ((xS h1 a1).symm.trans (xS h2 a2))
 | succ n ih =>
  intro d e v h1 h2 a1 a2
  rcases xM h1 with f1 | ⟨ds,rfl,k1⟩ | ⟨ds,rfl,k1⟩
  .have e1:=xS f1 a1
   rcases xM h2 with f2 | ⟨es,rfl,_⟩ | ⟨es,rfl,_⟩
   .exact zfO f1 f2 (e1.symm.trans (xS f2 a2))
   .obtain⟨p,xs,e2,_⟩:=a2.tup_inv
    exact(Vp f1 (e1.symm.trans e2)).elim
   .obtain⟨p,xs,e2,_⟩:=a2.lst_inv
    exact(Vp f1 (e1.symm.trans e2)).elim
  .obtain⟨p,xs,e0,hx,al⟩:=a1.tup_inv
   rcases xM h2 with f2 | ⟨es,rfl,k2⟩ | ⟨es,rfl,k2⟩
   .exact(Vp f2 ((xS f2 a2).symm.trans e0)).elim
   .obtain⟨q,ys,e1,hy,bl⟩:=a2.tup_inv
    cases e0.symm.trans e1
    cases hx.symm.trans hy
    rw[zef ih k1 k2 al bl]
   .obtain⟨q,ys,e1,hy,bl⟩:=a2.lst_inv
    cases e0.symm.trans e1
    cases hx.symm.trans hy
  .obtain⟨p,xs,e0,hx,al⟩:=a1.lst_inv
   rcases xM h2 with f2 | ⟨es,rfl,k2⟩ | ⟨es,rfl,k2⟩
   .exact(Vp f2 ((xS f2 a2).symm.trans e0)).elim
   .obtain⟨q,ys,e1,hy,bl⟩:=a2.tup_inv
    cases e0.symm.trans e1
    cases hx.symm.trans hy
   .obtain⟨q,ys,e1,hy,bl⟩:=a2.lst_inv
    cases e0.symm.trans e1
    cases hx.symm.trans hy
    rw[zef ih k1 k2 al bl]
omit [KK] in
theorem zhq:∀ (n:Nat) {d:D},okE n d=true->eqN n d d=true:=by
 intro n
 induction n with
 | zero =>
  intro d h
  cases d with
  | tup _=>cases h
  | lst _=>cases h
  | scr _=>cases h
  | dct _ _ _ _=>cases h
  | _=>first | rfl | exact d4 rfl | exact u12 _
 | succ n ih =>
  have ihl:∀ {ds:List D},ds.all (okE n)=true->(List.zipWith (eqN n) ds ds).all id=true:=by
   intro ds
   induction ds with
   | nil=>intro _;rfl
   | cons d ds ih2 =>
    intro h
    rw[u2E,p4]at h
    rw[List.zipWith_cons_cons,u2E,ih2 h.2,u3c]
    exact ih h.1
  intro d h
  cases d with
  | tup ds=>show((List.zipWith (eqN n) ds ds).all id&&ds.length == ds.length)=true;rw[ihl h];simp
  | lst ds=>show((List.zipWith (eqN n) ds ds).all id&&ds.length == ds.length)=true;rw[ihl h];simp
  | scr _=>cases h
  | dct _ _ _ _=>cases h
  | _=>first | rfl | exact d4 rfl | exact u12 _
theorem zhZ {F:Hp}(n:Nat){d e:D}{v:V}(h1:okE n d=true)(h2:okE n e=true)(a1:At F d v)(a2:At F e v):eqN n d e=true:=by
 rw[zif n h1 h2 a1 a2]
 exact zhq n h2
omit [KK] in
theorem we {n:Nat}{ds:List D}{j:Nat}(h:ds.all (okE n)=true)(hj:j < ds.length):okE n (ds.getD j .non)=true:=by
 have:ds.getD j .non=ds[j]:=by simp[hj]
 rw[this]
 exact u0C.mp h _ (u0N hj)
theorem AtL.nth {F:Hp}{ds:List D}{xs:List V}{us:List Value}{j:Nat}(al:AtL F ds xs)(r:zU xs us)(h:j < us.length):∃ x,At F (ds.getD j .non) x/\yA x us[j]:=by
 have hl:=al.length
 have hl2:=r.length
 have hj:j < ds.length:=by omega
 obtain⟨x,hx,ax⟩:=al.get (i:=j) (d:=ds[j]) (by simp[hj])
 obtain⟨u,hu,ru⟩:=r.get hx
 refine⟨x,by rw[show ds.getD j .non=ds[j] by simp[hj]];exact ax,?_⟩
 have:us[j]?=some us[j]:=by simp[h]
 rw[hu]at this
 cases this
 exact ru
omit [KK] in
theorem zcI {n:Nat}{d e:D}(h1:okE 0 d=true)(h2:okE 0 e=true):eqN n d e=eqV (vOf d) (vOf e):=by
 cases n <;> cases d <;> first | (cases h1;done) | skip
 all_goals cases e <;> first | (cases h2;done) | rfl
omit [KK] in
theorem zcN {n:Nat}{d:D}(ds:List D)(h:okE 0 d=true):eqN (n+1) d (.tup ds)=false/\eqN (n+1) d (.lst ds)=false/\eqN (n+1) (.tup ds) d=false/\eqN (n+1) (.lst ds) d=false:=by
 cases d <;> first | exact⟨rfl,rfl,rfl,rfl⟩ | cases h
omit [KK] in
theorem W6 {A:Around}{s:Shared}{d:D}{u:Value}{p:Addr}{its:Array Value}(h:okE 0 d=true)(r:yA (vOf d) u)(hu:A.units < cLine) :
 (s.heap.IsTuple p its->SeqAt.EqAt A s u (.ref p) false/\SeqAt.EqAt A s (.ref p) u false)/\(s.heap.IsList p its->SeqAt.EqAt A s u (.ref p) false/\SeqAt.EqAt A s (.ref p) u false):=by
 cases d with
 | non=>cases r;exact⟨λht=>⟨.none_tuple ht hu,.tuple_none ht hu⟩,λht=>⟨.none_list ht hu,.list_none ht hu⟩⟩
 | bl b=>cases r;exact⟨λht=>⟨.bool_tuple b ht hu,.tuple_bool b ht hu⟩,λht=>⟨.bool_list b ht hu,.list_bool b ht hu⟩⟩
 | int b=>obtain⟨t,rfl⟩:=r;exact⟨λht=>⟨.int_tuple b t ht hu,.tuple_int b t ht hu⟩,λht=>⟨.int_list b t ht hu,.list_int b t ht hu⟩⟩
 | str b=>obtain⟨t,rfl⟩:=r;exact⟨λht=>⟨.str_tuple b t ht hu,.tuple_str b t ht hu⟩,λht=>⟨.str_list b t ht hu,.list_str b t ht hu⟩⟩
 | _=>cases h
theorem VP {X:Cx}{pins:List (Addr × Obj)}{σ:St}{F H:Hp}{s:Shared}(I:Inv X pins σ H s)(sm:yI F H){ds:List D}{x:V}{u:Value}(a:At F (.tup ds) x)(r:yA x u):∃ p its xs,u=.ref p/\x=.ref p/\zU xs its/\AtL F ds xs/\s.heap.IsTuple p its.toArray:=by
 obtain⟨p,xs,rfl,hx,al⟩:=a.tup_inv
 cases r
 obtain⟨its,rv,ht,hz⟩:=I.tuple (SqT.of (sm _ _ hx))
 exact⟨p,its,xs,rfl,rfl,rv,al,ht⟩
theorem VV {X:Cx}{pins:List (Addr × Obj)}{σ:St}{F H:Hp}{s:Shared}(I:Inv X pins σ H s)(sm:yI F H){ds:List D}{x:V}{u:Value}(a:At F (.lst ds) x)(r:yA x u):∃ p its xs,u=.ref p/\x=.ref p/\zU xs its/\AtL F ds xs/\s.heap.IsList p its.toArray:=by
 obtain⟨p,xs,rfl,hx,al⟩:=a.lst_inv
 cases r
 obtain⟨its,rv,ht,hz⟩:=I.list (SqL.of (sm _ _ hx))
 exact⟨p,its,xs,rfl,rfl,rv,al,ht.isList⟩
omit [KK] in
theorem zfL {n:Nat}(ds es:List D):((List.zipWith (eqN n) ds es).all id&&ds.length == es.length)=((List.range (min ds.length es.length)).all (λj=>eqN n (ds.getD j .non) (es.getD j .non))&&ds.length == es.length):=by rw[Vq]
theorem zb1 {X:Cx}{pins:List (Addr × Obj)}{σ:St}{F H:Hp}{s:Shared}(I:Inv X pins σ H s)(sm:yI F H):∀ (n:Nat) {A:Around} {d e:D} {x y:V} {u v:Value},okE n d=true->okE n e=true->At F d x->At F e y->yA x u->yA y v->A.units+n < cLine->SeqAt.EqAt A s u v (eqN n d e):=by
 intro n
 induction n with
 | zero =>
  intro A d e x y u v h1 h2 a1 a2 r1 r2 hu
  cases xS h1 a1
  cases xS h2 a2
  rw[zcI h1 h2]
  exact zim r1 r2 (Xo h1) (Xo h2)
 | succ n ih =>
  intro A d e x y u v h1 h2 a1 a2 r1 r2 hu
  have hu0:A.units < cLine:=h9 (u1Z _ _) hu
  have hu1:A.units+1+n < cLine:=by rw[Nat.add_assoc,Nat.add_comm 1 n];exact hu
  rcases xM h1 with f1 | ⟨ds,rfl,k1⟩ | ⟨ds,rfl,k1⟩
  .cases xS f1 a1
   rcases xM h2 with f2 | ⟨es,rfl,k2⟩ | ⟨es,rfl,k2⟩
   .cases xS f2 a2
    rw[zcI f1 f2]
    exact zim r1 r2 (Xo f1) (Xo f2)
   .obtain⟨q,its2,ys,rfl,_,_,_,ht2⟩:=VP I sm a2 r2
    rw[(zcN es f1).1]
    exact((W6 f1 r1 hu0).1 ht2).1
   .obtain⟨q,its2,ys,rfl,_,_,_,ht2⟩:=VV I sm a2 r2
    rw[(zcN es f1).2.1]
    exact((W6 f1 r1 hu0).2 ht2).1
  .obtain⟨p,its,xs,rfl,hxp,rv,al,ht⟩:=VP I sm a1 r1
   rcases xM h2 with f2 | ⟨es,rfl,k2⟩ | ⟨es,rfl,k2⟩
   .cases xS f2 a2
    rw[(zcN ds f2).2.2.1]
    exact((W6 f2 r2 hu0).1 ht).2
   .obtain⟨q,its2,ys,rfl,hyq,rv2,bl,ht2⟩:=VP I sm a2 r2
    by_cases hpq:p=q
    .subst hpq
     rw[hxp]at a1
     rw[hyq]at a2
     rw[zhZ (n+1) h1 h2 a1 a2]
     exact .same _
    .have hl1:its.toArray.size=ds.length:=by rw[j4,<- rv.length,al.length]
     have hl2:its2.toArray.size=es.length:=by rw[j4,<- rv2.length,bl.length]
     have:=SeqAt.RcAt.tuples (A:=A) (e:=λj=>eqN n (ds.getD j .non) (es.getD j .non)) ht ht2 hu0 λj g1 g2=>by
      obtain⟨x',ax,rx⟩:=al.nth rv (j:=j) g1
      obtain⟨y',ay,ry⟩:=bl.nth rv2 (j:=j) g2
      exact ih (we k1 (hl1 ▸ g1)) (we k2 (hl2 ▸ g2)) ax ay rx ry hu1
     rw[hl1,hl2]at this
     rw[show eqN (n+1) (.tup ds) (.tup es)=_ from zfL ds es]
     exact u21 hpq this
   .obtain⟨q,its2,ys,rfl,_,_,_,ht2⟩:=VV I sm a2 r2
    exact .tuple_list ht ht2 hu0
  .obtain⟨p,its,xs,rfl,hxp,rv,al,ht⟩:=VV I sm a1 r1
   rcases xM h2 with f2 | ⟨es,rfl,k2⟩ | ⟨es,rfl,k2⟩
   .cases xS f2 a2
    rw[(zcN ds f2).2.2.2]
    exact((W6 f2 r2 hu0).2 ht).2
   .obtain⟨q,its2,ys,rfl,_,_,_,ht2⟩:=VP I sm a2 r2
    exact .list_tuple ht ht2 hu0
   .obtain⟨q,its2,ys,rfl,hyq,rv2,bl,ht2⟩:=VV I sm a2 r2
    by_cases hpq:p=q
    .subst hpq
     rw[hxp]at a1
     rw[hyq]at a2
     rw[zhZ (n+1) h1 h2 a1 a2]
     exact .same _
    .have hl1:its.toArray.size=ds.length:=by rw[j4,<- rv.length,al.length]
     have hl2:its2.toArray.size=es.length:=by rw[j4,<- rv2.length,bl.length]
     rw[show eqN (n+1) (.lst ds) (.lst es)=_ from zfL ds es]
     by_cases hle:ds.length=es.length
     .have:=SeqAt.RcAt.lists (A:=A) (e:=λj=>eqN n (ds.getD j .non) (es.getD j .non)) ht ht2 (by rw[hl1,hl2,hle]) hu0 λj g1 g2=>by
       obtain⟨x',ax,rx⟩:=al.nth rv (j:=j) g1
       obtain⟨y',ay,ry⟩:=bl.nth rv2 (j:=j) g2
       exact ih (we k1 (hl1 ▸ g1)) (we k2 (hl2 ▸ g2)) ax ay rx ry hu1
      rw[hl1]at this
      rw[<-hle,u2b,u12,u3c]
      exact u21 hpq this
     .have:=SeqAt.RcAt.lists_lengths (A:=A) ht ht2 (by rw[hl1,hl2];exact bne_iff_ne.mpr hle) hu0
      rw[u1e.mpr hle,u2v]
      exact u21 hpq this
def zkL (d:D)(es:List D):Option Bool:=if okE 20 d=true/\es.all (okE 20)=true then some (es.any λe=>eqN 20 e d)else none
def inD (d e:D):Option D:=(xP e).bind λes=>(zkL d es).map .bl
open Classical in
noncomputable def zga (F:Hp)(d:D)(u:Value):Bool:=decide (∃ d0 x,At F d0 x/\yA x u/\okE 20 d0=true/\eqN 20 d0 d=true)
open Classical in
theorem zfX {F:Hp}{d d0:D}{x:V}{u:Value}(a:At F d0 x)(r:yA x u)(k:okE 20 d0=true):zga F d u=eqN 20 d0 d:=by
 unfold zga
 cases h:eqN 20 d0 d with
 | true=>exact d4 ⟨d0,x,a,r,k,h⟩
 | false =>
  refine p6 ?_
  rintro⟨d1,y,a1,r1,k1,h1⟩
  have e:=r1.inj r
  subst e
  rw[zif 20 k1 k a1 a]at h1
  rw[h1]at h
  cases h
theorem Vj {F:Hp}{d:D}:∀ {ds:List D} {xs:List V} {us:List Value},AtL F ds xs->zU xs us->ds.all (okE 20)=true->us.any (zga F d)=ds.any λe=>eqN 20 e d
 | [],_,_,al,r,_=>by cases al.nil_inv;cases r;rfl
 | e::ds,_,_,al,r,k=>by
  obtain⟨x,xs,rfl,a1,a2⟩:=al.cons_inv
  cases r with
  | cons r1 r2 =>
   rw[u2E,p4]at k
   rw[u2F,u2F,zfX a1 r1 k.1,Vj a2 r2 k.2]
section
variable {X:Cx}
def rInD (neg:Bool):R2:=λx y H Q=>∃ F d e es b,yI F H/\At F d x/\At F e y/\xP e=some es/\zkL d es=some b/\Q (.bl (if neg then !b else b)) H
theorem zkm {k:Nat}(hr:vf k X.A):OpR X (compareOp .In) (rInD false):=by
 intro pins s σ H x y v u Q I rx ry h
 obtain⟨F,d,e,es,b,sm,a1,a2,hs,hb,q⟩:=h
 unfold zkL at hb
 split at hb <;> cases hb
 rename_i hk
 have hu:X.A.in1.units+20 < cLine:=by have:=hr.un;show X.A.units+1+20 < cLine;omega
 have mem:∀ {xs:List V} {us:List Value},AtL F es xs->zU xs us->∀ z∈us,SeqAt.EqAt X.A.in1 s z v (zga F d z):=λ{xs us} al r z hz=>by
  obtain⟨j,hj,rfl⟩:=p8 hz
  obtain⟨x',ax,rx'⟩:=al.nth r hj
  have hj':j < es.length:=by have:=al.length;have:=r.length;omega
  have k2:=we hk.2 hj'
  rw[zfX ax rx' k2]
  exact zb1 I sm 20 k2 hk.1 ax a1 rx' rx hu
 cases e <;> cases hs
 .obtain⟨p,xs,rfl,hx,al⟩:=a2.tup_inv
  cases ry
  obtain⟨its,r,pl,hz⟩:=I.tuple (SqT.of (sm _ _ hx))
  refine SeqAt.in_tupleAt (zga F d) pl (λz hz=>mem al r z (by simpa using hz)) ⟨.bl _,H,I,rfl,?_⟩
  rw[show its.toArray.any (zga F d)=its.any (zga F d) by simp,Vj al r hk.2]
  exact q
 .obtain⟨p,xs,rfl,hx,al⟩:=a2.lst_inv
  cases ry
  obtain⟨its,r,pl,hz⟩:=I.list (SqL.of (sm _ _ hx))
  refine SeqAt.in_listAt (zga F d) pl.isList (λz hz=>mem al r z (by simpa using hz)) ⟨.bl _,H,I,rfl,?_⟩
  rw[show its.toArray.any (zga F d)=its.any (zga F d) by simp,Vj al r hk.2]
  exact q
theorem zlx:OpD (rInD false) inD:=by
 intro F H x y d e z Q s ax ay ez q
 obtain⟨es,e1,e2⟩:=u0.mp ez
 obtain⟨b,e3,rfl⟩:=t8.mp e2
 exact⟨F,d,e,es,b,s,ax,ay,e1,e3,q F H _ (.refl s) .bl⟩
def eqG (d e:D):Option Bool:=match d,e with
 | .tup _,.tup _=>if okE 20 d=true/\okE 20 e=true then some (eqN 20 d e)else none
 | .lst _,.lst _=>if okE 20 d=true/\okE 20 e=true then some (eqN 20 d e)else none
 | _,_=>eqS d e
def V0 (d e:D):Option D:=(eqG d e).map .bl
def zmd:R2:=λx y H Q=>∃ F d e,yI F H/\At F d x/\At F e y/\((∃ ds es,d=.tup ds/\e=.tup es)\/(∃ ds es,d=.lst ds/\e=.lst es))/\okE 20 d=true/\okE 20 e=true/\Q (.bl (eqN 20 d e)) H
theorem zj1 {k:Nat}(hr:vf k X.A):OpR X (compareOp .Eq) zmd:=by
 intro pins s σ H x y v u Q I rx ry h
 obtain⟨F,d,e,sm,a1,a2,hk,k1,k2,q⟩:=h
 have hu:X.A.units+30 < cLine:=by have:=hr.un;omega
 rcases hk with ⟨ds,es,rfl,rfl⟩ | ⟨ds,es,rfl,rfl⟩
 .obtain⟨p,xs,rfl,hx,al⟩:=a1.tup_inv
  obtain⟨p2,ys,rfl,hy,bl⟩:=a2.tup_inv
  cases rx
  cases ry
  obtain⟨its,r,ht,hz⟩:=I.tuple (SqT.of (sm _ _ hx))
  obtain⟨its2,r2,ht2,hz2⟩:=I.tuple (SqT.of (sm _ _ hy))
  have hl1:its.toArray.size=ds.length:=by rw[j4,<- r.length,al.length]
  have hl2:its2.toArray.size=es.length:=by rw[j4,<- r2.length,bl.length]
  refine SeqAt.eq_tupleAt (e:=λj=>eqN 19 (ds.getD j .non) (es.getD j .non)) (show s.heap.IsTuple p its.toArray from ht) (show s.heap.IsTuple p2 its2.toArray from ht2) (by omega) (λj g1 g2=>?_) ⟨.bl _,H,I,rfl,?_⟩
  .obtain⟨x',ax,rx⟩:=al.nth r (j:=j) (by simpa using g1)
   obtain⟨y',ay,ry⟩:=bl.nth r2 (j:=j) (by simpa using g2)
   exact zb1 I sm 19 (we k1 (by rw[<-hl1];exact g1)) (we k2 (by rw[<-hl2];exact g2)) ax ay (by simpa using rx) (by simpa using ry) (h9 (show X.A.units+20<=X.A.units+30 from u15 (by decide) _) hu)
  .rw[hl1,hl2,<- Vq]
   exact q
 .obtain⟨p,xs,rfl,hx,al⟩:=a1.lst_inv
  obtain⟨p2,ys,rfl,hy,bl⟩:=a2.lst_inv
  cases rx
  cases ry
  obtain⟨its,r,ht,hz⟩:=I.list (SqL.of (sm _ _ hx))
  obtain⟨its2,r2,ht2,hz2⟩:=I.list (SqL.of (sm _ _ hy))
  have hl1:its.toArray.size=ds.length:=by rw[j4,<- r.length,al.length]
  have hl2:its2.toArray.size=es.length:=by rw[j4,<- r2.length,bl.length]
  have e1:eqN 20 (.lst ds) (.lst es)=((List.range (min ds.length es.length)).all (λj=>eqN 19 (ds.getD j .non) (es.getD j .non))&&ds.length == es.length):=by
   show((List.zipWith (eqN 19) ds es).all id&&ds.length == es.length)=_
   rw[Vq]
  by_cases hle:ds.length=es.length
  .refine SeqAt.eq_listAt (e:=λj=>eqN 19 (ds.getD j .non) (es.getD j .non)) ht.isList ht2.isList (by rw[hl1,hl2];exact hle) (h9 (u1Z _ 30) hu) (λj g1 g2=>?_) ⟨.bl _,H,I,rfl,?_⟩
   .obtain⟨x',ax,rx⟩:=al.nth r (j:=j) (by simpa using g1)
    obtain⟨y',ay,ry⟩:=bl.nth r2 (j:=j) (by simpa using g2)
    exact zb1 I sm 19 (we k1 (by rw[<-hl1];exact g1)) (we k2 (by rw[<-hl2];exact g2)) ax ay (by simpa using rx) (by simpa using ry) (h9 (show X.A.units+20<=X.A.units+30 from u15 (by decide) _) hu)
   .rw[hl1]
    rw[e1,<- hle,u2b]at q
    simpa using q
  .refine SeqAt.eq_list_lengthsAt ht.isList ht2.isList (by rw[hl1,hl2];simpa using hle) (h9 (u1Z _ 30) hu) ⟨.bl _,H,I,rfl,?_⟩
   have:(ds.length == es.length)=false:=by simpa using hle
   rw[e1,this,u2v]at q
   exact q
theorem zjB:OpD zmd (λd e=>match d,e with
 | .tup _,.tup _=>if okE 20 d=true/\okE 20 e=true then some (.bl (eqN 20 d e))else none
 | .lst _,.lst _=>if okE 20 d=true/\okE 20 e=true then some (.bl (eqN 20 d e))else none
 | _,_=>none):=by
 intro F H x y d e z Q s ax ay ez q
 dsimp only at ez
 split at ez
 .split at ez <;> cases ez
  rename_i hk
  exact⟨F,_,_,s,ax,ay,.inl ⟨_,_,rfl,rfl⟩,hk.1,hk.2,q F H _ (.refl s) .bl⟩
 .split at ez <;> cases ez
  rename_i hk
  exact⟨F,_,_,s,ax,ay,.inr ⟨_,_,rfl,rfl⟩,hk.1,hk.2,q F H _ (.refl s) .bl⟩
 .cases ez
theorem XI {k:Nat}(hr:vf k X.A):OpR X (compareOp .Eq) (λx y H Q=>rEq x y H Q\/zmd x y H Q):=zm4.or (zj1 hr)
theorem YO:OpD (λx y H Q=>rEq x y H Q\/zmd x y H Q) V0:=by
 refine zbo (zav zh5 zjB) λd e z h=>?_
 obtain⟨b,hb,rfl⟩:=t8.mp h
 unfold eqG at hb
 split at hb
 .split at hb <;> cases hb
  rename_i hk
  show(Option.or none (if okE 20 _=true/\okE 20 _=true then some (D.bl (eqN 20 _ _))else none))=_
  rw[u8 hk]
  rfl
 .split at hb <;> cases hb
  rename_i hk
  show(Option.or none (if okE 20 _=true/\okE 20 _=true then some (D.bl (eqN 20 _ _))else none))=_
  rw[u8 hk]
  rfl
 .show((eqD d e).or _)=_
  unfold eqD
  rw[hb]
  rfl
theorem W7 {pins:List (Addr × Obj)}{σ:St}{H:Hp}{s:Shared}{a:Addr}{xs:List V}{A:Around}{Q:Value->Shared->Prop}{E:Value->Shared->Prop}(I:Inv X pins σ H s)(hh:A.handled=none)(h:SqL X.K H a xs\/SqT X.K H a xs)
 (k:∀ (it:Addr) (its:List Value) (fp wr:List Addr) (St:Nat->Heap->Prop) (s₂:Shared),zU xs its->Walks X.prog X.w A it fp wr its.length (λi v=>its[i]?=some v) St->St 0 s₂.heap->(∀ b∈fp,b < s₂.heap.objs.size) ->
  (∀ (h':Heap) (tk:Nat),(∀ b o,b∉wr->s₂.heap.get? b=some o->h'.get? b=some o)->Inv X pins σ H { s₂ with heap:=h',toks:=tk })->Q (.ref it) s₂) :
 wpAny (model X.prog X.w) A (pyIter (.ref a)) Q E s:=by
 have back:∀ {o:Obj} {s₂:Shared},s₂={ s with heap:=s.heap.push o }->∀ (h':Heap) (tk:Nat),(∀ b u,b∉[s.heap.objs.size]->s₂.heap.get? b=some u->h'.get? b=some u)->Inv X pins σ H { s₂ with heap:=h',toks:=tk }:=λ{o s₂} e h' tk kk=>by
  subst e
  exact I.kept (t':=tk) λb u z=>kk b u (by simpa using p5 (r6 z)) (u5 _ z)
 rcases h with h | h
 .obtain⟨its,rv,p,hz⟩:=I.list h
  have lt:a < s.heap.objs.size:=by obtain⟨o,n,ho,_⟩:=p;exact r6 ho
  refine wpAny_pyIter_list p.isList ?_
  have W:=Walks.list (prog:=X.prog) (w:=X.w) (A:=A) hh s.heap.objs.size a (p5 lt) its.toArray
  refine k s.heap.objs.size its [s.heap.objs.size,a] [s.heap.objs.size] (λi h=>h.IsListIter s.heap.objs.size a i/\h.IsList a its.toArray) _ rv (by simpa using W) ⟨⟨_,j8 _ rfl,rfl,rfl⟩,p.isList.at λo e=>u5 _ e⟩ (λb hb=>?_) (back rfl)
  show b < (s.heap.push _).objs.size
  rw[u1S]
  rcases d7.mp hb with rfl | hb
  .exact u3m _
  .rw[t9.mp hb];exact u1K lt
 .obtain⟨its,rv,p,hz⟩:=I.tuple h
  have p':s.heap.IsTuple a its.toArray:=p
  have lt:a < s.heap.objs.size:=by obtain⟨o,ho,_⟩:=p;exact r6 ho
  refine u1D p' ?_
  have W:=Walks.tuple (prog:=X.prog) (w:=X.w) (A:=A) hh s.heap.objs.size a (p5 lt) its.toArray
  refine k s.heap.objs.size its [s.heap.objs.size,a] [s.heap.objs.size] (λi h=>h.IsTupleIter s.heap.objs.size a i/\h.IsTuple a its.toArray) _ rv (by simpa using W) ⟨⟨_,j8 _ rfl,rfl,rfl⟩,p'.at λo e=>u5 _ e⟩ (λb hb=>?_) (back rfl)
  show b < (s.heap.push _).objs.size
  rw[u1S]
  rcases d7.mp hb with rfl | hb
  .exact u3m _
  .rw[t9.mp hb];exact u1K lt
end
end Dl
namespace Dl
open PySem L2
variable [KK]
omit [KK] in
theorem zfH {bs:List Bool}:(List.range bs.length).all (λi=>bs.getD i false)=bs.all id:=by
 have:bs=(List.range bs.length).map λi=>bs.getD i false:=by
  apply List.ext_getElem
  .simp
  .intro i h1 h2
   simp[h1]
 conv=>rhs;rw[this]
 rw[u1E]
 rfl
omit [KK] in
theorem zft:∀ (ns:List Int) (n:Nat),n<=ns.length->preSum (λi=>ns.getD i 0) n=(ns.take n).sum:=by
 intro ns n
 induction n with
 | zero=>intro _;simp[preSum]
 | succ n ih =>
  intro h
  show preSum (λi=>ns.getD i 0) n+ns.getD n 0=_
  rw[ih (by omega),u3F,List.sum_append]
  have:ns[n]?=some ns[n]:=by simp[show n < ns.length by omega]
  simp[this]
section
variable {X:Cx}
omit [KK] in
theorem ziv {bs:List Bool}{its:List Value}{i:Nat}{v:Value}(r:zU (bs.map V.bl) its)(h:its[i]?=some v):v=.bool (bs.getD i false):=by
 have hl:=r.length
 have hi:i < its.length:=(t7.mp h).1
 rw[u6]at hl
 obtain⟨u,hu,ru⟩:=r.get (i:=i) (x:=.bl (bs[i]'(by omega))) (by rw[j9];simp[show i < bs.length by omega])
 rw[h]at hu
 cases hu
 cases ru
 simp[show i < bs.length by omega]
omit [KK] in
theorem Xt {ns:List Int}{its:List Value}{i:Nat}{v:Value}(r:zU (ns.map V.int) its)(h:its[i]?=some v):∃ t,v=.int (ns.getD i 0) t:=by
 have hl:=r.length
 have hi:i < its.length:=(t7.mp h).1
 rw[u6]at hl
 obtain⟨u,hu,ru⟩:=r.get (i:=i) (x:=.int (ns[i]'(by omega))) (by rw[j9];simp[show i < ns.length by omega])
 rw[h]at hu
 cases hu
 obtain⟨t,rfl⟩:=ru
 exact⟨t,by simp[show i < ns.length by omega]⟩
theorem zeS (hc:X.calm=true):Ys X (.builtin "all") (λxs H Q=>∃ (p:Addr) (bs:List Bool),xs=[.ref p]/\(SqL X.K H p (bs.map V.bl)\/SqT X.K H p (bs.map V.bl))/\Q (.bl (bs.all id)) H):=by
 intro pins s σ H xs us Q I r h
 obtain⟨p,bs,rfl,hq,q⟩:=h
 obtain⟨u,rfl,ru⟩:=Vk r
 cases ru
 refine call_all_walk (W7 I (I.ok.hd hc) hq λit its fp wr St s₂ rv W st fpl back=>?_)
 have hl:=rv.length
 rw[u6]at hl
 refine⟨it,fp,wr,_,_,St,λi=>bs.getD i false,rfl,W,st,λi v s Q E hv hQ=>?_,λh' tk kk=>⟨.bl _,H,back h' tk kk,rfl,?_⟩⟩
 .rw[ziv rv hv]
  exact u00 hQ
 .rw[<-hl,zfH]
  exact q
theorem V4 (hc:X.calm=true):Ys X (.builtin "sum") (λxs H Q=>∃ (p:Addr) (ns:List Int),xs=[.ref p]/\(SqL X.K H p (ns.map V.int)\/SqT X.K H p (ns.map V.int))/\Q (.int ns.sum) H):=by
 intro pins s σ H xs us Q I r h
 obtain⟨p,ns,rfl,hq,q⟩:=h
 obtain⟨u,rfl,ru⟩:=Vk r
 cases ru
 refine call_sum_walkG (W7 I (I.ok.hd hc) hq λit its fp wr St s₂ rv W st fpl back=>?_)
 have hl:=rv.length
 rw[u6]at hl
 refine⟨it,fp,wr,_,_,St,λi=>ns.getD i 0,rfl,W,st,fpl,λi v hv=>Xt rv hv,λh' tk t' kk=>⟨.int ns.sum,H,back h' tk kk,?_,q⟩⟩
 refine⟨t',?_⟩
 rw[<-hl,zft ns _ (q5 _),u1Y]
def zdr (ns:List Int):Int:=(ns.max?).getD 0
omit [KK] in
theorem ziA (f:Nat→Int):∀ k i,i≤k→f i≤f (argBest (fun i j=>decide (f j < f i)) k)∧argBest (fun i j=>decide (f j < f i)) k≤k:=by
  intro k
  induction k with
  | zero => intro i hi; have : i = 0 := by omega
            subst this;exact ⟨u05 _,q5 _⟩
  | succ k ih =>
    intro i hi
    unfold argBest
    obtain ⟨h1,h2⟩:=ih (min i k) (u11 _ _)
    split
    · rename_i hc
      have hc:f (argBest (fun i j=>decide (f j < f i)) k) < f (k+1):=b7 hc
      refine ⟨?_,q5 _⟩
      by_cases hik:i≤k
      · rw [u0M hik] at h1;omega
      · have:i=k+1:=by omega
        subst this;exact u05 _
    · rename_i hc
      have hc:¬ f (argBest (fun i j=>decide (f j < f i)) k) < f (k+1):=fun z=>hc (d4 z)
      refine ⟨?_,by omega⟩
      by_cases hik:i≤k
      · rw [u0M hik] at h1;exact h1
      · have:i=k+1:=by omega
        subst this;omega
omit [KK] in
theorem zhS {ns:List Int}{m:Int}(h1:m∈ns)(h2:∀ x∈ns,x<=m):zdr ns=m:=by
 unfold zdr
 rw[List.max?_eq_some_iff.mpr ⟨h1,h2⟩]
 rfl
omit [KK] in
theorem getD_mem {ns:List Int}{k:Nat}(h:k < ns.length):ns.getD k 0∈ns:=by
 rw[n8,u7 h]
 exact u0N h
omit [KK] in
theorem getD_at {ns:List Int}{k:Nat}(h:k < ns.length):ns.getD k 0=ns[k]:=by
 rw[n8,u7 h]
 rfl
theorem zd0 (hc:X.calm=true):Ys X (.builtin "max") (λxs H Q=>∃ (p:Addr) (ns:List Int),xs=[.ref p]/\(SqL X.K H p (ns.map V.int)\/SqT X.K H p (ns.map V.int))/\ns≠[]/\Q (.int (zdr ns)) H):=by
 intro pins s σ H xs us Q I r h
 obtain⟨p,ns,rfl,hq,hne,q⟩:=h
 obtain⟨u,rfl,ru⟩:=Vk r
 cases ru
 refine call_max_walk (W7 I (I.ok.hd hc) hq λit its fp wr St s₂ rv W st fpl back=>?_)
 have hl:=rv.length
 rw[u6]at hl
 have hpos:0 < ns.length:=List.length_pos_iff.mpr hne
 refine⟨it,fp,wr,_,_,St,λi j=>decide (ns.getD j 0 < ns.getD i 0),rfl,W,st,fpl,by omega,λi j vi vj s Q E hi hj hQ=>?_,λv h' tk hv kk=>?_⟩
 .obtain⟨t1,rfl⟩:=Xt rv hi
  obtain⟨t2,rfl⟩:=Xt rv hj
  exact PyProof.Rows.gt_int hQ
 .obtain⟨t,rfl⟩:=Xt rv hv
  refine⟨.int (zdr ns),H,back h' tk kk,⟨t,?_⟩,q⟩
  have key:=ziA (λi=>ns.getD i 0) (its.length - 1)
  have hb:argBest (λi j=>decide (ns.getD j 0 < ns.getD i 0)) (its.length - 1) < ns.length:=by
   have:=(key 0 (u0g _)).2
   omega
  rw[zhS (m:=ns.getD (argBest (λi j=>decide (ns.getD j 0 < ns.getD i 0)) (its.length - 1)) 0)]
  .exact getD_mem hb
  .intro x hx
   obtain⟨j,hj,rfl⟩:=p8 hx
   have:=(key j (by omega)).1
   rw[<-getD_at hj]
   exact this
def zjd:List D->Option (List Bool)
 | []=>some []
 | .bl b::ds=>(zjd ds).map (b::·)
 | _=>none
def zcs:List D->Option (List Int)
 | []=>some []
 | .int b::ds=>(zcs ds).map (b::·)
 | _=>none
omit [KK] in
theorem zez:∀ {ds:List D} {bs:List Bool},zjd ds=some bs->ds=bs.map .bl
 | [],bs,h=>by cases h;rfl
 | d::ds,bs,h=>by
  cases d <;> try cases h
  obtain⟨cs,h1,rfl⟩:=t8.mp h
  rw[zez h1]
  rfl
omit [KK] in
theorem X8:∀ {ds:List D} {bs:List Int},zcs ds=some bs->ds=bs.map .int
 | [],bs,h=>by cases h;rfl
 | d::ds,bs,h=>by
  cases d <;> try cases h
  obtain⟨cs,h1,rfl⟩:=t8.mp h
  rw[X8 h1]
  rfl
omit [KK] in
theorem zhy (bs:List Bool):zjd (bs.map .bl)=some bs:=by
 induction bs with
 | nil=>rfl
 | cons b r ih=>show(zjd (r.map .bl)).map (b::·)=_;rw[ih];rfl
omit [KK] in
theorem Vu (bs:List Int):zcs (bs.map .int)=some bs:=by
 induction bs with
 | nil=>rfl
 | cons b r ih=>show(zcs (r.map .int)).map (b::·)=_;rw[ih];rfl
theorem AtL.of_bls {H:Hp}:∀ {ns:List Bool} {xs:List V},AtL H (ns.map D.bl) xs->xs=ns.map V.bl
 | [],_,h=>h.nil_inv
 | n::r,_,h=>by
  obtain⟨x,r',rfl,h1,h2⟩:=AtL.cons_inv (by simpa using h)
  rw[h1.bl_inv,AtL.of_bls h2]
  rfl
def zk1 {α:Type}(as:List D->Option α)(g:α->Option D):List D->Option D
 | [d]=>((xP d).bind as).bind g
 | _=>none
theorem zbn {K:W.Frag}{F H:Hp}{vs:List V}{ds:List D}{z:D}{α:Type}{as:List D->Option α}{g:α->Option D}(s:yI F H)(al:AtL F ds vs)(e:zk1 as g ds=some z) :
 ∃ p es xs b,vs=[.ref p]/\(SqL K H p xs\/SqT K H p xs)/\AtL F es xs/\as es=some b/\g b=some z:=by
 unfold zk1 at e
 split at e
 .obtain⟨b,e1,e2⟩:=u0.mp e
  obtain⟨es,e3,e4⟩:=u0.mp e1
  obtain⟨x,r,rfl,ax,ar⟩:=al.cons_inv
  cases ar.nil_inv
  rename_i d
  cases d <;> cases e3
  .obtain⟨p,xs,rfl,hx,bl⟩:=ax.tup_inv
   exact⟨p,_,xs,b,rfl,.inr (SqT.of (s _ _ hx)),bl,e4,e2⟩
  .obtain⟨p,xs,rfl,hx,bl⟩:=ax.lst_inv
   exact⟨p,_,xs,b,rfl,.inl (SqL.of (s _ _ hx)),bl,e4,e2⟩
 .cases e
def zko:=zk1 zjd λbs=>some (.bl (bs.all id))
def zkX:=zk1 zcs λns=>some (.int ns.sum)
def ziV:=zk1 zcs λns=>if ns=[]then none else some (.int (zdr ns))
theorem zjM {K:W.Frag}:CaD (λxs H Q=>∃ (p:Addr) (bs:List Bool),xs=[.ref p]/\(SqL K H p (bs.map V.bl)\/SqT K H p (bs.map V.bl))/\Q (.bl (bs.all id)) H) zko:=by
 intro F H vs ds z Q s al e q
 obtain⟨p,es,xs,bs,rfl,hq,bl,e1,e2⟩:=zbn (K:=K) s al e
 cases e2
 rw[zez e1]at bl
 rw[bl.of_bls]at hq
 exact⟨p,bs,rfl,hq,q F H _ (.refl s) .bl⟩
theorem zdZ {K:W.Frag}:CaD (λxs H Q=>∃ (p:Addr) (ns:List Int),xs=[.ref p]/\(SqL K H p (ns.map V.int)\/SqT K H p (ns.map V.int))/\Q (.int ns.sum) H) zkX:=by
 intro F H vs ds z Q s al e q
 obtain⟨p,es,xs,bs,rfl,hq,bl,e1,e2⟩:=zbn (K:=K) s al e
 cases e2
 rw[X8 e1]at bl
 rw[bl.of_ints]at hq
 exact⟨p,bs,rfl,hq,q F H _ (.refl s) .int⟩
theorem zgT {K:W.Frag}:CaD (λxs H Q=>∃ (p:Addr) (ns:List Int),xs=[.ref p]/\(SqL K H p (ns.map V.int)\/SqT K H p (ns.map V.int))/\ns≠[]/\Q (.int (zdr ns)) H) ziV:=by
 intro F H vs ds z Q s al e q
 obtain⟨p,es,xs,bs,rfl,hq,bl,e1,e2⟩:=zbn (K:=K) s al e
 split at e2 <;> cases e2
 rename_i hne
 rw[X8 e1]at bl
 rw[bl.of_ints]at hq
 exact⟨p,bs,rfl,hq,hne,q F H _ (.refl s) .int⟩
end
end Dl
namespace Dl
open PySem L2
variable [KK]
section
variable {X:Cx}{tg a b c e:Expr}{pos:Pos}
def zipD:List D->List D->List D
 | x::xs,y::ys=>.tup [x,y]::zipD xs ys
 | _,_=>[]
def ZN (f:Ev->Option (List D)):Ev->Option (List D):=fun ρ=>(f ρ).bind λas=>match as with
 | [d,e]=>(xP d).bind λxs=>(xP e).bind λys=>if xs.length<=ys.length then some (zipD xs ys)else none
 | _=>none
def xB (g:List D->Option (List D))(f:Ev->Option (List D))(b:D->SE->Option SE)(h:SE->Ctl):SE->Ctl:=fun ρ=>match (f (visG ρ)).bind g with
 | some ds=>zfs b h ds ρ
 | none=>.no
theorem vw {p pos':Pos} {body:List Stmt} {f:Ev->Option (List D)} {b':D->SE->Option SE} {g:SE->Ctl} (hp:PassesOwn (model X.prog X.w) X.A X.env X.xe) (hc:X.calm=true) (hgl:Gl X "range") (hm:X.mg "range"=none) (ha:AD X [a] f) (hg:BD X tg b') (hb:SDs X body g)
 (hs0:starEach [a] X.env=[(false,eval a X.env)]:=by rfl) (hs:∀ x,foldedSetIterable (.Call (.Name "range" p) [a] [] pos) X.env x=pure x:=by intro _;rfl):SD X (.For tg (.Call (.Name "range" p) [a] [] pos) body [] pos') (xB wB f b' g):=by
 obtain⟨t,pa,r⟩:=ha
 obtain⟨tg',pg,rg⟩:=hg
 obtain⟨tb,pb,rb⟩:=hb
 refine⟨_,zes hp hc (za6 hgl hm pa hs0) pg pb hs,λFb Hb F H ρ σ E rl k=>?_⟩
 unfold xB at k
 cases h:(f (visG ρ)).bind wB with
 | none=>rw[h]at k;exact k.elim
 | some ds =>
  rw[h]at k
  obtain⟨as,e1,e2⟩:=u0.mp h
  refine r σ _ _ H as _ rl.gh rl.visG e1 λF1 H1 vs g1 a1=>?_
  have rl2:=rl.grow (rl.back g1).1
  unfold wB at e2
  split at e2
  .split at e2 <;> cases e2
   rename_i hc
   obtain⟨x,r',rfl,ax,ar⟩:=a1.cons_inv
   cases ar.nil_inv
   exact⟨_,by rw[ax.int_inv],(yH.mp hc).1,(yH.mp hc).2,zd5 (zeM 0 _) rg rb rl2 k⟩
  .cases e2
theorem zgb {p pos':Pos} {body:List Stmt} {f:Ev->Option (List D)} {b':D->SE->Option SE} {g:SE->Ctl} (hp:PassesOwn (model X.prog X.w) X.A X.env X.xe) (hc:X.calm=true) (hgl:Gl X "range") (hm:X.mg "range"=none) (ha:AD X [a,b] f) (hg:BD X tg b') (hb:SDs X body g)
 (hs0:starEach [a,b] X.env=[(false,eval a X.env),(false,eval b X.env)]:=by rfl) (hs2:starEach [b] X.env=[(false,eval b X.env)]:=by rfl) (hs:∀ x,foldedSetIterable (.Call (.Name "range" p) [a,b] [] pos) X.env x=pure x:=by intro _;rfl):SD X (.For tg (.Call (.Name "range" p) [a,b] [] pos) body [] pos') (xB WZ f b' g):=by
 obtain⟨t,pa,r⟩:=ha
 obtain⟨tg',pg,rg⟩:=hg
 obtain⟨tb,pb,rb⟩:=hb
 refine⟨_,zes hp hc (zd3 hgl hm pa hs0 hs2) pg pb hs,λFb Hb F H ρ σ E rl k=>?_⟩
 unfold xB at k
 cases h:(f (visG ρ)).bind WZ with
 | none=>rw[h]at k;exact k.elim
 | some ds =>
  rw[h]at k
  obtain⟨as,e1,e2⟩:=u0.mp h
  refine r σ _ _ H as _ rl.gh rl.visG e1 λF1 H1 vs g1 a1=>?_
  have rl2:=rl.grow (rl.back g1).1
  unfold WZ at e2
  split at e2
  .split at e2 <;> cases e2
   rename_i hc
   obtain⟨x,r',rfl,ax,ar⟩:=a1.cons_inv
   obtain⟨y,r',rfl,ay,ar⟩:=ar.cons_inv
   cases ar.nil_inv
   exact⟨_,_,by rw[ax.int_inv,ay.int_inv],⟨(yH.mp hc.1).1,(yH.mp hc.1).2,(yH.mp hc.2).1,(yH.mp hc.2).2⟩,zd5 (zeM _ _) rg rb rl2 k⟩
  .cases e2
end
def zfh (K:W.Frag):Sp:=λvs H Q _=>∃ (a:Addr) (ns:List Int),vs=[.ref a]/\SqL K H a (ns.map V.int)/\ns.length<=63/\∀ H',Q (.bl true) H'
end Dl
namespace Dl
open PySem L2
theorem zkk {P:Program}{w:World}{K:W.Frag}{mg:Str->Option Value}{base:Heap}{f:Addr}{fd:FuncData}{ps:List Str}{k:Nat}{p:List D->Option D}(F:xo P w K mg base CX0 k f fd ps (@spD ⟨K⟩ 1 p))(h:∀ ns:List Int,ns.length<=63->p [.scr ns]=some (.bl true)) :
 xo P w K mg base CX0 k f fd ps (zfh K):=by
 letI:KK:=⟨K⟩
 refine F.imp λvs H Q E hs=>?_
 obtain⟨a,ns,rfl,hq,hl,q⟩:=hs
 refine⟨[.scr ns],.bl true,H,rfl,yI.refl _,.cons ?_ .nil,h ns hl,λF' H' v _ av=>?_⟩
 .unfold At
  exact⟨a,rfl,hq⟩
 .rw[av.bl_inv]
  exact q H'
structure Def (K:W.Frag) (mg:Str->Option Value) (x:Str) (st:Stmt) (ps:List Str) (f:Addr) (fd:FuncData):Prop where
 fn:Fun K x x st f fd
 bd:zbq K fd ps []
 at_:mg x=some (.ref f)
theorem Def.kp {K:W.Frag}{mg:Str->Option Value}{x:Str}{st:Stmt}{ps:List Str}{f:Addr}{fd:FuncData}(d:Def K mg x st ps f fd):W.keepIn K (.ref f)=true:=d.fn.kp
inductive Ctl.w:Ctl->(SE->Prop)->(SE->Prop)->(SE->Prop)->(D->Prop)->Prop where
 | nx {ρ:SE} {n b k:SE->Prop} {r:D->Prop}:n ρ->Ctl.w (.nx ρ) n b k r
 | bk {ρ:SE} {n b k:SE->Prop} {r:D->Prop}:b ρ->Ctl.w (.bk ρ) n b k r
 | ct {ρ:SE} {n b k:SE->Prop} {r:D->Prop}:k ρ->Ctl.w (.ct ρ) n b k r
 | rt {d:D} {n b k:SE->Prop} {r:D->Prop}:r d->Ctl.w (.rt d) n b k r
section
variable {ρ:SE}{d:D}{n b k:SE->Prop}{r:D->Prop}
theorem Ctl.w.nxi (h:Ctl.w (.nx ρ) n b k r):n ρ:=by cases h;assumption
theorem Ctl.w.bki (h:Ctl.w (.bk ρ) n b k r):b ρ:=by cases h;assumption
theorem Ctl.w.cti (h:Ctl.w (.ct ρ) n b k r):k ρ:=by cases h;assumption
theorem Ctl.w.rti (h:Ctl.w (.rt d) n b k r):r d:=by cases h;assumption
theorem Ctl.w.noi (h:Ctl.w .no n b k r):False:=by cases h
end
abbrev noP:SE->Prop:=λ_=>False
section
variable {g h:SE->Ctl}{ρ ρ':SE}{n b k:SE->Prop}{r:D->Prop}
theorem xw (e:(g ρ).w (fun ρ'=>(h ρ').w n b k r) b k r):(zO g h ρ).w n b k r:=by
 unfold zO
 cases hg:g ρ with
 | nx ρ'=>rw[hg]at e;exact e.nxi
 | bk ρ'=>rw[hg]at e;exact .bk e.bki
 | ct ρ'=>rw[hg]at e;exact .ct e.cti
 | rt d=>rw[hg]at e;exact .rt e.rti
 | no=>rw[hg]at e;exact e.noi.elim
theorem zA (e:g ρ=.nx ρ')(q:(h ρ').w n b k r):(zO g h ρ).w n b k r:=xw (by rw[e];exact .nx q)
theorem Zw (e:g ρ=.nx ρ')(q:n ρ'):(g ρ).w n b k r:=by rw[e];exact .nx q
theorem ZI {d:D}(e:g ρ=.rt d)(q:r d):(g ρ).w n b k r:=by rw[e];exact .rt q
theorem zmi {d:D}(e:g ρ=.rt d)(q:r d):(zO g h ρ).w n b k r:=xw (by rw[e];exact .rt q)
theorem VF {t:Ev->Option Bool}{c:Bool}(e:t (visG ρ)=some c)(h1:c=true->(g ρ).w n b k r)(h2:c=false->(h ρ).w n b k r):(sIf t g h ρ).w n b k r:=by
 unfold sIf
 rw[e]
 cases c with
 | true=>exact h1 rfl
 | false=>exact h2 rfl
theorem zel {i:Nat}(e:zmg ρ i=ρ')(q:(g ρ').w n b k r):(sFz i g ρ).w n b k r:=by
 unfold sFz
 rw[e]
 exact q
theorem zeH {bd:D->SE->Option SE}(I:Nat->SE->Prop):∀ (ds:List D) (j:Nat) (ρ:SE),I j ρ ->
 (∀ i d ρ,ds[i]?=some d->I (j+i) ρ->∃ ρ1,bd d ρ=some ρ1/\(g ρ1).w (I (j+i+1)) n (I (j+i+1)) r)->(∀ ρ,I (j+ds.length) ρ->n ρ)->(zfs bd g ds ρ).w n b k r
 | [],j,ρ,h0,_,fin=>.nx (fin ρ h0)
 | d::ds,j,ρ,h0,step,fin=>by
  obtain⟨ρ1,e1,e2⟩:=step 0 d ρ rfl h0
  unfold zfs
  rw[e1]
  dsimp only
  have next:∀ ρ',I (j+1) ρ'->(zfs bd g ds ρ').w n b k r:=fun ρ' h'=>zeH I ds (j+1) ρ' h'
   (λi d' ρ hd hI=>by
    have:=step (i+1) d' ρ (by simpa using hd) (by rw[show j+(i+1)=j+1+i by omega];exact hI)
    rwa[show j+(i+1)+1=j+1+i+1 by omega]at this)
   (fun ρ hI=>fin ρ (by rw[e8,show j+(ds.length+1)=j+1+ds.length by omega];exact hI))
  cases hg:g ρ1 with
  | nx ρ'=>rw[hg]at e2;exact next ρ' e2.nxi
  | ct ρ'=>rw[hg]at e2;exact next ρ' e2.cti
  | bk ρ'=>rw[hg]at e2;exact .nx e2.bki
  | rt d'=>rw[hg]at e2;exact .rt e2.rti
  | no=>rw[hg]at e2;exact e2.noi.elim
theorem zc5 {f:Ev->Option (List D)}{bd:D->SE->Option SE}{ds:List D}(I:Nat->SE->Prop)(e:f (visF ρ)=some ds)(h0:I 0 ρ)
 (step:∀ i d ρ,ds[i]?=some d->I i ρ->∃ ρ1,bd d ρ=some ρ1/\(g ρ1).w (I (i+1)) n (I (i+1)) r) (fin:∀ ρ,I ds.length ρ->n ρ):(XQ f bd g ρ).w n b k r:=by
 unfold XQ
 rw[e]
 exact zeH I ds 0 ρ h0 (λi d ρ hd hI=>by rw[u1a]at hI ⊢;exact step i d ρ hd hI) (fun ρ hI=>fin ρ (by rw[u1a]at hI;exact hI))
theorem ZR {f:Ev->Option (List D)}{bd:D->SE->Option SE}{rg:List D->Option (List D)}{lo:Int}{c:Nat}(I:Nat->SE->Prop)(e:(f (visG ρ)).bind rg=some (Z4 lo c))(h0:I 0 ρ)
 (step:∀ (i:Nat) ρ,i < c->I i ρ->∃ ρ1,bd (.int (lo+i)) ρ=some ρ1/\(g ρ1).w (I (i+1)) n (I (i+1)) r) (fin:∀ ρ,I c ρ->n ρ):(xB rg f bd g ρ).w n b k r:=by
 unfold xB
 rw[e]
 refine zeH I (Z4 lo c) 0 ρ h0 (λi d ρ hd hI=>?_) (fun ρ hI=>fin ρ ?_)
 .rw[u1a]at hI ⊢
  unfold Z4 at hd
  rw[j9]at hd
  by_cases hi:i < c
  .rw[u1w hi]at hd
   cases hd
   exact step i ρ hi hI
  .rw[u0m (by simpa using hi)]at hd
   cases hd
 .rw[u1a]at hI
  rwa[show(Z4 lo c).length=c by unfold Z4;simp]at hI
theorem zfr {n' b' k':SE->Prop}{r':D->Prop}{c:Ctl}(q:c.w n b k r)(h1:∀ ρ,n ρ->n' ρ)(h2:∀ ρ,b ρ->b' ρ)(h3:∀ ρ,k ρ->k' ρ)(h4:∀ d,r d->r' d):c.w n' b' k' r':=by
 cases q with
 | nx q=>exact .nx (h1 _ q)
 | bk q=>exact .bk (h2 _ q)
 | ct q=>exact .ct (h3 _ q)
 | rt q=>exact .rt (h4 _ q)
theorem VM {t:Ev->Option Bool}(I:SE->Prop)(μ:SE->Nat)(step:∀ ρ,I ρ->∃ c,t (visG ρ)=some c/\(c=true->(g ρ).w (fun ρ'=>I ρ'/\μ ρ' < μ ρ) n (fun ρ'=>I ρ'/\μ ρ' < μ ρ) r)/\(c=false->n ρ)):∀ (fu:Nat) (ρ:SE),I ρ->μ ρ < fu->(vT t g fu ρ).w n b k r
 | 0,ρ,_,hf=>by omega
 | fu+1,ρ,hI,hf=>by
  obtain⟨c,e,q1,q2⟩:=step ρ hI
  unfold vT
  rw[e]
  cases c with
  | false=>exact .nx (q2 rfl)
  | true =>
   have q:=q1 rfl
   dsimp only
   cases hg:g ρ with
   | nx ρ'=>rw[hg]at q;exact VM I μ step fu ρ' q.nxi.1 (by have:=q.nxi.2;omega)
   | ct ρ'=>rw[hg]at q;exact VM I μ step fu ρ' q.cti.1 (by have:=q.cti.2;omega)
   | bk ρ'=>rw[hg]at q;exact .nx q.bki
   | rt d'=>rw[hg]at q;exact .rt q.rti
   | no=>rw[hg]at q;exact q.noi.elim
end
theorem WK {m:Nat}{g:SE->Ctl}{ds:List D}{d:D}{ρ:SE}(e:ds.map .v++List.replicate (m - ds.length) .no=ρ)(q:(g ρ).w (λ_=>d=.non) noP noP (λd'=>d'=d)):fnD m g ds=some d:=by
 unfold fnD
 rw[e]
 cases hg:g ρ with
 | nx ρ'=>rw[hg]at q;rw[show d=.non from q.nxi]
 | rt d'=>rw[hg]at q;rw[show d'=d from q.rti]
 | bk _=>rw[hg]at q;exact q.bki.elim
 | ct _=>rw[hg]at q;exact q.cti.elim
 | no=>rw[hg]at q;exact q.noi.elim
theorem zcx {m:Bool}{i:Nat}{f:Ev->Option D}{ρ:SE}{ds:List D}{d:D}(h1:vEv m f ρ=some d)(h2:ρ[i]?=some (.o ds))(h3:ds.length<=1000):Xg m i f ρ=.nx (ρ.set i (.o (ds++[d]))):=by
 unfold Xg
 rw[h1,h2]
 show(match (if decide (ds.length < sizeLine)=true then some (ρ.set i (.o (ds++[d])))else none)with | some ρ'=>Ctl.nx ρ' | none=>Ctl.no)=_
 rw[u8 (d4 (YZ h3))]
theorem ZD {b:D->Option (List (Option D))}{t:Ev->Option Bool}{f:Ev->Option D}{ρ:Ev}{α:Type}(c:α->D)(y:α->D):∀ (xs:List α),(∀ x∈xs,∃ own,b (c x)=some own/\t (own++ρ)=some true/\f (own++ρ)=some (y x))->lcD b t f ρ (xs.map c)=some (xs.map y)
 | [],_=>rfl
 | x::xs,h=>by
  obtain⟨own,h1,h2,h3⟩:=h x m7
  show lcD b t f ρ (c x::xs.map c)=_
  unfold lcD
  rw[h1]
  simp only[p9,h2,u3j,h3,ZD c y xs λz hz=>h z (b8 _ hz)]
  rfl
theorem Yr {b:D->Option (List (Option D))}{t:Ev->Option Bool}{f:Ev->Option D}{ρ:Ev}{α:Type}(c:α->D)(p:α->Bool)(y:α->D):∀ (xs:List α),(∀ x∈xs,∃ own,b (c x)=some own/\t (own++ρ)=some (p x)/\(p x=true->f (own++ρ)=some (y x)))->lcD b t f ρ (xs.map c)=some ((xs.filter p).map y)
 | [],_=>rfl
 | x::xs,h=>by
  obtain⟨own,h1,h2,h3⟩:=h x m7
  have ih:=Yr c p y xs λz hz=>h z (b8 _ hz)
  show lcD b t f ρ (c x::xs.map c)=_
  unfold lcD
  rw[h1]
  simp only[p9,h2]
  cases hp:p x with
  | false =>
   rw[u9 u4,ih,List.filter_cons,u9 (by rw[hp];exact u4)]
  | true =>
   rw[u8 rfl,h3 hp,ih,List.filter_cons,u8 hp]
   rfl
mutual
def noS:D->Bool
 | .tup ds=>zf8 ds
 | .lst ds=>zf8 ds
 | .scr _=>false
 | _=>true
def zf8:List D->Bool
 | []=>true
 | d::ds=>noS d&&zf8 ds
end
theorem vA:∀ {ds:List D} {i:Nat} {d:D},zf8 ds=true->ds[i]?=some d->noS d=true
 | [],_,_,_,h=>by simp at h
 | d::ds,i,e,h,he=>by
  unfold zf8 at h
  rw[p4]at h
  cases i with
  | zero=>simp at he;subst he;exact h.1
  | succ i=>exact vA h.2 (by simpa using he)
theorem wn {n:Nat}(h:n<=1000):lim n=true:=by
 unfold lim
 exact d4 (u1u (YZ h))
theorem YR (lo:Int)(n:Nat):(Z4 lo n).length=n:=by unfold Z4;simp
end Dl
namespace Dl
open PySem L2
abbrev Pr:=Int × Int
def prD (t:Pr):D:=.tup [.int t.1,.int t.2]
def zma:D->Option Pr
 | .tup [.int a,.int b]=>some (a,b)
 | _=>none
def V5:List D->Option (List Pr)
 | []=>some []
 | d::ds=>(zma d).bind λt=>(V5 ds).map (t::·)
theorem zjz {d:D}{t:Pr}(h:zma d=some t):d=prD t:=by
 unfold zma at h
 split at h
 .cases h;rfl
 .cases h
theorem zcv:∀ {ds:List D} {ts:List Pr},V5 ds=some ts->ds=ts.map prD
 | [],ts,h=>by cases h;rfl
 | d::ds,ts,h=>by
  unfold V5 at h
  obtain⟨t,h1,h2⟩:=u0.mp h
  obtain⟨us,h3,rfl⟩:=t8.mp h2
  rw[zjz h1,zcv h3]
  rfl
theorem za2 (ts:List Pr):V5 (ts.map prD)=some ts:=by
 induction ts with
 | nil=>rfl
 | cons t ts ih =>
  show(zma (prD t)).bind (λu=>(V5 (ts.map prD)).map (u::·))=_
  rw[ih]
  rfl
def zjW (a b:Pr):Bool:=!OwnSort.bltP b a
def Vz (ts:List Pr):List Pr:=ts.mergeSort zjW
def leI (a b:Int):Bool:=decide (a<=b)
def zhQ (ns:List Int):List Int:=ns.mergeSort leI
theorem WM {a b:Pr}:OwnSort.bltP b a=false↔zjW a b=true:=by unfold zjW;simp
theorem wH {a b:Pr}:zjW a b=true↔a.1 < b.1\/(a.1=b.1/\a.2<=b.2):=by
 rw[<-WM]
 unfold OwnSort.bltP
 rw[u0F]
 omega
theorem zc1 {ts us:List Pr}(p:us.Perm ts)(h:us.Pairwise λa b=>OwnSort.bltP b a=false):us=Vz ts:=by
 refine u19 (le:=λa b=>zjW a b=true) (λa b _ _ h1 h2=>?_) (h.imp λx=>WM.mp x) ?_ (p.trans (u2O _ _).symm)
 .rw[wH]at h1 h2
  exact u3h (by omega) (by omega)
 .exact u2i (λa b c h1 h2=>by rw[wH]at *;omega) (λa b=>by rw[u3u,wH,wH];omega) _
theorem zc0 {ts us:List Int}(p:us.Perm ts)(h:us.Pairwise (·<=·)):us=zhQ ts:=by
 refine u19 (le:=λa b=>leI a b=true) (λa b _ _ h1 h2=>?_) (h.imp λx=>d4 x) ?_ (p.trans (u2O _ _).symm)
 .unfold leI at h1 h2
  rw[r8]at h1 h2
  omega
 .exact u2i (λa b c h1 h2=>by unfold leI at *;rw[r8]at *;omega) (λa b=>by unfold leI;rw[u3u,r8,r8];omega) _
def zds:List D->Option (List D)
 | [.lst ds]=>if ds.length < 64 then match V5 ds with
  | some ts=>some ((Vz ts).map prD)
  | none=>match zcs ds with
   | some ns=>some ((zhQ ns).map .int)
   | none=>none
  else none
 | _=>none
variable [KK]
section
variable {X:Cx}{e:Expr}{pos:Pos}
theorem At.pr_inv {F:Hp}{t:Pr}{v:V}(h:At F (prD t) v):∃ a,v=.ref a/\F a=some (.tup [.int t.1,.int t.2]):=by
 obtain⟨a,xs,rfl,hx,al⟩:=h.tup_inv
 obtain⟨x,r,rfl,a1,al⟩:=al.cons_inv
 obtain⟨y,r,rfl,a2,al⟩:=al.cons_inv
 cases al.nil_inv
 cases a1.int_inv
 cases a2.int_inv
 exact⟨a,rfl,hx⟩
theorem zbc (hc:X.calm=true):Ys X (.builtin "sorted") (λxs H Q=>∃ F p ys ds out,xs=[.ref p]/\yI F H/\H p=some (.lst ys)/\AtL F ds ys/\zds [.lst ds]=some out/\∀ l zs,H l=none->AtL F out zs->Q (.ref l) (upd H l (.lst zs))):=by
 intro pins s σ H xs us Q I r h
 obtain⟨F,p,ys,ds,out,rfl,sm,hp,al,hs,q⟩:=h
 obtain⟨u,rfl,ru⟩:=Vk r
 cases ru
 obtain⟨its,rv,pl,hz⟩:=I.list (SqL.of hp)
 have hlen:its.length=ds.length:=by rw[<-rv.length,al.length]
 unfold zds at hs
 dsimp only at hs
 split at hs <;> try cases hs
 rename_i h64
 have fin:∀ (zs:List V) (ws:List Value),zs.length < 64->zU zs ws->AtL F out zs->EP X pins σ Q (.ref (s.heap.objs.size+1)) { s with heap:=PyProof.Rows.sortedAll s.heap its ws.toArray }:=λzs ws hl rz az=>by
  have hn:H (s.heap.objs.size+1)=none:=I.hok.fresh (u3f _)
  obtain⟨ep,he⟩:=PyProof.Rows.sortedAll_at s.heap its ws.toArray
  refine⟨.ref (s.heap.objs.size+1),upd H (s.heap.objs.size+1) (.lst zs),I.laid (t':=s.toks) (λb o z=>PyProof.Rows.sortedAll_old z) (u3f _) ?_,rfl,q _ zs hn az⟩
  exact⟨u1u (YZ (by omega)),ws,ep,rz,he⟩
 split at hs
 .rename_i ts hts
  cases hs
  have eds:=zcv hts
  subst eds
  have look:∀ {v:Value},v∈its->∃ a t,v=.ref a/\t∈ts/\F a=some (.tup [.int t.1,.int t.2])/\OwnSort.TP s.heap v t:=λ{v} hv=>by
   obtain⟨j,hj,rfl⟩:=p8 hv
   have hj2:j < ts.length:=by rw[u6]at hlen;omega
   obtain⟨x,hx,ax⟩:=al.get (i:=j) (d:=prD ts[j]) (by rw[j9];simp[hj2])
   obtain⟨a,rfl,ha⟩:=ax.pr_inv
   obtain⟨v,hv,rvv⟩:=rv.get hx
   have e1:its[j]?=some its[j]:=by simp[hj]
   rw[hv]at e1
   cases e1
   have e2:its[j]=.ref a:=rvv
   refine⟨a,ts[j],e2,u0N hj2,ha,?_⟩
   obtain⟨us,ru,⟨o,ho,hcl,n,hd⟩,_⟩:=I.tuple (SqT.of (sm _ _ ha))
   obtain⟨u1,u2,rfl,r1,r2⟩:=zdR ru
   obtain⟨t1,rfl⟩:=r1
   obtain⟨t2,rfl⟩:=r2
   exact⟨a,o,n,t1,t2,e2,ho,hcl,hd⟩
  refine OwnSort.own_sorted pl.isList (λv hv=>let ⟨a,t,_,_,_,ht⟩:=look hv;⟨t,ht⟩) (by omega) λo2 pm ri=>?_
  obtain⟨us,l1,l2,l3⟩:=ri
  have hlo:o2.toList.length=ts.length:=by rw[pm.length_eq,hlen,u6]
  -- the values' addresses
  have zsOf:∀ (ws:List Value) (vs:List Pr),ws.length=vs.length->(∀ w∈ws,w∈its)->(∀ (i:Nat) v t,ws[i]?=some v->vs[i]?=some t->OwnSort.TP s.heap v t)->∃ zs:List V,zU zs ws/\AtL F (vs.map prD) zs:=by
   intro ws
   induction ws with
   | nil =>
    intro vs hl _ _
    cases vs with
    | nil=>exact⟨[],.nil,.nil⟩
    | cons _ _=>simp at hl
   | cons w ws ih =>
    intro vs hl hm ht
    cases vs with
    | nil=>simp at hl
    | cons t vs =>
     obtain⟨zs,z1,z2⟩:=ih vs (by simpa using hl) (λw' hw'=>hm w' (b8 _ hw')) (λi v t h1 h2=>ht (i+1) v t (by simpa using h1) (by simpa using h2))
     obtain⟨a,t',rfl,_,ha,htp⟩:=look (hm w m7)
     have et:t'=t:=htp.uniq (ht 0 _ t rfl rfl)
     subst et
     exact⟨.ref a::zs,.cons rfl z1,.cons (.tup ha (.cons .int (.cons .int .nil))) z2⟩
  obtain⟨zs,z1,z2⟩:=zsOf o2.toList us l1 (λw hw=>pm.mem_iff.mp hw) l2
  have keysPerm:us.Perm ts:=by
   -- by the keys of the values
   have kv:∀ (ws:List Value) (vs:List Pr),ws.length=vs.length->(∀ (i:Nat) v t,ws[i]?=some v->vs[i]?=some t->OwnSort.TP s.heap v t)->vs=ws.map λv=>(OwnSort.keyP s.heap v).getD (0,0):=by
    intro ws
    induction ws with
    | nil=>intro vs hl _;cases vs with
     | nil=>rfl
     | cons _ _=>simp at hl
    | cons w ws ih =>
     intro vs hl ht
     cases vs with
     | nil=>simp at hl
     | cons t vs =>
      rw[d8,OwnSort.keyP_of (ht 0 w t rfl rfl),<- ih vs (by simpa using hl) λi v t h1 h2=>ht (i+1) v t (by simpa using h1) (by simpa using h2)]
      rfl
   rw[kv _ _ l1 l2,kv its ts (by rw[hlen,u6]) λi v t h1 h2=>?_]
   .exact pm.map _
   .obtain⟨x,hx,ax⟩:=al.get (i:=i) (d:=prD t) (by rw[j9,h2];rfl)
    obtain⟨a,rfl,ha⟩:=ax.pr_inv
    obtain⟨v',hv',rvv⟩:=rv.get hx
    rw[h1]at hv'
    cases hv'
    obtain⟨us',ru',⟨o,ho,hcl,n,hd⟩,_⟩:=I.tuple (SqT.of (sm _ _ ha))
    obtain⟨u1,u2,rfl,r1,r2⟩:=zdR ru'
    obtain⟨t1,rfl⟩:=r1
    obtain⟨t2,rfl⟩:=r2
    exact⟨a,o,n,t1,t2,rvv,ho,hcl,hd⟩
  have e3:=zc1 keysPerm l3
  rw[e3]at z2
  have:=fin zs o2.toList (by rw[z1.length];rw[u6]at h64;omega) z1 z2
  simpa using this
 .split at hs <;> try cases hs
  rename_i ns hns
  have eds:=X8 hns
  subst eds
  have hI:PyProof.Rows.IntsAre its ns:=vb (by rw[<-al.of_ints];exact rv)
  refine PyProof.Rows.sorted_ints pl.isList hI (by omega) λo2 ns' h1 h2 h3=>?_
  have e3:=zc0 h2 h3
  subst e3
  have z1:zU ((zhQ ns).map V.int) o2.toList:=zaQ h1
  have:=fin ((zhQ ns).map V.int) o2.toList (by rw[u6,h2.length_eq];rw[u6]at h64;omega) z1 (.ints _)
  simpa using this
theorem zeI {p:Pos} {f:Ev->Option (List D)} (hc:X.calm=true) (hgl:Gl X "sorted") (hm:X.mg "sorted"=none) (ha:AD X [e] f)
 (he:starEach [e] X.env=(false,eval e X.env)::starEach [] X.env:=by rfl) (hpl:(backTo pos (starEach [] X.env)).any (·.1)=false:=by rfl):FL X (.Call (.Name "sorted" p) [e] [] pos) (fFn zds f):=by
 obtain⟨t,pa,ra⟩:=ha
 refine⟨_,Xe (zbc hc) hgl hm XM pa (by decide) (by decide) he hpl,fun σ ρ F H z Q s va e q=>?_⟩
 obtain⟨ds,e1,e2⟩:=u0.mp e
 refine ra σ ρ F H ds _ s va e1 λF1 H1 vs g1 a1=>?_
 have e2':=e2
 unfold zds at e2'
 split at e2'
 .obtain⟨x,r,rfl,ax,ar⟩:=a1.cons_inv
  cases ar.nil_inv
  obtain⟨p,ys,rfl,hx,bl⟩:=ax.lst_inv
  exact⟨F1,p,ys,_,z,rfl,g1.fh,g1.fh _ _ hx,bl,e2,λl zs hl az=>q _ _ _ _ (g1.trans (Gr.hide g1.fh hl _)) (zbV g1 hl) (g1.fh.free hl) zp az⟩
 .cases e2'
end
end Dl
namespace L2
open PySem PySem.Spec PyProof.Rows
section
variable {X:Cx}
def zfu:V->List V->Hp->VK->Prop:=λx vs H Q=>∃ l xs i y,x=.ref l/\vs=[.int i,y]/\H l=some (.lst xs)/\xs.length < sizeLine/\0<=i/\i < 2 ^ 63/\Q .non (upd H l (.lst (xs.take i.toNat++y::xs.drop i.toNat)))
theorem ziP (its:List Value)(u:Value)(x:Int)(h0:0<=x) :
 (λxs:Array Value=>have k:=if x < 0 then (x+((xs.size:Nat):Int)).toNat else min x.toNat xs.size;(xs.extract 0 k).push u++xs.extract k) its.toArray=(its.take x.toNat++u::its.drop x.toNat).toArray:=by
 have hn:¬ x < 0:=by omega
 apply Array.ext'
 simp only[u9 hn]
 by_cases c:x.toNat<=its.length
 .simp[u0M c]
  exact m6 (by rw[e9];exact q5 _)
 .have e:min x.toNat its.length=its.length:=by omega
  have e1:its.take x.toNat=its:=m6 (by omega)
  have e2:its.drop x.toNat=[]:=u2o (by omega)
  simp[e,e1,e2]
theorem zeL:MtM X "list.insert" zfu:=by
 intro pins s σ H x vs v us Q I rx rv h
 obtain⟨l,xs,i,y,rfl,rfl,hH,hz,h0,h1,q⟩:=h
 cases rx
 obtain⟨u,w,rfl,ru,rw'⟩:=rv.two
 obtain⟨t,rfl⟩:=ru
 obtain⟨z,its,n,r,hl,e⟩:=I.lstM hH
 have hfit:¬(!Builtin.List.listFitsIndex i)=true:=by
  have:Builtin.List.listFitsIndex i=true:=fitsIndex_both (by omega) h1
  rw[this]
  exact u4
 refine u3a F.slot_list_insert ⟨_,e,rfl⟩ F.entry_list_insert (F.args_list_insert_3 _ _ _) (AutoListH.list_insert_list_int_val_1 l its.toArray n i t w hfit (by rw[j4];omega)) ⟨e,?_⟩
 refine⟨.non,_,I.lset (its':=its.take i.toNat++w::its.drop i.toNat) hH e (ziP its w i h0) ((r.take _).append (.cons rw' (r.drop _))) ?_,rfl,q⟩
 rw[r9,e8,b9,e9]
 omega
end
end L2
namespace Dl
open PySem L2
section
variable [KK]{X:Cx}{a e k:Expr}{pos:Pos}
def zjY (ds:List D)(i:Int)(d:D):List D:=ds.take i.toNat++d::ds.drop i.toNat
def zka (m:Bool)(i:Nat)(fk f:Ev->Option D):SE->Ctl:=fun ρ=>match (vEv m fk ρ).bind λkd=>(vEv m f ρ).bind λd=>match ρ[i]?,kd with
 | some (.o ds),.int j=>if (decide (ds.length < sizeLine)&&decide (0<=j/\j < 2 ^ 63))=true then some (ρ.set i (.o (zjY ds j d)))else none
 | _,_=>none with
 | some ρ'=>.nx ρ'
 | none=>.no
theorem zkN {m:Bool}{i:Nat}{p pos':Pos}{fk f:Ev->Option D}(ho:PE X a (zio i))(hk:ED X k fk)(he:ED X e f)
 (hp:∀ {ta:TE} {t:TA},PE X a ta->PA X [k,e] t->PE X (.Call (.Attribute a "insert" p) [k,e] [] pos') (tBM X.K "list" zfu ta t)) (hsw:swapsWith (.Call (.Attribute a "insert" p) [k,e] [] pos') none pos.line X.env=pure false:=by rfl)
 (hs:starEach [k,e] X.env=(false,eval k X.env)::starEach [e] X.env:=by rfl) (hs2:starEach [e] X.env=(false,eval e X.env)::starEach [] X.env:=by rfl):SD X (.Expr (.Call (.Attribute a "insert" p) [k,e] [] pos') pos) (zka m i fk f):=by
 obtain⟨tk,pk,rk⟩:=hk
 obtain⟨t,pe,re⟩:=he
 refine⟨_,zbp (hp ho (Zz pk (Zz pe zcw hs2) hs)) hsw,λFb Hb F H ρ σ E rl kk=>?_⟩
 unfold zka at kk
 cases h:(vEv m fk ρ).bind λkd=>(vEv m f ρ).bind λd=>match ρ[i]?,kd with
  | some (.o ds),.int j=>if (decide (ds.length < sizeLine)&&decide (0<=j/\j < 2 ^ 63))=true then some (ρ.set i (.o (zjY ds j d)))else none
  | _,_=>none with
 | none=>rw[h]at kk;exact kk.elim
 | some ρ' =>
  rw[h]at kk
  obtain⟨kd,e0,e2⟩:=u0.mp h
  obtain⟨d,e1,e2⟩:=u0.mp e2
  cases hs:ρ[i]? with
  | none=>rw[hs]at e2;cases e2
  | some sl =>
   rw[hs]at e2
   cases sl with
   | no=>cases e2
   | v _=>cases e2
   | m _ _ _=>cases e2
   | o ds =>
    cases kd with
    | int j =>
     dsimp only at e2
     split at e2 <;> cases e2
     rename_i hl
     rw[p4]at hl
     have hj:=b7 hl.2
     obtain⟨q,xs,f1,f2,f3,f4,f5⟩:=rl.owns i ds hs
     refine⟨_,f1,.inl ⟨rfl,xs,SqL.of f4⟩,?_⟩
     refine rk.at rl e0 λF0 H0 vk g0 ak=>?_
     have rl1:=rl.grow g0
     refine re.at rl1 e1 λF' H' v g av=>?_
     have rl2:=rl1.grow g
     obtain⟨q2,xs2,f1',_,_,f4',f5'⟩:=rl2.owns i ds hs
     rw[f1]at f1'
     cases f1'
     cases ak.int_inv
     refine⟨q,xs2,j,v,rfl,rfl,f4',by rw[f5'.length];exact b7 hl.1,hj.1,hj.2,?_⟩
     exact kk _ _ σ (rl2.mutate hs f1 ((f5'.take _).append (.cons av (f5'.drop _))))
    | _=>cases e2
end
theorem zls {m:Bool}{i:Nat}{fk f:Ev->Option D}{ρ:SE}{ds:List D}{d:D}{k:Int}(h0:vEv m fk ρ=some (.int k))(h1:vEv m f ρ=some d)(h2:ρ[i]?=some (.o ds))(h3:ds.length<=1000)(h4:0<=k)(h5:k<=1000):zka m i fk f ρ=.nx (ρ.set i (.o (zjY ds k d))):=by
 unfold zka
 rw[h0,h1,h2]
 show(match (if (decide (ds.length < sizeLine)&&decide (0<=k/\k < 2 ^ 63))=true then some (ρ.set i (.o (zjY ds k d)))else none)with | some ρ'=>Ctl.nx ρ' | none=>Ctl.no)=_
 have hs:ds.length < sizeLine:=YZ h3
 rw[u8 (by rw[d4 hs,d4 ⟨h4,by omega⟩];rfl)]
def zmH:D->Option Key
 | .int i=>some (.inl i)
 | .str x=>some (.inr x)
 | _=>none
def zcU:List D->Option (List Key)
 | []=>some []
 | d::ds=>(zmH d).bind λk=>(zcU ds).map (k::·)
def zf9:D->Option (List Key)
 | .tup ds=>zcU ds
 | _=>none
def zjL (t:Bool)(d:D):Option (List Key):=if t=true then zf9 d else (zmH d).map ([·])
def intQ:Int->Int->Bool
 | .ofNat a,.ofNat b=>Nat.beq a b
 | .negSucc a,.negSucc b=>Nat.beq a b
 | _,_=>false
theorem zcr {a b:Int}:intQ a b=true↔a=b:=by
 cases a with
 | ofNat a=>cases b with
  | ofNat b=>exact⟨λh=>(by rw[Nat.eq_of_beq_eq_true h]),λh=>(by cases h;exact Nat.beq_refl a)⟩
  | negSucc b=>exact⟨λh=>(by cases h),λh=>(by cases h)⟩
 | negSucc a=>cases b with
  | ofNat b=>exact⟨λh=>(by cases h),λh=>(by cases h)⟩
  | negSucc b=>exact⟨λh=>(by rw[Nat.eq_of_beq_eq_true h]),λh=>(by cases h;exact Nat.beq_refl a)⟩
def zhE:Key->Key->Bool
 | .inl i,.inl j=>intQ i j
 | .inr a,.inr b=>decide (a=b)
 | _,_=>false
def zl2:List Key->List Key->Bool
 | [],[]=>true
 | a::r,b::s=>match zhE a b with
  | true=>zl2 r s
  | false=>false
 | _,_=>false
theorem V6 {a b:Key}:zhE a b=true↔a=b:=by
 cases a with
 | inl i=>cases b with
  | inl j=>exact⟨λh=>(by rw[zcr.mp h]),λh=>(by cases h;exact zcr.mpr rfl)⟩
  | inr b=>exact⟨λh=>(by cases h),λh=>(by cases h)⟩
 | inr i=>cases b with
  | inl j=>exact⟨λh=>(by cases h),λh=>(by cases h)⟩
  | inr b=>exact⟨λh=>(by rw[b7 h]),λh=>(by cases h;exact d4 rfl)⟩
theorem zcp {x y:List Key}:zl2 x y=true↔x=y:=by
 induction x generalizing y with
 | nil=>cases y with
  | nil=>exact⟨λ_=>rfl,λ_=>rfl⟩
  | cons b s=>exact⟨λh=>(by cases h),λh=>(by cases h)⟩
 | cons a r ih=>cases y with
  | nil=>exact⟨λh=>(by cases h),λh=>(by cases h)⟩
  | cons b s =>
   show(match zhE a b with | true=>zl2 r s | false=>false)=true↔_
   cases h:zhE a b with
   | true=>rw[V6.mp h];exact ih.trans ⟨λh=>(by rw[h]),λh=>(by cases h;rfl)⟩
   | false=>exact⟨λh=>(by cases h),λe=>(by cases e;rw[V6.mpr rfl]at h;cases h)⟩
def zd8 (x y:List Key):Decidable (x=y):=match h:zl2 x y with
 | true=>.isTrue (zcp.mp h)
 | false=>.isFalse λe=>by rw[zcp.mpr e]at h;cases h
def ZL:List (List Key)->List D->List Key->Option D
 | k'::ks,v::vs,k=>@ite _ (k'=k) (zd8 k' k) (some v) (ZL ks vs k)
 | _,_,_=>none
def zl7:List (List Key)->List D->List Key->D->List D
 | k'::ks,v::vs,k,d=>(@ite _ (k'=k) (zd8 k' k) d v)::zl7 ks vs k d
 | _,_,_,_=>[]
def zaN (ks:List (List Key))(vs:List D)(k:List Key):List (List Key):=if (ZL ks vs k).isSome=true then ks else ks++[k]
def zaS (ks:List (List Key))(vs:List D)(k:List Key)(d:D):List D:=if (ZL ks vs k).isSome=true then zl7 ks vs k d else vs++[d]
theorem Zc {k' k:List Key}{ks:List (List Key)}{v:D}{vs:List D}:ZL (k'::ks) (v::vs) k=if k'=k then some v else ZL ks vs k:=by
 show @ite _ (k'=k) (zd8 k' k) (some v) (ZL ks vs k)=_
 by_cases h:k'=k
 .rw[u8 h,u8 h]
 .rw[u9 h,u9 h]
section
variable [KK]
theorem zbR {F:Hp}{d:D}{k:Key}{y:V}(h:zmH d=some k)(a:At F d y):y=kV k:=by
 cases d with
 | int i=>cases h;exact a.int_inv
 | str x=>cases h;exact a.str_inv
 | _=>cases h
theorem zcP {F:Hp}:∀ {ds:List D} {ks:List Key} {ys:List V},zcU ds=some ks->AtL F ds ys->ys=ks.map kV
 | [],_,_,h,a=>by cases h;exact a.nil_inv
 | d::ds,_,_,h,a=>by
  obtain⟨k,h1,h2⟩:=u0.mp h
  obtain⟨r,h3,rfl⟩:=t8.mp h2
  obtain⟨x,xs,rfl,a1,a2⟩:=a.cons_inv
  rw[zbR h1 a1,zcP h3 a2]
  rfl
theorem zbA {F:Hp}{d:D}{k:List Key}{y:V}(h:zf9 d=some k)(a:At F d y):∃ b,y=.ref b/\F b=some (.tup (k.map kV)):=by
 cases d with
 | tup ds =>
  obtain⟨b,ys,rfl,hb,al⟩:=a.tup_inv
  rw[zcP (show zcU ds=some k from h) al]at hb
  exact⟨b,rfl,hb⟩
 | _=>cases h
section
variable {κ:Type}[DecidableEq κ](f:κ->List Key)(hf:∀ a b,f a=f b->a=b)
include hf
theorem Vm {F:Hp}{k:κ}:∀ {kvs:List (κ × V)} {vs:List D},AtL F vs (kvs.map (·.2)) ->
 (∀ d,ZL (kvs.map λp=>f p.1) vs (f k)=some d->∃ x,zcF kvs k=some x/\At F d x)/\(ZL (kvs.map λp=>f p.1) vs (f k)=none->zcF kvs k=none)
 | [],_,_=>⟨λd h=>(by cases h),λ_=>rfl⟩
 | p::kvs,[],a=>by cases a.nil_inv
 | p::kvs,v::vs,a=>by
  obtain⟨x,r,e,a1,a2⟩:=a.cons_inv
  cases e
  have ih:=Vm (k:=k) a2
  by_cases h:p.1=k
  .rw[Xl h]
   have e:ZL ((p::kvs).map λp=>f p.1) (v::vs) (f k)=some v:=by
    rw[d8,Zc,u8 (by rw[h])]
   rw[e]
   exact⟨λd z=>(by cases z;exact⟨_,rfl,a1⟩),λz=>(by cases z)⟩
  .rw[Xf h]
   have e:ZL ((p::kvs).map λp=>f p.1) (v::vs) (f k)=ZL (kvs.map λp=>f p.1) vs (f k):=by
    rw[d8,Zc,u9 (λz=>h (hf _ _ z))]
   rw[e]
   exact ih
theorem zhP {F:Hp}{k:κ}{kvs:List (κ × V)}{vs:List D}(a:AtL F vs (kvs.map (·.2))):(ZL (kvs.map λp=>f p.1) vs (f k)).isSome=(zcF kvs k).isSome:=by
 obtain⟨h1,h2⟩:=Vm f hf (k:=k) a
 cases h:ZL (kvs.map λp=>f p.1) vs (f k) with
 | none=>rw[h2 h];rfl
 | some d=>obtain⟨x,e,_⟩:=h1 d h;rw[e];rfl
theorem zfA {F:Hp}{k:κ}{d:D}{y:V}(ad:At F d y):∀ {kvs:List (κ × V)} {vs:List D},AtL F vs (kvs.map (·.2)) ->
 AtL F (zl7 (kvs.map λp=>f p.1) vs (f k) d) ((kvs.map λkv=>if kv.1=k then (kv.1,y)else kv).map (·.2))
 | [],_,_=>by unfold zl7;exact .nil
 | p::kvs,[],a=>by cases a.nil_inv
 | p::kvs,v::vs,a=>by
  obtain⟨x,r,e,a1,a2⟩:=a.cons_inv
  cases e
  have ih:=zfA (k:=k) ad a2
  rw[d8,d8]
  refine AtL.cons ?_ ih
  by_cases h:p.1=k
  .rw[u8 h,u8 (by rw[h])];exact ad
  .rw[u9 h,u9 (λz=>h (hf _ _ z))];exact a1
theorem zfn {F:Hp}{k:κ}{d:D}{y:V}(ad:At F d y){kvs:List (κ × V)}{vs:List D}(a:AtL F vs (kvs.map (·.2))) :
 (zbW kvs k y).map (λp=>f p.1)=zaN (kvs.map λp=>f p.1) vs (f k)/\AtL F (zaS (kvs.map λp=>f p.1) vs (f k) d) ((zbW kvs k y).map (·.2)):=by
 unfold zbW zaN zaS
 rw[zhP f hf a,Vi]
 cases h:(zcF kvs k).isSome with
 | true =>
  rw[u8 rfl,u8 rfl,u8 rfl]
  refine⟨?_,zfA f hf ad a⟩
  rw[u0z]
  refine u0y λp _=>?_
  by_cases e:p.1=k
  .show f (if p.1=k then (p.1,y)else p).1=_;rw[u8 e]
  .show f (if p.1=k then (p.1,y)else p).1=_;rw[u9 e]
 | false =>
  rw[u9 u4,u9 u4,u9 u4,i7,i7]
  exact⟨rfl,a.append (.cons ad .nil)⟩
end
theorem zeE (a b:Key)(h:[a]=[b]):a=b:=by cases h;rfl
theorem zh6 (a b:List Key)(h:a=b):a=b:=h
theorem ziF {F H:Hp}{a:Addr}{z t:Bool}{ks:List (List Key)}{xs:List V}{vs:List D}{kd:D}{k:List Key}{y:V}(s:yI F H)(hd:VQ F a z t ks xs)(al:AtL F vs xs)(hk:zjL t kd=some k)(ak:At F kd y) :
 ∃ o,zmp H a y o/\(∀ d,ZL ks vs k=some d->∃ x,o=some x/\At F d x)/\(ZL ks vs k=none->o=none):=by
 obtain⟨u,hd,rd⟩:=(hd.mono s).rd
 unfold zcJ at hd
 unfold zjL at hk
 cases t with
 | true =>
  rw[u8 rfl]at hd hk
  obtain⟨kvs,rfl,rfl,rfl⟩:=hd
  obtain⟨b,rfl,hb⟩:=zbA hk ak
  exact⟨_,.inr ⟨kvs,k,b,rd,rfl,s _ _ hb,rfl⟩,Vm (λk=>k) zh6 al⟩
 | false =>
  rw[u9 u4]at hd hk
  obtain⟨kvs,rfl,rfl,rfl⟩:=hd
  obtain⟨k0,h2,rfl⟩:=t8.mp hk
  rw[zbR h2 ak]
  exact⟨_,.inl ⟨kvs,k0,rd,rfl,rfl⟩,Vm (λk=>[k]) zeE al⟩
theorem ziX {F H:Hp}{a:Addr}{o:HO}{t:Bool}{ks:List (List Key)}{xs:List V}{vs:List D}{kd d:D}{k:List Key}{y v:V}{G:Hp}(h:H a=some o)(hd:zcJ o t ks xs)(al:AtL F vs xs)(hk:zjL t kd=some k)(ak:At G kd y)(s:yI G H)(ad:At F d v)
 (hl:ks.length < sizeLine):∃ o',zgp H a y v (upd H a o')/\zdi F o' (.m t (zaN ks vs k) (zaS ks vs k d)):=by
 unfold zcJ at hd
 unfold zjL at hk
 cases t with
 | true =>
  rw[u8 rfl]at hd hk
  obtain⟨kvs,rfl,rfl,rfl⟩:=hd
  obtain⟨b,rfl,hb⟩:=zbA hk ak
  obtain⟨q1,q2⟩:=zfn (λk=>k) zh6 (k:=k) ad al
  refine⟨_,zgp.t h (s _ _ hb) (by simpa using hl),_,?_,q2⟩
  unfold zcJ
  rw[u8 rfl]
  exact⟨_,rfl,q1,rfl⟩
 | false =>
  rw[u9 u4]at hd hk
  obtain⟨kvs,rfl,rfl,rfl⟩:=hd
  obtain⟨k0,h2,rfl⟩:=t8.mp hk
  rw[zbR h2 ak]
  obtain⟨q1,q2⟩:=zfn (λk=>[k]) zeE (k:=k0) ad al
  refine⟨_,zgp.k h (by simpa using hl),_,?_,q2⟩
  unfold zcJ
  rw[u9 u4]
  exact⟨_,rfl,q1,rfl⟩
def dgetD:D->D->Option D
 | .dct _ t ks vs,kd=>(zjL t kd).bind λk=>ZL ks vs k
 | _,_=>none
def zlZ (neg:Bool):D->D->Option D
 | kd,.dct _ t ks vs=>(zjL t kd).map λk=>.bl (neg != (ZL ks vs k).isSome)
 | _,_=>none
section
variable {X:Cx}{a b c:Expr}{pos apos:Pos}
def rDIn (neg:Bool):R2:=λx y H Q=>∃ a o,y=.ref a/\zmp H a x o/\Q (.bl (neg != o.isSome)) H
theorem zdO {k:Nat}(hr:vf k X.A):OpR X (compareOp .NotIn) (rDIn true):=by
 intro pins s σ H x y v u Q I rx ry h
 obtain⟨a,o,rfl,g,q⟩:=h
 obtain rfl:u=Value.ref a:=ry
 exact zi5 (zjx hr) I g rx λs3 I3=>⟨.bl (!o.isSome),H,I3,rfl,by simpa using q⟩
theorem zje {neg:Bool}:OpD (rDIn neg) (zlZ neg):=by
 intro F H x y d e z Q s a1 a2 h q
 cases e with
 | dct z' t ks vs =>
  obtain⟨k,h1,rfl⟩:=t8.mp h
  obtain⟨p,xs,rfl,hd,al⟩:=a2.dct_inv
  obtain⟨o,hg,h3,h4⟩:=ziF s hd al h1 a1
  refine⟨p,o,rfl,hg,?_⟩
  have e:(ZL ks vs k).isSome=o.isSome:=by
   cases h:ZL ks vs k with
   | none=>rw[h4 h];rfl
   | some d=>obtain⟨w,rfl,_⟩:=h3 d h;rfl
  rw[<-e]
  exact q F H _ (.refl s) .bl
 | _=>cases h
end
section
variable {X:Cx}{a e ko:Expr}{pos pos':Pos}{st:Stmt}
def zhI (ρ:SE)(i:Nat)(kd d:D):Option SE:=match ρ[i]? with
 | some (.m t ks vs)=>(zjL t kd).bind λk=>if decide (ks.length < sizeLine)=true then some (ρ.set i (.m t (zaN ks vs k) (zaS ks vs k d)))else none
 | _=>none
def zbO (m:Bool)(i:Nat)(fk fe:Ev->Option D):SE->Ctl:=fun ρ=>match (vEv m fe ρ).bind λd=>(fk (visG ρ)).bind λkd=>zhI ρ i kd d with
 | some ρ'=>.nx ρ'
 | none=>.no
theorem zjR {k:Nat}{m:Bool}{i:Nat}{fk fe:Ev->Option D}(hr:vf k X.A)(he:ED X e fe)(ho:PE X a (zio i))(hk:ED X ko fk)(hs:swapsWith e (some (.Subscript a ko pos')) pos.line X.env=pure false:=by rfl):SD X (.Assign [.Subscript a ko pos'] e pos) (zbO m i fk fe):=by
 obtain⟨t,p,r⟩:=he
 obtain⟨tk,pk,rk⟩:=hk
 refine⟨_,ziI (zjx hr) ho pk p hs,λFb Hb F H ρ σ E rl k=>?_⟩
 unfold zbO at k
 cases h:(vEv m fe ρ).bind λd=>(fk (visG ρ)).bind λkd=>zhI ρ i kd d with
 | none=>rw[h]at k;exact k.elim
 | some ρ' =>
  rw[h]at k
  obtain⟨d,e1,e2⟩:=u0.mp h
  obtain⟨kd,e3,e2⟩:=u0.mp e2
  unfold zhI at e2
  split at e2
  .rename_i tt ks vs hs
   obtain⟨kk,e4,e5⟩:=u0.mp e2
   have hl:decide (ks.length < sizeLine)=true:=by
    cases hh:decide (ks.length < sizeLine) with
    | true=>rfl
    | false=>rw[hh,u9 u4]at e5;cases e5
   rw[u8 hl]at e5
   cases e5
   refine r.at rl e1 λF' H' v g av=>?_
   have rl2:=rl.grow g
   obtain⟨q,o,f1,_⟩:=rl2.ows i _ hs rfl
   refine⟨_,f1,?_⟩
   refine rk σ _ _ H' _ _ rl2.gh rl2.visG e3 λF3 H3 v3 g3 av3=>?_
   obtain⟨gb,_⟩:=rl2.back g3
   have rl3:=rl2.grow gb
   obtain⟨q3,o3,f1',_,_,f4,xs,f5,f6⟩:=rl3.ows i _ hs rfl
   rw[f1]at f1'
   cases f1'
   obtain⟨o',hp,hw⟩:=ziX f4 f5 f6 e4 av3 g3.fh (av.mono gb.ff) (b7 hl)
   exact⟨q,_,rfl,hp,k _ _ σ (rl3.mutW hs rfl f1 hw)⟩
  .cases e2
end
end
end Dl
namespace Dl
open PySem L2
variable [KK]
section
variable {X:Cx}
def rNeL:R2:=λx y H Q=>∃ F ds es,yI F H/\At F (.lst ds) x/\At F (.lst es) y/\okE 20 (.lst ds)=true/\okE 20 (.lst es)=true/\Q (.bl (!eqN 20 (.lst ds) (.lst es))) H
theorem zid {k:Nat}(hr:vf k X.A):OpR X (compareOp .NotEq) rNeL:=by
 intro pins s σ H x y v u Q I rx ry h
 obtain⟨F,ds,es,sm,a1,a2,k1,k2,q⟩:=h
 have hu:X.A.units+30 < cLine:=by have:=hr.un;omega
 obtain⟨p,xs,rfl,hx,al⟩:=a1.lst_inv
 obtain⟨p2,ys,rfl,hy,bl⟩:=a2.lst_inv
 cases rx
 cases ry
 obtain⟨its,r,ht,hz⟩:=I.list (SqL.of (sm _ _ hx))
 obtain⟨its2,r2,ht2,hz2⟩:=I.list (SqL.of (sm _ _ hy))
 have hl1:its.toArray.size=ds.length:=by rw[j4,<- r.length,al.length]
 have hl2:its2.toArray.size=es.length:=by rw[j4,<- r2.length,bl.length]
 have e1:eqN 20 (.lst ds) (.lst es)=((List.range (min ds.length es.length)).all (λj=>eqN 19 (ds.getD j .non) (es.getD j .non))&&ds.length == es.length):=by
  show((List.zipWith (eqN 19) ds es).all id&&ds.length == es.length)=_
  rw[Vq]
 by_cases hle:ds.length=es.length
 .refine SeqAt.RcNeAt.lists (e:=λj=>eqN 19 (ds.getD j .non) (es.getD j .non)) ht.isList ht2.isList (by rw[hl1,hl2];exact hle) (h9 (u1Z _ 30) hu) (λj g1 g2=>?_) _ _ _ _ ⟨.bl _,H,I,rfl,?_⟩
  .obtain⟨x',ax,rx⟩:=al.nth r (j:=j) (by simpa using g1)
   obtain⟨y',ay,ry⟩:=bl.nth r2 (j:=j) (by simpa using g2)
   exact zb1 I sm 19 (we k1 (by rw[<-hl1];exact g1)) (we k2 (by rw[<-hl2];exact g2)) ax ay (by simpa using rx) (by simpa using ry) (h9 (show X.A.units+20<=X.A.units+30 from u15 (by decide) _) hu)
  .rw[hl1]
   rw[e1,<- hle,u2b]at q
   simpa using q
 .refine SeqAt.RcNeAt.lists_lengths ht.isList ht2.isList (by rw[hl1,hl2];simpa using hle) (h9 (u1Z _ 30) hu) _ _ _ _ ⟨.bl _,H,I,rfl,?_⟩
  have:(ds.length == es.length)=false:=by simpa using hle
  rw[e1,this,u2v]at q
  exact q
end
def zis:D->D->Option D
 | .lst ds,.lst es=>if (okE 20 (.lst ds)&&okE 20 (.lst es))=true then some (.bl (!eqN 20 (.lst ds) (.lst es)))else none
 | _,_=>none
theorem zf1:OpD rNeL zis:=by
 intro F H x y d e z Q s ax ay ez q
 unfold zis at ez
 split at ez
 .split at ez <;> cases ez
  rename_i hk
  rw[p4]at hk
  exact⟨F,_,_,s,ax,ay,hk.1,hk.2,q F H _ (.refl s) .bl⟩
 .cases ez
end Dl
namespace L2
open PySem PySem.Spec PyProof.Rows
section
variable {prog:Program}{w:World}{A:Around}{E:Value->Shared->Prop}{s:Shared}{d it:Addr}{o:Obj}{es:Array DictEntry}{ep i:Nat}
theorem raw_iter {Q:Value->Shared->Prop}(hs:(d == sysModules)=false)(ho:s.heap.get? d=some o)(hc:o.ExactDict)(hd:o.data=.dict es ep)
 (hQ:Q (.ref s.heap.objs.size) { s with heap:=s.heap.push { cls:=.type "dict_keyiterator",data:=.fields #[.ref d,.int 0 0,.int es.size 0,.int ep 0] } }):wpAny (model prog w) A (pyIter (.ref d)) Q E s:=by
 have hT:s.TypeIs (.ref d) "dict":=⟨o,ho,hc.1⟩
 refine wpAny_pyIter_slot hT PySem.F.slot_dict_iter (u0O PySem.F.slot_dict_iter hT PySem.F.entry_dict_iter ?_ (PySem.F.args_dict_iter_1 _))
 unfold Builtin.«dict.__iter__»
 refine u3 ?_
 unfold Builtin.Dict.dictSlotNone
 refine u3 (wpAny_notOrdered_dict hT ?_)
 show wpAny _ _ (pure (Value.ref d)) _ _ s
 refine j3 ?_
 show wpAny _ _ (Builtin.Dict.showsAll d>>=_) _ _ s
 unfold Builtin.Dict.showsAll
 rw[u9 (by rw[hs];exact u4)]
 refine u3 (j3 (u3 (u3b ho hd (u3 (wpAny_dictEpoch ho hd ?_)))))
 refine u3 (u0l (j3 ⟨_,rfl,"dict_keyiterator",_,⟨_,j8 _ rfl,rfl⟩,u0o.lookup,?_⟩))
 simpa [rawInt]using hQ
theorem raw_next {e:DictEntry}{Q:Option Value->Shared->Prop}(hit:s.heap.IsKeyIter it d i es.size ep)(ho:s.heap.get? d=some o)(hd:o.data=.dict es ep)(hx:es[i]?=some e)
 (hQ:∀ h',h'.IsKeyIter it d (i+1) es.size ep->Heap.SameBut it s.heap h'->Q (some e.key) { s with heap:=h' }):wpAny (model prog w) A (pyNext (.ref it)) Q E s:=by
 obtain⟨oi,hoi,hci,hdi⟩:=id hit
 unfold pyNext
 refine u3 (u2n (u0G (name:=Str.ofString "__next__") hit.typeIs u0o
  (u0O u0o hit.typeIs u16 ?_ (u1U _))))
 refine u3 (j3 ?_)
 refine u3 ?_
 refine u3 ?_
 first | refine u3 (u07 hit.typeIs (j3 ?_)) | refine u3 (u1t hit.typeIs (j3 ?_))
 refine u3 (wpAny_fieldsOf hoi hdi ?_)
 have hown:Builtin.Dict_items.ownsTuple "dict_keyiterator"=false:=by decide
 simp only[hown,u1B,u2H]
 show wpAny _ _ (if (Value.ref d == Value.none)=true then _ else _) _ _ s
 rw[u9 (show ¬ ((Value.ref d == Value.none)=true)from u4)]
 refine u3 (j3 (u3 (u3b ho hd ?_)))
 rw[u9 (by simp)]
 refine u3 (j3 (u3 (wpAny_dictEpoch ho hd ?_)))
 rw[u9 (by simp)]
 refine j3 ?_
 simp only[show ¬ ((i:Int) < 0)from by omega,u2H,u1n,hx]
 refine u3 ?_
 first | refine u3 (u07 hit.typeIs (j3 ?_)) | refine u3 (u1t hit.typeIs (j3 ?_))
 refine u3 (wpAny_isOneOf_keyiter hit.typeIs ?_)
 show wpAny _ _ (setField (.ref it) 1 (rawInt ((i:Int)+1))>>=_) _ _ s
 refine u3 (u27 hoi hdi (by simp) ?_)
 have hit':(s.heap.update it (Obj.mapFields (·.setIfInBounds 1 (rawInt ((i:Int)+1))))).IsKeyIter it d (i+1) es.size ep :=
  ⟨_,u0Q _ hoi (Obj.isFreed_of_fields (u2j hdi _)),(Obj.cls_mapFields ..).trans hci,by rw[u2j hdi];simp[rawInt]⟩
 refine u3 (u0X ?_)
 refine u3 (wpAny_isOneOf_keyiter (s:={ s with heap:=s.heap.update it (Obj.mapFields (·.setIfInBounds 1 (rawInt ((i:Int)+1)))) }) hit'.typeIs ?_)
 show wpAny _ _ (pure e.key) _ _ _
 exact j3 (j3 ⟨_,rfl,j3 (hQ _ hit' (u0v ..))⟩)
theorem raw_end {Q:Option Value->Shared->Prop}(hh:A.handled=none)(hit:s.heap.IsKeyIter it d i es.size ep)(ho:s.heap.get? d=some o)(hd:o.data=.dict es ep)(hx:es.size<=i)
 (hQ:∀ h',Heap.ExtBut it s.heap h'->Q none { s with heap:=h' }):wpAny (model prog w) A (pyNext (.ref it)) Q E s:=by
 obtain⟨oi,hoi,hci,hdi⟩:=id hit
 unfold pyNext
 refine u3 (u2n (u0G (name:=Str.ofString "__next__") hit.typeIs u0o
  (u0O u0o hit.typeIs u16 ?_ (u1U _))))
 refine u3 (j3 ?_)
 refine u3 ?_
 refine u3 ?_
 first | refine u3 (u07 hit.typeIs (j3 ?_)) | refine u3 (u1t hit.typeIs (j3 ?_))
 refine u3 (wpAny_fieldsOf hoi hdi ?_)
 have hown:Builtin.Dict_items.ownsTuple "dict_keyiterator"=false:=by decide
 simp only[hown,u1B,u2H]
 show wpAny _ _ (if (Value.ref d == Value.none)=true then _ else _) _ _ s
 rw[u9 (show ¬ ((Value.ref d == Value.none)=true)from u4)]
 refine u3 (j3 (u3 (u3b ho hd ?_)))
 rw[u9 (by simp)]
 refine u3 (j3 (u3 (wpAny_dictEpoch ho hd ?_)))
 rw[u9 (by simp)]
 refine j3 ?_
 simp only[show ¬ ((i:Int) < 0)from by omega,u2H,u1n,Array.getElem?_eq_none hx]
 refine u3 ?_
 first | refine u3 (u07 hit.typeIs (j3 ?_)) | refine u3 (u1t hit.typeIs (j3 ?_))
 show wpAny _ _ (setField (.ref it) 0 .none>>=_) _ _ s
 refine u3 (u27 hoi hdi (by simp) ?_)
 show wpAny _ _ (newExc (.type "StopIteration") []>>=_) _ _ _
 refine u3 ?_
 simp only[newExc,newTuple]
 refine u3 (u0l ?_ (by size_fits))
 refine u3 (m:=firstArgMember _ _) (wpAny_of_eq (a:=Value.none) (by first | rfl | (simp only[firstArgMember];rfl)) ?_)
 refine u0l ?_ (by size_fits)
 simp only[raiseNew]
 refine u3 (wpAny_handled ?_)
 rw[show A.in1.handled=none from hh]
 refine u3 (j3 (wpAny_throw ?_))
 refine u3 (wpAny_isInstance (T:="StopIteration") (b:=true) ⟨_,j8 _ rfl,rfl⟩ isSubtype_stop ?_)
 exact j3 (hQ _ (((u0v ..).extBut.push _).push _))
end
def dLen:HO->Nat
 | .dK kvs=>kvs.length
 | .dT kvs=>kvs.length
 | _=>0
def zhb (u:HO):Prop:=(∃ kvs,u=.dK kvs)\/∃ kvs,u=.dT kvs
section
variable {X:Cx}{tg:Expr}
theorem Inv.frz {pins:List (Addr × Obj)}{σ:St}{H:Hp}{s:Shared}{p:Addr}{u:HO}(I:Inv X pins σ H s)(e:H p=some u)(hu:zhb u):∃ ob,Inv X pins σ (upd H p (.frz ob u)) s:=by
 have ok:=I.hok p u e
 have mu:Mut (H p):=by
  rw[e]
  rcases hu with ⟨kvs,rfl⟩ | ⟨kvs,rfl⟩ <;> exact True.intro
 rcases hu with ⟨kvs,rfl⟩ | ⟨kvs,rfl⟩
 .obtain⟨z,sys,vs,kv,o,es,ep,e1,r⟩:=ok
  refine⟨o,I.write (h':=s.heap) (t':=s.toks) mu (.inl rfl) (λb u _ e=>e) ⟨o,e1⟩ ⟨e1,z,sys,vs,kv,o,es,ep,e1,r⟩⟩
 .obtain⟨z,sys,xs,pr,o,es,ep,e1,r⟩:=ok
  refine⟨o,I.write (h':=s.heap) (t':=s.toks) mu (.inl rfl) (λb u _ e=>e) ⟨o,e1⟩ ⟨e1,z,sys,xs,?_,o,es,ep,e1,r⟩⟩
  exact KT.keeps pr λb ys eb=>by
   rw[zo (zjS eb e (λz=>nomatch z))]
   exact eb
def tFrz (i:Nat)(t:TS):TS:=λE σ H=>∃ p u,σ[i]?=some (some (.ref p))/\H p=some u/\zhb u/\∀ ob,t E σ (upd H p (.frz ob u))
theorem zjj {sts:List Stmt}{t:TS}(i:Nat)(h:PSs X sts t):PSs X sts (tFrz i t):=by
 intro pins s σ H E I q
 obtain⟨p,u,_,e,hu,q⟩:=q
 obtain⟨ob,I2⟩:=I.frz e hu
 exact h pins s σ _ E I2 (q ob)
def zie (z:Bool)(tk tv:TE):TE:=fun σ H Q=>∀ p,H p=none->tk σ (upd H p (.dT [])) λx H1=>tv σ H1 λy H2=>H2 p=some (.dT [])/\∃ b k,x=.ref b/\H2 b=some (.tup (k.map kV)) /\
 if z=true then ∀ ob,Q (.ref p) (upd H2 p (.frz ob (.dT [(k,y)])))else Q (.ref p) (upd H2 p (.dT [(k,y)]))
theorem zho {z:Bool}{k v:Expr}{pos:Pos}{tk tv:TE}(hu:X.A.units+1 < cLine)(hk:PE X k tk)(hv:PE X v tv):PE X (.Dict [some k] [v] pos) (zie z tk tv):=by
 intro pins s σ H Q I q
 have hn:=I.hok.fresh (q5 s.heap.objs.size)
 have I1:=I.laid (a:=s.heap.objs.size) (o:=.dT []) (h':=s.heap.push { cls:=.type "dict",data:=.dict #[] }) (t':=s.toks) (λ_ _ q=>u5 _ q) (q5 _) (zhH s.heap I.big)
 refine wpAny_Dict_any (by rfl) rfl (by simp) (by simp) ?_
 refine pairTrees_cons_walk (thn (hk pins _ σ _ _ I1 (q _ hn)) λu s1 ⟨x,H1,I1,rx,q1⟩=>thn (hv pins s1 σ H1 _ I1 q1) λw2 s2 hh9=>?_)
 obtain⟨y,H2,I2,ry,q2⟩:=hh9
 obtain⟨e,b,kk,ex,eb,q2⟩:=q2
 subst ex
 obtain rfl:u=Value.ref b:=rx
 refine pairTrees_nil_walk ?_
 unfold storeAll
 simp only[u3x,u3D]
 obtain⟨zz,hd,xs,rel,dd⟩:=zli I2.hok e
 cases rel
 refine u3 (u3 (wpAny_dictSet_heap (hsz:=u0g _) (show(tupleKind (yW X.prog X.w)).room X.A from Nat.lt_of_succ_lt hu) (zcl I2.hok eb) dd λh' dd' hs=>j3 (j3 ?_)))
 have dd2:=dd'
 obtain⟨q,es,ep,hq,h2,h3,h4,_,h5⟩:=dd'
 have I3:=zbs (t':=s2.toks+(tupleKind (yW X.prog X.w)).draws kk) (ob:=.dT [(kk,y)]) I2 (by rw[e];exact True.intro) hs ⟨q,hq⟩ ⟨by show 1<=sizeLine;decide,hd,_,((show KT H2 [] []from .nil).put kk eb ry).keeps λc ys ec=>by
  rw[zo (zjS ec e (λz=>nomatch z))]
  exact ec,q,es,ep,hq,h2,h3,h4,h5⟩
 cases z with
 | false=>exact⟨.ref s.heap.objs.size,_,I3,rfl,by rw[u9 u4]at q2;exact q2⟩
 | true =>
  rw[u8 rfl]at q2
  obtain⟨ob,I4⟩:=I3.frz (p:=s.heap.objs.size) (u:=.dT [(kk,y)]) zp (.inr ⟨_,rfl⟩)
  rw[zbE]at I4
  exact⟨.ref s.heap.objs.size,_,I4,rfl,q2 ob⟩
end
end L2
namespace Dl
open PySem L2
section
variable [KK]
theorem zjf {u:HO}{t:Bool}{ks:List (List Key)}{xs:List V}(h:zcJ u t ks xs):zhb u/\dLen u=ks.length:=by
 unfold zcJ at h
 cases t with
 | true=>rw[u8 rfl]at h;obtain⟨kvs,rfl,rfl,_⟩:=h;exact⟨.inr ⟨_,rfl⟩,by rw[u6];rfl⟩
 | false=>rw[u9 u4]at h;obtain⟨kvs,rfl,rfl,_⟩:=h;exact⟨.inl ⟨_,rfl⟩,by rw[u6];rfl⟩
theorem Gr.see {F H:Hp}{b:Addr}{ys:List V}(s:yI F H)(h:H b=some (.tup ys)):∃ F',Gr F H F' H/\F' b=some (.tup ys):=by
 cases e:F b with
 | some o =>
  have:=s _ _ e
  rw[h]at this
  cases this
  exact⟨F,.refl s,e⟩
 | none =>
  refine⟨upd F b (.tup ys),⟨λp o z=>?_,λp o z=>?_,λp o z1 z2=>⟨?_,z2⟩⟩,zp⟩
  .rw[zo (zm z e)];exact z
  .by_cases hp:p=b
   .subst hp;rw[zp]at z;cases z;exact h
   .rw[zo hp]at z;exact s p o z
  .by_cases hp:p=b
   .subst hp
    rw[h]at z2
    cases z2
    exact .inr ⟨⟨_,rfl⟩,zp⟩
   .exact .inl (by rw[zo hp];exact z1)
section
variable {X:Cx}{tg a b e k v:Expr}{pos pos':Pos}{sts:List Stmt}
def zmX (i:Nat)(g:SE->Ctl):SE->Ctl:=fun ρ=>match ρ[i]? with
 | some (.m t ks vs)=>g (ρ.set i (.v (.dct true t ks vs)))
 | _=>.no
theorem Rl.fzM {Fb Hb F H:Hp}{ρ:SE}{σ:St}{i:Nat}{t:Bool}{ks:List (List Key)}{vs:List D}(r:Rl Fb Hb F H ρ σ)(h:ρ[i]?=some (.m t ks vs)) :
 ∃ p u,σ[i]?=some (some (.ref p))/\H p=some u/\zhb u/\∀ ob,Rl Fb Hb (upd F p (.frz ob u)) (upd H p (.frz ob u)) (ρ.set i (.v (.dct true t ks vs))) σ:=by
 obtain⟨p,u,e1,e2,e3,e4,xs,hd,al⟩:=r.ows i _ h rfl
 refine⟨p,u,e1,e4,(zjf hd).1,λob=>?_⟩
 have hi:i < ρ.length:=(t7.mp h).1
 have sF:yI F (upd F p (.frz ob u)):=λb o e=>by rw[zo (zm e e3)];exact e
 have nj:∀ {j:Nat} {s:Sl},(ρ.set i (.v (.dct true t ks vs)))[j]?=some s->s.isO=true->i≠j:=λ{j s} h ht e=>by
  subst e
  rw[u0i hi]at h
  cases h
  cases ht
 refine⟨⟨r.gr.ff.trans sF,λb o z=>?_,λb o z1 z2=>?_⟩,λj d z=>?_,λj s z ht=>?_,λj k q s s' h1 h2 o1 o2 h3 h4=>?_,by simp[r.len]⟩
 .by_cases hb:b=p
  .subst hb;rw[zp]at z ⊢;exact z
  .rw[zo hb]at z ⊢;exact r.gr.fh b o z
 .have hb:b≠p:=zm z2 e2
  obtain⟨x,y⟩:=r.gr.kp b o z1 z2
  refine⟨?_,by rw[zo hb];exact y⟩
  unfold Hid
  rw[zo hb]
  exact x
 .by_cases hj:i=j
  .subst hj
   rw[u0i hi]at z
   cases z
   refine⟨_,e1,?_⟩
   unfold At
   exact⟨p,xs,rfl,⟨u,hd,by rw[u8 rfl];exact⟨ob,zp⟩⟩,al.mono sF⟩
  .rw[n9 hj]at z
   obtain⟨v,f1,f2⟩:=r.vals j d z
   exact⟨v,f1,f2.mono sF⟩
 .have hj:=nj z ht
  rw[n9 hj]at z
  obtain⟨q,y,f1,f2,f3,f4,f5⟩:=r.ows j s z ht
  have hq:q≠p:=λw=>hj (r.dis i j p _ s h z rfl ht e1 (by rw[<-w];exact f1))
  exact⟨q,y,f1,f2,by rw[zo hq];exact f3,by rw[zo hq];exact f4,f5.mono sF⟩
 .have a1:=nj h1 o1
  have a2:=nj h2 o2
  rw[n9 a1]at h1
  rw[n9 a2]at h2
  exact r.dis j k q s s' h1 h2 o1 o2 h3 h4
theorem ziD {g:SE->Ctl}(i:Nat)(h:SDs X sts g):SDs X sts (zmX i g):=by
 obtain⟨t,p,r⟩:=h
 refine⟨_,zjj i p,λFb Hb F H ρ σ E rl k=>?_⟩
 unfold zmX at k
 split at k
 .rename_i tt ks vs hs
  obtain⟨q,u,e1,e2,e3,e4⟩:=rl.fzM hs
  exact⟨q,u,e1,e2,e3,λob=>r Fb Hb _ _ _ σ E (e4 ob) k⟩
 .exact k.elim
theorem zd6 {z:Bool}{tk tv:TE}{fk fv:Ev->Option D}{σ:St}{ρ:Ev}{F H:Hp}{kd d:D}{kk:List Key}{Q:VK}(rk:RE tk fk)(rv:RE tv fv)(s:yI F H)(va:VAt F ρ σ)(e1:fk ρ=some kd)(e2:fv ρ=some d)(e3:zf9 kd=some kk)
 (q:∀ F2 H2 p y,Gr F H F2 H2->H p=none->F2 p=none->H2 p=some (.dT [])->At F2 d y->if z=true then ∀ ob,Q (.ref p) (upd H2 p (.frz ob (.dT [(kk,y)])))else Q (.ref p) (upd H2 p (.dT [(kk,y)]))):zie z tk tv σ H Q:=by
 intro p hp
 have g0:=Gr.hide s hp (.dT [])
 refine rk σ ρ F _ kd _ g0.fh va e1 λF1 H1 x g1 a1=>?_
 refine rv σ ρ F1 H1 d _ g1.fh (va.mono g1.ff) e2 λF2 H2 y g2 a2=>?_
 have g12:=g1.trans g2
 obtain⟨n2,h2⟩:=g12.kl (o:=.dT []) (λ_ e=>by cases e) (s.free hp) zp
 obtain⟨b,rfl,hb⟩:=zbA e3 a1
 exact⟨h2,b,kk,rfl,g2.fh _ _ (g2.ff _ _ hb),q F2 H2 p y (g0.trans g12) hp n2 h2 a2⟩
def zgv (i:Nat)(fk fv:Ev->Option D):SE->Ctl:=fun ρ=>match (fk (visF ρ)).bind λkd=>(fv (visF ρ)).bind λd=>(zf9 kd).map λk=>Sl.m true [k] [d] with
 | some s=>.nx (ρ.set i s)
 | none=>.no
theorem ziz {n i:Nat}{x:Str}{fk fv:Ev->Option D}(hr:vf n X.A)(hN:X.N.Nodup)(hi:X.N[i]?=some x)(hx:Loc X.env.scope x)(hk:ED X k fk)(hv:ED X v fv){p2:Pos}
 (hs:swapsWith (.Dict [some k] [v] p2) (some (.Name x pos')) pos.line X.env=pure false:=by rfl)
 (hf:X.fn x=true\/X.env.scope.names.lookup x=some .local:=by first | exact .inl rfl | exact .inr rfl | assumption):SD X (.Assign [.Name x pos'] (.Dict [some k] [v] p2) pos) (zgv i fk fv):=by
 obtain⟨tk,pk,rk⟩:=hk
 obtain⟨tv,pv,rv⟩:=hv
 refine⟨_,zcL hN hi hx (zho (z:=false) (zjx hr) pk pv) hs hf,λFb Hb F H ρ σ E rl kk=>?_⟩
 unfold zgv at kk
 cases h:(fk (visF ρ)).bind λkd=>(fv (visF ρ)).bind λd=>(zf9 kd).map λk=>Sl.m true [k] [d] with
 | none=>rw[h]at kk;exact kk.elim
 | some s =>
  rw[h]at kk
  obtain⟨kd,e1,e⟩:=u0.mp h
  obtain⟨d,e2,e⟩:=u0.mp e
  obtain⟨k0,e3,rfl⟩:=t8.mp e
  refine zd6 (z:=false) rk rv rl.gr.fh rl.visF e1 e2 e3 λF2 H2 p y g hp n2 h2 ay=>?_
  rw[u9 u4]
  have g2:Gr F H F2 (upd H2 p (.dT [(k0,y)])):=by
   refine⟨g.ff,λb o z=>?_,λb o z1 z2=>?_⟩
   .rw[zo (zm z n2)];exact g.fh b o z
   .rw[zo (zm z2 hp)];exact g.kp b o z1 z2
  refine kk F2 _ _ ((rl.grow g2).setW (rl.notbase hp) n2 zp ⟨[y],?_,.cons ay .nil⟩ (rl.notown hp))
  unfold zcJ
  rw[u8 rfl]
  exact⟨_,rfl,rfl,rfl⟩
end
end
end Dl
namespace Dl
open PySem L2 PySem.Spec PyProof.Rows
variable [KK]{X:Cx}{e:Expr}
def revD:D->Option (List D)
 | .lst ds=>some ds.reverse
 | _=>none
def zmb (f:Ev->Option D):Ev->Option (List D):=fun ρ=>(f ρ).bind revD
end Dl
namespace L2
open PySem PySem.Spec PyProof.Rows
theorem zc2 {acc:Array Value}{j:Nat}(h:ItemsOf (λi v=>∃ t,v=Value.int (0+(i:Int)*1) t) acc j):zU ((List.range j).map λk:Nat=>V.int (k:Int)) acc.toList:=by
 have gen:∀ (vs:List Value) (a:Nat),(∀ i v,vs[i]?=some v->∃ t,v=Value.int (0+((a+i:Nat):Int)*1) t)->zU ((List.range' a vs.length).map λk:Nat=>V.int (k:Int)) vs:=by
  intro vs
  induction vs with
  | nil=>intro a _;exact .nil
  | cons v vs ih =>
   intro a h
   refine .cons ?_ (ih (a+1) λi v hv=>?_)
   .obtain⟨t,rfl⟩:=h 0 v rfl
    exact⟨t,by rw[show(0:Int)+((a+0:Nat):Int)*1=(a:Int) by omega]⟩
   .have:=h (i+1) v (by simpa using hv)
    rwa[show a+(i+1)=a+1+i by omega]at this
 have:=gen acc.toList 0 λi v hv=>by
  rw[u1a]
  exact h.2 i v (by simpa using hv)
 rw[j5,h.1]at this
 rwa[List.range_eq_range']
end L2
namespace Dl
open PySem L2 PySem.Spec PyProof.Rows
variable [KK]{X:Cx}{e:Expr}
def lrD:D->Option (List D)
 | .int j=>if 0<=j/\j<=1000 then some ((List.range j.toNat).map λk:Nat=>.int (k:Int))else none
 | _=>none
end Dl
namespace L2
open PySem PySem.Spec PyProof.Rows
open Sem (wp)
section
variable {prog:Program}{w:World}{A:Around}{E:Value->Shared->Prop}{h:Heap}{g:Array GenState}{d:Drawn}{t:Nat}{os:OsState}
 {nm q:Str} {C N fI:Addr} {bs bm:List Value} {hdct:Bool} {sn:List Str} {sub:List Value} {ab:Bool} {col:Option Bool} {dd:Option Addr} {k0 k1 k2 k3 k5:Option Value} {mN:Str->Option Value} {us:List Value} {oI:Obj}
end
end L2
namespace L2
open PySem PySem.Spec PyProof.Rows
section
variable {prog:Program}{w:World}{A:Around}{E:Value->Shared->Prop}{s:Shared}{env:Env}
 {nm q:Str} {C N fI:Addr} {bs bm:List Value} {hdct:Bool} {sn:List Str} {sub:List Value} {ab:Bool} {col:Option Bool} {dd:Option Addr} {k0 k1 k2 k3 k5:Option Value} {mN:Str->Option Value} {oI:Obj}
end
end L2
namespace OwnDk
open PySem
section
variable {prog:Program}{w:World}{A:Around}{E:Value->Shared->Prop}{s:Shared}
theorem zaA (hh:A.handled=none)(I a:Addr)(hne:a≠I){ob:Obj}{es:Array DictEntry}{ep:Nat}(hd:ob.data=.dict es ep) :
 Walks prog w A I [I,a] [I] es.size (λi v=>∃ e,es[i]?=some e/\v=e.key) (λi h=>h.IsKeyIter I a i es.size ep/\h.get? a=some ob) where
 sub:=λb hb=>by simp at hb;simp[hb]
 frame:=λ_ _ _ x hk=>⟨x.1.at λo e=>hk I (by simp) o e,hk a (by simp) _ x.2⟩
 item:=λi s Q E hi x hQ=>by
  have hx:es[i]?=some (es[i]'hi):=u1R _
  refine L2.raw_next x.1 x.2 hd hx λh' he' hs'=>?_
  exact hQ _ h' s.toks ⟨_,hx,rfl⟩ ⟨he',(hs'.2 a hne).trans x.2⟩ λb o hb eo=>hs'.extBut b o (λh=>hb (by simp[h])) eo
 done:=λs Q E x hQ=>L2.raw_end hh x.1 x.2 hd (q5 _) λh' he'=>hQ h' s.toks λb o hb eo=>he' b o (λh=>hb (by simp[h])) eo
 self:=λ_ _ _ _ x hQ=>wpAny_pyIter_keyiter x.1 hQ
theorem Z9 {a:Addr}{ob:Obj}{es:Array DictEntry}{ep:Nat}{Q:List Value->Shared->Prop}(hh:A.handled=none)(hs:(a == sysModules)=false)(hS:s.heap.get? a=some ob)(hc:ob.ExactDict)(hd:ob.data=.dict es ep)(h8:es.size<=sizeLine)
 (hQ:∀ s',(∀ b o,s.heap.get? b=some o->s'.heap.get? b=some o)->s'.gens=s.gens->s'.drawn=s.drawn->s'.os=s.os->Q (es.toList.map (·.key)) s'):wpAny (model prog w) A (collect (.ref a)) Q E s:=by
 have hlt:a < s.heap.objs.size:=r6 hS
 have hSa:s.heap.objs.size≠a:=u3z hlt
 unfold collect
 refine u3 (wpAny_runValue (u2R F.entry_proto_collect ?_))
 rw[u1N F.plain_proto_collect _]
 show wpAny _ A.in1 (newList []>>=λl=>again (.builtin "list.__iadd__" ⟨[l,.ref a],[]⟩)) _ _ s
 refine u3 (u0l ?_)
 refine j3 ⟨plainId_quiet u2s _,u2R F.entry_list_iadd ?_⟩
 rw[u1N u2s _]
 have hS1:(s.heap.push { cls:=.type "list",data:=.seq ([]:List Value).toArray }).get? a=some ob:=u5 _ hS
 have hL1:(s.heap.push { cls:=.type "list",data:=.seq ([]:List Value).toArray }).get? s.heap.objs.size=some { cls:=.type "list",data:=.seq ([]:List Value).toArray }:=j8 _ rfl
 generalize hh1:s.heap.push { cls:=.type "list",data:=.seq ([]:List Value).toArray }=h1 at hS1 hL1 ⊢
 have k1:∀ b o,s.heap.get? b=some o->h1.get? b=some o:=λb o e=>by rw[<-hh1];exact u5 _ e
 have hz1:h1.objs.size=s.heap.objs.size+1:=by rw[<-hh1];exact u1S ..
 show wpAny _ A.in1 (Builtin.List.listExtendWith (.ref s.heap.objs.size) (.ref a) (.ref s.heap.objs.size)) _ _ _
 unfold Builtin.List.listExtendWith
 refine u3 (u24 (T:="dict") ⟨_,hS1,hc.1⟩ ?_)
 have g1:Builtin.List.listSameRef (.ref s.heap.objs.size) (.ref a)=false:=by simp[Builtin.List.listSameRef,hSa]
 have g2:(Value.type "dict" == Value.type "list")=false:=by decide
 have g3:(Value.type "dict" == Value.type "tuple")=false:=by decide
 simp only[g1,g2,g3,Bool.or_false,u1B,u2H]
 refine u3 (L2.raw_iter hs hS1 hc hd ?_)
 have hI2:(h1.push { cls:=.type "dict_keyiterator",data:=.fields #[.ref a,.int 0 0,.int es.size 0,.int ep 0] }).IsKeyIter h1.objs.size a 0 es.size ep:=⟨_,j8 _ rfl,rfl,rfl⟩
 have hS2:(h1.push { cls:=.type "dict_keyiterator",data:=.fields #[.ref a,.int 0 0,.int es.size 0,.int ep 0] }).get? a=some ob:=u5 _ hS1
 have hL2:=u5 { cls:=.type "dict_keyiterator",data:=.fields #[.ref a,.int 0 0,.int es.size 0,.int ep 0] } hL1
 generalize hh2:h1.push { cls:=.type "dict_keyiterator",data:=.fields #[.ref a,.int 0 0,.int es.size 0,.int ep 0] }=h2 at hI2 hS2 hL2 ⊢
 have k2:∀ b o,h1.get? b=some o->h2.get? b=some o:=λb o e=>by rw[<-hh2];exact u5 _ e
 refine u3 (u0X (PySem.W.kdl_hint_dict ⟨_,hS2,hc.1⟩ ?_))
 show wpAny _ A.in1 (if true=true then _ else _) _ _ _
 rw[u8 rfl]
 refine u3 (u1A (u3 ?_))
 show wpAny _ A.in1 (updateSeq s.heap.objs.size (·.push .none)>>=λ_=>updateSeq s.heap.objs.size (·.pop)) _ _ _
 refine u3 (wpAny_updateSeq hL2 rfl ?_)
 have hL3:=u0Q (Obj.mapSeq (·.push Value.none)) hL2 rfl
 refine wpAny_updateSeq (hz:=by seq_fits) hL3 rfl ?_
 have hL4:=u0Q (Obj.mapSeq (·.pop)) hL3 rfl
 have oth:∀ b o,b≠s.heap.objs.size->h2.get? b=some o->((h2.update s.heap.objs.size (Obj.mapSeq (·.push Value.none))).update s.heap.objs.size (Obj.mapSeq (·.pop))).get? b=some o :=
  λb o hb e=>(u0u _ _ (u1Q hb)).trans ((u0u _ _ (u1Q hb)).trans e)
 have hIne:h1.objs.size≠s.heap.objs.size:=by rw[hz1];exact Nat.succ_ne_self _
 have hIa:a≠h1.objs.size:=by rw[hz1];exact p5 (u1K hlt)
 have W:=zaA (prog:=prog) (w:=w) (A:=A.in1) hh h1.objs.size a hIa hd
 refine j3 ⟨plainId_quiet F.plain_extend_loop _,codeAny_extend_loopS W.toS h8 _ (λhmem=>?_) _ es.size 0 _ #[] _ rfl (u0g _) ⟨hI2.at λo e=>oth _ _ hIne e,oth _ _ (u1Q hSa) hS2⟩ hL4 (ItemsOf.nil _) λs' acc' c' hmv hS' hacc=>?_⟩
 .rcases d7.mp hmem with e | e
  .exact hIne e.symm
  .exact hSa (t9.mp e)
 .show wpAny _ A (load s.heap.objs.size>>=_) _ _ s'
  refine u3 (wpAny_load hS' ?_)
  refine j3 ?_
  have e1:acc'.toList=es.toList.map (·.key):=by
   apply u1J
   intro i
   by_cases hi:i < es.size
   .have q1:acc'[i]?=some (acc'[i]'(by rw[hacc.1];exact hi)):=u1R _
    obtain⟨e,q2,q3⟩:=hacc.2 i _ q1
    rw[j9,i9,i9,q1,q2,q3]
    rfl
   .rw[u0m (by rw[j5,hacc.1];exact u10 hi),u0m (by rw[u6,j5];exact u10 hi)]
  rw[e1]
  refine hQ s' (λb o e=>hmv.heap b o (λhmem=>?_) (oth b o (p5 (r6 e)) (k2 b o (k1 b o e)))) hmv.gens hmv.drawn hmv.os
  rcases d7.mp hmem with z | z
  .exact p5 (r6 e) z
  .have:=r6 e
   rw[t9.mp z,hz1]at this
   exact absurd (Nat.lt_of_succ_lt this) (u09 _)
theorem own_sorted_dict {a:Addr}{ob:Obj}{es:Array DictEntry}{ep:Nat}{Q:Value->Shared->Prop}(hh:A.handled=none)(hs:(a == sysModules)=false)(hS:s.heap.get? a=some ob)(hc:ob.ExactDict)(hd:ob.data=.dict es ep)(h64:es.size < 10000000)(hT:∀ v∈es.toList.map (·.key),∃ t,OwnSortT.TT s.heap v t)
 (h:∀ (h1 h':Heap) (tk':Nat) (out:Array Value) (c:Nat),out.toList.Perm (es.toList.map (·.key))->OwnSortT.Rise s.heap out.toList->(∀ b o,s.heap.get? b=some o->h1.get? b=some o)->(∀ b o,h1.get? b=some o->h'.get? b=some o) ->
  h'.get? h1.objs.size=some { cls:=.type "list",dict:=none,data:=.seq out c,slots:=#[] }->Q (.ref h1.objs.size) { s with heap:=h',toks:=tk' }) :
 wpAny (model prog w) A (call (.builtin "sorted") [.ref a]) Q E s:=by
 refine Calls.call_function_entry PyProof.Rows.kind_sorted PyProof.Rows.plain_sorted PyProof.Rows.entry_sorted (PyProof.Rows.args_sorted1 _) ?_
 unfold Builtin.«sorted»
 refine u3 (m:=checkCount "sorted" 1 1 _) (j3 (u3 (Z9 hh hs hS hc hd (u0t (u1u h64) (by rw[u1I];decide)) λs' k g1 g2 g3=>?_)))
 obtain⟨h1,g',d',tk1,os'⟩:=s'
 have e1:g'=s.gens:=g1
 have e2:d'=s.drawn:=g2
 have e3:os'=s.os:=g3
 subst e1 e2 e3
 have h64:(es.toList.map (·.key)).length < 10000000:=by rw[u6,j5];exact h64
 generalize es.toList.map (·.key)=vs at *
 refine u3 (u2I ?_)
 have hoL:(h1.push (PyProof.Rows.seqObj "list" vs.toArray 0)).get? h1.objs.size=some (PyProof.Rows.seqObj "list" vs.toArray 0):=j8 _ rfl
 have up:∀ b o,s.heap.get? b=some o->(h1.push (PyProof.Rows.seqObj "list" vs.toArray 0)).get? b=some o:=λb o e=>u5 _ (k b o e)
 refine u3 (u0X (u0O PyProof.Rows.slot_list_sort ⟨_,hoL,rfl⟩ PyProof.Rows.entry_list_sort (OwnSortT.ownT_list_sort hoL (λv hv=>let ⟨t,ht⟩:=hT v hv;⟨t,ht.keep up⟩) h64 λout p1 p2=>⟨_,rfl,?_⟩) (PyProof.Rows.args_list_sort _)))
 have rise:OwnSortT.Rise s.heap out.toList:=by
  obtain⟨ts,q1,q2,q3⟩:=p2
  refine⟨ts,q1,λi v t hv ht=>?_,q3⟩
  obtain⟨t0,ht0⟩:=hT v (p1.mem_iff.mp (j6 hv))
  rw[(q2 i v t hv ht).uniq (ht0.keep up)]
  exact ht0
 have hn:∀ b o,b≠h1.objs.size->(h1.push (PyProof.Rows.seqObj "list" vs.toArray 0)).get? b=some o->(PyProof.Rows.sortedHeap (h1.push (PyProof.Rows.seqObj "list" vs.toArray 0)) h1.objs.size vs out).get? b=some o:=λb o hb e=>by
  unfold PyProof.Rows.sortedHeap
  exact(u0u _ _ (u1Q hb)).trans (u5 _ (u5 _ ((u0u _ _ (u1Q hb)).trans e)))
 have hL:∃ c,(PyProof.Rows.sortedHeap (h1.push (PyProof.Rows.seqObj "list" vs.toArray 0)) h1.objs.size vs out).get? h1.objs.size=some { cls:=.type "list",dict:=none,data:=.seq out c,slots:=#[] }:=by
  unfold PyProof.Rows.sortedHeap
  have u1:=u0Q (Obj.mapSeq λ_=>(#[]:Array Value)) hoL rfl
  have u2:=u5 (PyProof.Rows.seqObj "list" #[] 0) (u5 (PyProof.Rows.seqObj "tuple" vs.toArray 0) u1)
  exact⟨_,u0Q (Obj.mapSeq λ_=>out) u2 rfl⟩
 obtain⟨c,hL⟩:=hL
 exact j3 ⟨_,rfl,h h1 _ _ out c p1 rise k (λb o e=>hn b o (p5 (r6 e)) (u5 _ e)) hL⟩
end
end OwnDk
namespace Dl
open PySem L2
def zcZ:List Key->Option (List Int)
 | []=>some []
 | .inl i::r=>(zcZ r).map (i::·)
 | _=>none
def zaw:List (List Key)->Option (List (List Int))
 | []=>some []
 | k::ks=>match zcZ k with
  | some (i::t)=>(zaw ks).map ((i::t)::·)
  | _=>none
theorem zhv:∀ {k:List Key} {t:List Int},zcZ k=some t->k=t.map Sum.inl:=by
 intro k
 induction k with
 | nil=>intro t h;cases h;rfl
 | cons a k ih =>
  intro t h
  cases a with
  | inl i =>
   obtain⟨r,e,rfl⟩:=t8.mp h
   rw[ih e]
   rfl
  | inr x=>cases h
theorem zgs:∀ {ks:List (List Key)} {ts:List (List Int)},zaw ks=some ts->ks=ts.map (λt=>t.map Sum.inl)/\∀ t∈ts,t≠[]:=by
 intro ks
 induction ks with
 | nil=>intro ts h;cases h;exact⟨rfl,λt h=>by cases h⟩
 | cons k ks ih =>
  intro ts h
  unfold zaw at h
  split at h
  .rename_i i t e
   obtain⟨r,e2,rfl⟩:=t8.mp h
   obtain⟨h1,h2⟩:=ih e2
   refine⟨by rw[h1,zhv e];rfl,λu hu=>?_⟩
   rcases d7.mp hu with rfl | hu
   .exact List.cons_ne_nil _ _
   .exact h2 u hu
  .cases h
def zj0 (t:List Int):List (List Int)->List (List Int)
 | []=>[t]
 | u::us=>if HT.lexLt u t=true then u::zj0 t us else t::u::us
def yZ:List (List Int)->List (List Int)
 | []=>[]
 | t::ts=>zj0 t (yZ ts)
theorem zay (t:List Int):∀ us:List (List Int),(zj0 t us).Perm (t::us):=by
 intro us
 induction us with
 | nil=>exact u1y _
 | cons u us ih =>
  unfold zj0
  split
  .exact(ih.cons u).trans (List.Perm.swap _ _ _)
  .exact u1y _
theorem wk:∀ ts:List (List Int),(yZ ts).Perm ts:=by
 intro ts
 induction ts with
 | nil=>exact u1y _
 | cons t ts ih=>exact(zay t _).trans (ih.cons t)
theorem ze2 (t:List Int):∀ us:List (List Int),us.Pairwise (λa b=>HT.lexLt b a=false)->(zj0 t us).Pairwise λa b=>HT.lexLt b a=false:=by
 intro us
 induction us with
 | nil=>intro _;exact List.pairwise_singleton _ _
 | cons u us ih =>
  intro h
  rw[u0V]at h
  unfold zj0
  by_cases c:HT.lexLt u t=true
  .rw[u8 c]
   refine u0V.mpr ⟨λv hv=>?_,ih h.2⟩
   rcases d7.mp ((zay t us).mem_iff.mp hv)with rfl | hv
   .cases e:HT.lexLt v u with
    | false=>rfl
    | true =>
     have:=OwnSortT.lex_trans _ _ _ c e
     rw[OwnSortT.lex_irr]at this
     cases this
   .exact h.1 v hv
  .rw[u9 c]
   have c:HT.lexLt u t=false:=by cases e:HT.lexLt u t with
    | false=>rfl
    | true=>exact absurd e c
   refine u0V.mpr ⟨λv hv=>?_,u0V.mpr h⟩
   rcases d7.mp hv with rfl | hv
   .exact c
   .cases e:HT.lexLt v t with
    | false=>rfl
    | true =>
     rcases OwnSortT.lex_neg v u t e with z | z
     .rw[h.1 v hv]at z;cases z
     .rw[c]at z;cases z
theorem Wb:∀ ts:List (List Int),(yZ ts).Pairwise λa b=>HT.lexLt b a=false:=by
 intro ts
 induction ts with
 | nil=>exact List.Pairwise.nil
 | cons t ts ih=>exact ze2 t _ ih
theorem XR {ts us:List (List Int)}(p:us.Perm ts)(h:us.Pairwise λa b=>HT.lexLt b a=false):us=yZ ts :=
 u19 (le:=λa b=>HT.lexLt b a=false) (λa b _ _ h1 h2=>OwnSortT.lex_total _ _ h2 h1) h (Wb ts) (p.trans (wk ts).symm)
def zl4 (t:List Int):D:=.tup (t.map .int)
def sortMD:List D->Option (List D)
 | [.dct _ true ks _]=>if ks.length < 64 then (zaw ks).map λts=>(yZ ts).map zl4 else none
 | _=>none
variable [KK]
section
variable {X:Cx}{e:Expr}{pos:Pos}
theorem Gr.seeL {H:Hp}:∀ {F:Hp} (bs:List (Addr × List V)),yI F H->(∀ b∈bs,H b.1=some (.tup b.2))->∃ F',Gr F H F' H/\∀ b∈bs,F' b.1=some (.tup b.2):=by
 intro F bs
 induction bs generalizing F with
 | nil=>intro s _;exact⟨F,.refl s,λb h=>by cases h⟩
 | cons b bs ih =>
  intro s h
  obtain⟨F1,g1,e1⟩:=Gr.see s (h b m7)
  obtain⟨F2,g2,e2⟩:=ih g1.fh λc hc=>h c (b8 _ hc)
  refine⟨F2,g1.trans g2,λc hc=>?_⟩
  rcases d7.mp hc with rfl | hc
  .exact g2.ff _ _ e1
  .exact e2 c hc
theorem zaF (hc:X.calm=true):Ys X (.builtin "sorted") (λxs H Q=>∃ F a z ks ys ts,xs=[.ref a]/\yI F H/\VQ F a z true ks ys/\ks.length < 10000000/\zaw ks=some ts/\∀ l zs F',H l=none->Gr F H F' H->AtL F' ((yZ ts).map zl4) zs->Q (.ref l) (upd H l (.lst zs))):=by
 intro pins s σ H xs us Q I r h
 obtain⟨F,a,z,ks,ys,ts,rfl,sm,hd,h64,hk,q⟩:=h
 obtain⟨u,rfl,ru⟩:=Vk r
 cases ru
 obtain⟨rfl,hne⟩:=zgs hk
 rw[u6]at h64
 obtain⟨u,hu,hz⟩:=hd.mono sm
 unfold zcJ at hu
 rw[u8 rfl]at hu
 obtain⟨kvs,rfl,hks,-⟩:=hu
 have ok:yo X.prog X.w H s.heap a (.dT kvs):=by
  cases z with
  | true=>rw[u8 rfl]at hz;obtain⟨ob,e⟩:=hz;exact(show yo X.prog X.w H s.heap a (.frz ob (.dT kvs))from I.hok a _ e).2
  | false=>rw[u9 u4]at hz;exact I.hok a _ hz
 obtain⟨_,sys,xs,pr,o,es,ep,e1,ex,dt,he,nd⟩:=ok
 have hp:=u3g pr
 have hkl:kvs.length=ts.length:=by have:=u0W List.length hks;rw[u6,u6]at this;exact this
 have hkeys:es.toList.map (·.key)=xs.map λq=>Value.ref q.2.1:=by rw[he,u0z];rfl
 have hsz:es.size < 10000000:=by rw[<-j5,he,u6];omega
 have rel:∀ {l:List (List Key × V)} {m:List (List Key × Addr × Value)},Paired (λp q=>p.1=q.1/\H q.2.1=some (.tup (p.1.map kV))/\yA p.2 q.2.2) l m->∀ (j:Nat) (h1:j < l.length) (h2:j < m.length),l[j].1=m[j].1/\H m[j].2.1=some (.tup (l[j].1.map kV)):=λ{l m} r=>by
  induction r with
  | nil=>intro j h1;simp at h1
  | cons h t ih =>
   intro j h1 h2
   cases j with
   | zero=>exact⟨h.1,h.2.1⟩
   | succ j=>exact ih j (by simpa using h1) (by simpa using h2)
 have atJ:∀ (j:Nat) (h1:j < ts.length) (h2:j < xs.length),H xs[j].2.1=some (.tup (ts[j].map V.int)):=λj h1 h2=>by
  have h3:j < kvs.length:=by omega
  obtain⟨-,r2⟩:=rel pr j h3 h2
  have e3:kvs[j].1=ts[j].map Sum.inl:=by
   have:=u0W (λl=>l[j]?) hks
   simp only[j9]at this
   rw[u7 h3,u7 h1]at this
   exact u0f this
  rw[r2,e3,u0z]
  rfl
 have look:∀ {v:Value},v∈(xs.map λq=>Value.ref q.2.1)->∃ b t,v=.ref b/\t∈ts/\H b=some (.tup (t.map V.int))/\OwnSortT.TT s.heap v t:=λ{v} hv=>by
  obtain⟨j,hj,rfl⟩:=p8 hv
  rw[u6]at hj
  have hj2:j < ts.length:=by omega
  have hb:=atJ j hj2 hj
  rw[u1X]
  obtain⟨us,ru,⟨o,ho,hcl,n,hd⟩,_⟩:=I.tuple (SqT.of hb)
  exact⟨xs[j].2.1,ts[j],rfl,u0N hj2,hb,xs[j].2.1,o,n,us,rfl,ho,hcl,hd,vb ru,hne _ (u0N hj2)⟩
 refine OwnDk.own_sorted_dict (I.ok.hd hc) sys e1 ex dt hsz (λv hv=>by rw[hkeys]at hv;obtain⟨b,t,-,-,-,ht⟩:=look hv;exact⟨t,ht⟩) λh1 h' tk out c pm ri k1 k2 hL=>?_
 rw[hkeys]at pm
 obtain⟨us,l1,l2,l3⟩:=ri
 have zsOf:∀ (ws:List Value) (vs:List (List Int)),ws.length=vs.length->(∀ w∈ws,w∈xs.map λq=>Value.ref q.2.1)->(∀ (i:Nat) v t,ws[i]?=some v->vs[i]?=some t->OwnSortT.TT s.heap v t)->∃ bs:List (Addr × List Int),bs.map (·.2)=vs/\zU (bs.map λb=>V.ref b.1) ws/\∀ b∈bs,H b.1=some (.tup (b.2.map V.int)):=by
  intro ws
  induction ws with
  | nil =>
   intro vs hl _ _
   cases vs with
   | nil=>exact⟨[],rfl,.nil,λb h=>by cases h⟩
   | cons _ _=>simp at hl
  | cons w ws ih =>
   intro vs hl hm ht
   cases vs with
   | nil=>simp at hl
   | cons t vs =>
    obtain⟨bs,z0,z1,z2⟩:=ih vs (by simpa using hl) (λw' hw'=>hm w' (b8 _ hw')) (λi v t h1 h2=>ht (i+1) v t (by simpa using h1) (by simpa using h2))
    obtain⟨a,t',rfl,_,ha,htp⟩:=look (hm w m7)
    have et:t'=t:=htp.uniq (ht 0 _ t rfl rfl)
    subst et
    exact⟨(a,t')::bs,by rw[d8,z0],.cons rfl z1,λb hb=>by
     rcases d7.mp hb with rfl | hb
     .exact ha
     .exact z2 b hb⟩
 obtain⟨bs,z0,z1,z2⟩:=zsOf out.toList us l1 (λw hw=>pm.mem_iff.mp hw) l2
 have keysPerm:us.Perm ts:=by
  have kv:∀ (ws:List Value) (vs:List (List Int)),ws.length=vs.length->(∀ (i:Nat) v t,ws[i]?=some v->vs[i]?=some t->OwnSortT.TT s.heap v t)->vs=ws.map λv=>(OwnSortT.keyTT s.heap v).getD []:=by
   intro ws
   induction ws with
   | nil=>intro vs hl _;cases vs with
    | nil=>rfl
    | cons _ _=>simp at hl
   | cons w ws ih =>
    intro vs hl ht
    cases vs with
    | nil=>simp at hl
    | cons t vs =>
     rw[d8,OwnSortT.keyTT_of (ht 0 w t rfl rfl),<- ih vs (by simpa using hl) λi v t h1 h2=>ht (i+1) v t (by simpa using h1) (by simpa using h2)]
     rfl
  rw[kv _ _ l1 l2,kv (xs.map λq=>Value.ref q.2.1) ts (by rw[u6];omega) λi v t h1 h2=>?_]
  .exact pm.map _
  .obtain⟨hi,e2⟩:=t7.mp h1
   obtain⟨hi2,e3⟩:=t7.mp h2
   rw[u6]at hi
   have hb:=atJ i hi2 hi
   rw[e3]at hb
   obtain⟨us',ru',⟨o,ho,hcl,n,hd⟩,_⟩:=I.tuple (SqT.of hb)
   exact⟨xs[i].2.1,o,n,us',by rw[<-e2,u1X],ho,hcl,hd,vb ru',hne t (by rw[<-e3];exact u0N hi2)⟩
 have e3:=XR keysPerm l3
 subst e3
 obtain⟨F',g,hF⟩:=Gr.seeL (bs.map λb=>(b.1,b.2.map V.int)) sm λb hb=>by
  obtain⟨c,hc,rfl⟩:=u0c.mp hb
  exact z2 c hc
 have az:AtL F' ((yZ ts).map zl4) (bs.map λb=>V.ref b.1):=by
  rw[<-z0]
  clear z0 z1 pm l1 l2
  induction bs with
  | nil=>exact .nil
  | cons b bs ih=>exact .cons (.tup (hF (b.1,b.2.map V.int) (u0c.mpr ⟨b,m7,rfl⟩)) (.ints _)) (ih (λc hc=>z2 c (b8 _ hc)) (λc hc=>by
   obtain⟨d,hd,rfl⟩:=u0c.mp hc
   exact hF _ (u0c.mpr ⟨d,b8 _ hd,rfl⟩)))
 have I2:Inv X pins σ H { s with heap:=h1,toks:=tk }:=I.kept λb u e=>k1 b u e
 have hlo:(bs.map λb=>V.ref b.1).length<=sizeLine:=by
  have hh:bs.length=(yZ ts).length:=by rw[<-z0,u6]
  rw[u6,hh,(wk ts).length_eq,u1I]
  omega
 exact⟨.ref h1.objs.size,_,I2.laid (t':=tk) (λb o e=>k2 b o e) (q5 _) (show yo X.prog X.w _ h' _ (.lst (bs.map λb=>V.ref b.1)) from⟨hlo,out.toList,c,z1,by simpa using hL⟩),rfl,q _ _ F' (I2.hok.fresh (q5 _)) g az⟩
def zci:List D->Option (List D)
 | [.dct _ true ks _]=>if ks.length < 10000000 then (zaw ks).map λts=>(yZ ts).map zl4 else none
 | _=>none
theorem zdn {p:Pos} {f:Ev->Option (List D)} (hc:X.calm=true) (hgl:Gl X "sorted") (hm:X.mg "sorted"=none) (ha:AD X [e] f)
 (he:starEach [e] X.env=(false,eval e X.env)::starEach [] X.env:=by rfl) (hpl:(backTo pos (starEach [] X.env)).any (·.1)=false:=by rfl):FL X (.Call (.Name "sorted" p) [e] [] pos) (fFn zci f):=by
 obtain⟨t,pa,ra⟩:=ha
 refine⟨_,Xe (zaF hc) hgl hm XM pa (by decide) (by decide) he hpl,fun σ ρ F H z Q s va e q=>?_⟩
 obtain⟨ds,e1,e2⟩:=u0.mp e
 refine ra σ ρ F H ds _ s va e1 λF1 H1 vs g1 a1=>?_
 have e2':=e2
 unfold zci at e2'
 split at e2'
 .rename_i z' ks ws
  split at e2' <;> try cases e2'
  rename_i h64
  obtain⟨ts,e3,rfl⟩:=t8.mp e2'
  obtain⟨x,r,rfl,ax,ar⟩:=a1.cons_inv
  cases ar.nil_inv
  obtain⟨p,ys,rfl,hx,bl⟩:=ax.dct_inv
  refine⟨F1,p,z',ks,ys,ts,rfl,g1.fh,hx,h64,e3,λl zs F' hl g az=>?_⟩
  have g2:=g1.trans g
  exact q _ _ _ _ (g2.trans (Gr.hide g2.fh hl _)) (zbV g2 hl) (g2.fh.free hl) zp az
 .cases e2'
end
end Dl
namespace L2
open PySem PySem.Spec PyProof.Rows
section
variable {X:Cx}
def zla:V->List V->Hp->VK->Prop:=λx vs H Q=>∃ l xs y,x=.ref l/\vs=[]/\H l=some (.lst (xs++[y]))/\Q y (upd H l (.lst xs))
theorem zd1 {xs:List V}{y:V}{its:List Value}(r:zU (xs++[y]) its):∃ js u,its=js++[u]/\zU xs js/\yA y u:=by
 have h1:=r.take xs.length
 have h2:=r.drop xs.length
 rw[List.take_left]at h1
 rw[List.drop_left]at h2
 obtain⟨u,e,ru⟩:=h2.one
 refine⟨its.take xs.length,u,?_,h1,ru⟩
 have:=p7 xs.length its
 rw[e]at this
 exact this.symm
theorem ziR:MtM X "list.pop" zla:=by
 intro pins s σ H x vs v us Q I rx rv h
 obtain⟨l,xs,y,rfl,rfl,hH,q⟩:=h
 cases rx
 cases rv
 obtain⟨z,its,n,r,hl,e⟩:=I.lstM hH
 obtain⟨js,u,rfl,r1,ru⟩:=zd1 r
 have hz:xs.length+1<=sizeLine:=by rw[r9]at z;exact z
 have hj:js.length=xs.length:=r1.length.symm
 refine u3a F.slot_list_pop ⟨_,e,rfl⟩ F.entry_list_pop (F.args_list_pop_1 _) (PySem.MeetsSeq.list_pop_last l (js++[u]).toArray n u (by simp) (by rw[j4,r9,hj];exact hz)) ⟨e,?_⟩
 refine⟨y,_,I.lset (its':=js) hH e (by simp[u2h]) r1 (by omega),ru,q⟩
end
end L2
namespace Dl
open PySem L2
section
variable [KK]{X:Cx}{a:Expr}{pos:Pos}
theorem AtL.unsnoc {F:Hp}{ds:List D}{d:D}{xs:List V}(h:AtL F (ds++[d]) xs):∃ ys y,xs=ys++[y]/\AtL F ds ys/\At F d y:=by
 have h1:=h.take ds.length
 have h2:=h.drop ds.length
 rw[List.take_left]at h1
 rw[List.drop_left]at h2
 obtain⟨y,r,e,ay,ar⟩:=h2.cons_inv
 cases ar.nil_inv
 refine⟨xs.take ds.length,y,?_,h1,ay⟩
 have:=p7 ds.length xs
 rw[e]at this
 exact this.symm
def zlz (i j:Nat):SE->Ctl:=fun ρ=>match ρ[i]? with
 | some (.o ds)=>(match ds.getLast? with
  | some d=>.nx ((ρ.set i (.o ds.dropLast)).set j (.v d))
  | none=>.no)
 | _=>.no
theorem zkB {i j:Nat}{x:Str}{p pos' pos2:Pos}(hN:X.N.Nodup)(hi:X.N[j]?=some x)(hx:Loc X.env.scope x)(ho:PE X a (zio i))
 (hp:∀ {ta:TE},PE X a ta->PE X (.Call (.Attribute a "pop" p) [] [] pos2) (tBM0 X.K "list" zla ta)) (hs:swapsWith (.Call (.Attribute a "pop" p) [] [] pos2) (some (.Name x pos')) pos.line X.env=pure false:=by rfl)
 (hf:X.fn x=true\/X.env.scope.names.lookup x=some .local:=by first | exact .inl rfl | exact .inr rfl | assumption):SD X (.Assign [.Name x pos'] (.Call (.Attribute a "pop" p) [] [] pos2) pos) (zlz i j):=by
 refine⟨_,zcL hN hi hx (hp ho) hs hf,λFb Hb F H ρ σ E rl k=>?_⟩
 unfold zlz at k
 cases hs:ρ[i]? with
 | none=>rw[hs]at k;exact k.elim
 | some sl =>
  rw[hs]at k
  cases sl with
  | no=>exact k.elim
  | v _=>exact k.elim
  | m _ _ _=>exact k.elim
  | o ds =>
   dsimp only at k
   cases hd:ds.getLast? with
   | none=>rw[hd]at k;exact k.elim
   | some d =>
    rw[hd]at k
    obtain⟨es,rfl⟩:=List.getLast?_eq_some_iff.mp hd
    rw[List.dropLast_concat]at k
    obtain⟨q,xs,f1,f2,f3,f4,f5⟩:=rl.owns i _ hs
    obtain⟨ys,y,rfl,al,ay⟩:=f5.unsnoc
    refine⟨_,f1,.inl ⟨rfl,_,SqL.of f4⟩,q,ys,y,rfl,rfl,f4,?_⟩
    exact k _ _ _ ((rl.mutate hs f1 al).set ay)
end
theorem zks {i j:Nat}{ρ ρ':SE}{ds:List D}{d:D}(h:ρ[i]?=some (.o (ds++[d])))(h2:(ρ.set i (.o ds)).set j (.v d)=ρ':=by rfl):zlz i j ρ=.nx ρ':=by
 unfold zlz
 rw[h]
 show(match (ds++[d]).getLast? with | some d'=>Ctl.nx ((ρ.set i (.o (ds++[d]).dropLast)).set j (.v d')) | none=>Ctl.no)=_
 rw[List.getLast?_concat,List.dropLast_concat,<- h2]
def b3:D->Option (List (Option D))
 | .tup [x,y,z]=>some [some x,some y,some z]
 | _=>none
end Dl
namespace Dl
open PySem L2
variable [KK]
theorem edv {X:Cx} (i:Nat) {x:Str} {pos:Pos} (hN:X.N[i]?=some x:=by rfl) (hv:Vis X.env.scope x:=by first | exact Or.inl rfl | exact Or.inr (Or.inl rfl) | exact Or.inr (Or.inr rfl)) (hd:(x == ("__debug__":Str))=false:=by decide)
 (hcd:(x == ("__classdict__":Str))=false:=by decide):ED X (.Name x pos) (zc i):=zkH i (pv i hN hv hd hcd)
theorem zj {X:Cx}{x:Str}{j k m:Nat}{f:Addr}{fd:FuncData}{ps:List Str}{st:Stmt}{p:List D->Option D}{e:Expr}{es:List Expr}{pp pos:Pos}{fa:Ev->Option (List D)}(F:xo X.prog X.w X.K X.mg X.base CX0 j f fd ps (spD m p))(hr:vf k X.A)(hg:Gl X x)(d:Def X.K X.mg x st ps f fd)
 (ha:AD X (e::es) fa) (hj:j<=k:=by decide) (hdb:(x == ("__debug__":Str))=false:=by decide) (he:starEach (e::es) X.env=(false,eval e X.env)::starEach es X.env:=by rfl) (hpl:(backTo pos (starEach es X.env)).any (·.1)=false:=by rfl) :
 ED X (.Call (.Name x pp) (e::es) [] pos) (zq m p fa):=zjb (F.mono hj) hr hg d.at_ d.kp d.bd ha hdb he hpl
end Dl
namespace L2
open PySem PySem.Spec PyProof.Rows PySem.W
structure WC (base:Heap) (mg:Str->Option Value) (c P:Addr) (q:Str):Prop where
 hd:CodeHd base c P
 mt:base.objs[P]?=some (Yb q)
 bm:base.BuiltinsAt mg P
def zap (H:Hp)(ca:Addr)(q:Str):Prop:=∃ oc vs t P,H ca=some (.frz oc (.own P))/\oc.data=.fields vs/\vs[1]?=some (.str q t)
theorem zap.at {P:Program}{w:World}{H:Hp}{h:Heap}{ca:Addr}{q:Str}(x:zap H ca q)(ok:HOk P w H h):h.CodeRec (.ref ca) q:=by
 obtain⟨oc,vs,t,P',e,d,g⟩:=x
 exact⟨ca,oc,vs,t,rfl,(ok ca _ e).1,d,g⟩
theorem zap.mono {H H':Hp}{ca:Addr}{q:Str}(x:zap H ca q)(k:∀ b o,H b=some o->H' b=some o):zap H' ca q:=by
 obtain⟨oc,vs,t,P',e,r⟩:=x
 exact⟨oc,vs,t,P',k _ _ e,r⟩
theorem zfC {base:Heap}{P:Addr}{q:Str}(h:base.objs[P]?=some (Yb q)):base.get? P=none:=by
 unfold Heap.get?
 rw[h]
 rfl
theorem zc8 {pos p2:Pos}{c x:Value}(l:List Value)(h:TriplesOk l)(hc:codeAmong pos (l++[rawInt p2.line,rawInt p2.col,x])=some c):codeAmong pos l=some c\/c=x:=by
 fun_induction TriplesOk l with
 | case1 =>
  simp only[u2P,codeAmong,rawInt]at hc
  split at hc
  .cases hc;exact .inr rfl
  .cases hc
 | case2 a t b u y rest ih =>
  simp only[List.cons_append,codeAmong]at hc ⊢
  split at hc
  .rename_i hh;rw[u8 hh];exact .inl hc
  .rename_i hh;rw[u9 hh];exact ih h hc
 | case3 l h1 h2=>exact h.elim
section
variable {X:Cx}{pins:List (Addr × Obj)}{σ:St}{H:Hp}{s:Shared}{c P:Addr}{q:Str}{params:Arguments}{body:Expr}{scope:Scope}{pos:Pos}{clos:List (Str × Addr)}{A:Around}{E:Value->Shared->Prop}
abbrev zac (X:Cx) (q:Str) (params:Arguments) (body:Expr) (scope:Scope) (clos:List (Str × Addr)) (ca:Addr) (ctv:Value):Obj:=kla_obj "<lambda>" q params body scope clos ((X.mg "__name__").getD .none) ca ctv
theorem Inv.pushed {h':Heap}{tk:Nat}{o:Obj}(I:Inv X pins σ H { s with heap:=h',toks:=tk })(hd:∀ v,o.data≠.cell v)(hf:o.data≠.freed)(hfd:(h'.push o).get? h'.objs.size=some o) :
 Inv X (pins++v7 [h'.objs.size] (h'.push o)) σ H { s with heap:=h'.push o,toks:=tk }:=by
 have I2:=I.un (t':=tk) (H':=H) (h':=h'.push o) (Un.kept λ_ _ q=>u5 _ q) (I.hok.kept λ_ _ q=>u5 _ q)
 exact I2.pinned (fp:=[h'.objs.size]) (λb hb=>by rw[t9.mp hb];exact I.fpOk (q5 _) (I.hok.fresh (q5 _))) (λb hb=>by rw[t9.mp hb];exact⟨o,hfd,hd⟩)
theorem zhk {Q:Value->Shared->Prop} (L:WC X.base X.mg c P q) (hcd:X.env.code=.ref c) (hcl:closureFor scope X.env=pure clos) (hdef:defaultsOf params X.env=([],[])) (hq:X.env.qual++"<lambda>"=q) (I:Inv X pins σ H s)
 (h:∀ (f ca:Addr) (ctv:Value) (H':Hp) (s':Shared),(∀ b o,H b=some o->H' b=some o)->Inv X (pins++v7 [f] s'.heap) σ H' s'->s'.heap.get? f=some (zac X q params body scope clos ca ctv)->zap H' ca q->Q (.ref f) s') :
 wpAny (model X.prog X.w) A (eval (.Lambda params body scope pos) X.env) Q E s:=by
 refine kla_eval hdef ?_
 rw[hq]
 have tb:H P=some (.tbl #[.str q 0]):=I.bs.2 P q L.mt
 obtain⟨qs,eP,tr,all⟩:=(show yo X.prog X.w H s.heap P (.tbl #[.str q 0])from I.hok P _ tb)
 have C:=L.hd.keeps I.bk
 have hg:s.heap.Ns mainGlobals X.mg:=I.ok.mod.glob.keeps I.bk
 have hgP:mainGlobals≠P:=λz=>by
  obtain⟨o,es,ep,e,hd,_⟩:=I.ok.mod.glob
  rw[z,zfC L.mt]at e
  cases e
 have hb:=L.bm.keeps I.bk
 cases hcode:codeAmong pos qs.toList with
 | some cv =>
  obtain⟨ca,oc,vs,q',t,t2,rfl,ow,od,ov,ep⟩:=all pos cv hcode
  obtain rfl:q'=q:=by
   have:some (Value.str q 0)=some (.str q' t2):=ep
   cases this
   rfl
  refine kla_makeFunctionHit (mg:=X.mg) hcl I.ok.glob hg hcd C eP tr hcode hb λctv h' tk hk hsz=>?_
  have I1:=I.un (t':=tk) (H':=H) (h':=h') (Un.kept hk) (I.hok.kept hk)
  refine h _ ca ctv H _ (λ_ _ e=>e) (I1.pushed (o:=zac X q' params body scope clos ca ctv) (λv z=>by cases z) (λz=>by cases z) (j8 _ rfl)) (j8 _ rfl) ⟨oc,vs,t,P,ow,od,ov⟩
 | none =>
  refine kla_makeFunction (mg:=X.mg) hcl I.ok.glob hg hcd C eP tr hcode hgP hb λc' ctv h' tk hx hge hlt hrec htb=>?_
  have hc0:H c'=none:=I.hok.fresh hge
  have cP:c'≠P:=λz=>by rw[z,tb]at hc0;cases hc0
  obtain⟨c2,oc,vs,t,e2,hoc,hdc,hv⟩:=id hrec
  cases e2
  have ext:∀ b o,H b=some o->upd H c' (.frz oc (.own P)) b=some o:=λb o e=>by rw[zo (zm e hc0)];exact e
  have hP':∀ b,H b=none->b≠P:=λb e z=>by rw[z,tb]at e;cases e
  have hok:HOk X.prog X.w (upd H c' (.frz oc (.own P))) h':=λa o e=>by
   by_cases ha:a=c'
   .subst ha
    rw[zp]at e
    cases e
    exact⟨hoc,oc,hoc⟩
   .rw[zo ha]at e
    by_cases hp:a=P
    .subst hp
     rw[tb]at e
     cases e
     refine⟨_,htb,?_,λp2 cc hcc=>?_⟩
     .rw[m8];exact TriplesOk_snoc _ _ _ _ tr
     .rw[m8]at hcc
      rcases zc8 _ tr hcc with hcc | rfl
      .obtain⟨ca,o3,v3,q',t3,t4,ec,ow,r⟩:=all p2 cc hcc
       exact⟨ca,o3,v3,q',t3,t4,ec,ext _ _ ow,r⟩
      .exact⟨c',oc,vs,q,t,0,rfl,zp,hdc,hv,rfl⟩
    .refine(I.hok a o e).stay (λb u hb g=>hx b u ?_ g) (λb g=>ext _ _ g) (λb xs g=>ext _ _ g) λb o u g=>ext _ _ g
     rcases hb with rfl | hb
     .exact hp
     .intro z
      rw[z,tb]at hb
      cases hb
  have I1:Inv X pins σ (upd H c' (.frz oc (.own P))) { s with heap:=h',toks:=tk }:=I.un (t':=tk)
   ⟨λb o e n _ _=>hx b o (hP' b n) e,λb o e n _ _=>⟨o.slots,hx b o (hP' b n) e⟩,λb o e n _=>by rw[zo (p5 (o0 (r6 e) hge))];exact n,λb o e _=>(by
    by_cases z:b=P
    .exact⟨_,z ▸ htb⟩
    .exact⟨o,hx b o z e⟩),λb xs e=>ext _ _ e,λb o u e=>ext _ _ e,λb ps e=>ext _ _ e⟩ hok
  refine h _ c' ctv _ _ ext (I1.pushed (o:=zac X q params body scope clos c' ctv) (λv z=>by cases z) (λz=>by cases z) (j8 _ rfl)) (j8 _ rfl) ⟨oc,vs,t,P,zp,hdc,hv⟩
end
structure Y7 (X:Cx) (x:Str) (M:List Str) (scope:Scope) (cl:List (Str × Addr)):Prop where
 clos:closureFor scope X.env=pure cl
 cell:∀ y∈scope.names,y.2≠.cell
 kind:scope.kind=.function
 par:scope.names.lookup x=some .local
 co:scope.isCoroutine=false
 gen:scope.isGenerator=false
 sub:∀ y c,cl.lookup y=some c->X.env.cells.lookup y=some c
 has:∀ y,(scope.names.lookup y=some .cell\/scope.names.lookup y=some .free)->∃ c,cl.lookup y=some c
 mlen:M.length=X.N.length
 msk:∀ (i:Nat) y,M[i]?=some y->Vis scope y->X.N[i]?=some y
 vis:∀ (i:Nat) y,M[i]?=some y->Vis scope y->(scope.names.lookup y=some .cell\/scope.names.lookup y=some .free)
 out:∀ (i:Nat) y,M[i]?=some y->Vis scope y->Vis X.env.scope y/\X.env.kindOf y≠some .local
def zex (X:Cx)(x:Str)(M:List Str)(q:Str)(scope:Scope)(cl:List (Str × Addr))(f ca:Addr)(A:Around)(s:Shared)(H:Hp):Cx :=
 { X with A:=A.deeper (envX q scope s.heap.objs.size f (.ref ca) cl),N:=x::M,s₀:=s,H₀:=H,env:=envX q scope s.heap.objs.size f (.ref ca) cl,outer:=X.stack,stack:=envX q scope s.heap.objs.size f (.ref ca) cl::X.stack,ex:=[],calm:=true,fn:=λ_=>false,pn:=[],xe:=λ_ _=>False }
section
variable {X:Cx}{pins:List (Addr × Obj)}{σ:St}{H:Hp}{s:Shared}{q x:Str}{params:Arguments}{body:Expr}{scope:Scope}{cl:List (Str × Addr)}{M:List Str}{A:Around}{f ca:Addr}{ctv:Value}{v:V}{u:Value}{te:TE}{Q:VK}{k:Nat}
theorem zgr (S:Y7 X x M scope cl)(hr:vf k A)(hfr:A.frames=some X.stack)(I:Inv X pins σ H s)(ho:s.heap.get? f=some (zac X q params body scope cl ca ctv))(rc:zap H ca q)
 (hbind:bindArgs (kla_fn "<lambda>" q params body scope cl ((X.mg "__name__").getD .none) (.ref ca) ctv) ⟨[u],[]⟩=pure [(x,u)]) (he:PE (zex X x M q scope cl f ca A s H) body te) (rv:yA v u) (ht:te (some v::σ) H Q) :
 codeAny (model X.prog X.w) A (.call (.ref f) ⟨[u],[]⟩) (λr s'=>∃ y,r=.ok (.ret y)/\EP X pins σ Q y s') s:=by
 refine kla_callFunE hr.depth ho rfl S.co S.gen rfl (rc.at I.hok) ?_
 rw[hbind]
 refine j3 (wpAny_newFunctionEnv S.cell (λy hy=>by rw[t9.mp hy];exact S.par) (λh₁ hns hsb=>?_) S.kind)
 have k34:∀ b o,s.heap.get? b=some o->h₁.get? b=some o:=λb o e=>hsb.extBut b o (p5 (r6 e)) (u5 _ e)
 refine⟨I.nolimit.keeps k34,?_⟩
 show codeAny _ _ (.expr body (envX q scope s.heap.objs.size f (.ref ca) cl)) _ _
 let Y:Cx:=zex X x M q scope cl f ca A s H
 have noA:∀ b:Addr,b∉Y.ex:=λb z=>absurd (show b∈([]:List Addr)from z) (by simp)
 have OkY:Y.Ok:=⟨I.ok.mod,S.kind,rfl,rfl,q5 _,λy z c h1 h2=>I.ok.inj y z c (S.sub y c h1) (S.sub z c h2),λy hy=>S.has y hy,(λy c h _=>absurd h u4),λ_=>hr.hd,Around.frames_deeper hfr,.inr ⟨rfl,rfl⟩,λb z=>absurd z (noA b),I.bs,u0t I.ok.bsz I.sz,λb _ _=>noA b,λb z=>absurd z (noA b),I.stack,I.stkFree⟩
 have IY:Inv Y [] (some v::σ) H { s with heap:=h₁,toks:=s.toks+[(x,u)].length }:=by
  refine⟨OkY,rfl,I.bare,Un.kept k34,⟨_,hns,λi y w e1 e2 e3=>?_⟩,λy c e=>?_,I.hok.fresh (q5 _),λy c e=>I.freeC y c (S.sub y c e),λp hp=>absurd (show p∈([]:List (Addr × Obj))from hp) (by simp),I.hok.kept k34,?_⟩
  .cases i with
   | zero =>
    have e1:some x=some y:=e1
    have e2:some (some v)=some (some w):=e2
    cases e1
    cases e2
    refine⟨u,rv,.inl ⟨S.par,?_⟩⟩
    show List.lookup x ([(x,u)].reverse)=some u
    simp
   | succ i =>
    have e0':M[i]?=some y:=e1
    have e2':σ[i]?=some (some w):=e2
    have e1':=S.msk _ y e0' e3
    obtain⟨ov,ok⟩:=S.out _ y e0' e3
    obtain⟨m,hn,hl⟩:=I.loc
    obtain⟨u2,ru,lk⟩:=hl _ y w e1' e2' ov
    refine⟨u2,ru,?_⟩
    rcases lk with ⟨hk,_⟩ | ⟨_,c,hc',hcell⟩
    .exact absurd hk ok
    .have kn:=S.vis _ y e0' e3
     obtain⟨c',hc2⟩:=S.has y kn
     have:=S.sub y c' hc2
     rw[hc']at this
     cases this
     refine .inr ⟨kn,c,hc2,?_⟩
     obtain⟨o,ho,hd⟩:=hcell
     exact⟨o,k34 _ _ ho,hd⟩
  .obtain⟨w,o,ho,hd⟩:=I.cell y c (S.sub y c e)
   exact⟨w,o,k34 _ _ ho,hd⟩
  .show σ.length+1=M.length+1
   rw[I.len,S.mlen]
 refine kla_codeExpr (u0Z (he [] _ _ H Q IY ht) (λy s' h=>?_) λe s' z=>z.elim)
 obtain⟨w,H',J,rw',q'⟩:=h
 exact⟨y,rfl,I.after ⟨w,H',J.os,J.bare,J.base,J.hok,rw',q'⟩⟩
end
section
variable {X:Cx}{pins:List (Addr × Obj)}{σ:St}{H:Hp}{s:Shared}
theorem Inv.own2 {b:Addr}{h':Heap}{tk:Nat}(I:Inv X pins σ H s)(f:VZ X pins H b)(k:∀ c o,c≠b->s.heap.get? c=some o->h'.get? c=some o)(hb:∃ o,h'.get? b=some o):Inv X pins σ H { s with heap:=h',toks:=tk }:=by
 obtain⟨f0,f1,f2,f3,f4,f5⟩:=f
 have k':∀ c o,c∉[b]->s.heap.get? c=some o->h'.get? c=some o:=λc o hc e=>k c o (λz=>hc (t9.mpr z)) e
 refine I.call' (s':={ s with heap:=h',toks:=tk }) (ch:=[b]) rfl ⟨λc o e _ _ hx=>k' c o hx e,λc o e _ _ hx=>⟨o.slots,k' c o hx e⟩,λ_ _ _ n _=>n,λc o e hx=>⟨o,k' c o hx e⟩,λ_ _ q=>q,λ_ _ _ q=>q,λ_ _ q=>q⟩ ?_ I.bare λc hc=>?_
 .intro c oc e
  refine(I.hok c oc e).stay (λc' v hc q=>k c' v (λz=>?_) q) (λ_ q=>q) λ_ _ q=>q
  subst z
  rcases hc with z | z
  .rw[<-z,f0]at e;cases e
  .rw[f0]at z;cases z
 .rw[t9.mp hc]
  exact⟨f3,f1,f4,f5⟩
structure zjJ (X:Cx) (pins:List (Addr × Obj)) (σ:St) (H0:Hp) (a kS:Addr) (e1:Nat) (ts:List (List Int)) (keys:Array Value) (H:Hp) (s:Shared):Prop where
 inv:Inv X pins σ H s
 up:∀ b o,H0 b=some o->H b=some o
 ha:s.heap.get? a=some (seqObj "list" #[] e1)
 hk:∃ e,s.heap.get? kS=some (seqObj "list" keys e)
 fa:VZ X pins H a
 fk:VZ X pins H kS
 ks:keys.size<=ts.length/\∀ (j:Nat) (v:Value),keys[j]?=some v->∃ b t,v=.ref b/\ts[j]?=some t/\H b=some (.tup (t.map V.int))
theorem zgi {H0:Hp}{a kS f:Addr}{e1:Nat}{vs:List Value}{ts:List (List Int)}{P:PySem.Fin->Shared->Prop}{E:Value->Shared->Prop}{A:Around}(hak:a≠kS)(hlen:ts.length=vs.length)(hz:vs.length < sizeLine)
 (turn:∀ (i:Nat) (v:Value) (t:List Int),vs[i]?=some v->ts[i]?=some t->∀ (pins1:List (Addr × Obj)) (H1:Hp) (s1:Shared),(∀ b o,H0 b=some o->H1 b=some o)->Inv X (pins++pins1) σ H1 s1 ->
  wpAny (model X.prog X.w) A (call (.ref f) [v]) (λy s2=>∃ b H2,y=.ref b/\(∀ b o,H1 b=some o->H2 b=some o)/\H2 b=some (.tup (t.map V.int))/\Inv X (pins++pins1) σ H2 s2) (λ_ _=>False) s1)
 (S:zjJ X pins σ H0 a kS e1 ts #[] H s)
 (fin:∀ keys H' s',zjJ X pins σ H0 a kS e1 ts keys H' s'->keys.size=vs.length->wpAny (model X.prog X.w) A (ksk_end a false vs.toArray e1 (.ref kS) keys) P E s') :
 wpAny (model X.prog X.w) A (ksk_rest a (.ref f) false vs.toArray e1 (.ref kS)) P E s:=by
 unfold ksk_rest
 refine u3 (u1A ?_)
 first
  | rw[List.forIn_toArray]
  | (rw[<-Array.forIn_toList];simp only[List.toList_toArray])
  | rw[<-Array.forIn_toList]
 refine u3 (ksk_fold (λi s'=>∃ keys H',zjJ X pins σ H0 a kS e1 ts keys H' s'/\keys.size=i) vs 0 s ⟨#[],H,S,rfl⟩ ?step ?done)
 case step =>
  rintro j x s' hx ⟨keys,H1,S1,hj⟩
  rw[u1a]at hj ⊢
  have hjv:j < vs.length:=(t7.mp hx).1
  obtain⟨tj,hjt⟩:∃ t,ts[j]?=some t:=⟨_,u7 (by omega)⟩
  obtain⟨e,hk⟩:=S1.hk
  have nc:∀ {o:Obj} {its:Array Value} {n:Nat},o=seqObj "list" its n->∀ v,o.data≠.cell v:=λh v z=>by rw[h]at z;cases z
  have I1:=S1.inv.pinned (fp:=[a,kS]) (λb hb=>by
   rcases d7.mp hb with rfl | hb
   .exact S1.fa
   .rw[t9.mp hb];exact S1.fk) (λb hb=>by
   rcases d7.mp hb with rfl | hb
   .exact⟨_,S1.ha,nc rfl⟩
   .rw[t9.mp hb];exact⟨_,hk,nc rfl⟩)
  refine u3 (u2n (u0Z (turn j x tj hx hjt _ H1 s' S1.up I1) (λy s2 he=>?_) λ_ _ hF=>hF.elim))
  obtain⟨b,H2,rfl,up2,hb2,I2⟩:=he
  have pa:=I2.pin (a,seqObj "list" #[] e1) (d6 _ (d6 _ (yC (.head _) S1.ha)))
  have pk:=I2.pin (kS,seqObj "list" keys e) (d6 _ (d6 _ (yC (.tail _ (.head _)) hk)))
  have I3:=I2.unpinned
  try dsimp only
  obtain⟨c2,hc2⟩:∃ c2,(s2.heap.update kS (Obj.mapSeq (·.push (.ref b)))).get? kS=some (seqObj "list" (keys.push (.ref b)) c2):=⟨_,u2l pk.1 (·.push (.ref b))⟩
  have s1:=u0v s2.heap kS (Obj.mapSeq (·.push (.ref b)))
  refine u3 (u1M pk.1 rfl ?_ (by rw[hj];omega) (u0t (u2Y (u3t ..)) (by rw[hj];omega)))
  refine j3 ⟨rfl,keys.push (.ref b),H2,⟨?_,λc o z=>up2 _ _ (S1.up _ _ z),(s1.2 a hak).trans pa.1,⟨c2,hc2⟩,⟨pa.2.1,S1.fa.2⟩,⟨pk.2.1,S1.fk.2⟩,?_,λi v hv=>?_⟩,by rw[u3t,hj]⟩
  .exact I3.own2 (b:=kS) (tk:=s2.toks) ⟨pk.2.1,S1.fk.2⟩ (λc o hc z=>(s1.2 c hc).trans z) ⟨_,hc2⟩
  .rw[u3t,hj];omega
  .rw[Array.getElem?_push]at hv
   split at hv
   .rename_i hi
    cases hv
    refine⟨b,tj,rfl,?_,hb2⟩
    rw[hi,hj]
    exact hjt
   .obtain⟨b2,t2,e1',e2',e3'⟩:=S1.ks.2 i v hv
    exact⟨b2,t2,e1',e2',up2 _ _ e3'⟩
 case done =>
  rintro s' ⟨keys,H1,S1,hj⟩
  obtain⟨e,hk⟩:=S1.hk
  refine u3 (u2y hk rfl (fin keys H1 s' S1 (by rw[hj,u1a])))
end
end L2
namespace OwnKey
open PySem PyProof.Rows OwnSort OwnSortT
section
variable {prog:Program}{w:World}{A:Around}{E:Value->Shared->Prop}{s:Shared}
theorem zhA {keys:Array Value}{vs:List Value}{x:Keyed}(h:x∈(keys.zip vs.toArray).toList):x.1∈keys.toList:=by
 rw[ksk_zip]at h
 obtain⟨x1,x2⟩:=x
 exact(u2Q h).1
theorem zeJ {keys:Array Value}{vs:List Value}(hT:∀ v∈keys.toList,∃ t,TT s.heap v t):OwnTim.LtE prog w A E s (ZV s.heap) (tuples' true) (·∈(keys.zip vs.toArray).toList):=by
 intro st x y Q hk hx hy h
 have look:∀ {x:Keyed},x∈(keys.zip vs.toArray).toList->∃ t,TT s.heap x.1 t/\OwnTim.ky (ZV s.heap) x=t:=λ{x} hm=>by
  obtain⟨t,ht⟩:=hT _ (zhA hm)
  refine⟨t,ht,?_⟩
  unfold OwnTim.ky
  show(keyTT s.heap x.1).getD _=t
  rw[keyTT_of ht]
  rfl
 obtain⟨a,ta,ka⟩:=look hx
 obtain⟨b,tb,kb⟩:=look hy
 rw[ka,kb]at h
 rw[lt'_eq]
 refine j7 (u28 ?_)
 rw[hk]
 exact j7 (u3l (u2n (zdN ta tb ⟨rfl,d5 h⟩)))
def zfM (h:Heap)(xs:Array Keyed):Prop:=xs.toList.Pairwise λp q=>HT.lexLt ((keyTT h q.1).getD ([]:List Int)) ((keyTT h p.1).getD ([]:List Int))=false
theorem zg1 {h:Heap}{xs:Array Keyed}{n:Nat}(hn:xs.size=n)(hs:SortedToK (ZV h) xs n):zfM h xs:=by
 unfold zfM
 rw[u0r]
 intro i j hi hj hij
 have hi':i < xs.size:=by simpa using hi
 have hj':j < xs.size:=by simpa using hj
 have:=hs i j (u1u hij) (by rw[<-hn];exact hj')
 unfold KK at this
 rw[u23 xs i hi',u23 xs j hj']at this
 have this:HT.lexLt ((keyTT h xs[j].1).getD ([]:List Int)) ((keyTT h xs[i].1).getD ([]:List Int))=false:=this
 simpa using this
theorem zeP {a kS:Addr} {e e1:Nat} {keys:Array Value} {vs:List Value} {st:SortSt} {P:PySem.Fin->Shared->Prop} (hlen:keys.size=vs.length) (h64:vs.length < 10000000) (hk:s.heap.get? kS=some (seqObj "list" keys e)) (ha:s.heap.get? a=some (seqObj "list" #[] e1)) (hak:a≠kS)
 (pm:(arrOf st).Perm (keys.zip vs.toArray)) (fl:failedOf st=none)
 (h:P (.done (.ret .none)) { s with heap:=(s.heap.update kS (Obj.mapSeq λ_=>#[])).update a (Obj.mapSeq λ_=>(arrOf st).map (·.2)) }):wpAny (model prog w) A (ksk_tail a false e1 (.ref kS) st) P E s:=by
 have s1:=u0v s.heap kS (Obj.mapSeq λ_=>(#[]:Array Value))
 have na1:(s.heap.update kS (Obj.mapSeq λ_=>(#[]:Array Value))).get? a=some (seqObj "list" #[] e1):=(s1.2 a hak).trans ha
 have hsz2:(arrOf st).size=vs.length:=by rw[pm.size_eq,Array.size_zip,hlen,j4,u2b]
 unfold ksk_tail
 try dsimp only
 refine u3 (u1M hk rfl ?_ (by rw[hlen,u1I];omega) (u0g _))
 refine u3 (wpAny_letGo ?_)
 refine u3 (seqEpoch_at na1 rfl ?_)
 refine u3 (u1M na1 rfl ?_ (u0g _) (by rw[u9 u4,u3C,hsz2,u1I];omega))
 rw[fl]
 simp only[bne_self_eq_false,u1B,u2H]
 exact j3 h
theorem zku {a kS:Addr} {e e1:Nat} {keys:Array Value} {vs:List Value} {P:PySem.Fin->Shared->Prop} (hlen:keys.size=vs.length) (h64:vs.length < 10000000) (hT:∀ v∈keys.toList,∃ t,TT s.heap v t) (hk:s.heap.get? kS=some (seqObj "list" keys e)) (ha:s.heap.get? a=some (seqObj "list" #[] e1)) (hak:a≠kS)
 (h:∀ xs:Array Keyed,xs.Perm (keys.zip vs.toArray)->zfM s.heap xs->P (.done (.ret .none)) { s with heap:=(s.heap.update kS (Obj.mapSeq λ_=>#[])).update a (Obj.mapSeq λ_=>xs.map (·.2)) }) :
 wpAny (model prog w) A (ksk_end a false vs.toArray e1 (.ref kS) keys) P E s:=by
 have hzs:(keys.zip vs.toArray).size=vs.length:=by rw[Array.size_zip,hlen,j4,u2b]
 unfold ksk_end
 try dsimp only
 rw[u9 u4]
 by_cases h2:vs.toArray.size < 2
 .rw[u8 h2,u8 h2]
  refine u3 (j3 ?_)
  rw[StateT.run_pure]
  refine u3 (j3 ?_)
  try dsimp only
  refine zeP (st:=SortSt.mk' general' (keys.zip vs.toArray) #[] 7 none) hlen h64 hk ha hak (u2d _) rfl (h _ (u2d _) ?_)
  unfold zfM
  rw[u0r]
  intro i j hi hj hij
  have hj':j < (keys.zip vs.toArray).size:=by rw[j5]at hj;exact hj
  rw[j4]at h2
  rw[hzs]at hj'
  omega
 .rw[u9 h2,u9 h2]
  rw[j4]at h2
  obtain⟨k1,ks,ek⟩:∃ k1 ks,keys.toList=k1::ks:=by
   cases q:keys.toList with
   | nil =>
    have:=u0W List.length q
    rw[j5,u2N]at this
    omega
   | cons k1 ks=>exact⟨k1,ks,rfl⟩
  have ek2:keys=(k1::ks).toArray:=by rw[<-ek,Array.toArray_toList]
  have hT2:=hT
  rw[ek]at hT2
  have kk:wpAny (model prog w) A (keyKind' keys) (λk s'=>k=tuples' true/\s'=s) E s:=by
   rw[ek2]
   exact zaq hT2 ⟨rfl,rfl⟩
  refine u3 (u0Z kk (λk s' hks=>?_) λ_ _ z=>z)
  obtain⟨rfl,rfl⟩:=hks
  refine u3 (u0Z (OwnTim.own_runsE (a₀:=keys.zip vs.toArray) (st:=SortSt.mk' (tuples' true) (keys.zip vs.toArray) #[] 7 none) (Q:=λ_ t=>(arrOf t).Perm (keys.zip vs.toArray)/\failedOf t=none/\SortedToK (ZV _) (arrOf t) (keys.zip vs.toArray).size)
   (zeJ hT) (u2d _) rfl rfl rfl λt p1 p2 p3=>⟨p1,p2,p3⟩) ?_ λ_ _ z=>z)
  rintro⟨⟨⟩,t⟩ s' ⟨rfl,p1,p2,p3⟩
  exact zeP hlen h64 hk ha hak p1 p2 (h _ p1 (zg1 p1.size_eq p3))
end
end OwnKey
namespace L2
open PySem PySem.Spec PyProof.Rows PySem.W OwnKey
theorem zeg {α β:Type}{f:α->β}{l m:List β}(p:l.Perm m):∀ Z:List α,m=Z.map f->∃ Z':List α,Z'.Perm Z/\l=Z'.map f:=by
 induction p with
 | nil=>intro Z e;exact⟨Z,.refl _,e⟩
 | cons x p ih =>
  intro Z e
  cases Z with
  | nil=>cases e
  | cons z Z =>
   rw[d8]at e
   obtain⟨e1,e2⟩:=u2G e
   obtain⟨Z',p',rfl⟩:=ih Z e2
   exact⟨z::Z',p'.cons z,by rw[d8,e1]⟩
 | swap x y l =>
  intro Z e
  cases Z with
  | nil=>cases e
  | cons z Z =>
   cases Z with
   | nil=>cases e
   | cons z2 Z =>
    rw[d8,d8]at e
    obtain⟨e1,e2⟩:=u2G e
    obtain⟨e2,e3⟩:=u2G e2
    exact⟨z2::z::Z,.swap _ _ _,by rw[d8,d8,e1,e2,e3]⟩
 | trans p1 p2 ih1 ih2 =>
  intro Z e
  obtain⟨Z2,q2,e2⟩:=ih2 Z e
  obtain⟨Z3,q3,e3⟩:=ih1 Z2 e2
  exact⟨Z3,q3.trans q2,e3⟩
theorem zfa:∀ {t:List Int} {its:List Value},zU (t.map V.int) its->IntsAre its t
 | [],_,.nil=>.nil
 | n::t,_,.cons h r=>by
  obtain⟨tk,rfl⟩:=h
  exact .cons n tk (zfa r)
section
variable {X:Cx}{pins:List (Addr × Obj)}{σ:St}{H:Hp}{s:Shared}
theorem Inv.trackF {a:Addr}{o:HO}(I:Inv X pins σ H s)(f:VZ X pins H a)(h0:X.s₀.heap.objs.size<=a)(new:yo X.prog X.w (upd H a o) s.heap a o):Inv X pins σ (upd H a o) s:=by
 obtain⟨ha,neL,_,_,neC,hp⟩:=f
 have nz:∀ b u,X.s₀.heap.get? b=some u->b≠a:=λb u e z=>absurd (o0 (r6 e) (z ▸ h0)) (u09 _)
 have ext:∀ b u,H b=some u->upd H a o b=some u:=λb u e=>by rw[zo (zm e ha)];exact e
 refine⟨I.ok,I.os,I.bare,⟨I.base.keep,I.base.slot,λb u e n hx=>?_,I.base.there,λb xs e=>ext _ _ (I.base.tups b xs e),λb u v e=>ext _ _ (I.base.frzs b u v e),λb ps e=>ext _ _ (I.base.tbls b ps e)⟩,I.loc,I.cell,?_,λx c e=>?_,λp hq=>?_,λb u e=>?_,I.len⟩
 .rw[zo (nz b u e)]
  exact I.base.free b u e n hx
 .rw[zo (u1Q neL)]
  exact I.free
 .rw[zo (neC x c e)]
  exact I.freeC x c e
 .obtain⟨e,n,r⟩:=I.pin p hq
  exact⟨e,by rw[zo (hp p hq)];exact n,r⟩
 .by_cases c:b=a
  .subst c
   rw[zp]at e
   cases e
   exact new
  .rw[zo c]at e
   exact(I.hok b u e).stay (λ_ _ _ q=>q) (λc hc=>ext _ _ hc) (λc xs hc=>ext _ _ hc) λc ob v hc=>ext _ _ hc
theorem zmx {P:Program}{w:World}{h:Heap}{b:Addr}{t:List Int}(ok:HOk P w H h)(e:H b=some (.tup (t.map V.int)))(hne:t≠[]):OwnSortT.TT h (.ref b) t:=by
 obtain⟨_,its,r,o,e1,c,n,d⟩:=(show yo P w H h b (.tup (t.map V.int))from ok b _ e)
 exact⟨b,o,n,its,rfl,e1,c,d,zfa r,hne⟩
theorem zfI:∀ {xs:List V} {vs:List Value},xs.length=vs.length->(∀ p∈xs.zip vs,yA p.1 p.2)->zU xs vs
 | [],[],_,_=>.nil
 | x::xs,v::vs,hl,h=>.cons (h (x,v) (.head _)) (zfI (by simpa using hl) λp hp=>h p (.tail _ hp))
theorem zhn {f a:Addr}{n:Nat}{vs:List Value}{xs:List V}{ts:List (List Int)}{P:PySem.Fin->Shared->Prop}{E:Value->Shared->Prop}{A:Around}(rv:zU xs vs)(hlen:ts.length=vs.length)(h64:vs.length < 10000000)(hne:∀ t∈ts,t≠[])
 (I:Inv X pins σ H s) (ho:s.heap.get? a=some (seqObj "list" vs.toArray n)) (fa:VZ X pins H a) (h0:X.s₀.heap.objs.size<=a)
 (turn:∀ (i:Nat) (v:Value) (t:List Int),vs[i]?=some v->ts[i]?=some t->∀ (pins1:List (Addr × Obj)) (H1:Hp) (s1:Shared),(∀ b o,H b=some o->H1 b=some o)->Inv X (pins++pins1) σ H1 s1 ->
  wpAny (model X.prog X.w) A (call (.ref f) [v]) (λy s2=>∃ b H2,y=.ref b/\(∀ b o,H1 b=some o->H2 b=some o)/\H2 b=some (.tup (t.map V.int))/\Inv X (pins++pins1) σ H2 s2) (λ_ _=>False) s1)
 (fin:∀ (zs:List (List Int × V)) (H':Hp) (s':Shared),zs.Perm (ts.zip xs)->zs.Pairwise (λp q=>HT.lexLt q.1 p.1=false)->(∀ b o,H b=some o->H' b=some o)->H' a=none->Inv X pins σ (upd H' a (.lst (zs.map (·.2)))) s'->P (.done (.ret .none)) s') :
 wpAny (model X.prog X.w) A (ksk_tree a (.ref f) false) P E s:=by
 have sl:vs.length < sizeLine:=by rw[u1I];omega
 have ha:a < s.heap.objs.size:=r6 ho
 have s1:=u0v s.heap a (Obj.mapSeq λ_=>(#[]:Array Value))
 obtain⟨e1,ho1⟩:∃ e1,(s.heap.update a (Obj.mapSeq λ_=>(#[]:Array Value))).get? a=some (seqObj "list" #[] e1):=⟨_,u2l ho λ_=>#[]⟩
 have I1:=I.own2 (b:=a) (tk:=s.toks) fa (λc o hc z=>(s1.2 c hc).trans z) ⟨_,ho1⟩
 unfold ksk_tree
 refine u3 (u2y ho rfl ?_)
 refine u3 (u1M ho rfl ?_ (by rw[j4];omega) (u0g _))
 refine u3 (seqEpoch_at ho1 rfl ?_)
 refine u3 (wpAny_newTuple ?_ (by show vs.length<=_;omega))
 refine u3 (u2I ?_ (u0g _))
 refine u0X ?_
 have I2:=I1.un (t':=s.toks) (H':=H) (h':=(s.heap.update a (Obj.mapSeq λ_=>(#[]:Array Value))).push (seqObj "tuple" vs.toArray 0)) (Un.kept λ_ _ q=>u5 _ q) (I1.hok.kept λ_ _ q=>u5 _ q)
 have I3:=I2.un (t':=s.toks) (H':=H) (h':=((s.heap.update a (Obj.mapSeq λ_=>(#[]:Array Value))).push (seqObj "tuple" vs.toArray 0)).push (seqObj "list" #[] 0)) (Un.kept λ_ _ q=>u5 _ q) (I2.hok.kept λ_ _ q=>u5 _ q)
 have hkS:((s.heap.update a (Obj.mapSeq λ_=>(#[]:Array Value))).push (seqObj "tuple" vs.toArray 0)).objs.size=s.heap.objs.size+1:=by rw[size_push',Heap.size_update]
 have hak:a≠((s.heap.update a (Obj.mapSeq λ_=>(#[]:Array Value))).push (seqObj "tuple" vs.toArray 0)).objs.size:=by rw[hkS];exact p5 (u1K ha)
 refine zgi (X:=X) (pins:=pins) (σ:=σ) (H0:=H) (H:=H) (ts:=ts) hak hlen sl turn ⟨I3,λ_ _ z=>z,u5 _ (u5 _ ho1),⟨0,j8 _ rfl⟩,fa,I2.fpOk (q5 _) (I2.hok.fresh (q5 _)),⟨u0g _,λj v hv=>by simp at hv⟩⟩ λkeys H' s' S hks=>?_
 obtain⟨e,hk⟩:=S.hk
 have keyAt:∀ (j:Nat) (v:Value),keys[j]?=some v->∃ t,ts[j]?=some t/\OwnSortT.TT s'.heap v t:=λj v hv=>by
  obtain⟨b,t,rfl,h1,h2⟩:=S.ks.2 j v hv
  exact⟨t,h1,zmx S.inv.hok h2 (hne t (j6 h1))⟩
 refine zku hks h64 (λv hv=>?_) hk S.ha hak λys pm rise=>?_
 .obtain⟨j,hj,rfl⟩:=p8 hv
  obtain⟨t,_,h2⟩:=keyAt j keys.toList[j] (by rw[<-i9,u7 hj])
  exact⟨t,h2⟩
 .have kl:keys.toList.length=vs.length:=by rw[j5];exact hks
  have xl:xs.length=vs.length:=rv.length
  obtain⟨Z,hZ⟩:∃ Z:List (Keyed × (List Int × V)),(keys.toList.zip vs).zip (ts.zip xs)=Z:=⟨_,rfl⟩
  have z1:Z.map (·.1)=keys.toList.zip vs:=by rw[<-hZ];exact List.map_fst_zip (by rw[u0J,u0J];omega)
  have z2:Z.map (·.2)=ts.zip xs:=by rw[<-hZ];exact List.map_snd_zip (by rw[u0J,u0J];omega)
  have zf:∀ z∈Z,OwnSortT.TT s'.heap z.1.1 z.2.1/\yA z.2.2 z.1.2:=λz hz=>by
   rw[<-hZ]at hz
   obtain⟨i,hi,rfl⟩:=p8 hz
   rw[u0J,u0J,u0J]at hi
   have i1:i < keys.toList.length:=by omega
   have i2:i < vs.length:=by omega
   have i3:i < ts.length:=by omega
   have i4:i < xs.length:=by omega
   rw[u2B,u2B,u2B]
   obtain⟨t,h1,h2⟩:=keyAt i keys.toList[i] (by rw[<-i9,u7 i1])
   rw[u7 i3]at h1
   cases h1
   refine⟨h2,?_⟩
   obtain⟨u,hu,r⟩:=rv.get (u7 i4)
   rw[u7 i2]at hu
   cases hu
   exact r
  have pl:ys.toList.Perm (keys.toList.zip vs):=by rw[<-ksk_zip];exact u0H.mp pm
  obtain⟨Z',p',ey⟩:=zeg pl Z z1.symm
  have zf':∀ z∈Z',OwnSortT.TT s'.heap z.1.1 z.2.1/\yA z.2.2 z.1.2:=λz hz=>zf z (p'.mem_iff.mp hz)
  have sorted:(Z'.map (·.2)).Pairwise (λp q=>HT.lexLt q.1 p.1=false):=by
   unfold zfM at rise
   rw[ey,u0S]at rise
   rw[u0S]
   refine rise.imp_of_mem λ{p q} hp hq hr=>?_
   rw[OwnSortT.keyTT_of (zf' p hp).1,OwnSortT.keyTT_of (zf' q hq).1]at hr
   exact hr
  have eo:(ys.map (·.2)).toList=Z'.map (λz=>z.1.2):=by rw[Array.toList_map,ey,u0z];rfl
  have vo:zU ((Z'.map (·.2)).map (·.2)) (ys.map (·.2)).toList:=by
   rw[eo,u0z]
   refine zfI (by rw[u6,u6]) λp hp=>?_
   rw[List.zip_map']at hp
   obtain⟨z,hz,rfl⟩:=u0c.mp hp
   exact(zf' z hz).2
  have zl:Z'.length=vs.length:=by rw[p'.length_eq,<- hZ,u0J,u0J,u0J];omega
  have t1:=u0v s'.heap ((s.heap.update a (Obj.mapSeq λ_=>(#[]:Array Value))).push (seqObj "tuple" vs.toArray 0)).objs.size (Obj.mapSeq λ_=>(#[]:Array Value))
  obtain⟨c1,g1⟩:∃ c1,(s'.heap.update ((s.heap.update a (Obj.mapSeq λ_=>(#[]:Array Value))).push (seqObj "tuple" vs.toArray 0)).objs.size (Obj.mapSeq λ_=>(#[]:Array Value))).get? ((s.heap.update a (Obj.mapSeq λ_=>(#[]:Array Value))).push (seqObj "tuple" vs.toArray 0)).objs.size=some (seqObj "list" #[] c1):=⟨_,u2l hk λ_=>#[]⟩
  have J1:=S.inv.own2 (tk:=s'.toks) S.fk (λc o hc z=>(t1.2 c hc).trans z) ⟨_,g1⟩
  have na1:=(t1.2 a hak).trans S.ha
  have t2:=u0v (s'.heap.update ((s.heap.update a (Obj.mapSeq λ_=>(#[]:Array Value))).push (seqObj "tuple" vs.toArray 0)).objs.size (Obj.mapSeq λ_=>(#[]:Array Value))) a (Obj.mapSeq λ_=>ys.map (·.2))
  obtain⟨c2,g2⟩:∃ c2,((s'.heap.update ((s.heap.update a (Obj.mapSeq λ_=>(#[]:Array Value))).push (seqObj "tuple" vs.toArray 0)).objs.size (Obj.mapSeq λ_=>(#[]:Array Value))).update a (Obj.mapSeq λ_=>ys.map (·.2))).get? a=some (seqObj "list" (ys.map (·.2)) c2):=⟨_,u2l na1 λ_=>ys.map (·.2)⟩
  have J2:=J1.own2 (b:=a) (tk:=s'.toks) S.fa (λc o hc z=>(t2.2 c hc).trans z) ⟨_,g2⟩
  refine fin (Z'.map (·.2)) H' _ (by rw[<-z2];exact p'.map _) sorted S.up S.fa.1 (J2.trackF S.fa h0 ⟨by rw[u6,u6,zl];omega,(ys.map (·.2)).toList,c2,vo,?_⟩)
  rw[g2]
end
section
variable {X:Cx}{e body:Expr}{params:Arguments}{scope:Scope}{p pos kp lp:Pos}{t:TA}{te:TE}{q x:Str}{M:List Str}{cl:List (Str × Addr)}{c P:Addr}{k:Nat}
theorem zdf {pins:List (Addr × Obj)}{σ:St}{H1 H2:Hp}{s2:Shared}{h2:Heap}{u:Value}{f ca:Addr}{ctv:Value}{xs:List V}{ts:List (List Int)}{Q:VK}(hr:vf (k+4) X.A)(S:Y7 X x M scope cl)
 (hbind:∀ (pm cdv ctv u:Value),bindArgs (kla_fn "<lambda>" q params body scope cl pm cdv ctv) ⟨[u],[]⟩=pure [(x,u)])
 (hb:∀ f ca A s H,PE (zex X x M q scope cl f ca A s H) body te) (up2:∀ b o,H1 b=some o->H2 b=some o) (I2:Inv X (pins++v7 [f] h2) σ H2 s2) (hf:h2.get? f=some (zac X q params body scope cl ca ctv)) (cx:zap H2 ca q)
 (hcol:∀ (Q':List Value->Shared->Prop) (E':Value->Shared->Prop),(∀ its s3,zU xs its->Inv X (pins++v7 [f] h2) σ H2 s3->Q' its s3)->wpAny (model X.prog X.w) X.A.in1 (collect u) Q' E' s2)
 (hlen:ts.length=xs.length) (h64:xs.length < 10000000) (hne:∀ t∈ts,t≠[])
 (turn:∀ (i:Nat) (y:V) (t:List Int),xs[i]?=some y->ts[i]?=some t->∀ H2:Hp,(∀ b o,H1 b=some o->H2 b=some o)->te (some y::σ) H2 λz H3=>∃ b,z=.ref b/\(∀ b o,H2 b=some o->H3 b=some o)/\H3 b=some (.tup (t.map V.int)))
 (fin:∀ (zs:List (List Int × V)) (D:Addr) (H':Hp),zs.Perm (ts.zip xs)->zs.Pairwise (λp q=>HT.lexLt q.1 p.1=false)->(∀ b o,H1 b=some o->H' b=some o)->H' D=none->H1 D=none->Q (.ref D) (upd H' D (.lst (zs.map (·.2))))) :
 wpAny (model X.prog X.w) X.A (call (.builtin "sorted") [u] [(Str.ofString "key",.ref f)]) (EP X pins σ Q) X.xe s2:=by
 have hfr:X.A.in1.in1.frames=some X.stack:=I2.ok.frames
 have hr2:vf k X.A.in1.in1:=(hr.mono (by omega:k+2<=k+4)).in1.in1
 refine call_function_entry_kw kind_sorted plain_sorted entry_sorted (ksk_s1 _ _) ?_
 unfold Builtin.«sorted»
 refine u3 (m:=checkCount "sorted" 1 1 _) (j3 ?_)
 refine u3 (hcol _ _ λits s3 rv I3=>?_)
 have hvl:=rv.length
 have hn2:H2 s3.heap.objs.size=none:=I3.hok.fresh (q5 _)
 refine u3 (u2I ?_ (by rw[u1I];omega))
 have hoL:(s3.heap.push (seqObj "list" its.toArray 0)).get? s3.heap.objs.size=some (seqObj "list" its.toArray 0):=j8 _ rfl
 have I4:=I3.un (t':=s3.toks) (H':=H2) (h':=s3.heap.push (seqObj "list" its.toArray 0)) (Un.kept λ_ _ e=>u5 _ e) (I3.hok.kept λ_ _ e=>u5 _ e)
 show wpAny _ _ _ _ _ { s3 with heap:=s3.heap.push (seqObj "list" its.toArray 0) }
 refine u3 (u0X (wpAny_call_entry_kw slot_list_sort ⟨_,hoL,rfl⟩ entry_list_sort ?body (ksk_l1 _ _)))
 case body =>
  show wpAny (model X.prog X.w) X.A.in1.in1 (Builtin.«list.sort» ⟨[.ref s3.heap.objs.size],[(Str.ofString "key",.ref f)]⟩) _ _ _
  rw[ksk_t1]
  refine zhn (X:=X) (pins:=pins++v7 [f] h2) (σ:=σ) (H:=H2) (ts:=ts) rv (by omega) (by omega) hne I4 hoL (I3.fpOk (q5 _) hn2) I3.sz (λi v t hv ht pins1 H3 s4 up3 I5=>?_) λzs H' s' pz sz up ha I5=>⟨_,rfl,j3 ⟨_,rfl,?_⟩⟩
  .have hi:i < xs.length:=by rw[hvl];exact(t7.mp hv).1
   obtain⟨y,hy⟩:∃ y,xs[i]?=some y:=⟨_,u7 hi⟩
   obtain⟨u,hu,ry⟩:=rv.get hy
   rw[hv]at hu
   cases hu
   have hf3:=(I5.pin (f,_) (d6 _ (u1O _ (d6 _ (yC (t9.mpr rfl) hf))))).1
   refine wpAny_call (u22 (zgr S hr2 hfr I5 hf3 (cx.mono up3) (hbind _ _ _ _) (hb f ca _ s4 H3) ry (turn i y t hy ht H3 λb o z=>up3 _ _ (up2 _ _ z))) λr s' hrs=>?_)
   obtain⟨w,rfl,v,H5,I6,rw',b,rfl,up5,hb5⟩:=hrs
   exact⟨b,H5,rw',up5,hb5,I6⟩
  .refine⟨.ref s3.heap.objs.size,_,I5.unpinned,rfl,fin zs _ H' pz sz (λb o z=>up _ _ (up2 _ _ z)) ha ?_⟩
   cases z:H1 s3.heap.objs.size with
   | none=>rfl
   | some o=>rw[up2 _ _ z]at hn2;cases hn2
end
end L2
namespace OwnKey
open PySem
section
variable {prog:Program}{w:World}{A:Around}{E:Value->Shared->Prop}{s:Shared}
theorem VI {r:Addr}{a b c:Int}{t u v:Tok}{n:Nat}{Q:List Value->Shared->Prop}(hh:A.handled=none)(hr:IsRange s.heap r a b c t u v)(hsmall:Builtin.Range.small a b c=true)(hn:Builtin.Range.rangeSize a b c=n)(hlen:n<=2 ^ 24)
 (h:∀ (h':Heap) (tk:Nat) (acc:Array Value),(∀ b o,s.heap.get? b=some o->h'.get? b=some o)->ItemsOf (λi v=>∃ t,v=.int (a+i*c) t) acc n->Q acc.toList { s with heap:=h',toks:=tk }):wpAny (model prog w) A (collect (.ref r)) Q E s:=by
 unfold collect
 refine u3 (wpAny_runValue (u2R F.entry_proto_collect ?_))
 rw[u1N F.plain_proto_collect _]
 show wpAny _ A.in1 (newList []>>=λl=>again (.builtin "list.__iadd__" ⟨[l,.ref r],[]⟩)) _ _ s
 refine u3 (u0l ?_)
 refine j3 ⟨plainId_quiet u2s _,u2R F.entry_list_iadd ?_⟩
 rw[u1N u2s _]
 show wpAny _ A.in1 (Builtin.List.listExtendWith (.ref s.heap.objs.size) (.ref r) (.ref s.heap.objs.size)) _ _ _
 have last:∀ (r':Result) (s':Shared),(∃ h' tk acc c',r'=.ok (.ret (.ref s.heap.objs.size))/\s'={ s with heap:=h',toks:=tk }/\(∀ b o,s.heap.get? b=some o->h'.get? b=some o)/\h'.get? s.heap.objs.size=some { cls:=.type "list",dict:=none,data:=.seq acc c',slots:=#[] }/\ItemsOf (λi v=>∃ t,v=.int (a+i*c) t) acc n) ->
  wants (λv s'=>wpAny (model prog w) A (match v with
   | .ref a=>do
    let o<-load a
    match o.data with
    | .seq xs _=>pure xs.toList
    | _=>unsupported "internal:collect"
   | _=>unsupported "internal:collect") Q E s') E r' s':=by
  rintro _ _ ⟨h',tk,acc,c',rfl,rfl,k,hS,hacc⟩
  show wpAny _ A (load s.heap.objs.size>>=_) _ _ _
  refine u3 (wpAny_load hS ?_)
  exact j3 (h h' tk acc k hacc)
 refine u0Z (wpAny_extend_range (A:=A) (R:=λr' s'=>∃ h' tk acc c',r'=.ok (.ret (.ref s.heap.objs.size))/\s'={ s with heap:=h',toks:=tk }/\(∀ b o,s.heap.get? b=some o->h'.get? b=some o)/\h'.get? s.heap.objs.size=some { cls:=.type "list",dict:=none,data:=.seq acc c',slots:=#[] }/\ItemsOf (λi v=>∃ t,v=.int (a+i*c) t) acc n)
  (s:={ s with heap:=s.heap.push { cls:=.type "list",data:=.seq ([]:List Value).toArray } }) hh (u5 _ hr) hsmall hn hlen s.heap.objs.size _ 0 (j8 _ rfl) λh' tk acc c' k hS hacc=>⟨h',tk,acc,c',rfl,rfl,λb o e=>k b o (p5 (r6 e)) (u5 _ e),hS,hacc⟩) (λfin s' hq=>?_) λe s' hq=>?_
 .cases fin with
  | done f=>exact last _ _ hq
  | again c'=>exact⟨hq.1,u22 hq.2 λr' s'' hq'=>last _ _ hq'⟩
 .exact last _ _ hq
end
end OwnKey
namespace L2
open PySem PySem.Spec PyProof.Rows PySem.W OwnKey
section
variable {X:Cx}{a body:Expr}{params:Arguments}{scope:Scope}{p p2 pos pos2 kp lp:Pos}{ta te:TE}{q x:Str}{M:List Str}{cl:List (Str × Addr)}{c P:Addr}{k:Nat}
def zj4 (ta te:TE):TE:=fun σ H Q=>ta σ H λy H1=>∃ (j:Nat) (ts:List (List Int)),y=.int (j:Int)/\j<=1000/\ts.length=j/\(∀ t∈ts,t≠[]) /\
 (∀ (i:Nat) (z:V) (t:List Int),((List.range j).map λk:Nat=>V.int (k:Int))[i]?=some z->ts[i]?=some t->∀ H2:Hp,(∀ b o,H1 b=some o->H2 b=some o)->te (some z::σ) H2 λz H3=>∃ b,z=.ref b/\(∀ b o,H2 b=some o->H3 b=some o)/\H3 b=some (.tup (t.map V.int))) /\
 ∀ (zs:List (List Int × V)) (D:Addr) (H':Hp),zs.Perm (ts.zip ((List.range j).map λk:Nat=>V.int (k:Int)))->zs.Pairwise (λp q=>HT.lexLt q.1 p.1=false)->(∀ b o,H1 b=some o->H' b=some o)->H' D=none->H1 D=none->Q (.ref D) (upd H' D (.lst (zs.map (·.2))))
theorem zhs (hr:vf (k+4) X.A) (hg:Gl X "sorted") (hm:X.mg "sorted"=none) (hv:bootBuiltins "sorted"=some (.builtin "sorted")) (hg2:Gl X "range") (hm2:X.mg "range"=none) (ha:PE X a ta)
 (L:WC X.base X.mg c P q) (hcd:X.env.code=.ref c) (S:Y7 X x M scope cl) (hdef:defaultsOf params X.env=([],[])) (hq:X.env.qual++"<lambda>"=q)
 (hbind:∀ (pm cdv ctv u:Value),bindArgs (kla_fn "<lambda>" q params body scope cl pm cdv ctv) ⟨[u],[]⟩=pure [(x,u)])
 (hb:∀ f ca A s H,PE (zex X x M q scope cl f ca A s H) body te) (hs:starEach [a] X.env=[(false,eval a X.env)]:=by rfl)
 (he:backTo pos (starEach [.Call (.Name "range" p2) [a] [] pos2] X.env)=(false,eval (.Call (.Name "range" p2) [a] [] pos2) X.env)::backTo pos (starEach [] X.env):=by rfl) (hpl:(backTo pos (starEach [.Call (.Name "range" p2) [a] [] pos2] X.env)).any (·.1)=false:=by rfl) :
 PE X (.Call (.Name "sorted" p) [.Call (.Name "range" p2) [a] [] pos2] [⟨some "key",.Lambda params body scope lp,kp⟩] pos) (zj4 ta te):=by
 intro pins s σ H Q I h
 refine u2m (Zm I hg hm hv ?_ (by decide) (by decide))
 refine PyProof.Rows.callWith_kw ?_ he hpl
 rw[he]
 show wpAny _ _ (spliced ((false,eval (.Call (.Name "range" p2) [a] [] pos2) X.env)::[])) _ _ _
 refine u2f ?_
 refine Call_ (Zm I hg2 hm2 boot_range (u0A ?_ hs rfl))
 rw[hs]
 show wpAny _ _ (spliced ((false,eval a X.env)::[])) _ _ _
 refine u2f (thn (ha pins s σ H _ I h) λv s1 hh9=>?_)
 obtain⟨y,H1,I1,r1,q1⟩:=hh9
 obtain⟨j,ts,rfl,hj,hlen,hne,turn,fin⟩:=q1
 obtain⟨t,rfl⟩:=r1
 refine u2r ?_
 refine call_range_1 ?_
 refine u2r ?_
 have I2:Inv X pins σ H1 { s1 with heap:=s1.heap.push { cls:=.type "range",data:=.fields #[.int 0 s1.toks,.int (j:Int) t,.int 1 (s1.toks+1)] },toks:=s1.toks+1+1 }:=I1.kept λb o e=>u5 _ e
 obtain⟨r,hrr⟩:∃ r,s1.heap.objs.size=r:=⟨_,rfl⟩
 have hrg:(s1.heap.push { cls:=.type "range",data:=.fields #[.int 0 s1.toks,.int (j:Int) t,.int 1 (s1.toks+1)] }).get? r=some { cls:=.type "range",data:=.fields #[.int 0 s1.toks,.int (j:Int) t,.int 1 (s1.toks+1)] }:=by rw[<-hrr];exact j8 _ rfl
 have I2p:=I2.pinned (fp:=[r]) (λb hb=>by rw[t9.mp hb];exact I1.fpOk (u2Y hrr) (I1.hok.fresh (u2Y hrr))) (λb hb=>by rw[t9.mp hb];exact⟨_,hrg,λv z=>by cases z⟩)
 rw[hrr]
 refine PyProof.Rows.kws_cons ?_
 refine zhk (body:=body) (scope:=scope) (clos:=cl) L hcd S.clos hdef hq I2p λf ca ctv H2 s2 up2 I3 hf cx=>PyProof.Rows.kws_nil ?_
 have hr2:=(I3.pin (r,_) (d6 _ (u1O _ (d6 _ (yC (t9.mpr rfl) hrg))))).1
 refine u0Z (zdf (H1:=H1) (xs:=(List.range j).map λk:Nat=>V.int (k:Int)) (Q:=Q) hr S hbind hb up2 I3 hf cx (λQ' E' hQ=>?_) (by rw[u6,u0R];exact hlen) (by rw[u6,u0R];omega) hne turn fin) (λv s' ⟨w,H',J,rw',q'⟩=>⟨w,H',J.unpinned,rw',q'⟩) λ_ _ z=>z
 refine VI (n:=j) (by simp[hr.hd]) hr2 (small_one (by decide) (by decide) (by omega) (by omega)) (by rw[rangeSize_one];split <;> omega) (by omega) λh' tk acc kk hacc=>?_
 exact hQ acc.toList _ (zc2 hacc) (I3.un (t':=tk) (H':=H2) (Un.kept kk) (I3.hok.kept kk))
end
end L2
namespace Dl
open PySem L2
variable [KK]
theorem AtL.map2 {F:Hp}{α:Type}{f:α->D}{g:α->V}:∀ (l:List α),(∀ z∈l,At F (f z) (g z))->AtL F (l.map f) (l.map g)
 | [],_=>.nil
 | z::l,h=>.cons (h z (.head _)) (AtL.map2 l λy hy=>h y (.tail _ hy))
def WT (ts:List (List Int))(ds:List D):List D:=(yZ ts).map λt=>ds.getD (ts.idxOf t) .non
theorem zgV {F:Hp}{ds:List D}{xs:List V}{ts:List (List Int)}{zs:List (List Int × V)}(al:AtL F ds xs)(hlen:ts.length=xs.length)(nd:ts.Nodup)(p:zs.Perm (ts.zip xs))(s:zs.Pairwise λp q=>HT.lexLt q.1 p.1=false) :
 AtL F (WT ts ds) (zs.map (·.2)):=by
 have e:zs.map (·.1)=yZ ts:=XR (by
  have:=p.map (·.1)
  rwa[show(ts.zip xs).map (·.1)=ts from List.map_fst_zip (u2Y hlen)]at this) (u0S.mpr s)
 unfold WT
 rw[<-e,u0z]
 refine AtL.map2 zs λz hz=>?_
 obtain⟨i,hi,rfl⟩:=p8 (p.mem_iff.mp hz)
 rw[u0J]at hi
 have i1:i < ts.length:=by omega
 have i2:i < xs.length:=by omega
 rw[u2B]
 show At F (ds.getD (ts.idxOf ts[i]) .non) xs[i]
 have ei:ts.idxOf ts[i]=i:=nd.idxOf_getElem i i1
 rw[ei]
 have hd:ds.length=xs.length:=al.length.symm
 have h1:ds[i]?=some ds[i]:=u7 (by omega)
 obtain⟨x,hx,ax⟩:=al.get h1
 rw[u7 i2]at hx
 cases hx
 rw[n8,h1]
 exact ax
end Dl
namespace Dl
open PySem L2
variable [KK]
def zhG (g:Ev->Option D)(ρ:Ev):List D->Option (List (List Int))
 | []=>some []
 | d::ds=>(g (some d::ρ)).bind λkd=>match kd with
  | .tup es=>(zcs es).bind λt=>if t=[]then none else (zhG g ρ ds).map (t::·)
  | _=>none
theorem zan {g:Ev->Option D}{ρ:Ev}:∀ {ds:List D} {ts:List (List Int)},zhG g ρ ds=some ts->ts.length=ds.length/\(∀ t∈ts,t≠[])/\∀ (i:Nat) (d:D) (t:List Int),ds[i]?=some d->ts[i]?=some t->∃ es,g (some d::ρ)=some (.tup es)/\zcs es=some t
 | [],ts,h=>by
  cases h
  exact⟨rfl,λt ht=>by(cases ht),λi d t h=>by(simp at h)⟩
 | d::ds,ts,h=>by
  obtain⟨kd,e1,h⟩:=u0.mp h
  cases kd with
  | tup es =>
   obtain⟨t,e2,h⟩:=u0.mp h
   split at h
   .cases h
   .rename_i hne
    obtain⟨ts0,e3,rfl⟩:=t8.mp h
    obtain⟨l1,l2,l3⟩:=zan e3
    refine⟨by rw[e8,e8,l1],λu hu=>?_,λi d' t' hd ht=>?_⟩
    .rcases d7.mp hu with rfl | hu
     .exact hne
     .exact l2 u hu
    .cases i with
     | zero=>cases hd;cases ht;exact⟨es,e1,e2⟩
     | succ i=>exact l3 i d' t' hd ht
  | _=>cases h
theorem Gr.upH {F H F' H':Hp}(g:Gr F H F' H')(s:yI F H):∀ b o,H b=some o->H' b=some o:=λb o e=>by
 cases h:F b with
 | none=>exact(g.kp b o h e).2
 | some u =>
  have:=s b u h
  rw[e]at this
  cases this
  exact g.fh _ _ (g.ff _ _ h)
def zct (f g:Ev->Option D):Ev->Option (List D):=fun ρ=>(f ρ).bind λd=>(lrD d).bind λds=>(zhG g ρ ds).bind λts=>if ts.Nodup then some (WT ts ds)else none
end Dl
namespace Dl
open PySem L2 PySem.Spec PyProof.Rows PySem.W
variable [KK]
theorem ZW {F:Hp}:∀ {t:List Int} {ys:List V},AtL F (t.map D.int) ys->ys=t.map V.int
 | [],_,h=>by rw[h.nil_inv];rfl
 | n::t,_,h=>by
  obtain⟨x,r,rfl,a,l⟩:=h.cons_inv
  rw[a.int_inv,ZW l]
  rfl
section
variable {X:Cx}{a body:Expr}{params:Arguments}{scope:Scope}{p p2 pos pos2 kp lp:Pos}{q x:Str}{M:List Str}{cl:List (Str × Addr)}{c P:Addr}{k:Nat}{f g:Ev->Option D}
theorem zgw (hr:vf (k+4) X.A) (hg:Gl X "sorted") (hm:X.mg "sorted"=none) (hg2:Gl X "range") (hm2:X.mg "range"=none) (ha:ED X a f)
 (L:WC X.base X.mg c P q) (hcd:X.env.code=.ref c) (S:Y7 X x M scope cl) (hdef:defaultsOf params X.env=([],[])) (hq:X.env.qual++"<lambda>"=q)
 (hbind:∀ (pm cdv ctv u:Value),bindArgs (kla_fn "<lambda>" q params body scope cl pm cdv ctv) ⟨[u],[]⟩=pure [(x,u)])
 (hb:∀ f ca A s H,ED (zex X x M q scope cl f ca A s H) body g) (hs:starEach [a] X.env=[(false,eval a X.env)]:=by rfl)
 (he:backTo pos (starEach [.Call (.Name "range" p2) [a] [] pos2] X.env)=(false,eval (.Call (.Name "range" p2) [a] [] pos2) X.env)::backTo pos (starEach [] X.env):=by rfl) (hpl:(backTo pos (starEach [.Call (.Name "range" p2) [a] [] pos2] X.env)).any (·.1)=false:=by rfl) :
 FL X (.Call (.Name "sorted" p) [.Call (.Name "range" p2) [a] [] pos2] [⟨some "key",.Lambda params body scope lp,kp⟩] pos) (zct f g):=by
 obtain⟨ta,pa,ra⟩:=ha
 refine⟨_,zhs hr hg hm XM hg2 hm2 pa L hcd S hdef hq hbind (λ_ _ _ _ _=>(hb _ _ _ _ _).can) hs he hpl,fun σ ρ F H z Q s va e qq=>?_⟩
 obtain⟨d,e1,e⟩:=u0.mp e
 obtain⟨ds,e2,e⟩:=u0.mp e
 obtain⟨ts,e3,e⟩:=u0.mp e
 split at e
 .rename_i nd
  cases e
  refine ra σ ρ F H d _ s va e1 λF1 H1 v g1 a1=>?_
  cases d with
  | int j =>
   have e2:(if 0<=j/\j<=1000 then some ((List.range j.toNat).map λk:Nat=>D.int (k:Int))else none)=some ds:=e2
   split at e2
   .rename_i hj
    cases e2
    have ev:=a1.int_inv
    subst ev
    obtain⟨l1,l2,l3⟩:=zan e3
    rw[u6,u0R]at l1
    have va1:=va.mono g1.ff
    have al:∀ F':Hp,AtL F' ((List.range j.toNat).map λk:Nat=>D.int (k:Int)) ((List.range j.toNat).map λk:Nat=>V.int (k:Int)):=λF'=>AtL.map2 _ λz _=>.int
    refine⟨j.toNat,ts,by rw[u1v hj.1],by omega,l1,l2,λi y t hy ht H2 up=>?_,λzs D H' pz sz up hD h1D=>?_⟩
    .rw[j9]at hy
     obtain⟨i',hi',rfl⟩:=t8.mp hy
     obtain⟨es,eg,et⟩:=l3 i (.int (i':Int)) t (by rw[j9,hi'];rfl) ht
     have s2:yI F1 H2:=λb o z=>up _ _ (g1.fh _ _ z)
     refine zcK _ (some (.int (i':Int))::ρ) F1 H2 _ _ s2 (λn d' hd=>?_) eg λF' H3 v g3 a3=>?_
     .cases n with
      | zero=>cases hd;exact⟨_,rfl,.int⟩
      | succ n=>exact va1 n d' hd
     .obtain⟨b,ys,rfl,hb',al'⟩:=a3.tup_inv
      rw[X8 et]at al'
      rw[ZW al']at hb'
      exact⟨b,rfl,g3.upH s2,g3.fh _ _ hb'⟩
    .have fD:F1 D=none:=by
      cases z:F1 D with
      | none=>rfl
      | some o=>rw[g1.fh _ _ z]at h1D;cases h1D
     have g2:Gr F1 H1 F1 (upd H' D (.lst (zs.map (·.2)))):=⟨yI.refl _,λb o z=>by rw[zo (zm z fD)];exact up _ _ (g1.fh _ _ z),λb o z1 z2=>⟨.inl z1,by rw[zo (zm z2 h1D)];exact up _ _ z2⟩⟩
     exact qq F1 _ D _ (g1.trans g2) (zbV g1 h1D) fD zp (zgV (al F1) (by rw[l1,u6,u0R]) nd pz sz)
   .cases e2
  | _=>cases e2
 .cases e
end
end Dl
namespace L2
open PySem PySem.Spec PyProof.Rows
theorem zlQ {X:Cx}{x:Str}{N M cn:List Str}{scope:Scope}{cl:List (Str × Addr)}{rn dn:List (Str × NameKind)}(hr:scope.names=rn)(hd:X.env.scope.names=dn)(hN:X.N=N)
 (clos:closureFor scope X.env=pure cl) (kind:scope.kind=.function) (par:scope.names.lookup x=some .local) (co:scope.isCoroutine=false) (gen:scope.isGenerator=false) (hc:cl.map Prod.fst=cn) (good:Yj scope.names rn dn N M cn=true) (sub:∀ p∈cl,X.env.cells.lookup p.1=some p.2):Y7 X x M scope cl:=by
 unfold Yj at good
 simp only[p4,u0C,r8]at good
 obtain⟨⟨⟨⟨⟨g1,g2⟩,g3⟩,g5⟩,g6⟩,g4⟩:=good
 have g5:M.length=N.length:=by simpa using g5
 refine⟨clos,g1,kind,par,co,gen,λy c h=>sub (y,c) (u0h h),λy h=>?_,by rw[hN];exact g5,λi y e v=>?_,λi y e v=>?_,λi y e v=>?_⟩
 .rw[hr]at h
  have hy:y∈cn:=by
   rcases h with h | h
   .exact g3 _ (u0h h) (.inl rfl)
   .exact g3 _ (u0h h) (.inr rfl)
  exact wM (by rw[hc];exact hy)
 .unfold Vis at v
  rw[hr]at v
  have hi:=(t7.mp e).1
  have hj:i < N.length:=by rw[<-g5];exact hi
  have hz:(M.zip N)[i]?=some (y,N[i]):=by
   rw[u26]
   exact⟨e,u7 hj⟩
  have:=g6 _ (j6 hz) v
  rw[hN,u7 hj]
  exact u0W some this.symm
 .unfold Vis at v
  rw[hr]at v ⊢
  exact(g4 y (j6 e) v).1
 .unfold Vis at v
  rw[hr]at v
  obtain⟨_,k1,k2⟩:=g4 y (j6 e) v
  refine⟨?_,?_⟩
  .unfold Vis;rw[hd];exact k1
  .show X.env.scope.names.lookup y≠_;rw[hd];exact k2
end L2
namespace L2
open PySem
def zcD (o:Obj):Obj:=match o.data with
 | .freed=>{ cls:=.none,data:=.freed }
 | _=>o
theorem zbB (o:Obj)(q:Str):zcD o≠Yb q:=by
 unfold zcD Yb
 intro h
 split at h
 .have:=u0W Obj.cls h
  cases this
 .rename_i hn
  exact hn (by rw[h])
def wy (h:Heap)(tabs:List (Addr × Str)):Heap:={ h with objs:=h.objs.mapIdx λi o=>match tabs.lookup i with
 | some q=>Yb q
 | none=>zcD o }
theorem zbQ (h:Heap)(tabs:List (Addr × Str)):(wy h tabs).objs.size=h.objs.size:=by
 unfold wy
 simp
theorem vB (h:Heap)(tabs:List (Addr × Str))(b:Addr):(wy h tabs).objs[b]?=(h.objs[b]?).map λo=>match tabs.lookup b with
 | some q=>Yb q
 | none=>zcD o:=by
 unfold wy
 simp
theorem zbm {h:Heap}{tabs:List (Addr × Str)}{P:Addr}{q:Str}(e:(wy h tabs).objs[P]?=some (Yb q)):tabs.lookup P=some q:=by
 rw[vB]at e
 obtain⟨o,_,e⟩:=t8.mp e
 cases z:tabs.lookup P with
 | none=>rw[z]at e;exact absurd e (zbB o q)
 | some q' =>
  rw[z]at e
  have:=u0W Obj.cls e
  have:Value.str q' 0=Value.str q 0:=this
  cases this
  rfl
theorem zaU {h:Heap}{tabs:List (Addr × Str)}{b:Addr}(hb:tabs.lookup b=none):(wy h tabs).get? b=h.get? b:=by
 unfold Heap.get?
 rw[vB,hb]
 cases z:h.objs[b]? with
 | none=>rfl
 | some o =>
  obtain⟨c,d,dt,sl⟩:=o
  cases dt <;> rfl
theorem zey {h:Heap}{tabs:List (Addr × Str)}{b:Addr}{q:Str}(hb:tabs.lookup b=some q):(wy h tabs).get? b=none:=by
 unfold Heap.get?
 rw[vB,hb]
 cases z:h.objs[b]? with
 | none=>rfl
 | some o=>rfl
theorem zde {h:Heap}{tabs:List (Addr × Str)}{b:Addr}{o:Obj}(e:(wy h tabs).get? b=some o):tabs.lookup b=none/\h.get? b=some o:=by
 cases z:tabs.lookup b with
 | none=>exact⟨rfl,by rw[<-zaU z];exact e⟩
 | some q=>rw[zey z]at e;cases e
end L2
namespace L2
open PySem PySem.Spec PyProof.Rows PySem.W
abbrev TL:=List (Addr × Addr × Str)
def yn (tl:TL):List (Addr × Str):=tl.map λt=>(t.2.1,t.2.2)
theorem WE {tl:TL}{P:Addr}{q:Str}(h:(yn tl).lookup P=some q):∃ c,(c,P,q)∈tl:=by
 unfold yn at h
 induction tl with
 | nil=>cases h
 | cons t r ih =>
  rw[d8,List.lookup_cons]at h
  cases z:P == t.2.1 with
  | true =>
   rw[z]at h
   cases h
   rw[eq_of_beq z]
   exact⟨t.1,.head _⟩
  | false =>
   rw[z]at h
   obtain⟨c,hc⟩:=ih h
   exact⟨c,.tail _ hc⟩
def x8 (tl:TL)(H:Hp):Hp:=λb=>match (yn tl).lookup b with
 | some q=>some (.tbl #[.str q 0])
 | none=>H b
theorem yG {tl:TL}{H:Hp}{b:Addr}(h:(yn tl).lookup b=none):x8 tl H b=H b:=by unfold x8;rw[h]
theorem vh {tl:TL}{H:Hp}{b:Addr}{q:Str}(h:(yn tl).lookup b=some q):x8 tl H b=some (.tbl #[.str q 0]):=by unfold x8;rw[h]
theorem zfq {P:Program}{w:World}{K:W.Frag}{mg mb:Str->Option Value}{CX:CXT}{k:Nat}{fa a:Addr}{fd:FuncData}{x:Str}{sp:Sp}{s₁:Shared}{vs:List Value}{ns:List Int}{tl:TL}
 (hq:tl.all (λt=>(yn tl).lookup t.2.1 == some t.2.2)=true) (hT:∀ t∈tl,CodeHd s₁.heap t.1 t.2.1/\s₁.heap.get? t.2.1=some (tabObj #[])) (hnK:noTabs K=true)
 (hbm:∃ bm ob,mg "__builtins__"=some (.ref bm)/\bm≠builtinsNs/\s₁.heap.get? bm=some ob/\ob.cls=.type "module"/\ob.dict=some builtinsNs/\ob.data=.plain)
 (KX:K.In s₁.heap) (hns:s₁.heap.Ns mainGlobals mg) (hb:s₁.heap.Ns builtinsNs mb) (hbb:∀ x:Str,x≠"__name__"->mb x=bootBuiltins x) (hlim:s₁.heap.NoLimit) (hg:s₁.gens=#[])
 (ha:s₁.heap.get? a=some { cls:=.type "list",data:=.seq vs.toArray }) (hi:IntsAre vs ns) (hl:ns.length<=sizeLine) (hr:vf k callerA)
 (F:∀ base:Heap,K.In base->base.Ns mainGlobals mg->(∀ t∈tl,WC base mg t.1 t.2.1 t.2.2)->xo P w K mg base CX k fa fd [x] sp) (hbind:∀ (s:Shared) (u:Value),BindsTo s fd ⟨[u],[]⟩ [(x,u)])
 (hsp:∀ H:Hp,SqL K H a (ns.map V.int)->sp [.ref a] H (λv _=>v=.bl true) λ_ _ _=>False)
 (hCX:∀ H e s',CX [] H s₁ (λ_ _ _=>False) e s'->False) :
 codeAny (model P w) callerA (.call (.ref fa) ⟨[.ref a],[]⟩) (λr s'=>r=.ok (.ret (.bool true))/\OldK s₁.heap s'.heap/\s'.os=s₁.os/\AllBare s'.gens) s₁:=by
 have rv:=zaQ hi
 have lenV:=hi.length
 -- a table is no other thing
 have tabF:∀ {b:Addr} {q:Str},(yn tl).lookup b=some q->s₁.heap.get? b=some (tabObj #[]):=λ{b q} h=>by
  obtain⟨c,hc⟩:=WE h
  exact(hT _ hc).2
 have notT:∀ {b:Addr} {o:Obj},s₁.heap.get? b=some o->o≠tabObj #[]->(yn tl).lookup b=none:=λ{b o} e n=>by
  cases z:(yn tl).lookup b with
  | none=>rfl
  | some q=>rw[tabF z]at e;cases e;exact absurd rfl n
 have aT:(yn tl).lookup a=none:=notT ha (λz=>by cases z)
 have core:∀ H:Hp,(∀ b,H b=none\/∃ o xs,H b=some (.frz o (.lst xs)))->SqL K H a (ns.map V.int)->HOk P w H s₁.heap->(∀ b,H b≠none->b=a)->(H a≠none->K.lookup a=none) ->
  codeAny (model P w) callerA (.call (.ref fa) ⟨[.ref a],[]⟩) (λr s'=>r=.ok (.ret (.bool true))/\OldK s₁.heap s'.heap/\s'.os=s₁.os/\AllBare s'.gens) s₁:=by
  intro H hO hS hok hA hK
  have base_of:∀ {b:Addr} {o:Obj},s₁.heap.get? b=some o->o≠tabObj #[]->H b=none->(wy (zdG s₁.heap H) (yn tl)).get? b=some o:=λe n1 n=>by
   rw[zaU (notT e n1)]
   exact zgB e n
  have noA:∀ {b:Addr} {o:Obj},s₁.heap.get? b=some o->(∀ ys st,o.data≠.seq ys st)->H b=none:=λ{b o} e d=>by
   cases q:H b with
   | none=>rfl
   | some u =>
    have e':b=a:=hA b (by rw[q];simp)
    subst e'
    rw[ha]at e;cases e
    exact absurd rfl (d _ _)
  have nsK:∀ {b:Addr} {m:Str->Option Value},s₁.heap.Ns b m->(wy (zdG s₁.heap H) (yn tl)).Ns b m:=λ{b m} ⟨o,es,ep,e,d,r⟩=>⟨o,es,ep,base_of e (λz=>by rw[z]at d;cases d) (noA e (λys st z=>by rw[d]at z;cases z)),d,r⟩
  have hKb:K.In (wy (zdG s₁.heap H) (yn tl)):=λb o e=>base_of (KX b o e) (λz=>by
   have h2:=u0C.mp hnK (b,o) (mem_of_lookupK e)
   subst z
   exact absurd (show false=true from h2) u4) (by
   cases q:H b with
   | none=>rfl
   | some u =>
    have e':b=a:=hA b (by rw[q];simp)
    subst e'
    rw[hK (by rw[q];simp)]at e;cases e)
  have hM:Mod K mg (wy (zdG s₁.heap H) (yn tl)):=⟨hKb,nsK hns,⟨mb,nsK hb,hbb⟩,let ⟨mc,h1,h2⟩:=hlim;⟨mc,nsK h1,h2⟩⟩
  have hok2:HOk P w (x8 tl H) s₁.heap:=λb o e=>by
   cases z:(yn tl).lookup b with
   | some q =>
    rw[vh z]at e
    cases e
    exact⟨#[],tabF z,trivial,λpos c hc=>by cases hc⟩
   | none =>
    rw[yG z]at e
    rcases hO b with y | ⟨ob,xs,y⟩
    .rw[y]at e;cases e
    .rw[y]at e
     cases e
     exact hok b _ y
  have hbs:Bs (wy (zdG s₁.heap H) (yn tl)) s₁.heap (x8 tl H):=by
   refine⟨λb o e=>?_,λP q e=>vh (zbm e)⟩
   obtain⟨e1,e2⟩:=zde e
   have:=zjA e2
   rw[yG e1]
   exact this
  have hlam:∀ t∈tl,WC (wy (zdG s₁.heap H) (yn tl)) mg t.1 t.2.1 t.2.2:=λt ht=>by
   have hq':=g9.mp (u0C.mp hq t ht)
   obtain⟨h1,h2⟩:=hT t ht
   refine⟨?_,?_,?_⟩
   .obtain⟨o,us,file,tf,flags,tg,inF,text,tt,e,r1,r2,r⟩:=h1
    exact⟨o,us,file,tf,flags,tg,inF,text,tt,base_of e (λz=>by rw[z]at r1;cases r1) (noA e (λys st z=>by rw[r2]at z;cases z)),r1,r2,r⟩
   .rw[vB]
    have hlt:=r6 h2
    have hlt2:t.2.1 < (zdG s₁.heap H).objs.size:=by rw[V3];exact hlt
    rw[u1R hlt2,hq']
    rfl
   .obtain⟨bm,ob,b1,b2,b3,b4,b5,b6⟩:=hbm
    refine⟨bm,ob,b1,b2,?_,?_,base_of b3 (λz=>by rw[z]at b6;cases b6) (noA b3 (λys st z=>by rw[b6]at z;cases z)),b4,b5,b6⟩
    .intro z
     obtain⟨o,es,ep,e,d,_⟩:=hns
     rw[z,e]at b3
     cases b3
     rw[b6]at d
     cases d
    .intro z
     rw[z,h2]at b3
     cases b3
     cases b6
  have hS2:SqL K (x8 tl H) a (ns.map V.int):=by
   rcases hS with (h | ⟨o,h⟩) | h
   .exact .inl (.inl (by rw[yG aT];exact h))
   .exact .inl (.inr ⟨o,by rw[yG aT];exact h⟩)
   .exact .inr h
  have e0:zlX P w K mg (wy (zdG s₁.heap H) (yn tl)) callerA [] s₁ (x8 tl H):=⟨rfl,hM,hbs,u2Y ((zbQ _ _).trans (V3 _ _)),trivial,λb hb=>absurd (show b∈([]:List Addr)from hb) (by simp),hok2,.of_eq hg⟩
  refine u22 ((F _ hKb (nsK hns) hlam).run callerA [] s₁ (x8 tl H) ⟨[.ref a],[]⟩ [.ref a] [.ref a] _ _ hr e0 (hbind s₁ (.ref a)) (.cons rfl .nil) (hsp _ hS2)) λr s' h=>?_
  cases r with
  | error e=>exact(hCX _ e s' h).elim
  | ok fl =>
   cases fl with
   | next=>exact False.elim h
   | brk=>exact False.elim h
   | cont=>exact False.elim h
   | ret u =>
    obtain⟨v,H',os,bare,un,hok',r',q⟩:=h
    have q':v=.bl true:=q
    subst q'
    obtain rfl:u=Value.bool true:=r'
    refine⟨rfl,?_,os,bare⟩
    have one:∀ b o,s₁.heap.get? b=some o->(yn tl).lookup b=none->s'.heap.get? b=some o:=λb o e z=>by
     cases q:H b with
     | none=>exact un.keep b o e (by rw[yG z];exact q) (by intro z;exact absurd (show b∈([]:List Addr)from z) (by simp)) (by simp)
     | some u =>
      rcases hO b with y | ⟨ob,xs,y⟩
      .rw[q]at y;cases y
      .have z2:=un.frzs b ob _ (by rw[yG z];exact y)
       obtain⟨e1,_⟩:=hok b _ y
       obtain⟨e2,_⟩:=hok' b _ z2
       rw[e]at e1;cases e1
       exact e2
    have two:∀ b q,(yn tl).lookup b=some q->∃ qs:Array Value,s'.heap.get? b=some { cls:=.none,data:=.fields qs }:=λb q z=>by
     obtain⟨qs,e,_⟩:=hok' b _ (un.tbls b _ (vh z))
     exact⟨qs,e⟩
    refine⟨λb o e=>?_,λb o e=>?_⟩
    .cases z:(yn tl).lookup b with
     | none=>exact .inl (one b o e z)
     | some q =>
      obtain⟨qs,e'⟩:=two b q z
      obtain⟨c,hc⟩:=WE z
      obtain⟨⟨oc,us,file,tf,flags,tg,inF,text,tt,c1,c2,c3,c4,_⟩,h2⟩:=hT _ hc
      rw[h2]at e
      cases e
      exact .inr (.inl ⟨⟨c,oc,us,c1,c2,c3,c4⟩,rfl,#[],qs,rfl,by rw[e'];simp⟩)
    .cases z:(yn tl).lookup b with
     | none=>exact⟨o,one b o e z⟩
     | some q =>
      obtain⟨qs,e'⟩:=two b q z
      exact⟨_,e'⟩
 cases hk:K.lookup a with
 | some o =>
  have e:=KX a o hk
  rw[ha]at e
  cases e
  refine core (λ_=>none) (λ_=>.inl rfl) (.inr ⟨_,vs.toArray,_,hk,rfl,rfl,rfl,by rw[j4,lenV];exact hl,by simpa using rv⟩) (λb u z=>by have z':(none:Option HO)=some u:=z;cases z') (λb z=>absurd rfl z) λz=>absurd rfl z
 | none =>
  refine core (λb=>if b=a then some (.frz { cls:=.type "list",data:=.seq vs.toArray } (.lst (ns.map V.int)))else none) (λb=>?_) (.inl (.inr ⟨{ cls:=.type "list",data:=.seq vs.toArray },u8 rfl⟩)) (λb u z=>?_) (λb z=>?_) λ_=>hk
  .by_cases hb:b=a
   .exact .inr ⟨_,_,u8 hb⟩
   .exact .inl (u9 hb)
  .by_cases hb:b=a
   .have z':=(u8 hb).symm.trans z
    cases z'
    subst hb
    exact⟨ha,by rw[u6];exact hl,vs,_,rv,ha⟩
   .have z':=(u9 hb).symm.trans z
    cases z'
  .by_cases hb:b=a
   .exact hb
   .exact absurd (u9 hb) z
theorem walk_ofL {l:W.OpenLaw}{n k:Nat}{q:Program}{loose:List Str}{XP:(Str->Option Value)->Heap->Prop}{YP:World->Heap->Prop}{d:DefRec}{K:Params->W.Frag}{CX:World->CXT}{sp:World->Sp}{x:Str}{tl:TL}
 (hn:l.most=some n) (hn2:n<=sizeLine) (hdf:d.params.defaults=[]) (hr:vf k callerA)
 (hY:∀ (w:World) (h:Heap),YP w h->(K w.params).In h)
 (hq:tl.all (λt=>(yn tl).lookup t.2.1 == some t.2.2)=true) (hnK:∀ w:World,noTabs (K w.params)=true)
 (hT:∀ (w:World) (mean:ExcName->Option Value) (mg mb:Str->Option Value) (h:Heap),(K w.params).In h->Top q (W.looseW q loose) mean mg mb h->∀ t∈tl,CodeHd h t.1 t.2.1/\h.get? t.2.1=some (tabObj #[]))
 (F:∀ (w:World) (mg:Str->Option Value) (fa:Addr) (h:Heap),(K w.params).In h->h.Ns mainGlobals mg->mg d.name=some (.ref fa) ->
  ∃ fd:FuncData,(∀ (s:Shared) (u:Value),BindsTo s fd ⟨[u],[]⟩ [(x,u)]) /\
   ∀ base:Heap,(K w.params).In base->base.Ns mainGlobals mg->(∀ t∈tl,WC base mg t.1 t.2.1 t.2.2)->xo l.prog w (K w.params) mg base (CX w) k fa fd [x] (sp w))
 (hsp:∀ (w:World) (H:Hp) (a:Addr) (ns:List Int),ns.length<=n->SqL (K w.params) H a (ns.map V.int)->sp w [.ref a] H (λv _=>v=.bl true) λ_ _ _=>False)
 (hCX:∀ (w:World) (H:Hp) (s:Shared) (e:Value) (s':Shared),CX w [] H s (λ_ _ _=>False) e s'->False) :
 PySem.W.WalkO q loose XP YP l.row.toRowW d [] (λf vs=>PySem.call f vs):=by
 refine Att.attach_call hn hdf λw s₀ s₁ mg mb fa o pm cd doc a vs ns G Y ho hd hcd hmg hobj hints hlen hg=>?_
 have KX:=hY w _ Y
 obtain⟨fd,hb,hF⟩:=F w mg fa _ KX G.T.g hmg
 exact zfq hq (hT w _ mg mb _ KX G.T) (hnK w) G.T.bmain KX G.T.g G.T.b G.T.builtins G.T.nolimit hg hobj hints (u0t hlen hn2) hr hF hb (λH hS=>hsp w H a ns hlen hS) λH e s'=>hCX w H s₁ e s'
end L2
namespace L2
open PySem PySem.Spec PyProof.Rows
def Itv (K:W.Frag)(a:Addr)(n:Nat):It :=
 ⟨λi H=>∃ xs x,SqL K H a xs/\xs.length=n/\xs.reverse[i]?=some x,λi H x H'=>H'=H/\∀ xs,SqL K H a xs->xs.reverse[i]?=some x,λi _=>n<=i⟩
theorem zgJ {P:Program}{w:World}{K:W.Frag}{tg:Expr}(a it:Addr)(n:Nat):ziH P w K tg (Itv K a n) [it] it (λi h=>i<=n/\h.IsRevIter it a ((n:Int) - 1 - (i:Int))) where
 mem:=by simp
 obj:=λi h st b hb=>by
  have e:b=it:=by simpa using hb
  subst e
  obtain⟨_,o,e,c,d⟩:=st
  exact⟨o,e,λv z=>by rw[d]at z;cases z⟩
 keep:=λi h h' st k=>⟨st.1,st.2.at λo e=>k it (by simp) o e⟩
 item:=by
  intro X hP hw hK hc i pins s σ H E I hf st hg
  subst hP hw hK
  obtain⟨xs,x,hq,hn,hx⟩:=hg
  obtain⟨its,rv,p,hz⟩:=I.list hq
  have hi:i < n:=by
   have:=(t7.mp hx).1
   rw[u13]at this
   omega
  have hx':xs[n - 1 - i]?=some x:=by
   rw[List.getElem?_reverse (by omega),hn]at hx
   exact hx
  obtain⟨u,hu,ru⟩:=rv.get hx'
  obtain⟨f0,f1,f2,f3,f4,f5⟩:=hf it (by simp)
  have ej:((n:Int) - 1 - (i:Int))=((n - 1 - i:Nat):Int):=by omega
  have st2:=st.2
  rw[ej]at st2
  refine wpAny_pyNext_rev_item st2 p.isList (x:=u) (by simpa using hu) λh' st' sb=>?_
  have I1:Inv X pins σ H { s with heap:=h' }:=I.turned (t':=s.toks) (λb o hb e=>(sb.2 b hb).trans e) f0 f1 f3 f4 f5
  have st3:h'.IsRevIter it a ((n:Int) - 1 - ((i+1:Nat):Int)):=by
   have e2:((n - 1 - i:Nat):Int) - 1=(n:Int) - 1 - ((i+1:Nat):Int):=by omega
   rw[<-e2]
   exact st'
  obtain⟨o,e,c,d⟩:=id st'
  exact⟨u,rfl,zhJ (s:={ s with heap:=h' }) e c d (by decide) ⟨x,H,I1,ru,⟨rfl,λys hy=>by rw[I.list_inj hy hq];exact hx⟩,⟨hi,st3⟩,λb hb=>(hf b hb).1⟩⟩
 done:=by
  intro X hP hw hK hc i pins s σ H E I hf st hg
  subst hP hw hK
  have hg:n<=i:=hg
  obtain⟨f0,f1,f2,f3,f4,f5⟩:=hf it (by simp)
  have ej:((n:Int) - 1 - (i:Int))=-1:=by have:=st.1;omega
  have st2:=st.2
  rw[ej]at st2
  exact wpAny_pyNext_rev_end (I.ok.hd hc) st2 λh' eb=>⟨rfl,I.turned (t':=s.toks) (λb o hb e=>eb b o hb e) f0 f1 f3 f4 f5⟩
 self:=λ_ _ _ _ _ st h=>wpAny_pyIter_revIter st.2 h
def zm8 (K:W.Frag)(ta:TE):TI:=fun σ H R=>ta σ H λx H1=>∃ a xs,x=.ref a/\SqL K H1 a xs/\R (Itv K a xs.length) H1
theorem zlv {X:Cx} {tg a:Expr} {ta:TE} {p pos:Pos} (hg:Gl X "reversed") (hm:X.mg "reversed"=none) (hb:bootBuiltins "reversed"=some (.type "reversed")) (ha:PE X a ta) (hs:starEach [a] X.env=[(false,eval a X.env)]:=by rfl) :
 PI X tg (.Call (.Name "reversed" p) [a] [] pos) (zm8 X.K ta):=by
 intro pins s σ H R I h
 refine Call_ (Zm I hg hm hb (u0A ?_ hs rfl))
 rw[hs]
 show wpAny _ _ (spliced ((false,eval a X.env)::[])) _ _ _
 refine u2f (thn (ha pins s σ H _ I h) λv s1 hh9=>?_)
 obtain⟨x,H1,I1,r1,q1⟩:=hh9
 obtain⟨t,xs,rfl,hx,q⟩:=q1
 cases r1
 obtain⟨its,rv,pt,hz⟩:=I1.list hx
 refine u2r ?_
 refine call_reversed_list pt.isList ?_
 have hl:its.toArray.size=xs.length:=by rw[j4,<- rv.length]
 refine wpAny_pyIter_revIter (l:=t) (i:=((its.toArray.size:Nat):Int) - 1) ⟨_,j8 _ rfl,rfl,rfl⟩ ?_
 refine⟨s1.heap.objs.size,[s1.heap.objs.size],_,_,H1,rfl,I1.kept (t':=s1.toks) λb o e=>u5 _ e,zgJ t _ xs.length,⟨u0g _,_,j8 _ rfl,rfl,?_⟩,λb hb=>?_,q⟩
 .rw[hl]
  show Data.fields #[.ref t,rawInt ((xs.length:Int) - 1)]=Data.fields #[.ref t,rawInt ((xs.length:Int) - 1 - ((0:Nat):Int))]
  simp
 .have e:b=s1.heap.objs.size:=by simpa using hb
  subst e
  exact I1.fpOk (q5 _) (I1.hok.fresh (q5 _))
end L2
namespace Dl
open PySem L2 PySem.Spec PyProof.Rows
variable [KK]
theorem zkh {K:W.Frag}{F:Hp}{p:Addr}{xs:List V}{ds:List D}(h:F p=some (.lst xs))(al:AtL F ds xs):zjV (Itv K p xs.length) F ds.reverse:=by
 intro i F2 H2 s1 s2
 have q:SqL K H2 p xs:=SqL.of (s2 _ _ (s1 _ _ h))
 refine⟨λhl=>?_,λd hd=>?_⟩
 .show xs.length<=i
  rw[al.length,hl,u13]
  exact q5 _
 .obtain⟨x,hx,ax⟩:=al.reverse.get hd
  refine⟨⟨xs,x,q,rfl,hx⟩,λy H3 hy=>?_⟩
  obtain⟨rfl,hy⟩:=hy
  have:=hy xs q
  rw[hx]at this
  cases this
  exact⟨F2,.refl s2,ax.mono s1⟩
theorem zk4 {X:Cx} {tg a:Expr} {p pos:Pos} {f:Ev->Option D} (hg:Gl X "reversed") (hm:X.mg "reversed"=none) (ha:ED X a f) (hs:starEach [a] X.env=[(false,eval a X.env)]:=by rfl) :
 ID X tg (.Call (.Name "reversed" p) [a] [] pos) (zmb f):=by
 obtain⟨t,pa,r⟩:=ha
 refine⟨_,zlv hg hm zbx pa hs,fun σ ρ F H ds R s va e q=>?_⟩
 obtain⟨d,e1,e2⟩:=u0.mp e
 refine r σ ρ F H d _ s va e1 λF1 H1 v g1 a1=>?_
 unfold revD at e2
 split at e2 <;> cases e2
 obtain⟨l,xs,rfl,hx,al⟩:=a1.lst_inv
 exact⟨l,xs,rfl,SqL.of (g1.fh _ _ hx),q F1 H1 _ g1 (zkh hx al)⟩
end Dl
namespace L2
open PySem PySem.Spec PyProof.Rows PySem.W
section
variable {P:Program}{w:World}{K:W.Frag}{mg:Str->Option Value}{base:Heap}
theorem Fun.okC {x qual:Str}{st:Stmt}{f:Addr}{fd:FuncData}{N ps:List Str}{k:Nat}{sp:Sp}{c:Addr}(hcd:fd.code=.ref c)(F:Fun K x qual st f fd)(S:zt N ps (zk st))(len:∀ vs H Q E,sp vs H Q E->vs.length=ps.length)
 (hbody:∀ (A:Around) (outer:List Env) (s:Shared) (H:Hp) (vs:List V) (Q:VK) (E:XK),vf k (A.deeper (envOfC qual (zk st) s.heap.objs.size f (.ref c)))->sp vs H Q E ->
  ∃ t,PSs (zhN CX0 P w K mg base N qual (zk st) f (.ref c) A outer s H E).nox (wq st) t/\t { nx:=λ_ H'=>Q .non H',rt:=Q } (start N vs) H):xo P w K mg base CX0 (k+1) f fd ps sp:=by
 obtain⟨oc,od,kV,doc,pm,an,cdv,ct,osl,rfl,lk,hc2⟩:=F.ex
 have hcd:cdv=.ref c:=hcd
 subst hcd
 refine zkd lk hc2 S len λA outer s H vs Q E hr hsp=>?_
 obtain⟨t,h,q⟩:=hbody A outer s H vs Q E hr hsp
 exact⟨t,h.nox,q⟩
end
theorem tab_mk {K:Frag}{x:Str}{f c P:Addr}{oc od o1 d1 fd sl vs s1}(a:nsIn K mainGlobals x=some (some (.ref f)))(l:K.lookup f=some ⟨oc,od,.func fd,sl⟩)(hc:fd.code=.ref c)(cl:K.lookup c=some ⟨o1,d1,.fields vs,s1⟩)(hv:vs[11]?=some (.ref P)):tabIn K x=some (c,P):=by
 unfold tabIn
 rw[a]
 dsimp only
 rw[l]
 dsimp only
 rw[hc]
 dsimp only
 rw[cl]
 dsimp only
 rw[hv]
end L2
namespace Dl
open PySem L2 PySem.Spec PyProof.Rows
variable [KK]
theorem zlP {P:Program}{w:World}{K:W.Frag}{mg:Str->Option Value}{base:Heap}{x qual:Str}{st:Stmt}{f:Addr}{fd:FuncData}{N ps:List Str}{k:Nat}{g:SE->Ctl}{c:Addr}(hcd:fd.code=.ref c)(Fu:Fun K x qual st f fd)(S:zt N ps (zk st))
 (hb:∀ (A:Around) (outer:List Env) (s:Shared) (H:Hp) (E:XK),vf k (A.deeper (PyProof.Rows.envOfC qual (zk st) s.heap.objs.size f (.ref c)))->SDs (zhN CX0 P w K mg base N qual (zk st) f (.ref c) A outer s H E).nox (wq st) g) :
 xo P w K mg base CX0 (k+1) f fd ps (spD ps.length (fnD N.length g)):=by
 refine Fu.okC hcd S (λvs H Q E h=>?_) λA outer s H vs Q E hr h=>?_
 .obtain⟨ds,d,F,hl,_,a,_⟩:=h
  rw[a.length];exact hl
 .obtain⟨ds,d,F,hl,sm,a,e,q⟩:=h
  obtain⟨t,p,r⟩:=hb A outer s H E hr
  refine⟨t,p,r F H F H _ _ _ (zck sm a) ?_⟩
  unfold fnD at e
  cases hg:g (ds.map .v++List.replicate (N.length - ds.length) .no) with
  | rt d'=>rw[hg]at e;cases e;exact λF' H' v g av=>q F' H' v g av
  | nx ρ=>rw[hg]at e;cases e;exact λF' H' σ rl=>q F' H' _ rl.gr .non
  | bk ρ=>rw[hg]at e;cases e
  | ct ρ=>rw[hg]at e;cases e
  | no=>rw[hg]at e;cases e
end Dl
namespace Mz
open PySem Dl
abbrev Tie:=Int × Int
def ltP (s t:Tie):Prop:=s.1 < t.1\/(s.1=t.1/\s.2 < t.2)
instance (s t:Tie):Decidable (ltP s t):=by unfold ltP;infer_instance
theorem ze1 {a b c:Tie}(h:ltP a b)(k:ltP b c):ltP a c:=by
 unfold ltP at *
 omega
def zw (t:Tie):D:=.tup [.int t.1,.int t.2]
theorem zeV {s t:Tie}(h:zw s=zw t):s=t:=by
 unfold zw at h
 injection h with h
 injection h with h1 h2
 injection h2 with h2 _
 injection h1 with h1
 injection h2 with h2
 exact u3h h1 h2
def zx (many:Int)(ties:List Tie):D:=.tup [.int many,.tup (ties.map zw)]
structure zD (many:Int) (ties:List Tie):Prop where
 lo:1<=many
 hi:many<=8
 rng:∀ t∈ties,0<=t.1/\t.1 < t.2/\t.2 < many
 srt:ties.Pairwise ltP
def leP (s t:Tie):Bool:=if s.1=t.1 then (if s.2=t.2 then true else decide (s.2<=t.2))else decide (s.1<=t.1)
theorem zat {s t:Tie}:leP s t=false↔ltP t s:=by
 unfold leP ltP
 by_cases h:s.1=t.1
 .rw[u8 h]
  by_cases k:s.2=t.2
  .rw[u8 k];simp;omega
  .rw[u9 k,u0F];omega
 .rw[u9 h,u0F];omega
def Yy:D->Option Tie
 | .tup [.int a,.int b]=>some (a,b)
 | _=>none
theorem vY (t:Tie):Yy (zw t)=some t:=rfl
theorem XC {d:D}{t:Tie}(h:Yy d=some t):d=zw t:=by
 unfold Yy at h
 split at h
 .cases h;rfl
 .cases h
def inR (m a:Int):Bool:=decide (0<=a)&&decide (a<=m - 1)
def xR (m:Int)(d:D):Bool:=match Yy d with
 | some t=>inR m t.1&&inR m t.2&&!decide (t.1=t.2)
 | none=>false
def zad (p:Option Tie)(t:Tie):Bool:=match p with
 | some q=>!leP t q
 | none=>true
def ye (m:Int):Option Tie->List D->Bool
 | _,[]=>true
 | p,d::r=>match Yy d with
  | some t=>xR m d&&!decide (t.2 < t.1)&&zad p t&&ye m (some t) r
  | none=>false
def Yn (m:Int):D->Bool
 | .tup ts=>ye m none ts
 | _=>false
def wW:D->Bool
 | .tup [.int m,t]=>decide (1<=m)&&decide (m<=8)&&Yn m t
 | _=>false
theorem ZO (m:Int):∀ (ts:List D) (p:Option Tie),ye m p ts=true↔∃ l:List Tie,ts=l.map zw/\(∀ t∈l,0<=t.1/\t.1 < t.2/\t.2 < m)/\(∀ q,p=some q->∀ t∈l,ltP q t)/\l.Pairwise ltP:=by
 intro ts
 induction ts with
 | nil =>
  intro p
  refine⟨λ_=>⟨[],rfl,by simp,by simp,.nil⟩,λ_=>rfl⟩
 | cons d r ih =>
  intro p
  unfold ye
  cases e:Yy d with
  | none =>
   refine Iff.intro (λh=>nomatch h) (λhh=>?_)
   obtain⟨l,h,_⟩:=hh
   cases l with
   | nil=>cases h
   | cons t l' =>
    rw[d8]at h
    injection h with h1 _
    rw[h1,vY]at e
    cases e
  | some t =>
   have ed:=XC e
   subst ed
   simp only[xR,vY,p4,u2q,u0F,inR,r8]
   rw[ih (some t)]
   constructor
   .rintro⟨⟨⟨⟨⟨h1,h2⟩,h3⟩,h4⟩,h5⟩,l,rfl,hr,hq,hs⟩
    refine⟨t::l,rfl,?_,?_,u0V.mpr ⟨hq t rfl,hs⟩⟩
    .intro u hu
     rcases d7.mp hu with rfl | hu
     .omega
     .exact hr u hu
    .rintro q rfl u hu
     have hqt:ltP q t:=zat.mp (by simpa [zad]using h5)
     rcases d7.mp hu with rfl | hu
     .exact hqt
     .exact ze1 hqt (hq t rfl u hu)
   .rintro⟨l,h,hr,hq,hs⟩
    cases l with
    | nil=>cases h
    | cons u l' =>
     rw[d8]at h
     injection h with h1 h2
     have hu:=zeV h1
     subst hu
     have hb:=hr t (by simp)
     refine⟨⟨⟨⟨⟨by omega,by omega⟩,by omega⟩,by omega⟩,?_⟩,l',h2,λv hv=>hr v (by simp[hv]),λq hqe v hv=>?_,(u0V.mp hs).2⟩
     .cases p with
      | none=>rfl
      | some q =>
       have:=zat.mpr (hq q rfl t (by simp))
       simp[zad,this]
     .cases hqe
      exact(u0V.mp hs).1 v hv
theorem xu (d:D):wW d=true↔∃ m ties,d=zx m ties/\zD m ties:=by
 constructor
 .intro h
  unfold wW at h
  split at h
  .rename_i m t
   simp only[p4,r8]at h
   obtain⟨⟨h1,h2⟩,h3⟩:=h
   unfold Yn at h3
   split at h3
   .rename_i ts
    obtain⟨l,rfl,hr,_,hs⟩:=(ZO m ts none).mp h3
    exact⟨m,l,rfl,h1,h2,hr,hs⟩
   .cases h3
  .cases h
 .rintro⟨m,ties,rfl,w⟩
  unfold zx wW Yn
  simp only[p4,r8]
  exact⟨⟨w.lo,w.hi⟩,(ZO m _ none).mpr ⟨ties,rfl,w.rng,by simp,w.srt⟩⟩
theorem ziL {d:D}(h:∀ m ties,d=zx m ties->¬ zD m ties):wW d=false:=by
 cases e:wW d with
 | false=>rfl
 | true =>
  obtain⟨m,ties,rfl,w⟩:=(xu d).mp e
  exact absurd w (h m ties rfl)
end Mz
namespace Mz
open Dl
def ZQ (c k:Int):Int :=
 let a:=(c % 2147483647+977*k+1)*48271 % 2147483647
 let b:=a*a % 2147483629
 (b+40692*(k+3))*69621 % 2147483647 / 8
def adj (ts:List Tie)(a b:Int):Prop:=(a,b)∈ts\/(b,a)∈ts
theorem adj.symm {ts:List Tie}{a b:Int}(h:adj ts a b):adj ts b a:=h.elim .inr .inl
inductive xb (ts:List Tie) (p:Int):Nat->Int->Prop
 | zero:xb ts p 0 p
 | step {k:Nat} {a b:Int}:xb ts p k a->adj ts a b->xb ts p (k+1) b
theorem adj.rng {m:Int}{ts:List Tie}{a b:Int}(ok:zD m ts)(h:adj ts a b):(0<=a/\a < m)/\0<=b/\b < m:=by
 rcases h with h | h <;> (have:=ok.rng _ h;simp only at this;omega)
theorem xb.rng {m:Int}{ts:List Tie}{p v:Int}{k:Nat}(ok:zD m ts)(hp:0<=p/\p < m)(h:xb ts p k v):0<=v/\v < m:=by
 cases h with
 | zero=>exact hp
 | step _ h=>exact(h.rng ok).2
theorem xb.inv {ts:List Tie}{p v:Int}{k:Nat}(h:xb ts p (k+1) v):∃ a,xb ts p k a/\adj ts a v:=by
 cases h with
 | step h1 h2=>exact⟨_,h1,h2⟩
theorem X5 {P:Nat->Prop}:∀ k,P k->∃ j,P j/\∀ i,P i->j<=i:=by
 intro k
 induction k using Nat.strongRecOn with
 | _ k ih =>
  intro h
  by_cases c:∃ i,i < k/\P i
  .obtain⟨i,hi,h2⟩:=c
   exact ih i hi h2
  .exact⟨k,h,λi hi=>u10 λz=>c ⟨i,z,hi⟩⟩
def Within (ts:List Tie)(p:Int)(k:Nat)(v:Int):Prop:=∃ j,j<=k/\xb ts p j v
theorem Within.succ {ts:List Tie}{p v:Int}{k:Nat}:Within ts p (k+1) v↔v=p\/∃ a,Within ts p k a/\adj ts a v:=by
 constructor
 .rintro⟨j,hj,h⟩
  cases h with
  | zero=>exact .inl rfl
  | step h1 h2=>exact .inr ⟨_,⟨_,by omega,h1⟩,h2⟩
 .rintro(rfl | ⟨a,⟨j,hj,h⟩,h2⟩)
  .exact⟨0,by omega,.zero⟩
  .exact⟨j+1,by omega,.step h h2⟩
theorem Within.up {ts:List Tie}{p v:Int}{k k':Nat}(h:Within ts p k v)(hk:k<=k'):Within ts p k' v:=let ⟨j,hj,r⟩:=h;⟨j,by omega,r⟩
theorem Wk {α:Type}{p q:α->Bool}:∀ {l:List α},(∀ x∈l,p x=true->q x=true)->l.countP q<=l.countP p->∀ x∈l,q x=true->p x=true
 | [],_,_,_,h,_=>by simp at h
 | y::l,hpq,hc,x,hx,hq=>by
  have h1:l.countP p<=l.countP q:=List.countP_mono_left λz hz=>hpq z (b8 _ hz)
  rw[u2z,u2z]at hc
  have hy:=hpq y m7
  have ih:=Wk (p:=p) (q:=q) (l:=l) λz hz=>hpq z (b8 _ hz)
  cases e1:p y <;> cases e2:q y <;> simp[e1,e2]at hc hy
  .rcases d7.mp hx with rfl | hx
   .rw[e2]at hq;cases hq
   .exact ih (by omega) x hx hq
  .omega
  .rcases d7.mp hx with rfl | hx
   .exact e1
   .exact ih (by omega) x hx hq
open Classical in
noncomputable def wiB (ts:List Tie)(p:Int)(k v:Nat):Bool:=decide (Within ts p k (v:Int))
theorem XF {ts:List Tie}{p:Int}{k v:Nat}:wiB ts p k v=true↔Within ts p k (v:Int):=by classical exact decide_eq_true_iff
noncomputable def cnt (ts:List Tie)(p:Int)(n k:Nat):Nat:=(List.range n).countP (wiB ts p k)
def zg2 (ts:List Tie)(p:Int)(k:Nat):Prop:=∀ v,Within ts p (k+1) v->Within ts p k v
theorem zg2.all {ts:List Tie}{p:Int}{k:Nat}(h:zg2 ts p k):∀ j v,Within ts p j v->Within ts p k v:=by
 intro j
 induction j with
 | zero =>
  rintro v ⟨i,hi,r⟩
  obtain rfl:i=0:=by omega
  exact⟨0,by omega,r⟩
 | succ j ih =>
  intro v hv
  rcases Within.succ.mp hv with rfl | ⟨a,ha,h2⟩
  .exact⟨0,by omega,.zero⟩
  .exact h v (Within.succ.mpr (.inr ⟨a,ih a ha,h2⟩))
theorem zhj {m:Int}{ts:List Tie}{p:Int}(ok:zD m ts)(hp:0<=p/\p < m):∃ k,k < m.toNat/\zg2 ts p k:=by
 have key:∀ k,(∃ k',k' < k/\zg2 ts p k')\/k+1<=cnt ts p m.toNat k:=by
  intro k
  induction k with
  | zero =>
   refine .inr ?_
   unfold cnt
   rw[List.one_le_countP_iff]
   exact⟨p.toNat,i5.mpr (by omega),XF.mpr ⟨0,q5 _,by rw[u1v hp.1];exact .zero⟩⟩
  | succ k ih =>
   rcases ih with ⟨k',h1,h2⟩ | ih
   .exact .inl ⟨k',by omega,h2⟩
   .by_cases c:cnt ts p m.toNat (k+1)<=cnt ts p m.toNat k
    .refine .inl ⟨k,by omega,λv hv=>?_⟩
     obtain⟨j,hj,r⟩:=hv
     have hr:=r.rng ok hp
     have:=Wk (λx _ h=>XF.mpr ((XF.mp h).up (u3f k))) c v.toNat (i5.mpr (by omega)) (XF.mpr (by rw[u1v hr.1];exact⟨j,hj,r⟩))
     have:=XF.mp this
     rwa[u1v hr.1]at this
    .exact .inr (by omega)
 rcases key m.toNat with h | h
 .exact h
 .unfold cnt at h
  have:=u2x (p:=wiB ts p m.toNat) (l:=List.range m.toNat)
  rw[u0R]at this
  omega
def Far (ts:List Tie)(p v:Int)(k:Nat):Prop:=xb ts p k v/\∀ i,xb ts p i v->k<=i
theorem Far.uniq {ts:List Tie}{p v:Int}{k j:Nat}(h:Far ts p v k)(h':Far ts p v j):k=j:=Nat.le_antisymm (h.2 _ h'.1) (h'.2 _ h.1)
theorem Far.lt {m:Int}{ts:List Tie}{p v:Int}{k:Nat}(ok:zD m ts)(hp:0<=p/\p < m)(h:Far ts p v k):k < m.toNat:=by
 obtain⟨b,hb,hs⟩:=zhj ok hp
 obtain⟨j,hj,r⟩:=hs.all k v ⟨k,q5 _,h.1⟩
 have:=h.2 j r
 omega
theorem zii {ts:List Tie}{p v:Int}{k:Nat}(h:xb ts p k v):∃ j,Far ts p v j:=X5 k h
open Classical in
noncomputable def zf7 (ts:List Tie)(p v:Int):Option Int:=if h:∃ k,Far ts p v k then some (h.choose:Int)else none
theorem zfP {ts:List Tie}{p v:Int}{k:Nat}(h:Far ts p v k):zf7 ts p v=some (k:Int):=by
 unfold zf7
 have hx:∃ k,Far ts p v k:=⟨k,h⟩
 rw[dif_pos hx,hx.choose_spec.uniq h]
theorem zep {ts:List Tie}{p v:Int}(h:∀ k,¬ xb ts p k v):zf7 ts p v=none:=by
 unfold zf7
 rw[dif_neg]
 rintro⟨k,hk⟩
 exact h k hk.1
theorem Yk (ts:List Tie)(p v:Int):(∃ k:Nat,zf7 ts p v=some (k:Int)/\Far ts p v k)\/(zf7 ts p v=none/\∀ k,¬ xb ts p k v):=by
 by_cases h:∃ k,xb ts p k v
 .obtain⟨k,hk⟩:=h
  obtain⟨j,hj⟩:=zii hk
  exact .inl ⟨j,zfP hj,hj⟩
 .have:∀ k,¬ xb ts p k v:=λk hk=>h ⟨k,hk⟩
  exact .inr ⟨zep this,this⟩
noncomputable def Yg (m:Int)(ts:List Tie)(p:Int):List (Option Int):=(List.range m.toNat).map λv:Nat=>zf7 ts p v
def vG:Option Int->D
 | none=>.non
 | some k=>.int k
def oAt (fs:List (Option Int))(i:Int):Option Int:=(fs[i.toNat]?).getD none
theorem zia {n:Nat}{i:Int}(h0:0<=i)(h1:i < n):L2.ixN n i=some i.toNat:=by
 unfold L2.ixN
 rw[u8 h0,u8 h1]
theorem zar {α:Type}{xs:List α}{i:Int}{x:α}(h0:0<=i)(h:xs[i.toNat]?=some x):L2.atI xs i=some x:=by
 have:=(t7.mp h).1
 unfold L2.atI
 rw[zia h0 (by omega)]
 exact h
theorem zlo {m:Bool}{i:Nat}{fk fe:Ev->Option D}{ρ:SE}{ds:List D}{d:D}{k:Int}(h1:vEv m fe ρ=some d)(h2:fk (visG ρ)=some (.int k))(h3:ρ[i]?=some (.o ds))(h4:0<=k)(h5:k < ds.length) :
 ZP m i fk fe ρ=.nx (ρ.set i (.o (ds.set k.toNat d))):=by
 unfold ZP
 rw[h1,h2,h3]
 show(match ((L2.ixN ds.length k).map λj=>ρ.set i (Sl.o (ds.set j d)))with | some ρ'=>Ctl.nx ρ' | none=>Ctl.no)=_
 rw[zia h4 h5]
 rfl
theorem zjw {fs:List (Option Int)}{i:Int}(h0:0<=i)(h1:i < fs.length):L2.atI (fs.map vG) i=some (vG (oAt fs i)):=by
 refine zar h0 ?_
 unfold oAt
 rw[j9,u7 (by omega)]
 rfl
theorem Xw {fs:List (Option Int)}{i j:Int}{x:Option Int}(hi:0<=i)(hl:i < fs.length)(hj:0<=j):oAt (fs.set i.toNat x) j=if j=i then x else oAt fs j:=by
 unfold oAt
 rw[u0D]
 by_cases c:j=i
 .subst c
  rw[u8 rfl,u8 rfl,u8 (by omega)]
  rfl
 .rw[u9 (by omega),u9 c]
theorem zi2 {fs gs:List (Option Int)}(hl:fs.length=gs.length)(h:∀ i:Int,0<=i->i < fs.length->oAt fs i=oAt gs i):fs=gs:=by
 refine u1J λi=>?_
 by_cases c:i < fs.length
 .have:=h (i:Int) (by omega) (by omega)
  unfold oAt at this
  rw[u1n,u7 c,u7 (by omega)]at this
  rw[u7 c,u7 (by omega)]
  exact u0W some this
 .rw[u0m (by omega),u0m (by omega)]
theorem XA (m:Int)(ts:List Tie)(p:Int):(Yg m ts p).length=m.toNat:=by unfold Yg;simp
theorem zb5 {m:Int}{ts:List Tie}{p v:Int}(h0:0<=v)(h1:v < m):oAt (Yg m ts p) v=zf7 ts p v:=by
 unfold oAt Yg
 rw[j9,u1w (by omega)]
 show zf7 ts p ((v.toNat:Nat):Int)=_
 rw[u1v h0]
theorem zbh:∀ {ns:List Int} {k:Nat} {x:Int} (h:k < ns.length),(ns.set k x).sum=ns.sum - ns[k]+x
 | [],_,_,h=>by simp at h
 | n::ns,0,x,_=>by simp;omega
 | n::ns,k+1,x,h=>by
  have:=zbh (ns:=ns) (k:=k) (x:=x) (by simpa using h)
  simp only[List.set_cons_succ,u02,List.getElem_cons_succ,this]
  omega
def zlS (b n:Nat):List Tie:=(List.range n).map λ(k:Nat)=>((k:Int),(b:Int))
theorem WL (ts:List Tie):(Vz ts).Perm ts:=u2O _ _
theorem V7 {ts:List Tie}(h:ts.Nodup):(Vz ts).Pairwise ltP:=by
 have h1:(Vz ts).Pairwise λa b=>zjW a b=true:=u2i (λa b c h1 h2=>by rw[wH]at *;omega) (λa b=>by rw[u3u,wH,wH];omega) _
 have h2:(Vz ts).Nodup:=(WL ts).nodup_iff.mpr h
 refine(h1.and h2).imp λ{a b} hh=>?_
 obtain⟨x,y⟩:=hh
 rw[wH]at x
 unfold ltP
 rcases x with x | x
 .exact .inl x
 .refine .inr ⟨x.1,?_⟩
  have:a.2≠b.2:=λe=>y (u3h x.1 e)
  omega
theorem zeT {d:D}{n:Int}(h0:0<=n)(h1:n<=1000):zf6 (.lst [d]) (.int n)=some (List.replicate n.toNat d):=by
 show(if -(2 ^ 63)<=n/\n < 2 ^ 63/\lim (1*n.toNat)=true then _ else none)=_
 rw[u8 ⟨by omega,by omega,wn (by omega)⟩,List.flatten_replicate_singleton]
theorem zbz {m:Bool}{i:Nat}{fk fe:Ev->Option D}{ρ:SE}{n b kk:SE->Prop}{r:D->Prop}(ds:List D)(d:D)(k:Int)(h1:vEv m fe ρ=some d)(h2:fk (visG ρ)=some (.int k))(h3:ρ[i]?=some (.o ds))(h4:0<=k)(h5:k < ds.length)(q:n (ρ.set i (.o (ds.set k.toNat d)))) :
 (ZP m i fk fe ρ).w n b kk r:=Zw (zlo h1 h2 h3 h4 h5) q
theorem zfB (n:Nat):(List.replicate n (0:Int)).sum=0:=by
 induction n with
 | zero=>rfl
 | succ n ih=>rw[u0P,u02,ih];rfl
theorem zfk {i j:Int}(h1:-(2 ^ 64) < i)(h2:i < 2 ^ 64):vN (.int i) (.int j)=some (.int (i*j)):=by
 show(if ZE i j=true then _ else none)=_
 rw[u8 (show ZE i j=true from d4 (.inl ⟨h1,h2⟩))]
theorem zhu (ns:List Int):zkX [.lst (ns.map .int)]=some (.int ns.sum):=by
 show((zcs (ns.map .int)).bind λns=>some (D.int ns.sum))=_
 rw[Vu]
 rfl
theorem zgO {α:Type}(xs:List α)(lo hi:Option Int):(zdF xs lo hi).length<=xs.length:=by
 unfold zdF
 rw[b9,e9]
 omega
theorem zhM {a b:List D}(h:a.length+b.length<=1000):x5 (.lst a) (.lst b)=some (.lst (a++b)):=by
 show(if lim (a.length+b.length)=true then _ else none)=_
 rw[u8 (wn h)]
theorem zm7 {g h:SE->Ctl}{ρ:SE}{n b k:SE->Prop}{r:D->Prop}(J:SE->Prop)(h1:(g ρ).w J b k r)(h2:∀ ρ',J ρ'->(h ρ').w n b k r):(zO g h ρ).w n b k r :=
 xw (zfr h1 h2 (λ_ h=>h) (λ_ h=>h) λ_ h=>h)
theorem zg7 {m:Int}{ts:List Tie}{p:Int}{o:Option Int}(ok:zD m ts)(hp:0<=p/\p < m)(h:o∈Yg m ts p):o=none\/∃ k:Int,o=some k/\0<=k/\k < m:=by
 unfold Yg at h
 obtain⟨v,hv,rfl⟩:=u0c.mp h
 rcases Yk ts p v with ⟨k,e,hk⟩ | ⟨e,_⟩
 .have:=hk.lt ok hp
  exact .inr ⟨_,e,by omega,by omega⟩
 .exact .inl e
theorem zai:∀ {ns:List Int},(∀ x∈ns,0<=x)->0<=ns.sum
 | [],_=>by simp
 | n::ns,h=>by
  have:=zai (ns:=ns) λx hx=>h x (b8 _ hx)
  have:=h n m7
  rw[u02]
  omega
theorem WG:∀ {ns:List Int} {y:Int},(∀ x∈ns,0<=x)->y∈ns->y<=ns.sum
 | [],_,_,h=>by simp at h
 | n::ns,y,h,hy=>by
  have h2:∀ x∈ns,0<=x:=λx hx=>h x (b8 _ hx)
  have:=zai h2
  have:=h n m7
  rw[u02]
  rcases d7.mp hy with rfl | hy
  .omega
  .have:=WG h2 hy
   omega
theorem yi {m:Bool}{i:Nat}{f:Ev->Option D}{ρ ρ':SE}{d:D}(h:vEv m f ρ=some d)(h2:ρ.set i (.v d)=ρ':=by rfl):xE m i f ρ=.nx ρ':=by
 unfold xE
 rw[h,<- h2]
theorem YG {f:Ev->Option D}{ρ:SE}{d:D}(h:f (visG ρ)=some d):Xd f ρ=.nx ρ:=by
 unfold Xd
 rw[h]
theorem vC {f:Ev->Option D}{ρ:SE}{d:D}(h:f (visG ρ)=some d):y6 f ρ=.rt d:=by
 unfold y6
 rw[h]
theorem zfY {i:Nat}{f:Ev->Option (List D)}{ρ ρ':SE}{ds:List D}(h:f (visF ρ)=some ds)(h2:ρ.set i (.o ds)=ρ':=by rfl):Za i f ρ=.nx ρ':=by
 unfold Za
 rw[h,<- h2]
theorem xj {a b:Int}:neD (.int a) (.int b)=some (.bl (!decide (a=b))):=rfl
theorem xD {a m x:Int}(h:0 < m)(hx:a % m=x):0<=x/\x < m:=by
 subst hx
 exact⟨u2L _ (by omega),u2g _ h⟩
theorem len_lt {α:Type}{xs:List α}{x m:Int}(h:x < m)(hl:(xs.length:Int)=m):x < (xs.length:Int):=by omega
theorem zfW {α:Type}{f:α->D}{xs:List α}{x m:Int}(h:x < m)(hl:(xs.length:Int)=m):x < ((xs.map f).length:Int):=by rw[u6];omega
theorem zba {m:Int}(h:1<=m):0 < m:=by omega
theorem zeU {i:Nat}{x m:Int}(hi:i < m.toNat)(hx:(0:Int)+(i:Int)=x):0<=x/\x < m:=by omega
theorem zhY {i:Nat}{x:Int}(hx:(0:Int)+(i:Int)=x):(i:Int)=x:=by omega
theorem W1 {o:Nat}{m:Int}(h:(o:Int) < m):0<=(0:Int)+(o:Int)/\(0:Int)+(o:Int) < m:=by omega
theorem zkf {n:Nat}(h:n<=8):lim n=true:=wn (by omega)
theorem zcg {α:Type}{xs:List α}{x m:Int}(h0:0<=x)(h:x < m)(hl:xs.length=m.toNat):x < (xs.length:Int):=by omega
theorem zfF {α:Type}{f:α->D}{xs:List α}{x m:Int}(h0:0<=x)(h:x < m)(hl:xs.length=m.toNat):x < ((xs.map f).length:Int):=by rw[u6];omega
theorem zh3 {fs:List (Option Int)}{i m:Int}(h0:0<=i)(h:i < m)(hl:fs.length=m.toNat):L2.atI (fs.map vG) i=some (vG (oAt fs i)):=zjw h0 (zcg h0 h hl)
theorem zlg {d:D}{m:Int}(h1:1<=m)(h8:m<=8):zf6 (.lst [d]) (.int m)=some (List.replicate m.toNat d):=zeT (by omega) (by omega)
theorem zlq {m:Int}(h1:1<=m)(h8:m<=8):wB [.int m]=some (Z4 0 m.toNat):=by
 show(if zf5 m=true then some (Z4 0 m.toNat)else none)=_
 rw[u8 (yH.mpr ⟨by omega,by omega⟩)]
theorem zj6 {m:Int}{n:Nat}(h:m=((n+1:Nat):Int))(h7:n<=7):wB [.int m]=some (Z4 0 (n+1)):=by
 rw[zlq (by omega) (by omega),show m.toNat=n+1 by omega]
theorem zkC {m:Int}{n:Nat}(h:m=((n+1:Nat):Int))(h7:n<=7):WZ [.int 1,.int m]=some (Z4 1 n):=by
 show(if zf5 1=true/\zf5 m=true then some (Z4 1 (m - 1).toNat)else none)=_
 rw[u8 ⟨yH.mpr ⟨by omega,by omega⟩,yH.mpr ⟨by omega,by omega⟩⟩,show(m - 1).toNat=n by omega]
theorem yl {a b:Int}:V0 (.int a) (.int b)=some (.bl (decide (a=b))):=rfl
theorem xy {a b:Bool}:V0 (.bl a) (.bl b)=some (.bl (decide (a=b))):=rfl
theorem yB {a b:PySem.Str}:V0 (.str a) (.str b)=some (.bl (decide (a=b))):=rfl
theorem yd {a b:Int}:x5 (.int a) (.int b)=some (.int (a+b)):=rfl
section
variable {ρ:Ev}{f g h:Ev->Option D}{a:Ev->Option (List D)}{t u:Ev->Option Bool}{d e x y z:D}{ds es:List D}{b c:Bool}
theorem ZY:zr ρ=some []:=rfl
theorem xV (h1:f ρ=some d)(h2:a ρ=some ds):zb f a ρ=some (d::ds):=by unfold zb;rw[h1,h2];rfl
theorem wK {n:Nat}{p:List D->Option D}(h1:a ρ=some ds)(h2:p ds=some d)(hl:ds.length=n:=by rfl):zq n p a ρ=some d:=by
 unfold zq
 rw[h1,p9,u8 hl,h2]
theorem YU {i n:Nat}{p:List D->Option D}{σ σ':SE}(h1:a (visF σ)=some ds)(h2:p ds=some d)(hl:ds.length=n:=by rfl)(h3:σ.set i (.v d)=σ':=by rfl):xE false i (zq n p a) σ=.nx σ':=yi (show zq n p a (visF σ)=some d from wK h1 h2 hl) h3
theorem zly {i:Nat}{f:Ev->Option D}{σ σ':SE}(h:f (visF σ)=some d)(h3:σ.set i (.v d)=σ':=by rfl):xE false i f σ=.nx σ':=yi (show f (visF σ)=some d from h) h3
theorem zJ {k:D->D->Option D}(h1:f ρ=some x)(h2:g ρ=some y)(h3:k x y=some z):zn k f g ρ=some z:=by unfold zn;rw[h1,h2];exact h3
theorem Xz (h1:a ρ=some ds):ww a ρ=some (.lst ds):=by unfold ww;rw[h1];rfl
theorem zgx {k:List D->Option D}(h1:a ρ=some ds)(h2:k ds=some d):eFn k a ρ=some d:=by unfold eFn;rw[h1];exact h2
theorem zkO {k:List D->Option (List D)}(h1:a ρ=some ds)(h2:k ds=some es):fFn k a ρ=some es:=by unfold fFn;rw[h1];exact h2
theorem ziw (h1:a ρ=some ds)(hl:ds.length<=1000):yw a ρ=some ds:=by unfold yw;rw[h1,p9,u8 (wn hl)]
theorem zkj (h1:a ρ=some ds)(hl:ds.length<=1000):ZZ a ρ=some (.tup ds):=by unfold ZZ;rw[h1,p9,u8 (wn hl)]
theorem zcG (h1:f ρ=some d)(h2:xP d=some ds):iOf f ρ=some ds:=by unfold iOf;rw[h1];exact h2
theorem zmS (h1:t ρ=some c)(h2:(if c=true then f ρ else g ρ)=some d):eIf t f g ρ=some d:=by unfold eIf;rw[h1];exact h2
theorem VR (h1:f ρ=some (.bl b)):tOf f ρ=some b:=by unfold tOf;rw[h1];rfl
theorem zij (h1:t ρ=some false)(h2:u ρ=some c):Wo t u ρ=some c:=by unfold Wo;rw[h1];exact h2
end
end Mz
namespace Mz
open PySem L2 Dl
def top (i:Nat):Stmt:=PySem.Challenge.pw_twoforone_k36_whole_carry_papers_bound.main.body.getD i (.Pass ⟨0,0,0,0⟩)
abbrev YL:Stmt:=top 9
abbrev xg:Stmt:=top 10
abbrev xr:Stmt:=top 11
abbrev YH:Stmt:=top 12
abbrev vg:Stmt:=top 13
abbrev Zx:Stmt:=top 15
abbrev YQ:Stmt:=top 16
abbrev Wf:Stmt:=top 17
abbrev wR:Stmt:=top 18
abbrev xO:Stmt:=top 19
abbrev wP:Stmt:=top 20
abbrev vp:Stmt:=top 21
abbrev vW:Stmt:=top 22
abbrev XO:Stmt:=top 23
abbrev Yc:Stmt:=top 24
abbrev ZF:Stmt:=top 25
abbrev vF:Stmt:=top 27
abbrev wu:Stmt:=top 28
abbrev wt:Stmt:=top 30
abbrev yX:Stmt:=top 31
abbrev YD:Stmt:=top 32
abbrev xz:Stmt:=top 34
abbrev YI:Stmt:=top 35
abbrev vD:Stmt:=top 36
abbrev Zr:Stmt:=top 37
abbrev wQ:Stmt:=top 38
abbrev wl:Stmt:=top 40
abbrev vV:Stmt:=top 41
abbrev wz:Stmt:=top 42
abbrev wv:Stmt:=top 43
abbrev wO:Stmt:=top 44
abbrev xa:Stmt:=top 45
abbrev zeD:Stmt:=top 46
theorem zbG:zt ["thing"] ["thing"] (zk YL):=⟨rfl,rfl,rfl,by decide +kernel,rfl,by decide +kernel,by decide +kernel⟩
theorem Zd:zt ["thing","least","most"] ["thing","least","most"] (zk xg):=⟨rfl,rfl,rfl,by decide +kernel,rfl,by decide +kernel,by decide +kernel⟩
theorem ZB:zt ["thing"] ["thing"] (zk xr):=⟨rfl,rfl,rfl,by decide +kernel,rfl,by decide +kernel,by decide +kernel⟩
theorem zbt:zt ["many","thing"] ["many","thing"] (zk YH):=⟨rfl,rfl,rfl,by decide +kernel,rfl,by decide +kernel,by decide +kernel⟩
theorem VO:zt ["many","thing"] ["many","thing"] (zk vg):=⟨rfl,rfl,rfl,by decide +kernel,rfl,by decide +kernel,by decide +kernel⟩
theorem zdd:zt ["many","thing"] ["many","thing"] (zk Zx):=⟨rfl,rfl,rfl,by decide +kernel,rfl,by decide +kernel,by decide +kernel⟩
theorem YN:zt ["many","thing","at","tie"] ["many","thing"] (zk YQ):=⟨rfl,rfl,rfl,by decide +kernel,rfl,by decide +kernel,by decide +kernel⟩
theorem ze7:zt ["thing"] ["thing"] (zk Wf):=⟨rfl,rfl,rfl,by decide +kernel,rfl,by decide +kernel,by decide +kernel⟩
theorem Wz:zt ["thing"] ["thing"] (zk wR):=⟨rfl,rfl,rfl,by decide +kernel,rfl,by decide +kernel,by decide +kernel⟩
theorem Xa:zt ["web","thing"] ["web","thing"] (zk xO):=⟨rfl,rfl,rfl,by decide +kernel,rfl,by decide +kernel,by decide +kernel⟩
theorem Wx:zt ["one","other"] ["one","other"] (zk wP):=⟨rfl,rfl,rfl,by decide +kernel,rfl,by decide +kernel,by decide +kernel⟩
theorem VD:zt ["web","place"] ["web","place"] (zk vp):=⟨rfl,rfl,rfl,by decide +kernel,rfl,by decide +kernel,by decide +kernel⟩
theorem yr:zt ["web","start","away","rim","further","place","other"] ["web","start"] (zk vW):=⟨rfl,rfl,rfl,by decide +kernel,rfl,by decide +kernel,by decide +kernel⟩
theorem Ye:zt ["web","found","start","away","piece"] ["web"] (zk XO):=⟨rfl,rfl,rfl,by decide +kernel,rfl,by decide +kernel,by decide +kernel⟩
theorem zaC:zt ["web"] ["web"] (zk Yc):=⟨rfl,rfl,rfl,by decide +kernel,rfl,by decide +kernel,by decide +kernel⟩
theorem zdb:zt ["web"] ["web"] (zk ZF):=⟨rfl,rfl,rfl,by decide +kernel,rfl,by decide +kernel,by decide +kernel⟩
theorem Vo:zt ["web","thing"] ["web","thing"] (zk vF):=⟨rfl,rfl,rfl,by decide +kernel,rfl,by decide +kernel,by decide +kernel⟩
theorem X9:zt ["web","thing"] ["web","thing"] (zk wu):=⟨rfl,rfl,rfl,by decide +kernel,rfl,by decide +kernel,by decide +kernel⟩
theorem XV:zt ["web"] ["web"] (zk wt):=⟨rfl,rfl,rfl,by decide +kernel,rfl,by decide +kernel,by decide +kernel⟩
theorem yb:zt ["web","root","away","outer","place"] ["web","root"] (zk yX):=⟨rfl,rfl,rfl,by decide +kernel,rfl,by decide +kernel,by decide +kernel⟩
theorem Wc:zt ["web","root","away"] ["web","root"] (zk YD):=⟨rfl,rfl,rfl,by decide +kernel,rfl,by decide +kernel,by decide +kernel⟩
theorem ZH:zt ["web","heap","place"] ["web","heap","place"] (zk xz):=⟨rfl,rfl,rfl,by decide +kernel,rfl,by decide +kernel,by decide +kernel⟩
theorem zbJ:zt ["heap","outer","carried","place"] ["heap","outer","carried","place"] (zk YI):=⟨rfl,rfl,rfl,by decide +kernel,rfl,by decide +kernel,by decide +kernel⟩
theorem xf:zt ["web","heap","root","outer","carried","place","stones"] ["web","heap","root"] (zk vD):=⟨rfl,rfl,rfl,by decide +kernel,rfl,by decide +kernel,by decide +kernel⟩
theorem zdl:zt ["web","heap","place"] ["web","heap","place"] (zk Zr):=⟨rfl,rfl,rfl,by decide +kernel,rfl,by decide +kernel,by decide +kernel⟩
theorem yN:zt ["web","heap","place","thing","outer","other","stones","most"] ["web","heap","place","thing"] (zk wQ):=⟨rfl,rfl,rfl,by decide +kernel,rfl,by decide +kernel,by decide +kernel⟩
theorem Wd:zt ["script","k"] ["script","k"] (zk wl):=⟨rfl,rfl,rfl,by decide +kernel,rfl,by decide +kernel,by decide +kernel⟩
theorem wJ:zt ["cell","k","number"] ["cell","k"] (zk vV):=⟨rfl,rfl,rfl,by decide +kernel,rfl,by decide +kernel,by decide +kernel⟩
theorem zB:zt ["cell","most","many","names","k","ties","left","inner"] ["cell","most"] (zk wz):=⟨rfl,rfl,rfl,by decide +kernel,rfl,by decide +kernel,by decide +kernel⟩
theorem yx:zt ["many","cell","most","found","k","place"] ["many","cell","most"] (zk wv):=⟨rfl,rfl,rfl,by decide +kernel,rfl,by decide +kernel,by decide +kernel⟩
theorem zT:zt ["web","heap","found","todo","here","a","b","other"] ["web","heap"] (zk wO):=⟨rfl,rfl,rfl,by decide +kernel,rfl,by decide +kernel,by decide +kernel⟩
theorem Y6:zt ["web","heap","place"] ["web","heap","place"] (zk xa):=⟨rfl,rfl,rfl,by decide +kernel,rfl,by decide +kernel,by decide +kernel⟩
theorem vH:zt ["script","cell","web","heap","root","most","least","turn","paper","k","at","less"] ["script"] (zk zeD):=⟨rfl,rfl,rfl,by decide +kernel,rfl,by decide +kernel,by decide +kernel⟩
structure Adr where
 f_is_whole:Addr
 e_is_whole:FuncData
 f_is_whole_within:Addr
 e_is_whole_within:FuncData
 f_is_place_count:Addr
 e_is_place_count:FuncData
 f_is_place:Addr
 e_is_place:FuncData
 f_are_counts:Addr
 e_are_counts:FuncData
 f_is_pair:Addr
 e_is_pair:FuncData
 f_are_ties:Addr
 e_are_ties:FuncData
 f_is_web:Addr
 e_is_web:FuncData
 f_must_be_web:Addr
 e_must_be_web:FuncData
 f_must_be_place:Addr
 e_must_be_place:FuncData
 f_tie_between:Addr
 e_tie_between:FuncData
 f_neighbours:Addr
 e_neighbours:FuncData
 f_ties_away:Addr
 e_ties_away:FuncData
 f_pieces:Addr
 e_pieces:FuncData
 f_is_joined:Addr
 e_is_joined:FuncData
 f_is_tree:Addr
 e_is_tree:FuncData
 f_are_stones:Addr
 e_are_stones:FuncData
 f_must_be_heap:Addr
 e_must_be_heap:FuncData
 f_must_be_tree:Addr
 e_must_be_tree:FuncData
 f_outer_neighbours:Addr
 e_outer_neighbours:FuncData
 f_outwards:Addr
 e_outwards:FuncData
 f_must_be_rooted:Addr
 e_must_be_rooted:FuncData
 f_gathered:Addr
 e_gathered:FuncData
 f_carried_to:Addr
 e_carried_to:FuncData
 f_carries:Addr
 e_carries:FuncData
 f_carry_holds:Addr
 e_carry_holds:FuncData
 f__law_cell_at:Addr
 e__law_cell_at:FuncData
 f__law_stir:Addr
 e__law_stir:FuncData
 f__law_tree_by:Addr
 e__law_tree_by:FuncData
 f__law_heap_by:Addr
 e__law_heap_by:FuncData
 f__law_behind:Addr
 e__law_behind:FuncData
 f__law_most_there:Addr
 e__law_most_there:FuncData
 f_law:Addr
 e_law:FuncData
 t_MOST_PLACES:Tok
 t_MOST_STONES:Tok
 c_outwards:Addr
 p_outwards:Addr
structure Txt (K:W.Frag) (mg:Str->Option Value) (base:Heap) (ad:Adr):Prop where
 d_is_whole:Def K mg "is_whole" YL ["thing"] ad.f_is_whole ad.e_is_whole
 d_is_whole_within:Def K mg "is_whole_within" xg ["thing","least","most"] ad.f_is_whole_within ad.e_is_whole_within
 d_is_place_count:Def K mg "is_place_count" xr ["thing"] ad.f_is_place_count ad.e_is_place_count
 d_is_place:Def K mg "is_place" YH ["many","thing"] ad.f_is_place ad.e_is_place
 d_are_counts:Def K mg "are_counts" vg ["many","thing"] ad.f_are_counts ad.e_are_counts
 d_is_pair:Def K mg "is_pair" Zx ["many","thing"] ad.f_is_pair ad.e_is_pair
 d_are_ties:Def K mg "are_ties" YQ ["many","thing"] ad.f_are_ties ad.e_are_ties
 d_is_web:Def K mg "is_web" Wf ["thing"] ad.f_is_web ad.e_is_web
 d_must_be_web:Def K mg "must_be_web" wR ["thing"] ad.f_must_be_web ad.e_must_be_web
 d_must_be_place:Def K mg "must_be_place" xO ["web","thing"] ad.f_must_be_place ad.e_must_be_place
 d_tie_between:Def K mg "tie_between" wP ["one","other"] ad.f_tie_between ad.e_tie_between
 d_neighbours:Def K mg "neighbours" vp ["web","place"] ad.f_neighbours ad.e_neighbours
 d_ties_away:Def K mg "ties_away" vW ["web","start"] ad.f_ties_away ad.e_ties_away
 d_pieces:Def K mg "pieces" XO ["web"] ad.f_pieces ad.e_pieces
 d_is_joined:Def K mg "is_joined" Yc ["web"] ad.f_is_joined ad.e_is_joined
 d_is_tree:Def K mg "is_tree" ZF ["web"] ad.f_is_tree ad.e_is_tree
 d_are_stones:Def K mg "are_stones" vF ["web","thing"] ad.f_are_stones ad.e_are_stones
 d_must_be_heap:Def K mg "must_be_heap" wu ["web","thing"] ad.f_must_be_heap ad.e_must_be_heap
 d_must_be_tree:Def K mg "must_be_tree" wt ["web"] ad.f_must_be_tree ad.e_must_be_tree
 d_outer_neighbours:Def K mg "outer_neighbours" yX ["web","root"] ad.f_outer_neighbours ad.e_outer_neighbours
 d_outwards:Def K mg "outwards" YD ["web","root"] ad.f_outwards ad.e_outwards
 d_must_be_rooted:Def K mg "must_be_rooted" xz ["web","heap","place"] ad.f_must_be_rooted ad.e_must_be_rooted
 d_gathered:Def K mg "gathered" YI ["heap","outer","carried","place"] ad.f_gathered ad.e_gathered
 d_carried_to:Def K mg "carried_to" vD ["web","heap","root"] ad.f_carried_to ad.e_carried_to
 d_carries:Def K mg "carries" Zr ["web","heap","place"] ad.f_carries ad.e_carries
 d_carry_holds:Def K mg "carry_holds" wQ ["web","heap","place","thing"] ad.f_carry_holds ad.e_carry_holds
 d__law_cell_at:Def K mg "_law_cell_at" wl ["script","k"] ad.f__law_cell_at ad.e__law_cell_at
 d__law_stir:Def K mg "_law_stir" vV ["cell","k"] ad.f__law_stir ad.e__law_stir
 d__law_tree_by:Def K mg "_law_tree_by" wz ["cell","most"] ad.f__law_tree_by ad.e__law_tree_by
 d__law_heap_by:Def K mg "_law_heap_by" wv ["many","cell","most"] ad.f__law_heap_by ad.e__law_heap_by
 d__law_behind:Def K mg "_law_behind" wO ["web","heap"] ad.f__law_behind ad.e__law_behind
 d__law_most_there:Def K mg "_law_most_there" xa ["web","heap","place"] ad.f__law_most_there ad.e__law_most_there
 d_law:Def K mg "law" zeD ["script"] ad.f_law ad.e_law
 g_MOST_PLACES:mg "MOST_PLACES"=some (Value.int 8 ad.t_MOST_PLACES)
 g_MOST_STONES:mg "MOST_STONES"=some (Value.int 300 ad.t_MOST_STONES)
 z_all:mg "all"=none
 z_bool:mg "bool"=none
 z_enumerate:mg "enumerate"=none
 z_int:mg "int"=none
 z_isinstance:mg "isinstance"=none
 z_len:mg "len"=none
 z_list:mg "list"=none
 z_max:mg "max"=none
 z_min:mg "min"=none
 z_range:mg "range"=none
 z_reversed:mg "reversed"=none
 z_sorted:mg "sorted"=none
 z_sum:mg "sum"=none
 z_tuple:mg "tuple"=none
 lc_outwards:ad.e_outwards.code=.ref ad.c_outwards
 la_outwards:WC base mg ad.c_outwards ad.p_outwards "outwards.<locals>.<lambda>"
theorem zm1:(["part","many","thing"]:List Str).Nodup:=by decide +kernel
theorem zm0:(["other","web","place"]:List Str).Nodup:=by decide +kernel
theorem zmr:(["place","web","found","start","away","piece"]:List Str).Nodup:=by decide +kernel
theorem zlI:(["a","b","web","heap","found","todo","here","·a","·b","other"]:List Str).Nodup:=by decide +kernel
theorem zna:(["other","web","heap","place"]:List Str).Nodup:=by decide +kernel
theorem zmu:(["other","web","root","away","outer","place"]:List Str).Nodup:=by decide +kernel
theorem zmP:(["other","heap","outer","carried","place"]:List Str).Nodup:=by decide +kernel
theorem zmJ:(["k","script","cell","web","heap","root","most","least","turn","paper","·k","at","less"]:List Str).Nodup:=by decide +kernel
def YV:D->Bool
 | .int _=>true
 | _=>false
def yc (d:D)(lo hi:Int):Bool:=match d with
 | .int i=>decide (lo<=i)&&decide (i<=hi)
 | _=>false
section
variable {P:Program}{w:World}{K:W.Frag}{mg:Str->Option Value}{base:Heap}{ad:Adr}
def zQ:List D->Option D
 | [d]=>if noS d=true then some (.bl (YV d))else none
 | _=>none
def Zt:SE->Ctl :=
 (y6 (ZS (eUn (vd .int) (zc 0)) (zbl (eUn (vd .bool) (zc 0)))))
def zdc:List D->Option D:=fnD 1 Zt
theorem zl5 {α:Type}{ds:List α}(h:ds.length=1):∃ a,ds=[a]:=by match ds,h with | [a],_=>exact⟨a,rfl⟩
theorem zdE {α:Type}{ds:List α}(h:ds.length=2):∃ a b,ds=[a,b]:=by match ds,h with | [a,b],_=>exact⟨a,b,rfl⟩
theorem len3 {α:Type}{ds:List α}(h:ds.length=3):∃ a b c,ds=[a,b,c]:=by match ds,h with | [a,b,c],_=>exact⟨a,b,c,rfl⟩
theorem ifS {c:Bool}{x y:D}(h:(if c=true then some x else none)=some y):c=true/\x=y:=by
 split at h
 .cases h
  exact⟨by assumption,rfl⟩
 .cases h
theorem zbL:∀ ds d,ds.length=1->zQ ds=some d->zdc ds=some d:=by
 intro ds d hl h
 obtain⟨a,rfl⟩:=zl5 hl
 obtain⟨hn,rfl⟩:=ifS h
 cases a <;> first | rfl | cases hn
theorem Wn (T:Txt K mg base ad):xo P w K mg base CX0 1 ad.f_is_whole ad.e_is_whole ["thing"] (@spD ⟨K⟩ 1 zQ):=by
 letI:KK:=⟨K⟩
 refine wj (yR (N:=["thing"]) (ps:=["thing"]) T.d_is_whole.fn zbG (g:=Zt) λcdv A outer s H E hr=>?_) zbL
 unfold Zt
 exact(zi (zE (ZX (vc .int rfl T.z_isinstance (edv 0) (ZJ (v:=.ty "int") rfl T.z_int zlf rfl)) (X1 (zkJ (vc .bool rfl T.z_isinstance (edv 0) (ZJ (v:=.ty "bool") rfl T.z_bool ziS rfl)))))))
def zY:SE->Ctl :=
 (y6 (ZS (zq 1 zQ (zb (zc 0) zr)) (xX leD leD (zc 1) (zc 0) (zc 2))))
def wY:List D->Option D:=fnD 3 zY
def zC:List D->Option D
 | [d,.int lo,.int hi]=>if noS d=true then some (.bl (yc d lo hi))else none
 | _=>none
theorem Vb {a:D}{lo hi:Int}(hn:noS a=true)(hw:YV a=false):wY [a,.int lo,.int hi]=some (.bl false):=by
 have e:zQ [a]=some (.bl false):=by
  show(if noS a=true then some (D.bl (YV a))else none)=_
  rw[u8 hn,hw]
 refine WK (ρ:=[.v a,.v (.int lo),.v (.int hi)]) rfl ?_
 unfold zY
 refine ZI (vC ?_) rfl
 show(((zQ [a]).bind asB).bind λc=>if c=true then _ else some (D.bl false))=_
 rw[e]
 rfl
theorem YX:∀ ds d,ds.length=3->zC ds=some d->wY ds=some d:=by
 intro ds d hl h
 obtain⟨a,b,c,rfl⟩:=len3 hl
 cases b <;> try cases h
 cases c <;> try cases h
 rename_i lo hi
 obtain⟨hn,rfl⟩:=ifS h
 cases a with
 | scr _=>cases hn
 | int i =>
  refine WK (ρ:=[.v (.int i),.v (.int lo),.v (.int hi)]) rfl ?_
  unfold zY
  refine ZI (vC ?_) rfl
  show(if decide (lo<=i)=true then some (D.bl (decide (i<=hi)))else some (.bl false))=some (.bl (decide (lo<=i)&&decide (i<=hi)))
  cases decide (lo<=i) <;> rfl
 | tup es=>exact Vb hn rfl
 | lst es=>exact Vb hn rfl
 | dct z t ks vs=>exact Vb hn rfl
 | non=>rfl
 | bl _=>rfl
 | str _=>rfl
theorem wF (T:Txt K mg base ad):xo P w K mg base CX0 2 ad.f_is_whole_within ad.e_is_whole_within ["thing","least","most"] (@spD ⟨K⟩ 3 zC):=by
 letI:KK:=⟨K⟩
 have G_is_whole:=Wn (P:=P) (w:=w) (base:=base) T
 refine wj (yR (N:=["thing","least","most"]) (ps:=["thing","least","most"]) T.d_is_whole_within.fn Zd (g:=zY) λcdv A outer s H E hr=>?_) YX
 unfold zY
 exact(zi (zE (ZX (zj G_is_whole hr rfl T.d_is_whole (za (edv 0) ze)) (X1 (zgW zdK zdK yj yj (edv 1) (edv 0) (edv 2) (λa b c=>zg0 zdK zdK a b c))))))
def yS:SE->Ctl :=
 (y6 (zq 3 zC (zb (zc 0) (zb (eC (.int 1)) (zb (eC (.int 8)) zr)))))
def xT:List D->Option D:=fnD 1 yS
def yg:List D->Option D
 | [d]=>if noS d=true then some (.bl (yc d 1 8))else none
 | _=>none
theorem ZM:∀ ds d,ds.length=1->yg ds=some d->xT ds=some d:=by
 intro ds d hl h
 obtain⟨a,rfl⟩:=zl5 hl
 have e:xT [a]=zC [a,.int 1,.int 8]:=by
  cases h2:zC [a,.int 1,.int 8] <;> simp[xT,yS,fnD,zO,y6,Zy,sIf,xE,Xd,sNo,yp,zdD,Za,Xg,zcX,ZP,vEv,visF,visG,Sl.f,Sl.g,zc,eC,zn,ZS,eOr,zbl,eIf,eUn,zbf,ZZ,ww,yw,zb,zr,zq,eFn,fFn,tOf,v6,Wo,xA,asB,asI,yd,Xs,vN,xJ,xK,V1,vL,ltD,leD,gtD,geD,VU,yl,xy,yB,xj,WR,ya,ixD,Xk,vd,isT,eSl,ZC,vy,xX,xP,iOf,XQ,xB,Wp,wB,WZ,wo,ZN,fLC,xU,zW,v5,y8,zaP,vK,zbg,b1,b2,h2]
 rw[e]
 exact h
theorem Zo (T:Txt K mg base ad):xo P w K mg base CX0 3 ad.f_is_place_count ad.e_is_place_count ["thing"] (@spD ⟨K⟩ 1 yg):=by
 letI:KK:=⟨K⟩
 have G_is_whole_within:=wF (P:=P) (w:=w) (base:=base) T
 refine wj (yR (N:=["thing"]) (ps:=["thing"]) T.d_is_place_count.fn ZB (g:=yS) λcdv A outer s H E hr=>?_) ZM
 unfold yS
 exact(zi (zE (zj G_is_whole_within hr rfl T.d_is_whole_within (za (edv 0) (za (zg zh) (za (zg (zfS (v:=.int 8) rfl T.g_MOST_PLACES ⟨_,rfl⟩)) ze))))))
def Yh:SE->Ctl :=
 (y6 (zq 3 zC (zb (zc 1) (zb (eC (.int 0)) (zb (zn Xs (zc 0) (eC (.int 1))) zr)))))
def Zs:List D->Option D:=fnD 2 Yh
def yh:List D->Option D
 | [.int m,d]=>if noS d=true then some (.bl (yc d 0 (m - 1)))else none
 | _=>none
theorem zbv:∀ ds d,ds.length=2->yh ds=some d->Zs ds=some d:=by
 intro ds d hl h
 obtain⟨a,b,rfl⟩:=zdE hl
 cases a <;> try cases h
 rename_i m
 have e:Zs [.int m,b]=zC [b,.int 0,.int (m - 1)]:=by
  cases h2:zC [b,.int 0,.int (m - 1)] <;> simp[Zs,Yh,fnD,zO,y6,Zy,sIf,xE,Xd,sNo,yp,zdD,Za,Xg,zcX,ZP,vEv,visF,visG,Sl.f,Sl.g,zc,eC,zn,ZS,eOr,zbl,eIf,eUn,zbf,ZZ,ww,yw,zb,zr,zq,eFn,fFn,tOf,v6,Wo,xA,asB,asI,yd,Xs,vN,xJ,xK,V1,vL,ltD,leD,gtD,geD,VU,yl,xy,yB,xj,WR,ya,ixD,Xk,vd,isT,eSl,ZC,vy,xX,xP,iOf,XQ,xB,Wp,wB,WZ,wo,ZN,fLC,xU,zW,v5,y8,zaP,vK,zbg,b1,b2,h2]
 rw[e]
 exact h
theorem XU (T:Txt K mg base ad):xo P w K mg base CX0 3 ad.f_is_place ad.e_is_place ["many","thing"] (@spD ⟨K⟩ 2 yh):=by
 letI:KK:=⟨K⟩
 have G_is_whole_within:=wF (P:=P) (w:=w) (base:=base) T
 refine wj (yR (N:=["many","thing"]) (ps:=["many","thing"]) T.d_is_place.fn zbt (g:=Yh) λcdv A outer s H E hr=>?_) zbv
 unfold Yh
 exact(zi (zE (zj G_is_whole_within hr rfl T.d_is_whole_within (za (edv 1) (za (zg zh) (za (WF (edv 0) (zg zh)) ze))))))
theorem zbj {m i:Int}:yc (.int i) 0 (m - 1)=inR m i:=rfl
theorem zjF {d:D}{lo hi:Int}(h:∀ i,d≠.int i):yc d lo hi=false:=by
 cases d <;> first | rfl | exact absurd rfl (h _)
theorem zaX {d:D}{lo hi:Int}(h:yc d lo hi=true):∃ i,d=.int i:=by
 cases d with
 | int i=>exact⟨i,rfl⟩
 | _=>cases h
def Zh:SE->Ctl :=
 (zO (sIf (Wo (xA (tOf (eUn (vd .tuple) (zc 1)))) (tOf (zn neD (eFn Xk (zb (zc 1) zr)) (eC (.int 2))))) (y6 (eC (.bl false))) yp)
  (y6 (ZS (zq 2 yh (zb (zc 0) (zb (zn ixD (zc 1) (eC (.int 0))) zr))) (ZS (zq 2 yh (zb (zc 0) (zb (zn ixD (zc 1) (eC (.int 1))) zr))) (zn neD (zn ixD (zc 1) (eC (.int 0))) (zn ixD (zc 1) (eC (.int 1))))))))
def zeR:List D->Option D:=fnD 2 Zh
def wf:List D->Option D
 | [.int m,d]=>if noS d=true then some (.bl (xR m d))else none
 | _=>none
theorem zg4 {m:Int}{x y:D}(h:yc x 0 (m - 1)=false):xR m (.tup [x,y])=false:=by
 cases x with
 | int i =>
  cases y with
  | int j =>
   show(inR m i&&inR m j&&!decide (i=j))=false
   rw[show inR m i=false from h]
   rfl
  | _=>rfl
 | _=>rfl
theorem zgQ {m:Int}{x y:D}(h:yc y 0 (m - 1)=false):xR m (.tup [x,y])=false:=by
 cases x with
 | int i =>
  cases y with
  | int j =>
   show(inR m i&&inR m j&&!decide (i=j))=false
   rw[show inR m j=false from h,u2v]
   rfl
  | _=>rfl
 | _=>rfl
theorem zcS:∀ ds d,ds.length=2->wf ds=some d->zeR ds=some d:=by
 intro ds d hl h
 obtain⟨a,b,rfl⟩:=zdE hl
 cases a <;> try cases h
 rename_i m
 obtain⟨hn,rfl⟩:=ifS h
 clear h
 cases b with
 | tup es =>
  refine WK (ρ:=[.v (.int m),.v (.tup es)]) rfl ?_
  unfold Zh
  by_cases hl:es.length=2
  .obtain⟨x,y,rfl⟩:=zdE hl
   have hx:noS x=true:=vA (ds:=[x,y]) (i:=0) hn rfl
   have hy:noS y=true:=vA (ds:=[x,y]) (i:=1) hn rfl
   have e0:yh [.int m,x]=some (.bl (yc x 0 (m - 1))):=by
    show(if noS x=true then some (D.bl (yc x 0 (m - 1)))else none)=_
    rw[u8 hx]
   have e1:yh [.int m,y]=some (.bl (yc y 0 (m - 1))):=by
    show(if noS y=true then some (D.bl (yc y 0 (m - 1)))else none)=_
    rw[u8 hy]
   refine zA (ρ':=[.v (.int m),.v (.tup [x,y])]) rfl (ZI (vC ?_) rfl)
   show(((yh [.int m,x]).bind asB).bind λc=>if c=true then (((yh [.int m,y]).bind asB).bind λc=>if c=true then neD x y else some (D.bl false))else some (D.bl false))=_
   rw[e0,e1]
   cases h1:yc x 0 (m - 1) with
   | false=>rw[zg4 h1];rfl
   | true =>
    cases h2:yc y 0 (m - 1) with
    | false=>rw[zgQ h2];rfl
    | true =>
     obtain⟨i,rfl⟩:=zaX h1
     obtain⟨j,rfl⟩:=zaX h2
     show some (D.bl (!decide (i=j)))=some (.bl (inR m i&&inR m j&&!decide (i=j)))
     rw[show inR m i=true from h1,show inR m j=true from h2]
     rfl
  .have e:xR m (.tup es)=false:=by
    unfold xR Yy
    split
    .rename_i t ht
     split at ht
     .rename_i e'
      injection e' with e'
      rw[e']at hl
      exact absurd rfl hl
     .cases ht
    .rfl
   rw[e]
   refine xw (VF (c:=true) ?_ (λ_=>ZI rfl rfl) λz=>by cases z)
   show some (!decide ((es.length:Int)=2))=_
   rw[p6 (show ¬ (es.length:Int)=2 from λh=>hl (Int.ofNat.inj h))]
   rfl
 | scr _=>cases hn
 | _=>rfl
theorem zda (T:Txt K mg base ad):xo P w K mg base CX0 4 ad.f_is_pair ad.e_is_pair ["many","thing"] (@spD ⟨K⟩ 2 wf):=by
 letI:KK:=⟨K⟩
 have G_is_place:=XU (P:=P) (w:=w) (base:=base) T
 refine wj (yR (N:=["many","thing"]) (ps:=["many","thing"]) T.d_is_pair.fn zdd (g:=Zh) λcdv A outer s H E hr=>?_) zcS
 unfold Zh
 exact(zd (wA (zh7 (zdx (YB (Yz (vc .tuple rfl T.z_isinstance (edv 1) (ZJ (v:=.ty "tuple") rfl T.z_tuple yF rfl)))) (WH (zV zfv zal (zN _) (zR yy YJ rfl T.z_len XB (za (edv 1) ze)) (zg zh))))) (zi (zE (vU v9))) zP)
  (zi (zE (ZX (zj G_is_place hr rfl T.d_is_place (za (edv 0) (za (zF (edv 1) (zg zh) (λ_ _=>rfl)) ze))) (ZX (zj G_is_place hr rfl T.d_is_place (za (edv 0) (za (zF (edv 1) (zg zh) (λ_ _=>rfl)) ze))) (X1 (za5 zfv zal (zN _) (zF (edv 1) (zg zh) (λ_ _=>rfl)) (zF (edv 1) (zg zh) (λ_ _=>rfl)))))))))
def zas (ds:List D):Nat->Option Tie
 | 0=>none
 | k+1=>(ds[k]?).bind Yy
def vP:SE->Ctl :=
 (zO (sIf (Wo (xA (tOf (zq 2 wf (zb (zc 0) (zb (zc 3) zr))))) (tOf (zn gtD (zn ixD (zc 3) (eC (.int 0))) (zn ixD (zc 3) (eC (.int 1)))))) (y6 (eC (.bl false))) yp)
  (sIf (v6 (tOf (zn gtD (zc 2) (eC (.int 0)))) (tOf (zn leT (zc 3) (zn ixD (zc 1) (zn Xs (zc 2) (eC (.int 1))))))) (y6 (eC (.bl false))) yp))
def wX:SE->Ctl :=
 (zO (sIf (xA (tOf (eUn (vd .tuple) (zc 1)))) (y6 (eC (.bl false))) yp)
  (zO (XQ (wo (zb (zc 1) zr)) (zaP 2 (vK (y8 2) (vK (y8 3) zbg))) vP)
  (y6 (eC (.bl true)))))
def zdC:List D->Option D:=fnD 4 wX
def w8:List D->Option D
 | [.int m,d]=>if noS d=true then some (.bl (Yn m d))else none
 | _=>none
theorem Wu {m:Int}{d:D}(h:xR m d=true):∃ t,d=zw t:=by
 unfold xR at h
 split at h
 .rename_i t ht
  exact⟨t,XC ht⟩
 .cases h
theorem zbC:∀ ds d,ds.length=2->w8 ds=some d->zdC ds=some d:=by
 intro ds d hl h
 obtain⟨a,b,rfl⟩:=zdE hl
 cases a <;> try cases h
 rename_i m
 obtain⟨hn,rfl⟩:=ifS h
 clear h hl
 cases b with
 | scr _=>cases hn
 | tup es =>
  refine WK (g:=wX) rfl ?_
  unfold wX
  refine zA rfl ?_
  refine xw (zc5 (ds:=W0 0 es) (λi ρ=>∃ o1 o2,ρ=[.v (.int m),.v (.tup es),o1,o2]/\ye m none es=ye m (zas es i) (es.drop i)/\∀ k,i=k+1->∃ p,es[k]?=some (zw p)) rfl
   ⟨.no,.no,rfl,rfl,λk e=>by cases e⟩ ?_ ?_)
  .rintro i d ρ hd ⟨o1,o2,rfl,hp,hk⟩
   rw[XZ]at hd
   obtain⟨dx,hdx,rfl⟩:=t8.mp hd
   rw[u1a]
   refine⟨_,rfl,?_⟩
   have hdrop:es.drop i=dx::es.drop (i+1):=by
    obtain⟨h1,h2⟩:=t7.mp hdx
    rw[u0p h1,h2]
   have hnx:noS dx=true:=vA hn hdx
   unfold vP
   cases hpr:xR m dx with
   | false =>
    have e1:wf [.int m,dx]=some (.bl false):=by
     show(if noS dx=true then some (D.bl (xR m dx))else none)=_
     rw[u8 hnx,hpr]
    refine xw (VF (c:=true) (show(((wf [.int m,dx]).bind asB).map (!·)).bind (λc=>if c=true then some true else _)=_ by rw[e1];rfl) (λ_=>ZI rfl ?_) (λz=>by cases z))
    have e:ye m none es=false:=by
     rw[hp,hdrop]
     unfold ye
     split
     .rw[hpr];rfl
     .rfl
    show D.bl false=.bl (ye m none es)
    rw[e]
   | true =>
    obtain⟨t,rfl⟩:=Wu hpr
    have e1:wf [.int m,zw t]=some (.bl true):=by
     show(if noS (zw t)=true then some (D.bl (xR m (zw t)))else none)=_
     rw[u8 hnx,hpr]
    have step:ye m none es=(!decide (t.2 < t.1)&&zad (zas es i) t&&ye m (some t) (es.drop (i+1))):=by
     rw[hp,hdrop]
     conv=>lhs;unfold ye
     rw[vY,hpr]
     rfl
    have prevS:zas es (i+1)=some t:=by
     show(es[i]?).bind Yy=some t
     rw[hdx]
     rfl
    refine xw (VF (c:=decide (t.2 < t.1)) (show(((wf [.int m,zw t]).bind asB).map (!·)).bind (λc=>if c=true then some true else some (decide (t.2 < t.1)))=_ by rw[e1];rfl) (λc=>ZI rfl ?_) (λc=>Zw rfl ?_))
    .show D.bl false=.bl (ye m none es)
     rw[step,c]
     rfl
    .cases i with
     | zero =>
      refine VF (c:=false) rfl (λz=>by cases z) (λ_=>Zw rfl ?_)
      refine⟨_,_,rfl,?_,λk e=>?_⟩
      .rw[prevS,step,c]
       rfl
      .cases e
       exact⟨t,hdx⟩
     | succ j =>
      obtain⟨p,hpk⟩:=hk j rfl
      have prevK:zas es (j+1)=some p:=by
       show(es[j]?).bind Yy=some p
       rw[hpk]
       rfl
      rw[prevK]at step
      have ea:atI es ((((j+1:Nat):Int)) - 1)=some (zw p):=by
       rw[show(((j+1:Nat):Int)) - 1=(j:Nat)from Int.add_sub_cancel (j:Int) 1]
       exact zeQ hpk
      have okP:zad (some p) t=!leP t p:=rfl
      refine VF (c:=leP t p) ?_ (λc2=>ZI rfl ?_) (λc2=>Zw rfl ?_)
      .have z:decide ((0:Int) < ((j+1:Nat):Int))=true:=d4 (Int.natCast_pos.mpr (Nat.succ_pos j))
       show((some (decide ((0:Int) < ((j+1:Nat):Int)))).bind λc=>if c=true then (((atI es (((j+1:Nat):Int) - 1)).bind λy=>leT (zw t) y).bind asB)else some false)=_
       rw[z,ea]
       rfl
      .show D.bl false=.bl (ye m none es)
       rw[step,okP,c2,c]
       rfl
      .refine⟨_,_,rfl,?_,λk' e=>?_⟩
       .rw[prevS,step,okP,c2,c]
        rfl
       .cases e
        exact⟨t,hdx⟩
  .rintro ρ ⟨o1,o2,rfl,hp,hk⟩
   refine ZI rfl ?_
   show D.bl true=.bl (ye m none es)
   rw[hp,Ya,u1W]
   cases zas es es.length <;> rfl
 | _=>rfl
theorem zbU (T:Txt K mg base ad):xo P w K mg base CX0 5 ad.f_are_ties ad.e_are_ties ["many","thing"] (@spD ⟨K⟩ 2 w8):=by
 letI:KK:=⟨K⟩
 have G_is_pair:=zda (P:=P) (w:=w) (base:=base) T
 refine wj (yR (N:=["many","thing","at","tie"]) (ps:=["many","thing"]) T.d_are_ties.fn YN (g:=wX) λcdv A outer s H E hr=>?_) zbC
 unfold wX vP
 exact(zd (wA (YB (Yz (vc .tuple rfl T.z_isinstance (edv 1) (ZJ (v:=.ty "tuple") rfl T.z_tuple yF rfl)))) (zi (zE (vU v9))) zP)
  (zd (WW u0a rfl (zjq rfl T.z_enumerate zaE (za (edv 1) ze)) (zh9 rfl (Xj (yK (zI (i:=2) YN.nd rfl (Or.inl rfl))) (Xj (yK (zI (i:=3) YN.nd rfl (Or.inl rfl))) zfo))) (zd (wA (zh7 (zdx (YB (Yz (zj G_is_pair hr rfl T.d_is_pair (za (edv 0) (za (edv 3) ze))))) (WH (zV zbN yj (zN _) (zF (edv 3) (zg zh) (λ_ _=>rfl)) (zF (edv 3) (zg zh) (λ_ _=>rfl)))))) (zi (zE (vU v9))) zP)
  (zi (wA (zh7 (zil (zV zbN yj (zN _) (edv 2) (zg zh)) (zfi (zV (zkZ hr.units0) ziB (zN _) (edv 3) (zF (edv 1) (WF (edv 2) (zg zh)) (λ_ _=>rfl)))))) (zi (zE (vU v9))) zP))))
  (zi (zE (vU v9)))))
def Yo:SE->Ctl :=
 (zO (sIf (Wo (xA (tOf (eUn (vd .tuple) (zc 0)))) (tOf (zn neD (eFn Xk (zb (zc 0) zr)) (eC (.int 2))))) (y6 (eC (.bl false))) yp)
  (y6 (ZS (zq 1 yg (zb (zn ixD (zc 0) (eC (.int 0))) zr)) (zq 2 w8 (zb (zn ixD (zc 0) (eC (.int 0))) (zb (zn ixD (zc 0) (eC (.int 1))) zr))))))
def Xr:List D->Option D:=fnD 1 Yo
def Zg:List D->Option D
 | [d]=>if noS d=true then some (.bl (wW d))else none
 | _=>none
theorem zfd {x y:D}:wW (.tup [x,y])=(yc x 1 8&&match x with | .int m=>Yn m y | _=>false):=by
 cases x <;> rfl
theorem zeF:∀ ds d,ds.length=1->Zg ds=some d->Xr ds=some d:=by
 intro ds d hl h
 obtain⟨a,rfl⟩:=zl5 hl
 obtain⟨hn,rfl⟩:=ifS h
 clear h hl
 cases a with
 | scr _=>cases hn
 | tup es =>
  by_cases hl:es.length=2
  .obtain⟨x,y,rfl⟩:=zdE hl
   have hx:noS x=true:=vA (ds:=[x,y]) (i:=0) hn rfl
   have hy:noS y=true:=vA (ds:=[x,y]) (i:=1) hn rfl
   have ec:yg [x]=some (.bl (yc x 1 8)):=by simp[yg,hx]
   rw[zfd]
   by_cases ix:∃ i,x=.int i
   .obtain⟨i,rfl⟩:=ix
    have et:w8 [.int i,y]=some (.bl (Yn i y)):=by simp[w8,hy]
    cases hc:yc (.int i) 1 8 <;> rw[hc]at ec <;> simp[Xr,Yo,fnD,zO,y6,Zy,sIf,xE,Xd,sNo,yp,zdD,Za,Xg,zcX,ZP,vEv,visF,visG,Sl.f,Sl.g,zc,eC,zn,ZS,eOr,zbl,eIf,eUn,zbf,ZZ,ww,yw,zb,zr,zq,eFn,fFn,tOf,v6,Wo,xA,asB,asI,yd,Xs,vN,xJ,xK,V1,vL,ltD,leD,gtD,geD,VU,yl,xy,yB,xj,WR,ya,ixD,Xk,vd,isT,eSl,ZC,vy,xX,xP,iOf,XQ,xB,Wp,wB,WZ,wo,ZN,fLC,xU,zW,v5,y8,zaP,vK,zbg,b1,b2,ec,et,atI,ixN]
   .have n2:yc x 1 8=false:=zjF λj hj=>ix ⟨j,hj⟩
    rw[n2]at ec ⊢
    simp[Xr,Yo,fnD,zO,y6,Zy,sIf,xE,Xd,sNo,yp,zdD,Za,Xg,zcX,ZP,vEv,visF,visG,Sl.f,Sl.g,zc,eC,zn,ZS,eOr,zbl,eIf,eUn,zbf,ZZ,ww,yw,zb,zr,zq,eFn,fFn,tOf,v6,Wo,xA,asB,asI,yd,Xs,vN,xJ,xK,V1,vL,ltD,leD,gtD,geD,VU,yl,xy,yB,xj,WR,ya,ixD,Xk,vd,isT,eSl,ZC,vy,xX,xP,iOf,XQ,xB,Wp,wB,WZ,wo,ZN,fLC,xU,zW,v5,y8,zaP,vK,zbg,b1,b2,ec,atI,ixN]
  .have e:wW (.tup es)=false:=ziL λm ties h _=>by
    unfold zx at h
    injection h with h
    rw[h]at hl
    exact hl rfl
   rw[e]
   have:¬ (es.length:Int)=2:=by omega
   simp[Xr,Yo,fnD,zO,y6,Zy,sIf,xE,Xd,sNo,yp,zdD,Za,Xg,zcX,ZP,vEv,visF,visG,Sl.f,Sl.g,zc,eC,zn,ZS,eOr,zbl,eIf,eUn,zbf,ZZ,ww,yw,zb,zr,zq,eFn,fFn,tOf,v6,Wo,xA,asB,asI,yd,Xs,vN,xJ,xK,V1,vL,ltD,leD,gtD,geD,VU,yl,xy,yB,xj,WR,ya,ixD,Xk,vd,isT,eSl,ZC,vy,xX,xP,iOf,XQ,xB,Wp,wB,WZ,wo,ZN,fLC,xU,zW,v5,y8,zaP,vK,zbg,b1,b2,this]
 | _=>rfl
theorem zed (T:Txt K mg base ad):xo P w K mg base CX0 6 ad.f_is_web ad.e_is_web ["thing"] (@spD ⟨K⟩ 1 Zg):=by
 letI:KK:=⟨K⟩
 have G_is_place_count:=Zo (P:=P) (w:=w) (base:=base) T
 have G_are_ties:=zbU (P:=P) (w:=w) (base:=base) T
 refine wj (yR (N:=["thing"]) (ps:=["thing"]) T.d_is_web.fn ze7 (g:=Yo) λcdv A outer s H E hr=>?_) zeF
 unfold Yo
 exact(zd (wA (zh7 (zdx (YB (Yz (vc .tuple rfl T.z_isinstance (edv 0) (ZJ (v:=.ty "tuple") rfl T.z_tuple yF rfl)))) (WH (zV zfv zal (zN _) (zR yy YJ rfl T.z_len XB (za (edv 0) ze)) (zg zh))))) (zi (zE (vU v9))) zP)
  (zi (zE (ZX (zj G_is_place_count hr rfl T.d_is_place_count (za (zF (edv 0) (zg zh) (λ_ _=>rfl)) ze)) (X1 (zj G_are_ties hr rfl T.d_are_ties (za (zF (edv 0) (zg zh) (λ_ _=>rfl)) (za (zF (edv 0) (zg zh) (λ_ _=>rfl)) ze))))))))
theorem ziU (m:Int)(ts:List Tie):noS (zx m ts)=true:=by
 have:∀ ts:List Tie,zf8 (ts.map zw)=true:=by
  intro ts
  induction ts with
  | nil=>rfl
  | cons t ts ih=>show(noS (zw t)&&zf8 (ts.map zw))=true;rw[ih];rfl
 show(noS (.int m)&&(noS (.tup (ts.map zw))&&true))=true
 rw[show noS (.tup (ts.map zw))=zf8 (ts.map zw)from rfl,this ts]
 rfl
def x9:SE->Ctl :=
 (sIf (xA (tOf (zq 1 Zg (zb (zc 0) zr)))) sNo yp)
def Zb:List D->Option D:=fnD 1 x9
def zS:List D->Option D
 | [d]=>if wW d=true then some .non else none
 | _=>none
theorem Wr:∀ ds d,ds.length=1->zS ds=some d->Zb ds=some d:=by
 intro ds d hl h
 obtain⟨a,rfl⟩:=zl5 hl
 obtain⟨hw,rfl⟩:=ifS h
 obtain⟨m,ts,rfl,_⟩:=(xu a).mp hw
 have e:Zg [zx m ts]=some (.bl true):=by simp[Zg,ziU m ts,hw]
 simp[Zb,x9,fnD,zO,y6,Zy,sIf,xE,Xd,sNo,yp,zdD,Za,Xg,zcX,ZP,vEv,visF,visG,Sl.f,Sl.g,zc,eC,zn,ZS,eOr,zbl,eIf,eUn,zbf,ZZ,ww,yw,zb,zr,zq,eFn,fFn,tOf,v6,Wo,xA,asB,asI,yd,Xs,vN,xJ,xK,V1,vL,ltD,leD,gtD,geD,VU,yl,xy,yB,xj,WR,ya,ixD,Xk,vd,isT,eSl,ZC,vy,xX,xP,iOf,XQ,xB,Wp,wB,WZ,wo,ZN,fLC,xU,zW,v5,y8,zaP,vK,zbg,b1,b2,e]
theorem Yx (T:Txt K mg base ad):xo P w K mg base CX0 7 ad.f_must_be_web ad.e_must_be_web ["thing"] (@spD ⟨K⟩ 1 zS):=by
 letI:KK:=⟨K⟩
 have G_is_web:=zed (P:=P) (w:=w) (base:=base) T
 refine wj (yR (N:=["thing"]) (ps:=["thing"]) T.d_must_be_web.fn Wz (g:=x9) λcdv A outer s H E hr=>?_) Wr
 unfold x9
 exact(zi (wA (YB (Yz (zj G_is_web hr rfl T.d_is_web (za (edv 0) ze)))) (zi Xh) zP))
def xk:D->Bool
 | .int i=>decide (0<=i)
 | _=>false
def zkr:D->Int
 | .int i=>i
 | _=>0
def zH (m:Int):D->Bool
 | .tup ds=>decide ((ds.length:Int)=m)&&ds.all xk
 | _=>false
theorem zge {α:Type}(f:α->Bool)(l:List α):zko [.lst (l.map λx=>.bl (f x))]=some (.bl (l.all f)):=by
 have:zjd (l.map λx=>D.bl (f x))=some (l.map f):=by
  have:=zhy (l.map f)
  rwa[u0z]at this
 show((zjd (l.map λx=>D.bl (f x))).bind λbs=>some (D.bl (bs.all id)))=_
 rw[this]
 show some (D.bl ((l.map f).all id))=_
 rw[u1E]
 rfl
theorem XS {ds:List D}(h:ds.all xk=true):∃ ns:List Int,ds=ns.map .int/\∀ n∈ns,0<=n:=by
 induction ds with
 | nil=>exact⟨[],rfl,by simp⟩
 | cons d ds ih =>
  rw[u2E,p4]at h
  obtain⟨ns,rfl,hn⟩:=ih h.2
  cases d with
  | int i=>exact⟨i::ns,rfl,λn hm=>by
   rcases d7.mp hm with rfl | hm
   .exact b7 h.1
   .exact hn n hm⟩
  | _=>exact absurd h.1 u4
theorem zaK {ns:List Int}(h:∀ n∈ns,0<=n):(ns.map D.int).all xk=true:=by
 rw[u1E,u0C]
 exact λn hn=>d4 (h n hn)
theorem zee (ns:List Int):zkX [.tup (ns.map .int)]=some (.int ns.sum):=by
 show((zcs (ns.map .int)).bind λns=>some (D.int ns.sum))=_
 rw[Vu]
 rfl
def y3:SE->Ctl :=
 (zO (sIf (Wo (xA (tOf (eUn (vd .tuple) (zc 1)))) (tOf (zn neD (eFn Xk (zb (zc 1) zr)) (zc 0)))) (y6 (eC (.bl false))) yp)
  (y6 (eFn zko (zb (ww (fLC (iOf (zc 1)) b1 xU (ZS (zq 1 zQ (zb (zc 0) zr)) (zn geD (zc 0) (eC (.int 0)))))) zr))))
def Z0:List D->Option D:=fnD 2 y3
def yz:List D->Option D
 | [.int m,d]=>if (noS d&&decide (m<=1000))=true then some (.bl (zH m d))else none
 | _=>none
theorem zj8 {d:D}(hn:noS d=true):((zQ [d]).bind asB).bind (λc=>if c=true then geD d (.int 0)else some (.bl false))=some (.bl (xk d)):=by
 cases d with
 | scr _=>cases hn
 | tup _=>simp[zQ,hn,YV,asB,xk]
 | lst _=>simp[zQ,hn,YV,asB,xk]
 | _=>rfl
theorem Vs:∀ ds d,ds.length=2->yz ds=some d->Z0 ds=some d:=by
 intro ds d hl h
 obtain⟨a,b,rfl⟩:=zdE hl
 cases a <;> try cases h
 rename_i m
 obtain⟨hn,rfl⟩:=ifS h
 clear h hl
 rw[p4,r8]at hn
 obtain⟨hn,hm⟩:=hn
 cases b with
 | scr _=>cases hn
 | tup es =>
  by_cases hl:(es.length:Int)=m
  .have e:fLC (iOf (zc 1)) b1 xU (ZS (zq 1 zQ (zb (zc 0) zr)) (zn geD (zc 0) (eC (.int 0)))) [some (.int m),some (.tup es)]=some (es.map λd=>.bl (xk d)):=by
    unfold fLC
    show(if lim es.length=true then _ else none)=_
    rw[u8 (wn (by omega))]
    have:=ZD (b:=b1) (t:=xU) (f:=ZS (zq 1 zQ (zb (zc 0) zr)) (zn geD (zc 0) (eC (.int 0)))) (ρ:=[some (.int m),some (.tup es)]) id (λd=>.bl (xk d)) es
     (λd hd=>⟨[some d],rfl,rfl,zj8 (by obtain⟨j,hj,rfl⟩:=p8 hd;exact vA (i:=j) hn (by simp[hj]))⟩)
    rwa[u3e]at this
   show fnD 2 y3 _=_
   refine WK rfl ?_
   unfold y3
   refine xw (VF (c:=false) (by simp[fnD,zO,y6,Zy,sIf,xE,Xd,sNo,yp,zdD,Za,Xg,zcX,ZP,vEv,visF,visG,Sl.f,Sl.g,zc,eC,zn,ZS,eOr,zbl,eIf,eUn,zbf,ZZ,ww,yw,zb,zr,zq,eFn,fFn,tOf,v6,Wo,xA,asB,asI,yd,Xs,vN,xJ,xK,V1,vL,ltD,leD,gtD,geD,VU,yl,xy,yB,xj,WR,ya,ixD,Xk,vd,isT,eSl,ZC,vy,xX,xP,iOf,XQ,xB,Wp,wB,WZ,wo,ZN,fLC,xU,zW,v5,y8,zaP,vK,zbg,b1,b2,hl]) (λz=>by cases z) λ_=>Zw rfl (ZI (d:=.bl (es.all xk)) ?_ ?_))
   .show(match (((fLC (iOf (zc 1)) b1 xU (ZS (zq 1 zQ (zb (zc 0) zr)) (zn geD (zc 0) (eC (.int 0)))) [some (.int m),some (.tup es)]).map D.lst).bind λd=>(some []:Option (List D)).map (d::·)).bind zko with | some d=>Ctl.rt d | none=>Ctl.no)=_
    rw[e]
    show(match zko [.lst (es.map λd=>.bl (xk d))]with | some d=>Ctl.rt d | none=>Ctl.no)=_
    rw[zge]
   .show D.bl (es.all xk)=.bl (decide ((es.length:Int)=m)&&es.all xk)
    rw[d4 hl,Bool.true_and]
  .have e:zH m (.tup es)=false:=by
    show(decide ((es.length:Int)=m)&&es.all xk)=false
    rw[p6 hl,Bool.false_and]
   rw[e]
   simp[Z0,y3,fnD,zO,y6,Zy,sIf,xE,Xd,sNo,yp,zdD,Za,Xg,zcX,ZP,vEv,visF,visG,Sl.f,Sl.g,zc,eC,zn,ZS,eOr,zbl,eIf,eUn,zbf,ZZ,ww,yw,zb,zr,zq,eFn,fFn,tOf,v6,Wo,xA,asB,asI,yd,Xs,vN,xJ,xK,V1,vL,ltD,leD,gtD,geD,VU,yl,xy,yB,xj,WR,ya,ixD,Xk,vd,isT,eSl,ZC,vy,xX,xP,iOf,XQ,xB,Wp,wB,WZ,wo,ZN,fLC,xU,zW,v5,y8,zaP,vK,zbg,b1,b2,hl]
 | _=>rfl
theorem Y4 (T:Txt K mg base ad):xo P w K mg base CX0 2 ad.f_are_counts ad.e_are_counts ["many","thing"] (@spD ⟨K⟩ 2 yz):=by
 letI:KK:=⟨K⟩
 have G_is_whole:=Wn (P:=P) (w:=w) (base:=base) T
 refine wj (yR (N:=["many","thing"]) (ps:=["many","thing"]) T.d_are_counts.fn VO (g:=y3) λcdv A outer s H E hr=>?_) Vs
 unfold y3
 exact(zd (wA (zh7 (zdx (YB (Yz (vc .tuple rfl T.z_isinstance (edv 1) (ZJ (v:=.ty "tuple") rfl T.z_tuple yF rfl)))) (WH (zV zfv zal (zN _) (zR yy YJ rfl T.z_len XB (za (edv 1) ze)) (edv 0))))) (zi (zE (vU v9))) zP)
  (zi (zE (zR (zeS rfl) zjM rfl T.z_all zkV (za (vM (zcQ (L:=["part"]) (M:=["many","thing"]) rfl (ZT (by rfl) (by rfl) (by rfl) (by with_unfolding_all rfl) (by rfl) (by rfl) (by kernel_rfl) vm) (Ze (edv 1)) gs1 rb1 (λ_ _ _ _=>(zI (i:=0) zm1 rfl (Or.inl rfl) (.inr rfl))) (λ_ _ _ _=>(ZX (zj G_is_whole hr rfl T.d_is_whole (za (edv 0) ze)) (X1 (za5 znc yj (zN _) (edv 0) (zg zh))))))) ze)))))
def YM (m:Int):D->Bool
 | .tup ds=>zH m (.tup ds)&&decide ((ds.map zkr).sum<=300)
 | _=>false
theorem ZG (ns:List Int):(ns.map D.int).map zkr=ns:=by rw[u0z];exact(u0y λ_ _=>rfl).trans (u3e _)
def xI:SE->Ctl :=
 (y6 (ZS (zq 2 yz (zb (zn ixD (zc 0) (eC (.int 0))) (zb (zc 1) zr))) (zn leD (eFn zkX (zb (zc 1) zr)) (eC (.int 300)))))
def vQ:List D->Option D:=fnD 2 xI
def y4:List D->Option D
 | [.tup [.int m,_],d]=>if (noS d&&decide (m<=1000))=true then some (.bl (YM m d))else none
 | _=>none
theorem W3:∀ ds d,ds.length=2->y4 ds=some d->vQ ds=some d:=by
 intro ds d hl h
 obtain⟨a,b,rfl⟩:=zdE hl
 unfold y4 at h
 split at h
 .rename_i m t b' e
  injection e with e1 e2
  injection e2 with e2 _
  subst e1 e2
  obtain⟨hn,rfl⟩:=ifS h
  have ec:yz [.int m,b]=some (.bl (zH m b)):=by simp only[yz];rw[u8 hn]
  cases hc:zH m b with
  | false =>
   rw[hc]at ec
   have e3:YM m b=false:=by
    cases b <;> try rfl
    show(zH m _&&_)=false
    rw[hc]
    rfl
   rw[e3]
   simp[vQ,xI,fnD,zO,y6,Zy,sIf,xE,Xd,sNo,yp,zdD,Za,Xg,zcX,ZP,vEv,visF,visG,Sl.f,Sl.g,zc,eC,zn,ZS,eOr,zbl,eIf,eUn,zbf,ZZ,ww,yw,zb,zr,zq,eFn,fFn,tOf,v6,Wo,xA,asB,asI,yd,Xs,vN,xJ,xK,V1,vL,ltD,leD,gtD,geD,VU,yl,xy,yB,xj,WR,ya,ixD,Xk,vd,isT,eSl,ZC,vy,xX,xP,iOf,XQ,xB,Wp,wB,WZ,wo,ZN,fLC,xU,zW,v5,y8,zaP,vK,zbg,b1,b2,ec,atI,ixN]
  | true =>
   rw[hc]at ec
   cases b with
   | tup es =>
    have h2:es.all xk=true:=by
     unfold zH at hc
     rw[p4]at hc
     exact hc.2
    obtain⟨ns,rfl,hns⟩:=XS h2
    have e3:YM m (.tup (ns.map .int))=decide (ns.sum<=300):=by
     show(zH m _&&decide (((ns.map D.int).map zkr).sum<=300))=_
     rw[hc,ZG,Bool.true_and]
    rw[e3]
    simp[vQ,xI,fnD,zO,y6,Zy,sIf,xE,Xd,sNo,yp,zdD,Za,Xg,zcX,ZP,vEv,visF,visG,Sl.f,Sl.g,zc,eC,zn,ZS,eOr,zbl,eIf,eUn,zbf,ZZ,ww,yw,zb,zr,zq,eFn,fFn,tOf,v6,Wo,xA,asB,asI,yd,Xs,vN,xJ,xK,V1,vL,ltD,leD,gtD,geD,VU,yl,xy,yB,xj,WR,ya,ixD,Xk,vd,isT,eSl,ZC,vy,xX,xP,iOf,XQ,xB,Wp,wB,WZ,wo,ZN,fLC,xU,zW,v5,y8,zaP,vK,zbg,b1,b2,ec,zee,atI,ixN]
   | _=>cases hc
 .cases h
theorem Vt (T:Txt K mg base ad):xo P w K mg base CX0 3 ad.f_are_stones ad.e_are_stones ["web","thing"] (@spD ⟨K⟩ 2 y4):=by
 letI:KK:=⟨K⟩
 have G_are_counts:=Y4 (P:=P) (w:=w) (base:=base) T
 refine wj (yR (N:=["web","thing"]) (ps:=["web","thing"]) T.d_are_stones.fn Vo (g:=xI) λcdv A outer s H E hr=>?_) W3
 unfold xI
 exact(zi (zE (ZX (zj G_are_counts hr rfl T.d_are_counts (za (zF (edv 0) (zg zh) (λ_ _=>rfl)) (za (edv 1) ze))) (X1 (za5 zdK yj (zN _) (zR (V4 rfl) zdZ rfl T.z_sum zhV (za (edv 1) ze)) (zg (zfS (v:=.int 300) rfl T.g_MOST_STONES ⟨_,rfl⟩)))))))
theorem Xb {m:Int}{ts:List Tie}(h:zD m ts):wB [.int m]=some (Z4 0 m.toNat):=by
 have:=h.lo
 have:=h.hi
 show(if zf5 m=true then some (Z4 0 m.toNat)else none)=_
 rw[u8 (yH.mpr ⟨by omega,by omega⟩)]
def xC:SE->Ctl :=
 (sIf (xA (tOf (zq 2 y4 (zb (zc 0) (zb (zc 1) zr))))) sNo yp)
def YC:List D->Option D:=fnD 2 xC
def yL:List D->Option D
 | [.tup [.int m,_],d]=>if (noS d&&decide (m<=1000)&&YM m d)=true then some .non else none
 | _=>none
theorem X7:∀ ds d,ds.length=2->yL ds=some d->YC ds=some d:=by
 intro ds d hl h
 obtain⟨a,b,rfl⟩:=zdE hl
 unfold yL at h
 split at h
 .rename_i m t b' e
  injection e with e1 e2
  injection e2 with e2 _
  subst e1 e2
  obtain⟨hn,rfl⟩:=ifS h
  rw[p4]at hn
  have ec:y4 [.tup [.int m,t],b]=some (.bl true):=by simp only[y4];rw[u8 hn.1,hn.2]
  simp[YC,xC,fnD,zO,y6,Zy,sIf,xE,Xd,sNo,yp,zdD,Za,Xg,zcX,ZP,vEv,visF,visG,Sl.f,Sl.g,zc,eC,zn,ZS,eOr,zbl,eIf,eUn,zbf,ZZ,ww,yw,zb,zr,zq,eFn,fFn,tOf,v6,Wo,xA,asB,asI,yd,Xs,vN,xJ,xK,V1,vL,ltD,leD,gtD,geD,VU,yl,xy,yB,xj,WR,ya,ixD,Xk,vd,isT,eSl,ZC,vy,xX,xP,iOf,XQ,xB,Wp,wB,WZ,wo,ZN,fLC,xU,zW,v5,y8,zaP,vK,zbg,b1,b2,ec]
 .cases h
theorem Xx (T:Txt K mg base ad):xo P w K mg base CX0 4 ad.f_must_be_heap ad.e_must_be_heap ["web","thing"] (@spD ⟨K⟩ 2 yL):=by
 letI:KK:=⟨K⟩
 have G_are_stones:=Vt (P:=P) (w:=w) (base:=base) T
 refine wj (yR (N:=["web","thing"]) (ps:=["web","thing"]) T.d_must_be_heap.fn X9 (g:=xC) λcdv A outer s H E hr=>?_) X7
 unfold xC
 exact(zi (wA (YB (Yz (zj G_are_stones hr rfl T.d_are_stones (za (edv 0) (za (edv 1) ze))))) (zi Xh) zP))
theorem zaM {m:Int}{ts:List Tie}(h:zD m ts):decide (m<=1000)=true:=d4 (by have:=h.hi;omega)
def zi6:D->Int
 | .tup [.int m,_]=>m
 | _=>0
def ziM:D->List Tie
 | .tup [_,.tup l]=>(V5 l).getD []
 | _=>[]
theorem X3 (m:Int)(ts:List Tie):zi6 (zx m ts)=m:=rfl
theorem zeN (ts:List Tie):ts.map zw=ts.map prD:=rfl
theorem X4 (m:Int)(ts:List Tie):ziM (zx m ts)=ts:=by
 show(V5 (ts.map zw)).getD []=ts
 rw[zeN,za2]
 rfl
def vO (a b:Int):Tie:=(if b < a then b else a,if b > a then b else a)
def xh:SE->Ctl :=
 (sIf (xA (tOf (zq 2 yh (zb (zn ixD (zc 0) (eC (.int 0))) (zb (zc 1) zr))))) sNo yp)
def vZ:List D->Option D:=fnD 2 xh
def yu:List D->Option D
 | [.tup [.int m,_],.int p]=>if (decide (0<=p)&&decide (p<=m - 1))=true then some .non else none
 | _=>none
theorem Z8:∀ ds d,ds.length=2->yu ds=some d->vZ ds=some d:=by
 intro ds d hl h
 obtain⟨a,b,rfl⟩:=zdE hl
 unfold yu at h
 split at h
 .rename_i m t p' e
  injection e with e1 e2
  injection e2 with e2 _
  subst e1 e2
  obtain⟨hn,rfl⟩:=ifS h
  have ec:yh [.int m,.int p']=some (.bl true):=by
   show(if noS (.int p')=true then some (D.bl (yc (.int p') 0 (m - 1)))else none)=_
   rw[u8 (show noS (.int p')=true from rfl),zbj]
   unfold inR
   rw[hn]
  simp[vZ,xh,fnD,zO,y6,Zy,sIf,xE,Xd,sNo,yp,zdD,Za,Xg,zcX,ZP,vEv,visF,visG,Sl.f,Sl.g,zc,eC,zn,ZS,eOr,zbl,eIf,eUn,zbf,ZZ,ww,yw,zb,zr,zq,eFn,fFn,tOf,v6,Wo,xA,asB,asI,yd,Xs,vN,xJ,xK,V1,vL,ltD,leD,gtD,geD,VU,yl,xy,yB,xj,WR,ya,ixD,Xk,vd,isT,eSl,ZC,vy,xX,xP,iOf,XQ,xB,Wp,wB,WZ,wo,ZN,fLC,xU,zW,v5,y8,zaP,vK,zbg,b1,b2,ec,atI,ixN]
 .cases h
theorem Z6 (T:Txt K mg base ad):xo P w K mg base CX0 4 ad.f_must_be_place ad.e_must_be_place ["web","thing"] (@spD ⟨K⟩ 2 yu):=by
 letI:KK:=⟨K⟩
 have G_is_place:=XU (P:=P) (w:=w) (base:=base) T
 refine wj (yR (N:=["web","thing"]) (ps:=["web","thing"]) T.d_must_be_place.fn Xa (g:=xh) λcdv A outer s H E hr=>?_) Z8
 unfold xh
 exact(zi (wA (YB (Yz (zj G_is_place hr rfl T.d_is_place (za (zF (edv 0) (zg zh) (λ_ _=>rfl)) (za (edv 1) ze))))) (zi Xh) zP))
theorem zdk {m:Int}{ts:List Tie}{p:Int}(hp:0<=p/\p < m):yu [zx m ts,.int p]=some .non:=by
 show(if (decide (0<=p)&&decide (p<=m - 1))=true then some D.non else none)=_
 rw[d4 hp.1,d4 (by omega)]
 rfl
def vn:SE->Ctl :=
 (y6 (ZZ (zb (eFn zgP (zb (zc 0) (zb (zc 1) zr))) (zb (eFn VS (zb (zc 0) (zb (zc 1) zr))) zr))))
def VT:List D->Option D:=fnD 2 vn
def y9:List D->Option D
 | [.int a,.int b]=>some (zw (vO a b))
 | _=>none
theorem Ww:∀ ds d,ds.length=2->y9 ds=some d->VT ds=some d:=by
 intro ds d hl h
 obtain⟨a,b,rfl⟩:=zdE hl
 cases a <;> try cases h
 cases b <;> try cases h
 rfl
theorem Wq (T:Txt K mg base ad):xo P w K mg base CX0 1 ad.f_tie_between ad.e_tie_between ["one","other"] (@spD ⟨K⟩ 2 y9):=by
 letI:KK:=⟨K⟩
 refine wj (yR (N:=["one","other"]) (ps:=["one","other"]) T.d_tie_between.fn Wx (g:=vn) λcdv A outer s H E hr=>?_) Ww
 unfold vn
 exact(zi (zE (zak (za (zR (zbd rfl) zcE rfl T.z_min zic (za (edv 0) (za (edv 1) ze))) (za (zR (Zk rfl) Xn rfl T.z_max zao (za (edv 0) (za (edv 1) ze))) ze)))))
theorem ze4 (ts:List Tie):(ts.map zw).all (okE 20)=true:=by
 rw[u1E,u0C]
 exact λt _=>rfl
theorem zcj (s t:Tie):eqN 20 (zw s) (zw t)=decide (s=t):=by
 have:eqN 20 (zw s) (zw t)=((s.1 == t.1)&&((s.2 == t.2)&&true)&&true):=rfl
 rw[this,u3c,u3c]
 by_cases h:s=t
 .subst h
  simp
 .rw[p6 h,Bool.and_eq_false_iff]
  by_cases h1:s.1=t.1
  .exact .inr (u1e.mpr λh2=>h (u3h h1 h2))
  .exact .inl (u1e.mpr h1)
theorem zgH (t:Tie)(ts:List Tie):inD (zw t) (.tup (ts.map zw))=some (.bl (decide (t∈ts))):=by
 show(zkL (zw t) (ts.map zw)).map D.bl=_
 unfold zkL
 rw[u8 ⟨rfl,ze4 ts⟩]
 show some (D.bl ((ts.map zw).any λe=>eqN 20 e (zw t)))=_
 rw[List.any_map]
 congr 2
 rw[u2e,List.any_eq_true,r8]
 constructor
 .rintro⟨s,hs,h⟩
  have h:eqN 20 (zw s) (zw t)=true:=h
  rw[zcj,r8]at h
  subst h
  exact hs
 .exact λh=>⟨t,h,by show eqN 20 (zw t) (zw t)=true;rw[zcj];exact d4 rfl⟩
def nbN (m:Int)(ts:List Tie)(p:Int):List Nat:=(List.range m.toNat).filter λk:Nat=>decide (vO p k∈ts)
def wd (k:Nat):D:=.int ((0:Int)+(k:Int))
def wG:SE->Ctl :=
 (y6 (ww (fLC (Wp wB (zb (zn ixD (zc 0) (eC (.int 0))) zr)) b1 (tOf (zn inD (zq 2 y9 (zb (zc 2) (zb (zc 0) zr))) (zn ixD (zc 1) (eC (.int 1))))) (zc 0))))
def za1:List D->Option D:=fnD 2 wG
def zM:List D->Option D
 | [w,.int p]=>if wW w=true then some (.lst ((nbN (zi6 w) (ziM w) p).map wd))else none
 | _=>none
theorem Vl:∀ ds d,ds.length=2->zM ds=some d->za1 ds=some d:=by
 intro ds d hl h
 obtain⟨a,b,rfl⟩:=zdE hl
 cases b <;> try cases h
 rename_i p
 obtain⟨hw,rfl⟩:=ifS h
 obtain⟨m,ts,rfl,ok⟩:=(xu a).mp hw
 rw[X3,X4]
 refine WK rfl ?_
 unfold wG
 refine ZI (d:=.lst ((nbN m ts p).map wd)) ?_ rfl
 have e:fLC (Wp wB (zb (zn ixD (zc 0) (eC (.int 0))) zr)) b1 (tOf (zn inD (zq 2 y9 (zb (zc 2) (zb (zc 0) zr))) (zn ixD (zc 1) (eC (.int 1))))) (zc 0) [some (zx m ts),some (.int p)]=some ((nbN m ts p).map wd):=by
  unfold fLC
  show((wB [.int m]).bind λds=>if lim ds.length=true then _ else none)=_
  rw[Xb ok]
  show(if lim (Z4 0 m.toNat).length=true then _ else none)=_
  rw[u8 (wn (by rw[YR];have:=ok.hi;omega))]
  refine Yr (c:=wd) (p:=λk=>decide (vO p k∈ts)) (y:=wd) (List.range m.toNat) λk hk=>⟨[some (wd k)],rfl,?_,λ_=>rfl⟩
  show((inD (zw (vO p (0+(k:Int)))) (.tup (ts.map zw))).bind asB)=_
  rw[u18,zgH]
  rfl
 show(match ((fLC (Wp wB (zb (zn ixD (zc 0) (eC (.int 0))) zr)) b1 (tOf (zn inD (zq 2 y9 (zb (zc 2) (zb (zc 0) zr))) (zn ixD (zc 1) (eC (.int 1))))) (zc 0) [some (zx m ts),some (.int p)]).map D.lst)with | some d=>Ctl.rt d | none=>Ctl.no)=_
 rw[e]
 rfl
theorem Zn (T:Txt K mg base ad):xo P w K mg base CX0 2 ad.f_neighbours ad.e_neighbours ["web","place"] (@spD ⟨K⟩ 2 zM):=by
 letI:KK:=⟨K⟩
 have G_tie_between:=Wq (P:=P) (w:=w) (base:=base) T
 refine wj (yR (N:=["web","place"]) (ps:=["web","place"]) T.d_neighbours.fn VD (g:=wG) λcdv A outer s H E hr=>?_) Vl
 unfold wG
 exact(zi (zE (vM (ze0 (L:=["other"]) (M:=["web","place"]) rfl (ZT (by rfl) (by rfl) (by rfl) (by with_unfolding_all rfl) (by rfl) (by rfl) (by kernel_rfl) (all_cons rfl (all_cons rfl vm))) (Wh rfl T.z_range (za (zF (edv 0) (zg zh) (λ_ _=>rfl)) ze)) gs1 rb1 (λ_ _ _ _=>(zI (i:=0) zm0 rfl (Or.inl rfl) (.inr rfl))) (λ_ _ _ _=>(zV (zkm hr) zlx (by with_unfolding_all rfl) (zj G_tie_between hr rfl T.d_tie_between (za (edv 2) (za (edv 0) ze))) (zF (edv 1) (zg zh) (λ_ _=>rfl)))) (λ_ _ _ _=>(edv 0))))))
def zei (m:Int)(ts:List Tie)(i:Nat):List Tie:=(List.range i).flatMap λk:Nat=>(nbN m ts k).map λo:Nat=>((0:Int)+(k:Int),(0:Int)+(o:Int))
def yO (m:Int)(ts:List Tie):List Tie:=zei m ts m.toNat
theorem zcY {m:Int}{ts:List Tie}{p:Int}(h:zD m ts):(nbN m ts p).length<=8:=by
 refine u0t (List.length_filter_le _ _) ?_
 rw[u0R]
 have:=h.hi
 omega
theorem zdh {m:Int}{ns:List Int}(h1:(ns.length:Int)=m)(h2:∀ n∈ns,0<=n)(h3:ns.sum<=300):YM m (.tup (ns.map .int))=true:=by
 unfold YM zH
 rw[p4,p4,r8,r8,ZG,u6]
 exact⟨⟨h1,zaK h2⟩,h3⟩
theorem VA (ns:List Int):noS (.tup (ns.map .int))=true:=by
 show zf8 (ns.map .int)=true
 induction ns with
 | nil=>rfl
 | cons n ns ih=>show(noS (.int n)&&zf8 (ns.map .int))=true;rw[ih];rfl
def vAt (ns:List Int)(i:Int):Int:=ns.getD i.toNat 0
theorem vt {ns:List Int}{i:Int}(h0:0<=i)(h1:i < ns.length):atI (ns.map D.int) i=some (.int (vAt ns i)):=by
 unfold vAt
 obtain⟨k,hk⟩:∃ k:Nat,i=k:=⟨i.toNat,by omega⟩
 subst hk
 refine zeQ ?_
 rw[u1n,j9,u7 (by omega),n8,u7 (by omega)]
 rfl
theorem Xy {ns:List Int}{i m:Int}(h:0<=i/\i < m)(hl:(ns.length:Int)=m):atI (ns.map D.int) i=some (.int (vAt ns i)):=vt h.1 (by omega)
theorem Yp {m:Int}{ts:List Tie}{s:Tie}:s∈yO m ts↔(0<=s.1/\s.1 < m)/\(0<=s.2/\s.2 < m)/\vO s.1 s.2∈ts:=by
 unfold yO zei nbN
 rw[List.mem_flatMap]
 constructor
 .rintro⟨k,hk,h⟩
  obtain⟨o,ho,rfl⟩:=u0c.mp h
  rw[u0K,i5,r8]at ho
  rw[i5]at hk
  simp only[u18]
  exact⟨⟨by(clear h ho hk;omega),by(clear h ho;omega)⟩,⟨by(clear h ho hk;omega),by omega⟩,ho.2⟩
 .rintro⟨⟨a1,a2⟩,⟨b1,b2⟩,h⟩
  refine⟨s.1.toNat,i5.mpr (by(clear b2 b1 h;omega)),u0c.mpr ⟨s.2.toNat,?_,?_⟩⟩
  .rw[u0K,i5,r8]
   refine⟨by omega,?_⟩
   rw[show((s.1.toNat:Nat):Int)=s.1 by(clear b2 b1 h a2;omega),show((s.2.toNat:Nat):Int)=s.2 by omega]
   exact h
  .exact u3h (by show(0:Int)+(s.1.toNat:Int)=s.1;(clear b2 b1 h a2;omega)) (by show(0:Int)+(s.2.toNat:Int)=s.2;omega)
end
theorem zgE {m:Nat}{g:SE->Ctl}{ds:List D}{R:D->Prop}{ρ:SE}(e:ds.map .v++List.replicate (m - ds.length) .no=ρ)(q:(g ρ).w (λ_=>R .non) noP noP R):∃ d,fnD m g ds=some d/\R d:=by
 unfold fnD
 rw[e]
 cases hg:g ρ with
 | nx ρ'=>rw[hg]at q;exact⟨_,rfl,q.nxi⟩
 | rt d'=>rw[hg]at q;exact⟨_,rfl,q.rti⟩
 | bk _=>rw[hg]at q;exact q.bki.elim
 | ct _=>rw[hg]at q;exact q.cti.elim
 | no=>rw[hg]at q;exact q.noi.elim
section
variable {P:Program}{w:World}{K:W.Frag}{mg:Str->Option Value}{base:Heap}{ad:Adr}
def vx:SE->Ctl :=
 (zO (xE false 2 (zn xK (zn vN (zn x5 (zn x5 (zn xK (zc 0) (eC (.int 2147483647))) (zn vN (eC (.int 977)) (zc 1))) (eC (.int 1))) (eC (.int 48271))) (eC (.int 2147483647))))
  (zO (xE false 2 (zn xK (zn vN (zc 2) (zc 2)) (eC (.int 2147483629))))
  (zO (xE false 2 (zn xK (zn vN (zn x5 (zc 2) (zn vN (eC (.int 40692)) (zn x5 (zc 1) (eC (.int 3))))) (eC (.int 69621))) (eC (.int 2147483647))))
  (y6 (zn xJ (zc 2) (eC (.int 8)))))))
def zbM:List D->Option D:=fnD 3 vx
def zy:List D->Option D
 | [.int c,.int k]=>some (.int (ZQ c k))
 | _=>none
theorem zbr {i j:Int}(h1:-(2 ^ 64) < i)(h2:i < 2 ^ 64):ZE i j=true:=d4 (.inl ⟨h1,h2⟩)
theorem ze8 {i j:Int}(h1:-(2 ^ 64) < j)(h2:j < 2 ^ 64):ZE i j=true:=d4 (.inr ⟨h1,h2⟩)
theorem Wm {i j:Int}(h:ZE i j=true):vN (.int i) (.int j)=some (.int (i*j)):=by
 show(if ZE i j=true then _ else none)=_
 rw[u8 h]
theorem yt {i j:Int}(h:0 < j):xK (.int i) (.int j)=some (.int (i % j)):=by
 show(if decide (0 < j)=true then _ else none)=_
 rw[u8 (d4 h)]
theorem Zl {i j:Int}(h:0 < j)(h2:j < 1606938044258990275541962092341162602522202993782792835301376):xJ (.int i) (.int j)=some (.int (i / j)):=by
 show(if decide (0 < j/\j < 1606938044258990275541962092341162602522202993782792835301376)=true then _ else none)=_
 rw[u8 (d4 ⟨h,h2⟩)]
theorem zaW:∀ ds d,ds.length=2->zy ds=some d->zbM ds=some d:=by
 intro ds d hl h
 obtain⟨a,b,rfl⟩:=zdE hl
 cases a <;> try cases h
 cases b <;> try cases h
 rename_i c k
 have h1:=u2L ((c % 2147483647+977*k+1)*48271) (show(2147483647:Int)≠0 by decide)
 have h2:=u2g ((c % 2147483647+977*k+1)*48271) (show(0:Int) < 2147483647 by decide)
 have m1:ZE 977 k=true:=zbr (by decide) (by decide)
 have m2:ZE (c % 2147483647+977*k+1) 48271=true:=ze8 (by decide) (by decide)
 obtain⟨x,hx⟩:∃ x,(c % 2147483647+977*k+1)*48271 % 2147483647=x:=⟨_,rfl⟩
 rw[hx]at h1 h2
 have m3:ZE x x=true:=zbr (Int.lt_of_lt_of_le (by decide) h1) (Int.lt_trans h2 (by decide))
 have m4:ZE 40692 (k+3)=true:=zbr (by decide) (by decide)
 have m5:∀ x,ZE x 69621=true:=λx=>ze8 (by decide) (by decide)
 obtain⟨y,hy⟩:∃ y,x*x % 2147483629=y:=⟨_,rfl⟩
 obtain⟨z,hz⟩:∃ z,(y+40692*(k+3))*69621 % 2147483647=z:=⟨_,rfl⟩
 have hst:ZQ c k=z / 8:=by
  show((((c % 2147483647+977*k+1)*48271 % 2147483647)*((c % 2147483647+977*k+1)*48271 % 2147483647) % 2147483629+40692*(k+3))*69621 % 2147483647 / 8)=_
  rw[hx,hy,hz]
 rw[hst]
 refine WK (ρ:=[.v (.int c),.v (.int k),.no]) rfl ?_
 unfold vx
 refine zA (ρ':=[.v (.int c),.v (.int k),.v (.int x)]) (yi ?_) ?_
 .show(((((xK (.int c) (.int 2147483647)).bind λa=>(vN (.int 977) (.int k)).bind λb=>x5 a b).bind λa=>x5 a (.int 1)).bind λa=>vN a (.int 48271)).bind λa=>xK a (.int 2147483647))=_
  rw[yt (by decide),Wm m1]
  show((vN (.int (c % 2147483647+977*k+1)) (.int 48271)).bind λa=>xK a (.int 2147483647))=_
  rw[Wm m2,<- hx]
  exact yt (by decide)
 refine zA (ρ':=[.v (.int c),.v (.int k),.v (.int y)]) (yi ?_) ?_
 .show((vN (.int x) (.int x)).bind λa=>xK a (.int 2147483629))=_
  rw[Wm m3,<- hy]
  exact yt (by decide)
 refine zA (ρ':=[.v (.int c),.v (.int k),.v (.int z)]) (yi ?_) ?_
 .show((((vN (.int 40692) (.int (k+3))).bind λb=>x5 (.int y) b).bind λa=>vN a (.int 69621)).bind λa=>xK a (.int 2147483647))=_
  rw[Wm m4]
  show((vN (.int (y+40692*(k+3))) (.int 69621)).bind λa=>xK a (.int 2147483647))=_
  rw[Wm (m5 _),<- hz]
  exact yt (by decide)
 exact ZI (vC (show xJ (.int z) (.int 8)=_ from Zl (by decide) (by decide))) rfl
theorem Yd (T:Txt K mg base ad):xo P w K mg base CX0 1 ad.f__law_stir ad.e__law_stir ["cell","k"] (@spD ⟨K⟩ 2 zy):=by
 letI:KK:=⟨K⟩
 refine wj (yR (N:=["cell","k","number"]) (ps:=["cell","k"]) T.d__law_stir.fn wJ (g:=vx) λcdv A outer s H E hr=>?_) zaW
 unfold vx
 exact(zd (zX (m:=false) (i:=2) wJ.nd rfl (Or.inl rfl) (xL (ZU (yf (yf (xL (edv 0) (zg zh)) (ZU (zg zh) (edv 1))) (zg zh)) (zg zh)) (zg zh)))
  (zd (zX (m:=false) (i:=2) wJ.nd rfl (Or.inl rfl) (xL (ZU (edv 2) (edv 2)) (zg zh)))
  (zd (zX (m:=false) (i:=2) wJ.nd rfl (Or.inl rfl) (xL (ZU (yf (edv 2) (ZU (zg zh) (yf (edv 1) (zg zh)))) (zg zh)) (zg zh)))
  (zi (zE (ZA (edv 2) (zg zh)))))))
theorem wV {j:Int}(h3:0<=j)(h4:j<=1000000):wB [.int j]=some (Z4 0 j.toNat):=by
 show(if zf5 j=true then some (Z4 0 j.toNat)else none)=_
 rw[u8 (yH.mpr ⟨by omega,by omega⟩)]
theorem zdj {ts:List Tie}(h:ts.length < 64):zds [.lst (ts.map zw)]=some ((Vz ts).map zw):=by
 show(if (ts.map zw).length < 64 then _ else none)=_
 rw[u8 (by rw[u6];exact h),show ts.map zw=ts.map prD from rfl,za2]
 rfl
def yU:SE->Ctl :=
 (zO (xE false 5 (zn xK (zq 2 zy (zb (zc 1) (zb (zn x5 (eC (.int 21)) (zc 4)) zr))) (zc 0)))
  (zO (sIf (v6 (tOf (zn V0 (zn xK (zc 1) (eC (.int 3))) (eC (.int 1)))) (tOf (zn gtD (zc 4) (eC (.int 0))))) (xE false 5 (zn xK (zq 2 zy (zb (zc 1) (zb (zn x5 (eC (.int 21)) (zn xJ (zc 4) (eC (.int 4)))) zr))) (zc 0))) yp)
  (ZP true 3 (zc 5) (zn x5 (zn ixD (zc 3) (zc 5)) (eC (.int 1))))))
def yM:SE->Ctl :=
 (zO (Za 3 (zlp zf6 (ww (yw (zb (eC (.int 0)) zr))) (zc 0)))
  (zO (xB wB (zb (zn xK (zq 2 zy (zb (zc 1) (zb (eC (.int 20)) zr))) (zn x5 (zc 2) (eC (.int 1)))) zr) (y8 4) yU)
  (sFz 3 (y6 (eFn zW (zb (zc 3) zr))))))
def wU:List D->Option D:=fnD 6 yM
theorem zh2 {n c mo x pl:Int}{ns:List Int}{N B C:SE->Prop}{R:D->Prop}(p0:0<=pl)(hlt:pl.toNat < ns.length)(hll:pl < ((ns.map D.int).length:Int))
 (q:N [.v (.int n),.v (.int c),.v (.int mo),.o ((ns.set pl.toNat (ns[pl.toNat]+1)).map .int),.v (.int x),.v (.int pl)]) :
 (ZP true 3 (zc 5) (zn x5 (zn ixD (zc 3) (zc 5)) (eC (.int 1))) [.v (.int n),.v (.int c),.v (.int mo),.o (ns.map .int),.v (.int x),.v (.int pl)]).w N B C R:=by
 have ea:L2.atI (ns.map D.int) pl=some (.int ns[pl.toNat]):=zar p0 (by rw[j9,u7 hlt];rfl)
 rw[u2a]at q
 refine zbz (ns.map .int) (.int (ns[pl.toNat]+1)) pl ?_ rfl rfl p0 hll q
 show((((L2.atI (ns.map D.int) pl).bind λa=>x5 a (.int 1))).bind λd=>if noL d=true then some d else none)=_
 rw[ea]
 rfl
theorem zlw {n c mo x:Int}{ns:List Int}{o5:Sl}{N B C:SE->Prop}{R:D->Prop}(hn0:0 < n)(hl:(ns.length:Int)=n)
 (q:∀ (k:Nat) (hk:k < ns.length) (o5:Sl),N [.v (.int n),.v (.int c),.v (.int mo),.o ((ns.set k (ns[k]+1)).map .int),.v (.int x),o5]) :
 (yU [.v (.int n),.v (.int c),.v (.int mo),.o (ns.map .int),.v (.int x),o5]).w N B C R:=by
 unfold yU
 have go:∀ y:Int,∃ pl:Int,y % n=pl/\0<=pl/\pl.toNat < ns.length/\pl < ((ns.map D.int).length:Int):=λy=>⟨_,rfl,u2L _ (by omega),by have:=u2g y hn0;have:=u2L y (show n≠0 by omega);omega,by rw[u6,hl];exact u2g _ hn0⟩
 obtain⟨p1,e1,a0,a1,a2⟩:=go (ZQ c (21+x))
 obtain⟨p2,e2,b0,b1,b2⟩:=go (ZQ c (21+x / 4))
 refine zA (ρ':=[.v (.int n),.v (.int c),.v (.int mo),.o (ns.map .int),.v (.int x),.v (.int p1)]) (yi (show xK (.int (ZQ c (21+x))) (.int n)=some (.int p1) by rw[yt hn0,e1])) ?_
 have f1:tOf (zn V0 (zn xK (zc 1) (eC (.int 3))) (eC (.int 1))) (visG [.v (.int n),.v (.int c),.v (.int mo),.o (ns.map .int),.v (.int x),.v (.int p1)])=some (decide (c % 3=1)):=by
  show((xK (.int c) (.int 3)).bind λy=>V0 y (.int 1)).bind asB=_
  rw[yt (by decide)]
  rfl
 refine xw (VF (c:=decide (c % 3=1)&&decide (0 < x)) ?_ (λ_=>Zw (ρ':=[.v (.int n),.v (.int c),.v (.int mo),.o (ns.map .int),.v (.int x),.v (.int p2)]) (yi (d:=.int p2) ?_) (zh2 b0 b1 b2 (q _ _ _))) (λ_=>Zw rfl (zh2 a0 a1 a2 (q _ _ _))))
 .unfold v6
  rw[f1,p9]
  show(if decide (c % 3=1)=true then some (decide (0 < x))else some false)=_
  cases decide (c % 3=1) <;> rfl
 .have g1:xJ (.int x) (.int 4)=some (.int (x / 4)):=Zl (by decide) (by decide)
  have g2:xK (.int (ZQ c (21+x / 4))) (.int n)=some (.int p2):=by rw[yt hn0,e2]
  show(((((xJ (.int x) (.int 4)).bind λy=>x5 (.int 21) y).bind λd=>(some ([]:List D)).map (d::·)).map (D.int c::·)).bind (λds=>if ds.length=2 then zy ds else none)).bind (λr=>xK r (.int n))=_
  rw[g1]
  exact g2
theorem zbk {n c mo:Int}(h1:1<=n)(h8:n<=8)(hm0:0<=mo)(hm:mo<=1000):∃ ns:List Int,wU [.int n,.int c,.int mo]=some (.tup (ns.map .int))/\(ns.length:Int)=n/\(∀ x∈ns,0<=x)/\ns.sum<=mo:=by
 obtain⟨cn,hcn⟩:∃ cn:Int,ZQ c 20 % (mo+1)=cn:=⟨_,rfl⟩
 have hmp:0 < mo+1:=Int.lt_add_one_of_le hm0
 obtain⟨c0,c1⟩:=xD hmp hcn
 have key:=zgE (m:=6) (g:=yM) (ds:=[.int n,.int c,.int mo]) (R:=λd=>∃ ns:List Int,d=.tup (ns.map .int)/\(ns.length:Int)=n/\(∀ x∈ns,0<=x)/\ns.sum<=mo) (ρ:=[.v (.int n),.v (.int c),.v (.int mo),.no,.no,.no]) rfl ?_
 .obtain⟨d,e,ns,rfl,h⟩:=key
  exact⟨ns,e,h⟩
 unfold yM
 refine zA (ρ':=[.v (.int n),.v (.int c),.v (.int mo),.o ((List.replicate n.toNat (0:Int)).map .int),.no,.no]) ?_ ?_
 .have e:=zlg (d:=.int 0) h1 h8
  refine zfY (ds:=(List.replicate n.toNat (0:Int)).map .int) ?_
  rw[List.map_replicate]
  exact e
 refine xw (ZR (lo:=0) (c:=cn.toNat) (λi ρ=>∃ (ns:List Int) (o4 o5:Sl),ρ=[.v (.int n),.v (.int c),.v (.int mo),.o (ns.map .int),o4,o5]/\(ns.length:Int)=n/\(∀ x∈ns,0<=x)/\ns.sum=(i:Int)) ?_ ⟨_,_,_,rfl,by rw[u0w];omega,λx hx=>by rw[(List.mem_replicate.mp hx).2];exact u05 _,?_⟩ ?_ ?_)
 .have e:=wV c0 (by omega)
  have m1:xK (.int (ZQ c 20)) (.int (mo+1))=some (.int cn):=by rw[yt hmp,hcn]
  show((xK (.int (ZQ c 20)) (.int (mo+1))).bind λd=>(some []).map (d::·)).bind wB=_
  rw[m1]
  exact e
 .rw[zfB];rfl
 .rintro i ρ hi ⟨ns,o4,o5,rfl,hl,hnn,hs⟩
  refine⟨_,rfl,zlw (zba h1) hl λk hk o5=>⟨_,_,o5,rfl,by rw[u0x];exact hl,λy hy=>?_,?_⟩⟩
  .rcases u1l hy with h | h
   .exact hnn y h
   .rw[h];exact Int.add_nonneg (hnn _ (u0N hk)) (by decide)
  .rw[zbh hk,hs]
   omega
 .rintro ρ ⟨ns,o4,o5,rfl,hl,hnn,hs⟩
  exact zel (ρ':=[.v (.int n),.v (.int c),.v (.int mo),.v (.lst (ns.map .int)),o4,o5]) rfl (ZI rfl ⟨ns,rfl,hl,hnn,by omega⟩)
theorem Wj (T:Txt K mg base ad):xo P w K mg base CX0 2 ad.f__law_heap_by ad.e__law_heap_by ["many","cell","most"] (@spD ⟨K⟩ 3 wU):=by
 letI:KK:=⟨K⟩
 have G__law_stir:=Yd (P:=P) (w:=w) (base:=base) T
 refine yR (N:=["many","cell","most","found","k","place"]) (ps:=["many","cell","most"]) T.d__law_heap_by.fn yx (g:=yM) λcdv A outer s H E hr=>?_
 unfold yM yU
 exact(zd (v4 (i:=3) yx.nd rfl (Or.inl rfl) (zfZ (vM (wC (za (zg zh) ze))) (edv 0)))
  (zd (vw u0a rfl rfl T.z_range (za (xL (zj G__law_stir hr rfl T.d__law_stir (za (edv 1) (za (zg zh) ze))) (yf (edv 2) (zg zh))) ze) (yK (zI (i:=4) yx.nd rfl (Or.inl rfl))) (zd (zX (m:=false) (i:=5) yx.nd rfl (Or.inl rfl) (xL (zj G__law_stir hr rfl T.d__law_stir (za (edv 1) (za (yf (zg zh) (edv 4)) ze))) (edv 0)))
  (zd (wA (zh7 (zil (zV (XI hr) YO (zN _) (xL (edv 1) (zg zh)) (zg zh)) (zfi (zV zbN yj (zN _) (edv 4) (zg zh))))) (zi (zX (m:=false) (i:=5) yx.nd rfl (Or.inl rfl) (xL (zj G__law_stir hr rfl T.d__law_stir (za (edv 1) (za (yf (zg zh) (ZA (edv 4) (zg zh))) ze))) (edv 0)))) zP)
  (zi (XE (m:=true) (yf (zF (edv 3) (edv 5) (λ_ _=>rfl)) (zg zh)) (pv 3) (edv 5))))))
  (Yf 3 (zi (zE (xm zK xn rfl T.z_tuple yF (za (edv 3) ze)))))))
structure FsOk (m:Int) (ts:List Tie) (p:Int) (t:Nat) (fs:List (Option Int)):Prop where
 len:fs.length=m.toNat
 sound:∀ v k,0<=v->v < m->oAt fs v=some k->∃ j:Nat,k=(j:Int)/\xb ts p j v
 full:∀ (j:Nat) v,j<=t->xb ts p j v->∃ j':Nat,j'<=j/\oAt fs v=some (j':Int)
theorem FsOk.start {m:Int}{ts:List Tie}{p:Int}(hp:0<=p/\p < m):FsOk m ts p 0 ((List.replicate m.toNat none).set p.toNat (some 0)):=by
 have hl:p < ((List.replicate m.toNat (none:Option Int)).length:Int):=by rw[u0w];omega
 have nn:∀ v,oAt (List.replicate m.toNat (none:Option Int)) v=none:=λv=>by
  unfold oAt
  rw[u0T]
  split <;> rfl
 refine⟨by simp,λv k v0 v1 e=>?_,λj v hj r=>?_⟩
 .rw[Xw hp.1 hl v0,nn]at e
  by_cases c:v=p
  .rw[u8 c]at e;cases e
   exact⟨0,rfl,by rw[c];exact .zero⟩
  .rw[u9 c]at e;cases e
 .obtain rfl:j=0:=by omega
  cases r
  exact⟨0,q5 _,by rw[Xw hp.1 hl hp.1,u8 rfl];rfl⟩
def xG:SE->Ctl :=
 (zO (sIf (tOf (zn ltD (zc 1) (eFn Xk (zb (zc 0) zr)))) (y6 (zn ixD (zc 0) (zc 1))) yp)
  (y6 (eC (.int 0))))
def yQ:List D->Option D:=fnD 2 xG
theorem zdq (ns:List Int):∃ c:Int,yQ [.scr ns,.int 0]=some (.int c):=by
 cases ns with
 | nil=>exact⟨0,rfl⟩
 | cons n ns =>
  refine⟨n,?_⟩
  have e:atI (n::ns) 0=some n:=zar (u05 _) rfl
  simp[yQ,xG,fnD,zO,y6,Zy,sIf,xE,Xd,sNo,yp,zdD,Za,Xg,zcX,ZP,vEv,visF,visG,Sl.f,Sl.g,zc,eC,zn,ZS,eOr,zbl,eIf,eUn,zbf,ZZ,ww,yw,zb,zr,zq,eFn,fFn,tOf,v6,Wo,xA,asB,asI,yd,Xs,vN,xJ,xK,V1,vL,ltD,leD,gtD,geD,VU,yl,xy,yB,xj,WR,ya,ixD,Xk,vd,isT,eSl,ZC,vy,xX,xP,iOf,XQ,xB,Wp,wB,WZ,wo,ZN,fLC,xU,zW,v5,y8,zaP,vK,zbg,b1,b2,e]
theorem XH (T:Txt K mg base ad):xo P w K mg base CX0 1 ad.f__law_cell_at ad.e__law_cell_at ["script","k"] (@spD ⟨K⟩ 2 yQ):=by
 letI:KK:=⟨K⟩
 refine yR (N:=["script","k"]) (ps:=["script","k"]) T.d__law_cell_at.fn Wd (g:=xG) λcdv A outer s H E hr=>?_
 unfold xG
 exact(zd (wA (zV zjr yj (zN _) (edv 1) (zR yy YJ rfl T.z_len XB (za (edv 0) ze))) (zi (zE (zF (edv 0) (edv 1) (λ_ _=>rfl)))) zP)
  (zi (zE (zg zh))))
theorem zhg {ρ:Ev}(ns:List Int)(k:Int)(h:ns.length<=63):∃ xs:List Int,(iOf (zn x5 (ww (yw (zb (zq 2 yQ (zb (zc 0) (zb (eC (.int 0)) zr))) zr))) (eSl slD (zc 0) (vy (eC (.int 1))) (vy (eC (.int k)))))) (some (.scr ns)::ρ)=some (xs.map .int):=by
 obtain⟨c,hc⟩:=zdq ns
 refine⟨c::zdF ns (some 1) (some k),?_⟩
 have e:=zhM (a:=[.int c]) (b:=(zdF ns (some 1) (some k)).map .int) (by have:=zgO ns (some 1) (some k);simp;omega)
 simp[iOf,zn,ww,yw,zb,zr,zq,zc,eC,hc,wn,eSl,vy,asI,slD,e,xP]
theorem Wi {m:Int}{ts:List Tie}{a:Int}{k:Nat}(ok:zD m ts):k∈nbN m ts a↔adj ts a (k:Int):=by
 unfold nbN
 rw[u0K,r8,i5]
 unfold vO adj
 constructor
 .rintro⟨_,h⟩
  by_cases c:(k:Int) < a
  .rw[u8 c,u9 (by omega)]at h;exact .inr h
  .rw[u9 c]at h
   by_cases c2:(k:Int) > a
   .rw[u8 c2]at h;exact .inl h
   .rw[u9 c2]at h
    have:a=(k:Int):=by omega
    rw[<-this]
    exact .inl h
 .rintro(h | h)
  .have:=ok.rng _ h
   simp only at this
   rw[u9 (by omega),u8 (by omega)]
   exact⟨by omega,h⟩
  .have:=ok.rng _ h
   simp only at this
   rw[u8 (by omega),u9 (by omega)]
   exact⟨by omega,h⟩
structure We (m:Int) (ts:List Tie) (p:Int) (L:Nat) (fs:List (Option Int)) (rim:List Int):Prop where
 len:fs.length=m.toNat
 sound:∀ v k,0<=v->v < m->oAt fs v=some k->∃ j:Nat,k=(j:Int)/\j<=L/\Far ts p v j
 full:∀ v (j:Nat),j<=L->Far ts p v j->oAt fs v=some (j:Int)
 rim:∀ v,v∈rim↔Far ts p v L
structure Wy (m:Int) (ts:List Tie) (p:Int) (L:Nat) (fs:List (Option Int)) (fu:List Int) (S:Int->Prop):Prop where
 len:fs.length=m.toNat
 sound:∀ v k,0<=v->v < m->oAt fs v=some k->(∃ j:Nat,k=(j:Int)/\j<=L/\Far ts p v j)\/v∈fu
 full:∀ v (j:Nat),j<=L->Far ts p v j->oAt fs v=some (j:Int)
 fur:∀ v∈fu,Far ts p v (L+1)/\oAt fs v=some ((L+1:Nat):Int)
 done:∀ v,S v->oAt fs v≠none
theorem We.mid {m:Int}{ts:List Tie}{p:Int}{L:Nat}{fs:List (Option Int)}{rim:List Int}(h:We m ts p L fs rim){S:Int->Prop}(hS:∀ v,¬ S v):Wy m ts p L fs [] S :=
 ⟨h.len,λv k v0 v1 e=>.inl (h.sound v k v0 v1 e),h.full,λv hv=>(by cases hv),λv hv=>absurd hv (hS v)⟩
theorem Wy.imp {m:Int}{ts:List Tie}{p:Int}{L:Nat}{fs:List (Option Int)}{fu:List Int}{S S':Int->Prop}(h:Wy m ts p L fs fu S)(hS:∀ v,S' v->S v\/oAt fs v≠none):Wy m ts p L fs fu S' :=
 ⟨h.len,h.sound,h.full,h.fur,λv hv=>(hS v hv).elim (h.done v) id⟩
theorem Wy.add {m:Int}{ts:List Tie}{p:Int}{L:Nat}{fs:List (Option Int)}{fu:List Int}{S:Int->Prop}{a b:Int}(ok:zD m ts)(h:Wy m ts p L fs fu S)(ha:Far ts p a L)(hab:adj ts a b)(hn:oAt fs b=none){x:Int}(hx:x=((L+1:Nat):Int)) :
 Wy m ts p L (fs.set b.toNat (some x)) (fu++[b]) (λv=>S v\/v=b):=by
 subst hx
 obtain⟨_,b0,b1⟩:=hab.rng ok
 have hl:=h.len
 have hb:=zcg b0 b1 hl
 have hf:Far ts p b (L+1):=⟨.step ha.1 hab,λi r=>by
  obtain⟨j,hj⟩:=zii r
  by_cases c:j<=L
  .rw[h.full b j c hj]at hn;cases hn
  .have:=hj.2 _ r;omega⟩
 have at':∀ v,0<=v->oAt (fs.set b.toNat (some ((L+1:Nat):Int))) v=if v=b then some ((L+1:Nat):Int)else oAt fs v:=λv v0=>Xw b0 hb v0
 have sm:∀ v,oAt fs v≠none->oAt (fs.set b.toNat (some ((L+1:Nat):Int))) v≠none:=λv hv=>by
  by_cases v0:0<=v
  .rw[at' v v0]
   split
   .intro z;cases z
   .exact hv
  .unfold oAt at hv ⊢
   rw[u0D]
   split
   .split
    .intro z;cases z
    .rename_i c1 c2
     omega
   .exact hv
 refine⟨by rw[u0x];exact hl,λv k v0 v1 e=>?_,λv j hj hv=>?_,λv hv=>?_,λv hv=>?_⟩
 .rw[at' v v0]at e
  by_cases c:v=b
  .exact .inr (by rw[c];simp)
  .rw[u9 c]at e
   exact(h.sound v k v0 v1 e).imp id λz=>d9.mpr (.inl z)
 .have e:=h.full v j hj hv
  have:v≠b:=λz=>by rw[z,hn]at e;cases e
  by_cases v0:0<=v
  .rw[at' v v0,u9 this];exact e
  .unfold oAt at e ⊢
   rw[u0D]
   split
   .rename_i c
    have vz:v.toNat=0:=by omega
    rw[vz]at c e
    unfold oAt at hn
    rw[c]at hn
    rw[hn]at e
    cases e
   .exact e
 .rcases d9.mp hv with hv | hv
  .obtain⟨h1,h2⟩:=h.fur v hv
   refine⟨h1,?_⟩
   have v0:0<=v:=by
    obtain⟨a',_,had⟩:=h1.1.inv
    exact(had.rng ok).2.1
   rw[at' v v0]
   split
   .rfl
   .exact h2
  .cases t9.mp hv
   exact⟨hf,by rw[at' _ b0,u8 rfl]⟩
 .rcases hv with hv | rfl
  .exact sm v (h.done v hv)
  .rw[at' _ b0,u8 rfl]
   intro z;cases z
theorem Wy.end {m:Int}{ts:List Tie}{p:Int}{L:Nat}{fs:List (Option Int)}{fu:List Int}{S:Int->Prop}(ok:zD m ts)(h:Wy m ts p L fs fu S)(hS:∀ a b,Far ts p a L->adj ts a b->S b):We m ts p (L+1) fs fu:=by
 have key:∀ v,Far ts p v (L+1)->v∈fu:=λv hv=>by
  obtain⟨a,ra,had⟩:=hv.1.inv
  have hfa:Far ts p a L:=⟨ra,λi r=>by have:=hv.2 _ (.step r had);omega⟩
  have hr:=(had.rng ok).2
  have hne:=h.done v (hS a v hfa had)
  cases e:oAt fs v with
  | none=>exact absurd e hne
  | some k =>
   rcases h.sound v k hr.1 hr.2 e with ⟨j,_,hj,hf⟩ | hm
   .have:=hf.uniq hv;omega
   .exact hm
 refine⟨h.len,λv k v0 v1 e=>?_,λv j hj hv=>?_,λv=>⟨λhv=>(h.fur v hv).1,key v⟩⟩
 .rcases h.sound v k v0 v1 e with ⟨j,e1,hj,hf⟩ | hm
  .exact⟨j,e1,by omega,hf⟩
  .obtain⟨hf,e2⟩:=h.fur v hm
   rw[e]at e2
   cases e2
   exact⟨L+1,rfl,q5 _,hf⟩
 .by_cases c:j<=L
  .exact h.full v j c hv
  .obtain rfl:j=L+1:=by omega
   exact(h.fur v (key v hv)).2
theorem zdB {ts:List Tie}{p:Int}(L:Nat):∀ (k:Nat) (v:Int),Far ts p v k->L<=k->∃ u,Far ts p u L:=by
 intro k
 induction k with
 | zero=>intro v hv hk;exact⟨v,by rwa[show L=0 by omega]⟩
 | succ k ih =>
  intro v hv hk
  by_cases c:L=k+1
  .exact⟨v,by rwa[c]⟩
  .obtain⟨a,ra,had⟩:=hv.1.inv
   exact ih a ⟨ra,λi r=>by have:=hv.2 _ (.step r had);omega⟩ (by omega)
theorem We.end {m:Int}{ts:List Tie}{p:Int}{L:Nat}{fs:List (Option Int)}(h:We m ts p L fs []):fs=Yg m ts p:=by
 refine zi2 (by rw[h.len,XA]) λv v0 v1=>?_
 have hv:v < m:=by have:=h.len;omega
 rw[zb5 v0 hv]
 rcases Yk ts p v with ⟨k,e,hk⟩ | ⟨e,hk⟩
 .rw[e]
  by_cases c:k<=L
  .exact h.full v k c hk
  .obtain⟨u,hu⟩:=zdB L k v hk (by omega)
   have:=(h.rim u).mpr hu
   cases this
 .rw[e]
  cases e2:oAt fs v with
  | none=>rfl
  | some k =>
   obtain⟨j,_,_,hf⟩:=h.sound v k v0 hv e2
   exact absurd hf.1 (hk j)
theorem We.start {m:Int}{ts:List Tie}{p:Int}(hp:0<=p/\p < m):We m ts p 0 ((List.replicate m.toNat none).set p.toNat (some 0)) [p]:=by
 have hl:p < ((List.replicate m.toNat (none:Option Int)).length:Int):=by rw[u0w];omega
 have nn:∀ v,oAt (List.replicate m.toNat (none:Option Int)) v=none:=λv=>by
  unfold oAt
  rw[u0T]
  split <;> rfl
 have f0:∀ v,Far ts p v 0->v=p:=λv h=>by
  have:=h.1
  cases this
  rfl
 have fp:Far ts p p 0:=⟨.zero,λ_ _=>u0g _⟩
 refine⟨by simp,λv k v0 v1 e=>?_,λv j hj hv=>?_,λv=>⟨λh=>?_,λh=>?_⟩⟩
 .rw[Xw hp.1 hl v0,nn]at e
  by_cases c:v=p
  .rw[u8 c]at e;cases e
   exact⟨0,rfl,q5 _,by rw[c];exact fp⟩
  .rw[u9 c]at e;cases e
 .obtain rfl:j=0:=by omega
  cases f0 v hv
  rw[Xw hp.1 hl hp.1,u8 rfl]
  rfl
 .cases t9.mp h
  exact fp
 .rw[f0 v h]
  exact t9.mpr rfl
def VY (fs:List (Option Int)):Nat:=fs.countP Option.isNone
theorem zcM:∀ {fs:List (Option Int)} {k:Nat} {x:Int},k < fs.length->fs[k]?=some none->VY (fs.set k (some x))+1=VY fs
 | [],k,x,h,_=>by simp at h
 | f::fs,0,x,_,h=>by
  have h:some f=some none:=h
  cases h
  simp[VY]
 | f::fs,k+1,x,h,h2=>by
  have ih:=zcM (fs:=fs) (k:=k) (x:=x) (by simpa using h) (by simpa using h2)
  unfold VY at ih ⊢
  rw[List.set_cons_succ,u2z,u2z]
  omega
def zmL:D->Bool
 | .non=>true
 | _=>false
theorem zgD (fs:List (Option Int)):(fs.map vG).countP zmL=VY fs:=by
 unfold VY
 rw[List.countP_map]
 congr 1
 funext o
 cases o <;> rfl
def x6:SE->Ctl :=
 (sIf (tOf (zn WR (zn ixD (zc 2) (zc 6)) (eC .non))) (zO (ZP true 2 (zc 6) (zn x5 (zn ixD (zc 2) (zc 5)) (eC (.int 1))))
  (Xg false 4 (zc 6))) yp)
def xY:SE->Ctl :=
 (XQ (iOf (zq 2 zM (zb (zc 0) (zb (zc 5) zr)))) (y8 6) x6)
def wc:SE->Ctl :=
 (zO (Za 4 (yw zr))
  (zO (XQ (iOf (zc 3)) (y8 5) xY)
  (sFz 4 (xE false 3 (zc 4)))))
def vv:SE->Ctl :=
 (zO (Za 2 (zlp zf6 (ww (yw (zb (eC .non) zr))) (zn ixD (zc 0) (eC (.int 0)))))
  (zO (ZP false 2 (zc 1) (eC (.int 0)))
  (zO (xE false 3 (ww (yw (zb (zc 1) zr))))
  (zO (vT (tOf (zn gtD (eFn Xk (zb (zc 3) zr)) (eC (.int 0)))) wc 1000)
  (sFz 2 (y6 (zc 2)))))))
def wg:List D->Option D:=fnD 7 vv
def muA:SE->Nat
 | [_,_,.o ds,.v (.lst rs),_,_,_]=>2*ds.countP zmL+(if rs.isEmpty=true then 0 else 1)
 | _=>0
theorem zeC (a b o4 o5 o6:Sl)(fs:List (Option Int))(rs:List D):muA [a,b,.o (fs.map vG),.v (.lst rs),o4,o5,o6]=2*VY fs+(if rs.isEmpty=true then 0 else 1):=by
 show 2*(fs.map vG).countP zmL+_=_
 rw[zgD]
theorem zmm {W rm:D}{p a x L:Int}{gs:List (Option Int)}{fu:List Int}{N B C:SE->Prop}{R:D->Prop}(hx0:0<=x)(hx:x < ((gs.map vG).length:Int))(ex:L2.atI (gs.map vG) x=some (vG (oAt gs x)))(ea:L2.atI (gs.map vG) a=some (.int L))(hfu:(fu.map D.int).length<=1000)
 (q1:oAt gs x=none->N [.v W,.v (.int p),.o ((gs.set x.toNat (some (L+1))).map vG),.v rm,.o ((fu++[x]).map .int),.v (.int a),.v (.int x)])
 (q2:oAt gs x≠none->N [.v W,.v (.int p),.o (gs.map vG),.v rm,.o (fu.map .int),.v (.int a),.v (.int x)]) :
 (x6 [.v W,.v (.int p),.o (gs.map vG),.v rm,.o (fu.map .int),.v (.int a),.v (.int x)]).w N B C R:=by
 unfold x6
 cases hn:oAt gs x with
 | none =>
  rw[hn]at ex
  refine VF (c:=true) (by show(((L2.atI (gs.map vG) x).bind λd=>WR d .non).bind asB)=_;rw[ex];rfl) (λ_=>?_) (λz=>by cases z)
  refine xw (zbz (gs.map vG) (.int (L+1)) x ?_ rfl rfl hx0 hx ?_)
  .show((((L2.atI (gs.map vG) a).bind λx=>x5 x (.int 1))).bind λd=>if noL d=true then some d else none)=_
   rw[ea]
   rfl
  have q:=q1 hn
  rw[i7,u2a]at q
  exact Zw (zcx (ds:=fu.map .int) (d:=.int x) rfl rfl hfu) q
 | some kx =>
  rw[hn]at ex
  refine VF (c:=false) (by show(((L2.atI (gs.map vG) x).bind λd=>WR d .non).bind asB)=_;rw[ex];rfl) (λz=>by cases z) (λ_=>Zw rfl (q2 λz=>?_))
  rw[hn]at z
  cases z
structure Ws (m:Int) (ts:List Tie) (p:Int) (L c:Nat) (S:Int->Prop) (gs:List (Option Int)) (fu:List Int):Prop where
 mid:Wy m ts p L gs fu S
 cnt:fu.length+VY gs=c
theorem Ws.imp {m:Int}{ts:List Tie}{p:Int}{L c:Nat}{S S':Int->Prop}{gs:List (Option Int)}{fu:List Int}(h:Ws m ts p L c S gs fu)(k:∀ v,S' v->S v\/oAt gs v≠none):Ws m ts p L c S' gs fu:=⟨h.mid.imp k,h.cnt⟩
theorem Ws.put {m:Int}{ts:List Tie}{p a x:Int}{L c:Nat}{S S':Int->Prop}{gs:List (Option Int)}{fu:List Int}(ok:zD m ts)(h:Ws m ts p L c S gs fu)(hf:Far ts p a L)(ha:adj ts a x)(hx:0<=x/\x < m)(hn:oAt gs x=none)(k:∀ v,S' v->S v\/v=x):Ws m ts p L c S' (gs.set x.toNat (some ((L:Int)+1))) (fu++[x]):=by
 have hl:=h.mid.len
 have hlt:x.toNat < gs.length:=by omega
 have hg:gs[x.toNat]?=some none:=by
  unfold oAt at hn
  rw[u7 hlt]at hn ⊢
  exact u0W some hn
 have:=zcM (fs:=gs) (k:=x.toNat) (x:=(L:Int)+1) hlt hg
 refine⟨(h.mid.add ok hf ha hn rfl).imp λv hv=>.inl ((k v hv).imp id id),?_⟩
 rw[r9,List.length_singleton,<- h.cnt]
 omega
theorem zmO {m:Int}{ts:List Tie}{p a:Int}{rm:D}{L c i:Nat}{rim:List Int}{gs:List (Option Int)}{fu:List Int}{o6:Sl}{N B C:SE->Prop}{R:D->Prop}(ok:zD m ts)(hp:0<=p/\p < m)(hc:c<=1000)(hfa:Far ts p a L)(hai:rim[i]?=some a)
 (h:Ws m ts p L c (λv=>∃ a∈rim.take i,adj ts a v) gs fu)
 (q:∀ gs fu o6,Ws m ts p L c (λv=>∃ a∈rim.take (i+1),adj ts a v) gs fu->N [.v (zx m ts),.v (.int p),.o (gs.map vG),.v rm,.o (fu.map .int),.v (.int a),o6]) :
 (xY [.v (zx m ts),.v (.int p),.o (gs.map vG),.v rm,.o (fu.map .int),.v (.int a),o6]).w N B C R:=by
 have ha01:=hfa.1.rng ok hp
 unfold xY
 refine zc5 (ds:=(nbN m ts a).map wd) (λj ρ=>∃ (gs:List (Option Int)) (fu:List Int) (o6:Sl),ρ=[.v (zx m ts),.v (.int p),.o (gs.map vG),.v rm,.o (fu.map .int),.v (.int a),o6]/\Ws m ts p L c (λv=>(∃ a∈rim.take i,adj ts a v)\/∃ k∈(nbN m ts a).take j,v=(k:Int)) gs fu) ?_ ⟨gs,fu,_,rfl,h.imp (λv hv=>.inl (hv.elim id λz=>by obtain⟨k,hk,_⟩:=z;cases hk))⟩ ?_ ?_
 .have e1:zM [zx m ts,.int a]=some (.lst ((nbN m ts a).map wd)):=by
   show(if wW (zx m ts)=true then some (D.lst ((nbN (zi6 (zx m ts)) (ziM (zx m ts)) a).map wd))else none)=_
   rw[u8 ((xu _).mpr ⟨_,_,rfl,ok⟩),X3,X4]
  show(zM [zx m ts,.int a]).bind xP=_
  rw[e1]
  rfl
 .rintro j d ρ hd ⟨gs,fu,o6,rfl,hm⟩
  rw[j9]at hd
  obtain⟨k,hk,rfl⟩:=t8.mp hd
  have hadj:adj ts a (k:Int):=(Wi ok).mp (j6 hk)
  have htake2:(nbN m ts a).take (j+1)=(nbN m ts a).take j++[k]:=by rw[u3F,hk];rfl
  have hr2:=(hadj.rng ok).2
  have hl:=hm.mid.len
  have ea:=zh3 (fs:=gs) (i:=a) ha01.1 ha01.2 hl
  rw[hm.mid.full a L (q5 _) hfa]at ea
  have step:∀ v,((∃ a∈rim.take i,adj ts a v)\/∃ k∈(nbN m ts a).take (j+1),v=(k:Int))->((∃ a∈rim.take i,adj ts a v)\/∃ k∈(nbN m ts a).take j,v=(k:Int))\/v=(k:Int):=λv hv=>by
   rcases hv with hv | ⟨q,hq,e⟩
   .exact .inl (.inl hv)
   .rw[htake2]at hq
    rcases d9.mp hq with hq | hq
    .exact .inl (.inr ⟨q,hq,e⟩)
    .cases t9.mp hq
     exact .inr e
  refine⟨[.v (zx m ts),.v (.int p),.o (gs.map vG),.v rm,.o (fu.map .int),.v (.int a),.v (.int (k:Int))],by unfold wd;rw[u18];rfl,?_⟩
  refine zmm hr2.1 (zfF hr2.1 hr2.2 hl) (zh3 hr2.1 hr2.2 hl) ea (by rw[u6];have:=hm.cnt;omega) (λhn=>?_) (λhn=>?_)
  .exact⟨_,_,_,rfl,hm.put ok hfa hadj hr2 hn step⟩
  .exact⟨gs,fu,_,rfl,hm.imp λv hv=>(step v hv).imp id λe=>by rw[e];exact hn⟩
 .rintro ρ ⟨gs,fu,o6,rfl,hm⟩
  rw[u6,u1Y]at hm
  refine q gs fu o6 (hm.imp λv hv=>.inl ?_)
  obtain⟨b,hb,had⟩:=hv
  rw[u3F,hai]at hb
  rcases d9.mp hb with hb | hb
  .exact .inl ⟨b,hb,had⟩
  .cases t9.mp hb
   obtain⟨k,rfl⟩:=Int.eq_ofNat_of_zero_le (had.rng ok).2.1
   exact .inr ⟨k,(Wi ok).mpr had,rfl⟩
theorem zmZ {m:Int}{ts:List Tie}{p:Int}{L:Nat}{rim:List Int}{fs:List (Option Int)}{o4 o5 o6:Sl}{N B C:SE->Prop}{R:D->Prop}(ok:zD m ts)(hp:0<=p/\p < m)(hr:We m ts p L fs rim)
 (q:∀ gs fu o4 o5 o6,We m ts p (L+1) gs fu->fu.length+VY gs=VY fs->N [.v (zx m ts),.v (.int p),.o (gs.map vG),.v (.lst (fu.map .int)),o4,o5,o6]) :
 (wc [.v (zx m ts),.v (.int p),.o (fs.map vG),.v (.lst (rim.map .int)),o4,o5,o6]).w N B C R:=by
 have hc:VY fs<=1000:=u0t u2x (by rw[hr.len];have:=ok.hi;omega)
 unfold wc
 refine zA (ρ':=[.v (zx m ts),.v (.int p),.o (fs.map vG),.v (.lst (rim.map .int)),.o (([]:List Int).map .int),o5,o6]) rfl ?_
 refine xw (zc5 (ds:=rim.map .int) (λi ρ=>∃ (gs:List (Option Int)) (fu:List Int) (o5 o6:Sl),ρ=[.v (zx m ts),.v (.int p),.o (gs.map vG),.v (.lst (rim.map .int)),.o (fu.map .int),o5,o6]/\Ws m ts p L (VY fs) (λv=>∃ a∈rim.take i,adj ts a v) gs fu) rfl ⟨fs,[],_,_,rfl,hr.mid (λv z=>by obtain⟨a,ha,_⟩:=z;cases ha),u1a _⟩ ?_ ?_)
 .rintro i d ρ hd ⟨gs,fu,o5,o6,rfl,hm⟩
  rw[j9]at hd
  obtain⟨a,ha,rfl⟩:=t8.mp hd
  exact⟨[.v (zx m ts),.v (.int p),.o (gs.map vG),.v (.lst (rim.map .int)),.o (fu.map .int),.v (.int a),o6],rfl,zmO ok hp hc ((hr.rim a).mp (j6 ha)) ha hm λgs fu o6 h=>⟨gs,fu,_,_,rfl,h⟩⟩
 .rintro ρ ⟨gs,fu,o5,o6,rfl,hm⟩
  rw[u6,u1Y]at hm
  refine zel (ρ':=[.v (zx m ts),.v (.int p),.o (gs.map vG),.v (.lst (rim.map .int)),.v (.lst (fu.map .int)),o5,o6]) rfl ?_
  exact Zw (ρ':=[.v (zx m ts),.v (.int p),.o (gs.map vG),.v (.lst (fu.map .int)),.v (.lst (fu.map .int)),o5,o6]) rfl (q gs fu _ _ _ (hm.mid.end ok λa b ha hab=>⟨a,(hr.rim a).mpr ha,hab⟩) hm.cnt)
theorem v2 {m:Int}{ts:List Tie}{p:Int}(ok:zD m ts)(hp:0<=p/\p < m):wg [zx m ts,.int p]=some (.lst ((Yg m ts p).map vG)):=by
 have hm1:=ok.lo
 have hm8:=ok.hi
 refine WK (ρ:=[.v (zx m ts),.v (.int p),.no,.no,.no,.no,.no]) rfl ?_
 unfold vv
 refine zA (ρ':=[.v (zx m ts),.v (.int p),.o ((List.replicate m.toNat none).map vG),.no,.no,.no,.no]) ?_ ?_
 .have e:=zlg (d:=.non) hm1 hm8
  refine zfY (ds:=(List.replicate m.toNat none).map vG) ?_
  rw[List.map_replicate]
  exact e
 refine xw (zbz _ (.int 0) p rfl rfl rfl hp.1 (by rw[u6,u0w];omega) ?_)
 rw[show((List.replicate m.toNat (none:Option Int)).map vG).set p.toNat (.int 0)=((List.replicate m.toNat none).set p.toNat (some 0)).map vG by rw[u2a];rfl]
 refine zA (ρ':=[.v (zx m ts),.v (.int p),.o (((List.replicate m.toNat none).set p.toNat (some 0)).map vG),.v (.lst ([p].map .int)),.no,.no,.no]) rfl ?_
 refine xw (VM (fun ρ=>∃ (L:Nat) (fs:List (Option Int)) (rim:List Int) (o4 o5 o6:Sl),ρ=[.v (zx m ts),.v (.int p),.o (fs.map vG),.v (.lst (rim.map .int)),o4,o5,o6]/\We m ts p L fs rim) muA ?_ 1000 _ ⟨0,_,[p],_,_,_,rfl,We.start hp⟩ ?_)
 .rintro ρ ⟨L,fs,rim,o4,o5,o6,rfl,hr⟩
  refine⟨decide ((0:Int) < ((rim.map D.int).length:Int)),rfl,λz=>?_,λz=>?_⟩
  .refine zmZ ok hp hr λgs fu o4 o5 o6 h hc=>⟨⟨L+1,gs,fu,_,_,_,rfl,h⟩,?_⟩
   rw[zeC,zeC,<- hc]
   cases rim with
   | nil=>cases z
   | cons _ _ =>
    cases fu with
    | nil=>show 2*VY gs+0 < 2*(0+VY gs)+1;omega
    | cons f fu=>show 2*VY gs+1 < 2*((fu.length+1)+VY gs)+1;omega
  .cases rim with
   | cons _ _ =>
    have:=u1C z
    rw[d8,e8]at this
    omega
   | nil =>
    rw[hr.end]
    exact zel (ρ':=[.v (zx m ts),.v (.int p),.v (.lst ((Yg m ts p).map vG)),.v (.lst []),o4,o5,o6]) rfl (ZI rfl rfl)
 .rw[zeC]
  have:VY ((List.replicate m.toNat (none:Option Int)).set p.toNat (some 0))<=_:=u2x
  rw[u0x,u0w]at this
  show 2*VY _+1 < 1000
  omega
theorem vS (T:Txt K mg base ad):xo P w K mg base CX0 3 ad.f_ties_away ad.e_ties_away ["web","start"] (@spD ⟨K⟩ 2 wg):=by
 letI:KK:=⟨K⟩
 have G_neighbours:=Zn (P:=P) (w:=w) (base:=base) T
 refine yR (N:=["web","start","away","rim","further","place","other"]) (ps:=["web","start"]) T.d_ties_away.fn yr (g:=vv) λcdv A outer s H E hr=>?_
 unfold vv wc xY x6
 exact(zd (v4 (i:=2) yr.nd rfl (Or.inl rfl) (zfZ (vM (wC (za (zfj zfp) ze))) (zF (edv 0) (zg zh) (λ_ _=>rfl))))
  (zd (XE (m:=false) (zg zh) (pv 2) (edv 1))
  (zd (zX (m:=false) (i:=3) yr.nd rfl (Or.inl rfl) (vM (wC (za (edv 1) ze))))
  (zd (zb2 1000 u0a (zV zbN yj (zN _) (zR yy YJ rfl T.z_len XB (za (edv 3) ze)) (zg zh)) (zd (v4 (i:=4) yr.nd rfl (Or.inl rfl) (wC ze))
  (zd (WW u0a rfl (Ze (edv 3)) (yK (zI (i:=5) yr.nd rfl (Or.inl rfl))) (zi (WW u0a rfl (Ze (zj G_neighbours hr rfl T.d_neighbours (za (edv 0) (za (edv 5) ze)))) (yK (zI (i:=6) yr.nd rfl (Or.inl rfl))) (zi (wA (zV zhT zdI (zN _) (zF (edv 2) (edv 6) (λ_ _=>rfl)) (zfj zfp)) (zd (XE (m:=true) (yf (zF (edv 2) (edv 5) (λ_ _=>rfl)) (zg zh)) (pv 2) (edv 6))
  (zi (zaf (m:=false) (pv 4) (edv 6) (λa b=>zc9 u0E u03 u04 vX a b)))) zP)))))
  (Yf 4 (zi (zX (m:=false) (i:=3) yr.nd rfl (Or.inl rfl) (edv 4)))))))
  (Yf 2 (zi (zE (edv 2))))))))
theorem xb.cat {ts:List Tie}{p a b:Int}{k:Nat}(h:xb ts p k a):∀ {j:Nat},xb ts a j b->xb ts p (k+j) b:=by
 intro j h2
 induction h2 with
 | zero=>exact h
 | step _ had ih=>exact .step ih had
theorem xb.back {ts:List Tie}{p v:Int}{k:Nat}(h:xb ts p k v):xb ts v k p:=by
 induction h with
 | zero=>exact .zero
 | @step k a b _ had ih =>
  have:=(xb.step (ts:=ts) (p:=b) .zero had.symm).cat ih
  rwa[show 0+1+k=k+1 by omega]at this
def vR (m:Int)(ts:List Tie):Prop:=∀ p v,0<=p/\p < m->0<=v/\v < m->∃ k,xb ts p k v
theorem zcd {m:Int}{ts:List Tie}{p:Int}(hj:vR m ts)(hp:0<=p/\p < m):∃ ks:List Int,Yg m ts p=ks.map some/\(ks.length:Int)=m:=by
 refine⟨(Yg m ts p).map λo=>o.getD 0,?_,by rw[u6,XA];omega⟩
 rw[u0z]
 symm
 have:(Yg m ts p).map (some ∘ λo=>o.getD 0)=(Yg m ts p).map id:=by
  refine u0y λo ho=>?_
  unfold Yg at ho
  obtain⟨v,hv,rfl⟩:=u0c.mp ho
  have hv:=i5.mp hv
  rcases Yk ts p (v:Int)with ⟨k,e,_⟩ | ⟨e,hk⟩
  .rw[e];rfl
  .obtain⟨k,r⟩:=hj p v hp ⟨by omega,by omega⟩
   exact absurd r (hk k)
 rw[this,u3e]
theorem VC (ks:List Int):(ks.map some).map vG=ks.map .int:=by rw[u0z];rfl
def ZK:SE->Ctl :=
 (zO (xE false 3 (zq 2 wg (zb (zc 0) (zb (zc 2) zr))))
  (zO (xE false 4 (eFn zW (zb (ww (fLC (Wp wB (zb (zn ixD (zc 0) (eC (.int 0))) zr)) b1 (tOf (zn ya (zn ixD (zc 4) (zc 0)) (eC .non))) (zc 0))) zr)))
  (sIf (tOf (zn V0 (zn ixD (zc 4) (eC (.int 0))) (zc 2))) (Xg false 1 (zc 4)) yp)))
def Xu:SE->Ctl :=
 (zO (Xd (zq 1 zS (zb (zc 0) zr)))
  (zO (Za 1 (yw zr))
  (zO (xB wB (zb (zn ixD (zc 0) (eC (.int 0))) zr) (y8 2) ZK)
  (sFz 1 (y6 (zc 1))))))
def Vf:List D->Option D:=fnD 5 Xu
theorem Ve {m:Int}{ts:List Tie}(ok:zD m ts)(hj:vR m ts):Vf [zx m ts]=some (.lst [.tup ((List.range m.toNat).map wd)]):=by
 have hm1:=ok.lo
 have hm8:=ok.hi
 have hw:wW (zx m ts)=true:=(xu _).mpr ⟨_,_,rfl,ok⟩
 have e1:zS [zx m ts]=some .non:=by simp[zS,hw]
 have em:ixD (zx m ts) (.int 0)=some (.int m):=rfl
 obtain⟨n,hn⟩:∃ n:Nat,m.toNat=n+1:=⟨m.toNat - 1,by omega⟩
 refine WK (ρ:=[.v (zx m ts),.no,.no,.no,.no]) rfl ?_
 unfold Xu
 refine zA (ρ':=[.v (zx m ts),.no,.no,.no,.no]) (YG e1) ?_
 refine zA (ρ':=[.v (zx m ts),.o [],.no,.no,.no]) rfl ?_
 refine xw (ZR (lo:=0) (c:=m.toNat) (λi ρ=>∃ o2 o3 o4,ρ=[.v (zx m ts),.o (if i=0 then []else [.tup ((List.range m.toNat).map wd)]),o2,o3,o4]) ?_ ⟨_,_,_,rfl⟩ ?_ ?_)
 .show wB [.int m]=_
  exact wV (by omega) (by omega)
 .rintro i ρ hi ⟨o2,o3,o4,rfl⟩
  obtain⟨x,hx⟩:∃ x:Int,(0:Int)+(i:Int)=x:=⟨_,rfl⟩
  rw[hx]
  refine⟨_,rfl,?_⟩
  have hxp:0<=x/\x < m:=by omega
  obtain⟨ks,hks,hkl⟩:=zcd hj hxp
  have e2:=v2 ok hxp
  rw[hks,VC]at e2
  unfold ZK
  refine zA (ρ':=[.v (zx m ts),.o (if i=0 then []else [.tup ((List.range m.toNat).map wd)]),.v (.int x),.v (.lst (ks.map .int)),o4]) (yi e2) ?_
  have e3:=λa b=>show fLC (Wp wB (zb (zn ixD (zc 0) (eC (.int 0))) zr)) b1 (tOf (zn ya (zn ixD (zc 4) (zc 0)) (eC .non))) (zc 0) [some (zx m ts),a,some (.int x),some (.lst (ks.map .int)),b]=some ((List.range m.toNat).map wd) by
   unfold fLC
   show((wB [.int m]).bind λds=>if lim ds.length=true then _ else none)=_
   rw[wV (by omega) (by omega)]
   show(if lim (Z4 0 m.toNat).length=true then _ else none)=_
   rw[u8 (wn (by rw[YR];omega))]
   refine ZD wd wd (List.range m.toNat) λk hk=>⟨[some (wd k)],rfl,?_,rfl⟩
   have hk:=i5.mp hk
   have ea:=vt (ns:=ks) (i:=(0:Int)+(k:Int)) (by omega) (by omega)
   show(((atI (ks.map D.int) (0+(k:Int))).bind λa=>ya a .non).bind asB)=_
   rw[ea]
   rfl
  refine zA (ρ':=[.v (zx m ts),.o (if i=0 then []else [.tup ((List.range m.toNat).map wd)]),.v (.int x),.v (.lst (ks.map .int)),.v (.tup ((List.range m.toNat).map wd))]) (by simp[xE,vEv,visF,Sl.f,eFn,ww,zb,zr,e3,zW]) ?_
  have e4:atI ((List.range m.toNat).map wd) 0=some (.int 0):=by
   rw[hn,List.range_succ_eq_map,d8]
   exact zar (u05 _) rfl
  have e5:V0 (.int 0) (.int x)=some (.bl (decide ((0:Int)=x))):=rfl
  refine VF (c:=decide ((0:Int)=x)) (by simp[tOf,zn,zc,visG,Sl.g,eC,ixD,e4,e5,asB]) (λz=>?_) (λz=>Zw rfl ⟨.v (.int x),.v (.lst (ks.map .int)),.v (.tup ((List.range m.toNat).map wd)),?_⟩)
  .have z:=b7 z
   have hi0:i=0:=by omega
   subst hi0
   refine Zw (ρ':=[.v (zx m ts),.o [.tup ((List.range m.toNat).map wd)],.v (.int x),.v (.lst (ks.map .int)),.v (.tup ((List.range m.toNat).map wd))]) ?_ ⟨_,_,_,rfl⟩
   rw[zcx (ds:=[]) (d:=.tup ((List.range m.toNat).map wd)) rfl rfl (by simp)]
   rfl
  .have z:=u1C z
   have hi0:i≠0:=by omega
   rw[u9 hi0,u9 (by omega:i+1≠0)]
 .rintro ρ ⟨o2,o3,o4,rfl⟩
  rw[u9 (by omega)]
  exact zel (ρ':=[.v (zx m ts),.v (.lst [.tup ((List.range m.toNat).map wd)]),o2,o3,o4]) rfl (ZI rfl rfl)
theorem zdX (T:Txt K mg base ad):xo P w K mg base CX0 8 ad.f_pieces ad.e_pieces ["web"] (@spD ⟨K⟩ 1 Vf):=by
 letI:KK:=⟨K⟩
 have G_must_be_web:=Yx (P:=P) (w:=w) (base:=base) T
 have G_ties_away:=vS (P:=P) (w:=w) (base:=base) T
 refine yR (N:=["web","found","start","away","piece"]) (ps:=["web"]) T.d_pieces.fn Ye (g:=Xu) λcdv A outer s H E hr=>?_
 unfold Xu ZK
 exact(zd (YS (zj G_must_be_web hr rfl T.d_must_be_web (za (edv 0) ze)))
  (zd (v4 (i:=1) Ye.nd rfl (Or.inl rfl) (wC ze))
  (zd (vw u0a rfl rfl T.z_range (za (zF (edv 0) (zg zh) (λ_ _=>rfl)) ze) (yK (zI (i:=2) Ye.nd rfl (Or.inl rfl))) (zd (zX (m:=false) (i:=3) Ye.nd rfl (Or.inr rfl) (zj G_ties_away hr rfl T.d_ties_away (za (edv 0) (za (edv 2) ze))))
  (zd (zX (m:=false) (i:=4) Ye.nd rfl (Or.inl rfl) (xm zK xn rfl T.z_tuple yF (za (vM (ze0 (L:=["place"]) (M:=["web","found","start","away","piece"]) rfl (ZT (by rfl) (by rfl) (by rfl) (by with_unfolding_all rfl) (by rfl) (by rfl) (by kernel_rfl) (all_cons rfl vm)) (Wh rfl T.z_range (za (zF (edv 0) (zg zh) (λ_ _=>rfl)) ze)) gs1 rb1 (λ_ _ _ _=>(zI (i:=0) zmr rfl (Or.inl rfl) (.inr rfl))) (λ_ _ _ _=>(zV zaI WN (zN _) (zF (edv 4) (edv 0) (λ_ _=>rfl)) (zfj zfp))) (λ_ _ _ _=>(edv 0)))) ze)))
  (zi (wA (zV (XI hr) YO (zN _) (zF (edv 4) (zg zh) (λ_ _=>rfl)) (edv 2)) (zi (zaf (m:=false) (pv 1) (edv 4) (λa b=>zc9 u0E u03 u04 vX a b))) zP)))))
  (Yf 1 (zi (zE (edv 1)))))))
def vq:SE->Ctl :=
 (y6 (zn V0 (eFn Xk (zb (zq 1 Vf (zb (zc 0) zr)) zr)) (eC (.int 1))))
def YT:List D->Option D:=fnD 1 vq
theorem WX {m:Int}{ts:List Tie}(ok:zD m ts)(hj:vR m ts):YT [zx m ts]=some (.bl true):=by
 have e1:=Ve ok hj
 generalize (List.range m.toNat).map wd=pc at e1
 refine WK (ρ:=[.v (zx m ts)]) rfl ?_
 unfold vq
 have e2:Xk [.lst [.tup pc]]=some (.int 1):=rfl
 have e3:V0 (.int 1) (.int 1)=some (.bl true):=rfl
 exact ZI (d:=.bl true) (by simp[y6,visG,Sl.g,zn,eFn,zq,zb,zr,zc,eC,e1,e2,e3]) rfl
theorem za0 (T:Txt K mg base ad):xo P w K mg base CX0 9 ad.f_is_joined ad.e_is_joined ["web"] (@spD ⟨K⟩ 1 YT):=by
 letI:KK:=⟨K⟩
 have G_pieces:=zdX (P:=P) (w:=w) (base:=base) T
 refine yR (N:=["web"]) (ps:=["web"]) T.d_is_joined.fn zaC (g:=vq) λcdv A outer s H E hr=>?_
 unfold vq
 exact(zi (zE (za5 (XI hr) YO (zN _) (zR yy YJ rfl T.z_len XB (za (zj G_pieces hr rfl T.d_pieces (za (edv 0) ze)) ze)) (zg zh))))
def Y8:SE->Ctl :=
 (y6 (ZS (zq 1 YT (zb (zc 0) zr)) (zn V0 (eFn Xk (zb (zn ixD (zc 0) (eC (.int 1))) zr)) (zn Xs (zn ixD (zc 0) (eC (.int 0))) (eC (.int 1))))))
def XN:List D->Option D:=fnD 1 Y8
theorem zby {m:Int}{ts:List Tie}(ok:zD m ts)(hj:vR m ts)(hl:(ts.length:Int)=m - 1):XN [zx m ts]=some (.bl true):=by
 have e1:=WX ok hj
 have e2:Xk [.tup (ts.map zw)]=some (.int (m - 1)):=by
  show some (D.int ((ts.map zw).length:Int))=_
  rw[u6,hl]
 have em:ixD (zx m ts) (.int 0)=some (.int m):=rfl
 have em1:ixD (zx m ts) (.int 1)=some (.tup (ts.map zw)):=rfl
 have e3:V0 (.int (m - 1)) (.int (m - 1))=some (.bl true):=by
  show some (D.bl (decide (m - 1=m - 1)))=_
  rw[d4 rfl]
 have es:Xs (.int m) (.int 1)=some (.int (m - 1)):=rfl
 refine WK (ρ:=[.v (zx m ts)]) rfl ?_
 unfold Y8
 exact ZI (d:=.bl true) (by simp[y6,visG,Sl.g,ZS,zn,eFn,zq,zb,zr,zc,eC,e1,e2,em,em1,es,e3,asB]) rfl
theorem zc4 (T:Txt K mg base ad):xo P w K mg base CX0 10 ad.f_is_tree ad.e_is_tree ["web"] (@spD ⟨K⟩ 1 XN):=by
 letI:KK:=⟨K⟩
 have G_is_joined:=za0 (P:=P) (w:=w) (base:=base) T
 refine yR (N:=["web"]) (ps:=["web"]) T.d_is_tree.fn zdb (g:=Y8) λcdv A outer s H E hr=>?_
 unfold Y8
 exact(zi (zE (ZX (zj G_is_joined hr rfl T.d_is_joined (za (edv 0) ze)) (X1 (za5 (XI hr) YO (zN _) (zR yy YJ rfl T.z_len XB (za (zF (edv 0) (zg zh) (λ_ _=>rfl)) ze)) (WF (zF (edv 0) (zg zh) (λ_ _=>rfl)) (zg zh)))))))
def xF:SE->Ctl :=
 (sIf (xA (tOf (zq 1 XN (zb (zc 0) zr)))) sNo yp)
def wL:List D->Option D:=fnD 1 xF
theorem Wl {m:Int}{ts:List Tie}(ok:zD m ts)(hj:vR m ts)(hl:(ts.length:Int)=m - 1):wL [zx m ts]=some .non:=by
 have e1:=zby ok hj hl
 refine WK (ρ:=[.v (zx m ts)]) rfl ?_
 unfold xF
 exact VF (c:=false) (by simp[xA,tOf,visG,Sl.g,zq,zb,zr,zc,e1,asB]) (λz=>by cases z) (λ_=>Zw rfl rfl)
theorem X0 (T:Txt K mg base ad):xo P w K mg base CX0 11 ad.f_must_be_tree ad.e_must_be_tree ["web"] (@spD ⟨K⟩ 1 wL):=by
 letI:KK:=⟨K⟩
 have G_is_tree:=zc4 (P:=P) (w:=w) (base:=base) T
 refine yR (N:=["web"]) (ps:=["web"]) T.d_must_be_tree.fn XV (g:=xF) λcdv A outer s H E hr=>?_
 unfold xF
 exact(zi (wA (YB (Yz (zj G_is_tree hr rfl T.d_is_tree (za (edv 0) ze)))) (zi Xh) zP))
structure wT (i:Nat) (ns:List Int):Prop where
 len:ns.length=i
 nd:ns.Nodup
 mem:∀ x:Int,x∈ns↔0<=x/\x < (i:Int)
def zjZ (ns:List Int)(j:Int)(x:Int):List Int:=ns.take j.toNat++x::ns.drop j.toNat
theorem zfw (ns:List Int)(j x:Int):zjY (ns.map .int) j (.int x)=(zjZ ns j x).map .int:=by
 unfold zjY zjZ
 rw[i7,d8,List.map_take,List.map_drop]
theorem zdS (ns:List Int)(j x:Int):(zjZ ns j x).Perm (x::ns):=by
 unfold zjZ
 have:=List.perm_middle (a:=x) (l₁:=ns.take j.toNat) (l₂:=ns.drop j.toNat)
 rwa[p7]at this
theorem wT.ins {i:Nat}{ns:List Int}(h:wT i ns)(j:Int){x:Int}(hx:x=(i:Int)):wT (i+1) (zjZ ns j x):=by
 subst hx
 have p:=zdS ns j (i:Int)
 refine⟨by rw[p.length_eq,e8,h.len],?_,λx=>?_⟩
 .rw[p.nodup_iff,u0L]
  exact⟨λz=>by have:=(h.mem _).mp z;omega,h.nd⟩
 .rw[p.mem_iff,d7,h.mem]
  omega
def XL (ns:List Int)(ts:List Tie):Prop:=∀ (s:Nat) (t:Tie),ts[s]?=some t->∃ j:Nat,j<=s/\t=vO (vAt ns ((s+1:Nat):Int)) (vAt ns (j:Int))
theorem Yq (a b:Int):vO a b=(b,a)/\b < a\/vO a b=(a,b)/\a < b\/a=b:=by
 unfold vO
 by_cases c:b < a
 .left;rw[u8 c,u9 (by omega)];exact⟨rfl,c⟩
 .by_cases c2:b > a
  .right;left;rw[u9 c,u8 c2];exact⟨rfl,c2⟩
  .right;right;omega
theorem W4 {ns:List Int}{k:Nat}(h:k < ns.length):vAt ns (k:Int)=ns[k]:=by
 unfold vAt
 rw[show((k:Int)).toNat=k by omega,n8,u7 h]
 rfl
section
variable {n:Nat}{ns:List Int}{ts:List Tie}
theorem Ym (h:wT n ns){i j:Nat}(hi:i < n)(hj:j < n)(hij:i≠j):vAt ns (i:Int)≠vAt ns (j:Int):=by
 have hl:=h.len
 rw[W4 (by omega),W4 (by omega)]
 intro e
 exact hij ((u2A h.nd).mp e)
theorem zaV (h:wT n ns){i:Nat}(hi:i < n):0<=vAt ns (i:Int)/\vAt ns (i:Int) < (n:Int):=by
 have hl:=h.len
 rw[W4 (by omega)]
 exact(h.mem _).mp (u0N _)
theorem XL.rng (h:wT n ns)(g:XL ns ts)(hl:ts.length < n):∀ t∈ts,0<=t.1/\t.1 < t.2/\t.2 < (n:Int):=by
 intro t ht
 obtain⟨s,hs⟩:=u1G.mp ht
 obtain⟨j,hj,rfl⟩:=g s t hs
 have hsl:s < ts.length:=(t7.mp hs).1
 have ne:=Ym h (i:=s+1) (j:=j) (by omega) (by omega) (by omega)
 have r1:=zaV h (i:=s+1) (by omega)
 have r2:=zaV h (i:=j) (by omega)
 rcases Yq (vAt ns ((s+1:Nat):Int)) (vAt ns (j:Int))with ⟨e,c⟩ | ⟨e,c⟩ | e
 .rw[e];exact⟨r2.1,c,r1.2⟩
 .rw[e];exact⟨r1.1,c,r2.2⟩
 .exact absurd e ne
theorem XL.nodup (h:wT n ns)(g:XL ns ts)(hl:ts.length < n):ts.Nodup:=by
  rw [u1h,u0r]
  intro s s' hs hs' hlt e
  obtain ⟨j,hj,e1⟩:=g s ts[s] (u7 hs)
  obtain ⟨j',hj',e2⟩:=g s' ts[s'] (u7 hs')
  rw [e1,e2] at e
  have n1:=Ym h (i:=s'+1) (j:=s+1) (by omega) (by omega) (by omega)
  have n2:=Ym h (i:=s'+1) (j:=j) (by omega) (by omega) (by omega)
  have n3:=Ym h (i:=s+1) (j:=j) (by omega) (by omega) (by omega)
  have n4:=Ym h (i:=s'+1) (j:=j') (by omega) (by omega) (by omega)
  generalize vAt ns ((s'+1:Nat):Int)=a' at *
  generalize vAt ns ((s+1:Nat):Int)=a at *
  generalize vAt ns (j:Int)=b at *
  generalize vAt ns (j':Int)=b' at *
  rcases Yq a b with ⟨x1,c1⟩ | ⟨x1,c1⟩ | x1 <;> rcases Yq a' b' with ⟨x2,c2⟩ | ⟨x2,c2⟩ | x2 <;> first
    | exact n3 x1
    | exact n4 x2
    | (rw [x1,x2] at e
       have f1:=u0W Prod.fst e
       have f2:=u0W Prod.snd e
       simp only at f1 f2
       first | exact n1 f1.symm | exact n1 f2.symm | exact n2 f1.symm | exact n2 f2.symm)
theorem XL.snoc (g:XL ns ts){j:Nat}(hj:j<=ts.length){t:Tie}(ht:t=vO (vAt ns ((ts.length+1:Nat):Int)) (vAt ns (j:Int))):XL ns (ts++[t]):=by
 intro s u hs
 by_cases c:s < ts.length
 .rw[u0q c]at hs
  exact g s u hs
 .rw[u0e (by omega)]at hs
  by_cases c2:s=ts.length
  .subst c2
   simp at hs
   exact⟨j,hj,by rw[<-hs,ht]⟩
  .rw[u0m (by simp;omega)]at hs
   cases hs
theorem XL.joined (h:wT n ns)(g:XL ns ts)(hl:ts.length+1=n){us:List Tie}(hp:us.Perm ts):vR (n:Int) us:=by
 have key:∀ s:Nat,s < n->∃ k,xb us (vAt ns ((0:Nat):Int)) k (vAt ns (s:Int)):=by
  intro s
  induction s using Nat.strongRecOn with
  | _ s ih =>
   intro hs
   cases s with
   | zero=>exact⟨0,.zero⟩
   | succ s =>
    have hsl:s < ts.length:=by omega
    obtain⟨j,hj,e⟩:=g s ts[s] (u7 hsl)
    obtain⟨k,r⟩:=ih j (by omega) (by omega)
    refine⟨k+1,.step r ?_⟩
    have hm:vO (vAt ns ((s+1:Nat):Int)) (vAt ns (j:Int))∈us:=by
     rw[<-e]
     exact hp.mem_iff.mpr (u0N hsl)
    have ne:=Ym h (i:=s+1) (j:=j) (by omega) (by omega) (by omega)
    rcases Yq (vAt ns ((s+1:Nat):Int)) (vAt ns (j:Int))with ⟨x,c⟩ | ⟨x,c⟩ | x
    .rw[x]at hm;exact .inl hm
    .rw[x]at hm;exact .inr hm
    .exact absurd x ne
 have all:∀ v:Int,0<=v/\v < (n:Int)->∃ k,xb us (vAt ns ((0:Nat):Int)) k v:=λv hv=>by
  obtain⟨s,hs⟩:=u1G.mp ((h.mem v).mpr hv)
  obtain⟨hs1,hs2⟩:=t7.mp hs
  have hlen:=h.len
  obtain⟨k,r⟩:=key s (by omega)
  rw[W4 hs1,hs2]at r
  exact⟨k,r⟩
 intro p v hp' hv
 obtain⟨k,r⟩:=all p hp'
 obtain⟨j,r2⟩:=all v hv
 exact⟨_,r.back.cat r2⟩
end
def xQ:SE->Ctl :=
 (zO (xE false 7 (zn xK (zc 6) (zc 4)))
  (zO (xE false 6 (zn xJ (zc 6) (zc 4)))
  (zO (sIf (tOf (zn V0 (zn xK (zn xJ (zc 0) (zc 1)) (eC (.int 2))) (eC (.int 1)))) (xE false 7 (eFn VS (zb (eC (.int 0)) (zb (zn Xs (zn Xs (zc 4) (eC (.int 1))) (zn xK (zq 2 zy (zb (zc 0) (zb (zn x5 (eC (.int 60)) (zc 4)) zr))) (eC (.int 3)))) zr)))) yp)
  (Xg false 5 (ZZ (zb (eFn zgP (zb (zn ixD (zc 3) (zc 4)) (zb (zn ixD (zc 3) (zc 7)) zr))) (zb (eFn VS (zb (zn ixD (zc 3) (zc 4)) (zb (zn ixD (zc 3) (zc 7)) zr))) zr)))))))
def xN:SE->Ctl :=
 (zka false 3 (zn xK (zq 2 zy (zb (zc 0) (zb (zn x5 (eC (.int 40)) (zc 4)) zr))) (zn x5 (zc 4) (eC (.int 1)))) (zc 4))
def yP:SE->Ctl :=
 (zO (xE false 2 (zn x5 (eC (.int 1)) (zn xK (zc 0) (zc 1))))
  (zO (Za 3 (yw zr))
  (zO (xB wB (zb (zc 2) zr) (y8 4) xN)
  (sFz 3 (zO (Za 5 (yw zr))
  (zO (xE false 6 (zn xJ (zc 0) (zc 1)))
  (zO (xB WZ (zb (eC (.int 1)) (zb (zc 2) zr)) (y8 4) xQ)
  (sFz 5 (y6 (ZZ (zb (zc 2) (zb (eFn zW (zb (ww (fFn zds (zb (zc 5) zr))) zr)) zr))))))))))))
def wN:List D->Option D:=fnD 8 yP
theorem zdp {c mo:Int}(h1:1<=mo)(h8:mo<=8):∃ ts,wN [.int c,.int mo]=some (zx (1+c % mo) ts)/\zD (1+c % mo) ts/\vR (1+c % mo) ts/\(ts.length:Int)=1+c % mo - 1:=by
 obtain⟨g1,g2⟩:=xD (a:=c) (zba h1) rfl
 obtain⟨n,hn⟩:∃ n:Nat,1+c % mo=((n+1:Nat):Int):=⟨(c % mo).toNat,by omega⟩
 obtain⟨m,hm⟩:∃ m:Int,1+c % mo=m:=⟨_,rfl⟩
 obtain⟨lf,hlf⟩:∃ lf:Int,c / mo=lf:=⟨_,rfl⟩
 rw[hm]
 rw[hm]at hn
 have hmp:=zba h1
 have hn7:n<=7:=by omega
 have hmB:mo < 1606938044258990275541962092341162602522202993782792835301376:=by omega
 clear g1 g2 h8
 have key:=zgE (m:=8) (g:=yP) (ds:=[.int c,.int mo]) (R:=λd=>∃ (ns:List Int) (ts:List Tie),d=zx m (Vz ts)/\wT (n+1) ns/\XL ns ts/\ts.length=n) (ρ:=[.v (.int c),.v (.int mo),.no,.no,.no,.no,.no,.no]) rfl ?_
 .obtain⟨d,e,ns,ts,rfl,hnm,hg,hl⟩:=key
  have hp:=WL ts
  refine⟨_,e,⟨by omega,by omega,λt ht=>?_,V7 (hg.nodup hnm (by omega))⟩,?_,by rw[hp.length_eq];omega⟩
  .have:=hg.rng hnm (by omega) t (hp.mem_iff.mp ht)
   rw[hn]
   exact this
  .rw[hn]
   exact hg.joined hnm (by omega) hp
 unfold yP
 have es:∀ k:Int,zy [.int c,.int k]=some (.int (ZQ c k)):=λk=>rfl
 have e0:xK (.int c) (.int mo)=some (.int (c % mo)):=yt hmp
 have e1:xJ (.int c) (.int mo)=some (.int lf):=by rw[Zl hmp hmB,hlf]
 refine zA (ρ':=[.v (.int c),.v (.int mo),.v (.int m),.no,.no,.no,.no,.no]) (by simp[xE,vEv,visF,Sl.f,zn,zc,eC,e0,yd,hm]) ?_
 refine zA (ρ':=[.v (.int c),.v (.int mo),.v (.int m),.o (([]:List Int).map .int),.no,.no,.no,.no]) rfl ?_
 refine xw (ZR (lo:=0) (c:=n+1) (λi ρ=>∃ (ns:List Int) (o4:Sl),ρ=[.v (.int c),.v (.int mo),.v (.int m),.o (ns.map .int),o4,.no,.no,.no]/\wT i ns) ?_ ⟨[],_,rfl,rfl,u3E,λx=>by simp <;> omega⟩ ?_ ?_)
 .show wB [.int m]=_
  exact zj6 hn hn7
 .rintro i ρ hi ⟨ns,o4,rfl,hnm⟩
  obtain⟨x,hx⟩:∃ x:Int,(0:Int)+(i:Int)=x:=⟨_,rfl⟩
  rw[hx]
  refine⟨_,rfl,?_⟩
  unfold xN
  obtain⟨j,hj⟩:∃ j:Int,ZQ c (40+x) % (x+1)=j:=⟨_,rfl⟩
  have x1:0 < x+1:=by omega
  obtain⟨j0,j1⟩:=xD x1 hj
  have m1:xK (.int (ZQ c (40+x))) (.int (x+1))=some (.int j):=by rw[yt x1,hj]
  have a1:x5 (.int 40) (.int x)=some (.int (40+x)):=rfl
  have a2:x5 (.int x) (.int 1)=some (.int (x+1)):=rfl
  have hl:=hnm.len
  refine Zw (ρ':=[.v (.int c),.v (.int mo),.v (.int m),.o ((zjZ ns j x).map .int),.v (.int x),.no,.no,.no]) ?_ ⟨_,_,rfl,hnm.ins j (by omega)⟩
  rw[zls (ds:=ns.map .int) (d:=.int x) (k:=j) ?_ rfl rfl (by rw[u6];omega) j0 (by omega),zfw]
  .rfl
  .have es2:=es (40+x)
   generalize ZQ c (40+x)=sx at *
   simp[vEv,visF,Sl.f,zn,zq,zb,zr,zc,eC,a1,a2,es2,m1]
 .rintro ρ ⟨ns,o4,rfl,hnm⟩
  have hl:=hnm.len
  refine zel (ρ':=[.v (.int c),.v (.int mo),.v (.int m),.v (.lst (ns.map .int)),o4,.no,.no,.no]) rfl ?_
  refine zA (ρ':=[.v (.int c),.v (.int mo),.v (.int m),.v (.lst (ns.map .int)),o4,.o (([]:List Tie).map zw),.no,.no]) rfl ?_
  refine zA (ρ':=[.v (.int c),.v (.int mo),.v (.int m),.v (.lst (ns.map .int)),o4,.o (([]:List Tie).map zw),.v (.int lf),.no]) (yi e1) ?_
  refine xw (ZR (lo:=1) (c:=n) (λi ρ=>∃ (ts:List Tie) (l:Int) (o4 o7:Sl),ρ=[.v (.int c),.v (.int mo),.v (.int m),.v (.lst (ns.map .int)),o4,.o (ts.map zw),.v (.int l),o7]/\XL ns ts/\ts.length=i) ?_ ⟨[],lf,_,_,rfl,λs t h=>by simp at h,rfl⟩ ?_ ?_)
  .show WZ [.int 1,.int m]=_
   exact zkC hn hn7
  .rintro i ρ hi ⟨ts,l,o4,o7,rfl,hg,hi2⟩
   obtain⟨x,hx⟩:∃ x:Int,(1:Int)+(i:Int)=x:=⟨_,rfl⟩
   rw[hx]
   refine⟨[.v (.int c),.v (.int mo),.v (.int m),.v (.lst (ns.map .int)),.v (.int x),.o (ts.map zw),.v (.int l),o7],rfl,?_⟩
   unfold xQ
   have xp:0 < x:=by omega
   have m1:xK (.int l) (.int x)=some (.int (l % x)):=yt xp
   have m2:xJ (.int l) (.int x)=some (.int (l / x)):=Zl xp (by omega)
   refine zA (ρ':=[.v (.int c),.v (.int mo),.v (.int m),.v (.lst (ns.map .int)),.v (.int x),.o (ts.map zw),.v (.int l),.v (.int (l % x))]) (yi m1) ?_
   refine zA (ρ':=[.v (.int c),.v (.int mo),.v (.int m),.v (.lst (ns.map .int)),.v (.int x),.o (ts.map zw),.v (.int (l / x)),.v (.int (l % x))]) (yi m2) ?_
   refine zm7 (fun ρ=>∃ j:Int,ρ=[.v (.int c),.v (.int mo),.v (.int m),.v (.lst (ns.map .int)),.v (.int x),.o (ts.map zw),.v (.int (l / x)),.v (.int j)]/\0<=j/\j < x) ?_ ?_
   .have m3:xK (.int lf) (.int 2)=some (.int (lf % 2)):=yt (by decide)
    have q1:V0 (.int (lf % 2)) (.int 1)=some (.bl (decide (lf % 2=1))):=rfl
    refine VF (c:=decide (lf % 2=1)) (by simp[tOf,zn,zc,visG,Sl.g,eC,e1,m3,q1,asB]) (λ_=>?_) (λ_=>Zw rfl ⟨_,rfl,(xD xp rfl).1,(xD xp rfl).2⟩)
    obtain⟨r,hr⟩:∃ r:Int,ZQ c (60+x) % 3=r:=⟨_,rfl⟩
    have r0:=(xD (by decide) hr).1
    have m4:xK (.int (ZQ c (60+x))) (.int 3)=some (.int r):=by rw[yt (by decide),hr]
    have a1:x5 (.int 60) (.int x)=some (.int (60+x)):=rfl
    have s1:Xs (.int x) (.int 1)=some (.int (x - 1)):=rfl
    have s2:Xs (.int (x - 1)) (.int r)=some (.int (x - 1 - r)):=rfl
    have x1:VS [.int 0,.int (x - 1 - r)]=some (.int (if x - 1 - r > 0 then x - 1 - r else 0)):=rfl
    refine Zw (ρ':=[.v (.int c),.v (.int mo),.v (.int m),.v (.lst (ns.map .int)),.v (.int x),.o (ts.map zw),.v (.int (l / x)),.v (.int (if x - 1 - r > 0 then x - 1 - r else 0))]) ?_ ⟨_,rfl,by split <;> omega,by split <;> omega⟩
    have es2:=es (60+x)
    generalize ZQ c (60+x)=sx at *
    generalize (if x - 1 - r > 0 then x - 1 - r else 0)=mx at *
    simp[xE,vEv,visF,Sl.f,eFn,zn,zq,zb,zr,zc,eC,a1,es2,m4,s1,s2,x1]
   .rintro ρ ⟨j,rfl,j0,j1⟩
    have ex:=vt (ns:=ns) (i:=x) (by omega) (by omega)
    have ej:=vt (ns:=ns) (i:=j) (by omega) (by omega)
    have hmin:zgP [.int (vAt ns x),.int (vAt ns j)]=some (.int (vO (vAt ns x) (vAt ns j)).1):=rfl
    have hmax:VS [.int (vAt ns x),.int (vAt ns j)]=some (.int (vO (vAt ns x) (vAt ns j)).2):=rfl
    refine Zw (ρ':=[.v (.int c),.v (.int mo),.v (.int m),.v (.lst (ns.map .int)),.v (.int x),.o ((ts++[vO (vAt ns x) (vAt ns j)]).map zw),.v (.int (l / x)),.v (.int j)]) ?_ ⟨_,_,_,_,rfl,hg.snoc (j:=j.toNat) (by omega) ?_,by rw[r9,hi2];rfl⟩
    .generalize vO (vAt ns x) (vAt ns j)=tt at *
     rw[zcx (ds:=ts.map zw) (d:=zw tt) ?_ rfl (by rw[u6];omega),i7]
     .rfl
     .simp[vEv,visF,Sl.f,ZZ,eFn,zb,zr,zn,zc,ixD,ex,ej,hmin,hmax,wn]
      rfl
    .rw[show((ts.length+1:Nat):Int)=x by omega,show((j.toNat:Nat):Int)=j by omega]
  .rintro ρ ⟨ts,l,o4,o7,rfl,hg,hi2⟩
   have e5:=zdj (ts:=ts) (by omega)
   refine zel (ρ':=[.v (.int c),.v (.int mo),.v (.int m),.v (.lst (ns.map .int)),o4,.v (.lst (ts.map zw)),.v (.int l),o7]) rfl ?_
   refine ZI (d:=zx m (Vz ts)) ?_ ⟨ns,ts,rfl,hnm,hg,hi2⟩
   simp[y6,visG,Sl.g,ZZ,eFn,ww,fFn,zb,zr,zc,e5,zW,wn]
   rfl
theorem Wg (T:Txt K mg base ad):xo P w K mg base CX0 2 ad.f__law_tree_by ad.e__law_tree_by ["cell","most"] (@spD ⟨K⟩ 2 wN):=by
 letI:KK:=⟨K⟩
 have G__law_stir:=Yd (P:=P) (w:=w) (base:=base) T
 refine yR (N:=["cell","most","many","names","k","ties","left","inner"]) (ps:=["cell","most"]) T.d__law_tree_by.fn zB (g:=yP) λcdv A outer s H E hr=>?_
 unfold yP xN xQ
 exact(zd (zX (m:=false) (i:=2) zB.nd rfl (Or.inl rfl) (yf (zg zh) (xL (edv 0) (edv 1))))
  (zd (v4 (i:=3) zB.nd rfl (Or.inl rfl) (wC ze))
  (zd (vw u0a rfl rfl T.z_range (za (edv 2) ze) (yK (zI (i:=4) zB.nd rfl (Or.inl rfl))) (zi (zkN (m:=false) (pv 3) (xL (zj G__law_stir hr rfl T.d__law_stir (za (edv 0) (za (yf (zg zh) (edv 4)) ze))) (yf (edv 4) (zg zh))) (edv 4) (λa b=>zc9 u0E PySem.F.slot_list_insert PySem.F.type_list_insert zeL a b))))
  (Yf 3 (zd (v4 (i:=5) zB.nd rfl (Or.inl rfl) (wC ze))
  (zd (zX (m:=false) (i:=6) zB.nd rfl (Or.inl rfl) (ZA (edv 0) (edv 1)))
  (zd (zgb u0a rfl rfl T.z_range (za (zg zh) (za (edv 2) ze)) (yK (zI (i:=4) zB.nd rfl (Or.inl rfl))) (zd (zX (m:=false) (i:=7) zB.nd rfl (Or.inl rfl) (xL (edv 6) (edv 4)))
  (zd (zX (m:=false) (i:=6) zB.nd rfl (Or.inl rfl) (ZA (edv 6) (edv 4)))
  (zd (wA (zV (XI hr) YO (zN _) (xL (ZA (edv 0) (edv 1)) (zg zh)) (zg zh)) (zi (zX (m:=false) (i:=7) zB.nd rfl (Or.inl rfl) (zR (Zk rfl) Xn rfl T.z_max zao (za (zg zh) (za (WF (WF (edv 4) (zg zh)) (xL (zj G__law_stir hr rfl T.d__law_stir (za (edv 0) (za (yf (zg zh) (edv 4)) ze))) (zg zh))) ze))))) zP)
  (zi (zaf (m:=false) (pv 5) (zak (za (zR (zbd rfl) zcE rfl T.z_min zic (za (zF (edv 3) (edv 4) (λ_ _=>rfl)) (za (zF (edv 3) (edv 7) (λ_ _=>rfl)) ze))) (za (zR (Zk rfl) Xn rfl T.z_max zao (za (zF (edv 3) (edv 4) (λ_ _=>rfl)) (za (zF (edv 3) (edv 7) (λ_ _=>rfl)) ze))) ze))) (λa b=>zc9 u0E u03 u04 vX a b)))))))
  (Yf 5 (zi (zE (zak (za (edv 2) (za (xm zK xn rfl T.z_tuple yF (za (vM (zeI rfl rfl T.z_sorted (za (edv 5) ze))) ze)) ze)))))))))))))
theorem Vw:∀ (N:Nat) (l:List Nat),l.Nodup->(∀ x∈l,x < N)->l.length<=N
 | 0,l,_,h=>by
  cases l with
  | nil=>exact q5 _
  | cons a r=>exact absurd (h a (.head _)) (u3A _)
 | N+1,l,hn,h=>by
  by_cases hm:N∈l
  .have h1:=Vw N (l.erase N) (hn.erase N) λx hx=>by
    have h2:=(hn.mem_erase_iff).mp hx
    exact Nat.lt_of_le_of_ne (Nat.le_of_lt_succ (h x h2.2)) h2.1
   rw[u1q hm]at h1
   omega
  .exact Nat.le_succ_of_le (Vw N l hn λx hx=>Nat.lt_of_le_of_ne (Nat.le_of_lt_succ (h x hx)) λe=>hm (e ▸ hx))
def code (B:Nat):List Int->Nat
 | []=>0
 | v::r=>v.toNat+B*code B r
theorem zew {B:Nat}:∀ {x:List Int},(∀ v∈x,0<=v/\v < (B:Int))->code B x < B ^ x.length
 | [],_=>Nat.one_pos
 | v::r,h=>by
  have h1:=zew (x:=r) λw hw=>h w (.tail _ hw)
  have h2:=h v (.head _)
  show v.toNat+B*code B r < B ^ (r.length+1)
  have h3:v.toNat < B:=by omega
  have h4:B*(code B r+1)<=B*B ^ r.length:=Nat.mul_le_mul_left B h1
  rw[Nat.mul_succ]at h4
  rw[Nat.pow_succ,Nat.mul_comm (B ^ r.length) B]
  exact o0 (by rw[Nat.add_comm];exact Nat.add_lt_add_left h3 _) h4
theorem zcy {B:Nat}:∀ {x y:List Int},x.length=y.length->(∀ v∈x,0<=v/\v < (B:Int))->(∀ v∈y,0<=v/\v < (B:Int))->code B x=code B y->x=y
 | [],[],_,_,_,_=>rfl
 | [],_::_,h,_,_,_=>by cases h
 | _::_,[],h,_,_,_=>by cases h
 | v::r,w::q,hl,hx,hy,e=>by
  have h1:=hx v (.head _)
  have h2:=hy w (.head _)
  have e:v.toNat+B*code B r=w.toNat+B*code B q:=e
  have hB:0 < B:=by omega
  have e1:v.toNat=w.toNat:=by
   have:=u0W (· % B) e
   simp only[Nat.add_mul_mod_self_left]at this
   rwa[Nat.mod_eq_of_lt (by omega),Nat.mod_eq_of_lt (by omega)]at this
  have e2:code B r=code B q:=by
   rw[e1]at e
   exact Nat.eq_of_mul_eq_mul_left hB (Nat.add_left_cancel e)
  rw[zcy (by simpa using hl) (λz hz=>hx z (.tail _ hz)) (λz hz=>hy z (.tail _ hz)) e2]
  congr 1
  omega
theorem zgq {B m:Nat}{l:List (List Int)}(hn:l.Nodup)(h:∀ x∈l,x.length=m/\∀ v∈x,0<=v/\v < (B:Int)):l.length<=B ^ m:=by
 have h1:=Vw (B ^ m) (l.map (code B)) ?_ ?_
 .rwa[u6]at h1
 .unfold List.Nodup at hn ⊢
  rw[u0S]
  refine u29 (λ{a b} ha hb hab e=>hab ?_) hn
  exact zcy (by rw[(h a ha).1,(h b hb).1]) (h a ha).2 (h b hb).2 e
 .intro x hx
  obtain⟨y,hy,rfl⟩:=u0c.mp hx
  have:=zew (h y hy).2
  rwa[(h y hy).1]at this
abbrev Hl:=List Int
def hD (h:Hl):D:=.tup (h.map .int)
def hK (h:Hl):List Key:=h.map Sum.inl
theorem zeq:∀ {a b:Hl},hK a=hK b->a=b
 | [],[],_=>rfl
 | [],_::_,h=>by cases h
 | _::_,[],h=>by cases h
 | a::r,b::q,h=>by
  injection h with h1 h2
  injection h1 with h1
  rw[h1,zeq h2]
theorem WY (h:Hl):zf9 (hD h)=some (hK h):=by
 show zcU (h.map .int)=some (h.map Sum.inl)
 induction h with
 | nil=>rfl
 | cons a r ih =>
  show(some (Sum.inl a)).bind (λk=>(zcU (r.map .int)).map (k::·))=_
  rw[ih]
  rfl
def zbe (h:Hl)(i x:Int):Hl:=h.set i.toNat x
def moved (h:Hl)(s:Tie):Hl:=zbe (zbe h s.1 (vAt h s.1 - 2)) s.2 (vAt (zbe h s.1 (vAt h s.1 - 2)) s.2+1)
theorem Xp (h:Hl)(i x:Int):(zbe h i x).length=h.length:=by unfold zbe;exact u0x
theorem zaL (h:Hl)(s:Tie):(moved h s).length=h.length:=by unfold moved;rw[Xp,Xp]
theorem zhf {h:Hl}{i j x:Int}(hi:0<=i)(hl:i < h.length)(hj:0<=j):vAt (zbe h i x) j=if j=i then x else vAt h j:=by
 unfold vAt zbe
 rw[n8,u0D,n8]
 by_cases e:j=i
 .subst e
  rw[u8 rfl,u8 (by omega),u8 rfl]
  rfl
 .rw[u9 (by omega),u9 e]
theorem zcA {h:Hl}{i x:Int}(hi:0<=i)(hl:i < h.length):(zbe h i x).sum=h.sum - vAt h i+x:=by
 unfold zbe
 rw[zbh (h:=by omega)]
 unfold vAt
 rw[Dl.getD_at (by omega)]
theorem zch {h:Hl}{i x v:Int}(hv:v∈zbe h i x):v=x\/v∈h:=by
 unfold zbe at hv
 rcases u1l hv with e | e
 .exact .inr e
 .exact .inl e
structure WJ (n:Nat) (s:Tie):Prop where
 a0:0<=s.1
 a1:s.1 < (n:Int)
 b0:0<=s.2
 b1:s.2 < (n:Int)
 ne:s.1≠s.2
theorem zej {h:Hl}{s:Tie}(hs:WJ h.length s):(moved h s).sum=h.sum - 1:=by
 unfold moved
 rw[zcA hs.b0 (by rw[Xp];exact hs.b1),zcA hs.a0 hs.a1]
 omega
theorem zjC {h:Hl}{i:Int}(hi:0<=i)(hl:i < h.length):vAt h i∈h:=by
 unfold vAt
 exact Dl.getD_mem (by omega)
theorem zg3 {h:Hl}{s:Tie}(hs:WJ h.length s)(hn:∀ v∈h,0<=v)(h2:2<=vAt h s.1):∀ v∈moved h s,0<=v:=by
 intro v hv
 unfold moved at hv
 have e:vAt (zbe h s.1 (vAt h s.1 - 2)) s.2=vAt h s.2:=by
  rw[zhf hs.a0 hs.a1 hs.b0,u9 (λe=>hs.ne e.symm)]
 rcases zch hv with rfl | hv
 .rw[e]
  have:=hn _ (zjC hs.b0 hs.b1)
  omega
 .rcases zch hv with rfl | hv
  .omega
  .exact hn v hv
inductive Beh (ss:List Tie) (h0:Hl):Hl->Prop
 | zero:Beh ss h0 h0
 | step {g:Hl} {s:Tie}:Beh ss h0 g->s∈ss->2<=vAt g s.1->Beh ss h0 (moved g s)
abbrev Fd:=List (Hl × Option (Hl × Tie))
def zib:Option (Hl × Tie)->D
 | none=>.non
 | some p=>.tup [hD p.1,zw p.2]
def fdK (f:Fd):List (List Key):=f.map λe=>hK e.1
def fdV (f:Fd):List D:=f.map λe=>zib e.2
def WA:Fd->Hl->Option (Option (Hl × Tie))
 | [],_=>none
 | e::f,g=>if e.1=g then some e.2 else WA f g
theorem zfG (g:Hl):∀ f:Fd,ZL (fdK f) (fdV f) (hK g)=(WA f g).map zib
 | []=>rfl
 | e::f=>by
  refine Zc.trans ?_
  show(if hK e.1=hK g then some (zib e.2)else ZL (fdK f) (fdV f) (hK g))=(if e.1=g then some e.2 else WA f g).map zib
  by_cases h:e.1=g
  .rw[u8 h,u8 (by rw[h])];rfl
  .rw[u9 h,u9 (λz=>h (zeq z)),zfG g f]
def InF (f:Fd)(g:Hl):Prop:=(WA f g).isSome=true
theorem xq {g:Hl}:∀ {f:Fd},InF f g↔∃ e∈f,e.1=g
 | []=>⟨λh=>(by cases h),λ⟨_,h,_⟩=>(by cases h)⟩
 | e::f=>by
  have ih:=xq (g:=g) (f:=f)
  unfold InF at ih ⊢
  show(if e.1=g then some e.2 else WA f g).isSome=true↔_
  by_cases h:e.1=g
  .rw[u8 h]
   exact⟨λ_=>⟨e,.head _,h⟩,λ_=>rfl⟩
  .rw[u9 h,ih]
   constructor
   .rintro⟨x,hx,he⟩
    exact⟨x,.tail _ hx,he⟩
   .rintro⟨x,hx,he⟩
    rcases d7.mp hx with rfl | hx
    .exact absurd he h
    .exact⟨x,hx,he⟩
theorem zb7 {e:Hl × Option (Hl × Tie)}{g:Hl}:∀ {f:Fd},WA (f++[e]) g=if (WA f g).isSome=true then WA f g else if e.1=g then some e.2 else none
 | []=>rfl
 | x::f=>by
  have ih:=zb7 (e:=e) (g:=g) (f:=f)
  show(if x.1=g then some x.2 else WA (f++[e]) g)=if (if x.1=g then some x.2 else WA f g).isSome=true then (if x.1=g then some x.2 else WA f g)else _
  by_cases h:x.1=g
  .rw[u8 h,u8 h];rfl
  .rw[u9 h,u9 h,ih]
theorem InF.app {f:Fd}{g:Hl}(h:InF f g)(e:Hl × Option (Hl × Tie)):InF (f++[e]) g:=by
 obtain⟨x,hx,he⟩:=xq.mp h
 exact xq.mpr ⟨x,d9.mpr (.inl hx),he⟩
theorem zd7 (f:Fd)(e:Hl × Option (Hl × Tie)):InF (f++[e]) e.1:=xq.mpr ⟨e,d9.mpr (.inr (.head _)),rfl⟩
theorem zbT {f:Fd}{e:Hl × Option (Hl × Tie)}{g:Hl}(h:InF (f++[e]) g):InF f g\/g=e.1:=by
 obtain⟨x,hx,he⟩:=xq.mp h
 rcases d9.mp hx with hx | hx
 .exact .inl (xq.mpr ⟨x,hx,he⟩)
 .cases t9.mp hx
  exact .inr he.symm
structure zfy (ss:List Tie) (h0:Hl) (f:Fd):Prop where
 nd:(f.map (·.1)).Nodup
 beh:∀ e∈f,Beh ss h0 e.1
 prv:∀ e∈f,(e.2=none/\e.1=h0)\/∃ p s,e.2=some (p,s)/\s∈ss/\2<=vAt p s.1/\e.1=moved p s/\InF f p
 root:WA f h0=some none
theorem zfy.start (ss:List Tie)(h0:Hl):zfy ss h0 [(h0,none)]:=by
 refine⟨by simp,λe he=>?_,λe he=>?_,?_⟩
 .cases t9.mp he;exact .zero
 .cases t9.mp he;exact .inl ⟨rfl,rfl⟩
 .show(if h0=h0 then _ else _)=_
  rw[u8 rfl]
theorem zfy.add {ss:List Tie}{h0 p:Hl}{f:Fd}{s:Tie}(h:zfy ss h0 f)(hp:InF f p)(hs:s∈ss)(h2:2<=vAt p s.1)(hn:¬ InF f (moved p s)):zfy ss h0 (f++[(moved p s,some (p,s))]):=by
 refine⟨?_,λe he=>?_,λe he=>?_,?_⟩
 .rw[i7]
  refine List.nodup_append.mpr ⟨h.nd,by simp,λa ha b hb e=>?_⟩
  cases t9.mp hb
  obtain⟨x,hx,he⟩:=u0c.mp ha
  exact hn (xq.mpr ⟨x,hx,he.trans e⟩)
 .rcases d9.mp he with he | he
  .exact h.beh e he
  .cases t9.mp he
   obtain⟨x,hx,rfl⟩:=xq.mp hp
   exact .step (h.beh x hx) hs h2
 .rcases d9.mp he with he | he
  .rcases h.prv e he with z | ⟨q,t,z1,z2,z3,z4,z5⟩
   .exact .inl z
   .exact .inr ⟨q,t,z1,z2,z3,z4,z5.app _⟩
  .cases t9.mp he
   exact .inr ⟨p,s,rfl,hs,h2,rfl,hp.app _⟩
 .rw[zb7,h.root]
  rfl
structure HOk (n:Nat) (S:Int) (g:Hl):Prop where
 len:g.length=n
 nn:∀ v∈g,0<=v
 sum:g.sum<=S
theorem Beh.ok {n:Nat}{ss:List Tie}{h0 g:Hl}(hs:∀ s∈ss,WJ n s)(h:HOk n h0.sum h0)(b:Beh ss h0 g):HOk n h0.sum g:=by
 induction b with
 | zero=>exact h
 | step b hs' h2 ih =>
  have e:=hs _ hs'
  rw[<-ih.len]at e
  refine⟨by rw[zaL];exact ih.len,zg3 e ih.nn h2,?_⟩
  rw[zej e]
  have:=ih.sum
  omega
theorem zfy.count {n:Nat}{ss:List Tie}{h0:Hl}{f:Fd}(hs:∀ s∈ss,WJ n s)(h:HOk n h0.sum h0)(ok:zfy ss h0 f):f.length<=(h0.sum.toNat+1) ^ n:=by
 have e:=zgq (B:=h0.sum.toNat+1) (m:=n) ok.nd λx hx=>by
  obtain⟨y,hy,rfl⟩:=u0c.mp hx
  have b:=(ok.beh y hy).ok hs h
  refine⟨b.len,λv hv=>⟨b.nn v hv,?_⟩⟩
  have h1:=WG b.nn hv
  have h2:=b.sum
  omega
 rwa[u6]at e
def zjg (ss:List Tie)(f:Fd)(g:Hl):Prop:=∀ s∈ss,2<=vAt g s.1->InF f (moved g s)
structure AllF (ss:List Tie) (h0:Hl) (f:Fd):Prop where
 ok:zfy ss h0 f
 iff:∀ g,InF f g↔Beh ss h0 g
theorem ziK {m:Bool}{i:Nat}{f:Ev->Option D}{ρ ρ':SE}{ds:List D}{d:D}(h1:vEv m f ρ=some d)(h2:ρ[i]?=some (.o ds))(h3:ds.length < sizeLine)(h4:ρ.set i (.o (ds++[d]))=ρ'):Xg m i f ρ=.nx ρ':=by
 unfold Xg
 rw[h1,h2]
 show(match (if decide (ds.length < sizeLine)=true then some (ρ.set i (.o (ds++[d])))else none)with | some ρ'=>Ctl.nx ρ' | none=>Ctl.no)=_
 rw[u8 (d4 h3),h4]
theorem zlV {m:Bool}{i:Nat}{fk fe:Ev->Option D}{ρ ρ':SE}{f:Fd}{g:Hl}{o:Option (Hl × Tie)}(h1:vEv m fe ρ=some (zib o))(h2:fk (visG ρ)=some (hD g))(h3:ρ[i]?=some (.m true (fdK f) (fdV f)))(h4:(WA f g).isSome=false)(h5:f.length < sizeLine)
 (h6:ρ.set i (.m true (fdK (f++[(g,o)])) (fdV (f++[(g,o)])))=ρ'):zbO m i fk fe ρ=.nx ρ':=by
 have e:zhI ρ i (hD g) (zib o)=some ρ':=by
  unfold zhI
  rw[h3]
  show(zf9 (hD g)).bind (λk=>if decide ((fdK f).length < sizeLine)=true then some (ρ.set i (.m true (zaN (fdK f) (fdV f) k) (zaS (fdK f) (fdV f) k (zib o))))else none)=_
  have hd:(ZL (fdK f) (fdV f) (hK g)).isSome=false:=by rw[zfG,u1L];exact h4
  rw[WY,p9,u8 (d4 (by unfold fdK;rw[u6];exact h5))]
  unfold zaN zaS
  rw[hd,u9 u4,u9 u4,<- h6]
  unfold fdK fdV
  rw[i7,i7]
  rfl
 unfold zbO
 rw[h1,h2]
 show(match zhI ρ i (hD g) (zib o)with | some ρ'=>Ctl.nx ρ' | none=>Ctl.no)=_
 rw[e]
theorem Zi {m:Int}{ts:List Tie}(ok:zD m ts):∀ s∈yO m ts,WJ m.toNat s:=λs hs=>by
 obtain⟨⟨a0,a1⟩,⟨b0,b1⟩,ht⟩:=Yp.mp hs
 refine⟨a0,by omega,b0,by omega,λe=>?_⟩
 have h3:=(ok.rng _ ht).2.1
 rw[show vO s.1 s.2=(s.2,s.2) by unfold vO;rw[e,u9 (u3d _)]]at h3
 exact absurd h3 (u3d _)
def fdT (f:Fd):List D:=f.map λ_=>D.bl true
theorem zbF (g:Hl):∀ f:Fd,ZL (fdK f) (fdT f) (hK g)=(WA f g).map λ_=>D.bl true
 | []=>rfl
 | e::f=>by
  refine Zc.trans ?_
  show(if hK e.1=hK g then some (D.bl true)else ZL (fdK f) (fdT f) (hK g))=(if e.1=g then some e.2 else WA f g).map λ_=>D.bl true
  by_cases h:e.1=g
  .rw[u8 h,u8 (by rw[h])];rfl
  .rw[u9 h,u9 (λz=>h (zeq z)),zbF g f]
theorem zgj {m:Bool}{i:Nat}{fk fe:Ev->Option D}{ρ ρ':SE}{f:Fd}{g:Hl}{o:Option (Hl × Tie)}(h1:vEv m fe ρ=some (.bl true))(h2:fk (visG ρ)=some (hD g))(h3:ρ[i]?=some (.m true (fdK f) (fdT f)))(h4:(WA f g).isSome=false)(h5:f.length < sizeLine)
 (h6:ρ.set i (.m true (fdK (f++[(g,o)])) (fdT (f++[(g,o)])))=ρ'):zbO m i fk fe ρ=.nx ρ':=by
 have e:zhI ρ i (hD g) (D.bl true)=some ρ':=by
  unfold zhI
  rw[h3]
  show(zf9 (hD g)).bind (λk=>if decide ((fdK f).length < sizeLine)=true then some (ρ.set i (.m true (zaN (fdK f) (fdT f) k) (zaS (fdK f) (fdT f) k (D.bl true))))else none)=_
  have hd:(ZL (fdK f) (fdT f) (hK g)).isSome=false:=by rw[zbF,u1L];exact h4
  rw[WY,p9,u8 (d4 (by unfold fdK;rw[u6];exact h5))]
  unfold zaN zaS
  rw[hd,u9 u4,u9 u4,<- h6]
  unfold fdK fdT
  rw[i7,i7]
  rfl
 unfold zbO
 rw[h1,h2]
 show(match zhI ρ i (hD g) (D.bl true)with | some ρ'=>Ctl.nx ρ' | none=>Ctl.no)=_
 rw[e]
theorem zkP {f:Fd}{g:Hl}{z:Bool}:zlZ true (hD g) (.dct z true (fdK f) (fdT f))=some (.bl (!(WA f g).isSome)):=by
 show(zf9 (hD g)).map (λk=>D.bl (true != (ZL (fdK f) (fdT f) k).isSome))=_
 rw[WY]
 show some (D.bl (true != (ZL (fdK f) (fdT f) (hK g)).isSome))=_
 rw[zbF,u1L]
 cases (WA f g).isSome <;> rfl
structure zen (ss:List Tie) (h0:Hl) (f:Fd) (todo:List Hl):Prop where
 ok:zfy ss h0 f
 rim:∀ g∈todo,InF f g
 all:∀ g,InF f g->zjg ss f g\/g∈todo
theorem zen.start (ss:List Tie)(h0:Hl):zen ss h0 [(h0,none)] [h0]:=by
 refine⟨zfy.start ss h0,λg hg=>?_,λg hg=>.inr ?_⟩
 .cases t9.mp hg
  exact xq.mpr ⟨_,.head _,rfl⟩
 .obtain⟨x,hx,rfl⟩:=xq.mp hg
  cases t9.mp hx
  exact .head _
theorem zen.fin {ss:List Tie}{h0:Hl}{f:Fd}(h:zen ss h0 f []):AllF ss h0 f:=by
 refine⟨h.ok,λg=>⟨λhg=>?_,λhg=>?_⟩⟩
 .obtain⟨x,hx,rfl⟩:=xq.mp hg
  exact h.ok.beh x hx
 .induction hg with
  | zero=>unfold InF;rw[h.ok.root];rfl
  | step b hs h2 ih =>
   rcases h.all _ ih with z | z
   .exact z _ hs h2
   .cases z
structure zi0 (ss:List Tie) (h0 p:Hl) (f:Fd) (todo:List Hl):Prop where
 ok:zfy ss h0 f
 me:InF f p
 rim:∀ g∈todo,InF f g
 all:∀ g,InF f g->zjg ss f g\/g∈todo\/g=p
theorem zi0.add {ss:List Tie}{h0 p:Hl}{f:Fd}{todo:List Hl}{s:Tie}(h:zi0 ss h0 p f todo)(hs:s∈ss)(h2:2<=vAt p s.1)(hn:¬ InF f (moved p s)):zi0 ss h0 p (f++[(moved p s,some (p,s))]) (todo++[moved p s]):=by
 refine⟨h.ok.add h.me hs h2 hn,h.me.app _,λg hg=>?_,λg hg=>?_⟩
 .rcases d9.mp hg with hg | hg
  .exact(h.rim g hg).app _
  .cases t9.mp hg
   exact zd7 f (moved p s,some (p,s))
 .rcases zbT hg with hg | rfl
  .rcases h.all g hg with z | z | z
   .exact .inl λt ht ht2=>(z t ht ht2).app _
   .exact .inr (.inl (d9.mpr (.inl z)))
   .exact .inr (.inr z)
  .exact .inr (.inl (d9.mpr (.inr (.head _))))
theorem zen.pop {ss:List Tie}{h0 p:Hl}{f:Fd}{todo:List Hl}(h:zen ss h0 f (todo++[p])):zi0 ss h0 p f todo:=by
 refine⟨h.ok,h.rim p (d9.mpr (.inr (.head _))),λg hg=>h.rim g (d9.mpr (.inl hg)),λg hg=>?_⟩
 rcases h.all g hg with z | z
 .exact .inl z
 .rcases d9.mp z with z | z
  .exact .inr (.inl z)
  .exact .inr (.inr (t9.mp z))
theorem zi0.done {ss:List Tie}{h0 p:Hl}{f:Fd}{todo:List Hl}(h:zi0 ss h0 p f todo)(hd:zjg ss f p):zen ss h0 f todo:=by
 refine⟨h.ok,h.rim,λg hg=>?_⟩
 rcases h.all g hg with z | z | rfl
 .exact .inl z
 .exact .inr z
 .exact .inl hd
theorem zcO:∀ g:Hl,zcZ (hK g)=some g
 | []=>rfl
 | x::g=>by
  show(zcZ (hK g)).map (x::·)=_
  rw[zcO g]
  rfl
theorem zce:∀ f:Fd,(∀ e∈f,e.1≠[])->zaw (fdK f)=some (f.map (·.1))
 | [],_=>rfl
 | e::f,h=>by
  have ih:=zce f λx hx=>h x (.tail _ hx)
  show(match zcZ (hK e.1)with | some (i::t)=>(zaw (fdK f)).map ((i::t)::·) | _=>none)=_
  rw[zcO,ih]
  cases he:e.1 with
  | nil=>exact absurd he (h e (.head _))
  | cons i t=>show some ((i::t)::f.map (·.1))=some (e.1::f.map (·.1));rw[he]
def xc:SE->Ctl :=
 (sIf (tOf (zn gtD (zn ixD (zc 4) (zc 5)) (eC (.int 1)))) (zO (Za 7 (fFn v5 (zb (zc 4) zr)))
  (zO (ZP true 7 (zc 5) (zn Xs (zn ixD (zc 7) (zc 5)) (eC (.int 2))))
  (zO (ZP true 7 (zc 6) (zn x5 (zn ixD (zc 7) (zc 6)) (eC (.int 1))))
  (sFz 7 (sIf (tOf (zn (zlZ true) (eFn zW (zb (zc 7) zr)) (zc 2))) (zO (zbO false 2 (eFn zW (zb (zc 7) zr)) (eC (.bl true)))
  (Xg false 3 (eFn zW (zb (zc 7) zr)))) yp))))) yp)
def yq:SE->Ctl :=
 (zO (zlz 3 4)
  (XQ (iOf (zn x5 (zn ixD (zc 0) (eC (.int 1))) (eFn zW (zb (ww (fLC (iOf (zn ixD (zc 0) (eC (.int 1)))) b2 xU (ZZ (zb (zc 1) (zb (zc 0) zr))))) zr)))) (zaP 2 (vK (y8 5) (vK (y8 6) zbg))) xc))
def xi:SE->Ctl :=
 (zO (zgv 2 (zc 1) (eC (.bl true)))
  (zO (Za 3 (yw (zb (zc 1) zr)))
  (zO (vT (tOf (zn zis (zc 3) (ww (yw zr)))) yq 10000000)
  (sFz 3 (zmX 2 (y6 (ww (fFn zci (zb (zc 2) zr)))))))))
def wb:List D->Option D:=fnD 8 xi
theorem zhc {m:Int}{ts:List Tie}{s:Tie}(ok:zD m ts):s∈ts++ts.map (λt:Tie=>((t.2,t.1):Tie))↔s∈yO m ts:=by
 rw[d9,Yp]
 obtain⟨a,b⟩:=s
 constructor
 .rintro(h | h)
  .have r:=ok.rng _ h
   dsimp only at r ⊢
   refine⟨by omega,by omega,?_⟩
   have:vO a b=(a,b):=by unfold vO;rw[u9 (by omega),u8 (by omega)]
   rw[this];exact h
  .obtain⟨⟨x,y⟩,ht,e⟩:=u0c.mp h
   cases e
   have r:=ok.rng _ ht
   dsimp only at r ⊢
   refine⟨by omega,by omega,?_⟩
   have:vO y x=(x,y):=by unfold vO;rw[u8 (by omega),u9 (by omega)]
   rw[this];exact ht
 .rintro⟨_,_,ht⟩
  have r:=ok.rng _ ht
  by_cases c:a < b
  .have e:vO a b=(a,b):=by unfold vO;rw[u9 (by omega),u8 c]
   left
   have:vO a b∈ts:=ht
   rw[e]at this
   exact this
  .by_cases c2:b < a
   .have e:vO a b=(b,a):=by unfold vO;rw[u8 c2,u9 (by omega)]
    right
    have:vO a b∈ts:=ht
    rw[e]at this
    exact u0c.mpr ⟨(b,a),this,rfl⟩
   .exfalso
    obtain rfl:a=b:=by omega
    have e:vO a a=(a,a):=by unfold vO;rw[u9 (u3d _)]
    have r':0<=(vO a a).1/\(vO a a).1 < (vO a a).2/\(vO a a).2 < m:=r
    rw[e]at r'
    exact absurd r'.2.1 (u3d _)
section
variable {N B C:SE->Prop}{R:D->Prop}{W:D}{h0:Hl}
abbrev pSt (W:D)(h0:Hl)(f:Fd)(todo:List Hl)(o4 o5 o6 o7:Sl):SE:=[.v W,.v (hD h0),.m true (fdK f) (fdT f),.o (todo.map hD),o4,o5,o6,o7]
theorem zmW {p:Hl}{s:Tie}{f:Fd}{todo:List Hl}{o7:Sl}(hs:WJ p.length s)(hl:f.length < sizeLine)(ht:todo.length < sizeLine)
 (q0:¬ 2<=vAt p s.1->∀ o7,N (pSt W h0 f todo (.v (hD p)) (.v (.int s.1)) (.v (.int s.2)) o7))
 (q1:InF f (moved p s)->∀ o7,N (pSt W h0 f todo (.v (hD p)) (.v (.int s.1)) (.v (.int s.2)) o7))
 (q2:2<=vAt p s.1->¬ InF f (moved p s)->∀ o7,N (pSt W h0 (f++[(moved p s,some (p,s))]) (todo++[moved p s]) (.v (hD p)) (.v (.int s.1)) (.v (.int s.2)) o7)) :
 (xc (pSt W h0 f todo (.v (hD p)) (.v (.int s.1)) (.v (.int s.2)) o7)).w N B C R:=by
 obtain⟨a,b⟩:=s
 obtain⟨a0,a1,b0,b1,ne⟩:=hs
 dsimp only at a0 a1 b0 b1 ne q0 q1 q2 ⊢
 have ea:=vt (ns:=p) a0 a1
 unfold xc
 refine VF (c:=decide (1 < vAt p a)) (VR (zJ (x:=.int (vAt p a)) (y:=.int 1) (zJ (x:=hD p) (y:=.int a) rfl rfl ea) rfl rfl)) (λc=>?_) (λc=>Zw rfl (q0 (by have:=u1C c;omega) _))
 have c:=b7 c
 obtain⟨g,hg⟩:∃ g,zbe p a (vAt p a - 2)=g:=⟨_,rfl⟩
 have gl:g.length=p.length:=by rw[<-hg,Xp]
 have eb:=vt (ns:=g) b0 (by rw[gl];exact b1)
 have hm:moved p (a,b)=zbe g b (vAt g b+1):=by unfold moved;rw[hg]
 refine zA (ρ':=pSt W h0 f todo (.v (hD p)) (.v (.int a)) (.v (.int b)) (.o (p.map .int))) rfl ?_
 refine xw (zbz (p.map .int) (.int (vAt p a - 2)) a ?_ rfl rfl a0 (by rw[u6];exact a1) ?_)
 .show(Option.bind ((atI (p.map D.int) a).bind λx=>Xs x (.int 2)) λd=>if noL d=true then some d else none)=_
  rw[ea]
  rfl
 rw[show(p.map D.int).set a.toNat (.int (vAt p a - 2))=g.map .int by rw[<-hg];unfold zbe;rw[u2a]]
 refine xw (zbz (g.map .int) (.int (vAt g b+1)) b ?_ rfl rfl b0 (by rw[u6,gl];exact b1) ?_)
 .show(Option.bind ((atI (g.map D.int) b).bind λx=>x5 x (.int 1)) λd=>if noL d=true then some d else none)=_
  rw[eb]
  rfl
 rw[show(g.map D.int).set b.toNat (.int (vAt g b+1))=(moved p (a,b)).map .int by rw[hm];unfold zbe;rw[u2a]]
 refine zel (ρ':=pSt W h0 f todo (.v (hD p)) (.v (.int a)) (.v (.int b)) (.v (.lst ((moved p (a,b)).map .int)))) rfl ?_
 refine VF (c:=!(WA f (moved p (a,b))).isSome) ?_ (λe=>?_) (λe=>?_)
 .show((zlZ true (hD (moved p (a,b))) (.dct false true (fdK f) (fdT f))).bind asB)=_
  rw[zkP]
  rfl
 .have e:(WA f (moved p (a,b))).isSome=false:=by simpa using e
  refine zA (zgj (f:=f) (g:=moved p (a,b)) (o:=some (p,(a,b))) rfl rfl rfl e hl rfl) ?_
  refine Zw (ziK (ds:=todo.map hD) (d:=hD (moved p (a,b))) rfl rfl (by rw[u6];exact ht) rfl) ?_
  have q:=q2 (by omega) (λz=>by unfold InF at z;rw[e]at z;cases z) (.v (.lst ((moved p (a,b)).map .int)))
  rw[pSt,i7]at q
  exact q
 .have e:(WA f (moved p (a,b))).isSome=true:=by simpa using e
  exact Zw rfl (q1 e _)
end
section
variable {N B C:SE->Prop}{R:D->Prop}{m:Int}{ts:List Tie}{h0:Hl}
def swB (t:Tie):Tie:=(t.2,t.1)
theorem zjp {ρ:Ev}(h28:ts.length<=28)(h:zc 0 ρ=some (zx m ts)):iOf (zn x5 (zn ixD (zc 0) (eC (.int 1))) (eFn zW (zb (ww (fLC (iOf (zn ixD (zc 0) (eC (.int 1)))) b2 xU (ZZ (zb (zc 1) (zb (zc 0) zr))))) zr))) ρ=some ((ts++ts.map swB).map zw):=by
 have e1:zn ixD (zc 0) (eC (.int 1)) ρ=some (.tup (ts.map zw)):=zJ (x:=zx m ts) (y:=.int 1) h rfl rfl
 have e2:fLC (iOf (zn ixD (zc 0) (eC (.int 1)))) b2 xU (ZZ (zb (zc 1) (zb (zc 0) zr))) ρ=some ((ts.map swB).map zw):=by
  unfold fLC
  rw[zcG e1 (show xP (.tup (ts.map zw))=some (ts.map zw)from rfl),p9,u8 (wn (by rw[u6];omega)),u0z]
  exact ZD zw (zw ∘ swB) ts λt _=>⟨[some (.int t.1),some (.int t.2)],rfl,rfl,rfl⟩
 refine zcG (d:=.tup ((ts++ts.map swB).map zw)) (zJ (x:=.tup (ts.map zw)) (y:=.tup ((ts.map swB).map zw)) e1 (zgx (ds:=[.lst ((ts.map swB).map zw)]) (xV (Xz e2) ZY) rfl) ?_) rfl
 show(if lim ((ts.map zw).length+((ts.map swB).map zw).length)=true then some (D.tup (ts.map zw++(ts.map swB).map zw))else none)=_
 rw[u8 (wn (by rw[u6,u6,u6];omega)),<- i7]
theorem zmU {p:Hl}{f:Fd}{todo:List Hl}{o4 o5 o6 o7:Sl}{K:Nat}(ok:zD m ts)(h28:ts.length<=28)(h0k:HOk m.toNat h0.sum h0)(hc:(h0.sum.toNat+1) ^ m.toNat < 5000000)(h:zen (yO m ts) h0 f (todo++[p]))(ht:todo.length+1<=f.length) :
 (yq (pSt (zx m ts) h0 f (todo++[p]) o4 o5 o6 o7)).w (fun ρ'=>∃ f' todo' o4 o5 o6 o7,ρ'=pSt (zx m ts) h0 f' todo' o4 o5 o6 o7/\zen (yO m ts) h0 f' todo'/\todo'.length<=f'.length/\f.length<=f'.length/\todo'.length+f.length=todo.length+f'.length) B C R:=by
 unfold yq
 have hS:=Zi ok
 have hm:=h.pop
 have hpl:p.length=m.toNat:=by
  obtain⟨x,hx,rfl⟩:=xq.mp hm.me
  exact((hm.ok.beh x hx).ok hS h0k).len
 refine zA (ρ':=pSt (zx m ts) h0 f todo (.v (hD p)) o5 o6 o7) (zks (ds:=todo.map hD) (d:=hD p) (by show some (Sl.o ((todo++[p]).map hD))=_;rw[i7];rfl)) ?_
 obtain⟨M,hM⟩:∃ M,ts++ts.map swB=M:=⟨_,rfl⟩
 have hmem:∀ s,s∈M↔s∈yO m ts:=λs=>by rw[<-hM];exact zhc ok
 refine zc5 (ds:=M.map zw) (λj ρ=>∃ f' todo' o5 o6 o7,ρ=pSt (zx m ts) h0 f' todo' (.v (hD p)) o5 o6 o7/\zi0 (yO m ts) h0 p f' todo'/\(∀ s∈M.take j,2<=vAt p s.1->InF f' (moved p s))/\todo'.length<=f'.length/\f.length<=f'.length/\todo'.length+f.length=todo.length+f'.length) (by rw[<-hM];exact zjp h28 rfl) ⟨f,todo,o5,o6,o7,rfl,hm,(λs hs=>by rw[u3G]at hs;cases hs),by omega,q5 _,rfl⟩ ?_ ?_
 .rintro i d ρ hd ⟨f',todo',o5,o6,o7,rfl,hm',ha,l1,l2,l3⟩
  rw[j9]at hd
  obtain⟨s,hs,rfl⟩:=t8.mp hd
  have hs1:=(hmem s).mp (j6 hs)
  refine⟨pSt (zx m ts) h0 f' todo' (.v (hD p)) (.v (.int s.1)) (.v (.int s.2)) o7,rfl,?_⟩
  have hi:=hS s hs1
  rw[<-hpl]at hi
  have hcnt:f'.length < sizeLine:=h9 (hm'.ok.count hS h0k) (Nat.lt_trans hc (by decide))
  have ht:∀ f2:Fd,(∀ g,InF f' g->InF f2 g)->(2<=vAt p s.1->InF f2 (moved p s))->∀ t∈M.take (i+1),2<=vAt p t.1->InF f2 (moved p t):=λf2 up hin t ht=>by
   rw[List.take_add_one,hs]at ht
   rcases d9.mp ht with ht | ht
   .exact λh2=>up _ (ha t ht h2)
   .cases t9.mp ht
    exact hin
  refine zmW hi hcnt (h9 l1 hcnt) (λq o7=>⟨f',todo',_,_,_,rfl,hm',ht f' (λg hg=>hg) (λh2=>absurd h2 q),l1,l2,l3⟩) (λq o7=>⟨f',todo',_,_,_,rfl,hm',ht f' (λg hg=>hg) (λ_=>q),l1,l2,l3⟩) λq2 q o7=>⟨_,_,_,_,_,rfl,hm'.add hs1 q2 q,ht _ (λg hg=>hg.app _) (λ_=>zd7 f' (moved p s,some (p,s))),?_,?_,?_⟩
  .rw[r9,r9];exact Nat.succ_le_succ l1
  .rw[r9];exact Nat.le_succ_of_le l2
  .rw[r9,r9];show todo'.length+1+f.length=todo.length+(f'.length+1);omega
 .rintro ρ ⟨f',todo',o5,o6,o7,rfl,hm',ha,l1,l2,l3⟩
  rw[u6,u1Y]at ha
  exact⟨f',todo',_,o5,o6,o7,rfl,hm'.done λs hs h2=>ha s ((hmem s).mpr hs) h2,l1,l2,l3⟩
def zkK (B:Nat):SE->Nat
 | [_,_,.m _ ks _,.o ds,_,_,_,_]=>2*(B - ks.length)+ds.length
 | _=>0
theorem VN {W:D}{f:Fd}{todo:List Hl}{o4 o5 o6 o7:Sl}{K:Nat}:zkK K (pSt W h0 f todo o4 o5 o6 o7)=2*(K - f.length)+todo.length:=by
 show 2*(K - (fdK f).length)+(todo.map hD).length=_
 unfold fdK
 rw[u6,u6]
theorem zmI (l:List Hl):zis (.lst (l.map hD)) (.lst [])=some (.bl (!decide (l=[]))):=by
 have hk:okE 20 (.lst (l.map hD))=true:=by
  show(l.map hD).all (okE 19)=true
  rw[u1E,u0C]
  intro h _
  show(h.map D.int).all (okE 18)=true
  rw[u1E,u0C]
  exact λt _=>rfl
 show(if (okE 20 (.lst (l.map hD))&&true)=true then _ else none)=_
 rw[hk,u8 (show(true&&true)=true from rfl)]
 cases l <;> rfl
theorem zmK {o4 o5 o6 o7:Sl}(ok:zD m ts)(h28:ts.length<=28)(h0k:HOk m.toNat h0.sum h0)(hc:(h0.sum.toNat+1) ^ m.toNat < 5000000) :
 (vT (tOf (zn zis (zc 3) (ww (yw zr)))) yq 10000000 (pSt (zx m ts) h0 [(h0,none)] [h0] o4 o5 o6 o7)).w (fun ρ'=>∃ f' o4 o5 o6 o7,ρ'=pSt (zx m ts) h0 f' [] o4 o5 o6 o7/\AllF (yO m ts) h0 f') B C R:=by
 have hS:=Zi ok
 obtain⟨K,hK⟩:∃ K,(h0.sum.toNat+1) ^ m.toNat=K:=⟨_,rfl⟩
 refine VM (fun ρ=>∃ f todo o4 o5 o6 o7,ρ=pSt (zx m ts) h0 f todo o4 o5 o6 o7/\zen (yO m ts) h0 f todo/\todo.length<=f.length) (zkK K) ?_ 10000000 _ ⟨_,_,o4,o5,o6,o7,rfl,zen.start (yO m ts) h0,q5 _⟩ ?_
 .rintro ρ ⟨f,todo,o4,o5,o6,o7,rfl,hm,hl⟩
  refine⟨!decide (todo=[]),VR (zJ (x:=.lst (todo.map hD)) (y:=.lst []) rfl rfl (zmI todo)),λc=>?_,λc=>?_⟩
  .have hne:todo≠[]:=λe=>by rw[d4 e]at c;cases c
   obtain⟨td,p,rfl⟩:∃ td p,todo=td++[p]:=⟨todo.dropLast,todo.getLast hne,(List.dropLast_concat_getLast hne).symm⟩
   rw[r9]at hl
   refine zfr (zmU (K:=K) ok h28 h0k hc hm hl) ?_ (λ_ h=>h) (λ_ h=>h) (λ_ h=>h)
   rintro ρ ⟨f',todo',o4,o5,o6,o7,rfl,hm',l1,l2,l3⟩
   refine⟨⟨f',todo',o4,o5,o6,o7,rfl,hm',l1⟩,?_⟩
   rw[VN,VN,r9]
   have hcnt:=hm'.ok.count hS h0k
   rw[hK]at hcnt
   show 2*(K - f'.length)+todo'.length < 2*(K - f.length)+(td.length+1)
   omega
  .have he:todo=[]:=by
    cases h:decide (todo=[]) with
    | true=>exact b7 h
    | false=>rw[h]at c;cases c
   subst he
   exact⟨f,o4,o5,o6,o7,rfl,hm.fin⟩
 .rw[VN]
  show 2*(K - 1)+1 < 10000000
  omega
end
theorem Vn {m:Int}{ts:List Tie}{h0:Hl}(ok:zD m ts)(h28:ts.length<=28)(hl:(h0.length:Int)=m)(hn:∀ v∈h0,0<=v)(hc:(h0.sum.toNat+1) ^ m.toNat < 5000000) :
 ∃ E:List Hl,wb [zx m ts,hD h0]=some (.lst (E.map hD))/\(∀ g,g∈E↔Beh (yO m ts) h0 g)/\E.length < 10000000:=by
 have hm1:=ok.lo
 have hS:=Zi ok
 have h0k:HOk m.toNat h0.sum h0:=⟨by omega,hn,u05 _⟩
 obtain⟨d,e,E,rfl,hE⟩:=zgE (m:=8) (g:=xi) (ds:=[zx m ts,hD h0]) (R:=λd=>∃ E:List Hl,d=.lst (E.map hD)/\(∀ g,g∈E↔Beh (yO m ts) h0 g)/\E.length < 10000000) rfl (by
  unfold xi
  refine zA (ρ':=[.v (zx m ts),.v (hD h0),.m true (fdK [(h0,none)]) (fdT [(h0,none)]),.no,.no,.no,.no,.no]) ?_ ?_
  .unfold zgv
   show(match ((zf9 (hD h0)).map λk=>Sl.m true [k] [D.bl true])with | some s=>Ctl.nx _ | none=>Ctl.no)=_
   rw[WY]
   rfl
  refine zA (ρ':=pSt (zx m ts) h0 [(h0,none)] [h0] .no .no .no .no) rfl ?_
  refine xw (zfr (zmK ok h28 h0k hc) ?_ (λ_ h=>h) (λ_ h=>h) (λ_ h=>h))
  rintro ρ ⟨f,o4,o5,o6,o7,rfl,hf⟩
  have hcount:=hf.ok.count hS h0k
  have hne:∀ e∈f,e.1≠[]:=λe he z=>by
   have:=((hf.ok.beh e he).ok hS h0k).len
   rw[z]at this
   have h0':0=m.toNat:=this
   omega
  have es:zci [.dct true true (fdK f) (fdT f)]=some ((yZ (f.map (·.1))).map hD):=by
   show(if (fdK f).length < 10000000 then _ else none)=_
   rw[u8 (by unfold fdK;rw[u6];omega),zce f hne]
   rfl
  refine zel (ρ':=[.v (zx m ts),.v (hD h0),.m true (fdK f) (fdT f),.v (.lst []),o4,o5,o6,o7]) rfl ?_
  refine ZI (d:=.lst ((yZ (f.map (·.1))).map hD)) ?_ ⟨_,rfl,λg=>?_,?_⟩
  .show y6 _ [.v (zx m ts),.v (hD h0),.v (.dct true true (fdK f) (fdT f)),.v (.lst []),o4,o5,o6,o7]=_
   exact vC (Xz (zkO (ds:=[_]) rfl es))
  .rw[(wk _).mem_iff,<- hf.iff,xq,u0c]
  .rw[(wk _).length_eq,u6];omega)
 exact⟨E,e,hE⟩
theorem WB (T:Txt K mg base ad):xo P w K mg base CX0 1 ad.f__law_behind ad.e__law_behind ["web","heap"] (@spD ⟨K⟩ 2 wb):=by
 letI:KK:=⟨K⟩
 refine yR (N:=["web","heap","found","todo","here","a","b","other"]) (ps:=["web","heap"]) T.d__law_behind.fn zT (g:=xi) λcdv A outer s H E hr=>?_
 unfold xi yq xc
 exact(zd (ziz (i:=2) hr zT.nd rfl (Or.inl rfl) (edv 1) (vU v9))
  (zd (v4 (i:=3) zT.nd rfl (Or.inl rfl) (wC (za (edv 1) ze)))
  (zd (zb2 10000000 u0a (zV (zid hr) zf1 (zN _) (edv 3) (vM (wC ze))) (zd (zkB (i:=3) (j:=4) zT.nd rfl (Or.inl rfl) (pv 3) (λa=>zkt u0E PySem.F.slot_list_pop PySem.F.type_list_pop ziR a))
  (zi (WW u0a rfl (Ze (yf (zF (edv 0) (zg zh) (λ_ _=>rfl)) (xm zK xn rfl T.z_tuple yF (za (vM (zcQ (L:=["a","b"]) (M:=["web","heap","found","todo","here","·a","·b","other"]) rfl (ZT (by rfl) (by rfl) (by rfl) (by with_unfolding_all rfl) (by rfl) (by rfl) (by kernel_rfl) vm) (Ze (zF (edv 0) (zg zh) (λ_ _=>rfl))) gs2 rb2 (λ_ _ _ _=>(zik rfl (Vx (zI (i:=0) zlI rfl (Or.inl rfl) (.inr rfl)) (Vx (zI (i:=1) zlI rfl (Or.inl rfl) (.inr rfl)) zdJ)))) (λ_ _ _ _=>(zak (za (edv 1) (za (edv 0) ze)))))) ze)))) (zh9 rfl (Xj (yK (zI (i:=5) zT.nd rfl (Or.inl rfl))) (Xj (yK (zI (i:=6) zT.nd rfl (Or.inl rfl))) zfo))) (zi (wA (zV zbN yj (zN _) (zF (edv 4) (edv 5) (λ_ _=>rfl)) (zg zh)) (zd (v4 (i:=7) zT.nd rfl (Or.inl rfl) (zfl rfl T.z_list (za (edv 4) ze)))
  (zd (XE (m:=true) (WF (zF (edv 7) (edv 5) (λ_ _=>rfl)) (zg zh)) (pv 7) (edv 5))
  (zd (XE (m:=true) (yf (zF (edv 7) (edv 6) (λ_ _=>rfl)) (zg zh)) (pv 7) (edv 6))
  (Yf 7 (zi (wA (zV (zdO hr) zje (by with_unfolding_all rfl) (xm zK xn rfl T.z_tuple yF (za (edv 7) ze)) (edv 2)) (zd (zjR (m:=false) hr (vU v9) (pv 2) (xm zK xn rfl T.z_tuple yF (za (edv 7) ze)))
  (zi (zaf (m:=false) (pv 3) (xm zK xn rfl T.z_tuple yF (za (edv 7) ze)) (λa b=>zc9 u0E u03 u04 vX a b)))) zP)))))) zP))))))
  (Yf 3 (ziD 2 (zi (zE (vM (zdn rfl rfl T.z_sorted (za (edv 2) ze))))))))))
theorem zg6:∀ {ns:List Int},ns≠[]->zdr ns∈ns/\∀ x∈ns,x<=zdr ns:=by
 intro ns h
 obtain⟨M,h1,h2⟩:∃ M∈ns,∀ x∈ns,x<=M:=by
  induction ns with
  | nil=>exact absurd rfl h
  | cons n ns ih =>
   by_cases c:ns=[]
   .subst c
    exact⟨n,t9.mpr rfl,λx hx=>by rw[t9.mp hx];exact u05 _⟩
   .obtain⟨M,h1,h2⟩:=ih c
    rcases Int.le_total n M with c2 | c2
    .exact⟨M,b8 _ h1,λx hx=>(d7.mp hx).elim (λe=>e ▸ c2) (h2 x)⟩
    .exact⟨n,m7,λx hx=>(d7.mp hx).elim (λe=>e ▸ u05 _) λhx=>Int.le_trans (h2 x hx) c2⟩
 rw[zhS h1 h2]
 exact⟨h1,h2⟩
theorem zd9 {ns:List Int}(h:ns≠[]):ziV [.lst (ns.map .int)]=some (.int (zdr ns)):=by
 show(zcs (ns.map .int)).bind (λns=>if ns=[]then none else some (D.int (zdr ns)))=_
 rw[Vu]
 show(if ns=[]then none else some (D.int (zdr ns)))=_
 rw[u9 h]
def yE:SE->Ctl :=
 (y6 (eFn ziV (zb (ww (fLC (iOf (zq 2 wb (zb (zc 0) (zb (zc 1) zr)))) b1 xU (zn ixD (zc 0) (zc 3)))) zr)))
def xt:List D->Option D:=fnD 3 yE
theorem W9 {m p:Int}{ts:List Tie}{h0:Hl}(ok:zD m ts)(h28:ts.length<=28)(hl:(h0.length:Int)=m)(hn:∀ v∈h0,0<=v)(hc:(h0.sum.toNat+1) ^ m.toNat < 5000000)(hp:0<=p/\p < m) :
 ∃ M,xt [zx m ts,hD h0,.int p]=some (.int M)/\(∃ g,Beh (yO m ts) h0 g/\vAt g p=M)/\∀ g,Beh (yO m ts) h0 g->vAt g p<=M:=by
 obtain⟨E,eE,hE,hEl⟩:=Vn ok h28 hl hn hc
 have h0k:HOk m.toNat h0.sum h0:=⟨by omega,hn,u05 _⟩
 have hne:(E.map λg=>vAt g p)≠[]:=λz=>by
  have:=(hE h0).mpr .zero
  rw[List.map_eq_nil_iff.mp z]at this
  cases this
 obtain⟨x1,x2⟩:=zg6 hne
 refine⟨zdr (E.map λg=>vAt g p),?_,?_,λg hg=>x2 _ (u0c.mpr ⟨g,(hE g).mpr hg,rfl⟩)⟩
 .refine WK (ρ:=[.v (zx m ts),.v (hD h0),.v (.int p)]) rfl ?_
  unfold yE
  refine ZI (vC (d:=.int (zdr (E.map λg=>vAt g p))) (zgx (ds:=[.lst ((E.map λg=>vAt g p).map .int)]) (xV (Xz ?_) ZY) (zd9 hne))) rfl
  unfold fLC
  rw[show iOf (zq 2 wb (zb (zc 0) (zb (zc 1) zr))) (visG [.v (zx m ts),.v (hD h0),.v (.int p)])=some (E.map hD)from zcG (d:=.lst (E.map hD)) (wK (ds:=[_,_]) rfl eE) rfl,p9,u8 (show lim (E.map hD).length=true from d4 (by rw[u6];exact u1u (Nat.lt_trans hEl (by decide)))),u0z]
  refine ZD hD _ E λg hg=>⟨[some (hD g)],rfl,rfl,?_⟩
  have hb:=(((hE g).mp hg).ok (Zi ok) h0k).len
  show atI (g.map D.int) p=_
  rw[vt hp.1 (by omega)]
  rfl
 .obtain⟨g,hg,e⟩:=u0c.mp x1
  exact⟨g,(hE g).mp hg,e⟩
theorem Y0 (T:Txt K mg base ad):xo P w K mg base CX0 2 ad.f__law_most_there ad.e__law_most_there ["web","heap","place"] (@spD ⟨K⟩ 3 xt):=by
 letI:KK:=⟨K⟩
 have G__law_behind:=WB (P:=P) (w:=w) (base:=base) T
 refine yR (N:=["web","heap","place"]) (ps:=["web","heap","place"]) T.d__law_most_there.fn Y6 (g:=yE) λcdv A outer s H E hr=>?_
 unfold yE
 exact(zi (zE (zR (zd0 rfl) zgT rfl T.z_max zao (za (vM (zcQ (L:=["other"]) (M:=["web","heap","place"]) rfl (ZT (by rfl) (by rfl) (by rfl) (by with_unfolding_all rfl) (by rfl) (by rfl) (by kernel_rfl) (all_cons rfl vm)) (Ze (zj G__law_behind hr rfl T.d__law_behind (za (edv 0) (za (edv 1) ze)))) gs1 rb1 (λ_ _ _ _=>(zI (i:=0) zna rfl (Or.inl rfl) (.inr rfl))) (λ_ _ _ _=>(zF (edv 0) (edv 3) (λ_ _=>rfl))))) ze))))
def w6 (m:Int)(ts:List Tie)(ks:List Int)(x:Int):List Nat:=(nbN m ts x).filter λo:Nat=>decide (vAt ks x < vAt ks (o:Int))
theorem zaa {m:Int}{ts:List Tie}{x:Int}{o:Nat}(h:o∈nbN m ts x):(o:Int) < m:=by
 unfold nbN at h
 have:=i5.mp (u0K.mp h).1
 omega
theorem zh0 {m:Int}{ts:List Tie}{x:Int}(ok:zD m ts):(nbN m ts x).length<=8:=zcY ok
theorem q_nb {m:Int}{ts:List Tie}{x:Int}(ok:zD m ts):zM [zx m ts,.int x]=some (.lst ((nbN m ts x).map wd)):=by
 simp only[zM]
 rw[u8 ((xu _).mpr ⟨_,_,rfl,ok⟩),X3,X4]
def WU (m:Int)(ts:List Tie)(ks:List Int)(i:Nat):List D:=(List.range i).map λx:Nat=>.lst ((w6 m ts ks (x:Int)).map wd)
def yJ:SE->Ctl :=
 (Xg false 3 (ww (fLC (iOf (zq 2 zM (zb (zc 0) (zb (zc 4) zr)))) b1 (tOf (zn gtD (zn ixD (zc 3) (zc 0)) (zn ixD (zc 3) (zc 5)))) (zc 0))))
def yk:SE->Ctl :=
 (zO (xE false 2 (zq 2 wg (zb (zc 0) (zb (zc 1) zr))))
  (zO (Za 3 (yw zr))
  (zO (xB wB (zb (zn ixD (zc 0) (eC (.int 0))) zr) (y8 4) yJ)
  (sFz 3 (y6 (zc 3))))))
def ym:List D->Option D:=fnD 5 yk
theorem zcm {m:Int}{ts:List Tie}{p:Int}{ks:List Int}(ok:zD m ts)(hp:0<=p/\p < m)(hks:Yg m ts p=ks.map some)(hkl:(ks.length:Int)=m):ym [zx m ts,.int p]=some (.lst (WU m ts ks m.toNat)):=by
 have hm1:=ok.lo
 have hm8:=ok.hi
 have em:ixD (zx m ts) (.int 0)=some (.int m):=rfl
 have e2:=v2 ok hp
 rw[hks,VC]at e2
 refine WK (ρ:=[.v (zx m ts),.v (.int p),.no,.no,.no]) rfl ?_
 unfold yk
 refine zA (ρ':=[.v (zx m ts),.v (.int p),.v (.lst (ks.map .int)),.no,.no]) (yi e2) ?_
 refine zA (ρ':=[.v (zx m ts),.v (.int p),.v (.lst (ks.map .int)),.o [],.no]) rfl ?_
 refine xw (ZR (lo:=0) (c:=m.toNat) (λi ρ=>∃ o4,ρ=[.v (zx m ts),.v (.int p),.v (.lst (ks.map .int)),.o (WU m ts ks i),o4]) ?_ ⟨_,rfl⟩ ?_ ?_)
 .show wB [.int m]=_
  exact Xb ok
 .rintro i ρ hi ⟨o4,rfl⟩
  obtain⟨x,hx⟩:∃ x:Int,(0:Int)+(i:Int)=x:=⟨_,rfl⟩
  rw[hx]
  refine⟨[.v (zx m ts),.v (.int p),.v (.lst (ks.map .int)),.o (WU m ts ks i),.v (.int x)],rfl,?_⟩
  unfold yJ
  have hxp:=zeU hi hx
  have ex:=Xy (ns:=ks) (i:=x) hxp hkl
  have e3:fLC (iOf (zq 2 zM (zb (zc 0) (zb (zc 4) zr)))) b1 (tOf (zn gtD (zn ixD (zc 3) (zc 0)) (zn ixD (zc 3) (zc 5)))) (zc 0) [some (zx m ts),some (.int p),some (.lst (ks.map .int)),none,some (.int x)]=some ((w6 m ts ks x).map wd):=by
   unfold fLC
   show((zM [zx m ts,.int x]).bind xP).bind _=_
   rw[q_nb ok]
   show(if lim ((nbN m ts x).map wd).length=true then _ else none)=_
   rw[u8 (zkf (by rw[u6];exact zh0 ok))]
   unfold w6
   refine Yr wd (λo:Nat=>decide (vAt ks x < vAt ks (o:Int))) wd (nbN m ts x) λo ho=>⟨[some (wd o)],rfl,?_,λ_=>rfl⟩
   have ho:=zaa ho
   have eo:=Xy (ns:=ks) (W1 ho) hkl
   show(((atI (ks.map D.int) (0+(o:Int))).bind λa=>(atI (ks.map D.int) x).bind λb=>gtD a b).bind asB)=_
   rw[eo,ex,u18]
   rfl
  refine Zw (ρ':=[.v (zx m ts),.v (.int p),.v (.lst (ks.map .int)),.o (WU m ts ks (i+1)),.v (.int x)]) ?_ ⟨_,rfl⟩
  rw[zcx (ds:=WU m ts ks i) (d:=.lst ((w6 m ts ks x).map wd)) ?_ rfl (by unfold WU;rw[u6,u0R];omega)]
  .have:WU m ts ks (i+1)=WU m ts ks i++[.lst ((w6 m ts ks x).map wd)]:=by
    unfold WU
    rw[List.range_succ,i7]
    rw[show x=(i:Int) by omega]
    rfl
   rw[this]
   rfl
  .simp only[vEv,visF,ww,d8,u3y,Sl.f,u1B,u2H,e3]
   rfl
 .rintro ρ ⟨o4,rfl⟩
  exact zel (ρ':=[.v (zx m ts),.v (.int p),.v (.lst (ks.map .int)),.v (.lst (WU m ts ks m.toNat)),o4]) rfl (ZI rfl rfl)
theorem wx (T:Txt K mg base ad):xo P w K mg base CX0 4 ad.f_outer_neighbours ad.e_outer_neighbours ["web","root"] (@spD ⟨K⟩ 2 ym):=by
 letI:KK:=⟨K⟩
 have G_neighbours:=Zn (P:=P) (w:=w) (base:=base) T
 have G_ties_away:=vS (P:=P) (w:=w) (base:=base) T
 refine yR (N:=["web","root","away","outer","place"]) (ps:=["web","root"]) T.d_outer_neighbours.fn yb (g:=yk) λcdv A outer s H E hr=>?_
 unfold yk yJ
 exact(zd (zX (m:=false) (i:=2) yb.nd rfl (Or.inr rfl) (zj G_ties_away hr rfl T.d_ties_away (za (edv 0) (za (edv 1) ze))))
  (zd (v4 (i:=3) yb.nd rfl (Or.inl rfl) (wC ze))
  (zd (vw u0a rfl rfl T.z_range (za (zF (edv 0) (zg zh) (λ_ _=>rfl)) ze) (yK (zI (i:=4) yb.nd rfl (Or.inr rfl))) (zi (zaf (m:=false) (pv 3) (vM (ze0 (L:=["other"]) (M:=["web","root","away","outer","place"]) rfl (ZT (by rfl) (by rfl) (by rfl) (by with_unfolding_all rfl) (by rfl) (by rfl) (by kernel_rfl) (all_cons rfl (all_cons rfl vm))) (Ze (zj G_neighbours hr rfl T.d_neighbours (za (edv 0) (za (edv 4) ze)))) gs1 rb1 (λ_ _ _ _=>(zI (i:=0) zmu rfl (Or.inl rfl) (.inr rfl))) (λ_ _ _ _=>(zV zbN yj (zN _) (zF (edv 3) (edv 0) (λ_ _=>rfl)) (zF (edv 3) (edv 5) (λ_ _=>rfl)))) (λ_ _ _ _=>(edv 0)))) (λa b=>zc9 u0E u03 u04 vX a b))))
  (Yf 3 (zi (zE (edv 3)))))))
theorem Zq {m:Int}{ts:List Tie}{ks:List Int}{x:Int}{o:Nat}(h:o∈w6 m ts ks x):(o:Int) < m:=zaa (u0K.mp h).1
theorem zht {m:Int}{ts:List Tie}{ks:List Int}{x:Int}(ok:zD m ts):(w6 m ts ks x).length<=8:=by
 unfold w6
 exact u0t (List.length_filter_le _ _) (zh0 ok)
theorem zmV {i:Ev->Option (List D)}{ρ:Ev}{os:List Nat}{cs:List Int}{m:Int}{k:Nat}{d:D}(hi:i ρ=some (os.map wd))(hk:ρ[k]?=some (some d))(hd:∀ j,ixD d (.int j)=atI (cs.map D.int) j)(hl:(cs.length:Int)=m)(ho:∀ o∈os,(o:Int) < m)(h8:os.length<=8):fLC i b1 xU (zn ixD (zc (k+1)) (zc 0)) ρ=some ((os.map λo:Nat=>vAt cs (o:Int)).map .int):=by
 unfold fLC
 rw[hi]
 show(if lim (os.map wd).length=true then _ else none)=_
 rw[u8 (zkf (by rw[u6];exact h8)),u0z]
 refine ZD wd _ os λo hm=>⟨[some (wd o)],rfl,rfl,?_⟩
 have:=ho o hm
 have eo:=Xy (ns:=cs) (W1 this) hl
 have e1:zc (k+1) ([some (wd o)]++ρ)=some d:=by
  show((some (wd o)::ρ)[k+1]?).getD none=_
  rw[List.getElem?_cons_succ,hk]
  rfl
 show(zc (k+1) ([some (wd o)]++ρ)).bind (λa=>ixD a (.int (0+(o:Int))))=_
 rw[e1,p9,hd,eo,u18]
 rfl
theorem za7 {α β:Type}{f:α->β}{l:List α}(h:∀ a∈l,∀ b∈l,f a=f b->a=b)(nd:l.Nodup):(l.map f).Nodup:=by
 rw[u1h,u0S]
 exact u29 (λha hb hne e=>hne (h _ ha _ hb e)) nd
def yT:SE->Ctl :=
 (zO (Xd (zq 1 zS (zb (zc 0) zr)))
  (zO (Xd (zq 2 yL (zb (zc 0) (zb (zc 1) zr))))
  (zO (Xd (zq 2 yu (zb (zc 0) (zb (zc 2) zr))))
  (Xd (zq 1 wL (zb (zc 0) zr))))))
def yV:List D->Option D:=fnD 3 yT
theorem za9 {m:Int}{ts:List Tie}{p:Int}{hs:List Int}(ok:zD m ts)(hj:vR m ts)(htl:(ts.length:Int)=m - 1)(hp:0<=p/\p < m)(hl:(hs.length:Int)=m)(hnn:∀ x∈hs,0<=x)(hsum:hs.sum<=300):yV [zx m ts,.tup (hs.map .int),.int p]=some .non:=by
 have hw:wW (zx m ts)=true:=(xu _).mpr ⟨_,_,rfl,ok⟩
 have e1:zS [zx m ts]=some .non:=by simp[zS,hw]
 have e2:yL [zx m ts,.tup (hs.map .int)]=some .non:=by
  show(if (noS (.tup (hs.map .int))&&decide (m<=1000)&&YM m (.tup (hs.map .int)))=true then some D.non else none)=_
  rw[VA,zaM ok,zdh hl hnn hsum]
  rfl
 have e3:=zdk (ts:=ts) hp
 have e4:=Wl ok hj htl
 refine WK (ρ:=[.v (zx m ts),.v (.tup (hs.map .int)),.v (.int p)]) rfl ?_
 unfold yT
 refine zA (ρ':=[.v (zx m ts),.v (.tup (hs.map .int)),.v (.int p)]) (YG e1) ?_
 refine zA (ρ':=[.v (zx m ts),.v (.tup (hs.map .int)),.v (.int p)]) (YG e2) ?_
 refine zA (ρ':=[.v (zx m ts),.v (.tup (hs.map .int)),.v (.int p)]) (YG e3) ?_
 exact Zw (ρ':=[.v (zx m ts),.v (.tup (hs.map .int)),.v (.int p)]) (YG e4) rfl
theorem ve (T:Txt K mg base ad):xo P w K mg base CX0 12 ad.f_must_be_rooted ad.e_must_be_rooted ["web","heap","place"] (@spD ⟨K⟩ 3 yV):=by
 letI:KK:=⟨K⟩
 have G_must_be_web:=Yx (P:=P) (w:=w) (base:=base) T
 have G_must_be_place:=Z6 (P:=P) (w:=w) (base:=base) T
 have G_must_be_heap:=Xx (P:=P) (w:=w) (base:=base) T
 have G_must_be_tree:=X0 (P:=P) (w:=w) (base:=base) T
 refine yR (N:=["web","heap","place"]) (ps:=["web","heap","place"]) T.d_must_be_rooted.fn ZH (g:=yT) λcdv A outer s H E hr=>?_
 unfold yT
 exact(zd (YS (zj G_must_be_web hr rfl T.d_must_be_web (za (edv 0) ze)))
  (zd (YS (zj G_must_be_heap hr rfl T.d_must_be_heap (za (edv 0) (za (edv 1) ze))))
  (zd (YS (zj G_must_be_place hr rfl T.d_must_be_place (za (edv 0) (za (edv 2) ze))))
  (zi (YS (zj G_must_be_tree hr rfl T.d_must_be_tree (za (edv 0) ze)))))))
theorem wI {ns:List Int}{i j x:Int}(hi:0<=i)(hl:i < ns.length)(hj:0<=j):vAt (ns.set i.toNat x) j=if j=i then x else vAt ns j:=by
 unfold vAt
 rw[n8,n8,u0D]
 by_cases h:j=i
 .subst h
  rw[u8 rfl,u8 rfl,u8 (by omega)]
  rfl
 .rw[u9 h,u9 (by omega)]
def Xi (m:Int)(ts:List Tie)(ks cs:List Int)(x:Int):List Int:=(w6 m ts ks x).map λo:Nat=>vAt cs (o:Int)
def EqA (F:Int->List Int->Int)(m:Int)(ts:List Tie)(ks cs:List Int)(x:Int):Prop:=vAt cs x=F x (Xi m ts ks cs x)
theorem YF {m:Int}{ts:List Tie}{ks:List Int}{x:Int}{o:Nat}(h:o∈w6 m ts ks x):vAt ks x < vAt ks (o:Int):=b7 (u0K.mp h).2
theorem zcq {m x v:Int}{ts:List Tie}{ks cs:List Int}{y:Int}(h0:0<=x)(h1:x < cs.length)(h:∀ o∈w6 m ts ks y,(o:Int)≠x):Xi m ts ks (cs.set x.toNat v) y=Xi m ts ks cs y:=by
 refine u0y λo ho=>?_
 rw[wI h0 h1 (by omega),u9 (h o ho)]
theorem zjG {F:Int->List Int->Int}{m x:Int}{ts:List Tie}{ks cs:List Int}{S:Int->Prop}(hS:∀ y,S y->0<=y/\EqA F m ts ks cs y)(hcl:∀ y,S y->∀ o∈w6 m ts ks y,S (o:Int))(hx:¬ S x)(hxo:∀ o∈w6 m ts ks x,S (o:Int))(h0:0<=x)(h1:x < cs.length) :
 ∀ y,S y\/y=x->0<=y/\EqA F m ts ks (cs.set x.toNat (F x (Xi m ts ks cs x))) y:=by
 intro y hy
 have ne:∀ o:Nat,S (o:Int)->(o:Int)≠x:=λo ho z=>hx (z ▸ ho)
 rcases hy with hy | rfl
 .refine⟨(hS y hy).1,?_⟩
  unfold EqA
  rw[zcq h0 h1 λo ho=>ne o (hcl y hy o ho),wI h0 h1 (hS y hy).1,u9 (λz=>by rw[z]at hy;exact hx hy)]
  exact(hS y hy).2
 .refine⟨h0,?_⟩
  unfold EqA
  rw[zcq h0 h1 λo ho=>ne o (hxo o ho),wI h0 h1 h0,u8 rfl]
def zl9 (a:Nat->Int)(x y:Nat):Prop:=a x < a y\/a x=a y/\x < y
theorem ziy {a:Nat->Int}{x y:Nat}(h:zl9 a x y):a x<=a y:=h.elim (λh=>Int.le_of_lt h) λh=>Int.le_of_eq h.1
theorem lex2 {a b c d:Int}(h:HT.lexLt [c,d] [a,b]=false):a < c\/a=c/\b<=d:=by
 rw[HT.lexLt_cons]at h
 by_cases h2:c=a
 .rw[u8 h2,HT.lexLt_cons]at h
  by_cases h3:d=b
  .omega
  .rw[u9 h3]at h
   have:=u1C h
   omega
 .rw[u9 h2]at h
  have:=u1C h
  omega
theorem za3 (n:Nat)(a:Nat->Int):∃ L:List Nat,WT ((List.range n).map λx=>[a x,(x:Int)]) ((List.range n).map λk:Nat=>D.int (k:Int))=L.map (λx:Nat=>D.int (x:Int))/\L.Perm (List.range n)/\L.Pairwise (zl9 a):=by
 obtain⟨f,hf⟩:∃ f:Nat->List Int,f=λx=>[a x,(x:Int)]:=⟨_,rfl⟩
 obtain⟨g,hg⟩:∃ g:List Int->Nat,g=λt=>(t.getD 1 0).toNat:=⟨_,rfl⟩
 have hgf:∀ x,g (f x)=x:=λx=>by rw[hg,hf];rfl
 have inj:∀ x y,f x=f y->x=y:=λx y e=>by rw[<-hgf x,e,hgf]
 have p:=wk ((List.range n).map f)
 have r:=Wb ((List.range n).map f)
 have nd:((List.range n).map f).Nodup:=by
  rw[u1h,u0S]
  exact u1i.imp λh e=>h (inj _ _ e)
 have hM:((yZ ((List.range n).map f)).map g).map f=yZ ((List.range n).map f):=by
  rw[u0z]
  have:(yZ ((List.range n).map f)).map (f ∘ g)=(yZ ((List.range n).map f)).map id:=by
   refine u0y λt ht=>?_
   obtain⟨x,_,rfl⟩:=u0c.mp (p.mem_iff.mp ht)
   show f (g (f x))=f x
   rw[hgf]
  rw[this,u3e]
 have pM:((yZ ((List.range n).map f)).map g).Perm (List.range n):=by
  have:=p.map g
  rw[u0z]at this
  have e:(List.range n).map (g ∘ f)=List.range n:=by
   have:(List.range n).map (g ∘ f)=(List.range n).map id:=u0y λx _=>hgf x
   rw[this,u3e]
  rwa[e]at this
 have hgoal:∃ L:List Nat,WT ((List.range n).map f) ((List.range n).map λk:Nat=>D.int (k:Int))=L.map (λx:Nat=>D.int (x:Int))/\L.Perm (List.range n)/\L.Pairwise (zl9 a):=by
  refine⟨(yZ ((List.range n).map f)).map g,?_,pM,?_⟩
  .unfold WT
   conv=>lhs;rw[<-hM]
   rw[u0z]
   refine u0y λx hx=>?_
   have hx:=i5.mp (pM.mem_iff.mp hx)
   have hl:x < ((List.range n).map f).length:=by rw[u6,u0R];exact hx
   have e1:((List.range n).map f)[x]=f x:=by rw[u1X,List.getElem_range]
   have e2:((List.range n).map f).idxOf (f x)=x:=by
    have:=nd.idxOf_getElem x hl
    rw[e1]at this
    exact this
   show((List.range n).map λk:Nat=>D.int (k:Int)).getD (((List.range n).map f).idxOf (f x)) .non=D.int (x:Int)
   rw[e2,n8,j9,u1w hx]
   rfl
  .have nM:((yZ ((List.range n).map f)).map g).Nodup:=pM.nodup_iff.mpr u1i
   rw[<-hM,u0S]at r
   refine(r.and nM).imp λ{x y} h=>?_
   obtain⟨h1,h2⟩:=h
   rw[hf]at h1
   rcases lex2 h1 with h3 | ⟨h3,h4⟩
   .exact .inl h3
   .exact .inr ⟨h3,by omega⟩
 rw[hf]at hgoal
 exact hgoal
theorem zbX {g:Ev->Option D}{ρ:Ev}{a:Nat->Int}:∀ (l:List Nat),(∀ x∈l,g (some (.int (x:Int))::ρ)=some (.tup [.int (a x),.int (x:Int)]))->zhG g ρ (l.map λk:Nat=>D.int (k:Int))=some (l.map λx=>[a x,(x:Int)]):=by
 intro l
 induction l with
 | nil=>intro _;rfl
 | cons x l ih =>
  intro h
  have e:=h x (.head _)
  have r:=ih λy hy=>h y (.tail _ hy)
  show(g (some (.int (x:Int))::ρ)).bind _=_
  rw[e,p9]
  show(zcs [.int (a x),.int (x:Int)]).bind _=_
  rw[show zcs [.int (a x),.int (x:Int)]=some [a x,(x:Int)]from rfl,p9,u9 (by simp),r]
  rfl
theorem zfx {f g:Ev->Option D}{ρ:Ev}{m:Int}{a:Nat->Int}(hf:f ρ=some (.int m))(h0:0<=m)(h1:m<=1000)(hg:∀ x:Nat,(x:Int) < m->g (some (.int (x:Int))::ρ)=some (.tup [.int (a x),.int (x:Int)])) :
 ∃ L:List Nat,zct f g ρ=some (L.map λx:Nat=>D.int (x:Int))/\L.Perm (List.range m.toNat)/\L.Pairwise (zl9 a):=by
 obtain⟨L,e,p,s⟩:=za3 m.toNat a
 refine⟨L,?_,p,s⟩
 unfold zct
 rw[hf,p9,show lrD (.int m)=some ((List.range m.toNat).map λk:Nat=>.int (k:Int))from u8 ⟨h0,h1⟩,p9,zbX (a:=a) _ λx hx=>hg x (by have:=i5.mp hx;omega),p9,u8,e]
 rw[u1h,u0S]
 refine u1i.imp λh e=>h ?_
 have:=(u2G (u2G e).2).1
 omega
def Swp (R:List Nat)(i:Nat)(y:Int):Prop:=∃ k o:Nat,k < i/\R[k]?=some o/\y=(o:Int)
theorem zgz {R:List Nat}{i x:Nat}(h:R[i]?=some x){y:Int}(hy:Swp R (i+1) y):Swp R i y\/y=(x:Int):=by
 obtain⟨k,o,hk,ho,rfl⟩:=hy
 by_cases c:k=i
 .subst c
  rw[h]at ho
  cases ho
  exact .inr rfl
 .exact .inl ⟨k,o,by omega,ho,rfl⟩
structure zcV (m:Int) (ts:List Tie) (ks:List Int) (R:List Nat):Prop where
 perm:R.Perm (List.range m.toNat)
 down:R.Pairwise λx y:Nat=>vAt ks (y:Int)<=vAt ks (x:Int)
theorem zcV.mem {m:Int}{ts:List Tie}{ks:List Int}{R:List Nat}(h:zcV m ts ks R){x:Nat}:x∈R↔(x:Int) < m:=by rw[h.perm.mem_iff,i5];omega
theorem zcV.nodup {m:Int}{ts:List Tie}{ks:List Int}{R:List Nat}(h:zcV m ts ks R):R.Nodup:=h.perm.nodup_iff.mpr u1i
theorem zcV.out {m:Int}{ts:List Tie}{ks:List Int}{R:List Nat}(h:zcV m ts ks R){i x o:Nat}(hx:R[i]?=some x)(ho:o∈w6 m ts ks (x:Int)):∃ k,k < i/\R[k]?=some o:=by
 obtain⟨k,hk,e⟩:=p8 (h.mem.mpr (Zq ho))
 have far:=YF ho
 refine⟨k,?_,by rw[u7 hk,e]⟩
 obtain⟨hi,ex⟩:=t7.mp hx
 by_cases c:k < i
 .exact c
 .by_cases c2:k=i
  .subst c2
   rw[ex]at e
   subst e
   omega
  .have:=u0r.mp h.down i k hi hk (by omega)
   rw[ex,e]at this
   omega
theorem zcV.step {F:Int->List Int->Int}{m:Int}{ts:List Tie}{ks cs:List Int}{R:List Nat}(h:zcV m ts ks R){i x:Nat}(hx:R[i]?=some x)(hl:(cs.length:Int)=m)(hS:∀ y,Swp R i y->0<=y/\EqA F m ts ks cs y) :
 ∀ y,Swp R (i+1) y->0<=y/\EqA F m ts ks (cs.set x (F (x:Int) (Xi m ts ks cs (x:Int)))) y:=by
 intro y hy
 have hxm:(x:Int) < m:=h.mem.mp (j6 hx)
 refine zjG (x:=(x:Int)) (S:=Swp R i) hS ?_ ?_ ?_ (by omega) (by omega) y (zgz hx hy)
 .rintro y ⟨k,o,hk,ho,rfl⟩ o' ho'
  obtain⟨k',hk',e'⟩:=h.out ho ho'
  exact⟨k',o',by omega,e',rfl⟩
 .rintro⟨k,o,hk,ho,e⟩
  have e:x=o:=by omega
  subst e
  obtain⟨h1,e1⟩:=t7.mp hx
  obtain⟨h2,e2⟩:=t7.mp ho
  have:=(u2A h.nodup).mp (e1.trans e2.symm)
  omega
 .intro o ho
  obtain⟨k',hk',e'⟩:=h.out hx ho
  exact⟨k',o,hk',e',rfl⟩
theorem zcV.fin {F:Int->List Int->Int}{m:Int}{ts:List Tie}{ks cs:List Int}{R:List Nat}(h:zcV m ts ks R)(hS:∀ y,Swp R R.length y->0<=y/\EqA F m ts ks cs y):∀ x:Int,0<=x->x < m->EqA F m ts ks cs x:=by
 intro x h0 h1
 obtain⟨k,hk,e⟩:=p8 (h.mem.mpr (show((x.toNat:Nat):Int) < m by omega))
 exact(hS x ⟨k,x.toNat,hk,by rw[u7 hk,e],by omega⟩).2
def Yi:SE->Ctl :=
 (zO (xE false 2 (zq 2 wg (zb (zc 0) (zb (zc 1) zr))))
  (y6 (ww (zct (zn ixD (zc 0) (eC (.int 0))) (ZZ (zb (zn ixD (zc 3) (zc 0)) (zb (zc 0) zr)))))))
def p_outwards:List D->Option D:=fnD 3 Yi
theorem XY {m:Int}{ts:List Tie}{p:Int}{ks:List Int}(ok:zD m ts)(hp:0<=p/\p < m)(hks:Yg m ts p=ks.map some)(hkl:(ks.length:Int)=m):∃ L:List Nat,p_outwards [zx m ts,.int p]=some (.lst (L.map λx:Nat=>.int (x:Int)))/\zcV m ts ks L.reverse:=by
 have hm1:=ok.lo
 have hm8:=ok.hi
 have e2:=v2 ok hp
 rw[hks,VC]at e2
 obtain⟨L,e,pm,sr⟩:=zfx (f:=zn ixD (zc 0) (eC (.int 0))) (g:=ZZ (zb (zn ixD (zc 3) (zc 0)) (zb (zc 0) zr))) (ρ:=visG [.v (zx m ts),.v (.int p),.v (.lst (ks.map .int))]) (m:=m) (a:=λx=>vAt ks (x:Int)) rfl (by omega) (by omega) (λx hx=>by
  refine zkj (xV (zJ (x:=.lst (ks.map .int)) (y:=.int (x:Int)) rfl rfl (Xy (ns:=ks) ⟨by omega,hx⟩ hkl)) (xV rfl ZY)) (by show 2<=1000;decide))
 refine⟨L,?_,(u1c L).trans pm,u1H.mpr (sr.imp ziy)⟩
 refine WK (ρ:=[.v (zx m ts),.v (.int p),.no]) rfl ?_
 unfold Yi
 refine zA (ρ':=[.v (zx m ts),.v (.int p),.v (.lst (ks.map .int))]) (YU (ds:=[zx m ts,.int p]) rfl e2) ?_
 exact ZI (vC (Xz e)) rfl
theorem zbI (T:Txt K mg base ad):xo P w K mg base CX0 5 ad.f_outwards ad.e_outwards ["web","root"] (@spD ⟨K⟩ 2 p_outwards):=by
 letI:KK:=⟨K⟩
 have G_ties_away:=vS (P:=P) (w:=w) (base:=base) T
 refine zlP (N:=["web","root","away"]) (ps:=["web","root"]) T.lc_outwards T.d_outwards.fn Wc (g:=Yi) λA outer s H E hr=>?_
 unfold Yi
 exact(zd (zX (m:=false) (i:=2) Wc.nd rfl (Or.inr rfl) (zj G_ties_away hr rfl T.d_ties_away (za (edv 0) (za (edv 1) ze))))
  (zi (zE (vM (zgw (x:="place") (M:=["web","root","away"]) hr rfl T.z_sorted rfl T.z_range (zF (edv 0) (zg zh) (λ_ _=>rfl)) T.la_outwards rfl (zlQ (by rfl) (by rfl) (by rfl) (by with_unfolding_all rfl) (by rfl) (by rfl) (by rfl) (by rfl) (by rfl) (by kernel_rfl) (all_cons rfl vm)) rfl (by kernel_rfl) (λ_ _ _ _=>rfl) (λ_ _ _ _ _=>(zak (za (zF (edv 3) (edv 0) (λ_ _=>rfl)) (za (edv 0) ze)))))))))
theorem zek {α:Type}[DecidableEq α]:∀ {l k:List α},l.Nodup->(∀ x∈l,x∈k)->l.length<=k.length:=by
 intro l
 induction l with
 | nil=>intro k _ _;exact u0g _
 | cons a l ih =>
  intro k nd h
  obtain⟨h1,h2⟩:=u0L.mp nd
  have:=ih (k:=k.erase a) h2 λx hx=>by
   have ne:x≠a:=λe=>h1 (e ▸ hx)
   exact(List.mem_erase_of_ne ne).mpr (h x (.tail _ hx))
  rw[u1q (h a (.head _))]at this
  have hp:=List.length_pos_of_mem (h a (.head _))
  show l.length+1<=k.length
  omega
theorem zaR {α:Type}[DecidableEq α]:∀ {l k:List α},l.Nodup->(∀ x∈l,x∈k)->k.length<=l.length->k.Nodup:=by
 intro l
 induction l with
 | nil =>
  intro k _ _ h
  have:k=[]:=u0U.mp (Nat.le_zero.mp h)
  rw[this]
  exact u3E
 | cons a l ih =>
  intro k nd h hl
  obtain⟨h1,h2⟩:=u0L.mp nd
  have ha:=h a (.head _)
  have hs:∀ x∈l,x∈k.erase a:=λx hx=>by
   have ne:x≠a:=λe=>h1 (e ▸ hx)
   exact(List.mem_erase_of_ne ne).mpr (h x (.tail _ hx))
  have hle:(k.erase a).length=k.length - 1:=u1q ha
  have hp:=List.length_pos_of_mem ha
  have hl':k.length<=l.length+1:=hl
  have nk:=ih h2 hs (by omega)
  have na:a∉k.erase a:=λhk=>by
   have:=zek (l:=a::l) (k:=k.erase a) nd λx hx=>by
    rcases d7.mp hx with rfl | hx
    .exact hk
    .exact hs x hx
   have:l.length+1<=(k.erase a).length:=this
   omega
  exact(List.perm_cons_erase ha).nodup_iff.mpr (u0L.mpr ⟨na,nk⟩)
theorem vJ {α β:Type}{f:α->β}{l:List α}(nd:(l.map f).Nodup){a b:α}(ha:a∈l)(hb:b∈l)(e:f a=f b):a=b:=by
 obtain⟨i,hi,rfl⟩:=p8 ha
 obtain⟨j,hj,rfl⟩:=p8 hb
 have h1:i < (l.map f).length:=by rw[u6];exact hi
 have h2:j < (l.map f).length:=by rw[u6];exact hj
 have:(l.map f)[i]=(l.map f)[j]:=by rw[u1X,u1X];exact e
 have:=(u2A nd).mp this
 subst this
 rfl
def inN (m:Int)(ts:List Tie)(ks:List Int)(x:Int):List Nat:=(nbN m ts x).filter λo:Nat=>decide (vAt ks (o:Int) < vAt ks x)
theorem zcR {m p x:Int}{ts:List Tie}{ks:List Int}(hks:Yg m ts p=ks.map some)(hkl:(ks.length:Int)=m)(hx:0<=x/\x < m):∃ k:Nat,Far ts p x k/\vAt ks x=(k:Int):=by
 have h1:oAt (Yg m ts p) x=zf7 ts p x:=zb5 hx.1 hx.2
 have h2:oAt (ks.map some) x=some (vAt ks x):=by
  have hl:x.toNat < ks.length:=by omega
  unfold oAt vAt
  rw[n8,j9,u7 hl]
  rfl
 rw[hks,h2]at h1
 rcases Yk ts p x with ⟨k,e,f⟩ | ⟨e,_⟩
 .rw[e]at h1
  exact⟨k,f,u0f h1⟩
 .rw[e]at h1
  cases h1
theorem W2 {m p x:Int}{ts:List Tie}{ks:List Int}(ok:zD m ts)(hp:0<=p/\p < m)(hks:Yg m ts p=ks.map some)(hkl:(ks.length:Int)=m)(hx:0<=x/\x < m)(hne:x≠p):∃ a:Nat,a∈inN m ts ks x:=by
 obtain⟨k,fk,ek⟩:=zcR hks hkl hx
 cases k with
 | zero=>cases fk.1;exact absurd rfl hne
 | succ k =>
  obtain⟨a,ra,aa⟩:=fk.1.inv
  obtain⟨r1,_⟩:=aa.rng ok
  obtain⟨j,fj,ej⟩:=zcR hks hkl r1
  have:=fj.2 k ra
  refine⟨a.toNat,u0K.mpr ⟨(Wi ok).mpr ?_,?_⟩⟩
  .rw[show((a.toNat:Nat):Int)=a by omega]
   exact aa.symm
  .rw[r8,show((a.toNat:Nat):Int)=a by omega]
   omega
theorem Zu {m x:Int}{ts:List Tie}{ks:List Int}(ok:zD m ts){o:Nat}:o∈inN m ts ks x↔adj ts x (o:Int)/\vAt ks (o:Int) < vAt ks x:=by
 unfold inN
 rw[u0K,Wi ok,r8]
theorem VL {m x:Int}{ts:List Tie}{ks:List Int}(ok:zD m ts){o:Nat}:o∈w6 m ts ks x↔adj ts x (o:Int)/\vAt ks x < vAt ks (o:Int):=by
 unfold w6
 rw[u0K,Wi ok,r8]
theorem zf3 {m:Int}{ts:List Tie}{ks:List Int}(ok:zD m ts){x y:Nat}:y∈inN m ts ks (x:Int)↔x∈w6 m ts ks (y:Int):=by
 rw[Zu ok,VL ok]
 exact⟨λh=>⟨h.1.symm,h.2⟩,λh=>⟨h.1.symm,h.2⟩⟩
theorem zjH {m a b:Int}{ts:List Tie}(ok:zD m ts)(h:adj ts a b):∃ t∈ts,(t.1=a/\t.2=b)\/(t.1=b/\t.2=a):=by
 rcases h with h | h
 .exact⟨_,h,.inl ⟨rfl,rfl⟩⟩
 .exact⟨_,h,.inr ⟨rfl,rfl⟩⟩
def upT (ks:List Int)(t:Tie):Int:=if vAt ks t.1 < vAt ks t.2 then t.2 else t.1
theorem zcf {m x:Int}{ts:List Tie}{ks:List Int}(ok:zD m ts){o:Nat}(h:o∈inN m ts ks x):∃ t∈ts,upT ks t=x/\((t.1=x/\t.2=(o:Int))\/(t.1=(o:Int)/\t.2=x)):=by
 obtain⟨h1,h2⟩:=(Zu ok).mp h
 obtain⟨t,ht,h3⟩:=zjH ok h1
 refine⟨t,ht,?_,h3⟩
 unfold upT
 rcases h3 with ⟨e1,e2⟩ | ⟨e1,e2⟩
 .rw[e1,e2,u9 (by omega)]
 .rw[e1,e2,u8 h2]
theorem Vg (m:Int)(ts:List Tie)(x:Int):(nbN m ts x).Nodup:=by
 unfold nbN
 exact u1i.filter _
theorem zcc {m p:Int}{ts:List Tie}{ks:List Int}(ok:zD m ts)(htl:(ts.length:Int)=m - 1)(hp:0<=p/\p < m)(hks:Yg m ts p=ks.map some)(hkl:(ks.length:Int)=m):(ts.map (upT ks)).Nodup:=by
 have hin:p.toNat∈List.range m.toNat:=i5.mpr (by omega)
 refine zaR (l:=((List.range m.toNat).erase p.toNat).map λk:Nat=>(k:Int)) ?_ ?_ ?_
 .exact za7 (λa _ b _ e=>by omega) (u1i.erase _)
 .intro z hz
  obtain⟨k,hk,rfl⟩:=u0c.mp hz
  obtain⟨k1,k2⟩:=(u1i.mem_erase_iff).mp hk
  have k2:=i5.mp k2
  obtain⟨a,ha⟩:=W2 (x:=(k:Int)) ok hp hks hkl ⟨by omega,by omega⟩ (by omega)
  obtain⟨t,ht,e,_⟩:=zcf ok ha
  rw[<-e]
  exact List.mem_map_of_mem ht
 .rw[u6,u6,u1q hin,u0R]
  omega
theorem zjK {m p:Int}{ts:List Tie}{ks:List Int}(ok:zD m ts)(htl:(ts.length:Int)=m - 1)(hp:0<=p/\p < m)(hks:Yg m ts p=ks.map some)(hkl:(ks.length:Int)=m){x:Int}(hx:0<=x/\x < m)(hne:x≠p):∃ y:Nat,inN m ts ks x=[y]:=by
 have hU:=zcc ok htl hp hks hkl
 obtain⟨y,hy⟩:=W2 ok hp hks hkl hx hne
 have all:∀ z,z∈inN m ts ks x->z=y:=λz hz=>by
  obtain⟨t,ht,e1,c1⟩:=zcf ok hy
  obtain⟨s,hs,e2,c2⟩:=zcf ok hz
  have:=vJ hU ht hs (e1.trans e2.symm)
  subst this
  have n1:=((Zu ok).mp hy).2
  have n2:=((Zu ok).mp hz).2
  have:(y:Int)≠x:=λe=>by rw[e]at n1;omega
  rcases c1 with ⟨a1,a2⟩ | ⟨a1,a2⟩ <;> rcases c2 with ⟨b1,b2⟩ | ⟨b1,b2⟩ <;> omega
 refine⟨y,?_⟩
 have nd:(inN m ts ks x).Nodup:=(Vg m ts x).filter _
 cases hl:inN m ts ks x with
 | nil=>rw[hl]at hy;cases hy
 | cons a r =>
  rw[hl]at nd all
  have ea:=all a (.head _)
  cases r with
  | nil=>rw[ea]
  | cons b r =>
   have eb:=all b (.tail _ (.head _))
   rw[ea,eb]at nd
   exact absurd (List.Mem.head _) (u0L.mp nd).1
def Fc (hs:List Int)(p x:Int)(vs:List Int):Int:=(vAt hs x+vs.sum) / (if x=p then 1 else 2)
theorem zkY {m:Int}{ts:List Tie}{ks:List Int}{x:Int}(hx:0<=x/\x < m):atI (WU m ts ks m.toNat) x=some (.lst ((w6 m ts ks x).map wd)):=by
 refine zar hx.1 ?_
 unfold WU
 rw[j9,u1w (by omega)]
 show some (D.lst ((w6 m ts ks ((x.toNat:Nat):Int)).map wd))=_
 rw[show((x.toNat:Nat):Int)=x by omega]
def Yl:SE->Ctl :=
 (y6 (zn x5 (zn ixD (zc 0) (zc 3)) (eFn zkX (zb (ww (fLC (iOf (zn ixD (zc 1) (zc 3))) b1 xU (zn ixD (zc 3) (zc 0)))) zr))))
def wZ:List D->Option D:=fnD 4 Yl
theorem Z5 {m:Int}{ts:List Tie}{hs cs ks:List Int}{x:Int}{d:D}(ok:zD m ts)(hx:0<=x/\x < m)(hl:(hs.length:Int)=m)(hc:(cs.length:Int)=m)(hd:∀ j,ixD d (.int j)=atI (cs.map D.int) j):wZ [.tup (hs.map .int),.lst (WU m ts ks m.toNat),d,.int x]=some (.int (vAt hs x+(Xi m ts ks cs x).sum)):=by
 have ex:=Xy (ns:=hs) (i:=x) hx hl
 have eo:=zkY (ts:=ts) (ks:=ks) hx
 refine WK (ρ:=[.v (.tup (hs.map .int)),.v (.lst (WU m ts ks m.toNat)),.v d,.v (.int x)]) rfl ?_
 unfold Yl
 refine ZI (vC (zJ (x:=.int (vAt hs x)) (y:=.int (Xi m ts ks cs x).sum) (zJ (x:=.tup (hs.map .int)) (y:=.int x) rfl rfl ex) (zgx (ds:=[.lst ((Xi m ts ks cs x).map .int)]) (xV (Xz ?_) ZY) (zhu _)) rfl)) rfl
 exact zmV (k:=2) (d:=d) (m:=m) (zcG (zJ (x:=.lst (WU m ts ks m.toNat)) (y:=.int x) rfl rfl eo) rfl) rfl hd hc (λo ho=>Zq ho) (zht ok)
theorem XJ (T:Txt K mg base ad):xo P w K mg base CX0 1 ad.f_gathered ad.e_gathered ["heap","outer","carried","place"] (@spD ⟨K⟩ 4 wZ):=by
 letI:KK:=⟨K⟩
 refine yR (N:=["heap","outer","carried","place"]) (ps:=["heap","outer","carried","place"]) T.d_gathered.fn zbJ (g:=Yl) λcdv A outer s H E hr=>?_
 unfold Yl
 exact(zi (zE (yf (zF (edv 0) (edv 3) (λ_ _=>rfl)) (zR (V4 rfl) zdZ rfl T.z_sum zhV (za (vM (zcQ (L:=["other"]) (M:=["heap","outer","carried","place"]) rfl (ZT (by rfl) (by rfl) (by rfl) (by with_unfolding_all rfl) (by rfl) (by rfl) (by kernel_rfl) (all_cons rfl vm)) (Ze (zF (edv 1) (edv 3) (λ_ _=>rfl))) gs1 rb1 (λ_ _ _ _=>(zI (i:=0) zmP rfl (Or.inl rfl) (.inr rfl))) (λ_ _ _ _=>(zF (edv 3) (edv 0) (λ_ _=>rfl))))) ze)))))
def wS:SE->Ctl :=
 (zO (xE true 6 (zq 4 wZ (zb (zc 1) (zb (zc 3) (zb (zc 4) (zb (zc 5) zr))))))
  (ZP false 4 (zc 5) (eIf (tOf (zn V0 (zc 5) (zc 2))) (zc 6) (zn xJ (zc 6) (eC (.int 2))))))
def xH:SE->Ctl :=
 (zO (xE false 3 (zq 2 ym (zb (zc 0) (zb (zc 2) zr))))
  (zO (Za 4 (zlp zf6 (ww (yw (zb (eC (.int 0)) zr))) (zn ixD (zc 0) (eC (.int 0)))))
  (zO (XQ (zmb (zq 2 p_outwards (zb (zc 0) (zb (zc 2) zr)))) (y8 5) wS)
  (sFz 4 (y6 (eFn zW (zb (zc 4) zr)))))))
def wE:List D->Option D:=fnD 7 xH
theorem Vc {m:Int}{ts:List Tie}{p:Int}{hs ks:List Int}(ok:zD m ts)(hp:0<=p/\p < m)(hks:Yg m ts p=ks.map some)(hkl:(ks.length:Int)=m)(hhl:(hs.length:Int)=m):∃ cs:List Int,wE [zx m ts,.tup (hs.map .int),.int p]=some (.tup (cs.map .int))/\(cs.length:Int)=m/\∀ x:Int,0<=x->x < m->EqA (Fc hs p) m ts ks cs x:=by
 have hm1:=ok.lo
 have hm8:=ok.hi
 have em:ixD (zx m ts) (.int 0)=some (.int m):=rfl
 have e5:=zcm ok hp hks hkl
 obtain⟨L,eL,hR⟩:=XY ok hp hks hkl
 obtain⟨R,hRL⟩:∃ R,L.reverse=R:=⟨_,rfl⟩
 rw[hRL]at hR
 have key:=zgE (m:=7) (g:=xH) (ds:=[zx m ts,.tup (hs.map .int),.int p]) (R:=λd=>∃ cs:List Int,d=.tup (cs.map .int)/\(cs.length:Int)=m/\∀ x:Int,0<=x->x < m->EqA (Fc hs p) m ts ks cs x) (ρ:=[.v (zx m ts),.v (.tup (hs.map .int)),.v (.int p),.no,.no,.no,.no]) rfl ?_
 .obtain⟨d,e,cs,rfl,h⟩:=key
  exact⟨cs,e,h⟩
 unfold xH
 generalize hO:WU m ts ks m.toNat=O at *
 refine zA (ρ':=[.v (zx m ts),.v (.tup (hs.map .int)),.v (.int p),.v (.lst O),.no,.no,.no]) (YU (ds:=[_,_]) rfl e5) ?_
 refine zA (ρ':=[.v (zx m ts),.v (.tup (hs.map .int)),.v (.int p),.v (.lst O),.o ((List.replicate m.toNat (0:Int)).map .int),.no,.no]) ?_ ?_
 .have e:=zeT (d:=.int 0) (n:=m) (by omega) (by omega)
  simp[Za,zlp,ww,yw,zb,zr,eC,wn,zc,visF,Sl.f,zn,em,e]
 have hfor:zmb (zq 2 p_outwards (zb (zc 0) (zb (zc 2) zr))) (visG [.v (zx m ts),.v (.tup (hs.map .int)),.v (.int p),.v (.lst O),.o ((List.replicate m.toNat (0:Int)).map .int),.no,.no])=some (R.map λx:Nat=>D.int (x:Int)):=by
  unfold zmb
  rw[wK (ds:=[zx m ts,.int p]) rfl eL,p9,<- hRL,List.map_reverse]
  rfl
 refine xw (zc5 (ds:=R.map λx:Nat=>D.int (x:Int)) (λi ρ=>∃ (cs:List Int) (o5 o6:Sl),ρ=[.v (zx m ts),.v (.tup (hs.map .int)),.v (.int p),.v (.lst O),.o (cs.map .int),o5,o6]/\(cs.length:Int)=m/\∀ y,Swp R i y->0<=y/\EqA (Fc hs p) m ts ks cs y) hfor ⟨_,_,_,rfl,by rw[u0w];omega,λy ⟨k,o,hk,_⟩=>absurd hk (u3A _)⟩ ?_ ?_)
 .rintro i d ρ hd ⟨cs,o5,o6,rfl,hl,hS⟩
  rw[j9]at hd
  obtain⟨x,hx,rfl⟩:=t8.mp hd
  have hxm:(x:Int) < m:=hR.mem.mp (j6 hx)
  have hxp:0<=(x:Int)/\(x:Int) < m:=⟨by omega,hxm⟩
  refine⟨[.v (zx m ts),.v (.tup (hs.map .int)),.v (.int p),.v (.lst O),.o (cs.map .int),.v (.int (x:Int)),o6],rfl,?_⟩
  unfold wS
  have st:=hR.step (F:=Fc hs p) hx hl hS
  obtain⟨S,hSS⟩:∃ S:Int,vAt hs (x:Int)+(Xi m ts ks cs (x:Int)).sum=S:=⟨_,rfl⟩
  have eg:=Z5 (d:=.lst (cs.map .int)) (ks:=ks) ok hxp hhl hl (λ_=>rfl)
  rw[hO,hSS]at eg
  obtain⟨v,hv⟩:∃ v:Int,Fc hs p (x:Int) (Xi m ts ks cs (x:Int))=v:=⟨_,rfl⟩
  have hv':S / (if (x:Int)=p then 1 else 2)=v:=by rw[<-hSS];exact hv
  rw[hv]at st
  refine zA (ρ':=[.v (zx m ts),.v (.tup (hs.map .int)),.v (.int p),.v (.lst O),.o (cs.map .int),.v (.int (x:Int)),.v (.int S)]) (yi ?_) ?_
  .unfold vEv
   rw[u8 rfl,wK (ds:=[.tup (hs.map .int),.lst O,.lst (cs.map .int),.int (x:Int)]) rfl eg]
   rfl
  refine zbz (cs.map .int) (.int v) (x:Int) ?_ rfl rfl hxp.1 (zfW hxm hl) ⟨cs.set x v,.v (.int (x:Int)),.v (.int S),?_,by rw[u0x];exact hl,st⟩
  .unfold vEv
   rw[u9 u4]
   refine zmS (c:=decide ((x:Int)=p)) (VR (zJ (x:=.int (x:Int)) (y:=.int p) rfl rfl yl)) ?_
   by_cases c:(x:Int)=p
   .rw[u8 c,u2W]at hv'
    rw[d4 c,u8 rfl,<- hv']
    rfl
   .rw[u9 c]at hv'
    rw[p6 c,u9 u4]
    refine zJ (x:=.int S) (y:=.int 2) rfl rfl ?_
    rw[Zl (by decide) (by decide),hv']
  .rw[u2a];rfl
 .rintro ρ ⟨cs,o5,o6,rfl,hl,hS⟩
  rw[u6]at hS
  exact zel (ρ':=[.v (zx m ts),.v (.tup (hs.map .int)),.v (.int p),.v (.lst O),.v (.lst (cs.map .int)),o5,o6]) rfl (ZI rfl ⟨cs,rfl,hl,hR.fin hS⟩)
theorem Vy (T:Txt K mg base ad):xo P w K mg base CX0 6 ad.f_carried_to ad.e_carried_to ["web","heap","root"] (@spD ⟨K⟩ 3 wE):=by
 letI:KK:=⟨K⟩
 have G_outer_neighbours:=wx (P:=P) (w:=w) (base:=base) T
 have G_outwards:=zbI (P:=P) (w:=w) (base:=base) T
 have G_gathered:=XJ (P:=P) (w:=w) (base:=base) T
 refine yR (N:=["web","heap","root","outer","carried","place","stones"]) (ps:=["web","heap","root"]) T.d_carried_to.fn xf (g:=xH) λcdv A outer s H E hr=>?_
 unfold xH wS
 exact(zd (zX (m:=false) (i:=3) xf.nd rfl (Or.inl rfl) (zj G_outer_neighbours hr rfl T.d_outer_neighbours (za (edv 0) (za (edv 2) ze))))
  (zd (v4 (i:=4) xf.nd rfl (Or.inl rfl) (zfZ (vM (wC (za (zg zh) ze))) (zF (edv 0) (zg zh) (λ_ _=>rfl))))
  (zd (WW u0a rfl (zk4 rfl T.z_reversed (zj G_outwards hr rfl T.d_outwards (za (edv 0) (za (edv 2) ze)))) (yK (zI (i:=5) xf.nd rfl (Or.inl rfl))) (zd (zX (m:=true) (i:=6) xf.nd rfl (Or.inl rfl) (zj G_gathered hr rfl T.d_gathered (za (edv 1) (za (edv 3) (za (edv 4) (za (edv 5) ze))))))
  (zi (XE (m:=false) (zj7 (zV (XI hr) YO (zN _) (edv 5) (edv 2)) (edv 6) (ZA (edv 6) (zg zh))) (pv 4) (edv 5)))))
  (Yf 4 (zi (zE (xm zK xn rfl T.z_tuple yF (za (edv 4) ze))))))))
def Zf:SE->Ctl :=
 (zO (Xd (zq 3 yV (zb (zc 0) (zb (zc 1) (zb (zc 2) zr)))))
  (y6 (zq 3 wE (zb (zc 0) (zb (zc 1) (zb (zc 2) zr))))))
def XT:List D->Option D:=fnD 3 Zf
theorem zdw {m:Int}{ts:List Tie}{p:Int}{hs cs:List Int}(ok:zD m ts)(hj:vR m ts)(htl:(ts.length:Int)=m - 1)(hp:0<=p/\p < m)(hl:(hs.length:Int)=m)(hnn:∀ x∈hs,0<=x)(hsum:hs.sum<=300)(e:wE [zx m ts,.tup (hs.map .int),.int p]=some (.tup (cs.map .int))):XT [zx m ts,.tup (hs.map .int),.int p]=some (.tup (cs.map .int)):=by
 refine WK (ρ:=[.v (zx m ts),.v (.tup (hs.map .int)),.v (.int p)]) rfl ?_
 unfold Zf
 refine zA (YG (d:=.non) (za9 ok hj htl hp hl hnn hsum)) ?_
 exact ZI (vC (wK (ds:=[_,_,_]) rfl e)) rfl
theorem zdv (T:Txt K mg base ad):xo P w K mg base CX0 13 ad.f_carries ad.e_carries ["web","heap","place"] (@spD ⟨K⟩ 3 XT):=by
 letI:KK:=⟨K⟩
 have G_must_be_rooted:=ve (P:=P) (w:=w) (base:=base) T
 have G_carried_to:=Vy (P:=P) (w:=w) (base:=base) T
 refine yR (N:=["web","heap","place"]) (ps:=["web","heap","place"]) T.d_carries.fn zdl (g:=Zf) λcdv A outer s H E hr=>?_
 unfold Zf
 exact(zd (YS (zj G_must_be_rooted hr rfl T.d_must_be_rooted (za (edv 0) (za (edv 1) (za (edv 2) ze)))))
  (zi (zE (zj G_carried_to hr rfl T.d_carried_to (za (edv 0) (za (edv 1) (za (edv 2) ze)))))))
theorem zkl {m p:Int}{ts:List Tie}{ks:List Int}(ok:zD m ts)(hp:0<=p/\p < m)(hks:Yg m ts p=ks.map some)(hkl:(ks.length:Int)=m):∀ x:Int,0<=x->x < m->0<=vAt ks x/\vAt ks x < m:=by
 intro x h0 h1
 have hl:x.toNat < ks.length:=by omega
 have hm:vAt ks x∈ks:=by
  unfold vAt
  rw[n8,u7 hl]
  exact u0N hl
 have:some (vAt ks x)∈Yg m ts p:=by
  rw[hks]
  exact List.mem_map_of_mem hm
 rcases zg7 ok hp this with h | ⟨k,e,h⟩
 .cases h
 .cases e
  exact h
theorem zeZ {m p:Int}{ts:List Tie}{ks:List Int}(hp:0<=p/\p < m)(hks:Yg m ts p=ks.map some)(hkl:(ks.length:Int)=m):vAt ks p=0:=by
 obtain⟨k,fk,ek⟩:=zcR hks hkl hp
 have:=fk.2 0 .zero
 omega
theorem Xq {m p:Int}{ts:List Tie}{ks:List Int}(hp:0<=p/\p < m)(hks:Yg m ts p=ks.map some)(hkl:(ks.length:Int)=m)(hb:∀ x:Int,0<=x->x < m->0<=vAt ks x/\vAt ks x < m){o:Nat}{x:Int}(hx:0<=x/\x < m)(h:o∈w6 m ts ks x):(o:Int)≠p:=λe=>by
 have h1:=YF h
 rw[e,zeZ hp hks hkl]at h1
 have:=(hb x hx.1 hx.2).1
 omega
theorem VJ {m p:Int}{ts:List Tie}{ks:List Int}(ok:zD m ts)(htl:(ts.length:Int)=m - 1)(hp:0<=p/\p < m)(hks:Yg m ts p=ks.map some)(hkl:(ks.length:Int)=m)(hb:∀ x:Int,0<=x->x < m->0<=vAt ks x/\vAt ks x < m){x a b:Nat}(ha:(a:Int) < m)(h1:x∈w6 m ts ks (a:Int))(h2:x∈w6 m ts ks (b:Int)):a=b:=by
 obtain⟨y,hy⟩:=zjK (x:=(x:Int)) ok htl hp hks hkl ⟨by omega,Zq h1⟩ (Xq hp hks hkl hb ⟨by omega,ha⟩ h1)
 have e1:=(zf3 ok).mpr h1
 have e2:=(zf3 ok).mpr h2
 rw[hy]at e1 e2
 rw[t9.mp e1,t9.mp e2]
def mv (h:List Int)(s:Tie):List Int:=(h.set s.1.toNat (vAt h s.1 - 2)).set s.2.toNat (vAt (h.set s.1.toNat (vAt h s.1 - 2)) s.2+1)
theorem zin (h:List Int)(s:Tie):(mv h s).length=h.length:=by unfold mv;rw[u0x,u0x]
theorem ziq {h:List Int}{s:Tie}(h1:0<=s.1/\s.1 < h.length)(h2:0<=s.2/\s.2 < h.length)(hne:s.1≠s.2){z:Int}(hz:0<=z):vAt (mv h s) z=vAt h z - (if z=s.1 then 2 else 0)+(if z=s.2 then 1 else 0):=by
 unfold mv
 rw[wI h2.1 (by rw[u0x];exact h2.2) hz,wI h1.1 h1.2 h2.1,wI h1.1 h1.2 hz]
 by_cases c2:z=s.2
 .have c1:z≠s.1:=λe=>hne (e.symm.trans c2)
  rw[u8 c2,u8 c2,u9 (λe=>hne e.symm),u9 c1,c2]
  omega
 .rw[u9 c2,u9 c2]
  by_cases c1:z=s.1
  .rw[u8 c1,u8 c1,c1]
   omega
  .rw[u9 c1,u9 c1]
   omega
def Yw (ts:List Tie):List Int->List Tie->Prop
 | _,[]=>True
 | h,s::r=>adj ts s.1 s.2/\2<=vAt h s.1/\Yw ts (mv h s) r
theorem Yw.app {ts:List Tie}:∀ {a b:List Tie} {h:List Int},Yw ts h a->Yw ts (a.foldl mv h) b->Yw ts h (a++b):=by
 intro a
 induction a with
 | nil=>intro b h _ h2;exact h2
 | cons s a ih=>intro b h h1 h2;exact⟨h1.1,h1.2.1,ih h1.2.2 h2⟩
theorem zhp {l:List Tie}:∀ {h:List Int},(l.foldl mv h).length=h.length:=by
 induction l with
 | nil=>intro h;rfl
 | cons s l ih=>intro h;rw[u3w,ih,zin]
theorem zgu {m:Int}{ts:List Tie}(ok:zD m ts){x y:Int}(ha:adj ts x y):∀ (c:Nat) (h:List Int),(h.length:Int)=m->2*(c:Int)<=vAt h x->Yw ts h (List.replicate c (x,y))/\∀ z:Int,0<=z->vAt ((List.replicate c (x,y)).foldl mv h) z=vAt h z - (if z=x then 2*(c:Int)else 0)+(if z=y then (c:Int)else 0):=by
 obtain⟨rx,ry⟩:=ha.rng ok
 have hne:x≠y:=by
  rcases ha with h | h <;> (have:=ok.rng _ h;dsimp only at this;omega)
 intro c
 induction c with
 | zero =>
  intro h hl hc
  refine⟨trivial,λz hz=>?_⟩
  show vAt h z=_
  split <;> split <;> omega
 | succ c ih =>
  intro h hl hc
  have e:=λz hz=>ziq (h:=h) (s:=(x,y)) ⟨rx.1,by show x < h.length;omega⟩ ⟨ry.1,by show y < h.length;omega⟩ hne (z:=z) hz
  have ex:=e x rx.1
  rw[u8 rfl,u9 (show ¬ x=y from hne)]at ex
  obtain⟨p1,p2⟩:=ih (mv h (x,y)) (by rw[zin];exact hl) (by omega)
  refine⟨⟨ha,by show 2<=vAt h x;omega,p1⟩,λz hz=>?_⟩
  show vAt ((List.replicate c (x,y)).foldl mv (mv h (x,y))) z=_
  rw[p2 z hz,e z hz]
  by_cases c1:z=x
  .have c2:¬ z=y:=λe=>hne (c1.symm.trans e)
   rw[u8 c1,u8 c1,u8 c1,u9 c2,u9 c2,u9 c2]
   omega
  .rw[u9 c1,u9 c1,u9 c1]
   by_cases c2:z=y
   .rw[u8 c2,u8 c2,u8 c2]
    omega
   .rw[u9 c2,u9 c2,u9 c2]
    omega
def zmR (m:Int)(ts:List Tie)(ks:List Int)(x:Nat):Int:=(((inN m ts ks (x:Int)).headD 0:Nat):Int)
def zlR (m:Int)(ts:List Tie)(ks cs:List Int)(p:Int)(x:Nat):List Tie:=if (x:Int)=p then []else List.replicate (vAt cs (x:Int)).toNat ((x:Int),zmR m ts ks x)
def zah (m:Int)(ts:List Tie)(ks cs:List Int)(p:Int)(M:List Nat):List Tie:=M.flatMap (zlR m ts ks cs p)
theorem zjk {m p:Int}{ts:List Tie}{ks:List Int}(ok:zD m ts)(hp:0<=p/\p < m)(hks:Yg m ts p=ks.map some)(hkl:(ks.length:Int)=m){x:Nat}(hx:(x:Int) < m)(hne:(x:Int)≠p):∃ y:Nat,zmR m ts ks x=(y:Int)/\y∈inN m ts ks (x:Int):=by
 obtain⟨a,ha⟩:=W2 (x:=(x:Int)) ok hp hks hkl ⟨by omega,hx⟩ hne
 unfold zmR
 cases h:inN m ts ks (x:Int) with
 | nil=>rw[h]at ha;cases ha
 | cons b r=>exact⟨b,rfl,.head _⟩
theorem zgF {m p:Int}{ts:List Tie}{hs ks cs:List Int}(hn:∀ x:Int,0<=vAt hs x)(hb:∀ x:Int,0<=x->x < m->0<=vAt ks x/\vAt ks x < m)(hE:∀ x:Int,0<=x->x < m->EqA (Fc hs p) m ts ks cs x):∀ (n:Nat) (x:Int),0<=x->x < m->m - vAt ks x<=(n:Int)->0<=vAt cs x:=by
 intro n
 induction n with
 | zero =>
  intro x h0 h1 h2
  have:=hb x h0 h1
  omega
 | succ n ih =>
  intro x h0 h1 h2
  have e:vAt cs x=Fc hs p x (Xi m ts ks cs x):=hE x h0 h1
  rw[e]
  unfold Fc
  have s0:0<=(Xi m ts ks cs x).sum:=zai λv hv=>by
   unfold Xi at hv
   obtain⟨o,ho,rfl⟩:=u0c.mp hv
   have:=YF ho
   exact ih (o:Int) (by omega) (Zq ho) (by omega)
  have:=hn x
  exact Int.ediv_nonneg (by omega) (by split <;> decide)
def sD (m:Int)(ts:List Tie)(ks cs:List Int)(E:List Nat)(z:Int):Int:=((w6 m ts ks z).map λo:Nat=>if o∈E then vAt cs (o:Int)else 0).sum
theorem ziN {cs:List Int}{E:List Nat}{x:Nat}(hx:x∉E):∀ {l:List Nat},l.Nodup->(l.map λo:Nat=>if o∈E++[x]then vAt cs (o:Int)else 0).sum=(l.map λo:Nat=>if o∈E then vAt cs (o:Int)else 0).sum+(if x∈l then vAt cs (x:Int)else 0):=by
 intro l
 induction l with
 | nil=>intro _;rfl
 | cons a l ih =>
  intro nd
  obtain⟨h1,h2⟩:=u0L.mp nd
  rw[d8,d8,u02,u02,ih h2]
  by_cases c:a=x
  .subst c
   rw[u8 (d6 _ (.head _)),u9 hx,u9 h1,u8 (.head _)]
   omega
  .have e1:a∈E++[x]↔a∈E:=by
    rw[d9,t9]
    exact⟨λh=>h.elim id λe=>absurd e c,.inl⟩
   have e2:x∈a::l↔x∈l:=by
    rw[d7]
    exact⟨λh=>h.elim (λe=>absurd e.symm c) id,.inr⟩
   by_cases c1:a∈E <;> by_cases c2:x∈l
   .rw[u8 (e1.mpr c1),u8 c1,u8 c2,u8 (e2.mpr c2)];omega
   .rw[u8 (e1.mpr c1),u8 c1,u9 c2,u9 (λh=>c2 (e2.mp h))];omega
   .rw[u9 (λh=>c1 (e1.mp h)),u9 c1,u8 c2,u8 (e2.mpr c2)];omega
   .rw[u9 (λh=>c1 (e1.mp h)),u9 c1,u9 c2,u9 (λh=>c2 (e2.mp h))];omega
theorem zfJ {m:Int}{ts:List Tie}{ks cs:List Int}{E:List Nat}{x:Nat}(hx:x∉E)(z:Int):sD m ts ks cs (E++[x]) z=sD m ts ks cs E z+(if x∈w6 m ts ks z then vAt cs (x:Int)else 0):=ziN hx ((Vg m ts z).filter _)
theorem zhU {m:Int}{ts:List Tie}{ks cs:List Int}{E:List Nat}{z:Int}(h:∀ o∈w6 m ts ks z,o∈E):sD m ts ks cs E z=(Xi m ts ks cs z).sum:=by
 unfold sD Xi
 rw[u0y λo ho=>u8 (h o ho)]
theorem zkE (m:Int)(ts:List Tie)(ks cs:List Int)(z:Int):sD m ts ks cs [] z=0:=by
 unfold sD
 have:((w6 m ts ks z).map λo:Nat=>if o∈([]:List Nat)then vAt cs (o:Int)else 0)=(w6 m ts ks z).map λ_=>0:=u0y λo _=>u9 (List.not_mem_nil)
 rw[this]
 induction w6 m ts ks z with
 | nil=>rfl
 | cons a l ih=>rw[d8,u02,ih];rfl
structure zlY (m:Int) (ts:List Tie) (ks cs hs:List Int) (p:Int) (E:List Nat) (h:List Int):Prop where
 len:(h.length:Int)=m
 val:∀ z:Nat,(z:Int) < m->vAt h (z:Int)=vAt hs (z:Int)+sD m ts ks cs E (z:Int) - (if z∈E/\(z:Int)≠p then 2*vAt cs (z:Int)else 0)
structure Va (m:Int) (ts:List Tie) (ks cs hs:List Int) (p:Int):Prop where
 ok:zD m ts
 tl:(ts.length:Int)=m - 1
 hp:0<=p/\p < m
 hks:Yg m ts p=ks.map some
 hkl:(ks.length:Int)=m
 hb:∀ x:Int,0<=x->x < m->0<=vAt ks x/\vAt ks x < m
 hn:∀ x:Int,0<=vAt hs x
 hE:∀ x:Int,0<=x->x < m->EqA (Fc hs p) m ts ks cs x
theorem Va.nn {m p:Int}{ts:List Tie}{ks cs hs:List Int}(T:Va m ts ks cs hs p){x:Int}(h0:0<=x)(h1:x < m):0<=vAt cs x:=zgF T.hn T.hb T.hE m.toNat x h0 h1 (by have:=(T.hb x h0 h1).1;omega)
theorem zhK {m p:Int}{ts:List Tie}{ks cs hs h:List Int}{E:List Nat}{x:Nat}(T:Va m ts ks cs hs p)(M:zlY m ts ks cs hs p E h)(hx:(x:Int) < m)(hxE:x∉E)(ho:∀ o∈w6 m ts ks (x:Int),o∈E) :
 Yw ts h (zlR m ts ks cs p x)/\zlY m ts ks cs hs p (E++[x]) ((zlR m ts ks cs p x).foldl mv h):=by
 unfold zlR
 have xx:x∉w6 m ts ks (x:Int):=λh=>by have:=YF h;omega
 by_cases c:(x:Int)=p
 .rw[u8 c]
  refine⟨trivial,M.len,λz hz=>?_⟩
  have np:x∉w6 m ts ks (z:Int):=λh=>Xq T.hp T.hks T.hkl T.hb ⟨by omega,hz⟩ h c
  show vAt h (z:Int)=_
  rw[M.val z hz,zfJ hxE,u9 np,Int.add_zero]
  have e:(z∈E++[x]/\(z:Int)≠p)↔(z∈E/\(z:Int)≠p):=by
   rw[d9,t9]
   exact⟨λ⟨a,b⟩=>⟨a.elim id λe=>absurd (by rw[e];exact c) b,b⟩,λ⟨a,b⟩=>⟨.inl a,b⟩⟩
  by_cases c2:z∈E/\(z:Int)≠p
  .rw[u8 c2,u8 (e.mpr c2)]
  .rw[u9 c2,u9 (λh=>c2 (e.mp h))]
 .rw[u9 c]
  obtain⟨y,ey,hy⟩:=zjk T.ok T.hp T.hks T.hkl hx c
  rw[ey]
  obtain⟨ha,hlt⟩:=(Zu T.ok).mp hy
  have hyx:x∈w6 m ts ks (y:Int):=(zf3 T.ok).mp hy
  have hym:=(ha.rng T.ok).2
  have cn:=T.nn (x:=(x:Int)) (by omega) hx
  have ev:=M.val x hx
  rw[zhU ho,u9 (λ⟨a,_⟩=>hxE a)]at ev
  have eE:vAt cs (x:Int)=(vAt hs (x:Int)+(Xi m ts ks cs (x:Int)).sum) / (if (x:Int)=p then 1 else 2):=T.hE (x:Int) (by omega) hx
  rw[u9 c]at eE
  obtain⟨k,hk⟩:∃ k:Nat,(vAt cs (x:Int)).toNat=k:=⟨_,rfl⟩
  have hk2:(k:Int)=vAt cs (x:Int):=by omega
  rw[hk]
  obtain⟨p1,p2⟩:=zgu T.ok ha k h M.len (by omega)
  refine⟨p1,by rw[zhp];exact M.len,λz hz=>?_⟩
  rw[p2 (z:Int) (by omega),M.val z hz,zfJ hxE,hk2]
  have hxy:(x:Int)≠(y:Int):=λe=>by rw[e]at hlt;omega
  by_cases cx:z=x
  .subst cx
   rw[u8 rfl,u9 hxy,u9 xx,u9 (λ⟨a,_⟩=>hxE a),u8 ⟨d6 _ (.head _),c⟩]
   omega
  .have e:(z∈E++[x]/\(z:Int)≠p)↔(z∈E/\(z:Int)≠p):=by
    rw[d9,t9]
    exact⟨λ⟨a,b⟩=>⟨a.elim id λe=>absurd e cx,b⟩,λ⟨a,b⟩=>⟨.inl a,b⟩⟩
   rw[u9 (show ¬ (z:Int)=(x:Int) by omega)]
   have eI:(if z∈E++[x]/\(z:Int)≠p then 2*vAt cs (z:Int)else 0)=(if z∈E/\(z:Int)≠p then 2*vAt cs (z:Int)else 0):=by
    by_cases c2:z∈E/\(z:Int)≠p
    .rw[u8 c2,u8 (e.mpr c2)]
    .rw[u9 c2,u9 (λh=>c2 (e.mp h))]
   rw[eI]
   by_cases cy:z=y
   .subst cy
    rw[u8 rfl,u8 hyx]
    omega
   .have nz:x∉w6 m ts ks (z:Int):=λh=>cy (VJ T.ok T.tl T.hp T.hks T.hkl T.hb hz h hyx)
    rw[u9 (show ¬ (z:Int)=(y:Int) by omega),u9 nz]
    omega
theorem zjO {m p:Int}{ts:List Tie}{ks cs hs:List Int}{R:List Nat}(T:Va m ts ks cs hs p)(hR:zcV m ts ks R):∀ (M E:List Nat) (h:List Int),E++M=R->zlY m ts ks cs hs p E h->Yw ts h (zah m ts ks cs p M)/\zlY m ts ks cs hs p R ((zah m ts ks cs p M).foldl mv h):=by
 intro M
 induction M with
 | nil =>
  intro E h e H
  rw[u1o]at e
  subst e
  exact⟨trivial,H⟩
 | cons x M ih =>
  intro E h e H
  have hi:R[E.length]?=some x:=by rw[<-e];simp
  have hx:(x:Int) < m:=hR.mem.mp (j6 hi)
  have nd:=hR.nodup
  rw[<-e]at nd
  have hxE:x∉E:=λhx=>(List.nodup_append.mp nd).2.2 x hx x (.head _) rfl
  have ho:∀ o∈w6 m ts ks (x:Int),o∈E:=λo ho=>by
   obtain⟨k,hk,ek⟩:=hR.out hi ho
   rw[<-e,u0q hk]at ek
   exact j6 ek
  obtain⟨p1,p2⟩:=zhK T H hx hxE ho
  obtain⟨q1,q2⟩:=ih (E++[x]) _ (by rw[<-e];simp) p2
  unfold zah at q1 q2 ⊢
  rw[List.flatMap_cons,List.foldl_append]
  exact⟨p1.app q1,q2⟩
theorem zhm {m p:Int}{ts:List Tie}{ks cs hs:List Int}{R:List Nat}(T:Va m ts ks cs hs p)(hR:zcV m ts ks R)(hl:(hs.length:Int)=m):Yw ts hs (zah m ts ks cs p R)/\vAt ((zah m ts ks cs p R).foldl mv hs) p=vAt cs p:=by
 obtain⟨h1,h2⟩:=zjO T hR R [] hs rfl ⟨hl,λz hz=>by
  rw[zkE,u9 (λ⟨a,_⟩=>by cases a)]
  omega⟩
 refine⟨h1,?_⟩
 have hp:=T.hp
 have e:=h2.val p.toNat (by omega)
 rw[show((p.toNat:Nat):Int)=p by omega]at e
 have eE:vAt cs p=(vAt hs p+(Xi m ts ks cs p).sum) / (if p=p then 1 else 2):=T.hE p hp.1 hp.2
 rw[u8 rfl,u2W]at eE
 rw[e,zhU (λo ho=>hR.mem.mpr (Zq ho)),u9 (λ⟨_,b⟩=>b rfl),eE]
 omega
def wD (m:Int)(ts:List Tie)(ks cs:List Int)(x:Int):Int:=(Xi m ts ks cs x).sum
theorem zbZ {m:Int}{ts:List Tie}{hs cs ks:List Int}{x:Int}(ok:zD m ts)(hx:0<=x/\x < m)(hl:(hs.length:Int)=m)(hc:(cs.length:Int)=m):wZ [.tup (hs.map .int),.lst (WU m ts ks m.toNat),.tup (cs.map .int),.int x]=some (.int (vAt hs x+wD m ts ks cs x)):=Z5 ok hx hl hc λ_=>rfl
def ziO (m:Int)(ts:List Tie)(ks hs cs:List Int)(p x:Int):Bool:=decide (vAt hs x+wD m ts ks cs x<=if x=p then vAt cs x else 2*vAt cs x+1)
def zbD (m:Int)(ts:List Tie)(ks hs cs:List Int)(p:Int)(i:Nat):Bool:=(List.range i).all λx:Nat=>ziO m ts ks hs cs p (x:Int)
theorem zdP {m:Int}{ts:List Tie}{ks hs cs:List Int}{p:Int}{i:Nat}:zbD m ts ks hs cs p (i+1)=(zbD m ts ks hs cs p i&&ziO m ts ks hs cs p (i:Int)):=by
 unfold zbD
 rw[List.range_succ,List.all_append]
 simp
theorem zjN {m:Int}{ts:List Tie}{ks hs cs:List Int}{p:Int}{n i:Nat}(hi:i < n)(h:ziO m ts ks hs cs p (i:Int)=false):zbD m ts ks hs cs p n=false:=by
 unfold zbD
 rw[List.all_eq_false]
 exact⟨i,i5.mpr hi,by rw[h];exact u4⟩
def zj5 (m:Int)(ts:List Tie)(ks hs:List Int)(p:Int):D->Bool
 | .tup ds=>zH m (.tup ds)&&zbD m ts ks hs (ds.map zkr) p m.toNat
 | _=>false
theorem XX {m:Int}{ts:List Tie}{ks hs cs:List Int}{p:Int}(hl:(cs.length:Int)=m)(hnn:∀ x∈cs,0<=x):zj5 m ts ks hs p (.tup (cs.map .int))=zbD m ts ks hs cs p m.toNat:=by
 show(zH m (.tup (cs.map .int))&&zbD m ts ks hs ((cs.map D.int).map zkr) p m.toNat)=_
 have:zH m (.tup (cs.map .int))=true:=by
  unfold zH
  rw[p4,r8,u6]
  exact⟨hl,zaK hnn⟩
 rw[this,ZG]
 rfl
def wm:SE->Ctl :=
 (zO (xE false 6 (zq 4 wZ (zb (zc 1) (zb (zc 4) (zb (zc 3) (zb (zc 5) zr))))))
  (zO (xE false 7 (eIf (tOf (zn V0 (zc 5) (zc 2))) (zn ixD (zc 3) (zc 5)) (zn x5 (zn vN (eC (.int 2)) (zn ixD (zc 3) (zc 5))) (eC (.int 1)))))
  (sIf (tOf (zn gtD (zc 6) (zc 7))) (y6 (eC (.bl false))) yp)))
def xZ:SE->Ctl :=
 (zO (Xd (zq 3 yV (zb (zc 0) (zb (zc 1) (zb (zc 2) zr)))))
  (zO (sIf (xA (tOf (zq 2 yz (zb (zn ixD (zc 0) (eC (.int 0))) (zb (zc 3) zr))))) (y6 (eC (.bl false))) yp)
  (zO (xE false 4 (zq 2 ym (zb (zc 0) (zb (zc 2) zr))))
  (zO (xB wB (zb (zn ixD (zc 0) (eC (.int 0))) zr) (y8 5) wm)
  (y6 (eC (.bl true)))))))
def x4:List D->Option D:=fnD 8 xZ
theorem YA {m:Int}{ts:List Tie}{p:Int}{hs ks:List Int}{d:D}(ok:zD m ts)(hj:vR m ts)(htl:(ts.length:Int)=m - 1)(hp:0<=p/\p < m)(hks:Yg m ts p=ks.map some)(hkl:(ks.length:Int)=m)(hl:(hs.length:Int)=m)(hnn:∀ x∈hs,0<=x)(hsum:hs.sum<=300)(hd:noS d=true):x4 [zx m ts,.tup (hs.map .int),.int p,d]=some (.bl (zj5 m ts ks hs p d)):=by
 have hm1:=ok.lo
 have hm8:=ok.hi
 have em:ixD (zx m ts) (.int 0)=some (.int m):=rfl
 have e1:=za9 ok hj htl hp hl hnn hsum
 have e4:yz [.int m,d]=some (.bl (zH m d)):=by
  show(if (noS d&&decide (m<=1000))=true then some (D.bl (zH m d))else none)=_
  rw[hd,zaM ok]
  rfl
 have e5:=zcm ok hp hks hkl
 refine WK (ρ:=[.v (zx m ts),.v (.tup (hs.map .int)),.v (.int p),.v d,.no,.no,.no,.no]) rfl ?_
 unfold xZ
 refine zA (ρ':=[.v (zx m ts),.v (.tup (hs.map .int)),.v (.int p),.v d,.no,.no,.no,.no]) (YG e1) ?_
 cases hc:zH m d with
 | false =>
  rw[hc]at e4
  refine zmi (d:=.bl false) (by simp[sIf,xA,tOf,zq,zb,zr,zc,visG,Sl.g,zn,eC,em,e4,asB,y6]) ?_
  cases d <;> try rfl
  show _=D.bl (zH m _&&_)
  rw[hc]
  rfl
 | true =>
  rw[hc]at e4
  refine xw (VF (c:=false) (by simp[xA,tOf,zq,zb,zr,zc,visG,Sl.g,zn,eC,em,e4,asB]) (λz=>by cases z) λ_=>Zw rfl ?_)
  cases d <;> try cases hc
  rename_i ds
  have hc':=hc
  unfold zH at hc'
  rw[p4,r8]at hc'
  obtain⟨cs,rfl,hcs⟩:=XS hc'.2
  have hcl:(cs.length:Int)=m:=by have:=hc'.1;rw[u6]at this;exact this
  rw[XX hcl hcs]
  refine zA (ρ':=[.v (zx m ts),.v (.tup (hs.map .int)),.v (.int p),.v (.tup (cs.map .int)),.v (.lst (WU m ts ks m.toNat)),.no,.no,.no]) (yi e5) ?_
  refine xw (ZR (lo:=0) (c:=m.toNat) (λi ρ=>(∃ o5 o6 o7,ρ=[.v (zx m ts),.v (.tup (hs.map .int)),.v (.int p),.v (.tup (cs.map .int)),.v (.lst (WU m ts ks m.toNat)),o5,o6,o7])/\zbD m ts ks hs cs p i=true) ?_ ⟨⟨_,_,_,rfl⟩,rfl⟩ ?_ ?_)
  .show wB [.int m]=_
   exact Xb ok
  .rintro i ρ hi ⟨⟨o5,o6,o7,rfl⟩,hB⟩
   obtain⟨x,hx⟩:∃ x:Int,(0:Int)+(i:Int)=x:=⟨_,rfl⟩
   rw[hx]
   refine⟨_,rfl,?_⟩
   have hxp:=zeU hi hx
   have e6:=zbZ (ks:=ks) ok hxp hl hcl
   have ec:=Xy (ns:=cs) (i:=x) hxp hcl
   unfold wm
   generalize hO:WU m ts ks m.toNat=O at *
   refine zA (ρ':=[.v (zx m ts),.v (.tup (hs.map .int)),.v (.int p),.v (.tup (cs.map .int)),.v (.lst O),.v (.int x),.v (.int (vAt hs x+wD m ts ks cs x)),o7]) (yi e6) ?_
   obtain⟨mx,hmx⟩:∃ mx:Int,(if x=p then vAt cs x else 2*vAt cs x+1)=mx:=⟨_,rfl⟩
   have hcar:ziO m ts ks hs cs p x=decide (vAt hs x+wD m ts ks cs x<=mx):=by unfold ziO;rw[hmx]
   refine zA (ρ':=[.v (zx m ts),.v (.tup (hs.map .int)),.v (.int p),.v (.tup (cs.map .int)),.v (.lst O),.v (.int x),.v (.int (vAt hs x+wD m ts ks cs x)),.v (.int mx)]) ?_ ?_
   .have m2:vN (.int 2) (.int (vAt cs x))=some (.int (2*vAt cs x)):=zfk (by decide) (by decide)
    have q1:V0 (.int x) (.int p)=some (.bl (decide (x=p))):=rfl
    by_cases c:x=p
    .rw[u8 c]at hmx
     rw[d4 c]at q1
     simp[xE,vEv,visF,Sl.f,eIf,tOf,zn,zc,q1,asB,ixD,ec,hmx]
    .rw[u9 c]at hmx
     rw[p6 c]at q1
     simp[xE,vEv,visF,Sl.f,eIf,tOf,zn,zc,eC,q1,asB,ixD,ec,m2,yd,hmx]
   refine VF (c:=!ziO m ts ks hs cs p x) ?_ (λz=>ZI rfl ?_) (λz=>Zw rfl ⟨⟨_,_,_,rfl⟩,?_⟩)
   .rw[hcar]
    simp[tOf,zn,zc,visG,Sl.g,gtD,VU,asB]
    by_cases c:vAt hs x+wD m ts ks cs x<=mx
    .rw[d4 c,p6 (by omega)];rfl
    .rw[p6 c,d4 (by omega)];rfl
   .have:zbD m ts ks hs cs p m.toNat=false:=zjN hi (by rw[zhY hx];simpa using z)
    rw[this]
   .rw[zdP,hB,zhY hx]
    simpa using z
  .rintro ρ ⟨⟨o5,o6,o7,rfl⟩,hB⟩
   exact ZI rfl (by rw[hB])
theorem Wt (T:Txt K mg base ad):xo P w K mg base CX0 13 ad.f_carry_holds ad.e_carry_holds ["web","heap","place","thing"] (@spD ⟨K⟩ 4 x4):=by
 letI:KK:=⟨K⟩
 have G_are_counts:=Y4 (P:=P) (w:=w) (base:=base) T
 have G_outer_neighbours:=wx (P:=P) (w:=w) (base:=base) T
 have G_must_be_rooted:=ve (P:=P) (w:=w) (base:=base) T
 have G_gathered:=XJ (P:=P) (w:=w) (base:=base) T
 refine yR (N:=["web","heap","place","thing","outer","other","stones","most"]) (ps:=["web","heap","place","thing"]) T.d_carry_holds.fn yN (g:=xZ) λcdv A outer s H E hr=>?_
 unfold xZ wm
 exact(zd (YS (zj G_must_be_rooted hr rfl T.d_must_be_rooted (za (edv 0) (za (edv 1) (za (edv 2) ze)))))
  (zd (wA (YB (Yz (zj G_are_counts hr rfl T.d_are_counts (za (zF (edv 0) (zg zh) (λ_ _=>rfl)) (za (edv 3) ze))))) (zi (zE (vU v9))) zP)
  (zd (zX (m:=false) (i:=4) yN.nd rfl (Or.inl rfl) (zj G_outer_neighbours hr rfl T.d_outer_neighbours (za (edv 0) (za (edv 2) ze))))
  (zd (vw u0a rfl rfl T.z_range (za (zF (edv 0) (zg zh) (λ_ _=>rfl)) ze) (yK (zI (i:=5) yN.nd rfl (Or.inl rfl))) (zd (zX (m:=false) (i:=6) yN.nd rfl (Or.inl rfl) (zj G_gathered hr rfl T.d_gathered (za (edv 1) (za (edv 4) (za (edv 3) (za (edv 5) ze))))))
  (zd (zX (m:=false) (i:=7) yN.nd rfl (Or.inl rfl) (zj7 (zV (XI hr) YO (zN _) (edv 5) (edv 2)) (zF (edv 3) (edv 5) (λ_ _=>rfl)) (yf (ZU (zg zh) (zF (edv 3) (edv 5) (λ_ _=>rfl))) (zg zh))))
  (zi (wA (zV zbN yj (zN _) (edv 6) (edv 7)) (zi (zE (vU v9))) zP)))))
  (zi (zE (vU v9)))))))
theorem zgA {m p a b:Int}{ts:List Tie}{ks:List Int}(ok:zD m ts)(htl:(ts.length:Int)=m - 1)(hp:0<=p/\p < m)(hks:Yg m ts p=ks.map some)(hkl:(ks.length:Int)=m)(h:adj ts a b):vAt ks a < vAt ks b\/vAt ks b < vAt ks a:=by
 have key:∀ t∈ts,vAt ks t.1≠vAt ks t.2:=λt ht e=>by
  have r:=ok.rng t ht
  have hU:=zcc ok htl hp hks hkl
  have eu:upT ks t=t.1:=by unfold upT;rw[u9 (by omega)]
  by_cases c:t.1=p
  .obtain⟨k,fk,ek⟩:=zcR (x:=t.2) hks hkl ⟨by omega,by omega⟩
   rw[c,zeZ hp hks hkl]at e
   have:k=0:=by omega
   subst this
   cases fk.1
   omega
  .obtain⟨o,ho⟩:=W2 (x:=t.1) ok hp hks hkl ⟨by omega,by omega⟩ c
   obtain⟨s,hs,e1,c1⟩:=zcf ok ho
   have:=vJ hU ht hs (eu.trans e1.symm)
   subst this
   have n1:=((Zu ok).mp ho).2
   rcases c1 with ⟨d1,d2⟩ | ⟨d1,d2⟩
   .rw[<-d2]at n1;omega
   .rw[<-d1]at n1;omega
 rcases h with h | h
 .have:=key _ h
  dsimp only at this
  omega
 .have:=key _ h
  dsimp only at this
  omega
structure zag (m:Int) (ts:List Tie) (ks h c:List Int) (p:Int):Prop where
 len:(c.length:Int)=m
 nn:∀ x:Int,0<=vAt c x
 hold:∀ x:Nat,(x:Int) < m->vAt h (x:Int)+wD m ts ks c (x:Int)<=(if (x:Int)=p then vAt c (x:Int)else 2*vAt c (x:Int)+1)
theorem zgS {c:List Int}{a:Nat}{v:Int}(ha:(a:Int) < c.length):∀ {l:List Nat},l.Nodup->(l.map λo:Nat=>vAt (c.set a v) (o:Int)).sum=(l.map λo:Nat=>vAt c (o:Int)).sum+(if a∈l then v - vAt c (a:Int)else 0):=by
 have e:∀ o:Nat,vAt (c.set a v) (o:Int)=if (o:Int)=(a:Int)then v else vAt c (o:Int):=λo=>wI (ns:=c) (i:=(a:Int)) (j:=(o:Int)) (x:=v) (by omega) ha (by omega)
 intro l
 induction l with
 | nil=>intro _;rfl
 | cons b l ih =>
  intro nd
  obtain⟨h1,h2⟩:=u0L.mp nd
  rw[d8,d8,u02,u02,ih h2,e b]
  by_cases cb:b=a
  .subst cb
   rw[u8 rfl,u9 h1,u8 (.head _)]
   omega
  .rw[u9 (by omega)]
   have e2:a∈b::l↔a∈l:=by
    rw[d7]
    exact⟨λh=>h.elim (λe=>absurd e.symm cb) id,.inr⟩
   by_cases c2:a∈l
   .rw[u8 c2,u8 (e2.mpr c2)];omega
   .rw[u9 c2,u9 (λh=>c2 (e2.mp h))];omega
theorem WV {m:Int}{ts:List Tie}{ks c:List Int}{a:Nat}{v z:Int}(ha:(a:Int) < c.length):wD m ts ks (c.set a v) z=wD m ts ks c z+(if a∈w6 m ts ks z then v - vAt c (a:Int)else 0):=zgS ha ((Vg m ts z).filter _)
theorem zaG {m:Int}{ts:List Tie}{ks c:List Int}{z:Int}(h:∀ x:Int,0<=vAt c x):0<=wD m ts ks c z:=zai λv hv=>by
 unfold Xi at hv
 obtain⟨o,_,rfl⟩:=u0c.mp hv
 exact h _
theorem zdg {m p:Int}{ts:List Tie}{ks h c:List Int}{s:Tie}(ok:zD m ts)(htl:(ts.length:Int)=m - 1)(hp:0<=p/\p < m)(hks:Yg m ts p=ks.map some)(hkl:(ks.length:Int)=m)(hb:∀ x:Int,0<=x->x < m->0<=vAt ks x/\vAt ks x < m)(hl:(h.length:Int)=m)(G:zag m ts ks h c p)(ha:adj ts s.1 s.2)(h2:2<=vAt h s.1):∃ c',zag m ts ks (mv h s) c' p/\vAt c' p=vAt c p:=by
 obtain⟨r1,r2⟩:=ha.rng ok
 have hne:s.1≠s.2:=by
  rcases ha with h | h <;> (have:=ok.rng _ h;dsimp only at this;omega)
 have em:=λz hz=>ziq (h:=h) (s:=s) ⟨r1.1,by omega⟩ ⟨r2.1,by omega⟩ hne (z:=z) hz
 obtain⟨a,ea⟩:∃ a:Nat,s.1=(a:Int):=⟨s.1.toNat,by omega⟩
 obtain⟨b,eb⟩:∃ b:Nat,s.2=(b:Int):=⟨s.2.toNat,by omega⟩
 rw[ea,eb]at em ha
 rw[ea]at h2 r1
 rw[eb]at r2
 have hab:a≠b:=λe=>hne (by rw[ea,eb,e])
 have cl:=G.len
 have pw:∀ (d:Nat) (v:Int),(d:Int) < m->∀ z:Int,0<=z->vAt (c.set d v) z=if z=(d:Int)then v else vAt c z:=λd v hd z hz=>wI (ns:=c) (i:=(d:Int)) (j:=z) (x:=v) (by omega) (by omega) hz
 have nonneg:∀ (d:Nat) (v:Int),(d:Int) < m->0<=v->∀ z:Int,0<=vAt (c.set d v) z:=λd v hd hv z=>by
  by_cases hz:0<=z
  .rw[pw d v hd z hz]
   split
   .exact hv
   .exact G.nn z
  .unfold vAt
   rw[n8]
   cases e:(c.set d v)[z.toNat]? with
   | none=>exact u05 _
   | some w =>
    rcases u1l (j6 e)with h | h
    .obtain⟨i,hi,rfl⟩:=p8 h
     have:=G.nn (i:Int)
     unfold vAt at this
     rw[n8,show((i:Int)).toNat=i from rfl,u7 hi]at this
     exact this
    .rw[h];exact hv
 rcases zgA ok htl hp hks hkl ha with hlev | hlev
 . -- outwards
   have hbo:b∈w6 m ts ks (a:Int):=(VL ok).mpr ⟨ha,hlev⟩
   have hbp:(b:Int)≠p:=Xq hp hks hkl hb r1 hbo
   have nbb:b∉w6 m ts ks (b:Int):=λh=>by have:=YF h;omega
   refine⟨c.set b (vAt c (b:Int)+1),⟨by rw[u0x];exact cl,nonneg b _ r2.2 (by have:=G.nn (b:Int);omega),λx hx=>?_⟩,?_⟩
   .have g:=G.hold x hx
    rw[em (x:Int) (by omega),WV (by omega),pw b _ r2.2 (x:Int) (by omega)]
    by_cases cb:x=b
    .subst cb
     have na:¬ (x:Int)=(a:Int):=λe=>hab (by omega)
     rw[u9 na,u8 rfl,u9 nbb,u9 hbp,u8 rfl]
     rw[u9 hbp]at g
     omega
    .have nb:¬ (x:Int)=(b:Int):=λe=>cb (by omega)
     rw[show(if (x:Int)=(b:Int)then (1:Int)else 0)=0 from u9 nb,show(if (x:Int)=(b:Int)then vAt c (b:Int)+1 else vAt c (x:Int))=vAt c (x:Int)from u9 nb]
     by_cases ca:x=a
     .subst ca
      rw[u8 rfl,u8 hbo]
      omega
     .have nb2:b∉w6 m ts ks (x:Int):=λh=>ca (VJ ok htl hp hks hkl hb hx h hbo)
      have na:¬ (x:Int)=(a:Int):=λe=>ca (by omega)
      rw[show(if (x:Int)=(a:Int)then (2:Int)else 0)=0 from u9 na,u9 nb2]
      omega
   .rw[pw b _ r2.2 p hp.1,u9 (λe=>hbp e.symm)]
 . -- inwards
   have hao:a∈w6 m ts ks (b:Int):=(VL ok).mpr ⟨ha.symm,hlev⟩
   have hap:(a:Int)≠p:=Xq hp hks hkl hb r2 hao
   have naa:a∉w6 m ts ks (a:Int):=λh=>by have:=YF h;omega
   have ga:=G.hold a r1.2
   rw[u9 hap]at ga
   have s0:=zaG (m:=m) (ts:=ts) (ks:=ks) (z:=(a:Int)) G.nn
   refine⟨c.set a (vAt c (a:Int) - 1),⟨by rw[u0x];exact cl,nonneg a _ r1.2 (by omega),λx hx=>?_⟩,?_⟩
   .have g:=G.hold x hx
    rw[em (x:Int) (by omega),WV (by omega),pw a _ r1.2 (x:Int) (by omega)]
    by_cases ca:x=a
    .subst ca
     have nb:¬ (x:Int)=(b:Int):=λe=>hab (by omega)
     rw[u8 rfl,u9 nb,u9 naa,u9 hap,u8 rfl]
     omega
    .have na:¬ (x:Int)=(a:Int):=λe=>ca (by omega)
     rw[show(if (x:Int)=(a:Int)then (2:Int)else 0)=0 from u9 na,show(if (x:Int)=(a:Int)then vAt c (a:Int) - 1 else vAt c (x:Int))=vAt c (x:Int)from u9 na]
     by_cases cb:x=b
     .subst cb
      rw[u8 rfl,u8 hao]
      omega
     .have na2:a∉w6 m ts ks (x:Int):=λh=>cb (VJ ok htl hp hks hkl hb hx h hao)
      have nb:¬ (x:Int)=(b:Int):=λe=>cb (by omega)
      rw[show(if (x:Int)=(b:Int)then (1:Int)else 0)=0 from u9 nb,u9 na2]
      omega
   .rw[pw a _ r1.2 p hp.1,u9 (λe=>hap e.symm)]
theorem zgf {m:Int}{ts:List Tie}{s:Tie}(ok:zD m ts)(h:s∈yO m ts):adj ts s.1 s.2:=by
 obtain⟨_,_,h3⟩:=Yp.mp h
 unfold vO at h3
 have r:=ok.rng _ h3
 by_cases c:s.2 < s.1
 .rw[u8 c,u9 (by omega)]at h3
  exact .inr h3
 .rw[u9 c]at h3 r
  by_cases c2:s.2 > s.1
  .rw[u8 c2]at h3
   exact .inl h3
  .rw[u9 c2]at r
   dsimp only at r
   omega
theorem zhD {m:Int}{ts:List Tie}{s:Tie}(ok:zD m ts)(h:adj ts s.1 s.2):s∈yO m ts:=by
 obtain⟨r1,r2⟩:=h.rng ok
 refine Yp.mpr ⟨r1,r2,?_⟩
 unfold vO
 rcases h with h | h
 .have r:=ok.rng _ h
  dsimp only at r
  rw[u9 (by omega),u8 (by omega)]
  exact h
 .have r:=ok.rng _ h
  dsimp only at r
  rw[u8 (by omega),u9 (by omega)]
  exact h
theorem zet {m p:Int}{ts:List Tie}{ks h0 c g:List Int}(ok:zD m ts)(htl:(ts.length:Int)=m - 1)(hp:0<=p/\p < m)(hks:Yg m ts p=ks.map some)(hkl:(ks.length:Int)=m)(hb:∀ x:Int,0<=x->x < m->0<=vAt ks x/\vAt ks x < m)(hl:(h0.length:Int)=m)(G:zag m ts ks h0 c p)(B:Beh (yO m ts) h0 g):(g.length:Int)=m/\∃ c',zag m ts ks g c' p/\vAt c' p=vAt c p:=by
 induction B with
 | zero=>exact⟨hl,c,G,rfl⟩
 | step _ hs h2 ih =>
  obtain⟨gl,c',G',e⟩:=ih
  obtain⟨c2,G2,e2⟩:=zdg ok htl hp hks hkl hb gl G' (zgf ok hs) h2
  exact⟨by rw[zaL];exact gl,c2,G2,e2.trans e⟩
theorem zbS {m p:Int}{ts:List Tie}{ks h0 c g:List Int}(ok:zD m ts)(htl:(ts.length:Int)=m - 1)(hp:0<=p/\p < m)(hks:Yg m ts p=ks.map some)(hkl:(ks.length:Int)=m)(hb:∀ x:Int,0<=x->x < m->0<=vAt ks x/\vAt ks x < m)(hl:(h0.length:Int)=m)(G:zag m ts ks h0 c p)(B:Beh (yO m ts) h0 g):vAt g p<=vAt c p:=by
 obtain⟨_,c',G',e⟩:=zet ok htl hp hks hkl hb hl G B
 have h:=G'.hold p.toNat (by omega)
 rw[show((p.toNat:Nat):Int)=p by omega,u8 rfl]at h
 have:=zaG (m:=m) (ts:=ts) (ks:=ks) (z:=p) G'.nn
 omega
theorem zhe {m:Int}{ts:List Tie}{h0:List Int}(ok:zD m ts):∀ (S:List Tie) (h:List Int),Beh (yO m ts) h0 h->Yw ts h S->Beh (yO m ts) h0 (S.foldl mv h):=by
 intro S
 induction S with
 | nil=>intro h B _;exact B
 | cons s S ih=>intro h B hP;exact ih (mv h s) (B.step (zhD ok hP.1) hP.2.1) hP.2.2
theorem WS {m p:Int}{ts:List Tie}{ks cs hs:List Int}(T:Va m ts ks cs hs p)(hcl:(cs.length:Int)=m):zag m ts ks hs cs p:=by
 refine⟨hcl,λx=>?_,λx hx=>?_⟩
 .by_cases c:0<=x/\x < m
  .exact T.nn c.1 c.2
  .unfold vAt
   rw[n8]
   cases e:cs[x.toNat]? with
   | none=>exact u05 _
   | some v =>
    obtain⟨hi,ev⟩:=t7.mp e
    have:=T.nn (x:=((x.toNat:Nat):Int)) (by omega) (by omega)
    unfold vAt at this
    rw[n8,show(((x.toNat:Nat):Int)).toNat=x.toNat from rfl,e]at this
    exact this
 .have e:vAt cs (x:Int)=(vAt hs (x:Int)+(Xi m ts ks cs (x:Int)).sum) / (if (x:Int)=p then 1 else 2):=T.hE (x:Int) (by omega) hx
  have eo:wD m ts ks cs (x:Int)=(Xi m ts ks cs (x:Int)).sum:=rfl
  by_cases c:(x:Int)=p
  .rw[u8 c,u2W]at e
   rw[u8 c]
   omega
  .rw[u9 c]at e
   rw[u9 c]
   omega
theorem zc3 {m p:Int}{ts:List Tie}{ks cs hs c:List Int}(T:Va m ts ks cs hs p)(G:zag m ts ks hs c p):∀ (n:Nat) (x:Nat),(x:Int) < m->m - vAt ks (x:Int)<=(n:Int)->vAt cs (x:Int)<=vAt c (x:Int):=by
 intro n
 induction n with
 | zero =>
  intro x hx h
  have:=(T.hb (x:Int) (by omega) hx).2
  omega
 | succ n ih =>
  intro x hx h
  have e:vAt cs (x:Int)=(vAt hs (x:Int)+(Xi m ts ks cs (x:Int)).sum) / (if (x:Int)=p then 1 else 2):=T.hE (x:Int) (by omega) hx
  have g:=G.hold x hx
  have hsum:(Xi m ts ks cs (x:Int)).sum<=wD m ts ks c (x:Int):=by
   unfold wD Xi
   have:∀ l:List Nat,(∀ o∈l,vAt cs (o:Int)<=vAt c (o:Int))->(l.map λo:Nat=>vAt cs (o:Int)).sum<=(l.map λo:Nat=>vAt c (o:Int)).sum:=λl=>by
    induction l with
    | nil=>intro _;exact u05 _
    | cons a l ih2 =>
     intro h
     rw[d8,d8,u02,u02]
     have:=h a (.head _)
     have:=ih2 λo ho=>h o (.tail _ ho)
     omega
   exact this _ λo ho=>by
    have:=YF ho
    exact ih o (Zq ho) (by omega)
  by_cases c:(x:Int)=p
  .rw[u8 c,u2W]at e
   rw[u8 c]at g
   omega
  .rw[u9 c]at e
   rw[u9 c]at g
   omega
theorem zco {m p:Int}{ts:List Tie}{ks hs cs:List Int}{n:Nat}:zbD m ts ks hs cs p n=true↔∀ x:Nat,x < n->vAt hs (x:Int)+wD m ts ks cs (x:Int)<=(if (x:Int)=p then vAt cs (x:Int)else 2*vAt cs (x:Int)+1):=by
 unfold zbD ziO
 rw[u0C]
 exact⟨λh x hx=>b7 (h x (i5.mpr hx)),λh x hx=>d4 (h x (i5.mp hx))⟩
def zbw:SE->Ctl :=
 (zO (xE false 10 (zn xK (zq 2 zy (zb (zc 1) (zb (zn x5 (zn x5 (eC (.int 40)) (zn vN (eC (.int 9)) (zc 7))) (zc 9)) zr))) (zn ixD (zc 2) (eC (.int 0)))))
  (ZP true 8 (zc 10) (eFn VS (zb (eC (.int 0)) (zb (zn x5 (zn ixD (zc 8) (zc 10)) (zn ixD (ww (yw (zb (eC (.int 1)) (zb (eUn zbf (eC (.int 1))) (zb (eC (.int 2)) zr))))) (zn xK (zq 2 zy (zb (zc 1) (zb (zn x5 (zn x5 (eC (.int 140)) (zn vN (eC (.int 9)) (zc 7))) (zc 9)) zr))) (eC (.int 3))))) zr)))))
def W8:SE->Ctl :=
 (zO (Za 8 (fFn v5 (zb (zc 6) zr)))
  (zO (xB wB (zb (zn x5 (eC (.int 1)) (zn xK (zq 2 zy (zb (zc 1) (zb (zn x5 (eC (.int 30)) (zc 7)) zr))) (eC (.int 3)))) zr) (y8 9) zbw)
  (sFz 8 (sIf (tOf (zn WR (zq 4 x4 (zb (zc 2) (zb (zc 3) (zb (zc 4) (zb (eFn zW (zb (zc 8) zr)) zr))))) (eC (.bl true)))) (zO (xE false 11 (ww (fLC (Wp wB (zb (zn ixD (zc 2) (eC (.int 0))) zr)) b1 (tOf (zn ltD (zn ixD (zc 9) (zc 0)) (zn ixD (zc 7) (zc 0)))) (zc 0))))
  (sIf (Wo (tOf (zn ltD (zn ixD (zc 8) (zc 4)) (zc 5))) (tOf (zn zis (zc 11) (ww (yw zr))))) (y6 (eC (.bl false))) yp)) yp))))
def Vd:SE->Ctl :=
 (zO (xE false 2 (zq 2 wN (zb (zc 1) (zb (eC (.int 6)) zr))))
  (zO (xE false 3 (zq 3 wU (zb (zn ixD (zc 2) (eC (.int 0))) (zb (zq 2 zy (zb (zc 1) (zb (eC (.int 2)) zr))) (zb (eC (.int 8)) zr)))))
  (zO (xE false 4 (zn xK (zq 2 zy (zb (zc 1) (zb (eC (.int 1)) zr))) (zn ixD (zc 2) (eC (.int 0)))))
  (zO (xE false 5 (zq 3 xt (zb (zc 2) (zb (zc 3) (zb (zc 4) zr)))))
  (zO (xE false 6 (zq 3 XT (zb (zc 2) (zb (zc 3) (zb (zc 4) zr)))))
  (zO (sIf (Wo (tOf (zn neD (zn ixD (zc 6) (zc 4)) (zc 5))) (tOf (zn ya (zq 4 x4 (zb (zc 2) (zb (zc 3) (zb (zc 4) (zb (zc 6) zr))))) (eC (.bl true))))) (y6 (eC (.bl false))) yp)
  (xB wB (zb (eC (.int 8)) zr) (y8 7) W8)))))))
def zgy:SE->Ctl :=
 (zO (XQ (iOf (zn x5 (ww (yw (zb (zq 2 yQ (zb (zc 0) (zb (eC (.int 0)) zr))) zr))) (eSl slD (zc 0) (vy (eC (.int 1))) (vy (eC (.int 4)))))) (y8 1) Vd)
  (y6 (eC (.bl true))))
def zlN:List D->Option D:=fnD 12 zgy
theorem zjs {m p:Int}{ts:List Tie}{ks hs cs:List Int}(hl:(cs.length:Int)=m)(hn:∀ x:Int,0<=vAt cs x)(h:zbD m ts ks hs cs p m.toNat=true):zag m ts ks hs cs p:=⟨hl,hn,λx hx=>zco.mp h x (by omega)⟩
theorem zdY {cs:List Int}(h:∀ v∈cs,0<=v)(x:Int):0<=vAt cs x:=by
 unfold vAt
 rw[n8]
 cases e:cs[x.toNat]? with
 | none=>exact u05 _
 | some v=>exact h v (j6 e)
theorem zeW {cs:List Int}(h:∀ x:Int,0<=vAt cs x):∀ v∈cs,0<=v:=λv hv=>by
 obtain⟨i,hi,rfl⟩:=p8 hv
 have:=h (i:Int)
 unfold vAt at this
 rw[n8,show((i:Int)).toNat=i from rfl,u7 hi]at this
 exact this
theorem zlH {x:Int}(h0:0<=x)(h1:x < 3):x=0\/x=1\/x=2:=by omega
theorem zjh:zis (.lst []) (.lst [])=some (.bl false):=rfl
theorem zm6 (b:Bool):WR (.bl b) (.bl true)=some (.bl b):=by cases b <;> rfl
theorem zjE (script:D)(z m p:Int)(ts:List Tie)(hs cs ks:List Int)(M:Int)(x:Int)(o8 o9 o10 o11:Sl)(T:Va m ts ks cs hs p)(hj:vR m ts)(hl:(hs.length:Int)=m)(hnn:∀ v∈hs,0<=v)(hsum:hs.sum<=300)(hcl:(cs.length:Int)=m)(hM:M=vAt cs p)(n b:SE->Prop)(r:D->Prop)(I:SE->Prop)
 (hI:∀ o8 o9 o10 o11,I [.v script,.v (.int z),.v (zx m ts),.v (.tup (hs.map .int)),.v (.int p),.v (.int M),.v (.tup (cs.map .int)),.v (.int x),o8,o9,o10,o11]) :
 (W8 [.v script,.v (.int z),.v (zx m ts),.v (.tup (hs.map .int)),.v (.int p),.v (.int M),.v (.tup (cs.map .int)),.v (.int x),o8,o9,o10,o11]).w I b n r:=by
 have ok:=T.ok
 have hm1:=ok.lo
 have hm8:=ok.hi
 have hm0:0 < m:=zba hm1
 have hp:=T.hp
 have es:∀ k:Int,zy [.int z,.int k]=some (.int (ZQ z k)):=λk=>rfl
 unfold W8
 refine zA (ρ':=[.v script,.v (.int z),.v (zx m ts),.v (.tup (hs.map .int)),.v (.int p),.v (.int M),.v (.tup (cs.map .int)),.v (.int x),.o (cs.map .int),o9,o10,o11]) rfl ?_
 obtain⟨t3,ht3⟩:∃ a:Int,ZQ z (30+x) % 3=a:=⟨_,rfl⟩
 obtain⟨t0,t1⟩:=xD (by decide) ht3
 have hrng:wB [.int (1+t3)]=some (Z4 0 (1+t3).toNat):=wV (by omega) (by omega)
 refine xw (ZR (lo:=0) (c:=(1+t3).toNat) (λi ρ=>∃ (ps:List Int) (o9 o10:Sl),ρ=[.v script,.v (.int z),.v (zx m ts),.v (.tup (hs.map .int)),.v (.int p),.v (.int M),.v (.tup (cs.map .int)),.v (.int x),.o (ps.map .int),o9,o10,o11]/\(ps.length:Int)=m/\∀ v∈ps,0<=v) ?_ ⟨cs,_,_,rfl,hcl,zeW (WS T hcl).nn⟩ ?_ ?_)
 .have e:zb (zn x5 (eC (.int 1)) (zn xK (zq 2 zy (zb (zc 1) (zb (zn x5 (eC (.int 30)) (zc 7)) zr))) (eC (.int 3)))) zr (visG [.v script,.v (.int z),.v (zx m ts),.v (.tup (hs.map .int)),.v (.int p),.v (.int M),.v (.tup (cs.map .int)),.v (.int x),.o (cs.map .int),o9,o10,o11])=some [.int (1+t3)]:=by
   refine xV (zJ (x:=.int 1) (y:=.int t3) rfl (zJ (x:=.int (ZQ z (30+x))) (y:=.int 3) (wK (ds:=[.int z,.int (30+x)]) rfl (es _)) rfl ?_) rfl) ZY
   rw[yt (by decide),ht3]
  exact(u0W (·.bind wB) e).trans hrng
 .rintro i ρ hi ⟨ps,o9,o10,rfl,hpl,hpn⟩
  obtain⟨k,hk⟩:∃ k:Int,(0:Int)+(i:Int)=k:=⟨_,rfl⟩
  rw[hk]
  refine⟨[.v script,.v (.int z),.v (zx m ts),.v (.tup (hs.map .int)),.v (.int p),.v (.int M),.v (.tup (cs.map .int)),.v (.int x),.o (ps.map .int),.v (.int k),o10,o11],rfl,?_⟩
  unfold zbw
  have m9:vN (.int 9) (.int x)=some (.int (9*x)):=zfk (by decide) (by decide)
  obtain⟨y,hy⟩:∃ a:Int,ZQ z (40+9*x+k) % m=a:=⟨_,rfl⟩
  obtain⟨y0,y1⟩:=xD hm0 hy
  refine zA (ρ':=[.v script,.v (.int z),.v (zx m ts),.v (.tup (hs.map .int)),.v (.int p),.v (.int M),.v (.tup (cs.map .int)),.v (.int x),.o (ps.map .int),.v (.int k),.v (.int y),o11]) (zly (zJ (x:=.int (ZQ z (40+9*x+k))) (y:=.int m) (wK (ds:=[.int z,.int (40+9*x+k)]) (xV rfl (xV (zJ (x:=.int (40+9*x)) (y:=.int k) (zJ (x:=.int 40) (y:=.int (9*x)) rfl (zJ (x:=.int 9) (y:=.int x) rfl rfl m9) rfl) rfl rfl) ZY)) (es _)) rfl ?_)) ?_
  .rw[yt hm0,hy]
  obtain⟨q3,hq3⟩:∃ a:Int,ZQ z (140+9*x+k) % 3=a:=⟨_,rfl⟩
  obtain⟨q0,q1⟩:=xD (by decide) hq3
  obtain⟨u,hu⟩:∃ u:Int,atI [D.int 1,.int (-1),.int 2] q3=some (.int u):=by
   rcases zlH q0 q1 with h | h | h <;> rw[h] <;> exact⟨_,rfl⟩
  have ey:L2.atI (ps.map D.int) y=some (.int (vAt ps y)):=Xy (ns:=ps) (i:=y) ⟨y0,y1⟩ hpl
  obtain⟨v,hv⟩:∃ v:Int,(if vAt ps y+u > 0 then vAt ps y+u else 0)=v:=⟨_,rfl⟩
  have hv0:0<=v:=by rw[<-hv];split <;> omega
  have emx:VS [.int 0,.int (vAt ps y+u)]=some (.int v):=by rw[<-hv];rfl
  refine zbz (ps.map .int) (.int v) y ?_ rfl rfl y0 (zfW y1 hpl) ⟨ps.set y.toNat v,.v (.int k),.v (.int y),?_,by rw[u0x];exact hpl,λw hw=>?_⟩
  .have e:eFn VS (zb (eC (.int 0)) (zb (zn x5 (zn ixD (zc 8) (zc 10)) (zn ixD (ww (yw (zb (eC (.int 1)) (zb (eUn zbf (eC (.int 1))) (zb (eC (.int 2)) zr))))) (zn xK (zq 2 zy (zb (zc 1) (zb (zn x5 (zn x5 (eC (.int 140)) (zn vN (eC (.int 9)) (zc 7))) (zc 9)) zr))) (eC (.int 3))))) zr)) (visG [.v script,.v (.int z),.v (zx m ts),.v (.tup (hs.map .int)),.v (.int p),.v (.int M),.v (.tup (cs.map .int)),.v (.int x),.o (ps.map .int),.v (.int k),.v (.int y),o11])=some (.int v):=by
    refine zgx (ds:=[.int 0,.int (vAt ps y+u)]) (xV rfl (xV (zJ (x:=.int (vAt ps y)) (y:=.int u) (zJ (x:=.lst (ps.map .int)) (y:=.int y) rfl rfl ey) (zJ (x:=.lst [.int 1,.int (-1),.int 2]) (y:=.int q3) (Xz (ziw rfl (by show 3<=1000;decide))) (zJ (x:=.int (ZQ z (140+9*x+k))) (y:=.int 3) (wK (ds:=[.int z,.int (140+9*x+k)]) (xV rfl (xV (zJ (x:=.int (140+9*x)) (y:=.int k) (zJ (x:=.int 140) (y:=.int (9*x)) rfl (zJ (x:=.int 9) (y:=.int x) rfl rfl m9) rfl) rfl rfl) ZY)) (es _)) rfl ?_) hu) rfl) ZY)) emx
    rw[yt (by decide),hq3]
   unfold vEv
   rw[u8 rfl,e]
   rfl
  .rw[u2a];rfl
  .rcases u1l hw with h | h
   .exact hpn w h
   .rw[h];exact hv0
 rintro ρ ⟨ps,o9,o10,rfl,hpl,hpn⟩
 refine zel (ρ':=[.v script,.v (.int z),.v (zx m ts),.v (.tup (hs.map .int)),.v (.int p),.v (.int M),.v (.tup (cs.map .int)),.v (.int x),.v (.lst (ps.map .int)),o9,o10,o11]) rfl ?_
 have eh:=YA (d:=.tup (ps.map .int)) ok hj T.tl hp T.hks T.hkl hl hnn hsum (VA ps)
 rw[XX hpl hpn]at eh
 refine VF (c:=zbD m ts ks hs ps p m.toNat) (VR (zJ (x:=.bl (zbD m ts ks hs ps p m.toNat)) (y:=.bl true) (wK (ds:=[zx m ts,.tup (hs.map .int),.int p,.tup (ps.map .int)]) rfl eh) rfl (zm6 _))) (λhc=>?_) (λ_=>Zw rfl (hI _ _ _ _))
 have G:=zjs hpl (zdY hpn) hc
 have le:∀ k:Nat,(k:Int) < m->vAt cs (k:Int)<=vAt ps (k:Int):=λk hk=>zc3 T G m.toNat k hk (by have:=(T.hb (k:Int) (by omega) hk).1;omega)
 refine zA (ρ':=[.v script,.v (.int z),.v (zx m ts),.v (.tup (hs.map .int)),.v (.int p),.v (.int M),.v (.tup (cs.map .int)),.v (.int x),.v (.lst (ps.map .int)),o9,o10,.v (.lst [])]) (zly (Xz ?_)) ?_
 .unfold fLC
  rw[show Wp wB (zb (zn ixD (zc 2) (eC (.int 0))) zr) (visF [.v script,.v (.int z),.v (zx m ts),.v (.tup (hs.map .int)),.v (.int p),.v (.int M),.v (.tup (cs.map .int)),.v (.int x),.v (.lst (ps.map .int)),o9,o10,o11])=some (Z4 0 m.toNat)from Xb ok,p9,u8 (wn (by rw[YR];omega))]
  have e0:(List.range m.toNat).filter (λ_:Nat=>false)=[]:=by
   refine List.filter_eq_nil_iff.mpr λ_ _=>?_
   exact u4
  have:=Yr (b:=b1) (t:=tOf (zn ltD (zn ixD (zc 9) (zc 0)) (zn ixD (zc 7) (zc 0)))) (f:=zc 0) (ρ:=visF [.v script,.v (.int z),.v (zx m ts),.v (.tup (hs.map .int)),.v (.int p),.v (.int M),.v (.tup (cs.map .int)),.v (.int x),.v (.lst (ps.map .int)),o9,o10,o11]) wd (λ_:Nat=>false) wd (List.range m.toNat) λk hk=>⟨[some (wd k)],rfl,by
   have hk:=i5.mp hk
   have hkm:(k:Int) < m:=by omega
   have e1:=Xy (ns:=ps) (W1 hkm) hpl
   have e2:=Xy (ns:=cs) (W1 hkm) hcl
   rw[u18]at e1 e2
   have hn:wd k=.int (k:Int):=by show D.int (0+(k:Int))=_;rw[u18]
   rw[hn]
   refine VR (zJ (x:=.int (vAt ps (k:Int))) (y:=.int (vAt cs (k:Int))) (zJ (x:=.lst (ps.map .int)) (y:=.int (k:Int)) rfl rfl e1) (zJ (x:=.tup (cs.map .int)) (y:=.int (k:Int)) rfl rfl e2) ?_)
   show some (D.bl (decide (vAt ps (k:Int) < vAt cs (k:Int))))=_
   rw[p6 (by have:=le k hkm;omega)],λh=>by cases h⟩
  rw[e0]at this
  exact this
 have ep:L2.atI (ps.map D.int) p=some (.int (vAt ps p)):=Xy (ns:=ps) hp hpl
 have lp:=le p.toNat (by omega)
 rw[show((p.toNat:Nat):Int)=p by omega]at lp
 refine VF (c:=false) (zij (VR (zJ (x:=.int (vAt ps p)) (y:=.int M) (zJ (x:=.lst (ps.map .int)) (y:=.int p) rfl rfl ep) rfl ?_)) (VR (zJ (x:=.lst []) (y:=.lst []) rfl rfl zjh))) (λz=>by cases z) (λ_=>Zw rfl (hI _ _ _ _))
 show some (D.bl (decide (vAt ps p < M)))=_
 rw[p6 (by omega)]
theorem zem {s:Nat}{m:Nat}(hs:s<=8)(hm:m<=6):(s+1) ^ m < 5000000:=by
 have h1:(s+1) ^ m<=9 ^ m:=Nat.pow_le_pow_left (by omega) m
 have h2:9 ^ m<=9 ^ 6:=Nat.pow_le_pow_right (by decide) hm
 have h3:9 ^ 6 < 5000000:=by decide
 omega
theorem zjU (script:D)(z:Int)(o2 o3 o4 o5 o6 o7 o8 o9 o10 o11:Sl)(n b:SE->Prop)(r:D->Prop)(I:SE->Prop)(hI:∀ o2 o3 o4 o5 o6 o7 o8 o9 o10 o11,I [.v script,.v (.int z),o2,o3,o4,o5,o6,o7,o8,o9,o10,o11]):(Vd [.v script,.v (.int z),o2,o3,o4,o5,o6,o7,o8,o9,o10,o11]).w I b n r:=by
 obtain⟨ts,ew,ok,hj,htl⟩:=zdp (c:=z) (mo:=6) (by decide) (by decide)
 obtain⟨m,hm⟩:∃ m:Int,1+z % 6=m:=⟨_,rfl⟩
 have hm6:m<=6:=by omega
 rw[hm]at ew ok hj htl
 have hm1:=ok.lo
 have hm8:=ok.hi
 have h28:ts.length<=28:=by omega
 have hm0:0 < m:=zba hm1
 obtain⟨p,hpp⟩:∃ p:Int,ZQ z 1 % m=p:=⟨_,rfl⟩
 have hp:=xD hm0 hpp
 obtain⟨hs,eh,hl,hnn,hsum⟩:=zbk (n:=m) (c:=ZQ z 2) (mo:=8) (by omega) (by omega) (by decide) (by decide)
 obtain⟨ks,hks,hkl⟩:=zcd hj hp
 have hb:=zkl ok hp hks hkl
 obtain⟨cs,ec,hcl,hE⟩:=Vc (hs:=hs) ok hp hks hkl hl
 have T:Va m ts ks cs hs p:=⟨ok,htl,hp,hks,hkl,hb,zdY hnn,hE⟩
 have ecc:=zdw ok hj htl hp hl hnn (by omega) ec
 have G:=WS T hcl
 have s0:=zai hnn
 obtain⟨M,eM,⟨g,hg,hgM⟩,hup⟩:=W9 ok h28 hl hnn (zem (by omega) (by omega)) hp
 obtain⟨L,_,hR⟩:=XY ok hp hks hkl
 obtain⟨pl,pr⟩:=zhm T hR hl
 have hM:M=vAt cs p:=by
  have a1:=hup _ (zhe ok _ hs .zero pl)
  have a2:=zbS ok htl hp hks hkl hb hl G hg
  omega
 have eh2:=YA (d:=.tup (cs.map .int)) ok hj htl hp hks hkl hl hnn (by omega) (VA cs)
 rw[XX hcl (zeW G.nn),zco.mpr λx hx=>G.hold x (by omega)]at eh2
 have e2:L2.atI (cs.map D.int) p=some (.int (vAt cs p)):=Xy (ns:=cs) hp hcl
 unfold Vd
 refine zA (ρ':=[.v script,.v (.int z),.v (zx m ts),o3,o4,o5,o6,o7,o8,o9,o10,o11]) (yi ew) ?_
 refine zA (ρ':=[.v script,.v (.int z),.v (zx m ts),.v (.tup (hs.map .int)),o4,o5,o6,o7,o8,o9,o10,o11]) (yi eh) ?_
 refine zA (ρ':=[.v script,.v (.int z),.v (zx m ts),.v (.tup (hs.map .int)),.v (.int p),o5,o6,o7,o8,o9,o10,o11]) (yi (show xK (.int (ZQ z 1)) (.int m)=some (.int p) by rw[yt hm0,hpp])) ?_
 refine zA (ρ':=[.v script,.v (.int z),.v (zx m ts),.v (.tup (hs.map .int)),.v (.int p),.v (.int M),o6,o7,o8,o9,o10,o11]) (YU (ds:=[zx m ts,hD hs,.int p]) rfl eM) ?_
 refine zA (ρ':=[.v script,.v (.int z),.v (zx m ts),.v (.tup (hs.map .int)),.v (.int p),.v (.int M),.v (.tup (cs.map .int)),o7,o8,o9,o10,o11]) (YU (ds:=[_,_,_]) rfl ecc) ?_
 refine xw (VF (c:=false) (zij (VR (zJ (x:=.int (vAt cs p)) (y:=.int M) (zJ (x:=.tup (cs.map .int)) (y:=.int p) rfl rfl e2) rfl (by rw[xj,d4 hM.symm];rfl))) (VR (zJ (x:=.bl true) (y:=.bl true) (wK (ds:=[zx m ts,.tup (hs.map .int),.int p,.tup (cs.map .int)]) rfl eh2) rfl rfl))) (λz=>by cases z) (λ_=>Zw rfl ?_))
 refine ZR (lo:=0) (c:=8) (λi ρ=>∃ o7 o8 o9 o10 o11,ρ=[.v script,.v (.int z),.v (zx m ts),.v (.tup (hs.map .int)),.v (.int p),.v (.int M),.v (.tup (cs.map .int)),o7,o8,o9,o10,o11]) (wV (j:=8) (by decide) (by decide)) ⟨_,_,_,_,_,rfl⟩ ?_ ?_
 .rintro i ρ hi ⟨o7,o8,o9,o10,o11,rfl⟩
  refine⟨[.v script,.v (.int z),.v (zx m ts),.v (.tup (hs.map .int)),.v (.int p),.v (.int M),.v (.tup (cs.map .int)),.v (.int (0+(i:Int))),o8,o9,o10,o11],rfl,?_⟩
  exact zjE _ _ _ _ _ _ _ _ _ _ _ _ _ _ T hj hl hnn (by omega) hcl hM _ _ _ _ λ_ _ _ _=>⟨_,_,_,_,_,rfl⟩
 .rintro ρ ⟨o7,o8,o9,o10,o11,rfl⟩
  exact hI _ _ _ _ _ _ _ _ _ _
theorem zgK:∀ ns:List Int,ns.length<=63->zlN [.scr ns]=some (.bl true):=by
 intro ns hns
 refine WK (ρ:=[.v (.scr ns),.no,.no,.no,.no,.no,.no,.no,.no,.no,.no,.no]) rfl ?_
 unfold zgy
 obtain⟨xs,hxs⟩:=zhg (ρ:=[none,none,none,none,none,none,none,none,none,none,none]) ns 4 hns
 refine xw (zc5 (ds:=xs.map .int) (λi ρ=>∃ o1 o2 o3 o4 o5 o6 o7 o8 o9 o10 o11,ρ=[.v (.scr ns),o1,o2,o3,o4,o5,o6,o7,o8,o9,o10,o11]) hxs ⟨_,_,_,_,_,_,_,_,_,_,_,rfl⟩ ?_ ?_)
 .rintro i d ρ hd ⟨o1,o2,o3,o4,o5,o6,o7,o8,o9,o10,o11,rfl⟩
  rw[j9]at hd
  obtain⟨z,hz,rfl⟩:=t8.mp hd
  exact⟨_,rfl,zjU _ _ _ _ _ _ _ _ _ _ _ _ _ _ _ _ λ_ _ _ _ _ _ _ _ _ _=>⟨_,_,_,_,_,_,_,_,_,_,_,rfl⟩⟩
 .rintro ρ ⟨o1,o2,o3,o4,o5,o6,o7,o8,o9,o10,o11,rfl⟩
  exact ZI rfl rfl
theorem zlE (T:Txt K mg base ad):xo P w K mg base CX0 30 ad.f_law ad.e_law ["script"] (zfh K):=by
 letI:KK:=⟨K⟩
 have G_carries:=zdv (P:=P) (w:=w) (base:=base) T
 have G_carry_holds:=Wt (P:=P) (w:=w) (base:=base) T
 have G__law_cell_at:=XH (P:=P) (w:=w) (base:=base) T
 have G__law_stir:=Yd (P:=P) (w:=w) (base:=base) T
 have G__law_tree_by:=Wg (P:=P) (w:=w) (base:=base) T
 have G__law_heap_by:=Wj (P:=P) (w:=w) (base:=base) T
 have G__law_most_there:=Y0 (P:=P) (w:=w) (base:=base) T
 refine(zkk (p:=zlN) (yR (N:=["script","cell","web","heap","root","most","least","turn","paper","k","at","less"]) (ps:=["script"]) T.d_law.fn vH (g:=zgy) λcdv A outer s H E hr=>?_) zgK).mono (j:=14) (by decide)
 unfold zgy Vd W8 zbw
 exact(zd (WW u0a rfl (Ze (yf (vM (wC (za (zj G__law_cell_at hr rfl T.d__law_cell_at (za (edv 0) (za (zg zh) ze))) ze))) (zgm (edv 0) (zeo (zg zh)) (zeo (zg zh))))) (yK (zI (i:=1) vH.nd rfl (Or.inl rfl))) (zd (zX (m:=false) (i:=2) vH.nd rfl (Or.inl rfl) (zj G__law_tree_by hr rfl T.d__law_tree_by (za (edv 1) (za (zg zh) ze))))
  (zd (zX (m:=false) (i:=3) vH.nd rfl (Or.inl rfl) (zj G__law_heap_by hr rfl T.d__law_heap_by (za (zF (edv 2) (zg zh) (λ_ _=>rfl)) (za (zj G__law_stir hr rfl T.d__law_stir (za (edv 1) (za (zg zh) ze))) (za (zg zh) ze)))))
  (zd (zX (m:=false) (i:=4) vH.nd rfl (Or.inl rfl) (xL (zj G__law_stir hr rfl T.d__law_stir (za (edv 1) (za (zg zh) ze))) (zF (edv 2) (zg zh) (λ_ _=>rfl))))
  (zd (zX (m:=false) (i:=5) vH.nd rfl (Or.inl rfl) (zj G__law_most_there hr rfl T.d__law_most_there (za (edv 2) (za (edv 3) (za (edv 4) ze)))))
  (zd (zX (m:=false) (i:=6) vH.nd rfl (Or.inr rfl) (zj G_carries hr rfl T.d_carries (za (edv 2) (za (edv 3) (za (edv 4) ze)))))
  (zd (wA (zh7 (zdx (zV zfv zal (zN _) (zF (edv 6) (edv 4) (λ_ _=>rfl)) (edv 5)) (WH (zV zaI WN (zN _) (zj G_carry_holds hr rfl T.d_carry_holds (za (edv 2) (za (edv 3) (za (edv 4) (za (edv 6) ze))))) (vU v9))))) (zi (zE (vU v9))) zP)
  (zi (vw u0a rfl rfl T.z_range (za (zg zh) ze) (yK (zI (i:=7) vH.nd rfl (Or.inl rfl))) (zd (v4 (i:=8) vH.nd rfl (Or.inr rfl) (zfl rfl T.z_list (za (edv 6) ze)))
  (zd (vw u0a rfl rfl T.z_range (za (yf (zg zh) (xL (zj G__law_stir hr rfl T.d__law_stir (za (edv 1) (za (yf (zg zh) (edv 7)) ze))) (zg zh))) ze) (yK (zI (i:=9) vH.nd rfl (Or.inl rfl))) (zd (zX (m:=false) (i:=10) vH.nd rfl (Or.inl rfl) (xL (zj G__law_stir hr rfl T.d__law_stir (za (edv 1) (za (yf (yf (zg zh) (ZU (zg zh) (edv 7))) (edv 9)) ze))) (zF (edv 2) (zg zh) (λ_ _=>rfl))))
  (zi (XE (m:=true) (zR (Zk rfl) Xn rfl T.z_max zao (za (zg zh) (za (yf (zF (edv 8) (edv 10) (λ_ _=>rfl)) (zF (vM (wC (za (zg zh) (za (zlm (zg zh)) (za (zg zh) ze))))) (xL (zj G__law_stir hr rfl T.d__law_stir (za (edv 1) (za (yf (yf (zg zh) (ZU (zg zh) (edv 7))) (edv 9)) ze))) (zg zh)) (λ_ _=>rfl))) ze))) (pv 8) (edv 10)))))
  (Yf 8 (zi (wA (zV zhT zdI (zN _) (zj G_carry_holds hr rfl T.d_carry_holds (za (edv 2) (za (edv 3) (za (edv 4) (za (xm zK xn rfl T.z_tuple yF (za (edv 8) ze)) ze))))) (vU v9)) (zd (zi8 (m:=false) (i:=11) (zjP (L:=["k"]) (M:=["script","cell","web","heap","root","most","least","turn","paper","·k","at","less"]) vH.nd rfl (Or.inl rfl) rfl (ZT (by rfl) (by rfl) (by rfl) (by with_unfolding_all rfl) (by rfl) (by rfl) (by kernel_rfl) (all_cons rfl (all_cons rfl vm))) (Wh rfl T.z_range (za (zF (edv 2) (zg zh) (λ_ _=>rfl)) ze)) gs1 rb1 (λ_ _ _ _=>(zI (i:=0) zmJ rfl (Or.inl rfl) (.inr rfl))) (λ_ _ _ _=>(zV zjr yj (zN _) (zF (edv 9) (edv 0) (λ_ _=>rfl)) (zF (edv 7) (edv 0) (λ_ _=>rfl)))) (λ_ _ _ _=>(edv 0))))
  (zi (wA (zh7 (zdx (zV zjr yj (zN _) (zF (edv 8) (edv 4) (λ_ _=>rfl)) (edv 5)) (WH (zV (zid hr) zf1 (zN _) (edv 11) (vM (wC ze)))))) (zi (zE (vU v9))) zP))) zP))))))))))))))
  (zi (zE (vU v9))))
end
theorem zmF {us:List Value}(h:us.length=1):∃ x0,us=[x0]:=by
 cases us with
 | nil=>cases h
 | cons x0 us =>
  cases us with
  | nil=>exact⟨x0,rfl⟩
  | cons _ _=>cases h
theorem znb {us:List Value}(h:us.length=2):∃ x0 x1,us=[x0,x1]:=by
 cases us with
 | nil=>cases h
 | cons x0 us =>
  cases us with
  | nil=>cases h
  | cons x1 us =>
   cases us with
   | nil=>exact⟨x0,x1,rfl⟩
   | cons _ _=>cases h
theorem zmt {us:List Value}(h:us.length=3):∃ x0 x1 x2,us=[x0,x1,x2]:=by
 cases us with
 | nil=>cases h
 | cons x0 us =>
  cases us with
  | nil=>cases h
  | cons x1 us =>
   cases us with
   | nil=>cases h
   | cons x2 us =>
    cases us with
    | nil=>exact⟨x0,x1,x2,rfl⟩
    | cons _ _=>cases h
theorem zmw {us:List Value}(h:us.length=4):∃ x0 x1 x2 x3,us=[x0,x1,x2,x3]:=by
 cases us with
 | nil=>cases h
 | cons x0 us =>
  cases us with
  | nil=>cases h
  | cons x1 us =>
   cases us with
   | nil=>cases h
   | cons x2 us =>
    cases us with
    | nil=>cases h
    | cons x3 us =>
     cases us with
     | nil=>exact⟨x0,x1,x2,x3,rfl⟩
     | cons _ _=>cases h
abbrev Lk (x:Str)(st:Stmt)(oc:Value)(od:Option Addr)(kV dc pm:Value)(an:Option Addr)(cd ct:Value)(sl:Array (Option Value)):Option Obj:=some ⟨oc,od,.func (W.fnOf x x (YK st) (wq st) (zk st) .none kV dc pm an cd ct),sl⟩
theorem mkD {K:W.Frag}{h:Heap}{mg:Str->Option Value}{x:Str}{st:Stmt}{ps:List Str}{f:Addr}{oc kV dc pm cd ct:Value}{od an:Option Addr}{sl:Array (Option Value)}(X:K.In h)(G:h.Ns mainGlobals mg)(a:W.nsIn K mainGlobals x=some (some (.ref f)))(l:K.lookup f=Lk x st oc od kV dc pm an cd ct sl)(c:W.codeIn K cd x=true)(k:W.keepIn K (.ref f)=true)
 (b:∀ (kV doc pm:Value) (an:Option Addr) (cdv ct:Value) (us:List Value),us.length=ps.length->bindArgs (W.fnOf x x (YK st) (wq st) (zk st) .none kV doc pm an cdv ct) ⟨us,[]⟩=pure (ps.zip us)):Def K mg x st ps f (W.fnOf x x (YK st) (wq st) (zk st) .none kV dc pm an cd ct):=⟨zh4 l c k,(zh4 l c k).binds b,u3i X G a⟩
theorem bn1 {F:Value->Value->Value->Option Addr->Value->Value->List Value->Prop}(h:∀ a b c d e f x0,F a b c d e f [x0]):∀ a b c d e f us,us.length=1->F a b c d e f us:=λa b c d e f us hl=>by obtain⟨x0,rfl⟩:=zmF hl;exact h a b c d e f x0
theorem bn2 {F:Value->Value->Value->Option Addr->Value->Value->List Value->Prop}(h:∀ a b c d e f x0 x1,F a b c d e f [x0,x1]):∀ a b c d e f us,us.length=2->F a b c d e f us:=λa b c d e f us hl=>by obtain⟨x0,x1,rfl⟩:=znb hl;exact h a b c d e f x0 x1
theorem bn3 {F:Value->Value->Value->Option Addr->Value->Value->List Value->Prop}(h:∀ a b c d e f x0 x1 x2,F a b c d e f [x0,x1,x2]):∀ a b c d e f us,us.length=3->F a b c d e f us:=λa b c d e f us hl=>by obtain⟨x0,x1,x2,rfl⟩:=zmt hl;exact h a b c d e f x0 x1 x2
theorem bn4 {F:Value->Value->Value->Option Addr->Value->Value->List Value->Prop}(h:∀ a b c d e f x0 x1 x2 x3,F a b c d e f [x0,x1,x2,x3]):∀ a b c d e f us,us.length=4->F a b c d e f us:=λa b c d e f us hl=>by obtain⟨x0,x1,x2,x3,rfl⟩:=zmw hl;exact h a b c d e f x0 x1 x2 x3
theorem all_mk {l:W.OpenLaw} {w:World} {K:W.Frag} {h:Heap} {mg:Str->Option Value} {fa f0 f1 f2 f3 f4 f5 f6 f7 f8 f9 f10 f11 f12 f13 f14 f15 f16 f17 f18 f19 f20 f21 f22 f23 f24 f25 f26 f27 f28 f29 f30 f31 f32:Addr} (X:K.In h) (G:h.Ns mainGlobals mg) (hfa:mg "law"=some (.ref fa))
 {od0 an0 od1 an1 od2 an2 od3 an3 od4 an4 od5 an5 od6 an6 od7 an7 od8 an8 od9 an9 od10 an10 od11 an11 od12 an12 od13 an13 od14 an14 od15 an15 od16 an16 od17 an17 od18 an18 od19 an19 od20 an20 od21 an21 od22 an22 od23 an23 od24 an24 od25 an25 od26 an26 od27 an27 od28 an28 od29 an29 od30 an30 od31 an31 od32 an32:Option Addr} {sl0 sl1 sl2 sl3 sl4 sl5 sl6 sl7 sl8 sl9 sl10 sl11 sl12 sl13 sl14 sl15 sl16 sl17 sl18 sl19 sl20 sl21 sl22 sl23 sl24 sl25 sl26 sl27 sl28 sl29 sl30 sl31 sl32:Array (Option Value)} {oc0 kV0 dc0 pm0 ct0 cd0 oc1 kV1 dc1 pm1 ct1 cd1 oc2 kV2 dc2 pm2 ct2 cd2 oc3 kV3 dc3 pm3 ct3 cd3 oc4 kV4 dc4 pm4 ct4 cd4 oc5 kV5 dc5 pm5 ct5 cd5 oc6 kV6 dc6 pm6 ct6 cd6 oc7 kV7 dc7 pm7 ct7 cd7 oc8 kV8 dc8 pm8 ct8 cd8 oc9 kV9 dc9 pm9 ct9 cd9 oc10 kV10 dc10 pm10 ct10 cd10 oc11 kV11 dc11 pm11 ct11 cd11 oc12 kV12 dc12 pm12 ct12 cd12 oc13 kV13 dc13 pm13 ct13 cd13 oc14 kV14 dc14 pm14 ct14 cd14 oc15 kV15 dc15 pm15 ct15 cd15 oc16 kV16 dc16 pm16 ct16 cd16 oc17 kV17 dc17 pm17 ct17 cd17 oc18 kV18 dc18 pm18 ct18 cd18 oc19 kV19 dc19 pm19 ct19 cd19 oc20 kV20 dc20 pm20 ct20 oc21 kV21 dc21 pm21 ct21 cd21 oc22 kV22 dc22 pm22 ct22 cd22 oc23 kV23 dc23 pm23 ct23 cd23 oc24 kV24 dc24 pm24 ct24 cd24 oc25 kV25 dc25 pm25 ct25 cd25 oc26 kV26 dc26 pm26 ct26 cd26 oc27 kV27 dc27 pm27 ct27 cd27 oc28 kV28 dc28 pm28 ct28 cd28 oc29 kV29 dc29 pm29 ct29 cd29 oc30 kV30 dc30 pm30 ct30 cd30 oc31 kV31 dc31 pm31 ct31 cd31 oc32 kV32 dc32 pm32 ct32 cd32:Value} {tk0:Tok} {tk1:Tok}
 {cc0 pp0:Addr}
 (a0:W.nsIn K mainGlobals "is_whole"=some (some (.ref f0))) (l0:K.lookup f0=Lk "is_whole" YL oc0 od0 kV0 dc0 pm0 an0 cd0 ct0 sl0) (c0:W.codeIn K cd0 "is_whole"=true) (k0:W.keepIn K (.ref f0)=true)
 (a1:W.nsIn K mainGlobals "is_whole_within"=some (some (.ref f1))) (l1:K.lookup f1=Lk "is_whole_within" xg oc1 od1 kV1 dc1 pm1 an1 cd1 ct1 sl1) (c1:W.codeIn K cd1 "is_whole_within"=true) (k1:W.keepIn K (.ref f1)=true)
 (a2:W.nsIn K mainGlobals "is_place_count"=some (some (.ref f2))) (l2:K.lookup f2=Lk "is_place_count" xr oc2 od2 kV2 dc2 pm2 an2 cd2 ct2 sl2) (c2:W.codeIn K cd2 "is_place_count"=true) (k2:W.keepIn K (.ref f2)=true)
 (a3:W.nsIn K mainGlobals "is_place"=some (some (.ref f3))) (l3:K.lookup f3=Lk "is_place" YH oc3 od3 kV3 dc3 pm3 an3 cd3 ct3 sl3) (c3:W.codeIn K cd3 "is_place"=true) (k3:W.keepIn K (.ref f3)=true)
 (a4:W.nsIn K mainGlobals "are_counts"=some (some (.ref f4))) (l4:K.lookup f4=Lk "are_counts" vg oc4 od4 kV4 dc4 pm4 an4 cd4 ct4 sl4) (c4:W.codeIn K cd4 "are_counts"=true) (k4:W.keepIn K (.ref f4)=true)
 (a5:W.nsIn K mainGlobals "is_pair"=some (some (.ref f5))) (l5:K.lookup f5=Lk "is_pair" Zx oc5 od5 kV5 dc5 pm5 an5 cd5 ct5 sl5) (c5:W.codeIn K cd5 "is_pair"=true) (k5:W.keepIn K (.ref f5)=true)
 (a6:W.nsIn K mainGlobals "are_ties"=some (some (.ref f6))) (l6:K.lookup f6=Lk "are_ties" YQ oc6 od6 kV6 dc6 pm6 an6 cd6 ct6 sl6) (c6:W.codeIn K cd6 "are_ties"=true) (k6:W.keepIn K (.ref f6)=true)
 (a7:W.nsIn K mainGlobals "is_web"=some (some (.ref f7))) (l7:K.lookup f7=Lk "is_web" Wf oc7 od7 kV7 dc7 pm7 an7 cd7 ct7 sl7) (c7:W.codeIn K cd7 "is_web"=true) (k7:W.keepIn K (.ref f7)=true)
 (a8:W.nsIn K mainGlobals "must_be_web"=some (some (.ref f8))) (l8:K.lookup f8=Lk "must_be_web" wR oc8 od8 kV8 dc8 pm8 an8 cd8 ct8 sl8) (c8:W.codeIn K cd8 "must_be_web"=true) (k8:W.keepIn K (.ref f8)=true)
 (a9:W.nsIn K mainGlobals "must_be_place"=some (some (.ref f9))) (l9:K.lookup f9=Lk "must_be_place" xO oc9 od9 kV9 dc9 pm9 an9 cd9 ct9 sl9) (c9:W.codeIn K cd9 "must_be_place"=true) (k9:W.keepIn K (.ref f9)=true)
 (a10:W.nsIn K mainGlobals "tie_between"=some (some (.ref f10))) (l10:K.lookup f10=Lk "tie_between" wP oc10 od10 kV10 dc10 pm10 an10 cd10 ct10 sl10) (c10:W.codeIn K cd10 "tie_between"=true) (k10:W.keepIn K (.ref f10)=true)
 (a11:W.nsIn K mainGlobals "neighbours"=some (some (.ref f11))) (l11:K.lookup f11=Lk "neighbours" vp oc11 od11 kV11 dc11 pm11 an11 cd11 ct11 sl11) (c11:W.codeIn K cd11 "neighbours"=true) (k11:W.keepIn K (.ref f11)=true)
 (a12:W.nsIn K mainGlobals "ties_away"=some (some (.ref f12))) (l12:K.lookup f12=Lk "ties_away" vW oc12 od12 kV12 dc12 pm12 an12 cd12 ct12 sl12) (c12:W.codeIn K cd12 "ties_away"=true) (k12:W.keepIn K (.ref f12)=true)
 (a13:W.nsIn K mainGlobals "pieces"=some (some (.ref f13))) (l13:K.lookup f13=Lk "pieces" XO oc13 od13 kV13 dc13 pm13 an13 cd13 ct13 sl13) (c13:W.codeIn K cd13 "pieces"=true) (k13:W.keepIn K (.ref f13)=true)
 (a14:W.nsIn K mainGlobals "is_joined"=some (some (.ref f14))) (l14:K.lookup f14=Lk "is_joined" Yc oc14 od14 kV14 dc14 pm14 an14 cd14 ct14 sl14) (c14:W.codeIn K cd14 "is_joined"=true) (k14:W.keepIn K (.ref f14)=true)
 (a15:W.nsIn K mainGlobals "is_tree"=some (some (.ref f15))) (l15:K.lookup f15=Lk "is_tree" ZF oc15 od15 kV15 dc15 pm15 an15 cd15 ct15 sl15) (c15:W.codeIn K cd15 "is_tree"=true) (k15:W.keepIn K (.ref f15)=true)
 (a16:W.nsIn K mainGlobals "are_stones"=some (some (.ref f16))) (l16:K.lookup f16=Lk "are_stones" vF oc16 od16 kV16 dc16 pm16 an16 cd16 ct16 sl16) (c16:W.codeIn K cd16 "are_stones"=true) (k16:W.keepIn K (.ref f16)=true)
 (a17:W.nsIn K mainGlobals "must_be_heap"=some (some (.ref f17))) (l17:K.lookup f17=Lk "must_be_heap" wu oc17 od17 kV17 dc17 pm17 an17 cd17 ct17 sl17) (c17:W.codeIn K cd17 "must_be_heap"=true) (k17:W.keepIn K (.ref f17)=true)
 (a18:W.nsIn K mainGlobals "must_be_tree"=some (some (.ref f18))) (l18:K.lookup f18=Lk "must_be_tree" wt oc18 od18 kV18 dc18 pm18 an18 cd18 ct18 sl18) (c18:W.codeIn K cd18 "must_be_tree"=true) (k18:W.keepIn K (.ref f18)=true)
 (a19:W.nsIn K mainGlobals "outer_neighbours"=some (some (.ref f19))) (l19:K.lookup f19=Lk "outer_neighbours" yX oc19 od19 kV19 dc19 pm19 an19 cd19 ct19 sl19) (c19:W.codeIn K cd19 "outer_neighbours"=true) (k19:W.keepIn K (.ref f19)=true)
 (a20:W.nsIn K mainGlobals "outwards"=some (some (.ref f20))) (l20:K.lookup f20=Lk "outwards" YD oc20 od20 kV20 dc20 pm20 an20 (.ref cc0) ct20 sl20) (c20:W.codeIn K (.ref cc0) "outwards"=true) (k20:W.keepIn K (.ref f20)=true)
 (a21:W.nsIn K mainGlobals "must_be_rooted"=some (some (.ref f21))) (l21:K.lookup f21=Lk "must_be_rooted" xz oc21 od21 kV21 dc21 pm21 an21 cd21 ct21 sl21) (c21:W.codeIn K cd21 "must_be_rooted"=true) (k21:W.keepIn K (.ref f21)=true)
 (a22:W.nsIn K mainGlobals "gathered"=some (some (.ref f22))) (l22:K.lookup f22=Lk "gathered" YI oc22 od22 kV22 dc22 pm22 an22 cd22 ct22 sl22) (c22:W.codeIn K cd22 "gathered"=true) (k22:W.keepIn K (.ref f22)=true)
 (a23:W.nsIn K mainGlobals "carried_to"=some (some (.ref f23))) (l23:K.lookup f23=Lk "carried_to" vD oc23 od23 kV23 dc23 pm23 an23 cd23 ct23 sl23) (c23:W.codeIn K cd23 "carried_to"=true) (k23:W.keepIn K (.ref f23)=true)
 (a24:W.nsIn K mainGlobals "carries"=some (some (.ref f24))) (l24:K.lookup f24=Lk "carries" Zr oc24 od24 kV24 dc24 pm24 an24 cd24 ct24 sl24) (c24:W.codeIn K cd24 "carries"=true) (k24:W.keepIn K (.ref f24)=true)
 (a25:W.nsIn K mainGlobals "carry_holds"=some (some (.ref f25))) (l25:K.lookup f25=Lk "carry_holds" wQ oc25 od25 kV25 dc25 pm25 an25 cd25 ct25 sl25) (c25:W.codeIn K cd25 "carry_holds"=true) (k25:W.keepIn K (.ref f25)=true)
 (a26:W.nsIn K mainGlobals "_law_cell_at"=some (some (.ref f26))) (l26:K.lookup f26=Lk "_law_cell_at" wl oc26 od26 kV26 dc26 pm26 an26 cd26 ct26 sl26) (c26:W.codeIn K cd26 "_law_cell_at"=true) (k26:W.keepIn K (.ref f26)=true)
 (a27:W.nsIn K mainGlobals "_law_stir"=some (some (.ref f27))) (l27:K.lookup f27=Lk "_law_stir" vV oc27 od27 kV27 dc27 pm27 an27 cd27 ct27 sl27) (c27:W.codeIn K cd27 "_law_stir"=true) (k27:W.keepIn K (.ref f27)=true)
 (a28:W.nsIn K mainGlobals "_law_tree_by"=some (some (.ref f28))) (l28:K.lookup f28=Lk "_law_tree_by" wz oc28 od28 kV28 dc28 pm28 an28 cd28 ct28 sl28) (c28:W.codeIn K cd28 "_law_tree_by"=true) (k28:W.keepIn K (.ref f28)=true)
 (a29:W.nsIn K mainGlobals "_law_heap_by"=some (some (.ref f29))) (l29:K.lookup f29=Lk "_law_heap_by" wv oc29 od29 kV29 dc29 pm29 an29 cd29 ct29 sl29) (c29:W.codeIn K cd29 "_law_heap_by"=true) (k29:W.keepIn K (.ref f29)=true)
 (a30:W.nsIn K mainGlobals "_law_behind"=some (some (.ref f30))) (l30:K.lookup f30=Lk "_law_behind" wO oc30 od30 kV30 dc30 pm30 an30 cd30 ct30 sl30) (c30:W.codeIn K cd30 "_law_behind"=true) (k30:W.keepIn K (.ref f30)=true)
 (a31:W.nsIn K mainGlobals "_law_most_there"=some (some (.ref f31))) (l31:K.lookup f31=Lk "_law_most_there" xa oc31 od31 kV31 dc31 pm31 an31 cd31 ct31 sl31) (c31:W.codeIn K cd31 "_law_most_there"=true) (k31:W.keepIn K (.ref f31)=true)
 (a32:W.nsIn K mainGlobals "law"=some (some (.ref f32))) (l32:K.lookup f32=Lk "law" zeD oc32 od32 kV32 dc32 pm32 an32 cd32 ct32 sl32) (c32:W.codeIn K cd32 "law"=true) (k32:W.keepIn K (.ref f32)=true)
 (gg0:W.nsIn K mainGlobals "MOST_PLACES"=some (some (.int 8 tk0)))
 (gg1:W.nsIn K mainGlobals "MOST_STONES"=some (some (.int 300 tk1)))
 (z0:W.nsIn K mainGlobals "all"=some none)
 (z1:W.nsIn K mainGlobals "bool"=some none)
 (z2:W.nsIn K mainGlobals "enumerate"=some none)
 (z3:W.nsIn K mainGlobals "int"=some none)
 (z4:W.nsIn K mainGlobals "isinstance"=some none)
 (z5:W.nsIn K mainGlobals "len"=some none)
 (z6:W.nsIn K mainGlobals "list"=some none)
 (z7:W.nsIn K mainGlobals "max"=some none)
 (z8:W.nsIn K mainGlobals "min"=some none)
 (z9:W.nsIn K mainGlobals "range"=some none)
 (z10:W.nsIn K mainGlobals "reversed"=some none)
 (z11:W.nsIn K mainGlobals "sorted"=some none)
 (z12:W.nsIn K mainGlobals "sum"=some none)
 (z13:W.nsIn K mainGlobals "tuple"=some none)
 : ∃ fd:FuncData,(∀ (s:Shared) (v:Value),BindsTo s fd ⟨[v],[]⟩ [("script",v)])/\∀ base:Heap,K.In base->base.Ns mainGlobals mg->(∀ t∈([(cc0,pp0,"outwards.<locals>.<lambda>")]:TL),WC base mg t.1 t.2.1 t.2.2)->xo l.prog w K mg base CX0 30 fa fd ["script"] (zfh K):=by
 have e:=hfa.symm.trans (u3i X G a32)
 cases e
 have T:∀ base:Heap,(∀ t∈([(cc0,pp0,"outwards.<locals>.<lambda>")]:TL),WC base mg t.1 t.2.1 t.2.2)->Txt K mg base ⟨_,_,_,_,_,_,_,_,_,_,_,_,_,_,_,_,_,_,_,_,_,_,_,_,_,_,_,_,_,_,_,_,_,_,_,_,_,_,_,_,_,_,_,_,_,_,_,_,_,_,_,_,_,_,_,_,_,_,_,_,_,_,_,_,_,_,tk0,tk1,cc0,pp0⟩:=λbase hL=>⟨
  mkD X G a0 l0 c0 k0 (bn1 λ_ _ _ _ _ _ _=>rfl),
  mkD X G a1 l1 c1 k1 (bn3 λ_ _ _ _ _ _ _ _ _=>rfl),
  mkD X G a2 l2 c2 k2 (bn1 λ_ _ _ _ _ _ _=>rfl),
  mkD X G a3 l3 c3 k3 (bn2 λ_ _ _ _ _ _ _ _=>rfl),
  mkD X G a4 l4 c4 k4 (bn2 λ_ _ _ _ _ _ _ _=>rfl),
  mkD X G a5 l5 c5 k5 (bn2 λ_ _ _ _ _ _ _ _=>rfl),
  mkD X G a6 l6 c6 k6 (bn2 λ_ _ _ _ _ _ _ _=>rfl),
  mkD X G a7 l7 c7 k7 (bn1 λ_ _ _ _ _ _ _=>rfl),
  mkD X G a8 l8 c8 k8 (bn1 λ_ _ _ _ _ _ _=>rfl),
  mkD X G a9 l9 c9 k9 (bn2 λ_ _ _ _ _ _ _ _=>rfl),
  mkD X G a10 l10 c10 k10 (bn2 λ_ _ _ _ _ _ _ _=>rfl),
  mkD X G a11 l11 c11 k11 (bn2 λ_ _ _ _ _ _ _ _=>rfl),
  mkD X G a12 l12 c12 k12 (bn2 λ_ _ _ _ _ _ _ _=>rfl),
  mkD X G a13 l13 c13 k13 (bn1 λ_ _ _ _ _ _ _=>rfl),
  mkD X G a14 l14 c14 k14 (bn1 λ_ _ _ _ _ _ _=>rfl),
  mkD X G a15 l15 c15 k15 (bn1 λ_ _ _ _ _ _ _=>rfl),
  mkD X G a16 l16 c16 k16 (bn2 λ_ _ _ _ _ _ _ _=>rfl),
  mkD X G a17 l17 c17 k17 (bn2 λ_ _ _ _ _ _ _ _=>rfl),
  mkD X G a18 l18 c18 k18 (bn1 λ_ _ _ _ _ _ _=>rfl),
  mkD X G a19 l19 c19 k19 (bn2 λ_ _ _ _ _ _ _ _=>rfl),
  mkD X G a20 l20 c20 k20 (bn2 λ_ _ _ _ _ _ _ _=>rfl),
  mkD X G a21 l21 c21 k21 (bn3 λ_ _ _ _ _ _ _ _ _=>rfl),
  mkD X G a22 l22 c22 k22 (bn4 λ_ _ _ _ _ _ _ _ _ _=>rfl),
  mkD X G a23 l23 c23 k23 (bn3 λ_ _ _ _ _ _ _ _ _=>rfl),
  mkD X G a24 l24 c24 k24 (bn3 λ_ _ _ _ _ _ _ _ _=>rfl),
  mkD X G a25 l25 c25 k25 (bn4 λ_ _ _ _ _ _ _ _ _ _=>rfl),
  mkD X G a26 l26 c26 k26 (bn2 λ_ _ _ _ _ _ _ _=>rfl),
  mkD X G a27 l27 c27 k27 (bn2 λ_ _ _ _ _ _ _ _=>rfl),
  mkD X G a28 l28 c28 k28 (bn2 λ_ _ _ _ _ _ _ _=>rfl),
  mkD X G a29 l29 c29 k29 (bn3 λ_ _ _ _ _ _ _ _ _=>rfl),
  mkD X G a30 l30 c30 k30 (bn2 λ_ _ _ _ _ _ _ _=>rfl),
  mkD X G a31 l31 c31 k31 (bn3 λ_ _ _ _ _ _ _ _ _=>rfl),
  mkD X G a32 l32 c32 k32 (bn1 λ_ _ _ _ _ _ _=>rfl),
  u3i X G gg0,
  u3i X G gg1,
  i6 X G z0,
  i6 X G z1,
  i6 X G z2,
  i6 X G z3,
  i6 X G z4,
  i6 X G z5,
  i6 X G z6,
  i6 X G z7,
  i6 X G z8,
  i6 X G z9,
  i6 X G z10,
  i6 X G z11,
  i6 X G z12,
  i6 X G z13,
  rfl,
  hL _ (.head _)⟩
 exact⟨_,λs v=>.of_eq rfl,λbase _ _ hL=>zlE (T base hL)⟩
theorem walk {l:W.OpenLaw}{q:Program}{loose:List Str}{XP:(Str->Option Value)->Heap->Prop}{YP:World->Heap->Prop}{d:DefRec}{K:Params->W.Frag}{cc0 pp0:Addr}{dd0:DefRec}(hn:l.most=some 63)(hdf:d.params.defaults=[])
 (hY:∀ (w:World) (h:Heap),YP w h->(K w.params).In h)
 (ht0:∀ w:World,W.tabIn (K w.params) "outwards"=some (cc0,pp0)) (hr0:(PyProof.Rows.recsOf q).find? (λe:DefRec=>e.name == ("outwards":Str))=some dd0)
 (hq:([(cc0,pp0,"outwards.<locals>.<lambda>")]:TL).all (λt=>(yn ([(cc0,pp0,"outwards.<locals>.<lambda>")]:TL)).lookup t.2.1 == some t.2.2)=true) (hnK:∀ w:World,W.noTabs (K w.params)=true)
 (F:∀ (w:World) (mg:Str->Option Value) (fa:Addr) (h:Heap),(K w.params).In h->h.Ns mainGlobals mg->mg d.name=some (.ref fa) ->
  ∃ fd:FuncData,(∀ (s:Shared) (u:Value),BindsTo s fd ⟨[u],[]⟩ [("script",u)])/\∀ base:Heap,(K w.params).In base->base.Ns mainGlobals mg->(∀ t∈([(cc0,pp0,"outwards.<locals>.<lambda>")]:TL),WC base mg t.1 t.2.1 t.2.2)->xo l.prog w (K w.params) mg base CX0 30 fa fd ["script"] (zfh (K w.params))) :
 PySem.W.WalkO q loose XP YP l.row.toRowW d [] (λf vs=>PySem.call f vs) :=
 L2.walk_ofL (tl:=([(cc0,pp0,"outwards.<locals>.<lambda>")]:TL)) (n:=63) (k:=30) (x:="script") (CX:=λ_=>CX0) (sp:=λw=>zfh (K w.params)) hn (by decide) hdf ⟨rfl,by decide,by decide⟩ hY hq hnK
  (λw _ mg mb h X T=>List.forall_mem_cons.mpr ⟨W.tab_of T X hr0 (ht0 w),λ_ h=>nomatch h⟩) F (λ_ _ a ns hl hS=>⟨a,ns,rfl,hS,hl,λ_=>rfl⟩) λ_ _ _ _ _ z=>z
end Mz
open PySem PySem.W PyProof.Rows
theorem PySem.W.Fast.tw7808904296015492279:True:=⟨⟩
theorem PySem.W.Fast.tw8082064363090496921:True:=⟨⟩
theorem PySem.W.Fast.tw13569484998773037406:True:=⟨⟩
theorem PySem.W.Fast.tw15957281095563624665:True:=⟨⟩
theorem PySem.W.Fast.tw13028467482454954787:True:=⟨⟩
theorem PySem.W.Fast.tw16773673914856274583:True:=⟨⟩
theorem PySem.W.Fast.tw2875093614419017537:True:=⟨⟩
theorem PySem.W.Fast.tw13781710334571590737:True:=⟨⟩
theorem PySem.W.Fast.tw7768926307254808598:True:=⟨⟩
theorem PySem.W.Fast.tw13823617081381453500:True:=⟨⟩
theorem PySem.W.Fast.tw9982538525256447904:True:=⟨⟩
theorem PySem.W.Fast.tw1076721357185653437:True:=⟨⟩
theorem PySem.W.Fast.tw2480095068848803616:True:=⟨⟩
theorem PySem.W.Fast.tw5173995766158958804:True:=⟨⟩
theorem PySem.W.Fast.tw15347157420197590089:True:=⟨⟩
theorem PySem.W.Fast.tw14676232569728678628:True:=⟨⟩
theorem PySem.W.Fast.tw1388815192030500656:True:=⟨⟩
theorem PySem.W.Fast.tw10758686483681643315:True:=⟨⟩
theorem PySem.W.Fast.tw13809219249235070752:True:=⟨⟩
theorem PySem.W.Fast.tw5458112469697448440:True:=⟨⟩
set_option maxRecDepth 100000 in
set_option maxHeartbeats 0 in
theorem PySem.Challenge.cw_twoforone_k36_whole_carry_papers_bound_holds : PySem.Challenge.rw_twoforone_k36_whole_carry_papers_bound.Holds := by
  w_on;o_law;k_head;(case hw=>w_witness2)
  k_fill
  refine Mz.walk (l:=PySem.Challenge.rw_twoforone_k36_whole_carry_papers_bound) (cc0:=?cc0) (pp0:=?pp0) (dd0:=?dd0) rfl rfl (fun w h Y=>PySem.W.km_in_of Y) ?ht0 ?hr0 ?hq ?hnK ?F
  case ht0 =>
    intro w
    refine' L2.tab_mk ?ta ?tl ?tk ?tc ?tv
    case ta | tl=>k_is
    case tk=>rfl
    case tc=>k_is
    case tv=>rfl
  case hr0=>rfl
  case hq=>kernel_rfl
  case hnK =>
    intro w
    kernel_rfl
  case F =>
    intro w mg fa h KX G hmg
    refine' Mz.all_mk KX G hmg ?a0 ?l0 ?c0 ?k0 ?a1 ?l1 ?c1 ?k1 ?a2 ?l2 ?c2 ?k2 ?a3 ?l3 ?c3 ?k3 ?a4 ?l4 ?c4 ?k4 ?a5 ?l5 ?c5 ?k5 ?a6 ?l6 ?c6 ?k6 ?a7 ?l7 ?c7 ?k7 ?a8 ?l8 ?c8 ?k8 ?a9 ?l9 ?c9 ?k9 ?a10 ?l10 ?c10 ?k10 ?a11 ?l11 ?c11 ?k11 ?a12 ?l12 ?c12 ?k12 ?a13 ?l13 ?c13 ?k13 ?a14 ?l14 ?c14 ?k14 ?a15 ?l15 ?c15 ?k15 ?a16 ?l16 ?c16 ?k16 ?a17 ?l17 ?c17 ?k17 ?a18 ?l18 ?c18 ?k18 ?a19 ?l19 ?c19 ?k19 ?a20 ?l20 ?c20 ?k20 ?a21 ?l21 ?c21 ?k21 ?a22 ?l22 ?c22 ?k22 ?a23 ?l23 ?c23 ?k23 ?a24 ?l24 ?c24 ?k24 ?a25 ?l25 ?c25 ?k25 ?a26 ?l26 ?c26 ?k26 ?a27 ?l27 ?c27 ?k27 ?a28 ?l28 ?c28 ?k28 ?a29 ?l29 ?c29 ?k29 ?a30 ?l30 ?c30 ?k30 ?a31 ?l31 ?c31 ?k31 ?a32 ?l32 ?c32 ?k32 ?gg0 ?gg1 ?z0 ?z1 ?z2 ?z3 ?z4 ?z5 ?z6 ?z7 ?z8 ?z9 ?z10 ?z11 ?z12 ?z13
    case a0 | l0 | c0 | k0 | a1 | l1 | c1 | k1 | a2 | l2 | c2 | k2 | a3 | l3 | c3 | k3 | a4 | l4 | c4 | k4 | a5 | l5 | c5 | k5 | a6 | l6 | c6 | k6 | a7 | l7 | c7 | k7 | a8 | l8 | c8 | k8 | a9 | l9 | c9 | k9 | a10 | l10 | c10 | k10 | a11 | l11 | c11 | k11 | a12 | l12 | c12 | k12 | a13 | l13 | c13 | k13 | a14 | l14 | c14 | k14 | a15 | l15 | c15 | k15 | a16 | l16 | c16 | k16 | a17 | l17 | c17 | k17 | a18 | l18 | c18 | k18 | a19 | l19 | c19 | k19 | a20 | l20 | c20 | k20 | a21 | l21 | c21 | k21 | a22 | l22 | c22 | k22 | a23 | l23 | c23 | k23 | a24 | l24 | c24 | k24 | a25 | l25 | c25 | k25 | a26 | l26 | c26 | k26 | a27 | l27 | c27 | k27 | a28 | l28 | c28 | k28 | a29 | l29 | c29 | k29 | a30 | l30 | c30 | k30 | a31 | l31 | c31 | k31 | a32 | l32 | c32 | k32 | gg0 | gg1 | z0 | z1 | z2 | z3 | z4 | z5 | z6 | z7 | z8 | z9 | z10 | z11 | z12 | z13=>k_is
