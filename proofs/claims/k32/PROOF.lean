import PyProof.Rows.All
import Wide.All
import OpenK.AllK
import Wide.FinOn
import Lean
import PyProof.EqAt
import PyProof.EqKinds
import PyProof.TupleCall
import PyProof.NeKinds
import PyProof.OldK
import KE.KLam
import KE.KSortKey
import PySem.Challenge.RW_twoforone_k32_stones_wanted_in_a_tree
set_option Elab.async false
set_option linter.all false
set_option maxRecDepth 100000
set_option maxHeartbeats 4000000
def u2Y:=@PySem.Around.under_plainId
def u2m:=@Array.Perm.refl
def u3d:=@Array.getElem?_eq_some_iff
def u0t:=@Array.getElem?_toList
def j8:=@Array.length_toList
def u0N:=@Array.perm_iff_toList_perm
def u3R:=@Array.size_map
def u3J:=@Array.size_push
def e9:=@Array.toList_append
def u1r:=@Array.toList_push
def u1E:=@Array.toList_reverse
def u3e:=@Array.toList_setIfInBounds
def h9:=@Bool.and_eq_true
def u16:=@Bool.and_false
def u3t:=@Bool.and_true
def u1U:=@Bool.eq_iff_iff
def u3i:=@Bool.false_eq_true
def u6:=@Bool.false_ne_true
def u11:=@Bool.not_eq_true'
def u3K:=@Bool.or_eq_true
def u2n:=@PySem.Calls.spliced_cons
def u2z:=@PySem.Calls.spliced_nil
def u18:=@PySem.F.plain_max_loop
def u1w:=@PySem.F.slot_tuple_iterator_next
def u26:=@PySem.F.slot_zip_next
def u1a:=@PySem.Heap.SameBut.update
def u5:=@PySem.Heap.get?_push_of_some
def r6:=@PySem.Heap.get?_push_size
def u0n:=@PySem.Heap.get?_update_other
def u1V:=@PySem.Heap.get?_update_self
def j7:=@PySem.Heap.lt_size
def u1p:=@PySem.Heap.size_push
def u27:=@Int.le_refl
def u2A:=@Int.toNat_natCast
def u1M:=@Int.toNat_of_nonneg
def u1K:=@Int.zero_add
def u0p:=@PyProof.Rows.KeyOrd.kle_of_klt
def u1u:=@PyProof.Rows.KeyOrd.kle_refl
def u19:=@PyProof.Rows.KeyOrd.kle_trans
def u2h:=@List.Perm.eq_of_pairwise
def u1Q:=@List.Perm.refl
def u3u:=@List.all_cons
def u0k:=@List.all_eq_true
def u2i:=@List.all_map
def p5:=@List.append_assoc
def u0l:=@List.append_nil
def u1z:=@List.cons.inj
def u2T:=@List.countP_cons
def u2N:=@List.countP_le_length
def u1j:=@List.drop_append_of_le_length
def u1c:=@List.drop_drop
def u0z:=@List.drop_eq_getElem_cons
def u2w:=@List.drop_eq_nil_of_le
def u2a:=@List.drop_length
def u0Y:=@List.drop_sublist
def u2J:=@List.drop_take
def u17:=@List.drop_zero
def u2B:=@List.ext_getElem?
def u28:=@List.filterMap_cons
def u1G:=@List.flatten_cons
def u3M:=@List.foldl_cons
def u2o:=@List.forIn_cons
def u2K:=@List.forIn_nil
def p8:=@List.getD_eq_getElem?_getD
def u0R:=@List.getElem?_append_left
def u0j:=@List.getElem?_append_right
def u1A:=@List.getElem?_drop
def u7:=@List.getElem?_eq_getElem
def u0Z:=@List.getElem?_eq_none
def u8:=@List.getElem?_eq_some_iff
def r9:=@List.getElem?_map
def u1v:=@List.getElem?_range
def u06:=@List.getElem?_replicate
def u00:=@List.getElem?_set
def d8:=@List.getElem?_set_ne
def u0f:=@List.getElem?_set_self
def u0h:=@List.getElem?_take_of_lt
def u3p:=@List.getElem?_zip_eq_some
def u3C:=@List.getElem_inj
def u2U:=@List.getElem_map
def u1x:=@List.getElem_mem
def u0v:=@List.getElem_of_mem
def u2Z:=@List.getElem_toArray
def u2V:=@List.getElem_zip
def j9:=@List.length_append
def p9:=@List.length_cons
def u0a:=@List.length_drop
def u1n:=@List.length_eq_zero_iff
def u9:=@List.length_map
def u1W:=@List.length_nil
def u01:=@List.length_range
def u0u:=@List.length_replicate
def u2e:=@List.length_reverse
def u1X:=@List.length_set
def o9:=@List.length_take
def u0S:=@List.length_zip
def u3S:=@List.mapM_cons
def u2C:=@List.mapM_toArray
def u1e:=@List.map_append
def u0w:=@List.map_congr_left
def u0g:=@List.map_cons
def u29:=@List.map_id
def u0O:=@List.map_map
def u3N:=@List.map_nil
def u2O:=@List.map_set
def u0G:=@List.mem_append
def u1F:=@List.mem_append_left
def d9:=@List.mem_append_right
def d5:=@List.mem_cons
def u0d:=@List.mem_cons_of_mem
def u0E:=@List.mem_cons_self
def u07:=@List.mem_filter
def u3j:=@List.mem_filterMap
def u1Y:=@List.mem_iff_getElem?
def u1q:=@List.mem_map
def j5:=@List.mem_of_getElem?
def u0b:=@List.mem_of_mem_drop
def u0i:=@List.mem_of_mem_take
def u0e:=@List.mem_range
def u1k:=@List.mem_reverse
def d4:=@List.mem_singleton
def u3a:=@List.mergeSort_perm
def u3b:=@List.nil_append
def u1f:=@List.nodup_cons
def u09:=@List.nodup_iff_pairwise_ne
def u2L:=@List.nodup_nil
def u1P:=@List.nodup_range
def i8:=@List.not_mem_nil
def u2p:=@List.of_mem_zip
def u0C:=@List.pairwise_append
def u08:=@List.pairwise_cons
def u0A:=@List.pairwise_iff_getElem
def u0J:=@List.pairwise_map
def u2q:=@List.pairwise_mergeSort
def u1Z:=@List.pairwise_reverse
def u1B:=@List.perm_append_comm
def u1b:=@List.replicate_succ
def u2f:=@List.reverse_append
def u1s:=@List.reverse_perm
def u15:=@List.reverse_reverse
def j3:=@List.size_toArray
def u2D:=@List.take_add_one
def u0c:=@List.take_append_drop
def u2W:=@List.take_append_of_le_length
def u2b:=@List.take_length
def i9:=@List.take_of_length_le
def u1H:=@List.take_sublist
def u3T:=@List.take_succ
def u1R:=@List.take_take
def u2X:=@List.toArray_inj
def u2c:=@List.zipIdx_cons
def u3O:=@List.zipIdx_nil
def u1C:=@List.zip_cons_cons
def u3k:=@List.zip_nil_right
def u1o:=@Nat.add_sub_cancel_left
def u0V:=@Nat.le_add_right
def u3l:=@Nat.le_of_eq
def u2j:=@Nat.le_of_lt
def u3D:=@Nat.le_of_not_lt
def q5:=@Nat.le_refl
def u3v:=@Nat.le_succ
def u0H:=@Nat.le_trans
def u0W:=@Nat.lt_irrefl
def u0F:=@Nat.lt_of_le_of_lt
def d7:=@Nat.lt_of_lt_of_le
def u12:=@Nat.lt_succ_of_lt
def u3E:=@Nat.lt_succ_self
def u0T:=@Nat.min_eq_left
def u2d:=@Nat.min_le_right
def u2P:=@Nat.min_self
def u2Q:=@Nat.ne_of_gt
def p4:=@Nat.ne_of_lt
def u3m:=@Nat.sub_self
def u02:=@Nat.zero_add
def u0D:=@Nat.zero_le
def u1l:=@Ne.symm
def u4:=@Option.bind_eq_some_iff
def p7:=@Option.bind_some
def u3s:=@Option.isSome_iff_exists
def t9:=@Option.map_eq_some_iff
def u0q:=@Option.some.inj
def i5:=@PySem.PassesOwn.never
def u3w:=@Prod.ext
def u2k:=@PyProof.Rows.callWith_kw
def u0r:=@PyProof.Rows.callWith_type1
def u2R:=@PyProof.Rows.kws_cons
def u20:=@PyProof.Rows.kws_nil
def u0s:=@PyProof.Rows.slot_tuple_getitem
def u2l:=@PySem.F.args_tuple_add_2
def u2r:=@PySem.F.entry_tuple_add
def u14:=@PySem.F.excBase_ValueError
def u0x:=@PySem.F.plainAttrs_list
def u1g:=@PySem.F.slot_list_append
def u2x:=@PySem.F.slot_tuple_add
def u1h:=@PySem.F.type_list_append
def u2y:=@PySem.W.cellsFrom_some
def u2g:=@PySem.W.hideAll_get
def u0y:=@PySem.W.kia_one
def u2E:=@PySem.W.kitx_dict
def i6:=@PySem.W.mg_none_of
def u0o:=@PySem.W.mg_of
def u0m:=@PySem.mem_of_lookup
def u2s:=@PySem.SeqAt.EqAt.int_int
def u2t:=@PySem.SeqAt.EqAt.of_refs
def u1N:=@beq_eq_false_iff_ne
def g9:=@beq_iff_eq
def u1y:=@beq_self_eq_true
def u23:=@PySem.call_meets
def u3c:=@PySem.codeAny_builtin
def u2S:=@PySem.codeAny_mono
def u05:=@congrArg
def u3F:=@decide_eq_decide
def i7:=@decide_eq_false
def u0K:=@decide_eq_false_iff_not
def o0:=@decide_eq_true
def b9:=@decide_eq_true_eq
def u2u:=@PyProof.Rows.get?_update_seq
def u3n:=@getElem?_pos
def u3X:=@if_false
def j6:=@if_neg
def j4:=@if_pos
def u2F:=@if_true
def u1L:=@PyProof.Rows.listItems_at
def u13:=@PyProof.Rows.listUpdate_at
def u2G:=@not_false_eq_true
def u3U:=@not_or
def u1S:=@of_decide_eq_false
def p6:=@of_decide_eq_true
def u1D:=@or_false
def u22:=@PySem.plainId_quiet
def u10:=@PySem.sizeLine_eq
def u1i:=@PySem.wpAny_Call_Name_kw
def u1O:=@PySem.wpAny_attempt
def u0:=@PySem.wpAny_bind
def u3Q:=@PySem.wpAny_call
def u0L:=@PySem.wpAny_callSpecial?_slot
def u1m:=@PySem.wpAny_call_entry
def u2v:=@PySem.wpAny_execs_nil
def u0X:=@PySem.wpAny_field
def u0M:=@PySem.wpAny_holding
def u2H:=@PySem.wpAny_letGo
def u0U:=@PySem.wpAny_loadPart'
def u0B:=@PySem.wpAny_mono
def u3A:=@PySem.wpAny_newList
def u03:=@PySem.wpAny_newObj_type
def u1I:=@PySem.wpAny_passesOwn
def t7:=@PySem.wpAny_pure
def u2I:=@PySem.wpAny_pyIter_enum
def u1J:=@PySem.wpAny_pyIter_list
def u0P:=@PySem.wpAny_pyIter_tuple
def u1t:=@PySem.wpAny_rule
def u1d:=@PySem.wpAny_seqItems
def u1T:=@PySem.wpAny_setField_rec
def u04:=@PySem.wpAny_truthy_bool
def u2M:=@PySem.wpAny_tryCatch
def u3o:=@PySem.wpAny_typeOf
def r8:=@PyProof.Rows.wpS_bind
def u0I:=@PyProof.Rows.wpS_forRange
def u3q:=@PyProof.Rows.wpS_get
def u3B:=@PyProof.Rows.wpS_lift
def u24:=@PyProof.Rows.wpS_modify
def u0Q:=@PyProof.Rows.wpS_mono
def d6:=@PyProof.Rows.wpS_pure
namespace L2
open PySem PySem.Spec PyProof.Rows
abbrev Key:=Sum Int Str
def zkS:Key->Value->Bool
 | .inl k,v=>Value.isInt k v
 | .inr x,v=>Value.isStrOf x v
def keyH (w:World):Key->Int
 | .inl k=>hashInt k
 | .inr x=>hashStr w x
theorem yw:∀ {k:Key} {v:Value},zkS k v=true->(∃ i t,k=Sum.inl i/\v=Value.int i t)\/(∃ x t,k=Sum.inr x/\v=Value.str x t)
 | .inl i,v,h=>by
  obtain⟨t,e⟩:=Value.isInt_shape (k:=i) (v:=v) h
  exact .inl ⟨i,t,rfl,e⟩
 | .inr x,v,h=>by
  obtain⟨t,e⟩:=Value.isStrOf_shape (x:=x) (v:=v) h
  exact .inr ⟨x,t,rfl,e⟩
theorem zkG (a b:Int):decide ((Sum.inl a:Key)=Sum.inl b)=(a == b):=by
 by_cases e:a=b
 .subst e;simp
 .have h:¬ (Sum.inl a:Key)=Sum.inl b:=λq=>e (Sum.inl.inj q)
  rw[i7 h]
  exact(u1N.mpr e).symm
theorem zlD (a b:Str):decide ((Sum.inr a:Key)=Sum.inr b)=decide (a=b):=by
 by_cases e:a=b
 .subst e;simp
 .have h:¬ (Sum.inr a:Key)=Sum.inr b:=λq=>e (Sum.inr.inj q)
  rw[i7 h,i7 e]
theorem zk8 (a:Int)(b:Str):decide ((Sum.inl a:Key)=Sum.inr b)=false:=i7 (λq=>nomatch q)
theorem zlA (a:Str)(b:Int):decide ((Sum.inr a:Key)=Sum.inl b)=false:=i7 (λq=>nomatch q)
def zgq (prog:Program)(w:World):PySem.KeyKind prog w Key where
 is:=zkS
 hash:=keyH w
 inj:=λv a b ha hb=>by
  rcases yw ha with ⟨i,t,rfl,rfl⟩ | ⟨x,t,rfl,rfl⟩
  .rcases yw hb with ⟨j,u,rfl,e⟩ | ⟨y,u,rfl,e⟩
   .injection e with e1 _;rw[e1]
   .exact nomatch e
  .rcases yw hb with ⟨j,u,rfl,e⟩ | ⟨y,u,rfl,e⟩
   .exact nomatch e
   .injection e with e1 _;rw[e1]
 byValue:=λk v h=>by
  rcases yw h with ⟨i,t,rfl,rfl⟩ | ⟨x,t,rfl,rfl⟩ <;> rfl
 pyHash:=λhv h=>by
  rcases yw hv with ⟨i,t,rfl,rfl⟩ | ⟨x,t,rfl,rfl⟩
  .exact wpAny_pyHash_int h
  .exact wpAny_pyHash_str h
 eqBool:=λhu hv h=>by
  rcases yw hu with ⟨i,t,rfl,rfl⟩ | ⟨x,t,rfl,rfl⟩
  .rcases yw hv with ⟨j,u,rfl,rfl⟩ | ⟨y,u,rfl,rfl⟩
   .rw[zkG]at h;exact wpAny_eqBool_int h
   .rw[zk8]at h;exact SeqAt.EqAt.int_str i t y u _ _ _ _ h
  .rcases yw hv with ⟨j,u,rfl,rfl⟩ | ⟨y,u,rfl,rfl⟩
   .rw[zlA]at h;exact SeqAt.EqAt.str_int x t j u _ _ _ _ h
   .rw[zlD]at h;exact wpAny_eqBool_str h
 «strs»:=λk x t v h=>by
  rcases yw h with ⟨i,u,rfl,e⟩ | ⟨y,u,rfl,e⟩
  .exact nomatch e
  .injection e with e1 _
   subst e1
   cases v <;> rfl
inductive V where
 | non | bl (b:Bool) | int (i:Int) | str (x:Str) | byt (b:Array UInt8) | flt (b:UInt64) | ref (a:Addr) | ty (n:String)
 deriving DecidableEq
def xj:V->Value->Prop
 | .non,u=>u=Value.none
 | .bl b,u=>u=Value.bool b
 | .int i,u=>∃ t,u=Value.int i t
 | .str x,u=>∃ t,u=Value.str x t
 | .byt b,u=>∃ t,u=Value.bytes b t
 | .flt b,u=>∃ t,u=Value.float b t
 | .ref a,u=>u=Value.ref a
 | .ty n,u=>u=Value.type n
abbrev yk:List V->List Value->Prop:=Paired xj
theorem yk.length {xs:List V}{us:List Value}(r:yk xs us):xs.length=us.length:=Paired.length r
theorem yk.get:∀ {xs:List V} {us:List Value} {i:Nat} {x:V},yk xs us->xs[i]?=some x->∃ u,us[i]?=some u/\xj x u
 | _,_,_,_,.nil,e=>by simp at e
 | _,_,0,_,.cons r _,e=>by simp at e;subst e;exact⟨_,rfl,r⟩
 | _,_,i+1,x,.cons _ t,e=>by
  obtain⟨u,h1,h2⟩:=yk.get (i:=i) (x:=x) t (by simpa using e)
  exact⟨u,by simpa using h1,h2⟩
theorem yk.set {x:V}{u:Value}(r:xj x u):∀ {xs:List V} {us:List Value} (i:Nat),yk xs us->yk (xs.set i x) (us.set i u)
 | _,_,_,.nil=>.nil
 | _,_,0,.cons _ t=>.cons r t
 | _,_,i+1,.cons q t=>.cons q (yk.set r i t)
theorem yk.append:∀ {xs ys:List V} {us ws:List Value},yk xs us->yk ys ws->yk (xs++ys) (us++ws):=by
 intro xs ys us ws h s
 induction h with
 | nil=>exact s
 | cons r t ih=>exact .cons r ih
theorem yk.take:∀ {xs:List V} {us:List Value} (n:Nat),yk xs us->yk (xs.take n) (us.take n)
 | _,_,0,_=>.nil
 | _,_,_+1,.nil=>.nil
 | _,_,n+1,.cons r t=>.cons r (yk.take n t)
theorem yk.drop:∀ {xs:List V} {us:List Value} (n:Nat),yk xs us->yk (xs.drop n) (us.drop n)
 | _,_,0,r=>r
 | _,_,_+1,.nil=>.nil
 | _,_,n+1,.cons _ t=>yk.drop n t
def znp:Option V->Option Value->Prop
 | some v,some u=>xj v u
 | none,none=>True
 | _,_=>False
def KV {κ:Type}:List (κ × V)->List (κ × Value)->Prop:=Paired λ(p:κ × V) (q:κ × Value)=>p.1=q.1/\xj p.2 q.2
def kV:Key->V
 | .inl i=>.int i
 | .inr x=>.str x
inductive HO where
 | lst (xs:List V)
 | tup (xs:List V)
 | dK (kvs:List (Key × V)) | dT (kvs:List (List Key × V))
 | set (S:Int->Bool) (n:Nat)
 | ins (C dx:Addr) (fs:List (Str × V))
 | own (x:Addr)
 | xd (fs:List (Str × V))
 | met (f x:Addr)
 | rng (lo hi:Int)
 | frz (o:Obj) (u:HO)
 | tbl (ps:Array Value)
 | ext (φ:Heap->Prop)
abbrev Hp:=Addr->Option HO
def upd (H:Hp)(a:Addr)(o:HO):Hp:=λb=>if b=a then some o else H b
theorem zq {H:Hp}{a:Addr}{o:HO}:upd H a o a=some o:=by unfold upd;rw[j4 rfl]
theorem zn {H:Hp}{a b:Addr}{o:HO}(h:b≠a):upd H a o b=H b:=by unfold upd;rw[j6 h]
theorem zfm {H:Hp}{a:Addr}{o u:HO}:upd (upd H a o) a u=upd H a u:=by
 funext b;unfold upd;split <;> rfl
theorem zj {H:Hp}{a b:Addr}{o:HO}(h:H a=some o)(h':H b=none):a≠b:=by
 intro e;subst e;rw[h]at h';cases h'
section
variable (P:Program)(w:World)
def xk (H:Hp)(h:Heap)(a:Addr):HO->Prop
 | .lst xs=>xs.length<=sizeLine/\∃ (its:List Value) (n:Nat),yk xs its/\h.get? a=some { cls:=.type "list",data:=.seq its.toArray n }
 | .tup xs=>xs.length<=sizeLine/\∃ its:List Value,yk xs its/\IsTup h a its.toArray
 | .dK kvs=>kvs.length<=sizeLine/\(a == sysModules)=false/\∃ vs,KV kvs vs/\h.DictOf (zgq P w) a vs
 | .dT kvs=>kvs.length<=sizeLine/\(a == sysModules)=false/\∃ xs:List (List Key × Addr × Value),
  Paired (λ(p:List Key × V) (q:List Key × Addr × Value)=>p.1=q.1/\H q.2.1=some (.tup (p.1.map kV))/\xj p.2 q.2.2) kvs xs /\
  ∃ o es ep,h.get? a=some o/\o.ExactDict/\o.data=.dict es ep/\es.toList=xs.map (entryOfKey (tupleKind (zgq P w)))/\(xs.map (·.1)).Nodup
 | .set S n=>h.SetOf (intKind P w) a S n
 | .ins C dx fs=>H dx=some (.own a)/\fs.length<=1000/\dx≠a/\h.get? a=some (W.instObj C dx) /\
  ∃ mA,h.Ns1 dx mA/\(∀ f,znp (fs.lookup f) (mA f))/\PySem.Within mA (fs.map (·.1))
 | .own _=>∃ o,h.get? a=some o
 | .xd fs=>∃ mA,h.Ns1 a mA/\∀ f,znp (fs.lookup f) (mA f)
 | .rng lo hi=>∃ t u v,h.get? a=some { cls:=.type "range",data:=.fields #[.int lo t,.int hi u,.int 1 v] }
 | .frz o u=>h.get? a=some o/\xk H h a u
 | .tbl ps=>∃ qs:Array Value,h.get? a=some { cls:=.none,data:=.fields qs }/\TriplesOk qs.toList/\∀ pos c,codeAmong pos qs.toList=some c->∃ ca oc vs q t t2,c=.ref ca/\H ca=some (.frz oc (.own a))/\oc.data=.fields vs/\vs[1]?=some (.str q t)/\ps[0]?=some (.str q t2)
 | .met f x=>h.get? a=some (W.methodObj (.ref f) (.ref x))
 | .ext φ=>φ h/\(∃ o,h.get? a=some o)/\∀ h1 h2:Heap,φ h1->(∀ o,h1.get? a=some o->h2.get? a=some o)->φ h2
def HOk (H:Hp)(h:Heap):Prop:=∀ a o,H a=some o->xk P w H h a o
end
section
variable {P:Program}{w:World}{H H':Hp}{h h':Heap}{a:Addr}{o:HO}
theorem xk.lt (x:xk P w H h a o):a < h.objs.size:=by
 cases o with
 | lst xs=>obtain⟨_,_,_,_,e⟩:=x;exact j7 e
 | tup xs=>obtain⟨_,_,_,p⟩:=x;exact p.lt
 | dK kvs=>obtain⟨_,_,_,_,o,_,_,e,_⟩:=x;exact j7 e
 | dT kvs=>obtain⟨_,_,_,_,o,_,_,e,_⟩:=x;exact j7 e
 | set S n=>obtain⟨o,_,_,_,e,_⟩:=x;exact j7 e
 | ins C dx fs=>obtain⟨_,_,_,e,_⟩:=x;exact j7 e
 | own y=>obtain⟨_,e⟩:=x;exact j7 e
 | xd fs=>obtain⟨_,⟨_,_,_,e,_⟩,_⟩:=x;exact j7 e
 | rng lo hi=>obtain⟨_,_,_,e⟩:=x;exact j7 e
 | frz ob u=>obtain⟨e,_⟩:=x;exact j7 e
 | tbl ps=>obtain⟨_,e,_⟩:=x;exact j7 e
 | met f y=>exact j7 (show h.get? a=some _ from x)
 | ext φ=>obtain⟨_,⟨_,e⟩,_⟩:=x;exact j7 e
theorem Paired.mapP {α β:Type}{F G:α->β->Prop}:∀ {l₁:List α} {l₂:List β},Paired F l₁ l₂->(∀ a b,F a b->G a b)->Paired G l₁ l₂:=by
 intro l1 l2 h f
 induction h with
 | nil=>exact .nil
 | cons r t ih=>exact .cons (f _ _ r) ih
theorem xk.stay (x:xk P w H h a o)(k:∀ b u,(b=a\/H b=some (.own a))->h.get? b=some u->h'.get? b=some u)
 (ho:∀ b,H b=some (.own a)->H' b=some (.own a)) (ht:∀ b xs,H b=some (.tup xs)->H' b=some (.tup xs)) (hz:∀ b o u,H b=some (.frz o u)->H' b=some (.frz o u):=by(intro b ob u q;first | exact q | (rw[zn (zj q (by assumption))];exact q) | (rw[zn (λz=>by subst z;have mm:=‹Mut _›;rw[q]at mm;exact mm)];exact q))):xk P w H' h' a o:=by
 induction o with
 | lst xs=>obtain⟨z,its,n,r,e⟩:=x;exact⟨z,its,n,r,k _ _ (.inl rfl) e⟩
 | tup xs=>obtain⟨z,its,r,ob,e,c⟩:=x;exact⟨z,its,r,ob,k _ _ (.inl rfl) e,c⟩
 | dK kvs=>obtain⟨z,y,vs,r,ob,es,ep,e,c⟩:=x;exact⟨z,y,vs,r,ob,es,ep,k _ _ (.inl rfl) e,c⟩
 | dT kvs =>
  obtain⟨z,y,xs,r,ob,es,ep,e,c⟩:=x
  exact⟨z,y,xs,Paired.mapP r λp q z=>⟨z.1,ht _ _ z.2.1,z.2.2⟩,ob,es,ep,k _ _ (.inl rfl) e,c⟩
 | set S n=>obtain⟨ob,es,ep,t,e,c⟩:=x;exact⟨ob,es,ep,t,k _ _ (.inl rfl) e,c⟩
 | ins C dx fs =>
  obtain⟨d,z,ne,e,mA,⟨od,es,ep,e2,c⟩,r⟩:=x
  exact⟨ho _ d,z,ne,k _ _ (.inl rfl) e,mA,⟨od,es,ep,k _ _ (.inr d) e2,c⟩,r⟩
 | own y=>obtain⟨ob,e⟩:=x;exact⟨ob,k _ _ (.inl rfl) e⟩
 | xd fs=>obtain⟨mA,⟨od,es,ep,e,c⟩,r⟩:=x;exact⟨mA,⟨od,es,ep,k _ _ (.inl rfl) e,c⟩,r⟩
 | rng lo hi=>obtain⟨t,u,v,e⟩:=x;exact⟨t,u,v,k _ _ (.inl rfl) e⟩
 | frz ob u ih=>obtain⟨e,q⟩:=x;exact⟨k _ _ (.inl rfl) e,ih q⟩
 | tbl ps =>
  obtain⟨qs,e,tr,q⟩:=x
  refine⟨qs,k a _ (.inl rfl) e,tr,λpos c hc=>?_⟩
  obtain⟨ca,oc,vs,qn,t,t2,ec,ow,r⟩:=q pos c hc
  exact⟨ca,oc,vs,qn,t,t2,ec,hz _ _ _ ow,r⟩
 | met f y =>
  have e:h.get? a=some (W.methodObj (.ref f) (.ref y)):=x
  show h'.get? a=some (W.methodObj (.ref f) (.ref y))
  exact k a _ (.inl rfl) e
 | ext φ=>obtain⟨p,⟨o,e⟩,st⟩:=x;exact⟨st _ _ p λo q=>k _ _ (.inl rfl) q,⟨o,k _ _ (.inl rfl) e⟩,st⟩
theorem HOk.lt (x:HOk P w H h)(e:H a=some o):a < h.objs.size:=(x a o e).lt
theorem HOk.fresh (x:HOk P w H h)(e:h.objs.size<=a):H a=none:=by
 cases q:H a with
 | none=>rfl
 | some u=>exact absurd (d7 (x.lt q) e) (u0W _)
theorem HOk.kept (x:HOk P w H h)(k:∀ b u,h.get? b=some u->h'.get? b=some u):HOk P w H h':=λa o e =>
 (x a o e).stay (λb u _ q=>k b u q) (λ_ q=>q) λ_ _ q=>q
theorem HOk.laid (x:HOk P w H h)(k:∀ b u,h.get? b=some u->h'.get? b=some u)(hp:h.objs.size<=a)(new:xk P w (upd H a o) h' a o):HOk P w (upd H a o) h':=λb u e=>by
 have hn:=x.fresh hp
 by_cases hb:b=a
 .subst hb;rw[zq]at e;cases e;exact new
 .rw[zn hb]at e
  exact(x b u e).stay (λc v _ q=>k c v q) (λc q=>by rw[zn (zj q hn)];exact q) λc xs q=>by rw[zn (zj q hn)];exact q
end
def Rd (H:Hp)(a:Addr)(u:HO):Prop:=H a=some u\/∃ o,H a=some (.frz o u)
theorem Rd.ok {P:Program}{w:World}{H:Hp}{h:Heap}{a:Addr}{u:HO}(r:Rd H a u)(x:HOk P w H h):xk P w H h a u:=by
 rcases r with r | ⟨o,r⟩
 .exact x a u r
 .obtain⟨_,q⟩:=x a _ r
  exact q
def Mut:Option HO->Prop
 | some (.lst _)=>True
 | some (.dK _)=>True
 | some (.dT _)=>True
 | some (.set _ _)=>True
 | some (.ins _ _ _)=>True
 | some (.ext _)=>True
 | _=>False
section
variable {P:Program}{w:World}{H:Hp}{h h':Heap}{x e:Addr}{o':HO}
theorem HOk.write (ok:HOk P w H h)(mu:Mut (H x))(he:e=x\/H e=some (.own x))(k:∀ b u,b≠e->h.get? b=some u->h'.get? b=some u)(heo:∃ u,h'.get? e=some u)
 (new:xk P w (upd H x o') h' x o'):HOk P w (upd H x o') h':=λb u q=>by
 have nown:∀ c y,H c=some (.own y)->c≠x:=λc y r z=>by subst z;rw[r]at mu;exact mu
 have ntup:∀ c xs,H c=some (.tup xs)->c≠x:=λc xs r z=>by subst z;rw[r]at mu;exact mu
 by_cases hb:b=x
 .subst hb;rw[zq]at q;cases q;exact new
 .rw[zn hb]at q
  by_cases hbe:b=e
  .have q':H b=some (.own x):=by
    rcases he with z | z
    .exact absurd (hbe.trans z) hb
    .rw[hbe];exact z
   rw[q]at q';cases q'
   obtain⟨v,hv⟩:=heo
   exact⟨v,by rw[hbe];exact hv⟩
  .refine(ok b u q).stay (λc v hc r=>k c v ?_ r) (λc r=>by rw[zn (nown c b r)];exact r) λc xs r=>by rw[zn (ntup c xs r)];exact r
   rcases hc with rfl | hc
   .exact hbe
   .rintro rfl
    rcases he with z | z
    .exact nown c b hc z
    .rw[hc]at z;cases z;exact hb rfl
end
structure Un (fs ex:List Addr) (H H':Hp) (h h':Heap):Prop where
 keep:∀ b o,h.get? b=some o->H b=none->b∉fs->b∉ex->h'.get? b=some o
 slot:∀ b o,h.get? b=some o->H b=none->b∈fs->b∉ex->∃ sl,h'.get? b=some { o with slots:=sl }
 free:∀ b o,h.get? b=some o->H b=none->b∉ex->H' b=none
 there:∀ b o,h.get? b=some o->b∉ex->∃ o',h'.get? b=some o'
 tups:∀ b xs,H b=some (.tup xs)->H' b=some (.tup xs)
 frzs:∀ b o u,H b=some (.frz o u)->H' b=some (.frz o u)
 tbls:∀ b ps,H b=some (.tbl ps)->H' b=some (.tbl ps)
section
variable {fs fs' ex ex':List Addr}{H H1 H2:Hp}{h h1 h2 h':Heap}{a x e:Addr}{o:HO}
theorem Un.any (u:Un fs ex H H1 h h1){b:Addr}{ob:Obj}(q:h.get? b=some ob)(n:H b=none)(hx:b∉ex):∃ sl,h1.get? b=some { ob with slots:=sl }:=by
 by_cases hb:b∈fs
 .exact u.slot b ob q n hb hx
 .exact⟨ob.slots,u.keep b ob q n hb hx⟩
theorem Un.kept (k:∀ b u,h.get? b=some u->h'.get? b=some u):Un fs ex H H h h' :=
 ⟨λb ob q _ _ _=>k b ob q,λb ob q _ _ _=>⟨ob.slots,k b ob q⟩,λ_ _ _ n _=>n,λb ob q _=>⟨ob,k b ob q⟩,λ_ _ q=>q,λ_ _ _ q=>q,λ_ _ q=>q⟩
theorem Un.refl:Un fs ex H H h h:=Un.kept λ_ _ q=>q
theorem Un.laid (k:∀ b u,h.get? b=some u->h'.get? b=some u)(hp:h.objs.size<=a)(hn:H a=none):Un fs ex H (upd H a o) h h' where
 keep:=λb u q _ _ _=>k b u q
 slot:=λb u q _ _ _=>⟨u.slots,k b u q⟩
 free:=λb u q n _=>by rw[zn (p4 (d7 (j7 q) hp))];exact n
 there:=λb u q _=>⟨u,k b u q⟩
 tups:=λb xs q=>by rw[zn (zj q hn)];exact q
 frzs:=λb u xs q=>by rw[zn (zj q hn)];exact q
 tbls:=λb ps q=>by rw[zn (zj q hn)];exact q
theorem Un.write (mu:Mut (H x))(he:e=x\/H e=some (.own x))(k:∀ b u,b≠e->h.get? b=some u->h'.get? b=some u)(heo:∃ u,h'.get? e=some u):Un fs ex H (upd H x o) h h':=by
 have hx:∀ b,H b=none->b≠x:=λb n z=>by subst z;rw[n]at mu;exact mu
 have hb:∀ b,H b=none->b≠e:=λb n z=>by
  subst z
  rcases he with r | r
  .exact hx b n r
  .rw[n]at r;cases r
 have hm:∀ b u,H b=some u->¬ Mut (some u)->b≠x:=λb u q nm z=>by subst z;rw[q]at mu;exact nm mu
 refine⟨λb u q n _ _=>k b u (hb b n) q,λb u q n _ _=>⟨u.slots,k b u (hb b n) q⟩,λb u q n _=>by rw[zn (hx b n)];exact n,λb u q _=>?_,
  λb xs q=>by rw[zn (hm b _ q λz=>z)];exact q,λb u xs q=>by rw[zn (hm b _ q λz=>z)];exact q,λb ps q=>by rw[zn (hm b _ q λz=>z)];exact q⟩
 by_cases hbe:b=e
 .subst hbe;exact heo
 .exact⟨u,k b u hbe q⟩
end
def trk (h:Heap)(H:Hp):List Addr:=(List.range h.objs.size).filter λa=>(H a).isSome
def zex (h:Heap)(H:Hp):Heap:=W.hideAll h (trk h H)
theorem zbi (h:Heap)(H:Hp):(zex h H).objs.size=h.objs.size:=W.hideAll_size _ _
theorem zim {h:Heap}{H:Hp}{b:Addr}{o:Obj}(e:h.get? b=some o)(n:H b=none):(zex h H).get? b=some o :=
 u2g _ e λhm=>by
  have q:(H b).isSome=true:=(u07.mp hm).2
  rw[n]at q;simp at q
theorem zjN {h:Heap}{H:Hp}{b:Addr}{o:Obj}(e:(zex h H).get? b=some o):h.get? b=some o/\H b=none:=by
 have e':h.get? b=some o:=W.of_hideAll (trk h H) e
 refine⟨e',?_⟩
 cases q:H b with
 | none=>rfl
 | some x =>
  have hm:b∈trk h H:=u07.mpr ⟨u0e.mpr (j7 e'),by simp[q]⟩
  have z:(zex h H).get? b=none:=W.hideAll_none (trk h H) hm
  rw[z]at e;cases e
def zjC (g h:Heap)(L:Addr):List (Addr × Obj):=(List.range h.objs.size).filterMap λa=>if a=L\/(g.get? a).isSome=true then none else (h.get? a).map λo=>(a,o)
def rest (g h:Heap)(L d:Addr):List (Addr × Obj):=(zjC g h L).filter λp=>decide (p.1≠d)
structure Mod (K:W.Frag) (mg:Str->Option Value) (base:Heap):Prop where
 kin:K.In base
 glob:base.Ns mainGlobals mg
 blt:∃ mb,base.Ns builtinsNs mb/\∀ x:Str,x≠"__name__"->mb x=bootBuiltins x
 nolimit:base.NoLimit
def YL (q:Str):Obj:={ cls:=.str q 0,data:=.freed }
def Bs (base h:Heap)(H:Hp):Prop:=(∀ b o,base.get? b=some o->h.get? b=some o/\H b=none)/\∀ P q,base.objs[P]?=some (YL q)->H P=some (.tbl #[.str q 0])
structure Cx where
 prog:Program
 w:World
 K:W.Frag
 mg:Str->Option Value
 base:Heap
 A:Around
 N:List Str
 s₀:Shared
 H₀:Hp
 env:Env
 outer:List Env
 stack:List Env
 ex:List Addr
 fn:Str->Bool
 calm:Bool
 pn:List (Addr × Obj)
 xe:Value->Shared->Prop
def frs (l:List Env):List Addr:=l.filterMap (·.frame)
abbrev Cx.fs (X:Cx):List Addr:=frs X.outer
def Vis (sc:Scope)(x:Str):Prop:=sc.names.lookup x=some .local\/sc.names.lookup x=some .cell\/sc.names.lookup x=some .free
def Loc (sc:Scope)(x:Str):Prop:=sc.names.lookup x=some .local\/sc.names.lookup x=some .cell
def Look (env:Env)(h:Heap)(m:Str->Option Value)(x:Str)(u:Value):Prop :=
 (env.kindOf x=some .local/\m x=some u)\/((env.kindOf x=some .cell\/env.kindOf x=some .free)/\∃ c,env.cells.lookup x=some c/\h.IsCell c (some u))
structure Cx.Ok (X:Cx):Prop where
 mod:Mod X.K X.mg X.base
 kind:X.env.scope.kind=.function
 glob:X.env.globals=mainGlobals
 blt:X.env.builtins=builtinsNs
 above:X.s₀.heap.objs.size<=X.env.locals
 inj:∀ x y c,X.env.cells.lookup x=some c->X.env.cells.lookup y=some c->x=y
 has:∀ x,(X.env.kindOf x=some .cell\/X.env.kindOf x=some .free)->∃ c,X.env.cells.lookup x=some c
 cab:∀ x c,X.fn x=true->X.env.cells.lookup x=some c->X.s₀.heap.objs.size<=c
 hd:X.calm=true->X.A.handled=none
 frames:X.A.frames=some X.stack
 stk:X.stack=X.outer\/(X.stack=X.env::X.outer/\X.env.frame=some X.env.locals)
 exf:∀ b∈X.ex,b≠X.env.locals/\∀ x c,X.env.cells.lookup x=some c->c≠b
 bs:Bs X.base X.s₀.heap X.H₀
 bsz:X.base.objs.size<=X.s₀.heap.objs.size
 noex:∀ b o,X.base.get? b=some o->b∉X.ex
 exfs:∀ b∈X.ex,b∉X.fs
 funs:X.s₀.heap.FunFrames X.base X.outer
 frf:∀ b∈X.fs,X.H₀ b=none
structure Inv (X:Cx) (pins:List (Addr × Obj)) (σ:List (Option V)) (H:Hp) (s:Shared):Prop where
 ok:X.Ok
 os:s.os=X.s₀.os
 bare:AllBare s.gens
 base:Un X.fs X.ex X.H₀ H X.s₀.heap s.heap
 loc:∃ m,s.heap.Ns X.env.locals m/\∀ (i:Nat) (x:Str) (v:V),X.N[i]?=some x->σ[i]?=some (some v)->Vis X.env.scope x->∃ u,xj v u/\Look X.env s.heap m x u
 cell:∀ x c,X.env.cells.lookup x=some c->∃ v,s.heap.IsCell c v
 free:H X.env.locals=none
 freeC:∀ x c,X.env.cells.lookup x=some c->H c=none
 pin:∀ p∈X.pn++pins,s.heap.get? p.1=some p.2/\H p.1=none/\p.1≠X.env.locals/\p.1∉X.fs/\∀ v,p.2.data≠.cell v
 hok:HOk X.prog X.w H s.heap
 len:σ.length=X.N.length
section
variable {X:Cx}{pins:List (Addr × Obj)}{σ:List (Option V)}{H H':Hp}{s:Shared}{h':Heap}
theorem Cx.Ok.nofr (ok:X.Ok){b:Addr}{o:Obj}(e:X.base.get? b=some o):b∉X.fs:=λhb=>by
 have:=(ok.funs.mem hb).1
 rw[e]at this;cases this
theorem Inv.bs (I:Inv X pins σ H s):Bs X.base s.heap H:=⟨λb o e =>
 ⟨I.base.keep b o (I.ok.bs.1 b o e).1 (I.ok.bs.1 b o e).2 (I.ok.nofr e) (I.ok.noex b o e),I.base.free b o (I.ok.bs.1 b o e).1 (I.ok.bs.1 b o e).2 (I.ok.noex b o e)⟩,λP q e=>I.base.tbls _ _ (I.ok.bs.2 P q e)⟩
theorem Inv.bk (I:Inv X pins σ H s):∀ b o,X.base.get? b=some o->s.heap.get? b=some o:=λb o e=>(I.bs.1 b o e).1
theorem Inv.mod (I:Inv X pins σ H s):Mod X.K X.mg X.base:=I.ok.mod
theorem Inv.kIn (I:Inv X pins σ H s):X.K.In s.heap:=I.ok.mod.kin.keeps I.bk
theorem Inv.nolimit (I:Inv X pins σ H s):s.heap.NoLimit:=I.ok.mod.nolimit.keeps I.bk
theorem Inv.fr (I:Inv X pins σ H s):∃ m,Fr X.base X.env.locals s.heap m :=
 let ⟨m,hn,_⟩:=I.loc
 ⟨m,hn,I.bk,u0H I.ok.bsz I.ok.above⟩
theorem Inv.lt (I:Inv X pins σ H s):X.env.locals < s.heap.objs.size:=let ⟨_,hn,_⟩:=I.loc;hn.lt
theorem Inv.sz (I:Inv X pins σ H s):X.s₀.heap.objs.size<=s.heap.objs.size:=u0H I.ok.above (u2j I.lt)
theorem Inv.nofs (I:Inv X pins σ H s){a:Addr}(h:s.heap.objs.size<=a):a∉X.fs:=λhb=>by
 obtain⟨_,o,ho,_⟩:=I.ok.funs.mem hb
 exact absurd (d7 (j7 ho) (u0H I.sz h)) (u0W _)
theorem Inv.cne (I:Inv X pins σ H s):∀ x c,X.env.cells.lookup x=some c->c≠X.env.locals:=λx c e z=>by
 obtain⟨v,o,ho,hd⟩:=I.cell x c e
 obtain⟨m,⟨o',es,ep,ho',hd',_⟩,_⟩:=I.loc
 rw[z,ho']at ho;cases ho;rw[hd']at hd;cases hd
theorem Inv.funs (I:Inv X pins σ H s):s.heap.FunFrames X.base X.outer:=by
 have all:∀ (l:List Env),(∀ b∈frs l,b∈X.fs)->X.s₀.heap.FunFrames X.base l->s.heap.FunFrames X.base l:=by
  intro l
  induction l with
  | nil=>intro _ _;trivial
  | cons env r ih =>
   intro hs hl
   obtain⟨hk,⟨L,o,hf,hn,ho,hd⟩,hr⟩:=hl
   have hL:L∈X.fs:=hs L (by unfold frs;rw[u28,hf];exact u0E)
   obtain⟨sl,e⟩:=I.base.slot L o ho (I.ok.frf L hL) hL λz=>I.ok.exfs L z hL
   exact⟨hk,⟨L,_,hf,hn,e,hd⟩,ih (λb hb=>hs b (by unfold frs;rw[u28,hf];exact u0d _ hb)) hr⟩
 exact all X.outer (λ_ hb=>hb) I.ok.funs
theorem Inv.stack (I:Inv X pins σ H s):s.heap.FunFrames X.base X.stack:=by
 rcases I.ok.stk with e | ⟨e,hf⟩
 .rw[e];exact I.funs
 .rw[e]
  obtain⟨m,hn,_⟩:=I.loc
  refine .cons (by rw[I.ok.kind];decide) hf hn ?_ I.funs
  exact Heap.get?_none_of_le (u0H I.ok.bsz I.ok.above)
theorem Inv.stkSub (I:Inv X pins σ H s):∀ b∈frs X.stack,b∈X.env.locals::X.fs:=λb hb=>by
 rcases I.ok.stk with e | ⟨e,hf⟩
 .rw[e]at hb;exact u0d _ hb
 .rw[e]at hb
  unfold frs at hb
  rw[u28,hf]at hb
  exact hb
theorem Inv.stkFree (I:Inv X pins σ H s):∀ b∈frs X.stack,H b=none:=λb hb=>by
 rcases d5.mp (I.stkSub b hb)with e | hb
 .rw[e];exact I.free
 .obtain⟨_,o,ho,_⟩:=I.ok.funs.mem hb
  exact I.base.free b o ho (I.ok.frf b hb) λz=>I.ok.exfs b z hb
theorem Inv.step {g':Array GenState}{t':Nat}{d':Drawn}{ch:List Addr}(I:Inv X pins σ H s)
 (hch:∀ b∈ch,(b∈X.ex\/X.s₀.heap.objs.size<=b)/\b≠X.env.locals/\(∀ x c,X.env.cells.lookup x=some c->c≠b)/\∀ p∈X.pn++pins,p.1≠b)
 (keep:∀ b o,b≠X.env.locals->b∉X.fs->b∉ch->s.heap.get? b=some o->H b=none->h'.get? b=some o)
 (slot:∀ b o,b≠X.env.locals->b∈X.fs->b∉ch->s.heap.get? b=some o->H b=none->∃ sl,h'.get? b=some { o with slots:=sl }) (free:∀ b o,b∉ch->s.heap.get? b=some o->H b=none->H' b=none)
 (there:∀ b o,b∉ch->s.heap.get? b=some o->∃ o',h'.get? b=some o')
 (tups:∀ b xs,H b=some (.tup xs)->H' b=some (.tup xs)) (frzs:∀ b o u,H b=some (.frz o u)->H' b=some (.frz o u)) (tbls:∀ b ps,H b=some (.tbl ps)->H' b=some (.tbl ps))
 (ns:∀ m,s.heap.Ns X.env.locals m->h'.Ns X.env.locals m) (hok:HOk X.prog X.w H' h') (hg:AllBare g') :
 Inv X pins σ H' { s with heap:=h',gens:=g',drawn:=d',toks:=t' }:=by
 have neL:∀ b o,X.s₀.heap.get? b=some o->b≠X.env.locals:=λb o e=>p4 (d7 (j7 e) I.ok.above)
 have neC:∀ b o,X.s₀.heap.get? b=some o->b∉X.ex->b∉ch:=λb o e hx hb=>by
  rcases(hch b hb).1 with z | z
  .exact hx z
  .exact absurd (d7 (j7 e) z) (u0W _)
 have cellK:∀ x c,X.env.cells.lookup x=some c->∀ v,s.heap.IsCell c v->h'.IsCell c v:=λx c e v ⟨o,ho,hd⟩=>by
  have nch:c∉ch:=λz=>(hch c z).2.2.1 x c e rfl
  by_cases hc:c∈X.fs
  .obtain⟨sl,q⟩:=slot c o (I.cne x c e) hc nch ho (I.freeC x c e)
   exact⟨_,q,hd⟩
  .exact⟨o,keep c o (I.cne x c e) hc nch ho (I.freeC x c e),hd⟩
 refine⟨I.ok,I.os,hg,⟨λb o e n hb hx=>?_,λb o e n hb hx=>?_,λb o e n hx=>?_,λb o e hx=>?_,λb xs e=>tups b xs (I.base.tups b xs e),λb o xs e=>frzs b o xs (I.base.frzs b o xs e),λb ps e=>?_⟩,?_,λx c e=>?_,?_,λx c e=>?_,λp hp=>?_,hok,I.len⟩
 .exact keep b o (neL b o e) hb (neC b o e hx) (I.base.keep b o e n hb hx) (I.base.free b o e n hx)
 .obtain⟨sl,e1⟩:=I.base.slot b o e n hb hx
  obtain⟨sl',e2⟩:=slot b _ (neL b o e) hb (neC b o e hx) e1 (I.base.free b o e n hx)
  exact⟨sl',e2⟩
 .obtain⟨o',e1⟩:=I.base.there b o e hx
  exact free b o' (neC b o e hx) e1 (I.base.free b o e n hx)
 .obtain⟨o',e1⟩:=I.base.there b o e hx
  exact there b o' (neC b o e hx) e1
 .exact tbls b _ (I.base.tbls b ps e)
 .obtain⟨m,hn,hl⟩:=I.loc
  refine⟨m,ns m hn,λi x v e1 e2 e3=>?_⟩
  obtain⟨u,r,l⟩:=hl i x v e1 e2 e3
  refine⟨u,r,?_⟩
  rcases l with l | ⟨k,c,e,z⟩
  .exact .inl l
  .exact .inr ⟨k,c,e,cellK x c e _ z⟩
 .obtain⟨v,z⟩:=I.cell x c e
  exact⟨v,cellK x c e v z⟩
 .obtain⟨m,⟨o,_,_,ho,_⟩,_⟩:=I.loc
  exact free _ o (λz=>(hch _ z).2.1 rfl) ho I.free
 .obtain⟨v,o,ho,hd⟩:=I.cell x c e
  exact free c o (λz=>(hch c z).2.2.1 x c e rfl) ho (I.freeC x c e)
 .obtain⟨e,n,ne,nf,d⟩:=I.pin p hp
  have nch:p.1∉ch:=λz=>(hch p.1 z).2.2.2 p hp rfl
  exact⟨keep p.1 p.2 ne nf nch e n,free p.1 p.2 nch e n,ne,nf,d⟩
theorem Inv.un {t':Nat}(I:Inv X pins σ H s)(u:Un X.fs [] H H' s.heap h')(hok:HOk X.prog X.w H' h'):Inv X pins σ H' { s with heap:=h',toks:=t' }:=by
 obtain⟨m,⟨o,es,ep,ho,r⟩,_⟩:=id I.loc
 obtain⟨sl,hL⟩:=u.any ho I.free (by simp)
 exact I.step (g':=s.gens) (d':=s.drawn) (ch:=[]) (λ_ z=>nomatch z) (λb o _ hb _ e n=>u.keep b o e n hb (by simp)) (λb o _ hb _ e n=>u.slot b o e n hb (by simp)) (λb o _ e n=>u.free b o e n (by simp)) (λb o _ e=>u.there b o e (by simp)) u.tups u.frzs u.tbls (λm' hm=>by
  obtain⟨o',es',ep',ho',r'⟩:=hm
  rw[ho]at ho';cases ho'
  exact⟨_,es',ep',hL,r'⟩) hok I.bare
theorem Inv.call {g':Array GenState}{t':Nat}{d':Drawn}{ch:List Addr}(I:Inv X pins σ H s)(u:Un (frs X.stack) ch H H' s.heap h')(hok:HOk X.prog X.w H' h')(hg:AllBare g')
 (hch:∀ b∈ch,(b∈X.ex\/X.s₀.heap.objs.size<=b)/\b≠X.env.locals/\(∀ x c,X.env.cells.lookup x=some c->c≠b)/\∀ p∈X.pn++pins,p.1≠b) :
 Inv X pins σ H' { s with heap:=h',gens:=g',drawn:=d',toks:=t' }:=by
 obtain⟨m,⟨o,es,ep,ho,r⟩,_⟩:=id I.loc
 obtain⟨sl,hL⟩:=u.any ho I.free λz=>(hch _ z).2.1 rfl
 exact I.step (ch:=ch) hch (λb o hL hb hc e n=>u.keep b o e n (λz=>(d5.mp (I.stkSub b z)).elim hL hb) hc) (λb o _ _ hc e n=>u.any e n hc) (λb o hc e n=>u.free b o e n hc) (λb o hc e=>u.there b o e hc) u.tups u.frzs u.tbls (λm' hm=>by
  obtain⟨o',es',ep',ho',r'⟩:=hm
  rw[ho]at ho';cases ho'
  exact⟨_,es',ep',hL,r'⟩) hok hg
theorem Inv.turned {t':Nat}{it:Addr}(I:Inv X pins σ H s)(k:∀ b o,b≠it->s.heap.get? b=some o->h'.get? b=some o)(hn:H it=none)(hL:it≠X.env.locals)
 (h1:it∈X.ex\/X.s₀.heap.objs.size<=it) (h2:∀ x c,X.env.cells.lookup x=some c->c≠it) (h3:∀ p∈X.pn++pins,p.1≠it):Inv X pins σ H { s with heap:=h',toks:=t' }:=by
 have nit:∀ b u,H b=some u->b≠it:=λb u e z=>by rw[z,hn]at e;cases e
 refine I.step (g':=s.gens) (d':=s.drawn) (ch:=[it]) (λb hb=>?_) (λb o _ _ hc e _=>k b o (λz=>hc (by simp[z])) e) (λb o _ _ hc e _=>⟨o.slots,k b o (λz=>hc (by simp[z])) e⟩) (λ_ _ _ _ n=>n)
  (λb o hc e=>⟨o,k b o (λz=>hc (by simp[z])) e⟩) (λ_ _ e=>e) (λ_ _ _ e=>e) (λ_ _ e=>e) (λm hm=>?_) (λb u e=>?_) I.bare
 .have e:b=it:=by simpa using hb
  subst e
  exact⟨h1,hL,h2,h3⟩
 .obtain⟨o,es,ep,ho,r⟩:=hm
  exact⟨o,es,ep,k _ o (u1l hL) ho,r⟩
 .refine(I.hok b u e).stay (λc v hc q=>k c v ?_ q) (λ_ q=>q) λ_ _ q=>q
  rcases hc with z | z
  .rw[z];exact nit b u e
  .exact nit c _ z
theorem Inv.tok (I:Inv X pins σ H s)(t:Nat):Inv X pins σ H { s with toks:=t }:=I.un (h':=s.heap) (t':=t) Un.refl I.hok
theorem Inv.kept {t':Nat}(I:Inv X pins σ H s)(k:∀ b u,s.heap.get? b=some u->h'.get? b=some u):Inv X pins σ H { s with heap:=h',toks:=t' }:=I.un (Un.kept k) (I.hok.kept k)
theorem Inv.laid {a:Addr}{o:HO}{t':Nat}(I:Inv X pins σ H s)(k:∀ b u,s.heap.get? b=some u->h'.get? b=some u)(hp:s.heap.objs.size<=a)(new:xk X.prog X.w (upd H a o) h' a o) :
 Inv X pins σ (upd H a o) { s with heap:=h',toks:=t' }:=I.un (Un.laid k hp (I.hok.fresh hp)) (I.hok.laid k hp new)
theorem Inv.write {x e:Addr}{o:HO}{t':Nat}(I:Inv X pins σ H s)(mu:Mut (H x))(he:e=x\/H e=some (.own x))(k:∀ b u,b≠e->s.heap.get? b=some u->h'.get? b=some u)(heo:∃ u,h'.get? e=some u)
 (new:xk X.prog X.w (upd H x o) h' x o):Inv X pins σ (upd H x o) { s with heap:=h',toks:=t' }:=I.un (Un.write mu he k heo) (I.hok.write mu he k heo new)
theorem Inv.weak {σ':List (Option V)}(I:Inv X pins σ H s)(hl:σ'.length=σ.length)(w:∀ (i:Nat) v,σ'[i]?=some (some v)->σ[i]?=some (some v)):Inv X pins σ' H s :=
 ⟨I.ok,I.os,I.bare,I.base,let ⟨m,hn,hl'⟩:=I.loc;⟨m,hn,λi x v e1 e2 e3=>hl' i x v e1 (w i v e2) e3⟩,I.cell,I.free,I.freeC,I.pin,I.hok,hl.trans I.len⟩
theorem Inv.pins_of {pins':List (Addr × Obj)}(I:Inv X pins σ H s)(h:∀ p∈pins',s.heap.get? p.1=some p.2/\H p.1=none/\p.1≠X.env.locals/\p.1∉X.fs/\∀ v,p.2.data≠.cell v):Inv X pins' σ H s :=
 ⟨I.ok,I.os,I.bare,I.base,I.loc,I.cell,I.free,I.freeC,λp hp=>(u0G.mp hp).elim (λz=>I.pin p (u1F _ z)) (h p),I.hok,I.len⟩
theorem zaM {N:List Str}(hN:N.Nodup){i j:Nat}{x:Str}(a:N[i]?=some x)(b:N[j]?=some x):i=j:=by
 obtain⟨h1,e1⟩:=u8.mp a
 obtain⟨h2,e2⟩:=u8.mp b
 exact(u3C hN).mp (e1.trans e2.symm)
theorem zf3 {M:Model}{A:Around}{E:Value->Shared->Prop}{i:Nat}{x:Str}{v:V}{u:Value}{Q:Unit->Shared->Prop}(I:Inv X pins σ H s)(hN:X.N.Nodup)(hi:X.N[i]?=some x)(hx:Loc X.env.scope x)(r:xj v u)
 (h:∀ s',Inv X pins (σ.set i (some v)) H s'->(∃ a,Heap.SameBut a s.heap s'.heap/\(a=X.env.locals\/X.env.cells.lookup x=some a))->Q () s') (hf:X.fn x=true\/X.env.scope.names.lookup x=some .local:=by first | exact .inl rfl | exact .inr rfl | assumption):wpAny M A (storeName X.env x u) Q E s:=by
 obtain⟨m,hn,hl⟩:=id I.loc
 have hcls:(X.env.scope.kind == .class||(X.env.scope.kind == .module&&X.env.locals != X.env.globals))=false:=by rw[I.ok.kind];rfl
 have hiσ:i < σ.length:=by rw[I.len];exact(u8.mp hi).1
 have cne:=I.cne
 have tracked:∀ {a:Addr} {h':Heap},(∃ o,s.heap.get? a=some o/\H a=none)->Heap.SameBut a s.heap h'->HOk X.prog X.w H h':=λ{a h'} ha hs b ob e=>by
  obtain⟨_,_,hfree⟩:=ha
  refine(I.hok b ob e).stay (λc w' hc q=>(hs.2 c ?_).trans q) (λ_ q=>q) λ_ _ q=>q
  rintro rfl
  rcases hc with rfl | hc
  .rw[hfree]at e;cases e
  .rw[hfree]at hc;cases hc
 rcases hx with hk | hk
 .refine wpAny_storeName_local hk hn (λh' hn' hs=>?_) hcls
  obtain⟨oL,_,_,hoL,_⟩:=id hn
  refine h _ ⟨I.ok,I.os,I.bare,⟨λb o e n hb hx=>?_,λb o e n hb hx=>?_,I.base.free,λb o e hx=>?_,I.base.tups,I.base.frzs,I.base.tbls⟩,⟨_,hn',λj y v' e1 e2 e3=>?_⟩,λy c e=>?_,I.free,I.freeC,λp hp=>?_,tracked ⟨oL,hoL,I.free⟩ hs,by simpa using I.len⟩ ⟨_,hs,.inl rfl⟩
  .exact(hs.2 b (p4 (d7 (j7 e) I.ok.above))).trans (I.base.keep b o e n hb hx)
  .obtain⟨sl,e1⟩:=I.base.slot b o e n hb hx
   exact⟨sl,(hs.2 b (p4 (d7 (j7 e) I.ok.above))).trans e1⟩
  .obtain⟨o',e1⟩:=I.base.there b o e hx
   exact⟨o',(hs.2 b (p4 (d7 (j7 e) I.ok.above))).trans e1⟩
  .by_cases hj:j=i
   .subst hj
    rw[hi]at e1;cases e1
    rw[u0f hiσ]at e2
    cases e2
    exact⟨u,r,.inl ⟨hk,by simp⟩⟩
   .rw[d8 (u1l hj)]at e2
    obtain⟨u',r',q⟩:=hl j y v' e1 e2 e3
    refine⟨u',r',?_⟩
    rcases q with ⟨k,e⟩ | ⟨k,c,e,z⟩
    .refine .inl ⟨k,?_⟩
     have:y≠x:=λe=>hj (zaM hN e1 (e ▸ hi))
     simp[this,e]
    .exact .inr ⟨k,c,e,z.sameBut hs (cne y c e)⟩
  .obtain⟨w',z⟩:=I.cell y c e
   exact⟨w',z.sameBut hs (cne y c e)⟩
  .obtain⟨e,n,ne,nf,d⟩:=I.pin p hp
   exact⟨(hs.2 p.1 ne).trans e,n,ne,nf,d⟩
 .have hfn:X.fn x=true:=by
   rcases hf with z | z
   .exact z
   .rw[z]at hk;cases hk
  obtain⟨c,hc⟩:=I.ok.has x (.inl hk)
  obtain⟨w',z⟩:=I.cell x c hc
  refine wpAny_storeName_cell I.ok.kind hk hc z (λh' hc' hs=>?_)
  obtain⟨oc,hoc,hocd⟩:=id z
  refine h { s with heap:=h' } ⟨I.ok,I.os,I.bare,⟨λb o e n hb hx=>?_,λb o e n hb hx=>?_,I.base.free,λb o e hx=>?_,I.base.tups,I.base.frzs,I.base.tbls⟩,⟨m,hn.sameBut hs (u1l (cne x c hc)),λj y v' e1 e2 e3=>?_⟩,λy c' e=>?_,I.free,I.freeC,λp hp=>?_,tracked ⟨oc,hoc,I.freeC x c hc⟩ hs,by simpa using I.len⟩ ⟨c,hs,.inr hc⟩
  .exact(hs.2 b (p4 (d7 (j7 e) (I.ok.cab x c hfn hc)))).trans (I.base.keep b o e n hb hx)
  .obtain⟨sl,e1⟩:=I.base.slot b o e n hb hx
   exact⟨sl,(hs.2 b (p4 (d7 (j7 e) (I.ok.cab x c hfn hc)))).trans e1⟩
  .obtain⟨o',e1⟩:=I.base.there b o e hx
   exact⟨o',(hs.2 b (p4 (d7 (j7 e) (I.ok.cab x c hfn hc)))).trans e1⟩
  .by_cases hj:j=i
   .subst hj
    rw[hi]at e1;cases e1
    rw[u0f hiσ]at e2
    cases e2
    exact⟨u,r,.inr ⟨.inl hk,c,hc,hc'⟩⟩
   .rw[d8 (u1l hj)]at e2
    obtain⟨u',r',q⟩:=hl j y v' e1 e2 e3
    refine⟨u',r',?_⟩
    rcases q with q | ⟨k,c',e,z'⟩
    .exact .inl q
    .refine .inr ⟨k,c',e,z'.sameBut hs ?_⟩
     rintro rfl
     exact hj (zaM hN e1 (I.ok.inj _ _ _ e hc ▸ hi))
  .by_cases hcc:c'=c
   .subst hcc;exact⟨_,hc'⟩
   .obtain⟨w2,z2⟩:=I.cell y c' e
    exact⟨w2,z2.sameBut hs hcc⟩
  .obtain⟨e,n,ne,nf,d⟩:=I.pin p hp
   refine⟨(hs.2 p.1 ?_).trans e,n,ne,nf,d⟩
   intro q
   rw[q,hoc]at e
   have q':oc=p.2:=u0q e
   exact d w' (by rw[<-q'];exact hocd)
theorem zaE {M:Model}{A:Around}{E:Value->Shared->Prop}{i:Nat}{x:Str}{v:V}{u:Value}{Q:Unit->Shared->Prop}(I:Inv X pins σ H s)(hN:X.N.Nodup)(hi:X.N[i]?=some x)(hx:Loc X.env.scope x)(r:xj v u)
 (h:∀ s',Inv X pins (σ.set i (some v)) H s'->Q () s') (hf:X.fn x=true\/X.env.scope.names.lookup x=some .local:=by first | exact .inl rfl | exact .inr rfl | assumption):wpAny M A (storeName X.env x u) Q E s :=
 zf3 I hN hi hx r (λs' I' _=>h s' I') hf
theorem Inv.call' {s':Shared}{ch:List Addr}(I:Inv X pins σ H s)(ho:s'.os=s.os)(u:Un (frs X.stack) ch H H' s.heap s'.heap)(hok:HOk X.prog X.w H' s'.heap)(hg:AllBare s'.gens)
 (hch:∀ b∈ch,(b∈X.ex\/X.s₀.heap.objs.size<=b)/\b≠X.env.locals/\(∀ x c,X.env.cells.lookup x=some c->c≠b)/\∀ p∈X.pn++pins,p.1≠b):Inv X pins σ H' s':=by
 obtain⟨h',g',d',t',o'⟩:=s'
 have e:o'=s.os:=ho
 subst e
 exact I.call (g':=g') (t':=t') (d':=d') u hok hg hch
end
abbrev XK:=Value->Option Addr->Hp->Prop
abbrev St:=List (Option V)
abbrev VK:=V->Hp->Prop
abbrev TE:=St->Hp->VK->Prop
abbrev TT:=St->Hp->(Bool->Hp->Prop)->Prop
abbrev TA:=St->Hp->(List V->Hp->Prop)->Prop
structure zch where
 nx:St->Hp->Prop
 rt:VK
 bk:St->Hp->Prop:=λ_ _=>False
 ct:St->Hp->Prop:=λ_ _=>False
abbrev TS:=zch->St->Hp->Prop
def EP (X:Cx)(pins:List (Addr × Obj))(σ:St)(Q:VK)(u:Value)(s':Shared):Prop:=∃ v H',Inv X pins σ H' s'/\xj v u/\Q v H'
def TP (X:Cx)(pins:List (Addr × Obj))(σ:St)(Q:Bool->Hp->Prop)(b:Bool)(s':Shared):Prop:=∃ H',Inv X pins σ H' s'/\Q b H'
def AP (X:Cx)(pins:List (Addr × Obj))(σ:St)(Q:List V->Hp->Prop)(us:List Value)(s':Shared):Prop:=∃ vs H',Inv X pins σ H' s'/\yk vs us/\Q vs H'
def SP (X:Cx)(pins:List (Addr × Obj))(D:zch)(f:Flow)(s':Shared):Prop :=
 match f with
 | .next=>∃ σ' H',Inv X pins σ' H' s'/\D.nx σ' H'
 | .brk=>∃ σ' H',Inv X pins σ' H' s'/\D.bk σ' H'
 | .cont=>∃ σ' H',Inv X pins σ' H' s'/\D.ct σ' H'
 | .ret u=>∃ v σ' H',Inv X pins σ' H' s'/\xj v u/\D.rt v H'
def PE (X:Cx)(e:Expr)(t:TE):Prop :=
 ∀ (pins:List (Addr × Obj)) (s:Shared) (σ:St) (H:Hp) (Q:VK),Inv X pins σ H s->t σ H Q->wpAny (model X.prog X.w) X.A (eval e X.env) (EP X pins σ Q) X.xe s
def PT (X:Cx)(e:Expr)(t:TT):Prop :=
 ∀ (pins:List (Addr × Obj)) (s:Shared) (σ:St) (H:Hp) (Q:Bool->Hp->Prop),Inv X pins σ H s->t σ H Q->wpAny (model X.prog X.w) X.A (isTrue e X.env (eval e X.env)) (TP X pins σ Q) X.xe s
def PW (X:Cx)(e:Expr)(t:TT):Prop :=
 ∀ (whole:Sem Value) (pins:List (Addr × Obj)) (s:Shared) (σ:St) (H:Hp) (Q:Bool->Hp->Prop),Inv X pins σ H s->t σ H Q->wpAny (model X.prog X.w) X.A (isTrue e X.env whole) (TP X pins σ Q) X.xe s
theorem PW.pt {X:Cx}{e:Expr}{t:TT}(h:PW X e t):PT X e t:=h _
def PA (X:Cx)(es:List Expr)(t:TA):Prop :=
 ∀ (pos:Pos) (pins:List (Addr × Obj)) (s:Shared) (σ:St) (H:Hp) (Q:List V->Hp->Prop),Inv X pins σ H s->t σ H Q->wpAny (model X.prog X.w) X.A (spliced (backTo pos (starEach es X.env))) (AP X pins σ Q) X.xe s
def PS (X:Cx)(st:Stmt)(t:TS):Prop :=
 ∀ (pins:List (Addr × Obj)) (s:Shared) (σ:St) (H:Hp) (D:zch),Inv X pins σ H s->t D σ H->wpAny (model X.prog X.w) X.A (exec st X.env) (SP X pins D) X.xe s
def PSs (X:Cx)(st:List Stmt)(t:TS):Prop :=
 ∀ (pins:List (Addr × Obj)) (s:Shared) (σ:St) (H:Hp) (D:zch),Inv X pins σ H s->t D σ H->wpAny (model X.prog X.w) X.A (execs st X.env) (SP X pins D) X.xe s
theorem thn {α:Type}{t:Sem α}{Q Q':α->Shared->Prop}{M:Model}{A:Around}{E:Value->Shared->Prop}{s:Shared}(h:wpAny M A t Q E s)(hQ:∀ a s,Q a s->Q' a s):wpAny M A t Q' E s:=u0B h hQ λ_ _ x=>x
section
variable {X:Cx}
theorem bin {a b:Expr}{ta tb:TE}(ha:PE X a ta)(hb:PE X b tb){pins:List (Addr × Obj)}{s:Shared}{σ:St}{H:Hp}{R:V->V->Hp->Prop}(I:Inv X pins σ H s)(h:ta σ H λx H1=>tb σ H1 λy H2=>R x y H2)
 {α:Type} {Q:α->Shared->Prop} {f:Value->Value->Sem α}
 (hf:∀ v u s2 x y H2,Inv X pins σ H2 s2->xj x v->xj y u->R x y H2->wpAny (model X.prog X.w) X.A (f v u) Q X.xe s2) :
 wpAny (model X.prog X.w) X.A (eval a X.env) (λv s₁=>wpAny (model X.prog X.w) X.A (eval b X.env) (λu s₂=>wpAny (model X.prog X.w) X.A (f v u) Q X.xe s₂) X.xe s₁) X.xe s:=by
 refine thn (ha pins s σ H _ I h) λv s1 hh9=>?_
 obtain⟨x,H1,I1,r1,q1⟩:=hh9
 refine thn (hb pins s1 σ H1 _ I1 q1) λu s2 hh9=>?_
 obtain⟨y,H2,I2,r2,q2⟩:=hh9
 exact hf v u s2 x y H2 I2 r1 r2 q2
def zef (i:Nat):TE:=fun σ H Q=>∃ v,σ[i]?=some (some v)/\Q v H
def tC (v:V):TE:=λ_ H Q=>Q v H
theorem zmf {i:Nat} {x:Str} {pos:Pos} (hN:X.N[i]?=some x) (hv:Vis X.env.scope x) (hd:(x == ("__debug__":Str))=false:=by decide) (hcd:(x == ("__classdict__":Str))=false:=by decide):PE X (.Name x pos) (zef i):=by
 intro pins s σ H Q I h
 obtain⟨v,e,h⟩:=h
 obtain⟨m,hn,hl⟩:=I.loc
 obtain⟨u,r,l⟩:=hl i x v hN e hv
 have fin:EP X pins σ Q u s:=⟨v,H,I,r,h⟩
 rcases l with ⟨hk,hm⟩ | ⟨hk,c,hc,hcell⟩
 .exact wpAny_Name (wpAny_loadName_local I.ok.kind hk hn hm fin) hd
 .rcases hk with hk | hk
  .exact wpAny_Name (wpAny_loadName_cell I.ok.kind hk hc hcell fin) hd
  .exact wpAny_Name (wpAny_loadName_free I.ok.kind hk hc hcell fin hcd) hd
theorem zd {i j pos}:PE X (.Constant (.int i) j pos) (tC (.int i)):=λ_ _ _ H _ I h=>wpAny_Constant_int ⟨.int i,H,I.tok _,⟨_,rfl⟩,h⟩
theorem Yw {b j pos}:PE X (.Constant (.bool b) j pos) (tC (.bl b)):=λ_ _ _ H _ I h=>Constant_bool ⟨.bl b,H,I,rfl,h⟩
theorem Vd {j pos}:PE X (.Constant .none j pos) (tC .non):=λ_ _ _ H _ I h=>Constant_none ⟨.non,H,I,rfl,h⟩
theorem zl7 {x j pos}:PE X (.Constant (.str x) j pos) (tC (.str x)):=λ_ _ _ H _ I h=>Calls.Constant_str ⟨.str x,H,I.tok _,⟨_,rfl⟩,h⟩
def Gl (X:Cx)(x:Str):Prop:=X.env.kindOf x=some .globalImplicit
theorem WZ {E:Value->Shared->Prop}{pins:List (Addr × Obj)}{s:Shared}{σ:St}{H:Hp}{x:Str}{u:Value}{pos:Pos}{Q:Value->Shared->Prop}(I:Inv X pins σ H s)(hg:Gl X x)(hm:X.mg x=some u)(h:Q u s)
 (hd:(x == ("__debug__":Str))=false:=by decide):wpAny (model X.prog X.w) X.A (eval (.Name x pos) X.env) Q E s :=
 Calls.Name_function_global I.ok.kind hg (Calls.loadGlobal_global (by rw[I.ok.glob];exact I.mod.glob.keeps I.bk) hm h) hd
theorem Yn {E:Value->Shared->Prop}{pins:List (Addr × Obj)}{s:Shared}{σ:St}{H:Hp}{x:Str}{u:Value}{pos:Pos}{Q:Value->Shared->Prop}(I:Inv X pins σ H s)(hg:Gl X x)(hm:X.mg x=none)(hv:bootBuiltins x=some u)(h:Q u s)
 (hn:x≠"__name__":=by decide) (hd:(x == ("__debug__":Str))=false:=by decide):wpAny (model X.prog X.w) X.A (eval (.Name x pos) X.env) Q E s:=by
 obtain⟨mb,h1,h2⟩:=I.mod.blt
 exact Calls.Name_function_global I.ok.kind hg (Calls.loadGlobal_builtin (by rw[I.ok.glob];exact I.mod.glob.keeps I.bk) hm (by rw[I.ok.blt];exact h1.keeps I.bk) ((h2 x hn).trans hv) h) hd
theorem xw {x:Str} {v:V} {u:Value} {pos:Pos} (hg:Gl X x) (hm:X.mg x=some u) (r:xj v u) (hd:(x == ("__debug__":Str))=false:=by decide):PE X (.Name x pos) (tC v) :=
 λ_ _ _ H _ I h=>WZ I hg hm ⟨v,H,I,r,h⟩ hd
theorem yL {x:Str} {v:V} {u:Value} {pos:Pos} (hg:Gl X x) (hm:X.mg x=none) (hv:bootBuiltins x=some u) (r:xj v u) (hn:x≠"__name__":=by decide) (hd:(x == ("__debug__":Str))=false:=by decide):PE X (.Name x pos) (tC v) :=
 λ_ _ _ H _ I h=>Yn I hg hm hv ⟨v,H,I,r,h⟩ hn hd
variable {a b:Expr}{ta tb:TE}{pos:Pos}
def PC (X:Cx)(op:CmpOp)(a b:Expr)(t:TE):Prop :=
 ∀ (pins:List (Addr × Obj)) (s:Shared) (σ:St) (H:Hp) (Q:VK),Inv X pins σ H s->t σ H Q ->
  wpAny (model X.prog X.w) X.A (eval a X.env) (λv s₁=>wpAny (model X.prog X.w) X.A (eval b X.env) (λu s₂=>wpAny (model X.prog X.w) X.A (compareOp op v u) (EP X pins σ Q) X.xe s₂) X.xe s₁) X.xe s
theorem zg6 (b:Expr){op:CmpOp}(h:op≠.In)(h2:op≠.NotIn):behindInMarks op b=false:=by
 have e1:(op == CmpOp.In)=false:=by cases op <;> first | rfl | exact absurd rfl h
 have e2:(op == CmpOp.NotIn)=false:=by cases op <;> first | rfl | exact absurd rfl h2
 cases b <;> simp[behindInMarks,e1,e2]
def tB (t:TE):TT:=fun σ H Q=>t σ H λx H1=>∃ c,x=.bl c/\Q c H1
theorem pt_cmp {op:CmpOp}{t:TE}(h:PC X op a b t)(h1:behindInMarks op b=false:=by first | exact zg6 _ (by decide) (by decide) | rfl):PT X (.Compare a [op] [b] pos) (tB t):=by
 intro pins s σ H Q I hw
 refine wpAny_isTrue_Compare1 (thn (h pins s σ H _ I hw) λv s1 h1=>thn h1 λu s2 h2=>thn h2 λc s3 hh9=>?_) h1
 obtain⟨x,H1,I1,r1,q1⟩:=hh9
 obtain⟨d,rfl,q⟩:=q1
 cases r1
 exact u04 ⟨H1,I1,q⟩
theorem ziR {e:Expr}{t:TE}(h:PE X e t)(he:∀ whole,isTrue e X.env whole=(do let v<-whole;standAt e.pos;holding [v] (truthy v)):=by intro _;rfl):PT X e (tB t):=by
 intro pins s σ H Q I hw
 refine isTrue_plain (thn (h pins s σ H _ I hw) λv s1 hh9=>?_) (he _)
 obtain⟨x,H1,I1,r1,q1⟩:=hh9
 obtain⟨d,rfl,q⟩:=q1
 cases r1
 exact u04 ⟨H1,I1,q⟩
variable {tA tB':TT}{rest:List Expr}
def tAnd (t u:TT):TT:=fun σ H Q=>t σ H λc H1=>if c=true then u σ H1 Q else Q false H1
def tOr (t u:TT):TT:=fun σ H Q=>t σ H λc H1=>if c=true then Q true H1 else u σ H1 Q
def tNot (t:TT):TT:=fun σ H Q=>t σ H λc H1=>Q (!c) H1
theorem zj4 (ha:PT X a tA):PW X (.BoolOp .And [a] pos) tA:=by
 intro wh pins s σ H Q I h
 refine isTrue_and (thn (ha pins s σ H Q I h) λc s1 e=>?_)
 cases c with
 | true=>exact isTrue_and_nil e
 | false=>exact e
theorem ziL (ha:PT X a tA):PW X (.BoolOp .Or [a] pos) tA:=by
 intro wh pins s σ H Q I h
 refine isTrue_or (thn (ha pins s σ H Q I h) λc s1 e=>?_)
 cases c with
 | false=>exact isTrue_or_nil e
 | true=>exact e
theorem zlm (ha:PT X a tA)(hb:PW X (.BoolOp .And (b::rest) pos) tB'):PW X (.BoolOp .And (a::b::rest) pos) (tAnd tA tB'):=by
 intro wh pins s σ H Q I h
 refine isTrue_and (thn (ha pins s σ H _ I h) λc s1 hh9=>?_)
 obtain⟨H1,I1,q1⟩:=hh9
 cases c with
 | true=>exact hb wh pins s1 σ H1 Q I1 q1
 | false=>exact⟨H1,I1,q1⟩
theorem zlf (ha:PT X a tA)(hb:PW X (.BoolOp .Or (b::rest) pos) tB'):PW X (.BoolOp .Or (a::b::rest) pos) (tOr tA tB'):=by
 intro wh pins s σ H Q I h
 refine isTrue_or (thn (ha pins s σ H _ I h) λc s1 hh9=>?_)
 obtain⟨H1,I1,q1⟩:=hh9
 cases c with
 | true=>exact⟨H1,I1,q1⟩
 | false=>exact hb wh pins s1 σ H1 Q I1 q1
theorem ziQ (ha:PT X a tA):PT X (.UnaryOp .Not a pos) (tNot tA):=by
 intro pins s σ H Q I h
 exact isTrue_not (ha pins s σ H (λc H1=>Q (!c) H1) I h)
def znn (ta tb:TE):TE:=fun σ H Q=>ta σ H λx H1=>∃ c,x=.bl c/\if c=true then tb σ H1 Q else Q (.bl false) H1
def zny (ta:TE):TE:=fun σ H Q=>ta σ H λx H1=>∃ c,x=.bl c/\Q (.bl (!c)) H1
theorem zlN {op}{t:TE}(h:PE X a t):PE X (.BoolOp op [a] pos) t:=λpins s σ H Q I hw=>BoolOp_one (h pins s σ H Q I hw)
theorem zl4 (ha:PE X a ta)(hb:PE X (.BoolOp .And (b::rest) pos) tb):PE X (.BoolOp .And (a::b::rest) pos) (znn ta tb):=by
 intro pins s σ H Q I h
 refine BoolOp_and (thn (ha pins s σ H _ I h) λv s1 hh9=>?_)
 obtain⟨x,H1,I1,r1,q1⟩:=hh9
 obtain⟨c,rfl,q1⟩:=q1
 cases r1
 refine u04 ?_
 cases c with
 | true=>exact hb pins s1 σ H1 Q I1 q1
 | false=>exact⟨.bl false,H1,I1,rfl,q1⟩
theorem zlh (ha:PE X a ta):PE X (.UnaryOp .Not a pos) (zny ta):=by
 intro pins s σ H Q I h
 refine UnaryOp_ (thn (ha pins s σ H _ I h) λv s1 hh9=>?_)
 obtain⟨x,H1,I1,r1,q1⟩:=hh9
 obtain⟨c,rfl,q1⟩:=q1
 cases r1
 exact not_of (u04 ⟨.bl (!c),H1,I1,rfl,q1⟩)
def tIf (t:TT)(ta tb:TE):TE:=fun σ H Q=>t σ H λc H1=>if c=true then ta σ H1 Q else tb σ H1 Q
theorem ziw {c:Expr}(hc:PT X c tA)(ha:PE X a ta)(hb:PE X b tb):PE X (.IfExp c a b pos) (tIf tA ta tb):=by
 intro pins s σ H Q I h
 refine wpAny_IfExp (thn (hc pins s σ H _ I h) λd s1 hh9=>?_)
 obtain⟨H1,I1,q1⟩:=hh9
 cases d with
 | true=>exact ha pins s1 σ H1 Q I1 q1
 | false=>exact hb pins s1 σ H1 Q I1 q1
end
def SqL (K:W.Frag)(H:Hp)(a:Addr)(xs:List V):Prop :=
 Rd H a (.lst xs) \/
  ∃ (o:Obj) (its:Array Value) (n:Nat),K.lookup a=some o/\o.cls=.type "list"/\o.dict=none/\o.data=.seq its n/\its.size<=sizeLine/\yk xs its.toList
def SqT (K:W.Frag)(H:Hp)(a:Addr)(xs:List V):Prop :=
 Rd H a (.tup xs) \/
  ∃ (o:Obj) (its:Array Value) (n:Nat),K.lookup a=some o/\o.cls=.type "tuple"/\o.data=.seq its n/\its.size<=sizeLine/\yk xs its.toList
def absV:Value->Option V
 | .none=>some .non
 | .bool b=>some (.bl b)
 | .int i _=>some (.int i)
 | .str x _=>some (.str x)
 | .bytes b _=>some (.byt b)
 | .float b _=>some (.flt b)
 | .ref a=>some (.ref a)
 | .type n=>some (.ty n)
 | _=>none
theorem xj.abs {x:V}{u:Value}(r:xj x u):absV u=some x:=by
 cases x with
 | non=>cases r;rfl
 | bl _=>cases r;rfl
 | int _=>obtain⟨t,rfl⟩:=r;rfl
 | str _=>obtain⟨t,rfl⟩:=r;rfl
 | byt _=>obtain⟨t,rfl⟩:=r;rfl
 | flt _=>obtain⟨t,rfl⟩:=r;rfl
 | ref _=>cases r;rfl
 | ty _=>cases r;rfl
theorem xj.inj {x y:V}{u:Value}(r:xj x u)(q:xj y u):x=y:=u0q (r.abs.symm.trans q.abs)
theorem yk.inj:∀ {xs ys:List V} {us:List Value},yk xs us->yk ys us->xs=ys:=by
 intro xs ys us h
 induction h generalizing ys with
 | nil=>intro h2;cases h2;rfl
 | cons r t ih=>intro h2;cases h2 with | cons r' t'=>rw[r.inj r',ih t']
section
variable {X:Cx}{pins:List (Addr × Obj)}{σ:St}{H:Hp}{s:Shared}{a:Addr}{xs ys:List V}
theorem SqL.of {K:W.Frag}(h:H a=some (.lst xs)):SqL K H a xs:=.inl (.inl h)
theorem SqT.of {K:W.Frag}(h:H a=some (.tup xs)):SqT K H a xs:=.inl (.inl h)
theorem Inv.list (I:Inv X pins σ H s)(h:SqL X.K H a xs):∃ its:List Value,yk xs its/\PlainL s.heap a its.toArray/\xs.length<=sizeLine:=by
 rcases h with h | ⟨o,its,n,hk,hc,hd,hs,hz,r⟩
 .obtain⟨z,its,n,r,e⟩:=h.ok I.hok
  exact⟨its,r,⟨_,n,e,rfl,rfl,rfl⟩,z⟩
 .refine⟨its.toList,r,⟨o,n,I.kIn a o hk,hc,hd,by simpa using hs⟩,?_⟩
  have e:=r.length
  simp only[j8]at e
  omega
theorem Inv.tuple (I:Inv X pins σ H s)(h:SqT X.K H a xs):∃ its:List Value,yk xs its/\IsTup s.heap a its.toArray/\xs.length<=sizeLine:=by
 rcases h with h | ⟨o,its,n,hk,hc,hs,hz,r⟩
 .obtain⟨z,its,r,p⟩:=h.ok I.hok
  exact⟨its,r,p,z⟩
 .refine⟨its.toList,r,⟨o,I.kIn a o hk,hc,n,by simpa using hs⟩,?_⟩
  have e:=r.length
  simp only[j8]at e
  omega
theorem Inv.list_inj (I:Inv X pins σ H s)(h:SqL X.K H a xs)(h':SqL X.K H a ys):xs=ys:=by
 obtain⟨its,r,⟨o,n,e,_,_,d⟩,_⟩:=I.list h
 obtain⟨its',r',⟨o',n',e',_,_,d'⟩,_⟩:=I.list h'
 rw[e]at e';cases e'
 rw[d]at d'
 injection d' with d1 _
 have:its=its':=by simpa using u05 Array.toList d1
 subst this
 exact r.inj r'
theorem Inv.tuple_inj (I:Inv X pins σ H s)(h:SqT X.K H a xs)(h':SqT X.K H a ys):xs=ys:=by
 obtain⟨its,r,⟨o,e,_,n,d⟩,_⟩:=I.tuple h
 obtain⟨its',r',⟨o',e',_,n',d'⟩,_⟩:=I.tuple h'
 rw[e]at e';cases e'
 rw[d]at d'
 injection d' with d1 _
 have:its=its':=by simpa using u05 Array.toList d1
 subst this
 exact r.inj r'
end
abbrev Cx.wish (X:Cx)(E:Value->Shared->Prop):Cx:={ X with xe:=E }
abbrev Cx.nox (X:Cx):Cx:=X.wish λ_ _=>False
theorem Cx.Ok.wish {X:Cx}(ok:X.Ok)(E:Value->Shared->Prop):(X.wish E).Ok :=
 ⟨ok.mod,ok.kind,ok.glob,ok.blt,ok.above,ok.inj,ok.has,ok.cab,ok.hd,ok.frames,ok.stk,ok.exf,ok.bs,ok.bsz,ok.noex,ok.exfs,ok.funs,ok.frf⟩
theorem Cx.Ok.unwish {X:Cx}{E:Value->Shared->Prop}(ok:(X.wish E).Ok):X.Ok :=
 ⟨ok.mod,ok.kind,ok.glob,ok.blt,ok.above,ok.inj,ok.has,ok.cab,ok.hd,ok.frames,ok.stk,ok.exf,ok.bs,ok.bsz,ok.noex,ok.exfs,ok.funs,ok.frf⟩
section
variable {X:Cx}{pins:List (Addr × Obj)}{σ:St}{H:Hp}{s:Shared}{E:Value->Shared->Prop}
theorem Inv.wish (I:Inv X pins σ H s)(E:Value->Shared->Prop):Inv (X.wish E) pins σ H s:=⟨I.ok.wish E,I.os,I.bare,I.base,I.loc,I.cell,I.free,I.freeC,I.pin,I.hok,I.len⟩
theorem Inv.unwish (I:Inv (X.wish E) pins σ H s):Inv X pins σ H s:=⟨I.ok.unwish,I.os,I.bare,I.base,I.loc,I.cell,I.free,I.freeC,I.pin,I.hok,I.len⟩
theorem SP.unwish {D:zch}{f:Flow}{s':Shared}(h:SP (X.wish E) pins D f s'):SP X pins D f s':=by
 cases f with
 | next=>obtain⟨σ',H',I,q⟩:=h;exact⟨σ',H',I.unwish,q⟩
 | brk=>obtain⟨σ',H',I,q⟩:=h;exact⟨σ',H',I.unwish,q⟩
 | cont=>obtain⟨σ',H',I,q⟩:=h;exact⟨σ',H',I.unwish,q⟩
 | ret u=>obtain⟨v,σ',H',I,r,q⟩:=h;exact⟨v,σ',H',I.unwish,r,q⟩
theorem PSs.nox {st:List Stmt}{t:TS}(h:PSs X.nox st t):PSs X st t:=λpins s σ H D I hw =>
 u0B (h pins s σ H D (I.wish _) hw) (λ_ _ q=>q.unwish) λ_ _ z=>False.elim z
end
section
variable {X:Cx}{st:Stmt}{rest:List Stmt}{t u:TS}{e:Expr}{te:TE}{pos:Pos}
def zle:TS:=λD σ H=>D.nx σ H
def tSeq (t u:TS):TS:=λD σ H=>t { D with nx:=u D } σ H
theorem zf4:PSs X [] zle:=λ_ _ σ H _ I h=>u2v ⟨σ,H,I,h⟩
theorem vn (h1:PS X st t)(h2:PSs X rest u):PSs X (st::rest) (tSeq t u):=by
 intro pins s σ H D I h
 refine wpAny_execs_cons (thn (h1 pins s σ H { D with nx:=u D } I h) λf s1 q=>?_)
 cases f with
 | next =>
  obtain⟨σ',H',I',q⟩:=q
  exact h2 pins s1 σ' H' D I' q
 | ret v=>exact q
 | brk=>exact q
 | cont=>exact q
theorem Vq (h1:PS X st t):PSs X [st] t:=by
 intro pins s σ H D I h
 refine wpAny_execs_cons (thn (h1 pins s σ H D I h) λf s1 q=>?_)
 cases f with
 | next=>exact u2v q
 | ret v=>exact q
 | brk=>exact q
 | cont=>exact q
theorem Inv.quiet {pins:List (Addr × Obj)}{σ:St}{H:Hp}{s:Shared}(I:Inv X pins σ H s):interactive X.env=false:=by simp[interactive,I.ok.kind]
def zna (te:TE):TS:=λD σ H=>te σ H λ_ H1=>D.nx σ H1
theorem zaV (he:PE X e te)(hs:swapsWith e none pos.line X.env=pure false:=by rfl):PS X (.Expr e pos) (zna te):=by
 intro pins s σ H D I h
 exact wpAny_Expr_any (thn (he pins s σ H _ I h) λv s1 ⟨x,H1,I1,r1,q1⟩=>⟨σ,H1,I1,q1⟩) I.quiet hs
def znf (te:TE):TS:=λD σ H=>te σ H D.rt
theorem zb5 (he:PE X e te):PS X (.Return (some e) pos) (znf te):=by
 intro pins s σ H D I h
 exact wpAny_Return_some (thn (he pins s σ H _ I h) λv s1 ⟨x,H1,I1,r1,q1⟩=>⟨x,σ,H1,I1,r1,q1⟩)
def tIfS (c:TT)(t u:TS):TS:=λD σ H=>c σ H λb H1=>if b=true then t D σ H1 else u D σ H1
theorem zjM {c:Expr}{a b:List Stmt}{tc:TT}(hc:PT X c tc)(ha:PSs X a t)(hb:PSs X b u):PS X (.If c a b pos) (tIfS tc t u):=by
 intro pins s σ H D I h
 refine wpAny_If (thn (hc pins s σ H _ I h) λd s1 hh9=>?_)
 obtain⟨H1,I1,q1⟩:=hh9
 cases d with
 | true=>exact ha pins s1 σ H1 D I1 q1
 | false=>exact hb pins s1 σ H1 D I1 q1
def zl2:TS:=λ_ _ _=>False
theorem zc4:PS X st zl2:=λ_ _ _ _ _ _ h=>h.elim
end
abbrev TG:=V->St->Hp->(St->Hp->Prop)->Prop
abbrev TGs:=List V->St->Hp->(St->Hp->Prop)->Prop
def PG (X:Cx)(target:Expr)(t:TG):Prop :=
 ∀ (pins:List (Addr × Obj)) (s:Shared) (σ:St) (H:Hp) (v:V) (u:Value) (Q:St->Hp->Prop),Inv X pins σ H s->xj v u->t v σ H Q ->
  wpAny (model X.prog X.w) X.A (assign target X.env u) (λ_ s'=>∃ σ' H',Inv X pins σ' H' s'/\Q σ' H') X.xe s
def PGs (X:Cx)(ts:List Expr)(t:TGs):Prop :=
 ∀ (pins:List (Addr × Obj)) (s:Shared) (σ:St) (H:Hp) (vs:List V) (us:List Value) (Q:St->Hp->Prop),Inv X pins σ H s->yk vs us->t vs σ H Q ->
  wpAny (model X.prog X.w) X.A (assignInOrder ((assignEach ts X.env).map (·.2)) us) (λ_ s'=>∃ σ' H',Inv X pins σ' H' s'/\Q σ' H') X.xe s
abbrev znA:=V->V->V->Hp->(Hp->Prop)->Prop
def PSet (X:Cx)(t:znA):Prop :=
 ∀ (pins:List (Addr × Obj)) (s:Shared) (σ:St) (H:Hp) (o i v:V) (ov iv u:Value) (Q:Hp->Prop),Inv X pins σ H s->xj o ov->xj i iv->xj v u->t o i v H Q ->
  wpAny (model X.prog X.w) X.A (setItem ov iv u) (λ_ s'=>∃ H',Inv X pins σ H' s'/\Q H') X.xe s
section
variable {X:Cx}{pos:Pos}
def VC (i:Nat):TG:=λv σ H Q=>Q (σ.set i (some v)) H
theorem zF {i:Nat}{x:Str}(hN:X.N.Nodup)(hi:X.N[i]?=some x)(hx:Loc X.env.scope x)(hf:X.fn x=true\/X.env.scope.names.lookup x=some .local:=by first | exact .inl rfl | exact .inr rfl | assumption):PG X (.Name x pos) (VC i):=by
 intro pins s σ H v u Q I r h
 exact wpAny_assign_Name (zaE I hN hi hx r (λs' I'=>⟨_,H,I',h⟩) hf)
def gNil:TGs:=λvs σ H Q=>vs=[]/\Q σ H
def zmZ (t:TG)(u:TGs):TGs:=λvs σ H Q=>∃ v r,vs=v::r/\t v σ H fun σ' H'=>u r σ' H' Q
theorem zjZ:PGs X [] gNil:=by
 intro pins s σ H vs us Q I r h
 obtain⟨e,h⟩:=h
 subst e
 cases r
 exact assignInOrder_nil ⟨σ,H,I,h⟩
theorem zg8 {e:Expr}{es:List Expr}{t:TG}{u:TGs}(h1:PG X e t)(h2:PGs X es u)
 (hs:(assignEach (e::es) X.env).map (·.2)=assign e X.env::(assignEach es X.env).map (·.2):=by rfl):PGs X (e::es) (zmZ t u):=by
 intro pins s σ H vs us Q I r h
 obtain⟨v,vr,e1,h⟩:=h
 subst e1
 cases r with
 | cons r rr =>
  rw[hs]
  refine assignInOrder_cons (thn (h1 pins s σ H _ _ _ I r h) λ_ s1 hh9=>?_)
  obtain⟨σ1,H1,I1,q1⟩:=hh9
  exact h2 pins s1 σ1 H1 _ _ Q I1 rr q1
def gTup (K:W.Frag)(n:Nat)(t:TGs):TG:=λv σ H Q=>∃ a xs,v=.ref a/\SqT K H a xs/\xs.length=n/\t xs σ H Q
theorem zmo {es:List Expr}{k:Nat}{t:TGs}{n:Nat}(hc:X.calm=true)(h:PGs X es t)
 (hn:(assignEach es X.env).length=n:=by rfl) (hst:(assignEach es X.env).findIdx? (·.1)=none:=by rfl):PG X (.Tuple es k pos) (gTup X.K n t):=by
 intro pins s σ H v u Q I r hw
 obtain⟨a,xs,e1,hq,hl,hw⟩:=hw
 subst e1
 cases r
 obtain⟨its,rv,ht,hz⟩:=I.tuple hq
 refine assign_Tuple_tuple (I.ok.hd hc) ht (by simp[hn,<- hl,rv.length]) hst λh' hx=>?_
 have I1:Inv X pins σ H { s with heap:=h' }:=I.kept (t':=s.toks) λb o e=>hx b o (p4 (j7 e)) e
 exact h pins _ σ H xs _ Q I1 (by simpa using rv) hw
def gSub (to ti:TE)(t:znA):TG:=λv σ H Q=>to σ H λo H1=>ti σ H1 λi H2=>t o i v H2 λH3=>Q σ H3
theorem zkL {o i:Expr}{to ti:TE}{t:znA}(ho:PE X o to)(hi:PE X i ti)(hs:PSet X t)
 (ha:∀ v,assign (.Subscript o i pos) X.env v=(do
  let ov<-holding [v] (eval o X.env)
  let iv<-holding [v,ov] (eval i X.env)
  standAt pos
  holding [v,ov,iv] (setItem ov iv v)
  release [v,ov,iv] []):=by intro _;rfl):PG X (.Subscript o i pos) (gSub to ti t):=by
 intro pins s σ H v u Q I r h
 rw[ha]
 refine u0 (u0M (thn (ho pins s σ H _ I h) λov s1 hh9=>?_))
 obtain⟨x,H1,I1,r1,q1⟩:=hh9
 refine u0 (u0M (thn (hi pins s1 σ H1 _ I1 q1) λiv s2 hh9=>?_))
 obtain⟨y,H2,I2,r2,q2⟩:=hh9
 refine u0 (wpAny_standAt (u0 (u0M (thn (hs pins s2 σ H2 x y v ov iv u _ I2 r1 r2 r q2) λ_ s3 hh9=>?_))))
 obtain⟨H3,I3,q3⟩:=hh9
 exact wpAny_release ⟨σ,H3,I3,q3⟩
def zku (te:TE)(g:TG):TS:=λD σ H=>te σ H λx H1=>g x σ H1 D.nx
theorem zmk {tg e:Expr}{te:TE}{g:TG}(he:PE X e te)(hg:PG X tg g)(hs:swapsWithSole [tg] e pos.line X.env=pure false:=by rfl)(hw:swappedStores [tg] e X.env=pure none:=by rfl)
 (h1:(assignEach [tg] X.env).map (·.2)=[assign tg X.env]:=by rfl):PS X (.Assign [tg] e pos) (zku te g):=by
 intro pins s σ H D I h
 refine wpAny_Assign_stores (thn (he pins s σ H _ I h) λv s1 hh9=>?_) hs hw
 obtain⟨x,H1,I1,r1,q1⟩:=hh9
 rw[h1]
 exact thn (hg pins s1 σ H1 x v _ I1 r1 q1) λ_ s2 q=>q
theorem VY {i:Nat}{x:Str}{e:Expr}{te:TE}{pos':Pos}(hN:X.N.Nodup)(hi:X.N[i]?=some x)(hx:Loc X.env.scope x)(he:PE X e te)(hs:swapsWith e (some (.Name x pos')) pos.line X.env=pure false:=by rfl)(hf:X.fn x=true\/X.env.scope.names.lookup x=some .local:=by first | exact .inl rfl | exact .inr rfl | assumption) :
 PS X (.Assign [.Name x pos'] e pos) (zku te (VC i)):=by
 intro pins s σ H D I h
 refine wpAny_Assign_Name (thn (he pins s σ H _ I h) λv s1 hh9=>?_) hs
 obtain⟨y,H1,I1,r1,q1⟩:=hh9
 exact zaE I1 hN hi hx r1 (λs2 I2=>⟨_,H1,I2,q1⟩) hf
def zkY (c:TT)(tb:TS):TS:=λD σ H=>∃ W:Nat->St->Hp->Prop,(∃ m,W m σ H)/\∀ m σ H,W m σ H ->
 c σ H λb H1=>if b=true then ∃ N:St->Hp->Prop,(∀ σ' H',N σ' H'->∃ m',m' < m/\W m' σ' H')/\tb { D with nx:=N,ct:=N,bk:=D.nx } σ H1 else D.nx σ H1
theorem ziy {c:Expr}{body:List Stmt}{tc:TT}{tb:TS}(hp:PassesOwn (model X.prog X.w) X.A X.env X.xe)(hc:PT X c tc)(hb:PSs X body tb):PS X (.While c body [] pos) (zkY tc tb):=by
 intro pins s σ H D I h
 obtain⟨W,⟨m0,w0⟩,turn⟩:=h
 refine wpAny_While (codeAny_whileLoop (λn s'=>∃ σ' H',Inv X pins σ' H' s'/\W n σ' H') ?_ m0 ⟨σ,H,I,w0⟩)
 rintro n s1 ⟨σ1,H1,I1,w1⟩
 refine u1I hp (thn (hc pins s1 σ1 H1 _ I1 (turn n σ1 H1 w1)) λb s2 hh9=>?_)
 obtain⟨H2,I2,q2⟩:=hh9
 cases b with
 | true =>
  obtain⟨N,hN,q2⟩:=q2
  rw[j4 rfl]
  refine u1I hp (thn (hb pins s2 σ1 H2 _ I2 q2) λf s3 q3=>?_)
  cases f with
  | next =>
   obtain⟨σ3,H3,I3,n3⟩:=q3
   obtain⟨m',hm,w3⟩:=hN σ3 H3 n3
   exact⟨m',hm,σ3,H3,I3,w3⟩
  | cont =>
   obtain⟨σ3,H3,I3,n3⟩:=q3
   obtain⟨m',hm,w3⟩:=hN σ3 H3 n3
   exact⟨m',hm,σ3,H3,I3,w3⟩
  | brk=>exact q3
  | ret v=>exact q3
 | false =>
  rw[j6 u6]
  exact u2v ⟨σ1,H2,I2,q2⟩
end
structure It where
 go:Nat->Hp->Prop
 yld:Nat->Hp->V->Hp->Prop
 stop:Nat->Hp->Prop
def zaU (X:Cx)(pins:List (Addr × Obj))(H:Hp)(b:Addr):Prop :=
 H b=none/\b≠X.env.locals/\b∉X.fs/\(b∈X.ex\/X.s₀.heap.objs.size<=b)/\(∀ x c,X.env.cells.lookup x=some c->c≠b)/\∀ p∈X.pn++pins,p.1≠b
theorem Inv.fpOk {X:Cx}{pins:List (Addr × Obj)}{σ:St}{H H':Hp}{s:Shared}{b:Addr}(I:Inv X pins σ H s)(hb:s.heap.objs.size<=b)(hn:H' b=none):zaU X pins H' b:=by
 refine⟨hn,u2Q (d7 I.lt hb),I.nofs hb,.inr (u0H I.sz hb),λx c e z=>?_,λp hp z=>?_⟩
 .obtain⟨v,q⟩:=I.cell x c e
  exact absurd (d7 q.lt (by rw[z];exact hb)) (u0W _)
 .exact absurd (d7 (j7 (I.pin p hp).1) (by rw[z];exact hb)) (u0W _)
structure ziJ (P:Program) (w:World) (K:W.Frag) (tg:Expr) (J:It) (fp:List Addr) (it:Addr) (tn:Nat->Heap->Prop):Prop where
 mem:it∈fp
 obj:∀ i h,tn i h->∀ b∈fp,∃ o,h.get? b=some o/\∀ v,o.data≠.cell v
 keep:∀ i h h',tn i h->(∀ b∈fp,∀ o,h.get? b=some o->h'.get? b=some o)->tn i h'
 item:∀ (X:Cx),X.prog=P->X.w=w->X.K=K->X.calm=true->∀ (i:Nat) (pins:List (Addr × Obj)) (s:Shared) (σ:St) (H:Hp) (E:Value->Shared->Prop),Inv X pins σ H s->(∀ b∈fp,zaU X pins H b)->tn i s.heap->J.go i H ->
  wpAny (model P w) X.A (pyNext (.ref it)) (λr s1=>∃ u,r=some u /\
   wpAny (model P w) X.A (letOwnedTupleGo tg (.ref it) u) (λ_ s2=>∃ x H',Inv X pins σ H' s2/\xj x u/\J.yld i H x H'/\tn (i+1) s2.heap/\∀ b∈fp,H' b=none) E s1) E s
 done:∀ (X:Cx),X.prog=P->X.w=w->X.K=K->X.calm=true->∀ (i:Nat) (pins:List (Addr × Obj)) (s:Shared) (σ:St) (H:Hp) (E:Value->Shared->Prop),Inv X pins σ H s->(∀ b∈fp,zaU X pins H b)->tn i s.heap->J.stop i H ->
  wpAny (model P w) X.A (pyNext (.ref it)) (λr s1=>r=none/\Inv X pins σ H s1) E s
 self:∀ (A:Around) (i:Nat) (s:Shared) (Q:Value->Shared->Prop) (E:Value->Shared->Prop),tn i s.heap->Q (.ref it) s->wpAny (model P w) A (pyIter (.ref it)) Q E s
abbrev TI:=St->Hp->(It->Hp->Prop)->Prop
def PIE (X:Cx)(pins:List (Addr × Obj))(σ:St)(tg:Expr)(R:It->Hp->Prop)(itv:Value)(s2:Shared):Prop :=
 ∃ (it:Addr) (fp:List Addr) (tn:Nat->Heap->Prop) (J:It) (H':Hp),itv=.ref it/\Inv X pins σ H' s2/\ziJ X.prog X.w X.K tg J fp it tn/\tn 0 s2.heap/\(∀ b∈fp,zaU X pins H' b)/\R J H'
def PI (X:Cx)(tg iter:Expr)(wi:TI):Prop :=
 ∀ (pins:List (Addr × Obj)) (s:Shared) (σ:St) (H:Hp) (R:It->Hp->Prop),Inv X pins σ H s->wi σ H R ->
  wpAny (model X.prog X.w) X.A (eval iter X.env) (λv s1=>wpAny (model X.prog X.w) X.A (pyIter v) (PIE X pins σ tg R) X.xe s1) X.xe s
theorem zhW {M:Model}{A:Around}{E:Value→Shared→Prop}{s:Shared}{tg:Expr}{it:Addr}{u:Value}{o:Obj}{n:String}{vs:Array Value}{Q:Unit→Shared→Prop}(ho:s.heap.get? it=some o)(hc:o.cls=.type n)(hd:o.data=.fields vs)
    (hn:["enumerate","zip","dict_itemiterator","dict_reverseitemiterator","odict_iterator","itertools.zip_longest","itertools.pairwise"].contains n=false) (hQ:Q () s):wpAny M A (letOwnedTupleGo tg (.ref it) u) Q E s:=by
  unfold letOwnedTupleGo
  cases tg <;> first
    | exact t7 hQ
    | (cases u <;> first
        | exact t7 hQ
        | (refine u0 (wpAny_load ho ?_)
           rw [hc,hd]
           show wpAny M A (if (["enumerate","zip","dict_itemiterator","dict_reverseitemiterator","odict_iterator","itertools.zip_longest","itertools.pairwise"].contains n&&vs[0]? == some (rawInt _))=true then _ else _) Q E s
           rw [j6 (by intro h;rw [hn,Bool.false_and] at h;cases h)]
           exact t7 hQ))
def Itl (K:W.Frag)(a:Addr):It :=
 ⟨λi H=>∃ xs x,SqL K H a xs/\xs[i]?=some x,λi H x H'=>H'=H/\∀ xs,SqL K H a xs->xs[i]?=some x,λi H=>∃ xs,SqL K H a xs/\xs.length<=i⟩
def Itt (K:W.Frag)(a:Addr):It :=
 ⟨λi H=>∃ xs x,SqT K H a xs/\xs[i]?=some x,λi H x H'=>H'=H/\∀ xs,SqT K H a xs->xs[i]?=some x,λi H=>∃ xs,SqT K H a xs/\xs.length<=i⟩
def Itr (lo:Int)(n:Nat):It:=⟨λi _=>i < n,λi H x H'=>H'=H/\x=.int (lo+i),λi _=>n<=i⟩
theorem zfh {P:Program}{w:World}{K:W.Frag}{tg:Expr}(a it:Addr):ziJ P w K tg (Itl K a) [it] it (λi h=>h.IsListIter it a i) where
 mem:=by simp
 obj:=λi h st b hb=>by
  have e:b=it:=by simpa using hb
  subst e
  obtain⟨o,e,c,d⟩:=st
  exact⟨o,e,λv z=>by rw[d]at z;cases z⟩
 keep:=λi h h' st k=>st.at λo e=>k it (by simp) o e
 item:=by
  intro X hP hw hK hc i pins s σ H E I hf st hg
  subst hP hw hK
  obtain⟨xs,x,hq,hx⟩:=hg
  obtain⟨its,rv,p,hz⟩:=I.list hq
  obtain⟨u,hu,ru⟩:=rv.get hx
  obtain⟨f0,f1,f2,f3,f4,f5⟩:=hf it (by simp)
  refine wpAny_pyNext_list_item st p.isList (x:=u) (by simpa using hu) λh' st' sb=>?_
  have I1:Inv X pins σ H { s with heap:=h' }:=I.turned (t':=s.toks) (λb o hb e=>(sb.2 b hb).trans e) f0 f1 f3 f4 f5
  obtain⟨o,e,c,d⟩:=id st'
  exact⟨u,rfl,zhW (s:={ s with heap:=h' }) e c d (by decide) ⟨x,H,I1,ru,⟨rfl,λys hy=>by rw[I.list_inj hy hq];exact hx⟩,st',λb hb=>(hf b hb).1⟩⟩
 done:=by
  intro X hP hw hK hc i pins s σ H E I hf st hg
  subst hP hw hK
  obtain⟨xs,hq,hx⟩:=hg
  obtain⟨its,rv,p,hz⟩:=I.list hq
  obtain⟨f0,f1,f2,f3,f4,f5⟩:=hf it (by simp)
  have hl:=rv.length
  exact wpAny_pyNext_list_end (I.ok.hd hc) st p.isList (by simp;omega) λh' eb=>⟨rfl,I.turned (t':=s.toks) (λb o hb e=>eb b o hb e) f0 f1 f3 f4 f5⟩
 self:=λ_ _ _ _ _ st h=>wpAny_pyIter_listiter st h
theorem zek {P:Program}{w:World}{K:W.Frag}{tg:Expr}(a it:Addr):ziJ P w K tg (Itt K a) [it] it (λi h=>h.IsTupleIter it a i) where
 mem:=by simp
 obj:=λi h st b hb=>by
  have e:b=it:=by simpa using hb
  subst e
  obtain⟨o,e,c,d⟩:=st
  exact⟨o,e,λv z=>by rw[d]at z;cases z⟩
 keep:=λi h h' st k=>st.at λo e=>k it (by simp) o e
 item:=by
  intro X hP hw hK hc i pins s σ H E I hf st hg
  subst hP hw hK
  obtain⟨xs,x,hq,hx⟩:=hg
  obtain⟨its,rv,p,hz⟩:=I.tuple hq
  obtain⟨u,hu,ru⟩:=rv.get hx
  obtain⟨f0,f1,f2,f3,f4,f5⟩:=hf it (by simp)
  refine wpAny_pyNext_tuple_item st (show s.heap.IsTuple a its.toArray from p) (x:=u) (by simpa using hu) λh' st' sb=>?_
  have I1:Inv X pins σ H { s with heap:=h' }:=I.turned (t':=s.toks) (λb o hb e=>(sb.2 b hb).trans e) f0 f1 f3 f4 f5
  obtain⟨o,e,c,d⟩:=id st'
  exact⟨u,rfl,zhW (s:={ s with heap:=h' }) e c d (by decide) ⟨x,H,I1,ru,⟨rfl,λys hy=>by rw[I.tuple_inj hy hq];exact hx⟩,st',λb hb=>(hf b hb).1⟩⟩
 done:=by
  intro X hP hw hK hc i pins s σ H E I hf st hg
  subst hP hw hK
  obtain⟨xs,hq,hx⟩:=hg
  obtain⟨its,rv,p,hz⟩:=I.tuple hq
  obtain⟨f0,f1,f2,f3,f4,f5⟩:=hf it (by simp)
  have hl:=rv.length
  exact wpAny_pyNext_tuple_end (I.ok.hd hc) st (show s.heap.IsTuple a its.toArray from p) (by simp;omega) λh' eb=>⟨rfl,I.turned (t':=s.toks) (λb o hb e=>eb b o hb e) f0 f1 f3 f4 f5⟩
 self:=λ_ _ _ _ _ st h=>wpAny_pyIter_tupleiter st h
theorem zdQ {P:Program}{w:World}{K:PySem.W.Frag}{tg:Expr}(it:Addr)(lo:Int)(n:Nat):ziJ P w K tg (Itr lo n) [it] it (λi h=>IsRangeIter h it (lo+(i:Nat)*1) ((n:Int) - (i:Nat)) 1) where
 mem:=by simp
 obj:=λi h st b hb=>by
  have e:b=it:=by simpa using hb
  subst e
  exact⟨_,st,λv z=>by
   have z':Data.fields _=Data.cell v:=z
   cases z'⟩
 keep:=λi h h' st k=>k it (by simp) _ st
 item:=by
  intro X hP hw hK hc i pins s σ H E I hf st hg
  subst hP hw hK
  obtain⟨f0,f1,f2,f3,f4,f5⟩:=hf it (by simp)
  have W:=Walks.range (prog:=X.prog) (w:=X.w) (I.ok.hd hc) it lo 1 n
  refine W.item i s _ _ hg st λv h' tk hv st' kk=>?_
  obtain⟨t,rfl⟩:=hv
  have I1:Inv X pins σ H { s with heap:=h',toks:=tk }:=I.turned (λb o hb e=>kk b o (by simpa using hb) e) f0 f1 f3 f4 f5
  refine⟨_,rfl,zhW (s:={ s with heap:=h',toks:=tk }) (n:="range_iterator") st' rfl rfl (by decide) ⟨.int (lo+i),H,I1,⟨t,?_⟩,⟨rfl,rfl⟩,st',λb hb=>(hf b hb).1⟩⟩
  rw[Int.mul_one]
 done:=by
  intro X hP hw hK hc i pins s σ H E I hf st hg
  subst hP hw hK
  obtain⟨f0,f1,f2,f3,f4,f5⟩:=hf it (by simp)
  exact wpAny_pyNext_range_end (I.ok.hd hc) st (by have:n<=i:=hg;omega) λh' eb=>⟨rfl,I.turned (t':=s.toks) (λb o hb e=>eb b o hb e) f0 f1 f3 f4 f5⟩
 self:=λ_ _ _ _ _ st h=>wpAny_pyIter_rangeiter st h
section
variable {X:Cx}{tg:Expr}
theorem zdH {pins:List (Addr × Obj)}{σ:St}{H:Hp}{s:Shared}{R:It->Hp->Prop}{E:Value->Shared->Prop}{lo hi:Int}{t u v:Tok}{tk:Nat}(I:Inv X pins σ H s)(h1:-(2 ^ 62)<=lo)(h2:lo < 2 ^ 62)(h3:-(2 ^ 62)<=hi)(h4:hi < 2 ^ 62)
 (q:R (Itr lo (hi - lo).toNat) H):wpAny (model X.prog X.w) X.A (pyIter (.ref s.heap.objs.size)) (PIE X pins σ tg R) E { s with heap:=s.heap.push { cls:=.type "range",data:=.fields #[.int lo t,.int hi u,.int 1 v] },toks:=tk }:=by
 refine wpAny_pyIter_range (IsRange.new ..) (small_one h1 h2 h3 h4) ?_
 have I1:Inv X pins σ H { s with heap:=s.heap.push { cls:=.type "range",data:=.fields #[.int lo t,.int hi u,.int 1 v] },toks:=tk }:=I.kept λb o e=>u5 _ e
 refine⟨(s.heap.push { cls:=.type "range",data:=.fields #[.int lo t,.int hi u,.int 1 v] }).objs.size,[(s.heap.push { cls:=.type "range",data:=.fields #[.int lo t,.int hi u,.int 1 v] }).objs.size],_,_,H,rfl,
  I1.kept (t':=tk) λb o e=>u5 _ e,zdQ _ lo (hi - lo).toNat,?_,λb hb=>?_,q⟩
 .have e1:lo+((0:Nat):Int)*1=lo:=by simp
  have e2:(((hi - lo).toNat:Nat):Int) - ((0:Nat):Int)=Builtin.Range.rangeSize lo hi 1:=by rw[rangeSize_one];split <;> omega
  show IsRangeIter _ _ (lo+((0:Nat):Int)*1) ((((hi - lo).toNat:Nat):Int) - ((0:Nat):Int)) 1
  rw[e1,e2]
  exact r6 _ rfl
 .have e:b=(s.heap.push { cls:=.type "range",data:=.fields #[.int lo t,.int hi u,.int 1 v] }).objs.size:=by simpa using hb
  subst e
  exact I1.fpOk (q5 _) (I1.hok.fresh (q5 _))
def znq (ta:TA):TI:=fun σ H R=>ta σ H λvs H1=>∃ j:Int,vs=[.int j]/\-(2 ^ 62)<=j/\j < 2 ^ 62/\R (Itr 0 j.toNat) H1
def zmP (ta:TA):TI:=fun σ H R=>ta σ H λvs H1=>∃ i j:Int,vs=[.int i,.int j]/\(-(2 ^ 62)<=i/\i < 2 ^ 62/\-(2 ^ 62)<=j/\j < 2 ^ 62)/\R (Itr i (j - i).toNat) H1
theorem zcc {a:Expr} {ta:TA} {p pos:Pos} (hg:Gl X "range") (hm:X.mg "range"=none) (ha:PA X [a] ta) (hs:starEach [a] X.env=[(false,eval a X.env)]:=by rfl):PI X tg (.Call (.Name "range" p) [a] [] pos) (znq ta):=by
 intro pins s σ H R I h
 refine Call_ (Yn I hg hm boot_range (u0r (thn (ha pos pins s σ H _ I h) λus s1 hh9=>?_) hs rfl))
 obtain⟨vs,H1,I1,r1,q1⟩:=hh9
 obtain⟨j,e,q1,q2,q⟩:=q1
 subst e
 cases r1 with
 | cons r rr =>
  cases rr
  obtain⟨t,rfl⟩:=r
  exact call_range_1 (zdH I1 (by omega) (by omega) q1 q2 (by simpa using q))
theorem zf2 {a b:Expr} {ta:TA} {p pos:Pos} (hg:Gl X "range") (hm:X.mg "range"=none) (ha:PA X [a,b] ta) (hs:starEach [a,b] X.env=[(false,eval a X.env),(false,eval b X.env)]:=by rfl) (hs2:starEach [b] X.env=[(false,eval b X.env)]:=by rfl) :
 PI X tg (.Call (.Name "range" p) [a,b] [] pos) (zmP ta):=by
 intro pins s σ H R I h
 refine Call_ (Yn I hg hm boot_range (u0r (thn (ha pos pins s σ H _ I h) λus s1 hh9=>?_) (by rw[hs,hs2]) (by rw[hs2];rfl)))
 obtain⟨vs,H1,I1,r1,q1⟩:=hh9
 obtain⟨i,j,e,⟨q1,q2,q3,q4⟩,q⟩:=q1
 subst e
 cases r1 with
 | cons r rr =>
  cases rr with
  | cons r' rr =>
   cases rr
   obtain⟨t,rfl⟩:=r
   obtain⟨t',rfl⟩:=r'
   exact call_range_2 (zdH I1 q1 q2 q3 q4 q)
def tFor (wi:TI)(g:TG)(tb:TS):TS:=λD σ H=>wi σ H λJ H1=>∃ W:Nat->Nat->St->Hp->Prop,(∃ m,W 0 m σ H1)/\∀ i m σ H,W i m σ H ->
 (J.stop i H/\D.nx σ H)\/(J.go i H/\∃ N:St->Hp->Prop,(∀ σ' H',N σ' H'->∃ m',m' < m/\W (i+1) m' σ' H')/\∀ x H',J.yld i H x H'->g x σ H' fun σ2 H2=>tb { D with nx:=N,ct:=N,bk:=D.nx } σ2 H2)
def YB (fp:List Addr)(h:Heap):List (Addr × Obj):=fp.filterMap λb=>(h.get? b).map λo=>(b,o)
theorem yS {fp:List Addr}{h:Heap}{b:Addr}{o:Obj}(hb:b∈fp)(e:h.get? b=some o):(b,o)∈YB fp h:=u3j.mpr ⟨b,hb,by rw[e];rfl⟩
theorem zga {fp:List Addr}{h:Heap}{p:Addr × Obj}(hp:p∈YB fp h):p.1∈fp/\h.get? p.1=some p.2:=by
 obtain⟨b,hb,e⟩:=u3j.mp hp
 cases q:h.get? b with
 | none=>rw[q]at e;cases e
 | some o =>
  rw[q]at e
  have e':(b,o)=p:=u0q e
  subst e'
  exact⟨hb,q⟩
theorem Inv.pinned {pins:List (Addr × Obj)}{σ:St}{H:Hp}{s:Shared}{fp:List Addr}(I:Inv X pins σ H s)(hf:∀ b∈fp,zaU X pins H b)(ho:∀ b∈fp,∃ o,s.heap.get? b=some o/\∀ v,o.data≠.cell v):Inv X (pins++YB fp s.heap) σ H s :=
 I.pins_of λp hp=>(u0G.mp hp).elim (λz=>I.pin p (d9 _ z)) λz=>by
  obtain⟨hb,e⟩:=zga z
  obtain⟨f0,f1,f2,_⟩:=hf p.1 hb
  obtain⟨o,e',d⟩:=ho p.1 hb
  rw[e]at e';cases e'
  exact⟨e,f0,f1,f2,d⟩
theorem Inv.unpinned {pins pl:List (Addr × Obj)}{σ:St}{H:Hp}{s:Shared}(I:Inv X (pins++pl) σ H s):Inv X pins σ H s:=I.pins_of λp hp=>I.pin p (d9 _ (u1F _ hp))
theorem zeV {iter:Expr}{body:List Stmt}{wi:TI}{g:TG}{tb:TS}{pos:Pos}(hp:PassesOwn (model X.prog X.w) X.A X.env X.xe)(hc:X.calm=true)(hi:PI X tg iter wi)(hg:PG X tg g)(hb:PSs X body tb)
 (hs:∀ x,foldedSetIterable iter X.env x=pure x:=by intro _;rfl):PS X (.For tg iter body [] pos) (tFor wi g tb):=by
 intro pins s σ H D I h
 refine wpAny_For (thn (hi pins s σ H _ I h) λv s1 h1=>thn h1 λitv s2 h2=>?_) hs
 obtain⟨it,fp,tn,J,H2,e,I2,T,st2,f2,W,⟨m0,w0⟩,turn⟩:=h2
 subst e
 -- what stays true of the iterator's objects through the loop
 have stat:∀ {H':Hp},(∀ b∈fp,H' b=none)->∀ b∈fp,zaU X pins H' b:=λhn b hb=>⟨hn b hb,(f2 b hb).2⟩
 refine codeAny_forLoop_any (λn s'=>∃ i σ' H',Inv X pins σ' H' s'/\tn i s'.heap/\(∀ b∈fp,H' b=none)/\W i n σ' H') ?_ m0 ⟨0,σ,H2,I2,st2,λb hb=>(f2 b hb).1,w0⟩
 rintro n s3 ⟨i,σ3,H3,I3,st3,fr3,w3⟩
 rcases turn i n σ3 H3 w3 with ⟨stop,qn⟩ | ⟨go,N,hN,step⟩
 .refine u1I hp (thn (T.done X rfl rfl rfl hc i pins s3 σ3 H3 X.xe I3 (stat fr3) st3 stop) λr s4 hh9=>?_)
  obtain⟨hr,I4⟩:=hh9
  subst hr
  exact u2v ⟨σ3,H3,I4,qn⟩
 .refine u1I hp (thn (T.item X rfl rfl rfl hc i pins s3 σ3 H3 X.xe I3 (stat fr3) st3 go) λr s4 hh9=>?_)
  obtain⟨u,hr,h4⟩:=hh9
  subst hr
  refine u1I hp (thn h4 λ_ s5 hh9=>?_)
  obtain⟨x,H5,I5,r5,y5,st5,fr5⟩:=hh9
  have I5':=I5.pinned (stat fr5) (T.obj _ _ st5)
  refine u1I hp (thn (hg _ s5 σ3 H5 x u _ I5' r5 (step x H5 y5)) λ_ s6 hh9=>?_)
  obtain⟨σ6,H6,I6,q6⟩:=hh9
  refine u1I hp (thn (hb _ s6 σ6 H6 _ I6 q6) λf s7 q7=>?_)
  have again:∀ {σ7:St} {H7:Hp},Inv X (pins++YB fp s5.heap) σ7 H7 s7->N σ7 H7->∃ m,m < n/\∃ i σ' H',Inv X pins σ' H' s7/\tn i s7.heap/\(∀ b∈fp,H' b=none)/\W i m σ' H':=λ{σ7 H7} I7 n7=>by
   obtain⟨m',hm,w7⟩:=hN σ7 H7 n7
   refine⟨m',hm,i+1,σ7,H7,I7.unpinned,T.keep _ _ _ st5 λb hb o e=>(I7.pin (b,o) (d9 _ (d9 _ (yS hb e)))).1,λb hb=>?_,w7⟩
   obtain⟨o,e,d⟩:=T.obj _ _ st5 b hb
   exact(I7.pin (b,o) (d9 _ (d9 _ (yS hb e)))).2.1
  cases f with
  | next=>obtain⟨σ7,H7,I7,n7⟩:=q7;exact again I7 n7
  | cont=>obtain⟨σ7,H7,I7,n7⟩:=q7;exact again I7 n7
  | brk=>obtain⟨σ7,H7,I7,q7⟩:=q7;exact⟨σ7,H7,I7.unpinned,q7⟩
  | ret v=>obtain⟨x7,σ7,H7,I7,r7,q7⟩:=q7;exact⟨x7,σ7,H7,I7.unpinned,r7,q7⟩
end
abbrev R2:=V->V->Hp->VK->Prop
def OpR (X:Cx)(f:Value->Value->Sem Value)(r:R2):Prop :=
 ∀ (pins:List (Addr × Obj)) (s:Shared) (σ:St) (H:Hp) (x y:V) (v u:Value) (Q:VK),Inv X pins σ H s->xj x v->xj y u->r x y H Q ->
  wpAny (model X.prog X.w) X.A (f v u) (EP X pins σ Q) X.xe s
def UnR (X:Cx)(f:Value->Sem Value)(r:V->Hp->VK->Prop):Prop :=
 ∀ (pins:List (Addr × Obj)) (s:Shared) (σ:St) (H:Hp) (x:V) (v:Value) (Q:VK),Inv X pins σ H s->xj x v->r x H Q ->
  wpAny (model X.prog X.w) X.A (f v) (EP X pins σ Q) X.xe s
def Xw (X:Cx)(f:Value)(r:List V->Hp->VK->Prop):Prop :=
 ∀ (pins:List (Addr × Obj)) (s:Shared) (σ:St) (H:Hp) (xs:List V) (us:List Value) (Q:VK),Inv X pins σ H s->yk xs us->r xs H Q ->
  wpAny (model X.prog X.w) X.A (call f us) (EP X pins σ Q) X.xe s
def tOp (r:R2)(ta tb:TE):TE:=fun σ H Q=>ta σ H λx H1=>tb σ H1 λy H2=>r x y H2 Q
def tUn (r:V->Hp->VK->Prop)(ta:TE):TE:=fun σ H Q=>ta σ H λx H1=>r x H1 Q
def rI (C:Int->Int->Prop)(g:Int->Int->V):R2:=λx y H Q=>∃ i j,x=.int i/\y=.int j/\C i j/\Q (g i j) H
def rI0 (g:Int->Int->V):R2:=λx y H Q=>∃ i j,x=.int i/\y=.int j/\Q (g i j) H
def rU (g:Int->V):V->Hp->VK->Prop:=λx H Q=>∃ i,x=.int i/\Q (g i) H
section
variable {X:Cx}{a b c:Expr}{ta tb tc:TE}{pos:Pos}
theorem znj (ha:PE X a ta)(hb:PE X b tb){pins:List (Addr × Obj)}{s:Shared}{σ:St}{H:Hp}{R:V->V->Hp->Prop}(I:Inv X pins σ H s)
 (h:ta σ H λx H1=>tb σ H1 λy H2=>R x y H2) {Q:Value->Shared->Prop} {f:Value->Value->Sem Value}
 (hf:∀ v u s2 x y H2,Inv X pins σ H2 s2->xj x v->xj y u->R x y H2->wpAny (model X.prog X.w) X.A (f v u) Q X.xe s2) :
 wpAny (model X.prog X.w) X.A (eval a X.env) (λv s₁=>wpAny (model X.prog X.w) X.A (eval b X.env) (λu s₂=>wpAny (model X.prog X.w) X.A (f v u) Q X.xe s₂) X.xe s₁) X.xe s:=by
 refine thn (ha pins s σ H _ I h) λv s1 hh9=>?_
 obtain⟨x,H1,I1,r1,q1⟩:=hh9
 refine thn (hb pins s1 σ H1 _ I1 q1) λu s2 hh9=>?_
 obtain⟨y,H2,I2,r2,q2⟩:=hh9
 exact hf v u s2 x y H2 I2 r1 r2 q2
theorem zev {op:Operator}{r:R2}(ho:OpR X (binaryOp op) r)(ha:PE X a ta)(hb:PE X b tb):PE X (.BinOp a op b pos) (tOp r ta tb):=by
 intro pins s σ H Q I h
 exact wpAny_BinOp (znj ha hb I h λv u s2 x y H2 I2 rx ry q=>ho pins s2 σ H2 x y v u Q I2 rx ry q)
theorem zlL {op:UnaryOp}{r:V->Hp->VK->Prop}(ho:UnR X (unaryOp op) r)(ha:PE X a ta):PE X (.UnaryOp op a pos) (tUn r ta):=by
 intro pins s σ H Q I h
 exact UnaryOp_ (thn (ha pins s σ H _ I h) λv s1 ⟨x,H1,I1,r1,q1⟩=>ho pins s1 σ H1 x v Q I1 r1 q1)
theorem opI {f:Value->Value->Sem Value}{C:Int->Int->Prop}{g:Int->Int->Int}
 (rule:∀ (i j:Int) (t u:Tok) (s:Shared) (Q:Value->Shared->Prop) (E:Value->Shared->Prop),C i j->Q (.int (g i j) s.toks) { s with toks:=s.toks+1 }->wpAny (model X.prog X.w) X.A (f (.int i t) (.int j u)) Q E s) :
 OpR X f (rI C λi j=>.int (g i j)):=by
 intro pins s σ H x y v u Q I rx ry h
 obtain⟨i,j,rfl,rfl,hc,q⟩:=h
 obtain⟨t,rfl⟩:=rx
 obtain⟨t',rfl⟩:=ry
 exact rule i j t t' s _ _ hc ⟨.int (g i j),H,I.tok _,⟨_,rfl⟩,q⟩
theorem opI0 {f:Value->Value->Sem Value}{g:Int->Int->Int}
 (rule:∀ (i j:Int) (t u:Tok) (s:Shared) (Q:Value->Shared->Prop) (E:Value->Shared->Prop),Q (.int (g i j) s.toks) { s with toks:=s.toks+1 }->wpAny (model X.prog X.w) X.A (f (.int i t) (.int j u)) Q E s) :
 OpR X f (rI0 λi j=>.int (g i j)):=by
 intro pins s σ H x y v u Q I rx ry h
 obtain⟨i,j,rfl,rfl,q⟩:=h
 obtain⟨t,rfl⟩:=rx
 obtain⟨t',rfl⟩:=ry
 exact rule i j t t' s _ _ ⟨.int (g i j),H,I.tok _,⟨_,rfl⟩,q⟩
theorem znr {f:Value->Value->Sem Value}{g:Int->Int->Bool}
 (rule:∀ (i j:Int) (t u:Tok) (s:Shared) (Q:Value->Shared->Prop) (E:Value->Shared->Prop),Q (.bool (g i j)) s->wpAny (model X.prog X.w) X.A (f (.int i t) (.int j u)) Q E s) :
 OpR X f (rI0 λi j=>.bl (g i j)):=by
 intro pins s σ H x y v u Q I rx ry h
 obtain⟨i,j,rfl,rfl,q⟩:=h
 obtain⟨t,rfl⟩:=rx
 obtain⟨t',rfl⟩:=ry
 exact rule i j t t' s _ _ ⟨.bl (g i j),H,I,rfl,q⟩
def CPow (i j:Int):Prop:=0<=j/\j<=1000000/\i.natAbs < 2 ^ 64
def znx (i j:Int):Prop:=(-(2 ^ 64) < i/\i < 2 ^ 64)\/(-(2 ^ 64) < j/\j < 2 ^ 64)
theorem znx.ok {i j:Int}(h:znx i j):IntMulOk i j:=by
 rcases h with ⟨h1,h2⟩ | ⟨h1,h2⟩
 .exact .of_left (intBits_le_64 h1 h2)
 .exact .of_right (intBits_le_64 h1 h2)
theorem zkz:OpR X (binaryOp .Add) (rI0 λi j=>.int (i+j)):=opI0 λ_ _ _ _ _ _ _ q=>add_int q
theorem zl6:OpR X (binaryOp .Sub) (rI0 λi j=>.int (i - j)):=opI0 λ_ _ _ _ _ _ _ q=>sub_int q
theorem zlC:OpR X (binaryOp .Mult) (rI znx λi j=>.int (i*j)):=opI λ_ _ _ _ _ _ _ hc q=>mul_int q hc.ok
theorem zli:OpR X (binaryOp .Mod) (rI (λ_ j=>0 < j) λi j=>.int (i % j)):=opI λi j _ _ _ _ _ hc q=>by
 have h1:(0:Int) < j:=hc
 exact mod_int' (by omega) (by rw[Int.fmod_eq_emod_of_nonneg i (by omega)];exact q)
theorem zk1:OpR X (binaryOp .Pow) (rI CPow λi j=>.int (i ^ j.toNat)):=opI λ_ _ _ _ _ _ _ hc q=>pow_int_small hc.1 hc.2.1 hc.2.2 q
theorem zmn:OpR X (binaryOp .LShift) (rI CPow λi j=>.int (i*2 ^ j.toNat)):=opI λ_ _ _ _ _ _ _ hc q=>lshift_int_small hc.1 hc.2.1 hc.2.2 q
theorem unI {f:Value->Sem Value}{g:Int->Int}
 (rule:∀ (i:Int) (t:Tok) (s:Shared) (Q:Value->Shared->Prop) (E:Value->Shared->Prop),Q (.int (g i) s.toks) { s with toks:=s.toks+1 }->wpAny (model X.prog X.w) X.A (f (.int i t)) Q E s) :
 UnR X f (rU λi=>.int (g i)):=by
 intro pins s σ H x v Q I rx h
 obtain⟨i,rfl,q⟩:=h
 obtain⟨t,rfl⟩:=rx
 exact rule i t s _ _ ⟨.int (g i),H,I.tok _,⟨_,rfl⟩,q⟩
theorem ziE:UnR X (unaryOp .USub) (rU λi=>.int (-i)):=unI λ_ _ _ _ _ q=>neg_int q
end
def scal:V->V->Bool
 | .non,.non=>true | .non,.int _=>true | .int _,.non=>true | .non,.bl _=>true | .bl _,.non=>true | .non,.str _=>true | .str _,.non=>true
 | .int _,.int _=>true | .bl _,.bl _=>true | .str _,.str _=>true | .byt _,.byt _=>true
 | .int _,.str _=>true | .str _,.int _=>true | .bl _,.str _=>true | .str _,.bl _=>true
 | _,_=>false
def rEq:R2:=λx y H Q=>scal x y=true/\Q (.bl (decide (x=y))) H
def rNe:R2:=λx y H Q=>scal x y=true/\Q (.bl (!decide (x=y))) H
theorem zcu {i j:Int}:decide (V.int i=V.int j)=(i == j):=by
 rw[u1U]
 simp
theorem zi5 {i j:Bool}:decide (V.bl i=V.bl j)=(i == j):=by
 rw[u1U]
 simp
theorem zfv {i j:Str}:decide (V.str i=V.str j)=(i == j):=by
 rw[u1U]
 simp
theorem zgE {i j:Array UInt8}:decide (V.byt i=V.byt j)=(i.toList == j.toList):=by
 rw[u1U]
 cases i
 cases j
 simp
section
variable {X:Cx}{a b c:Expr}{ta tb tc:TE}{pos:Pos}
theorem zQ {pins:List (Addr × Obj)}{σ:St}{H:Hp}{s:Shared}{Q:VK}{k k':Bool}(I:Inv X pins σ H s)(q:Q (.bl k) H)(e:k=k'):EP X pins σ Q (.bool k') s:=by
 subst e
 exact⟨.bl k,H,I,rfl,q⟩
theorem zmN:OpR X (compareOp .Eq) rEq:=by
 intro pins s σ H x y v u Q I rx ry h
 obtain⟨hs,q⟩:=h
 cases x with
 | non =>
  cases rx
  cases y with
  | non=>cases ry;exact PySem.EqNone.eq_none_none (zQ I q (by simp))
  | bl j=>cases ry;exact PySem.EqNone.eq_none_bool (zQ I q (by simp))
  | int j=>obtain⟨t',rfl⟩:=ry;exact PySem.EqNone.eq_none_int (zQ I q (by simp))
  | str j=>obtain⟨t',rfl⟩:=ry;exact PySem.EqNone.eq_none_str (zQ I q (by simp))
  | _=>exact absurd (show false=true from hs) u6
 | bl i =>
  cases rx
  cases y with
  | non=>cases ry;exact PySem.EqNone.eq_bool_none (zQ I q (by simp))
  | bl j=>cases ry;exact eq_bool (zQ I q zi5)
  | str j=>obtain⟨t',rfl⟩:=ry;exact PySem.EqMixed.eq_bool_str (zQ I q (by simp))
  | _=>exact absurd (show false=true from hs) u6
 | int i =>
  obtain⟨t,rfl⟩:=rx
  cases y with
  | non=>cases ry;exact PySem.EqNone.eq_int_none (zQ I q (by simp))
  | int j=>obtain⟨t',rfl⟩:=ry;exact eq_int (zQ I q zcu)
  | str j=>obtain⟨t',rfl⟩:=ry;exact PySem.EqMixed.eq_int_str (zQ I q (by simp))
  | _=>exact absurd (show false=true from hs) u6
 | str i =>
  obtain⟨t,rfl⟩:=rx
  cases y with
  | non=>cases ry;exact PySem.EqNone.eq_str_none (zQ I q (by simp))
  | bl j=>cases ry;exact PySem.EqMixed.eq_str_bool (zQ I q (by simp))
  | int j=>obtain⟨t',rfl⟩:=ry;exact PySem.EqMixed.eq_str_int (zQ I q (by simp))
  | str j=>obtain⟨t',rfl⟩:=ry;exact eq_str (zQ I q zfv)
  | _=>exact absurd (show false=true from hs) u6
 | byt i =>
  obtain⟨t,rfl⟩:=rx
  cases y with
  | byt j=>obtain⟨t',rfl⟩:=ry;exact W.eq_bytes (zQ I q zgE)
  | _=>exact absurd (show false=true from hs) u6
 | _=>cases y <;> exact absurd (show false=true from hs) u6
theorem VJ:OpR X (compareOp .NotEq) rNe:=by
 intro pins s σ H x y v u Q I rx ry h
 obtain⟨hs,q⟩:=h
 cases x with
 | non =>
  cases rx
  cases y with
  | non=>cases ry;exact PySem.EqNone.ne_none_none (zQ I q (by simp))
  | bl j=>cases ry;exact PySem.EqNone.ne_none_bool (zQ I q (by simp))
  | int j=>obtain⟨t',rfl⟩:=ry;exact PySem.EqNone.ne_none_int (zQ I q (by simp))
  | str j=>obtain⟨t',rfl⟩:=ry;exact PySem.EqNone.ne_none_str (zQ I q (by simp))
  | _=>exact absurd (show false=true from hs) u6
 | bl i =>
  cases rx
  cases y with
  | non=>cases ry;exact PySem.EqNone.ne_bool_none (zQ I q (by simp))
  | bl j=>cases ry;exact ne_bool (zQ I q (u05 not zi5))
  | str j=>obtain⟨t',rfl⟩:=ry;exact PySem.EqMixed.ne_bool_str (zQ I q (by simp))
  | _=>exact absurd (show false=true from hs) u6
 | int i =>
  obtain⟨t,rfl⟩:=rx
  cases y with
  | non=>cases ry;exact PySem.EqNone.ne_int_none (zQ I q (by simp))
  | int j=>obtain⟨t',rfl⟩:=ry;exact ne_int (zQ I q (u05 not zcu))
  | str j=>obtain⟨t',rfl⟩:=ry;exact PySem.EqMixed.ne_int_str (zQ I q (by simp))
  | _=>exact absurd (show false=true from hs) u6
 | str i =>
  obtain⟨t,rfl⟩:=rx
  cases y with
  | non=>cases ry;exact PySem.EqNone.ne_str_none (zQ I q (by simp))
  | bl j=>cases ry;exact PySem.EqMixed.ne_str_bool (zQ I q (by simp))
  | int j=>obtain⟨t',rfl⟩:=ry;exact PySem.EqMixed.ne_str_int (zQ I q (by simp))
  | str j=>obtain⟨t',rfl⟩:=ry;exact ne_str (zQ I q (u05 not zfv))
  | _=>exact absurd (show false=true from hs) u6
 | byt i =>
  obtain⟨t,rfl⟩:=rx
  cases y with
  | byt j=>obtain⟨t',rfl⟩:=ry;exact W.ne_bytes (zQ I q (u05 not zgE))
  | _=>exact absurd (show false=true from hs) u6
 | _=>cases y <;> exact absurd (show false=true from hs) u6
theorem zlI:OpR X (compareOp .Lt) (rI0 λi j=>.bl (decide (i < j))):=znr λ_ _ _ _ _ _ _ q=>lt_int q
theorem zg2:OpR X (compareOp .LtE) (rI0 λi j=>.bl (decide (i<=j))):=znr λ_ _ _ _ _ _ _ q=>le_int q
theorem zd0:OpR X (compareOp .Gt) (rI0 λi j=>.bl (decide (j < i))):=znr λ_ _ _ _ _ _ _ q=>gt_int q
theorem zl8:OpR X (compareOp .Is) (λx y H Q=>y=.non/\Q (.bl (decide (x=.non))) H):=by
 intro pins s σ H x y v u Q I rx ry h
 obtain⟨rfl,q⟩:=h
 cases ry
 refine is_none_gen (zQ I q ?_)
 cases x <;> first
  | (cases rx;rfl)
  | (obtain⟨t,rfl⟩:=rx;rfl)
theorem zjW:OpR X (compareOp .IsNot) (λx y H Q=>y=.non/\Q (.bl (!decide (x=.non))) H):=by
 intro pins s σ H x y v u Q I rx ry h
 obtain⟨rfl,q⟩:=h
 cases ry
 refine isnot_none_gen (zQ I q ?_)
 cases x <;> first
  | (cases rx;rfl)
  | (obtain⟨t,rfl⟩:=rx;rfl)
theorem OpR.or {f:Value->Value->Sem Value}{r r':R2}(h:OpR X f r)(h':OpR X f r'):OpR X f (λx y H Q=>r x y H Q\/r' x y H Q):=by
 intro pins s σ H x y v u Q I rx ry q
 rcases q with q | q
 .exact h pins s σ H x y v u Q I rx ry q
 .exact h' pins s σ H x y v u Q I rx ry q
theorem zH (b:Expr){op:CmpOp}(h:op≠.In:=by decide)(h2:op≠.NotIn:=by decide):behindInMarks op b=false:=by
 have e1:(op == CmpOp.In)=false:=by cases op <;> first | rfl | exact absurd rfl h
 have e2:(op == CmpOp.NotIn)=false:=by cases op <;> first | rfl | exact absurd rfl h2
 cases b <;> simp[behindInMarks,e1,e2]
theorem zjP {op:CmpOp}{r:R2}(ho:OpR X (compareOp op) r)(ha:PE X a ta)(hb:PE X b tb)(hm:behindInMarks op b=false):PE X (.Compare a [op] [b] pos) (tOp r ta tb):=by
 intro pins s σ H Q I h
 exact wpAny_Compare1 (znj ha hb I h λv u s2 x y H2 I2 rx ry q=>ho pins s2 σ H2 x y v u Q I2 rx ry q) hm
def zjK (t:TE):TT:=fun σ H Q=>t σ H λx H'=>∃ k,x=.bl k/\Q k H'
theorem zgO {op:CmpOp}{r:R2}(ho:OpR X (compareOp op) r)(ha:PE X a ta)(hb:PE X b tb)(hm:behindInMarks op b=false):PT X (.Compare a [op] [b] pos) (zjK (tOp r ta tb)):=by
 intro pins s σ H Q I h
 refine wpAny_isTrue_Compare1 (thn (ha pins s σ H _ I h) λv s1 ⟨x,H1,I1,r1,q1⟩=>thn (hb pins s1 σ H1 _ I1 q1) λu s2 ⟨y,H2,I2,r2,q2⟩ =>
  thn (ho pins s2 σ H2 x y v u _ I2 r1 r2 q2) λc s3 ⟨z,H3,I3,r3,k,e,q3⟩=>?_) hm
 subst e
 cases r3
 exact u04 ⟨H3,I3,q3⟩
def zgS (r r':R2)(ta tb tc:TE):TE:=fun σ H Q=>ta σ H λx H1=>tb σ H1 λy H2=>r x y H2 λz H3=>∃ k,z=.bl k /\
 (if k=true then tc σ H3 λw' H4=>r' y w' H4 Q else Q (.bl false) H3)
theorem zid {op op':CmpOp}{r r':R2}(ho:OpR X (compareOp op) r)(ho':OpR X (compareOp op') r')(ha:PE X a ta)(hb:PE X b tb)(hc:PE X c tc)
 (hm:lastMarks [op,op'] [b,c]=false:=by with_unfolding_all rfl):PE X (.Compare a [op,op'] [b,c] pos) (zgS r r' ta tb tc):=by
 intro pins s σ H Q I h
 refine Compare_chain (thn (ha pins s σ H _ I h) λv s1 ⟨x,H1,I1,r1,q1⟩=>chain_link (thn (hb pins s1 σ H1 _ I1 q1) λu s2 ⟨y,H2,I2,r2,q2⟩ =>
  thn (ho pins s2 σ H2 x y v u _ I2 r1 r2 q2) λd s3 ⟨z,H3,I3,r3,k,e,q3⟩=>?_)) hm
 subst e
 cases r3
 refine u04 ?_
 cases k with
 | false=>exact ite_ff ⟨.bl false,H3,I3,rfl,q3⟩
 | true=>exact ite_tt (chain_last (thn (hc pins s3 σ H3 _ I3 q3) λw' s4 ⟨z',H4,I4,r4,q4⟩=>ho' pins s4 σ H4 y z' u w' Q I4 r2 r4 q4))
theorem zd8 {xs:List V}{its:List Value}(r:yk xs its):(!its.toArray.isEmpty)=!xs.isEmpty:=by
 cases r <;> simp
theorem V6:(sizeLine:Nat) < 2 ^ 63:=by rw[u10];decide
theorem zed:OpR X (binaryOp .Add) (λx y H Q=>∃ i j,x=.str i/\y=.str j/\i.length+j.length<=sizeLine/\Q (.str (i++j)) H):=by
 intro pins s σ H x y v u Q I rx ry h
 obtain⟨i,j,rfl,rfl,hz,q⟩:=h
 obtain⟨t,rfl⟩:=rx
 obtain⟨t',rfl⟩:=ry
 exact add_str (λt' tk=>⟨.str (i++j),H,I.tok _,⟨_,rfl⟩,q⟩) hz
theorem zaf {x:V}{us:List Value}(r:yk [x] us):∃ u,us=[u]/\xj x u:=by
 cases r with
 | cons r1 r2=>cases r2;exact⟨_,rfl,r1⟩
theorem zeh {x y:V}{us:List Value}(r:yk [x,y] us):∃ u w',us=[u,w']/\xj x u/\xj y w':=by
 cases r with
 | cons r1 r2 =>
  cases r2 with
  | cons r3 r4=>cases r4;exact⟨_,_,rfl,r1,r3⟩
theorem Ve (hc:X.calm=true):Xw X (.builtin "max") (λxs H Q=>∃ i j,xs=[.int i,.int j]/\Q (.int (if j > i then j else i)) H):=by
 intro pins s σ H xs us Q I r h
 obtain⟨i,j,rfl,q⟩:=h
 obtain⟨u,w',rfl,⟨t,rfl⟩,⟨t',rfl⟩⟩:=zeh r
 refine max_two_ints (I.ok.hd hc) λh' tk k=>⟨_,H,I.kept k,?_,q⟩
 by_cases hj:j > i
 .rw[j4 hj,j4 hj];exact⟨_,rfl⟩
 .rw[j6 hj,j6 hj];exact⟨_,rfl⟩
theorem zbH (hc:X.calm=true):Xw X (.builtin "min") (λxs H Q=>∃ i j,xs=[.int i,.int j]/\Q (.int (if j < i then j else i)) H):=by
 intro pins s σ H xs us Q I r h
 obtain⟨i,j,rfl,q⟩:=h
 obtain⟨u,w',rfl,⟨t,rfl⟩,⟨t',rfl⟩⟩:=zeh r
 refine min_two_ints (I.ok.hd hc) λh' tk k=>⟨_,H,I.kept k,?_,q⟩
 by_cases hj:j < i
 .rw[j4 hj,j4 hj];exact⟨_,rfl⟩
 .rw[j6 hj,j6 hj];exact⟨_,rfl⟩
theorem zeJ:Xw X (.type "int") (λxs H Q=>(∃ i,xs=[.int i]/\Q (.int i) H)\/∃ k,xs=[.bl k]/\Q (.int (if k then 1 else 0)) H):=by
 intro pins s σ H xs us Q I r h
 rcases h with ⟨i,rfl,q⟩ | ⟨k,rfl,q⟩
 .obtain⟨u,rfl,t,rfl⟩:=zaf r
  exact call_int_int ⟨.int i,H,I,⟨_,rfl⟩,q⟩
 .obtain⟨u,rfl,r1⟩:=zaf r
  cases r1
  exact call_int_bool ⟨.int (if k then 1 else 0),H,I.tok _,⟨_,rfl⟩,q⟩
end
structure zne (h:Heap) (x dx C:Addr) (mA:Str->Option Value):Prop where
 obj:h.get? x=some (W.instObj C dx)
 ns:h.Ns1 dx mA
 ne:dx≠x
theorem zfU {h:Heap}{dx:Addr}{mA:Str->Option Value}(n:h.Ns1 dx mA):∃ od,h.get? dx=some od/\∀ name,W.lookIn name od=some (mA name):=by
 obtain⟨o,es,ep,ho,hd,hk,_,hm⟩:=n
 refine⟨o,ho,λname=>?_⟩
 have e:=hm name
 unfold nsFind findBy at e
 rw[<-Array.find?_toList]at e
 unfold W.lookIn
 rw[hd]
 dsimp only
 split
 .rename_i y q
  rw[q]at e
  exact u05 some e
 .rename_i q
  rw[q]at e
  have a:es.toList.any (·.refKey)=false:=by
   rw[List.any_eq_false]
   intro y hy
   obtain⟨z,t,hkey⟩:=hk y (Array.mem_toList_iff.mp hy)
   simp[DictEntry.refKey,hkey]
  have a':¬ es.toList.any (·.refKey)=true:=by rw[a];exact u6
  rw[j6 a']
  exact u05 some e
theorem zne.look {h:Heap}{x dx C:Addr}{mA:Str->Option Value}(I:zne h x dx C mA):∃ od,PySem.W.InstAt h x (W.instObj C dx) C (some od)/\∀ name,W.lookIn name od=some (mA name) :=
 let ⟨od,ho,hl⟩:=zfU I.ns
 ⟨od,⟨I.obj,rfl,rfl,ho⟩,hl⟩
section
variable {P:Program}{w:World}{H H':Hp}{h h':Heap}{a C dx:Addr}{fs fs':List (Str × V)}
theorem zj6 (hok:HOk P w H h)(e:H a=some (.ins C dx fs)):∃ mA,zne h a dx C mA/\(∀ f,znp (fs.lookup f) (mA f))/\PySem.Within mA (fs.map (·.1))/\fs.length<=1000/\H dx=some (.own a):=by
 obtain⟨d,z,ne,ob,mA,n,r,q⟩:=(show xk P w H h a (.ins C dx fs)from hok a _ e)
 exact⟨mA,⟨ob,n,ne⟩,r,q,z,d⟩
end
structure Cls (K:W.Frag) (C:Addr):Prop where
 pg:W.plainGet K C Str.empty=true
 hd:W.hasDictIn K C=true
 po:W.plainOver K C=true
 sa:W.findIn K (.ref C) "__setattr__"=some (some (.builtin "object.__setattr__"))
theorem Cls.get {K:W.Frag}{C:Addr}(c:Cls K C)(f:Str):W.plainGet K C f=true:=c.pg
section
variable {X:Cx}{pins:List (Addr × Obj)}{σ:St}{H:Hp}{s:Shared}{A:Around}{E:Value->Shared->Prop}{Q:Value->Shared->Prop}{c:Value}{b:Bool}
inductive zc3 (K:W.Frag) (H:Hp):V->Value->Prop where
 | non:zc3 K H .non (.type "NoneType")
 | bl (x:Bool):zc3 K H (.bl x) (.type "bool")
 | int (i:Int):zc3 K H (.int i) (.type "int")
 | str (x:Str):zc3 K H (.str x) (.type "str")
 | flt (x:UInt64):zc3 K H (.flt x) (.type "float")
 | lst {a:Addr} {xs:List V} (e:H a=some (.lst xs)):zc3 K H (.ref a) (.type "list")
 | frz {a:Addr} {o:Obj} {xs:List V} (e:H a=some (.frz o (.lst xs))):zc3 K H (.ref a) (.type "list")
 | tup {a:Addr} {xs:List V} (e:H a=some (.tup xs)):zc3 K H (.ref a) (.type "tuple")
 | dK {a:Addr} {kvs:List (Key × V)} (e:H a=some (.dK kvs)):zc3 K H (.ref a) (.type "dict")
 | dT {a:Addr} {kvs:List (List Key × V)} (e:H a=some (.dT kvs)):zc3 K H (.ref a) (.type "dict")
 | ins {a C dx:Addr} {fs:List (Str × V)} (e:H a=some (.ins C dx fs)) (cl:Cls K C) (ha:W.findIn K (.ref C) "__class__"=some (some (.builtin "object.__class__")))
  (hn:W.specialIn K (.builtin "object.__class__") "__get__"=some (some (.builtin "getset_descriptor.__get__"))) (htk:W.takesIn K (.builtin "object.__class__")=some true)
  (hm:W.mroIn K C (.type "object")=some true):zc3 K H (.ref a) (.ref C)
theorem zfX {x:V}{u t:Value}(I:Inv X pins σ H s)(rx:xj x u)(ty:zc3 X.K H x t)(e:W.kitOne X.K t c=some b)(h:∀ tk,Q (.bool b) { s with toks:=tk }) :
 wpAny (model X.prog X.w) A (call (.builtin "isinstance") [u,c]) Q E s:=by
 cases ty with
 | non=>cases (show u=Value.none from rx);exact u0y W.kitx_none I.kIn True.intro e (λz=>nomatch z) h
 | bl y=>cases (show u=Value.bool y from rx);exact u0y W.kitx_bool I.kIn True.intro e (λz=>nomatch z) h
 | int i=>obtain⟨t,q⟩:=(show ∃ t,u=Value.int i t from rx);cases q;exact u0y W.kitx_int I.kIn True.intro e (λz=>nomatch z) h
 | str y=>obtain⟨t,q⟩:=(show ∃ t,u=Value.str y t from rx);cases q;exact u0y W.kitx_str I.kIn True.intro e (λz=>nomatch z) h
 | flt y=>obtain⟨t,q⟩:=(show ∃ t,u=Value.float y t from rx);cases q;exact u0y W.kitx_float I.kIn True.intro e (λz=>nomatch z) h
 | @lst a xs ea =>
  cases (show u=Value.ref a from rx)
  obtain⟨_,_,n,_,h1⟩:=(show xk X.prog X.w H s.heap a (.lst xs)from I.hok a _ ea)
  exact u0y W.kitx_list I.kIn ⟨_,h1,rfl⟩ e (λz=>nomatch z) h
 | @frz a ob xs ea =>
  cases (show u=Value.ref a from rx)
  obtain⟨_,_,_,n,_,h1⟩:=(show xk X.prog X.w H s.heap a (.frz ob (.lst xs))from I.hok a _ ea)
  exact u0y W.kitx_list I.kIn ⟨_,h1,rfl⟩ e (λz=>nomatch z) h
 | @tup a xs ea =>
  cases (show u=Value.ref a from rx)
  obtain⟨_,_,_,p⟩:=(show xk X.prog X.w H s.heap a (.tup xs)from I.hok a _ ea)
  obtain⟨o,h1,h2,_⟩:=p
  exact u0y W.kitx_tuple I.kIn ⟨o,h1,h2⟩ e (λz=>nomatch z) h
 | @dK a kvs ea =>
  cases (show u=Value.ref a from rx)
  obtain⟨_,_,vs,_,p⟩:=(show xk X.prog X.w H s.heap a (.dK kvs)from I.hok a _ ea)
  obtain⟨o,es,ep,h1,h2,_⟩:=p
  exact u0y u2E I.kIn ⟨o,h1,h2.1⟩ e (λz=>nomatch z) h
 | @dT a kvs ea =>
  cases (show u=Value.ref a from rx)
  obtain⟨_,_,xs,_,o,es,ep,h1,h2,_⟩:=(show xk X.prog X.w H s.heap a (.dT kvs)from I.hok a _ ea)
  exact u0y u2E I.kIn ⟨o,h1,h2.1⟩ e (λz=>nomatch z) h
 | @ins a C dx fs ea cl ha hn htk hm =>
  cases (show u=Value.ref a from rx)
  obtain⟨mA,O,_⟩:=zj6 I.hok ea
  obtain⟨od,J,_⟩:=O.look
  exact u0y (W.kitx_own (cl.get _) cl.hd ha hn htk hm) I.kIn J e (λz=>nomatch z) h
end
structure ve (k:Nat) (A:Around):Prop where
 hd:A.handled=none
 dp:A.depth+3*k+5 < recursionLimit
 un:A.units+16*k+200 < cLine
theorem ve.mono {j k:Nat}{A:Around}(r:ve k A)(h:j<=k):ve j A:=⟨r.hd,by have:=r.dp;omega,by have:=r.un;omega⟩
theorem ve.deeper {k:Nat}{A:Around}(r:ve (k+1) A)(env:Env):ve k (A.deeper env) :=
 ⟨r.hd,by have:=r.dp;show A.depth+1+3*k+5 < _;omega,by have:=r.un;show A.units+3+16*k+200 < _;omega⟩
theorem ve.in1 {k:Nat}{A:Around}(r:ve (k+1) A):ve k A.in1 :=
 ⟨r.hd,by have:=r.dp;show A.depth+3*k+5 < _;omega,by have:=r.un;show A.units+1+16*k+200 < _;omega⟩
theorem ve.depth {k:Nat}{A:Around}(r:ve k A):A.depth < recursionLimit:=by have:=r.dp;omega
theorem ve.units {k:Nat}{A:Around}(r:ve k A):A.units+64 < cLine:=by have:=r.un;omega
theorem ve.units0 {k:Nat}{A:Around}(r:ve k A):A.units < cLine:=by have:=r.un;omega
def ziI:TA:=λ_ H Q=>Q [] H
def Vt (ta:TE)(tr:TA):TA:=fun σ H Q=>ta σ H λx H1=>tr σ H1 λxs H2=>Q (x::xs) H2
section
variable {X:Cx}{e:Expr}{es:List Expr}{te:TE}{t:TA}{pos:Pos}
theorem yu:PA X [] ziI:=λ_ _ _ _ H Q I h=>u2z ⟨[],H,I,.nil,h⟩
theorem zp (ha:PE X e te)(hr:PA X es t)(hs:starEach (e::es) X.env=(false,eval e X.env)::starEach es X.env:=by rfl):PA X (e::es) (Vt te t):=by
 intro pos pins s σ H Q I h
 rw[hs]
 show wpAny _ _ (spliced ((false,eval e X.env)::backTo pos (starEach es X.env))) _ _ s
 refine u2n (thn (ha pins s σ H _ I h) λu s1 hh9=>?_)
 obtain⟨x,H1,I1,r1,q1⟩:=hh9
 exact thn (hr pos pins s1 σ H1 _ I1 q1) λus s2 ⟨xs,H2,I2,r2,q2⟩=>⟨x::xs,H2,I2,.cons r1 r2,q2⟩
def tTup (t:TA):TE:=fun σ H Q=>t σ H λxs H1=>xs.length<=sizeLine/\∀ p,H1 p=none->Q (.ref p) (upd H1 p (.tup xs))
def zmY (t:TA):TE:=fun σ H Q=>t σ H λxs H1=>xs.length<=sizeLine/\∀ p,H1 p=none->Q (.ref p) (upd H1 p (.lst xs))
theorem zlp {x1}(h:PA X es t):PE X (.Tuple es x1 pos) (tTup t):=by
 intro pins s σ H Q I hq
 refine wpAny_Tuple_spliced (thn (h pos pins s σ H _ I hq) λus s1 ⟨xs,H1,I1,r,z,q⟩=>⟨by rw[<-r.length];exact z,?_⟩)
 have hf:H1 s1.heap.objs.size=none:=I1.hok.fresh (q5 _)
 refine⟨.ref s1.heap.objs.size,upd H1 s1.heap.objs.size (.tup xs),I1.laid (t':=s1.toks) (λb u e=>u5 _ e) (q5 _) ?_,rfl,q _ hf⟩
 exact⟨z,us,r,⟨_,r6 _ rfl,rfl,_,rfl⟩⟩
theorem zbj (h:PA X es t):PE X (.List es pos) (zmY t):=by
 intro pins s σ H Q I hq
 refine wpAny_List_spliced (thn (h pos pins s σ H _ I hq) λus s1 ⟨xs,H1,I1,r,z,q⟩=>⟨by rw[<-r.length];exact z,?_⟩)
 have hf:H1 s1.heap.objs.size=none:=I1.hok.fresh (q5 _)
 refine⟨.ref s1.heap.objs.size,upd H1 s1.heap.objs.size (.lst xs),I1.laid (t':=s1.toks) (λb u e=>u5 _ e) (q5 _) ?_,rfl,q _ hf⟩
 exact⟨z,us,0,r,r6 _ rfl⟩
end
abbrev Sp:=List V->Hp->VK->XK->Prop
abbrev CXT:=List Env->Hp->Shared->XK->Value->Shared->Prop
structure zkI (P:Program) (w:World) (K:W.Frag) (mg:Str->Option Value) (base:Heap) (A:Around) (outer:List Env) (s:Shared) (H:Hp):Prop where
 frames:A.frames=some outer
 mod:Mod K mg base
 bs:Bs base s.heap H
 bsz:base.objs.size<=s.heap.objs.size
 funs:s.heap.FunFrames base outer
 frf:∀ b∈frs outer,H b=none
 hok:HOk P w H s.heap
 bare:AllBare s.gens
def CE (outer:List Env)(P:Program)(w:World)(H:Hp)(s:Shared)(Q:VK)(u:Value)(s':Shared):Prop :=
 ∃ v H',s'.os=s.os/\AllBare s'.gens/\Un (frs outer) [] H H' s.heap s'.heap/\HOk P w H' s'.heap/\xj v u/\Q v H'
def CR (CX:CXT)(outer:List Env)(P:Program)(w:World)(H:Hp)(s:Shared)(Q:VK)(E:XK)(r:Result)(s':Shared):Prop :=
 match r with
 | .ok (.ret u)=>CE outer P w H s Q u s'
 | .ok _=>False
 | .error e=>CX outer H s E e s'
structure yU (P:Program) (w:World) (K:W.Frag) (mg:Str->Option Value) (base:Heap) (CX:CXT) (k:Nat) (f:Addr) (fd:FuncData) (ps:List Str) (sp:Sp):Prop where
 len:∀ vs H Q E,sp vs H Q E->vs.length=ps.length
 run:∀ (A:Around) (outer:List Env) (s:Shared) (H:Hp) (args:Args) (us:List Value) (vs:List V) (Q:VK) (E:XK),ve k A->zkI P w K mg base A outer s H->BindsTo s fd args (ps.zip us)->yk vs us->sp vs H Q E ->
  codeAny (model P w) A (.call (.ref f) args) (CR CX outer P w H s Q E) s
theorem yU.mono {P:Program}{w:World}{K:W.Frag}{mg:Str->Option Value}{base:Heap}{CX:CXT}{j k:Nat}{f:Addr}{fd:FuncData}{ps:List Str}{sp:Sp}(F:yU P w K mg base CX j f fd ps sp)(h:j<=k) :
 yU P w K mg base CX k f fd ps sp:=⟨F.len,λA outer s H args us vs Q E hr=>F.run A outer s H args us vs Q E (hr.mono h)⟩
theorem yU.imp {P:Program}{w:World}{K:W.Frag}{mg:Str->Option Value}{base:Heap}{CX:CXT}{k:Nat}{f:Addr}{fd:FuncData}{ps:List Str}{sp sp':Sp}(F:yU P w K mg base CX k f fd ps sp)
 (h:∀ vs H Q E,sp' vs H Q E->sp vs H Q E):yU P w K mg base CX k f fd ps sp' :=
 ⟨λvs H Q E q=>F.len vs H Q E (h _ _ _ _ q),λA outer s H args us vs Q E hr he hb hv hs=>F.run A outer s H args us vs Q E hr he hb hv (h _ _ _ _ hs)⟩
section
variable {X:Cx}{pins:List (Addr × Obj)}{σ:St}{H:Hp}{s s':Shared}
theorem Inv.env0 (I:Inv X pins σ H s):zkI X.prog X.w X.K X.mg X.base X.A X.stack s H :=
 ⟨I.ok.frames,I.ok.mod,I.bs,u0H I.ok.bsz I.sz,I.stack,I.stkFree,I.hok,I.bare⟩
theorem Inv.after {Q:VK}{u:Value}(I:Inv X pins σ H s)(h:CE X.stack X.prog X.w H s Q u s'):EP X pins σ Q u s':=by
 obtain⟨v,H',os,bare,un,hok,r,q⟩:=h
 obtain⟨hh,g,d,t,os'⟩:=s'
 obtain rfl:os'=s.os:=os
 exact⟨v,H',I.call (h':=hh) (g':=g) (d':=d) (t':=t) (ch:=[]) un hok bare (λb z=>absurd z (by simp)),r,q⟩
end
def zka (sp:Sp)(dvs:List V)(E:XK)(t:TA):TE:=fun σ H Q=>t σ H λvs H1=>sp (vs++dvs) H1 Q E
def zaS (K:W.Frag)(fd:FuncData)(ps:List Str)(ds:List Value):Prop :=
 ∀ (s:Shared) (us:List Value),K.In s.heap->(us++ds).length=ps.length->BindsTo s fd ⟨us,[]⟩ (ps.zip (us++ds))
theorem zaS.all {K:W.Frag}{fd:FuncData}{ps:List Str}(h:∀ us:List Value,us.length=ps.length->bindArgs fd ⟨us,[]⟩=pure (ps.zip us)):zaS K fd ps []:=λs us _ hl=>by
 rw[u0l]at hl ⊢
 exact .of_eq (h us hl)
def Wc (CX:CXT)(X:Cx)(E:XK):Prop:=∀ (pins:List (Addr × Obj)) (σ:St) (H:Hp) (s:Shared) (e:Value) (s':Shared),Inv X pins σ H s->CX X.stack H s E e s'->X.xe e s'
section
variable {X:Cx}{CX:CXT}{k:Nat}{f C:Addr}{fd:FuncData}{ps:List Str}{sp:Sp}{dvs:List V}{ds:List Value}{E:XK}{x m:Str}{p pos apos:Pos}{e o:Expr}{es:List Expr}{ta:TE}{t:TA}
theorem zmb {pins:List (Addr × Obj)}{σ:St}{H:Hp}{s:Shared}{Q:VK}{us:List Value}{vs:List V}(F:yU X.prog X.w X.K X.mg X.base CX k f fd ps sp)(hr:ve k X.A)(hb:zaS X.K fd ps ds)(hd:yk dvs ds)(hx:Wc CX X E)
 (I:Inv X pins σ H s) (r:yk vs us) (h:sp (vs++dvs) H Q E):wpAny (model X.prog X.w) X.A (call (.ref f) us) (EP X pins σ Q) X.xe s:=by
 have r2:yk (vs++dvs) (us++ds):=r.append hd
 have hl:(us++ds).length=ps.length:=by rw[<-r2.length];exact F.len _ _ _ _ h
 refine u3Q (u2S (F.run X.A X.stack s H ⟨us,[]⟩ (us++ds) (vs++dvs) Q E hr I.env0 (hb s us I.kIn hl) r2 h) λr s' hq=>?_)
 cases r with
 | error e=>exact hx pins σ H s e s' I hq
 | ok fl =>
  cases fl with
  | ret u=>exact I.after hq
  | next=>exact False.elim hq
  | brk=>exact False.elim hq
  | cont=>exact False.elim hq
theorem zgP (F:yU X.prog X.w X.K X.mg X.base CX k f fd ps sp)(hr:ve k X.A)(hg:Gl X x)(hm:X.mg x=some (.ref f))(hk:W.keepIn X.K (.ref f)=true)(hb:zaS X.K fd ps ds)(hd:yk dvs ds)(hx:Wc CX X E)
 (ha:PA X (e::es) t) (hdb:(x == ("__debug__":Str))=false:=by decide) (he:starEach (e::es) X.env=(false,eval e X.env)::starEach es X.env:=by rfl) (hpl:(backTo pos (starEach es X.env)).any (·.1)=false:=by rfl) :
 PE X (.Call (.Name x p) (e::es) [] pos) (zka sp dvs E t):=by
 intro pins s σ H Q I h
 refine u1i (WZ I hg hm ?_ hdb)
 refine W.callWith_K (h₀:=X.base) I.ok.mod.kin hk (thn (ha pos pins s σ H _ I h) λus s1 ⟨vs,H1,I1,r,q⟩=>⟨I1.kIn,?_⟩) he hpl
 exact zmb F hr hb hd hx I1 r q
end
structure zx (N P:List Str) (sc:Scope):Prop where
 kind:sc.kind=.function
 co:sc.isCoroutine=false
 gen:sc.isGenerator=false
 nd:N.Nodup
 pre:N.take P.length=P
 par:∀ x∈P,sc.names.lookup x=some .local\/sc.names.lookup x=some .cell
 nofree:∀ y∈sc.names,y.2≠.free
theorem zbu {kindOf:Str->Option NameKind}{x:Str}:∀ {binds:List (Str × Value)} {m:Str->Option Value},(∀ v,(x,v)∉binds)->bindL kindOf binds m x=m x
 | [],_,_=>rfl
 | (n,v)::r,m,h=>by
  unfold bindL
  rw[zbu λw hw=>h w (u0d _ hw)]
  split
  .have:x≠n:=by rintro rfl;exact h v u0E
   simp[this]
  .rfl
theorem zbq {kindOf:Str->Option NameKind}{x:Str}:∀ {binds:List (Str × Value)} {m:Str->Option Value},(∀ v,(x,v)∉binds)->bindC kindOf binds m x=m x
 | [],_,_=>rfl
 | (n,v)::r,m,h=>by
  unfold bindC
  rw[zbq λw hw=>h w (u0d _ hw)]
  split
  .rfl
  .have:x≠n:=by rintro rfl;exact h v u0E
   simp[this]
theorem zca {kindOf:Str->Option NameKind}{x:Str}{v:Value}:∀ {P:List Str} {vs:List Value} {i:Nat} {m:Str->Option Value},P.Nodup->P[i]?=some x->vs[i]?=some v->kindOf x=some .local ->
 bindL kindOf (P.zip vs) m x=some v
 | [],_,_,_,_,h,_,_=>by simp at h
 | _::_,[],_,_,_,_,h,_=>by simp at h
 | p::P,w::vs,0,m,nd,h1,h2,hk=>by
  simp at h1 h2;subst h1;subst h2
  show bindL kindOf ((p,w)::P.zip vs) m p=_
  unfold bindL
  rw[zbu λv hv=>(u1f.mp nd).1 (u2p hv).1,j4 hk]
  simp
 | p::P,w::vs,i+1,m,nd,h1,h2,hk=>by
  show bindL kindOf ((p,w)::P.zip vs) m x=_
  unfold bindL
  exact zca (i:=i) (u1f.mp nd).2 (by simpa using h1) (by simpa using h2) hk
theorem zb8 {kindOf:Str->Option NameKind}{x:Str}{v:Value}:∀ {P:List Str} {vs:List Value} {i:Nat} {m:Str->Option Value},P.Nodup->P[i]?=some x->vs[i]?=some v->kindOf x≠some .local ->
 bindC kindOf (P.zip vs) m x=some v
 | [],_,_,_,_,h,_,_=>by simp at h
 | _::_,[],_,_,_,_,h,_=>by simp at h
 | p::P,w::vs,0,m,nd,h1,h2,hk=>by
  simp at h1 h2;subst h1;subst h2
  show bindC kindOf ((p,w)::P.zip vs) m p=_
  unfold bindC
  rw[zbq λv hv=>(u1f.mp nd).1 (u2p hv).1,j6 hk]
  simp
 | p::P,w::vs,i+1,m,nd,h1,h2,hk=>by
  show bindC kindOf ((p,w)::P.zip vs) m x=_
  unfold bindC
  exact zb8 (i:=i) (u1f.mp nd).2 (by simpa using h1) (by simpa using h2) hk
def start (N:List Str)(vs:List V):St:=vs.map some++List.replicate (N.length - vs.length) none
def Vv (CX:CXT)(P:Program)(w:World)(K:W.Frag)(mg:Str->Option Value)(base:Heap)(N:List Str)(qual:Str)(scope:Scope)(f:Addr)(cd:Value)(A:Around)(outer:List Env)(s:Shared)(H:Hp)(E:XK):Cx where
 prog:=P
 w:=w
 K:=K
 mg:=mg
 base:=base
 A:=A.deeper (envOfC qual scope s.heap.objs.size f cd)
 N:=N
 s₀:=s
 H₀:=H
 env:=envOfC qual scope s.heap.objs.size f cd
 outer:=outer
 stack:=envOfC qual scope s.heap.objs.size f cd::outer
 ex:=[]
 calm:=true
 fn:=λ_=>true
 pn:=[]
 xe:=λe s'=>wpAny (model P w) (A.deeper (envOfC qual scope s.heap.objs.size f cd)) (leaving (envOfC qual scope s.heap.objs.size f cd) e) (λ_ s''=>CX outer H s E e s'') (λe' s''=>CX outer H s E e' s'') s'
theorem zdJ {sc:Scope}{n:Nat}{x:Str}(h:sc.names.lookup x=some .cell):∃ c,(cellsFrom n sc.names []).lookup x=some c:=by
 have q:=u2y sc.names n [] (.inl h)
 exact u3s.mp q
theorem zbw {CX:CXT}{P:Program}{w:World}{K:W.Frag}{mg:Str->Option Value}{base:Heap}{N ps:List Str}{qual:Str}{scope:Scope}{f:Addr}{cd:Value}{A:Around}{outer:List Env}{s s1:Shared}{H:Hp}{E:XK}{us:List Value}{vs:List V}
 (S:zx N ps scope) (hd:A.handled=none) (e0:zkI P w K mg base A outer s H) (hl:vs.length=ps.length) (r:yk vs us)
 (x:InCallC s s.heap.objs.size (bindL (envOfC qual scope s.heap.objs.size f cd).kindOf (ps.zip us) λ_=>none) (cellsFrom (s.heap.objs.size+1) scope.names []) (bindC (envOfC qual scope s.heap.objs.size f cd).kindOf (ps.zip us) λ_=>none) s1) :
 Inv (Vv CX P w K mg base N qual scope f cd A outer s H E) [] (start N vs) H s1:=by
 have hpl:ps.length<=N.length:=by have:=u05 List.length S.pre;rw[o9]at this;omega
 obtain⟨h1,tk,rfl,hk⟩:=x.done
 have noA:∀ b:Addr,b∉(Vv CX P w K mg base N qual scope f cd A outer s H E).ex:=λb z=>absurd (show b∈([]:List Addr)from z) (by simp)
 refine⟨⟨e0.mod,S.kind,rfl,rfl,q5 _,λy z c h1 h2=>?_,λy hy=>?_,λy c _ h=>?_,λ_=>hd,Around.frames_deeper e0.frames,.inr ⟨rfl,rfl⟩,λb z=>absurd z (noA b),e0.bs,e0.bsz,λb _ _=>noA b,λb z=>absurd z (noA b),e0.funs,e0.frf⟩,
  rfl,e0.bare,Un.kept hk,⟨_,x.toInCall.ns,λi y v h1 h2 h3=>?_⟩,λy c h=>⟨_,x.cell y c h⟩,e0.hok.fresh (q5 _),λy c h=>?_,λp hp=>absurd (show p∈([]:List (Addr × Obj))from hp) (by simp),e0.hok.kept hk,?_⟩
 .exact name_of_addr x.apart (u0m h1) (u0m h2)
 .have hy:scope.names.lookup y=some .cell\/scope.names.lookup y=some .free:=hy
  rcases hy with hy | hy
  .exact zdJ hy
  .exact absurd rfl (S.nofree _ (u0m hy))
 .exact u2j (x.above y c (u0m h))
 .have hi:i < vs.length:=by
   unfold start at h2
   by_cases hi:i < vs.length
   .exact hi
   .rw[u0j (by simpa using hi)]at h2
    rw[u06]at h2
    split at h2 <;> cases h2
  have ha:vs[i]?=some v:=by
   unfold start at h2
   rw[u0R (by simpa using hi),r9]at h2
   cases e:vs[i]? with
   | none=>rw[e]at h2;cases h2
   | some a=>rw[e]at h2;cases h2;rfl
  obtain⟨u,hu,rv⟩:=r.get ha
  have hp:ps[i]?=some y:=by
   rw[<-S.pre,u0h (by omega)];exact h1
  have ndP:ps.Nodup:=by rw[<-S.pre];exact S.nd.sublist (u1H _ _)
  refine⟨u,rv,?_⟩
  rcases S.par y (j5 hp)with k | k
  .exact .inl ⟨k,zca ndP hp hu k⟩
  .obtain⟨c,e⟩:=zdJ (n:=s.heap.objs.size+1) k
   refine .inr ⟨.inl k,c,e,?_⟩
   have q:=x.cell y c e
   rw[zb8 ndP hp hu (by show scope.names.lookup y≠_;rw[k];decide)]at q
   exact q
 .exact e0.hok.fresh (u2j (x.above y c (u0m h)))
 .unfold start
  show _=N.length
  rw[j9,u9,u0u]
  omega
theorem zjr {CX:CXT}{P:Program}{w:World}{K:W.Frag}{mg:Str->Option Value}{base:Heap}{k:Nat}{f:Addr}{name qual:Str}{params:Arguments}{body:List Stmt}{scope:Scope}{dV kV doc pm cdv ct oc:Value}{an od:Option Addr}
 {osl:Array (Option Value)} {N ps:List Str} {sp:Sp} (lk:K.lookup f=some ⟨oc,od,.func (W.fnOf name qual params body scope dV kV doc pm an cdv ct),osl⟩) (hcd:W.codeIn K cdv qual=true) (S:zx N ps scope)
 (len:∀ vs H Q E,sp vs H Q E->vs.length=ps.length)
 (hbody:∀ (A:Around) (outer:List Env) (s:Shared) (H:Hp) (vs:List V) (Q:VK) (E:XK),ve k (A.deeper (envOfC qual scope s.heap.objs.size f cdv))->sp vs H Q E ->
  ∃ t,PSs (Vv CX P w K mg base N qual scope f cdv A outer s H E) body t/\t { nx:=λ_ H'=>Q .non H',rt:=Q } (start N vs) H) :
 yU P w K mg base CX (k+1) f (W.fnOf name qual params body scope dV kV doc pm an cdv ct) ps sp:=by
 refine⟨len,λA outer s H args us vs Q E hr e0 hb r hsp=>?_⟩
 have hl:=len _ _ _ _ hsp
 have KX:K.In s.heap:=e0.mod.kin.keeps λb o e=>(e0.bs.1 b o e).1
 have lim:s.heap.NoLimit:=e0.mod.nolimit.keeps λb o e=>(e0.bs.1 b o e).1
 have hkind:∀ y∈ps.zip us,scope.names.lookup y.1=some .local\/(scope.names.lookup y.1=some .cell/\((cellsFrom (s.heap.objs.size+1) scope.names []).lookup y.1).isSome=true):=λ⟨n,v⟩ hy=>by
  rcases S.par n (u2p hy).1 with q | q
  .exact .inl q
  .exact .inr ⟨q,u2y _ _ _ (.inl q)⟩
 refine codeAny_call_function hr.depth (KX _ _ lk) rfl S.co S.gen rfl (W.codeRec_of KX hcd) (hb _ _ _ _ ?_)
 refine wpAny_newFunctionEnv_cells S.kind hkind λenv he s1 x=>?_
 subst he
 refine⟨lim.keeps x.toInCall.keep,codeAny_func ?_⟩
 obtain⟨t,ht,hq⟩:=hbody A outer s H vs Q E (hr.deeper _) hsp
 have I:Inv (Vv CX P w K mg base N qual scope f cdv A outer s H E) [] (start N vs) H s1:=zbw S hr.hd e0 hl r x
 refine u0B (ht [] s1 (start N vs) H _ I hq) (λfl s' hs=>?_) λe s' hs=>hs
 have fin:∀ {σ':St} {H':Hp} {v:V} {u:Value},Inv (Vv CX P w K mg base N qual scope f cdv A outer s H E) [] σ' H' s'->xj v u->Q v H'->CE outer P w H s Q u s' :=
  λ{σ' H' v u} J rv q=>⟨v,H',J.os,J.bare,J.base,J.hok,rv,q⟩
 cases fl with
 | ret u =>
  obtain⟨v,σ',H',J,rv,q⟩:=hs
  exact fin J rv q
 | next =>
  obtain⟨σ',H',J,q⟩:=hs
  exact fin (v:=V.non) (u:=Value.none) J rfl q
 | brk =>
  obtain⟨_,_,_,q⟩:=hs
  exact False.elim q
 | cont =>
  obtain⟨_,_,_,q⟩:=hs
  exact False.elim q
section
variable {X:Cx}{x:Str}{p pos:Pos}{e:Expr}{es:List Expr}{t:TA}{id T:String}{r:List V->Hp->VK->Prop}
def tCB (r:List V->Hp->VK->Prop)(t:TA):TE:=fun σ H Q=>t σ H λvs H1=>r vs H1 Q
theorem zX (hc:Xw X (.builtin id) r) (hg:Gl X x) (hm:X.mg x=none) (hv:bootBuiltins x=some (.builtin id)) (ha:PA X (e::es) t) (hn:x≠"__name__":=by decide) (hdb:(x == ("__debug__":Str))=false:=by decide)
 (he:starEach (e::es) X.env=(false,eval e X.env)::starEach es X.env:=by rfl) (hpl:(backTo pos (starEach es X.env)).any (·.1)=false:=by rfl):PE X (.Call (.Name x p) (e::es) [] pos) (tCB r t):=by
 intro pins s σ H Q I h
 refine u1i (Yn I hg hm hv ?_ hn hdb)
 exact PyProof.Rows.callWith_builtin1 (thn (ha pos pins s σ H _ I h) λus s1 ⟨vs,H1,I1,r1,q1⟩=>hc pins s1 σ H1 vs us Q I1 r1 q1) he hpl
theorem zfZ (hc:Xw X (.type T) r) (hg:Gl X x) (hm:X.mg x=none) (hv:bootBuiltins x=some (.type T)) (ha:PA X (e::es) t) (hn:x≠"__name__":=by decide) (hdb:(x == ("__debug__":Str))=false:=by decide)
 (he:starEach (e::es) X.env=(false,eval e X.env)::starEach es X.env:=by rfl) (hpl:(backTo pos (starEach es X.env)).any (·.1)=false:=by rfl):PE X (.Call (.Name x p) (e::es) [] pos) (tCB r t):=by
 intro pins s σ H Q I h
 refine u1i (Yn I hg hm hv ?_ hn hdb)
 exact u0r (thn (ha pos pins s σ H _ I h) λus s1 ⟨vs,H1,I1,r1,q1⟩=>hc pins s1 σ H1 vs us Q I1 r1 q1) he hpl
end
end L2
namespace HT
open PySem PyProof.Rows
def lexLt:List Int->List Int->Bool
 | [],[]=>false
 | [],_::_=>true
 | _::_,[]=>false
 | x::xs,y::ys=>if x=y then lexLt xs ys else decide (x < y)
theorem lexLt_cons (x y:Int)(xs ys:List Int):lexLt (x::xs) (y::ys)=if x=y then lexLt xs ys else decide (x < y):=rfl
theorem zaJ:lexLt [] []=false:=rfl
theorem VN (y:Int)(ys:List Int):lexLt [] (y::ys)=true:=rfl
theorem VE (x:Int)(xs:List Int):lexLt (x::xs) []=false:=rfl
theorem zdx (A:Around)(s:Shared)(a:Int)(t:Tok)(c:Int)(u:Tok):∃ e,SeqAt.EqAt A s (.int a t) (.int c u) e/\(e=true↔a=c) :=
 ⟨(a == c),u2s a t c u,by simp⟩
theorem zh8 (A:Around)(s:Shared)(a:Int)(t:Tok)(c:Int)(u:Tok)(prog:Program)(w:World)(E:Value->Shared->Prop)(Q:Value->Shared->Prop)(h:Q (.bool (decide (a < c))) s) :
 wpAny (model prog w) A (richCompare .Lt (.int a t) (.int c u)) Q E s :=
 (PyProof.Rows.lt_int h:wpAny (model prog w) A (compareOp .Lt (.int a t) (.int c u)) Q E s)
section
open PySem.SeqAt
open PySem.AutoSeq1 (wpAny_loadPart')
open PySem.MeetsSeq PySem.MeetsSeq2 PySem.MeetsSeq3
theorem zaY (l b:Addr)(items items2:Array Value)(n n2:Nat)(dd dd2:Option Addr)(sl sl2:Array (Option Value))(ns ms:List Int)(hi:IntsAre items.toList ns)(hj:IntsAre items2.toList ms) :
 Meets (Builtin.«tuple.__lt__» ⟨[.ref l,.ref b],[]⟩)
  (λ_ R s=>s.heap.get? l=some { cls:=.type "tuple",dict:=dd,data:=.seq items n,slots:=sl }/\s.heap.get? b=some { cls:=.type "tuple",dict:=dd2,data:=.seq items2 n2,slots:=sl2 } /\
   R (.ok (.ret (.bool (lexLt ns ms)))) s) :=
 .of_wp λprog w A R s h=>by
  obtain⟨hp,g,d,tk,os⟩:=s;obtain⟨hl,hb,h⟩:=h
  have f2:=AutoSeq1.sub_tuple_tuple
  have z1:items.size=ns.length:=by rw[<-hi.length];simp
  have z2:items2.size=ms.length:=by rw[<-hj.length];simp
  wp_walk using u0U hl,u0U hb,wpAny_forIn_list _ (λrest b s'=>b.1=none/\s'=⟨hp,g,d,tk,os⟩/\∃ (vs ws:List Value) (ns' ms':List Int),rest=vs.zip ws /\
   IntsAre vs ns'/\IntsAre ws ms'/\ns'.length+items2.size=ms'.length+items.size/\R (.ok (.ret (.bool (lexLt ns' ms')))) ⟨hp,g,d,tk,os⟩) _
  case turn =>
   rintro⟨y,x⟩ rest b s' ⟨hb',rfl,vs,ws,ns',ms',hz,hvi,hwi,hlen,hR⟩
   cases hvi with
   | nil=>rw[List.zip_nil_left]at hz;cases hz
   | cons a t hvi' =>
    cases hwi with
    | nil=>rw[u3k]at hz;cases hz
    | cons c u hwi' =>
     rw[u1C]at hz
     injection hz with hyx hrest
     injection hyx with hy hx
     subst hy hx
     rw[lexLt_cons]at hR
     simp only[p9]at hlen
     obtain⟨e,he,hiff⟩:=zdx A.in1 ⟨hp,g,d,tk,os⟩ a t c u
     refine u0 (he prog w _ _ ?_)
     cases e with
     | true =>
      rw[j4 (hiff.mp rfl)]at hR
      wp_walk
      exact⟨rfl,rfl,_,_,_,_,hrest,hvi',hwi',by omega,hR⟩
     | false =>
      rw[j6 (λq=>absurd (hiff.mpr q) u6)]at hR
      have hri:=zh8 A.in1 ⟨hp,g,d,tk,os⟩ a t c u prog w
      wp_walk using hri
      exact⟨_,rfl,by simpa using hR⟩
  case fin =>
   rintro⟨b1,b2⟩ s' ⟨hb',rfl,vs,ws,ns',ms',hz,hvi,hwi,hlen,hR⟩
   simp only at hb'
   subst hb'
   have hv:lexLt ns' ms'=decide (items.size < items2.size):=by
    cases hvi with
    | nil =>
     cases hwi with
     | nil =>
      simp only[u1W]at hlen
      rw[zaJ]
      exact(i7 (by omega)).symm
     | cons c u hw =>
      simp only[u1W,p9]at hlen
      rw[VN]
      exact(o0 (by omega)).symm
    | cons a t hv =>
     cases hwi with
     | nil =>
      simp only[u1W,p9]at hlen
      rw[VE]
      exact(i7 (by omega)).symm
     | cons c u hw =>
      rw[u1C]at hz
      cases hz
   rw[hv]at hR
   wp_walk
   exact⟨_,rfl,by simpa [Builtin.Tuple.tupleCompareSizes]using hR⟩
  case h =>
   exact⟨rfl,rfl,items.toList,items2.toList,ns,ms,rfl,hi,hj,by omega,h⟩
end
section
variable {prog:Program}{w:World}{A:Around}{E:Value->Shared->Prop}{s:Shared}
theorem lt_tupInts {l b:Addr}{items items2:Array Value}{ns ms:List Int}{Q:Value->Shared->Prop}(hl:IsTup s.heap l items)(hb:IsTup s.heap b items2)(hi:IntsAre items.toList ns)(hj:IntsAre items2.toList ms)
 (hu:A.units < cLine) (h:Q (.bool (lexLt ns ms)) s):wpAny (model prog w) A (compareOp .Lt (.ref l) (.ref b)) Q E s:=by
 obtain⟨⟨cls,dd,data,sl⟩,ho,hc,n,hd⟩:=id hl
 obtain⟨⟨cls2,dd2,data2,sl2⟩,ho2,hc2,n2,hd2⟩:=id hb
 simp only at hc hd hc2 hd2
 subst hc hd hc2 hd2
 exact richCompare_meets_room (op:=.Lt) ⟨_,ho,rfl⟩ ⟨_,ho2,rfl⟩ PySem.F.slot_tuple_lt PySem.F.entry_tuple_lt (PySem.F.args_tuple_lt_2 _ _) (zaY l b items items2 n n2 dd dd2 sl sl2 ns ms hi hj)
  ⟨ho,ho2,show Value.bool (lexLt ns ms)≠Value.notImplemented/\Q (.bool (lexLt ns ms)) s from⟨(λx=>nomatch x),h⟩⟩ hu
theorem cat_tup {t b:Addr}{vs ws:List Value}{Q:Value->Shared->Prop}(ht:IsTup s.heap t vs.toArray)(hb:IsTup s.heap b ws.toArray)(hv:vs≠[])
 (h1:ws=[]->Q (.ref t) s) (h2:ws≠[]->Q (.ref s.heap.objs.size) { s with heap:=s.heap.push { cls:=.type "tuple",data:=.seq (vs++ws).toArray } })
 (hsz:vs.length+ws.length<=sizeLine):wpAny (model prog w) A (binaryOp .Add (.ref t) (.ref b)) Q E s:=by
 obtain⟨⟨cls,dd,data,sl⟩,ho,hc,n,hd⟩:=id ht
 obtain⟨⟨cls2,dd2,data2,sl2⟩,ho2,hc2,n2,hd2⟩:=id hb
 simp only at hc hd hc2 hd2
 subst hc hd hc2 hd2
 have e:vs.toArray++ws.toArray=(vs++ws).toArray:=by simp
 by_cases hw:ws=[]
 .exact concat_meets ⟨_,ho,rfl⟩ ⟨_,ho2,rfl⟩ noFill_tuple_add seq_tuple_add u2x u2r (u2l _ _)
   (tuple_addW1 t b vs.toArray ws.toArray n n2 dd dd2 sl sl2 (by simpa using hv) (by simp[hw])) ⟨ho,ho2,h1 hw⟩
 .refine concat_meets ⟨_,ho,rfl⟩ ⟨_,ho2,rfl⟩ noFill_tuple_add seq_tuple_add u2x u2r (u2l _ _)
   (tuple_addW2 t b vs.toArray ws.toArray n n2 dd dd2 sl sl2 (by simpa using hv) (by simpa using hw) (by rw[j3,j3];exact hsz)) ⟨ho,ho2,?_⟩
  rw[e]
  exact h2 hw
def sIx (n d:Nat):Option Int->Nat
 | none=>d
 | some v=>if v < 0 then (v+(n:Int)).toNat else min v.toNat n
theorem zk2 (n d:Nat)(hd:d<=n)(o:Option Int):sIx n d o<=n:=by
 cases o with
 | none=>exact hd
 | some v =>
  show(if v < 0 then (v+(n:Int)).toNat else min v.toNat n)<=n
  by_cases hv:v < 0
  .rw[j4 hv];omega
  .rw[j6 hv];exact u2d _ _
theorem zeR (v:Int)(n d:Nat):(if v < 0 then max (v+(n:Int)) 0 else min v (n:Int))=((sIx n d (some v):Nat):Int):=by
 show(if v < 0 then max (v+(n:Int)) 0 else min v (n:Int))=(((if v < 0 then (v+(n:Int)).toNat else min v.toNat n):Nat):Int)
 by_cases hv:v < 0
 .simp only[j4 hv];omega
 .simp only[j6 hv];omega
theorem zdT (lo hi:Option Int)(n:Nat):Builtin.Slice.sliceAdjust lo hi 1 (n:Int)=(((sIx n 0 lo:Nat):Int),((sIx n n hi:Nat):Int)):=by
 have h1:¬ ((1:Int) < 0):=by omega
 unfold Builtin.Slice.sliceAdjust
 simp only[h1,u3X]
 refine u3w ?_ ?_
 .cases lo with
  | none=>rfl
  | some v=>exact zeR v n 0
 .cases hi with
  | none=>rfl
  | some v=>exact zeR v n n
theorem zdS (i j:Nat):Builtin.Slice.slicePlaces (i:Int) (j:Int) 1=j - i:=by
 unfold Builtin.Slice.slicePlaces
 have h1:(1:Int) > 0:=by omega
 simp only[h1,u2F,Int.ediv_one]
 split <;> omega
theorem V4 {v:Value}{o:Option Int}{Q:Option Int->Shared->Prop}(p:IsPart v o)(h:Q o s):wpAny (model prog w) A (Builtin.Slice.slicePartIndex v) Q E s:=by
 cases p with
 | none=>exact slicePart_none h
 | int i t=>exact slicePart_int h
theorem Yp {sl:Addr}{vl vu:Value}{lo hi:Option Int}{n:Nat}{Q:Int × Int × Nat->Shared->Prop}(hs:s.heap.IsSliceOf sl vl vu .none)(pl:IsPart vl lo)(pu:IsPart vu hi)
 (h:Q (((sIx n 0 lo:Nat):Int),1,sIx n n hi - sIx n 0 lo) s):wpAny (model prog w) A (Builtin.Slice.sliceApplied (.ref sl) (pure (n:Int))) Q E s:=by
 obtain⟨os,hos,hcs,hds⟩:=id hs
 unfold Builtin.Slice.sliceApplied Builtin.Slice.sliceFields
 refine u0 (u0 (u0X hos hds (x:=vl) rfl (u0 (u0X hos hds (x:=vu) rfl (u0 (u0X hos hds (x:=.none) rfl (t7 ?_)))))))
 refine u0 (slicePart_none ?_)
 show wpAny _ _ (if ((1:Int) == 0)=true then _ else _) _ _ s
 rw[j6 (by decide)]
 refine u0 (V4 pl (u0 (V4 pu (u0 (t7 ?_)))))
 show wpAny _ _ (match Builtin.Slice.sliceAdjust lo hi 1 (n:Int)with | (lo,hi)=>pure (lo,(1:Int),Builtin.Slice.slicePlaces lo hi 1)) _ _ s
 rw[zdT lo hi n]
 show wpAny _ _ (pure (((sIx n 0 lo:Nat):Int),(1:Int),Builtin.Slice.slicePlaces ((sIx n 0 lo:Nat):Int) ((sIx n n hi:Nat):Int) 1)) _ _ s
 rw[zdS]
 exact t7 h
theorem zhJ (xs:Array Value)(i k:Nat):((List.range k).filterMap λ(m:Nat)=>xs[((i:Int)+(m:Int)*1).toNat]?).toArray=((xs.toList.drop i).take k).toArray:=by
 have e:(λ(m:Nat)=>xs[((i:Int)+(m:Int)*1).toNat]?)=λm=>xs[i+m]?:=by
  funext m
  have:((i:Int)+(m:Int)*1).toNat=i+m:=by omega
  rw[this]
 rw[e]
 have:=pick_run xs i k
 rw[List.filterMap_map]at this
 have e2:((λx=>xs[x]?) ∘ λx=>i+x)=λm=>xs[i+m]?:=rfl
 rw[e2]at this
 rw[this]
theorem getItem_tuple_cut {t sl:Addr}{items:Array Value}{vl vu:Value}{lo hi:Option Int}{Q:Value->Shared->Prop}(ht:IsTup s.heap t items)(hs:s.heap.IsSliceOf sl vl vu .none)(pl:IsPart vl lo)(pu:IsPart vu hi)
 (hw:¬ (sIx items.size 0 lo=0/\sIx items.size items.size hi=items.size))
 (h:Q (.ref s.heap.objs.size) { s with heap:=s.heap.push { cls:=.type "tuple",data:=.seq ((items.toList.drop (sIx items.size 0 lo)).take (sIx items.size items.size hi - sIx items.size 0 lo)).toArray } })
 (hsz:items.size<=sizeLine):wpAny (model prog w) A (getItem (.ref t) (.ref sl)) Q E s:=by
 have htake:sizeOk (.seq ((items.toList.drop (sIx items.size 0 lo)).take (sIx items.size items.size hi - sIx items.size 0 lo)).toArray):=by
  show((items.toList.drop (sIx items.size 0 lo)).take (sIx items.size items.size hi - sIx items.size 0 lo)).toArray.size<=sizeLine
  rw[j3,o9,u0a,j8]
  omega
 have hj:sIx items.size items.size hi<=items.size:=zk2 _ _ (q5 _) hi
 obtain⟨os,hos,hcs,hds⟩:=id hs
 have hTs:s.TypeIs (.ref sl) "slice":=⟨os,hos,hcs⟩
 unfold getItem
 try with_reducible refine u0M ?_
 first | refine u0 (t7 ?_) | skip
 refine u0 (wpAny_sequenceKey ht.typeIs (by decide) ?_)
 refine u0 (u0L (name:=Str.ofString "__getitem__") ht.typeIs u0s
  (u1m u0s ht.typeIs entry_tuple_getitem ?_ (args_tuple_getitem _ _)))
 show wpAny _ _ (Builtin.Tuple.tupleItemsOf (.ref t)>>=_) _ _ s
 refine u0 (tupleItemsOf_ ht ?_)
 refine u0 (u3o hTs ?_)
 rw[j4 (by decide)]
 refine u0 (Yp hs pl pu ?_)
 have hno:¬ ((((sIx items.size 0 lo:Nat):Int) == 0&&(1:Int) == 1&&(sIx items.size items.size hi - sIx items.size 0 lo) == items.size)=true):=by
  intro q
  rw[h9,h9]at q
  have q1:((sIx items.size 0 lo:Nat):Int)=0:=eq_of_beq q.1.1
  have q2:sIx items.size items.size hi - sIx items.size 0 lo=items.size:=eq_of_beq q.2
  exact hw ⟨by omega,by omega⟩
 show wpAny _ _ (if (((sIx items.size 0 lo:Nat):Int) == 0&&(1:Int) == 1&&(sIx items.size items.size hi - sIx items.size 0 lo) == items.size)=true then _ else _) _ _ s
 rw[j6 hno,zhJ]
 first
  | exact u0 (m:=Builtin.Tuple.tupleExact _) (u03 (t7 ⟨_,rfl,t7 h⟩) htake)
  | exact u0 (m:=Builtin.Tuple.tupleExact _) (u03 (u0 (t7 (t7 ⟨_,rfl,t7 h⟩))) htake)
  | exact u0 (u0 (m:=Builtin.Tuple.tupleExact _) (u03 (t7 (t7 ⟨_,rfl,t7 h⟩)) htake))
  | exact u0 (u0 (m:=Builtin.Tuple.tupleExact _) (u03 (t7 ⟨_,rfl,t7 h⟩) htake))
end
end HT
namespace L2
open PySem PySem.Spec PyProof.Rows
abbrev TO:=St->Hp->(Option Int->Hp->Prop)->Prop
def PO (X:Cx)(e:Option Expr)(t:TO):Prop :=
 ∀ (pins:List (Addr × Obj)) (s:Shared) (σ:St) (H:Hp) (Q:Option Int->Hp->Prop),Inv X pins σ H s->t σ H Q ->
  wpAny (model X.prog X.w) X.A (evalPart e X.env) (λu s'=>∃ o H',Inv X pins σ H' s'/\IsPart u o/\Q o H') X.xe s
def zm1 (t:TE):TO:=fun σ H Q=>t σ H λx H1=>∃ i,x=.int i/\Q (some i) H1
theorem XI {ns:List Int}:∀ {us:List Value},yk (ns.map V.int) us->IntsAre us ns:=by
 induction ns with
 | nil=>intro us r;rw[u3N]at r;cases r;exact .nil
 | cons n ns ih =>
  intro us r
  rw[u0g]at r
  cases r with
  | cons r1 r2 =>
   obtain⟨t,e⟩:=r1
   subst e
   exact .cons n t (ih r2)
section
variable {X:Cx}{e:Expr}{te:TE}{lo hi:Option Expr}{tl th:TO}{pos p2:Pos}
theorem zjm (h:PE X e te):PO X (some e) (zm1 te):=by
 intro pins s σ H Q I hw
 rw[evalPart_some]
 refine thn (h pins s σ H _ I hw) λu s1 hh9=>?_
 obtain⟨x,H1,I1,r1,q1⟩:=hh9
 obtain⟨i,rfl,q⟩:=q1
 obtain⟨t,rfl⟩:=r1
 exact⟨some i,H1,I1,.int i t,q⟩
def SlR (X:Cx)(r:V->Option Int->Option Int->Hp->VK->Prop):Prop :=
 ∀ (pins:List (Addr × Obj)) (s:Shared) (σ:St) (H:Hp) (x:V) (v vl vu:Value) (lo hi:Option Int) (sl:Addr) (Q:VK),Inv X pins σ H s->xj x v->s.heap.IsSliceOf sl vl vu .none->IsPart vl lo->IsPart vu hi->r x lo hi H Q ->
  ∃ T id,typeLookup (.type T) "__getitem__"=pure (some (.builtin id))/\s.TypeIs v T/\wpAny (model X.prog X.w) X.A (getItem v (.ref sl)) (EP X pins σ Q) X.xe s
theorem SlR.or {r r':V->Option Int->Option Int->Hp->VK->Prop}(h:SlR X r)(h':SlR X r'):SlR X (λx lo hi H Q=>r x lo hi H Q\/r' x lo hi H Q):=by
 intro pins s σ H x v vl vu lo hi sl Q I rx hs pl pu q
 rcases q with q | q
 .exact h pins s σ H x v vl vu lo hi sl Q I rx hs pl pu q
 .exact h' pins s σ H x v vl vu lo hi sl Q I rx hs pl pu q
def tSl (r:V->Option Int->Option Int->Hp->VK->Prop)(te:TE)(tl th:TO):TE:=fun σ H Q=>te σ H λx H1=>tl σ H1 λl H2=>th σ H2 λu H3=>r x l u H3 Q
theorem zhP {r:V->Option Int->Option Int->Hp->VK->Prop}(hr:SlR X r)(he:PE X e te)(hl:PO X lo tl)(hu:PO X hi th):PE X (.Subscript e (.Slice lo hi none p2) pos) (tSl r te tl th):=by
 intro pins s σ H Q I h
 refine Subscript_ (thn (he pins s σ H _ I h) λv s1 hh9=>?_)
 obtain⟨x,H1,I1,r1,q1⟩:=hh9
 refine wpAny_Slice (thn (hl pins s1 σ H1 _ I1 q1) λvl s2 ⟨l,H2,I2,pl,q2⟩=>thn (hu pins s2 σ H2 _ I2 q2) λvu s3 hh9=>?_)
 obtain⟨u,H3,I3,pu,q3⟩:=hh9
 rw[evalPart_none]
 refine t7 ?_
 have I4:Inv X pins σ H3 { s3 with heap:=s3.heap.push { cls:=.type "slice",data:=.fields #[vl,vu,.none] } }:=I3.kept (t':=s3.toks) λb ob q=>u5 _ q
 obtain⟨T,id,hT,ht,hg⟩:=hr pins { s3 with heap:=s3.heap.push { cls:=.type "slice",data:=.fields #[vl,vu,.none] } } σ H3 x v vl vu l u s3.heap.objs.size Q I4 r1 (Heap.IsSliceOf.new ..) pl pu q3
 show wpAny (model X.prog X.w) X.A (subscriptTail e (.Slice lo hi none p2) v (.ref s3.heap.objs.size)) (EP X pins σ Q) X.xe { s3 with heap:=s3.heap.push { cls:=.type "slice",data:=.fields #[vl,vu,.none] } }
 exact tail_any (ops:=[.ref s3.heap.objs.size,v]) ht hT hg (by with_unfolding_all rfl)
def zcF (xs:List V)(lo hi:Option Int):List V:=(xs.drop (HT.sIx xs.length 0 lo)).take (HT.sIx xs.length xs.length hi - HT.sIx xs.length 0 lo)
theorem Vr (xs:List V)(lo hi:Option Int):(zcF xs lo hi).length<=xs.length:=by
 unfold zcF
 rw[o9,u0a]
 omega
def rSlT (K:W.Frag):V->Option Int->Option Int->Hp->VK->Prop:=λx lo hi H Q=>∃ a xs,x=.ref a/\SqT K H a xs /\
 ¬ (HT.sIx xs.length 0 lo=0/\HT.sIx xs.length xs.length hi=xs.length)/\∀ p,H p=none->Q (.ref p) (upd H p (.tup (zcF xs lo hi)))
theorem zlz:SlR X (rSlT X.K):=by
 intro pins s σ H x v vl vu lo hi sl Q I rx hs pl pu h
 obtain⟨a,xs,rfl,hx,hw,q⟩:=h
 cases rx
 obtain⟨its,r,ht,hz⟩:=I.tuple hx
 have hlen:its.toArray.size=xs.length:=by rw[j3];exact r.length.symm
 refine⟨"tuple",_,u0s.lookup,ht.typeIs,?_⟩
 refine HT.getItem_tuple_cut ht hs pl pu (by rw[hlen];exact hw) ?_ (by rw[hlen];exact hz)
 rw[hlen]
 refine⟨.ref s.heap.objs.size,_,I.laid (t':=s.toks) (o:=.tup (zcF xs lo hi)) (λb ob q=>u5 _ q) (q5 _) ?_,rfl,q _ (I.hok.fresh (q5 _))⟩
 exact⟨u0H (Vr xs lo hi) hz,_,(r.drop (HT.sIx xs.length 0 lo)).take (HT.sIx xs.length xs.length hi - HT.sIx xs.length 0 lo),IsTup.new _ _⟩
def zm4 (K:W.Frag):R2:=λx y H Q=>∃ a b xs ys,x=.ref a/\y=.ref b/\SqT K H a xs/\SqT K H b ys/\xs≠[]/\xs.length+ys.length<=sizeLine /\
 (ys=[]->Q (.ref a) H)/\(ys≠[]->∀ p,H p=none->Q (.ref p) (upd H p (.tup (xs++ys))))
theorem yk.nil_iff {xs:List V}{us:List Value}(r:yk xs us):us=[]↔xs=[]:=by
 cases r with
 | nil=>simp
 | cons _ _=>simp
theorem zji:OpR X (binaryOp .Add) (zm4 X.K):=by
 intro pins s σ H x y v u Q I rx ry h
 obtain⟨a,b,xs,ys,rfl,rfl,ha,hb,hx,hz,q1,q2⟩:=h
 cases rx
 cases ry
 obtain⟨its,r1,p1,_⟩:=I.tuple ha
 obtain⟨its2,r2,p2,_⟩:=I.tuple hb
 refine HT.cat_tup p1 p2 (λz=>hx (r1.nil_iff.mp z)) (λz=>⟨.ref a,H,I,rfl,q1 (r2.nil_iff.mp z)⟩) (λz=>?_) (by rw[<-r1.length,<- r2.length];exact hz)
 refine⟨.ref s.heap.objs.size,_,I.laid (t':=s.toks) (o:=.tup (xs++ys)) (λb ob q=>u5 _ q) (q5 _) ?_,rfl,q2 (λw=>z (r2.nil_iff.mpr w)) _ (I.hok.fresh (q5 _))⟩
 exact⟨by rw[j9];exact hz,_,r1.append r2,IsTup.new _ _⟩
end
def ixN (n:Nat)(i:Int):Option Nat:=if 0<=i then (if i < n then some i.toNat else none)else if -(n:Int)<=i then some (i+n).toNat else none
def atI {α:Type}(xs:List α)(i:Int):Option α:=(ixN xs.length i).bind λj=>xs[j]?
theorem zgc {n:Nat}{i:Int}{j:Nat}(h:ixN n i=some j):seqIndex? i n=some j/\j < n/\-(n:Int)<=i/\i < n:=by
 unfold ixN at h
 by_cases h0:0<=i
 .rw[j4 h0]at h
  by_cases h1:i < n
  .rw[j4 h1]at h
   have e:i.toNat=j:=u0q h
   exact⟨by rw[seqIndex_of h0 h1,e],by omega,by omega,h1⟩
  .rw[j6 h1]at h;cases h
 .rw[j6 h0]at h
  by_cases h1:-(n:Int)<=i
  .rw[j4 h1]at h
   have e:(i+n).toNat=j:=u0q h
   exact⟨by rw[seqIndex_neg (by omega) h1,e],by omega,h1,by omega⟩
  .rw[j6 h1]at h;cases h
theorem zcO {α:Type}{xs:List α}{i:Int}{v:α}(h:atI xs i=some v):∃ j,seqIndex? i xs.length=some j/\xs[j]?=some v/\j < xs.length/\-(xs.length:Int)<=i/\i < xs.length:=by
 unfold atI at h
 cases e:ixN xs.length i with
 | none=>rw[e]at h;cases h
 | some j =>
  rw[e]at h
  obtain⟨h1,h2,h3,h4⟩:=zgc e
  exact⟨j,h1,h,h2,h3,h4⟩
theorem zfO {α:Type}{xs:List α}{j:Nat}{v:α}(h:xs[j]?=some v):atI xs (j:Int)=some v:=by
 have hj:j < xs.length:=(u8.mp h).1
 have e:ixN xs.length (j:Int)=some j:=by
  unfold ixN
  rw[j4 (by omega),j4 (by omega)];simp
 unfold atI;rw[e];exact h
def zeG (b:Expr):Prop:=∀ o i,subscripted b false o i=operate [o,i] (getItem o i)
def IxR (X:Cx)(r:R2):Prop :=
 ∀ (value slice:Expr) (pins:List (Addr × Obj)) (s:Shared) (σ:St) (H:Hp) (x y:V) (v u:Value) (Q:VK),Inv X pins σ H s->xj x v->xj y u->r x y H Q ->
  subscripted slice false v u=operate [v,u] (getItem v u)->wpAny (model X.prog X.w) X.A (subscriptTail value slice v u) (EP X pins σ Q) X.xe s
def MtR (X:Cx)(id:String)(r:V->List V->Hp->VK->Prop):Prop :=
 ∀ (pins:List (Addr × Obj)) (s:Shared) (σ:St) (H:Hp) (x:V) (xs:List V) (v:Value) (us:List Value) (Q:VK),Inv X pins σ H s->xj x v->yk xs us->r x xs H Q ->
  wpAny (model X.prog X.w) X.A (call (.builtin id) (v::us)) (EP X pins σ Q) X.xe s
section
variable {X:Cx}{a b:Expr}{ta tb:TE}{pos:Pos}
theorem IxR.or {r r':R2}(h:IxR X r)(h':IxR X r'):IxR X (λx y H Q=>r x y H Q\/r' x y H Q):=by
 intro value slice pins s σ H x y v u Q I rx ry q hs
 rcases q with q | q
 .exact h value slice pins s σ H x y v u Q I rx ry q hs
 .exact h' value slice pins s σ H x y v u Q I rx ry q hs
theorem zmW {r:R2}(hr:IxR X r)(ha:PE X a ta)(hb:PE X b tb)(hs:zeG b):PE X (.Subscript a b pos) (tOp r ta tb):=by
 intro pins s σ H Q I h
 exact Subscript_ (znj ha hb I h λv u s2 x y H2 I2 rx ry q=>hr a b pins s2 σ H2 x y v u Q I2 rx ry q (hs _ _))
def rIxL (K:W.Frag):R2:=λx y H Q=>∃ p xs i v,x=.ref p/\y=.int i/\SqL K H p xs/\atI xs i=some v/\Q v H
def rIxT (K:W.Frag):R2:=λx y H Q=>∃ p xs i v,x=.ref p/\y=.int i/\SqT K H p xs/\atI xs i=some v/\Q v H
def rIxS:R2:=λx y H Q=>∃ z i c,x=.str z/\y=.int i/\z.length<=sizeLine/\atI z.cps.toList i=some c/\Q (.str ⟨#[c]⟩) H
theorem zjh:IxR X (rIxL X.K):=by
 intro value slice pins s σ H x y v u Q I rx ry h hs
 obtain⟨p,xs,i,z,rfl,rfl,hq,he,q⟩:=h
 cases rx
 obtain⟨t,rfl⟩:=ry
 obtain⟨its,r,pl,hz⟩:=I.list hq
 obtain⟨j,h1,h2,h3,h4,h5⟩:=zcO he
 obtain⟨w,ew,rw'⟩:=r.get h2
 have hl:=r.length
 have hn:=V6
 have fin:EP X pins σ Q w s:=⟨z,H,I,rw',q⟩
 by_cases h0:0<=i
 .have hj:i.toNat=j:=by
   rw[seqIndex_of h0 h5]at h1
   exact u0q h1
  exact item_listR pl.isList h0 (by omega) (by rw[hj];simpa using ew) fin hs
 .have hj:(i+(its.toArray.size:Int)).toNat=j:=by
   rw[seqIndex_neg (by omega) h4]at h1
   rw[j3,<- hl]
   exact u0q h1
  exact subscriptTail_builtinR (x:=w) pl.isList.typeIs slot_list_getitem.lookup
   (wpAny_getItem_list_neg (Q:=λr s'=>r=w/\EP X pins σ Q r s') pl.isList (by omega) (by rw[j3] <;> omega) (by omega) (by rw[hj];simpa using ew) ⟨rfl,fin⟩) hs
theorem zky:IxR X (rIxT X.K):=by
 intro value slice pins s σ H x y v u Q I rx ry h hs
 obtain⟨p,xs,i,z,rfl,rfl,hq,he,q⟩:=h
 cases rx
 obtain⟨t,rfl⟩:=ry
 obtain⟨its,r,pl,hz⟩:=I.tuple hq
 obtain⟨j,h1,h2,h3,h4,h5⟩:=zcO he
 obtain⟨w,ew,rw'⟩:=r.get h2
 have hl:=r.length
 have hn:=V6
 have fin:EP X pins σ Q w s:=⟨z,H,I,rw',q⟩
 exact subscriptTail_builtinR (x:=w) pl.typeIs slot_tuple_getitem.lookup
  (getItem_tuple (j:=j) (Q:=λr s'=>r=w/\EP X pins σ Q r s') pl (by omega) (by omega) (by rw[j3,<- hl];exact h1) (by simpa using ew) ⟨rfl,fin⟩) hs
theorem zmh:IxR X rIxS:=by
 intro value slice pins s σ H x y v u Q I rx ry h hs
 obtain⟨z,i,c,rfl,rfl,hz,he,q⟩:=h
 obtain⟨t,rfl⟩:=rx
 obtain⟨t',rfl⟩:=ry
 obtain⟨j,h1,h2,h3,h4,h5⟩:=zcO he
 have hl:z.cps.toList.length=z.length:=by simp[Str.length]
 rw[hl]at h1 h4 h5
 have hn:=V6
 exact tail_any (typeIs_str s z t) slot_str_getitem.lookup (getItem_str (c:=c) (by
  have e1:decide (i < -(2 ^ 63:Int))=false:=i7 (by omega)
  have e2:decide (i >= 2 ^ 63)=false:=i7 (by omega)
  rw[e1,e2,Bool.or_false]) (by rw[h1];simpa using h2) ⟨.str ⟨#[c]⟩,H,I.tok _,⟨_,rfl⟩,q⟩) hs
def rIx (K:W.Frag):R2:=λx y H Q=>rIxL K x y H Q\/rIxT K x y H Q\/rIxS x y H Q
theorem zlw:IxR X (rIx X.K):=zjh.or (zky.or zmh)
theorem zd7 (its:List Value) (n j:Nat) (u:Value):Obj.mapSeq (·.setIfInBounds j u) { cls:=.type "list",data:=.seq its.toArray n }={ cls:=.type "list",data:=.seq (its.set j u).toArray n }:=by
 simp[Obj.mapSeq]
theorem Inv.lst {pins:List (Addr × Obj)}{σ:St}{H:Hp}{s:Shared}{p:Addr}{xs:List V}(I:Inv X pins σ H s)(h:H p=some (.lst xs)) :
 ∃ (its:List Value) (n:Nat),yk xs its/\s.heap.get? p=some { cls:=.type "list",data:=.seq its.toArray n }/\xs.length<=sizeLine:=by
 obtain⟨z,its,n,r,e⟩:=I.hok p _ h
 exact⟨its,n,r,e,z⟩
theorem Inv.lstUpd {pins:List (Addr × Obj)}{σ:St}{H:Hp}{s:Shared}{p:Addr}{xs ys:List V}{its its':List Value}{n n':Nat}{f:Obj->Obj}(I:Inv X pins σ H s)(h:H p=some (.lst xs))
 (ho:s.heap.get? p=some { cls:=.type "list",data:=.seq its.toArray n }) (hf:f { cls:=.type "list",data:=.seq its.toArray n }={ cls:=.type "list",data:=.seq its'.toArray n' }) (r:yk ys its') (hz:ys.length<=sizeLine) (t:Nat) :
 Inv X pins σ (upd H p (.lst ys)) { s with heap:=s.heap.update p f,toks:=t }:=by
 have e:(s.heap.update p f).get? p=some { cls:=.type "list",data:=.seq its'.toArray n' }:=by
  rw[u1V f ho (by rw[hf] <;> rfl),hf]
 refine I.write (x:=p) (e:=p) (by rw[h];trivial) (.inl rfl) (λb u hb q=>(u0n _ _ (u1l hb)).trans q) ⟨_,e⟩ ?_
 exact⟨hz,its',n',r,e⟩
def zm0:V->V->V->Hp->(Hp->Prop)->Prop:=λo i v H Q=>∃ p xs k j,o=.ref p/\i=.int k/\H p=some (.lst xs)/\ixN xs.length k=some j/\Q (upd H p (.lst (xs.set j v)))
theorem zhQ:PSet X zm0:=by
 intro pins s σ H o i v ov iv u Q I ro ri rv h
 obtain⟨p,xs,k,j,rfl,rfl,hp,hj,q⟩:=h
 cases ro
 obtain⟨t,rfl⟩:=ri
 obtain⟨its,n,r,ho,hz⟩:=I.lst hp
 obtain⟨h1,h2,h3,h4⟩:=zgc hj
 have hl:=r.length
 have hn:=V6
 have I':Inv X pins σ (upd H p (.lst (xs.set j v))) { s with heap:=s.heap.update p (Obj.mapSeq (·.setIfInBounds j u)) } :=
  I.lstUpd hp ho (zd7 its n j u) (r.set rv j) (by rw[u1X];exact hz) s.toks
 by_cases h0:0<=k
 .have hk:k.toNat=j:=by
   rw[seqIndex_of h0 h4]at h1
   exact u0q h1
  exact W.ki_setAt ho h0 (by omega) (by rw[j3,<- hl];exact h4) (by rw[hk];exact⟨_,I',q⟩)
 .have hk:(k+(its.toArray.size:Int)).toNat=j:=by
   rw[seqIndex_neg (by omega) h3]at h1
   rw[j3,<- hl]
   exact u0q h1
  exact W.ki_setBack ho (by omega) (by rw[j3,<- hl];exact h3) (by omega) (by rw[hk];exact⟨_,I',q⟩)
theorem zbJ (lo hi:Option Int)(n:Nat):(sliceBounds lo hi none n).1=((HT.sIx n 0 lo:Nat):Int)/\(sliceBounds lo hi none n).2.1=((HT.sIx n n hi:Nat):Int)/\(sliceBounds lo hi none n).2.2=1:=by
 refine⟨?_,?_,rfl⟩
 .cases lo with
  | none=>simp[sliceBounds,HT.sIx]
  | some i =>
   simp only[sliceBounds,HT.sIx,Option.getD_none,show(1:Int) > 0 by decide,u2F]
   by_cases h:i < 0
   .simp only[h,u2F] <;> omega
   .simp only[h,u3X] <;> omega
 .cases hi with
  | none=>simp[sliceBounds,HT.sIx]
  | some i =>
   simp only[sliceBounds,HT.sIx,Option.getD_none,show(1:Int) > 0 by decide,u2F]
   by_cases h:i < 0
   .simp only[h,u2F] <;> omega
   .simp only[h,u3X] <;> omega
theorem V9 (its:List Value)(lo hi:Option Int):slicePick its.toArray lo hi none=((its.drop (HT.sIx its.length 0 lo)).take (HT.sIx its.length its.length hi - HT.sIx its.length 0 lo)).toArray:=by
 obtain⟨h1,h2,h3⟩:=zbJ lo hi its.toArray.size
 unfold slicePick
 rw[h1,h2,h3]
 simp only[sliceRange_one,pick_run,j3] <;> rfl
def rSlL (K:W.Frag):V->Option Int->Option Int->Hp->VK->Prop:=λx lo hi H Q=>∃ a xs,x=.ref a/\SqL K H a xs/\∀ p,H p=none->Q (.ref p) (upd H p (.lst (zcF xs lo hi)))
theorem zjl:SlR X (rSlL X.K):=by
 intro pins s σ H x v vl vu lo hi sl Q I rx hs pl pu h
 obtain⟨a,xs,rfl,hx,q⟩:=h
 cases rx
 obtain⟨its,r,ht,hz⟩:=I.list hx
 have hlen:=r.length
 refine⟨"list",_,slot_list_getitem.lookup,ht.isList.typeIs,?_⟩
 refine wpAny_getItem_list_slice ht.isList hs pl pu .none (by simp) ?_ (by rw[j3] <;> omega)
 rw[V9,<- hlen]
 refine⟨.ref s.heap.objs.size,_,I.laid (t':=s.toks) (o:=.lst (zcF xs lo hi)) (λb ob q=>u5 _ q) (q5 _) ?_,rfl,q _ (I.hok.fresh (q5 _))⟩
 exact⟨u0H (Vr xs lo hi) hz,_,0,(r.drop (HT.sIx xs.length 0 lo)).take (HT.sIx xs.length xs.length hi - HT.sIx xs.length 0 lo),r6 _ rfl⟩
def zkc:V->Bool
 | .non=>true
 | .bl _=>true
 | .int _=>true
 | .str _=>true
 | _=>false
def eqV:V->V->Bool
 | .non,.non=>true
 | .bl a,.bl b=>a == b
 | .bl a,.int b=>(if a then 1 else 0) == b
 | .int a,.bl b=>a == (if b then 1 else 0)
 | .int a,.int b=>a == b
 | .str a,.str b=>a == b
 | _,_=>false
theorem ziV {A:Around}{s:Shared}{y x:V}{u v:Value}(ry:xj y u)(rx:xj x v)(fy:zkc y=true)(fx:zkc x=true):SeqAt.EqAt A s u v (eqV y x):=by
 cases y with
 | non =>
  cases ry
  cases x with
  | non=>cases rx;exact SeqAt.EqAt.same _
  | bl b=>cases rx;exact SeqAt.EqAt.none_bool b
  | int b=>obtain⟨t,rfl⟩:=rx;exact SeqAt.EqAt.none_int b t
  | str b=>obtain⟨t,rfl⟩:=rx;exact SeqAt.EqAt.none_str b t
  | _=>exact absurd (show false=true from fx) u6
 | bl a =>
  cases ry
  cases x with
  | non=>cases rx;exact SeqAt.EqAt.bool_none a
  | bl b=>cases rx;exact SeqAt.EqAt.bool_bool a b
  | int b=>obtain⟨t,rfl⟩:=rx;exact SeqAt.EqAt.bool_int a b t
  | str b=>obtain⟨t,rfl⟩:=rx;exact SeqAt.EqAt.bool_str a b t
  | _=>exact absurd (show false=true from fx) u6
 | int a =>
  obtain⟨t',rfl⟩:=ry
  cases x with
  | non=>cases rx;exact SeqAt.EqAt.int_none a t'
  | bl b=>cases rx;exact SeqAt.EqAt.int_bool a t' b
  | int b=>obtain⟨t,rfl⟩:=rx;exact u2s a t' b t
  | str b=>obtain⟨t,rfl⟩:=rx;exact SeqAt.EqAt.int_str a t' b t
  | _=>exact absurd (show false=true from fx) u6
 | str a =>
  obtain⟨t',rfl⟩:=ry
  cases x with
  | non=>cases rx;exact SeqAt.EqAt.str_none a t'
  | bl b=>cases rx;exact SeqAt.EqAt.str_bool a t' b
  | int b=>obtain⟨t,rfl⟩:=rx;exact SeqAt.EqAt.str_int a t' b t
  | str b=>obtain⟨t,rfl⟩:=rx;exact SeqAt.EqAt.str_str a t' b t
  | _=>exact absurd (show false=true from fx) u6
 | _=>exact absurd (show false=true from fy) u6
theorem zG:Xw X (.builtin "len") (λxs H Q=>∃ p ys,xs=[.ref p]/\(SqL X.K H p ys\/SqT X.K H p ys)/\Q (.int ys.length) H):=by
 intro pins s σ H xs us Q I r h
 obtain⟨p,ys,rfl,hq,q⟩:=h
 obtain⟨u,rfl,rx⟩:=zaf r
 cases rx
 have hn:=V6
 rcases hq with hq | hq
 .obtain⟨its,r',pl,hz⟩:=I.list hq
  have hlen:=r'.length
  exact Calls.call_len_list pl.isList (by simp only[j3] <;> omega) ⟨.int ys.length,H,I.tok _,⟨s.toks+1,by rw[j3,hlen]⟩,q⟩
 .obtain⟨its,r',pl,hz⟩:=I.tuple hq
  have hlen:=r'.length
  exact len_tuple pl (by simp only[j3] <;> omega) ⟨.int ys.length,H,I.tok _,⟨s.toks+1,by rw[j3,hlen]⟩,q⟩
theorem xB:Xw X (.type "tuple") (λxs H Q=>∃ p ys,xs=[.ref p]/\((SqL X.K H p ys/\∀ l,H l=none->Q (.ref l) (upd H l (.tup ys)))\/(SqT X.K H p ys/\Q (.ref p) H))):=by
 intro pins s σ H xs us Q I r h
 obtain⟨p,ys,rfl,h⟩:=h
 obtain⟨u,rfl,rx⟩:=zaf r
 cases rx
 rcases h with ⟨hq,q⟩ | ⟨hq,q⟩
 .obtain⟨its,r',pl,hz⟩:=I.list hq
  have hlen:=r'.length
  refine call_tuple_list pl.isList (λh' kp=>?_) (by simp only[j3] <;> omega)
  have I1:Inv X pins σ H { s with heap:=h' }:=I.kept (t':=s.toks) kp
  have I2:Inv X pins σ (upd H h'.objs.size (.tup ys)) { s with heap:=h'.push { cls:=.type "tuple",data:=.seq its.toArray } } :=
   I1.laid (t':=s.toks) (λb o e=>u5 _ e) (q5 _) (show xk X.prog X.w _ _ _ (.tup ys) from⟨hz,its,r',IsTup.new _ _⟩)
  exact⟨.ref h'.objs.size,_,I2,rfl,q _ (I1.hok.fresh (q5 _))⟩
 .obtain⟨its,r',pl,hz⟩:=I.tuple hq
  exact call_tuple_same pl ⟨.ref p,H,I,rfl,q⟩
def tyV (K:W.Frag)(T:String)(x:V)(H:Hp):Prop:=match x with
 | .str _=>T="str"
 | .int _=>T="int"
 | .ref p=>(T="list"/\∃ xs,SqL K H p xs)\/(T="tuple"/\∃ o,K.lookup p=some o/\o.cls=.type "tuple"/\o.dict=none) \/
  (T="dict"/\((∃ kvs,H p=some (.dK kvs))\/∃ kvs,H p=some (.dT kvs)))\/(T="set"/\∃ S n,H p=some (.set S n))
 | _=>False
theorem zlc {pins:List (Addr × Obj)}{σ:St}{H:Hp}{s:Shared}{T:String}{x:V}{v:Value}(I:Inv X pins σ H s)(r:xj x v)(ty:tyV X.K T x H) :
 s.TypeIs v T/\∀ a,v=.ref a->∃ ob,s.heap.get? a=some ob/\ob.dict=none:=by
 cases x with
 | str z =>
  obtain⟨t,rfl⟩:=r
  cases (show T="str" from ty)
  exact⟨typeIs_str s z t,λ_ e=>nomatch e⟩
 | int i =>
  obtain⟨t,rfl⟩:=r
  cases (show T="int" from ty)
  exact⟨typeIs_int s i t,λ_ e=>nomatch e⟩
 | ref p =>
  cases r
  rcases ty with ⟨rfl,xs,hq⟩ | ⟨rfl,o,hk,hc,hd⟩ | ⟨rfl,hk⟩ | ⟨rfl,S,n,hk⟩
  .obtain⟨its,_,pl,_⟩:=I.list hq
   refine⟨pl.isList.typeIs,λa e=>?_⟩
   cases e
   obtain⟨o,n,e,c,hd,_⟩:=pl
   exact⟨o,e,hd⟩
  .refine⟨⟨o,I.kIn p o hk,hc⟩,λa e=>?_⟩
   cases e
   exact⟨o,I.kIn _ o hk,hd⟩
  .have z:∃ o,s.heap.get? p=some o/\o.ExactDict:=by
    rcases hk with ⟨kvs,hk⟩ | ⟨kvs,hk⟩
    .obtain⟨_,_,_,_,o,_,_,e,ex,_⟩:=I.hok p _ hk
     exact⟨o,e,ex⟩
    .obtain⟨_,_,_,_,o,_,_,e,ex,_⟩:=I.hok p _ hk
     exact⟨o,e,ex⟩
   obtain⟨o,e,ex⟩:=z
   refine⟨⟨o,e,ex.1⟩,λa e2=>?_⟩
   cases e2
   exact⟨o,e,ex.2.1⟩
  .obtain⟨o,_,_,_,e,ex,_⟩:=I.hok p _ hk
   refine⟨⟨o,e,ex.1⟩,λa e2=>?_⟩
   cases e2
   exact⟨o,e,ex.2.1⟩
 | _=>exact False.elim ty
def tBM (K:W.Frag)(T:String)(r:V->List V->Hp->VK->Prop)(to:TE)(t:TA):TE:=fun σ H Q=>to σ H λx H1=>tyV K T x H1/\t σ H1 λxs H2=>r x xs H2 Q
variable {o e:Expr}{es:List Expr}{to:TE}{t:TA}{name:Str}{apos cpos:Pos}{T id:String}{r:V->List V->Hp->VK->Prop}
theorem zbm (pa:PlainAttrs T) (slot:Slot T name id) (hty:typeOf (.builtin id)=pure (.type "method_descriptor")) (hm:MtR X id r) (ho:PE X o to) (ha:PA X (e::es) t)
 (hbase:attributeBase o name X.env (eval o X.env)=eval o X.env:=by rfl)
 (hfew:((backTo cpos (starEach (e::es) X.env)).all (λx=>!x.1)&&(backToKw cpos (keywordEach [] X.env)).all (λx=>x.1.isSome)
  && decide ((e::es).length+([]:List Keyword).length+(if ([]:List Keyword).isEmpty then 0 else 1) < 30))=true:=by rfl)
 (hline:(apos.endLine == cpos.line)=true:=by rfl) (hs:starEach (e::es) X.env=(false,eval e X.env)::starEach es X.env:=by rfl) (hplain:(backTo cpos (starEach es X.env)).any (·.1)=false:=by rfl) :
 PE X (.Call (.Attribute o name apos) (e::es) [] cpos) (tBM X.K T r to t):=by
 intro pins s σ H Q I h
 refine wpAny_Call_method_late hbase hfew hline rfl (thn (ho pins s σ H _ I h) λv s1 hh9=>?_)
 obtain⟨x,H1,I1,r1,ty,q1⟩:=hh9
 obtain⟨h1,h2⟩:=zlc I1 r1 ty
 refine⟨T,id,pa,slot,hty,h1,h2,?_⟩
 have hA:=ha cpos pins s1 σ H1 _ I1 q1
 rw[hs]at hA ⊢
 refine Calls.callWith_builtin (by show(false||(backTo cpos (starEach es X.env)).any (·.1))=false;rw[hplain] <;> rfl) (Calls.evalArgs_plain ?_)
 exact thn hA λus s2 ⟨vs,H2,I2,r2,q2⟩=>hm pins s2 σ H2 x vs v us Q I2 r1 r2 q2
/- xs.append(e),list.index on a module's tuple .. are MtR facts of 06m -/
end
def MtM (X:Cx)(id:String)(r:V->List V->Hp->VK->Prop):Prop :=
 ∀ (pins:List (Addr × Obj)) (s:Shared) (σ:St) (H:Hp) (x:V) (xs:List V) (v:Value) (us:List Value) (Q:VK),Inv X pins σ H s->xj x v->yk xs us->r x xs H Q ->
  wpAny (model X.prog X.w) X.A (call (.builtin id) (v::us)) (EP X pins σ Q) X.xe s
theorem yk.one:∀ {x:V} {us:List Value},yk [x] us->∃ u,us=[u]/\xj x u:=by
 intro x us h
 cases h with | cons r t=>cases t;exact⟨_,rfl,r⟩
theorem yk.two:∀ {x y:V} {us:List Value},yk [x,y] us->∃ u v,us=[u,v]/\xj x u/\xj y v:=by
 intro x y us h
 cases h with | cons r t=>cases t with | cons q t=>cases t;exact⟨_,_,rfl,r,q⟩
theorem yk.rep {xs:List V}{us:List Value}(h:yk xs us):∀ k:Nat,yk (List.replicate k xs).flatten (List.replicate k us).flatten
 | 0=>.nil
 | k+1=>by
  rw[u1b,u1b,u1G,u1G]
  exact yk.append h (yk.rep h k)
theorem zbM (its:List Value):∀ (k:Nat) (acc:List Value),
 List.foldl (λx1 x2=>x1++x2) acc.toArray (List.replicate k its.toArray)=(acc++(List.replicate k its).flatten).toArray
 | 0,acc=>by simp
 | k+1,acc=>by
  have e:acc.toArray++its.toArray=(acc++its).toArray:=by simp
  have e2:(acc++its)++(List.replicate k its).flatten=acc++(List.replicate (k+1) its).flatten:=by
   rw[u1b,u1G,p5]
  rw[<-e2,<- zbM its k (acc++its),<- e,u1b,u3M]
section
variable {X:Cx}{pins:List (Addr × Obj)}{σ:St}{H:Hp}{s:Shared}{l b:Addr}{xs ys zs:List V}
theorem Inv.lset {its its':List Value}{n:Nat}{f:Array Value->Array Value}{t':Nat}(I:Inv X pins σ H s)(hH:H l=some (.lst xs))
 (e:s.heap.get? l=some { cls:=.type "list",data:=.seq its.toArray n }) (hf:f its.toArray=its'.toArray) (hv:yk ys its') (hz:ys.length<=sizeLine) :
 Inv X pins σ (upd H l (.lst ys)) { s with heap:=s.heap.update l (Obj.mapSeq f),toks:=t' }:=by
 have q:=PySem.IsL.update e f
 rw[hf]at q
 refine I.write (x:=l) (e:=l) (by rw[hH];exact trivial) (.inl rfl) (λb' u hb hu=>(u0n s.heap (Obj.mapSeq f) (u1l hb)).trans hu) ⟨_,q⟩ ?_
 exact⟨hz,its',_,hv,q⟩
theorem Inv.lnew {its:List Value}{t':Nat}(I:Inv X pins σ H s)(hv:yk ys its)(hz:ys.length<=sizeLine) :
 Inv X pins σ (upd H s.heap.objs.size (.lst ys)) { s with heap:=s.heap.push { cls:=.type "list",data:=.seq its.toArray },toks:=t' } :=
 I.laid (λ_ _ q=>u5 _ q) (q5 _) ⟨hz,its,0,hv,r6 _ rfl⟩
theorem Inv.fresh (I:Inv X pins σ H s):H s.heap.objs.size=none:=I.hok.fresh (q5 _)
theorem Inv.lstM (I:Inv X pins σ H s) (hH:H l=some (.lst xs)):xs.length<=sizeLine/\∃ (its:List Value) (n:Nat),yk xs its/\xs.length=its.length/\s.heap.get? l=some { cls:=.type "list",data:=.seq its.toArray n }:=by
 obtain⟨z,its,n,r,e⟩:=I.hok l _ hH
 exact⟨z,its,n,r,r.length,e⟩
theorem zdg {n:Nat}(h:n<=sizeLine):Builtin.List.listTooLong n=false:=by
 unfold Builtin.List.listTooLong
 exact i7 (by omega)
end
section
variable {X:Cx}
def zeL:V->List V->Hp->VK->Prop:=λx vs H Q=>∃ l xs y,x=.ref l/\vs=[y]/\H l=some (.lst xs)/\xs.length < sizeLine/\Q .non (upd H l (.lst (xs++[y])))
theorem YV:MtM X "list.append" zeL:=by
 intro pins s σ H x vs v us Q I rx rv h
 obtain⟨l,xs,y,rfl,rfl,hH,hz,q⟩:=h
 cases rx
 obtain⟨u,rfl,ru⟩:=rv.one
 obtain⟨z,its,n,r,hl,e⟩:=I.lstM hH
 refine u23 F.slot_list_append ⟨_,e,rfl⟩ F.entry_list_append (F.args_list_append_2 _ _) (PySem.list_append l its.toArray n u (by rw[j3];omega)) ⟨e,?_⟩
 refine⟨.non,_,I.lset (its':=its++[u]) hH e (by simp) (r.append (.cons ru .nil)) ?_,rfl,q⟩
 rw[j9,List.length_singleton]
 omega
def zjV:V->List V->Hp->VK->Prop:=λx vs H Q=>∃ l b xs zs,x=.ref l/\vs=[.ref b]/\H l=some (.lst xs)/\H b=some (.lst zs)/\xs.length+zs.length<=sizeLine/\Q .non (upd H l (.lst (xs++zs)))
theorem zkJ:MtM X "list.extend" zjV:=by
 intro pins s σ H x vs v us Q I rx rv h
 obtain⟨l,b,xs,zs,rfl,rfl,hH,hB,hz,q⟩:=h
 cases rx
 obtain⟨u,rfl,ru⟩:=rv.one
 cases ru
 obtain⟨z,its,n,r,hl,e⟩:=I.lstM hH
 obtain⟨z2,its2,n2,r2,hl2,e2⟩:=I.lstM hB
 have hsz:its.toArray.size+its2.toArray.size<=sizeLine:=by rw[j3,j3];omega
 have hlong:¬ (!its.toArray.isEmpty&&Builtin.List.listTooLong (its.toArray.size+its2.toArray.size))=true:=by
  rw[zdg hsz,u16]
  exact u6
 refine u23 F.slot_list_extend ⟨_,e,rfl⟩ F.entry_list_extend (F.args_list_extend_2 _ _)
  (AutoSeq1.list_extend_list_list_0 l its.toArray n b its2.toArray n2 hlong (by rw[j3];omega) (by omega)) ⟨e,e2,?_⟩
 refine⟨.non,_,I.lset (its':=its++its2) hH e (by simp) (r.append r2) ?_,rfl,q⟩
 rw[j9]
 omega
def znh:R2:=λx y H Q=>∃ l b xs zs,x=.ref l/\y=.ref b/\H l=some (.lst xs)/\H b=some (.lst zs)/\xs.length+zs.length<=sizeLine/\∀ p,H p=none->Q (.ref p) (upd H p (.lst (xs++zs)))
theorem zdl:OpR X (binaryOp .Add) znh:=by
 intro pins s σ H x y v u Q I rx ry h
 obtain⟨l,b,xs,zs,rfl,rfl,hH,hB,hz,q⟩:=h
 cases rx
 cases ry
 obtain⟨z,its,n,r,hl,e⟩:=I.lstM hH
 obtain⟨z2,its2,n2,r2,hl2,e2⟩:=I.lstM hB
 refine PySem.P.add_list e e2 ?_ (by rw[j3,j3];omega)
 have ea:its.toArray++its2.toArray=(its++its2).toArray:=by simp
 rw[ea]
 exact⟨.ref _,_,I.lnew (t':=s.toks) (r.append r2) (by rw[j9];omega),rfl,q _ I.fresh⟩
def rRep:R2:=λx y H Q=>∃ l k xs,x=.ref l/\y=.int k/\H l=some (.lst xs)/\-(2 ^ 63)<=k/\k < 2 ^ 63/\xs.length*k.toNat<=sizeLine /\
 ∀ p,H p=none->Q (.ref p) (upd H p (.lst (List.replicate k.toNat xs).flatten))
theorem zjX {α:Type}(xs:List α)(k:Nat):(List.replicate k xs).flatten.length=k*xs.length:=by
 induction k with
 | zero=>simp
 | succ k ih=>rw[u1b,u1G,j9,ih,Nat.succ_mul,Nat.add_comm]
theorem zi1:OpR X (binaryOp .Mult) rRep:=by
 intro pins s σ H x y v u Q I rx ry h
 obtain⟨l,k,xs,rfl,rfl,hH,h1,h2,hz,q⟩:=h
 cases rx
 obtain⟨t,rfl⟩:=ry
 obtain⟨z,its,n,r,hl,e⟩:=I.lstM hH
 have hlen:its.toArray.size*k.toNat<=sizeLine:=by rw[j3,<- hl];exact hz
 have hcap:¬ its.toArray.size*k.toNat > (2 ^ 63 - 1) / 8:=by
  have:(sizeLine:Nat)<=(2 ^ 63 - 1) / 8:=by decide
  omega
 have hfit:¬ (!Builtin.List.listFitsIndex k)=true:=by
  rw[fitsIndex_both h1 h2]
  exact u6
 have hlong:¬ Builtin.List.listTooLong (its.toArray.size*k.toNat)=true:=by
  rw[zdg hlen]
  exact u6
 have hnew:List.foldl (λx1 x2=>x1++x2) #[] (List.replicate (if its.toArray.isEmpty=true then 0 else k.toNat) its.toArray)=(List.replicate k.toNat its).flatten.toArray:=by
  have f0:∀ m:Nat,List.foldl (λx1 x2=>x1++x2) #[] (List.replicate m its.toArray)=(List.replicate m its).flatten.toArray:=λm=>by
   have:=zbM its m []
   rw[u3b]at this
   exact this
  rw[f0]
  cases its with
  | nil=>simp
  | cons a r'=>rw[j6 (by simp)]
 refine wpAny_binaryOp_repeat_ref (T:="list") (U:="int") (by decide) ⟨_,e,rfl⟩ (λs'=>typeIs_int s' k t) noFill_list_mul F.fills_int_mul F.slot_int_rmul repeat_list F.slot_int_index.lookup
  (u23 F.slot_int_rmul (typeIs_int s k t) F.entry_int_rmul (F.args_int_rmul_2 _ _) (int___rmul___int_list k t l its.toArray n)
   ⟨e,rfl,⟨_,e,rfl⟩,u23 F.slot_list_mul ⟨_,e,rfl⟩ F.entry_list_mul (F.args_list_mul_2 _ _) (AutoListH.list___mul___list_int_3 l its.toArray n k t hfit hcap hlong) ⟨e,?_⟩⟩)
 rw[hnew]
 exact⟨.ref _,_,I.lnew (t':=s.toks) (r.rep k.toNat) (by rw[zjX,Nat.mul_comm];exact hz),rfl,q _ I.fresh⟩
end
end L2
namespace Att
open PySem PySem.W PySem.Calls PyProof.Rows
theorem Vh {P:Params}{h:Heap}:∀ (ns:List Int) (vs:List Value),WellAll P h vs (ns.map WData.int)->IntsAre vs ns:=by
 intro ns
 induction ns with
 | nil =>
  intro vs w
  rw[u3N]at w
  cases w
  exact .nil
 | cons n ns ih =>
  intro vs w
  rw[u0g]at w
  cases w with
  | cons a b =>
   cases a
   exact .cons _ _ (ih _ b)
theorem zff {l:OpenLaw}{n:Nat}(hn:l.most=some n){P:Params}{h:Heap}{args:List WData}{vals:List Value}
 (hpre:l.row.toRowW.claim.pre args=true) (hwl:WellAll P h vals args) :
 ∃ a vs ns,vals=[Value.ref a]/\args=[WData.list (ns.map WData.int)]/\h.get? a=some { cls:=.type "list",data:=.seq vs.toArray }/\IntsAre vs ns/\ns.length<=n:=by
 have hsh:WShape.hasAll [] args [.list .int]=true:=(pre_splitW hpre).1
 have hc:l.pre.holds [] { args:=args }=true:=(pre_splitW hpre).2
 obtain⟨d,r,rfl,h1,h2⟩:=hasAllW_cons hsh
 obtain rfl:=hasAllW_nil h2
 obtain⟨xs,rfl,h3⟩:=hasW_list h1
 obtain⟨ns,rfl⟩:=items_int h3
 have hlen:ns.length<=n:=by
  unfold OpenLaw.pre at hc
  have h4:(WTm.not (.lt (.lit (.int (n:Int))) (.len (.arg 0)))).holds [] { args:=[.list (ns.map .int)] }=true:=by
   have h4:=(holds_andW hc).1
   rw[hn]at h4
   exact h4
  have h5:=condW_of h4 (w_not (w_lt w_lit (w_len_list (w_arg rfl))))
  rw[u9]at h5
  refine u3D λq=>?_
  have q':(n:Int) < ((ns.length:Nat):Int):=by omega
  first
   | (rw[o0 q']at h5;exact absurd h5 (by decide))
   | (simp at h5;omega)
 cases hwl with
 | cons w1 w2 =>
  cases w2
  cases w1 with
  | list ho hall=>exact⟨_,_,ns,rfl,rfl,ho,Vh ns _ hall,hlen⟩
theorem zfu (l:OpenLaw)(args:List WData):l.row.toRowW.claim.post args (.bool true) args=true :=
 postW_of (r:=l.row.toRowW) (X:=(true == true))
  (show WShape.has [] (.bool true) .bool=true by first | rfl | decide | simp[WShape.has,WShape.arms,WShape.armsAll])
  (show(WTm.eq .res (.lit (.bool true))).value [] { args:=args,res:=some (.bool true),after:=args }=some (.bool (true == true))from w_eq_bool (w_res rfl) w_lit) rfl
theorem attach_call {l:OpenLaw}{n:Nat}{q:Program}{loose:List Str}{XP:(Str->Option Value)->Heap->Prop}{YP:World->Heap->Prop}{d:DefRec}
 (hn:l.most=some n) (hdf:d.params.defaults=[])
 (call:∀ (w:World) (s₀ s₁:Shared) (mg mb:Str->Option Value) (fa:Addr) (o:Obj) (pm cd doc:Value) (a:Addr) (vs:List Value) (ns:List Int),
  Ground q loose [] XP w s₀ mg mb s₁.heap->YP w s₁.heap ->
  s₁.heap.get? fa=some o->o.data=.func (docDef d.name d.params d.body d.scope pm cd doc)->s₁.heap.CodeRec cd d.name->mg d.name=some (.ref fa) ->
  s₁.heap.get? a=some { cls:=.type "list",data:=.seq vs.toArray }->IntsAre vs ns->ns.length<=n->s₁.gens=#[] ->
  codeAny (model l.prog w) callerA (.call (.ref fa) ⟨[.ref a],[]⟩) (λr s'=>r=.ok (.ret (.bool true))/\OldK s₁.heap s'.heap/\s'.os=s₁.os/\AllBare s'.gens) s₁) :
 WalkO q loose XP YP l.row.toRowW d [] (λf vs=>PySem.call f vs):=by
 intro w s₀ s₁ mg mb G Y fa o pm cd doc dV kV ho hd hcd hD hmg hg args vals as hpre hlay hrd hwl hlo
 obtain rfl:dV=.none:=Dflts.none hD hdf
 obtain rfl:kV=.none:=Dflts.noKw hD
 obtain⟨a,vs,ns,rfl,rfl,hobj,hints,hlen⟩:=zff hn hpre hwl
 refine enter_call (u2S (call w s₀ s₁ mg mb fa o pm cd doc a vs ns G Y ho (fd_plain hd) hcd hmg hobj hints hlen hg) λr s' hq=>?_)
 obtain⟨rfl,h2,h3,h4⟩:=hq
 exact⟨.inl ⟨.bool true,.bool true,[],rfl,λ_=>rfl,.bool true,zfu l _,λ_=>⟨List.Pairwise.nil,λ_ hm=>(nomatch hm)⟩⟩,h2,h3,h4⟩
section
variable {prog:Program}{w:World}{A:Around}{E:Value->Shared->Prop}{s:Shared}{K:Frag}
def ledger (h:Heap)(L d:Addr):List (Addr × Obj):=(List.range h.objs.size).filterMap λa=>if a=L\/a=d then none else (h.get? a).map λo=>(a,o)
end
end Att
namespace L2
open PySem PySem.Spec PyProof.Rows
theorem zbY:∀ {vs:List Value} {ns:List Int},IntsAre vs ns->yk (ns.map V.int) vs:=by
 intro vs ns h
 induction h with
 | nil=>exact .nil
 | cons n t h ih=>exact .cons ⟨t,rfl⟩ ih
def ZO (s:Stmt):Arguments:=match s with
 | .FunctionDef _ a _ _ _ _ _ _ _ _=>a
 | _=>{ posonlyargs:=[],args:=[],vararg:=none,kwonlyargs:=[],kw_defaults:=[],kwarg:=none,defaults:=[] }
def xn (s:Stmt):List Stmt:=match s with
 | .FunctionDef _ _ b _ _ _ _ _ _ _=>b
 | _=>[]
def zk (s:Stmt):Scope:=match s with
 | .FunctionDef _ _ _ _ _ _ sc _ _ _=>sc
 | _=>{ kind:=.function,names:=[],isGenerator:=false,isCoroutine:=false }
abbrev CX0:CXT:=λ_ _ _ _ _ _=>False
abbrev E0:XK:=λ_ _ _=>False
theorem zmV {X:Cx}:Wc CX0 X E0:=λ_ _ _ _ _ _ _ h=>h.elim
structure Fun (K:W.Frag) (x qual:Str) (st:Stmt) (f:Addr) (fd:FuncData):Prop where
 ex:∃ (oc:Value) (od:Option Addr) (kV doc pm:Value) (an:Option Addr) (cdv ct:Value) (osl:Array (Option Value)),
  fd=W.fnOf x qual (ZO st) (xn st) (zk st) .none kV doc pm an cdv ct/\K.lookup f=some ⟨oc,od,.func fd,osl⟩/\W.codeIn K cdv qual=true
 kp:W.keepIn K (.ref f)=true
section
variable {P:Program}{w:World}{K:W.Frag}{mg:Str->Option Value}{base:Heap}
theorem Fun.ok {x qual:Str}{st:Stmt}{f:Addr}{fd:FuncData}{N ps:List Str}{k:Nat}{sp:Sp}(F:Fun K x qual st f fd)(S:zx N ps (zk st))(len:∀ vs H Q E,sp vs H Q E->vs.length=ps.length)
 (hbody:∀ (cdv:Value) (A:Around) (outer:List Env) (s:Shared) (H:Hp) (vs:List V) (Q:VK) (E:XK),ve k (A.deeper (envOfC qual (zk st) s.heap.objs.size f cdv))->sp vs H Q E ->
  ∃ t,PSs (Vv CX0 P w K mg base N qual (zk st) f cdv A outer s H E).nox (xn st) t/\t { nx:=λ_ H'=>Q .non H',rt:=Q } (start N vs) H):yU P w K mg base CX0 (k+1) f fd ps sp:=by
 obtain⟨oc,od,kV,doc,pm,an,cdv,ct,osl,rfl,lk,hcd⟩:=F.ex
 refine zjr lk hcd S len λA outer s H vs Q E hr hsp=>?_
 obtain⟨t,h,q⟩:=hbody cdv A outer s H vs Q E hr hsp
 exact⟨t,h.nox,q⟩
theorem Fun.binds {x qual:Str}{st:Stmt}{f:Addr}{fd:FuncData}{ps:List Str}(F:Fun K x qual st f fd)
 (h:∀ (kV doc pm:Value) (an:Option Addr) (cdv ct:Value) (us:List Value),us.length=ps.length->bindArgs (W.fnOf x qual (ZO st) (xn st) (zk st) .none kV doc pm an cdv ct) ⟨us,[]⟩=pure (ps.zip us)):zaS K fd ps []:=by
 obtain⟨oc,od,kV,doc,pm,an,cdv,ct,osl,rfl,lk,hcd⟩:=F.ex
 exact .all (h kV doc pm an cdv ct)
theorem zi3 {x qual:Str}{st:Stmt}{f:Addr}{oc:Value}{od an:Option Addr}{osl:Array (Option Value)}{kV doc pm cdv ct:Value}(l:K.lookup f=some ⟨oc,od,.func (W.fnOf x qual (ZO st) (xn st) (zk st) .none kV doc pm an cdv ct),osl⟩)
 (c:W.codeIn K cdv qual=true) (k:W.keepIn K (.ref f)=true):Fun K x qual st f (W.fnOf x qual (ZO st) (xn st) (zk st) .none kV doc pm an cdv ct):=⟨⟨oc,od,kV,doc,pm,an,cdv,ct,osl,rfl,l,c⟩,k⟩
end
theorem Xr {n:Nat}(h:n<=1000):n < sizeLine:=u0F h (by decide)
section
variable {X:Cx}
theorem pv (i:Nat) {x:Str} {pos:Pos} (hN:X.N[i]?=some x:=by rfl) (hv:Vis X.env.scope x:=by first | exact Or.inl rfl | exact Or.inr (Or.inl rfl) | exact Or.inr (Or.inr rfl)) (hd:(x == ("__debug__":Str))=false:=by decide)
 (hcd:(x == ("__classdict__":Str))=false:=by decide):PE X (.Name x pos) (zef i):=zmf hN hv hd hcd
end
def yn (H H':Hp):Prop:=∀ b o,H b=some o->H' b=some o
theorem yn.refl (H:Hp):yn H H:=λ_ _ h=>h
theorem yn.trans {H H1 H2:Hp}(a:yn H H1)(b:yn H1 H2):yn H H2:=λc o h=>b c o (a c o h)
theorem yn.free {H H':Hp}(e:yn H H'){l:Addr}(h:H' l=Option.none):H l=Option.none:=by
 cases q:H l with
 | none=>rfl
 | some o =>
  rw[e l o q]at h
  cases h
theorem yn.seq {K:W.Frag}{H H':Hp}{a:Addr}{xs:List V}(e:yn H H')(h:SqL K H a xs):SqL K H' a xs:=by
 rcases h with (h | ⟨o,h⟩) | h
 .exact .inl (.inl (e _ _ h))
 .exact .inl (.inr ⟨o,e _ _ h⟩)
 .exact .inr h
theorem zcX {X:Cx}:Xw X (.builtin "isinstance") (λxs H Q=>∃ x n t b,xs=[x,.ty n]/\zc3 X.K H x t/\W.kitOne X.K t (.type n)=some b/\Q (.bl b) H):=by
 intro pins s σ H xs us Q I r h
 obtain⟨x,n,t,b,rfl,ty,e,q⟩:=h
 obtain⟨u,w',rfl,rx,rt⟩:=zeh r
 cases (show w'=Value.type n from rt)
 exact zfX I rx ty e λtk=>⟨.bl b,H,I.tok _,rfl,q⟩
theorem zin {X:Cx}:OpR X (compareOp .Is) (λx y H Q=>∃ i j,x=.bl i/\y=.bl j/\Q (.bl (i == j)) H):=by
 intro pins s σ H x y v u Q I rx ry h
 obtain⟨i,j,rfl,rfl,q⟩:=h
 cases rx
 cases ry
 refine wpAny_is_plain (by rfl) ⟨.bl (i == j),H,I,?_,q⟩
 cases i <;> cases j <;> rfl
theorem zcK {X:Cx}:OpR X (compareOp .IsNot) (λx y H Q=>∃ i j,x=.bl i/\y=.bl j/\Q (.bl (!(i == j))) H):=by
 intro pins s σ H x y v u Q I rx ry h
 obtain⟨i,j,rfl,rfl,q⟩:=h
 cases rx
 cases ry
 refine wpAny_isNot_plain (by rfl) ⟨.bl (!(i == j)),H,I,?_,q⟩
 cases i <;> cases j <;> rfl
def ziB (K:W.Frag):R2:=λx y H Q=>∃ a b xs ys,x=.ref a/\y=.ref b/\SqT K H a xs/\SqT K H b ys/\xs.length+ys.length<=sizeLine /\
 (xs=[]->Q (.ref b) H)/\(xs≠[]->ys=[]->Q (.ref a) H)/\(xs≠[]->ys≠[]->∀ p,H p=none->Q (.ref p) (upd H p (.tup (xs++ys))))
theorem zg7 {X:Cx}:OpR X (binaryOp .Add) (ziB X.K):=by
 intro pins s σ H x y v u Q I rx ry h
 obtain⟨a,b,xs,ys,rfl,rfl,ha,hb,hz,q0,q1,q2⟩:=h
 by_cases hx:xs=[]
 .subst hx
  cases rx
  cases ry
  obtain⟨its,r,p,_⟩:=I.tuple ha
  obtain⟨its',r',p',_⟩:=I.tuple hb
  cases r
  obtain⟨⟨cls,dd,data,sl⟩,ho,hc,n,hd⟩:=id p
  obtain⟨⟨cls2,dd2,data2,sl2⟩,ho2,hc2,n2,hd2⟩:=id p'
  simp only at hc hd hc2 hd2
  subst hc hd hc2 hd2
  exact concat_meets ⟨_,ho,rfl⟩ ⟨_,ho2,rfl⟩ noFill_tuple_add seq_tuple_add u2x u2r (u2l _ _)
   (tuple_addW0 a b #[] its'.toArray n n2 dd dd2 sl sl2 rfl) ⟨ho,ho2,⟨.ref b,H,I,rfl,q0 rfl⟩⟩
 .refine zji pins s σ H (.ref a) (.ref b) v u Q I rx ry ⟨a,b,xs,ys,rfl,rfl,ha,hb,hx,hz,?_⟩
  exact⟨λe=>q1 hx e,λe=>q2 hx e⟩
inductive X8:St->St->Prop where
 | nil:X8 [] []
 | non {a:Option V} {s t:St}:X8 s t->X8 (none::s) (a::t)
 | same {a:Option V} {s t:St}:X8 s t->X8 (a::s) (a::t)
theorem X8.refl:∀ s:St,X8 s s
 | []=>.nil
 | _::r=>.same (X8.refl r)
theorem X8.length {s t:St}(h:X8 s t):s.length=t.length:=by
 induction h with
 | nil=>rfl
 | non _ ih=>simp[ih]
 | same _ ih=>simp[ih]
theorem X8.get {s t:St}(h:X8 s t):∀ (i:Nat) (v:V),s[i]?=some (some v)->t[i]?=some (some v):=by
 induction h with
 | nil=>intro i v e;exact e
 | non _ ih =>
  intro i v e
  cases i with
  | zero=>simp at e
  | succ i=>simpa using ih i v (by simpa using e)
 | same _ ih =>
  intro i v e
  cases i with
  | zero=>simpa using e
  | succ i=>simpa using ih i v (by simpa using e)
theorem X8.set {n:Nat}{v:V}:∀ {s t:St},X8 s t->s[n]?=some none->X8 s (t.set n (some v))
 | _,_,.nil,_=>.nil
 | _,_,.non (a:=a) h,e=>by
  cases n with
  | zero=>exact .non h
  | succ n=>exact .non (X8.set h (by simpa using e))
 | _,_,.same (a:=a) h,e=>by
  cases n with
  | zero =>
   have e':a=none:=by simpa using e
   subst e'
   exact .non h
  | succ n=>exact .same (X8.set h (by simpa using e))
theorem Inv.sub {X:Cx}{pins:List (Addr × Obj)}{σ σ':St}{H:Hp}{s:Shared}(I:Inv X pins σ H s)(h:X8 σ' σ):Inv X pins σ' H s:=I.weak h.length h.get
def PIf (X:Cx)(ifs:List Expr)(t:TT):Prop :=
 ∀ (pins:List (Addr × Obj)) (s:Shared) (σ:St) (H:Hp) (Q:Bool->Hp->Prop),Inv X pins σ H s->t σ H Q ->
  wpAny (model X.prog X.w) X.A (forIn ifs true λc r=>if r=true then do let ok<-isTrue c X.env (eval c X.env);pure (ForInStep.yield ok)else pure (ForInStep.yield r)) (TP X pins σ Q) X.xe s
def tYes:TT:=λ_ H Q=>Q true H
theorem zgD {X:Cx}:PIf X [] tYes:=by
 intro pins s σ H Q I h
 rw[u2K]
 exact t7 ⟨H,I,h⟩
theorem zju {X:Cx}{c:Expr}{t:TT}(hc:PT X c t):PIf X [c] t:=by
 intro pins s σ H Q I h
 rw[u2o]
 refine u0 ?_
 rw[j4 rfl]
 refine u0 (thn (hc pins s σ H Q I h) λb s1 q=>t7 ?_)
 show wpAny _ _ (forIn [] b _) _ _ _
 rw[u2K]
 exact t7 q
section
variable {prog:Program}{w:World}{A:Around}{R:Result->Shared->Prop}{s:Shared}
theorem Zv {elt target iter:Expr}{ifs:List Expr}{scope:Scope}{pos:Pos}{it acc:Value}{env:Env}(I:Nat->Shared->Prop)
 (turn:∀ n s,I n s->wpAny (model prog w) A (pyNext it) (λr s₁=>match r with
  | none=>R (.ok .next) s₁
  | some v=>wpAny (model prog w) A (letOwnedTupleGo target it v) (λ_ s₁'=>wpAny (model prog w) A (assign target env v) (λ_ s₂ =>
   wpAny (model prog w) A (forIn ifs true λc r=>if r=true then do let ok<-isTrue c env (eval c env);pure (ForInStep.yield ok)else pure (ForInStep.yield r)) (λok s₃ =>
    if ok=true then wpAny (model prog w) A (eval elt env) (λx s₄ =>
     wpAny (model prog w) A (call (.builtin "list.append") [acc,x]) (λ_ s₅=>∃ m,m < n/\I m s₅) (λ_ _=>False) s₄) (λ_ _=>False) s₃
    else ∃ m,m < n/\I m s₃) (λ_ _=>False) s₂) (λ_ _=>False) s₁') (λ_ _=>False) s₁) (λ_ _=>False) s)
 (n:Nat) (h:I n s) :
 codeAny (model prog w) A (.compLoop (.ListComp elt [⟨target,iter,ifs,0⟩] scope pos) 0 it acc env) R s:=by
 refine codeAny_loop rfl I (λn s hI=>?_) n h
 show wpAny _ A ((compTurn (.ListComp elt [⟨target,iter,ifs,0⟩] scope pos) 0 it acc env).onRaise (λx=>do noteFrame x env;theTreesLotGoes x)) _ _ s
 refine wpAny_noted ?_
 rw[compTurn_list]
 refine u0 (wpAny_standAt (u0 (u0B (turn n s hI) (λr s₁ h₁=>?_) λ_ _ h'=>h'.elim)))
 cases r with
 | none=>exact t7 h₁
 | some v =>
  refine u0 (u0B h₁ (λ_ s₁' h₁'=>?_) λ_ _ h'=>h'.elim)
  refine u0 (u0B h₁' (λ_ s₂ h₂=>u0 (u0B h₂ (λok s₃ h₃=>?_) λ_ _ h'=>h'.elim)) λ_ _ h'=>h'.elim)
  cases ok with
  | false=>exact t7 ⟨rfl,h₃⟩
  | true =>
   exact u0 (u0 (u0B h₃ (λx s₄ h₄=>u0 (u0B h₄ (λ_ s₅ h₅=>t7 (t7 ⟨rfl,h₅⟩)) λ_ _ h'=>h'.elim)) λ_ _ h'=>h'.elim))
end
def tLC (wi:TI)(n:Nat)(g:TG)(tt:TT)(te:TE):TE:=fun σ H Q=>wi σ H λJ H1=>∀ D,H1 D=none->∃ W:Nat->Nat->List V->Hp->Prop,(∃ m,W 0 m [] (upd H1 D (.lst []))) /\
 ∀ i m ys H2,W i m ys H2->(J.stop i H2/\Q (.ref D) H2)\/(J.go i H2/\ys.length < sizeLine/\∀ x H3,J.yld i H2 x H3->g x (List.replicate n none++σ) H3 fun σ2 H4=>tt σ2 H4 λb H5 =>
  if b=true then te σ2 H5 λy H6=>H6 D=some (.lst ys)/\∃ m',m' < m/\W (i+1) m' (ys++[y]) (upd H6 D (.lst (ys++[y])))else ∃ m',m' < m/\W (i+1) m' ys H5)
theorem vI {α:Type}:∀ {l:List (Str × α)} {y:Str},y∈l.map Prod.fst->∃ c,l.lookup y=some c
 | [],_,h=>by simp at h
 | (k,v)::r,y,h=>by
  by_cases e:y=k
  .exact⟨v,by simp[List.lookup,e]⟩
  .obtain⟨c,hc⟩:=vI (l:=r) (y:=y) (by simpa [e]using h)
   have hb:(y == k)=false:=u1N.mpr e
   exact⟨c,by simp only[List.lookup,hb];exact hc⟩
theorem YI {α:Type}{P:α->Prop}:∀ p∈([]:List α),P p:=λ_ h=>nomatch h
theorem all_cons {α:Type}{P:α->Prop}{a:α}{l:List α}(h:P a)(t:∀ p∈l,P p):∀ p∈a::l,P p:=λp hp=>by
 rcases d5.mp hp with e | hp
 .rw[e];exact h
 .exact t p hp
theorem gs1 (σ:St)(v:V)(H:Hp)(Q:St->Hp->Prop)(h:VC 0 v (List.replicate 1 none++σ) H Q):VC 0 v (List.replicate 1 none++σ) H (fun σ2 H2=>X8 (List.replicate 1 none++σ) σ2/\Q σ2 H2):=⟨.set (.refl _) rfl,h⟩
def zbr (X:Cx)(L M:List Str)(scope:Scope)(cl:List (Str × Addr))(s₀:Shared)(H₀:Hp)(ex:List Addr)(pn:List (Addr × Obj)):Cx :=
 { X with N:=L++M,s₀:=s₀,H₀:=H₀,env:=compEnvC scope cl s₀.heap.objs.size X.env,outer:=X.stack,stack:=X.stack,ex:=ex,fn:=λ_=>false,pn:=pn,xe:=λ_ _=>False }
structure xF (X:Cx) (L M:List Str) (scope:Scope) (cl:List (Str × Addr)):Prop where
 clos:closureFor scope X.env=pure cl
 cell:∀ y∈scope.names,y.2≠.cell
 kind:scope.kind=.function
 names:∀ y∈scope.names,y.2=.local->scope.names.lookup y.1=some .local
 sub:∀ y c,cl.lookup y=some c->X.env.cells.lookup y=some c
 has:∀ y,((relabel scope X.env).names.lookup y=some .cell\/(relabel scope X.env).names.lookup y=some .free)->∃ c,cl.lookup y=some c
 mlen:M.length=X.N.length
 msk:∀ (i:Nat) y,M[i]?=some y->Vis (relabel scope X.env) y->X.N[i]?=some y
 vis:∀ (i:Nat) y,M[i]?=some y->Vis (relabel scope X.env) y->((relabel scope X.env).names.lookup y=some .cell\/(relabel scope X.env).names.lookup y=some .free)
 out:∀ (i:Nat) y,M[i]?=some y->Vis (relabel scope X.env) y->Vis X.env.scope y/\X.env.kindOf y≠some .local
theorem Inv.letGo {X:Cx}{pins:List (Addr × Obj)}{σ:St}{H:Hp}{s:Shared}{C:Addr}{h':Heap}(I:Inv X pins σ H s)(f:zaU X pins H C)(sb:Heap.SameBut C s.heap h'):Inv X pins σ H { s with heap:=h' }:=by
 obtain⟨f0,f1,f2,f3,f4,f5⟩:=f
 have ne:∀ b,b∉[C]->b≠C:=λb hb z=>hb (by rw[z];exact d4.mpr rfl)
 refine I.call' (s':={ s with heap:=h' }) (ch:=[C]) rfl ⟨λb o e _ _ hx=>(sb.2 b (ne b hx)).trans e,λb o e _ _ hx=>⟨o.slots,(sb.2 b (ne b hx)).trans e⟩,λ_ _ _ n _=>n,λb o e hx=>⟨o,(sb.2 b (ne b hx)).trans e⟩,λ_ _ q=>q,λ_ _ _ q=>q,λ_ _ q=>q⟩ ?_ I.bare λb hb=>?_
 .intro b ob e
  refine(I.hok b ob e).stay (λc v hc q=>(sb.2 c ?_).trans q) (λ_ q=>q) λ_ _ q=>q
  rintro rfl
  rcases hc with z | z
  .rw[<-z,f0]at e;cases e
  .rw[f0]at z;cases z
 .rw[d4.mp hb]
  exact⟨f3,f1,f4,f5⟩
theorem zgL {use:Option (Value->Sem Unit)}{Qf:Value->Shared->Prop}{X:Cx}{elt tg iter:Expr}{ifs:List Expr}{L M:List Str}{scope:Scope}{cl:List (Str × Addr)}{pos:Pos}{wi:TI}{g:TG}{tt:TT}{te:TE}
 (hc:X.calm=true) (S:xF X L M scope cl) (hi:PI X tg iter wi)
 (hgS:∀ (σ:St) (v:V) (H:Hp) (Q:St->Hp->Prop),g v (List.replicate L.length none++σ) H Q->g v (List.replicate L.length none++σ) H (fun σ2 H2=>X8 (List.replicate L.length none++σ) σ2/\Q σ2 H2))
 (hg:∀ s₀ H₀ ex pn,PG (zbr X L M scope cl s₀ H₀ ex pn) tg g) (ht:∀ s₀ H₀ ex pn,PIf (zbr X L M scope cl s₀ H₀ ex pn) ifs tt) (he:∀ s₀ H₀ ex pn,PE (zbr X L M scope cl s₀ H₀ ex pn) elt te)
 (hs:∀ x,foldedSetIterable iter X.env x=pure x:=by intro _;rfl) :
 ∀ (pos':Pos) (pins:List (Addr × Obj)) (s:Shared) (σ:St) (H:Hp) (Q:VK),Inv X pins σ H s->tLC wi L.length g tt te σ H Q ->
  (∀ (D C:Addr) (H':Hp) (s':Shared),Inv X pins σ H' s'->(∃ m,s'.heap.Ns C m)->zaU X pins H' C->Q (.ref D) H'->compPost (model X.prog X.w) X.A X.xe use Qf (.ref D) C (.ok .next) s') ->
  wpAny (model X.prog X.w) X.A (comprehension (.ListComp elt [⟨tg,iter,ifs,0⟩] scope pos) scope X.env pos' (newList []) false (eval iter X.env) use) Qf X.xe s:=by
 intro pos' pins s σ H Q I h fin
 refine wpAny_comprehension_free (use:=use) rfl hs S.clos S.kind S.names (thn (hi pins s σ H _ I h) λv s1 h1=>thn h1 λitv s2 h2=>?_)
 obtain⟨it,fp,tn,J,H2,e,I2,T,st2,f2,q⟩:=h2
 subst e
 have hD:H2 s2.heap.objs.size=none:=I2.hok.fresh (q5 _)
 obtain⟨W,⟨m0,w0⟩,turn⟩:=q _ hD
 refine u03 (wpAny_newFunctionEnv S.cell (by intro y hy;simp at hy) (λh₁ hns₁ hsb₁=>?_) S.kind)
 have I3:Inv X pins σ (upd H2 s2.heap.objs.size (.lst [])) { s2 with heap:=s2.heap.push { cls:=.type "list",data:=.seq ([]:List Value).toArray } }:=by
  refine I2.laid (t':=s2.toks) (λb u e=>u5 _ e) (q5 _) ?_
  exact⟨u0D _,[],0,.nil,r6 _ rfl⟩
 generalize hs3:({ s2 with heap:=s2.heap.push { cls:=.type "list",data:=.seq ([]:List Value).toArray } }:Shared)=s3 at I3 hns₁ hsb₁ ⊢
 have hobj:∀ b∈fp,b < s2.heap.objs.size:=λb hb=>by
  obtain⟨o,ho,_⟩:=T.obj _ _ st2 b hb
  exact j7 ho
 have hz3:s3.heap.objs.size=s2.heap.objs.size+1:=by rw[<-hs3];exact u1p ..
 have k23:∀ b o,s2.heap.get? b=some o->s3.heap.get? b=some o:=λb o e=>by rw[<-hs3];exact u5 _ e
 have k34:∀ b o,s3.heap.get? b=some o->h₁.get? b=some o:=λb o e=>(hsb₁.2 b (p4 (j7 e))).trans (u5 _ e)
 generalize hH3:upd H2 s2.heap.objs.size (.lst [])=H3 at I3 w0
 have hfp3:∀ b∈fp,H3 b=none:=λb hb=>by
  rw[<-hH3,zn (p4 (hobj b hb))]
  exact(f2 b hb).1
 have nfs:∀ b∈fp,b∉frs X.stack:=λb hb z=>by
  obtain⟨_,n1,n2,_⟩:=f2 b hb
  rcases d5.mp (I3.stkSub b z)with e | e
  .exact n1 e
  .exact n2 e
 let Y:Cx:=zbr X L M scope cl s3 H3 fp (X.pn++pins)
 have OkY:Y.Ok:=by
  refine⟨I.ok.mod,S.kind,I.ok.glob,I.ok.blt,q5 _,λx y c h1 h2=>I.ok.inj x y c (S.sub x c h1) (S.sub y c h2),λx hx=>S.has x hx,(λx c h _=>absurd h u6),I.ok.hd,I.ok.frames,.inl rfl,λb hb=>⟨?_,λx c e z=>?_⟩,
   I3.bs,u0H I.ok.bsz I3.sz,λb o e hb=>?_,nfs,I3.stack,I3.stkFree⟩
  .show b≠s3.heap.objs.size
   exact p4 (d7 (hobj b hb) (by rw[hz3];exact u3v _))
  .exact(f2 b hb).2.2.2.2.1 x c (S.sub x c e) z
  .rcases(f2 b hb).2.2.2.1 with z | z
   .exact I.ok.noex b o e z
   .have h1:=j7 e
    have h2:=I.ok.bsz
    exact absurd (d7 h1 (u0H h2 z)) (u0W _)
 have I4:Inv Y [] (List.replicate L.length none++σ) H3 { s3 with heap:=h₁,toks:=s3.toks+([]:List (Str × Value)).length }:=by
  refine⟨OkY,rfl,I3.bare,Un.kept k34,⟨_,hns₁,λi y v e1 e2 e3=>?_⟩,λx c e=>?_,I3.hok.fresh (q5 _),λx c e=>I3.freeC x c (S.sub x c e),λp hp=>?_,I3.hok.kept k34,?_⟩
  .have hi:¬ i < L.length:=λhlt=>by
    rw[u0R (by simpa using hlt),u06]at e2
    split at e2 <;> cases e2
   have e0':M[i - L.length]?=some y:=by
    have e1:(L++M)[i]?=some y:=e1
    rw[u0j (by omega)]at e1
    exact e1
   have e2':σ[i - L.length]?=some (some v):=by rw[u0j (by simpa using u3D hi)]at e2;simpa using e2
   have e1':=S.msk _ y e0' e3
   obtain⟨ov,ok⟩:=S.out _ y e0' e3
   obtain⟨m,hn,hl⟩:=I3.loc
   obtain⟨u,ru,lk⟩:=hl _ y v e1' e2' ov
   refine⟨u,ru,?_⟩
   rcases lk with ⟨hk,_⟩ | ⟨_,c,hc',hcell⟩
   .exact absurd hk ok
   .have kn:=S.vis _ y e0' e3
    obtain⟨c',hc2⟩:=S.has y kn
    have:=S.sub y c' hc2
    rw[hc']at this
    cases this
    refine .inr ⟨kn,c,hc2,?_⟩
    obtain⟨o,ho,hd⟩:=hcell
    exact⟨o,k34 _ _ ho,hd⟩
  .obtain⟨v,o,ho,hd⟩:=I3.cell x c (S.sub x c e)
   exact⟨v,o,k34 _ _ ho,hd⟩
  .have hp':p∈X.pn++pins:=u0l (X.pn++pins) ▸ hp
   obtain⟨a1,a2,a3,a4,a5⟩:=I3.pin p hp'
   refine⟨k34 _ _ a1,a2,p4 (j7 a1),λz=>?_,a5⟩
   rcases d5.mp (I3.stkSub p.1 z)with e | e
   .exact a3 e
   .exact a4 e
  .show(List.replicate L.length none++σ).length=(L++M).length
   rw[j9,j9,u0u,I.len,S.mlen]
 have fpY:∀ {H':Hp},(∀ b∈fp,H' b=none)->∀ b∈fp,zaU Y [] H' b:=λ{H'} hn b hb=>by
  refine⟨hn b hb,(OkY.exf b hb).1,nfs b hb,.inl hb,(OkY.exf b hb).2,λp hp=>?_⟩
  have hp':p∈X.pn++pins:=u0l (X.pn++pins) ▸ hp
  exact(f2 b hb).2.2.2.2.2 p hp'
 have st4:tn 0 h₁:=T.keep _ _ _ st2 λb hb o e=>k34 b o (k23 b o e)
 -- behind the loop
 have back:∀ (H':Hp) (s':Shared),Inv Y [] (List.replicate L.length none++σ) H' s'->Q (.ref s2.heap.objs.size) H'->compPost (model X.prog X.w) X.A X.xe use Qf (.ref s2.heap.objs.size) s3.heap.objs.size (.ok .next) s':=λH' s' J' q'=>by
  obtain⟨m,hn,_⟩:=J'.loc
  refine fin _ _ H' s' (I3.call' (ch:=fp) J'.os J'.base J'.hok J'.bare λb hb=>?_) ⟨m,hn⟩ (I3.fpOk (q5 _) J'.free) q'
  obtain⟨_,n1,_,n3,n4,n5⟩:=f2 b hb
  exact⟨n3,n1,n4,n5⟩
 have loop:codeAny (model X.prog X.w) X.A (.compLoop (.ListComp elt [⟨tg,iter,ifs,0⟩] scope pos) 0 (.ref it) (.ref s2.heap.objs.size) (compEnvC scope cl s3.heap.objs.size X.env))
  (compPost (model X.prog X.w) X.A X.xe use Qf (.ref s2.heap.objs.size) s3.heap.objs.size) { s3 with heap:=h₁,toks:=s3.toks+([]:List (Str × Value)).length }:=by
  refine Zv (λn s'=>∃ i ys H',Inv Y [] (List.replicate L.length none++σ) H' s'/\tn i s'.heap/\(∀ b∈fp,H' b=none)/\W i n ys H') ?_ m0 ⟨0,[],H3,I4,st4,hfp3,w0⟩
  rintro n s5 ⟨i,ys,H5,I5,st5,fr5,w5⟩
  rcases turn i n ys H5 w5 with ⟨stop,qn⟩ | ⟨go,hlen,step⟩
  .refine thn (T.done Y rfl rfl rfl hc i [] s5 _ H5 _ I5 (fpY fr5) st5 stop) λr s6 hh9=>?_
   obtain⟨hr,I6⟩:=hh9
   subst hr
   exact back H5 s6 I6 qn
  .refine thn (T.item Y rfl rfl rfl hc i [] s5 _ H5 _ I5 (fpY fr5) st5 go) λr s6 hh9=>?_
   obtain⟨u,hr,h6⟩:=hh9
   subst hr
   refine thn h6 λ_ s7 hh9=>?_
   obtain⟨x,H7,I7,r7,y7,st7,fr7⟩:=hh9
   have I7':=I7.pinned (fpY fr7) (T.obj _ _ st7)
   have g7:=hgS σ x H7 _ (step x H7 y7)
   refine thn (hg _ _ _ _ _ s7 _ H7 x u _ I7' r7 g7) λ_ s8 hh9=>?_
   obtain⟨σ8,H8,I8,sub8,q8⟩:=hh9
   have again:∀ {σ9:St} {H9:Hp} {s9:Shared} {zs:List V},Inv Y ([]++YB fp s7.heap) σ9 H9 s9->X8 (List.replicate L.length none++σ) σ9->(∃ m',m' < n/\W (i+1) m' zs H9) ->
    ∃ m,m < n/\∃ i ys H',Inv Y [] (List.replicate L.length none++σ) H' s9/\tn i s9.heap/\(∀ b∈fp,H' b=none)/\W i m ys H':=λ{σ9 H9 s9 zs} I9 sub9 w9=>by
    obtain⟨m',hm,w9⟩:=w9
    refine⟨m',hm,i+1,zs,H9,(I9.sub sub9).unpinned,T.keep _ _ _ st7 λb hb o e=>(I9.pin (b,o) (d9 _ (d9 _ (yS hb e)))).1,λb hb=>?_,w9⟩
    obtain⟨o,e,d⟩:=T.obj _ _ st7 b hb
    exact(I9.pin (b,o) (d9 _ (d9 _ (yS hb e)))).2.1
   refine thn (ht _ _ _ _ _ s8 σ8 H8 _ I8 q8) λb s9 hh9=>?_
   obtain⟨H9,I9,q9⟩:=hh9
   cases b with
   | false =>
    rw[j6 u6]at q9
    rw[j6 u6]
    exact again I9 sub8 q9
   | true =>
    rw[j4 rfl]at q9
    rw[j4 rfl]
    refine thn (he _ _ _ _ _ s9 σ8 H9 _ I9 q9) λy s10 hh9=>?_
    obtain⟨yv,H10,I10,r10,hD10,w10⟩:=hh9
    obtain⟨z10,its,k,rv,e10⟩:ys.length<=sizeLine/\∃ (its:List Value) (n:Nat),yk ys its/\s10.heap.get? s2.heap.objs.size=some { cls:=.type "list",data:=.seq its.toArray n }:=I10.hok _ _ hD10
    have hl10:s10.heap.PlainList s2.heap.objs.size its.toArray:=⟨k,e10⟩
    refine wpAny_list_append_plain (hsz:=by rw[j3,<- rv.length];exact z10) hl10 λh11 hl11 sb11=>?_
    obtain⟨k',e11⟩:=hl11
    have I11:Inv Y ([]++YB fp s7.heap) σ8 (upd H10 s2.heap.objs.size (.lst (ys++[yv]))) { s10 with heap:=h11 }:=by
     refine I10.write (x:=s2.heap.objs.size) (e:=s2.heap.objs.size) (t':=s10.toks) (by rw[hD10];exact True.intro) (.inl rfl) (λb u hb e=>(sb11.2 b hb).trans e) ⟨_,e11⟩ ?_
     refine⟨by rw[j9];show ys.length+1<=sizeLine;exact hlen,its++[y],k',rv.append (.cons r10 .nil),?_⟩
     rw[e11]
     simp
    exact again I11 sub8 w10
 exact codeAny_compStart_list loop (T.self _ 0 _ _ _ st4 loop)
theorem ziA {X:Cx}{elt tg iter:Expr}{ifs:List Expr}{L M:List Str}{scope:Scope}{cl:List (Str × Addr)}{pos:Pos}{wi:TI}{g:TG}{tt:TT}{te:TE}
 (hc:X.calm=true) (S:xF X L M scope cl) (hi:PI X tg iter wi)
 (hgS:∀ (σ:St) (v:V) (H:Hp) (Q:St->Hp->Prop),g v (List.replicate L.length none++σ) H Q->g v (List.replicate L.length none++σ) H (fun σ2 H2=>X8 (List.replicate L.length none++σ) σ2/\Q σ2 H2))
 (hg:∀ s₀ H₀ ex pn,PG (zbr X L M scope cl s₀ H₀ ex pn) tg g) (ht:∀ s₀ H₀ ex pn,PIf (zbr X L M scope cl s₀ H₀ ex pn) ifs tt) (he:∀ s₀ H₀ ex pn,PE (zbr X L M scope cl s₀ H₀ ex pn) elt te)
 (hs:∀ x,foldedSetIterable iter X.env x=pure x:=by intro _;rfl) :
 PE X (.ListComp elt [⟨tg,iter,ifs,0⟩] scope pos) (tLC wi L.length g tt te):=by
 intro pins s σ H Q I h
 rw[eval_ListComp]
 refine zgL hc S hi hgS hg ht he hs _ pins s σ H Q I h λD C H' s' I' ⟨m,hn⟩ f q=>⟨m,hn,λh' sb=>⟨.ref D,_,I'.letGo f sb,rfl,q⟩⟩
theorem zlF {i:Nat}{x:Str}{px spos:Pos}{X:Cx}{elt tg iter:Expr}{ifs:List Expr}{L M:List Str}{scope:Scope}{cl:List (Str × Addr)}{pos:Pos}{wi:TI}{g:TG}{tt:TT}{te:TE}
 (hN:X.N.Nodup) (hi':X.N[i]?=some x) (hx:Loc X.env.scope x) (hc:X.calm=true) (S:xF X L M scope cl) (hi:PI X tg iter wi)
 (hgS:∀ (σ:St) (v:V) (H:Hp) (Q:St->Hp->Prop),g v (List.replicate L.length none++σ) H Q->g v (List.replicate L.length none++σ) H (fun σ2 H2=>X8 (List.replicate L.length none++σ) σ2/\Q σ2 H2))
 (hg:∀ s₀ H₀ ex pn,PG (zbr X L M scope cl s₀ H₀ ex pn) tg g) (ht:∀ s₀ H₀ ex pn,PIf (zbr X L M scope cl s₀ H₀ ex pn) ifs tt) (he:∀ s₀ H₀ ex pn,PE (zbr X L M scope cl s₀ H₀ ex pn) elt te)
 (hs:∀ x,foldedSetIterable iter X.env x=pure x:=by intro _;rfl)
 (hsw:swapsWith (.ListComp elt [⟨tg,iter,ifs,0⟩] scope pos) (some (.Name x px)) spos.line X.env=pure true:=by rfl)
 (hf:X.fn x=true\/X.env.scope.names.lookup x=some .local:=by first | exact .inl rfl | exact .inr rfl | assumption) :
 PS X (.Assign [.Name x px] (.ListComp elt [⟨tg,iter,ifs,0⟩] scope pos) spos) (zku (tLC wi L.length g tt te) (VC i)):=by
 intro pins s σ H D I h
 rw[exec_Assign_Name_used _ _ _ _ hsw]
 refine u0 (wpAny_standAt (u0 ?_))
 show wpAny _ X.A (do let _<-comprehension (.ListComp elt [⟨tg,iter,ifs,0⟩] scope pos) scope X.env _ (newList []) false (eval iter X.env) (some (assign (.Name x px) X.env))) _ _ s
 refine u0 (thn (zgL (use:=some (assign (.Name x px) X.env)) (Qf:=λ_ s'=>SP X pins D .next s') hc S hi hgS hg ht he hs _ pins s σ H _ I h λD' C H' s' I' ⟨m,hn⟩ f q=>?_) λ_ s' hq=>t7 (t7 hq))
 have hob:∀ b∈[C],∃ o,s'.heap.get? b=some o/\∀ v,o.data≠.cell v:=λb hb=>by
  rw[d4.mp hb]
  obtain⟨o,es,ep,e,d,_⟩:=hn
  exact⟨o,e,λv z=>by rw[z]at d;cases d⟩
 have I2:=I'.pinned (fp:=[C]) (λb hb=>by rw[d4.mp hb];exact f) hob
 refine thn (zF (pos:=px) hN hi' hx hf _ s' σ H' (.ref D') (.ref D') _ I2 rfl q) λ_ s2 hh9=>?_
 obtain⟨σ2,H2,I3,q3⟩:=hh9
 obtain⟨o,es,ep,e,d⟩:=hn
 have pn:=I3.pin (C,o) (d9 _ (d9 _ (yS (d4.mpr rfl) e)))
 exact⟨m,⟨o,es,ep,pn.1,d⟩,λh' sb=>⟨σ2,H2,I3.unpinned.letGo ⟨pn.2.1,f.2⟩ sb,q3⟩⟩
def Zg (names rn dn:List (Str × NameKind))(N M cn:List Str):Bool :=
 names.all (λy=>decide (y.2≠.cell))&&names.all (λy=>decide (y.2=.local->names.lookup y.1=some .local)) &&
 rn.all (λy=>decide ((y.2=.cell\/y.2=.free)->y.1∈cn)) &&
 (M.length == N.length)&&(M.zip N).all (λp=>decide ((rn.lookup p.1=some .local\/rn.lookup p.1=some .cell\/rn.lookup p.1=some .free)->p.1=p.2)) &&
 M.all (λy=>decide ((rn.lookup y=some .local\/rn.lookup y=some .cell\/rn.lookup y=some .free) ->
  (rn.lookup y=some .cell\/rn.lookup y=some .free)/\(dn.lookup y=some .local\/dn.lookup y=some .cell\/dn.lookup y=some .free)/\dn.lookup y≠some .local))
theorem zbQ {X:Cx}{L N M cn:List Str}{scope:Scope}{cl:List (Str × Addr)}{rn dn:List (Str × NameKind)}(hr:(relabel scope X.env).names=rn)(hd:X.env.scope.names=dn)(hN:X.N=N)
 (clos:closureFor scope X.env=pure cl) (kind:scope.kind=.function) (hc:cl.map Prod.fst=cn) (good:Zg scope.names rn dn N M cn=true) (sub:∀ p∈cl,X.env.cells.lookup p.1=some p.2):xF X L M scope cl:=by
 unfold Zg at good
 simp only[h9,u0k,b9]at good
 obtain⟨⟨⟨⟨⟨g1,g2⟩,g3⟩,g5⟩,g6⟩,g4⟩:=good
 have g5:M.length=N.length:=by simpa using g5
 refine⟨clos,g1,kind,g2,λy c h=>sub (y,c) (u0m h),λy h=>?_,by rw[hN];exact g5,λi y e v=>?_,λi y e v=>?_,λi y e v=>?_⟩
 .rw[hr]at h
  have hy:y∈cn:=by
   rcases h with h | h
   .exact g3 _ (u0m h) (.inl rfl)
   .exact g3 _ (u0m h) (.inr rfl)
  exact vI (by rw[hc];exact hy)
 .unfold Vis at v
  rw[hr]at v
  have hi:=(u8.mp e).1
  have hj:i < N.length:=by rw[<-g5];exact hi
  have hz:(M.zip N)[i]?=some (y,N[i]):=by
   rw[u3p]
   exact⟨e,u7 hj⟩
  have:=g6 _ (j5 hz) v
  rw[hN,u7 hj]
  exact u05 some this.symm
 .unfold Vis at v
  rw[hr]at v ⊢
  exact(g4 y (j5 e) v).1
 .unfold Vis at v
  rw[hr]at v
  obtain⟨_,k1,k2⟩:=g4 y (j5 e) v
  refine⟨?_,?_⟩
  .unfold Vis;rw[hd];exact k1
  .show X.env.scope.names.lookup y≠_;rw[hd];exact k2
end L2
namespace PySem
open Sem (wp)
open AutoSeq1 (wpAny_loadPart')
section
variable {prog:Program}{w:World}{A:Around}{E:Value->Shared->Prop}{s:Shared}
theorem YD {it l:Addr}{i:Nat}{items}{x:Value}{Q:Value->Shared->Prop}(hit:s.heap.IsTupleIter it l i)
 (hl:s.heap.IsTuple l items) (hx:items[i]?=some x)
 (hQ:∀ h',h'.IsTupleIter it l (i+1)->Heap.SameBut it s.heap h'->Q x { s with heap:=h' }) :
 wpAny (model prog w) A (Builtin.SmallTypes.nextOf (.ref it)) Q E s:=by
 obtain⟨o,ho,hc,hd⟩:=id hit
 obtain⟨ol,hol,_,nl,hdl⟩:=hl
 unfold Builtin.SmallTypes.nextOf
 refine u0 (u0L (name:=Str.ofString "__next__") hit.typeIs u1w
  (u1m u1w hit.typeIs F.entry_tuple_iterator_next ?_ (F.args_tuple_iterator_next_1 _)))
 show wpAny _ _ (field (.ref it) 0>>=_) _ _ s
 refine u0 (u0X ho hd (x:=.ref l) rfl ?_)
 show wpAny _ _ (if (Value.ref l == Value.none)=true then _ else _) _ _ s
 rw[j6 (show ¬ ((Value.ref l == Value.none)=true)from u6)]
 show wpAny _ _ (field (.ref it) 1>>=_) _ _ s
 refine u0 (u0X ho hd (x:=.int i 0) rfl ?_)
 show wpAny _ _ (seqItems? (.ref l)>>=_) _ _ s
 refine u0 (u1d hol hdl ?_)
 simp only[u2A,hx]
 refine u0 (wpAny_setField ho hd (by simp) (t7 ⟨x,rfl,t7 (hQ _ ?_ (u1a ..))⟩))
 exact⟨_,u1V _ ho (Obj.isFreed_of_fields (Obj.data_mapFields hd _)),(Obj.cls_mapFields ..).trans hc,by
  rw[Obj.data_mapFields hd];simp[rawInt]⟩
theorem wo {it l:Addr}{i:Nat}{items}{Q:Value->Shared->Prop}(hh:A.handled=none)
 (hit:s.heap.IsTupleIter it l i) (hl:s.heap.IsTuple l items) (hx:items[i]?=none)
 (hE:∀ h' e,Heap.ExtBut it s.heap h'->(∃ o,h'.get? e=some o/\o.cls=.type "StopIteration")->E (.ref e) { s with heap:=h' }) :
 wpAny (model prog w) A (Builtin.SmallTypes.nextOf (.ref it)) Q E s:=by
 obtain⟨o,ho,hc,hd⟩:=id hit
 obtain⟨ol,hol,_,nl,hdl⟩:=hl
 unfold Builtin.SmallTypes.nextOf
 refine u0 (u0L (name:=Str.ofString "__next__") hit.typeIs u1w
  (u1m u1w hit.typeIs F.entry_tuple_iterator_next ?_ (F.args_tuple_iterator_next_1 _)))
 show wpAny _ _ (field (.ref it) 0>>=_) _ _ s
 refine u0 (u0X ho hd (x:=.ref l) rfl ?_)
 show wpAny _ _ (if (Value.ref l == Value.none)=true then _ else _) _ _ s
 rw[j6 (show ¬ ((Value.ref l == Value.none)=true)from u6)]
 show wpAny _ _ (field (.ref it) 1>>=_) _ _ s
 refine u0 (u0X ho hd (x:=.int i 0) rfl ?_)
 show wpAny _ _ (seqItems? (.ref l)>>=_) _ _ s
 refine u0 (u1d hol hdl ?_)
 simp only[u2A,hx]
 refine u0 (u1t (u0 (wpAny_setField ho hd (by simp) ?_)))
 show wpAny _ _ (newExc (.type "StopIteration") []>>=_) _ _ _
 refine u0 ?_
 simp only[newExc,newTuple]
 refine u0 (u03 ?_ (by size_fits))
 refine u0 (m:=firstArgMember _ _) (wpAny_of_eq (a:=Value.none) (by first | rfl | (simp only[firstArgMember];rfl)) ?_)
 refine u03 ?_ (by size_fits)
 simp only[raiseNew]
 refine u0 (wpAny_handled ?_)
 first | rw[show A.in1.handled=none from hh] | rw[hh]
 refine u0 (t7 (wpAny_throw ?_))
 exact hE _ _ (((u1a ..).extBut.push _).push _) ⟨_,r6 _ rfl,rfl⟩
end
theorem Zx {prog:Program}{w:World}{A:Around}{E:Value->Shared->Prop}{s:Shared}{e it l:Addr}{i:Nat}{items:Array Value}{old:Value}{Q:Option Value->Shared->Prop}(hh:A.handled=none)
 (he:IsEnum s.heap e it i old) (hit:s.heap.IsTupleIter it l i) (hl:s.heap.IsTuple l items) (hx:items[i]?=none)
 (hQ:∀ h',Heap.ExtBut it s.heap h'->Q none { s with heap:=h' }):wpAny (model prog w) A (pyNext (.ref e)) Q E s:=by
 have hT:s.TypeIs (.ref e) "enumerate":=⟨_,he,rfl⟩
 unfold pyNext
 refine u0 (u1O (u0L (name:=Str.ofString "__next__") hT F.slot_enumerate_next
  (u1m F.slot_enumerate_next hT F.entry_enumerate_next ?_ (F.args_enumerate_next_1 _))))
 show wpAny _ _ (field (.ref e) 2>>=_) _ _ _
 refine u0 (u0X he rfl (x:=.ref it) rfl ?_)
 refine u0 (wo hh hit hl hx λh' x he' hx'=>?_)
 obtain⟨o,ho,hc⟩:=hx'
 refine u0 (wpAny_isInstance (T:="StopIteration") (b:=true) ⟨o,ho,hc⟩ isSubtype_stop ?_)
 exact t7 (hQ _ he')
theorem YF {prog:Program}{w:World}{A:Around}(hh:A.handled=none)(it l:Addr)(hne:l≠it)(items:Array Value) :
 Draws prog w A it [it,l] items.size (λi v=>items[i]?=some v) (λi h=>h.IsTupleIter it l i/\h.IsTuple l items) where
 live:=λ_ _ st=>let ⟨o,ho,_⟩:=st.1;⟨o,ho⟩
 frame:=λ_ _ _ st hk=>by
  obtain⟨⟨o,ho,r⟩,⟨o2,ho2,r2⟩⟩:=st
  exact⟨⟨o,hk it (by simp) o ho,r⟩,⟨o2,hk l (by simp) o2 ho2,r2⟩⟩
 item:=λi s Q E hi st hQ=>by
  refine YD st.1 st.2 (x:=items[i]) (by simp[hi]) λh' hit' hs'=>?_
  exact hQ _ h' s.toks (by simp[hi]) ⟨hit',st.2.extBut hs'.extBut hne⟩ hs'
 done:=λs Q E st hE=>wo hh st.1 st.2 (by simp) hE
theorem Xp (l:Addr)(items:Array Value)(n:Nat)(dd:Option Addr)(sl:Array (Option Value)) :
 Meets (Builtin.«enumerate.__new__» ⟨[.type "enumerate",.ref l],[]⟩) (λ_ R s=>s.heap.get? l=some { cls:=.type "tuple",dict:=dd,data:=.seq items n,slots:=sl } /\
  R (.ok (.ret (.ref (s.heap.push { cls:=.type "tuple_iterator",data:=.fields #[.ref l,.int 0 0] }).objs.size)))
   { s with heap:=(s.heap.push { cls:=.type "tuple_iterator",data:=.fields #[.ref l,.int 0 0] }).push { cls:=.type "enumerate",data:=.fields #[.none,.bool false,.ref s.heap.objs.size,rawInt 0,.none,.none] } }) :=
 .of_wp λprog w A R s h=>by
  obtain⟨hp,g,d,tk,os⟩:=s;obtain⟨hl,h⟩:=h
  have hsub:=sub_enumerate
  have hL:Heap.IsTuple (Shared.heap ⟨hp,g,d,tk,os⟩) l items:=⟨_,hl,rfl,n,rfl⟩
  wp_walk using u0U hl
  refine wpAny_stack_any λst=>t7 ?_
  split
  .rename_i c _ _ _ _ _
   cases (c == Value.type "enumerate")
   .wp_walk using u0U hl,u0P hL
    exact⟨_,rfl,h⟩
   .wp_walk using u0U hl,u0P hL
    exact⟨_,rfl,h⟩
  .wp_walk using u0U hl,u0P hL
   exact⟨_,rfl,h⟩
section
variable {prog:Program}{w:World}{A:Around}{E:Value->Shared->Prop}{s:Shared}
theorem Zq {l:Addr}{items:Array Value}{Q:Value->Shared->Prop}
 (hl:s.heap.IsTuple l items)
 (h:∀ h',IsEnum h' (s.heap.objs.size+1) s.heap.objs.size 0 .none->h'.IsTupleIter s.heap.objs.size l 0->h'.objs.size=s.heap.objs.size+2 ->
  (∀ b o,s.heap.get? b=some o->h'.get? b=some o)->Q (.ref (s.heap.objs.size+1)) { s with heap:=h' }) :
 wpAny (model prog w) A (call (.type "enumerate") [.ref l]) Q E s:=by
 obtain⟨⟨cls,dd,data,sl⟩,ho,hc,n,hd⟩:=hl
 simp only at hc hd
 subst hc hd
 refine callType_new F.called_enumerate (by decide) (F.typeCall_enumerate_1 _) (F.newCall_enumerate_1 _) (λobj=>F.args_object_init_2 obj _) F.entry_enumerate_new
  (Xp l items n dd sl) ⟨ho,?_⟩
 have hz:(s.heap.push { cls:=.type "tuple_iterator",data:=.fields #[.ref l,.int 0 0] }).objs.size=s.heap.objs.size+1:=u1p ..
 show _/\_
 rw[hz]
 have he:IsEnum ((s.heap.push { cls:=.type "tuple_iterator",data:=.fields #[.ref l,.int 0 0] }).push
  { cls:=.type "enumerate",data:=.fields #[.none,.bool false,.ref s.heap.objs.size,rawInt 0,.none,.none] }) (s.heap.objs.size+1) s.heap.objs.size 0 .none:=by
  have:=r6 (s.heap.push { cls:=.type "tuple_iterator",data:=.fields #[.ref l,.int 0 0] })
   (o:={ cls:=.type "enumerate",data:=.fields #[.none,.bool false,.ref s.heap.objs.size,rawInt 0,.none,.none] }) rfl
  rw[hz]at this;exact this
 refine⟨⟨_,he,rfl⟩,h _ he ⟨_,u5 _ (r6 _ rfl),rfl,rfl⟩ (by rw[u1p,hz]) λb o x=>u5 _ (u5 _ x)⟩
end
end PySem
namespace L2
open PySem PySem.Spec PyProof.Rows
section
variable {X:Cx}{pins:List (Addr × Obj)}{σ:St}{H:Hp}{s:Shared}{h':Heap}
theorem Inv.grown {ch:List Addr}{T:Addr}{o:HO}{t':Nat}(I:Inv X pins σ H s)(hch:∀ b∈ch,zaU X pins H b)(hT:s.heap.objs.size<=T)(k:∀ b u,b∉ch->s.heap.get? b=some u->h'.get? b=some u)
 (new:xk X.prog X.w (upd H T o) h' T o):Inv X pins σ (upd H T o) { s with heap:=h',toks:=t' }:=by
 have hn:H T=none:=I.hok.fresh hT
 have neT:∀ b u,s.heap.get? b=some u->b≠T:=λb u e=>p4 (d7 (j7 e) hT)
 have nch:∀ b u,H b=some u->b∉ch:=λb u e z=>by rw[(hch b z).1]at e;cases e
 refine I.step (g':=s.gens) (d':=s.drawn) (ch:=ch) (λb hb=>?_) (λb u _ _ hc e _=>k b u hc e) (λb u _ _ hc e _=>⟨u.slots,k b u hc e⟩) (λb u _ e n=>by rw[zn (neT b u e)];exact n)
  (λb u hc e=>⟨u,k b u hc e⟩) (λb xs e=>by rw[zn (zj e hn)];exact e) (λb u xs e=>by rw[zn (zj e hn)];exact e) (λb ps e=>by rw[zn (zj e hn)];exact e) (λm hm=>?_) (λb u e=>?_) I.bare
 .obtain⟨_,n1,_,n3,n4,n5⟩:=hch b hb
  exact⟨n3,n1,n4,n5⟩
 .obtain⟨ob,es,ep,ho,r⟩:=hm
  exact⟨ob,es,ep,k _ ob (λz=>(hch _ z).2.1 rfl) ho,r⟩
 .by_cases hb:b=T
  .subst hb;rw[zq]at e;cases e;exact new
  .rw[zn hb]at e
   refine(I.hok b u e).stay (λc v hc q=>k c v ?_ q) (λc q=>by rw[zn (zj q hn)];exact q) λc xs q=>by rw[zn (zj q hn)];exact q
   rcases hc with z | z
   .rw[z];exact nch b u e
   .exact nch c _ z
theorem Inv.turnedN {ch:List Addr}{t':Nat}(I:Inv X pins σ H s)(hch:∀ b∈ch,zaU X pins H b)(k:∀ b u,b∉ch->s.heap.get? b=some u->h'.get? b=some u):Inv X pins σ H { s with heap:=h',toks:=t' }:=by
 have nch:∀ b u,H b=some u->b∉ch:=λb u e z=>by rw[(hch b z).1]at e;cases e
 refine I.step (g':=s.gens) (d':=s.drawn) (ch:=ch) (λb hb=>?_) (λb u _ _ hc e _=>k b u hc e) (λb u _ _ hc e _=>⟨u.slots,k b u hc e⟩) (λb u _ e n=>n)
  (λb u hc e=>⟨u,k b u hc e⟩) (λb xs e=>e) (λb u xs e=>e) (λ_ _ e=>e) (λm hm=>?_) (λb u e=>?_) I.bare
 .obtain⟨_,n1,_,n3,n4,n5⟩:=hch b hb
  exact⟨n3,n1,n4,n5⟩
 .obtain⟨ob,es,ep,ho,r⟩:=hm
  exact⟨ob,es,ep,k _ ob (λz=>(hch _ z).2.1 rfl) ho,r⟩
 .refine(I.hok b u e).stay (λc v hc q=>k c v ?_ q) (λc q=>q) λc xs q=>q
  rcases hc with z | z
  .rw[z];exact nch b u e
  .exact nch c _ z
end
def Iel (K:W.Frag)(a:Addr):It :=
 ⟨λi H=>∃ xs x,SqL K H a xs/\xs[i]?=some x,λi H v H'=>∃ T x,v=.ref T/\H T=none/\H'=upd H T (.tup [.int i,x])/\∀ xs,SqL K H a xs->xs[i]?=some x,λi H=>∃ xs,SqL K H a xs/\xs.length<=i⟩
def Iet (K:W.Frag)(a:Addr):It :=
 ⟨λi H=>∃ xs x,SqT K H a xs/\xs[i]?=some x,λi H v H'=>∃ T x,v=.ref T/\H T=none/\H'=upd H T (.tup [.int i,x])/\∀ xs,SqT K H a xs->xs[i]?=some x,λi H=>∃ xs,SqT K H a xs/\xs.length<=i⟩
theorem zdX {P:Program}{w:World}{K:W.Frag}{es:List Expr}{k:Nat}{tp:Pos}(a e it:Addr)(hne:e≠it) :
 ziJ P w K (.Tuple es k tp) (Iel K a) [e,it] e (λi h=>(∃ old,IsEnum h e it i old)/\h.IsListIter it a i) where
 mem:=by simp
 obj:=λi h st b hb=>by
  obtain⟨⟨old,he⟩,o,ho,_,hd⟩:=st
  rcases d5.mp hb with rfl | hb
  .exact⟨_,he,λv z=>by cases z⟩
  .rw[d4.mp hb]
   exact⟨o,ho,λv z=>by rw[hd]at z;cases z⟩
 keep:=λi h h' st kk=>by
  obtain⟨⟨old,he⟩,hit⟩:=st
  exact⟨⟨old,kk e (by simp) _ he⟩,hit.at λo q=>kk it (by simp) o q⟩
 item:=by
  intro X hP hw hK hc i pins s σ H E I hf st hg
  subst hP hw hK
  obtain⟨⟨old,he⟩,hit⟩:=st
  obtain⟨xs,x,hq,hx⟩:=hg
  obtain⟨its,rv,p,hz⟩:=I.list hq
  obtain⟨u,hu,ru⟩:=rv.get hx
  refine wpAny_pyNext_enum_item he hit p.isList (x:=u) (by simpa using hu) hne λh1 ho1 hit1 hT1 hz1 hk1=>?_
  refine⟨_,rfl,wpAny_letOwnedTupleGo_enum ho1 λh2 he2 hs2=>?_⟩
  have hfr:H s.heap.objs.size=none:=I.hok.fresh (q5 _)
  have neE:s.heap.objs.size≠e:=u2Q (j7 he)
  have hT2:h2.get? s.heap.objs.size=some { cls:=.type "tuple",data:=.seq #[.int i s.toks,u] }:=(hs2.2 _ neE).trans hT1
  refine⟨.ref s.heap.objs.size,upd H s.heap.objs.size (.tup [.int i,x]),?_,rfl,⟨_,x,rfl,hfr,rfl,λys hy=>by rw[I.list_inj hy hq];exact hx⟩,⟨⟨_,by simpa using he2⟩,hit1.at λo q=>(hs2.2 it (u1l hne)).trans q⟩,λb hb=>?_⟩
  .refine I.grown (ch:=[e,it]) hf (q5 _) (λb v hb q=>?_) ?_
   .have n1:b≠e:=λz=>hb (by simp[z])
    have n2:b≠it:=λz=>hb (by simp[z])
    exact(hs2.2 b n1).trans (hk1 b v n1 n2 q)
   .exact⟨by show 2<=sizeLine;decide,[.int i s.toks,u],.cons ⟨_,rfl⟩ (.cons ru .nil),⟨_,hT2,rfl,0,rfl⟩⟩
  .obtain⟨o,hb2,_⟩:∃ o,s.heap.get? b=some o/\True:=by
    rcases d5.mp hb with rfl | hb
    .exact⟨_,he,trivial⟩
    .rw[d4.mp hb]
     obtain⟨o,ho,_⟩:=hit
     exact⟨o,ho,trivial⟩
   rw[zn (p4 (j7 hb2))]
   exact(hf b hb).1
 done:=by
  intro X hP hw hK hc i pins s σ H E I hf st hg
  subst hP hw hK
  obtain⟨⟨old,he⟩,hit⟩:=st
  obtain⟨xs,hq,hx⟩:=hg
  obtain⟨its,rv,p,hz⟩:=I.list hq
  have hl:=rv.length
  exact wpAny_pyNext_enum_end (I.ok.hd hc) he hit p.isList (by simp;omega) λh1 hx1=>⟨rfl,I.turnedN (ch:=[e,it]) (t':=s.toks) hf λb v hb q=>hx1 b v (λz=>hb (by simp[z])) q⟩
 self:=λ_ _ _ _ _ st h=>u2I st.1.choose_spec h
theorem zea {P:Program}{w:World}{K:W.Frag}{es:List Expr}{k:Nat}{tp:Pos}(a e it:Addr)(hne:e≠it)(hai:a≠it)(hae:a≠e) :
 ziJ P w K (.Tuple es k tp) (Iet K a) [e,it] e (λi h=>(∃ old,IsEnum h e it i old)/\h.IsTupleIter it a i) where
 mem:=by simp
 obj:=λi h st b hb=>by
  obtain⟨⟨old,he⟩,o,ho,_,hd⟩:=st
  rcases d5.mp hb with rfl | hb
  .exact⟨_,he,λv z=>by cases z⟩
  .rw[d4.mp hb]
   exact⟨o,ho,λv z=>by rw[hd]at z;cases z⟩
 keep:=λi h h' st kk=>by
  obtain⟨⟨old,he⟩,o,ho,r⟩:=st
  exact⟨⟨old,kk e (by simp) _ he⟩,o,kk it (by simp) o ho,r⟩
 item:=by
  intro X hP hw hK hc i pins s σ H E I hf st hg
  subst hP hw hK
  obtain⟨⟨old,he⟩,hit⟩:=st
  obtain⟨xs,x,hq,hx⟩:=hg
  obtain⟨its,rv,p,hz⟩:=I.tuple hq
  obtain⟨u,hu,ru⟩:=rv.get hx
  have p':s.heap.IsTuple a its.toArray:=p
  have D:=YF (prog:=X.prog) (w:=X.w) (A:=X.A.in1) (I.ok.hd hc) it a hai its.toArray
  have hlt:i < its.toArray.size:=by
   obtain⟨h1,_⟩:=u8.mp hu
   simpa using h1
  refine wpAny_pyNext_enum_itemD D he ⟨hit,p'⟩ hlt hne (by simp[hne,u1l hae]) λu' h1 tk hP1 ho1 hit1 hT1 hz1 hk1=>?_
  have eu:u'=u:=by
   have:its[i]?=some u':=by simpa using hP1
   rw[hu]at this
   exact(u0q this).symm
  subst eu
  refine⟨_,rfl,wpAny_letOwnedTupleGo_enum ho1 λh2 he2 hs2=>?_⟩
  have hfr:H s.heap.objs.size=none:=I.hok.fresh (q5 _)
  have neE:s.heap.objs.size≠e:=u2Q (j7 he)
  have hT2:h2.get? s.heap.objs.size=some { cls:=.type "tuple",data:=.seq #[.int i tk,u'] }:=(hs2.2 _ neE).trans hT1
  refine⟨.ref s.heap.objs.size,upd H s.heap.objs.size (.tup [.int i,x]),?_,rfl,⟨_,x,rfl,hfr,rfl,λys hy=>by rw[I.tuple_inj hy hq];exact hx⟩,⟨⟨_,by simpa using he2⟩,?_⟩,λb hb=>?_⟩
  .refine I.grown (ch:=[e,it]) hf (q5 _) (λb v hb q=>?_) ?_
   .have n1:b≠e:=λz=>hb (by simp[z])
    have n2:b≠it:=λz=>hb (by simp[z])
    exact(hs2.2 b n1).trans (hk1 b v n1 n2 q)
   .exact⟨by show 2<=sizeLine;decide,[.int i tk,u'],.cons ⟨_,rfl⟩ (.cons ru .nil),⟨_,hT2,rfl,0,rfl⟩⟩
  .obtain⟨o,ho,r⟩:=hit1.1
   exact⟨o,(hs2.2 it (u1l hne)).trans ho,r⟩
  .obtain⟨o,hb2,_⟩:∃ o,s.heap.get? b=some o/\True:=by
    rcases d5.mp hb with rfl | hb
    .exact⟨_,he,trivial⟩
    .rw[d4.mp hb]
     obtain⟨o,ho,_⟩:=hit
     exact⟨o,ho,trivial⟩
   rw[zn (p4 (j7 hb2))]
   exact(hf b hb).1
 done:=by
  intro X hP hw hK hc i pins s σ H E I hf st hg
  subst hP hw hK
  obtain⟨⟨old,he⟩,hit⟩:=st
  obtain⟨xs,hq,hx⟩:=hg
  obtain⟨its,rv,p,hz⟩:=I.tuple hq
  have hl:=rv.length
  have p':s.heap.IsTuple a its.toArray:=p
  exact Zx (I.ok.hd hc) he hit p' (by simp;omega) λh1 hx1=>⟨rfl,I.turnedN (ch:=[e,it]) (t':=s.toks) hf λb v hb q=>hx1 b v (λz=>hb (by simp[z])) q⟩
 self:=λ_ _ _ _ _ st h=>u2I st.1.choose_spec h
def zni (K:W.Frag)(ta:TA):TI:=fun σ H R=>ta σ H λvs H1=>∃ a,vs=[.ref a]/\((∃ xs,H1 a=some (.lst xs)/\R (Iel K a) H1)\/(∃ xs,SqT K H1 a xs/\R (Iet K a) H1))
theorem zjo {X:Cx} {es:List Expr} {k:Nat} {tp:Pos} {a:Expr} {ta:TA} {p pos:Pos} (hg:Gl X "enumerate") (hm:X.mg "enumerate"=none) (hb:bootBuiltins "enumerate"=some (.type "enumerate")) (ha:PA X [a] ta)
 (hs:starEach [a] X.env=[(false,eval a X.env)]:=by rfl):PI X (.Tuple es k tp) (.Call (.Name "enumerate" p) [a] [] pos) (zni X.K ta):=by
 intro pins s σ H R I h
 refine Call_ (Yn I hg hm hb (u0r (thn (ha pos pins s σ H _ I h) λus s1 hh9=>?_) hs rfl))
 obtain⟨vs,H1,I1,r1,q1⟩:=hh9
 obtain⟨l,e,q⟩:=q1
 subst e
 obtain⟨u,rfl,ru⟩:=zaf r1
 cases ru
 have hn:∀ b,s1.heap.objs.size<=b->zaU X pins H1 b:=λb hb=>I1.fpOk hb (I1.hok.fresh hb)
 have hne:s1.heap.objs.size+1≠s1.heap.objs.size:=by omega
 have hfp:∀ b∈[s1.heap.objs.size+1,s1.heap.objs.size],zaU X pins H1 b:=λb hb=>by
  rcases d5.mp hb with rfl | hb
  .exact hn _ (u3v _)
  .rw[d4.mp hb];exact hn _ (q5 _)
 rcases q with ⟨xs,hx,q⟩ | ⟨xs,hx,q⟩
 .obtain⟨_,its,n,_,e⟩:xs.length<=sizeLine/\∃ (its:List Value) (n:Nat),yk xs its/\s1.heap.get? l=some { cls:=.type "list",data:=.seq its.toArray n }:=I1.hok _ _ hx
  refine call_enumerate_1 e λh2 he hit hz hk=>u2I he ?_
  exact⟨_,_,_,_,H1,rfl,I1.kept (t':=s1.toks) hk,zdX l _ _ hne,⟨⟨_,he⟩,hit⟩,hfp,q⟩
 .obtain⟨its,_,p1,_⟩:=I1.tuple hx
  have lt:l < s1.heap.objs.size:=by
   obtain⟨o,ho,_⟩:=p1
   exact j7 ho
  refine Zq (show s1.heap.IsTuple l its.toArray from p1) λh2 he hit hz hk=>u2I he ?_
  exact⟨_,_,_,_,H1,rfl,I1.kept (t':=s1.toks) hk,zea l _ _ hne (p4 lt) (p4 (u12 lt)),⟨⟨_,he⟩,hit⟩,hfp,q⟩
end L2
namespace HT
open PySem PyProof.Rows
def lexLe:List Int->List Int->Bool
 | [],_=>true
 | _::_,[]=>false
 | x::xs,y::ys=>if x=y then lexLe xs ys else decide (x<=y)
theorem zd6 (x y:Int)(xs ys:List Int):lexLe (x::xs) (y::ys)=if x=y then lexLe xs ys else decide (x<=y):=rfl
theorem zih (A:Around)(s:Shared)(a:Int)(t:Tok)(c:Int)(u:Tok)(prog:Program)(w:World)(E:Value->Shared->Prop)(Q:Value->Shared->Prop)(h:Q (.bool (decide (a<=c))) s) :
 wpAny (model prog w) A (richCompare .LtE (.int a t) (.int c u)) Q E s :=
 (PyProof.Rows.le_int h:wpAny (model prog w) A (compareOp .LtE (.int a t) (.int c u)) Q E s)
section
open PySem.SeqAt
open PySem.AutoSeq1 (wpAny_loadPart')
open PySem.MeetsSeq PySem.MeetsSeq2 PySem.MeetsSeq3
theorem zaR (l b:Addr)(items items2:Array Value)(n n2:Nat)(dd dd2:Option Addr)(sl sl2:Array (Option Value))(ns ms:List Int)(hi:IntsAre items.toList ns)(hj:IntsAre items2.toList ms) :
 Meets (Builtin.«tuple.__le__» ⟨[.ref l,.ref b],[]⟩)
  (λ_ R s=>s.heap.get? l=some { cls:=.type "tuple",dict:=dd,data:=.seq items n,slots:=sl }/\s.heap.get? b=some { cls:=.type "tuple",dict:=dd2,data:=.seq items2 n2,slots:=sl2 } /\
   R (.ok (.ret (.bool (lexLe ns ms)))) s) :=
 .of_wp λprog w A R s h=>by
  obtain⟨hp,g,d,tk,os⟩:=s;obtain⟨hl,hb,h⟩:=h
  have f2:=AutoSeq1.sub_tuple_tuple
  have z1:items.size=ns.length:=by rw[<-hi.length];simp
  have z2:items2.size=ms.length:=by rw[<-hj.length];simp
  wp_walk using u0U hl,u0U hb,wpAny_forIn_list _ (λrest b s'=>b.1=none/\s'=⟨hp,g,d,tk,os⟩/\∃ (vs ws:List Value) (ns' ms':List Int),rest=vs.zip ws /\
   IntsAre vs ns'/\IntsAre ws ms'/\ns'.length+items2.size=ms'.length+items.size/\R (.ok (.ret (.bool (lexLe ns' ms')))) ⟨hp,g,d,tk,os⟩) _
  case turn =>
   rintro⟨y,x⟩ rest b s' ⟨hb',rfl,vs,ws,ns',ms',hz,hvi,hwi,hlen,hR⟩
   cases hvi with
   | nil=>rw[List.zip_nil_left]at hz;cases hz
   | cons a t hvi' =>
    cases hwi with
    | nil=>rw[u3k]at hz;cases hz
    | cons c u hwi' =>
     rw[u1C]at hz
     injection hz with hyx hrest
     injection hyx with hy hx
     subst hy hx
     rw[zd6]at hR
     simp only[p9]at hlen
     obtain⟨e,he,hiff⟩:=zdx A.in1 ⟨hp,g,d,tk,os⟩ a t c u
     refine u0 (he prog w _ _ ?_)
     cases e with
     | true =>
      rw[j4 (hiff.mp rfl)]at hR
      wp_walk
      exact⟨rfl,rfl,_,_,_,_,hrest,hvi',hwi',by omega,hR⟩
     | false =>
      rw[j6 (λq=>absurd (hiff.mpr q) u6)]at hR
      have hri:=zih A.in1 ⟨hp,g,d,tk,os⟩ a t c u prog w
      wp_walk using hri
      exact⟨_,rfl,by simpa using hR⟩
  case fin =>
   rintro⟨b1,b2⟩ s' ⟨hb',rfl,vs,ws,ns',ms',hz,hvi,hwi,hlen,hR⟩
   simp only at hb'
   subst hb'
   have hv:lexLe ns' ms'=decide (items.size<=items2.size):=by
    cases hvi with
    | nil =>
     simp only[u1W]at hlen
     show true=_
     exact(o0 (by omega)).symm
    | cons a t hv =>
     cases hwi with
     | nil =>
      simp only[u1W,p9]at hlen
      show false=_
      exact(i7 (by omega)).symm
     | cons c u hw =>
      rw[u1C]at hz
      cases hz
   rw[hv]at hR
   wp_walk
   exact⟨_,rfl,by simpa [Builtin.Tuple.tupleCompareSizes]using hR⟩
  case h =>
   exact⟨rfl,rfl,items.toList,items2.toList,ns,ms,rfl,hi,hj,by omega,h⟩
end
section
variable {prog:Program}{w:World}{A:Around}{E:Value->Shared->Prop}{s:Shared}
theorem le_tupInts {l b:Addr}{items items2:Array Value}{ns ms:List Int}{Q:Value->Shared->Prop}(hl:IsTup s.heap l items)(hb:IsTup s.heap b items2)(hi:IntsAre items.toList ns)(hj:IntsAre items2.toList ms)
 (hu:A.units < cLine) (h:Q (.bool (lexLe ns ms)) s):wpAny (model prog w) A (compareOp .LtE (.ref l) (.ref b)) Q E s:=by
 obtain⟨⟨cls,dd,data,sl⟩,ho,hc,n,hd⟩:=id hl
 obtain⟨⟨cls2,dd2,data2,sl2⟩,ho2,hc2,n2,hd2⟩:=id hb
 simp only at hc hd hc2 hd2
 subst hc hd hc2 hd2
 exact richCompare_meets_room (op:=.LtE) ⟨_,ho,rfl⟩ ⟨_,ho2,rfl⟩ PySem.F.slot_tuple_le PySem.F.entry_tuple_le (PySem.F.args_tuple_le_2 _ _) (zaR l b items items2 n n2 dd dd2 sl sl2 ns ms hi hj)
  ⟨ho,ho2,show Value.bool (lexLe ns ms)≠Value.notImplemented/\Q (.bool (lexLe ns ms)) s from⟨(λx=>nomatch x),h⟩⟩ hu
end
end HT
namespace L2
open PySem PySem.Spec PyProof.Rows
def rLeT (K:W.Frag):R2:=λx y H Q=>∃ a b ns ms,x=.ref a/\y=.ref b/\SqT K H a (ns.map V.int)/\SqT K H b (ms.map V.int)/\Q (.bl (HT.lexLe ns ms)) H
theorem zlJ {X:Cx}(hu:X.A.units < cLine):OpR X (compareOp .LtE) (rLeT X.K):=by
 intro pins s σ H x y v u Q I rx ry h
 obtain⟨a,b,ns,ms,rfl,rfl,ha,hb,q⟩:=h
 cases rx
 cases ry
 obtain⟨its,r1,p1,_⟩:=I.tuple ha
 obtain⟨its2,r2,p2,_⟩:=I.tuple hb
 have i1:IntsAre its.toArray.toList ns:=XI r1
 have i2:IntsAre its2.toArray.toList ms:=XI r2
 exact HT.le_tupInts p1 p2 i1 i2 hu ⟨.bl (HT.lexLe ns ms),H,I,rfl,q⟩
end L2
namespace HT
open PySem PyProof.Rows
section
variable {prog:Program}{w:World}{A:Around}{E:Value->Shared->Prop}{s:Shared}
theorem own_getItem_whole {t sl:Addr}{items:Array Value}{vl vu:Value}{lo hi:Option Int}{Q:Value->Shared->Prop}(ht:IsTup s.heap t items)(hs:s.heap.IsSliceOf sl vl vu .none)(pl:IsPart vl lo)(pu:IsPart vu hi)
 (hw:sIx items.size 0 lo=0/\sIx items.size items.size hi=items.size) (h:Q (.ref t) s):wpAny (model prog w) A (getItem (.ref t) (.ref sl)) Q E s:=by
 obtain⟨os,hos,hcs,hds⟩:=id hs
 have hTs:s.TypeIs (.ref sl) "slice":=⟨os,hos,hcs⟩
 unfold getItem
 try with_reducible refine u0M ?_
 first | refine u0 (t7 ?_) | skip
 refine u0 (wpAny_sequenceKey ht.typeIs (by decide) ?_)
 refine u0 (u0L (name:=Str.ofString "__getitem__") ht.typeIs u0s
  (u1m u0s ht.typeIs entry_tuple_getitem ?_ (args_tuple_getitem _ _)))
 show wpAny _ _ (Builtin.Tuple.tupleItemsOf (.ref t)>>=_) _ _ s
 refine u0 (tupleItemsOf_ ht ?_)
 refine u0 (u3o hTs ?_)
 rw[j4 (by decide)]
 refine u0 (Yp hs pl pu ?_)
 have hyes:(((sIx items.size 0 lo:Nat):Int) == 0&&(1:Int) == 1&&(sIx items.size items.size hi - sIx items.size 0 lo) == items.size)=true:=by
  rw[hw.1,hw.2]
  simp
 show wpAny _ _ (if (((sIx items.size 0 lo:Nat):Int) == 0&&(1:Int) == 1&&(sIx items.size items.size hi - sIx items.size 0 lo) == items.size)=true then _ else _) _ _ s
 rw[j4 hyes]
 refine u0 (m:=Builtin.Tuple.tupleIsExact (.ref t)) ?_
 unfold Builtin.Tuple.tupleIsExact
 refine u0 (u3o ht.typeIs (t7 ?_))
 rw[j4 (by decide)]
 refine u0 (u1t ?_)
 first
  | exact t7 ⟨_,rfl,t7 h⟩
  | exact u0 (t7 (t7 ⟨_,rfl,t7 h⟩))
end
end HT
namespace PySem
open Sem (wp)
theorem xy {prog:Program}{w:World}{A:Around}{it a:Addr}{fp:List Addr}{n k:Nat}{P:Nat->Value->Prop}{St:Nat->Heap->Prop}(D:Draws prog w A it fp n P St){h h':Heap}(st:St k h)(sb:Heap.SameBut a h h')(na:a∉fp):St k h' :=
 D.frame _ _ _ st λb hb o e=>(sb.2 b λz=>na (z ▸ hb)).trans e
structure zhz (z TI TO i1 i2:Addr) (fp1 fp2:List Addr):Prop where
 nd:[z,TI,TO,i1,i2].Nodup
 z1:z∉fp1
 z2:z∉fp2
 o1:TO∉fp1
 o2:TO∉fp2
 i12:i1∉fp2
 i21:i2∉fp1
section
variable {prog:Program}{w:World}{A:Around}{E:Value->Shared->Prop}{s:Shared}{z TI TO i1 i2:Addr}{fp1 fp2:List Addr}{n1 n2 k1 k2:Nat}{P1 P2:Nat->Value->Prop}{St1 St2:Nat->Heap->Prop}{a b:Value}
theorem zce {Q:Value->Shared->Prop}(D1:Draws prog w A i1 fp1 n1 P1 St1)(D2:Draws prog w A i2 fp2 n2 P2 St2)(ap:zhz z TI TO i1 i2 fp1 fp2)
 (hz:IsZip s.heap z TI TO .none) (hTI:IsPair s.heap TI (.ref i1) (.ref i2)) (hTO:IsPair s.heap TO a b) (h1:St1 k1 s.heap) (h2:St2 k2 s.heap) (l1:k1 < n1) (l2:k2 < n2)
 (hQ:∀ x y h' tk,P1 k1 x->P2 k2 y->IsZip h' z TI TO (rawInt s.heap.objs.size)->IsPair h' TO x y->St1 (k1+1) h'->St2 (k2+1) h'->IsPair h' s.heap.objs.size x y ->
  (∀ c o,c∉[z,TO,i1,i2]->s.heap.get? c=some o->h'.get? c=some o)->Q (.ref s.heap.objs.size) { s with heap:=h',toks:=tk }) :
 wpAny (model prog w) A (Builtin.«zip.__next__» ⟨[.ref z],[]⟩) (λfin s'=>∃ v,fin=.done (.ret v)/\Q v s') E s:=by
 obtain⟨nd,az1,az2,ao1,ao2,a12,a21⟩:=ap
 simp only[u1f,d5,i8,u1D,u3U,u2G,u2L,and_true]at nd
 obtain⟨⟨n1',n2',n3',n4'⟩,⟨n5,n6,n7⟩,⟨n8,n9⟩,n10⟩:=nd
 show wpAny _ _ (field (.ref z) 2>>=_) _ _ _
 refine u0 (u0X hz rfl (x:=.bool false) rfl ?_)
 show wpAny _ _ (field (.ref z) 3>>=_) _ _ _
 refine u0 (u0X hz rfl (x:=.ref TI) rfl (u0 (u1d hTI rfl ?_)))
 show wpAny _ _ (Builtin.SmallTypes.ownedTupleIsFree (.ref z)>>=_) _ _ _
 refine u0 ?_
 unfold Builtin.SmallTypes.ownedTupleIsFree
 refine u0 (u0X hz rfl (x:=.none) rfl (t7 ?_))
 simp only[u2F]
 refine u0 (u1t (u0 (u0X hz rfl (x:=.ref TO) rfl (u0 (u1T hz (by simp) λg1 z1 b1=>?_)))))
 refine u0 ?_
 simp only[u2c,u3O,u2o,u2K]
 refine u0 (u0 (wpAny_onRaise ?_))
 show wpAny _ _ (Builtin.SmallTypes.nextOf (.ref i1)>>=_) _ _ _
 refine u0 (D1.item k1 _ _ _ l1 (xy D1 h1 b1 az1) λx g2 tk2 px st2 b2=>t7 ?_)
 have o2:IsPair g2 TO a b:=(b2.2 TO n8).trans ((b1.2 TO (u1l n2')).trans hTO)
 refine u0 (u1d o2 rfl (u0 (wpAny_updateSeq_pair o2 λg3 o3 b3=>?_)))
 refine u0 (u2H (t7 ?_))
 refine u0 (u0 (wpAny_onRaise ?_))
 show wpAny _ _ (Builtin.SmallTypes.nextOf (.ref i2)>>=_) _ _ _
 have s23:St2 k2 g3:=xy D2 (xy D2 (xy D2 h2 b1 az2) b2 a12) b3 ao2
 refine u0 (D2.item k2 _ _ _ l2 s23 λy g4 tk4 py st4 b4=>t7 ?_)
 have o4:IsPair g4 TO x b:=(b4.2 TO n9).trans o3
 refine u0 (u1d o4 rfl (u0 (wpAny_updateSeq_pair o4 λg5 o5 b5=>?_)))
 replace o5:IsPair g5 TO x y:=o5
 refine u0 (u2H (t7 (t7 ?_)))
 refine u0 (u1d o5 rfl ?_)
 show wpAny _ _ (newTuple [x,y]>>=_) _ _ _
 refine u0 (wpAny_newTuple ?_)
 have hsz:g5.objs.size=s.heap.objs.size:=by rw[b5.1,b4.1,b3.1,b2.1,b1.1]
 have z5:IsZip g5 z TI TO .ellipsis:=(b5.2 z n2').trans ((b4.2 z n4').trans ((b3.2 z n2').trans ((b2.2 z n3').trans z1)))
 have zlt:z < g5.objs.size:=j7 z5
 show wpAny _ _ (Builtin.SmallTypes.ownedTupleHandOut (.ref z) (.ref g5.objs.size)>>=_) _ _ _
 refine u0 ?_
 unfold Builtin.SmallTypes.ownedTupleHandOut
 have z6:IsZip (g5.push { cls:=.type "tuple",data:=.seq #[x,y] }) z TI TO .ellipsis:=u5 _ z5
 refine u0 (u1T z6 (by simp) λg7 z7 b7=>?_)
 refine u1T z7 (by simp) λg8 z8 b8=>?_
 have up:∀ c o,c≠z->g5.get? c=some o->g8.get? c=some o:=λc o n e=>(b8.2 c n).trans ((b7.2 c n).trans (u5 _ e))
 have t8:IsPair g8 g5.objs.size x y:=(b8.2 _ (u2Q zlt)).trans ((b7.2 _ (u2Q zlt)).trans (r6 _ rfl))
 have e8:IsZip g8 z TI TO (rawInt g5.objs.size):=z8
 rw[hsz]at e8 t8
 refine t7 ⟨_,rfl,?_⟩
 show Q (.ref g5.objs.size) _
 rw[hsz]
 have f1:St1 (k1+1) g5:=xy D1 (xy D1 (xy D1 st2 b3 ao1) b4 a21) b5 ao1
 have f2:St2 (k2+1) g5:=xy D2 st4 b5 ao2
 refine hQ x y g8 _ px py e8 (up _ _ (u1l n2') o5) (D1.frame _ _ _ f1 λc hc o e=>up c o (λq=>az1 (q ▸ hc)) e) (D2.frame _ _ _ f2 λc hc o e=>up c o (λq=>az2 (q ▸ hc)) e) t8 λc o hc e=>?_
 simp only[d5,i8,u1D,u3U]at hc
 obtain⟨c1,c2,c3,c4⟩:=hc
 exact up c o c1 ((b5.2 c c2).trans ((b4.2 c c4).trans ((b3.2 c c2).trans ((b2.2 c c3).trans ((b1.2 c c1).trans e)))))
theorem zcE {Q:Fin->Shared->Prop}(D1:Draws prog w A i1 fp1 n1 P1 St1)(az1:z∉fp1)(nz:i1≠z)
 (hz:IsZip s.heap z TI TO .none) (hTI:IsPair s.heap TI (.ref i1) (.ref i2)) (h1:St1 n1 s.heap)
 (hE:∀ h' e,(∀ c o,c≠z->c≠i1->s.heap.get? c=some o->h'.get? c=some o)->(∃ o,h'.get? e=some o/\o.cls=.type "StopIteration")->E (.ref e) { s with heap:=h' }) :
 wpAny (model prog w) A (Builtin.«zip.__next__» ⟨[.ref z],[]⟩) Q E s:=by
 show wpAny _ _ (field (.ref z) 2>>=_) _ _ _
 refine u0 (u0X hz rfl (x:=.bool false) rfl ?_)
 show wpAny _ _ (field (.ref z) 3>>=_) _ _ _
 refine u0 (u0X hz rfl (x:=.ref TI) rfl (u0 (u1d hTI rfl ?_)))
 show wpAny _ _ (Builtin.SmallTypes.ownedTupleIsFree (.ref z)>>=_) _ _ _
 refine u0 ?_
 unfold Builtin.SmallTypes.ownedTupleIsFree
 refine u0 (u0X hz rfl (x:=.none) rfl (t7 ?_))
 simp only[u2F]
 refine u0 (u1t (u0 (u0X hz rfl (x:=.ref TO) rfl (u0 (u1T hz (by simp) λg1 z1 b1=>?_)))))
 refine u0 ?_
 simp only[u2c,u3O,u2o,u2K]
 refine u0 (u0 (wpAny_onRaise ?_))
 show wpAny _ _ (Builtin.SmallTypes.nextOf (.ref i1)>>=_) _ _ _
 refine u0 (D1.done _ _ _ (xy D1 h1 b1 az1) λg2 e b2 he=>?_)
 obtain⟨oe,hoe,hce⟩:=he
 have z2:IsZip g2 z TI TO .ellipsis:=b2 _ _ (u1l nz) z1
 have nez:e≠z:=λq=>by subst q;rw[z2]at hoe;cases hoe;simp at hce
 exact u1T z2 (by simp) λg3 _ b3=>hE g3 e (λc o c1 c2 q=>(b3.2 c c1).trans (b2 c o c2 ((b1.2 c c1).trans q))) ⟨oe,(b3.2 e nez).trans hoe,hce⟩
end
def zau (b:Bool)(h:Heap)(it l:Addr)(k:Nat):Prop:=if b=true then h.IsListIter it l k else h.IsTupleIter it l k
def zd3 (b:Bool)(h:Heap)(l:Addr)(items:Array Value):Prop:=if b=true then h.IsList l items else h.IsTuple l items
theorem Vb {prog:Program}{w:World}{A:Around}(hh:A.handled=none)(b:Bool)(it l:Addr)(hne:l≠it)(items:Array Value) :
 Draws prog w A it [it,l] items.size (λi v=>items[i]?=some v) (λi h=>zau b h it l i/\zd3 b h l items):=by
 cases b with
 | true=>exact Draws.list hh it l hne items
 | false=>exact YF hh it l hne items
def zgA (b:Bool) (l:Addr):Obj:={ cls:=.type (if b=true then "list_iterator" else "tuple_iterator"),data:=.fields #[.ref l,.int 0 0] }
abbrev zpA (h:Heap)(b1:Bool)(l1:Addr):Heap:=h.push (zgA b1 l1)
abbrev zpB (h:Heap)(b1 b2:Bool)(l1 l2:Addr):Heap:=(zpA h b1 l1).push (zgA b2 l2)
abbrev zpC (h:Heap) (b1 b2:Bool) (l1 l2:Addr):Heap:=(zpB h b1 b2 l1 l2).push (Obj.mk (.type "tuple") none (.seq #[.ref h.objs.size,.ref (zpA h b1 l1).objs.size]) #[])
abbrev zpD (h:Heap) (b1 b2:Bool) (l1 l2:Addr):Heap:=(zpC h b1 b2 l1 l2).push (Obj.mk (.type "tuple") none (.seq #[.none,.none]) #[])
abbrev zpE (h:Heap) (b1 b2:Bool) (l1 l2:Addr):Heap:=(zpD h b1 b2 l1 l2).push (Obj.mk (.type "zip") none (.fields #[.none,.bool false,.bool false,.ref (zpB h b1 b2 l1 l2).objs.size,.ref (zpC h b1 b2 l1 l2).objs.size]) #[])
theorem zcR (b1 b2:Bool)(l1 l2:Addr)(xs ys:Array Value) :
 Meets (Builtin.«zip.__new__» ⟨[.type "zip",.ref l1,.ref l2],[]⟩) (λ_ R s=>zd3 b1 s.heap l1 xs/\zd3 b2 s.heap l2 ys /\
  R (.ok (.ret (.ref (zpD s.heap b1 b2 l1 l2).objs.size))) { s with heap:=zpE s.heap b1 b2 l1 l2 }) :=
 .of_wp λprog w A R s h=>by
  obtain⟨hp,g,d,tk,os⟩:=s;obtain⟨hl1,hl2,h⟩:=h
  have hsub:=sub_zip
  cases b1 with
  | true =>
   have hL1:Heap.IsList (Shared.heap ⟨hp,g,d,tk,os⟩) l1 xs:=hl1
   cases b2 with
   | true =>
    have hL2:Heap.IsList (Shared.heap ⟨hp.push { cls:=.type "list_iterator",data:=.fields #[.ref l1,.int 0 0] },g,d,tk,os⟩) l2 ys:=Heap.IsList.push hl2 _
    wp_walk using u1J hL1,u1J hL2
    exact⟨_,rfl,h⟩
   | false =>
    have hL2:Heap.IsTuple (Shared.heap ⟨hp.push { cls:=.type "list_iterator",data:=.fields #[.ref l1,.int 0 0] },g,d,tk,os⟩) l2 ys:=Heap.IsTuple.push hl2 _
    wp_walk using u1J hL1,u0P hL2
    exact⟨_,rfl,h⟩
  | false =>
   have hL1:Heap.IsTuple (Shared.heap ⟨hp,g,d,tk,os⟩) l1 xs:=hl1
   cases b2 with
   | true =>
    have hL2:Heap.IsList (Shared.heap ⟨hp.push { cls:=.type "tuple_iterator",data:=.fields #[.ref l1,.int 0 0] },g,d,tk,os⟩) l2 ys:=Heap.IsList.push hl2 _
    wp_walk using u0P hL1,u1J hL2
    exact⟨_,rfl,h⟩
   | false =>
    have hL2:Heap.IsTuple (Shared.heap ⟨hp.push { cls:=.type "tuple_iterator",data:=.fields #[.ref l1,.int 0 0] },g,d,tk,os⟩) l2 ys:=Heap.IsTuple.push hl2 _
    wp_walk using u0P hL1,u0P hL2
    exact⟨_,rfl,h⟩
end PySem
namespace PySem
section
variable {prog:Program}{w:World}{A:Around}{E:Value->Shared->Prop}{s:Shared}
theorem zb7 {b1 b2:Bool}{l1 l2:Addr}{xs ys:Array Value}{Q:Value->Shared->Prop}(hl1:zd3 b1 s.heap l1 xs)(hl2:zd3 b2 s.heap l2 ys)
 (h:∀ h',IsZip h' (s.heap.objs.size+4) (s.heap.objs.size+2) (s.heap.objs.size+3) .none->IsPair h' (s.heap.objs.size+2) (.ref s.heap.objs.size) (.ref (s.heap.objs.size+1)) ->
  IsPair h' (s.heap.objs.size+3) .none .none->zau b1 h' s.heap.objs.size l1 0->zau b2 h' (s.heap.objs.size+1) l2 0 ->
  (∀ c o,s.heap.get? c=some o->h'.get? c=some o)->Q (.ref (s.heap.objs.size+4)) { s with heap:=h' }) :
 wpAny (model prog w) A (call (.type "zip") [.ref l1,.ref l2]) Q E s:=by
 refine callType_new F.called_zip (by decide) (F.typeCall_zip_2 _ _) (F.newCall_zip_2 _ _) (λobj=>F.args_object_init_3 obj _ _) F.entry_zip_new
  (zcR b1 b2 l1 l2 xs ys) ⟨hl1,hl2,?_⟩
 have z1:(zpA s.heap b1 l1).objs.size=s.heap.objs.size+1:=u1p ..
 have z2:(zpB s.heap b1 b2 l1 l2).objs.size=s.heap.objs.size+2:=by rw[u1p,z1]
 have z3:(zpC s.heap b1 b2 l1 l2).objs.size=s.heap.objs.size+3:=by rw[u1p,z2]
 have z4:(zpD s.heap b1 b2 l1 l2).objs.size=s.heap.objs.size+4:=by rw[u1p,z3]
 have g5:(zpE s.heap b1 b2 l1 l2).get? (zpD s.heap b1 b2 l1 l2).objs.size=some _:=r6 _ rfl
 have g4:(zpE s.heap b1 b2 l1 l2).get? (zpC s.heap b1 b2 l1 l2).objs.size=some _:=u5 _ (r6 _ rfl)
 have g3:(zpE s.heap b1 b2 l1 l2).get? (zpB s.heap b1 b2 l1 l2).objs.size=some _:=u5 _ (u5 _ (r6 _ rfl))
 have g2:(zpE s.heap b1 b2 l1 l2).get? (zpA s.heap b1 l1).objs.size=some (zgA b2 l2):=u5 _ (u5 _ (u5 _ (r6 _ rfl)))
 have g1:(zpE s.heap b1 b2 l1 l2).get? s.heap.objs.size=some (zgA b1 l1):=u5 _ (u5 _ (u5 _ (u5 _ (r6 _ rfl))))
 show _/\_
 rw[z2,z3,z4]at g5
 rw[z1,z2]at g3
 rw[z3]at g4
 rw[z1]at g2
 rw[z4]
 have it0:∀ {b:Bool} {l c:Addr},(zpE s.heap b1 b2 l1 l2).get? c=some (zgA b l)->zau b (zpE s.heap b1 b2 l1 l2) c l 0:=λ{b l c} e=>by
  cases b
  .exact⟨_,e,rfl,rfl⟩
  .exact⟨_,e,rfl,rfl⟩
 exact⟨⟨_,g5,rfl⟩,h _ g5 g3 g4 (it0 g1) (it0 g2) λc o x =>
  u5 _ (u5 _ (u5 _ (u5 _ (u5 _ x))))⟩
variable {z TI TO i1 i2:Addr}{fp1 fp2:List Addr}{n1 n2 k1 k2:Nat}{P1 P2:Nat->Value->Prop}{St1 St2:Nat->Heap->Prop}{a b:Value}
theorem ZS {Q:Option Value->Shared->Prop}(D1:Draws prog w A.in1 i1 fp1 n1 P1 St1)(D2:Draws prog w A.in1 i2 fp2 n2 P2 St2)(ap:zhz z TI TO i1 i2 fp1 fp2)
 (hz:IsZip s.heap z TI TO .none) (hTI:IsPair s.heap TI (.ref i1) (.ref i2)) (hTO:IsPair s.heap TO a b) (h1:St1 k1 s.heap) (h2:St2 k2 s.heap) (l1:k1 < n1) (l2:k2 < n2)
 (hQ:∀ x y h' tk,P1 k1 x->P2 k2 y->IsZip h' z TI TO (rawInt s.heap.objs.size)->IsPair h' TO x y->St1 (k1+1) h'->St2 (k2+1) h'->IsPair h' s.heap.objs.size x y ->
  (∀ c o,c∉[z,TO,i1,i2]->s.heap.get? c=some o->h'.get? c=some o)->Q (some (.ref s.heap.objs.size)) { s with heap:=h',toks:=tk }) :
 wpAny (model prog w) A (pyNext (.ref z)) Q E s:=by
 have hT:s.TypeIs (.ref z) "zip":=⟨_,hz,rfl⟩
 unfold pyNext
 exact u0 (u1O (u0L (name:=Str.ofString "__next__") hT u26
  (u1m u26 hT F.entry_zip_next
   (zce D1 D2 ap hz hTI hTO h1 h2 l1 l2 λx y h' tk a1 a2 a3 a4 a5 a6 a7 a8=>t7 (hQ x y h' tk a1 a2 a3 a4 a5 a6 a7 a8)) (F.args_zip_next_1 _))))
theorem XD {Q:Option Value->Shared->Prop}(D1:Draws prog w A.in1 i1 fp1 n1 P1 St1)(az1:z∉fp1)(nz:i1≠z)
 (hz:IsZip s.heap z TI TO .none) (hTI:IsPair s.heap TI (.ref i1) (.ref i2)) (h1:St1 n1 s.heap)
 (hQ:∀ h',(∀ c o,c≠z->c≠i1->s.heap.get? c=some o->h'.get? c=some o)->Q none { s with heap:=h' }):wpAny (model prog w) A (pyNext (.ref z)) Q E s:=by
 have hT:s.TypeIs (.ref z) "zip":=⟨_,hz,rfl⟩
 unfold pyNext
 refine u0 (u1O (u0L (name:=Str.ofString "__next__") hT u26
  (u1m u26 hT F.entry_zip_next (zcE D1 az1 nz hz hTI h1 λh' e hk he=>?_) (F.args_zip_next_1 _))))
 obtain⟨o,ho,hc⟩:=he
 refine u0 (wpAny_isInstance (T:="StopIteration") (b:=true) ⟨o,ho,hc⟩ isSubtype_stop ?_)
 exact t7 (hQ _ hk)
end
end PySem
namespace L2
open PySem PySem.Spec PyProof.Rows
def Sq (b:Bool)(K:W.Frag)(H:Hp)(a:Addr)(xs:List V):Prop:=if b=true then SqL K H a xs else SqT K H a xs
theorem Inv.sq {X:Cx}{pins:List (Addr × Obj)}{σ:St}{H:Hp}{s:Shared}{a:Addr}{xs:List V}{b:Bool}(I:Inv X pins σ H s)(h:Sq b X.K H a xs):∃ its:List Value,yk xs its/\zd3 b s.heap a its.toArray/\a < s.heap.objs.size:=by
 cases b with
 | true =>
  obtain⟨its,r,p,_⟩:=I.list (show SqL X.K H a xs from h)
  exact⟨its,r,p.isList,by obtain⟨o,n,ho,_⟩:=p;exact j7 ho⟩
 | false =>
  obtain⟨its,r,p,_⟩:=I.tuple (show SqT X.K H a xs from h)
  exact⟨its,r,p,by obtain⟨o,ho,_⟩:=p;exact j7 ho⟩
theorem Inv.sq_inj {X:Cx}{pins:List (Addr × Obj)}{σ:St}{H:Hp}{s:Shared}{a:Addr}{xs ys:List V}{b:Bool}(I:Inv X pins σ H s)(h:Sq b X.K H a xs)(h':Sq b X.K H a ys):xs=ys:=by
 cases b with
 | true=>exact I.list_inj h h'
 | false=>exact I.tuple_inj h h'
def Izp (K:W.Frag)(b1 b2:Bool)(l1 l2:Addr):It :=
 ⟨λi H=>∃ xs ys x y,Sq b1 K H l1 xs/\Sq b2 K H l2 ys/\xs[i]?=some x/\ys[i]?=some y,
  λi H v H'=>∃ T x y,v=.ref T/\H T=none/\H'=upd H T (.tup [x,y])/\(∀ xs,Sq b1 K H l1 xs->xs[i]?=some x)/\(∀ ys,Sq b2 K H l2 ys->ys[i]?=some y),
  λi H=>∃ xs,Sq b1 K H l1 xs/\i=xs.length⟩
theorem Xo {b:Bool}{h:Heap}{it l:Addr}{k:Nat}(x:zau b h it l k):∃ o,h.get? it=some o/\∀ v,o.data≠.cell v:=by
 cases b
 .obtain⟨o,ho,_,hd⟩:=x
  exact⟨o,ho,λv z=>by rw[hd]at z;cases z⟩
 .obtain⟨o,ho,_,hd⟩:=x
  exact⟨o,ho,λv z=>by rw[hd]at z;cases z⟩
theorem Wr {b:Bool}{h h':Heap}{it l:Addr}{k:Nat}(x:zau b h it l k)(e:∀ o,h.get? it=some o->h'.get? it=some o):zau b h' it l k:=by
 cases b
 .obtain⟨o,ho,r⟩:=x
  exact⟨o,e o ho,r⟩
 .obtain⟨o,ho,r⟩:=x
  exact⟨o,e o ho,r⟩
theorem zhe {P:Program}{w:World}{K:W.Frag}{es:List Expr}{k:Nat}{tp:Pos}(b1 b2:Bool)(l1 l2 z TI TO i1 i2:Addr)(ap:zhz z TI TO i1 i2 [i1,l1] [i2,l2])(n1:l1≠i1)(n2:l2≠i2) :
 ziJ P w K (.Tuple es k tp) (Izp K b1 b2 l1 l2) [z,TI,TO,i1,i2] z (λi h=>IsZip h z TI TO .none/\IsPair h TI (.ref i1) (.ref i2)/\(∃ a b,IsPair h TO a b)/\zau b1 h i1 l1 i/\zau b2 h i2 l2 i) where
 mem:=by simp
 obj:=λi h st b hb=>by
  obtain⟨hz,hTI,⟨a,c,hTO⟩,h1,h2⟩:=st
  simp only[d5,i8,u1D]at hb
  rcases hb with rfl | rfl | rfl | rfl | rfl
  .exact⟨_,hz,λv z=>by cases z⟩
  .exact⟨_,hTI,λv z=>by cases z⟩
  .exact⟨_,hTO,λv z=>by cases z⟩
  .exact Xo h1
  .exact Xo h2
 keep:=λi h h' st kk=>by
  obtain⟨hz,hTI,⟨a,c,hTO⟩,h1,h2⟩:=st
  exact⟨kk z (by simp) _ hz,kk TI (by simp) _ hTI,⟨a,c,kk TO (by simp) _ hTO⟩,Wr h1 λo q=>kk i1 (by simp) o q,Wr h2 λo q=>kk i2 (by simp) o q⟩
 item:=by
  intro X hP hw hK hc i pins s σ H E I hf st hg
  subst hP hw hK
  obtain⟨hz,hTI,⟨a,c,hTO⟩,h1,h2⟩:=st
  obtain⟨xs,ys,x,y,hq1,hq2,hx,hy⟩:=hg
  obtain⟨its,rv,p,_⟩:=I.sq hq1
  obtain⟨its2,rv2,p2,_⟩:=I.sq hq2
  obtain⟨u,hu,ru⟩:=rv.get hx
  obtain⟨u2,hu2,ru2⟩:=rv2.get hy
  have hl1:i < its.toArray.size:=by simpa using (u8.mp hu).1
  have hl2:i < its2.toArray.size:=by simpa using (u8.mp hu2).1
  have hh:X.A.in1.handled=none:=I.ok.hd hc
  refine ZS (Vb hh b1 i1 l1 n1 its.toArray) (Vb hh b2 i2 l2 n2 its2.toArray) ap hz hTI hTO ⟨h1,p⟩ ⟨h2,p2⟩ hl1 hl2 λv1 v2 h' tk e1 e2 hz' hTO' s1 s2 hT' hk=>?_
  have eu:v1=u:=by
   have:its[i]?=some v1:=by simpa using e1
   rw[hu]at this
   exact(u0q this).symm
  have eu2:v2=u2:=by
   have:its2[i]?=some v2:=by simpa using e2
   rw[hu2]at this
   exact(u0q this).symm
  subst eu eu2
  obtain⟨nd,az1,az2,ao1,ao2,a12,a21⟩:=ap
  simp only[u1f,d5,i8,u1D,u3U,u2G,u2L,and_true]at nd
  obtain⟨⟨m1,m2,m3,m4⟩,⟨m5,m6,m7⟩,⟨m8,m9⟩,m10⟩:=nd
  refine⟨_,rfl,wpAny_letOwnedTupleGo_zip hz' λh2' hz2 hs2=>?_⟩
  have hfr:H s.heap.objs.size=none:=I.hok.fresh (q5 _)
  have neZ:s.heap.objs.size≠z:=u2Q (j7 hz)
  have hT2:IsPair h2' s.heap.objs.size v1 v2:=(hs2.2 _ neZ).trans hT'
  have hTI':IsPair h' TI (.ref i1) (.ref i2):=hk TI _ (by simp[u1l m1,m5,m6,m7]) hTI
  have lt:∀ b∈[z,TI,TO,i1,i2],b < s.heap.objs.size:=λb hb=>by
   simp only[d5,i8,u1D]at hb
   rcases hb with rfl | rfl | rfl | rfl | rfl
   .exact j7 hz
   .exact j7 hTI
   .exact j7 hTO
   .obtain⟨o,ho,_⟩:=Xo h1;exact j7 ho
   .obtain⟨o,ho,_⟩:=Xo h2;exact j7 ho
  refine⟨.ref s.heap.objs.size,upd H s.heap.objs.size (.tup [x,y]),?_,rfl,⟨_,x,y,rfl,hfr,rfl,λzs hz=>by rw[I.sq_inj hz hq1];exact hx,λzs hz=>by rw[I.sq_inj hz hq2];exact hy⟩,
   ⟨hz2,(hs2.2 TI (u1l m1)).trans hTI',⟨_,_,(hs2.2 TO (u1l m2)).trans hTO'⟩,Wr s1.1 λo q=>(hs2.2 i1 (u1l m3)).trans q,Wr s2.1 λo q=>(hs2.2 i2 (u1l m4)).trans q⟩,λb hb=>?_⟩
  .refine I.grown (ch:=[z,TI,TO,i1,i2]) hf (q5 _) (λb v hb q=>?_) ?_
   .have nb:b≠z:=λw=>hb (by simp[w])
    refine(hs2.2 b nb).trans (hk b v (λw=>hb ?_) q)
    simp only[d5,i8,u1D]at w ⊢
    rcases w with w | w | w | w
    .exact .inl w
    .exact .inr (.inr (.inl w))
    .exact .inr (.inr (.inr (.inl w)))
    .exact .inr (.inr (.inr (.inr w)))
   .exact⟨by show 2<=sizeLine;decide,[v1,v2],.cons ru (.cons ru2 .nil),⟨_,hT2,rfl,0,rfl⟩⟩
  .rw[zn (p4 (lt b hb))]
   exact(hf b hb).1
 done:=by
  intro X hP hw hK hc i pins s σ H E I hf st hg
  subst hP hw hK
  obtain⟨hz,hTI,⟨a,c,hTO⟩,h1,h2⟩:=st
  obtain⟨xs,hq,rfl⟩:=hg
  obtain⟨its,rv,p,_⟩:=I.sq hq
  have hl:=rv.length
  have hh:X.A.in1.handled=none:=I.ok.hd hc
  have D:=Vb (prog:=X.prog) (w:=X.w) hh b1 i1 l1 n1 its.toArray
  refine XD D ap.z1 ?_ hz hTI ⟨by rw[j3,<- hl];exact h1,p⟩ λh' hk=>⟨rfl,I.turnedN (ch:=[z,TI,TO,i1,i2]) (t':=s.toks) hf λb v hb q=>hk b v (λw=>hb (by simp[w])) (λw=>hb (by simp[w])) q⟩
  have nd:=ap.nd
  simp only[u1f,d5,i8,u1D,u3U,u2G,u2L,and_true]at nd
  exact u1l nd.1.2.2.1
 self:=λ_ _ _ _ _ st h=>wpAny_pyIter_zip st.1 h
def iZip (K:W.Frag)(ta:TA):TI:=fun σ H R=>ta σ H λvs H1=>∃ b1 b2 l1 l2 xs ys,vs=[.ref l1,.ref l2]/\Sq b1 K H1 l1 xs/\Sq b2 K H1 l2 ys/\R (Izp K b1 b2 l1 l2) H1
theorem zmp {X:Cx} {es:List Expr} {k:Nat} {tp:Pos} {a b:Expr} {ta:TA} {p pos:Pos} (hg:Gl X "zip") (hm:X.mg "zip"=none) (hb:bootBuiltins "zip"=some (.type "zip")) (ha:PA X [a,b] ta)
 (hs:starEach [a,b] X.env=[(false,eval a X.env),(false,eval b X.env)]:=by rfl) (hs2:starEach [b] X.env=[(false,eval b X.env)]:=by rfl):PI X (.Tuple es k tp) (.Call (.Name "zip" p) [a,b] [] pos) (iZip X.K ta):=by
 intro pins s σ H R I h
 refine Call_ (Yn I hg hm hb (u0r (thn (ha pos pins s σ H _ I h) λus s1 hh9=>?_) (by rw[hs,hs2]) (by rw[hs2];rfl)))
 obtain⟨vs,H1,I1,r1,q1⟩:=hh9
 obtain⟨b1,b2,l1,l2,xs,ys,e,hq1,hq2,q⟩:=q1
 subst e
 obtain⟨u,u2,rfl,ru,ru2⟩:=zeh r1
 cases ru
 cases ru2
 obtain⟨its,rv,p1,lt1⟩:=I1.sq hq1
 obtain⟨its2,rv2,p2,lt2⟩:=I1.sq hq2
 refine zb7 p1 p2 λh2 hz hTI hTO hi1 hi2 hk=>wpAny_pyIter_zip hz ?_
 have hn:∀ b,s1.heap.objs.size<=b->zaU X pins H1 b:=λb hb=>I1.fpOk hb (I1.hok.fresh hb)
 have ap:zhz (s1.heap.objs.size+4) (s1.heap.objs.size+2) (s1.heap.objs.size+3) s1.heap.objs.size (s1.heap.objs.size+1) [s1.heap.objs.size,l1] [s1.heap.objs.size+1,l2]:=by
  have q1:l1≠s1.heap.objs.size:=p4 lt1
  have q2:∀ j:Nat,s1.heap.objs.size+j≠l1:=λj e=>u0W _ (d7 (by rw[<-e]at lt1;exact lt1) (u0V _ _))
  have q3:∀ j:Nat,s1.heap.objs.size+j≠l2:=λj e=>u0W _ (d7 (by rw[<-e]at lt2;exact lt2) (u0V _ _))
  have ne:∀ i j:Nat,i≠j->s1.heap.objs.size+i≠s1.heap.objs.size+j:=λi j h e=>h (Nat.add_left_cancel e)
  have n0:∀ i:Nat,i≠0->s1.heap.objs.size+i≠s1.heap.objs.size:=λi h e=>h (Nat.add_left_cancel (n:=s1.heap.objs.size) (m:=i) (k:=0) e)
  refine⟨?_,?_,?_,?_,?_,?_,?_⟩
  .simp only[u1f,d5,i8,u1D,u3U,u2G,u2L,and_true]
   exact⟨⟨ne 4 2 (by decide),ne 4 3 (by decide),n0 4 (by decide),ne 4 1 (by decide)⟩,⟨ne 2 3 (by decide),n0 2 (by decide),ne 2 1 (by decide)⟩,⟨n0 3 (by decide),ne 3 1 (by decide)⟩,u1l (n0 1 (by decide))⟩
  .simp only[d5,i8,u1D,u3U];exact⟨n0 4 (by decide),q2 4⟩
  .simp only[d5,i8,u1D,u3U];exact⟨ne 4 1 (by decide),q3 4⟩
  .simp only[d5,i8,u1D,u3U];exact⟨n0 3 (by decide),q2 3⟩
  .simp only[d5,i8,u1D,u3U];exact⟨ne 3 1 (by decide),q3 3⟩
  .simp only[d5,i8,u1D,u3U];exact⟨u1l (n0 1 (by decide)),q3 0⟩
  .simp only[d5,i8,u1D,u3U];exact⟨n0 1 (by decide),q2 1⟩
 refine⟨_,_,_,_,H1,rfl,I1.kept (t':=s1.toks) hk,zhe b1 b2 l1 l2 _ _ _ _ _ ap (p4 lt1) (p4 (u12 lt2)),⟨hz,hTI,⟨_,_,hTO⟩,hi1,hi2⟩,λb hb=>?_,q⟩
 simp only[d5,i8,u1D]at hb
 rcases hb with rfl | rfl | rfl | rfl | rfl
 .exact hn _ (u0V _ _)
 .exact hn _ (u0V _ _)
 .exact hn _ (u0V _ _)
 .exact hn _ (q5 _)
 .exact hn _ (u0V _ _)
end L2
namespace OwnSort
open PySem PyProof.Rows
section pure
variable {κ:KeyKind}{xs:Array Keyed}
theorem turned {n:Nat}(hn:n<=xs.size)(h:NonIncK κ xs n):SortedToK κ (mirror xs 0 n ((n - 0) / 2)) n:=λi j hij hj=>by
 rw[KK_mirror hn,KK_mirror hn,j4 ⟨by omega,by omega⟩,j4 ⟨by omega,by omega⟩]
 exact h _ _ (by omega) (by omega)
end pure
abbrev Pr:=Int × Int
def bltP (s t:Pr):Bool:=decide (s.1 < t.1\/(s.1=t.1/\s.2 < t.2))
def TP (h:Heap) (v:Value) (t:Pr):Prop:=∃ a o n tx ty,v=.ref a/\h.get? a=some o/\o.cls=.type "tuple"/\o.data=.seq #[.int t.1 tx,.int t.2 ty] n
theorem TP.uniq {h:Heap}{v:Value}{s t:Pr}(x:TP h v s)(y:TP h v t):s=t:=by
 obtain⟨a,o,n,tx,ty,rfl,e1,_,d1⟩:=x
 obtain⟨b,o2,n2,ux,uy,e,e2,_,d2⟩:=y
 cases e
 rw[e1]at e2
 cases e2
 rw[d1]at d2
 injection d2 with d2 _
 have:=u05 Array.toList d2
 simp at this
 exact u3w this.1.1 this.2.1
theorem TP.keep {h h':Heap}{v:Value}{t:Pr}(x:TP h v t)(k:∀ b o,h.get? b=some o->h'.get? b=some o):TP h' v t:=by
 obtain⟨a,o,n,tx,ty,e,e1,r⟩:=x
 exact⟨a,o,n,tx,ty,e,k _ _ e1,r⟩
open Classical in
noncomputable def keyP (h:Heap)(v:Value):Option Pr:=if x:∃ t,TP h v t then some x.choose else none
theorem keyP_of {h:Heap}{v:Value}{t:Pr}(x:TP h v t):keyP h v=some t:=by
 unfold keyP
 have y:∃ t,TP h v t:=⟨t,x⟩
 rw[dif_pos y,y.choose_spec.uniq x]
@[reducible] noncomputable def kindP (h:Heap):KeyKind where
 α:=Pr
 blt:=bltP
 irrefl a:=by unfold bltP;exact i7 (by omega)
 trans a b c h1 h2:=by unfold bltP at *;rw[b9]at *;omega
 negTrans a b c h:=by unfold bltP at *;rw[b9]at *;rw[b9];omega
 total a b h1 h2:=by
  unfold bltP at *
  rw[u0K]at *
  exact u3w (by omega) (by omega)
 keyOf:=keyP h
 dflt:=(0,0)
theorem zb1 (b:Bool)(x y:Value):keyLt' (tuples' b) x y=(do
 let xs<-Builtin.List.listItems x
 let ys<-Builtin.List.listItems y
 for ((p,q),i)in (xs.toList.zip ys.toList).zipIdx do
  if !(<- eqBool p q)then return<-oneLt' (b&&i == 0) p q
 return xs.size < ys.size):=rfl
theorem zbg (v:Value):firstOfTuple' v=(do
 if (<- typeOf v) != .type "tuple" then return none
 return (<- Builtin.List.listItems v)[0]?):=rfl
section
variable {prog:Program}{w:World}{A:Around}{E:Value->Shared->Prop}{s:Shared}
theorem lt0 {a b:Int}{t u:Tok}{Q:Bool->Shared->Prop}(h:Q (decide (a < b)) s):wpAny (model prog w) A (oneLt' false (.int a t) (.int b u)) Q E s:=by
 rw[oneLt'_eq]
 rw[j6 u6]
 exact u0 (PyProof.Rows.lt_int (u04 h))
theorem zac:∀ {fs:List Value},(∀ f∈fs,∃ i t,f=.int i t)->fs.mapM typeOf=pure (fs.map λ_=>Value.type "int")
 | [],_=>by simp
 | f::fs,h=>by
  obtain⟨i,t,rfl⟩:=h f u0E
  rw[u3S,zac λg hg=>h g (u0d _ hg),show typeOf (.int i t)=pure (.type "int")from rfl]
  simp
end
end OwnSort
namespace OwnTim
open PySem PyProof.Rows
abbrev SM:=StateT SortSt Sem
def gal:Bool->Keyed->Array Keyed->Nat->Nat->Nat->SM (Option Nat):=sortPriv% PySem.Builtin.gallop
def bey (l:Bool)(q:Keyed)(v:Array Keyed)(b i:Nat):SM (Option Bool):=do
 let x<-elem' v (b+i)
 if l then lt' x q else
  return (<- lt' q x).map (!·)
def zc6 (l:Bool)(q:Keyed)(v:Array Keyed)(b n x0 y0:Nat):SM (Option Nat):=do
 let mut x:=x0
 let mut y:=y0
 for _ in [0:n] do
  if x >= y then break
  let c:=x+(y - x) / 2
  let some z<-bey l q v b c | return none
  if z then x:=c+1 else y:=c
 return some y
theorem zkF (l:Bool)(q:Keyed)(v:Array Keyed)(b n t:Nat):gal l q v b n t=(do
 let some r<-bey l q v b t | return none
 let mut u:=0
 let mut o:=1
 if r then
  let w:=n - t
  for _ in [0:n] do
   if o >= w then break
   let some z<-bey l q v b (t+o) | return none
   if !z then break
   u:=o
   o:=2*o+1
  zc6 l q v b n (t+u+1) (t+min o w)
 else
  let w:=t+1
  for _ in [0:n] do
   if o >= w then break
   let some z<-bey l q v b (t - o) | return none
   if z then break
   u:=o
   o:=2*o+1
  zc6 l q v b n (t+1 - min o w) (t - u)):=rfl
section
variable {prog:Program}{w:World}{A:Around}{E:Value->Shared->Prop}{s:Shared}{st:SortSt}
theorem zeD {l:Bool}{q:Keyed}{v:Array Keyed}{b n t:Nat}{f:Nat->Bool}{P:Option Nat->SortSt->Prop}(BY:∀ i,i < n->∀ Q:Option Bool->SortSt->Prop,Q (some (f i)) st->wpS (model prog w) A E s (bey l q v b i) Q st)
 (hm:∀ i j,i<=j->j < n->f j=true->f i=true) (ht:t < n) (h:∀ k,k<=n->(∀ i,i < k->f i=true)->(∀ i,k<=i->i < n->f i=false)->P (some k) st):wpS (model prog w) A E s (gal l q v b n t) P st:=by
 have hm':∀ i j,i<=j->j < n->f i=false->f j=false:=λi j hij hj hf=>by
  cases e:f j with
  | false=>rfl
  | true=>rw[hm i j hij hj e]at hf;cases hf
 rw[zkF]
 dsimp only
 have last:∀ x y:Nat,x<=y->y<=n->(∀ i,i < x->f i=true)->(∀ i,y<=i->i < n->f i=false)->wpS (model prog w) A E s (zc6 l q v b n x y) P st:=λx y hxy hy h1 h2=>by
  unfold zc6
  dsimp only
  refine r8 (u0Q (u0I (I:=λi c t'=>t'=st/\∃ x y,c=(none,x,y)/\x<=y/\y<=n/\y - x<=n - i/\(∀ i,i < x->f i=true)/\∀ i,y<=i->i < n->f i=false) (Q:=λc t'=>t'=st/\∃ y,c=(none,y,y)/\y<=n/\(∀ i,i < y->f i=true)/\∀ i,y<=i->i < n->f i=false)
   (λi c t' _ hi hI=>?_) (λc t' hI=>?_) ⟨rfl,x,y,rfl,hxy,hy,by omega,h1,h2⟩) λc t' hI=>?_)
  .obtain⟨rfl,x,y,rfl,a1,a2,a3,a4,a5⟩:=hI
   dsimp only
   by_cases c1:x >= y
   .rw[j4 c1]
    obtain rfl:x=y:=by omega
    exact d6 ⟨rfl,x,rfl,a2,a4,a5⟩
   .rw[j6 c1]
    obtain⟨c,hc⟩:∃ c,x+(y - x) / 2=c:=⟨_,rfl⟩
    rw[hc]
    have c2:x<=c/\c < y:=by omega
    refine r8 (BY c (by omega) _ ?_)
    dsimp only
    cases e:f c with
    | true =>
     rw[j4 rfl]
     exact d6 ⟨rfl,c+1,y,rfl,by omega,a2,by omega,λj hj=>hm j c (by omega) (by omega) e,a5⟩
    | false =>
     rw[j6 u6]
     exact d6 ⟨rfl,x,c,rfl,by omega,by omega,by omega,a4,λj hj hn=>hm' c j hj hn e⟩
  .obtain⟨rfl,x,y,rfl,a1,a2,a3,a4,a5⟩:=hI
   obtain rfl:x=y:=by omega
   exact⟨rfl,x,rfl,a2,a4,a5⟩
  .obtain⟨rfl,y,rfl,a2,a4,a5⟩:=hI
   exact d6 (h y a2 a4 a5)
 refine r8 (BY t ht _ ?_)
 dsimp only
 cases e:f t with
 | true =>
  rw[j4 rfl]
  refine r8 (u0Q (u0I (I:=λi c t'=>t'=st/\∃ u o,c=(none,u,o)/\t+u < n/\u+1<=o/\i+1<=o/\f (t+u)=true) (Q:=λc t'=>t'=st/\∃ u o,c=(none,u,o)/\t+u < n/\u+1<=o/\f (t+u)=true/\(n - t<=o\/(t+o < n/\f (t+o)=false)))
   (λi c t' _ hi hI=>?_) (λc t' hI=>?_) ⟨rfl,0,1,rfl,ht,by omega,by omega,e⟩) λc t' hI=>?_)
  .obtain⟨rfl,u,o,rfl,a1,a2,a3,a4⟩:=hI
   dsimp only
   by_cases c1:o >= n - t
   .rw[j4 c1]
    exact d6 ⟨rfl,u,o,rfl,a1,a2,a4,.inl c1⟩
   .rw[j6 c1]
    refine r8 (BY (t+o) (by omega) _ ?_)
    dsimp only
    cases e2:f (t+o) with
    | false=>exact d6 ⟨rfl,u,o,rfl,a1,a2,a4,.inr ⟨by omega,e2⟩⟩
    | true=>exact d6 ⟨rfl,o,2*o+1,rfl,by omega,by omega,by omega,e2⟩
  .obtain⟨rfl,u,o,rfl,a1,a2,a3,a4⟩:=hI
   exact⟨rfl,u,o,rfl,a1,a2,a4,.inl (by omega)⟩
  .obtain⟨rfl,u,o,rfl,a1,a2,a4,a5⟩:=hI
   have e3:min o (n - t)<=n - t:=u2d _ _
   have e5:u+1<=min o (n - t):=Nat.le_min.mpr ⟨a2,by omega⟩
   have e6:(min o (n - t)=n - t/\n - t<=o)\/(min o (n - t)=o/\t+o < n/\f (t+o)=false):=by
    rcases a5 with a5 | a5
    .exact .inl ⟨Nat.min_eq_right a5,a5⟩
    .exact .inr ⟨u0T (by omega),a5⟩
   dsimp only
   refine last (t+u+1) (t+min o (n - t)) (by omega) (by omega) (λi hi=>hm i (t+u) (by omega) a1 a4) λi hi hn=>?_
   rcases e6 with ⟨a5,_⟩ | ⟨a5,a6,a7⟩
   .rw[a5]at hi
    omega
   .rw[a5]at hi
    exact hm' (t+o) i hi hn a7
 | false =>
  rw[j6 u6]
  refine r8 (u0Q (u0I (I:=λi c t'=>t'=st/\∃ u o,c=(none,u,o)/\u<=t/\u+1<=o/\i+1<=o/\f (t - u)=false) (Q:=λc t'=>t'=st/\∃ u o,c=(none,u,o)/\u<=t/\u+1<=o/\f (t - u)=false/\(t+1<=o\/(o<=t/\f (t - o)=true)))
   (λi c t' _ hi hI=>?_) (λc t' hI=>?_) ⟨rfl,0,1,rfl,by omega,by omega,by omega,e⟩) λc t' hI=>?_)
  .obtain⟨rfl,u,o,rfl,a1,a2,a3,a4⟩:=hI
   dsimp only
   by_cases c1:o >= t+1
   .rw[j4 c1]
    exact d6 ⟨rfl,u,o,rfl,a1,a2,a4,.inl c1⟩
   .rw[j6 c1]
    refine r8 (BY (t - o) (by omega) _ ?_)
    dsimp only
    cases e2:f (t - o) with
    | true=>exact d6 ⟨rfl,u,o,rfl,a1,a2,a4,.inr ⟨by omega,e2⟩⟩
    | false=>exact d6 ⟨rfl,o,2*o+1,rfl,by omega,by omega,by omega,e2⟩
  .obtain⟨rfl,u,o,rfl,a1,a2,a3,a4⟩:=hI
   exact⟨rfl,u,o,rfl,a1,a2,a4,.inl (by omega)⟩
  .obtain⟨rfl,u,o,rfl,a1,a2,a4,a5⟩:=hI
   have e3:min o (t+1)<=t+1:=u2d _ _
   have e5:u+1<=min o (t+1):=Nat.le_min.mpr ⟨a2,by omega⟩
   have e6:min o (t+1)=t+1\/(min o (t+1)=o/\o<=t/\f (t - o)=true):=by
    rcases a5 with a5 | a5
    .exact .inl (Nat.min_eq_right a5)
    .exact .inr ⟨u0T (by omega),a5⟩
   dsimp only
   refine last (t+1 - min o (t+1)) (t - u) (by omega) (by omega) (λi hi=>?_) λi hi hn=>hm' (t - u) i hi hn a4
   rcases e6 with a5 | ⟨a5,a6,a7⟩
   .rw[a5]at hi
    omega
   .rw[a5]at hi
    exact hm i (t - o) (by omega) (by omega) a7
end
structure WI {α:Type} (R:α->α->Prop) (xs ys o:List α) (i j:Nat):Prop where
 pi:i<=xs.length
 pj:j<=ys.length
 pm:o.Perm (xs.take i++ys.take j)
 so:o.Pairwise R
 bx:∀ z∈o,∀ x∈xs.drop i,R z x
 by_:∀ z∈o,∀ y∈ys.drop j,R z y
section
variable {α:Type}{R:α->α->Prop}{xs ys o:List α}{i j k:Nat}
theorem WI.swap (w:WI R xs ys o i j):WI R ys xs o j i:=⟨w.pj,w.pi,w.pm.trans u1B,w.so,w.by_,w.bx⟩
theorem WI.runA (w:WI R xs ys o i j)(sx:xs.Pairwise R)(hk:i+k<=xs.length)(h:∀ x∈(xs.drop i).take k,∀ y∈ys.drop j,R x y):WI R xs ys (o++(xs.drop i).take k) (i+k) j:=by
 have hs:(xs.drop i).Pairwise R:=sx.sublist (u0Y _ _)
 have hd:xs.drop (i+k)=(xs.drop i).drop k:=by rw[u1c]
 refine⟨hk,w.pj,?_,?_,λz hz x hx=>?_,λz hz y hy=>?_⟩
 .rw[List.take_add]
  refine(w.pm.append_right _).trans ?_
  rw[p5,p5]
  exact List.Perm.append_left _ u1B
 .rw[u0C]
  exact⟨w.so,hs.sublist (u1H _ _),λa ha b hb=>w.bx a ha b (u0i hb)⟩
 .rw[hd]at hx
  rcases u0G.mp hz with hz | hz
  .exact w.bx z hz x (u0b hx)
  .have e:=u0c k (xs.drop i)
   rw[<-e,u0C]at hs
   exact hs.2.2 z hz x hx
 .rcases u0G.mp hz with hz | hz
  .exact w.by_ z hz y hy
  .exact h z hz y hy
theorem WI.runB (w:WI R xs ys o i j)(sy:ys.Pairwise R)(hk:j+k<=ys.length)(h:∀ y∈(ys.drop j).take k,∀ x∈xs.drop i,R y x):WI R xs ys (o++(ys.drop j).take k) i (j+k):=(w.swap.runA sy hk h).swap
theorem zkU {l:List α}{x:α}{i:Nat}(h:l[i]?=some x):(l.drop i).take 1=[x]:=by
 obtain⟨hi,rfl⟩:=u8.mp h
 rw[u0z hi]
 rfl
theorem WI.pushA {x:α}(w:WI R xs ys o i j)(sx:xs.Pairwise R)(hx:xs[i]?=some x)(h:∀ y∈ys.drop j,R x y):WI R xs ys (o++[x]) (i+1) j:=by
 have hi:=(u8.mp hx).1
 have:=w.runA (k:=1) sx (by omega) (by rw[zkU hx];intro z hz y hy;rw[d4.mp hz];exact h y hy)
 rw[zkU hx]at this
 exact this
theorem WI.pushB {y:α}(w:WI R xs ys o i j)(sy:ys.Pairwise R)(hy:ys[j]?=some y)(h:∀ x∈xs.drop i,R y x):WI R xs ys (o++[y]) i (j+1):=(w.swap.pushA sy hy h).swap
theorem WI.done (w:WI R xs ys o i j)(sx:xs.Pairwise R)(sy:ys.Pairwise R)(h:∀ x∈xs.drop i,∀ y∈ys.drop j,R x y):(o++xs.drop i++ys.drop j).Perm (xs++ys)/\(o++xs.drop i++ys.drop j).Pairwise R:=by
 constructor
 .have e1:=u0c i xs
  have e2:=u0c j ys
  have p:(o++xs.drop i++ys.drop j).Perm (xs.take i++ys.take j++xs.drop i++ys.drop j):=(w.pm.append_right _).append_right _
  refine p.trans ?_
  have q:(xs.take i++ys.take j++xs.drop i++ys.drop j).Perm (xs.take i++xs.drop i++(ys.take j++ys.drop j)):=by
   rw[p5 (xs.take i),p5 (xs.take i),p5 (xs.take i)]
   refine List.Perm.append_left _ ?_
   rw[<-p5]
   exact u1B.append_right _
  rw[e1,e2]at q
  exact q
 .rw[u0C,u0C]
  refine⟨⟨w.so,sx.sublist (u0Y _ _),w.bx⟩,sy.sublist (u0Y _ _),λa ha b hb=>?_⟩
  rcases u0G.mp ha with ha | ha
  .exact w.by_ a ha b hb
  .exact h a ha b hb
theorem WJ (hr:∀ a:α,R a a)(sx:xs.Pairwise R){x:α}(hx:xs[i]?=some x):∀ z∈xs.drop i,R x z:=by
 obtain⟨hi,rfl⟩:=u8.mp hx
 intro z hz
 have hs:(xs.drop i).Pairwise R:=sx.sublist (u0Y _ _)
 rw[u0z hi]at hs hz
 rcases d5.mp hz with rfl | hz
 .exact hr _
 .exact(u08.mp hs).1 z hz
end
def mlo:Array Keyed->Array Keyed->SM (Array Keyed):=sortPriv% PySem.Builtin.mergeLo
def zbD:Nat->SM Unit:=sortPriv% PySem.Builtin.setMinGallop
theorem ziz (g:Nat):zbD g=modify λs=>SortSt.mk' (kindOf s) (arrOf s) (pendingOf s) g (failedOf s):=rfl
abbrev KA:=Array Keyed
abbrev Z1:=Option KA × KA × Nat × Nat × Nat × Nat
abbrev Z2:=Option KA × KA × Nat × Nat × Nat × Nat × Nat
abbrev Z3:=Option KA × KA × Nat × Nat × Nat
abbrev dn (v u o:KA)(i j:Nat):KA:=o++v.extract i v.size++u.extract j u.size
abbrev ls (v u o:KA)(i j:Nat):KA:=o++u.extract j u.size++v.extract i v.size
def zmw (v u:KA)(g:Nat)(z:Z1):SM (ForInStep Z1):=do
 let e<-elem' u z.2.2.2.1
 let f<-elem' v z.2.2.1
 let some b<-lt' e f | pure (.done (some (dn v u z.2.1 z.2.2.1 z.2.2.2.1),z.2.1,z.2.2.1,z.2.2.2.1,z.2.2.2.2.1,z.2.2.2.2.2))
 if b=true then do
  let e<-elem' u z.2.2.2.1
  if (z.2.2.2.1+1 == u.size)=true then pure (.done (some (dn v u (z.2.1.push e) z.2.2.1 (z.2.2.2.1+1)),z.2.1.push e,z.2.2.1,z.2.2.2.1+1,0,z.2.2.2.2.2+1))
  else if z.2.2.2.2.2+1 >= g then pure (.done (none,z.2.1.push e,z.2.2.1,z.2.2.2.1+1,0,z.2.2.2.2.2+1))
  else pure (.yield (none,z.2.1.push e,z.2.2.1,z.2.2.2.1+1,0,z.2.2.2.2.2+1))
 else do
  let f<-elem' v z.2.2.1
  if (z.2.2.1+1+1 == v.size)=true then pure (.done (some (ls v u (z.2.1.push f) (z.2.2.1+1) z.2.2.2.1),z.2.1.push f,z.2.2.1+1,z.2.2.2.1,z.2.2.2.2.1+1,0))
  else if z.2.2.2.2.1+1 >= g then pure (.done (none,z.2.1.push f,z.2.2.1+1,z.2.2.2.1,z.2.2.2.2.1+1,0))
  else pure (.yield (none,z.2.1.push f,z.2.2.1+1,z.2.2.2.1,z.2.2.2.2.1+1,0))
def loC (v u o:KA)(i j g c d:Nat):SM (ForInStep Z2):=do
 let f<-elem' v i
 if (i+1+1 == v.size)=true then pure (.done (some (ls v u (o.push f) (i+1) j),o.push f,i+1,j,g,c,d))
 else if (decide (c < 7)&&decide (d < 7))=true then pure (.done (none,o.push f,i+1,j,g,c,d))
 else pure (.yield (none,o.push f,i+1,j,g,c,d))
def loB (v u o:KA)(i j g c d:Nat):SM (ForInStep Z2):=do
 let e<-elem' u j
 if (j+1 == u.size)=true then pure (.done (some (dn v u (o.push e) i (j+1)),o.push e,i,j+1,g,c,d))
 else do
  let f<-elem' v i
  let some k<-gal true f u (j+1) (u.size - (j+1)) 0 | pure (.done (some (dn v u (o.push e) i (j+1)),o.push e,i,j+1,g,c,d))
  if k > 0 then
   if (j+1+k == u.size)=true then pure (.done (some (dn v u (o.push e++u.extract (j+1) (j+1+k)) i (j+1+k)),o.push e++u.extract (j+1) (j+1+k),i,j+1+k,g,c,k))
   else loC v u (o.push e++u.extract (j+1) (j+1+k)) i (j+1+k) g c k
  else loC v u (o.push e) i (j+1) g c k
def loA (v u o:KA)(i j g c d:Nat):SM (ForInStep Z2):=do
 zbD g
 let e<-elem' u j
 let some k<-gal false e v i (v.size - i) 0 | pure (.done (some (dn v u o i j),o,i,j,g,c,d))
 if k > 0 then
  if (i+k+1 == v.size)=true then pure (.done (some (ls v u (o++v.extract i (i+k)) (i+k) j),o++v.extract i (i+k),i+k,j,g,k,d))
  else if (i+k == v.size)=true then pure (.done (some (dn v u (o++v.extract i (i+k)) (i+k) j),o++v.extract i (i+k),i+k,j,g,k,d))
  else loB v u (o++v.extract i (i+k)) (i+k) j g k d
 else loB v u o i j g k d
def zmD (v u:KA)(z:Z2):SM (ForInStep Z2) :=
 if z.2.2.2.2.1 > 1 then loA v u z.2.1 z.2.2.1 z.2.2.2.1 (z.2.2.2.2.1 - 1) z.2.2.2.2.2.1 z.2.2.2.2.2.2
 else loA v u z.2.1 z.2.2.1 z.2.2.2.1 z.2.2.2.2.1 z.2.2.2.2.2.1 z.2.2.2.2.2.2
def zmK (v u:KA)(z:Z3):SM (ForInStep Z3):=do
 let y<-forIn [0:v.size+u.size] ((none,z.2.1,z.2.2.1,z.2.2.2.1,0,0):Z1) λ_ q=>zmw v u z.2.2.2.2 q
 match y.1 with
 | some r=>pure (.done (some r,y.2.1,y.2.2.1,y.2.2.2.1,z.2.2.2.2))
 | none=>do
  rule "list.sort.gallop"
  let x<-forIn [0:v.size+u.size] ((none,y.2.1,y.2.2.1,y.2.2.2.1,z.2.2.2.2+1,y.2.2.2.2.1,y.2.2.2.2.2):Z2) λ_ q=>zmD v u q
  match x.1 with
  | some r=>pure (.done (some r,x.2.1,x.2.2.1,x.2.2.2.1,x.2.2.2.2.1))
  | none=>do
   zbD (x.2.2.2.2.1+1)
   pure (.yield (none,x.2.1,x.2.2.1,x.2.2.2.1,x.2.2.2.2.1+1))
theorem zlR (v u:KA):mlo v u=(do
 rule "list.sort.merge-lo"
 let e<-elem' u 0
 if (1 == u.size)=true then pure (dn v u #[e] 0 1)
 else if (0+1 == v.size)=true then pure (ls v u #[e] 0 1)
 else do
  let g<-get
  let z<-forIn [0:v.size+u.size] ((none,#[e],0,1,gallopOf g):Z3) λ_ q=>zmK v u q
  match z.1 with
  | some r=>pure r
  | none=>(unsupported ("internal:list.sort.merge-bound"))):=by
 show @bind SM _ _ _ _ _=_
 dsimp only[zmK,zmD,loA,loB,loC,zmw,elem',lt',gal,zbD,gallopOf]
 congr 1;funext _;congr 1;funext e
 congr 1;congr 1;congr 1;funext g;congr 1
 .congr 1;funext _ z;congr 1
  funext x
  obtain⟨r,x⟩:=x
  cases r with
  | some r=>rfl
  | none =>
   dsimp only
   congr 1;funext _;congr 1
   funext y;obtain⟨r,y⟩:=y;cases r <;> rfl
 .funext y;obtain⟨r,y⟩:=y;cases r <;> rfl
def ky (κ:KeyKind)(x:Keyed):κ.α:=(κ.keyOf x.1).getD κ.dflt
def LE (κ:KeyKind)(x y:Keyed):Prop:=κ.kle (ky κ x) (ky κ y)
theorem LE.refl {κ:KeyKind}(x:Keyed):LE κ x x:=u1u _
theorem LE.trans {κ:KeyKind}{x y z:Keyed}(h:LE κ x y)(h2:LE κ y z):LE κ x z:=u19 h h2
def LtE (prog:Program)(w:World)(A:Around)(E:Value->Shared->Prop)(s:Shared)(κ:KeyKind)(k:SortKind)(D:Keyed->Prop):Prop :=
 ∀ (st:SortSt) (x y:Keyed) (Q:Option Bool->SortSt->Prop),kindOf st=k->D x->D y->Q (some (κ.blt (ky κ x) (ky κ y))) st->wpS (model prog w) A E s (lt' x y) Q st
structure Sm (st t:SortSt):Prop where
 kd:kindOf t=kindOf st
 ar:arrOf t=arrOf st
 pd:pendingOf t=pendingOf st
 fl:failedOf t=failedOf st
theorem Sm.refl (st:SortSt):Sm st st:=⟨rfl,rfl,rfl,rfl⟩
theorem Sm.trans {a b c:SortSt}(h:Sm a b)(h2:Sm b c):Sm a c:=⟨h2.kd.trans h.kd,h2.ar.trans h.ar,h2.pd.trans h.pd,h2.fl.trans h.fl⟩
section
variable {prog:Program}{w:World}{A:Around}{E:Value->Shared->Prop}{s:Shared}{st:SortSt}{κ:KeyKind}{k:SortKind}{D:Keyed->Prop}
theorem zJ {v:KA}{i:Nat}{x:Keyed}{Q:Keyed->SortSt->Prop}(h:v.toList[i]?=some x)(q:Q x st):wpS (model prog w) A E s (elem' v i) Q st:=by
 rw[elem'_eq,show v[i]?=some x by rw[<-h];simp]
 exact d6 q
theorem Xt {g:Nat}{Q:Unit->SortSt->Prop}(h:∀ t,Sm st t->Q () t):wpS (model prog w) A E s (zbD g) Q st:=by
 rw[ziz]
 exact u24 (h _ ⟨rfl,rfl,rfl,rfl⟩)
theorem XT {xs:List Keyed}{b n i:Nat}(hi:i < n)(hn:b+n<=xs.length):∃ x,xs[b+i]?=some x/\((xs.drop b).take n)[i]?=some x:=by
 have:b+i < xs.length:=by omega
 refine⟨xs[b+i],u7 this,?_⟩
 rw[u0h hi,u1A,u7 this]
theorem v6 {α:Type}{l:List α}{k:Nat}{x:α}(h:x∈l.take k):∃ i,i < k/\l[i]?=some x:=by
 obtain⟨i,hi⟩:=u1Y.mp h
 by_cases c:i < k
 .exact⟨i,c,by rw[<-hi,u0h c]⟩
 .rw[u0Z (by rw[o9];omega)]at hi
  cases hi
theorem ZX {α:Type}{l:List α}{k:Nat}{x:α}(h:x∈l.drop k):∃ i,k<=i/\l[i]?=some x:=by
 obtain⟨i,hi⟩:=u1Y.mp h
 rw[u1A]at hi
 exact⟨k+i,by omega,hi⟩
theorem zaT {l:List Keyed}(sx:l.Pairwise (LE κ)){i j:Nat}{x y:Keyed}(hij:i<=j)(hx:l[i]?=some x)(hy:l[j]?=some y):LE κ x y:=by
 by_cases e:i=j
 .subst e
  rw[hx]at hy
  cases hy
  exact LE.refl _
 .obtain⟨h1,rfl⟩:=u8.mp hx
  obtain⟨h2,rfl⟩:=u8.mp hy
  exact u0A.mp sx i j h1 h2 (by omega)
theorem zap {q:Keyed}{v:KA}{b n t:Nat}{P:Option Nat->SortSt->Prop}(L:LtE prog w A E s κ k D)(hk:kindOf st=k)(hq:D q)(hd:∀ x∈(v.toList.drop b).take n,D x)(hn:b+n<=v.toList.length)(ht:t < n)(sx:((v.toList.drop b).take n).Pairwise (LE κ))
 (h:∀ m,m<=n->(∀ x∈((v.toList.drop b).take n).take m,LE κ x q)->(∀ x∈((v.toList.drop b).take n).drop m,κ.klt (ky κ q) (ky κ x))->P (some m) st):wpS (model prog w) A E s (gal false q v b n t) P st:=by
 let f:Nat->Bool:=λi=>match ((v.toList.drop b).take n)[i]? with
  | some x=>!(κ.blt (ky κ q) (ky κ x))
  | none=>false
 have fx:∀ {i x},((v.toList.drop b).take n)[i]?=some x->f i=!(κ.blt (ky κ q) (ky κ x)):=λ{i x} e=>by show(match ((v.toList.drop b).take n)[i]? with | some x=>!(κ.blt (ky κ q) (ky κ x)) | none=>false)=_;rw[e]
 refine zeD (f:=f) (λi hi Q hQ=>?_) (λi j hij hj hf=>?_) ht λm hm h1 h2=>h m hm (λx hx=>?_) λx hx=>?_
 .obtain⟨x,e1,e2⟩:=XT hi hn
  rw[fx e2]at hQ
  unfold bey
  refine r8 (zJ e1 ?_)
  rw[j6 u6]
  exact r8 (L _ _ _ _ hk hq (hd x (j5 e2)) (d6 hQ))
 .obtain⟨x,_,e1⟩:=XT (i:=i) (by omega) hn
  obtain⟨y,_,e2⟩:=XT hj hn
  rw[fx e2,u11]at hf
  rw[fx e1,u11]
  exact LE.trans (κ:=κ) (y:=y) (zaT sx hij e1 e2) hf
 .obtain⟨i,hi,e⟩:=v6 hx
  have:=h1 i hi
  rw[fx e,u11]at this
  exact this
 .obtain⟨i,hi,e⟩:=ZX hx
  have hil:i < n:=by
   have:=(u8.mp e).1
   rw[o9]at this
   omega
  have:=h2 i hi hil
  rw[fx e,Bool.not_eq_false']at this
  exact this
theorem zar {q:Keyed}{v:KA}{b n t:Nat}{P:Option Nat->SortSt->Prop}(L:LtE prog w A E s κ k D)(hk:kindOf st=k)(hq:D q)(hd:∀ x∈(v.toList.drop b).take n,D x)(hn:b+n<=v.toList.length)(ht:t < n)(sx:((v.toList.drop b).take n).Pairwise (LE κ))
 (h:∀ m,m<=n->(∀ x∈((v.toList.drop b).take n).take m,κ.klt (ky κ x) (ky κ q))->(∀ x∈((v.toList.drop b).take n).drop m,LE κ q x)->P (some m) st):wpS (model prog w) A E s (gal true q v b n t) P st:=by
 let f:Nat->Bool:=λi=>match ((v.toList.drop b).take n)[i]? with
  | some x=>κ.blt (ky κ x) (ky κ q)
  | none=>false
 have fx:∀ {i x},((v.toList.drop b).take n)[i]?=some x->f i=κ.blt (ky κ x) (ky κ q):=λ{i x} e=>by show(match ((v.toList.drop b).take n)[i]? with | some x=>κ.blt (ky κ x) (ky κ q) | none=>false)=_;rw[e]
 refine zeD (f:=f) (λi hi Q hQ=>?_) (λi j hij hj hf=>?_) ht λm hm h1 h2=>h m hm (λx hx=>?_) λx hx=>?_
 .obtain⟨x,e1,e2⟩:=XT hi hn
  rw[fx e2]at hQ
  unfold bey
  refine r8 (zJ e1 ?_)
  rw[j4 rfl]
  exact L _ _ _ _ hk (hd x (j5 e2)) hq hQ
 .obtain⟨x,_,e1⟩:=XT (i:=i) (by omega) hn
  obtain⟨y,_,e2⟩:=XT hj hn
  rw[fx e2]at hf
  rw[fx e1]
  exact KeyOrd.klt_of_kle_of_klt (zaT sx hij e1 e2) hf
 .obtain⟨i,hi,e⟩:=v6 hx
  have:=h1 i hi
  rw[fx e]at this
  exact this
 .obtain⟨i,hi,e⟩:=ZX hx
  have hil:i < n:=by
   have:=(u8.mp e).1
   rw[o9]at this
   omega
  have:=h2 i hi hil
  rw[fx e]at this
  exact this
end
structure Two (κ:KeyKind) (D:Keyed->Prop) (v u:KA):Prop where
 dv:∀ x∈v.toList,D x
 du:∀ y∈u.toList,D y
 sv:v.toList.Pairwise (LE κ)
 su:u.toList.Pairwise (LE κ)
def Fn (κ:KeyKind)(v u r:KA):Prop:=r.toList.Perm (v.toList++u.toList)/\r.toList.Pairwise (LE κ)
structure MI (κ:KeyKind) (v u o:KA) (i j:Nat):Prop where
 li:i+1 < v.size
 lj:j < u.size
 wi:WI (LE κ) v.toList u.toList o.toList i j
section
variable {prog:Program}{w:World}{A:Around}{E:Value->Shared->Prop}{s:Shared}{st:SortSt}{κ:KeyKind}{k:SortKind}{D:Keyed->Prop}{v u o:KA}{i j:Nat}
theorem wB (v:KA)(i j:Nat):(v.extract i j).toList=(v.toList.drop i).take (j - i):=by simp
theorem zaK (v:KA)(i:Nat):(v.extract i v.size).toList=v.toList.drop i:=by
 rw[wB,i9 (by rw[u0a,j8];omega)]
theorem zbf (T:Two κ D v u)(w:WI (LE κ) v.toList u.toList o.toList i j)(h:j=u.size\/i=v.size):Fn κ v u (dn v u o i j):=by
 have:=w.done T.sv T.su λx hx y hy=>by
  rcases h with rfl | rfl
  .rw[<-j8,u2a]at hy;cases hy
  .rw[<-j8,u2a]at hx;cases hx
 unfold Fn dn
 rw[e9,e9,zaK,zaK]
 exact this
theorem zdw (T:Two κ D v u)(w:WI (LE κ) v.toList u.toList o.toList i j)(hi:i+1=v.size)(top:∀ y∈u.toList,∀ x,v.toList[v.size - 1]?=some x->LE κ y x):Fn κ v u (ls v u o i j):=by
 have:=w.swap.done T.su T.sv λy hy x hx=>by
  refine top y (u0b hy) x ?_
  obtain⟨a,ha,e⟩:=ZX hx
  have hl:=(u8.mp e).1
  rw[j8]at hl
  rw[show v.size - 1=a by omega]
  exact e
 unfold Fn ls
 rw[e9,e9,zaK,zaK]
 exact⟨this.1.trans u1B,this.2⟩
theorem VG {v:KA}{i:Nat}(h:i < v.size):∃ x,v.toList[i]?=some x:=⟨_,u7 (by rw[j8];exact h)⟩
def Ok2 (κ:KeyKind)(v u:KA)(n:Nat)(c:Z2):Prop:=(∃ r,c.1=some r/\Fn κ v u r)\/(c.1=none/\MI κ v u c.2.1 c.2.2.1 c.2.2.2.1/\n<=c.2.2.1+c.2.2.2.1)
def Go2 (κ:KeyKind)(v u:KA)(n:Nat):ForInStep Z2->Prop
 | .done c=>Ok2 κ v u n c
 | .yield c=>c.1=none/\MI κ v u c.2.1 c.2.2.1 c.2.2.2.1/\n<=c.2.2.1+c.2.2.2.1
variable {top:∀ y∈u.toList,∀ x,v.toList[v.size - 1]?=some x->LE κ y x}{g c d n:Nat}
theorem zeX (T:Two κ D v u)(top:∀ y∈u.toList,∀ x,v.toList[v.size - 1]?=some x->LE κ y x)(m:MI κ v u o i j){x:Keyed}(hx:v.toList[i]?=some x)(h:∀ y∈u.toList.drop j,LE κ x y)(hn:n<=i+j):wpS (model prog w) A E s (loC v u o i j g c d) (λr t=>t=st/\Go2 κ v u n r) st:=by
 unfold loC
 refine r8 (zJ hx ?_)
 have w':=m.wi.pushA T.sv hx h
 rw[<-u1r]at w'
 have li:=m.li
 by_cases e:i+1+1=v.size
 .rw[j4 (g9.mpr e)]
  exact d6 ⟨rfl,.inl ⟨_,rfl,zdw T w' e top⟩⟩
 .rw[j6 (λz=>e (g9.mp z))]
  have m':MI κ v u (o.push x) (i+1) j:=⟨by omega,m.lj,w'⟩
  split
  .exact d6 ⟨rfl,.inr ⟨rfl,m',by show n<=i+1+j;omega⟩⟩
  .exact d6 ⟨rfl,rfl,m',by show n<=i+1+j;omega⟩
theorem zeO (L:LtE prog w A E s κ k D)(hk:kindOf st=k)(T:Two κ D v u)(top:∀ y∈u.toList,∀ x,v.toList[v.size - 1]?=some x->LE κ y x)(m:MI κ v u o i j){y:Keyed}(hy:u.toList[j]?=some y)(h:∀ x∈v.toList.drop i,LE κ y x)(hn:n<=i+j):wpS (model prog w) A E s (loB v u o i j g c d) (λr t=>t=st/\Go2 κ v u n r) st:=by
 unfold loB
 refine r8 (zJ hy ?_)
 have w':=m.wi.pushB T.su hy h
 rw[<-u1r]at w'
 have li:=m.li
 have lj:=m.lj
 by_cases e:j+1=u.size
 .rw[j4 (g9.mpr e)]
  exact d6 ⟨rfl,.inl ⟨_,rfl,zbf T w' (.inl e)⟩⟩
 .rw[j6 (λz=>e (g9.mp z))]
  obtain⟨x,hx⟩:=VG (v:=v) (i:=i) (by omega)
  refine r8 (zJ hx ?_)
  have hul:u.toList.length=u.size:=j8
  have eseg:(u.toList.drop (j+1)).take (u.size - (j+1))=u.toList.drop (j+1):=i9 (by rw[u0a];omega)
  refine r8 (zar L hk (T.dv x (j5 hx)) (λz hz=>T.du z (u0b (u0i hz))) (by omega) (by omega) (by rw[eseg];exact T.su.sublist (u0Y _ _)) λq hq h1 h2=>?_)
  rw[eseg]at h1 h2
  dsimp only
  have hx2:=WJ (LE.refl (κ:=κ)) T.sv hx
  have w2:=w'.runB (k:=q) T.su (by omega) λz hz a ha=>LE.trans (u0p (h1 z hz)) (hx2 a ha)
  have h3:∀ z∈u.toList.drop (j+1+q),LE κ x z:=λz hz=>h2 z (by rw[u1c];exact hz)
  by_cases e0:q > 0
  .rw[j4 e0]
   have ee:(o.push y++u.extract (j+1) (j+1+q)).toList=(o.push y).toList++(u.toList.drop (j+1)).take q:=by rw[e9,wB,u1o]
   rw[<-ee]at w2
   by_cases e1:j+1+q=u.size
   .rw[j4 (g9.mpr e1)]
    exact d6 ⟨rfl,.inl ⟨_,rfl,zbf T w2 (.inl e1)⟩⟩
   .rw[j6 (λz=>e1 (g9.mp z))]
    exact zeX T top ⟨li,by omega,w2⟩ hx h3 (by omega)
  .rw[j6 e0]
   obtain rfl:q=0:=by omega
   exact zeX T top ⟨li,by omega,w'⟩ hx h3 (by omega)
theorem zfd (L:LtE prog w A E s κ k D)(hk:kindOf st=k)(T:Two κ D v u)(top:∀ y∈u.toList,∀ x,v.toList[v.size - 1]?=some x->LE κ y x)(m:MI κ v u o i j)(hn:n<=i+j):wpS (model prog w) A E s (loA v u o i j g c d) (λr t=>Sm st t/\Go2 κ v u n r) st:=by
 unfold loA
 refine r8 (Xt λt ht=>?_)
 obtain⟨y,hy⟩:=VG m.lj
 refine r8 (zJ hy ?_)
 have li:=m.li
 have lj:=m.lj
 have hvl:v.toList.length=v.size:=j8
 have eseg:(v.toList.drop i).take (v.size - i)=v.toList.drop i:=i9 (by rw[u0a];omega)
 refine r8 (zap L (ht.kd.trans hk) (T.du y (j5 hy)) (λz hz=>T.dv z (u0b (u0i hz))) (by omega) (by omega) (by rw[eseg];exact T.sv.sublist (u0Y _ _)) λq hq h1 h2=>?_)
 rw[eseg]at h1 h2
 dsimp only
 have hy2:=WJ (LE.refl (κ:=κ)) T.su hy
 have w2:=m.wi.runA (k:=q) T.sv (by omega) λz hz a ha=>LE.trans (h1 z hz) (hy2 a ha)
 have h3:∀ z∈v.toList.drop (i+q),LE κ y z:=λz hz=>u0p (h2 z (by rw[u1c];exact hz))
 by_cases e0:q > 0
 .rw[j4 e0]
  have ee:(o++v.extract i (i+q)).toList=o.toList++(v.toList.drop i).take q:=by rw[e9,wB,u1o]
  rw[<-ee]at w2
  by_cases e1:i+q+1=v.size
  .rw[j4 (g9.mpr e1)]
   exact d6 ⟨ht,.inl ⟨_,rfl,zdw T w2 e1 top⟩⟩
  .rw[j6 (λz=>e1 (g9.mp z))]
   by_cases e2:i+q=v.size
   .rw[j4 (g9.mpr e2)]
    exact d6 ⟨ht,.inl ⟨_,rfl,zbf T w2 (.inr e2)⟩⟩
   .rw[j6 (λz=>e2 (g9.mp z))]
    exact u0Q (zeO L (ht.kd.trans hk) T top ⟨by omega,lj,w2⟩ hy h3 (by omega)) λr t' h=>⟨h.1 ▸ ht,h.2⟩
 .rw[j6 e0]
  obtain rfl:q=0:=by omega
  exact u0Q (zeO L (ht.kd.trans hk) T top m hy h3 hn) λr t' h=>⟨h.1 ▸ ht,h.2⟩
def Ok1 (κ:KeyKind)(v u:KA)(n:Nat)(c:Z1):Prop:=(∃ r,c.1=some r/\Fn κ v u r)\/(c.1=none/\MI κ v u c.2.1 c.2.2.1 c.2.2.2.1/\n<=c.2.2.1+c.2.2.2.1)
def Go1 (κ:KeyKind)(v u:KA)(n:Nat):ForInStep Z1->Prop
 | .done c=>Ok1 κ v u n c
 | .yield c=>c.1=none/\MI κ v u c.2.1 c.2.2.1 c.2.2.2.1/\n<=c.2.2.1+c.2.2.2.1
theorem zhZ (L:LtE prog w A E s κ k D)(hk:kindOf st=k)(T:Two κ D v u)(top:∀ y∈u.toList,∀ x,v.toList[v.size - 1]?=some x->LE κ y x){z:Z1}(m:MI κ v u z.2.1 z.2.2.1 z.2.2.2.1):wpS (model prog w) A E s (zmw v u g z) (λr t=>t=st/\Go1 κ v u (z.2.2.1+z.2.2.2.1+1) r) st:=by
 obtain⟨r,o,i,j,c,d⟩:=z
 dsimp only at m ⊢
 have li:=m.li
 have lj:=m.lj
 unfold zmw
 obtain⟨y,hy⟩:=VG lj
 obtain⟨x,hx⟩:=VG (v:=v) (i:=i) (by omega)
 refine r8 (zJ hy (r8 (zJ hx (r8 (L _ _ _ _ hk (T.du y (j5 hy)) (T.dv x (j5 hx)) ?_)))))
 dsimp only
 have hx2:=WJ (LE.refl (κ:=κ)) T.sv hx
 have hy2:=WJ (LE.refl (κ:=κ)) T.su hy
 cases e:κ.blt (ky κ y) (ky κ x) with
 | true =>
  rw[j4 rfl]
  refine r8 (zJ hy ?_)
  have w':=m.wi.pushB T.su hy λa ha=>LE.trans (u0p e) (hx2 a ha)
  rw[<-u1r]at w'
  by_cases e1:j+1=u.size
  .rw[j4 (g9.mpr e1)]
   exact d6 ⟨rfl,.inl ⟨_,rfl,zbf T w' (.inl e1)⟩⟩
  .rw[j6 (λz=>e1 (g9.mp z))]
   have m':MI κ v u (o.push y) i (j+1):=⟨li,by omega,w'⟩
   split
   .exact d6 ⟨rfl,.inr ⟨rfl,m',by show i+j+1<=i+(j+1);omega⟩⟩
   .exact d6 ⟨rfl,rfl,m',by show i+j+1<=i+(j+1);omega⟩
 | false =>
  rw[j6 u6]
  refine r8 (zJ hx ?_)
  have w':=m.wi.pushA T.sv hx λa ha=>LE.trans (κ:=κ) (y:=y) e (hy2 a ha)
  rw[<-u1r]at w'
  by_cases e1:i+1+1=v.size
  .rw[j4 (g9.mpr e1)]
   exact d6 ⟨rfl,.inl ⟨_,rfl,zdw T w' e1 top⟩⟩
  .rw[j6 (λz=>e1 (g9.mp z))]
   have m':MI κ v u (o.push x) (i+1) j:=⟨by omega,lj,w'⟩
   split
   .exact d6 ⟨rfl,.inr ⟨rfl,m',by show i+j+1<=i+1+j;omega⟩⟩
   .exact d6 ⟨rfl,rfl,m',by show i+j+1<=i+1+j;omega⟩
end
section
variable {prog:Program}{w:World}{A:Around}{E:Value->Shared->Prop}{s:Shared}{st:SortSt}{κ:KeyKind}{k:SortKind}{D:Keyed->Prop}{v u o:KA}{i j:Nat}
def Go3 (κ:KeyKind)(v u:KA)(n:Nat):ForInStep Z3->Prop
 | .done c=>∃ r,c.1=some r/\Fn κ v u r
 | .yield c=>c.1=none/\MI κ v u c.2.1 c.2.2.1 c.2.2.2.1/\n<=c.2.2.1+c.2.2.2.1
theorem ziq {z:Z2}{n:Nat}(L:LtE prog w A E s κ k D)(hk:kindOf st=k)(T:Two κ D v u)(top:∀ y∈u.toList,∀ x,v.toList[v.size - 1]?=some x->LE κ y x)(m:MI κ v u z.2.1 z.2.2.1 z.2.2.2.1)(hn:n<=z.2.2.1+z.2.2.2.1):wpS (model prog w) A E s (zmD v u z) (λr t=>Sm st t/\Go2 κ v u n r) st:=by
 unfold zmD
 split
 .exact zfd L hk T top m hn
 .exact zfd L hk T top m hn
theorem zhI {z:Z3}(L:LtE prog w A E s κ k D)(hk:kindOf st=k)(T:Two κ D v u)(top:∀ y∈u.toList,∀ x,v.toList[v.size - 1]?=some x->LE κ y x)(m:MI κ v u z.2.1 z.2.2.1 z.2.2.2.1):wpS (model prog w) A E s (zmK v u z) (λr t=>Sm st t/\Go3 κ v u (z.2.2.1+z.2.2.2.1+1) r) st:=by
 unfold zmK
 have li:=m.li
 refine r8 (u0Q (u0I (I:=λx c t=>t=st/\c.1=none/\MI κ v u c.2.1 c.2.2.1 c.2.2.2.1/\(x=0\/z.2.2.1+z.2.2.2.1+1<=c.2.2.1+c.2.2.2.1)/\z.2.2.1+z.2.2.2.1<=c.2.2.1+c.2.2.2.1) (Q:=λc t=>t=st/\Ok1 κ v u (z.2.2.1+z.2.2.2.1+1) c)
  (λx c t _ _ hI=>?_) (λc t hI=>?_) ⟨rfl,rfl,m,.inl rfl,q5 _⟩) λy t hI=>?_)
 .obtain⟨rfl,h1,h2,h3,h4⟩:=hI
  refine u0Q (zhZ L hk T top h2) λr t' h=>?_
  obtain⟨rfl,hr⟩:=h
  cases r with
  | done c' =>
   rcases hr with hr | ⟨a1,a2,a3⟩
   .exact⟨rfl,.inl hr⟩
   .exact⟨rfl,.inr ⟨a1,a2,by omega⟩⟩
  | yield c' =>
   obtain⟨a1,a2,a3⟩:=hr
   exact⟨rfl,a1,a2,.inr (by omega),by omega⟩
 .obtain⟨rfl,h1,h2,h3,h4⟩:=hI
  refine⟨rfl,.inr ⟨h1,h2,?_⟩⟩
  rcases h3 with h3 | h3
  .exfalso
   have:max 0 (v.size+u.size)=v.size+u.size:=by omega
   omega
  .exact h3
 .obtain⟨rfl,hy⟩:=hI
  rcases hy with ⟨r,e,hr⟩ | ⟨e,m1,h1⟩
  .rw[e]
   exact d6 ⟨Sm.refl _,r,rfl,hr⟩
  .rw[e]
   dsimp only
   refine r8 (u3B (u1t ⟨rfl,?_⟩))
   refine r8 (u0Q (u0I (I:=λx c t'=>Sm t t'/\c.1=none/\MI κ v u c.2.1 c.2.2.1 c.2.2.2.1/\z.2.2.1+z.2.2.2.1+1<=c.2.2.1+c.2.2.2.1) (Q:=λc t'=>Sm t t'/\Ok2 κ v u (z.2.2.1+z.2.2.2.1+1) c)
    (λx c t' _ _ hI=>?_) (λc t' hI=>?_) ⟨Sm.refl _,rfl,m1,h1⟩) λx t' hI=>?_)
   .obtain⟨hs,b1,b2,b3⟩:=hI
    refine u0Q (ziq L (hs.kd.trans hk) T top b2 b3) λr t2 h=>?_
    obtain⟨hs2,hr⟩:=h
    cases r with
    | done c'=>exact⟨hs.trans hs2,hr⟩
    | yield c'=>exact⟨hs.trans hs2,hr⟩
   .obtain⟨hs,b1,b2,b3⟩:=hI
    exact⟨hs,.inr ⟨b1,b2,b3⟩⟩
   .obtain⟨hs,hx⟩:=hI
    rcases hx with ⟨r,e,hr⟩ | ⟨e,m2,h2⟩
    .rw[e]
     exact d6 ⟨hs,r,rfl,hr⟩
    .rw[e]
     exact r8 (Xt λt2 hs2=>d6 ⟨hs.trans hs2,rfl,m2,h2⟩)
theorem zjt {P:KA->SortSt->Prop}(L:LtE prog w A E s κ k D)(hk:kindOf st=k)(T:Two κ D v u)(hv:0 < v.size)(hu:0 < u.size)(top:∀ y∈u.toList,∀ x,v.toList[v.size - 1]?=some x->LE κ y x)(bot:∀ x∈v.toList,∀ y,u.toList[0]?=some y->LE κ y x)
 (h:∀ r t,Sm st t->Fn κ v u r->P r t):wpS (model prog w) A E s (mlo v u) P st:=by
 rw[zlR]
 refine r8 (u3B (u1t ⟨rfl,?_⟩))
 obtain⟨y,hy⟩:=VG hu
 refine r8 (zJ hy ?_)
 have w0:WI (LE κ) v.toList u.toList [] 0 0:=⟨u0D _,u0D _,u1Q _,List.Pairwise.nil,(λz hz=>by cases hz),(λz hz=>by cases hz)⟩
 have w1:WI (LE κ) v.toList u.toList (#[y]:KA).toList 0 1:=w0.pushB T.su hy λx hx=>bot x (u0b hx) y hy
 by_cases e1:1=u.size
 .rw[j4 (g9.mpr e1)]
  exact d6 (h _ _ (Sm.refl _) (zbf T w1 (.inl e1)))
 rw[j6 (λz=>e1 (g9.mp z))]
 by_cases e2:0+1=v.size
 .rw[j4 (g9.mpr e2)]
  exact d6 (h _ _ (Sm.refl _) (zdw T w1 e2 top))
 rw[j6 (λz=>e2 (g9.mp z))]
 refine r8 (u3q ?_)
 refine r8 (u0Q (u0I (I:=λx c t=>Sm st t/\c.1=none/\MI κ v u c.2.1 c.2.2.1 c.2.2.2.1/\x+1<=c.2.2.1+c.2.2.2.1) (Q:=λc t=>Sm st t/\∃ r,c.1=some r/\Fn κ v u r)
  (λx c t _ _ hI=>?_) (λc t hI=>?_) ⟨Sm.refl _,rfl,⟨by show 0+1 < v.size;omega,by show 1 < u.size;omega,w1⟩,by show 0+1<=0+1;omega⟩) λy t hI=>?_)
 .obtain⟨hs,b1,b2,b3⟩:=hI
  refine u0Q (zhI L (hs.kd.trans hk) T top b2) λr t2 h=>?_
  obtain⟨hs2,hr⟩:=h
  cases r with
  | done c'=>exact⟨hs.trans hs2,hr⟩
  | yield c'=>exact⟨hs.trans hs2,hr.1,hr.2.1,by have:=hr.2.2;omega⟩
 .obtain⟨hs,b1,b2,b3⟩:=hI
  exfalso
  have:=b2.li
  have:=b2.lj
  have:max 0 (v.size+u.size)=v.size+u.size:=by omega
  omega
 .obtain⟨hs,r,e,hr⟩:=hI
  rw[e]
  exact d6 (h r t hs hr)
end
def mhi:Array Keyed->Array Keyed->SM (Array Keyed):=sortPriv% PySem.Builtin.mergeHi
abbrev Y1:=Option KA × Nat × Nat × KA × Nat × Nat
abbrev Y2:=Option KA × Nat × Nat × KA × Nat × Nat × Nat
abbrev Y3:=Option KA × Nat × Nat × KA × Nat
abbrev dh (v u o:KA)(i j:Nat):KA:=v.extract 0 i++u.extract 0 j++o.reverse
abbrev fh (v u o:KA)(i j:Nat):KA:=u.extract 0 j++v.extract 0 i++o.reverse
def zmG (v u:KA)(g:Nat)(z:Y1):SM (ForInStep Y1):=do
 let e<-elem' u (z.2.2.1 - 1)
 let f<-elem' v (z.2.1 - 1)
 let some b<-lt' e f | pure (.done (some (dh v u z.2.2.2.1 z.2.1 z.2.2.1),z.2.1,z.2.2.1,z.2.2.2.1,z.2.2.2.2.1,z.2.2.2.2.2))
 if b=true then do
  let f<-elem' v (z.2.1 - 1)
  if (z.2.1 - 1 == 0)=true then pure (.done (some (dh v u (z.2.2.2.1.push f) (z.2.1 - 1) z.2.2.1),z.2.1 - 1,z.2.2.1,z.2.2.2.1.push f,z.2.2.2.2.1+1,0))
  else if z.2.2.2.2.1+1 >= g then pure (.done (none,z.2.1 - 1,z.2.2.1,z.2.2.2.1.push f,z.2.2.2.2.1+1,0))
  else pure (.yield (none,z.2.1 - 1,z.2.2.1,z.2.2.2.1.push f,z.2.2.2.2.1+1,0))
 else do
  let e<-elem' u (z.2.2.1 - 1)
  if (z.2.2.1 - 1 == 1)=true then pure (.done (some (fh v u (z.2.2.2.1.push e) z.2.1 (z.2.2.1 - 1)),z.2.1,z.2.2.1 - 1,z.2.2.2.1.push e,0,z.2.2.2.2.2+1))
  else if z.2.2.2.2.2+1 >= g then pure (.done (none,z.2.1,z.2.2.1 - 1,z.2.2.2.1.push e,0,z.2.2.2.2.2+1))
  else pure (.yield (none,z.2.1,z.2.2.1 - 1,z.2.2.2.1.push e,0,z.2.2.2.2.2+1))
def hiC (v u o:KA)(i j g c d:Nat):SM (ForInStep Y2):=do
 let f<-elem' v (i - 1)
 if (i - 1 == 0)=true then pure (.done (some (dh v u (o.push f) (i - 1) j),i - 1,j,o.push f,g,c,d))
 else if (decide (c < 7)&&decide (d < 7))=true then pure (.done (none,i - 1,j,o.push f,g,c,d))
 else pure (.yield (none,i - 1,j,o.push f,g,c,d))
def hiB (v u o:KA)(i j g c d:Nat):SM (ForInStep Y2):=do
 let e<-elem' u (j - 1)
 if (j - 1 == 1)=true then pure (.done (some (fh v u (o.push e) i (j - 1)),i,j - 1,o.push e,g,c,d))
 else do
  let f<-elem' v (i - 1)
  let some p<-gal true f u 0 (j - 1) (j - 1 - 1) | pure (.done (some (dh v u (o.push e) i (j - 1)),i,j - 1,o.push e,g,c,d))
  if j - 1 - p > 0 then
   if (p == 1)=true then pure (.done (some (fh v u (o.push e++(u.extract p (j - 1)).reverse) i p),i,p,o.push e++(u.extract p (j - 1)).reverse,g,c,j - 1 - p))
   else if (p == 0)=true then pure (.done (some (dh v u (o.push e++(u.extract p (j - 1)).reverse) i p),i,p,o.push e++(u.extract p (j - 1)).reverse,g,c,j - 1 - p))
   else hiC v u (o.push e++(u.extract p (j - 1)).reverse) i p g c (j - 1 - p)
  else hiC v u (o.push e) i (j - 1) g c (j - 1 - p)
def hiA (v u o:KA)(i j g c d:Nat):SM (ForInStep Y2):=do
 zbD g
 let e<-elem' u (j - 1)
 let some p<-gal false e v 0 i (i - 1) | pure (.done (some (dh v u o i j),i,j,o,g,c,d))
 if i - p > 0 then
  if (p == 0)=true then pure (.done (some (dh v u (o++(v.extract p i).reverse) p j),p,j,o++(v.extract p i).reverse,g,i - p,d))
  else hiB v u (o++(v.extract p i).reverse) p j g (i - p) d
 else hiB v u o i j g (i - p) d
def zmt (v u:KA)(z:Y2):SM (ForInStep Y2) :=
 if z.2.2.2.2.1 > 1 then hiA v u z.2.2.2.1 z.2.1 z.2.2.1 (z.2.2.2.2.1 - 1) z.2.2.2.2.2.1 z.2.2.2.2.2.2
 else hiA v u z.2.2.2.1 z.2.1 z.2.2.1 z.2.2.2.2.1 z.2.2.2.2.2.1 z.2.2.2.2.2.2
def zmH (v u:KA)(z:Y3):SM (ForInStep Y3):=do
 let y<-forIn [0:v.size+u.size] ((none,z.2.1,z.2.2.1,z.2.2.2.1,0,0):Y1) λ_ q=>zmG v u z.2.2.2.2 q
 match y.1 with
 | some r=>pure (.done (some r,y.2.1,y.2.2.1,y.2.2.2.1,z.2.2.2.2))
 | none=>do
  rule "list.sort.gallop"
  let x<-forIn [0:v.size+u.size] ((none,y.2.1,y.2.2.1,y.2.2.2.1,z.2.2.2.2+1,y.2.2.2.2.1,y.2.2.2.2.2):Y2) λ_ q=>zmt v u q
  match x.1 with
  | some r=>pure (.done (some r,x.2.1,x.2.2.1,x.2.2.2.1,x.2.2.2.2.1))
  | none=>do
   zbD (x.2.2.2.2.1+1)
   pure (.yield (none,x.2.1,x.2.2.1,x.2.2.2.1,x.2.2.2.2.1+1))
theorem zl0 (v u:KA):mhi v u=(do
 rule "list.sort.merge-hi"
 let e<-elem' v (v.size - 1)
 if (v.size - 1 == 0)=true then pure (dh v u #[e] (v.size - 1) u.size)
 else if (u.size == 1)=true then pure (fh v u #[e] (v.size - 1) u.size)
 else do
  let g<-get
  let z<-forIn [0:v.size+u.size] ((none,v.size - 1,u.size,#[e],gallopOf g):Y3) λ_ q=>zmH v u q
  match z.1 with
  | some r=>pure r
  | none=>(unsupported ("internal:list.sort.merge-bound"))):=by
 show @bind SM _ _ _ _ _=_
 dsimp only[zmH,zmt,hiA,hiB,hiC,zmG,elem',lt',gal,zbD,gallopOf]
 congr 1;funext _;congr 1;funext e
 congr 1;congr 1;congr 1;funext g;congr 1
 .congr 1;funext _ z;congr 1
  funext x
  obtain⟨r,x⟩:=x
  cases r with
  | some r=>rfl
  | none =>
   dsimp only
   congr 1;funext _;congr 1
   funext y;obtain⟨r,y⟩:=y;cases r <;> rfl
 .funext y;obtain⟨r,y⟩:=y;cases r <;> rfl
structure MH (κ:KeyKind) (v u o:KA) (i j:Nat):Prop where
 li:i<=v.size
 lj:j<=u.size
 wi:WI (λa b=>LE κ b a) v.toList.reverse u.toList.reverse o.toList (v.size - i) (u.size - j)
section
variable {κ:KeyKind}{D:Keyed->Prop}{v u o:KA}{i j:Nat}
theorem yP {v:KA}{i:Nat}(h:i<=v.size):v.toList.reverse.drop (v.size - i)=(v.toList.take i).reverse:=by
 rw[List.drop_reverse,j8,Nat.sub_sub_self h]
theorem xh {l:List Keyed}(h:l.Pairwise (LE κ)):l.reverse.Pairwise λa b=>LE κ b a:=u1Z.mpr h
theorem zfJ {v:KA}{i:Nat}(h0:0 < i)(h:i<=v.size):v.toList.reverse[v.size - i]?=v.toList[i - 1]?:=by
 rw[List.getElem?_reverse (by rw[j8];omega),j8,show v.size - 1 - (v.size - i)=i - 1 by omega]
theorem MH.pushA (T:Two κ D v u)(m:MH κ v u o i j)(h0:0 < i){x:Keyed}(hx:v.toList[i - 1]?=some x)(h:∀ y∈u.toList.take j,LE κ y x):MH κ v u (o.push x) (i - 1) j:=by
 have li:=m.li
 refine⟨by omega,m.lj,?_⟩
 have:=m.wi.pushA (x:=x) (xh T.sv) (by rw[zfJ h0 li];exact hx) λy hy=>h y (by rw[yP m.lj]at hy;exact u1k.mp hy)
 rw[<-u1r,show v.size - i+1=v.size - (i - 1) by omega]at this
 exact this
theorem MH.pushB (T:Two κ D v u)(m:MH κ v u o i j)(h0:0 < j){y:Keyed}(hy:u.toList[j - 1]?=some y)(h:∀ x∈v.toList.take i,LE κ x y):MH κ v u (o.push y) i (j - 1):=by
 have lj:=m.lj
 refine⟨m.li,by omega,?_⟩
 have:=m.wi.pushB (y:=y) (xh T.su) (by rw[zfJ h0 lj];exact hy) λx hx=>h x (by rw[yP m.li]at hx;exact u1k.mp hx)
 rw[<-u1r,show u.size - j+1=u.size - (j - 1) by omega]at this
 exact this
theorem zak {v:KA}{p i:Nat}(hp:p<=i)(h:i<=v.size):(v.toList.reverse.drop (v.size - i)).take (i - p)=(v.extract p i).reverse.toList:=by
 rw[yP h,List.take_reverse,u1E,wB,o9,j8,u0T h,Nat.sub_sub_self hp,u2J]
theorem MH.runA (T:Two κ D v u)(m:MH κ v u o i j){p:Nat}(hp:p<=i)(h:∀ x∈(v.toList.take i).drop p,∀ y∈u.toList.take j,LE κ y x):MH κ v u (o++(v.extract p i).reverse) p j:=by
 have li:=m.li
 refine⟨by omega,m.lj,?_⟩
 have:=m.wi.runA (k:=i - p) (xh T.sv) (by rw[u2e,j8];omega) λx hx y hy=>by
  rw[zak hp li,u1E,wB]at hx
  rw[yP m.lj]at hy
  exact h x (by rw[u2J];exact u1k.mp hx) y (u1k.mp hy)
 rw[zak hp li,<- e9,show v.size - i+(i - p)=v.size - p by omega]at this
 exact this
theorem MH.runB (T:Two κ D v u)(m:MH κ v u o i j){p:Nat}(hp:p<=j)(h:∀ y∈(u.toList.take j).drop p,∀ x∈v.toList.take i,LE κ x y):MH κ v u (o++(u.extract p j).reverse) i p:=by
 have lj:=m.lj
 refine⟨m.li,by omega,?_⟩
 have:=m.wi.runB (k:=j - p) (xh T.su) (by rw[u2e,j8];omega) λx hx y hy=>by
  rw[zak hp lj,u1E,wB]at hx
  rw[yP m.li]at hy
  exact h x (by rw[u2J];exact u1k.mp hx) y (u1k.mp hy)
 rw[zak hp lj,<- e9,show u.size - j+(j - p)=u.size - p by omega]at this
 exact this
theorem Wz (v:KA)(i:Nat):(v.extract 0 i).toList=v.toList.take i:=by rw[wB,u17,Nat.sub_zero]
theorem zbT (T:Two κ D v u)(m:MH κ v u o i j)(h:i=0\/j=0):Fn κ v u (dh v u o i j):=by
 have e:=m.wi.swap.done (xh T.su) (xh T.sv) λy hy x hx=>by
  rw[yP m.lj]at hy
  rw[yP m.li]at hx
  rcases h with rfl | rfl
  .rw[List.take_zero]at hx;cases hx
  .rw[List.take_zero]at hy;cases hy
 rw[yP m.lj,yP m.li]at e
 have er:(dh v u o i j).toList=(o.toList++(u.toList.take j).reverse++(v.toList.take i).reverse).reverse:=by
  unfold dh
  rw[e9,e9,Wz,Wz,u1E,u2f,u2f,u15,u15,p5]
 constructor
 .rw[er]
  refine(u1s _).trans (e.1.trans ?_)
  exact(u1B).trans ((u1s _).append (u1s _))
 .rw[er,u1Z]
  exact e.2
theorem zc1 (T:Two κ D v u)(m:MH κ v u o i j)(hj:j=1)(bot:∀ x∈v.toList,∀ y,u.toList[0]?=some y->LE κ y x):Fn κ v u (fh v u o i j):=by
 have e:=m.wi.done (xh T.sv) (xh T.su) λx hx y hy=>by
  rw[yP m.lj]at hy
  rw[yP m.li]at hx
  refine bot x (u0i (u1k.mp hx)) y ?_
  obtain⟨a,ha,ea⟩:=v6 (u1k.mp hy)
  obtain rfl:a=0:=by omega
  exact ea
 rw[yP m.lj,yP m.li]at e
 have er:(fh v u o i j).toList=(o.toList++(v.toList.take i).reverse++(u.toList.take j).reverse).reverse:=by
  unfold fh
  rw[e9,e9,Wz,Wz,u1E,u2f,u2f,u15,u15,p5]
 constructor
 .rw[er]
  exact(u1s _).trans (e.1.trans ((u1s _).append (u1s _)))
 .rw[er,u1Z]
  exact e.2
theorem zbC {l:List Keyed}(s:l.Pairwise (LE κ)){i:Nat}{x:Keyed}(h0:0 < i)(hx:l[i - 1]?=some x):∀ z∈l.take i,LE κ z x:=λz hz=>by
 obtain⟨a,ha,e⟩:=v6 hz
 exact zaT s (by omega) e hx
def Oj2 (κ:KeyKind)(v u:KA)(n:Nat)(c:Y2):Prop:=(∃ r,c.1=some r/\Fn κ v u r)\/(c.1=none/\(0 < c.2.1/\1 < c.2.2.1)/\MH κ v u c.2.2.2.1 c.2.1 c.2.2.1/\c.2.1+c.2.2.1<=n)
def Gj2 (κ:KeyKind)(v u:KA)(n:Nat):ForInStep Y2->Prop
 | .done c=>Oj2 κ v u n c
 | .yield c=>c.1=none/\(0 < c.2.1/\1 < c.2.2.1)/\MH κ v u c.2.2.2.1 c.2.1 c.2.2.1/\c.2.1+c.2.2.1<=n
end
section
variable {prog:Program}{w:World}{A:Around}{E:Value->Shared->Prop}{s:Shared}{st:SortSt}{κ:KeyKind}{k:SortKind}{D:Keyed->Prop}{v u o:KA}{i j g c d n:Nat}
theorem zeN (T:Two κ D v u)(m:MH κ v u o i j)(h0:0 < i)(h1:1 < j){x:Keyed}(hx:v.toList[i - 1]?=some x)(h:∀ y∈u.toList.take j,LE κ y x)(hn:i+j<=n):wpS (model prog w) A E s (hiC v u o i j g c d) (λr t=>t=st/\Gj2 κ v u n r) st:=by
 unfold hiC
 refine r8 (zJ hx ?_)
 have m':=m.pushA T h0 hx h
 by_cases e:i - 1=0
 .rw[j4 (g9.mpr e)]
  exact d6 ⟨rfl,.inl ⟨_,rfl,zbT T m' (.inl e)⟩⟩
 .rw[j6 (λz=>e (g9.mp z))]
  split
  .exact d6 ⟨rfl,.inr ⟨rfl,⟨by show 0 < i - 1;omega,h1⟩,m',by show i - 1+j<=n;omega⟩⟩
  .exact d6 ⟨rfl,rfl,⟨by show 0 < i - 1;omega,h1⟩,m',by show i - 1+j<=n;omega⟩
theorem zgh (L:LtE prog w A E s κ k D)(hk:kindOf st=k)(T:Two κ D v u)(bot:∀ x∈v.toList,∀ y,u.toList[0]?=some y->LE κ y x)(m:MH κ v u o i j)(h0:0 < i)(h1:1 < j){y:Keyed}(hy:u.toList[j - 1]?=some y)(h:∀ x∈v.toList.take i,LE κ x y)(hn:i+j<=n):wpS (model prog w) A E s (hiB v u o i j g c d) (λr t=>t=st/\Gj2 κ v u n r) st:=by
 unfold hiB
 refine r8 (zJ hy ?_)
 have m':=m.pushB T (by omega) hy h
 have li:=m.li
 have lj:=m.lj
 by_cases e:j - 1=1
 .rw[j4 (g9.mpr e)]
  exact d6 ⟨rfl,.inl ⟨_,rfl,zc1 T m' e bot⟩⟩
 .rw[j6 (λz=>e (g9.mp z))]
  obtain⟨x,hx⟩:=VG (v:=v) (i:=i - 1) (by omega)
  refine r8 (zJ hx ?_)
  have hul:u.toList.length=u.size:=j8
  have eseg:(u.toList.drop 0).take (j - 1)=u.toList.take (j - 1):=by rw[u17]
  refine r8 (zar L hk (T.dv x (j5 hx)) (λz hz=>T.du z (u0b (u0i hz))) (by omega) (by omega) (by rw[eseg];exact T.su.sublist (u1H _ _)) λp hp g1 g2=>?_)
  rw[eseg]at g1 g2
  dsimp only
  have hx2:=zbC T.sv h0 hx
  have m2:=m'.runB T hp λz hz a ha=>LE.trans (hx2 a ha) (g2 z hz)
  have h3:∀ z∈u.toList.take p,LE κ z x:=λz hz=>u0p (g1 z (by rw[u1R,u0T hp];exact hz))
  by_cases e0:j - 1 - p > 0
  .rw[j4 e0]
   by_cases e1:p=1
   .rw[j4 (g9.mpr e1)]
    exact d6 ⟨rfl,.inl ⟨_,rfl,zc1 T m2 e1 bot⟩⟩
   .rw[j6 (λz=>e1 (g9.mp z))]
    by_cases e2:p=0
    .rw[j4 (g9.mpr e2)]
     exact d6 ⟨rfl,.inl ⟨_,rfl,zbT T m2 (.inr e2)⟩⟩
    .rw[j6 (λz=>e2 (g9.mp z))]
     exact zeN T m2 h0 (by omega) hx h3 (by omega)
  .rw[j6 e0]
   obtain rfl:p=j - 1:=by omega
   exact zeN T m' h0 (by omega) hx h3 (by omega)
theorem zgm (L:LtE prog w A E s κ k D)(hk:kindOf st=k)(T:Two κ D v u)(bot:∀ x∈v.toList,∀ y,u.toList[0]?=some y->LE κ y x)(m:MH κ v u o i j)(h0:0 < i)(h1:1 < j)(hn:i+j<=n):wpS (model prog w) A E s (hiA v u o i j g c d) (λr t=>Sm st t/\Gj2 κ v u n r) st:=by
 unfold hiA
 refine r8 (Xt λt ht=>?_)
 have li:=m.li
 have lj:=m.lj
 obtain⟨y,hy⟩:=VG (v:=u) (i:=j - 1) (by omega)
 refine r8 (zJ hy ?_)
 have hvl:v.toList.length=v.size:=j8
 have eseg:(v.toList.drop 0).take i=v.toList.take i:=by rw[u17]
 refine r8 (zap L (ht.kd.trans hk) (T.du y (j5 hy)) (λz hz=>T.dv z (u0b (u0i hz))) (by omega) (by omega) (by rw[eseg];exact T.sv.sublist (u1H _ _)) λp hp g1 g2=>?_)
 rw[eseg]at g1 g2
 dsimp only
 have hy2:=zbC T.su (i:=j) (by omega) hy
 have m2:=m.runA T hp λz hz a ha=>LE.trans (hy2 a ha) (u0p (g2 z hz))
 have h3:∀ z∈v.toList.take p,LE κ z y:=λz hz=>g1 z (by rw[u1R,u0T hp];exact hz)
 by_cases e0:i - p > 0
 .rw[j4 e0]
  by_cases e1:p=0
  .rw[j4 (g9.mpr e1)]
   exact d6 ⟨ht,.inl ⟨_,rfl,zbT T m2 (.inl e1)⟩⟩
  .rw[j6 (λz=>e1 (g9.mp z))]
   exact u0Q (zgh L (ht.kd.trans hk) T bot m2 (by omega) h1 hy h3 (by omega)) λr t' h=>⟨h.1 ▸ ht,h.2⟩
 .rw[j6 e0]
  obtain rfl:p=i:=by omega
  exact u0Q (zgh L (ht.kd.trans hk) T bot m h0 h1 hy h3 hn) λr t' h=>⟨h.1 ▸ ht,h.2⟩
def Oj1 (κ:KeyKind)(v u:KA)(n:Nat)(c:Y1):Prop:=(∃ r,c.1=some r/\Fn κ v u r)\/(c.1=none/\(0 < c.2.1/\1 < c.2.2.1)/\MH κ v u c.2.2.2.1 c.2.1 c.2.2.1/\c.2.1+c.2.2.1<=n)
def Gj1 (κ:KeyKind)(v u:KA)(n:Nat):ForInStep Y1->Prop
 | .done c=>Oj1 κ v u n c
 | .yield c=>c.1=none/\(0 < c.2.1/\1 < c.2.2.1)/\MH κ v u c.2.2.2.1 c.2.1 c.2.2.1/\c.2.1+c.2.2.1<=n
theorem zic (L:LtE prog w A E s κ k D)(hk:kindOf st=k)(T:Two κ D v u)(bot:∀ x∈v.toList,∀ y,u.toList[0]?=some y->LE κ y x){z:Y1}(m:MH κ v u z.2.2.2.1 z.2.1 z.2.2.1)(h0:0 < z.2.1/\1 < z.2.2.1):wpS (model prog w) A E s (zmG v u g z) (λr t=>t=st/\Gj1 κ v u (z.2.1+z.2.2.1 - 1) r) st:=by
 obtain⟨r,i,j,o,c,d⟩:=z
 dsimp only at m h0 ⊢
 obtain⟨h0,h1⟩:=h0
 have li:=m.li
 have lj:=m.lj
 unfold zmG
 obtain⟨y,hy⟩:=VG (v:=u) (i:=j - 1) (by omega)
 obtain⟨x,hx⟩:=VG (v:=v) (i:=i - 1) (by omega)
 refine r8 (zJ hy (r8 (zJ hx (r8 (L _ _ _ _ hk (T.du y (j5 hy)) (T.dv x (j5 hx)) ?_)))))
 dsimp only
 have hx2:=zbC T.sv h0 hx
 have hy2:=zbC T.su (i:=j) (by omega) hy
 cases e:κ.blt (ky κ y) (ky κ x) with
 | true =>
  rw[j4 rfl]
  refine r8 (zJ hx ?_)
  have m':=m.pushA T h0 hx λa ha=>LE.trans (hy2 a ha) (u0p e)
  by_cases e1:i - 1=0
  .rw[j4 (g9.mpr e1)]
   exact d6 ⟨rfl,.inl ⟨_,rfl,zbT T m' (.inl e1)⟩⟩
  .rw[j6 (λz=>e1 (g9.mp z))]
   split
   .exact d6 ⟨rfl,.inr ⟨rfl,⟨by show 0 < i - 1;omega,h1⟩,m',by show i - 1+j<=i+j - 1;omega⟩⟩
   .exact d6 ⟨rfl,rfl,⟨by show 0 < i - 1;omega,h1⟩,m',by show i - 1+j<=i+j - 1;omega⟩
 | false =>
  rw[j6 u6]
  refine r8 (zJ hy ?_)
  have m':=m.pushB T (by omega) hy λa ha=>LE.trans (κ:=κ) (y:=x) (hx2 a ha) e
  by_cases e1:j - 1=1
  .rw[j4 (g9.mpr e1)]
   exact d6 ⟨rfl,.inl ⟨_,rfl,zc1 T m' e1 bot⟩⟩
  .rw[j6 (λz=>e1 (g9.mp z))]
   split
   .exact d6 ⟨rfl,.inr ⟨rfl,⟨h0,by show 1 < j - 1;omega⟩,m',by show i+(j - 1)<=i+j - 1;omega⟩⟩
   .exact d6 ⟨rfl,rfl,⟨h0,by show 1 < j - 1;omega⟩,m',by show i+(j - 1)<=i+j - 1;omega⟩
theorem zhN {z:Y2}(L:LtE prog w A E s κ k D)(hk:kindOf st=k)(T:Two κ D v u)(bot:∀ x∈v.toList,∀ y,u.toList[0]?=some y->LE κ y x)(m:MH κ v u z.2.2.2.1 z.2.1 z.2.2.1)(h0:0 < z.2.1/\1 < z.2.2.1)(hn:z.2.1+z.2.2.1<=n):wpS (model prog w) A E s (zmt v u z) (λr t=>Sm st t/\Gj2 κ v u n r) st:=by
 unfold zmt
 split
 .exact zgm L hk T bot m h0.1 h0.2 hn
 .exact zgm L hk T bot m h0.1 h0.2 hn
def Gj3 (κ:KeyKind)(v u:KA)(n:Nat):ForInStep Y3->Prop
 | .done c=>∃ r,c.1=some r/\Fn κ v u r
 | .yield c=>c.1=none/\(0 < c.2.1/\1 < c.2.2.1)/\MH κ v u c.2.2.2.1 c.2.1 c.2.2.1/\c.2.1+c.2.2.1<=n
theorem zie {z:Y3}(L:LtE prog w A E s κ k D)(hk:kindOf st=k)(T:Two κ D v u)(bot:∀ x∈v.toList,∀ y,u.toList[0]?=some y->LE κ y x)(m:MH κ v u z.2.2.2.1 z.2.1 z.2.2.1)(h0:0 < z.2.1/\1 < z.2.2.1):wpS (model prog w) A E s (zmH v u z) (λr t=>Sm st t/\Gj3 κ v u (z.2.1+z.2.2.1 - 1) r) st:=by
 unfold zmH
 have li:=m.li
 have lj:=m.lj
 refine r8 (u0Q (u0I (I:=λx c t=>t=st/\c.1=none/\(0 < c.2.1/\1 < c.2.2.1)/\MH κ v u c.2.2.2.1 c.2.1 c.2.2.1/\(x=0\/c.2.1+c.2.2.1<=z.2.1+z.2.2.1 - 1)/\c.2.1+c.2.2.1<=z.2.1+z.2.2.1) (Q:=λc t=>t=st/\Oj1 κ v u (z.2.1+z.2.2.1 - 1) c)
  (λx c t _ _ hI=>?_) (λc t hI=>?_) ⟨rfl,rfl,h0,m,.inl rfl,q5 _⟩) λy t hI=>?_)
 .obtain⟨rfl,h1,h2,h3,h4,h5⟩:=hI
  refine u0Q (zic L hk T bot h3 h2) λr t' h=>?_
  obtain⟨rfl,hr⟩:=h
  cases r with
  | done c' =>
   rcases hr with hr | ⟨a1,a2,a3,a4⟩
   .exact⟨rfl,.inl hr⟩
   .exact⟨rfl,.inr ⟨a1,a2,a3,by omega⟩⟩
  | yield c' =>
   obtain⟨a1,a2,a3,a4⟩:=hr
   exact⟨rfl,a1,a2,a3,.inr (by omega),by omega⟩
 .obtain⟨rfl,h1,h2,h3,h4,h5⟩:=hI
  refine⟨rfl,.inr ⟨h1,h2,h3,?_⟩⟩
  rcases h4 with h4 | h4
  .exfalso
   have:max 0 (v.size+u.size)=v.size+u.size:=by omega
   omega
  .exact h4
 .obtain⟨rfl,hy⟩:=hI
  rcases hy with ⟨r,e,hr⟩ | ⟨e,p1,m1,h1⟩
  .rw[e]
   exact d6 ⟨Sm.refl _,r,rfl,hr⟩
  .rw[e]
   dsimp only
   refine r8 (u3B (u1t ⟨rfl,?_⟩))
   refine r8 (u0Q (u0I (I:=λx c t'=>Sm t t'/\c.1=none/\(0 < c.2.1/\1 < c.2.2.1)/\MH κ v u c.2.2.2.1 c.2.1 c.2.2.1/\c.2.1+c.2.2.1<=z.2.1+z.2.2.1 - 1) (Q:=λc t'=>Sm t t'/\Oj2 κ v u (z.2.1+z.2.2.1 - 1) c)
    (λx c t' _ _ hI=>?_) (λc t' hI=>?_) ⟨Sm.refl _,rfl,p1,m1,h1⟩) λx t' hI=>?_)
   .obtain⟨hs,b1,b2,b3,b4⟩:=hI
    refine u0Q (zhN L (hs.kd.trans hk) T bot b3 b2 b4) λr t2 h=>?_
    obtain⟨hs2,hr⟩:=h
    cases r with
    | done c'=>exact⟨hs.trans hs2,hr⟩
    | yield c'=>exact⟨hs.trans hs2,hr⟩
   .obtain⟨hs,b1,b2,b3,b4⟩:=hI
    exact⟨hs,.inr ⟨b1,b2,b3,b4⟩⟩
   .obtain⟨hs,hx⟩:=hI
    rcases hx with ⟨r,e,hr⟩ | ⟨e,p2,m2,h2⟩
    .rw[e]
     exact d6 ⟨hs,r,rfl,hr⟩
    .rw[e]
     exact r8 (Xt λt2 hs2=>d6 ⟨hs.trans hs2,rfl,p2,m2,h2⟩)
theorem zjg {P:KA->SortSt->Prop}(L:LtE prog w A E s κ k D)(hk:kindOf st=k)(T:Two κ D v u)(hv:0 < v.size)(hu:0 < u.size)(top:∀ y∈u.toList,∀ x,v.toList[v.size - 1]?=some x->LE κ y x)(bot:∀ x∈v.toList,∀ y,u.toList[0]?=some y->LE κ y x)
 (h:∀ r t,Sm st t->Fn κ v u r->P r t):wpS (model prog w) A E s (mhi v u) P st:=by
 rw[zl0]
 refine r8 (u3B (u1t ⟨rfl,?_⟩))
 obtain⟨x,hx⟩:=VG (v:=v) (i:=v.size - 1) (by omega)
 refine r8 (zJ hx ?_)
 have m0:MH κ v u #[] v.size u.size:=⟨q5 _,q5 _,by
  rw[u3m,u3m]
  exact⟨u0D _,u0D _,u1Q _,List.Pairwise.nil,(λz hz=>by cases hz),(λz hz=>by cases hz)⟩⟩
 have m1:MH κ v u #[x] (v.size - 1) u.size:=m0.pushA T hv hx λy hy=>top y (u0i hy) x hx
 by_cases e1:v.size - 1=0
 .rw[j4 (g9.mpr e1)]
  exact d6 (h _ _ (Sm.refl _) (zbT T m1 (.inl e1)))
 rw[j6 (λz=>e1 (g9.mp z))]
 by_cases e2:u.size=1
 .rw[j4 (g9.mpr e2)]
  exact d6 (h _ _ (Sm.refl _) (zc1 T m1 e2 bot))
 rw[j6 (λz=>e2 (g9.mp z))]
 refine r8 (u3q ?_)
 refine r8 (u0Q (u0I (I:=λx c t=>Sm st t/\c.1=none/\(0 < c.2.1/\1 < c.2.2.1)/\MH κ v u c.2.2.2.1 c.2.1 c.2.2.1/\x+(c.2.1+c.2.2.1)<=v.size+u.size) (Q:=λc t=>Sm st t/\∃ r,c.1=some r/\Fn κ v u r)
  (λx c t _ _ hI=>?_) (λc t hI=>?_) ⟨Sm.refl _,rfl,⟨by show 0 < v.size - 1;omega,by show 1 < u.size;omega⟩,m1,by show 0+(v.size - 1+u.size)<=v.size+u.size;omega⟩) λy t hI=>?_)
 .obtain⟨hs,b1,b2,b3,b4⟩:=hI
  refine u0Q (zie L (hs.kd.trans hk) T bot b3 b2) λr t2 h=>?_
  obtain⟨hs2,hr⟩:=h
  cases r with
  | done c'=>exact⟨hs.trans hs2,hr⟩
  | yield c'=>exact⟨hs.trans hs2,hr.1,hr.2.1,hr.2.2.1,by have:=hr.2.2.2;omega⟩
 .obtain⟨hs,b1,b2,b3,b4⟩:=hI
  exfalso
  have:max 0 (v.size+u.size)=v.size+u.size:=by omega
  omega
 .obtain⟨hs,r,e,hr⟩:=hI
  rw[e]
  exact d6 (h r t hs hr)
end
abbrev Pd:=Array (Nat × Nat × Nat)
theorem zk3 (i:Nat):mergeAt' i=(do
 let z<-get
 let (some (a,m,p),some (b,n,_)):=((pendingOf z)[i]?,(pendingOf z)[i+1]?) | (unsupported ("internal:list.sort.pending"))
 set (setPending z (((pendingOf z).setIfInBounds i (a,m+n,p)).eraseIdxIfInBounds (i+1)))
 let some k<-gal false (<- elem' (arrOf z) b) (arrOf z) a m 0 | return false
 let (a,m):=(a+k,m - k)
 if m == 0 then return true
 let some n<-gal true (<- elem' (arrOf z) (a+m - 1)) (arrOf z) b n (n - 1) | return false
 if n == 0 then return true
 let x:=(arrOf z).extract a b
 let y:=(arrOf z).extract b (b+n)
 let r<-if m<=n then mlo x y else mhi x y
 modify λs=>setArr s (r.toList.zipIdx.foldl (λx (y,j)=>x.setIfInBounds (a+j) y) (arrOf s))
 return (failedOf (<- get)).isNone):=rfl
theorem zhB:∀ (m:List Keyed) (x:KA) (b n:Nat),b+n+m.length<=x.size->((m.zipIdx n).foldl (λx z=>x.setIfInBounds (b+z.2) z.1) x).toList=x.toList.take (b+n)++m++x.toList.drop (b+n+m.length):=by
 intro m
 induction m with
 | nil=>intro x b n h;simp
 | cons y m ih =>
  intro x b n h
  rw[p9]at h
  rw[u2c,u3M]
  rw[ih (x.setIfInBounds (b+n) y) b (n+1) (by rw[Array.size_setIfInBounds];omega)]
  rw[u3e,p9,show b+(n+1)=b+n+1 by omega,show b+n+1+m.length=b+n+(m.length+1) by omega]
  have hl:b+n < x.toList.length:=by rw[j8];omega
  rw[List.drop_set_of_lt (by omega),List.take_set]
  have e1:(x.toList.take (b+n+1)).set (b+n) y=x.toList.take (b+n)++[y]:=by
   rw[u2D,u7 hl]
   have:(x.toList.take (b+n)).length=b+n:=by rw[o9];omega
   rw[List.set_append_right _ _ (by omega),this,u3m]
   rfl
  rw[e1,p5,p5,p5]
  rfl
theorem XB {l:List Keyed}{a m k:Nat}(h:k<=m):l.take (a+k)=l.take a++((l.drop a).take m).take k:=by
 rw[List.take_add,u1R,u0T h]
theorem zht {l:List Keyed}{b n q:Nat}(h:q<=n)(hl:b+n<=l.length):l.drop (b+q)=((l.drop b).take n).drop q++l.drop (b+n):=by
 have e:(l.drop b).take n++(l.drop b).drop n=l.drop b:=u0c n (l.drop b)
 rw[<-u1c,<- u1c]
 have e2:(l.drop b).drop q=((l.drop b).take n++(l.drop b).drop n).drop q:=by rw[e]
 rw[e2,u1j (by rw[o9,u0a];omega)]
theorem zjj {prog:Program}{w:World}{A:Around}{E:Value->Shared->Prop}{s:Shared}{st z:SortSt}{Q:PUnit->SortSt->Prop}(h:Q ⟨⟩ z):wpS (model prog w) A E s (set z:SM PUnit) Q st:=u24 (f:=λ_=>z) h
section
variable {prog:Program}{w:World}{A:Around}{E:Value->Shared->Prop}{s:Shared}{st:SortSt}{κ:KeyKind}{k:SortKind}{D:Keyed->Prop}
theorem zk9 {l r:List Keyed}{q:Keyed}(sl:l.Pairwise (LE κ))(sr:r.Pairwise (LE κ))(h1:∀ x∈l,LE κ x q)(h2:∀ y∈r,LE κ q y):(l++r).Pairwise (LE κ):=by
 rw[u0C]
 exact⟨sl,sr,λx hx y hy=>LE.trans (h1 x hx) (h2 y hy)⟩
theorem zj0 {P:Bool->SortSt->Prop}{i a m p b n x:Nat}{l S1 S2:List Keyed}(L:LtE prog w A E s κ k D)(hk:kindOf st=k)(hf:failedOf st=none)(h1:(pendingOf st)[i]?=some (a,m,p))(h2:(pendingOf st)[i+1]?=some (b,n,x))
 (el:(arrOf st).toList=l) (hd:∀ x∈l,D x) (hb:a+m=b) (hn:b+n<=l.length) (m0:0 < m) (n0:0 < n) (e1:(l.drop a).take m=S1) (e2:(l.drop b).take n=S2) (s1:S1.Pairwise (LE κ)) (s2:S2.Pairwise (LE κ))
 (h:∀ t M,kindOf t=k->failedOf t=none->pendingOf t=((pendingOf st).setIfInBounds i (a,m+n,p)).eraseIdxIfInBounds (i+1)->(arrOf t).toList=l.take a++M++l.drop (b+n)->M.Perm (S1++S2)->M.Pairwise (LE κ)->P true t):wpS (model prog w) A E s (mergeAt' i) P st:=by
 have hsz:(arrOf st).size=l.length:=by rw[<-el,j8]
 have l1:S1.length=m:=by rw[<-e1,o9,u0a];omega
 have l2:S2.length=n:=by rw[<-e2,o9,u0a];omega
 have whole:l=l.take a++(S1++S2)++l.drop (b+n):=by
  have q1:=XB (l:=l) (a:=a) (q5 m)
  rw[e1,show S1.take m=S1 from i9 (by omega),hb]at q1
  have q2:=XB (l:=l) (a:=b) (q5 n)
  rw[e2,show S2.take n=S2 from i9 (by omega),q1]at q2
  have q3:=u0c (b+n) l
  rw[q2]at q3
  rw[<-p5]
  exact q3.symm
 have get1:∀ {i x},S1[i]?=some x->l[a+i]?=some x:=λ{i x} e=>by
  have hi:i < m:=by have:=(u8.mp e).1;omega
  rw[<-e1,u0h hi,u1A]at e
  exact e
 have get2:∀ {i x},S2[i]?=some x->l[b+i]?=some x:=λ{i x} e=>by
  have hi:i < n:=by have:=(u8.mp e).1;omega
  rw[<-e2,u0h hi,u1A]at e
  exact e
 have d1:∀ x∈S1,D x:=λx hx=>hd x (by rw[<-e1]at hx;exact u0b (u0i hx))
 have d2:∀ x∈S2,D x:=λx hx=>hd x (by rw[<-e2]at hx;exact u0b (u0i hx))
 rw[zk3]
 refine r8 (u3q ?_)
 dsimp only
 rw[h1,h2]
 dsimp only
 refine r8 (zjj ?_)
 obtain⟨y0,hy0⟩:∃ y,S2[0]?=some y:=⟨_,u7 (by omega)⟩
 refine r8 (zJ (by rw[el];exact get2 hy0) ?_)
 have hy2:∀ y∈S2,LE κ y0 y:=λy hy=>WJ (LE.refl (κ:=κ)) s2 hy0 y (by rw[u17];exact hy)
 have hkz:kindOf (setPending st (((pendingOf st).setIfInBounds i (a,m+n,p)).eraseIdxIfInBounds (i+1)))=k:=hk
 refine r8 (zap L hkz (d2 y0 (j5 hy0)) (λz hz=>d1 z (by rw[el,e1]at hz;exact hz)) (by rw[el];omega) (by omega) (by rw[el,e1];exact s1) λc hc g1 g2=>?_)
 rw[el,e1]at g1 g2
 dsimp only
 by_cases c0:m - c=0
 .rw[j4 (g9.mpr c0)]
  refine d6 (h _ (S1++S2) hk hf rfl (by show(arrOf st).toList=_;rw[el];exact whole) (u1Q _) (zk9 s1 s2 (λx hx=>g1 x ?_) hy2))
  rw[i9 (by omega)]
  exact hx
 rw[j6 (λz=>c0 (g9.mp z))]
 obtain⟨x0,hx0⟩:∃ x,S1[m - 1]?=some x:=⟨_,u7 (by omega)⟩
 refine r8 (zJ (x:=x0) (by rw[el,show a+c+(m - c) - 1=a+(m - 1) by omega];exact get1 hx0) ?_)
 have hx2:∀ x∈S1,LE κ x x0:=λx hx=>zbC s1 (i:=m) (by omega) hx0 x (by rw[i9 (by omega)];exact hx)
 refine r8 (zar L hkz (d1 x0 (j5 hx0)) (λz hz=>d2 z (by rw[el,e2]at hz;exact hz)) (by rw[el];omega) (by omega) (by rw[el,e2];exact s2) λq hq g3 g4=>?_)
 rw[el,e2]at g3 g4
 dsimp only
 by_cases q0:q=0
 .rw[j4 (g9.mpr q0)]
  subst q0
  exact d6 (h _ (S1++S2) hk hf rfl (by show(arrOf st).toList=_;rw[el];exact whole) (u1Q _) (zk9 s1 s2 hx2 g4))
 rw[j6 (λz=>q0 (g9.mp z))]
 have ev:((arrOf st).extract (a+c) b).toList=S1.drop c:=by
  rw[wB,el,<- e1,u2J,u1c,show b - (a+c)=m - c by omega]
 have eu:((arrOf st).extract b (b+q)).toList=S2.take q:=by
  rw[wB,el,<- e2,u1R,u1o,u0T hq]
 have T:Two κ D ((arrOf st).extract (a+c) b) ((arrOf st).extract b (b+q)):=by
  refine⟨?_,?_,?_,?_⟩
  .rw[ev];exact λx hx=>d1 x (u0b hx)
  .rw[eu];exact λx hx=>d2 x (u0i hx)
  .rw[ev];exact s1.sublist (u0Y _ _)
  .rw[eu];exact s2.sublist (u1H _ _)
 have zv:((arrOf st).extract (a+c) b).size=m - c:=by rw[<-j8,ev,u0a];omega
 have zu:((arrOf st).extract b (b+q)).size=q:=by rw[<-j8,eu,o9];omega
 have top:∀ y∈((arrOf st).extract b (b+q)).toList,∀ x,((arrOf st).extract (a+c) b).toList[((arrOf st).extract (a+c) b).size - 1]?=some x->LE κ y x:=by
  intro y hy x hx
  rw[eu]at hy
  rw[zv,ev,u1A,show c+(m - c - 1)=m - 1 by omega,hx0]at hx
  cases hx
  exact u0p (g3 y hy)
 have bot:∀ x∈((arrOf st).extract (a+c) b).toList,∀ y,((arrOf st).extract b (b+q)).toList[0]?=some y->LE κ y x:=by
  intro x hx y hy
  rw[ev]at hx
  rw[eu,u0h (by omega),hy0]at hy
  cases hy
  exact u0p (g2 x hx)
 have fin:∀ r t,Sm (setPending st (((pendingOf st).setIfInBounds i (a,m+n,p)).eraseIdxIfInBounds (i+1))) t->Fn κ ((arrOf st).extract (a+c) b) ((arrOf st).extract b (b+q)) r->wpS (model prog w) A E s (do
  modify λs=>setArr s (r.toList.zipIdx.foldl (λx z=>x.setIfInBounds (a+c+z.2) z.1) (arrOf s))
  let z<-get
  pure (failedOf z).isNone:SM Bool) P t:=λr t hs hr=>by
  refine r8 (u24 (r8 (u3q ?_)))
  have hf':failedOf t=none:=hs.fl.trans hf
  show wpS _ _ _ _ (pure (failedOf t).isNone) _ _
  rw[hf']
  have ha:arrOf t=arrOf st:=hs.ar
  obtain⟨rp,rs⟩:=hr
  rw[ev,eu]at rp
  have rl:r.toList.length=m - c+q:=by rw[rp.length_eq,j9,u0a,o9];omega
  refine d6 (h _ (S1.take c++r.toList++S2.drop q) (hs.kd.trans hk) hf' hs.pd ?_ ?_ ?_)
  .show((r.toList.zipIdx.foldl (λx z=>x.setIfInBounds (a+c+z.2) z.1) (arrOf t))).toList=_
   rw[ha,zhB r.toList (arrOf st) (a+c) 0 (by rw[rl,hsz];omega),el,Nat.add_zero,rl,show a+c+(m - c+q)=b+q by omega,XB (l:=l) (a:=a) hc,e1,zht hq hn,e2]
   simp only[p5]
  .refine((rp.append_left (S1.take c)).append_right (S2.drop q)).trans ?_
   rw[<-p5,u0c,p5,u0c]
  .rw[p5]
   have s3:(r.toList++S2.drop q).Pairwise (LE κ):=by
    rw[u0C]
    refine⟨rs,s2.sublist (u0Y _ _),λx hx y hy=>?_⟩
    rcases u0G.mp (rp.mem_iff.mp hx)with hx | hx
    .exact LE.trans (hx2 x (u0b hx)) (g4 y hy)
    .have:=u0c q S2
     rw[<-this,u0C]at s2
     exact s2.2.2 x hx y hy
   rw[u0C]
   refine⟨s1.sublist (u1H _ _),s3,λx hx y hy=>?_⟩
   rcases u0G.mp hy with hy | hy
   .rcases u0G.mp (rp.mem_iff.mp hy)with hy | hy
    .have:=u0c c S1
     rw[<-this,u0C]at s1
     exact s1.2.2 x hx y hy
    .exact LE.trans (g1 x hx) (hy2 y (u0i hy))
   .exact LE.trans (g1 x hx) (hy2 y (u0b hy))
 by_cases cc:m - c<=q
 .rw[j4 cc]
  exact r8 (zjt L hkz T (by omega) (by omega) top bot fin)
 .rw[j6 cc]
  exact r8 (zjg L hkz T (by omega) (by omega) top bot fin)
end
def zkC (lo a n:Nat):SM AscSt :=
 forIn [a:n] ((none,a):AscSt) λ_ c=>do
  let some z<-ltAt' (lo+c.2) (lo+c.2 - 1) | pure (.done (some none,c.2))
  if z=true then pure (.done (none,c.2))else pure (.yield (none,c.2+1))
def zeF (lo n m:Nat):SM (Option Nat):=do
 reverseSlice' lo (lo+n)
 let c<-zkC lo n m
 match c.1 with
 | some r=>pure r
 | none=>pure (some c.2)
def zhb (lo n m:Nat):SM DescSt :=
 forIn [n:m] ((none,n,0):DescSt) λ_ c=>do
  let some z<-ltAt' (lo+c.2.1) (lo+c.2.1 - 1) | pure (.done (some none,c.2.1,c.2.2))
  if z=true then
   if c.2.2 > 0 then do
    reverseSlice' (lo+c.2.1 - (c.2.2+1)) (lo+c.2.1)
    pure (.yield (none,c.2.1+1,0))
   else pure (.yield (none,c.2.1+1,0))
  else do
   let some y<-ltAt' (lo+c.2.1 - 1) (lo+c.2.1) | pure (.done (some none,c.2.1,c.2.2))
   if y=true then pure (.done (none,c.2.1,c.2.2))else pure (.yield (none,c.2.1+1,c.2.2+1))
def zeZ (lo n m:Nat):SM (Option Nat):=do
 (rule ("list.sort.descending-run"))
 let c<-zhb lo (n+1) m
 match c.1 with
 | some r=>pure r
 | none =>
  if c.2.2 > 0 then do
   reverseSlice' (lo+c.2.1 - (c.2.2+1)) (lo+c.2.1)
   zeF lo c.2.1 m
  else zeF lo c.2.1 m
theorem zfL (lo m:Nat):countRun' lo m=(do
 let c<-zkC lo 1 m
 match c.1 with
 | some r=>pure r
 | none =>
  if (c.2 == m)=true then pure (some c.2)
  else if c.2 > 1 then do
   let some z<-ltAt' lo (lo+c.2 - 1) | pure none
   if z=true then pure (some c.2)else do
    reverseSlice' lo (lo+c.2)
    zeZ lo c.2 m
  else zeZ lo c.2 m):=by
 rw[countRun'_eq]
 unfold zeZ zeF zhb zkC
 dsimp only
 congr 1
 funext c
 obtain⟨r,n⟩:=c
 cases r with
 | some r=>rfl
 | none =>
  dsimp only
  split
  .rfl
  .split
   .congr 1
    funext x
    cases x with
    | none=>rfl
    | some z =>
     dsimp only
     split
     .rfl
     .congr 1;funext _;congr 1;funext _;congr 1;funext d
      obtain⟨r2,n2,q2⟩:=d
      cases r2 with
      | some r2=>rfl
      | none =>
       dsimp only
       split
       .congr 1;funext _;congr 1;funext _;congr 1;funext e
        obtain⟨r3,n3⟩:=e
        cases r3 <;> rfl
       .congr 1;funext _;congr 1;funext e
        obtain⟨r3,n3⟩:=e
        cases r3 <;> rfl
   .congr 1;funext _;congr 1;funext d
    obtain⟨r2,n2,q2⟩:=d
    cases r2 with
    | some r2=>rfl
    | none =>
     dsimp only
     split
     .congr 1;funext _;congr 1;funext _;congr 1;funext e
      obtain⟨r3,n3⟩:=e
      cases r3 <;> rfl
     .congr 1;funext _;congr 1;funext e
      obtain⟨r3,n3⟩:=e
      cases r3 <;> rfl
structure SL (k:SortKind) (a₀ X:KA) (lo:Nat) (p:Pd) (st:SortSt):Prop where
 pm:(arrOf st).Perm a₀
 kd:kindOf st=k
 fl:failedOf st=none
 pd:pendingOf st=p
 bl:∀ i,i < lo->(arrOf st)[i]?=X[i]?
def SO (κ:KeyKind)(xs:KA)(lo n:Nat):Prop:=∀ i j,i<=j->j < n->κ.kle (KK κ xs (lo+i)) (KK κ xs (lo+j))
def NO (κ:KeyKind)(xs:KA)(lo n:Nat):Prop:=∀ i j,i<=j->j < n->κ.kle (KK κ xs (lo+j)) (KK κ xs (lo+i))
section
variable {prog:Program}{w:World}{A:Around}{E:Value->Shared->Prop}{s:Shared}{st:SortSt}{κ:KeyKind}{k:SortKind}{a₀ X:KA}{lo:Nat}{p:Pd}
theorem SL.sz (S:SL k a₀ X lo p st):(arrOf st).size=a₀.size:=S.pm.size_eq
theorem SL.put (S:SL k a₀ X lo p st){ys:KA}(h:ys.Perm (arrOf st))(b:∀ i,i < lo->ys[i]?=(arrOf st)[i]?):SL k a₀ X lo p (setArr st ys):=⟨h.trans S.pm,S.kd,S.fl,S.pd,λi hi=>(b i hi).trans (S.bl i hi)⟩
theorem SL.mirror (S:SL k a₀ X lo p st){i j:Nat}(hi:lo<=i)(hj:j<=a₀.size):SL k a₀ X lo p (setArr st (mirror (arrOf st) i j ((j - i) / 2))) :=
 S.put (mirror_perm _ _ _ _) λq hq=>by rw[getElem?_mirror_all (by rw[S.sz];exact hj),j6 (by omega)]
theorem ze3 {xs:KA}{i:Nat}{x:Keyed}(h:xs[i]?=some x):KK κ xs i=ky κ x:=by
 unfold KK
 rw[h]
 rfl
theorem Xm {i j:Nat}{Q:Option Bool->SortSt->Prop}(L:LtE prog w A E s κ k (·∈a₀.toList))(S:SL k a₀ X lo p st)(hi:i < a₀.size)(hj:j < a₀.size)(q:Q (some (κ.blt (KK κ (arrOf st) i) (KK κ (arrOf st) j))) st):wpS (model prog w) A E s (ltAt' i j) Q st:=by
 have look:∀ {i},i < a₀.size->∃ x,(arrOf st)[i]?=some x/\x∈a₀.toList:=λ{i} hi=>by
  have hi':i < (arrOf st).size:=by rw[S.sz];exact hi
  exact⟨(arrOf st)[i],u3n _ i hi',(u0N.mp S.pm).mem_iff.mp (by simp)⟩
 obtain⟨x,e1,m1⟩:=look hi
 obtain⟨y,e2,m2⟩:=look hj
 rw[ze3 e1,ze3 e2]at q
 rw[ltAt'_eq]
 refine r8 (u3q ?_)
 show wpS _ _ _ _ (elem' (arrOf st) i>>=λx=>elem' (arrOf st) j>>=λy=>lt' x y) Q st
 rw[elem'_eq,elem'_eq,e1,e2]
 exact r8 (d6 (r8 (d6 (L _ _ _ _ S.kd m1 m2 q))))
theorem SO.up {xs:KA}{x:Nat}(h:SO κ xs lo x)(hx:1<=x)(e:κ.kle (KK κ xs (lo+x - 1)) (KK κ xs (lo+x))):SO κ xs lo (x+1):=λi j hij hj=>by
 by_cases c:j < x
 .exact h i j hij c
 .obtain rfl:j=x:=by omega
  by_cases d:i=j
  .rw[d];exact u1u _
  .have:=h i (j - 1) (by omega) (by omega)
   rw[show lo+(j - 1)=lo+j - 1 by omega]at this
   exact u19 this e
theorem NO.down {xs:KA}{x:Nat}(h:NO κ xs lo x)(hx:1<=x)(e:κ.kle (KK κ xs (lo+x)) (KK κ xs (lo+x - 1))):NO κ xs lo (x+1):=λi j hij hj=>by
 by_cases c:j < x
 .exact h i j hij c
 .obtain rfl:j=x:=by omega
  by_cases d:i=j
  .rw[d];exact u1u _
  .have:=h i (j - 1) (by omega) (by omega)
   rw[show lo+(j - 1)=lo+j - 1 by omega]at this
   exact u19 e this
theorem SO.one {xs:KA}:SO κ xs lo 1:=λi j hij hj=>by
 obtain rfl:i=j:=by omega
 exact u1u _
theorem NO.one {xs:KA}:NO κ xs lo 1:=λi j hij hj=>by
 obtain rfl:i=j:=by omega
 exact u1u _
theorem NO.of {xs ys:KA}{n:Nat}(h:NO κ xs lo n)(e:∀ i,KK κ ys i=KK κ xs i):NO κ ys lo n:=λi j hij hj=>by rw[e,e];exact h i j hij hj
theorem NO.turn {xs:KA}{n:Nat}(h:NO κ xs lo n)(hn:lo+n<=xs.size):SO κ (mirror xs lo (lo+n) ((lo+n - lo) / 2)) lo n:=λi j hij hj=>by
 rw[KK_mirror hn,KK_mirror hn,j4 ⟨by omega,by omega⟩,j4 ⟨by omega,by omega⟩]
 have:=h (n - 1 - j) (n - 1 - i) (by omega) (by omega)
 rw[show lo+(n - 1 - i)=lo+(lo+n) - 1 - (lo+i) by omega,show lo+(n - 1 - j)=lo+(lo+n) - 1 - (lo+j) by omega]at this
 exact this
theorem zdC {a n:Nat}{Q:AscSt->SortSt->Prop}(L:LtE prog w A E s κ k (·∈a₀.toList))(hn:lo+n<=a₀.size)(ha:1<=a)(han:a<=n)(S:SL k a₀ X lo p st)(hs:SO κ (arrOf st) lo a)
 (h:∀ m,a<=m->m<=n->SO κ (arrOf st) lo m->(m=n\/κ.klt (KK κ (arrOf st) (lo+m)) (KK κ (arrOf st) (lo+m - 1)))->Q (none,m) st):wpS (model prog w) A E s (zkC lo a n) Q st:=by
 unfold zkC
 refine u0I (I:=λx c t=>(t=st/\c=(none,x))/\SO κ (arrOf st) lo x) (λx c t h1 h2 hI=>?_) (λc t hI=>?_) ⟨⟨rfl,rfl⟩,hs⟩
 .obtain⟨⟨rfl,rfl⟩,hx⟩:=hI
  refine r8 (Xm L S (by omega) (by omega) ?_)
  dsimp only
  cases c:κ.blt (KK κ (arrOf t) (lo+x)) (KK κ (arrOf t) (lo+x - 1)) with
  | true=>exact d6 (h x h1 (by omega) hx (.inr c))
  | false=>exact d6 ⟨⟨rfl,rfl⟩,hx.up (by omega) c⟩
 .obtain⟨⟨rfl,rfl⟩,hx⟩:=hI
  have e:max a n=n:=by omega
  rw[e]at hx ⊢
  exact h n han (q5 _) hx (.inl rfl)
theorem zcg {n m:Nat}{Q:Option Nat->SortSt->Prop}(L:LtE prog w A E s κ k (·∈a₀.toList))(hm:lo+m<=a₀.size)(h1:1<=n)(hnm:n<=m)(S:SL k a₀ X lo p st)(hs:NO κ (arrOf st) lo n)
 (h:∀ r t,SL k a₀ X lo p t->1<=r->r<=m->SO κ (arrOf t) lo r->Q (some r) t):wpS (model prog w) A E s (zeF lo n m) Q st:=by
 unfold zeF
 have S':=S.mirror (i:=lo) (j:=lo+n) (q5 _) (by omega)
 exact r8 (wpS_reverse (r8 (zdC L hm h1 hnm S' (hs.turn (by rw[S.sz];omega)) λr g1 g2 g3 _=>d6 (h r _ S' (by omega) g2 g3))))
theorem zeI {n m:Nat}{Q:DescSt->SortSt->Prop}(L:LtE prog w A E s κ k (·∈a₀.toList))(hm:lo+m<=a₀.size)(h1:1<=n)(hnm:n<=m)(S:SL k a₀ X lo p st)(hs:NO κ (arrOf st) lo n)
 (h:∀ r q t,SL k a₀ X lo p t->n<=r->r<=m->NO κ (arrOf t) lo r->q+1<=r->(∀ i,lo+r - (q+1)<=i->i < lo+r->KK κ (arrOf t) i=KK κ (arrOf t) (lo+r - 1))->Q (none,r,q) t):wpS (model prog w) A E s (zhb lo n m) Q st:=by
 unfold zhb
 refine u0I (I:=λx c t=>∃ q,c=(none,x,q)/\SL k a₀ X lo p t/\NO κ (arrOf t) lo x/\q+1<=x/\∀ i,lo+x - (q+1)<=i->i < lo+x->KK κ (arrOf t) i=KK κ (arrOf t) (lo+x - 1))
  (λx c t g1 g2 hI=>?_) (λc t hI=>?_) ⟨0,rfl,S,hs,h1,λi c1 c2=>by rw[show i=lo+n - 1 by omega]⟩
 .obtain⟨q,rfl,S1,ni,hq,he⟩:=hI
  dsimp only
  refine r8 (Xm L S1 (by omega) (by omega) ?_)
  dsimp only
  cases c:κ.blt (KK κ (arrOf t) (lo+x)) (KK κ (arrOf t) (lo+x - 1)) with
  | true =>
   have d:=ni.down (by omega) (u0p c)
   rw[j4 rfl]
   by_cases hq0:q > 0
   .rw[j4 hq0]
    exact r8 (wpS_reverse (d6 ⟨0,rfl,S1.mirror (by omega) (by omega),d.of (KK_mirror_equal (by rw[S1.sz];omega) he),by omega,λi c1 c2=>by rw[show i=lo+(x+1) - 1 by omega]⟩))
   .rw[j6 hq0]
    exact d6 ⟨0,rfl,S1,d,by omega,λi c1 c2=>by rw[show i=lo+(x+1) - 1 by omega]⟩
  | false =>
   rw[j6 u6]
   refine r8 (Xm L S1 (by omega) (by omega) ?_)
   dsimp only
   cases c2:κ.blt (KK κ (arrOf t) (lo+x - 1)) (KK κ (arrOf t) (lo+x)) with
   | true=>exact d6 (h x q t S1 g1 (by omega) ni hq he)
   | false =>
    have same:KK κ (arrOf t) (lo+x)=KK κ (arrOf t) (lo+x - 1):=KeyOrd.kle_antisymm c2 c
    refine d6 ⟨q+1,rfl,S1,ni.down (by omega) c2,by omega,λi d1 d2=>?_⟩
    show KK κ (arrOf t) i=KK κ (arrOf t) (lo+x)
    by_cases di:i=lo+x
    .rw[di]
    .rw[same];exact he i (by omega) (by omega)
 .obtain⟨q,rfl,S1,ni,hq,he⟩:=hI
  have e:max n m=m:=by omega
  rw[e]at ni hq he ⊢
  exact h m q t S1 hnm (q5 _) ni hq he
theorem zbA {n m:Nat}{Q:Option Nat->SortSt->Prop}(L:LtE prog w A E s κ k (·∈a₀.toList))(hm:lo+m<=a₀.size)(hnm:n+1<=m)(S:SL k a₀ X lo p st)(hs:NO κ (arrOf st) lo (n+1))
 (h:∀ r t,SL k a₀ X lo p t->1<=r->r<=m->SO κ (arrOf t) lo r->Q (some r) t):wpS (model prog w) A E s (zeZ lo n m) Q st:=by
 unfold zeZ
 refine r8 (u3B (u1t ⟨rfl,r8 (zeI L hm (by omega) hnm S hs λr q t S1 r1 r2 ni hq he=>?_)⟩))
 dsimp only
 by_cases hq0:q > 0
 .rw[j4 hq0]
  exact r8 (wpS_reverse (zcg (n:=r) L hm (by omega) r2 (S1.mirror (by omega) (by omega)) (ni.of (KK_mirror_equal (by rw[S1.sz];omega) he)) h))
 .rw[j6 hq0]
  exact zcg (n:=r) L hm (by omega) r2 S1 ni h
theorem zdR {m:Nat}{Q:Option Nat->SortSt->Prop}(L:LtE prog w A E s κ k (·∈a₀.toList))(hm:lo+m<=a₀.size)(h1:1<=m)(S:SL k a₀ X lo p st)
 (h:∀ r t,SL k a₀ X lo p t->1<=r->r<=m->SO κ (arrOf t) lo r->Q (some r) t):wpS (model prog w) A E s (countRun' lo m) Q st:=by
 rw[zfL]
 refine r8 (zdC L hm (q5 1) h1 S SO.one λn n1 n2 sn or=>?_)
 dsimp only
 by_cases e:n=m
 .rw[j4 (by rw[e];exact u1y m)]
  exact d6 (h n st S n1 n2 sn)
 .rw[j6 (λz=>e (eq_of_beq z))]
  have lt:=or.resolve_left e
  by_cases g:n > 1
  .rw[j4 g]
   refine r8 (Xm L S (by omega) (by omega) ?_)
   dsimp only
   cases c:κ.blt (KK κ (arrOf st) lo) (KK κ (arrOf st) (lo+n - 1)) with
   | true=>exact d6 (h n st S n1 n2 sn)
   | false =>
    have eq:∀ i,lo<=i->i < lo+n->KK κ (arrOf st) i=KK κ (arrOf st) (lo+n - 1):=λi hl hi=>by
     have z1:=sn (i - lo) (n - 1) (by omega) (by omega)
     have z2:=sn 0 (i - lo) (by omega) (by omega)
     rw[show lo+(i - lo)=i by omega,show lo+(n - 1)=lo+n - 1 by omega]at z1
     rw[show lo+(i - lo)=i by omega,Nat.add_zero]at z2
     exact KeyOrd.kle_antisymm z1 (u19 c z2)
    have ni:NO κ (arrOf st) lo n:=λi j _ hj=>by rw[eq (lo+i) (by omega) (by omega),eq (lo+j) (by omega) (by omega)];exact u1u _
    rw[j6 u6]
    exact r8 (wpS_reverse (zbA L hm (by omega) (S.mirror (q5 _) (by omega)) ((ni.down (by omega) (u0p lt)).of (KK_mirror_equal (by rw[S.sz];omega) eq)) h))
  .rw[j6 g]
   obtain rfl:n=1:=by omega
   exact zbA L hm (by omega) S (NO.one.down (q5 1) (u0p lt)) h
theorem SL.bubble (S:SL k a₀ X lo p st){x l:Nat}(hl:l<=x)(hx:lo+x < a₀.size):SL k a₀ X lo p (setArr st (bubble (arrOf st) (lo+x) (lo+x - (lo+l)))) :=
 S.put (bubble_perm _ _ _) λq hq=>by rw[getElem?_bubble (by rw[S.sz];exact hx) _ (by omega),j6 (by omega),j6 (by omega)]
theorem zjR {xs:KA}{x l:Nat}(hz:lo+x < xs.size)(hl:l<=x)(sx:SO κ xs lo x)(low:∀ i,i < l->κ.kle (KK κ xs (lo+i)) (KK κ xs (lo+x)))(up:∀ i,l<=i->i < x->κ.klt (KK κ xs (lo+x)) (KK κ xs (lo+i))):SO κ (bubble xs (lo+x) (lo+x - (lo+l))) lo (x+1):=by
 have key:∀ i,i < x+1->KK κ (bubble xs (lo+x) (lo+x - (lo+l))) (lo+i)=if i=l then KK κ xs (lo+x)else if l < i then KK κ xs (lo+(i - 1))else KK κ xs (lo+i):=λi hi=>by
  rw[KK_bubble hz (by omega)]
  by_cases c:i=l
  .rw[j4 (by omega),j4 c]
  .rw[j6 (by omega),j6 c]
   by_cases c2:l < i
   .rw[j4 ⟨by omega,by omega⟩,j4 c2,show lo+i - 1=lo+(i - 1) by omega]
   .rw[j6 (by omega),j6 c2]
 intro i j hij hj
 rw[key i (by omega),key j hj]
 by_cases i1:i=l
 .rw[j4 i1]
  by_cases j1:j=l
  .rw[j4 j1];exact u1u _
  .rw[j6 j1,j4 (by omega)]
   exact u0p (up (j - 1) (by omega) (by omega))
 .rw[j6 i1]
  by_cases i2:l < i
  .rw[j4 i2,j6 (by omega),j4 (by omega)]
   exact sx (i - 1) (j - 1) (by omega) (by omega)
  .rw[j6 i2]
   by_cases j1:j=l
   .rw[j4 j1];exact low i (by omega)
   .rw[j6 j1]
    by_cases j2:l < j
    .rw[j4 j2];exact sx i (j - 1) (by omega) (by omega)
    .rw[j6 j2];exact sx i j hij (by omega)
theorem zho {n r:Nat}{Q:Bool->SortSt->Prop}(L:LtE prog w A E s κ k (·∈a₀.toList))(hn:lo+n<=a₀.size)(hr:r<=n)(h1:1<=r)(S:SL k a₀ X lo p st)(hs:SO κ (arrOf st) lo r)
 (h:∀ t,SL k a₀ X lo p t->SO κ (arrOf t) lo n->Q true t):wpS (model prog w) A E s (binarySort' lo n r) Q st:=by
 rw[binarySort'_eq]
 rw[show max r 1=r by omega]
 refine r8 (u0Q (u0I (I:=λx c t=>c=(none,())/\SL k a₀ X lo p t/\SO κ (arrOf t) lo x) (Q:=λc t=>c=(none,())/\SL k a₀ X lo p t/\SO κ (arrOf t) lo n)
  (λx c t g1 g2 hI=>?_) (λc t hI=>?_) ⟨rfl,S,hs⟩) λc t hI=>?_)
 .obtain⟨rfl,S1,sx⟩:=hI
  refine r8 (u0Q (u0I
   (I:=λy c t'=>t'=t/\∃ l u,c=(none,l,u)/\(l<=u/\u<=x/\u - l<=x - y)/\(∀ i,i < l->κ.kle (KK κ (arrOf t) (lo+i)) (KK κ (arrOf t) (lo+x)))/\∀ i,u<=i->i < x->κ.klt (KK κ (arrOf t) (lo+x)) (KK κ (arrOf t) (lo+i)))
   (Q:=λc t'=>t'=t/\∃ l u,c=(none,l,u)/\l<=x/\(∀ i,i < l->κ.kle (KK κ (arrOf t) (lo+i)) (KK κ (arrOf t) (lo+x)))/\∀ i,l<=i->i < x->κ.klt (KK κ (arrOf t) (lo+x)) (KK κ (arrOf t) (lo+i)))
   (λy c t' y1 y2 hJ=>?_) (λc t' hJ=>?_) ⟨rfl,0,x,rfl,⟨u0D _,q5 _,q5 _⟩,λi hi=>absurd hi (Nat.not_lt_zero _),λi i1 i2=>absurd (u0F i1 i2) (u0W _)⟩) λc t' hJ=>?_)
  .obtain⟨rfl,l,u,rfl,⟨e1,e2,e3⟩,low,up⟩:=hJ
   dsimp only
   by_cases c1:l >= u
   .rw[j4 c1]
    obtain rfl:l=u:=by omega
    exact d6 ⟨rfl,l,l,rfl,e2,low,up⟩
   .rw[j6 c1]
    obtain⟨md,hmd⟩:∃ md,(l+u) / 2=md:=⟨_,rfl⟩
    rw[hmd]
    have m1:l<=md/\md < u:=by omega
    refine r8 (Xm L S1 (by omega) (by omega) ?_)
    dsimp only
    cases c2:κ.blt (KK κ (arrOf t') (lo+x)) (KK κ (arrOf t') (lo+md)) with
    | true=>exact d6 ⟨rfl,l,md,rfl,⟨m1.1,by omega,by omega⟩,low,λi i1 i2=>KeyOrd.klt_of_klt_of_kle c2 (sx md i i1 i2)⟩
    | false=>exact d6 ⟨rfl,md+1,u,rfl,⟨by omega,e2,by omega⟩,λi i1=>u19 (sx i md (by omega) (by omega)) c2,up⟩
  .obtain⟨rfl,l,u,rfl,⟨e1,e2,e3⟩,low,up⟩:=hJ
   obtain rfl:l=u:=by omega
   exact⟨rfl,l,l,rfl,e2,low,up⟩
  .obtain⟨rfl,l,u,rfl,e2,low,up⟩:=hJ
   dsimp only
   rw[moveDown'_eq]
   exact r8 (u24 (d6 ⟨rfl,S1.bubble e2 (by omega),zjR (by rw[S1.sz];omega) e2 sx low up⟩))
 .obtain⟨e1,S1,sx⟩:=hI
  rw[show max r n=n by omega]at sx
  exact⟨e1,S1,sx⟩
 .obtain⟨rfl,S1,sx⟩:=hI
  exact d6 (h t S1 sx)
end
abbrev U1:=Option Unit × Unit
abbrev U2:=Option Unit × Nat
def zmy (q:Nat)(_:U1):SM (ForInStep U1):=do
 let z<-get
 let some (_,_,o):=(if (pendingOf z).size > 1 then (pendingOf z)[(pendingOf z).size - 2]? else none) | pure (.done (none,()))
 if o<=q then pure (.done (none,()))else do
  let b<-mergeAt' ((pendingOf z).size - 2)
  if (!b)=true then pure (.done (some (),()))else pure (.yield (none,()))
def zbS (N lo n:Nat):SM (ForInStep U2):=do
 let z<-get
 let some (a,m,_):=(pendingOf z).back? | do
  modify λs=>setPending s ((pendingOf s).push (lo,n,0))
  pure (.yield (none,lo+n))
 let c<-forIn [0:N] ((none,()):U1) λ_ c=>zmy (power' N (2*a+m) (2*a+m+m+n) N) c
 match c.1 with
 | some r=>pure (.done (some r,lo))
 | none=>do
  modify λs=>setPending s ((pendingOf s).modify ((pendingOf s).size - 1) λx=>(x.1,x.2.1,power' N (2*a+m) (2*a+m+m+n) N))
  modify λs=>setPending s ((pendingOf s).push (lo,n,0))
  pure (.yield (none,lo+n))
def zmv (N M:Nat)(c:U2):SM (ForInStep U2) :=
 if c.2 >= N then pure (.done (none,c.2))else do
  let some f<-countRun' c.2 (N - c.2) | pure (.done (some (),c.2))
  if f < M then do
   (rule ("list.sort.binary-insertion"))
   let b<-binarySort' c.2 (min (N - c.2) M) f
   if (!b)=true then pure (.done (some (),c.2))else zbS N c.2 (min (N - c.2) M)
  else zbS N c.2 f
def znm (p:Pd):Nat:=if ((if p.size - 2 > 0 then p[p.size - 2 - 1]?.map (·.2.1)else none).any (· < (p[p.size - 2+1]?.elim 0 (·.2.1))))=true then p.size - 2 - 1 else p.size - 2
def znd (_:U1):SM (ForInStep U1):=do
 let z<-get
 if (pendingOf z).size<=1 then pure (.done (none,()))else do
  let b<-mergeAt' (znm (pendingOf z))
  if (!b)=true then pure (.done (some (),()))else pure (.yield (none,()))
theorem zjp:sortRuns'=(do
 let z<-get
 let c<-forIn [0:(arrOf z).size] ((none,0):U2) λ_ c=>zmv (arrOf z).size (minRun' (arrOf z).size (arrOf z).size 0) c
 match c.1 with
 | some r=>pure r
 | none=>do
  let d<-forIn [0:(arrOf z).size] ((none,()):U1) λ_ d=>znd d
  match d.1 with
  | some r=>pure r
  | none=>pure ()):=by
 rw[sortRuns'_eq]
 dsimp only[zmv,zbS,zmy,znd,znm]
 congr 1;funext z;congr 1
 .congr 1;funext _ c
  congr 1;congr 1;funext f
  cases f with
  | none=>rfl
  | some f =>
   dsimp only
   split
   .congr 1;funext _;congr 1;funext b
    congr 1;congr 1;funext y
    cases (pendingOf y).back? with
    | none=>rfl
    | some r =>
     dsimp only
     congr 1;funext d;obtain⟨r,d⟩:=d;cases r <;> rfl
   .congr 1;funext y
    cases (pendingOf y).back? with
    | none=>rfl
    | some r =>
     dsimp only
     congr 1;funext d;obtain⟨r,d⟩:=d;cases r <;> rfl
 .funext c;obtain⟨r,c⟩:=c
  cases r with
  | some r=>rfl
  | none =>
   dsimp only
   congr 1;funext d;obtain⟨r,d⟩:=d;cases r <;> rfl
def Wm (κ:KeyKind)(l:List Keyed):Nat->List (Nat × Nat)->Nat->Prop
 | a,[],b=>a=b
 | a,r::p,b=>r.1=a/\0 < r.2/\((l.drop a).take r.2).Pairwise (LE κ)/\Wm κ l (a+r.2) p b
section
variable {κ:KeyKind}{l l':List Keyed}
theorem Wm.le:∀ {p:List (Nat × Nat)} {a b:Nat},Wm κ l a p b->a+p.length<=b
 | [],a,b,h=>by have:a=b:=h;rw[this];exact q5 _
 | r::p,a,b,h=>by have:=Wm.le h.2.2.2;have:=h.2.1;rw[p9];omega
theorem Wm.split:∀ {p q:List (Nat × Nat)} {a b:Nat},Wm κ l a (p++q) b->∃ c,Wm κ l a p c/\Wm κ l c q b
 | [],q,a,b,h=>⟨a,rfl,h⟩
 | r::p,q,a,b,h=>by
  obtain⟨c,h1,h2⟩:=Wm.split (p:=p) h.2.2.2
  exact⟨c,⟨h.1,h.2.1,h.2.2.1,h1⟩,h2⟩
theorem Wm.join:∀ {p q:List (Nat × Nat)} {a b c:Nat},Wm κ l a p c->Wm κ l c q b->Wm κ l a (p++q) b
 | [],q,a,b,c,h,h2=>by have:a=c:=h;rw[this];exact h2
 | r::p,q,a,b,c,h,h2=>⟨h.1,h.2.1,h.2.2.1,Wm.join h.2.2.2 h2⟩
theorem Wm.low:∀ {p:List (Nat × Nat)} {a b:Nat},Wm κ l a p b->l'.take b=l.take b->Wm κ l' a p b
 | [],a,b,h,_=>h
 | r::p,a,b,h,e=>by
  have hl:=h.2.2.2.le
  refine⟨h.1,h.2.1,?_,h.2.2.2.low e⟩
  have key:∀ m:List Keyed,(m.drop a).take r.2=((m.take b).drop a).take r.2:=λm=>by
   rw[u2J,u1R,u0T (by omega)]
  rw[key,e,<- key]
  exact h.2.2.1
theorem Wm.high:∀ {p:List (Nat × Nat)} {a b:Nat},Wm κ l a p b->l'.drop a=l.drop a->Wm κ l' a p b
 | [],a,b,h,_=>h
 | r::p,a,b,h,e=>by
  refine⟨h.1,h.2.1,by rw[e];exact h.2.2.1,h.2.2.2.high ?_⟩
  rw[<-u1c,e,u1c]
end
abbrev g2 (r:Nat × Nat × Nat):Nat × Nat:=(r.1,r.2.1)
structure ST (κ:KeyKind) (k:SortKind) (a₀:KA) (hi:Nat) (st:SortSt):Prop where
 pm:(arrOf st).Perm a₀
 kd:kindOf st=k
 fl:failedOf st=none
 sg:Wm κ (arrOf st).toList 0 ((pendingOf st).toList.map g2) hi
section
variable {prog:Program}{w:World}{A:Around}{E:Value->Shared->Prop}{s:Shared}{st:SortSt}{κ:KeyKind}{k:SortKind}{a₀:KA}{hi:Nat}
theorem ST.sz (S:ST κ k a₀ hi st):(arrOf st).size=a₀.size:=S.pm.size_eq
theorem ST.mem (S:ST κ k a₀ hi st):∀ x∈(arrOf st).toList,x∈a₀.toList:=λx hx=>(u0N.mp S.pm).mem_iff.mp hx
theorem zgd {α:Type}{l:List α}{i:Nat}(h:i+1 < l.length):∃ P x y Q,l=P++x::y::Q/\P.length=i:=by
 refine⟨l.take i,l[i],l[i+1],l.drop (i+2),?_,by rw[o9];omega⟩
 have e1:l.drop i=l[i]::l[i+1]::l.drop (i+2):=by rw[u0z (by omega),u0z h]
 rw[<-e1,u0c]
theorem zbB {i:Nat}{Q:Bool->SortSt->Prop}(L:LtE prog w A E s κ k (·∈a₀.toList))(S:ST κ k a₀ hi st)(hi2:i+1 < (pendingOf st).size)(hle:hi<=a₀.size)
 (h:∀ t,ST κ k a₀ hi t->(pendingOf t).size+1=(pendingOf st).size->(arrOf t).toList.drop hi=(arrOf st).toList.drop hi->Q true t):wpS (model prog w) A E s (mergeAt' i) Q st:=by
 obtain⟨P,⟨a,m,p⟩,⟨b,n,x⟩,R,e,hP⟩:=zgd (l:=(pendingOf st).toList) (i:=i) (by rw[j8];exact hi2)
 have sg:=S.sg
 rw[e,u1e,u0g,u0g]at sg
 obtain⟨c,s1,sa,m0,so1,sb,n0,so2,s2⟩:=sg.split
 have sa':a=c:=sa
 have sb':b=c+m:=sb
 subst sa' sb'
 dsimp only at m0 n0 so1 so2 s2
 have hl2:=s2.le
 have hz:(arrOf st).toList.length=a₀.size:=by rw[j8,S.sz]
 have p1:(pendingOf st)[i]?=some (a,m,p):=by
  rw[<-u0t,e,u0j (by omega),hP,u3m]
  rfl
 have p2:(pendingOf st)[i+1]?=some (a+m,n,x):=by
  rw[<-u0t,e,u0j (by omega),hP,u1o]
  rfl
 refine zj0 L S.kd S.fl p1 p2 rfl S.mem rfl (by omega) m0 n0 rfl rfl so1 so2 λt M t1 t2 t3 t4 t5 t6=>?_
 have ep:(pendingOf t).toList=P++(a,m+n,p)::R:=by
  rw[t3,Array.toList_eraseIdxIfInBounds,u3e,e,List.set_append_right _ _ (by omega),hP,u3m,List.eraseIdx_append_of_length_le (by omega),hP,u1o]
  rfl
 have lP:((arrOf st).toList.take a).length=a:=by rw[o9];omega
 have lM:M.length=m+n:=by rw[t5.length_eq,j9,o9,o9,u0a,u0a];omega
 have d1:(arrOf t).toList.take a=(arrOf st).toList.take a:=by rw[t4,p5,u2W (by omega),i9 (by omega)]
 have d2:(arrOf t).toList.drop (a+m+n)=(arrOf st).toList.drop (a+m+n):=by
  rw[t4,u1j (by rw[j9];omega),u2w (by rw[j9];omega),u3b]
 have d3:((arrOf t).toList.drop a).take (m+n)=M:=by
  rw[t4,p5,u1j (by omega),u2w (by omega),u3b,u2W (by omega),i9 (by omega)]
 refine h t ⟨?_,t1,t2,?_⟩ ?_ ?_
 .refine u0N.mpr (List.Perm.trans ?_ (u0N.mp S.pm))
  rw[t4]
  have q1:=XB (l:=(arrOf st).toList) (a:=a) (q5 m)
  rw[u1R,u2P]at q1
  have q2:=XB (l:=(arrOf st).toList) (a:=a+m) (q5 n)
  rw[u1R,u2P,q1]at q2
  have q3:=u0c (a+m+n) (arrOf st).toList
  rw[q2]at q3
  have q4:(arrOf st).toList.Perm (List.take a (arrOf st).toList++(List.take m (List.drop a (arrOf st).toList)++List.take n (List.drop (a+m) (arrOf st).toList))++List.drop (a+m+n) (arrOf st).toList):=by
   rw[<-p5,q3]
  exact((t5.append_left _).append_right _).trans q4.symm
 .rw[ep,u1e,u0g]
  refine(s1.low d1).join ⟨rfl,by show 0 < m+n;omega,by show(((arrOf t).toList.drop a).take (m+n)).Pairwise _;rw[d3];exact t6,?_⟩
  have:Wm κ (arrOf t).toList (a+m+n) (R.map g2) hi:=s2.high d2
  show Wm κ (arrOf t).toList (a+(m+n)) (R.map g2) hi
  rw[<-Nat.add_assoc]
  exact this
 .rw[<-j8,<- j8,ep,e]
  simp only[j9,p9]
  omega
 .rw[show hi=a+m+n+(hi - (a+m+n)) by omega,<- u1c,d2,u1c]
theorem zfY {xs:KA}{lo n:Nat}(h:SO κ xs lo n):((xs.toList.drop lo).take n).Pairwise (LE κ):=by
 rw[u0A]
 intro i j hi hj hij
 have hj2:j < n:=by rw[o9]at hj;omega
 have z:=h i j (by omega) hj2
 have e:∀ {q} (hq:q < ((xs.toList.drop lo).take n).length),KK κ xs (lo+q)=ky κ ((xs.toList.drop lo).take n)[q]:=λ{q} hq=>by
  refine ze3 ?_
  have hq2:q < n:=by rw[o9]at hq;omega
  rw[<-u0t,<- u1A,<- u0h hq2,u7 hq]
 rw[e hi,e hj]at z
 exact z
theorem ST.push (S:ST κ k a₀ hi st){n:Nat}(hn:0 < n)(h:(((arrOf st).toList.drop hi).take n).Pairwise (LE κ)):ST κ k a₀ (hi+n) (setPending st ((pendingOf st).push (hi,n,0))):=by
 refine⟨S.pm,S.kd,S.fl,?_⟩
 show Wm κ (arrOf st).toList 0 (((pendingOf st).push (hi,n,0)).toList.map g2) (hi+n)
 rw[u1r,u1e]
 exact S.sg.join ⟨rfl,hn,h,rfl⟩
theorem zjU {f:Nat × Nat × Nat->Nat × Nat × Nat}(hf:∀ r,g2 (f r)=g2 r)(p:Pd)(i:Nat):(p.modify i f).toList.map g2=p.toList.map g2:=by
 refine u2B λj=>?_
 rw[Array.toList_modify,r9,r9,List.getElem?_modify]
 cases p.toList[j]? with
 | none=>rfl
 | some r =>
  show Option.map g2 (some (if i=j then f r else r))=_
  split
  .exact u05 some (hf r)
  .rfl
theorem ST.mod (S:ST κ k a₀ hi st){f:Nat × Nat × Nat->Nat × Nat × Nat}(hf:∀ r,g2 (f r)=g2 r)(i:Nat):ST κ k a₀ hi (setPending st ((pendingOf st).modify i f)):=by
 refine⟨S.pm,S.kd,S.fl,?_⟩
 show Wm κ (arrOf st).toList 0 (((pendingOf st).modify i f).toList.map g2) hi
 rw[zjU hf]
 exact S.sg
theorem V3 {N n:Nat}(L:LtE prog w A E s κ k (·∈a₀.toList))(S:ST κ k a₀ hi st)(hn:0 < n)(hle:hi+n<=a₀.size)(so:(((arrOf st).toList.drop hi).take n).Pairwise (LE κ)) :
 wpS (model prog w) A E s (zbS N hi n) (λr t=>r=.yield (none,hi+n)/\ST κ k a₀ (hi+n) t) st:=by
 unfold zbS
 refine r8 (u3q ?_)
 cases e:(pendingOf st).back? with
 | none=>exact r8 (u24 (d6 ⟨rfl,S.push hn so⟩))
 | some r =>
  obtain⟨a,m,q⟩:=r
  dsimp only
  refine r8 (u0Q (u0I (I:=λ_ c t=>c=(none,())/\ST κ k a₀ hi t/\(arrOf t).toList.drop hi=(arrOf st).toList.drop hi) (Q:=λc t=>c=(none,())/\ST κ k a₀ hi t/\(arrOf t).toList.drop hi=(arrOf st).toList.drop hi)
   (λx c t _ _ hI=>?_) (λc t hI=>hI) ⟨rfl,S,rfl⟩) λc t hI=>?_)
  .obtain⟨rfl,S1,d1⟩:=hI
   unfold zmy
   refine r8 (u3q ?_)
   by_cases c1:(pendingOf t).size > 1
   .rw[j4 c1]
    cases e2:(pendingOf t)[(pendingOf t).size - 2]? with
    | none=>exact d6 ⟨rfl,S1,d1⟩
    | some r =>
     obtain⟨r1,r2,o⟩:=r
     dsimp only
     split
     .exact d6 ⟨rfl,S1,d1⟩
     .refine r8 (zbB L S1 (by omega) (by omega) λt2 S2 _ d2=>?_)
      exact d6 ⟨rfl,S2,d2.trans d1⟩
   .rw[j6 c1]
    exact d6 ⟨rfl,S1,d1⟩
  .obtain⟨rfl,S1,d1⟩:=hI
   dsimp only
   refine r8 (u24 (r8 (u24 (d6 ⟨rfl,?_⟩))))
   exact(S1.mod (f:=λx=>(x.1,x.2.1,power' N (2*a+m) (2*a+m+m+n) N)) (λ_=>rfl) ((pendingOf t).size - 1)).push hn (by show(((arrOf t).toList.drop hi).take n).Pairwise (LE κ);rw[d1];exact so)
theorem zio {xs ys:KA}{lo:Nat}(h:∀ i,i < lo->ys[i]?=xs[i]?):ys.toList.take lo=xs.toList.take lo:=by
 refine u2B λi=>?_
 by_cases c:i < lo
 .rw[u0h c,u0h c,u0t,u0t]
  exact h i c
 .rw[u0Z (by rw[o9];omega),u0Z (by rw[o9];omega)]
theorem ST.sl (S:ST κ k a₀ hi st):SL k a₀ (arrOf st) hi (pendingOf st) st:=⟨S.pm,S.kd,S.fl,rfl,λ_ _=>rfl⟩
theorem ST.from (S:ST κ k a₀ hi st){t:SortSt}(T:SL k a₀ (arrOf st) hi (pendingOf st) t):ST κ k a₀ hi t:=⟨T.pm,T.kd,T.fl,by rw[T.pd];exact S.sg.low (zio T.bl)⟩
theorem zhh {M:Nat}{c:U2}(L:LtE prog w A E s κ k (·∈a₀.toList))(S:ST κ k a₀ c.2 st)(hc:c.1=none)(hle:c.2<=a₀.size) :
 wpS (model prog w) A E s (zmv a₀.size M c) (λr t=>(c.2=a₀.size/\r=.done (none,c.2)/\t=st)\/∃ n,0 < n/\c.2+n<=a₀.size/\r=.yield (none,c.2+n)/\ST κ k a₀ (c.2+n) t) st:=by
 unfold zmv
 by_cases c1:c.2 >= a₀.size
 .rw[j4 c1]
  exact d6 (.inl ⟨by omega,rfl,rfl⟩)
 .rw[j6 c1]
  refine r8 (zdR (m:=a₀.size - c.2) L (by omega) (by omega) S.sl λf t T f1 f2 so=>?_)
  dsimp only
  have S1:=S.from T
  by_cases c2:f < M
  .rw[j4 c2]
   refine r8 (u3B (u1t ⟨rfl,?_⟩))
   have hm:f<=min (a₀.size - c.2) M:=Nat.le_min.mpr ⟨f2,by omega⟩
   have hm2:min (a₀.size - c.2) M<=a₀.size - c.2:=Nat.min_le_left _ _
   refine r8 (zho (n:=min (a₀.size - c.2) M) L (by omega) hm f1 S1.sl so λt2 T2 so2=>?_)
   exact u0Q (V3 L (S1.from T2) (by omega) (by omega) (zfY so2)) λr t3 h=>.inr ⟨_,by omega,by omega,h.1,h.2⟩
  .rw[j6 c2]
   exact u0Q (V3 L S1 (by omega) (by omega) (zfY so)) λr t3 h=>.inr ⟨f,by omega,by omega,h.1,h.2⟩
theorem zjk {p:Pd}(h:1 < p.size):znm p+1 < p.size:=by
 have key:∀ b:Bool,(if b=true then p.size - 2 - 1 else p.size - 2)+1 < p.size:=λb=>by
  cases b with
  | true=>rw[j4 rfl];omega
  | false=>rw[j6 u6];omega
 exact key _
theorem own_runsE {Q:Unit->SortSt->Prop}(L:LtE prog w A E s κ k (·∈a₀.toList))(pm:(arrOf st).Perm a₀)(kd:kindOf st=k)(fl:failedOf st=none)(pd:pendingOf st=#[])
 (h:∀ t,(arrOf t).Perm a₀->failedOf t=none->SortedToK κ (arrOf t) a₀.size->Q () t):wpS (model prog w) A E s sortRuns' Q st:=by
 rw[zjp]
 refine r8 (u3q ?_)
 have hz:(arrOf st).size=a₀.size:=pm.size_eq
 rw[hz]
 have S0:ST κ k a₀ 0 st:=⟨pm,kd,fl,by rw[pd];exact rfl⟩
 refine r8 (u0Q (u0I (I:=λx c t=>c.1=none/\ST κ k a₀ c.2 t/\c.2<=a₀.size/\(x<=c.2\/c.2=a₀.size)) (Q:=λc t=>c.1=none/\ST κ k a₀ a₀.size t)
  (λx c t _ hx hI=>?_) (λc t hI=>?_) ⟨rfl,S0,u0D _,.inl (q5 _)⟩) λc t hI=>?_)
 .obtain⟨h1,h2,h3,h4⟩:=hI
  refine u0Q (zhh L h2 h1 h3) λr t2 hr=>?_
  rcases hr with ⟨e,rfl,rfl⟩ | ⟨n,n0,n1,rfl,S2⟩
  .exact⟨rfl,by rw[e]at h2;exact h2⟩
  .exact⟨rfl,S2,n1,by rcases h4 with h4 | h4 <;> (show x+1<=c.2+n\/c.2+n=a₀.size;omega)⟩
 .obtain⟨h1,h2,h3,h4⟩:=hI
  refine⟨h1,?_⟩
  have e:c.2=a₀.size:=by
   rcases h4 with h4 | h4
   .have:max 0 a₀.size=a₀.size:=by omega
    omega
   .exact h4
  rw[e]at h2
  exact h2
 .obtain⟨h1,S1⟩:=hI
  rw[h1]
  dsimp only
  have len:=S1.sg.le
  rw[u9,j8]at len
  refine r8 (u0Q (u0I (I:=λx d t=>d=(none,())/\ST κ k a₀ a₀.size t/\(pendingOf t).size+x<=a₀.size) (Q:=λd t=>d=(none,())/\ST κ k a₀ a₀.size t/\(pendingOf t).size<=1)
   (λx d t _ hx hI=>?_) (λd t hI=>?_) ⟨rfl,S1,by omega⟩) λd t hI=>?_)
  .obtain⟨rfl,S2,h2⟩:=hI
   unfold znd
   refine r8 (u3q ?_)
   by_cases c1:(pendingOf t).size<=1
   .rw[j4 c1]
    exact d6 ⟨rfl,S2,c1⟩
   .rw[j6 c1]
    refine r8 (zbB L S2 (zjk (by omega)) (q5 _) λt2 S3 e3 _=>?_)
    exact d6 ⟨rfl,S3,by omega⟩
  .obtain⟨rfl,S2,h2⟩:=hI
   refine⟨rfl,S2,?_⟩
   have:max 0 a₀.size=a₀.size:=by omega
   omega
  .obtain⟨rfl,S2,h2⟩:=hI
   refine d6 (h t S2.pm S2.fl ?_)
   have sz:(arrOf t).toList.length=a₀.size:=by rw[j8,S2.sz]
   have so:(arrOf t).toList.Pairwise (LE κ):=by
    have sg:=S2.sg
    have hl:((pendingOf t).toList.map g2).length<=1:=by rw[u9,j8];exact h2
    match e:(pendingOf t).toList.map g2 with
    | [] =>
     rw[e]at sg
     have z:0=a₀.size:=sg
     have:(arrOf t).toList=[]:=u1n.mp (by omega)
     rw[this]
     exact List.Pairwise.nil
    | [r] =>
     rw[e]at sg
     obtain⟨_,_,s3,s4⟩:=sg
     have z:0+r.2=a₀.size:=s4
     rw[u17,i9 (by omega)]at s3
     exact s3
    | r::r2::q=>rw[e]at hl;simp at hl
   intro i j hij hj
   obtain⟨y,hy⟩:∃ y,(arrOf t).toList[j]?=some y:=⟨_,u7 (by omega)⟩
   obtain⟨x,hx⟩:∃ x,(arrOf t).toList[i]?=some x:=⟨_,u7 (by omega)⟩
   rw[ze3 (by rw[<-u0t];exact hx),ze3 (by rw[<-u0t];exact hy)]
   exact zaT so hij hx hy
end
end OwnTim
namespace OwnSortT
open PySem PyProof.Rows OwnSort
theorem lex_irr:∀ a:List Int,HT.lexLt a a=false:=by
 intro a
 induction a with
 | nil=>rfl
 | cons x xs ih=>rw[HT.lexLt_cons,j4 rfl,ih]
theorem lex_trans:∀ a b c:List Int,HT.lexLt a b=true->HT.lexLt b c=true->HT.lexLt a c=true:=by
 intro a
 induction a with
 | nil =>
  intro b c h1 h2
  cases c with
  | nil=>cases b <;> cases h2
  | cons _ _=>rfl
 | cons x xs ih =>
  intro b c h1 h2
  cases b with
  | nil=>cases h1
  | cons y ys=>cases c with
   | nil=>cases h2
   | cons z zs =>
    rw[HT.lexLt_cons]at h1 h2 ⊢
    by_cases e1:x=y
    .rw[j4 e1]at h1
     by_cases e2:y=z
     .rw[j4 e2]at h2;rw[j4 (e1.trans e2)];exact ih _ _ h1 h2
     .rw[j6 e2,b9]at h2;rw[j6 (by omega),b9];omega
    .rw[j6 e1,b9]at h1
     by_cases e2:y=z
     .rw[j6 (by omega),b9];omega
     .rw[j6 e2,b9]at h2;rw[j6 (by omega),b9];omega
theorem lex_total:∀ a b:List Int,HT.lexLt a b=false->HT.lexLt b a=false->a=b:=by
 intro a
 induction a with
 | nil =>
  intro b h1 h2
  cases b with
  | nil=>rfl
  | cons _ _=>cases h1
 | cons x xs ih =>
  intro b h1 h2
  cases b with
  | nil=>cases h2
  | cons y ys =>
   rw[HT.lexLt_cons]at h1 h2
   by_cases e:x=y
   .rw[j4 e]at h1;rw[j4 e.symm]at h2;rw[e,ih _ h1 h2]
   .rw[j6 e,u0K]at h1;rw[j6 (u1l e),u0K]at h2;omega
theorem lex_neg (a b c:List Int)(h:HT.lexLt a c=true):HT.lexLt a b=true\/HT.lexLt b c=true:=by
 cases h1:HT.lexLt a b with
 | true=>exact .inl rfl
 | false =>
  refine .inr ?_
  cases h2:HT.lexLt b a with
  | true=>exact lex_trans _ _ _ h2 h
  | false=>rw[<-lex_total _ _ h1 h2];exact h
def TT (h:Heap) (v:Value) (t:List Int):Prop:=∃ a o n its,v=.ref a/\h.get? a=some o/\o.cls=.type "tuple"/\o.data=.seq its.toArray n/\IntsAre its t/\t≠[]
theorem WO:∀ {vs:List Value} {ns ms:List Int},IntsAre vs ns->IntsAre vs ms->ns=ms:=by
 intro vs ns ms h
 induction h generalizing ms with
 | nil=>intro h2;cases h2;rfl
 | cons n t h ih=>intro h2;cases h2 with | cons n' t' h'=>rw[ih h']
theorem TT.uniq {h:Heap}{v:Value}{s t:List Int}(x:TT h v s)(y:TT h v t):s=t:=by
 obtain⟨a,o,n,its,rfl,e1,_,d1,i1,_⟩:=x
 obtain⟨b,p,m,its',e,e2,_,d2,i2,_⟩:=y
 cases e
 rw[e1]at e2
 cases e2
 rw[d1]at d2
 have e3:its.toArray=its'.toArray:=by injection d2
 cases u2X e3
 exact WO i1 i2
theorem TT.keep {h h':Heap}{v:Value}{t:List Int}(x:TT h v t)(k:∀ b o,h.get? b=some o->h'.get? b=some o):TT h' v t:=by
 obtain⟨a,o,n,its,e,e1,r⟩:=x
 exact⟨a,o,n,its,e,k _ _ e1,r⟩
theorem TT.keepT {h h':Heap} {v:Value} {t:List Int} (x:TT h v t) (k:∀ b o,o.cls=.type "tuple"->h.get? b=some o->h'.get? b=some o):TT h' v t:=by
 obtain⟨a,o,n,its,e,e1,c,r⟩:=x
 exact⟨a,o,n,its,e,k _ _ c e1,c,r⟩
open Classical in
noncomputable def zb6 (h:Heap)(v:Value):Option (List Int):=if x:∃ t,TT h v t then some x.choose else none
theorem zde {h:Heap}{v:Value}{t:List Int}(x:TT h v t):zb6 h v=some t:=by
 unfold zb6
 have y:∃ t,TT h v t:=⟨t,x⟩
 rw[dif_pos y,y.choose_spec.uniq x]
@[reducible] noncomputable def zda (h:Heap):KeyKind where
 α:=List Int
 blt:=HT.lexLt
 irrefl:=lex_irr
 trans:=lex_trans
 negTrans:=lex_neg
 total:=lex_total
 keyOf:=zb6 h
 dflt:=[]
section
variable {prog:Program}{w:World}{A:Around}{E:Value->Shared->Prop}{s:Shared}
def zkv (d:Bool):List Int->List Int->Bool
 | x::xs,y::ys=>if x=y then zkv d xs ys else decide (x < y)
 | _,_=>d
theorem zj2:∀ a b:List Int,zkv (decide (a.length < b.length)) a b=HT.lexLt a b:=by
 intro a
 induction a with
 | nil=>intro b;cases b with
  | nil=>rfl
  | cons _ _=>rfl
 | cons x xs ih=>intro b;cases b with
  | nil=>rfl
  | cons y ys =>
   rw[HT.lexLt_cons,<- ih ys]
   show(if x=y then zkv (decide (xs.length+1 < ys.length+1)) xs ys else decide (x < y))=_
   rw[show decide (xs.length+1 < ys.length+1)=decide (xs.length < ys.length) by congr 1;apply propext;omega]
def zf1 (x:(Value × Value) × Nat)(_:Option Bool × Unit):Sem (ForInStep (Option Bool × Unit)):=do
 let b<-eqBool x.1.1 x.1.2
 if (!b)=true then do
  let c<-oneLt' (true&&x.2 == 0) x.1.1 x.1.2
  pure (ForInStep.done (some c,()))
 else pure (ForInStep.yield (none,()))
theorem zhE {d:Bool}:∀ {xs:List Value} {ns:List Int} {ys:List Value} {ms:List Int} {k:Nat} {Q:Option Bool × Unit->Shared->Prop},IntsAre xs ns->IntsAre ys ms->(∀ r:Option Bool × Unit,r.1.getD d=zkv d ns ms->Q r s) ->
 wpAny (model prog w) A (forIn ((xs.zip ys).zipIdx k) ((none,()):Option Bool × Unit) zf1) Q E s:=by
 intro xs ns ys ms k Q h1
 induction h1 generalizing ys ms k with
 | nil=>intro h2 q;exact t7 (q (none,()) rfl)
 | cons x t h1 ih =>
  intro h2 q
  cases h2 with
  | nil=>exact t7 (q (none,()) rfl)
  | cons y u h2 =>
   rw[u1C,u2c,u2o]
   refine u0 (u0 (u2s x t y u prog w E _ ?_))
   by_cases c:x=y
   .rw[show(x == y)=true by rw[c];exact u1y _]
    refine t7 (ih h2 λr hr=>q r (hr.trans ?_))
    show _=(if x=y then zkv d _ _ else decide (x < y))
    rw[j4 c]
   .rw[show(x == y)=false by simpa using c]
    have q0:Q (some (decide (x < y)),()) s:=q _ (by
     show decide (x < y)=(if x=y then zkv d _ _ else decide (x < y))
     rw[j6 c])
    cases k with
    | zero=>exact u0 (oneLt_int (t7 (t7 q0)))
    | succ k=>exact u0 (lt0 (t7 (t7 q0)))
theorem zfc {x y:Value}{a b:List Int}{Q:Bool->Shared->Prop}(hx:TT s.heap x a)(hy:TT s.heap y b)(h:Q (HT.lexLt a b) s):wpAny (model prog w) A (keyLt' (tuples' true) x y) Q E s:=by
 obtain⟨p,o,n,xs,rfl,e1,_,d1,i1,_⟩:=hx
 obtain⟨q,o2,n2,ys,rfl,e2,_,d2,i2,_⟩:=hy
 rw[zb1]
 refine u0 (u1L e1 d1 (u0 (u1L e2 d2 ?_)))
 show wpAny _ _ (forIn ((xs.zip ys).zipIdx 0) ((none,()):Option Bool × Unit) zf1>>=_) _ _ _
 refine u0 (zhE (d:=decide (xs.length < ys.length)) i1 i2 λr hr=>?_)
 have e:Q (r.1.getD (decide (xs.length < ys.length))) s:=by
  rw[hr,i1.length,i2.length,zj2];exact h
 obtain⟨r1,u⟩:=r
 cases r1 with
 | none=>exact t7 e
 | some v=>exact t7 e
theorem zhg {vs:List Value}(hT:∀ v∈vs,∃ t,TT s.heap v t):OwnTim.LtE prog w A E s (zda s.heap) (tuples' true) (·∈(pairsOf vs).toList):=by
 intro st x y Q hk hx hy h
 have look:∀ {x:Keyed},x∈(pairsOf vs).toList->∃ t,TT s.heap x.1 t/\OwnTim.ky (zda s.heap) x=t:=λ{x} hm=>by
  rw[pairsOf_toList]at hm
  obtain⟨t,ht⟩:=hT _ (mem_zip_self hm).2
  refine⟨t,ht,?_⟩
  unfold OwnTim.ky
  show(zb6 s.heap x.1).getD _=t
  rw[zde ht]
  rfl
 obtain⟨a,ta,ka⟩:=look hx
 obtain⟨b,tb,kb⟩:=look hy
 rw[ka,kb]at h
 rw[lt'_eq]
 refine r8 (u3q ?_)
 rw[hk]
 exact r8 (u3B (u1O (zfc ta tb ⟨rfl,d6 h⟩)))
theorem VU:∀ {vs:List Value} {Q:List (Option Value)->Shared->Prop},(∀ v∈vs,∃ t,TT s.heap v t)->(∀ fs:List Value,fs.length=vs.length->(∀ f∈fs,∃ i t,f=.int i t)->Q (fs.map some) s)->wpAny (model prog w) A (vs.mapM firstOfTuple') Q E s
 | [],Q,_,h=>by rw[List.mapM_nil];exact t7 (h [] rfl (by simp))
 | v::vs,Q,hT,h=>by
  obtain⟨t,a,o,n,its,rfl,e1,c1,d1,hi,hne⟩:=hT v u0E
  obtain⟨z,zs,i0,tk,rfl,rfl⟩:∃ z zs i0 tk,its=z::zs/\z=.int i0 tk:=by
   cases hi with
   | nil=>exact absurd rfl hne
   | cons i0 tk hi=>exact⟨_,_,_,_,rfl,rfl⟩
  rw[u3S,zbg]
  refine u0 (u0 (u3o (T:="tuple") ⟨o,e1,c1⟩ ?_))
  rw[j6 (by simp)]
  refine u0 (u1L e1 d1 (t7 (u0 (VU (λu hu=>hT u (u0d _ hu)) λfs hl hf=>t7 ?_))))
  exact h (.int i0 tk::fs) (by simp[hl]) λf hf'=>by
   rcases d5.mp hf' with rfl | hf'
   .exact⟨_,_,rfl⟩
   .exact hf f hf'
theorem zgQ {v₁:Value}{vs:List Value}{Q:SortKind->Shared->Prop}(hT:∀ v∈v₁::vs,∃ t,TT s.heap v t)(h:Q (tuples' true) s):wpAny (model prog w) A (keyKind' (v₁::vs).toArray) Q E s:=by
 rw[keyKind'_eq,u2C,<- bind_pure_comp,bind_assoc]
 refine u0 (VU hT λfs hl hf=>u0 (t7 ?_))
 cases fs with
 | nil=>simp at hl
 | cons f fs =>
  rw[j4 (by simp)]
  have ef:((f::fs).map some).toArray.filterMap id=(f::fs).toArray:=by simp
  refine u0 (u1t ?_)
  rw[ef,oneTypeOnly'_eq,u2C,zac hf]
  simp only[map_pure,pure_bind]
  rw[show(List.map (λ_=>Value.type "int") (f::fs)).toArray[0]?=some (Value.type "int") by simp]
  have al:((List.map (λ_=>Value.type "int") (f::fs)).toArray.all λx=>x == Value.type "int")=true:=by
   simp only[List.all_toArray,u2i,u0k]
   intro _ _
   rfl
  simp only[al,u2F,pure_bind,Option.any_some]
  rw[show(Value.type "int" != Value.type "tuple")=true by decide +kernel]
  exact t7 h
end
def Rise (h:Heap)(out:List Value):Prop:=∃ ts:List (List Int),out.length=ts.length/\(∀ (i:Nat) (v:Value) (t:(List Int)),out[i]?=some v->ts[i]?=some t->TT h v t)/\ts.Pairwise λa b=>HT.lexLt b a=false
theorem ze4 {h h':Heap}{vs:List Value}{xs:Array Keyed}(hT:∀ v∈vs,∃ t,TT h v t)(hk:∀ v t,TT h v t->TT h' v t)(pm:xs.Perm (pairsOf vs))(hs:SortedToK (zda h') xs (pairsOf vs).size):(xs.map (·.2)).toList.Perm vs/\Rise h (xs.map (·.2)).toList:=by
 have hl:xs.toList.Perm (vs.zip vs):=by rw[<-pairsOf_toList];exact u0N.mp pm
 have hm:∀ p∈xs.toList,p.1=p.2/\p.1∈vs:=λp hp=>mem_zip_self (hl.mem_iff.mp hp)
 have e2:(xs.map (·.2)).toList=xs.toList.map (·.2):=by simp
 rw[e2]
 refine⟨?_,xs.toList.map λp=>(zb6 h' p.1).getD ([]:List Int),by simp,λi v t hv ht=>?_,?_⟩
 .have:=hl.map (·.2)
  rwa[show(vs.zip vs).map (·.2)=vs from List.map_snd_zip (q5 _)]at this
 .rw[r9]at hv ht
  cases hx:xs.toList[i]? with
  | none=>rw[hx]at hv;cases hv
  | some p =>
   rw[hx]at hv ht
   cases hv
   cases ht
   obtain⟨q1,q2⟩:=hm p (j5 hx)
   obtain⟨t,ht⟩:=hT _ q2
   show TT h p.2 ((zb6 h' p.1).getD ([]:List Int))
   rw[zde (hk _ _ ht),<- q1]
   exact ht
 .rw[u0A]
  intro i j hi hj hij
  have hi':i < xs.size:=by simpa using hi
  have hj':j < xs.size:=by simpa using hj
  have:=hs i j (u2j hij) (by rw[<-pm.size_eq];exact hj')
  unfold KK at this
  rw[u3n xs i hi',u3n xs j hj']at this
  have this:HT.lexLt ((zb6 h' xs[j].1).getD ([]:List Int)) ((zb6 h' xs[i].1).getD ([]:List Int))=false:=this
  simpa using this
section
variable {prog:Program}{w:World}{A:Around}{E:Value->Shared->Prop}{s:Shared}
theorem Vz {a:Addr} {vs:List Value} {n:Nat} {P:Fin->Shared->Prop} (ho:s.heap.get? a=some (seqObj "list" vs.toArray n)) (hT:∀ v∈vs,∃ t,TT s.heap v t) (h64:vs.length < 10000000)
 (h:∀ out:Array Value,out.toList.Perm vs->Rise s.heap out.toList->P (.done (.ret .none)) { s with heap:=sortedHeap s.heap a vs out }):wpAny (model prog w) A (Builtin.«list.sort» ⟨[.ref a],[]⟩) P E s:=by
 have la:a < s.heap.objs.size:=j7 ho
 have zl:vs.toArray.size=vs.length:=j3
 obtain⟨e1,o1⟩:∃ e1,(s.heap.update a (Obj.mapSeq λ_=>#[])).get? a=some (seqObj "list" #[] e1):=⟨_,u2u ho (λ_=>#[])⟩
 have o6:(((s.heap.update a (Obj.mapSeq λ_=>#[])).push (seqObj "tuple" vs.toArray 0)).push (seqObj "list" #[] 0)).get? a=some (seqObj "list" #[] e1):=u5 _ (u5 _ o1)
 have up:∀ b o,o.cls=.type "tuple"->s.heap.get? b=some o->(((s.heap.update a (Obj.mapSeq λ_=>#[])).push (seqObj "tuple" vs.toArray 0)).push (seqObj "list" #[] 0)).get? b=some o:=λb o c e=>by
  refine u5 _ (u5 _ ((u0n _ _ λz=>?_).trans e))
  subst z
  rw[ho]at e
  cases e
  exact absurd (show Value.type "list"=Value.type "tuple" from c) (by decide +kernel)
 have hT6:∀ v∈vs,∃ t,TT (((s.heap.update a (Obj.mapSeq λ_=>#[])).push (seqObj "tuple" vs.toArray 0)).push (seqObj "list" #[] 0)) v t:=λv hv=>let ⟨t,ht⟩:=hT v hv;⟨t,ht.keepT up⟩
 rw[list_sort_plain]
 refine u0 (u1L ho rfl (u0 (u13 ho rfl (u0 (seqEpoch_at o1 rfl (u0 (wpAny_newTuple (u0 (u3A (u0M ?_))))))))))
 show wpAny (model prog w) A _ P E { s with heap:=((s.heap.update a (Obj.mapSeq λ_=>#[])).push (seqObj "tuple" vs.toArray 0)).push (seqObj "list" #[] 0) }
 by_cases c2:vs.toArray.size < 2
 .rw[j4 c2,j4 c2]
  refine u0 (t7 ?_)
  dsimp only
  rw[StateT.run_pure]
  refine u0 (t7 ?_)
  obtain⟨r1,r2⟩:=ze4 (xs:=pairsOf vs) hT (λv t ht=>ht) (u2m _) (λi j hij hj=>by
   obtain rfl:i=j:=by rw[pairsOf_size]at hj;omega
   exact u1u _)
  refine u0 (seqEpoch_at o6 rfl (u0 (u13 o6 rfl ?_ (hsz2:=by rw[u3R];show(pairsOf vs).size<=_;rw[pairsOf_size,u10];omega))))
  rw[show(e1 != e1)=false by simp]
  exact t7 (h _ r1 r2)
 .rw[j6 c2,j6 c2]
  cases vs with
  | nil=>simp at c2
  | cons v₁ rest =>
   refine u0 (zgQ hT6 ?_)
   refine u0 (u0B (OwnTim.own_runsE (st:=SortSt.mk' (tuples' true) ((v₁::rest).toArray.zip (v₁::rest).toArray) #[] 7 none) (Q:=λ_ t=>(arrOf t).Perm (pairsOf (v₁::rest))/\failedOf t=none/\SortedToK (zda _) (arrOf t) (pairsOf (v₁::rest)).size)
    (zhg hT6) (u2m _) rfl rfl rfl λt p1 p2 p3=>⟨p1,p2,p3⟩) ?_ λ_ _ e=>e)
   rintro⟨⟨⟩,t⟩ s' ⟨rfl,p1,p2,p3⟩
   obtain⟨r1,r2⟩:=ze4 hT (λv t ht=>ht.keepT up) p1 p3
   refine u0 (seqEpoch_at o6 rfl (u0 (u13 o6 rfl ?_ (hsz2:=by rw[u3R];show(arrOf t).size<=_;rw[p1.size_eq,pairsOf_size,u10];omega))))
   rw[p2,show(e1 != e1)=false by simp]
   exact t7 (h _ r1 r2)
theorem ownT_sorted {l:Addr}{vs:List Value}{Q:Value->Shared->Prop}(hl:s.heap.IsList l vs.toArray)(hT:∀ v∈vs,∃ t,TT s.heap v t)(h64:vs.length < 10000000)
 (h:∀ out:Array Value,out.toList.Perm vs->Rise s.heap out.toList->Q (.ref (s.heap.objs.size+1)) { s with heap:=sortedAll s.heap vs out }):wpAny (model prog w) A (call (.builtin "sorted") [.ref l]) Q E s:=by
 have z1:((s.heap.push (seqObj "list" #[] 0)).update s.heap.objs.size (Obj.mapSeq (·++vs.toArray))).objs.size=s.heap.objs.size+1:=(Heap.size_update ..).trans (size_push' _ _)
 have oL:(((s.heap.push (seqObj "list" #[] 0)).update s.heap.objs.size (Obj.mapSeq (·++vs.toArray))).push (seqObj "list" vs.toArray 0)).get? (s.heap.objs.size+1)=some (seqObj "list" vs.toArray 0):=z1 ▸ r6 _ rfl
 have up:∀ b o,s.heap.get? b=some o->(((s.heap.push (seqObj "list" #[] 0)).update s.heap.objs.size (Obj.mapSeq (·++vs.toArray))).push (seqObj "list" vs.toArray 0)).get? b=some o:=λb o e =>
  u5 _ ((u0n _ _ λz=>by subst z;exact absurd (j7 e) (u0W _)).trans (u5 _ e))
 refine Calls.call_function_entry kind_sorted plain_sorted entry_sorted (args_sorted1 _) ?_
 unfold Builtin.«sorted»
 refine u0 (m:=checkCount "sorted" 1 1 _) (t7 (u0 (collect_list hl (u0 (u3A ?_)))))
 show wpAny _ _ _ _ _ (Shared.mk (((s.heap.push (seqObj "list" #[] 0)).update s.heap.objs.size (Obj.mapSeq (·++vs.toArray))).push (seqObj "list" vs.toArray 0)) s.gens s.drawn s.toks s.os)
 rw[z1]
 refine u0 (u0M (u1m slot_list_sort ⟨_,oL,rfl⟩ entry_list_sort (Vz oL (λv hv=>let ⟨t,ht⟩:=hT v hv;⟨t,ht.keep up⟩) h64 λout p1 p2=>⟨_,rfl,t7 ⟨_,rfl,h out p1 ?_⟩⟩) (args_list_sort _)))
 obtain⟨ts,q1,q2,q3⟩:=p2
 refine⟨ts,q1,λi v t hv ht=>?_,q3⟩
 obtain⟨t0,ht0⟩:=hT v (p1.mem_iff.mp (j5 hv))
 rw[(q2 i v t hv ht).uniq (ht0.keep up)]
 exact ht0
end
end OwnSortT
namespace OwnSort
open PySem PyProof.Rows
def Rise (h:Heap)(out:List Value):Prop:=∃ ts:List Pr,out.length=ts.length/\(∀ (i:Nat) (v:Value) (t:Pr),out[i]?=some v->ts[i]?=some t->TP h v t)/\ts.Pairwise λa b=>bltP b a=false
theorem TP.tt {h:Heap}{v:Value}{t:Pr}(x:TP h v t):OwnSortT.TT h v [t.1,t.2]:=by
 obtain⟨a,o,n,tx,ty,e1,e2,e3,e4⟩:=x
 exact⟨a,o,n,[.int t.1 tx,.int t.2 ty],e1,e2,e3,e4,.cons _ _ (.cons _ _ .nil),List.cons_ne_nil _ _⟩
theorem zhj (a b:Pr):HT.lexLt [a.1,a.2] [b.1,b.2]=bltP a b:=by
 rw[HT.lexLt_cons,HT.lexLt_cons]
 unfold bltP
 by_cases c:a.1=b.1
 .rw[j4 c]
  by_cases c2:a.2=b.2
  .rw[j4 c2,i7 (by omega)];rfl
  .rw[j6 c2,u3F];omega
 .rw[j6 c,u3F];omega
theorem zgg {h:Heap}{vs out:List Value}(hT:∀ v∈vs,∃ t,TP h v t)(pm:out.Perm vs)(r:OwnSortT.Rise h out):Rise h out:=by
 obtain⟨ts,l1,l2,l3⟩:=r
 have key:∀ (i:Nat) (v:Value) (t:List Int),out[i]?=some v->ts[i]?=some t->∃ p:Pr,TP h v p/\t=[p.1,p.2]:=λi v t h1 h2=>by
  obtain⟨p,hp⟩:=hT v (pm.mem_iff.mp (j5 h1))
  exact⟨p,hp,OwnSortT.TT.uniq (l2 i v t h1 h2) hp.tt⟩
 have ex:∀ t∈ts,∃ p:Pr,t=[p.1,p.2]:=λt ht=>by
  obtain⟨i,hi,rfl⟩:=u0v ht
  obtain⟨p,_,e⟩:=key i out[i] ts[i] (u7 (by omega)) (u7 hi)
  exact⟨p,e⟩
 refine⟨ts.map λt=>(t.getD 0 0,t.getD 1 0),by rw[u9,l1],λi v t h1 h2=>?_,?_⟩
 .rw[r9]at h2
  obtain⟨u,hu,rfl⟩:=t9.mp h2
  obtain⟨p,hp,rfl⟩:=key i v u h1 hu
  exact hp
 .rw[u0J]
  refine l3.imp_of_mem λ{a b} ha hb hab=>?_
  obtain⟨p,rfl⟩:=ex a ha
  obtain⟨q,rfl⟩:=ex b hb
  rw[zhj]at hab
  exact hab
section
variable {prog:Program}{w:World}{A:Around}{E:Value->Shared->Prop}{s:Shared}
theorem own_sorted {l:Addr}{vs:List Value}{Q:Value->Shared->Prop}(hl:s.heap.IsList l vs.toArray)(hT:∀ v∈vs,∃ t,TP s.heap v t)(h64:vs.length < 64)
 (h:∀ out:Array Value,out.toList.Perm vs->Rise s.heap out.toList->Q (.ref (s.heap.objs.size+1)) { s with heap:=sortedAll s.heap vs out }):wpAny (model prog w) A (call (.builtin "sorted") [.ref l]) Q E s :=
 OwnSortT.ownT_sorted hl (λv hv=>(hT v hv).imp' (λt=>[t.1,t.2]) λ_ ht=>ht.tt) (by omega) λout p r=>h out p (zgg hT p r)
end
end OwnSort
namespace Dl
open PySem L2
class KK where
 K:W.Frag
inductive D where
 | non | bl (b:Bool) | int (i:Int) | str (x:Str) | tup (ds:List D) | lst (ds:List D) | scr (ns:List Int)
  | dct (z t:Bool) (ks:List (List Key)) (vs:List D)
 deriving Inhabited
section
variable [KK]
def zlo (o:HO)(t:Bool)(ks:List (List Key))(xs:List V):Prop :=
 if t=true then ∃ kvs,o=.dT kvs/\kvs.map (·.1)=ks/\kvs.map (·.2)=xs else ∃ kvs:List (Key × V),o=.dK kvs/\kvs.map (λp=>[p.1])=ks/\kvs.map (·.2)=xs
def zcn (H:Hp)(a:Addr)(z t:Bool)(ks:List (List Key))(xs:List V):Prop :=
 ∃ u,zlo u t ks xs/\if z=true then ∃ ob,H a=some (.frz ob u)else H a=some u
theorem zcn.mono {H H':Hp}{a:Addr}{z t:Bool}{ks:List (List Key)}{xs:List V}(s:yn H H')(h:zcn H a z t ks xs):zcn H' a z t ks xs:=by
 obtain⟨u,h1,h2⟩:=h
 refine⟨u,h1,?_⟩
 cases z with
 | true =>
  rw[j4 rfl]at h2 ⊢
  obtain⟨ob,h2⟩:=h2
  exact⟨ob,s _ _ h2⟩
 | false =>
  rw[j6 u6]at h2 ⊢
  exact s _ _ h2
theorem zcn.rd {H:Hp}{a:Addr}{z t:Bool}{ks:List (List Key)}{xs:List V}(h:zcn H a z t ks xs):∃ u,zlo u t ks xs/\Rd H a u:=by
 obtain⟨u,h1,h2⟩:=h
 refine⟨u,h1,?_⟩
 cases z with
 | true =>
  rw[j4 rfl]at h2
  obtain⟨ob,h2⟩:=h2
  exact .inr ⟨ob,h2⟩
 | false =>
  rw[j6 u6]at h2
  exact .inl h2
mutual
def At (H:Hp):D->V->Prop
 | .non,v=>v=.non
 | .bl b,v=>v=.bl b
 | .int i,v=>v=.int i
 | .str x,v=>v=.str x
 | .tup ds,v=>∃ a xs,v=.ref a/\H a=some (.tup xs)/\AtL H ds xs
 | .lst ds,v=>∃ a xs,v=.ref a/\H a=some (.lst xs)/\AtL H ds xs
 | .scr ns,v=>∃ a,v=.ref a/\SqL KK.K H a (ns.map V.int)
 | .dct z t ks vs,v=>∃ a xs,v=.ref a/\zcn H a z t ks xs/\AtL H vs xs
def AtL (H:Hp):List D->List V->Prop
 | [],xs=>xs=[]
 | d::ds,xs=>∃ x r,xs=x::r/\At H d x/\AtL H ds r
end
mutual
theorem At.mono {H H':Hp}(s:yn H H'):∀ {d:D} {v:V},At H d v->At H' d v
 | .non,_,h=>by unfold At at h ⊢;exact h
 | .bl _,_,h=>by unfold At at h ⊢;exact h
 | .int _,_,h=>by unfold At at h ⊢;exact h
 | .str _,_,h=>by unfold At at h ⊢;exact h
 | .tup ds,_,h=>by
  unfold At at h ⊢
  obtain⟨a,xs,e,hx,hl⟩:=h
  exact⟨a,xs,e,s _ _ hx,AtL.mono s hl⟩
 | .lst ds,_,h=>by
  unfold At at h ⊢
  obtain⟨a,xs,e,hx,hl⟩:=h
  exact⟨a,xs,e,s _ _ hx,AtL.mono s hl⟩
 | .scr ns,_,h=>by
  unfold At at h ⊢
  obtain⟨a,e,hx⟩:=h
  exact⟨a,e,s.seq hx⟩
 | .dct z t ks vs,_,h=>by
  unfold At at h ⊢
  obtain⟨a,xs,e,hx,hl⟩:=h
  exact⟨a,xs,e,hx.mono s,AtL.mono s hl⟩
theorem AtL.mono {H H':Hp}(s:yn H H'):∀ {ds:List D} {xs:List V},AtL H ds xs->AtL H' ds xs
 | [],_,h=>by unfold AtL at h ⊢;exact h
 | d::ds,_,h=>by
  unfold AtL at h ⊢
  obtain⟨x,r,e,h1,h2⟩:=h
  exact⟨x,r,e,At.mono s h1,AtL.mono s h2⟩
end
mutual
def noL:D->Bool
 | .tup ds=>zmA ds
 | .lst _=>false
 | .scr _=>false
 | .dct _ _ _ _=>false
 | _=>true
def zmA:List D->Bool
 | []=>true
 | d::ds=>noL d&&zmA ds
end
mutual
theorem At.flat {G F:Hp}(h:∀ q xs,G q=some (.tup xs)->F q=some (.tup xs)):∀ {d:D} {v:V},noL d=true->At G d v->At F d v
 | .non,_,_,a=>by unfold At at a ⊢;exact a
 | .bl _,_,_,a=>by unfold At at a ⊢;exact a
 | .int _,_,_,a=>by unfold At at a ⊢;exact a
 | .str _,_,_,a=>by unfold At at a ⊢;exact a
 | .tup ds,_,n,a=>by
  unfold At at a ⊢
  unfold noL at n
  obtain⟨p,xs,e,hx,hl⟩:=a
  exact⟨p,xs,e,h _ _ hx,AtL.flat h n hl⟩
 | .lst ds,_,n,_=>by unfold noL at n;cases n
 | .scr ds,_,n,_=>by unfold noL at n;cases n
 | .dct _ _ _ _,_,n,_=>by unfold noL at n;cases n
theorem AtL.flat {G F:Hp}(h:∀ q xs,G q=some (.tup xs)->F q=some (.tup xs)):∀ {ds:List D} {xs:List V},zmA ds=true->AtL G ds xs->AtL F ds xs
 | [],_,_,a=>by unfold AtL at a ⊢;exact a
 | d::ds,_,n,a=>by
  unfold AtL at a ⊢
  unfold zmA at n
  rw[h9]at n
  obtain⟨x,r,e,h1,h2⟩:=a
  exact⟨x,r,e,At.flat h n.1 h1,AtL.flat h n.2 h2⟩
end
section
variable {H H':Hp}{d:D}{ds es:List D}{v x:V}{xs ys:List V}
theorem At.int {i:Int}:At H (.int i) (.int i):=by unfold At;rfl
theorem At.bl {b:Bool}:At H (.bl b) (.bl b):=by unfold At;rfl
theorem At.non:At H .non .non:=by unfold At;rfl
theorem At.str {y:Str}:At H (.str y) (.str y):=by unfold At;rfl
theorem At.tup {a:Addr}(h:H a=some (.tup xs))(hl:AtL H ds xs):At H (.tup ds) (.ref a):=by unfold At;exact⟨a,xs,rfl,h,hl⟩
theorem At.lst {a:Addr}(h:H a=some (.lst xs))(hl:AtL H ds xs):At H (.lst ds) (.ref a):=by unfold At;exact⟨a,xs,rfl,h,hl⟩
theorem AtL.nil:AtL H [] []:=by unfold AtL;rfl
theorem AtL.cons (h:At H d x)(hl:AtL H ds xs):AtL H (d::ds) (x::xs):=by unfold AtL;exact⟨x,xs,rfl,h,hl⟩
theorem At.int_inv {i:Int}(h:At H (.int i) v):v=.int i:=by unfold At at h;exact h
theorem At.bl_inv {b:Bool}(h:At H (.bl b) v):v=.bl b:=by unfold At at h;exact h
theorem At.non_inv (h:At H .non v):v=.non:=by unfold At at h;exact h
theorem At.str_inv {y:Str}(h:At H (.str y) v):v=.str y:=by unfold At at h;exact h
theorem At.tup_inv (h:At H (.tup ds) v):∃ a xs,v=.ref a/\H a=some (.tup xs)/\AtL H ds xs:=by unfold At at h;exact h
theorem At.lst_inv (h:At H (.lst ds) v):∃ a xs,v=.ref a/\H a=some (.lst xs)/\AtL H ds xs:=by unfold At at h;exact h
theorem At.scr_inv {ns:List Int}(h:At H (.scr ns) v):∃ a,v=.ref a/\SqL KK.K H a (ns.map V.int):=by unfold At at h;exact h
theorem At.dct_inv {z t:Bool}{ks:List (List Key)}{vs:List D}(h:At H (.dct z t ks vs) v):∃ a xs,v=.ref a/\zcn H a z t ks xs/\AtL H vs xs:=by unfold At at h;exact h
theorem AtL.nil_inv (h:AtL H [] xs):xs=[]:=by unfold AtL at h;exact h
theorem AtL.cons_inv (h:AtL H (d::ds) xs):∃ x r,xs=x::r/\At H d x/\AtL H ds r:=by unfold AtL at h;exact h
theorem AtL.length:∀ {ds:List D} {xs:List V},AtL H ds xs->xs.length=ds.length
 | [],_,h=>by rw[h.nil_inv];rfl
 | _::_,_,h=>by
  obtain⟨x,r,rfl,_,h2⟩:=h.cons_inv
  rw[p9,p9,AtL.length h2]
theorem AtL.get:∀ {ds:List D} {xs:List V} {i:Nat} {d:D},AtL H ds xs->ds[i]?=some d->∃ x,xs[i]?=some x/\At H d x
 | [],_,_,_,_,e=>by simp at e
 | _::_,_,i,_,h,e=>by
  obtain⟨x,r,rfl,h1,h2⟩:=h.cons_inv
  cases i with
  | zero =>
   simp at e
   subst e
   exact⟨x,rfl,h1⟩
  | succ i =>
   obtain⟨y,hy,ha⟩:=AtL.get (i:=i) h2 (by simpa using e)
   exact⟨y,by simpa using hy,ha⟩
theorem AtL.append:∀ {ds es:List D} {xs ys:List V},AtL H ds xs->AtL H es ys->AtL H (ds++es) (xs++ys)
 | [],_,_,_,h,k=>by rw[h.nil_inv];exact k
 | _::_,_,_,_,h,k=>by
  obtain⟨x,r,rfl,h1,h2⟩:=h.cons_inv
  exact .cons h1 (AtL.append h2 k)
theorem AtL.snoc (h:AtL H ds xs)(k:At H d v):AtL H (ds++[d]) (xs++[v]):=h.append (.cons k .nil)
theorem AtL.take:∀ (n:Nat) {ds:List D} {xs:List V},AtL H ds xs->AtL H (ds.take n) (xs.take n)
 | 0,_,_,_=>by simpa using AtL.nil
 | n+1,[],_,h=>by rw[h.nil_inv];simpa using AtL.nil
 | n+1,_::_,_,h=>by
  obtain⟨x,r,rfl,h1,h2⟩:=h.cons_inv
  rw[List.take_succ_cons,List.take_succ_cons]
  exact .cons h1 (AtL.take n h2)
theorem AtL.drop:∀ (n:Nat) {ds:List D} {xs:List V},AtL H ds xs->AtL H (ds.drop n) (xs.drop n)
 | 0,_,_,h=>h
 | n+1,[],_,h=>by rw[h.nil_inv];simpa using AtL.nil
 | n+1,_::_,_,h=>by
  obtain⟨x,r,rfl,h1,h2⟩:=h.cons_inv
  rw[List.drop_succ_cons,List.drop_succ_cons]
  exact AtL.drop n h2
theorem AtL.set:∀ (n:Nat) {ds:List D} {xs:List V},AtL H ds xs->At H d v->AtL H (ds.set n d) (xs.set n v)
 | _,[],_,h,_=>by rw[h.nil_inv];simpa using AtL.nil
 | 0,_::_,_,h,k=>by
  obtain⟨x,r,rfl,h1,h2⟩:=h.cons_inv
  exact .cons k h2
 | n+1,_::_,_,h,k=>by
  obtain⟨x,r,rfl,h1,h2⟩:=h.cons_inv
  exact .cons h1 (AtL.set n h2 k)
theorem AtL.reverse:∀ {ds:List D} {xs:List V},AtL H ds xs->AtL H ds.reverse xs.reverse
 | [],_,h=>by rw[h.nil_inv];exact .nil
 | _::_,_,h=>by
  obtain⟨x,r,rfl,h1,h2⟩:=h.cons_inv
  rw[List.reverse_cons,List.reverse_cons]
  exact(AtL.reverse h2).snoc h1
theorem AtL.rep (h:AtL H ds xs):∀ k:Nat,AtL H (List.replicate k ds).flatten (List.replicate k xs).flatten
 | 0=>.nil
 | k+1=>by
  rw[u1b,u1b,u1G,u1G]
  exact h.append (AtL.rep h k)
theorem AtL.ints (ns:List Int):AtL H (ns.map D.int) (ns.map V.int):=by
 induction ns with
 | nil=>exact .nil
 | cons n r ih=>exact .cons .int ih
theorem AtL.of_ints:∀ {ns:List Int} {xs:List V},AtL H (ns.map D.int) xs->xs=ns.map V.int
 | [],_,h=>h.nil_inv
 | n::r,_,h=>by
  obtain⟨x,r',rfl,h1,h2⟩:=AtL.cons_inv (by simpa using h)
  rw[h1.int_inv,AtL.of_ints h2]
  rfl
end
def tyN:D->String
 | .non=>"NoneType" | .bl _=>"bool" | .int _=>"int" | .str _=>"str" | .tup _=>"tuple" | .lst _=>"list" | .scr _=>"list" | .dct _ _ _ _=>"dict"
def Hid (F':Hp)(p:Addr)(o:HO):Prop:=F' p=none\/((∃ xs,o=.tup xs)/\F' p=some o)
def Keep (F H F' H':Hp):Prop:=∀ p o,F p=none->H p=some o->Hid F' p o/\H' p=some o
structure Gr (F H F' H':Hp):Prop where
 ff:yn F F'
 fh:yn F' H'
 kp:Keep F H F' H'
theorem Gr.refl {F H:Hp}(s:yn F H):Gr F H F H:=⟨yn.refl _,s,λ_ _ a b=>⟨.inl a,b⟩⟩
theorem Gr.trans {F H F1 H1 F2 H2:Hp}(a:Gr F H F1 H1)(b:Gr F1 H1 F2 H2):Gr F H F2 H2 :=
 ⟨a.ff.trans b.ff,b.fh,λp o e1 e2=>by
  obtain⟨x,y⟩:=a.kp p o e1 e2
  rcases x with x | ⟨x1,x2⟩
  .exact b.kp p o x y
  .exact⟨.inr ⟨x1,b.ff _ _ x2⟩,b.fh _ _ (b.ff _ _ x2)⟩⟩
theorem Gr.kl {F H F' H':Hp}{p:Addr}{o:HO}(g:Gr F H F' H')(n:∀ xs,o≠.tup xs)(e1:F p=none)(e2:H p=some o):F' p=none/\H' p=some o:=by
 obtain⟨x,y⟩:=g.kp p o e1 e2
 rcases x with x | ⟨⟨xs,x1⟩,_⟩
 .exact⟨x,y⟩
 .exact absurd x1 (n xs)
theorem Gr.alloc {F H:Hp}{p:Addr}(s:yn F H)(h:H p=none)(o:HO):Gr F H (upd F p o) (upd H p o):=by
 have hF:F p=none:=s.free h
 refine⟨λb u q=>?_,λb u q=>?_,λb u q r=>?_⟩
 .rw[zn (zj q hF)];exact q
 .by_cases e:b=p
  .subst e;rw[zq]at q ⊢;exact q
  .rw[zn e]at q ⊢;exact s b u q
 .have e:b≠p:=zj r h
  rw[zn e];exact⟨.inl (by rw[zn e];exact q),r⟩
theorem Gr.hide {F H:Hp}{p:Addr}(s:yn F H)(h:H p=none)(o:HO):Gr F H F (upd H p o):=by
 refine⟨yn.refl _,λb u q=>?_,λb u q r=>?_⟩
 .rw[zn (zj (s b u q) h)];exact s b u q
 .have e:b≠p:=zj r h
  rw[zn e];exact⟨.inl q,r⟩
theorem Gr.show {F H:Hp}{p:Addr}{o:HO}{F0 H0:Hp}(g:Gr F0 H0 F H)(h0:H0 p=none)(hF:F p=none)(h:H p=some o):Gr F0 H0 (upd F p o) H:=by
 refine⟨λb u q=>?_,λb u q=>?_,λb u q r=>?_⟩
 .have:=g.ff b u q
  rw[zn (zj this hF)];exact this
 .by_cases e:b=p
  .subst e;rw[zq]at q;rw[<-q];exact h
  .rw[zn e]at q;exact g.fh b u q
 .have e:b≠p:=zj r h0
  obtain⟨x,y⟩:=g.kp b u q r
  refine⟨?_,y⟩
  unfold Hid
  rw[zn e]
  exact x
abbrev Ev:=List (Option D)
def VAt (F:Hp)(ρ:Ev)(σ:St):Prop:=∀ (i:Nat) (d:D),ρ[i]?=some (some d)->∃ v,σ[i]?=some (some v)/\At F d v
theorem VAt.mono {F F':Hp}{ρ:Ev}{σ:St}(h:VAt F ρ σ)(s:yn F F'):VAt F' ρ σ:=λi d e=>let ⟨v,e1,a⟩:=h i d e;⟨v,e1,a.mono s⟩
def RE (t:TE)(f:Ev->Option D):Prop :=
 ∀ (σ:St) (ρ:Ev) (F H:Hp) (d:D) (Q:VK),yn F H->VAt F ρ σ->f ρ=some d->(∀ F' H' v,Gr F H F' H'->At F' d v->Q v H')->t σ H Q
def RT (t:TT)(f:Ev->Option Bool):Prop :=
 ∀ (σ:St) (ρ:Ev) (F H:Hp) (b:Bool) (Q:Bool->Hp->Prop),yn F H->VAt F ρ σ->f ρ=some b->(∀ F' H',Gr F H F' H'->Q b H')->t σ H Q
def RA (t:TA)(f:Ev->Option (List D)):Prop :=
 ∀ (σ:St) (ρ:Ev) (F H:Hp) (ds:List D) (Q:List V->Hp->Prop),yn F H->VAt F ρ σ->f ρ=some ds->(∀ F' H' vs,Gr F H F' H'->AtL F' ds vs->Q vs H')->t σ H Q
def RF (t:TE)(f:Ev->Option (List D)):Prop :=
 ∀ (σ:St) (ρ:Ev) (F H:Hp) (ds:List D) (Q:VK),yn F H->VAt F ρ σ->f ρ=some ds->(∀ F' H' p xs,Gr F H F' H'->H p=none->F' p=none->H' p=some (.lst xs)->AtL F' ds xs->Q (.ref p) H')->t σ H Q
def ED (X:Cx)(e:Expr)(f:Ev->Option D):Prop:=∃ t,PE X e t/\RE t f
def TD (X:Cx)(e:Expr)(f:Ev->Option Bool):Prop:=∃ t,PT X e t/\RT t f
def WD (X:Cx)(e:Expr)(f:Ev->Option Bool):Prop:=∃ t,PW X e t/\RT t f
def AD (X:Cx)(es:List Expr)(f:Ev->Option (List D)):Prop:=∃ t,PA X es t/\RA t f
def FL (X:Cx)(e:Expr)(f:Ev->Option (List D)):Prop:=∃ t,PE X e t/\RF t f
section
variable {X:Cx}{a b c:Expr}{pos:Pos}
def x5 (f:Ev->Option (List D)):Ev->Option D:=fun ρ=>(f ρ).map .lst
theorem vT {f:Ev->Option (List D)}(h:FL X a f):ED X a (x5 f):=by
 obtain⟨t,ht,r⟩:=h
 refine⟨t,ht,fun σ ρ F H d Q s va e q=>?_⟩
 obtain⟨ds,e1,rfl⟩:=t9.mp e
 refine r σ ρ F H ds Q s va e1 λF' H' p xs g h0 hF hH hx=>?_
 have g2:=g.show h0 hF hH
 exact q _ _ _ g2 (At.lst zq (hx.mono (λb u e=>by rw[zn (zj e hF)];exact e)))
def zg (i:Nat):Ev->Option D:=fun ρ=>(ρ[i]?).getD none
theorem zkT (i:Nat)(h:PE X a (zef i)):ED X a (zg i):=by
 refine⟨_,h,fun σ ρ F H d Q s va e q=>?_⟩
 have e':ρ[i]?=some (some d):=by
  unfold zg at e
  cases h:ρ[i]? with
  | none=>rw[h]at e;cases e
  | some x=>rw[h]at e;cases x with
   | none=>cases e
   | some y=>cases e;rfl
 obtain⟨v,e1,a1⟩:=va i d e'
 exact⟨v,e1,q _ _ _ (.refl s) a1⟩
def eC (d:D):Ev->Option D:=λ_=>some d
theorem ze {i:Int}(h:PE X a (tC (.int i))):ED X a (eC (.int i)):=⟨_,h,λ_ _ _ _ _ _ s _ e q=>by cases e;exact q _ _ _ (.refl s) .int⟩
theorem ZZ {i:Bool}(h:PE X a (tC (.bl i))):ED X a (eC (.bl i)):=⟨_,h,λ_ _ _ _ _ _ s _ e q=>by cases e;exact q _ _ _ (.refl s) .bl⟩
theorem zkR {i:Str}(h:PE X a (tC (.str i))):ED X a (eC (.str i)):=⟨_,h,λ_ _ _ _ _ _ s _ e q=>by cases e;exact q _ _ _ (.refl s) .str⟩
theorem W5 (h:PE X a (tC .non)):ED X a (eC .non):=⟨_,h,λ_ _ _ _ _ _ s _ e q=>by cases e;exact q _ _ _ (.refl s) .non⟩
def OpD (r:R2)(g:D->D->Option D):Prop :=
 ∀ (F H:Hp) (x y:V) (d e z:D) (Q:VK),yn F H->At F d x->At F e y->g d e=some z->(∀ F' H' v,Gr F H F' H'->At F' z v->Q v H')->r x y H Q
def zo (g:D->D->Option D)(f h:Ev->Option D):Ev->Option D:=fun ρ=>(f ρ).bind λx=>(h ρ).bind λy=>g x y
theorem zig {r:R2}{g:D->D->Option D}{ta tb:TE}{f h:Ev->Option D}(hg:OpD r g)(ra:RE ta f)(rb:RE tb h):RE (tOp r ta tb) (zo g f h):=by
 intro σ ρ F H z Q s va e q
 obtain⟨x,e1,e⟩:=u4.mp e
 obtain⟨y,e2,e⟩:=u4.mp e
 refine ra σ ρ F H x _ s va e1 λF1 H1 v g1 a1=>?_
 refine rb σ ρ F1 H1 y _ g1.fh (va.mono g1.ff) e2 λF2 H2 u g2 a2=>?_
 exact hg F2 H2 v u x y z Q g2.fh (a1.mono g2.ff) a2 e λF3 H3 w g3 a3=>q F3 H3 w ((g1.trans g2).trans g3) a3
theorem WM {op:Operator}{r:R2}{g:D->D->Option D}{f h:Ev->Option D}(ho:OpR X (binaryOp op) r)(hg:OpD r g)(ha:ED X a f)(hb:ED X b h):ED X (.BinOp a op b pos) (zo g f h) :=
 let ⟨_,pa,ra⟩:=ha
 let ⟨_,pb,rb⟩:=hb
 ⟨_,zev ho pa pb,zig hg ra rb⟩
theorem ZF {op:CmpOp}{r:R2}{g:D->D->Option D}{f h:Ev->Option D}(ho:OpR X (compareOp op) r)(hg:OpD r g)(hm:behindInMarks op b=false)(ha:ED X a f)(hb:ED X b h):ED X (.Compare a [op] [b] pos) (zo g f h) :=
 let ⟨_,pa,ra⟩:=ha
 let ⟨_,pb,rb⟩:=hb
 ⟨_,zjP ho pa pb hm,zig hg ra rb⟩
def asB:D->Option Bool
 | .bl b=>some b
 | _=>none
theorem Wy {d:D}{b:Bool}(h:asB d=some b):d=.bl b:=by
 cases d <;> first | (cases h;rfl) | cases h
def tOf (f:Ev->Option D):Ev->Option Bool:=fun ρ=>(f ρ).bind asB
theorem zlr {t:TE}{f:Ev->Option D}(r:RE t f):RT (zjK t) (tOf f):=by
 intro σ ρ F H b Q s va e q
 obtain⟨x,e1,e⟩:=u4.mp e
 cases Wy e
 exact r σ ρ F H _ _ s va e1 λF1 H1 v g1 a1=>⟨b,a1.bl_inv,q F1 H1 g1⟩
theorem yj {op:CmpOp}{r:R2}{g:D->D->Option D}{f h:Ev->Option D}(ho:OpR X (compareOp op) r)(hg:OpD r g)(hm:behindInMarks op b=false)(ha:ED X a f)(hb:ED X b h):TD X (.Compare a [op] [b] pos) (tOf (zo g f h)) :=
 let ⟨_,pa,ra⟩:=ha
 let ⟨_,pb,rb⟩:=hb
 ⟨_,zgO ho pa pb hm,zlr (zig hg ra rb)⟩
theorem x6 {f:Ev->Option D}(ha:ED X a f)(he:∀ whole,isTrue a X.env whole=(do let v<-whole;standAt a.pos;holding [v] (truthy v)):=by intro _;rfl):TD X a (tOf f) :=
 let ⟨_,pa,ra⟩:=ha
 ⟨_,ziR pa he,zlr ra⟩
def Yu (f g:Ev->Option Bool):Ev->Option Bool:=fun ρ=>(f ρ).bind λc=>if c=true then g ρ else some false
def XJ (f g:Ev->Option Bool):Ev->Option Bool:=fun ρ=>(f ρ).bind λc=>if c=true then some true else g ρ
def yT (f:Ev->Option Bool):Ev->Option Bool:=fun ρ=>(f ρ).map (!·)
theorem zjb {f:Ev->Option Bool}(ha:TD X a f):WD X (.BoolOp .And [a] pos) f:=let ⟨_,pa,ra⟩:=ha;⟨_,zj4 pa,ra⟩
theorem VZ {f:Ev->Option Bool}(ha:TD X a f):WD X (.BoolOp .Or [a] pos) f:=let ⟨_,pa,ra⟩:=ha;⟨_,ziL pa,ra⟩
theorem zmm {rest:List Expr}{f g:Ev->Option Bool}(ha:TD X a f)(hb:WD X (.BoolOp .And (b::rest) pos) g):WD X (.BoolOp .And (a::b::rest) pos) (Yu f g):=by
 obtain⟨ta,pa,ra⟩:=ha
 obtain⟨tb,pb,rb⟩:=hb
 refine⟨_,zlm pa pb,fun σ ρ F H z Q s va e q=>?_⟩
 obtain⟨x,e1,e⟩:=u4.mp e
 refine ra σ ρ F H x _ s va e1 λF1 H1 g1=>?_
 cases x with
 | true =>
  rw[j4 rfl]at e ⊢
  exact rb σ ρ F1 H1 z Q g1.fh (va.mono g1.ff) e λF2 H2 g2=>q F2 H2 (g1.trans g2)
 | false =>
  rw[j6 u6]at e ⊢
  cases e
  exact q F1 H1 g1
theorem zeb {rest:List Expr}{f g:Ev->Option Bool}(ha:TD X a f)(hb:WD X (.BoolOp .Or (b::rest) pos) g):WD X (.BoolOp .Or (a::b::rest) pos) (XJ f g):=by
 obtain⟨ta,pa,ra⟩:=ha
 obtain⟨tb,pb,rb⟩:=hb
 refine⟨_,zlf pa pb,fun σ ρ F H z Q s va e q=>?_⟩
 obtain⟨x,e1,e⟩:=u4.mp e
 refine ra σ ρ F H x _ s va e1 λF1 H1 g1=>?_
 cases x with
 | false =>
  rw[j6 u6]at e ⊢
  exact rb σ ρ F1 H1 z Q g1.fh (va.mono g1.ff) e λF2 H2 g2=>q F2 H2 (g1.trans g2)
 | true =>
  rw[j4 rfl]at e ⊢
  cases e
  exact q F1 H1 g1
theorem zjI {f:Ev->Option Bool}(h:WD X a f):TD X a f:=let ⟨_,p,r⟩:=h;⟨_,p.pt,r⟩
theorem vh {f:Ev->Option Bool}(ha:TD X a f):TD X (.UnaryOp .Not a pos) (yT f):=by
 obtain⟨ta,pa,ra⟩:=ha
 refine⟨_,ziQ pa,fun σ ρ F H z Q s va e q=>?_⟩
 obtain⟨x,e1,rfl⟩:=t9.mp e
 exact ra σ ρ F H x _ s va e1 λF1 H1 g1=>q F1 H1 g1
def ZW (f g:Ev->Option D):Ev->Option D:=fun ρ=>((f ρ).bind asB).bind λc=>if c=true then g ρ else some (.bl false)
def eOr (f g:Ev->Option D):Ev->Option D:=fun ρ=>((f ρ).bind asB).bind λc=>if c=true then some (.bl true)else g ρ
def zaj (f:Ev->Option D):Ev->Option D:=fun ρ=>((f ρ).bind asB).map λc=>.bl (!c)
theorem ZB {op}{f:Ev->Option D}(ha:ED X a f):ED X (.BoolOp op [a] pos) f:=let ⟨_,pa,ra⟩:=ha;⟨_,zlN pa,ra⟩
theorem YX {rest:List Expr}{f g:Ev->Option D}(ha:ED X a f)(hb:ED X (.BoolOp .And (b::rest) pos) g):ED X (.BoolOp .And (a::b::rest) pos) (ZW f g):=by
 obtain⟨ta,pa,ra⟩:=ha
 obtain⟨tb,pb,rb⟩:=hb
 refine⟨_,zl4 pa pb,fun σ ρ F H z Q s va e q=>?_⟩
 obtain⟨x,e1,e⟩:=u4.mp e
 obtain⟨y,e1,e2⟩:=u4.mp e1
 cases Wy e2
 refine ra σ ρ F H _ _ s va e1 λF1 H1 v g1 a1=>⟨x,a1.bl_inv,?_⟩
 cases x with
 | true =>
  rw[j4 rfl]at e ⊢
  exact rb σ ρ F1 H1 z Q g1.fh (va.mono g1.ff) e λF2 H2 w g2 a2=>q F2 H2 w (g1.trans g2) a2
 | false =>
  rw[j6 u6]at e ⊢
  cases e
  exact q F1 H1 _ g1 .bl
theorem ziO {f:Ev->Option D}(ha:ED X a f):ED X (.UnaryOp .Not a pos) (zaj f):=by
 obtain⟨ta,pa,ra⟩:=ha
 refine⟨_,zlh pa,fun σ ρ F H z Q s va e q=>?_⟩
 obtain⟨x,e1,rfl⟩:=t9.mp e
 obtain⟨y,e1,e2⟩:=u4.mp e1
 cases Wy e2
 exact ra σ ρ F H _ _ s va e1 λF1 H1 v g1 a1=>⟨x,a1.bl_inv,q F1 H1 _ g1 .bl⟩
def eIf (t:Ev->Option Bool)(f g:Ev->Option D):Ev->Option D:=fun ρ=>(t ρ).bind λc=>if c=true then f ρ else g ρ
theorem zmX {t:Ev->Option Bool}{f g:Ev->Option D}(hc:TD X c t)(ha:ED X a f)(hb:ED X b g):ED X (.IfExp c a b pos) (eIf t f g):=by
 obtain⟨tc,pc,rc⟩:=hc
 obtain⟨ta,pa,ra⟩:=ha
 obtain⟨tb,pb,rb⟩:=hb
 refine⟨_,ziw pc pa pb,fun σ ρ F H z Q s va e q=>?_⟩
 obtain⟨x,e1,e⟩:=u4.mp e
 refine rc σ ρ F H x _ s va e1 λF1 H1 g1=>?_
 cases x with
 | true =>
  rw[j4 rfl]at e ⊢
  exact ra σ ρ F1 H1 z Q g1.fh (va.mono g1.ff) e λF2 H2 w g2 a2=>q F2 H2 w (g1.trans g2) a2
 | false =>
  rw[j6 u6]at e ⊢
  exact rb σ ρ F1 H1 z Q g1.fh (va.mono g1.ff) e λF2 H2 w g2 a2=>q F2 H2 w (g1.trans g2) a2
def eUn (g:D->Option D)(f:Ev->Option D):Ev->Option D:=fun ρ=>(f ρ).bind g
def Wk:D->Option D
 | .int i=>some (.int (-i))
 | _=>none
theorem Vp {f:Ev->Option D}(ha:ED X a f):ED X (.UnaryOp .USub a pos) (eUn Wk f):=by
 obtain⟨ta,pa,ra⟩:=ha
 refine⟨_,zlL ziE pa,fun σ ρ F H z Q s va e q=>?_⟩
 obtain⟨x,e1,e⟩:=u4.mp e
 cases x <;> try cases e
 exact ra σ ρ F H _ _ s va e1 λF1 H1 v g1 a1=>⟨_,a1.int_inv,q F1 H1 _ g1 .int⟩
def zt:Ev->Option (List D):=λ_=>some []
def zb (f:Ev->Option D)(g:Ev->Option (List D)):Ev->Option (List D):=fun ρ=>(f ρ).bind λd=>(g ρ).map (d::·)
theorem zc:AD X [] zt:=⟨_,yu,λ_ _ _ _ _ _ s _ e q=>by cases e;exact q _ _ _ (.refl s) .nil⟩
theorem za {e:Expr}{es:List Expr}{f:Ev->Option D}{g:Ev->Option (List D)}(ha:ED X e f)(hr:AD X es g)(hs:starEach (e::es) X.env=(false,eval e X.env)::starEach es X.env:=by rfl):AD X (e::es) (zb f g):=by
 obtain⟨ta,pa,ra⟩:=ha
 obtain⟨tb,pb,rb⟩:=hr
 refine⟨_,zp pa pb hs,fun σ ρ F H z Q s va e q=>?_⟩
 obtain⟨x,e1,e⟩:=u4.mp e
 obtain⟨ds,e2,rfl⟩:=t9.mp e
 refine ra σ ρ F H x _ s va e1 λF1 H1 v g1 a1=>?_
 exact rb σ ρ F1 H1 ds _ g1.fh (va.mono g1.ff) e2 λF2 H2 w g2 a2=>q F2 H2 _ (g1.trans g2) (.cons (a1.mono g2.ff) a2)
def lim (n:Nat):Bool:=decide (n<=sizeLine)
def Yo (g:Ev->Option (List D)):Ev->Option D:=fun ρ=>(g ρ).bind λds=>if lim ds.length=true then some (.tup ds)else none
def ye (g:Ev->Option (List D)):Ev->Option (List D):=fun ρ=>(g ρ).bind λds=>if lim ds.length=true then some ds else none
theorem wR {es:List Expr}{x1}{g:Ev->Option (List D)}(h:AD X es g):ED X (.Tuple es x1 pos) (Yo g):=by
 obtain⟨ta,pa,ra⟩:=h
 refine⟨_,zlp pa,fun σ ρ F H z Q s va e q=>?_⟩
 obtain⟨ds,e1,e⟩:=u4.mp e
 split at e <;> cases e
 rename_i hl
 refine ra σ ρ F H ds _ s va e1 λF1 H1 vs g1 a1=>⟨by rw[a1.length];exact p6 hl,λp hp=>?_⟩
 have g2:=Gr.alloc g1.fh hp (.tup vs)
 exact q _ _ _ (g1.trans g2) (.tup zq (a1.mono g2.ff))
theorem xE {es:List Expr}{g:Ev->Option (List D)}(h:AD X es g):FL X (.List es pos) (ye g):=by
 obtain⟨ta,pa,ra⟩:=h
 refine⟨_,zbj pa,fun σ ρ F H z Q s va e q=>?_⟩
 obtain⟨ds,e1,e⟩:=u4.mp e
 split at e <;> cases e
 rename_i hl
 refine ra σ ρ F H _ _ s va e1 λF1 H1 vs g1 a1=>⟨by rw[a1.length];exact p6 hl,λp hp=>?_⟩
 have g2:=Gr.hide g1.fh hp (.lst vs)
 have h0:H p=none:=by
  cases e:H p with
  | none=>rfl
  | some o =>
   cases e2:F p with
   | none=>rw[(g1.kp p o e2 e).2]at hp;cases hp
   | some u=>rw[g1.fh _ _ (g1.ff _ _ e2)]at hp;cases hp
 exact q _ _ _ _ (g1.trans g2) h0 (g1.fh.free hp) zq a1
end
end
end Dl
namespace Dl
open PySem L2
variable [KK]
inductive Sl where
 | no | v (d:D) | o (ds:List D) | m (t:Bool) (ks:List (List Key)) (vs:List D)
 deriving Inhabited
abbrev SE:=List Sl
def Sl.f:Sl->Option D
 | .v d=>some d
 | _=>none
def Sl.g:Sl->Option D
 | .v d=>some d
 | .o ds=>some (.lst ds)
 | .m t ks vs=>some (.dct false t ks vs)
 | .no=>none
def Sl.isO:Sl->Bool
 | .o _=>true
 | .m _ _ _=>true
 | _=>false
def visF (ρ:SE):Ev:=ρ.map Sl.f
def visG (ρ:SE):Ev:=ρ.map Sl.g
def zey (F:Hp)(o:HO):Sl->Prop
 | .o ds=>∃ xs,o=.lst xs/\AtL F ds xs
 | .m t ks ds=>∃ xs,zlo o t ks xs/\AtL F ds xs
 | _=>False
theorem zey.mono {F F':Hp}{o:HO}{s:Sl}(h:zey F o s)(k:yn F F'):zey F' o s:=by
 cases s with
 | no=>exact h
 | v d=>exact h
 | o ds=>obtain⟨xs,e,a⟩:=h;exact⟨xs,e,a.mono k⟩
 | m t ks ds=>obtain⟨xs,e,a⟩:=h;exact⟨xs,e,a.mono k⟩
theorem zey.isO {F:Hp}{o:HO}{s:Sl}(h:zey F o s):s.isO=true:=by
 cases s with
 | no=>exact h.elim
 | v d=>exact h.elim
 | o ds=>rfl
 | m t ks ds=>rfl
theorem zey.ntup {F:Hp}{o:HO}{s:Sl}(h:zey F o s)(xs:List V):o≠.tup xs:=by
 cases s with
 | no=>exact h.elim
 | v d=>exact h.elim
 | o ds=>obtain⟨ys,rfl,_⟩:=h;intro e;cases e
 | m t ks ds =>
  obtain⟨ys,e,_⟩:=h
  unfold zlo at e
  split at e
  .obtain⟨kvs,rfl,_⟩:=e;intro e;cases e
  .obtain⟨kvs,rfl,_⟩:=e;intro e;cases e
theorem zey.at {F G:Hp}{o:HO}{s:Sl}{d:D}{p:Addr}(h:zey F o s)(e:s.g=some d)(hp:G p=some o)(k:yn F G):At G d (.ref p):=by
 cases s with
 | no=>exact h.elim
 | v d=>exact h.elim
 | o ds =>
  cases e
  obtain⟨xs,rfl,a⟩:=h
  exact .lst hp (a.mono k)
 | m t ks ds =>
  cases e
  obtain⟨xs,e,a⟩:=h
  unfold At
  exact⟨p,xs,rfl,⟨o,e,hp⟩,a.mono k⟩
structure Rl (Fb Hb F H:Hp) (ρ:SE) (σ:St):Prop where
 gr:Gr Fb Hb F H
 vals:∀ (i:Nat) (d:D),ρ[i]?=some (.v d)->∃ v,σ[i]?=some (some v)/\At F d v
 ows:∀ (i:Nat) (s:Sl),ρ[i]?=some s->s.isO=true->∃ p o,σ[i]?=some (some (.ref p))/\Hb p=none/\F p=none/\H p=some o/\zey F o s
 dis:∀ (i j:Nat) (p:Addr) (s t:Sl),ρ[i]?=some s->ρ[j]?=some t->s.isO=true->t.isO=true->σ[i]?=some (some (.ref p))->σ[j]?=some (some (.ref p))->i=j
 len:ρ.length=σ.length
section
variable {Fb Hb F H F' H':Hp}{ρ ρ':SE}{σ σ':St}
theorem Rl.owns (r:Rl Fb Hb F H ρ σ)(i:Nat)(ds:List D)(e:ρ[i]?=some (.o ds)):∃ p xs,σ[i]?=some (some (.ref p))/\Hb p=none/\F p=none/\H p=some (.lst xs)/\AtL F ds xs:=by
 obtain⟨p,o,e1,e2,e3,e4,xs,rfl,a⟩:=r.ows i _ e rfl
 exact⟨p,xs,e1,e2,e3,e4,a⟩
theorem Rl.grow (r:Rl Fb Hb F H ρ σ)(g:Gr F H F' H'):Rl Fb Hb F' H' ρ σ:=by
 refine⟨r.gr.trans g,λi d e=>?_,λi s e h=>?_,r.dis,r.len⟩
 .obtain⟨v,e1,a⟩:=r.vals i d e
  exact⟨v,e1,a.mono g.ff⟩
 .obtain⟨p,o,e1,e2,e3,e4,a⟩:=r.ows i s e h
  obtain⟨k1,k2⟩:=g.kl a.ntup e3 e4
  exact⟨p,o,e1,e2,k1,k2,a.mono g.ff⟩
theorem Rl.visF (r:Rl Fb Hb F H ρ σ):VAt F (visF ρ) σ:=λi d e=>by
 unfold Dl.visF at e
 rw[r9]at e
 cases h:ρ[i]? with
 | none=>rw[h]at e;cases e
 | some x =>
  rw[h]at e
  cases x with
  | no=>cases e
  | v d' =>
   cases e
   exact r.vals i d h
  | o ds=>cases e
  | m t ks ds=>cases e
def Own (ρ:SE)(σ:St)(p:Addr):Prop:=∃ (i:Nat) (s:Sl),ρ[i]?=some s/\s.isO=true/\σ[i]?=some (some (.ref p))
open Classical in
noncomputable def gOf (ρ:SE)(σ:St)(F H:Hp):Hp:=λp=>if Own ρ σ p then H p else F p
open Classical in
noncomputable def fOf (ρ:SE)(σ:St)(G:Hp):Hp:=λp=>if Own ρ σ p then none else G p
theorem Rl.own (r:Rl Fb Hb F H ρ σ){p:Addr}(h:Own ρ σ p):Hb p=none/\F p=none/\∃ o,H p=some o/\∀ xs,o≠.tup xs:=by
 obtain⟨i,s,e1,e2,e3⟩:=h
 obtain⟨q,o,e4,e5,e6,e7,a⟩:=r.ows i s e1 e2
 rw[e3]at e4
 cases e4
 exact⟨e5,e6,o,e7,a.ntup⟩
theorem Rl.notown (r:Rl Fb Hb F H ρ σ){q:Addr}(h:H q=none)(j:Nat)(s:Sl)(e1:ρ[j]?=some s)(e2:s.isO=true):σ[j]?≠some (some (.ref q)):=λe=>by
 obtain⟨p,o,f1,_,_,f4,_⟩:=r.ows j s e1 e2
 rw[e]at f1
 cases f1
 rw[h]at f4
 cases f4
theorem Rl.notbase (r:Rl Fb Hb F H ρ σ){q:Addr}(h:H q=none):Hb q=none:=by
 cases z:Hb q with
 | none=>rfl
 | some o =>
  cases z2:Fb q with
  | none=>rw[(r.gr.kp q o z2 z).2]at h;cases h
  | some u=>rw[r.gr.fh _ _ (r.gr.ff _ _ z2)]at h;cases h
theorem Rl.fg (r:Rl Fb Hb F H ρ σ):yn F (gOf ρ σ F H):=λp o e=>by
 unfold gOf
 split
 .exact r.gr.fh p o e
 .exact e
theorem Rl.gh (r:Rl Fb Hb F H ρ σ):yn (gOf ρ σ F H) H:=λp o e=>by
 unfold gOf at e
 split at e
 .exact e
 .exact r.gr.fh p o e
theorem Rl.visG (r:Rl Fb Hb F H ρ σ):VAt (gOf ρ σ F H) (visG ρ) σ:=λi d e=>by
 unfold Dl.visG at e
 rw[r9]at e
 cases h:ρ[i]? with
 | none=>rw[h]at e;cases e
 | some x =>
  rw[h]at e
  have e:x.g=some d:=u0q e
  have own:x.isO=true->∃ v,σ[i]?=some (some v)/\At (gOf ρ σ F H) d v:=λhx=>by
   obtain⟨p,o,e1,e2,e3,e4,a⟩:=r.ows i x h hx
   refine⟨_,e1,a.at e ?_ r.fg⟩
   unfold gOf
   rw[j4 ⟨i,x,h,hx,e1⟩]
   exact e4
  cases x with
  | no=>cases e
  | v d' =>
   cases e
   obtain⟨v,e1,a⟩:=r.vals i d h
   exact⟨v,e1,a.mono r.fg⟩
  | o ds=>exact own rfl
  | m t ks ds=>exact own rfl
theorem Rl.back {G':Hp}(r:Rl Fb Hb F H ρ σ)(g:Gr (gOf ρ σ F H) H G' H'):Gr F H (fOf ρ σ G') H'/\∀ q xs,G' q=some (.tup xs)->fOf ρ σ G' q=some (.tup xs):=by
 refine⟨⟨λp o e=>?_,λp o e=>?_,λp o e1 e2=>?_⟩,λq xs e=>?_⟩
 .unfold fOf
  rw[j6 (λh=>by rw[(r.own h).2.1]at e;cases e)]
  exact g.ff p o (r.fg p o e)
 .unfold fOf at e
  split at e
  .cases e
  .exact g.fh p o e
 .by_cases h:Own ρ σ p
  .refine⟨.inl (by unfold fOf;rw[j4 h]),g.fh p o (g.ff p o ?_)⟩
   unfold gOf
   rw[j4 h]
   exact e2
  .obtain⟨x,y⟩:=g.kp p o (by unfold gOf;rw[j6 h];exact e1) e2
   refine⟨?_,y⟩
   unfold Hid fOf
   rw[j6 h]
   exact x
 .unfold fOf
  rw[j6 (λh=>?_)]
  .exact e
  .obtain⟨_,_,o,e2,n⟩:=r.own h
   have:G' q=some o:=g.ff q _ (by unfold gOf;rw[j4 h];exact e2)
   rw[this]at e
   cases e
   exact n xs rfl
theorem Rl.out {G':Hp}(r:Rl Fb Hb F H ρ σ)(g:Gr (gOf ρ σ F H) H G' H'):Gr Fb Hb G' H':=by
 refine⟨λp o e=>g.ff p o (r.fg p o (r.gr.ff p o e)),g.fh,λp o e1 e2=>?_⟩
 obtain⟨k1,k2⟩:=r.gr.kp p o e1 e2
 have e3:gOf ρ σ F H p=F p:=by
  unfold gOf
  rw[j6 (λh=>by rw[(r.own h).1]at e2;cases e2)]
 rcases k1 with k1 | ⟨k1,k3⟩
 .exact g.kp p o (by rw[e3];exact k1) k2
 .have:=g.ff p o (by rw[e3];exact k3)
  exact⟨.inr ⟨k1,this⟩,g.fh _ _ this⟩
theorem Rl.set (r:Rl Fb Hb F H ρ σ){i:Nat}{d:D}{v:V}(a:At F d v):Rl Fb Hb F H (ρ.set i (.v d)) (σ.set i (some v)):=by
 have nj:∀ {j:Nat} {s:Sl},(ρ.set i (.v d))[j]?=some s->s.isO=true->i≠j:=λ{j s} h ho e=>by
  subst e
  rw[u00]at h
  simp only[u2F]at h
  split at h <;> cases h
  cases ho
 refine⟨r.gr,λj e h=>?_,λj s h ho=>?_,λj k p s t h1 h2 o1 o2 h3 h4=>?_,by simp[r.len]⟩
 .by_cases hj:i=j
  .subst hj
   rw[u00]at h
   simp only[u2F]at h
   split at h
   .rename_i hl
    cases h
    refine⟨v,?_,a⟩
    rw[u00]
    simp[<-r.len,hl]
   .cases h
  .rw[d8 hj]at h ⊢
   exact r.vals j e h
 .have hj:=nj h ho
  rw[d8 hj]at h ⊢
  exact r.ows j s h ho
 .have a1:=nj h1 o1
  have a2:=nj h2 o2
  rw[d8 a1]at h1 h3
  rw[d8 a2]at h2 h4
  exact r.dis j k p s t h1 h2 o1 o2 h3 h4
theorem Rl.setW (r:Rl Fb Hb F H ρ σ){i:Nat}{w:Sl}{p:Addr}{o:HO}(h0:Hb p=none)(hF:F p=none)(hH:H p=some o)(a:zey F o w)
 (nw:∀ (j:Nat) (s:Sl),ρ[j]?=some s->s.isO=true->σ[j]?≠some (some (.ref p))):Rl Fb Hb F H (ρ.set i w) (σ.set i (some (.ref p))):=by
 have at_i:∀ {s:Sl},(ρ.set i w)[i]?=some s->i < ρ.length/\s=w:=λ{s} h=>by
  rw[u00]at h
  simp only[u2F]at h
  split at h
  .rename_i hl
   cases h
   exact⟨hl,rfl⟩
  .cases h
 have st_i:i < ρ.length->(σ.set i (some (V.ref p)))[i]?=some (some (.ref p)):=λhl=>by
  rw[u00]
  simp[<-r.len,hl]
 refine⟨r.gr,λj e h=>?_,λj s h ho=>?_,λj k q s t h1 h2 o1 o2 h3 h4=>?_,by simp[r.len]⟩
 .by_cases hj:i=j
  .subst hj
   have e:=(at_i h).2
   have:=a.isO
   rw[<-e]at this
   cases this
  .rw[d8 hj]at h ⊢
   exact r.vals j e h
 .by_cases hj:i=j
  .subst hj
   obtain⟨hl,e⟩:=at_i h
   subst e
   exact⟨p,o,st_i hl,h0,hF,hH,a⟩
  .rw[d8 hj]at h ⊢
   exact r.ows j s h ho
 .by_cases hj:i=j
  .subst hj
   by_cases hk:i=k
   .exact hk
   .obtain⟨hl,_⟩:=at_i h1
    rw[st_i hl]at h3
    cases h3
    rw[d8 hk]at h2 h4
    exact absurd h4 (nw k t h2 o2)
  .by_cases hk:i=k
   .subst hk
    obtain⟨hl,_⟩:=at_i h2
    rw[st_i hl]at h4
    cases h4
    rw[d8 hj]at h1 h3
    exact absurd h3 (nw j s h1 o1)
   .rw[d8 hj]at h1 h3
    rw[d8 hk]at h2 h4
    exact r.dis j k q s t h1 h2 o1 o2 h3 h4
theorem Rl.setO (r:Rl Fb Hb F H ρ σ){i:Nat}{ds:List D}{p:Addr}{xs:List V}(h0:Hb p=none)(hF:F p=none)(hH:H p=some (.lst xs))(a:AtL F ds xs)
 (nw:∀ (j:Nat) (s:Sl),ρ[j]?=some s->s.isO=true->σ[j]?≠some (some (.ref p))):Rl Fb Hb F H (ρ.set i (.o ds)) (σ.set i (some (.ref p))):=r.setW h0 hF hH ⟨xs,rfl,a⟩ nw
theorem Rl.mutW (r:Rl Fb Hb F H ρ σ){i:Nat}{w w':Sl}{p:Addr}{o':HO}(e:ρ[i]?=some w)(hw:w.isO=true)(e1:σ[i]?=some (some (.ref p)))(a:zey F o' w'):Rl Fb Hb F (upd H p o') (ρ.set i w') σ:=by
 obtain⟨q,o,e2,h0,hF,hH,_⟩:=r.ows i w e hw
 rw[e1]at e2
 cases e2
 have hi:i < ρ.length:=(u8.mp e).1
 have neP:∀ {j:Nat} {s:Sl} {q:Addr},i≠j->ρ[j]?=some s->s.isO=true->σ[j]?=some (some (.ref q))->q≠p:=λ{j s q} hne h1 ho h2 z=>by
  subst z
  exact hne (r.dis i j q w s e h1 hw ho e1 h2)
 refine⟨⟨r.gr.ff,λb o z=>?_,λb o z1 z2=>?_⟩,λj d h=>?_,λj s h ho=>?_,λj k q s t h1 h2 o1 o2 h3 h4=>?_,by simp[r.len]⟩
 .rw[zn (zj z hF)]
  exact r.gr.fh b o z
 .rw[zn (zj z2 h0)]
  exact r.gr.kp b o z1 z2
 .by_cases hj:i=j
  .subst hj
   rw[u0f hi]at h
   cases h
   exact(Bool.noConfusion a.isO)
  .rw[d8 hj]at h
   exact r.vals j d h
 .by_cases hj:i=j
  .subst hj
   rw[u0f hi]at h
   cases h
   exact⟨p,o',e1,h0,hF,zq,a⟩
  .rw[d8 hj]at h
   obtain⟨q,z,f1,f2,f3,f4,f5⟩:=r.ows j s h ho
   refine⟨q,z,f1,f2,f3,?_,f5⟩
   rw[zn (neP hj h ho f1)]
   exact f4
 .have back:∀ {j:Nat} {s:Sl},(ρ.set i w')[j]?=some s->s.isO=true->∃ s',ρ[j]?=some s'/\s'.isO=true:=λ{j s} h ho=>by
   by_cases hj:i=j
   .subst hj;exact⟨w,e,hw⟩
   .rw[d8 hj]at h;exact⟨s,h,ho⟩
  obtain⟨f1,g1,g1'⟩:=back h1 o1
  obtain⟨f2,g2,g2'⟩:=back h2 o2
  exact r.dis j k q f1 f2 g1 g2 g1' g2' h3 h4
theorem Rl.mutate (r:Rl Fb Hb F H ρ σ){i:Nat}{ds es:List D}{p:Addr}{ys:List V}(e:ρ[i]?=some (.o ds))(e1:σ[i]?=some (some (.ref p)))(a:AtL F es ys):Rl Fb Hb F (upd H p (.lst ys)) (ρ.set i (.o es)) σ :=
 r.mutW e rfl e1 ⟨ys,rfl,a⟩
def Sl.fz:Sl->Sl
 | .o ds=>.v (.lst ds)
 | .m t ks vs=>.v (.dct false t ks vs)
 | s=>s
def zmu (ρ:SE)(i:Nat):SE:=ρ.set i ((ρ[i]?).getD .no).fz
theorem Rl.freeze (r:Rl Fb Hb F H ρ σ)(i:Nat):∃ F',Rl Fb Hb F' H (zmu ρ i) σ:=by
 unfold zmu
 cases h:ρ[i]? with
 | none =>
  refine⟨F,?_⟩
  rw[List.set_eq_of_length_le (List.getElem?_eq_none_iff.mp h)]
  exact r
 | some s =>
  have hi:i < ρ.length:=(u8.mp h).1
  have same:s.fz=s->∃ F',Rl Fb Hb F' H (ρ.set i ((some s).getD .no).fz) σ:=λe=>by
   refine⟨F,?_⟩
   show Rl Fb Hb F H (ρ.set i s.fz) σ
   rw[e]
   have:ρ.set i s=ρ:=by
    apply u2B
    intro j
    by_cases hj:i=j
    .subst hj;rw[u0f hi,h]
    .rw[d8 hj]
   rw[this]
   exact r
  have give:∀ d,s.isO=true->s.g=some d->s.fz=.v d->∃ F',Rl Fb Hb F' H (ρ.set i ((some s).getD .no).fz) σ:=λd ho hg hz=>by
   obtain⟨p,o,e1,e2,e3,e4,a⟩:=r.ows i s h ho
   have sF:yn F (upd F p o):=λb u e=>by rw[zn (zj e e3)];exact e
   show ∃ F',Rl Fb Hb F' H (ρ.set i s.fz) σ
   rw[hz]
   have nj:∀ {j:Nat} {t:Sl},(ρ.set i (.v d))[j]?=some t->t.isO=true->i≠j:=λ{j t} h ht e=>by
    subst e
    rw[u0f hi]at h
    cases h
    cases ht
   refine⟨upd F p o,r.gr.show e2 e3 e4,λj e z=>?_,λj t z ht=>?_,λj k q t u h1 h2 o1 o2 h3 h4=>?_,by simp[r.len]⟩
   .by_cases hj:i=j
    .subst hj
     rw[u0f hi]at z
     cases z
     exact⟨_,e1,a.at hg zq sF⟩
    .rw[d8 hj]at z
     obtain⟨v,f1,f2⟩:=r.vals j e z
     exact⟨v,f1,f2.mono sF⟩
   .have hj:=nj z ht
    rw[d8 hj]at z
    obtain⟨q,y,f1,f2,f3,f4,f5⟩:=r.ows j t z ht
    refine⟨q,y,f1,f2,?_,f4,f5.mono sF⟩
    rw[zn (λw=>hj (r.dis i j p s t h z ho ht e1 (by rw[<-w];exact f1)))]
    exact f3
   .have a1:=nj h1 o1
    have a2:=nj h2 o2
    rw[d8 a1]at h1
    rw[d8 a2]at h2
    exact r.dis j k q t u h1 h2 o1 o2 h3 h4
  cases s with
  | no=>exact same rfl
  | v d=>exact same rfl
  | o ds=>exact give _ rfl rfl rfl
  | m t ks ds=>exact give _ rfl rfl rfl
end
inductive Ctl where
 | nx (ρ:SE) | rt (d:D) | bk (ρ:SE) | ct (ρ:SE) | no
 deriving Inhabited
def SOk (Fb Hb:Hp)(E:zch):Ctl->Prop
 | .nx ρ=>∀ F H σ,Rl Fb Hb F H ρ σ->E.nx σ H
 | .bk ρ=>∀ F H σ,Rl Fb Hb F H ρ σ->E.bk σ H
 | .ct ρ=>∀ F H σ,Rl Fb Hb F H ρ σ->E.ct σ H
 | .rt d=>∀ F H v,Gr Fb Hb F H->At F d v->E.rt v H
 | .no=>False
def RS (t:TS)(g:SE->Ctl):Prop:=∀ (Fb Hb F H:Hp) (ρ:SE) (σ:St) (E:zch),Rl Fb Hb F H ρ σ->SOk Fb Hb E (g ρ)->t E σ H
def SD (X:Cx)(st:Stmt)(g:SE->Ctl):Prop:=∃ t,PS X st t/\RS t g
def SDs (X:Cx)(sts:List Stmt)(g:SE->Ctl):Prop:=∃ t,PSs X sts t/\RS t g
section
variable {X:Cx}{st:Stmt}{sts:List Stmt}{a b c e:Expr}{pos pos':Pos}
def yb:SE->Ctl:=.nx
def zT (g h:SE->Ctl):SE->Ctl:=fun ρ=>match g ρ with
 | .nx ρ'=>h ρ'
 | .rt d=>.rt d
 | .bk ρ'=>.bk ρ'
 | .ct ρ'=>.ct ρ'
 | .no=>.no
theorem zK:SDs X [] yb:=⟨_,zf4,λ_ _ F H ρ σ E r h=>h F H σ r⟩
theorem zh {g h:SE->Ctl}(h1:SD X st g)(h2:SDs X sts h):SDs X (st::sts) (zT g h):=by
 obtain⟨t,p,r⟩:=h1
 obtain⟨u,p2,r2⟩:=h2
 refine⟨_,vn p p2,λFb Hb F H ρ σ E rl k=>?_⟩
 refine r Fb Hb F H ρ σ { E with nx:=u E } rl ?_
 unfold zT at k
 cases e:g ρ with
 | nx ρ' =>
  rw[e]at k
  exact λF' H' σ' rl'=>r2 Fb Hb F' H' ρ' σ' E rl' k
 | rt d=>rw[e]at k;exact k
 | bk d=>rw[e]at k;exact k
 | ct d=>rw[e]at k;exact k
 | no=>rw[e]at k;exact k
theorem zi {g:SE->Ctl}(h1:SD X st g):SDs X [st] g:=let ⟨_,p,r⟩:=h1;⟨_,Vq p,r⟩
def sFz (i:Nat)(g:SE->Ctl):SE->Ctl:=fun ρ=>g (zmu ρ i)
theorem ZC {g:SE->Ctl}(i:Nat)(h:SDs X sts g):SDs X sts (sFz i g):=by
 obtain⟨t,p,r⟩:=h
 refine⟨_,p,λFb Hb F H ρ σ E rl k=>?_⟩
 obtain⟨F',rl'⟩:=rl.freeze i
 exact r Fb Hb F' H _ σ E rl' k
def sNo:SE->Ctl:=λ_=>.no
theorem Ws:SD X st sNo:=⟨_,zc4,λ_ _ _ _ _ _ _ _ h=>h.elim⟩
def yN (f:Ev->Option D):SE->Ctl:=fun ρ=>match f (visG ρ) with
 | some d=>.rt d
 | none=>.no
theorem zB {f:Ev->Option D}(h:ED X e f):SD X (.Return (some e) pos) (yN f):=by
 obtain⟨t,p,r⟩:=h
 refine⟨_,zb5 p,λFb Hb F H ρ σ E rl k=>?_⟩
 unfold yN at k
 cases h:f (visG ρ) with
 | none=>rw[h]at k;exact k.elim
 | some d =>
  rw[h]at k
  exact r σ _ _ H d _ rl.gh rl.visG h λF' H' v g av=>k F' H' v (rl.out g) av
def Zr:SE->Ctl:=λ_=>.rt .non
def vEv (m:Bool)(f:Ev->Option D)(ρ:SE):Option D:=if m=true then (f (visG ρ)).bind λd=>if noL d=true then some d else none else f (visF ρ)
theorem RE.at {Fb Hb F H:Hp}{ρ:SE}{σ:St}{m:Bool}{f:Ev->Option D}{t:TE}{d:D}{Q:VK}(r:RE t f)(rl:Rl Fb Hb F H ρ σ)(h:vEv m f ρ=some d)(q:∀ F' H' v,Gr F H F' H'->At F' d v->Q v H'):t σ H Q:=by
 unfold vEv at h
 cases m with
 | false =>
  rw[j6 u6]at h
  exact r σ _ _ H d _ rl.gr.fh rl.visF h q
 | true =>
  rw[j4 rfl]at h
  obtain⟨d',h1,h2⟩:=u4.mp h
  split at h2 <;> cases h2
  rename_i hn
  refine r σ _ _ H d _ rl.gh rl.visG h1 λF' H' v g av=>?_
  obtain⟨g2,fl⟩:=rl.back g
  exact q _ H' v g2 (av.flat fl hn)
def x8 (m:Bool)(i:Nat)(f:Ev->Option D):SE->Ctl:=fun ρ=>match vEv m f ρ with
 | some d=>.nx (ρ.set i (.v d))
 | none=>.no
theorem yE {m:Bool}{i:Nat}{x:Str}{f:Ev->Option D}(hN:X.N.Nodup)(hi:X.N[i]?=some x)(hx:Loc X.env.scope x)(he:ED X e f)(hs:swapsWith e (some (.Name x pos')) pos.line X.env=pure false:=by rfl)
 (hf:X.fn x=true\/X.env.scope.names.lookup x=some .local:=by first | exact .inl rfl | exact .inr rfl | assumption):SD X (.Assign [.Name x pos'] e pos) (x8 m i f):=by
 obtain⟨t,p,r⟩:=he
 refine⟨_,VY hN hi hx p hs hf,λFb Hb F H ρ σ E rl k=>?_⟩
 unfold x8 at k
 cases h:vEv m f ρ with
 | none=>rw[h]at k;exact k.elim
 | some d =>
  rw[h]at k
  exact r.at rl h λF' H' v g av=>k F' H' _ ((rl.grow g).set av)
def Zt (f:Ev->Option D):SE->Ctl:=fun ρ=>match f (visG ρ) with
 | some _=>.nx ρ
 | none=>.no
theorem xJ {f:Ev->Option D}(he:ED X e f)(hs:swapsWith e none pos.line X.env=pure false:=by rfl):SD X (.Expr e pos) (Zt f):=by
 obtain⟨t,p,r⟩:=he
 refine⟨_,zaV p hs,λFb Hb F H ρ σ E rl k=>?_⟩
 unfold Zt at k
 cases h:f (visG ρ) with
 | none=>rw[h]at k;exact k.elim
 | some d =>
  rw[h]at k
  exact r σ _ _ H d _ rl.gh rl.visG h λF' H' v g av=>k _ H' σ (rl.grow (rl.back g).1)
def Zu (i:Nat)(f:Ev->Option (List D)):SE->Ctl:=fun ρ=>match f (visF ρ) with
 | some ds=>.nx (ρ.set i (.o ds))
 | none=>.no
theorem ZL {i:Nat}{x:Str}{f:Ev->Option (List D)}(hN:X.N.Nodup)(hi:X.N[i]?=some x)(hx:Loc X.env.scope x)(he:FL X e f)(hs:swapsWith e (some (.Name x pos')) pos.line X.env=pure false:=by rfl)
 (hf:X.fn x=true\/X.env.scope.names.lookup x=some .local:=by first | exact .inl rfl | exact .inr rfl | assumption):SD X (.Assign [.Name x pos'] e pos) (Zu i f):=by
 obtain⟨t,p,r⟩:=he
 refine⟨_,VY hN hi hx p hs hf,λFb Hb F H ρ σ E rl k=>?_⟩
 unfold Zu at k
 cases h:f (visF ρ) with
 | none=>rw[h]at k;exact k.elim
 | some ds =>
  rw[h]at k
  refine r σ _ _ H ds _ rl.gr.fh rl.visF h λF' H' q xs g h0 hF hH hx=>?_
  have rl2:=rl.grow g
  exact k F' H' _ (rl2.setO (rl.notbase h0) hF hH hx (rl.notown h0))
def sIf (t:Ev->Option Bool)(g h:SE->Ctl):SE->Ctl:=fun ρ=>match t (visG ρ) with
 | some true=>g ρ
 | some false=>h ρ
 | none=>.no
theorem xD {as bs:List Stmt}{t:Ev->Option Bool}{g h:SE->Ctl}(hc:TD X c t)(ha:SDs X as g)(hb:SDs X bs h):SD X (.If c as bs pos) (sIf t g h):=by
 obtain⟨tc,pc,rc⟩:=hc
 obtain⟨ta,pa,ra⟩:=ha
 obtain⟨tb,pb,rb⟩:=hb
 refine⟨_,zjM pc pa pb,λFb Hb F H ρ σ E rl k=>?_⟩
 unfold sIf at k
 cases h:t (visG ρ) with
 | none=>rw[h]at k;exact k.elim
 | some d =>
  rw[h]at k
  refine rc σ _ _ H d _ rl.gh rl.visG h λF' H' g=>?_
  have rl2:=rl.grow (rl.back g).1
  cases d with
  | true=>rw[j4 rfl];exact ra Fb Hb _ H' ρ σ E rl2 k
  | false=>rw[j6 u6];exact rb Fb Hb _ H' ρ σ E rl2 k
def ZK (t:Ev->Option Bool)(g:SE->Ctl):Nat->SE->Ctl
 | 0,_=>.no
 | n+1,ρ=>match t (visG ρ) with
  | some true=>match g ρ with
   | .nx ρ'=>ZK t g n ρ'
   | .ct ρ'=>ZK t g n ρ'
   | .bk ρ'=>.nx ρ'
   | .rt d=>.rt d
   | .no=>.no
  | some false=>.nx ρ
  | none=>.no
theorem zdB {as:List Stmt}{t:Ev->Option Bool}{g:SE->Ctl}(n:Nat)(hp:PassesOwn (model X.prog X.w) X.A X.env X.xe)(hc:TD X c t)(ha:SDs X as g):SD X (.While c as [] pos) (ZK t g n):=by
 obtain⟨tc,pc,rc⟩:=hc
 obtain⟨ta,pa,ra⟩:=ha
 refine⟨_,ziy hp pc pa,λFb Hb F H ρ σ E rl k=>?_⟩
 refine⟨λm σ H=>∃ F ρ,Rl Fb Hb F H ρ σ/\SOk Fb Hb E (ZK t g m ρ),⟨n,F,ρ,rl,k⟩,?_⟩
 rintro m σ H ⟨F,ρ,rl,k⟩
 cases m with
 | zero=>exact k.elim
 | succ m =>
  unfold ZK at k
  cases h:t (visG ρ) with
  | none=>rw[h]at k;exact k.elim
  | some d =>
   rw[h]at k
   refine rc σ _ _ H d _ rl.gh rl.visG h λF' H' gr=>?_
   have rl2:=rl.grow (rl.back gr).1
   cases d with
   | false=>rw[j6 u6];exact k _ H' σ rl2
   | true =>
    rw[j4 rfl]
    refine⟨fun σ H=>∃ F ρ,Rl Fb Hb F H ρ σ/\SOk Fb Hb E (ZK t g m ρ),fun σ' H' w=>⟨m,u3E m,w⟩,?_⟩
    refine ra Fb Hb _ H' ρ σ _ rl2 ?_
    dsimp only at k
    cases hg:g ρ with
    | nx ρ'=>rw[hg]at k;exact λF2 H2 σ2 r2=>⟨F2,ρ',r2,k⟩
    | ct ρ'=>rw[hg]at k;exact λF2 H2 σ2 r2=>⟨F2,ρ',r2,k⟩
    | bk ρ'=>rw[hg]at k;exact k
    | rt d=>rw[hg]at k;exact k
    | no=>rw[hg]at k;exact k.elim
def RG (t:TG)(b:D->SE->Option SE):Prop:=∀ (Fb Hb F H:Hp) (ρ ρ':SE) (σ:St) (d:D) (v:V) (Q:St->Hp->Prop),Rl Fb Hb F H ρ σ->At F d v->b d ρ=some ρ'->(∀ σ',Rl Fb Hb F H ρ' σ'->Q σ' H)->t v σ H Q
def RGs (t:TGs)(b:List D->SE->Option SE):Prop:=∀ (Fb Hb F H:Hp) (ρ ρ':SE) (σ:St) (ds:List D) (vs:List V) (Q:St->Hp->Prop),Rl Fb Hb F H ρ σ->AtL F ds vs->b ds ρ=some ρ'->(∀ σ',Rl Fb Hb F H ρ' σ'->Q σ' H)->t vs σ H Q
def BD (X:Cx)(tg:Expr)(b:D->SE->Option SE):Prop:=∃ t,PG X tg t/\RG t b
def BDs (X:Cx)(tgs:List Expr)(b:List D->SE->Option SE):Prop:=∃ t,PGs X tgs t/\RGs t b
def yl (i:Nat):D->SE->Option SE:=λd ρ=>some (ρ.set i (.v d))
theorem zW {i:Nat}(h:PG X a (VC i)):BD X a (yl i):=by
 refine⟨_,h,λFb Hb F H ρ ρ' σ d v Q rl av e q=>?_⟩
 cases e
 exact q _ (rl.set av)
def W8:List D->SE->Option SE
 | [],ρ=>some ρ
 | _,_=>none
def xx (b:D->SE->Option SE)(c:List D->SE->Option SE):List D->SE->Option SE
 | d::ds,ρ=>(b d ρ).bind (c ds)
 | [],_=>none
theorem WV:BDs X [] W8:=by
 refine⟨_,zjZ,λFb Hb F H ρ ρ' σ ds vs Q rl av e q=>?_⟩
 cases ds with
 | nil=>cases e;exact⟨av.nil_inv,q _ rl⟩
 | cons _ _=>cases e
theorem xV {es:List Expr}{b:D->SE->Option SE}{c:List D->SE->Option SE}(h1:BD X e b)(h2:BDs X es c)
 (hs:(assignEach (e::es) X.env).map (·.2)=assign e X.env::(assignEach es X.env).map (·.2):=by rfl):BDs X (e::es) (xx b c):=by
 obtain⟨t,p,r⟩:=h1
 obtain⟨u,p2,r2⟩:=h2
 refine⟨_,zg8 p p2 hs,λFb Hb F H ρ ρ' σ ds vs Q rl av e q=>?_⟩
 cases ds with
 | nil=>cases e
 | cons d ds =>
  obtain⟨x,xs,rfl,a1,a2⟩:=av.cons_inv
  obtain⟨ρ1,e1,e2⟩:=u4.mp e
  exact⟨x,xs,rfl,r Fb Hb F H ρ ρ1 σ d x _ rl a1 e1 fun σ1 rl1=>r2 Fb Hb F H ρ1 ρ' σ1 ds xs Q rl1 a2 e2 q⟩
def Ww (n:Nat)(c:List D->SE->Option SE):D->SE->Option SE
 | .tup ds,ρ=>if ds.length=n then c ds ρ else none
 | _,_=>none
theorem zbb {es:List Expr}{k:Nat}{n:Nat}{c:List D->SE->Option SE}(hc:X.calm=true)(h:BDs X es c)
 (hn:(assignEach es X.env).length=n:=by rfl) (hst:(assignEach es X.env).findIdx? (·.1)=none:=by rfl):BD X (.Tuple es k pos) (Ww n c):=by
 obtain⟨t,p,r⟩:=h
 refine⟨_,zmo hc p hn hst,λFb Hb F H ρ ρ' σ d v Q rl av e q=>?_⟩
 cases d with
 | tup ds =>
  unfold Ww at e
  dsimp only at e
  split at e
  .rename_i hl
   obtain⟨a,xs,rfl,hx,al⟩:=av.tup_inv
   exact⟨a,xs,rfl,SqT.of (rl.gr.fh _ _ hx),by rw[al.length];exact hl,r Fb Hb F H ρ ρ' σ ds xs Q rl al e q⟩
  .cases e
 | _=>cases e
def zck (m:Bool)(f:Ev->Option D)(b:D->SE->Option SE):SE->Ctl:=fun ρ=>match (vEv m f ρ).bind λd=>b d ρ with
 | some ρ'=>.nx ρ'
 | none=>.no
def XL (m:Bool)(i:Nat)(fk fe:Ev->Option D):SE->Ctl:=fun ρ=>match (vEv m fe ρ).bind λd=>(fk (visG ρ)).bind λk=>match ρ[i]?,k with
 | some (.o ds),.int k=>(ixN ds.length k).map λj=>ρ.set i (.o (ds.set j d))
 | _,_=>none with
 | some ρ'=>.nx ρ'
 | none=>.no
theorem V2 {m:Bool}{i:Nat}{ko:Expr}{fk fe:Ev->Option D}(he:ED X e fe)(ho:PE X a (zef i))(hk:ED X ko fk)(hs:swapsWithSole [.Subscript a ko pos'] e pos.line X.env=pure false:=by rfl)(hw:swappedStores [.Subscript a ko pos'] e X.env=pure none:=by rfl)
 (h1:(assignEach [.Subscript a ko pos'] X.env).map (·.2)=[assign (.Subscript a ko pos') X.env]:=by rfl)
 (ha:∀ v,assign (.Subscript a ko pos') X.env v=(do
  let ov<-holding [v] (eval a X.env)
  let iv<-holding [v,ov] (eval ko X.env)
  standAt pos'
  holding [v,ov,iv] (setItem ov iv v)
  release [v,ov,iv] []):=by intro _;rfl):SD X (.Assign [.Subscript a ko pos'] e pos) (XL m i fk fe):=by
 obtain⟨t,p,r⟩:=he
 obtain⟨tk,pk,rk⟩:=hk
 refine⟨_,zmk p (zkL ho pk zhQ ha) hs hw h1,λFb Hb F H ρ σ E rl k=>?_⟩
 unfold XL at k
 cases h:(vEv m fe ρ).bind λd=>(fk (visG ρ)).bind λk=>match ρ[i]?,k with
  | some (.o ds),.int k=>(ixN ds.length k).map λj=>ρ.set i (.o (ds.set j d))
  | _,_=>none with
 | none=>rw[h]at k;exact k.elim
 | some ρ' =>
  rw[h]at k
  obtain⟨d,e1,e2⟩:=u4.mp h
  obtain⟨kd,e3,e2⟩:=u4.mp e2
  cases hs:ρ[i]? with
  | none=>rw[hs]at e2;cases e2
  | some sl =>
   rw[hs]at e2
   cases sl with
   | no=>cases e2
   | v _=>cases e2
   | m _ _ _=>cases e2
   | o ds =>
    cases kd with
    | int kk =>
     obtain⟨j,e4,rfl⟩:=t9.mp e2
     refine r.at rl e1 λF' H' v g av=>?_
     have rl2:=rl.grow g
     obtain⟨q,xs,f1,_⟩:=rl2.owns i ds hs
     refine⟨_,f1,?_⟩
     refine rk σ _ _ H' _ _ rl2.gh rl2.visG e3 λF3 H3 v3 g3 av3=>?_
     obtain⟨gb,_⟩:=rl2.back g3
     have rl3:=rl2.grow gb
     obtain⟨q3,xs3,f1',_,_,f4,f5⟩:=rl3.owns i ds hs
     rw[f1]at f1'
     cases f1'
     refine⟨q,xs3,kk,j,rfl,av3.int_inv,f4,by rw[f5.length];exact e4,?_⟩
     exact k _ _ σ (rl3.mutate hs f1 (f5.set j (av.mono gb.ff)))
    | _=>cases e2
end
end Dl
namespace L2
open PySem PySem.Spec PyProof.Rows
section
variable {X:Cx}{tg:Expr}
def iSeq (K:W.Frag)(tl:TE):TI:=fun σ H R=>tl σ H λx H1=>(∃ a,x=.ref a/\(∃ xs,SqL K H1 a xs)/\R (Itl K a) H1)\/(∃ a,x=.ref a/\(∃ xs,SqT K H1 a xs)/\R (Itt K a) H1)
theorem zkX {l:Expr}{tl:TE}(hl:PE X l tl):PI X tg l (iSeq X.K tl):=by
 intro pins s σ H R I h
 refine thn (hl pins s σ H _ I h) λv s1 hh9=>?_
 obtain⟨x,H1,I1,r1,q1⟩:=hh9
 rcases q1 with ⟨a,e,⟨xs,hq⟩,q⟩ | ⟨a,e,⟨xs,hq⟩,q⟩
 .subst e
  cases r1
  obtain⟨its,rv,p,hz⟩:=I1.list hq
  refine u1J p.isList ?_
  refine⟨s1.heap.objs.size,[s1.heap.objs.size],_,_,H1,rfl,I1.kept (t':=s1.toks) λb o e=>u5 _ e,zfh a _,⟨_,r6 _ rfl,rfl,rfl⟩,λb hb=>?_,q⟩
  have e:b=s1.heap.objs.size:=by simpa using hb
  subst e
  exact I1.fpOk (q5 _) (I1.hok.fresh (q5 _))
 .subst e
  cases r1
  obtain⟨its,rv,p,hz⟩:=I1.tuple hq
  refine u0P (show s1.heap.IsTuple a its.toArray from p) ?_
  refine⟨s1.heap.objs.size,[s1.heap.objs.size],_,_,H1,rfl,I1.kept (t':=s1.toks) λb o e=>u5 _ e,zek a _,⟨_,r6 _ rfl,rfl,rfl⟩,λb hb=>?_,q⟩
  have e:b=s1.heap.objs.size:=by simpa using hb
  subst e
  exact I1.fpOk (q5 _) (I1.hok.fresh (q5 _))
end
end L2
namespace Dl
open PySem L2
variable [KK]
def zkx (J:It)(F:Hp)(ds:List D):Prop:=∀ (i:Nat) (F2 H2:Hp),yn F F2->yn F2 H2->(i=ds.length->J.stop i H2) /\
 ∀ d,ds[i]?=some d->J.go i H2/\∀ x H3,J.yld i H2 x H3->∃ F3,Gr F2 H2 F3 H3/\At F3 d x
def RI (wi:TI)(f:Ev->Option (List D)):Prop :=
 ∀ (σ:St) (ρ:Ev) (F H:Hp) (ds:List D) (R:It->Hp->Prop),yn F H->VAt F ρ σ->f ρ=some ds->(∀ F' H' J,Gr F H F' H'->zkx J F' ds->R J H')->wi σ H R
def ID (X:Cx)(tg iter:Expr)(f:Ev->Option (List D)):Prop:=∃ wi,PI X tg iter wi/\RI wi f
def xC:D->Option (List D)
 | .lst ds=>some ds
 | .tup ds=>some ds
 | _=>none
section
variable {X:Cx}{tg a b c e:Expr}{pos:Pos}
theorem zlT {K:W.Frag}{F:Hp}{p:Addr}{xs:List V}{ds:List D}(h:F p=some (.lst xs))(al:AtL F ds xs):zkx (Itl K p) F ds:=by
 intro i F2 H2 s1 s2
 have q:SqL K H2 p xs:=SqL.of (s2 _ _ (s1 _ _ h))
 refine⟨λhl=>⟨xs,q,by rw[al.length,hl];exact q5 _⟩,λd hd=>?_⟩
 obtain⟨x,hx,ax⟩:=al.get hd
 refine⟨⟨xs,x,q,hx⟩,λy H3 hy=>?_⟩
 obtain⟨rfl,hy⟩:=hy
 have:=hy xs q
 rw[hx]at this
 cases this
 exact⟨F2,.refl s2,ax.mono s1⟩
theorem zmj {K:W.Frag}{F:Hp}{p:Addr}{xs:List V}{ds:List D}(h:F p=some (.tup xs))(al:AtL F ds xs):zkx (Itt K p) F ds:=by
 intro i F2 H2 s1 s2
 have q:SqT K H2 p xs:=SqT.of (s2 _ _ (s1 _ _ h))
 refine⟨λhl=>⟨xs,q,by rw[al.length,hl];exact q5 _⟩,λd hd=>?_⟩
 obtain⟨x,hx,ax⟩:=al.get hd
 refine⟨⟨xs,x,q,hx⟩,λy H3 hy=>?_⟩
 obtain⟨rfl,hy⟩:=hy
 have:=hy xs q
 rw[hx]at this
 cases this
 exact⟨F2,.refl s2,ax.mono s1⟩
def iOf (f:Ev->Option D):Ev->Option (List D):=fun ρ=>(f ρ).bind xC
theorem WS {f:Ev->Option D}(ha:ED X a f):ID X tg a (iOf f):=by
 obtain⟨t,p,r⟩:=ha
 refine⟨_,zkX p,fun σ ρ F H ds R s va e q=>?_⟩
 obtain⟨d,e1,e2⟩:=u4.mp e
 refine r σ ρ F H d _ s va e1 λF1 H1 v g1 a1=>?_
 cases d <;> try cases e2
 .obtain⟨p,xs,rfl,hx,al⟩:=a1.tup_inv
  exact .inr ⟨p,rfl,⟨xs,SqT.of (g1.fh _ _ hx)⟩,q F1 H1 _ g1 (zmj hx al)⟩
 .obtain⟨p,xs,rfl,hx,al⟩:=a1.lst_inv
  exact .inl ⟨p,rfl,⟨xs,SqL.of (g1.fh _ _ hx)⟩,q F1 H1 _ g1 (zlT hx al)⟩
def Wq (lo:Int)(n:Nat):List D:=(List.range n).map λk:Nat=>.int (lo+k)
theorem zgr {F:Hp}(lo:Int)(n:Nat):zkx (Itr lo n) F (Wq lo n):=by
 intro i F2 H2 s1 s2
 have hlen:(Wq lo n).length=n:=by unfold Wq;simp
 refine⟨λhl=>by rw[hlen]at hl;rw[hl];exact q5 _,λd hd=>?_⟩
 have hi:i < n:=by
  have:=(u8.mp hd).1
  omega
 refine⟨hi,λy H3 hy=>?_⟩
 obtain⟨rfl,rfl⟩:=hy
 refine⟨F2,.refl s2,?_⟩
 unfold Wq at hd
 rw[r9,u1v hi]at hd
 cases hd
 exact .int
@[irreducible] def zg0 (j:Int):Bool:=decide (-(2 ^ 62)<=j/\j < 2 ^ 62)
omit [KK] in
theorem yQ {j:Int}:zg0 j=true↔-(2 ^ 62)<=j/\j < 2 ^ 62:=by unfold zg0;exact decide_eq_true_iff
def vb:List D->Option (List D)
 | [.int j]=>if zg0 j=true then some (Wq 0 j.toNat)else none
 | _=>none
def Vu:List D->Option (List D)
 | [.int i,.int j]=>if zg0 i=true/\zg0 j=true then some (Wq i (j - i).toNat)else none
 | _=>none
def WF (g:List D->Option (List D))(f:Ev->Option (List D)):Ev->Option (List D):=fun ρ=>(f ρ).bind g
theorem zbt {p:Pos} {f:Ev->Option (List D)} (hg:Gl X "range") (hm:X.mg "range"=none) (ha:AD X [a] f) (hs:starEach [a] X.env=[(false,eval a X.env)]:=by rfl):ID X tg (.Call (.Name "range" p) [a] [] pos) (WF vb f):=by
 obtain⟨t,pa,r⟩:=ha
 refine⟨_,zcc hg hm pa hs,fun σ ρ F H ds R s va e q=>?_⟩
 obtain⟨d,e1,e2⟩:=u4.mp e
 refine r σ ρ F H d _ s va e1 λF1 H1 v g1 a1=>?_
 unfold vb at e2
 split at e2
 .split at e2
  .cases e2
   rename_i hc
   obtain⟨x,r',rfl,ax,ar⟩:=a1.cons_inv
   cases ar.nil_inv
   exact⟨_,by rw[ax.int_inv],(yQ.mp hc).1,(yQ.mp hc).2,q F1 H1 _ g1 (zgr 0 _)⟩
  .cases e2
 .cases e2
def Xv (n:Nat):List D->List D
 | []=>[]
 | d::ds=>.tup [.int n,d]::Xv (n+1) ds
omit [KK] in
theorem vR (ds:List D):∀ (n i:Nat),(Xv n ds)[i]?=(ds[i]?).map λd=>.tup [.int ((n+i:Nat):Int),d]:=by
 induction ds with
 | nil=>intro n i;simp[Xv]
 | cons d ds ih =>
  intro n i
  cases i with
  | zero=>simp[Xv]
  | succ i =>
   show(Xv (n+1) ds)[i]?=(ds[i]?).map _
   rw[ih]
   have:n+1+i=n+(i+1):=by omega
   rw[this]
omit [KK] in
theorem xg (ds:List D):∀ n,(Xv n ds).length=ds.length:=by
 induction ds with
 | nil=>intro n;rfl
 | cons d ds ih=>intro n;simp[Xv,ih]
def yr (f:Ev->Option (List D)):Ev->Option (List D):=fun ρ=>(f ρ).bind λas=>match as with
 | [d]=>(xC d).map (Xv 0)
 | _=>none
theorem zaz {es:List Expr} {k:Nat} {tp p:Pos} {f:Ev->Option (List D)} (hg:Gl X "enumerate") (hm:X.mg "enumerate"=none) (hb:bootBuiltins "enumerate"=some (.type "enumerate")) (ha:AD X [a] f)
 (hs:starEach [a] X.env=[(false,eval a X.env)]:=by rfl):ID X (.Tuple es k tp) (.Call (.Name "enumerate" p) [a] [] pos) (yr f):=by
 obtain⟨t,pa,r⟩:=ha
 refine⟨_,zjo hg hm hb pa hs,fun σ ρ F H ds R s va e q=>?_⟩
 obtain⟨as,e1,e2⟩:=u4.mp e
 refine r σ ρ F H as _ s va e1 λF1 H1 v g1 a1=>?_
 split at e2
 .obtain⟨x,r',rfl,ax,ar⟩:=a1.cons_inv
  cases ar.nil_inv
  obtain⟨es,e3,rfl⟩:=t9.mp e2
  rename_i d
  cases d <;> try cases e3
  .obtain⟨p,xs,rfl,hx,al⟩:=ax.tup_inv
   refine⟨p,rfl,.inr ⟨xs,SqT.of (g1.fh _ _ hx),q F1 H1 _ g1 λi F2 H2 s1 s2=>?_⟩⟩
   have qq:SqT X.K H2 p xs:=SqT.of (s2 _ _ (s1 _ _ hx))
   refine⟨λhl=>⟨xs,qq,by rw[al.length,hl,xg];exact q5 _⟩,λd hd=>?_⟩
   rw[vR]at hd
   obtain⟨d',hd',rfl⟩:=t9.mp hd
   obtain⟨x,hxi,ax⟩:=al.get hd'
   refine⟨⟨xs,x,qq,hxi⟩,λy H3 hy=>?_⟩
   obtain⟨T,y,rfl,hT,rfl,hy⟩:=hy
   have:=hy xs qq
   rw[hxi]at this
   cases this
   have g3:=Gr.alloc s2 hT (.tup [.int i,x])
   exact⟨_,g3,.tup zq (.cons (by rw[u02];exact .int) (.cons (ax.mono (s1.trans g3.ff)) .nil))⟩
  .obtain⟨p,xs,rfl,hx,al⟩:=ax.lst_inv
   refine⟨p,rfl,.inl ⟨xs,g1.fh _ _ hx,q F1 H1 _ g1 λi F2 H2 s1 s2=>?_⟩⟩
   have qq:SqL X.K H2 p xs:=SqL.of (s2 _ _ (s1 _ _ hx))
   refine⟨λhl=>⟨xs,qq,by rw[al.length,hl,xg];exact q5 _⟩,λd hd=>?_⟩
   rw[vR]at hd
   obtain⟨d',hd',rfl⟩:=t9.mp hd
   obtain⟨x,hxi,ax⟩:=al.get hd'
   refine⟨⟨xs,x,qq,hxi⟩,λy H3 hy=>?_⟩
   obtain⟨T,y,rfl,hT,rfl,hy⟩:=hy
   have:=hy xs qq
   rw[hxi]at this
   cases this
   have g3:=Gr.alloc s2 hT (.tup [.int i,x])
   exact⟨_,g3,.tup zq (.cons (by rw[u02];exact .int) (.cons (ax.mono (s1.trans g3.ff)) .nil))⟩
 .cases e2
def hb2 (F1 Hb:Hp):Hp:=λp=>match F1 p with
 | some o=>some o
 | none=>Hb p
theorem Wt {F1 Hb:Hp}{p:Addr}(h:F1 p=none):hb2 F1 Hb p=Hb p:=by unfold hb2;rw[h]
theorem zhG {F1 Hb:Hp}{p:Addr}{o:HO}(h:F1 p=some o):hb2 F1 Hb p=some o:=by unfold hb2;rw[h]
theorem Gr.up {Fb Hb F1 H1 F H:Hp}(g1:Gr Fb Hb F1 H1)(g:Gr F1 (hb2 F1 Hb) F H):Gr Fb Hb F H:=by
 refine⟨g1.ff.trans g.ff,g.fh,λp o e1 e2=>?_⟩
 rcases(g1.kp p o e1 e2).1 with n | ⟨n1,n2⟩
 .exact g.kp p o n (by rw[Wt n];exact e2)
 .exact⟨.inr ⟨n1,g.ff _ _ n2⟩,g.fh _ _ (g.ff _ _ n2)⟩
theorem Gr.dn {Fb Hb F1 F H:Hp}(g:Gr Fb Hb F H)(s1:yn Fb F1)(s:yn F1 F):Gr F1 (hb2 F1 Hb) F H:=by
 refine⟨s,g.fh,λp o e1 e2=>?_⟩
 rw[Wt e1]at e2
 exact g.kp p o (s1.free e1) e2
theorem Rl.up {Fb Hb F1 H1 F H:Hp}{ρ:SE}{σ:St}(g1:Gr Fb Hb F1 H1)(r:Rl F1 (hb2 F1 Hb) F H ρ σ):Rl Fb Hb F H ρ σ:=by
 refine⟨g1.up r.gr,r.vals,λi s e ho=>?_,r.dis,r.len⟩
 obtain⟨p,o,e1,e2,e3⟩:=r.ows i s e ho
 refine⟨p,o,e1,?_,e3⟩
 cases h:F1 p with
 | none=>rw[Wt h]at e2;exact e2
 | some o=>rw[zhG h]at e2;cases e2
theorem Rl.dn {Fb Hb F1 F H:Hp}{ρ:SE}{σ:St}(r:Rl Fb Hb F H ρ σ)(s1:yn Fb F1)(s:yn F1 F):Rl F1 (hb2 F1 Hb) F H ρ σ:=by
 refine⟨r.gr.dn s1 s,r.vals,λi t e ho=>?_,r.dis,r.len⟩
 obtain⟨p,o,e1,e2,e3,e4⟩:=r.ows i t e ho
 refine⟨p,o,e1,?_,e3,e4⟩
 rw[Wt (s.free e3)]
 exact e2
def zgU (b:D->SE->Option SE)(g:SE->Ctl):List D->SE->Ctl
 | [],ρ=>.nx ρ
 | d::ds,ρ=>match b d ρ with
  | none=>.no
  | some ρ1=>match g ρ1 with
   | .nx ρ'=>zgU b g ds ρ'
   | .ct ρ'=>zgU b g ds ρ'
   | .bk ρ'=>.nx ρ'
   | .rt d=>.rt d
   | .no=>.no
def ZQ (f:Ev->Option (List D))(b:D->SE->Option SE)(g:SE->Ctl):SE->Ctl:=fun ρ=>match f (visF ρ) with
 | some ds=>zgU b g ds ρ
 | none=>.no
theorem zeA {Fb Hb F1 H1:Hp}{ρ:SE}{σ:St}{E:zch}{J:It}{g:TG}{tb:TS}{ds:List D}{b:D->SE->Option SE}{gb:SE->Ctl}(hit:zkx J F1 ds)(rg:RG g b)(rb:RS tb gb)(rl0:Rl Fb Hb F1 H1 ρ σ)(k:SOk Fb Hb E (zgU b gb ds ρ)) :
 ∃ W:Nat->Nat->St->Hp->Prop,(∃ m,W 0 m σ H1)/\∀ i m σ H,W i m σ H ->
  (J.stop i H/\E.nx σ H)\/(J.go i H/\∃ N:St->Hp->Prop,(∀ σ' H',N σ' H'->∃ m',m' < m/\W (i+1) m' σ' H')/\∀ x H',J.yld i H x H'->g x σ H' fun σ2 H2=>tb { E with nx:=N,ct:=N,bk:=E.nx } σ2 H2):=by
 refine⟨λi m σ H=>m=ds.length - i/\i<=ds.length/\∃ F ρ,yn F1 F/\Rl Fb Hb F H ρ σ/\SOk Fb Hb E (zgU b gb (ds.drop i) ρ),⟨ds.length,by simp,u0D _,F1,ρ,yn.refl _,rl0,k⟩,?_⟩
 rintro i m σ H ⟨rfl,hi,F,ρ,s1,rl,k⟩
 obtain⟨stop,go⟩:=hit i F H s1 rl.gr.fh
 by_cases hlt:i < ds.length
 .have hd:ds.drop i=ds[i]::ds.drop (i+1):=u0z hlt
  rw[hd]at k
  unfold zgU at k
  obtain⟨g1,g2⟩:=go ds[i] (by simp[hlt])
  refine .inr ⟨g1,fun σ H=>∃ F ρ,yn F1 F/\Rl Fb Hb F H ρ σ/\SOk Fb Hb E (zgU b gb (ds.drop (i+1)) ρ),fun σ' H' w=>⟨ds.length - (i+1),by omega,rfl,hlt,w⟩,λx H' hy=>?_⟩
  obtain⟨F3,g3,a3⟩:=g2 x H' hy
  cases hb:b ds[i] ρ with
  | none=>rw[hb]at k;exact k.elim
  | some ρ1 =>
   rw[hb]at k
   dsimp only at k
   refine rg Fb Hb F3 H' ρ ρ1 σ _ x _ (rl.grow g3) a3 hb fun σ2 rl2=>?_
   have s3:=s1.trans g3.ff
   refine rb F1 (hb2 F1 Hb) F3 H' ρ1 σ2 _ (rl2.dn rl0.gr.ff s3) ?_
   cases hg:gb ρ1 with
   | nx ρ'=>rw[hg]at k;exact λF4 H4 σ4 r4=>⟨F4,ρ',r4.gr.ff,r4.up rl0.gr,k⟩
   | ct ρ'=>rw[hg]at k;exact λF4 H4 σ4 r4=>⟨F4,ρ',r4.gr.ff,r4.up rl0.gr,k⟩
   | bk ρ'=>rw[hg]at k;exact λF4 H4 σ4 r4=>k F4 H4 σ4 (r4.up rl0.gr)
   | rt d=>rw[hg]at k;exact λF4 H4 v g4 a4=>k F4 H4 v (rl0.gr.up g4) a4
   | no=>rw[hg]at k;exact k.elim
 .have e:i=ds.length:=by omega
  subst e
  rw[u2a]at k
  exact .inl ⟨stop rfl,k F H σ rl⟩
theorem ZE {iter:Expr}{body:List Stmt}{f:Ev->Option (List D)}{b:D->SE->Option SE}{g:SE->Ctl}(hp:PassesOwn (model X.prog X.w) X.A X.env X.xe)(hc:X.calm=true)(hi:ID X tg iter f)(hg:BD X tg b)(hb:SDs X body g)
 (hs:∀ x,foldedSetIterable iter X.env x=pure x:=by intro _;rfl):SD X (.For tg iter body [] pos) (ZQ f b g):=by
 obtain⟨wi,pi,ri⟩:=hi
 obtain⟨tg',pg,rg⟩:=hg
 obtain⟨tb,pb,rb⟩:=hb
 refine⟨_,zeV hp hc pi pg pb hs,λFb Hb F H ρ σ E rl k=>?_⟩
 unfold ZQ at k
 cases h:f (visF ρ) with
 | none=>rw[h]at k;exact k.elim
 | some ds =>
  rw[h]at k
  exact ri σ _ _ H ds _ rl.gr.fh rl.visF h λF1 H1 J g1 ok=>zeA ok rg rb (rl.grow g1) k
end
def lcD (b:D->Option (List (Option D)))(t:Ev->Option Bool)(f:Ev->Option D)(ρ:Ev):List D->Option (List D)
 | []=>some []
 | d::ds=>(b d).bind λown=>(t (own++ρ)).bind λc=>if c=true then (f (own++ρ)).bind λy=>(lcD b t f ρ ds).map (y::·)else lcD b t f ρ ds
def fLC (i:Ev->Option (List D))(b:D->Option (List (Option D)))(t:Ev->Option Bool)(f:Ev->Option D):Ev->Option (List D):=fun ρ=>(i ρ).bind λds=>if lim ds.length=true then lcD b t f ρ ds else none
def b1:D->Option (List (Option D)):=λd=>some [some d]
def b2:D->Option (List (Option D))
 | .tup [x,y]=>some [some x,some y]
 | _=>none
def RB (n:Nat)(t:TG)(b:D->Option (List (Option D))):Prop:=∀ (σ:St) (ρ:Ev) (F H:Hp) (d:D) (v:V) (own:List (Option D)) (Q:St->Hp->Prop),yn F H->VAt F ρ σ->At F d v->b d=some own->(∀ σ',VAt F (own++ρ) σ'->Q σ' H)->t v (List.replicate n none++σ) H Q
def wY:Ev->Option Bool:=λ_=>some true
theorem zi0:RT tYes wY:=λ_ _ _ _ _ _ s _ e q=>by cases e;exact q _ _ (.refl s)
theorem zj7 {wi:TI}{n:Nat}{g:TG}{tt:TT}{te:TE}{fi:Ev->Option (List D)}{b:D->Option (List (Option D))}{ft:Ev->Option Bool}{fe:Ev->Option D}(ri:RI wi fi)(rg:RB n g b)(rt:RT tt ft)(re:RE te fe) :
 RF (tLC wi n g tt te) (fLC fi b ft fe):=by
 intro σ ρ F H out Q s va e q
 obtain⟨ds,e1,e2⟩:=u4.mp e
 split at e2 <;> try cases e2
 rename_i hlim
 have hlim:ds.length<=sizeLine:=p6 hlim
 refine ri σ ρ F H ds _ s va e1 λF1 H1 J g1 ok=>?_
 intro P hP
 have hF1:F1 P=none:=g1.fh.free hP
 have hH0:H P=none:=by
  cases e:H P with
  | none=>rfl
  | some o =>
   cases e2:F P with
   | none=>rw[(g1.kp P o e2 e).2]at hP;cases hP
   | some u=>rw[g1.fh _ _ (g1.ff _ _ e2)]at hP;cases hP
 refine⟨λi m ys H2=>m=ds.length - i/\i<=ds.length/\∃ F2 done,Gr F1 H1 F2 H2/\Gr F1 (upd H1 P (.lst [])) F2 (upd H2 P (.lst []))/\F2 P=none/\H2 P=some (.lst ys)/\AtL F2 done ys/\done.length<=i/\∃ more,lcD b ft fe ρ (ds.drop i)=some more/\done++more=out,⟨ds.length,by simp,u0D _,F1,[],Gr.hide g1.fh hP _,?_,hF1,zq,.nil,u0D _,out,e2,rfl⟩,?_⟩
 .rw[zfm]
  exact .refl λb u z=>by rw[zn (zj z hF1)];exact g1.fh b u z
 rintro i m ys H2 ⟨rfl,hi,F2,done,g2,g2',hF2,hH2,al,hdl,more,hm,hout⟩
 obtain⟨stop,go⟩:=ok i F2 H2 g2.ff g2.fh
 by_cases hlt:i < ds.length
 .have hd:ds.drop i=ds[i]::ds.drop (i+1):=u0z hlt
  rw[hd]at hm
  unfold lcD at hm
  obtain⟨own,hb,hm⟩:=u4.mp hm
  obtain⟨cb,hc,hm⟩:=u4.mp hm
  obtain⟨k1,k2⟩:=go ds[i] (by simp[hlt])
  refine .inr ⟨k1,by rw[al.length];omega,λx H3 hy=>?_⟩
  obtain⟨F3,g3,a3⟩:=k2 x H3 hy
  refine rg σ ρ F3 H3 ds[i] x own _ g3.fh (va.mono (g1.ff.trans (g2.ff.trans g3.ff))) a3 hb fun σ4 va4=>?_
  refine rt σ4 _ F3 H3 cb _ g3.fh va4 hc λF5 H5 g5=>?_
  have g35:=g3.trans g5
  obtain⟨n5,h5⟩:=g35.kl (λ_ e=>by cases e) hF2 hH2
  have keep2:∀ {F6 H6:Hp} {o:HO},Gr F2 H2 F6 H6->F6 P=none->Gr F1 (upd H1 P (.lst [])) F6 (upd (upd H6 P o) P (.lst [])):=λ{F6 H6 o} g6 n6=>by
   rw[zfm]
   refine⟨g2.ff.trans g6.ff,λb u z=>?_,λb u z1 z2=>?_⟩
   .rw[zn (zj z n6)];exact g6.fh b u z
   .by_cases hbP:b=P
    .subst hbP
     rw[zq]at z2 ⊢
     exact⟨.inl n6,z2⟩
    .rw[zn hbP]at z2 ⊢
     exact(g2.trans g6).kp b u z1 z2
  have keep1:∀ {F6 H6:Hp} {o:HO},Gr F2 H2 F6 H6->F6 P=none->Gr F1 H1 F6 (upd H6 P o):=λ{F6 H6 o} g6 n6=>by
   refine⟨g2.ff.trans g6.ff,λb u z=>?_,λb u z1 z2=>?_⟩
   .rw[zn (zj z n6)];exact g6.fh b u z
   .rw[zn (zj z2 hP)]
    exact(g2.trans g6).kp b u z1 z2
  cases cb with
  | false =>
   rw[j6 u6]at hm ⊢
   have ups:H5=upd H5 P (.lst ys):=by
    funext b
    by_cases hbP:b=P
    .subst hbP;rw[zq];exact h5
    .rw[zn hbP]
   refine⟨ds.length - (i+1),by omega,rfl,hlt,F5,done,?_,?_,n5,h5,al.mono g35.ff,by omega,more,hm,hout⟩
   .rw[ups];exact keep1 g35 n5
   .have:=keep2 (o:=.lst ys) g35 n5
    rw[<-ups]at this
    exact this
  | true =>
   rw[j4 rfl]at hm ⊢
   obtain⟨y,hy,hm⟩:=u4.mp hm
   obtain⟨rest,hm',rfl⟩:=t9.mp hm
   refine re σ4 _ F5 H5 y _ g5.fh (va4.mono g5.ff) hy λF6 H6 v g6 a6=>?_
   have g36:=g35.trans g6
   obtain⟨n6,h6⟩:=g36.kl (λ_ e=>by cases e) hF2 hH2
   refine⟨h6,ds.length - (i+1),by omega,rfl,hlt,F6,done++[y],keep1 g36 n6,keep2 g36 n6,n6,zq,(al.mono g36.ff).snoc a6,by rw[j9];simp;omega,rest,hm',by rw[<-hout,p5];rfl⟩
 .have e:i=ds.length:=by omega
  subst e
  rw[u2a]at hm
  cases hm
  rw[u0l]at hout
  subst hout
  exact .inl ⟨stop rfl,q F2 H2 P ys (g1.trans g2) hH0 hF2 hH2 al⟩
theorem rb1:RB 1 (VC 0) b1:=by
 intro σ ρ F H d v own Q s va av e q
 cases e
 refine q _ λi d' h=>?_
 cases i with
 | zero=>cases h;exact⟨v,rfl,av⟩
 | succ i=>exact va i d' h
def tCan (f:Ev->Option D):TE:=fun σ H Q=>∃ ρ F d,yn F H/\VAt F ρ σ/\f ρ=some d/\∀ F' H' v,Gr F H F' H'->At F' d v->Q v H'
def zkD (f:Ev->Option Bool):TT:=fun σ H Q=>∃ ρ F d,yn F H/\VAt F ρ σ/\f ρ=some d/\∀ F' H',Gr F H F' H'->Q d H'
theorem ED.can {X:Cx}{e:Expr}{f:Ev->Option D}(h:ED X e f):PE X e (tCan f):=by
 obtain⟨t,p,r⟩:=h
 rintro pins s σ H Q I ⟨ρ,F,d,h1,h2,h3,h4⟩
 exact p pins s σ H Q I (r σ ρ F H d Q h1 h2 h3 h4)
theorem TD.can {X:Cx}{e:Expr}{f:Ev->Option Bool}(h:TD X e f):PT X e (zkD f):=by
 obtain⟨t,p,r⟩:=h
 rintro pins s σ H Q I ⟨ρ,F,d,h1,h2,h3,h4⟩
 exact p pins s σ H Q I (r σ ρ F H d Q h1 h2 h3 h4)
theorem V5 {f:Ev->Option D}:RE (tCan f) f:=λ_ ρ F _ d _ h1 h2 h3 h4=>⟨ρ,F,d,h1,h2,h3,h4⟩
theorem zmr {f:Ev->Option Bool}:RT (zkD f) f:=λ_ ρ F _ d _ h1 h2 h3 h4=>⟨ρ,F,d,h1,h2,h3,h4⟩
theorem zkV {X:Cx}{elt tg iter:Expr}{L M:List Str}{scope:Scope}{cl:List (Str × Addr)}{pos:Pos}{fi:Ev->Option (List D)}{b:D->Option (List (Option D))}{fe:Ev->Option D}{g:TG}
 (hc:X.calm=true) (S:xF X L M scope cl) (hi:ID X tg iter fi)
 (hgS:∀ (σ:St) (v:V) (H:Hp) (Q:St->Hp->Prop),g v (List.replicate L.length none++σ) H Q->g v (List.replicate L.length none++σ) H (fun σ2 H2=>X8 (List.replicate L.length none++σ) σ2/\Q σ2 H2))
 (hrb:RB L.length g b)
 (hg:∀ s₀ H₀ ex pn,PG (zbr X L M scope cl s₀ H₀ ex pn) tg g) (he:∀ s₀ H₀ ex pn,ED (zbr X L M scope cl s₀ H₀ ex pn) elt fe)
 (hs:∀ x,foldedSetIterable iter X.env x=pure x:=by intro _;rfl):FL X (.ListComp elt [⟨tg,iter,[],0⟩] scope pos) (fLC fi b wY fe):=by
 obtain⟨wi,pi,ri⟩:=hi
 exact⟨_,ziA hc S pi hgS hg (λ_ _ _ _=>zgD) (λ_ _ _ _=>(he _ _ _ _).can) hs,zj7 ri hrb zi0 V5⟩
theorem ze2 {X:Cx}{elt tg iter c:Expr}{L M:List Str}{scope:Scope}{cl:List (Str × Addr)}{pos:Pos}{fi:Ev->Option (List D)}{b:D->Option (List (Option D))}{ft:Ev->Option Bool}{fe:Ev->Option D}{g:TG}
 (hc:X.calm=true) (S:xF X L M scope cl) (hi:ID X tg iter fi)
 (hgS:∀ (σ:St) (v:V) (H:Hp) (Q:St->Hp->Prop),g v (List.replicate L.length none++σ) H Q->g v (List.replicate L.length none++σ) H (fun σ2 H2=>X8 (List.replicate L.length none++σ) σ2/\Q σ2 H2))
 (hrb:RB L.length g b)
 (hg:∀ s₀ H₀ ex pn,PG (zbr X L M scope cl s₀ H₀ ex pn) tg g) (ht:∀ s₀ H₀ ex pn,TD (zbr X L M scope cl s₀ H₀ ex pn) c ft) (he:∀ s₀ H₀ ex pn,ED (zbr X L M scope cl s₀ H₀ ex pn) elt fe)
 (hs:∀ x,foldedSetIterable iter X.env x=pure x:=by intro _;rfl):FL X (.ListComp elt [⟨tg,iter,[c],0⟩] scope pos) (fLC fi b ft fe):=by
 obtain⟨wi,pi,ri⟩:=hi
 exact⟨_,ziA hc S pi hgS hg (λ_ _ _ _=>zju (ht _ _ _ _).can) (λ_ _ _ _=>(he _ _ _ _).can) hs,zj7 ri hrb zmr V5⟩
theorem zlM {t:TE}{f:Ev->Option (List D)}(r:RF t f):RE t (x5 f):=by
 intro σ ρ F H d Q s va e q
 obtain⟨ds,e1,rfl⟩:=t9.mp e
 refine r σ ρ F H ds Q s va e1 λF' H' p xs g h0 hF hH hx=>?_
 have g2:=g.show h0 hF hH
 exact q _ _ _ g2 (At.lst zq (hx.mono (λb u e=>by rw[zn (zj e hF)];exact e)))
def FLS (X:Cx)(i:Nat)(st:Stmt)(f:Ev->Option (List D)):Prop:=∃ t,PS X st (zku t (VC i))/\RF t f
theorem zjS {m:Bool}{i:Nat}{st:Stmt}{f:Ev->Option (List D)}(he:FLS X i st f):SD X st (x8 m i (x5 f)):=by
 obtain⟨t,p,r⟩:=he
 refine⟨_,p,λFb Hb F H ρ σ E rl k=>?_⟩
 unfold x8 at k
 cases h:vEv m (x5 f) ρ with
 | none=>rw[h]at k;exact k.elim
 | some d =>
  rw[h]at k
  exact(zlM r).at rl h λF' H' v g av=>k F' H' _ ((rl.grow g).set av)
theorem zj8 {i:Nat}{x:Str}{px spos:Pos}{X:Cx}{elt tg iter:Expr}{L M:List Str}{scope:Scope}{cl:List (Str × Addr)}{pos:Pos}{fi:Ev->Option (List D)}{b:D->Option (List (Option D))}{fe:Ev->Option D}{g:TG}
 (hN:X.N.Nodup) (hi':X.N[i]?=some x) (hx:Loc X.env.scope x) (hc:X.calm=true) (S:xF X L M scope cl) (hi:ID X tg iter fi)
 (hgS:∀ (σ:St) (v:V) (H:Hp) (Q:St->Hp->Prop),g v (List.replicate L.length none++σ) H Q->g v (List.replicate L.length none++σ) H (fun σ2 H2=>X8 (List.replicate L.length none++σ) σ2/\Q σ2 H2))
 (hrb:RB L.length g b)
 (hg:∀ s₀ H₀ ex pn,PG (zbr X L M scope cl s₀ H₀ ex pn) tg g) (he:∀ s₀ H₀ ex pn,ED (zbr X L M scope cl s₀ H₀ ex pn) elt fe)
 (hs:∀ x,foldedSetIterable iter X.env x=pure x:=by intro _;rfl)
 (hsw:swapsWith (.ListComp elt [⟨tg,iter,[],0⟩] scope pos) (some (.Name x px)) spos.line X.env=pure true:=by rfl)
 (hf:X.fn x=true\/X.env.scope.names.lookup x=some .local:=by first | exact .inl rfl | exact .inr rfl | assumption):FLS X i (.Assign [.Name x px] (.ListComp elt [⟨tg,iter,[],0⟩] scope pos) spos) (fLC fi b wY fe):=by
 obtain⟨wi,pi,ri⟩:=hi
 exact⟨_,zlF hN hi' hx hc S pi hgS hg (λ_ _ _ _=>zgD) (λ_ _ _ _=>(he _ _ _ _).can) hs hsw hf,zj7 ri hrb zi0 V5⟩
def fnD (n:Nat)(g:SE->Ctl)(ds:List D):Option D:=match g (ds.map .v++List.replicate (n - ds.length) .no) with
 | .rt d=>some d
 | .nx _=>some .non
 | _=>none
def spD (m:Nat)(p:List D->Option D):Sp:=λvs H Q _=>∃ ds d F,ds.length=m/\yn F H/\AtL F ds vs/\p ds=some d/\∀ F' H' v,Gr F H F' H'->At F' d v->Q v H'
theorem zaN {F H:Hp}{N:List Str}{ds:List D}{vs:List V}(s:yn F H)(a:AtL F ds vs):Rl F H F H (ds.map .v++List.replicate (N.length - ds.length) .no) (L2.start N vs):=by
 have hl:=a.length
 have noO:∀ (i:Nat) (t:Sl),(ds.map Sl.v++List.replicate (N.length - ds.length) Sl.no)[i]?=some t->t.isO=true->False:=λi t h ho=>by
  by_cases hi:i < ds.length
  .rw[u0R (by simpa using hi),r9]at h
   cases e:ds[i]? with
   | none=>rw[e]at h;cases h
   | some d=>rw[e]at h;cases h;cases ho
  .rw[u0j (by simpa using hi),u06]at h
   split at h <;> cases h
   cases ho
 refine⟨.refl s,λi d h=>?_,λi t h ho=>(noO i t h ho).elim,λi j p t u h _ ho=>(noO i t h ho).elim,?_⟩
 .by_cases hi:i < ds.length
  .rw[u0R (by simpa using hi),r9]at h
   cases e:ds[i]? with
   | none=>rw[e]at h;cases h
   | some d' =>
    rw[e]at h
    cases h
    obtain⟨x,hx,ax⟩:=a.get e
    refine⟨x,?_,ax⟩
    unfold L2.start
    rw[u0R (by simpa [hl]using hi),r9,hx]
    rfl
  .rw[u0j (by simpa using hi),u06]at h
   split at h <;> cases h
 .unfold L2.start
  simp[hl]
theorem y4 {P:Program}{w:World}{K:W.Frag}{mg:Str->Option Value}{base:Heap}{x qual:Str}{st:Stmt}{f:Addr}{fd:FuncData}{N ps:List Str}{k:Nat}{g:SE->Ctl}(Fu:Fun K x qual st f fd)(S:zx N ps (zk st))
 (hb:∀ (cdv:Value) (A:Around) (outer:List Env) (s:Shared) (H:Hp) (E:XK),ve k (A.deeper (PyProof.Rows.envOfC qual (zk st) s.heap.objs.size f cdv))->SDs (Vv CX0 P w K mg base N qual (zk st) f cdv A outer s H E).nox (xn st) g) :
 yU P w K mg base CX0 (k+1) f fd ps (spD ps.length (fnD N.length g)):=by
 refine Fu.ok S (λvs H Q E h=>?_) λcdv A outer s H vs Q E hr h=>?_
 .obtain⟨ds,d,F,hl,_,a,_⟩:=h
  rw[a.length];exact hl
 .obtain⟨ds,d,F,hl,sm,a,e,q⟩:=h
  obtain⟨t,p,r⟩:=hb cdv A outer s H E hr
  refine⟨t,p,r F H F H _ _ _ (zaN sm a) ?_⟩
  unfold fnD at e
  cases hg:g (ds.map .v++List.replicate (N.length - ds.length) .no) with
  | rt d'=>rw[hg]at e;cases e;exact λF' H' v g av=>q F' H' v g av
  | nx ρ=>rw[hg]at e;cases e;exact λF' H' σ rl=>q F' H' _ rl.gr .non
  | bk ρ=>rw[hg]at e;cases e
  | ct ρ=>rw[hg]at e;cases e
  | no=>rw[hg]at e;cases e
theorem Ym {P:Program}{w:World}{K:W.Frag}{mg:Str->Option Value}{base:Heap}{f:Addr}{fd:FuncData}{ps:List Str}{k m:Nat}{p q:List D->Option D}(F:yU P w K mg base CX0 k f fd ps (spD m p))(h:∀ ds d,ds.length=m->q ds=some d->p ds=some d):yU P w K mg base CX0 k f fd ps (spD m q) :=
 F.imp λvs H Q E ⟨ds,d,F',h1,h2,h3,h4,h5⟩=>⟨ds,d,F',h1,h2,h3,h ds d h1 h4,h5⟩
def zr (m:Nat)(p:List D->Option D)(f:Ev->Option (List D)):Ev->Option D:=fun ρ=>(f ρ).bind λds=>if ds.length=m then p ds else none
theorem zgX {X:Cx}{x:Str}{k m:Nat}{f:Addr}{fd:FuncData}{ps:List Str}{p:List D->Option D}{e:Expr}{es:List Expr}{pp pos:Pos}{fa:Ev->Option (List D)}(F:yU X.prog X.w X.K X.mg X.base CX0 k f fd ps (spD m p))(hr:ve k X.A)(hg:Gl X x)(hm:X.mg x=some (.ref f))(hk:W.keepIn X.K (.ref f)=true)(hb:zaS X.K fd ps [])
 (ha:AD X (e::es) fa) (hdb:(x == ("__debug__":Str))=false:=by decide) (he:starEach (e::es) X.env=(false,eval e X.env)::starEach es X.env:=by rfl) (hpl:(backTo pos (starEach es X.env)).any (·.1)=false:=by rfl) :
 ED X (.Call (.Name x pp) (e::es) [] pos) (zr m p fa):=by
 obtain⟨t,pa,r⟩:=ha
 refine⟨_,zgP F hr hg hm hk hb .nil zmV pa hdb he hpl,fun σ ρ F0 H d Q s va e q=>?_⟩
 obtain⟨ds,e1,e2⟩:=u4.mp e
 split at e2 <;> try cases e2
 rename_i hl
 refine r σ ρ F0 H ds _ s va e1 λF1 H1 vs g1 a1=>?_
 refine⟨ds,d,F1,hl,g1.fh,by rw[u0l];exact a1,e2,λF' H' v g av=>q F' H' v (g1.trans g) av⟩
end Dl
namespace Dl
open PySem L2
variable [KK]
section
variable {X:Cx}{a b c e:Expr}{pos:Pos}
theorem zz:bootBuiltins "isinstance"=some (.builtin "isinstance"):=by decide +kernel
theorem Yr:bootBuiltins "len"=some (.builtin "len"):=by decide +kernel
theorem ziP:bootBuiltins "min"=some (.builtin "min"):=by decide +kernel
theorem zdh:bootBuiltins "max"=some (.builtin "max"):=by decide +kernel
theorem Xz:bootBuiltins "sorted"=some (.builtin "sorted"):=by decide +kernel
theorem zgp:bootBuiltins "sum"=some (.builtin "sum"):=by decide +kernel
theorem zdK:bootBuiltins "int"=some (.type "int"):=by decide +kernel
theorem za1:bootBuiltins "bool"=some (.type "bool"):=by decide +kernel
theorem xU:bootBuiltins "tuple"=some (.type "tuple"):=by decide +kernel
theorem zfW:bootBuiltins "list"=some (.type "list"):=by decide +kernel
theorem zi7:bootBuiltins "str"=some (.type "str"):=by decide +kernel
theorem vg:bootBuiltins "enumerate"=some (.type "enumerate"):=by decide +kernel
theorem zcr:bootBuiltins "reversed"=some (.type "reversed"):=by decide +kernel
theorem zlU:bootBuiltins "zip"=some (.type "zip"):=by decide +kernel
def WH (C:Int->Int->Bool)(g:Int->Int->Int):D->D->Option D
 | .int i,.int j=>if C i j=true then some (.int (g i j))else none
 | _,_=>none
def vK (g:Int->Int->Int):D->D->Option D
 | .int i,.int j=>some (.int (g i j))
 | _,_=>none
def Vy (g:Int->Int->Bool):D->D->Option D
 | .int i,.int j=>some (.bl (g i j))
 | _,_=>none
theorem Xc {C:Int->Int->Prop}{Cb:Int->Int->Bool}{g:Int->Int->Int}(h:∀ i j,Cb i j=true->C i j):OpD (rI C λi j=>.int (g i j)) (WH Cb g):=by
 intro F H x y d e z Q s ax ay ez q
 cases d <;> try cases ez
 cases e <;> try cases ez
 unfold WH at ez
 dsimp only at ez
 split at ez <;> cases ez
 rename_i hc
 exact⟨_,_,ax.int_inv,ay.int_inv,h _ _ hc,q F H _ (.refl s) .int⟩
theorem zbP {g:Int->Int->Int}:OpD (rI0 λi j=>.int (g i j)) (vK g):=by
 intro F H x y d e z Q s ax ay ez q
 cases d <;> try cases ez
 cases e <;> try cases ez
 exact⟨_,_,ax.int_inv,ay.int_inv,q F H _ (.refl s) .int⟩
theorem xS {g:Int->Int->Bool}:OpD (rI0 λi j=>.bl (g i j)) (Vy g):=by
 intro F H x y d e z Q s ax ay ez q
 cases d <;> try cases ez
 cases e <;> try cases ez
 exact⟨_,_,ax.int_inv,ay.int_inv,q F H _ (.refl s) .bl⟩
theorem za7 {r r':R2}{g g':D->D->Option D}(h:OpD r g)(h':OpD r' g'):OpD (λx y H Q=>r x y H Q\/r' x y H Q) (λd e=>(g d e).or (g' d e)):=by
 intro F H x y d e z Q s ax ay ez q
 dsimp only at ez
 cases hg:g d e with
 | some z'=>rw[hg]at ez;cases ez;exact .inl (h F H x y d e z Q s ax ay hg q)
 | none=>rw[hg]at ez;exact .inr (h' F H x y d e z Q s ax ay ez q)
def zkQ:D->D->Option D
 | .tup a,.tup b=>if lim (a.length+b.length)=true then some (.tup (a++b))else none
 | _,_=>none
def zlP:D->D->Option (List D)
 | .lst a,.lst b=>if lim (a.length+b.length)=true then some (a++b)else none
 | _,_=>none
def zgG (d e:D):Option D:=(zlP d e).map .lst
def zlS:D->D->Option D
 | .str a,.str b=>if lim (a.length+b.length)=true then some (.str (a++b))else none
 | _,_=>none
theorem zhw {K:W.Frag}:OpD (ziB K) zkQ:=by
 intro F H x y d e z Q s ax ay ez q
 cases d <;> try cases ez
 cases e <;> try cases ez
 unfold zkQ at ez
 dsimp only at ez
 split at ez <;> cases ez
 rename_i hl
 obtain⟨p,xs,rfl,hx,al⟩:=ax.tup_inv
 obtain⟨p2,ys,rfl,hy,bl⟩:=ay.tup_inv
 refine⟨p,p2,xs,ys,rfl,rfl,SqT.of (s _ _ hx),SqT.of (s _ _ hy),by rw[al.length,bl.length];exact p6 hl,λe1=>?_,λ_ e2=>?_,λ_ _ r hr=>?_⟩
 .subst e1
  have:(_:List D)=[]:=u1n.mp al.length.symm
  subst this
  exact q F H _ (.refl s) (.tup hy bl)
 .subst e2
  have:(_:List D)=[]:=u1n.mp bl.length.symm
  subst this
  rw[u0l]at q
  exact q F H _ (.refl s) (.tup hx al)
 .have g:=Gr.alloc s hr (.tup (xs++ys))
  exact q _ _ _ g (.tup zq ((al.append bl).mono g.ff))
theorem ziu:OpD znh zgG:=by
 intro F H x y d e z Q s ax ay ez q
 cases d <;> try cases ez
 cases e <;> try cases ez
 unfold zgG zlP at ez
 dsimp only at ez
 split at ez <;> cases ez
 rename_i hl
 obtain⟨p,xs,rfl,hx,al⟩:=ax.lst_inv
 obtain⟨p2,ys,rfl,hy,bl⟩:=ay.lst_inv
 refine⟨p,p2,xs,ys,rfl,rfl,s _ _ hx,s _ _ hy,by rw[al.length,bl.length];exact p6 hl,λr hr=>?_⟩
 have g:=Gr.alloc s hr (.lst (xs++ys))
 exact q _ _ _ g (.lst zq ((al.append bl).mono g.ff))
theorem zhv:OpD (λx y H Q=>∃ i j,x=.str i/\y=.str j/\i.length+j.length<=sizeLine/\Q (.str (i++j)) H) zlS:=by
 intro F H x y d e z Q s ax ay ez q
 cases d <;> try cases ez
 cases e <;> try cases ez
 unfold zlS at ez
 dsimp only at ez
 split at ez <;> cases ez
 rename_i hl
 exact⟨_,_,ax.str_inv,ay.str_inv,p6 hl,q F H _ (.refl s) .str⟩
def Zw:D->D->Option D
 | .int i,.int j=>some (.int (i+j))
 | .tup a,.tup b=>if lim (a.length+b.length)=true then some (.tup (a++b))else none
 | .lst a,.lst b=>if lim (a.length+b.length)=true then some (.lst (a++b))else none
 | .str a,.str b=>if lim (a.length+b.length)=true then some (.str (a++b))else none
 | _,_=>none
theorem zcQ {r:R2}{g g':D->D->Option D}(h:OpD r g)(k:∀ d e z,g' d e=some z->g d e=some z):OpD r g':=λF H x y d e z Q s ax ay ez q=>h F H x y d e z Q s ax ay (k d e z ez) q
theorem wK {f h:Ev->Option D}(ha:ED X a f)(hb:ED X b h):ED X (.BinOp a .Add b pos) (zo Zw f h) :=
 WM (((zkz.or zg7).or zdl).or zed) (zcQ (za7 (za7 (za7 (zbP (g:=λi j=>i+j)) zhw) ziu) zhv) λd e z h=>by
  cases d <;> try cases h
  all_goals cases e <;> try cases h
  .rfl
  .unfold Zw at h;dsimp only at h;split at h <;> cases h;rename_i hl;simp[vK,zkQ,hl,zgG,zlP,zlS]
  .unfold Zw at h;dsimp only at h;split at h <;> cases h;rename_i hl;simp[vK,zkQ,hl,zgG,zlP,zlS]
  .unfold Zw at h;dsimp only at h;split at h <;> cases h;rename_i hl;simp[vK,zkQ,hl,zgG,zlP,zlS]) ha hb
def ziK (g:D->D->Option (List D))(f h:Ev->Option D):Ev->Option (List D):=fun ρ=>(f ρ).bind λx=>(h ρ).bind λy=>g x y
theorem zeS {F H F1 H1:Hp}{p:Addr}(g1:Gr F H F1 H1)(hp:H1 p=none):H p=none:=by
 cases e:H p with
 | none=>rfl
 | some o =>
  cases e2:F p with
  | none=>rw[(g1.kp p o e2 e).2]at hp;cases hp
  | some u=>rw[g1.fh _ _ (g1.ff _ _ e2)]at hp;cases hp
def XW (i j:Int):Bool:=decide ((-(2 ^ 64) < i/\i < 2 ^ 64)\/(-(2 ^ 64) < j/\j < 2 ^ 64))
def zgw:D->D->Option (List D)
 | .lst a,.int k=>if -(2 ^ 63)<=k/\k < 2 ^ 63/\lim (a.length*k.toNat)=true then some (List.replicate k.toNat a).flatten else none
 | _,_=>none
def zh0 (d e:D):Option D:=(zgw d e).map .lst
def Yt:D->D->Option D
 | .int i,.int j=>if XW i j=true then some (.int (i*j))else none
 | .lst a,.int k=>if -(2 ^ 63)<=k/\k < 2 ^ 63/\lim (a.length*k.toNat)=true then some (.lst (List.replicate k.toNat a).flatten)else none
 | _,_=>none
theorem zhF:OpD rRep zh0:=by
 intro F H x y d e z Q s ax ay ez q
 cases d <;> try cases ez
 cases e <;> try cases ez
 unfold zh0 zgw at ez
 dsimp only at ez
 split at ez <;> cases ez
 rename_i hl
 obtain⟨p,xs,rfl,hx,al⟩:=ax.lst_inv
 refine⟨p,_,xs,rfl,ay.int_inv,s _ _ hx,hl.1,hl.2.1,by rw[al.length];exact p6 hl.2.2,λr hr=>?_⟩
 rename_i ds k
 have g:=Gr.alloc s hr (.lst (List.replicate k.toNat xs).flatten)
 exact q _ _ _ g (.lst zq ((al.rep _).mono g.ff))
theorem Vi {f h:Ev->Option D}(ha:ED X a f)(hb:ED X b h):ED X (.BinOp a .Mult b pos) (zo Yt f h) :=
 WM (zlC.or zi1) (zcQ (za7 (Xc (Cb:=XW) (g:=λi j=>i*j) λi j h=>by have h':=p6 (show decide ((-(2 ^ 64) < i/\i < 2 ^ 64)\/(-(2 ^ 64) < j/\j < 2 ^ 64))=true from h);exact h') zhF) λd e z h=>by
  cases d <;> try cases h
  all_goals cases e <;> try cases h
  .unfold Yt at h;dsimp only at h;split at h <;> cases h;rename_i hl;simp[WH,hl]
  .unfold Yt at h;dsimp only at h;split at h <;> cases h;rename_i hl;show(zh0 _ _)=_;unfold zh0 zgw;dsimp only;rw[j4 hl];rfl) ha hb
theorem zdF {f h:Ev->Option D}(ha:ED X a f)(hb:ED X b h):FL X (.BinOp a .Mult b pos) (ziK zgw f h):=by
 obtain⟨ta,pa,ra⟩:=ha
 obtain⟨tb,pb,rb⟩:=hb
 refine⟨_,zev zi1 pa pb,fun σ ρ F H z Q s va e q=>?_⟩
 obtain⟨x,e1,e3⟩:=u4.mp e
 obtain⟨y,e2,ez⟩:=u4.mp e3
 clear e e3
 refine ra σ ρ F H x _ s va e1 λF1 H1 v g1 a1=>?_
 refine rb σ ρ F1 H1 y _ g1.fh (va.mono g1.ff) e2 λF2 H2 u g2 a2=>?_
 cases x <;> try cases ez
 cases y <;> try cases ez
 unfold zgw at ez
 dsimp only at ez
 split at ez <;> cases ez
 rename_i hl
 obtain⟨p,xs,rfl,hx,al⟩:=(a1.mono g2.ff).lst_inv
 refine⟨p,_,xs,rfl,a2.int_inv,g2.fh _ _ hx,hl.1,hl.2.1,by rw[al.length];exact p6 hl.2.2,λr hr=>?_⟩
 exact q _ _ _ _ ((g1.trans g2).trans (Gr.hide g2.fh hr _)) (zeS (g1.trans g2) hr) (g2.fh.free hr) zq (al.rep _)
def Xa:=vK λi j=>i - j
def wl:=WH (λ_ j=>decide (0 < j/\j < 1606938044258990275541962092341162602522202993782792835301376)) λi j=>i / j
def vX:=WH (λ_ j=>decide (0 < j)) λi j=>i % j
def zk7 (i j:Int):Bool:=decide (0<=j/\j<=1000000/\i.natAbs < 2 ^ 64)
def zm5:=WH zk7 λi j=>i*2 ^ j.toNat
def powD:=WH zk7 λi j=>i ^ j.toNat
theorem ZJ {f h:Ev->Option D}(ha:ED X a f)(hb:ED X b h):ED X (.BinOp a .Sub b pos) (zo Xa f h):=WM zl6 zbP ha hb
theorem zhV:OpR X (binaryOp .FloorDiv) (rI (λ_ j=>0 < j/\j < 1606938044258990275541962092341162602522202993782792835301376) λi j=>.int (i / j)):=opI λi j _ _ _ _ _ hc q=>by
 have h1:(0:Int) < j:=hc.1
 have h2:j < 1606938044258990275541962092341162602522202993782792835301376:=hc.2
 refine PyProof.Rows.floordiv_int (by omega) (by rw[Int.fdiv_eq_ediv_of_nonneg i (by omega)];exact q) (.inl (PyProof.noPylong_of_log2 ?_))
 have h0:j.natAbs≠0:=by omega
 have h3:j.natAbs < 1606938044258990275541962092341162602522202993782792835301376:=by omega
 have h4:j.natAbs.log2 < 200:=(Nat.log2_lt h0).mpr h3
 omega
theorem zab {f h:Ev->Option D}(ha:ED X a f)(hb:ED X b h):ED X (.BinOp a .FloorDiv b pos) (zo wl f h):=WM zhV (Xc λ_ _ h=>by have h':=p6 h;exact h') ha hb
theorem ZA {f h:Ev->Option D}(ha:ED X a f)(hb:ED X b h):ED X (.BinOp a .Mod b pos) (zo vX f h):=WM zli (Xc λ_ _ h=>by have h':=p6 h;exact h') ha hb
theorem zl3 {f h:Ev->Option D}(ha:ED X a f)(hb:ED X b h):ED X (.BinOp a .LShift b pos) (zo zm5 f h):=WM zmn (Xc λ_ _ h=>by have h':=p6 h;exact h') ha hb
theorem zlQ {f h:Ev->Option D}(ha:ED X a f)(hb:ED X b h):ED X (.BinOp a .Pow b pos) (zo powD f h):=WM zk1 (Xc λ_ _ h=>by have h':=p6 h;exact h') ha hb
def ltD:=Vy λi j=>decide (i < j)
def leD:=Vy λi j=>decide (i<=j)
def gtD:=Vy λi j=>decide (j < i)
def geD:=Vy λi j=>decide (j<=i)
def eqS:D->D->Option Bool
 | .non,.non=>some true
 | .int i,.int j=>some (decide (i=j))
 | .bl i,.bl j=>some (decide (i=j))
 | .str i,.str j=>some (decide (i=j))
 | .non,.int _=>some false | .int _,.non=>some false | .non,.bl _=>some false | .bl _,.non=>some false | .non,.str _=>some false | .str _,.non=>some false
 | .int _,.str _=>some false | .str _,.int _=>some false | .bl _,.str _=>some false | .str _,.bl _=>some false
 | _,_=>none
def eqD (d e:D):Option D:=(eqS d e).map .bl
def neD (d e:D):Option D:=(eqS d e).map λc=>.bl (!c)
theorem ziF:OpD rEq eqD:=by
 intro F H x y d e z Q s ax ay ez q
 obtain⟨c,e1,rfl⟩:=t9.mp ez
 cases d <;> cases e <;> try cases e1
 .cases ax.non_inv;cases ay.non_inv;exact⟨rfl,q F H _ (.refl s) .bl⟩
 .cases ax.non_inv;cases ay.bl_inv;exact⟨rfl,q F H _ (.refl s) .bl⟩
 .cases ax.non_inv;cases ay.int_inv;exact⟨rfl,q F H _ (.refl s) .bl⟩
 .cases ax.non_inv;cases ay.str_inv;exact⟨rfl,q F H _ (.refl s) .bl⟩
 .cases ax.bl_inv;cases ay.non_inv;exact⟨rfl,q F H _ (.refl s) .bl⟩
 .cases ax.bl_inv;cases ay.bl_inv;refine⟨rfl,?_⟩;rw[show ∀ i j:Bool,decide (V.bl i=V.bl j)=decide (i=j)from λi j=>by simp];exact q F H _ (.refl s) .bl
 .cases ax.bl_inv;cases ay.str_inv;exact⟨rfl,q F H _ (.refl s) .bl⟩
 .cases ax.int_inv;cases ay.non_inv;exact⟨rfl,q F H _ (.refl s) .bl⟩
 .cases ax.int_inv;cases ay.int_inv;refine⟨rfl,?_⟩;rw[show ∀ i j:Int,decide (V.int i=V.int j)=decide (i=j)from λi j=>by simp];exact q F H _ (.refl s) .bl
 .cases ax.int_inv;cases ay.str_inv;exact⟨rfl,q F H _ (.refl s) .bl⟩
 .cases ax.str_inv;cases ay.non_inv;exact⟨rfl,q F H _ (.refl s) .bl⟩
 .cases ax.str_inv;cases ay.bl_inv;exact⟨rfl,q F H _ (.refl s) .bl⟩
 .cases ax.str_inv;cases ay.int_inv;exact⟨rfl,q F H _ (.refl s) .bl⟩
 .cases ax.str_inv;cases ay.str_inv;refine⟨rfl,?_⟩;rw[show ∀ i j:Str,decide (V.str i=V.str j)=decide (i=j)from λi j=>by simp];exact q F H _ (.refl s) .bl
theorem Xe:OpD rNe neD:=by
 intro F H x y d e z Q s ax ay ez q
 obtain⟨c,e1,rfl⟩:=t9.mp ez
 have:=ziF F H x y d e (.bl c) (λv H'=>∃ b,v=.bl b/\Q (.bl (!b)) H') s ax ay (by unfold eqD;rw[e1];rfl) λF' H' v g av=>⟨c,av.bl_inv,q F' H' _ g .bl⟩
 obtain⟨h1,b,h2,h3⟩:=this
 cases h2
 exact⟨h1,h3⟩
def Vf:D->D->Option D
 | d,.non=>some (.bl (match d with | .non=>true | _=>false))
 | .bl a,.bl b=>some (.bl (a == b))
 | _,_=>none
def zZ:D->D->Option D
 | d,.non=>some (.bl (match d with | .non=>false | _=>true))
 | .bl a,.bl b=>some (.bl (!(a == b)))
 | _,_=>none
theorem zfg {F:Hp}{d:D}{x:V}(h:At F d x):decide (x=V.non)=(match d with | .non=>true | _=>false):=by
 cases d with
 | non=>cases h.non_inv;rfl
 | bl b=>cases h.bl_inv;rfl
 | int b=>cases h.int_inv;rfl
 | str b=>cases h.str_inv;rfl
 | tup ds=>obtain⟨a,xs,rfl,_⟩:=h.tup_inv;rfl
 | lst ds=>obtain⟨a,xs,rfl,_⟩:=h.lst_inv;rfl
 | scr ds=>obtain⟨a,rfl,_⟩:=h.scr_inv;rfl
 | dct z t ks vs=>obtain⟨a,xs,rfl,_⟩:=h.dct_inv;rfl
theorem zcN:OpD (λx y H Q=>(y=.non/\Q (.bl (decide (x=.non))) H)\/∃ i j,x=.bl i/\y=.bl j/\Q (.bl (i == j)) H) Vf:=by
 intro F H x y d e z Q s ax ay ez q
 unfold Vf at ez
 split at ez
 .cases ez
  refine .inl ⟨ay.non_inv,?_⟩
  rw[zfg ax]
  have:=q F H _ (.refl s) .bl
  cases d <;> exact this
 .cases ez
  exact .inr ⟨_,_,ax.bl_inv,ay.bl_inv,q F H _ (.refl s) .bl⟩
 .cases ez
theorem zdP:OpD (λx y H Q=>(y=.non/\Q (.bl (!decide (x=.non))) H)\/∃ i j,x=.bl i/\y=.bl j/\Q (.bl (!(i == j))) H) zZ:=by
 intro F H x y d e z Q s ax ay ez q
 unfold zZ at ez
 split at ez
 .cases ez
  refine .inl ⟨ay.non_inv,?_⟩
  rw[zfg ax]
  have:=q F H _ (.refl s) .bl
  cases d <;> exact this
 .cases ez
  exact .inr ⟨_,_,ax.bl_inv,ay.bl_inv,q F H _ (.refl s) .bl⟩
 .cases ez
theorem zeT:OpR X (compareOp .Is) (λx y H Q=>(y=.non/\Q (.bl (decide (x=.non))) H)\/∃ i j,x=.bl i/\y=.bl j/\Q (.bl (i == j)) H):=zl8.or zin
theorem zgM:OpR X (compareOp .IsNot) (λx y H Q=>(y=.non/\Q (.bl (!decide (x=.non))) H)\/∃ i j,x=.bl i/\y=.bl j/\Q (.bl (!(i == j))) H):=zjW.or zcK
def xA (g g':D->D->Option D)(f h k:Ev->Option D):Ev->Option D:=fun ρ=>(f ρ).bind λx=>(h ρ).bind λy=>((g x y).bind asB).bind λc=>if c=true then (k ρ).bind λz=>g' y z else some (.bl false)
theorem zhl {r r':R2}{g g':D->D->Option D}{ta tb tc:TE}{f h k:Ev->Option D}(hg:OpD r g)(hg':OpD r' g')(ra:RE ta f)(rb:RE tb h)(rc:RE tc k):RE (zgS r r' ta tb tc) (xA g g' f h k):=by
 intro σ ρ F H z Q s va e q
 obtain⟨x,e1,e⟩:=u4.mp e
 obtain⟨y,e2,e⟩:=u4.mp e
 obtain⟨c,e3,e⟩:=u4.mp e
 obtain⟨cd,e3,e4⟩:=u4.mp e3
 cases Wy e4
 refine ra σ ρ F H x _ s va e1 λF1 H1 v g1 a1=>?_
 refine rb σ ρ F1 H1 y _ g1.fh (va.mono g1.ff) e2 λF2 H2 u g2 a2=>?_
 refine hg F2 H2 v u x y _ _ g2.fh (a1.mono g2.ff) a2 e3 λF3 H3 w g3 a3=>⟨c,a3.bl_inv,?_⟩
 have g123:=(g1.trans g2).trans g3
 cases c with
 | true =>
  rw[j4 rfl]at e ⊢
  obtain⟨z',e5,e6⟩:=u4.mp e
  refine rc σ ρ F3 H3 z' _ g3.fh (va.mono g123.ff) e5 λF4 H4 w4 g4 a4=>?_
  exact hg' F4 H4 u w4 y z' z Q g4.fh (a2.mono (g3.ff.trans g4.ff)) a4 e6 λF5 H5 w5 g5 a5=>q F5 H5 w5 ((g123.trans g4).trans g5) a5
 | false =>
  rw[j6 u6]at e ⊢
  cases e
  exact q F3 H3 _ g123 .bl
theorem zhx {op op':CmpOp}{r r':R2}{g g':D->D->Option D}{f h k:Ev->Option D}(ho:OpR X (compareOp op) r)(ho':OpR X (compareOp op') r')(hg:OpD r g)(hg':OpD r' g')(ha:ED X a f)(hb:ED X b h)(hc:ED X c k)
 (pch:∀ {ta tb tc:TE},PE X a ta->PE X b tb->PE X c tc->PE X (.Compare a [op,op'] [b,c] pos) (zgS r r' ta tb tc)):ED X (.Compare a [op,op'] [b,c] pos) (xA g g' f h k) :=
 let ⟨_,pa,ra⟩:=ha
 let ⟨_,pb,rb⟩:=hb
 let ⟨_,pc,rc⟩:=hc
 ⟨_,pch pa pb pc,zhl hg hg' ra rb rc⟩
def zds:List D->Option (List Int)
 | []=>some []
 | .int b::ds=>(zds ds).map (b::·)
 | _=>none
omit [KK] in
theorem Vc:∀ {ds:List D} {bs:List Int},zds ds=some bs->ds=bs.map .int
 | [],bs,h=>by cases h;rfl
 | d::ds,bs,h=>by
  cases d <;> try cases h
  obtain⟨cs,h1,rfl⟩:=t9.mp h
  rw[Vc h1]
  rfl
def leT:D->D->Option D
 | .tup a,.tup b=>(zds a).bind λns=>(zds b).map λms=>.bl (HT.lexLe ns ms)
 | _,_=>none
theorem zkb {K:W.Frag}:OpD (rLeT K) leT:=by
 intro F H x y d e z Q s ax ay ez q
 cases d <;> try cases ez
 cases e <;> try cases ez
 obtain⟨ns,e1,e2⟩:=u4.mp ez
 obtain⟨ms,e3,rfl⟩:=t9.mp e2
 rw[Vc e1]at ax
 rw[Vc e3]at ay
 obtain⟨p,xs,rfl,hx,al⟩:=ax.tup_inv
 obtain⟨p2,ys,rfl,hy,bl⟩:=ay.tup_inv
 cases al.of_ints
 cases bl.of_ints
 exact⟨p,p2,ns,ms,rfl,rfl,SqT.of (s _ _ hx),SqT.of (s _ _ hy),q F H _ (.refl s) .bl⟩
def ixD:D->D->Option D
 | .lst ds,.int i=>atI ds i
 | .tup ds,.int i=>atI ds i
 | .scr ns,.int i=>(atI ns i).map .int
 | _,_=>none
theorem AtL.atI {F:Hp}{ds:List D}{xs:List V}{i:Int}{d:D}(al:AtL F ds xs)(h:L2.atI ds i=some d):∃ x,L2.atI xs i=some x/\At F d x:=by
 unfold L2.atI at h ⊢
 obtain⟨j,e1,e2⟩:=u4.mp h
 obtain⟨x,hx,ax⟩:=al.get e2
 exact⟨x,by rw[al.length,e1];exact hx,ax⟩
theorem zlV:OpD (rIx KK.K) ixD:=by
 intro F H x y d e z Q s ax ay ez q
 cases e <;> try (cases d <;> cases ez)
 cases ay.int_inv
 cases d with
 | lst ds =>
  obtain⟨p,xs,rfl,hx,al⟩:=ax.lst_inv
  obtain⟨v,e1,av⟩:=al.atI ez
  exact .inl ⟨p,xs,_,v,rfl,rfl,SqL.of (s _ _ hx),e1,q F H _ (.refl s) av⟩
 | tup ds =>
  obtain⟨p,xs,rfl,hx,al⟩:=ax.tup_inv
  obtain⟨v,e1,av⟩:=al.atI ez
  exact .inr (.inl ⟨p,xs,_,v,rfl,rfl,SqT.of (s _ _ hx),e1,q F H _ (.refl s) av⟩)
 | scr ns =>
  obtain⟨p,rfl,hx⟩:=ax.scr_inv
  obtain⟨n,e1,rfl⟩:=t9.mp ez
  refine .inl ⟨p,ns.map V.int,_,.int n,rfl,rfl,s.seq hx,?_,q F H _ (.refl s) .int⟩
  unfold L2.atI at e1 ⊢
  rw[u9]
  obtain⟨j,e2,e3⟩:=u4.mp e1
  rw[e2]
  show(ns.map V.int)[j]?=_
  rw[r9,e3]
  rfl
 | _=>cases ez
theorem zL {f h:Ev->Option D}(ha:ED X a f)(hb:ED X b h)(hs:zeG b)(hK:X.K=KK.K:=by rfl):ED X (.Subscript a b pos) (zo ixD f h) :=
 let ⟨_,pa,ra⟩:=ha
 let ⟨_,pb,rb⟩:=hb
 ⟨_,zmW zlw pa pb hs,zig (by rw[hK];exact zlV) ra rb⟩
def zez {α:Type}(xs:List α)(lo hi:Option Int):List α:=(xs.drop (HT.sIx xs.length 0 lo)).take (HT.sIx xs.length xs.length hi - HT.sIx xs.length 0 lo)
theorem AtL.cut {F:Hp}{ds:List D}{xs:List V}{lo hi:Option Int}(al:AtL F ds xs):AtL F (zez ds lo hi) (zcF xs lo hi):=by
 unfold zez zcF
 rw[al.length]
 exact(al.drop _).take _
def OD (X:Cx)(e:Option Expr)(f:Ev->Option (Option Int)):Prop:=∃ t,PO X e t/\∀ (σ:St) (ρ:Ev) (F H:Hp) (i:Option Int) (Q:Option Int->Hp->Prop),yn F H->VAt F ρ σ->f ρ=some i->(∀ F' H',Gr F H F' H'->Q i H')->t σ H Q
def Zs:Ev->Option (Option Int):=λ_=>some none
def asI:D->Option Int
 | .int i=>some i
 | _=>none
def w8 (f:Ev->Option D):Ev->Option (Option Int):=fun ρ=>((f ρ).bind asI).map some
theorem zfM {f:Ev->Option D}(h:ED X e f):OD X (some e) (w8 f):=by
 obtain⟨t,p,r⟩:=h
 refine⟨_,zjm p,fun σ ρ F H i Q s va e q=>?_⟩
 obtain⟨j,e1,rfl⟩:=t9.mp e
 obtain⟨d,e1,e2⟩:=u4.mp e1
 cases d <;> cases e2
 exact r σ ρ F H _ _ s va e1 λF1 H1 v g1 a1=>⟨_,a1.int_inv,q F1 H1 g1⟩
def slD:D->Option Int->Option Int->Option D
 | .lst ds,lo,hi=>some (.lst (zez ds lo hi))
 | .scr ns,lo,hi=>some (.lst ((zez ns lo hi).map .int))
 | .tup ds,lo,hi=>some (.tup (zez ds lo hi))
 | _,_,_=>none
def eSl (g:D->Option Int->Option Int->Option D)(f:Ev->Option D)(l h:Ev->Option (Option Int)):Ev->Option D:=fun ρ=>(f ρ).bind λd=>(l ρ).bind λlo=>(h ρ).bind λhi=>g d lo hi
omit [KK] in
theorem zhR {ns:List Int}{lo hi:Option Int}:zcF (ns.map V.int) lo hi=(zez ns lo hi).map V.int:=by
 unfold zcF zez
 rw[u9,List.map_take,List.map_drop]
end
end Dl
namespace L2
open PySem PySem.Spec PyProof.Rows
def rSlN:V->Option Int->Option Int->Hp->VK->Prop:=λx lo hi H Q=>∃ a xs,x=.ref a/\H a=some (.tup xs)/\(zcF xs lo hi=xs->Q (.ref a) H)/\∀ p,H p=none->Q (.ref p) (upd H p (.tup (zcF xs lo hi)))
theorem zjF {X:Cx}:SlR X rSlN:=by
 intro pins s σ H x v vl vu lo hi sl Q I rx hs pl pu h
 obtain⟨a,xs,rfl,hx,q1,q2⟩:=h
 by_cases hw:HT.sIx xs.length 0 lo=0/\HT.sIx xs.length xs.length hi=xs.length
 .cases rx
  obtain⟨its,r,ht,hz⟩:=I.tuple (SqT.of hx)
  have hlen:its.toArray.size=xs.length:=by rw[j3];exact r.length.symm
  refine⟨"tuple",_,u0s.lookup,ht.typeIs,?_⟩
  refine HT.own_getItem_whole ht hs pl pu (by rw[hlen];exact hw) ⟨.ref a,H,I,rfl,q1 ?_⟩
  unfold zcF
  rw[hw.1,hw.2,u17,Nat.sub_zero,u2b]
 .exact zlz pins s σ H (.ref a) v vl vu lo hi sl Q I rx hs pl pu ⟨a,xs,rfl,SqT.of hx,hw,q2⟩
end L2
namespace Dl
open PySem L2
variable [KK]
section
variable {X:Cx}{a b c e:Expr}{pos:Pos}
theorem zh9 {lo hi:Option Expr}{p2:Pos}{f:Ev->Option D}{l h:Ev->Option (Option Int)}(ha:ED X a f)(hl:OD X lo l)(hh:OD X hi h)(hK:X.K=KK.K:=by rfl):ED X (.Subscript a (.Slice lo hi none p2) pos) (eSl slD f l h):=by
 obtain⟨ta,pa,ra⟩:=ha
 obtain⟨tl,ppl,rl⟩:=hl
 obtain⟨th,ph,rh⟩:=hh
 refine⟨_,zhP (zjl.or zjF) pa ppl ph,fun σ ρ F H z Q s va e q=>?_⟩
 obtain⟨d,e1,e⟩:=u4.mp e
 obtain⟨i,e2,e⟩:=u4.mp e
 obtain⟨j,e3,e⟩:=u4.mp e
 refine ra σ ρ F H d _ s va e1 λF1 H1 v g1 a1=>?_
 refine rl σ ρ F1 H1 i _ g1.fh (va.mono g1.ff) e2 λF2 H2 g2=>?_
 refine rh σ ρ F2 H2 j _ g2.fh (va.mono (g1.ff.trans g2.ff)) e3 λF3 H3 g3=>?_
 have g123:=(g1.trans g2).trans g3
 have a3:=a1.mono (g2.ff.trans g3.ff)
 cases d <;> try cases e
 .obtain⟨p,xs,rfl,hx,al⟩:=a3.tup_inv
  refine .inr ⟨p,xs,rfl,g3.fh _ _ hx,λec=>?_,λr hr=>?_⟩
  .have:=al.cut (lo:=i) (hi:=j)
   rw[ec]at this
   exact q F3 H3 _ g123 (.tup hx this)
  .have g:=Gr.alloc g3.fh hr (.tup (zcF xs i j))
   exact q _ _ _ (g123.trans g) (.tup zq (al.cut.mono g.ff))
 .obtain⟨p,xs,rfl,hx,al⟩:=a3.lst_inv
  refine .inl ⟨p,xs,rfl,SqL.of (g3.fh _ _ hx),λr hr=>?_⟩
  have g:=Gr.alloc g3.fh hr (.lst (zcF xs i j))
  exact q _ _ _ (g123.trans g) (.lst zq (al.cut.mono g.ff))
 .rename_i ns _ _
  obtain⟨p,rfl,hx⟩:=a3.scr_inv
  refine .inl ⟨p,_,rfl,(by rw[hK];exact g3.fh.seq hx),λr hr=>?_⟩
  rw[zhR]
  have g:=Gr.alloc g3.fh hr (.lst ((zez ns i j).map V.int))
  exact q _ _ _ (g123.trans g) (.lst zq (.ints _))
def CaD (r:List V->Hp->VK->Prop)(g:List D->Option D):Prop:=∀ (F H:Hp) (vs:List V) (ds:List D) (z:D) (Q:VK),yn F H->AtL F ds vs->g ds=some z->(∀ F' H' v,Gr F H F' H'->At F' z v->Q v H')->r vs H Q
def eFn (g:List D->Option D)(f:Ev->Option (List D)):Ev->Option D:=fun ρ=>(f ρ).bind g
def fFn (g:List D->Option (List D))(f:Ev->Option (List D)):Ev->Option (List D):=fun ρ=>(f ρ).bind g
theorem zP {x:Str}{id:String}{p:Pos}{es:List Expr}{r:List V->Hp->VK->Prop}{g:List D->Option D}{f:Ev->Option (List D)}(hc:Xw X (.builtin id) r)(hg:CaD r g)(hgl:Gl X x)(hm:X.mg x=none)(hv:bootBuiltins x=some (.builtin id))(ha:AD X (e::es) f)
 (hn:x≠"__name__":=by decide) (hdb:(x == ("__debug__":Str))=false:=by decide) (he:starEach (e::es) X.env=(false,eval e X.env)::starEach es X.env:=by rfl) (hpl:(backTo pos (starEach es X.env)).any (·.1)=false:=by rfl) :
 ED X (.Call (.Name x p) (e::es) [] pos) (eFn g f):=by
 obtain⟨t,pa,ra⟩:=ha
 refine⟨_,zX hc hgl hm hv pa hn hdb he hpl,fun σ ρ F H z Q s va e q=>?_⟩
 obtain⟨ds,e1,e2⟩:=u4.mp e
 refine ra σ ρ F H ds _ s va e1 λF1 H1 vs g1 a1=>?_
 exact hg F1 H1 vs ds z Q g1.fh a1 e2 λF' H' v g av=>q F' H' v (g1.trans g) av
theorem vV {x:Str}{T:String}{p:Pos}{es:List Expr}{r:List V->Hp->VK->Prop}{g:List D->Option D}{f:Ev->Option (List D)}(hc:Xw X (.type T) r)(hg:CaD r g)(hgl:Gl X x)(hm:X.mg x=none)(hv:bootBuiltins x=some (.type T))(ha:AD X (e::es) f)
 (hn:x≠"__name__":=by decide) (hdb:(x == ("__debug__":Str))=false:=by decide) (he:starEach (e::es) X.env=(false,eval e X.env)::starEach es X.env:=by rfl) (hpl:(backTo pos (starEach es X.env)).any (·.1)=false:=by rfl) :
 ED X (.Call (.Name x p) (e::es) [] pos) (eFn g f):=by
 obtain⟨t,pa,ra⟩:=ha
 refine⟨_,zfZ hc hgl hm hv pa hn hdb he hpl,fun σ ρ F H z Q s va e q=>?_⟩
 obtain⟨ds,e1,e2⟩:=u4.mp e
 refine ra σ ρ F H ds _ s va e1 λF1 H1 vs g1 a1=>?_
 exact hg F1 H1 vs ds z Q g1.fh a1 e2 λF' H' v g av=>q F' H' v (g1.trans g) av
def Zz:List D->Option D
 | [.lst ds]=>some (.int ds.length)
 | [.tup ds]=>some (.int ds.length)
 | [.scr ds]=>some (.int ds.length)
 | _=>none
theorem x9:CaD (λxs H Q=>∃ p ys,xs=[.ref p]/\(SqL KK.K H p ys\/SqT KK.K H p ys)/\Q (.int ys.length) H) Zz:=by
 intro F H vs ds z Q s al e q
 unfold Zz at e
 split at e <;> cases e
 all_goals
  obtain⟨x,r,rfl,ax,ar⟩:=al.cons_inv
  cases ar.nil_inv
 .obtain⟨p,xs,rfl,hx,bl⟩:=ax.lst_inv
  exact⟨p,xs,rfl,.inl (SqL.of (s _ _ hx)),by rw[bl.length];exact q F H _ (.refl s) .int⟩
 .obtain⟨p,xs,rfl,hx,bl⟩:=ax.tup_inv
  exact⟨p,xs,rfl,.inr (SqT.of (s _ _ hx)),by rw[bl.length];exact q F H _ (.refl s) .int⟩
 .obtain⟨p,rfl,hx⟩:=ax.scr_inv
  exact⟨p,_,rfl,.inl ((s.seq hx)),by rw[u9];exact q F H _ (.refl s) .int⟩
def zdU:List D->Option D
 | [.int i,.int j]=>some (.int (if j > i then j else i))
 | _=>none
def zhq:List D->Option D
 | [.int i,.int j]=>some (.int (if j < i then j else i))
 | _=>none
theorem zdc {g:Int->Int->Int}:CaD (λxs H Q=>∃ i j,xs=[.int i,.int j]/\Q (.int (g i j)) H) (λds=>match ds with | [.int i,.int j]=>some (.int (g i j)) | _=>none):=by
 intro F H vs ds z Q s al e q
 dsimp only at e
 split at e <;> cases e
 obtain⟨x,r,rfl,ax,ar⟩:=al.cons_inv
 obtain⟨y,r,rfl,ay,ar⟩:=ar.cons_inv
 cases ar.nil_inv
 exact⟨_,_,by rw[ax.int_inv,ay.int_inv],q F H _ (.refl s) .int⟩
theorem zaL:CaD (λxs H Q=>∃ i j,xs=[.int i,.int j]/\Q (.int (if j > i then j else i)) H) zdU:=zdc (g:=λi j=>if j > i then j else i)
theorem zdi:CaD (λxs H Q=>∃ i j,xs=[.int i,.int j]/\Q (.int (if j < i then j else i)) H) zhq:=zdc (g:=λi j=>if j < i then j else i)
def yt:List D->Option D
 | [.lst ds]=>some (.tup ds)
 | [.tup ds]=>some (.tup ds)
 | _=>none
theorem YK {K:W.Frag}:CaD (λxs H Q=>∃ p ys,xs=[.ref p]/\((SqL K H p ys/\∀ l,H l=none->Q (.ref l) (upd H l (.tup ys)))\/(SqT K H p ys/\Q (.ref p) H))) yt:=by
 intro F H vs ds z Q s al e q
 unfold yt at e
 split at e <;> cases e
 all_goals
  obtain⟨x,r,rfl,ax,ar⟩:=al.cons_inv
  cases ar.nil_inv
 .obtain⟨p,xs,rfl,hx,bl⟩:=ax.lst_inv
  refine⟨p,xs,rfl,.inl ⟨SqL.of (s _ _ hx),λl hl=>?_⟩⟩
  have g:=Gr.alloc s hl (.tup xs)
  exact q _ _ _ g (.tup zq (bl.mono g.ff))
 .obtain⟨p,xs,rfl,hx,bl⟩:=ax.tup_inv
  exact⟨p,xs,rfl,.inr ⟨SqT.of (s _ _ hx),q F H _ (.refl s) (.tup hx bl)⟩⟩
def Zp:List D->Option (List D)
 | [.lst ds]=>some ds
 | [.tup ds]=>some ds
 | [.scr ns]=>some (ns.map .int)
 | _=>none
inductive TyD (K:W.Frag) (H:Hp):V->Value->Prop where
 | of {v:V} {t:Value} (h:zc3 K H v t):TyD K H v t
 | dd {a:Addr} {u:HO} (h:Rd H a u) (d:(∃ kvs,u=.dK kvs)\/∃ kvs,u=.dT kvs):TyD K H (.ref a) (.type "dict")
theorem zbK {X:Cx}:Xw X (.builtin "isinstance") (λxs H Q=>∃ x n t b,xs=[x,.ty n]/\TyD X.K H x t/\W.kitOne X.K t (.type n)=some b/\Q (.bl b) H):=by
 intro pins s σ H xs us Q I r h
 obtain⟨x,n,t,b,rfl,ty,e,q⟩:=h
 cases ty with
 | of ty=>exact zcX pins s σ H _ us Q I r ⟨x,n,t,b,rfl,ty,e,q⟩
 | @dd a u h d =>
  cases r with
  | cons r1 r2 =>
   cases r2 with
   | cons r3 r4 =>
    cases r4
    cases r1
    cases r3
    have ok:=h.ok I.hok
    rcases d with ⟨kvs,rfl⟩ | ⟨kvs,rfl⟩
    .obtain⟨_,_,vs,_,p⟩:=(show xk X.prog X.w H s.heap a (.dK kvs)from ok)
     obtain⟨o,es,ep,h1,h2,_⟩:=p
     exact u0y u2E I.kIn ⟨o,h1,h2.1⟩ e (λz=>nomatch z) λtk=>⟨.bl b,H,I.tok tk,rfl,q⟩
    .obtain⟨_,_,xs,_,o,es,ep,h1,h2,_⟩:=(show xk X.prog X.w H s.heap a (.dT kvs)from ok)
     exact u0y u2E I.kIn ⟨o,h1,h2.1⟩ e (λz=>nomatch z) λtk=>⟨.bl b,H,I.tok tk,rfl,q⟩
theorem At.ty {K:W.Frag}{F H:Hp}(s:yn F H):∀ {d:D} {v:V},At F d v->(∀ ns,d≠.scr ns)->TyD K H v (.type (tyN d))
 | .non,_,h,_=>by cases h.non_inv;exact .of .non
 | .bl b,_,h,_=>by cases h.bl_inv;exact .of (.bl b)
 | .int i,_,h,_=>by cases h.int_inv;exact .of (.int i)
 | .str x,_,h,_=>by cases h.str_inv;exact .of (.str x)
 | .tup ds,_,h,_=>by obtain⟨a,xs,rfl,e,_⟩:=h.tup_inv;exact .of (.tup (s _ _ e))
 | .lst ds,_,h,_=>by obtain⟨a,xs,rfl,e,_⟩:=h.lst_inv;exact .of (.lst (s _ _ e))
 | .scr ns,_,_,n=>absurd rfl (n ns)
 | .dct z t ks vs,_,h,_=>by
  obtain⟨a,xs,rfl,d,_⟩:=h.dct_inv
  obtain⟨u,e1,e2⟩:=(d.mono s).rd
  exact .dd e2 (by
   unfold zlo at e1
   split at e1
   .obtain⟨kvs,rfl,_⟩:=e1;exact .inr ⟨kvs,rfl⟩
   .obtain⟨kvs,rfl,_⟩:=e1;exact .inl ⟨kvs,rfl⟩)
inductive Ty where
 | int | bool | tuple | list | str
def Ty.nm:Ty->String
 | .int=>"int" | .bool=>"bool" | .tuple=>"tuple" | .list=>"list" | .str=>"str"
def isT:Ty->D->Bool
 | .int,.int _=>true | .int,.bl _=>true
 | .bool,.bl _=>true
 | .tuple,.tup _=>true
 | .list,.lst _=>true
 | .str,.str _=>true
 | _,_=>false
def yZ (n:Ty):D->Option D
 | .scr _=>none
 | d=>some (.bl (isT n d))
theorem zkB (K:W.Frag)(n:Ty)(d:D)(h:∀ ns,d≠.scr ns):W.kitOne K (.type (tyN d)) (.type n.nm)=some (isT n d):=by
 cases n <;> cases d <;> first | exact absurd rfl (h _) | kernel_rfl
theorem zN {p:Pos} {f:Ev->Option D} (n:Ty) (hgl:Gl X "isinstance") (hm:X.mg "isinstance"=none) (ha:ED X a f) (hb:PE X b (tC (.ty n.nm)))
 (hs:starEach [a,b] X.env=(false,eval a X.env)::starEach [b] X.env:=by rfl) (hs2:starEach [b] X.env=(false,eval b X.env)::starEach [] X.env:=by rfl) (hpl:(backTo pos (starEach [b] X.env)).any (·.1)=false:=by rfl) :
 ED X (.Call (.Name "isinstance" p) [a,b] [] pos) (eUn (yZ n) f):=by
 obtain⟨t,pa,ra⟩:=ha
 refine⟨_,zX zbK hgl hm zz (zp pa (zp hb yu hs2) hs) (by decide) (by decide) hs hpl,fun σ ρ F H z Q s va e q=>?_⟩
 obtain⟨d,e1,e2⟩:=u4.mp e
 refine ra σ ρ F H d _ s va e1 λF1 H1 v g1 a1=>?_
 have ns:∀ ns,d≠.scr ns:=λns h=>by subst h;cases e2
 have e3:z=.bl (isT n d):=by
  cases d <;> first | exact(u0q e2).symm | exact absurd rfl (ns _)
 subst e3
 exact⟨v,n.nm,_,_,rfl,a1.ty g1.fh ns,zkB _ n d ns,q F1 H1 _ g1 .bl⟩
def Wo (m:Bool)(i:Nat)(f:Ev->Option D):SE->Ctl:=fun ρ=>match (vEv m f ρ).bind λd=>match ρ[i]? with
 | some (.o ds)=>if decide (ds.length < sizeLine)=true then some (ρ.set i (.o (ds++[d])))else none
 | _=>none with
 | some ρ'=>.nx ρ'
 | none=>.no
theorem zcf {m:Bool}{i:Nat}{p pos':Pos}{f:Ev->Option D}(ho:PE X a (zef i))(he:ED X e f)
 (hp:∀ {ta:TE} {t:TA},PE X a ta->PA X [e] t->PE X (.Call (.Attribute a "append" p) [e] [] pos') (tBM X.K "list" zeL ta t)) (hsw:swapsWith (.Call (.Attribute a "append" p) [e] [] pos') none pos.line X.env=pure false:=by rfl)
 (hs:starEach [e] X.env=(false,eval e X.env)::starEach [] X.env:=by rfl):SD X (.Expr (.Call (.Attribute a "append" p) [e] [] pos') pos) (Wo m i f):=by
 obtain⟨t,pe,re⟩:=he
 refine⟨_,zaV (hp ho (zp pe yu hs)) hsw,λFb Hb F H ρ σ E rl k=>?_⟩
 unfold Wo at k
 cases h:(vEv m f ρ).bind λd=>match ρ[i]? with
  | some (.o ds)=>if decide (ds.length < sizeLine)=true then some (ρ.set i (.o (ds++[d])))else none
  | _=>none with
 | none=>rw[h]at k;exact k.elim
 | some ρ' =>
  rw[h]at k
  obtain⟨d,e1,e2⟩:=u4.mp h
  cases hs:ρ[i]? with
  | none=>rw[hs]at e2;cases e2
  | some sl =>
   rw[hs]at e2
   cases sl with
   | no=>cases e2
   | v _=>cases e2
   | m _ _ _=>cases e2
   | o ds =>
    dsimp only at e2
    split at e2 <;> cases e2
    rename_i hl
    obtain⟨q,xs,f1,f2,f3,f4,f5⟩:=rl.owns i ds hs
    refine⟨_,f1,.inl ⟨rfl,xs,SqL.of f4⟩,?_⟩
    refine re.at rl e1 λF' H' v g av=>?_
    have rl2:=rl.grow g
    obtain⟨q2,xs2,f1',_,_,f4',f5'⟩:=rl2.owns i ds hs
    rw[f1]at f1'
    cases f1'
    refine⟨q,xs2,v,rfl,rfl,f4',by rw[f5'.length];exact p6 hl,?_⟩
    exact k _ _ σ (rl2.mutate hs f1 (f5'.snoc av))
def zci (i:Nat)(f:Ev->Option D):SE->Ctl:=fun ρ=>match (f (visF ρ)).bind λd=>match ρ[i]?,d with
 | some (.o ds),.lst es=>if lim (ds.length+es.length)=true then some (ρ.set i (.o (ds++es)))else none
 | _,_=>none with
 | some ρ'=>.nx ρ'
 | none=>.no
end
end Dl
namespace Dl
open PySem L2
variable [KK]
def okE:Nat->D->Bool
 | _,.scr _=>false
 | _,.dct _ _ _ _=>false
 | 0,.tup _=>false
 | 0,.lst _=>false
 | n+1,.tup ds=>ds.all (okE n)
 | n+1,.lst ds=>ds.all (okE n)
 | _,_=>true
def eqN:Nat->D->D->Bool
 | _,.non,.non=>true
 | _,.bl a,.bl b=>a == b
 | _,.bl a,.int b=>(if a then 1 else 0) == b
 | _,.int a,.bl b=>a == (if b then 1 else 0)
 | _,.int a,.int b=>a == b
 | _,.str a,.str b=>a == b
 | n+1,.tup a,.tup b=>(List.zipWith (eqN n) a b).all id&&a.length == b.length
 | n+1,.lst a,.lst b=>(List.zipWith (eqN n) a b).all id&&a.length == b.length
 | _,_,_=>false
omit [KK] in
theorem zcP {n:Nat}:∀ (a b:List D),(List.zipWith (eqN n) a b).all id=(List.range (min a.length b.length)).all λj=>eqN n (a.getD j .non) (b.getD j .non):=by
 intro a b
 have:List.zipWith (eqN n) a b=(List.range (min a.length b.length)).map λj=>eqN n (a.getD j .non) (b.getD j .non):=by
  apply List.ext_getElem
  .simp
  .intro i h1 h2
   simp at h1 h2
   have g1:i < a.length:=d7 h1 (Nat.min_le_left _ _)
   have g2:i < b.length:=d7 h1 (u2d _ _)
   simp[g1,g2]
 rw[this,u2i]
 rfl
omit [KK] in
def vOf:D->V
 | .bl b=>.bl b
 | .int i=>.int i
 | .str t=>.str t
 | _=>.non
theorem wb {F:Hp}{d:D}{x:V}(h:okE 0 d=true)(a:At F d x):x=vOf d:=by
 cases d with
 | non=>exact a.non_inv
 | bl b=>exact a.bl_inv
 | int b=>exact a.int_inv
 | str b=>exact a.str_inv
 | _=>cases h
omit [KK] in
theorem WE {d:D}(h:okE 0 d=true):zkc (vOf d)=true:=by
 cases d <;> first | rfl | cases h
omit [KK] in
theorem zam {d:D}{p:Addr}(h:okE 0 d=true)(e:vOf d=.ref p):False:=by
 cases d <;> first | (cases h;done) | (cases e;done)
def dOfV:V->D
 | .bl b=>.bl b
 | .int i=>.int i
 | .str t=>.str t
 | _=>.non
omit [KK] in
theorem zfA {d:D}(h:okE 0 d=true):dOfV (vOf d)=d:=by
 cases d <;> first | rfl | (cases h;done)
omit [KK] in
theorem ze8 {d e:D}(h1:okE 0 d=true)(h2:okE 0 e=true)(h:vOf d=vOf e):d=e:=by
 rw[<-zfA h1,h,zfA h2]
omit [KK] in
theorem xZ {n:Nat}{d:D}(h:okE (n+1) d=true):okE 0 d=true\/(∃ ds,d=.tup ds/\ds.all (okE n)=true)\/∃ ds,d=.lst ds/\ds.all (okE n)=true:=by
 cases d with
 | tup ds=>exact .inr (.inl ⟨ds,rfl,h⟩)
 | lst ds=>exact .inr (.inr ⟨ds,rfl,h⟩)
 | scr _=>cases h
 | dct _ _ _ _=>cases h
 | _=>exact .inl rfl
theorem zeQ {F:Hp}{n:Nat}(ih:∀ {d e:D} {v:V},okE n d=true->okE n e=true->At F d v->At F e v->d=e):∀ {xs:List V} {ds es:List D},ds.all (okE n)=true->es.all (okE n)=true->AtL F ds xs->AtL F es xs->ds=es:=by
 intro xs
 induction xs with
 | nil =>
  intro ds es _ _ a1 a2
  exact(u1n.mp a1.length.symm).trans (u1n.mp a2.length.symm).symm
 | cons x xs ih2 =>
  intro ds es h1 h2 a1 a2
  cases ds with
  | nil=>cases a1.nil_inv
  | cons d ds=>cases es with
   | nil=>cases a2.nil_inv
   | cons e es =>
    obtain⟨y,r,e1,b1,c1⟩:=a1.cons_inv
    obtain⟨y2,r2,e2,b2,c2⟩:=a2.cons_inv
    cases e1
    cases e2
    rw[u3u,h9]at h1 h2
    rw[ih2 h1.2 h2.2 c1 c2,ih h1.1 h2.1 b1 b2]
theorem zi9 {F:Hp}:∀ (n:Nat) {d e:D} {v:V},okE n d=true->okE n e=true->At F d v->At F e v->d=e:=by
 intro n
 induction n with
 | zero =>
  intro d e v h1 h2 a1 a2
  exact ze8 h1 h2 ((wb h1 a1).symm.trans (wb h2 a2))
 | succ n ih =>
  intro d e v h1 h2 a1 a2
  rcases xZ h1 with f1 | ⟨ds,rfl,k1⟩ | ⟨ds,rfl,k1⟩
  .have e1:=wb f1 a1
   rcases xZ h2 with f2 | ⟨es,rfl,_⟩ | ⟨es,rfl,_⟩
   .exact ze8 f1 f2 (e1.symm.trans (wb f2 a2))
   .obtain⟨p,xs,e2,_⟩:=a2.tup_inv
    exact(zam f1 (e1.symm.trans e2)).elim
   .obtain⟨p,xs,e2,_⟩:=a2.lst_inv
    exact(zam f1 (e1.symm.trans e2)).elim
  .obtain⟨p,xs,e0,hx,al⟩:=a1.tup_inv
   rcases xZ h2 with f2 | ⟨es,rfl,k2⟩ | ⟨es,rfl,k2⟩
   .exact(zam f2 ((wb f2 a2).symm.trans e0)).elim
   .obtain⟨q,ys,e1,hy,bl⟩:=a2.tup_inv
    cases e0.symm.trans e1
    cases hx.symm.trans hy
    rw[zeQ ih k1 k2 al bl]
   .obtain⟨q,ys,e1,hy,bl⟩:=a2.lst_inv
    cases e0.symm.trans e1
    cases hx.symm.trans hy
  .obtain⟨p,xs,e0,hx,al⟩:=a1.lst_inv
   rcases xZ h2 with f2 | ⟨es,rfl,k2⟩ | ⟨es,rfl,k2⟩
   .exact(zam f2 ((wb f2 a2).symm.trans e0)).elim
   .obtain⟨q,ys,e1,hy,bl⟩:=a2.tup_inv
    cases e0.symm.trans e1
    cases hx.symm.trans hy
   .obtain⟨q,ys,e1,hy,bl⟩:=a2.lst_inv
    cases e0.symm.trans e1
    cases hx.symm.trans hy
    rw[zeQ ih k1 k2 al bl]
omit [KK] in
theorem zhU:∀ (n:Nat) {d:D},okE n d=true->eqN n d d=true:=by
 intro n
 induction n with
 | zero =>
  intro d h
  cases d with
  | tup _=>cases h
  | lst _=>cases h
  | scr _=>cases h
  | dct _ _ _ _=>cases h
  | _=>first | rfl | exact o0 rfl | exact u1y _
 | succ n ih =>
  have ihl:∀ {ds:List D},ds.all (okE n)=true->(List.zipWith (eqN n) ds ds).all id=true:=by
   intro ds
   induction ds with
   | nil=>intro _;rfl
   | cons d ds ih2 =>
    intro h
    rw[u3u,h9]at h
    rw[List.zipWith_cons_cons,u3u,ih2 h.2,u3t]
    exact ih h.1
  intro d h
  cases d with
  | tup ds=>show((List.zipWith (eqN n) ds ds).all id&&ds.length == ds.length)=true;rw[ihl h];simp
  | lst ds=>show((List.zipWith (eqN n) ds ds).all id&&ds.length == ds.length)=true;rw[ihl h];simp
  | scr _=>cases h
  | dct _ _ _ _=>cases h
  | _=>first | rfl | exact o0 rfl | exact u1y _
theorem zi2 {F:Hp}(n:Nat){d e:D}{v:V}(h1:okE n d=true)(h2:okE n e=true)(a1:At F d v)(a2:At F e v):eqN n d e=true:=by
 rw[zi9 n h1 h2 a1 a2]
 exact zhU n h2
omit [KK] in
theorem Ye {n:Nat}{ds:List D}{j:Nat}(h:ds.all (okE n)=true)(hj:j < ds.length):okE n (ds.getD j .non)=true:=by
 have:ds.getD j .non=ds[j]:=by simp[hj]
 rw[this]
 exact u0k.mp h _ (u1x hj)
theorem AtL.nth {F:Hp}{ds:List D}{xs:List V}{us:List Value}{j:Nat}(al:AtL F ds xs)(r:yk xs us)(h:j < us.length):∃ x,At F (ds.getD j .non) x/\xj x us[j]:=by
 have hl:=al.length
 have hl2:=r.length
 have hj:j < ds.length:=by omega
 obtain⟨x,hx,ax⟩:=al.get (i:=j) (d:=ds[j]) (by simp[hj])
 obtain⟨u,hu,ru⟩:=r.get hx
 refine⟨x,by rw[show ds.getD j .non=ds[j] by simp[hj]];exact ax,?_⟩
 have:us[j]?=some us[j]:=by simp[h]
 rw[hu]at this
 cases this
 exact ru
omit [KK] in
theorem zdb {n:Nat}{d e:D}(h1:okE 0 d=true)(h2:okE 0 e=true):eqN n d e=eqV (vOf d) (vOf e):=by
 cases n <;> cases d <;> first | (cases h1;done) | skip
 all_goals cases e <;> first | (cases h2;done) | rfl
omit [KK] in
theorem zdo {n:Nat}{d:D}(ds:List D)(h:okE 0 d=true):eqN (n+1) d (.tup ds)=false/\eqN (n+1) d (.lst ds)=false/\eqN (n+1) (.tup ds) d=false/\eqN (n+1) (.lst ds) d=false:=by
 cases d <;> first | exact⟨rfl,rfl,rfl,rfl⟩ | cases h
omit [KK] in
theorem zay {A:Around}{s:Shared}{d:D}{u:Value}{p:Addr}{its:Array Value}(h:okE 0 d=true)(r:xj (vOf d) u)(hu:A.units < cLine) :
 (s.heap.IsTuple p its->SeqAt.EqAt A s u (.ref p) false/\SeqAt.EqAt A s (.ref p) u false)/\(s.heap.IsList p its->SeqAt.EqAt A s u (.ref p) false/\SeqAt.EqAt A s (.ref p) u false):=by
 cases d with
 | non=>cases r;exact⟨λht=>⟨.none_tuple ht hu,.tuple_none ht hu⟩,λht=>⟨.none_list ht hu,.list_none ht hu⟩⟩
 | bl b=>cases r;exact⟨λht=>⟨.bool_tuple b ht hu,.tuple_bool b ht hu⟩,λht=>⟨.bool_list b ht hu,.list_bool b ht hu⟩⟩
 | int b=>obtain⟨t,rfl⟩:=r;exact⟨λht=>⟨.int_tuple b t ht hu,.tuple_int b t ht hu⟩,λht=>⟨.int_list b t ht hu,.list_int b t ht hu⟩⟩
 | str b=>obtain⟨t,rfl⟩:=r;exact⟨λht=>⟨.str_tuple b t ht hu,.tuple_str b t ht hu⟩,λht=>⟨.str_list b t ht hu,.list_str b t ht hu⟩⟩
 | _=>cases h
theorem za3 {X:Cx}{pins:List (Addr × Obj)}{σ:St}{F H:Hp}{s:Shared}(I:Inv X pins σ H s)(sm:yn F H){ds:List D}{x:V}{u:Value}(a:At F (.tup ds) x)(r:xj x u):∃ p its xs,u=.ref p/\x=.ref p/\yk xs its/\AtL F ds xs/\s.heap.IsTuple p its.toArray:=by
 obtain⟨p,xs,rfl,hx,al⟩:=a.tup_inv
 cases r
 obtain⟨its,rv,ht,hz⟩:=I.tuple (SqT.of (sm _ _ hx))
 exact⟨p,its,xs,rfl,rfl,rv,al,ht⟩
theorem zaP {X:Cx}{pins:List (Addr × Obj)}{σ:St}{F H:Hp}{s:Shared}(I:Inv X pins σ H s)(sm:yn F H){ds:List D}{x:V}{u:Value}(a:At F (.lst ds) x)(r:xj x u):∃ p its xs,u=.ref p/\x=.ref p/\yk xs its/\AtL F ds xs/\s.heap.IsList p its.toArray:=by
 obtain⟨p,xs,rfl,hx,al⟩:=a.lst_inv
 cases r
 obtain⟨its,rv,ht,hz⟩:=I.list (SqL.of (sm _ _ hx))
 exact⟨p,its,xs,rfl,rfl,rv,al,ht.isList⟩
omit [KK] in
theorem zgN {n:Nat}(ds es:List D):((List.zipWith (eqN n) ds es).all id&&ds.length == es.length)=((List.range (min ds.length es.length)).all (λj=>eqN n (ds.getD j .non) (es.getD j .non))&&ds.length == es.length):=by rw[zcP]
theorem zgx {X:Cx}{pins:List (Addr × Obj)}{σ:St}{F H:Hp}{s:Shared}(I:Inv X pins σ H s)(sm:yn F H):∀ (n:Nat) {A:Around} {d e:D} {x y:V} {u v:Value},okE n d=true->okE n e=true->At F d x->At F e y->xj x u->xj y v->A.units+n < cLine->SeqAt.EqAt A s u v (eqN n d e):=by
 intro n
 induction n with
 | zero =>
  intro A d e x y u v h1 h2 a1 a2 r1 r2 hu
  cases wb h1 a1
  cases wb h2 a2
  rw[zdb h1 h2]
  exact ziV r1 r2 (WE h1) (WE h2)
 | succ n ih =>
  intro A d e x y u v h1 h2 a1 a2 r1 r2 hu
  have hu0:A.units < cLine:=u0F (u0V _ _) hu
  have hu1:A.units+1+n < cLine:=by rw[Nat.add_assoc,Nat.add_comm 1 n];exact hu
  rcases xZ h1 with f1 | ⟨ds,rfl,k1⟩ | ⟨ds,rfl,k1⟩
  .cases wb f1 a1
   rcases xZ h2 with f2 | ⟨es,rfl,k2⟩ | ⟨es,rfl,k2⟩
   .cases wb f2 a2
    rw[zdb f1 f2]
    exact ziV r1 r2 (WE f1) (WE f2)
   .obtain⟨q,its2,ys,rfl,_,_,_,ht2⟩:=za3 I sm a2 r2
    rw[(zdo es f1).1]
    exact((zay f1 r1 hu0).1 ht2).1
   .obtain⟨q,its2,ys,rfl,_,_,_,ht2⟩:=zaP I sm a2 r2
    rw[(zdo es f1).2.1]
    exact((zay f1 r1 hu0).2 ht2).1
  .obtain⟨p,its,xs,rfl,hxp,rv,al,ht⟩:=za3 I sm a1 r1
   rcases xZ h2 with f2 | ⟨es,rfl,k2⟩ | ⟨es,rfl,k2⟩
   .cases wb f2 a2
    rw[(zdo ds f2).2.2.1]
    exact((zay f2 r2 hu0).1 ht).2
   .obtain⟨q,its2,ys,rfl,hyq,rv2,bl,ht2⟩:=za3 I sm a2 r2
    by_cases hpq:p=q
    .subst hpq
     rw[hxp]at a1
     rw[hyq]at a2
     rw[zi2 (n+1) h1 h2 a1 a2]
     exact .same _
    .have hl1:its.toArray.size=ds.length:=by rw[j3,<- rv.length,al.length]
     have hl2:its2.toArray.size=es.length:=by rw[j3,<- rv2.length,bl.length]
     have:=SeqAt.RcAt.tuples (A:=A) (e:=λj=>eqN n (ds.getD j .non) (es.getD j .non)) ht ht2 hu0 λj g1 g2=>by
      obtain⟨x',ax,rx⟩:=al.nth rv (j:=j) g1
      obtain⟨y',ay,ry⟩:=bl.nth rv2 (j:=j) g2
      exact ih (Ye k1 (hl1 ▸ g1)) (Ye k2 (hl2 ▸ g2)) ax ay rx ry hu1
     rw[hl1,hl2]at this
     rw[show eqN (n+1) (.tup ds) (.tup es)=_ from zgN ds es]
     exact u2t hpq this
   .obtain⟨q,its2,ys,rfl,_,_,_,ht2⟩:=zaP I sm a2 r2
    exact .tuple_list ht ht2 hu0
  .obtain⟨p,its,xs,rfl,hxp,rv,al,ht⟩:=zaP I sm a1 r1
   rcases xZ h2 with f2 | ⟨es,rfl,k2⟩ | ⟨es,rfl,k2⟩
   .cases wb f2 a2
    rw[(zdo ds f2).2.2.2]
    exact((zay f2 r2 hu0).2 ht).2
   .obtain⟨q,its2,ys,rfl,_,_,_,ht2⟩:=za3 I sm a2 r2
    exact .list_tuple ht ht2 hu0
   .obtain⟨q,its2,ys,rfl,hyq,rv2,bl,ht2⟩:=zaP I sm a2 r2
    by_cases hpq:p=q
    .subst hpq
     rw[hxp]at a1
     rw[hyq]at a2
     rw[zi2 (n+1) h1 h2 a1 a2]
     exact .same _
    .have hl1:its.toArray.size=ds.length:=by rw[j3,<- rv.length,al.length]
     have hl2:its2.toArray.size=es.length:=by rw[j3,<- rv2.length,bl.length]
     rw[show eqN (n+1) (.lst ds) (.lst es)=_ from zgN ds es]
     by_cases hle:ds.length=es.length
     .have:=SeqAt.RcAt.lists (A:=A) (e:=λj=>eqN n (ds.getD j .non) (es.getD j .non)) ht ht2 (by rw[hl1,hl2,hle]) hu0 λj g1 g2=>by
       obtain⟨x',ax,rx⟩:=al.nth rv (j:=j) g1
       obtain⟨y',ay,ry⟩:=bl.nth rv2 (j:=j) g2
       exact ih (Ye k1 (hl1 ▸ g1)) (Ye k2 (hl2 ▸ g2)) ax ay rx ry hu1
      rw[hl1]at this
      rw[<-hle,u2P,u1y,u3t]
      exact u2t hpq this
     .have:=SeqAt.RcAt.lists_lengths (A:=A) ht ht2 (by rw[hl1,hl2];exact bne_iff_ne.mpr hle) hu0
      rw[u1N.mpr hle,u16]
      exact u2t hpq this
def zlu (d:D)(es:List D):Option Bool:=if okE 20 d=true/\es.all (okE 20)=true then some (es.any λe=>eqN 20 e d)else none
def inD (d e:D):Option D:=(xC e).bind λes=>(zlu d es).map .bl
open Classical in
noncomputable def zgZ (F:Hp)(d:D)(u:Value):Bool:=decide (∃ d0 x,At F d0 x/\xj x u/\okE 20 d0=true/\eqN 20 d0 d=true)
open Classical in
theorem ze5 {F:Hp}{d d0:D}{x:V}{u:Value}(a:At F d0 x)(r:xj x u)(k:okE 20 d0=true):zgZ F d u=eqN 20 d0 d:=by
 unfold zgZ
 cases h:eqN 20 d0 d with
 | true=>exact o0 ⟨d0,x,a,r,k,h⟩
 | false =>
  refine i7 ?_
  rintro⟨d1,y,a1,r1,k1,h1⟩
  have e:=r1.inj r
  subst e
  rw[zi9 20 k1 k a1 a]at h1
  rw[h1]at h
  cases h
theorem zaB {F:Hp}{d:D}:∀ {ds:List D} {xs:List V} {us:List Value},AtL F ds xs->yk xs us->ds.all (okE 20)=true->us.any (zgZ F d)=ds.any λe=>eqN 20 e d
 | [],_,_,al,r,_=>by cases al.nil_inv;cases r;rfl
 | e::ds,_,_,al,r,k=>by
  obtain⟨x,xs,rfl,a1,a2⟩:=al.cons_inv
  cases r with
  | cons r1 r2 =>
   rw[u3u,h9]at k
   rw[List.any_cons,List.any_cons,ze5 a1 r1 k.1,zaB a2 r2 k.2]
section
variable {X:Cx}
def rInD (neg:Bool):R2:=λx y H Q=>∃ F d e es b,yn F H/\At F d x/\At F e y/\xC e=some es/\zlu d es=some b/\Q (.bl (if neg then !b else b)) H
theorem zlK {k:Nat}(hr:ve k X.A):OpR X (compareOp .In) (rInD false):=by
 intro pins s σ H x y v u Q I rx ry h
 obtain⟨F,d,e,es,b,sm,a1,a2,hs,hb,q⟩:=h
 unfold zlu at hb
 split at hb <;> cases hb
 rename_i hk
 have hu:X.A.in1.units+20 < cLine:=by have:=hr.un;show X.A.units+1+20 < cLine;omega
 have mem:∀ {xs:List V} {us:List Value},AtL F es xs->yk xs us->∀ z∈us,SeqAt.EqAt X.A.in1 s z v (zgZ F d z):=λ{xs us} al r z hz=>by
  obtain⟨j,hj,rfl⟩:=u0v hz
  obtain⟨x',ax,rx'⟩:=al.nth r hj
  have hj':j < es.length:=by have:=al.length;have:=r.length;omega
  have k2:=Ye hk.2 hj'
  rw[ze5 ax rx' k2]
  exact zgx I sm 20 k2 hk.1 ax a1 rx' rx hu
 cases e <;> cases hs
 .obtain⟨p,xs,rfl,hx,al⟩:=a2.tup_inv
  cases ry
  obtain⟨its,r,pl,hz⟩:=I.tuple (SqT.of (sm _ _ hx))
  refine SeqAt.in_tupleAt (zgZ F d) pl (λz hz=>mem al r z (by simpa using hz)) ⟨.bl _,H,I,rfl,?_⟩
  rw[show its.toArray.any (zgZ F d)=its.any (zgZ F d) by simp,zaB al r hk.2]
  exact q
 .obtain⟨p,xs,rfl,hx,al⟩:=a2.lst_inv
  cases ry
  obtain⟨its,r,pl,hz⟩:=I.list (SqL.of (sm _ _ hx))
  refine SeqAt.in_listAt (zgZ F d) pl.isList (λz hz=>mem al r z (by simpa using hz)) ⟨.bl _,H,I,rfl,?_⟩
  rw[show its.toArray.any (zgZ F d)=its.any (zgZ F d) by simp,zaB al r hk.2]
  exact q
theorem zkO:OpD (rInD false) inD:=by
 intro F H x y d e z Q s ax ay ez q
 obtain⟨es,e1,e2⟩:=u4.mp ez
 obtain⟨b,e3,rfl⟩:=t9.mp e2
 exact⟨F,d,e,es,b,s,ax,ay,e1,e3,q F H _ (.refl s) .bl⟩
def eqG (d e:D):Option Bool:=match d,e with
 | .tup _,.tup _=>if okE 20 d=true/\okE 20 e=true then some (eqN 20 d e)else none
 | .lst _,.lst _=>if okE 20 d=true/\okE 20 e=true then some (eqN 20 d e)else none
 | _,_=>eqS d e
def Wj (d e:D):Option D:=(eqG d e).map .bl
def zmx:R2:=λx y H Q=>∃ F d e,yn F H/\At F d x/\At F e y/\((∃ ds es,d=.tup ds/\e=.tup es)\/(∃ ds es,d=.lst ds/\e=.lst es))/\okE 20 d=true/\okE 20 e=true/\Q (.bl (eqN 20 d e)) H
theorem zmd {k:Nat}(hr:ve k X.A):OpR X (compareOp .Eq) zmx:=by
 intro pins s σ H x y v u Q I rx ry h
 obtain⟨F,d,e,sm,a1,a2,hk,k1,k2,q⟩:=h
 have hu:X.A.units+30 < cLine:=by have:=hr.un;omega
 rcases hk with ⟨ds,es,rfl,rfl⟩ | ⟨ds,es,rfl,rfl⟩
 .obtain⟨p,xs,rfl,hx,al⟩:=a1.tup_inv
  obtain⟨p2,ys,rfl,hy,bl⟩:=a2.tup_inv
  cases rx
  cases ry
  obtain⟨its,r,ht,hz⟩:=I.tuple (SqT.of (sm _ _ hx))
  obtain⟨its2,r2,ht2,hz2⟩:=I.tuple (SqT.of (sm _ _ hy))
  have hl1:its.toArray.size=ds.length:=by rw[j3,<- r.length,al.length]
  have hl2:its2.toArray.size=es.length:=by rw[j3,<- r2.length,bl.length]
  refine SeqAt.eq_tupleAt (e:=λj=>eqN 19 (ds.getD j .non) (es.getD j .non)) (show s.heap.IsTuple p its.toArray from ht) (show s.heap.IsTuple p2 its2.toArray from ht2) (by omega) (λj g1 g2=>?_) ⟨.bl _,H,I,rfl,?_⟩
  .obtain⟨x',ax,rx⟩:=al.nth r (j:=j) (by simpa using g1)
   obtain⟨y',ay,ry⟩:=bl.nth r2 (j:=j) (by simpa using g2)
   exact zgx I sm 19 (Ye k1 (by rw[<-hl1];exact g1)) (Ye k2 (by rw[<-hl2];exact g2)) ax ay (by simpa using rx) (by simpa using ry) (u0F (show X.A.units+20<=X.A.units+30 from Nat.add_le_add_left (by decide) _) hu)
  .rw[hl1,hl2,<- zcP]
   exact q
 .obtain⟨p,xs,rfl,hx,al⟩:=a1.lst_inv
  obtain⟨p2,ys,rfl,hy,bl⟩:=a2.lst_inv
  cases rx
  cases ry
  obtain⟨its,r,ht,hz⟩:=I.list (SqL.of (sm _ _ hx))
  obtain⟨its2,r2,ht2,hz2⟩:=I.list (SqL.of (sm _ _ hy))
  have hl1:its.toArray.size=ds.length:=by rw[j3,<- r.length,al.length]
  have hl2:its2.toArray.size=es.length:=by rw[j3,<- r2.length,bl.length]
  have e1:eqN 20 (.lst ds) (.lst es)=((List.range (min ds.length es.length)).all (λj=>eqN 19 (ds.getD j .non) (es.getD j .non))&&ds.length == es.length):=by
   show((List.zipWith (eqN 19) ds es).all id&&ds.length == es.length)=_
   rw[zcP]
  by_cases hle:ds.length=es.length
  .refine SeqAt.eq_listAt (e:=λj=>eqN 19 (ds.getD j .non) (es.getD j .non)) ht.isList ht2.isList (by rw[hl1,hl2];exact hle) (u0F (u0V _ 30) hu) (λj g1 g2=>?_) ⟨.bl _,H,I,rfl,?_⟩
   .obtain⟨x',ax,rx⟩:=al.nth r (j:=j) (by simpa using g1)
    obtain⟨y',ay,ry⟩:=bl.nth r2 (j:=j) (by simpa using g2)
    exact zgx I sm 19 (Ye k1 (by rw[<-hl1];exact g1)) (Ye k2 (by rw[<-hl2];exact g2)) ax ay (by simpa using rx) (by simpa using ry) (u0F (show X.A.units+20<=X.A.units+30 from Nat.add_le_add_left (by decide) _) hu)
   .rw[hl1]
    rw[e1,<- hle,u2P]at q
    simpa using q
  .refine SeqAt.eq_list_lengthsAt ht.isList ht2.isList (by rw[hl1,hl2];simpa using hle) (u0F (u0V _ 30) hu) ⟨.bl _,H,I,rfl,?_⟩
   have:(ds.length == es.length)=false:=by simpa using hle
   rw[e1,this,u16]at q
   exact q
theorem zkh:OpD zmx (λd e=>match d,e with
 | .tup _,.tup _=>if okE 20 d=true/\okE 20 e=true then some (.bl (eqN 20 d e))else none
 | .lst _,.lst _=>if okE 20 d=true/\okE 20 e=true then some (.bl (eqN 20 d e))else none
 | _,_=>none):=by
 intro F H x y d e z Q s ax ay ez q
 dsimp only at ez
 split at ez
 .split at ez <;> cases ez
  rename_i hk
  exact⟨F,_,_,s,ax,ay,.inl ⟨_,_,rfl,rfl⟩,hk.1,hk.2,q F H _ (.refl s) .bl⟩
 .split at ez <;> cases ez
  rename_i hk
  exact⟨F,_,_,s,ax,ay,.inr ⟨_,_,rfl,rfl⟩,hk.1,hk.2,q F H _ (.refl s) .bl⟩
 .cases ez
theorem w6 {k:Nat}(hr:ve k X.A):OpR X (compareOp .Eq) (λx y H Q=>rEq x y H Q\/zmx x y H Q):=zmN.or (zmd hr)
theorem xc:OpD (λx y H Q=>rEq x y H Q\/zmx x y H Q) Wj:=by
 refine zcQ (za7 ziF zkh) λd e z h=>?_
 obtain⟨b,hb,rfl⟩:=t9.mp h
 unfold eqG at hb
 split at hb
 .split at hb <;> cases hb
  rename_i hk
  show(Option.or none (if okE 20 _=true/\okE 20 _=true then some (D.bl (eqN 20 _ _))else none))=_
  rw[j4 hk]
  rfl
 .split at hb <;> cases hb
  rename_i hk
  show(Option.or none (if okE 20 _=true/\okE 20 _=true then some (D.bl (eqN 20 _ _))else none))=_
  rw[j4 hk]
  rfl
 .show((eqD d e).or _)=_
  unfold eqD
  rw[hb]
  rfl
theorem seq_walk {pins:List (Addr × Obj)}{σ:St}{H:Hp}{s:Shared}{a:Addr}{xs:List V}{A:Around}{Q:Value->Shared->Prop}{E:Value->Shared->Prop}(I:Inv X pins σ H s)(hh:A.handled=none)(h:SqL X.K H a xs\/SqT X.K H a xs)
 (k:∀ (it:Addr) (its:List Value) (fp wr:List Addr) (St:Nat->Heap->Prop) (s₂:Shared),yk xs its->Walks X.prog X.w A it fp wr its.length (λi v=>its[i]?=some v) St->St 0 s₂.heap->(∀ b∈fp,b < s₂.heap.objs.size) ->
  (∀ (h':Heap) (tk:Nat),(∀ b o,b∉wr->s₂.heap.get? b=some o->h'.get? b=some o)->Inv X pins σ H { s₂ with heap:=h',toks:=tk })->Q (.ref it) s₂) :
 wpAny (model X.prog X.w) A (pyIter (.ref a)) Q E s:=by
 have back:∀ {o:Obj} {s₂:Shared},s₂={ s with heap:=s.heap.push o }->∀ (h':Heap) (tk:Nat),(∀ b u,b∉[s.heap.objs.size]->s₂.heap.get? b=some u->h'.get? b=some u)->Inv X pins σ H { s₂ with heap:=h',toks:=tk }:=λ{o s₂} e h' tk kk=>by
  subst e
  exact I.kept (t':=tk) λb u z=>kk b u (by simpa using p4 (j7 z)) (u5 _ z)
 rcases h with h | h
 .obtain⟨its,rv,p,hz⟩:=I.list h
  have lt:a < s.heap.objs.size:=by obtain⟨o,n,ho,_⟩:=p;exact j7 ho
  refine u1J p.isList ?_
  have W:=Walks.list (prog:=X.prog) (w:=X.w) (A:=A) hh s.heap.objs.size a (p4 lt) its.toArray
  refine k s.heap.objs.size its [s.heap.objs.size,a] [s.heap.objs.size] (λi h=>h.IsListIter s.heap.objs.size a i/\h.IsList a its.toArray) _ rv (by simpa using W) ⟨⟨_,r6 _ rfl,rfl,rfl⟩,p.isList.at λo e=>u5 _ e⟩ (λb hb=>?_) (back rfl)
  show b < (s.heap.push _).objs.size
  rw[u1p]
  rcases d5.mp hb with rfl | hb
  .exact u3E _
  .rw[d4.mp hb];exact u12 lt
 .obtain⟨its,rv,p,hz⟩:=I.tuple h
  have p':s.heap.IsTuple a its.toArray:=p
  have lt:a < s.heap.objs.size:=by obtain⟨o,ho,_⟩:=p;exact j7 ho
  refine u0P p' ?_
  have W:=Walks.tuple (prog:=X.prog) (w:=X.w) (A:=A) hh s.heap.objs.size a (p4 lt) its.toArray
  refine k s.heap.objs.size its [s.heap.objs.size,a] [s.heap.objs.size] (λi h=>h.IsTupleIter s.heap.objs.size a i/\h.IsTuple a its.toArray) _ rv (by simpa using W) ⟨⟨_,r6 _ rfl,rfl,rfl⟩,p'.at λo e=>u5 _ e⟩ (λb hb=>?_) (back rfl)
  show b < (s.heap.push _).objs.size
  rw[u1p]
  rcases d5.mp hb with rfl | hb
  .exact u3E _
  .rw[d4.mp hb];exact u12 lt
end
end Dl
namespace Dl
open PySem L2
variable [KK]
omit [KK] in
theorem zfQ:∀ (ns:List Int) (n:Nat),n<=ns.length->preSum (λi=>ns.getD i 0) n=(ns.take n).sum:=by
 intro ns n
 induction n with
 | zero=>intro _;simp[preSum]
 | succ n ih =>
  intro h
  show preSum (λi=>ns.getD i 0) n+ns.getD n 0=_
  rw[ih (by omega),u3T,List.sum_append]
  have:ns[n]?=some ns[n]:=by simp[show n < ns.length by omega]
  simp[this]
section
variable {X:Cx}
omit [KK] in
theorem vals_int {ns:List Int}{its:List Value}{i:Nat}{v:Value}(r:yk (ns.map V.int) its)(h:its[i]?=some v):∃ t,v=.int (ns.getD i 0) t:=by
 have hl:=r.length
 have hi:i < its.length:=(u8.mp h).1
 rw[u9]at hl
 obtain⟨u,hu,ru⟩:=r.get (i:=i) (x:=.int (ns[i]'(by omega))) (by rw[r9];simp[show i < ns.length by omega])
 rw[h]at hu
 cases hu
 obtain⟨t,rfl⟩:=ru
 exact⟨t,by simp[show i < ns.length by omega]⟩
theorem zbd (hc:X.calm=true):Xw X (.builtin "sum") (λxs H Q=>∃ (p:Addr) (ns:List Int),xs=[.ref p]/\(SqL X.K H p (ns.map V.int)\/SqT X.K H p (ns.map V.int))/\Q (.int ns.sum) H):=by
 intro pins s σ H xs us Q I r h
 obtain⟨p,ns,rfl,hq,q⟩:=h
 obtain⟨u,rfl,ru⟩:=zaf r
 cases ru
 refine call_sum_walkG (seq_walk I (I.ok.hd hc) hq λit its fp wr St s₂ rv W st fpl back=>?_)
 have hl:=rv.length
 rw[u9]at hl
 refine⟨it,fp,wr,_,_,St,λi=>ns.getD i 0,rfl,W,st,fpl,λi v hv=>vals_int rv hv,λh' tk t' kk=>⟨.int ns.sum,H,back h' tk kk,?_,q⟩⟩
 refine⟨t',?_⟩
 rw[<-hl,zfQ ns _ (q5 _),u2b]
def maxL (ns:List Int):Int:=(ns.max?).getD 0
omit [KK] in
theorem best_ge (f:Nat→Int):∀ k i,i≤k→f i≤f (argBest (fun i j=>decide (f j < f i)) k)∧argBest (fun i j=>decide (f j < f i)) k≤k:=by
  intro k
  induction k with
  | zero => intro i hi; have : i = 0 := by omega
            subst this;exact ⟨u27 _,q5 _⟩
  | succ k ih =>
    intro i hi
    unfold argBest
    obtain ⟨h1,h2⟩:=ih (min i k) (u2d _ _)
    split
    · rename_i hc
      have hc:f (argBest (fun i j=>decide (f j < f i)) k) < f (k+1):=p6 hc
      refine ⟨?_,q5 _⟩
      by_cases hik:i≤k
      · rw [u0T hik] at h1;omega
      · have:i=k+1:=by omega
        subst this;exact u27 _
    · rename_i hc
      have hc:¬ f (argBest (fun i j=>decide (f j < f i)) k) < f (k+1):=fun z=>hc (o0 z)
      refine ⟨?_,by omega⟩
      by_cases hik:i≤k
      · rw [u0T hik] at h1;exact h1
      · have:i=k+1:=by omega
        subst this;omega
omit [KK] in
theorem max_is {ns:List Int}{m:Int}(h1:m∈ns)(h2:∀ x∈ns,x<=m):maxL ns=m:=by
 unfold maxL
 rw[List.max?_eq_some_iff.mpr ⟨h1,h2⟩]
 rfl
omit [KK] in
theorem getD_mem {ns:List Int}{k:Nat}(h:k < ns.length):ns.getD k 0∈ns:=by
 rw[p8,u7 h]
 exact u1x h
omit [KK] in
theorem getD_at {ns:List Int}{k:Nat}(h:k < ns.length):ns.getD k 0=ns[k]:=by
 rw[p8,u7 h]
 rfl
def za5:List D->Option (List Int)
 | []=>some []
 | .int b::ds=>(za5 ds).map (b::·)
 | _=>none
omit [KK] in
theorem ZM:∀ {ds:List D} {bs:List Int},za5 ds=some bs->ds=bs.map .int
 | [],bs,h=>by cases h;rfl
 | d::ds,bs,h=>by
  cases d <;> try cases h
  obtain⟨cs,h1,rfl⟩:=t9.mp h
  rw[ZM h1]
  rfl
omit [KK] in
theorem Xh (bs:List Int):za5 (bs.map .int)=some bs:=by
 induction bs with
 | nil=>rfl
 | cons b r ih=>show(za5 (r.map .int)).map (b::·)=_;rw[ih];rfl
def znv {α:Type}(as:List D->Option α)(g:α->Option D):List D->Option D
 | [d]=>((xC d).bind as).bind g
 | _=>none
theorem zjT {K:W.Frag}{F H:Hp}{vs:List V}{ds:List D}{z:D}{α:Type}{as:List D->Option α}{g:α->Option D}(s:yn F H)(al:AtL F ds vs)(e:znv as g ds=some z) :
 ∃ p es xs b,vs=[.ref p]/\(SqL K H p xs\/SqT K H p xs)/\AtL F es xs/\as es=some b/\g b=some z:=by
 unfold znv at e
 split at e
 .obtain⟨b,e1,e2⟩:=u4.mp e
  obtain⟨es,e3,e4⟩:=u4.mp e1
  obtain⟨x,r,rfl,ax,ar⟩:=al.cons_inv
  cases ar.nil_inv
  rename_i d
  cases d <;> cases e3
  .obtain⟨p,xs,rfl,hx,bl⟩:=ax.tup_inv
   exact⟨p,_,xs,b,rfl,.inr (SqT.of (s _ _ hx)),bl,e4,e2⟩
  .obtain⟨p,xs,rfl,hx,bl⟩:=ax.lst_inv
   exact⟨p,_,xs,b,rfl,.inl (SqL.of (s _ _ hx)),bl,e4,e2⟩
 .cases e
def zms:=znv za5 λns=>some (.int ns.sum)
theorem zeK {K:W.Frag}:CaD (λxs H Q=>∃ (p:Addr) (ns:List Int),xs=[.ref p]/\(SqL K H p (ns.map V.int)\/SqT K H p (ns.map V.int))/\Q (.int ns.sum) H) zms:=by
 intro F H vs ds z Q s al e q
 obtain⟨p,es,xs,bs,rfl,hq,bl,e1,e2⟩:=zjT (K:=K) s al e
 cases e2
 rw[ZM e1]at bl
 rw[bl.of_ints]at hq
 exact⟨p,bs,rfl,hq,q F H _ (.refl s) .int⟩
end
end Dl
namespace Dl
open PySem L2
variable [KK]
section
variable {X:Cx}{tg a b c e:Expr}{pos:Pos}
def zdn:List D->List D->List D
 | x::xs,y::ys=>.tup [x,y]::zdn xs ys
 | _,_=>[]
omit [KK] in
theorem zdj:∀ (xs ys:List D) (i:Nat),(zdn xs ys)[i]?=match xs[i]?,ys[i]? with | some x,some y=>some (.tup [x,y]) | _,_=>none
 | [],ys,i=>by simp[zdn]
 | x::xs,[],i=>by simp[zdn]
 | x::xs,y::ys,0=>by simp[zdn]
 | x::xs,y::ys,i+1=>by simpa [zdn]using zdj xs ys i
omit [KK] in
theorem WX:∀ (xs ys:List D),xs.length<=ys.length->(zdn xs ys).length=xs.length
 | [],ys,_=>by simp[zdn]
 | x::xs,[],h=>by simp at h
 | x::xs,y::ys,h=>by simp[zdn,WX xs ys (by simpa using h)]
def Ys (f:Ev->Option (List D)):Ev->Option (List D):=fun ρ=>(f ρ).bind λas=>match as with
 | [d,e]=>(xC d).bind λxs=>(xC e).bind λys=>if xs.length<=ys.length then some (zdn xs ys)else none
 | _=>none
theorem zln {K:W.Frag}{F H:Hp}{d:D}{v:V}{ds:List D}(s:yn F H)(h:At F d v)(e:xC d=some ds):∃ b p xs,v=.ref p/\(∀ {F' H':Hp},yn F F'->yn F' H'->Sq b K H' p xs)/\AtL F ds xs:=by
 cases d <;> cases e
 .obtain⟨p,xs,rfl,hx,al⟩:=h.tup_inv
  exact⟨false,p,xs,rfl,λs1 s2=>SqT.of (s2 _ _ (s1 _ _ hx)),al⟩
 .obtain⟨p,xs,rfl,hx,al⟩:=h.lst_inv
  exact⟨true,p,xs,rfl,λs1 s2=>SqL.of (s2 _ _ (s1 _ _ hx)),al⟩
theorem zlb {es:List Expr} {k:Nat} {tp p:Pos} {f:Ev->Option (List D)} (hg:Gl X "zip") (hm:X.mg "zip"=none) (ha:AD X [a,b] f)
 (hs:starEach [a,b] X.env=[(false,eval a X.env),(false,eval b X.env)]:=by rfl) (hs2:starEach [b] X.env=[(false,eval b X.env)]:=by rfl):ID X (.Tuple es k tp) (.Call (.Name "zip" p) [a,b] [] pos) (Ys f):=by
 obtain⟨t,pa,r⟩:=ha
 refine⟨_,zmp hg hm zlU pa hs hs2,fun σ ρ F H ds R s va e q=>?_⟩
 obtain⟨as,e1,e2⟩:=u4.mp e
 refine r σ ρ F H as _ s va e1 λF1 H1 v g1 a1=>?_
 split at e2
 .obtain⟨x,r',rfl,ax,ar⟩:=a1.cons_inv
  obtain⟨y,r',rfl,ay,ar⟩:=ar.cons_inv
  cases ar.nil_inv
  obtain⟨xs,e3,e2'⟩:=u4.mp e2
  obtain⟨ys,e4,e2''⟩:=u4.mp e2'
  clear e2 e2' e
  split at e2'' <;> cases e2''
  rename_i hle
  obtain⟨b1,p1,us,rfl,sq1,al⟩:=zln (K:=X.K) g1.fh ax e3
  obtain⟨b2,p2,ws,rfl,sq2,bl⟩:=zln (K:=X.K) g1.fh ay e4
  refine⟨b1,b2,p1,p2,us,ws,rfl,sq1 (yn.refl _) g1.fh,sq2 (yn.refl _) g1.fh,q F1 H1 _ g1 λi F2 H2 s1 s2=>?_⟩
  have q1:=sq1 s1 s2
  have q2:=sq2 s1 s2
  refine⟨λhl=>⟨us,q1,by rw[hl,WX _ _ hle,al.length]⟩,λd hd=>?_⟩
  rw[zdj]at hd
  cases h1:xs[i]? with
  | none=>rw[h1]at hd;cases hd
  | some x =>
   cases h2:ys[i]? with
   | none=>rw[h1,h2]at hd;cases hd
   | some y =>
    rw[h1,h2]at hd
    cases hd
    obtain⟨u,hu,au⟩:=al.get h1
    obtain⟨u2,hu2,au2⟩:=bl.get h2
    refine⟨⟨us,ws,u,u2,q1,q2,hu,hu2⟩,λz H3 hz=>?_⟩
    obtain⟨T,x',y',rfl,hT,rfl,hx',hy'⟩:=hz
    have e5:=hx' us q1
    have e6:=hy' ws q2
    rw[hu]at e5
    rw[hu2]at e6
    cases e5
    cases e6
    have g3:=Gr.alloc s2 hT (.tup [u,u2])
    exact⟨_,g3,.tup zq (.cons (au.mono (s1.trans g3.ff)) (.cons (au2.mono (s1.trans g3.ff)) .nil))⟩
 .cases e2
def xi (g:List D->Option (List D))(f:Ev->Option (List D))(b:D->SE->Option SE)(h:SE->Ctl):SE->Ctl:=fun ρ=>match (f (visG ρ)).bind g with
 | some ds=>zgU b h ds ρ
 | none=>.no
theorem Yh {p pos':Pos} {body:List Stmt} {f:Ev->Option (List D)} {b':D->SE->Option SE} {g:SE->Ctl} (hp:PassesOwn (model X.prog X.w) X.A X.env X.xe) (hc:X.calm=true) (hgl:Gl X "range") (hm:X.mg "range"=none) (ha:AD X [a] f) (hg:BD X tg b') (hb:SDs X body g)
 (hs0:starEach [a] X.env=[(false,eval a X.env)]:=by rfl) (hs:∀ x,foldedSetIterable (.Call (.Name "range" p) [a] [] pos) X.env x=pure x:=by intro _;rfl):SD X (.For tg (.Call (.Name "range" p) [a] [] pos) body [] pos') (xi vb f b' g):=by
 obtain⟨t,pa,r⟩:=ha
 obtain⟨tg',pg,rg⟩:=hg
 obtain⟨tb,pb,rb⟩:=hb
 refine⟨_,zeV hp hc (zcc hgl hm pa hs0) pg pb hs,λFb Hb F H ρ σ E rl k=>?_⟩
 unfold xi at k
 cases h:(f (visG ρ)).bind vb with
 | none=>rw[h]at k;exact k.elim
 | some ds =>
  rw[h]at k
  obtain⟨as,e1,e2⟩:=u4.mp h
  refine r σ _ _ H as _ rl.gh rl.visG e1 λF1 H1 vs g1 a1=>?_
  have rl2:=rl.grow (rl.back g1).1
  unfold vb at e2
  split at e2
  .split at e2 <;> cases e2
   rename_i hc
   obtain⟨x,r',rfl,ax,ar⟩:=a1.cons_inv
   cases ar.nil_inv
   exact⟨_,by rw[ax.int_inv],(yQ.mp hc).1,(yQ.mp hc).2,zeA (zgr 0 _) rg rb rl2 k⟩
  .cases e2
theorem zhC {p pos':Pos} {body:List Stmt} {f:Ev->Option (List D)} {b':D->SE->Option SE} {g:SE->Ctl} (hp:PassesOwn (model X.prog X.w) X.A X.env X.xe) (hc:X.calm=true) (hgl:Gl X "range") (hm:X.mg "range"=none) (ha:AD X [a,b] f) (hg:BD X tg b') (hb:SDs X body g)
 (hs0:starEach [a,b] X.env=[(false,eval a X.env),(false,eval b X.env)]:=by rfl) (hs2:starEach [b] X.env=[(false,eval b X.env)]:=by rfl) (hs:∀ x,foldedSetIterable (.Call (.Name "range" p) [a,b] [] pos) X.env x=pure x:=by intro _;rfl):SD X (.For tg (.Call (.Name "range" p) [a,b] [] pos) body [] pos') (xi Vu f b' g):=by
 obtain⟨t,pa,r⟩:=ha
 obtain⟨tg',pg,rg⟩:=hg
 obtain⟨tb,pb,rb⟩:=hb
 refine⟨_,zeV hp hc (zf2 hgl hm pa hs0 hs2) pg pb hs,λFb Hb F H ρ σ E rl k=>?_⟩
 unfold xi at k
 cases h:(f (visG ρ)).bind Vu with
 | none=>rw[h]at k;exact k.elim
 | some ds =>
  rw[h]at k
  obtain⟨as,e1,e2⟩:=u4.mp h
  refine r σ _ _ H as _ rl.gh rl.visG e1 λF1 H1 vs g1 a1=>?_
  have rl2:=rl.grow (rl.back g1).1
  unfold Vu at e2
  split at e2
  .split at e2 <;> cases e2
   rename_i hc
   obtain⟨x,r',rfl,ax,ar⟩:=a1.cons_inv
   obtain⟨y,r',rfl,ay,ar⟩:=ar.cons_inv
   cases ar.nil_inv
   exact⟨_,_,by rw[ax.int_inv,ay.int_inv],⟨(yQ.mp hc.1).1,(yQ.mp hc.1).2,(yQ.mp hc.2).1,(yQ.mp hc.2).2⟩,zeA (zgr _ _) rg rb rl2 k⟩
  .cases e2
end
theorem zjQ {P:Program}{w:World}{K:W.Frag}{mg:Str->Option Value}{base:Heap}{f:Addr}{fd:FuncData}{ps:List Str}{k m:Nat}:yU P w K mg base CX0 k f fd ps (spD m λ_=>none):=by
 refine⟨λvs H Q E h=>?_,λA outer s H args us vs Q E _ _ _ _ h=>?_⟩
 .obtain⟨_,_,_,_,_,_,e,_⟩:=h
  cases e
 .obtain⟨_,_,_,_,_,_,e,_⟩:=h
  cases e
def zlj (n:Nat)(g:(List D->Option D)->SE->Ctl):Nat->List D->Option D
 | 0=>λ_=>none
 | k+1=>fnD n (g (zlj n g k))
theorem zlv {P:Program}{w:World}{K:W.Frag}{mg:Str->Option Value}{base:Heap}{x qual:Str}{st:Stmt}{f:Addr}{fd:FuncData}{N ps:List Str}{k0:Nat}{g:(List D->Option D)->SE->Ctl}(Fu:Fun K x qual st f fd)(S:zx N ps (zk st))
 (hb:∀ (k:Nat) (r:List D->Option D),yU P w K mg base CX0 (k0+k) f fd ps (spD ps.length r)->∀ (cdv:Value) (A:Around) (outer:List Env) (s:Shared) (H:Hp) (E:XK),ve (k0+k) (A.deeper (PyProof.Rows.envOfC qual (zk st) s.heap.objs.size f cdv))->SDs (Vv CX0 P w K mg base N qual (zk st) f cdv A outer s H E).nox (xn st) (g r)) :
 ∀ n,yU P w K mg base CX0 (k0+n) f fd ps (spD ps.length (zlj N.length g n)):=by
 intro n
 induction n with
 | zero=>exact zjQ
 | succ n ih=>exact y4 Fu S λcdv A outer s H E hr=>hb n _ ih cdv A outer s H E hr
def zfE (K:W.Frag):Sp:=λvs H Q _=>∃ (a:Addr) (ns:List Int),vs=[.ref a]/\SqL K H a (ns.map V.int)/\ns.length<=63/\∀ H',Q (.bl true) H'
end Dl
namespace Dl
open PySem L2
theorem zkP {P:Program}{w:World}{K:W.Frag}{mg:Str->Option Value}{base:Heap}{f:Addr}{fd:FuncData}{ps:List Str}{k:Nat}{p:List D->Option D}(F:yU P w K mg base CX0 k f fd ps (@spD ⟨K⟩ 1 p))(h:∀ ns:List Int,ns.length<=63->p [.scr ns]=some (.bl true)) :
 yU P w K mg base CX0 k f fd ps (zfE K):=by
 letI:KK:=⟨K⟩
 refine F.imp λvs H Q E hs=>?_
 obtain⟨a,ns,rfl,hq,hl,q⟩:=hs
 refine⟨[.scr ns],.bl true,H,rfl,yn.refl _,.cons ?_ .nil,h ns hl,λF' H' v _ av=>?_⟩
 .unfold At
  exact⟨a,rfl,hq⟩
 .rw[av.bl_inv]
  exact q H'
structure Def (K:W.Frag) (mg:Str->Option Value) (x:Str) (st:Stmt) (ps:List Str) (f:Addr) (fd:FuncData):Prop where
 fn:Fun K x x st f fd
 bd:zaS K fd ps []
 at_:mg x=some (.ref f)
theorem Def.kp {K:W.Frag}{mg:Str->Option Value}{x:Str}{st:Stmt}{ps:List Str}{f:Addr}{fd:FuncData}(d:Def K mg x st ps f fd):W.keepIn K (.ref f)=true:=d.fn.kp
inductive Ctl.w:Ctl->(SE->Prop)->(SE->Prop)->(SE->Prop)->(D->Prop)->Prop where
 | nx {ρ:SE} {n b k:SE->Prop} {r:D->Prop}:n ρ->Ctl.w (.nx ρ) n b k r
 | bk {ρ:SE} {n b k:SE->Prop} {r:D->Prop}:b ρ->Ctl.w (.bk ρ) n b k r
 | ct {ρ:SE} {n b k:SE->Prop} {r:D->Prop}:k ρ->Ctl.w (.ct ρ) n b k r
 | rt {d:D} {n b k:SE->Prop} {r:D->Prop}:r d->Ctl.w (.rt d) n b k r
section
variable {ρ:SE}{d:D}{n b k:SE->Prop}{r:D->Prop}
theorem Ctl.w.nxi (h:Ctl.w (.nx ρ) n b k r):n ρ:=by cases h;assumption
theorem Ctl.w.bki (h:Ctl.w (.bk ρ) n b k r):b ρ:=by cases h;assumption
theorem Ctl.w.cti (h:Ctl.w (.ct ρ) n b k r):k ρ:=by cases h;assumption
theorem Ctl.w.rti (h:Ctl.w (.rt d) n b k r):r d:=by cases h;assumption
theorem Ctl.w.noi (h:Ctl.w .no n b k r):False:=by cases h
end
abbrev noP:SE->Prop:=λ_=>False
section
variable {g h:SE->Ctl}{ρ ρ':SE}{n b k:SE->Prop}{r:D->Prop}
theorem yW (e:(g ρ).w (fun ρ'=>(h ρ').w n b k r) b k r):(zT g h ρ).w n b k r:=by
 unfold zT
 cases hg:g ρ with
 | nx ρ'=>rw[hg]at e;exact e.nxi
 | bk ρ'=>rw[hg]at e;exact .bk e.bki
 | ct ρ'=>rw[hg]at e;exact .ct e.cti
 | rt d=>rw[hg]at e;exact .rt e.rti
 | no=>rw[hg]at e;exact e.noi.elim
theorem zy (e:g ρ=.nx ρ')(q:(h ρ').w n b k r):(zT g h ρ).w n b k r:=yW (by rw[e];exact .nx q)
theorem ZH (e:g ρ=.nx ρ')(q:n ρ'):(g ρ).w n b k r:=by rw[e];exact .nx q
theorem Zc {d:D}(e:g ρ=.rt d)(q:r d):(g ρ).w n b k r:=by rw[e];exact .rt q
theorem WA {t:Ev->Option Bool}{c:Bool}(e:t (visG ρ)=some c)(h1:c=true->(g ρ).w n b k r)(h2:c=false->(h ρ).w n b k r):(sIf t g h ρ).w n b k r:=by
 unfold sIf
 rw[e]
 cases c with
 | true=>exact h1 rfl
 | false=>exact h2 rfl
theorem zew {i:Nat}(e:zmu ρ i=ρ')(q:(g ρ').w n b k r):(sFz i g ρ).w n b k r:=by
 unfold sFz
 rw[e]
 exact q
theorem zgs {bd:D->SE->Option SE}(I:Nat->SE->Prop):∀ (ds:List D) (j:Nat) (ρ:SE),I j ρ ->
 (∀ i d ρ,ds[i]?=some d->I (j+i) ρ->∃ ρ1,bd d ρ=some ρ1/\(g ρ1).w (I (j+i+1)) n (I (j+i+1)) r)->(∀ ρ,I (j+ds.length) ρ->n ρ)->(zgU bd g ds ρ).w n b k r
 | [],j,ρ,h0,_,fin=>.nx (fin ρ h0)
 | d::ds,j,ρ,h0,step,fin=>by
  obtain⟨ρ1,e1,e2⟩:=step 0 d ρ rfl h0
  unfold zgU
  rw[e1]
  dsimp only
  have next:∀ ρ',I (j+1) ρ'->(zgU bd g ds ρ').w n b k r:=fun ρ' h'=>zgs I ds (j+1) ρ' h'
   (λi d' ρ hd hI=>by
    have:=step (i+1) d' ρ (by simpa using hd) (by rw[show j+(i+1)=j+1+i by omega];exact hI)
    rwa[show j+(i+1)+1=j+1+i+1 by omega]at this)
   (fun ρ hI=>fin ρ (by rw[p9,show j+(ds.length+1)=j+1+ds.length by omega];exact hI))
  cases hg:g ρ1 with
  | nx ρ'=>rw[hg]at e2;exact next ρ' e2.nxi
  | ct ρ'=>rw[hg]at e2;exact next ρ' e2.cti
  | bk ρ'=>rw[hg]at e2;exact .nx e2.bki
  | rt d'=>rw[hg]at e2;exact .rt e2.rti
  | no=>rw[hg]at e2;exact e2.noi.elim
theorem Wn {f:Ev->Option (List D)}{bd:D->SE->Option SE}{ds:List D}(I:Nat->SE->Prop)(e:f (visF ρ)=some ds)(h0:I 0 ρ)
 (step:∀ i d ρ,ds[i]?=some d->I i ρ->∃ ρ1,bd d ρ=some ρ1/\(g ρ1).w (I (i+1)) n (I (i+1)) r) (fin:∀ ρ,I ds.length ρ->n ρ):(ZQ f bd g ρ).w n b k r:=by
 unfold ZQ
 rw[e]
 exact zgs I ds 0 ρ h0 (λi d ρ hd hI=>by rw[u02]at hI ⊢;exact step i d ρ hd hI) (fun ρ hI=>fin ρ (by rw[u02]at hI;exact hI))
theorem XF {f:Ev->Option (List D)}{bd:D->SE->Option SE}{rg:List D->Option (List D)}{lo:Int}{c:Nat}(I:Nat->SE->Prop)(e:(f (visG ρ)).bind rg=some (Wq lo c))(h0:I 0 ρ)
 (step:∀ (i:Nat) ρ,i < c->I i ρ->∃ ρ1,bd (.int (lo+i)) ρ=some ρ1/\(g ρ1).w (I (i+1)) n (I (i+1)) r) (fin:∀ ρ,I c ρ->n ρ):(xi rg f bd g ρ).w n b k r:=by
 unfold xi
 rw[e]
 refine zgs I (Wq lo c) 0 ρ h0 (λi d ρ hd hI=>?_) (fun ρ hI=>fin ρ ?_)
 .rw[u02]at hI ⊢
  unfold Wq at hd
  rw[r9]at hd
  by_cases hi:i < c
  .rw[u1v hi]at hd
   cases hd
   exact step i ρ hi hI
  .rw[u0Z (by simpa using hi)]at hd
   cases hd
 .rw[u02]at hI
  rwa[show(Wq lo c).length=c by unfold Wq;simp]at hI
theorem zl9 {n' b' k':SE->Prop}{r':D->Prop}{c:Ctl}(q:c.w n b k r)(h1:∀ ρ,n ρ->n' ρ)(h2:∀ ρ,b ρ->b' ρ)(h3:∀ ρ,k ρ->k' ρ)(h4:∀ d,r d->r' d):c.w n' b' k' r':=by
 cases q with
 | nx q=>exact .nx (h1 _ q)
 | bk q=>exact .bk (h2 _ q)
 | ct q=>exact .ct (h3 _ q)
 | rt q=>exact .rt (h4 _ q)
theorem za0 {t:Ev->Option Bool}(I:SE->Prop)(μ:SE->Nat)(step:∀ ρ,I ρ->∃ c,t (visG ρ)=some c/\(c=true->(g ρ).w (fun ρ'=>I ρ'/\μ ρ' < μ ρ) n (fun ρ'=>I ρ'/\μ ρ' < μ ρ) r)/\(c=false->n ρ)):∀ (fu:Nat) (ρ:SE),I ρ->μ ρ < fu->(ZK t g fu ρ).w n b k r
 | 0,ρ,_,hf=>by omega
 | fu+1,ρ,hI,hf=>by
  obtain⟨c,e,q1,q2⟩:=step ρ hI
  unfold ZK
  rw[e]
  cases c with
  | false=>exact .nx (q2 rfl)
  | true =>
   have q:=q1 rfl
   dsimp only
   cases hg:g ρ with
   | nx ρ'=>rw[hg]at q;exact za0 I μ step fu ρ' q.nxi.1 (by have:=q.nxi.2;omega)
   | ct ρ'=>rw[hg]at q;exact za0 I μ step fu ρ' q.cti.1 (by have:=q.cti.2;omega)
   | bk ρ'=>rw[hg]at q;exact .nx q.bki
   | rt d'=>rw[hg]at q;exact .rt q.rti
   | no=>rw[hg]at q;exact q.noi.elim
end
theorem XG {m:Nat}{g:SE->Ctl}{ds:List D}{d:D}{ρ:SE}(e:ds.map .v++List.replicate (m - ds.length) .no=ρ)(q:(g ρ).w (λ_=>d=.non) noP noP (λd'=>d'=d)):fnD m g ds=some d:=by
 unfold fnD
 rw[e]
 cases hg:g ρ with
 | nx ρ'=>rw[hg]at q;rw[show d=.non from q.nxi]
 | rt d'=>rw[hg]at q;rw[show d'=d from q.rti]
 | bk _=>rw[hg]at q;exact q.bki.elim
 | ct _=>rw[hg]at q;exact q.cti.elim
 | no=>rw[hg]at q;exact q.noi.elim
theorem VV {m:Bool}{i:Nat}{f:Ev->Option D}{ρ:SE}{ds:List D}{d:D}(h1:vEv m f ρ=some d)(h2:ρ[i]?=some (.o ds))(h3:ds.length<=1000):Wo m i f ρ=.nx (ρ.set i (.o (ds++[d]))):=by
 unfold Wo
 rw[h1,h2]
 show(match (if decide (ds.length < sizeLine)=true then some (ρ.set i (.o (ds++[d])))else none)with | some ρ'=>Ctl.nx ρ' | none=>Ctl.no)=_
 rw[j4 (o0 (Xr h3))]
theorem zai {b:D->Option (List (Option D))}{t:Ev->Option Bool}{f:Ev->Option D}{ρ:Ev}{α:Type}(c:α->D)(y:α->D):∀ (xs:List α),(∀ x∈xs,∃ own,b (c x)=some own/\t (own++ρ)=some true/\f (own++ρ)=some (y x))->lcD b t f ρ (xs.map c)=some (xs.map y)
 | [],_=>rfl
 | x::xs,h=>by
  obtain⟨own,h1,h2,h3⟩:=h x u0E
  show lcD b t f ρ (c x::xs.map c)=_
  unfold lcD
  rw[h1]
  simp only[p7,h2,u2F,h3,zai c y xs λz hz=>h z (u0d _ hz)]
  rfl
theorem Zf {b:D->Option (List (Option D))}{t:Ev->Option Bool}{f:Ev->Option D}{ρ:Ev}{α:Type}(c:α->D)(p:α->Bool)(y:α->D):∀ (xs:List α),(∀ x∈xs,∃ own,b (c x)=some own/\t (own++ρ)=some (p x)/\(p x=true->f (own++ρ)=some (y x)))->lcD b t f ρ (xs.map c)=some ((xs.filter p).map y)
 | [],_=>rfl
 | x::xs,h=>by
  obtain⟨own,h1,h2,h3⟩:=h x u0E
  have ih:=Zf c p y xs λz hz=>h z (u0d _ hz)
  show lcD b t f ρ (c x::xs.map c)=_
  unfold lcD
  rw[h1]
  simp only[p7,h2]
  cases hp:p x with
  | false =>
   rw[j6 u6,ih,List.filter_cons,j6 (by rw[hp];exact u6)]
  | true =>
   rw[j4 rfl,h3 hp,ih,List.filter_cons,j4 hp]
   rfl
mutual
def noS:D->Bool
 | .tup ds=>zi8 ds
 | .lst ds=>zi8 ds
 | .scr _=>false
 | _=>true
def zi8:List D->Bool
 | []=>true
 | d::ds=>noS d&&zi8 ds
end
theorem Zj:∀ {ds:List D} {i:Nat} {d:D},zi8 ds=true->ds[i]?=some d->noS d=true
 | [],_,_,_,h=>by simp at h
 | d::ds,i,e,h,he=>by
  unfold zi8 at h
  rw[h9]at h
  cases i with
  | zero=>simp at he;subst he;exact h.1
  | succ i=>exact Zj h.2 (by simpa using he)
theorem wq {n:Nat}(h:n<=1000):lim n=true:=by
 unfold lim
 exact o0 (u2j (Xr h))
theorem Z9 (lo:Int)(n:Nat):(Wq lo n).length=n:=by unfold Wq;simp
end Dl
namespace Dl
open PySem L2
abbrev Pr:=Int × Int
def prD (t:Pr):D:=.tup [.int t.1,.int t.2]
def zmF:D->Option Pr
 | .tup [.int a,.int b]=>some (a,b)
 | _=>none
def zbV:List D->Option (List Pr)
 | []=>some []
 | d::ds=>(zmF d).bind λt=>(zbV ds).map (t::·)
theorem zje {d:D}{t:Pr}(h:zmF d=some t):d=prD t:=by
 unfold zmF at h
 split at h
 .cases h;rfl
 .cases h
theorem zdz:∀ {ds:List D} {ts:List Pr},zbV ds=some ts->ds=ts.map prD
 | [],ts,h=>by cases h;rfl
 | d::ds,ts,h=>by
  unfold zbV at h
  obtain⟨t,h1,h2⟩:=u4.mp h
  obtain⟨us,h3,rfl⟩:=t9.mp h2
  rw[zje h1,zdz h3]
  rfl
theorem zcb (ts:List Pr):zbV (ts.map prD)=some ts:=by
 induction ts with
 | nil=>rfl
 | cons t ts ih =>
  show(zmF (prD t)).bind (λu=>(zbV (ts.map prD)).map (u::·))=_
  rw[ih]
  rfl
def zkw (a b:Pr):Bool:=!OwnSort.bltP b a
def zan (ts:List Pr):List Pr:=ts.mergeSort zkw
def leI (a b:Int):Bool:=decide (a<=b)
def zif (ns:List Int):List Int:=ns.mergeSort leI
theorem VW {a b:Pr}:OwnSort.bltP b a=false↔zkw a b=true:=by unfold zkw;simp
theorem vt {a b:Pr}:zkw a b=true↔a.1 < b.1\/(a.1=b.1/\a.2<=b.2):=by
 rw[<-VW]
 unfold OwnSort.bltP
 rw[u0K]
 omega
theorem zdZ {ts us:List Pr}(p:us.Perm ts)(h:us.Pairwise λa b=>OwnSort.bltP b a=false):us=zan ts:=by
 refine u2h (le:=λa b=>zkw a b=true) (λa b _ _ h1 h2=>?_) (h.imp λx=>VW.mp x) ?_ (p.trans (u3a _ _).symm)
 .rw[vt]at h1 h2
  exact u3w (by omega) (by omega)
 .exact u2q (λa b c h1 h2=>by rw[vt]at *;omega) (λa b=>by rw[u3K,vt,vt];omega) _
theorem zec {ts us:List Int}(p:us.Perm ts)(h:us.Pairwise (·<=·)):us=zif ts:=by
 refine u2h (le:=λa b=>leI a b=true) (λa b _ _ h1 h2=>?_) (h.imp λx=>o0 x) ?_ (p.trans (u3a _ _).symm)
 .unfold leI at h1 h2
  rw[b9]at h1 h2
  omega
 .exact u2q (λa b c h1 h2=>by unfold leI at *;rw[b9]at *;omega) (λa b=>by unfold leI;rw[u3K,b9,b9];omega) _
def zee:List D->Option (List D)
 | [.lst ds]=>if ds.length < 64 then match zbV ds with
  | some ts=>some ((zan ts).map prD)
  | none=>match za5 ds with
   | some ns=>some ((zif ns).map .int)
   | none=>none
  else none
 | _=>none
variable [KK]
section
variable {X:Cx}{e:Expr}{pos:Pos}
theorem At.pr_inv {F:Hp}{t:Pr}{v:V}(h:At F (prD t) v):∃ a,v=.ref a/\F a=some (.tup [.int t.1,.int t.2]):=by
 obtain⟨a,xs,rfl,hx,al⟩:=h.tup_inv
 obtain⟨x,r,rfl,a1,al⟩:=al.cons_inv
 obtain⟨y,r,rfl,a2,al⟩:=al.cons_inv
 cases al.nil_inv
 cases a1.int_inv
 cases a2.int_inv
 exact⟨a,rfl,hx⟩
theorem zb0 (hc:X.calm=true):Xw X (.builtin "sorted") (λxs H Q=>∃ F p ys ds out,xs=[.ref p]/\yn F H/\H p=some (.lst ys)/\AtL F ds ys/\zee [.lst ds]=some out/\∀ l zs,H l=none->AtL F out zs->Q (.ref l) (upd H l (.lst zs))):=by
 intro pins s σ H xs us Q I r h
 obtain⟨F,p,ys,ds,out,rfl,sm,hp,al,hs,q⟩:=h
 obtain⟨u,rfl,ru⟩:=zaf r
 cases ru
 obtain⟨its,rv,pl,hz⟩:=I.list (SqL.of hp)
 have hlen:its.length=ds.length:=by rw[<-rv.length,al.length]
 unfold zee at hs
 dsimp only at hs
 split at hs <;> try cases hs
 rename_i h64
 have fin:∀ (zs:List V) (ws:List Value),zs.length < 64->yk zs ws->AtL F out zs->EP X pins σ Q (.ref (s.heap.objs.size+1)) { s with heap:=PyProof.Rows.sortedAll s.heap its ws.toArray }:=λzs ws hl rz az=>by
  have hn:H (s.heap.objs.size+1)=none:=I.hok.fresh (u3v _)
  obtain⟨ep,he⟩:=PyProof.Rows.sortedAll_at s.heap its ws.toArray
  refine⟨.ref (s.heap.objs.size+1),upd H (s.heap.objs.size+1) (.lst zs),I.laid (t':=s.toks) (λb o z=>PyProof.Rows.sortedAll_old z) (u3v _) ?_,rfl,q _ zs hn az⟩
  exact⟨u2j (Xr (by omega)),ws,ep,rz,he⟩
 split at hs
 .rename_i ts hts
  cases hs
  have eds:=zdz hts
  subst eds
  have look:∀ {v:Value},v∈its->∃ a t,v=.ref a/\t∈ts/\F a=some (.tup [.int t.1,.int t.2])/\OwnSort.TP s.heap v t:=λ{v} hv=>by
   obtain⟨j,hj,rfl⟩:=u0v hv
   have hj2:j < ts.length:=by rw[u9]at hlen;omega
   obtain⟨x,hx,ax⟩:=al.get (i:=j) (d:=prD ts[j]) (by rw[r9];simp[hj2])
   obtain⟨a,rfl,ha⟩:=ax.pr_inv
   obtain⟨v,hv,rvv⟩:=rv.get hx
   have e1:its[j]?=some its[j]:=by simp[hj]
   rw[hv]at e1
   cases e1
   have e2:its[j]=.ref a:=rvv
   refine⟨a,ts[j],e2,u1x hj2,ha,?_⟩
   obtain⟨us,ru,⟨o,ho,hcl,n,hd⟩,_⟩:=I.tuple (SqT.of (sm _ _ ha))
   obtain⟨u1,u2,rfl,r1,r2⟩:=zeh ru
   obtain⟨t1,rfl⟩:=r1
   obtain⟨t2,rfl⟩:=r2
   exact⟨a,o,n,t1,t2,e2,ho,hcl,hd⟩
  refine OwnSort.own_sorted pl.isList (λv hv=>let ⟨a,t,_,_,_,ht⟩:=look hv;⟨t,ht⟩) (by omega) λo2 pm ri=>?_
  obtain⟨us,l1,l2,l3⟩:=ri
  have hlo:o2.toList.length=ts.length:=by rw[pm.length_eq,hlen,u9]
  -- the values' addresses
  have zsOf:∀ (ws:List Value) (vs:List Pr),ws.length=vs.length->(∀ w∈ws,w∈its)->(∀ (i:Nat) v t,ws[i]?=some v->vs[i]?=some t->OwnSort.TP s.heap v t)->∃ zs:List V,yk zs ws/\AtL F (vs.map prD) zs:=by
   intro ws
   induction ws with
   | nil =>
    intro vs hl _ _
    cases vs with
    | nil=>exact⟨[],.nil,.nil⟩
    | cons _ _=>simp at hl
   | cons w ws ih =>
    intro vs hl hm ht
    cases vs with
    | nil=>simp at hl
    | cons t vs =>
     obtain⟨zs,z1,z2⟩:=ih vs (by simpa using hl) (λw' hw'=>hm w' (u0d _ hw')) (λi v t h1 h2=>ht (i+1) v t (by simpa using h1) (by simpa using h2))
     obtain⟨a,t',rfl,_,ha,htp⟩:=look (hm w u0E)
     have et:t'=t:=htp.uniq (ht 0 _ t rfl rfl)
     subst et
     exact⟨.ref a::zs,.cons rfl z1,.cons (.tup ha (.cons .int (.cons .int .nil))) z2⟩
  obtain⟨zs,z1,z2⟩:=zsOf o2.toList us l1 (λw hw=>pm.mem_iff.mp hw) l2
  have keysPerm:us.Perm ts:=by
   -- by the keys of the values
   have kv:∀ (ws:List Value) (vs:List Pr),ws.length=vs.length->(∀ (i:Nat) v t,ws[i]?=some v->vs[i]?=some t->OwnSort.TP s.heap v t)->vs=ws.map λv=>(OwnSort.keyP s.heap v).getD (0,0):=by
    intro ws
    induction ws with
    | nil=>intro vs hl _;cases vs with
     | nil=>rfl
     | cons _ _=>simp at hl
    | cons w ws ih =>
     intro vs hl ht
     cases vs with
     | nil=>simp at hl
     | cons t vs =>
      rw[u0g,OwnSort.keyP_of (ht 0 w t rfl rfl),<- ih vs (by simpa using hl) λi v t h1 h2=>ht (i+1) v t (by simpa using h1) (by simpa using h2)]
      rfl
   rw[kv _ _ l1 l2,kv its ts (by rw[hlen,u9]) λi v t h1 h2=>?_]
   .exact pm.map _
   .obtain⟨x,hx,ax⟩:=al.get (i:=i) (d:=prD t) (by rw[r9,h2];rfl)
    obtain⟨a,rfl,ha⟩:=ax.pr_inv
    obtain⟨v',hv',rvv⟩:=rv.get hx
    rw[h1]at hv'
    cases hv'
    obtain⟨us',ru',⟨o,ho,hcl,n,hd⟩,_⟩:=I.tuple (SqT.of (sm _ _ ha))
    obtain⟨u1,u2,rfl,r1,r2⟩:=zeh ru'
    obtain⟨t1,rfl⟩:=r1
    obtain⟨t2,rfl⟩:=r2
    exact⟨a,o,n,t1,t2,rvv,ho,hcl,hd⟩
  have e3:=zdZ keysPerm l3
  rw[e3]at z2
  have:=fin zs o2.toList (by rw[z1.length];rw[u9]at h64;omega) z1 z2
  simpa using this
 .split at hs <;> try cases hs
  rename_i ns hns
  have eds:=ZM hns
  subst eds
  have hI:PyProof.Rows.IntsAre its ns:=XI (by rw[<-al.of_ints];exact rv)
  refine PyProof.Rows.sorted_ints pl.isList hI (by omega) λo2 ns' h1 h2 h3=>?_
  have e3:=zec h2 h3
  subst e3
  have z1:yk ((zif ns).map V.int) o2.toList:=zbY h1
  have:=fin ((zif ns).map V.int) o2.toList (by rw[u9,h2.length_eq];rw[u9]at h64;omega) z1 (.ints _)
  simpa using this
theorem zfz {p:Pos} {f:Ev->Option (List D)} (hc:X.calm=true) (hgl:Gl X "sorted") (hm:X.mg "sorted"=none) (ha:AD X [e] f)
 (he:starEach [e] X.env=(false,eval e X.env)::starEach [] X.env:=by rfl) (hpl:(backTo pos (starEach [] X.env)).any (·.1)=false:=by rfl):FL X (.Call (.Name "sorted" p) [e] [] pos) (fFn zee f):=by
 obtain⟨t,pa,ra⟩:=ha
 refine⟨_,zX (zb0 hc) hgl hm Xz pa (by decide) (by decide) he hpl,fun σ ρ F H z Q s va e q=>?_⟩
 obtain⟨ds,e1,e2⟩:=u4.mp e
 refine ra σ ρ F H ds _ s va e1 λF1 H1 vs g1 a1=>?_
 have e2':=e2
 unfold zee at e2'
 split at e2'
 .obtain⟨x,r,rfl,ax,ar⟩:=a1.cons_inv
  cases ar.nil_inv
  obtain⟨p,ys,rfl,hx,bl⟩:=ax.lst_inv
  exact⟨F1,p,ys,_,z,rfl,g1.fh,g1.fh _ _ hx,bl,e2,λl zs hl az=>q _ _ _ _ (g1.trans (Gr.hide g1.fh hl _)) (zeS g1 hl) (g1.fh.free hl) zq az⟩
 .cases e2'
end
end Dl
namespace Dl
open PySem L2
variable [KK]
def zmJ:List D->Option D
 | [.int i]=>some (.int i)
 | [.bl k]=>some (.int (if k then 1 else 0))
 | _=>none
theorem zh2:CaD (λxs H Q=>(∃ i,xs=[.int i]/\Q (.int i) H)\/∃ k,xs=[.bl k]/\Q (.int (if k then 1 else 0)) H) zmJ:=by
 intro F H vs ds z Q s al e q
 unfold zmJ at e
 split at e <;> cases e
 all_goals
  obtain⟨x,r,rfl,ax,ar⟩:=al.cons_inv
  cases ar.nil_inv
 .exact .inl ⟨_,by rw[ax.int_inv],q F H _ (.refl s) .int⟩
 .exact .inr ⟨_,by rw[ax.bl_inv],q F H _ (.refl s) .int⟩
end Dl
namespace L2
open PySem PySem.Spec PyProof.Rows
section
variable {X:Cx}
def ze9:V->List V->Hp->VK->Prop:=λx vs H Q=>∃ l xs i y,x=.ref l/\vs=[.int i,y]/\H l=some (.lst xs)/\xs.length < sizeLine/\0<=i/\i < 2 ^ 63/\Q .non (upd H l (.lst (xs.take i.toNat++y::xs.drop i.toNat)))
theorem zkg (its:List Value)(u:Value)(x:Int)(h0:0<=x) :
 (λxs:Array Value=>have k:=if x < 0 then (x+((xs.size:Nat):Int)).toNat else min x.toNat xs.size;(xs.extract 0 k).push u++xs.extract k) its.toArray=(its.take x.toNat++u::its.drop x.toNat).toArray:=by
 have hn:¬ x < 0:=by omega
 apply Array.ext'
 simp only[j6 hn]
 by_cases c:x.toNat<=its.length
 .simp[u0T c]
  exact i9 (by rw[u0a];exact q5 _)
 .have e:min x.toNat its.length=its.length:=by omega
  have e1:its.take x.toNat=its:=i9 (by omega)
  have e2:its.drop x.toNat=[]:=u2w (by omega)
  simp[e,e1,e2]
theorem zeY:MtM X "list.insert" ze9:=by
 intro pins s σ H x vs v us Q I rx rv h
 obtain⟨l,xs,i,y,rfl,rfl,hH,hz,h0,h1,q⟩:=h
 cases rx
 obtain⟨u,w,rfl,ru,rw'⟩:=rv.two
 obtain⟨t,rfl⟩:=ru
 obtain⟨z,its,n,r,hl,e⟩:=I.lstM hH
 have hfit:¬(!Builtin.List.listFitsIndex i)=true:=by
  have:Builtin.List.listFitsIndex i=true:=fitsIndex_both (by omega) h1
  rw[this]
  exact u6
 refine u23 F.slot_list_insert ⟨_,e,rfl⟩ F.entry_list_insert (F.args_list_insert_3 _ _ _) (AutoListH.list_insert_list_int_val_1 l its.toArray n i t w hfit (by rw[j3];omega)) ⟨e,?_⟩
 refine⟨.non,_,I.lset (its':=its.take i.toNat++w::its.drop i.toNat) hH e (zkg its w i h0) ((r.take _).append (.cons rw' (r.drop _))) ?_,rfl,q⟩
 rw[j9,p9,o9,u0a]
 omega
end
end L2
namespace Dl
open PySem L2
section
variable [KK]{X:Cx}{a e k:Expr}{pos:Pos}
def zkn (ds:List D)(i:Int)(d:D):List D:=ds.take i.toNat++d::ds.drop i.toNat
def zmq (m:Bool)(i:Nat)(fk f:Ev->Option D):SE->Ctl:=fun ρ=>match (vEv m fk ρ).bind λkd=>(vEv m f ρ).bind λd=>match ρ[i]?,kd with
 | some (.o ds),.int j=>if (decide (ds.length < sizeLine)&&decide (0<=j/\j < 2 ^ 63))=true then some (ρ.set i (.o (zkn ds j d)))else none
 | _,_=>none with
 | some ρ'=>.nx ρ'
 | none=>.no
theorem zl1 {m:Bool}{i:Nat}{p pos':Pos}{fk f:Ev->Option D}(ho:PE X a (zef i))(hk:ED X k fk)(he:ED X e f)
 (hp:∀ {ta:TE} {t:TA},PE X a ta->PA X [k,e] t->PE X (.Call (.Attribute a "insert" p) [k,e] [] pos') (tBM X.K "list" ze9 ta t)) (hsw:swapsWith (.Call (.Attribute a "insert" p) [k,e] [] pos') none pos.line X.env=pure false:=by rfl)
 (hs:starEach [k,e] X.env=(false,eval k X.env)::starEach [e] X.env:=by rfl) (hs2:starEach [e] X.env=(false,eval e X.env)::starEach [] X.env:=by rfl):SD X (.Expr (.Call (.Attribute a "insert" p) [k,e] [] pos') pos) (zmq m i fk f):=by
 obtain⟨tk,pk,rk⟩:=hk
 obtain⟨t,pe,re⟩:=he
 refine⟨_,zaV (hp ho (zp pk (zp pe yu hs2) hs)) hsw,λFb Hb F H ρ σ E rl kk=>?_⟩
 unfold zmq at kk
 cases h:(vEv m fk ρ).bind λkd=>(vEv m f ρ).bind λd=>match ρ[i]?,kd with
  | some (.o ds),.int j=>if (decide (ds.length < sizeLine)&&decide (0<=j/\j < 2 ^ 63))=true then some (ρ.set i (.o (zkn ds j d)))else none
  | _,_=>none with
 | none=>rw[h]at kk;exact kk.elim
 | some ρ' =>
  rw[h]at kk
  obtain⟨kd,e0,e2⟩:=u4.mp h
  obtain⟨d,e1,e2⟩:=u4.mp e2
  cases hs:ρ[i]? with
  | none=>rw[hs]at e2;cases e2
  | some sl =>
   rw[hs]at e2
   cases sl with
   | no=>cases e2
   | v _=>cases e2
   | m _ _ _=>cases e2
   | o ds =>
    cases kd with
    | int j =>
     dsimp only at e2
     split at e2 <;> cases e2
     rename_i hl
     rw[h9]at hl
     have hj:=p6 hl.2
     obtain⟨q,xs,f1,f2,f3,f4,f5⟩:=rl.owns i ds hs
     refine⟨_,f1,.inl ⟨rfl,xs,SqL.of f4⟩,?_⟩
     refine rk.at rl e0 λF0 H0 vk g0 ak=>?_
     have rl1:=rl.grow g0
     refine re.at rl1 e1 λF' H' v g av=>?_
     have rl2:=rl1.grow g
     obtain⟨q2,xs2,f1',_,_,f4',f5'⟩:=rl2.owns i ds hs
     rw[f1]at f1'
     cases f1'
     cases ak.int_inv
     refine⟨q,xs2,j,v,rfl,rfl,f4',by rw[f5'.length];exact p6 hl.1,hj.1,hj.2,?_⟩
     exact kk _ _ σ (rl2.mutate hs f1 ((f5'.take _).append (.cons av (f5'.drop _))))
    | _=>cases e2
end
theorem zkH {m:Bool}{i:Nat}{fk f:Ev->Option D}{ρ:SE}{ds:List D}{d:D}{k:Int}(h0:vEv m fk ρ=some (.int k))(h1:vEv m f ρ=some d)(h2:ρ[i]?=some (.o ds))(h3:ds.length<=1000)(h4:0<=k)(h5:k<=1000):zmq m i fk f ρ=.nx (ρ.set i (.o (zkn ds k d))):=by
 unfold zmq
 rw[h0,h1,h2]
 show(match (if (decide (ds.length < sizeLine)&&decide (0<=k/\k < 2 ^ 63))=true then some (ρ.set i (.o (zkn ds k d)))else none)with | some ρ'=>Ctl.nx ρ' | none=>Ctl.no)=_
 have hs:ds.length < sizeLine:=Xr h3
 rw[j4 (by rw[o0 hs,o0 ⟨h4,by omega⟩];rfl)]
section
variable [KK]
section
variable {κ:Type}[DecidableEq κ](f:κ->List Key)(hf:∀ a b,f a=f b->a=b)
include hf
end
end
end Dl
namespace Dl
open PySem L2 PySem.Spec PyProof.Rows
variable [KK]{X:Cx}{e:Expr}
def revD:D->Option (List D)
 | .lst ds=>some ds.reverse
 | _=>none
def zmI (f:Ev->Option D):Ev->Option (List D):=fun ρ=>(f ρ).bind revD
end Dl
namespace L2
open PySem PySem.Spec PyProof.Rows
theorem zd9 {acc:Array Value}{j:Nat}(h:ItemsOf (λi v=>∃ t,v=Value.int (0+(i:Int)*1) t) acc j):yk ((List.range j).map λk:Nat=>V.int (k:Int)) acc.toList:=by
 have gen:∀ (vs:List Value) (a:Nat),(∀ i v,vs[i]?=some v->∃ t,v=Value.int (0+((a+i:Nat):Int)*1) t)->yk ((List.range' a vs.length).map λk:Nat=>V.int (k:Int)) vs:=by
  intro vs
  induction vs with
  | nil=>intro a _;exact .nil
  | cons v vs ih =>
   intro a h
   refine .cons ?_ (ih (a+1) λi v hv=>?_)
   .obtain⟨t,rfl⟩:=h 0 v rfl
    exact⟨t,by rw[show(0:Int)+((a+0:Nat):Int)*1=(a:Int) by omega]⟩
   .have:=h (i+1) v (by simpa using hv)
    rwa[show a+(i+1)=a+1+i by omega]at this
 have:=gen acc.toList 0 λi v hv=>by
  rw[u02]
  exact h.2 i v (by simpa using hv)
 rw[j8,h.1]at this
 rwa[List.range_eq_range']
end L2
namespace Dl
open PySem L2 PySem.Spec PyProof.Rows
variable [KK]{X:Cx}{e:Expr}
def lrD:D->Option (List D)
 | .int j=>if 0<=j/\j<=1000 then some ((List.range j.toNat).map λk:Nat=>.int (k:Int))else none
 | _=>none
end Dl
namespace L2
open PySem PySem.Spec PyProof.Rows
def KD {α:Type}:Sem α->Prop
 | .pure _=>True
 | .raise _=>True
 | .unsupported _=>True
 | .finish _=>True
 | .rule _ k=>KD (k ())
 | .at _ k=>KD (k ())
 | .load _ _ k=>∀ o,KD (k o)
 | .update _ _ f k=>(∀ o,(f o).dict=o.dict)/\KD (k ())
 | .loadIfAlive _ k=>∀ o,KD (k o)
 | .point _ k=>KD (k ())
 | .register _ _=>True
 | .alloc _ k=>∀ a,KD (k a)
 | .fresh k=>∀ t,KD (k t)
 | .ask k=>∀ x,KD (k x)
 | .handled _ k=>∀ x,KD (k x)
 | .stack k=>∀ x,KD (k x)
 | .thread k=>∀ n,KD (k n)
 | .choose _ _ _=>False
 | .os _ _ _=>False
 | .call _ _ _ _ _=>False
 | .newGen _ _=>False
 | .genState _ _=>False
 | .resume _ _ _ _=>False
 | .yield _ _ _ _=>False
 | .fork _ _=>False
 | .await _ _ _ _ _=>False
theorem zj5 {α β:Type}(f:α->Sem β)(hf:∀ a,KD (f a)):∀ (m:Sem α),KD m->KD (m.bind f):=by
 intro m
 induction m with
 | pure a=>intro _;exact hf a
 | raise e=>intro _;trivial
 | unsupported w=>intro _;trivial
 | finish e=>intro _;trivial
 | rule t k ih=>intro h;exact ih () h
 | «at» p k ih=>intro h;exact ih () h
 | load a p k ih=>intro h o;exact ih o (h o)
 | update a p g k ih=>intro h;exact⟨h.1,ih () h.2⟩
 | loadIfAlive a k ih=>intro h o;exact ih o (h o)
 | point l k ih=>intro h;exact ih () h
 | register a k ih=>intro h;trivial
 | alloc o k ih=>intro h a;exact ih a (h a)
 | fresh k ih=>intro h a;exact ih a (h a)
 | ask k ih=>intro h a;exact ih a (h a)
 | handled o k ih=>intro h a;exact ih a (h a)
 | stack k ih=>intro h a;exact ih a (h a)
 | thread k ih=>intro h a;exact ih a (h a)
 | choose s n k ih=>intro h;exact h.elim
 | os q l k ih=>intro h;exact h.elim
 | call c h g l k ih=>intro h;exact h.elim
 | newGen c k ih=>intro h;exact h.elim
 | genState g k ih=>intro h;exact h.elim
 | resume g r l k ih=>intro h;exact h.elim
 | yield v g l k ih=>intro h;exact h.elim
 | fork c k ih=>intro h;exact h.elim
 | await a f d l k ih=>intro h;exact h.elim
theorem zO {α β:Type}{m:Sem α}{f:α->Sem β}(hm:KD m)(hf:∀ a,KD (f a)):KD (m>>=f):=zj5 f hf m hm
def DK (h h':Heap):Prop:=∀ (b:Nat) (o:Obj),h.objs[b]?=some o->∃ o':Obj,h'.objs[b]?=some o'/\o'.dict=o.dict
theorem DK.refl (h:Heap):DK h h:=λ_ o e=>⟨o,e,rfl⟩
theorem DK.trans {h1 h2 h3:Heap}(a:DK h1 h2)(b:DK h2 h3):DK h1 h3:=λp o e=>by
 obtain⟨o1,e1,d1⟩:=a p o e
 obtain⟨o2,e2,d2⟩:=b p o1 e1
 exact⟨o2,e2,d2.trans d1⟩
theorem DK.push (h:Heap)(o:Obj):DK h (h.push o):=λb u e=>by
 refine⟨u,?_,rfl⟩
 obtain⟨objs,l⟩:=h
 show(objs.push o)[b]?=some u
 have hb:b < objs.size:=(u3d.mp e).1
 rw[Array.getElem?_push_lt hb]
 exact(u3d.mp e).2 ▸ rfl
theorem DK.update (h:Heap)(a:Addr){f:Obj->Obj}(hf:∀ o,(f o).dict=o.dict):DK h (h.update a f):=λb u e=>by
 obtain⟨objs,l⟩:=h
 show ∃ o',(objs.modify a f)[b]?=some o'/\_
 rw[Array.getElem?_modify]
 have e:objs[b]?=some u:=e
 split
 .rw[e];exact⟨f u,rfl,hf u⟩
 .rw[e];exact⟨u,rfl,rfl⟩
theorem zf6 {h:Heap}{b:Addr}{o:Obj}(e:h.get? b=some o):h.objs[b]?=some o:=by
 unfold Heap.get? at e
 split at e
 .cases e
 .exact e
theorem DK.of {h h':Heap}{b:Addr}{o o':Obj}(k:DK h h')(e:h.get? b=some o)(e':h'.get? b=some o'):o'.dict=o.dict:=by
 obtain⟨o2,e2,d⟩:=k b o (zf6 e)
 rw[zf6 e']at e2
 cases e2
 exact d
theorem zng {α:Type}(M:Model)(Γ:PySem.Ctx):∀ (m:Sem α) (Q:α->Pos->Shared->Prop) (E:Value->Pos->Shared->Prop) (p:Pos) (s s0:Shared),KD m->DK s0.heap s.heap->Sem.wp M Γ m Q E p s ->
 Sem.wp M Γ m (λa p s'=>Q a p s'/\DK s0.heap s'.heap) (λe p s'=>E e p s'/\DK s0.heap s'.heap) p s:=by
 intro m
 induction m with
 | pure a=>intro Q E p s s0 _ k h;exact⟨h,k⟩
 | raise e=>intro Q E p s s0 _ k h;exact⟨h,k⟩
 | unsupported w=>intro Q E p s s0 _ k h;exact h
 | finish e=>intro Q E p s s0 _ k h;exact h
 | rule t k ih=>intro Q E p s s0 c d h;exact ih () Q E p s s0 c d h
 | «at» p k ih=>intro Q E p s s0 c d h;exact ih () Q E _ s s0 c d h
 | load a p k ih =>
  intro Q E p s s0 c d h
  obtain⟨o,e,h⟩:=h
  exact⟨o,e,ih o Q E p s s0 (c o) d h⟩
 | update a p g k ih =>
  intro Q E p s s0 c d h
  obtain⟨e,h⟩:=h
  exact⟨e,ih () Q E p _ s0 c.2 (d.trans (.update s.heap a c.1)) h⟩
 | loadIfAlive a k ih=>intro Q E p s s0 c d h;exact ih _ Q E p s s0 (c _) d h
 | point l k ih=>intro Q E p s s0 c d h;exact ih () Q E p s s0 c d h
 | register a k ih=>intro Q E p s s0 c d h;exact h
 | alloc o k ih=>intro Q E p s s0 c d h;exact ih _ Q E p _ s0 (c _) (d.trans (.push s.heap o)) h
 | fresh k ih=>intro Q E p s s0 c d h;exact ih _ Q E p _ s0 (c _) d h
 | ask k ih=>intro Q E p s s0 c d h;exact ih _ Q E p s s0 (c _) d h
 | handled o k ih=>intro Q E p s s0 c d h;exact ih _ Q E p s s0 (c _) d h
 | stack k ih=>intro Q E p s s0 c d h;exact ih _ Q E p s s0 (c _) d h
 | thread k ih=>intro Q E p s s0 c d h;exact ih _ Q E p s s0 (c _) d h
 | choose s n k ih=>intro Q E p s s0 c;exact c.elim
 | os q l k ih=>intro Q E p s s0 c;exact c.elim
 | call c h g l k ih=>intro Q E p s s0 c;exact c.elim
 | newGen c k ih=>intro Q E p s s0 c;exact c.elim
 | genState g k ih=>intro Q E p s s0 c;exact c.elim
 | resume g r l k ih=>intro Q E p s s0 c;exact c.elim
 | yield v g l k ih=>intro Q E p s s0 c;exact c.elim
 | fork c k ih=>intro Q E p s s0 c;exact c.elim
 | await a f d l k ih=>intro Q E p s s0 c;exact c.elim
theorem zla {α:Type}{M:Model}{A:Around}{t:Sem α}{Q:α->Shared->Prop}{E:Value->Shared->Prop}{s:Shared}(c:KD t)(h:wpAny M A t Q E s) :
 wpAny M A t (λa s'=>Q a s'/\DK s.heap s'.heap) (λe s'=>E e s'/\DK s.heap s'.heap) s:=fun Γ p hΓ=>zng M Γ t _ _ p s s c (.refl _) (h Γ p hΓ)
theorem Vm {α:Type}{M:Model}{A:Around}{t:Sem α}{Q Q':α->Shared->Prop}{E:Value->Shared->Prop}{s:Shared}(c:KD t)(h:wpAny M A t Q E s)(k:∀ a s',Q a s'->DK s.heap s'.heap->Q' a s'):wpAny M A t Q' E s :=
 u0B (zla c h) (λa s' x=>k a s' x.1 x.2) λ_ _ x=>x.1
theorem zcH (v:Value):KD (fieldsOf v):=by
 unfold fieldsOf
 split
 .refine zO (λ_=>trivial) λo=>?_
  split <;> trivial
 .trivial
theorem Wv (v:Value)(i:Nat):KD (field v i):=by
 unfold field
 refine zO (zcH v) λvs=>?_
 split <;> trivial
theorem VH (f:Array Value->Array Value)(o:Obj):(Obj.mapFields f o).dict=o.dict:=by
 obtain⟨c,d,x,s⟩:=o
 cases x <;> rfl
theorem ZR (v:Value)(i:Nat)(x:Value):KD (setField v i x):=by
 unfold setField
 split
 .unfold updateField
  refine zO (λ_=>trivial) λo=>?_
  split
  .split
   .exact⟨VH _,trivial⟩
   .trivial
  .trivial
 .trivial
theorem Yy (e:Value)(f:Option Addr):KD (setFlight e f):=by
 unfold setFlight
 refine zO (Wv e 1) λtb=>?_
 split
 .exact ZR _ _ _
 .trivial
theorem zbz (ty:String)(vs:List Value):KD (newFields ty vs):=by
 have last:KD (newObjAsIs (Value.type ty) (Data.fields vs.toArray)):=zO (λ_=>trivial) λ_=>trivial
 unfold newFields newObj
 show KD (if vs.toArray.size > sizeLine+2 then _ else _)
 by_cases h:vs.toArray.size > sizeLine+2
 .rw[j4 h]
  exact zO (show KD (unsupported (α:=Unit) _)from trivial) λ_=>last
 .rw[j6 h]
  exact last
theorem zcG (a b c d e:Value)(pl:List Value):KD (EntryCells.newEntry a b c d e pl):=zbz _ _
theorem zhm (f:Addr)(b:Bool):KD (entryPlaceOf f b):=by
 unfold entryPlaceOf
 refine zO (λ_=>trivial) λacts=>?_
 split <;> trivial
theorem za8:KD frameEnvs:=by
 unfold frameEnvs
 exact zO (λ_=>trivial) λ_=>trivial
theorem zhr:∀ l:List Env,KD (readyFrames l):=by
 intro l
 induction l with
 | nil=>trivial
 | cons env outer ih =>
  unfold readyFrames
  split
  .refine zO (λ_=>trivial) λo=>?_
   split
   .trivial
   .refine zO ?_ λb=>zO ?_ λbk=>zO ⟨λo=>rfl,trivial⟩ λ_=>ih
    .unfold behindIsImport
     split
     .trivial
     .split
      .trivial
      .exact zO (Wv _ _) λ_=>trivial
    .unfold keptBack
     split
     .split
      .trivial
      .unfold underTheClaimsCaller
       exact zO (λ_=>trivial) λ_=>trivial
     .trivial
  .trivial
theorem zei (env:Env):KD (PySem.frameOf env):=by
 unfold PySem.frameOf
 refine zO za8 λl=>zO ?_ λo=>?_
 .unfold frameObject
  split
  .trivial
  .exact zO (zhr _) λ_=>trivial
 .split <;> trivial
theorem X1 (e:Value)(env:Env):KD (noteFrame e env):=by
 unfold noteFrame
 split
 .rename_i f hf
  refine zO (Wv e 1) λhead=>?_
  have last:KD (do setField e 1 (<- EntryCells.newEntry head (<- PySem.frameOf env) .none (rawInt f) .none (<- entryPlaceOf f (head != .none)))):=zO (zei env) λ_=>zO (zhm _ _) λ_=>zO (zcG _ _ _ _ _ _) λ_=>ZR _ _ _
  by_cases h:(head != Value.none)=true
  .dsimp only
   rw[j4 h]
   refine zO (Wv head 3) λx=>?_
   split
   .trivial
   .exact zO (ZR _ _ _) λ_=>last
  .dsimp only
   rw[j6 h]
   exact last
 .trivial
theorem VT (env:Env)(e:Value):KD (leaving env e):=zO (X1 e env) λ_=>Yy e none
end L2
namespace L2
open PySem PySem.Spec PyProof.Rows
open Sem (wp)
section
variable {prog:Program}{w:World}{A:Around}{E:Value->Shared->Prop}{h:Heap}{g:Array GenState}{d:Drawn}{t:Nat}{os:OsState}
 {nm q:Str} {C N fI:Addr} {bs bm:List Value} {hdct:Bool} {sn:List Str} {sub:List Value} {ab:Bool} {col:Option Bool} {dd:Option Addr} {k0 k1 k2 k3 k5:Option Value} {mN:Str->Option Value} {us:List Value} {oI:Obj}
end
end L2
namespace L2
open PySem PySem.Spec PyProof.Rows
section
variable {prog:Program}{w:World}{A:Around}{E:Value->Shared->Prop}{s:Shared}{env:Env}
 {nm q:Str} {C N fI:Addr} {bs bm:List Value} {hdct:Bool} {sn:List Str} {sub:List Value} {ab:Bool} {col:Option Bool} {dd:Option Addr} {k0 k1 k2 k3 k5:Option Value} {mN:Str->Option Value} {oI:Obj}
end
section
variable {P:Program}{w:World}{H H':Hp}{h h':Heap}{a:Addr}{o:HO}
theorem xk.ex (x:xk P w H h a o):∃ u,h.get? a=some u:=by
 cases o with
 | lst xs=>obtain⟨_,_,_,_,e⟩:=x;exact⟨_,e⟩
 | tup xs=>obtain⟨_,_,_,ob,e,_⟩:=x;exact⟨_,e⟩
 | dK kvs=>obtain⟨_,_,_,_,o,_,_,e,_⟩:=x;exact⟨_,e⟩
 | dT kvs=>obtain⟨_,_,_,_,o,_,_,e,_⟩:=x;exact⟨_,e⟩
 | set S n=>obtain⟨o,_,_,_,e,_⟩:=x;exact⟨_,e⟩
 | ins C dx fs=>obtain⟨_,_,_,e,_⟩:=x;exact⟨_,e⟩
 | own y=>exact x
 | xd fs=>obtain⟨_,⟨_,_,_,e,_⟩,_⟩:=x;exact⟨_,e⟩
 | rng lo hi=>obtain⟨_,_,_,e⟩:=x;exact⟨_,e⟩
 | frz ob u=>obtain⟨e,_⟩:=x;exact⟨_,e⟩
 | tbl ps=>obtain⟨_,e,_⟩:=x;exact⟨_,e⟩
 | met f y=>exact⟨_,(show h.get? a=some _ from x)⟩
 | ext φ=>obtain⟨_,⟨_,e⟩,_⟩:=x;exact⟨_,e⟩
theorem HOk.stays (x:HOk P w H h)(k:∀ b u,H b≠none->h.get? b=some u->h'.get? b=some u):HOk P w H h':=λa o e =>
 (x a o e).stay (λb u hb q=>k b u (by
  rcases hb with rfl | hb
  .rw[e];intro z;cases z
  .rw[hb];intro z;cases z) q) (λ_ q=>q) λ_ _ q=>q
end
structure Cov (outer:List Env) (H:Hp) (h:Heap) (H':Hp) (h' B:Heap):Prop where
 old:∀ b o,h.get? b=some o->H b=none->b∉frs outer->B.get? b=some o
 there:∀ b o,h.get? b=some o->b∉frs outer->∃ o',B.get? b=some o'
 new:∀ b o,H' b≠none->h'.get? b=some o->B.get? b=some o
def X3 (h:Heap)(a:Addr)(od:Option Addr):Prop:=∃ oe,h.get? a=some oe/\oe.dict=od
theorem X3.stay {h h':Heap}{a:Addr}{od:Option Addr}(d:X3 h a od)(k:DK h h')(e:∃ oe,h'.get? a=some oe):X3 h' a od:=by
 obtain⟨oe,h1,h2⟩:=d
 obtain⟨oe',h3⟩:=e
 exact⟨oe',h3,(k.of h1 h3).trans h2⟩
def Air (P:Program)(w:World):CXT:=λouter H s E e s' =>
 ∃ (ea C t:Addr) (od:Option Addr) (H':Hp) (B:Heap),e=.ref ea/\s'.os=s.os/\AllBare s'.gens/\Un (frs outer) [] H H' s.heap s'.heap/\HOk P w H' s'.heap /\
  Heap.FlyingW B outer ea (.ref C) (.ref t) s'.heap/\Cov outer H s.heap H' s'.heap B/\X3 s'.heap ea od/\E (.ref C) od H'
section
variable {X:Cx}{pins:List (Addr × Obj)}{σ:St}{H H':Hp}{s s':Shared}{E:XK}{e:Value}{M:Model}{E2:Value->Shared->Prop}
theorem Inv.airUn (hex:X.ex=[])(I:Inv X pins σ H s){h' B:Heap}(J:Inv X pins σ H' s')(cov:Cov X.stack H s.heap H' s'.heap B)(hB:B.StaysIn h')(hfr:h'.FunFrames B X.outer)(up:s'.heap.UpToSlots h') :
 Un X.fs [] X.H₀ H' X.s₀.heap h'/\HOk X.prog X.w H' h'/\Cov X.outer X.H₀ X.s₀.heap H' h' B:=by
 have neL:∀ b o,X.s₀.heap.get? b=some o->b≠X.env.locals:=λb o e=>p4 (d7 (j7 e) I.ok.above)
 have nst:∀ b o,X.s₀.heap.get? b=some o->b∉X.fs->b∉frs X.stack:=λb o e n z=>(d5.mp (I.stkSub b z)).elim (neL b o e) n
 have nx:∀ b:Addr,b∉X.ex:=by rw[hex];simp
 have cov':Cov X.outer X.H₀ X.s₀.heap H' h' B:=by
  refine⟨λb o e n hb=>cov.old b o (I.base.keep b o e n hb (nx b)) (I.base.free b o e n (nx b)) (nst b o e hb),λb o e hb=>?_,λb o hb e=>?_⟩
  .obtain⟨o',e'⟩:=I.base.there b o e (nx b)
   exact cov.there b o' e' (nst b o e hb)
  .cases q:H' b with
   | none=>exact absurd q hb
   | some u =>
    obtain⟨ob,ho⟩:=(J.hok b u q).ex
    have z:=cov.new b ob hb ho
    have z2:=hB b ob z
    rw[e]at z2
    cases z2
    exact z
 refine⟨⟨λb o e n hb _=>hB b o (cov'.old b o e n hb),λb o e n hb _=>?_,λb o e n _=>J.base.free b o e n (nx b),λb o e _=>?_,J.base.tups,J.base.frzs,J.base.tbls⟩,J.hok.stays λb u hb hu=>hB b u (cov.new b u hb hu),cov'⟩
 .obtain⟨sl,e1⟩:=J.base.slot b o e n hb (nx b)
  obtain⟨_,o2,ho2,hd⟩:=I.ok.funs.mem hb
  rw[e]at ho2
  cases ho2
  obtain⟨sl2,e2⟩:=up b _ e1 hd
  exact⟨sl2,e2⟩
 .by_cases hb:b∈X.fs
  .obtain⟨_,o2,ho2,_⟩:=hfr.mem hb
   exact⟨o2,ho2⟩
  .obtain⟨o',e'⟩:=cov'.there b o e hb
   exact⟨o',hB b o' e'⟩
theorem zme (hst:X.stack=X.env::X.outer)(hf:X.env.frame=some X.env.locals)(hex:X.ex=[])(I:Inv X pins σ H s)(a:Air X.prog X.w X.stack H s E e s') :
 wpAny M X.A (leaving X.env e) (λ_ s''=>Air X.prog X.w X.outer X.H₀ X.s₀ E e s'') E2 s':=by
 obtain⟨ea,C,t,od,H',B,rfl,os,bare,un,hok,fl,cov,di,hE⟩:=a
 have J:Inv X pins σ H' s':=I.call' (ch:=[]) os un hok bare (λb z=>nomatch z)
 rw[hst]at fl
 refine Vm (VT _ _) (wpAny_leaves_onW (Q:=λ_ s''=>∃ h',s''={ s' with heap:=h' }/\Heap.FlyingW B X.outer ea (.ref C) (.ref t) h'/\s'.heap.UpToSlots h') (by rw[I.ok.frames,hst]) hf fl λh' x1 x2=>⟨h',rfl,x1,x2⟩) ?_
 rintro _ _ ⟨h',rfl,x1,x2⟩ dk
 obtain⟨u1,u2,u3⟩:=I.airUn hex J cov x1.1 x1.2.2.1 x2
 obtain⟨ob,hob,_⟩:=x1.there
 exact⟨ea,C,t,od,H',B,rfl,os.trans I.os,bare,u1,u2,x1,u3,di.stay dk ⟨ob,hob⟩,hE⟩
end
theorem Zi {P:Program}{w:World}{K:W.Frag}{mg:Str->Option Value}{base:Heap}{N:List Str}{qual:Str}{scope:Scope}{f:Addr}{cd:Value}{A:Around}{outer:List Env}{s:Shared}{H:Hp}{E:XK} :
 Wc (Air P w) (Vv (Air P w) P w K mg base N qual scope f cd A outer s H E) E:=λpins σ H1 s1 e s' I a =>
 zme (X:=Vv (Air P w) P w K mg base N qual scope f cd A outer s H E) rfl rfl rfl I a
theorem zgV {P:Program}{w:World}{K:W.Frag}{mg:Str->Option Value}{base:Heap}{N:List Str}{qual:Str}{scope:Scope}{f:Addr}{cd:Value}{A:Around}{outer:List Env}{s:Shared}{H:Hp}{E:XK}
 {pins:List (Addr × Obj)} {σ:St} {H1:Hp} {s1:Shared} {h':Heap} {ea C:Addr} {args:List Value}
 (I:Inv (Vv (Air P w) P w K mg base N qual scope f cd A outer s H E) pins σ H1 s1) (hx:Heap.MadeExcOf s1.heap h' ea (.ref C) args) (hE:E (.ref C) none H1) :
 (Vv (Air P w) P w K mg base N qual scope f cd A outer s H E).xe (.ref ea) { s1 with heap:=h' }:=by
 let X:=Vv (Air P w) P w K mg base N qual scope f cd A outer s H E
 have I:Inv X pins σ H1 s1:=I
 have keepX:∀ b o,s1.heap.get? b=some o->h'.get? b=some o:=hx.keeps
 have hin:∀ env∈X.stack,∀ a,env.frame=some a->a∈frs X.stack:=λenv he a ha=>u3j.mpr ⟨env,he,ha⟩
 have J:Inv X pins σ H1 { s1 with heap:=h' }:=by
  have:=I.un (t':=s1.toks) (H':=H1) (h':=h') (Un.kept keepX) (I.hok.kept keepX)
  exact this
 show wpAny (model P w) X.A (leaving X.env (.ref ea)) (λ_ s''=>Air P w outer H s E (.ref ea) s'') _ { s1 with heap:=h' }
 refine Vm (VT _ _) (wpAny_leaves_madeW (Q:=λ_ s''=>∃ h2 t,s''={ s1 with heap:=h2 }/\Heap.FlyingW (W.hideAll s1.heap (frs X.stack)) outer ea (.ref C) (.ref t) h2/\h'.UpToSlots h2) (base:=W.hideAll s1.heap (frs X.stack)) (h:=s1.heap) (L:=X.env.locals) (outer:=outer) (I.ok.frames) rfl (λb o q=>W.of_hideAll _ q) (W.funFrames_hide I.stack hin) hx λh2 t x1 x2 x3 x4=>⟨h2,t,rfl,x1,x4⟩) ?_
 rintro _ _ ⟨h2,t,rfl,x1,x4⟩ dk
 obtain⟨ob,hob,_⟩:=x1.there
 have di:X3 h2 ea none:=by
  obtain⟨t',ht',_⟩:=hx.there
  exact X3.stay (h:=h') ⟨_,ht',rfl⟩ dk ⟨ob,hob⟩
 have cov:Cov X.stack H1 s1.heap H1 h' (W.hideAll s1.heap (frs X.stack)):=by
  refine⟨λb o e _ hb=>u2g _ e hb,λb o e hb=>⟨o,u2g _ e hb⟩,λb o hb e=>?_⟩
  cases q:H1 b with
  | none=>exact absurd q hb
  | some u =>
   obtain⟨ob,ho⟩:=(I.hok b u q).ex
   have z:=keepX b ob ho
   rw[e]at z
   cases z
   exact u2g _ ho λz=>hb (I.stkFree b z)
 obtain⟨u1,u2,u3⟩:=I.airUn (X:=X) rfl J cov x1.1 x1.2.2.1 x4
 exact⟨ea,C,t,none,H1,_,rfl,I.os,I.bare,u1,u2,x1,u3,di,hE⟩
abbrev bmV:List Value:=[.type "ValueError",.type "Exception",.type "BaseException",.type "object"]
structure XCls (K:W.Frag) (mg:Str->Option Value) (C:Addr) (x:Str):Prop where
 bound:mg x=some (.ref C)
 exc:W.excIn K C bmV "ValueError.__new__"=true
theorem zjy {K:W.Frag}{h₀:Heap}{C:Addr}{bmB:List Value}{newId:String}(X:K.In h₀)(q:W.excIn K C bmB newId=true) :
 ∃ bm N nm q bs hdct sn sub ab col dd k0 k1 k2 k3 k5 mN,h₀.get? C=some (excClassObj nm q C N bs bm hdct sn sub ab col dd k0 k1 k2 k3 k5 newId)/\h₀.Ns N mN/\mN "__init__"=none/\OwnTail h₀ bmB bm:=by
 unfold W.excIn at q
 split at q
 .rename_i dd cd sl ho
  split at q
  .rename_i C' bm k0 k1 k2 k3 n k5 hm hs
   simp only[h9,g9,u11]at q
   obtain⟨⟨⟨⟨⟨rfl,rfl⟩,hdel⟩,ht⟩,hok⟩,hni⟩:=q
   obtain⟨nm,bs,mro,ns,qn,hd,sn,sub,ab,col,del⟩:=cd
   dsimp only at hm hdel hok hni
   subst hm hdel
   have hsl:sl=#[k0,k1,k2,k3,some (.builtin n),k5]:=by
    obtain⟨l⟩:=sl
    simp only at hs
    rw[hs]
   subst hsl
   exact⟨bm,ns,nm,qn,bs,hd,sn,sub,ab,col,dd,k0,k1,k2,k3,k5,_,X _ _ ho,.of_isNs (W.isNs_of_in X hok),W.nsMap_none_of_in X hok hni,W.tail_of_in X ht⟩
  .cases q
 .cases q
theorem zhM {P:Program}{w:World}{K:W.Frag}{mg:Str->Option Value}{base:Heap}{N:List Str}{qual:Str}{scope:Scope}{f:Addr}{cd:Value}{A:Around}{outer:List Env}{s:Shared}{H:Hp}{E:XK}{C:Addr}{x:Str}{np cpos pos:Pos}
 (hc:XCls K mg C x) (hg:Gl (Vv (Air P w) P w K mg base N qual scope f cd A outer s H E) x) (hd:(x == ("__debug__":Str))=false:=by decide) :
 PS (Vv (Air P w) P w K mg base N qual scope f cd A outer s H E) (.Raise (some (.Call (.Name x np) [] [] cpos)) none pos) (λ_ _ H1=>E (.ref C) none H1):=by
 intro pins s1 σ H1 D I h
 obtain⟨tl,N',nm,q,bs,hdct,sn,sub,ab,col,dd,k0,k1,k2,k3,k5,mN,hC,hN,hni,T⟩:=zjy I.ok.mod.kin hc.exc
 refine wpAny_Raise_call_subU (C:=C) (nm:=nm) (q:=q) (N:=N') (bs:=bs) (bm:=tl) (hdct:=hdct) (sn:=sn) (sub:=sub) (ab:=ab) (col:=col) (dd:=dd) (k0:=k0) (k1:=k1) (k2:=k2) (k3:=k3) (k5:=k5)
  u14 (by decide) u14 (mN:=mN) (T.hasType u14.hasBase) (I.ok.hd rfl) rfl hni (WZ I hg hc.bound ⟨rfl,?_⟩ hd)
 exact evalArgs_empty ⟨rfl,u0D _,I.bk _ _ hC,hN.keeps I.bk,T.keeps I.bk,λh' e hm=>zgV I hm h⟩
theorem zhS {X:Cx}{es:List Expr}:PA X es (λ_ _ _=>False):=λ_ _ _ _ _ _ _ h=>h.elim
end L2
namespace Dl
open PySem L2
def pay (j:Nat):Option (List (Str × V)):=match j / 16 % 4 with
 | 0=>none
 | 1=>some [("at",.int ((j / 64:Nat) - 1))]
 | 2=>some [("row",.int ((j / 64:Nat) - 1))]
 | _=>some [("many",.int ((j / 64 / 1024:Nat):Int)),("most",.int ((j / 64 % 1024:Nat):Int))]
variable [KK]
section
variable (E:XK)(cl:Nat->Addr)
def EJ (j:Nat)(H:Hp):Prop:=match pay j with
 | none=>E (.ref (cl j)) none H
 | some fs=>∀ dx,H dx=none->E (.ref (cl j)) (some dx) (upd H dx (.xd fs))
def Wi (F H:Hp)(j:Nat):Prop:=∀ F' H',Gr F H F' H'->EJ E cl j H'
def RXE (t:TE)(fx:Ev->Option Nat):Prop:=∀ (σ:St) (ρ:Ev) (F H:Hp) (j:Nat) (Q:VK),yn F H->VAt F ρ σ->fx ρ=some j->Wi E cl F H j->t σ H Q
def RXA (t:TA)(fx:Ev->Option Nat):Prop:=∀ (σ:St) (ρ:Ev) (F H:Hp) (j:Nat) (Q:List V->Hp->Prop),yn F H->VAt F ρ σ->fx ρ=some j->Wi E cl F H j->t σ H Q
def RXS (t:TS)(gx:SE->Option Nat):Prop:=∀ (Fb Hb F H:Hp) (ρ:SE) (σ:St) (D':zch) (j:Nat),Rl Fb Hb F H ρ σ->gx ρ=some j->Wi E cl Fb Hb j->t D' σ H
def XE (X:Cx)(e:Expr)(fx:Ev->Option Nat):Prop:=∃ t,PE X e t/\RXE E cl t fx
def XA (X:Cx)(es:List Expr)(fx:Ev->Option Nat):Prop:=∃ t,PA X es t/\RXA E cl t fx
def XS (X:Cx)(st:Stmt)(gx:SE->Option Nat):Prop:=∃ t,PS X st t/\RXS E cl t gx
def XSs (X:Cx)(sts:List Stmt)(gx:SE->Option Nat):Prop:=∃ t,PSs X sts t/\RXS E cl t gx
end
section
variable {E:XK}{cl:Nat->Addr}{X:Cx}{a b c e:Expr}{es:List Expr}{st:Stmt}{sts:List Stmt}{pos pos':Pos}
theorem Wi.grow {F H F1 H1:Hp}{j:Nat}(w:Wi E cl F H j)(g:Gr F H F1 H1):Wi E cl F1 H1 j:=λF' H' g'=>w F' H' (g.trans g')
theorem Wi.out {Fb Hb F H:Hp}{ρ:SE}{σ:St}{j:Nat}(w:Wi E cl Fb Hb j)(rl:Rl Fb Hb F H ρ σ):Wi E cl (gOf ρ σ F H) H j:=λF' H' g=>w F' H' (rl.out g)
def spX (cl:Nat->Addr)(m:Nat)(r:List D->Option Nat):Sp:=λvs H _ E=>∃ ds j F,ds.length=m/\yn F H/\AtL F ds vs/\r ds=some j/\Wi E cl F H j
def zcp (m:Nat)(r:List D->Option Nat)(f:Ev->Option (List D)):Ev->Option Nat:=fun ρ=>(f ρ).bind λds=>if ds.length=m then r ds else none
theorem XV {x:Str}{k m:Nat}{f:Addr}{fd:FuncData}{ps:List Str}{r:List D->Option Nat}{pp:Pos}{fa:Ev->Option (List D)}(F:yU X.prog X.w X.K X.mg X.base (Air X.prog X.w) k f fd ps (spX cl m r))(hx:Wc (Air X.prog X.w) X E)(hr:ve k X.A)(hg:Gl X x)(hm:X.mg x=some (.ref f))(hk:W.keepIn X.K (.ref f)=true)(hb:zaS X.K fd ps [])
 (ha:AD X (e::es) fa) (hdb:(x == ("__debug__":Str))=false:=by decide) (he:starEach (e::es) X.env=(false,eval e X.env)::starEach es X.env:=by rfl) (hpl:(backTo pos (starEach es X.env)).any (·.1)=false:=by rfl) :
 XE E cl X (.Call (.Name x pp) (e::es) [] pos) (zcp m r fa):=by
 obtain⟨t,pa,ra⟩:=ha
 refine⟨_,zgP F hr hg hm hk hb .nil hx pa hdb he hpl,fun σ ρ F0 H j Q s va e w=>?_⟩
 obtain⟨ds,e1,e2⟩:=u4.mp e
 split at e2 <;> try cases e2
 rename_i hl
 refine ra σ ρ F0 H ds _ s va e1 λF1 H1 vs g1 a1=>?_
 exact⟨ds,j,F1,hl,g1.fh,by rw[u0l];exact a1,e2,w.grow g1⟩
theorem zkk {fx:Ev->Option Nat}(h:XE E cl X a fx)(hs:starEach (a::es) X.env=(false,eval a X.env)::starEach es X.env:=by rfl):XA E cl X (a::es) fx:=by
 obtain⟨t,p,r⟩:=h
 exact⟨_,zp p zhS hs,fun σ ρ F H j Q s va e w=>r σ ρ F H j _ s va e w⟩
theorem WY {fx:Ev->Option Nat}(h:XE E cl X e fx)(hs:swapsWith e none pos.line X.env=pure false:=by rfl):XS E cl X (.Expr e pos) (fun ρ=>fx (visG ρ)):=by
 obtain⟨t,p,r⟩:=h
 exact⟨_,zaV p hs,λFb Hb F H ρ σ D' j rl e w=>r σ _ _ H j _ rl.gh rl.visG e (w.out rl)⟩
theorem zkZ {fx:Ev->Option Nat}(h:XE E cl X e fx):XS E cl X (.Return (some e) pos) (fun ρ=>fx (visG ρ)):=by
 obtain⟨t,p,r⟩:=h
 exact⟨_,zb5 p,λFb Hb F H ρ σ D' j rl e w=>r σ _ _ H j _ rl.gh rl.visG e (w.out rl)⟩
def xIf (t:Ev->Option Bool)(g h:SE->Option Nat):SE->Option Nat:=fun ρ=>match t (visG ρ) with
 | some true=>g ρ
 | some false=>h ρ
 | none=>none
theorem zhO {as bs:List Stmt}{t:Ev->Option Bool}{g h:SE->Option Nat}(hc:TD X c t)(ha:XSs E cl X as g)(hb:XSs E cl X bs h):XS E cl X (.If c as bs pos) (xIf t g h):=by
 obtain⟨tc,pc,rc⟩:=hc
 obtain⟨ta,pa,ra⟩:=ha
 obtain⟨tb,pb,rb⟩:=hb
 refine⟨_,zjM pc pa pb,λFb Hb F H ρ σ D' j rl k w=>?_⟩
 unfold xIf at k
 cases h:t (visG ρ) with
 | none=>rw[h]at k;cases k
 | some d =>
  rw[h]at k
  refine rc σ _ _ H d _ rl.gh rl.visG h λF' H' g=>?_
  have rl2:=rl.grow (rl.back g).1
  cases d with
  | true=>rw[j4 rfl];exact ra Fb Hb _ H' ρ σ D' j rl2 k w
  | false=>rw[j6 u6];exact rb Fb Hb _ H' ρ σ D' j rl2 k w
def xNo:SE->Option Nat:=λ_=>none
theorem zhH:XS E cl X st xNo:=⟨_,zc4,λ_ _ _ _ _ _ _ _ _ h _=>by cases h⟩
theorem vE {g:SE->Option Nat}(h:XS E cl X st g):XSs E cl X [st] g:=let ⟨_,p,r⟩:=h;⟨_,Vq p,r⟩
def zhf (gx:SE->Option Nat)(g:SE->Ctl)(hx:SE->Option Nat):SE->Option Nat:=fun ρ=>match gx ρ with
 | some j=>some j
 | none=>match g ρ with
  | .nx ρ'=>hx ρ'
  | _=>none
theorem zaq {gx hx:SE->Option Nat}{g:SE->Ctl}(h1:XS E cl X st gx)(h2:SD X st g)(h3:XSs E cl X sts hx):XSs E cl X (st::sts) (zhf gx g hx):=by
 obtain⟨t1,p1,r1⟩:=h1
 obtain⟨t2,p2,r2⟩:=h2
 obtain⟨u,p3,r3⟩:=h3
 have por:PS X st (λD σ H=>t1 D σ H\/t2 D σ H):=λpins s σ H D I h=>h.elim (p1 pins s σ H D I) (p2 pins s σ H D I)
 refine⟨_,vn por p3,λFb Hb F H ρ σ D' j rl k w=>?_⟩
 unfold zhf at k
 cases e1:gx ρ with
 | some j' =>
  rw[e1]at k
  cases k
  exact .inl (r1 Fb Hb F H ρ σ _ j rl e1 w)
 | none =>
  rw[e1]at k
  dsimp only at k
  cases e2:g ρ with
  | nx ρ' =>
   rw[e2]at k
   refine .inr (r2 Fb Hb F H ρ σ _ rl ?_)
   rw[e2]
   exact λF' H' σ' rl'=>r3 Fb Hb F' H' ρ' σ' D' j rl' k w
  | rt _=>rw[e2]at k;cases k
  | bk _=>rw[e2]at k;cases k
  | ct _=>rw[e2]at k;cases k
  | no=>rw[e2]at k;cases k
theorem zge {g:SE->Option Nat}(h:XS E cl X st g):XSs E cl X (st::sts) g:=by
 obtain⟨t,p,r⟩:=h
 exact⟨_,vn p (λ_ _ _ _ _ _ h=>(h:False).elim),λFb Hb F H ρ σ D' j rl k w=>r Fb Hb F H ρ σ _ j rl k w⟩
end
def zdk (j:Nat):SE->Option Nat:=λ_=>some j
theorem zax {P:Program}{w:World}{K:W.Frag}{mg:Str->Option Value}{base:Heap}{N:List Str}{qual:Str}{scope:Scope}{f:Addr}{cd:Value}{A:Around}{outer:List Env}{s:Shared}{H:Hp}{E:XK}{cl:Nat->Addr}{j:Nat}{x:Str}{np cpos pos:Pos}
 (hc:XCls K mg (cl j) x) (hg:Gl (Vv (Air P w) P w K mg base N qual scope f cd A outer s H E) x) (hd:(x == ("__debug__":Str))=false:=by decide) (hp:pay j=none:=by rfl) :
 XS E cl (Vv (Air P w) P w K mg base N qual scope f cd A outer s H E) (.Raise (some (.Call (.Name x np) [] [] cpos)) none pos) (zdk j) :=
 ⟨_,zhM hc hg hd,λFb Hb F H ρ σ D' j' rl e w=>by
  cases e
  have z:=w F H rl.gr
  unfold EJ at z
  rw[hp]at z
  exact z⟩
def fnX (n:Nat)(gx:SE->Option Nat)(ds:List D):Option Nat:=gx (ds.map .v++List.replicate (n - ds.length) .no)
theorem zby {P:Program}{w:World}{K:W.Frag}{mg:Str->Option Value}{base:Heap}{x qual:Str}{st:Stmt}{f:Addr}{fd:FuncData}{N ps:List Str}{k:Nat}{cl:Nat->Addr}{gx:SE->Option Nat}(Fu:Fun K x qual st f fd)(S:zx N ps (zk st))
 (hb:∀ (cdv:Value) (A:Around) (outer:List Env) (s:Shared) (H:Hp) (E:XK),ve k (A.deeper (PyProof.Rows.envOfC qual (zk st) s.heap.objs.size f cdv))->XSs E cl (Vv (Air P w) P w K mg base N qual (zk st) f cdv A outer s H E) (xn st) gx) :
 yU P w K mg base (Air P w) (k+1) f fd ps (spX cl ps.length (fnX N.length gx)):=by
 obtain⟨oc,od,kV,doc,pm,an,cdv,ct,osl,rfl,lk,hcd⟩:=Fu.ex
 refine zjr lk hcd S (λvs H Q E h=>?_) λA outer s H vs Q E hr hsp=>?_
 .obtain⟨ds,d,F,hl,_,a,_⟩:=h
  rw[a.length];exact hl
 .obtain⟨ds,j,F,hl,sm,a,e,q⟩:=hsp
  obtain⟨t,p,r⟩:=hb cdv A outer s H E hr
  exact⟨t,p,r F H F H _ _ _ j (zaN sm a) e q⟩
end Dl
namespace L2
open PySem PySem.Spec PyProof.Rows
section
variable {X:Cx}{pins:List (Addr × Obj)}{σ:St}{H H':Hp}{s s':Shared}{E:XK}{e:Value}{E2:Value->Shared->Prop}{B h3:Heap}
theorem Inv.caught (I:Inv X pins σ H s)(os:s'.os=s.os)(bare:AllBare s'.gens)(un:Un (frs X.stack) [] H H' s.heap s'.heap)(hok:HOk X.prog X.w H' s'.heap)(cov:Cov X.stack H s.heap H' s'.heap B)
 (hB:B.StaysIn h3) (hfr:h3.FunFrames B X.stack) (up:s'.heap.UpToSlots h3):Inv X pins σ H' { s' with heap:=h3 }:=by
 obtain⟨h',g',d',t',o'⟩:=s'
 have eo:o'=s.os:=os
 subst eo
 have nil:∀ b:Addr,b∉([]:List Addr):=λb z=>nomatch z
 show Inv X pins σ H' { s with heap:=h3,gens:=g',drawn:=d',toks:=t' }
 refine I.step (s:=s) (g':=g') (d':=d') (t':=t') (ch:=[]) (λb z=>nomatch z) (λb o hL hb _ e n=>hB b o (cov.old b o e n λz=>(d5.mp (I.stkSub b z)).elim hL hb)) (λb o hL hb _ e n=>?_) (λb o _ e n=>un.free b o e n (nil b)) (λb o _ e=>?_) un.tups un.frzs un.tbls (λm hm=>?_) (hok.stays λb u hb hu=>hB b u (cov.new b u hb hu)) bare
 .obtain⟨sl,e1⟩:=un.any e n (nil b)
  obtain⟨_,o2,ho2,hd⟩:=I.funs.mem hb
  rw[e]at ho2
  cases ho2
  obtain⟨sl2,e2⟩:=up b _ e1 hd
  exact⟨sl2,e2⟩
 .by_cases hb:b∈frs X.stack
  .obtain⟨_,o2,ho2,_⟩:=hfr.mem hb
   exact⟨o2,ho2⟩
  .obtain⟨o',e'⟩:=cov.there b o e hb
   exact⟨o',hB b o' e'⟩
 .obtain⟨o,es,ep,ho,hd,r⟩:=hm
  obtain⟨sl,e1⟩:=un.any ho I.free (nil _)
  exact up.ns ⟨_,es,ep,e1,hd,r⟩
theorem zej {M:Model}(hst:X.stack=X.env::X.outer)(hf:X.env.frame=some X.env.locals)(hex:X.ex=[])(I:Inv X pins σ H s)(a:Air X.prog X.w X.stack H s E e s'){hs:List ExceptHandler}{Q:Flow->Shared->Prop}
 (k:∀ (ea C t:Addr) (od:Option Addr) (H':Hp) (B h3:Heap),E (.ref C) od H'->X3 h3 ea od->H' ea=none->(∀ o',X.s₀.heap.get? ea=some o'->False)->(∀ p∈X.pn++pins,p.1≠ea)->Heap.FlyingW B X.stack ea (.ref C) (.ref t) h3->(∀ h4:Heap,B.StaysIn h4->h4.FunFrames B X.stack->h3.UpToSlots h4->Inv X pins σ H' { s' with heap:=h4 }) ->
  e=.ref ea->wpAny M X.A (handleBy (.ref ea) X.env hs) Q E2 { s' with heap:=h3 }) :
 wpAny M X.A (noteFrame e X.env) (λ_ s₂=>wpAny M X.A (setFlight e none) (λ_ s₃=>wpAny M X.A (handleBy e X.env hs) Q E2 s₃) E2 s₂) E2 s':=by
 obtain⟨ea,C,t,od,H',B,rfl,os,bare,un,hok,fl,cov,di,hE⟩:=a
 have hfr:X.A.frames=some (X.env::X.outer):=by rw[I.ok.frames,hst]
 have fl0:=fl
 rw[hst]at fl0
 refine Vm (X1 _ _) (wpAny_looks_onW (Q:=λ_ s''=>∃ h2,s''={ s' with heap:=h2 }/\Heap.HeldW B (X.env::X.outer) ea (.ref C) (.ref t) X.env.locals h2/\s'.heap.UpToSlots h2) hfr hf fl0 λh2 hheld up2=>⟨h2,rfl,hheld,up2⟩) ?_
 rintro _ _ ⟨h2,rfl,hheld,up2⟩ dk2
 refine Vm (Yy _ _) (wpAny_landsW (Q:=λ_ s''=>∃ h3,s''={ s' with heap:=h3 }/\Heap.FlyingW B (X.env::X.outer) ea (.ref C) (.ref t) h3/\h2.UpToSlots h3) (s:={ s' with heap:=h2 }) hheld λh3 fl3 up3=>⟨h3,rfl,fl3,up3⟩) ?_
 rintro _ _ ⟨h3,rfl,fl3,up3⟩ dk3
 have di3:X3 h3 ea od:=by
  obtain⟨ob,hob,_⟩:=fl3.there
  exact di.stay (DK.trans dk2 dk3) ⟨ob,hob⟩
 rw[<-hst]at fl3
 have hnB:B.get? ea=none:=fl.2.1
 have nfr:ea∉frs X.stack:=λz=>by
  obtain⟨_,o2,ho2,hnf⟩:=fl.2.2.1.mem z
  obtain⟨oe,vs,_,_,_,he,_,hd,_⟩:=fl.2.2.2
  rw[he]at ho2
  cases ho2
  exact hnf vs hd
 have nold:∀ o',s.heap.get? ea=some o'->False:=λo' z=>by
  obtain⟨o2,e2⟩:=cov.there ea o' z nfr
  rw[hnB]at e2
  cases e2
 refine k ea C t od H' B h3 hE di3 ?_ (λo' z=>?_) (λp hp z=>?_) fl3 (λh4 b1 b2 b3=>I.caught os bare un hok cov b1 b2 ((up2.trans up3).trans b3)) rfl
 .cases q:H' ea with
  | none=>rfl
  | some u =>
   obtain⟨ob,ho⟩:=(hok ea u q).ex
   have z:=cov.new ea ob (by rw[q];intro z;cases z) ho
   rw[hnB]at z
   cases z
 .obtain⟨o2,e2⟩:=I.base.there ea o' z (by rw[hex];intro z;cases z)
  exact nold o2 e2
 .exact nold p.2 (z ▸ (I.pin p hp).1)
end
abbrev Cx.held (X:Cx)(e:Value):Cx:={ X with A:=X.A.mark (some e),calm:=false }
section
variable {X:Cx}{pins:List (Addr × Obj)}{σ:St}{H H':Hp}{s s':Shared}{E:Value->Shared->Prop}{e:Value}{M:Model}{A:Around}
theorem Cx.Ok.held (ok:X.Ok)(e:Value):(X.held e).Ok :=
 ⟨ok.mod,ok.kind,ok.glob,ok.blt,ok.above,ok.inj,ok.has,ok.cab,(λz=>by cases z),ok.frames,ok.stk,ok.exf,ok.bs,ok.bsz,ok.noex,ok.exfs,ok.funs,ok.frf⟩
theorem Inv.held (I:Inv X pins σ H s)(e:Value):Inv (X.held e) pins σ H s:=⟨I.ok.held e,I.os,I.bare,I.base,I.loc,I.cell,I.free,I.freeC,I.pin,I.hok,I.len⟩
theorem Inv.unheld (ok:X.Ok)(I:Inv (X.held e) pins σ H s):Inv X pins σ H s:=⟨ok,I.os,I.bare,I.base,I.loc,I.cell,I.free,I.freeC,I.pin,I.hok,I.len⟩
theorem Xq {i:Nat}{x:Str}{pos:Pos}{Q:Unit->Shared->Prop}(I:Inv X pins σ H s)(hN:X.N.Nodup)(hi:X.N[i]?=some x)(hk:X.env.scope.names.lookup x=some .local)
 (h:∀ s',Inv X pins (σ.set i none) H s'->Q () s'):wpAny M A (do bindName X.env x .none;unbindBehindTheSuite X.env x pos) Q E s:=by
 obtain⟨m,hn,hl⟩:=id I.loc
 have hcls:(X.env.scope.kind == .class||(X.env.scope.kind == .module&&X.env.locals != X.env.globals))=false:=by rw[I.ok.kind];rfl
 have hiσ:i < σ.length:=by rw[I.len];exact(u8.mp hi).1
 have cne:=I.cne
 refine wpAny_nameGoes_keeps hk hn hcls λh' v hn' hs=>?_
 obtain⟨oL,_,_,hoL,_⟩:=id hn
 have tracked:HOk X.prog X.w H h':=λb ob e=>by
  refine(I.hok b ob e).stay (λc w' hc q=>(hs.2 c ?_).trans q) (λ_ q=>q) λ_ _ q=>q
  rintro rfl
  rcases hc with rfl | hc
  .rw[I.free]at e;cases e
  .rw[I.free]at hc;cases hc
 have ne0:∀ b o,X.s₀.heap.get? b=some o->b≠X.env.locals:=λb o e=>p4 (d7 (j7 e) I.ok.above)
 refine h _ ⟨I.ok,I.os,I.bare,⟨λb o e n hb hx=>?_,λb o e n hb hx=>?_,I.base.free,λb o e hx=>?_,I.base.tups,I.base.frzs,I.base.tbls⟩,⟨_,hn',λj y v' e1 e2 e3=>?_⟩,λy c e=>?_,I.free,I.freeC,λp hp=>?_,tracked,by simpa using I.len⟩
 .exact(hs.2 b (ne0 b o e)).trans (I.base.keep b o e n hb hx)
 .obtain⟨sl,e1⟩:=I.base.slot b o e n hb hx
  exact⟨sl,(hs.2 b (ne0 b o e)).trans e1⟩
 .obtain⟨o',e1⟩:=I.base.there b o e hx
  exact⟨o',(hs.2 b (ne0 b o e)).trans e1⟩
 .by_cases hj:j=i
  .subst hj
   rw[u0f hiσ]at e2
   cases e2
  .rw[d8 (u1l hj)]at e2
   obtain⟨u',r',q⟩:=hl j y v' e1 e2 e3
   refine⟨u',r',?_⟩
   rcases q with ⟨k,e⟩ | ⟨k,c,e,z⟩
   .refine .inl ⟨k,?_⟩
    have:y≠x:=λe=>hj (zaM hN e1 (e ▸ hi))
    simp[this,e]
   .exact .inr ⟨k,c,e,z.sameBut hs (cne y c e)⟩
 .obtain⟨w',z⟩:=I.cell y c e
  exact⟨w',z.sameBut hs (cne y c e)⟩
 .obtain⟨e,n,ne,nf,d⟩:=I.pin p hp
  exact⟨(hs.2 p.1 ne).trans e,n,ne,nf,d⟩
def ze1 (a C:Addr)(od:Option Addr):HO:=.ext λh=>∃ oe,h.get? a=some oe/\oe.cls=.ref C/\oe.dict=od/\W.notCls oe=true
theorem Inv.track {a:Addr}{o:HO}{ob:Obj}{vs:Array Value}(I:Inv X pins σ H s)(ha:H a=none)(he:s.heap.get? a=some ob)(hd:ob.data=.fields vs)(h0:∀ o',X.s₀.heap.get? a=some o'->False)(hp:∀ p∈X.pn++pins,p.1≠a)
 (new:xk X.prog X.w (upd H a o) s.heap a o):Inv X pins σ (upd H a o) s:=by
 have neL:X.env.locals≠a:=by
  rintro rfl
  obtain⟨m,⟨oL,es,ep,hoL,hdL,_⟩,_⟩:=I.loc
  rw[he]at hoL
  cases hoL
  rw[hd]at hdL
  cases hdL
 have neC:∀ x c,X.env.cells.lookup x=some c->c≠a:=λx c e=>by
  rintro rfl
  obtain⟨v,oc,hoc,hdc⟩:=I.cell x c e
  rw[he]at hoc
  cases hoc
  rw[hd]at hdc
  cases hdc
 refine⟨I.ok,I.os,I.bare,⟨I.base.keep,I.base.slot,λb u e n hx=>?_,I.base.there,λb xs e=>?_,λb u v e=>?_,λb ps e=>?_⟩,I.loc,I.cell,?_,λx c e=>?_,λp hq=>?_,λb u e=>?_,I.len⟩
 .rw[zn (λz:b=a=>h0 u (z ▸ e))]
  exact I.base.free b u e n hx
 .have e1:=I.base.tups b xs e
  rw[zn (zj e1 ha)]
  exact e1
 .have e1:=I.base.frzs b u v e
  rw[zn (zj e1 ha)]
  exact e1
 .have e1:=I.base.tbls b ps e
  rw[zn (zj e1 ha)]
  exact e1
 .rw[zn neL]
  exact I.free
 .rw[zn (neC x c e)]
  exact I.freeC x c e
 .obtain⟨e,n,ne,nf,d⟩:=I.pin p hq
  exact⟨e,by rw[zn (hp p hq)];exact n,ne,nf,d⟩
 .by_cases c:b=a
  .subst c
   rw[zq]at e
   cases e
   exact new
  .rw[zn c]at e
   refine(I.hok b u e).stay (λ_ _ _ q=>q) (λc hc=>?_) λc xs hc=>?_
   .rw[zn (zj hc ha)];exact hc
   .rw[zn (zj hc ha)];exact hc
end
abbrev Cx.pinned (X:Cx)(ps:List (Addr × Obj)):Cx:={ X with pn:=X.pn++ps }
section
variable {X:Cx}{pins ps:List (Addr × Obj)}{σ:St}{H H':Hp}{s s':Shared}
theorem Cx.Ok.pinned (ok:X.Ok)(ps:List (Addr × Obj)):(X.pinned ps).Ok :=
 ⟨ok.mod,ok.kind,ok.glob,ok.blt,ok.above,ok.inj,ok.has,ok.cab,ok.hd,ok.frames,ok.stk,ok.exf,ok.bs,ok.bsz,ok.noex,ok.exfs,ok.funs,ok.frf⟩
theorem Inv.pinAll (I:Inv X pins σ H s):Inv (X.pinned pins) [] σ H s:=⟨I.ok.pinned pins,I.os,I.bare,I.base,I.loc,I.cell,I.free,I.freeC,λp hp=>I.pin p (by rw[u0l]at hp;exact hp),I.hok,I.len⟩
theorem Inv.unpin (ok:X.Ok)(I:Inv (X.pinned pins) ps σ H s):Inv X pins σ H s:=⟨ok,I.os,I.bare,I.base,I.loc,I.cell,I.free,I.freeC,λp hp=>I.pin p (u1F _ hp),I.hok,I.len⟩
end
abbrev gone (i:Nat)(D:zch):zch:={ nx:=fun σ H=>D.nx (σ.set i none) H,rt:=D.rt,bk:=fun σ H=>D.bk (σ.set i none) H,ct:=fun σ H=>D.ct (σ.set i none) H }
def exW (K:W.Frag)(CS:Addr)(i n:Nat)(u:TS)(D:zch):XK:=λcls od H'=>∃ C,cls=.ref C/\W.exmOne K (.ref C) (.ref CS)=some true/\∀ (ea:Addr) (σ:St),σ.length=n->H' ea=none->u (gone i D) (σ.set i (some (.ref ea))) (upd H' ea (ze1 ea C od))
theorem zlW {Y:Cx}{CS:Addr}{x n:Str}{i:Nat}{body suite:List Stmt}{b₀:Stmt}{pos hpos np:Pos}{tb:XK->TS}{u:TS}(hst:Y.stack=Y.env::Y.outer)(hf:Y.env.frame=some Y.env.locals)(hex:Y.ex=[])
 (hN:Y.N.Nodup) (hi:Y.N[i]?=some n) (hk:Y.env.scope.names.lookup n=some .local) (hg:Gl Y x) (hm:Y.mg x=some (.ref CS))
 (hbody:∀ (ps:List (Addr × Obj)) (W:Value->Shared->Prop) (E0:XK),Wc (Air Y.prog Y.w) ((Y.pinned ps).wish W) E0->PSs ((Y.pinned ps).wish W) body (tb E0))
 (hsuite:∀ ea,PSs (Y.held (.ref ea)).nox (b₀::suite) u) (hd:(x == ("__debug__":Str))=false:=by decide) :
 PS Y.nox (.Try body [.ExceptHandler (some (.Name x np)) (some n) (b₀::suite) hpos] [] [] pos) (λD σ H=>tb (exW Y.K CS i Y.N.length u D) D σ H):=by
 intro pins s σ H D I h
 have ok:Y.Ok:=I.ok.unwish
 have IY:Inv Y pins σ H s:=I.unwish
 refine wpAny_Try_except ?_
 refine u0B (hbody pins _ (exW Y.K CS i Y.N.length u D) ?_ [] s σ H D (IY.pinAll.wish _) h) ?_ λe s₁ h=>h
 .intro pins' σ' H1 s1 e s2 I1 a
  have I1':Inv Y pins σ' H1 s1:=I1.unwish.unpin ok
  refine zej (X:=Y) hst hf hex I1' a λea C t od H' B h3 hE di3 hea h0 hpn fl hinv ee=>?_
  obtain⟨C',ec,hsub,hu⟩:=hE
  cases ec
  have I3:Inv Y pins σ' H' { s2 with heap:=h3 }:=hinv h3 fl.1 fl.2.2.1 (.refl _)
  obtain⟨ob,hob,hobc⟩:=fl.there
  have ty:PySem.W.Looks (model Y.prog Y.w) h3 (typeOf (.ref ea)) (.ref C):=hobc ▸ (PySem.W.Looks.ld hob).andThen .now
  refine wpAny_handleBy_cons (codeAny_handlers_test (WZ (X:=Y.held (.ref ea)) (I3.held (.ref ea)) hg hm ?_ hd)) (by intro q;cases q)
  refine(PySem.W.exm_one (M:=model Y.prog Y.w) I3.kIn ty hsub).here ?_
  refine codeAny_handlers_suite_as ?_
  refine Vm (Yy _ _) (wpAny_setFlight_noneW (Q:=λ_ s''=>∃ h4,s''={ s2 with heap:=h4 }/\B.StaysIn h4/\h4.FunFrames B Y.stack/\h4.TracedW B ea (.ref C) (.ref t)/\∀ b o,h3.get? b=some o->(∀ vs,o.data≠.fields vs)->h4.get? b=some o) (s:={ s2 with heap:=h3 }) fl.1 fl.2.2.1 fl.2.2.2.at λh4 k1 k2 k3 k4=>⟨h4,rfl,k1,k2,k3,k4⟩) ?_
  rintro _ _ ⟨h4,rfl,k1,k2,k3,k4⟩ dk4
  have I4:Inv Y pins σ' H' { s2 with heap:=h4 }:=hinv h4 k1 k2 λb o hb hn=>⟨o.slots,k4 b o hb hn⟩
  obtain⟨oe,vs,_,_,_,he,hcl,hdv,_⟩:=k3
  obtain⟨oe',he',hdi⟩:=di3.stay dk4 ⟨oe,he⟩
  rw[he]at he'
  cases he'
  have hnc:PySem.W.notCls oe=true:=by unfold PySem.W.notCls;rw[hdv]
  have I5:Inv Y pins σ' (upd H' ea (ze1 ea C od)) { s2 with heap:=h4 }:=I4.track hea he hdv h0 hpn ⟨⟨oe,he,hcl.1,hdi,hnc⟩,⟨oe,he⟩,λh1 h2 ⟨o1,e1,e2⟩ kk=>⟨o1,kk o1 e1,e2⟩⟩
  refine zaE (X:=Y.held (.ref ea)) (v:=.ref ea) (I5.held (.ref ea)) hN hi (.inl hk) rfl (λs6 I6=>?_) (.inr hk)
  refine u0B (hsuite ea pins s6 _ _ (gone i D) (I6.wish _) (hu ea σ' I4.len hea)) (λf s7 q=>?_) λx s7 q=>q.elim
  cases f with
  | ret uv =>
   obtain⟨v,σ7,H7,I7,rv,q⟩:=q
   exact Xq ((Inv.unheld (X:=Y) ok I7.unwish)) hN hi hk λs8 I8=>⟨v,_,H7,I8.wish _,rv,q⟩
  | next =>
   obtain⟨σ7,H7,I7,q⟩:=q
   exact Xq ((Inv.unheld (X:=Y) ok I7.unwish)) hN hi hk λs8 I8=>⟨_,H7,I8.wish _,q⟩
  | brk =>
   obtain⟨σ7,H7,I7,q⟩:=q
   exact Xq ((Inv.unheld (X:=Y) ok I7.unwish)) hN hi hk λs8 I8=>⟨_,H7,I8.wish _,q⟩
  | cont =>
   obtain⟨σ7,H7,I7,q⟩:=q
   exact Xq ((Inv.unheld (X:=Y) ok I7.unwish)) hN hi hk λs8 I8=>⟨_,H7,I8.wish _,q⟩
 .intro f s₁ q
  cases f with
  | ret uv =>
   obtain⟨v,σ7,H7,I7,rv,q⟩:=q
   exact⟨v,σ7,H7,(Inv.unpin (X:=Y) ok I7.unwish).wish _,rv,q⟩
  | next =>
   obtain⟨σ7,H7,I7,q⟩:=q
   exact u2v ⟨σ7,H7,(Inv.unpin (X:=Y) ok I7.unwish).wish _,q⟩
  | brk =>
   obtain⟨σ7,H7,I7,q⟩:=q
   exact⟨σ7,H7,(Inv.unpin (X:=Y) ok I7.unwish).wish _,q⟩
  | cont =>
   obtain⟨σ7,H7,I7,q⟩:=q
   exact⟨σ7,H7,(Inv.unpin (X:=Y) ok I7.unwish).wish _,q⟩
end L2
namespace L2
open PySem PySem.Spec PyProof.Rows PySem.W PySem.Calls PySem.Builtin PySem.Builtin.Getset_descriptor
section
variable {prog:Program}{w:World}{A:Around}{E:Value->Shared->Prop}{K:W.Frag}{h:Heap}{g:Array GenState}{d:Drawn}{t:Nat}{os:OsState}{a C:Addr}{o:Obj}
def Of (h:Heap)(a:Addr)(o:Obj)(C:Addr):Prop:=h.get? a=some o/\o.cls=.ref C
theorem Of.type {M:Model}(I:Of h a o C):Looks M h (typeOf (.ref a)) (.ref C):=I.2 ▸ (Looks.ld I.1).andThen .now
theorem zeH {M:Model} {name:Str} {x gt:Value} (X:K.In h) (ha:findIn K (.ref C) name=some (some x)) (hg:specialIn K x "__get__"=some (some gt)) (ht:takesIn K x=some true):Looks M h (Builtin.ObjectAttr.find (.ref a) (.ref C) name) (.bind gt x):=by
 have L1:=looks_findIn (M:=M) X ha
 have L2:Looks M h (Builtin.ObjectAttr.getOf (some x)) (some gt):=looks_specialIn X hg
 have L3:=looks_takesIn (M:=M) X ht
 exact L1.andThen (L2.andThen ((show Looks M h (Builtin.ObjectAttr.dataDescriptor? (some x) (some gt)) (some (gt,x))from L3.andThen .now).andThen (Looks.tag .now)))
theorem zkf {R:Result->Shared->Prop} {tp:Value} (X:K.In h) (I:Of h a o C) (hm:mroIn K C (.type "object")=some true) (hq:R (.ok (.ret (.ref C))) ⟨h,g,d,t,os⟩) :
 codeAny (model prog w) A (.call (.builtin "getset_descriptor.__get__") ⟨[.builtin "object.__class__",.ref a,tp],[]⟩) R ⟨h,g,d,t,os⟩:=by
 have L0:=I.type (M:=model prog w)
 have L1:=looks_mroIn (M:=model prog w) X hm
 refine codeAny_call_builtin KF.slot_gs.plain KF.entry_gs (KF.slot_gs.check _ _ _ _ _ _ _ _ KF.type_class (KF.args_gs _ _ _) ?_)
 unfold Builtin.«getset_descriptor.__get__» descrGet
 rw[dga_obj]
 refine u0 (t7 ?_)
 unfold descrGetter descrCheckInstance descrNameAndClass isInstance
 simp only[KF.owner_class]
 repeat lk
 refine⟨Code.quiet_builtin _ (by decide +kernel),u3c KF.entry_class ?_⟩
 unfold Builtin.«object.__class__» shownTypeOf
 repeat lk
 exact hq
theorem zgK {tk:Tok} {Q:Fin->Shared->Prop} (X:K.In h) (I:Of h a o C) (ha:findIn K (.ref C) "__class__"=some (some (.builtin "object.__class__"))) (hn:specialIn K (.builtin "object.__class__") "__get__"=some (some (.builtin "getset_descriptor.__get__"))) (ht:takesIn K (.builtin "object.__class__")=some true) (hm:mroIn K C (.type "object")=some true)
 (hq:Q (.done (.ret (.ref C))) ⟨h,g,d,t,os⟩):wpAny (model prog w) A (Builtin.«object.__getattribute__» ⟨[.ref a,.str "__class__" tk],[]⟩) Q E ⟨h,g,d,t,os⟩:=by
 have L0:=I.type (M:=model prog w)
 have L1:=zeH (M:=model prog w) (a:=a) X ha hn ht
 refine u0 (t7 (u0 ?_))
 refine t7 (u0 (L0.at (u0 (L1.at ?_))))
 show wpAny _ _ (holding [.builtin "object.__class__"] (call (.builtin "getset_descriptor.__get__") [.builtin "object.__class__",.ref a,.ref C])>>=ret) _ _ _
 exact u0 (u0M (u3Q (zkf X I hm (t7 hq))))
theorem zf9 {M:Model} {nameV:Value} {Q:Unit->Shared->Prop} (X:K.In h) (I:Of h a o C) (hb:subIn K (.ref C) (.type "BaseException")=some true) (hq:Q () ⟨h,g,d,t,os⟩):wpAny M A (checkBuiltinCall "BaseException.__getattribute__" ⟨[.ref a,nameV],[]⟩) Q E ⟨h,g,d,t,os⟩:=by
 have hk:builtinKind "BaseException.__getattribute__"=some .slot:=by decide +kernel
 have hsplit:splitId "BaseException.__getattribute__"=some ("BaseException","__getattribute__"):=by decide +kernel
 have ha:=F.args_bexc_ga (.ref a) nameV
 have L0:=I.type (M:=M)
 have L1:Looks M h (isSubtype (.ref C) (.type "BaseException")) true:=looks_subIn X hb
 simp only[checkBuiltinCall,hk,hsplit]
 refine u0 ?_
 unfold isInstance
 refine u0 (L0.at (L1.at ?_))
 repeat (first | assumption | wp_step)
theorem zkA {tk:Tok} {Q:Value->Shared->Prop} (X:K.In h) (I:Of h a o C) (hga:findIn K (.ref C) "__getattribute__"=some (some (.builtin "BaseException.__getattribute__"))) (hgt:findIn K (.ref C) "__getattr__"=some none)
 (ha:findIn K (.ref C) "__class__"=some (some (.builtin "object.__class__"))) (hn:specialIn K (.builtin "object.__class__") "__get__"=some (some (.builtin "getset_descriptor.__get__"))) (ht:takesIn K (.builtin "object.__class__")=some true) (hm:mroIn K C (.type "object")=some true) (hb:subIn K (.ref C) (.type "BaseException")=some true) (hq:Q (.ref C) ⟨h,g,d,t,os⟩) :
 wpAny (model prog w) A (getAttrBy (.ref a) (.str "__class__" tk) false) Q E ⟨h,g,d,t,os⟩:=by
 have L0:=I.type (M:=model prog w)
 have L1:=looks_findIn (M:=model prog w) X hga
 have L2:=looks_findIn (M:=model prog w) X hgt
 have f3:=F.attrBase_ValueError.ga.bind (.ref a)
 have hx2:(Value.builtin "BaseException.__getattribute__" == Value.builtin "object.__getattribute__")=false:=by decide +kernel
 unfold getAttrBy
 refine u0M (u0 (L0.at (u0 (L1.at ?_))))
 dsimp only
 rw[hx2,u16,j6 u6]
 unfold getAttrByItsOwn
 refine u0 ?_
 show wpAny _ _ (typeLookup (.ref C) "__getattr__") _ _ _
 refine L2.at (u0 (u1O (u0M ?_)))
 show wpAny _ _ (boundAndCalled (.builtin "BaseException.__getattribute__") (.ref a) (.str "__class__" tk)) _ _ _
 unfold boundAndCalled
 rw[f3]
 refine u0 (t7 ?_)
 refine u3Q (codeAny_call_builtin F.attrBase_ValueError.ga.plain F.entry_bexc_ga (zf9 X I hb (zgK X I ha hn ht hm ?_)))
 exact handed_on rfl hq
theorem zf0 {Q:Option Value->Shared->Prop} {s:Shared} (X:K.In s.heap) (I:Of s.heap a o C) (hga:findIn K (.ref C) "__getattribute__"=some (some (.builtin "BaseException.__getattribute__"))) (hgt:findIn K (.ref C) "__getattr__"=some none)
 (ha:findIn K (.ref C) "__class__"=some (some (.builtin "object.__class__"))) (hn:specialIn K (.builtin "object.__class__") "__get__"=some (some (.builtin "getset_descriptor.__get__"))) (ht:takesIn K (.builtin "object.__class__")=some true) (hm:mroIn K C (.type "object")=some true) (hb:subIn K (.ref C) (.type "BaseException")=some true)
 (hq:Q (some (.ref C)) { s with toks:=s.toks+1 }):wpAny (model prog w) A (getAttr? (.ref a) "__class__") Q E s:=by
 obtain⟨hh,g,d,t,os⟩:=s
 unfold getAttr? getAttrBy?
 exact u0 (wpAny_mkText (u0 (u1O (zkA X I hga hgt ha hn ht hm hb (t7 hq)))))
def wN (K:W.Frag) (C:Addr):Bool:=(clsIn K C).isSome&&findIn K (.ref C) "__getattribute__" == some (some (.builtin "BaseException.__getattribute__"))&&findIn K (.ref C) "__getattr__" == some none&&findIn K (.ref C) "__class__" == some (some (.builtin "object.__class__"))
 && specialIn K (.builtin "object.__class__") "__get__" == some (some (.builtin "getset_descriptor.__get__"))&&takesIn K (.builtin "object.__class__") == some true&&mroIn K C (.type "object") == some true&&subIn K (.ref C) (.type "BaseException") == some true
theorem zh4 (q:wN K C=true):KitX K (.ref a) (.ref C) (λh=>∃ o,Of h a o C):=by
 unfold wN at q
 simp only[h9,g9]at q
 obtain⟨⟨⟨⟨⟨⟨⟨hcls,hga⟩,hgt⟩,ha⟩,hn⟩,ht⟩,hm⟩,hb⟩:=q
 obtain⟨cd,hcd⟩:=u3s.mp hcls
 unfold clsIn at hcd
 refine⟨λ_ _ _ ⟨_,I⟩=>I.type,λ_ _ X _=>?_,λh tp dd its n sl X htp=>?_,λX ⟨_,I⟩ k=>zf0 X I hga hgt ha hn ht hm hb k⟩
 .split at hcd
  .rename_i c' d' cd' sl' ho
   intro A' Q' E' s' k q
   unfold isType loadHead
   exact u0 (wpAny_loadPart (k _ _ (X _ _ ho)) (t7 q))
  .cases hcd
 .refine Bool.eq_false_iff.mpr λq=>?_
  have e:C=tp:=Value.ref.inj (g9.mp q)
  subst e
  split at hcd
  .rename_i c' d' cd' sl' ho
   have z:=(X _ _ ho).symm.trans htp
   cases z
  .cases hcd
theorem Vx {c:Value}{b:Bool}{s:Shared}{Q:Value->Shared->Prop}(q:wN K C=true)(X:K.In s.heap)(I:∃ o,Of s.heap a o C)(e:kitOne K (.ref C) c=some b)(hq:∀ tk,Q (.bool b) { s with toks:=tk }) :
 wpAny (model prog w) A (call (.builtin "isinstance") [.ref a,c]) Q E s:=kia_one (zh4 q) X I e (by intro z;cases z) hq
end
end L2
namespace L2
open PySem PySem.Spec PyProof.Rows
section
variable {P:Program}{w:World}{K:W.Frag}{mg:Str->Option Value}{base:Heap}
def zfN (P:Program)(w:World)(K:W.Frag)(mg:Str->Option Value)(base:Heap)(k:Nat)(f:Addr)(fd:FuncData)(ps:List Str)(sp:Sp):Prop :=
 (∀ vs H Q E,sp vs H Q E->vs.length=ps.length)/\∀ (A:Around) (outer:List Env) (s:Shared) (H:Hp) (args:Args) (us:List Value) (vs:List V) (Q:VK) (E:XK) (ev:Value),ve k A->zkI P w K mg base A outer s H->BindsTo s fd args (ps.zip us)->yk vs us->sp vs H Q E ->
  codeAny (model P w) (A.mark (some ev)) (.call (.ref f) args) (CR CX0 outer P w H s Q E) s
theorem zke {x qual:Str}{st:Stmt}{f:Addr}{fd:FuncData}{N ps:List Str}{k:Nat}{sp:Sp}(F:Fun K x qual st f fd)(S:zx N ps (zk st))(len:∀ vs H Q E,sp vs H Q E->vs.length=ps.length)
 (hbody:∀ (cdv:Value) (A:Around) (outer:List Env) (s:Shared) (H:Hp) (vs:List V) (Q:VK) (E:XK) (ev:Value),ve k (A.deeper (envOfC qual (zk st) s.heap.objs.size f cdv))->sp vs H Q E ->
  ∃ t,PSs ((Vv CX0 P w K mg base N qual (zk st) f cdv A outer s H E).held ev).nox (xn st) t/\t { nx:=λ_ H'=>Q .non H',rt:=Q } (start N vs) H):zfN P w K mg base (k+1) f fd ps sp:=by
 obtain⟨oc,od,kV,doc,pm,an,cdv,ct,osl,rfl,lk,hcd⟩:=F.ex
 refine⟨len,λA outer s H args us vs Q E ev hr e0 hb r hsp=>?_⟩
 have KX:K.In s.heap:=e0.mod.kin.keeps λb o e=>(e0.bs.1 b o e).1
 have lim:s.heap.NoLimit:=e0.mod.nolimit.keeps λb o e=>(e0.bs.1 b o e).1
 refine codeAny_call_function (A:=A.mark (some ev)) hr.depth (KX _ _ lk) rfl S.co S.gen rfl (W.codeRec_of KX hcd) (hb _ _ _ _ ?_)
 refine wpAny_newFunctionEnv_cells S.kind (λy hy=>?_) λenv he s1 x=>?_
 .rcases S.par y.1 (u2p (a:=y.1) (b:=y.2) hy).1 with q | q
  .exact .inl q
  .exact .inr ⟨q,u2y _ _ _ (.inl q)⟩
 subst he
 refine⟨lim.keeps x.toInCall.keep,codeAny_func ?_⟩
 obtain⟨t,ht,hq⟩:=hbody cdv A outer s H vs Q E ev (hr.deeper _) hsp
 have I:Inv (Vv CX0 P w K mg base N qual (zk st) f cdv A outer s H E) [] (start N vs) H s1:=zbw S hr.hd e0 (len _ _ _ _ hsp) r x
 refine u0B (ht [] s1 (start N vs) H _ ((I.held ev).wish _) hq) (λfl s' hs=>?_) λe s' hs=>hs.elim
 cases fl with
 | ret u =>
  obtain⟨v,σ',H',J,rv,q⟩:=hs
  exact⟨v,H',J.os,J.bare,J.base,J.hok,rv,q⟩
 | next =>
  obtain⟨σ',H',J,q⟩:=hs
  exact⟨V.non,H',J.os,J.bare,J.base,J.hok,rfl,q⟩
 | brk =>
  obtain⟨_,_,_,q⟩:=hs
  exact False.elim q
 | cont =>
  obtain⟨_,_,_,q⟩:=hs
  exact False.elim q
end
theorem zib {Y:Cx}{ev:Value}{k:Nat}{f:Addr}{fd:FuncData}{ps:List Str}{sp:Sp}{x:Str}{p pos:Pos}{e:Expr}{es:List Expr}{t:TA}{E:XK}(F:zfN Y.prog Y.w Y.K Y.mg Y.base k f fd ps sp)(hr:ve k Y.A)(hg:Gl Y x)(hm:Y.mg x=some (.ref f))(hk:W.keepIn Y.K (.ref f)=true)(hb:zaS Y.K fd ps [])(hok:Y.Ok)
 (ha:PA (Y.held ev).nox (e::es) t) (hdb:(x == ("__debug__":Str))=false:=by decide) (he:starEach (e::es) Y.env=(false,eval e Y.env)::starEach es Y.env:=by rfl) (hpl:(backTo pos (starEach es Y.env)).any (·.1)=false:=by rfl) :
 PE (Y.held ev).nox (.Call (.Name x p) (e::es) [] pos) (zka sp [] E t):=by
 intro pins s σ H Q I h
 refine u1i (WZ I hg hm ?_ hdb)
 refine W.callWith_K (h₀:=Y.base) I.ok.mod.kin hk (thn (ha pos pins s σ H _ I h) λus s1 ⟨vs,H1,I1,r,q⟩=>⟨I1.kIn,?_⟩) he hpl
 have q:sp (vs++[]) H1 Q E:=q
 rw[u0l]at q
 have I2:Inv Y pins σ H1 s1:=Inv.unheld (X:=Y) hok I1.unwish
 refine u3Q (u2S (F.2 Y.A Y.stack s1 H1 ⟨us,[]⟩ us vs Q E ev hr I2.env0 ?_ r q) λr s' hq=>?_)
 .have:=hb s1 us I2.kIn (by rw[u0l,<- r.length];exact F.1 _ _ _ _ q)
  rwa[u0l]at this
 .cases r with
  | error e=>exact False.elim hq
  | ok fl =>
   cases fl with
   | ret u=>exact I1.after hq
   | next=>exact False.elim hq
   | brk=>exact False.elim hq
   | cont=>exact False.elim hq
end L2
namespace L2
open PySem PySem.Spec PyProof.Rows PySem.SeqAt
theorem zat:∀ {bs:List Bool} {its:List Value},yk (bs.map V.bl) its->its=bs.map Value.bool
 | [],its,r=>by
  have:=r.length
  exact List.eq_nil_of_length_eq_zero (by rw[<-this];rfl)
 | b::bs,its,r=>by
  cases r with
  | cons r1 r2 =>
   rw[zat r2]
   cases r1
   rfl
theorem zc5 {A:Around}{s:Shared}{bs:List Bool}{y:Value}(h:y∈(bs.map Value.bool).toArray):EqAt A s y (.bool true) (isBoolOf true y):=by
 obtain⟨b,_,rfl⟩:=u1q.mp (List.mem_toArray.mp h)
 exact EqAt.bool_bool b true
def zgi:V->List V->Hp->VK->Prop:=λx vs H Q=>∃ (l:Addr) (bs:List Bool),x=.ref l/\vs=[.bl true]/\H l=some (.lst (bs.map V.bl))/\Q (.int ((bs.countP (· == true):Nat):Int)) H
theorem zfq {X:Cx}:MtR X "list.count" zgi:=by
 intro pins s σ H x vs v us Q I rx rv h
 obtain⟨l,bs,rfl,rfl,hH,q⟩:=h
 cases rx
 obtain⟨u,rfl,ru⟩:=rv.one
 cases ru
 obtain⟨its,r,pl,hz⟩:=I.list (SqL.of (K:=X.K) hH)
 have e:=zat r
 subst e
 obtain⟨⟨cls,dd,data,sl⟩,ho,hc,n,hd⟩:=pl.isList
 simp only at hc hd
 subst hc hd
 refine u23 PySem.F.slot_list_count ⟨_,ho,rfl⟩ PySem.F.entry_list_count (PySem.F.args_list_count_2 _ _) (list_countAt l (bs.map Value.bool).toArray n dd sl (.bool true) (isBoolOf true)) ⟨ho,λy hy=>zc5 hy,?_⟩
 refine⟨.int (((bs.map Value.bool).toArray.toList.countP (isBoolOf true):Nat):Int),H,I.tok _,⟨_,rfl⟩,?_⟩
 rw[show(bs.map Value.bool).toArray.toList=bs.map Value.bool from rfl,List.countP_map]
 exact q
def zfn:V->List V->Hp->VK->Prop:=λx vs H Q=>∃ (l:Addr) (bs:List Bool),x=.ref l/\vs=[.bl true]/\H l=some (.lst (bs.map V.bl))/\true∈bs/\Q (.int ((bs.idxOf true:Nat):Int)) H
theorem zgl {X:Cx}:MtR X "list.index" zfn:=by
 intro pins s σ H x vs v us Q I rx rv h
 obtain⟨l,bs,rfl,rfl,hH,hm,q⟩:=h
 cases rx
 obtain⟨u,rfl,ru⟩:=rv.one
 cases ru
 obtain⟨its,r,pl,hz⟩:=I.list (SqL.of (K:=X.K) hH)
 have e:=zat r
 subst e
 obtain⟨⟨cls,dd,data,sl⟩,ho,hc,n,hd⟩:=pl.isList
 simp only at hc hd
 subst hc hd
 have hj:bs.idxOf true < bs.length:=List.idxOf_lt_length_iff.mpr hm
 have hl63:=V6
 have hb:bs.length<=sizeLine:=by simpa using hz
 refine u23 PySem.F.slot_list_index ⟨_,ho,rfl⟩ PySem.F.entry_list_index (PySem.F.args_list_index_2 _ _) (list_indexAt l (bs.map Value.bool).toArray n dd sl (.bool true) (isBoolOf true) (bs.idxOf true) (by simpa using hj) (by omega) ?_ ?_) ⟨ho,λy hy=>zc5 hy,⟨.int ((bs.idxOf true:Nat):Int),H,I.tok _,⟨_,rfl⟩,q⟩⟩
 .simp only[u2Z,u2U]
  rw[List.getElem_idxOf hj]
  rfl
 .intro m hm2 hlt
  simp only[u2Z,u2U]
  exact List.not_of_lt_findIdx (p:=(· == true)) (xs:=bs) hlt
end L2
namespace L2
open PySem PySem.Spec PyProof.Rows
def clsV:V->Option Value
 | .ref C=>some (.ref C)
 | .ty T=>some (.type T)
 | _=>none
def zmE (K:W.Frag):List V->Hp->VK->Prop:=λvs H Q=>∃ (a C:Addr) (od:Option Addr) (v:V) (c:Value) (b:Bool),vs=[.ref a,v]/\H a=some (ze1 a C od)/\wN K C=true/\clsV v=some c/\W.kitOne K (.ref C) c=some b/\Q (.bl b) H
theorem yJ {X:Cx}:Xw X (.builtin "isinstance") (zmE X.K):=by
 intro pins s σ H vs us Q I rv h
 obtain⟨a,C,od,v,c,b,rfl,hH,hl,hc,hk,q⟩:=h
 obtain⟨u1,u2,rfl,r1,r2⟩:∃ u1 u2,us=[u1,u2]/\xj (.ref a) u1/\xj v u2:=by
  cases rv with
  | cons r1 r=>cases r with
   | cons r2 r=>cases r;exact⟨_,_,rfl,r1,r2⟩
 cases r1
 have e2:u2=c:=by
  cases v <;> try cases hc
  .cases r2;rfl
  .cases r2;rfl
 subst e2
 obtain⟨⟨oe,h1,h2,_⟩,_⟩:=I.hok a _ hH
 exact Vx hl I.kIn ⟨oe,h1,h2⟩ hk λtk=>⟨.bl b,H,I.tok tk,rfl,q⟩
theorem zdA {K:W.Frag}{σ:St}{H:Hp}{a C:Addr}{od:Option Addr}{v:V}{c:Value}{b:Bool}{Q:VK}(h0:σ[0]?=some (some (.ref a)))(hH:H a=some (ze1 a C od))(hl:wN K C=true)(hc:clsV v=some c)(hk:W.kitOne K (.ref C) c=some b)(q:Q (.bl b) H) :
 tCB (zmE K) (Vt (zef 0) (Vt (tC v) ziI)) σ H Q:=⟨.ref a,h0,⟨a,C,od,v,c,b,rfl,hH,hl,hc,hk,q⟩⟩
def zd4 (n j:Nat):List Bool:=(List.range n).map λi=>i == j
def Wg (K:W.Frag) (cs:List Addr) (CS C:Addr) (j:Nat):Bool:=wN K C&&(W.kitOne K (.ref C) (.type "ValueError") == some true)&&(W.exmOne K (.ref C) (.ref CS) == some true)&&(cs.map (λc=>W.kitOne K (.ref C) (.ref c)) == (zd4 cs.length j).map some)
structure zdI (K:W.Frag) (cs:List Addr) (CS C:Addr) (j:Nat):Prop where
 look:wN K C=true
 val:W.kitOne K (.ref C) (.type "ValueError")=some true
 exm:W.exmOne K (.ref C) (.ref CS)=some true
 hot:cs.map (λc=>W.kitOne K (.ref C) (.ref c))=(zd4 cs.length j).map some
theorem zdI.of {K:W.Frag}{cs:List Addr}{CS C:Addr}{j:Nat}(h:Wg K cs CS C j=true):zdI K cs CS C j:=by
 unfold Wg at h
 simp only[h9,g9]at h
 exact⟨h.1.1.1,h.1.1.2,h.1.2,h.2⟩
section
variable {K:W.Frag}{σ:St}{H H0:Hp}{a C:Addr}{od:Option Addr}
def tIs (K:W.Frag):List Addr->TA
 | []=>ziI
 | c::r=>Vt (tCB (zmE K) (Vt (zef 0) (Vt (tC (.ref c)) ziI))) (tIs K r)
theorem zi4 (h0:σ[0]?=some (some (.ref a)))(hH:H a=some (ze1 a C od))(hl:wN K C=true):∀ (cs:List Addr) (bs:List Bool) (Q:List V->Hp->Prop),cs.map (λc=>W.kitOne K (.ref C) (.ref c))=bs.map some->Q (bs.map V.bl) H->tIs K cs σ H Q:=by
 intro cs
 induction cs with
 | nil =>
  intro bs Q e q
  cases bs with
  | nil=>exact q
  | cons b r=>cases e
 | cons c r ih =>
  intro bs Q e q
  cases bs with
  | nil=>cases e
  | cons b bs =>
   obtain⟨e1,e2⟩:=u1z e
   exact zdA h0 hH hl rfl e1 (ih bs _ e2 q)
structure KSt (H0:Hp) (a C:Addr) (od:Option Addr) (bs:List Bool) (σ:St) (H:Hp):Prop where
 same:yn H0 H
 len:σ.length=2
 e0:σ[0]?=some (some (.ref a))
 he:H a=some (ze1 a C od)
 lst:∃ p,σ[1]?=some (some (.ref p))/\H p=some (.lst (bs.map V.bl))
theorem zgC {bs:List Bool}{p:Addr}(s:yn H0 H)(hl:σ.length=2)(e0:σ[0]?=some (some (.ref a)))(he:H a=some (ze1 a C od))(hp:H p=none):KSt H0 a C od bs (σ.set 1 (some (.ref p))) (upd H p (.lst (bs.map V.bl))):=by
 refine⟨λb o e=>?_,by rw[u1X];exact hl,?_,?_,p,?_,zq⟩
 .have:=s b o e
  rw[zn (zj this hp)];exact this
 .rw[d8 (by decide)];exact e0
 .rw[zn (zj he hp)];exact he
 .rw[u0f (by omega)]
theorem zeB {cs:List Addr}{bs:List Bool}{D:zch}(hk:wN K C=true)(e:cs.map (λc=>W.kitOne K (.ref C) (.ref c))=bs.map some)(hb:bs.length<=sizeLine)(hl:σ.length=2)(e0:σ[0]?=some (some (.ref a)))(he:H a=some (ze1 a C od))(k:∀ σ' H',KSt H a C od bs σ' H'->D.nx σ' H') :
 zku (zmY (tIs K cs)) (VC 1) D σ H :=
 zi4 e0 he hk cs bs _ e ⟨by rw[u9];exact hb,λp hp=>k _ _ (zgC (.refl _) hl e0 he hp)⟩
theorem zag {cs:List Addr}{bs0 bs:List Bool}{D:zch}(hk:wN K C=true)(e:cs.map (λc=>W.kitOne K (.ref C) (.ref c))=bs.map some)(hb:bs0.length+bs.length<=sizeLine)(S:KSt H0 a C od bs0 σ H)(k:∀ σ' H',KSt H0 a C od (bs0++bs) σ' H'->D.nx σ' H') :
 zku (tOp znh (zef 1) (zmY (tIs K cs))) (VC 1) D σ H:=by
 obtain⟨p,e1,hp⟩:=S.lst
 refine⟨.ref p,e1,zi4 S.e0 S.he hk cs bs _ e ⟨by rw[u9];omega,λq hq=>?_⟩⟩
 refine⟨p,q,bs0.map V.bl,bs.map V.bl,rfl,rfl,by rw[zn (zj hp hq)];exact hp,zq,by rw[u9,u9];exact hb,λr hr=>?_⟩
 rw[<-u1e]
 refine k _ _ (zgC (λb o e=>?_) S.len S.e0 ?_ hr)
 .have:=S.same b o e
  rw[zn (zj this hq)];exact this
 .rw[zn (zj S.he hq)];exact S.he
theorem zgI:∀ j:Nat,j < 13->(zd4 13 j).countP (· == true)=1/\(zd4 13 j).idxOf true=j/\true∈zd4 13 j:=by decide +kernel
theorem zjG {j:Nat} {D:zch} {tr:TS} (hv:W.kitOne K (.ref C) (.type "ValueError")=some true) (hk:wN K C=true) (hj:j < 13) (S:KSt H0 a C od (zd4 13 j) σ H) (k:D.rt (.int j) H) :
 tSeq (tIfS (tOr (tNot (tB (tCB (zmE K) (Vt (zef 0) (Vt (tC (.ty "ValueError")) ziI))))) (zjK (tOp rNe (tBM K "list" zgi (zef 1) (Vt (tC (.bl true)) ziI)) (tC (.int 1))))) tr zle) (znf (tBM K "list" zfn (zef 1) (Vt (tC (.bl true)) ziI))) D σ H:=by
 obtain⟨h1,h2,h3⟩:=zgI j hj
 obtain⟨p,e1,hp⟩:=S.lst
 refine zdA S.e0 S.he hk rfl hv ⟨true,rfl,?_⟩
 show(if (!true)=true then _ else _)
 rw[j6 (by decide)]
 refine⟨.ref p,e1,.inl ⟨rfl,_,SqL.of hp⟩,p,_,rfl,rfl,hp,?_⟩
 rw[h1]
 refine⟨rfl,false,by rw[zcu];rfl,?_⟩
 show(if false=true then _ else _)
 rw[j6 (by decide)]
 refine⟨.ref p,e1,.inl ⟨rfl,_,SqL.of hp⟩,p,_,rfl,rfl,hp,h3,?_⟩
 rw[h2]
 exact k
end
def zfx (cl:Nat->Addr)(ok:Nat->Prop):Sp:=λvs H Q _=>∃ a j od,vs=[.ref a]/\H a=some (ze1 a (cl j) od)/\ok j/\∀ H',yn H H'->Q (.int (j:Nat)) H'
theorem PS.nox {X:Cx}{st:Stmt}{t:TS}(h:PS X.nox st t):PS X st t:=λpins s σ H D I hw =>
 u0B (h pins s σ H D (I.wish _) hw) (λ_ _ q=>q.unwish) λ_ _ z=>False.elim z
end L2
namespace Dl
open PySem L2
variable [KK]
theorem SD.nox {X:Cx}{st:Stmt}{g:SE->Ctl}(h:SD X.nox st g):SD X st g:=let ⟨t,p,r⟩:=h;⟨t,p.nox,r⟩
def xEx (fx:Ev->Option Nat):SE->Option Nat:=fun ρ=>fx (visG ρ)
theorem Va {E:XK}{cl:Nat->Addr}{X:Cx}{sts:List Stmt}:XSs E cl X sts xNo:=⟨λ_ _ _=>False,λ_ _ _ _ _ _ h=>h.elim,λ_ _ _ _ _ _ _ _ _ h _=>by cases h⟩
theorem Gr.more {F H H':Hp}(s:yn F H)(k:yn H H'):Gr F H F H':=⟨yn.refl _,s.trans k,λp o e1 e2=>⟨.inl e1,k p o e2⟩⟩
def zlO (gx:SE->Option Nat)(g:SE->Ctl)(h:Nat->Option D):SE->Ctl:=fun ρ=>match gx ρ with
 | some j=>match h j with
  | some d=>.rt d
  | none=>.no
 | none=>g ρ
def zb3 (H:Hp)(j:Nat)(od:Option Addr):Prop:=match pay j with
 | none=>od=none
 | some fs=>∃ dx,od=some dx/\H dx=some (.xd fs)
theorem zb3.mono {H H':Hp}{j:Nat}{od:Option Addr}(h:zb3 H j od)(s:yn H H'):zb3 H' j od:=by
 unfold zb3 at h ⊢
 cases e:pay j with
 | none=>rw[e]at h;exact h
 | some fs=>rw[e]at h;obtain⟨dx,e1,e2⟩:=h;exact⟨dx,e1,s _ _ e2⟩
structure Est (cl:Nat->Addr) (i j:Nat) (σ:St) (H:Hp) (a:Addr) (od:Option Addr):Prop where
 sl:σ[i]?=some (some (.ref a))
 he:H a=some (ze1 a (cl j) od)
 pa:zb3 H j od
def RU (cl:Nat->Addr)(i:Nat)(u:TS)(h:Nat->Option D):Prop:=∀ (j:Nat) (d:D) (σ:St) (H:Hp) (a:Addr) (od:Option Addr) (D':zch),h j=some d->Est cl i j σ H a od->(∀ H' v,(∀ F,yn F H->∃ F',Gr F H F' H'/\At F' d v)->D'.rt v H')->u D' σ H
theorem zkE {Y:Cx}{CS:Addr}{x n:Str}{i:Nat}{body suite:List Stmt}{b₀:Stmt}{pos hpos np:Pos}{cl:Nat->Addr}{g:SE->Ctl}{gx:SE->Option Nat}{u:TS}{h:Nat->Option D}(hst:Y.stack=Y.env::Y.outer)(hf:Y.env.frame=some Y.env.locals)(hex:Y.ex=[])
 (hN:Y.N.Nodup) (hi:Y.N[i]?=some n) (hk:Y.env.scope.names.lookup n=some .local) (hg:Gl Y x) (hm:Y.mg x=some (.ref CS))
 (hbx:∀ (ps:List (Addr × Obj)) (W:Value->Shared->Prop) (E0:XK),Wc (Air Y.prog Y.w) ((Y.pinned ps).wish W) E0->XSs E0 cl ((Y.pinned ps).wish W) body gx)
 (hb:∀ (ps:List (Addr × Obj)) (W:Value->Shared->Prop),SDs ((Y.pinned ps).wish W) body g)
 (hexm:∀ j d,h j=some d->PySem.W.exmOne Y.K (.ref (cl j)) (.ref CS)=some true)
 (hsuite:Y.Ok->∀ ea,PSs (Y.held (.ref ea)).nox (b₀::suite) u) (hu:RU cl i u h) (hd:(x == ("__debug__":Str))=false:=by decide) :
 SD Y.nox (.Try body [.ExceptHandler (some (.Name x np)) (some n) (b₀::suite) hpos] [] [] pos) (zlO gx g h):=by
 let tb:XK->TS:=λE0 D σ H=>∀ (ps:List (Addr × Obj)) (W:Value->Shared->Prop),Wc (Air Y.prog Y.w) ((Y.pinned ps).wish W) E0->∃ t,PSs ((Y.pinned ps).wish W) body t/\t D σ H
 refine⟨λD σ H=>tb (exW Y.K CS i Y.N.length u D) D σ H,λpins s σ H D I hq=>?_,λFb Hb F H ρ σ D rl k=>?_⟩
 .refine zlW (tb:=tb) hst hf hex hN hi hk hg hm (λps W E0 hP pins s σ H D I hq=>?_) (hsuite I.ok.unwish) hd pins s σ H D I hq
  obtain⟨t,p,ht⟩:=hq ps W hP
  exact p pins s σ H D I ht
 .intro ps W hP
  unfold zlO at k
  cases e:gx ρ with
  | none =>
   rw[e]at k
   obtain⟨t,p,r⟩:=hb ps W
   exact⟨t,p,r Fb Hb F H ρ σ D rl k⟩
  | some j =>
   rw[e]at k
   dsimp only at k
   cases e2:h j with
   | none=>rw[e2]at k;exact k.elim
   | some d =>
    rw[e2]at k
    obtain⟨t,p,r⟩:=hbx ps W _ hP
    refine⟨t,p,r Fb Hb F H ρ σ D j rl e λF' H' gr=>?_⟩
    have go:∀ (od:Option Addr) (H0:Hp),yn H' H0->zb3 H0 j od->exW Y.K CS i Y.N.length u D (.ref (cl j)) od H0:=λod H0 sm pa=>⟨_,rfl,hexm j d e2,λea σ' hl hn=>by
     have hi':i < σ'.length:=by
      rw[hl]
      exact(u8.mp hi).1
     have sm0:yn H0 (upd H0 ea (ze1 ea (cl j) od)):=λb o q=>by rw[zn (zj q hn)];exact q
     refine hu j d _ _ ea od _ e2 ⟨by rw[u0f hi'],zq,pa.mono sm0⟩ λH'' v av=>?_
     obtain⟨F2,g2,a2⟩:=av F' (gr.fh.trans (sm.trans sm0))
     exact k F2 H'' v ((gr.trans (Gr.more gr.fh (sm.trans sm0))).trans g2) a2⟩
    unfold EJ
    cases ep:pay j with
    | none=>exact go none H' (yn.refl _) (by unfold zb3;rw[ep])
    | some fs=>exact λdx hdx=>go (some dx) _ (λb o q=>by rw[zn (zj q hdx)];exact q) (by unfold zb3;rw[ep];exact⟨dx,rfl,zq⟩)
def SX (cl:Nat->Addr)(i:Nat)(t:TE)(f:Nat->Option D):Prop:=∀ (j:Nat) (d:D) (σ:St) (H:Hp) (a:Addr) (od:Option Addr) (Q:VK),f j=some d->Est cl i j σ H a od->(∀ H' v,yn H H'->(∀ F,At F d v)->Q v H')->t σ H Q
section
variable {cl:Nat->Addr}{i:Nat}
def fK (js:List Nat):Nat->Option D:=λj=>if j % 16∈js then some (.int (j % 16:Nat))else none
theorem zhd {js:List Nat}{E:XK}{ok:Nat->Prop}(hcl:∀ j,cl j=cl (j % 16))(hok:∀ j,j∈js->ok j):SX cl i (zka (zfx cl ok) [] E (Vt (zef i) ziI)) (fK js):=by
 intro j d σ H a od Q e es k
 unfold fK at e
 split at e <;> try cases e
 rename_i hj
 refine⟨.ref a,es.sl,a,j % 16,od,rfl,?_,hok _ hj,λH' sm=>k H' _ sm λF=>.int⟩
 rw[<-hcl j]
 exact es.he
theorem zkM {t:TE}{f:Nat->Option D}(h:SX cl i t f):RU cl i (znf t) f:=λj d σ H a od D' e es k =>
 h j d σ H a od _ e es λH' v sm av=>k H' v λF s=>⟨F,Gr.more s sm,av F⟩
end
end Dl
namespace Dl
open PySem L2
def zkm (js:List Nat)(h:Nat->Option D):Nat->Option D:=λj=>if j % 16∈js then h j else none
theorem zj1 {js:List Nat}{h:Nat->Option D}{j:Nat}{d:D}(e:zkm js h j=some d):j % 16∈js:=by
 unfold zkm at e
 split at e
 .assumption
 .cases e
theorem zlB {cl:Nat->Addr}{i:Nat}{js:List Nat}{u:TS}{h:Nat->Option D}[KK](r:RU cl i u h):RU cl i u (zkm js h):=λj d σ H a od D' e es k=>by
 unfold zkm at e
 split at e
 .exact r j d σ H a od D' e es k
 .cases e
end Dl
namespace PySem
section
variable {prog:Program}{w:World}{A:Around}{R:Result->Shared->Prop}{it S:Addr}{fp wr:List Addr}{n:Nat}{P:Nat->Value->Prop}{St:Nat->Heap->Prop}{kw:List (Str × Value)}
theorem v8:(toString "max"++toString ".loop":String)="max.loop":=by decide
theorem W0 {s:Shared}(k:wpAny (model prog w) A.in1 (Builtin.«max.loop» ⟨[.ref it,.none,.ref S],kw⟩) (λfin s'=>match fin with | .done f=>R (.ok f) s' | .again c'=>c'.quiet=true/\codeAny (model prog w) A c' R s') (λe s'=>R (.error e) s') s) :
 codeAny (model prog w) A (.builtin "max.loop" ⟨[.ref it,.none,.ref S],kw⟩) R s:=u3c F.entry_max_loop (by rw[u2Y u18 _];exact k)
theorem zfb (W:Walks prog w A.in1 it fp wr n P St)(bt:Nat->Nat->Bool)(cm:CmpOf prog w A.in1 .Gt P bt)(nf:S∉fp):∀ (left j:Nat) (s:Shared) (v0:Value) (c:Nat),j+1+left=n->St (j+1) s.heap->P (argBest bt j) v0 ->
 s.heap.get? S=some { cls:=.type "list",dict:=none,data:=.seq #[v0,v0] c,slots:=#[] } ->
 (∀ v g tk,P (argBest bt (n - 1)) v->(∀ b o,b∉wr->b≠S->s.heap.get? b=some o->g.get? b=some o)->R (.ok (.ret v)) { s with heap:=g,toks:=tk }) ->
 codeAny (model prog w) A (.builtin "max.loop" ⟨[.ref it,.none,.ref S],kw⟩) R s:=by
 have nw:S∉wr:=λz=>nf (W.sub _ z)
 intro left
 induction left with
 | zero =>
  intro j s v0 c e st p0 hS k
  have ej:j+1=n:=e
  refine W0 ?_
  show wpAny _ A.in1 (seqItems? (.ref S)>>=_) _ _ s;refine u0 (u1d hS rfl ?_)
  show wpAny _ A.in1 (tryCatch (pyNext (.ref it)) _>>=_) _ _ s;refine u0 (u2M (W.done s _ _ (ej ▸ st) λg tk kk=>?_))
  show wpAny _ A.in1 (updateSeq S (λ_=>#[])>>=_) _ _ _;refine u0 (wpAny_updateSeq (kk S _ nw hS) rfl (u0 (u2H (t7 (k v0 _ tk (ej ▸ p0) λb o b1 b2 q=>?_)))))
  exact(u0n _ _ (u1l b2)).trans (kk b o b1 q)
 | succ left ih =>
  intro j s v0 c e st p0 hS k
  refine W0 ?_
  show wpAny _ A.in1 (seqItems? (.ref S)>>=_) _ _ s;refine u0 (u1d hS rfl ?_)
  show wpAny _ A.in1 (tryCatch (pyNext (.ref it)) _>>=_) _ _ s;refine u0 (u2M (W.item (j+1) s _ _ (by omega) st λv g tk pv st' kk=>?_))
  have hS':=kk S _ nw hS
  show wpAny _ A.in1 (tryCatch (holding [v,v] (richCompare .Gt v v0>>=_)) _>>=_) _ _ _;refine u0 (u2M (u0M (u0 (cm (j+1) (argBest bt j) v v0 _ _ _ pv p0 (u0 (u0M (u04 (u0 (u2H (t7 ?_))))))))))
  cases hb:bt (j+1) (argBest bt j) with
  | true =>
   simp only[u2F];refine u0 (wpAny_updateSeq hS' rfl (u0 (u2H ?_)))
   rw[v8];refine t7 ⟨u22 u18 _,ih (j+1) _ v _ (by omega) (W.frame _ _ _ st' λb bf o q=>?_) (by rw[argBest,j4 hb];exact pv) (u1V _ hS' rfl) λv1 g1 tk1 p1 kk1=>?_⟩
   .exact(u0n _ _ (λz:S=b=>nf (z ▸ bf))).trans q
   .exact k v1 g1 tk1 p1 λb o b1 b2 q=>kk1 b o b1 b2 ((u0n _ _ (u1l b2)).trans (kk b o b1 q))
  | false =>
   simp only[u3i,u3X];refine u0 (u2H ?_)
   rw[v8];exact t7 ⟨u22 u18 _,ih (j+1) _ v0 c (by omega) st' (by rw[argBest,j6 (by rw[hb];exact u6)];exact p0) hS' λv1 g1 tk1 p1 kk1=>k v1 g1 tk1 p1 λb o b1 b2 q=>kk1 b o b1 b2 (kk b o b1 q)⟩
theorem zhD {s:Shared}{c:Nat}{d:Value}(W:Walks prog w A.in1 it fp wr n P St)(bt:Nat->Nat->Bool)(cm:CmpOf prog w A.in1 .Gt P bt)(nf:S∉fp)(st:St 0 s.heap)
 (hS:s.heap.get? S=some { cls:=.type "list",dict:=none,data:=.seq #[] c,slots:=#[] })
 (k:∀ v g tk,(if n=0 then v=d else P (argBest bt (n - 1)) v)->(∀ b o,b∉wr->b≠S->s.heap.get? b=some o->g.get? b=some o)->R (.ok (.ret v)) { s with heap:=g,toks:=tk }) :
 codeAny (model prog w) A (.builtin "max.loop" ⟨[.ref it,.none,.ref S],[("default",d)]⟩) R s:=by
 have nw:S∉wr:=λz=>nf (W.sub _ z)
 refine W0 ?_
 show wpAny _ A.in1 (seqItems? (.ref S)>>=_) _ _ s;refine u0 (u1d hS rfl ?_)
 show wpAny _ A.in1 (tryCatch (pyNext (.ref it)) _>>=_) _ _ s
 by_cases hn:n=0
 .refine u0 (u2M (W.done s _ _ (hn ▸ st) λg tk kk=>?_))
  show wpAny _ A.in1 (rule _>>=_) _ _ _;exact u0 (u1t (t7 (k d g tk (by rw[j4 hn]) λb o b1 _ q=>kk b o b1 q)))
 .refine u0 (u2M (W.item 0 s _ _ (Nat.pos_of_ne_zero hn) st λv g tk pv st' kk=>?_))
  have hS':=kk S _ nw hS
  show wpAny _ A.in1 (updateSeq S (λ_=>#[v,v])>>=_) _ _ _;refine u0 (wpAny_updateSeq hS' rfl ?_)
  rw[v8];refine t7 ⟨u22 u18 _,zfb W bt cm nf (n - 1) 0 _ v _ (by omega) (W.frame _ _ _ st' λb bf o q=>?_) pv (u1V _ hS' rfl) λv1 g1 tk1 p1 kk1=>?_⟩
  .exact(u0n _ _ (λz:S=b=>nf (z ▸ bf))).trans q
  .exact k v1 g1 tk1 (by rw[j6 hn];exact p1) λb o b1 b2 q=>kk1 b o b1 b2 ((u0n _ _ (u1l b2)).trans (kk b o b1 q))
end
theorem zcJ (x d:Value):argsOk "max" ⟨[x],[(Str.ofString "default",d)]⟩:=by unfold argsOk;kernel_rfl
theorem zaX {prog:Program}{w:World}{A:Around}{E:Value->Shared->Prop}{s:Shared}{x d:Value}{Q:Value->Shared->Prop}
 (h:wpAny (model prog w) A.in1 (pyIter x) (λi s₂=>∃ it fp wr n P St bt,i=.ref it/\Walks prog w A.in1 it fp wr n P St/\St 0 s₂.heap/\(∀ b∈fp,b < s₂.heap.objs.size)/\CmpOf prog w A.in1 .Gt P bt /\
  ∀ v g tk,(if n=0 then v=d else P (argBest bt (n - 1)) v)->(∀ b o,b∉wr->s₂.heap.get? b=some o->g.get? b=some o)->Q v { s₂ with heap:=g,toks:=tk }) E s) :
 wpAny (model prog w) A (call (.builtin "max") [x] [(Str.ofString "default",d)]) Q E s:=by
 refine PyProof.Rows.kmk_tree F.kind_max F.plain_max F.entry_max (zcJ x d) ?_
 show wpAny _ A.in1 (Builtin.Builtins.bindParams "max" ["key","default"] 0 ⟨[],[(Str.ofString "default",d)]⟩>>=_) _ _ s
 refine u0 (wpAny_of_eq (show Builtin.Builtins.bindParams "max" ["key","default"] 0 ⟨[],[(Str.ofString "default",d)]⟩=pure [none,some d]from rfl) (u0 (t7 ?_)))
 refine u0 (u0B h (λi s₂ h₂=>?_) λ_ _ e=>e)
 obtain⟨it,fp,wr,n,P,St,bt,rfl,W,st,hfp,cm,k⟩:=h₂
 refine u0 (u03 ?_)
 have nf:s₂.heap.objs.size∉fp:=λz=>u0W _ (hfp _ z)
 rw[v8]
 refine t7 ⟨u22 u18 _,zhD W bt cm nf (W.frame _ _ _ st λb _ o e=>u5 _ e) (r6 _ rfl) λv g tk p kk=>?_⟩
 exact k v g tk p λb o b1 e=>kk b o b1 (p4 (j7 e)) (u5 _ e)
end PySem
namespace L2
open PySem PySem.Spec PyProof.Rows
section
variable {X:Cx}{e de:Expr}{p pos kp:Pos}{t:TA}{td:TE}
def zmQ (K:W.Frag)(t:TA)(td:TE):TE:=fun σ H Q=>t σ H λvs H1=>td σ H1 λy H2=>∃ (a:Addr) (ns:List Int) (k:Int),vs=[.ref a]/\y=.int k/\SqL K H2 a (ns.map V.int)/\Q (.int (if ns=[]then k else Dl.maxL ns)) H2
theorem zjO (hc:X.calm=true) (hg:Gl X "max") (hm:X.mg "max"=none) (hv:bootBuiltins "max"=some (.builtin "max")) (ha:PA X [e] t) (hd:PE X de td) (he:backTo pos (starEach [e] X.env)=(false,eval e X.env)::backTo pos (starEach [] X.env):=by rfl) (hpl:(backTo pos (starEach [e] X.env)).any (·.1)=false:=by rfl) :
 PE X (.Call (.Name "max" p) [e] [⟨some "default",de,kp⟩] pos) (zmQ X.K t td):=by
 intro pins s σ H Q I h
 refine u1i (Yn I hg hm hv ?_ (by decide) (by decide))
 refine u2k (thn (ha pos pins s σ H _ I h) λus s1 ⟨vs,H1,I1,r1,q1⟩=>u2R (thn (hd pins s1 σ H1 _ I1 q1) λud s2 ⟨y,H2,I2,r2,q2⟩=>u20 ?_)) he hpl
 obtain⟨a,ns,k,rfl,rfl,hq,q⟩:=q2
 obtain⟨u,rfl,ru⟩:=zaf r1
 cases ru
 obtain⟨tk0,rfl⟩:=r2
 letI:Dl.KK:=⟨X.K⟩
 refine zaX (Dl.seq_walk I2 (I2.ok.hd hc) (.inl hq) λit its fp wr St s₂ rv W st fpl back=>?_)
 have hl:=rv.length
 rw[u9]at hl
 refine⟨it,fp,wr,_,_,St,λi j=>decide (ns.getD j 0 < ns.getD i 0),rfl,W,st,fpl,λi j vi vj s Q E hi hj hQ=>?_,λv h' tk hv kk=>?_⟩
 .obtain⟨t1,rfl⟩:=Dl.vals_int rv hi
  obtain⟨t2,rfl⟩:=Dl.vals_int rv hj
  exact PyProof.Rows.gt_int hQ
 .by_cases hn:ns=[]
  .subst hn
   have h0:its.length=0:=hl.symm
   rw[j4 h0]at hv
   subst hv
   exact⟨.int k,H2,back h' tk kk,⟨tk0,rfl⟩,by rw[j4 rfl]at q;exact q⟩
  .have hpos:0 < ns.length:=List.length_pos_iff.mpr hn
   rw[j6 (by omega)]at hv
   obtain⟨t,rfl⟩:=Dl.vals_int rv hv
   rw[j6 hn]at q
   refine⟨.int (Dl.maxL ns),H2,back h' tk kk,⟨t,?_⟩,q⟩
   have key:=Dl.best_ge (λi=>ns.getD i 0) (its.length - 1)
   have hb:argBest (λi j=>decide (ns.getD j 0 < ns.getD i 0)) (its.length - 1) < ns.length:=by
    have:=(key 0 (u0D _)).2
    omega
   rw[Dl.max_is (m:=ns.getD (argBest (λi j=>decide (ns.getD j 0 < ns.getD i 0)) (its.length - 1)) 0) (Dl.getD_mem hb)]
   intro x hx
   obtain⟨j,hj,rfl⟩:=u0v hx
   have:=(key j (by omega)).1
   rw[<-Dl.getD_at hj]
   exact this
end
end L2
namespace Dl
open PySem L2
variable [KK]
section
variable {X:Cx}{e de:Expr}{p pos kp:Pos}
def zgj:D->D->Option D
 | .lst ds,.int k=>(za5 ds).map λns=>.int (if ns=[]then k else maxL ns)
 | _,_=>none
theorem zjv {f h:Ev->Option D} (hc:X.calm=true) (hg:Gl X "max") (hm:X.mg "max"=none) (ha:ED X e f) (hd:ED X de h) (hs:starEach [e] X.env=(false,eval e X.env)::starEach [] X.env:=by rfl) (he:backTo pos (starEach [e] X.env)=(false,eval e X.env)::backTo pos (starEach [] X.env):=by rfl) (hpl:(backTo pos (starEach [e] X.env)).any (·.1)=false:=by rfl) :
 ED X (.Call (.Name "max" p) [e] [⟨some "default",de,kp⟩] pos) (zo zgj f h):=by
 obtain⟨ta,pa,ra⟩:=ha
 obtain⟨td,pd,rd⟩:=hd
 refine⟨_,zjO hc hg hm zdh (zp pa yu hs) pd he hpl,fun σ ρ F H z Q s va e q=>?_⟩
 obtain⟨d,e1,e⟩:=u4.mp e
 obtain⟨k,e2,e3⟩:=u4.mp e
 refine ra σ ρ F H d _ s va e1 λF1 H1 v g1 a1=>?_
 refine rd σ ρ F1 H1 k _ g1.fh (va.mono g1.ff) e2 λF2 H2 y g2 a2=>?_
 unfold zgj at e3
 split at e3 <;> try cases e3
 obtain⟨ns,hn,rfl⟩:=t9.mp e3
 cases ZM hn
 obtain⟨a,xs,rfl,hx,al⟩:=(a1.mono g2.ff).lst_inv
 cases al.of_ints
 exact⟨a,ns,_,rfl,a2.int_inv,SqL.of (g2.fh _ _ hx),q F2 H2 _ (g1.trans g2) .int⟩
end
end Dl
namespace Dl
open PySem L2
def zkt (t:List Int):List (List Int)->List (List Int)
 | []=>[t]
 | u::us=>if HT.lexLt u t=true then u::zkt t us else t::u::us
def yM:List (List Int)->List (List Int)
 | []=>[]
 | t::ts=>zkt t (yM ts)
theorem zba (t:List Int):∀ us:List (List Int),(zkt t us).Perm (t::us):=by
 intro us
 induction us with
 | nil=>exact u1Q _
 | cons u us ih =>
  unfold zkt
  split
  .exact(ih.cons u).trans (List.Perm.swap _ _ _)
  .exact u1Q _
theorem Z4:∀ ts:List (List Int),(yM ts).Perm ts:=by
 intro ts
 induction ts with
 | nil=>exact u1Q _
 | cons t ts ih=>exact(zba t _).trans (ih.cons t)
theorem zfa (t:List Int):∀ us:List (List Int),us.Pairwise (λa b=>HT.lexLt b a=false)->(zkt t us).Pairwise λa b=>HT.lexLt b a=false:=by
 intro us
 induction us with
 | nil=>intro _;exact List.pairwise_singleton _ _
 | cons u us ih =>
  intro h
  rw[u08]at h
  unfold zkt
  by_cases c:HT.lexLt u t=true
  .rw[j4 c]
   refine u08.mpr ⟨λv hv=>?_,ih h.2⟩
   rcases d5.mp ((zba t us).mem_iff.mp hv)with rfl | hv
   .cases e:HT.lexLt v u with
    | false=>rfl
    | true =>
     have:=OwnSortT.lex_trans _ _ _ c e
     rw[OwnSortT.lex_irr]at this
     cases this
   .exact h.1 v hv
  .rw[j6 c]
   have c:HT.lexLt u t=false:=by cases e:HT.lexLt u t with
    | false=>rfl
    | true=>exact absurd e c
   refine u08.mpr ⟨λv hv=>?_,u08.mpr h⟩
   rcases d5.mp hv with rfl | hv
   .exact c
   .cases e:HT.lexLt v t with
    | false=>rfl
    | true =>
     rcases OwnSortT.lex_neg v u t e with z | z
     .rw[h.1 v hv]at z;cases z
     .rw[c]at z;cases z
theorem Z8:∀ ts:List (List Int),(yM ts).Pairwise λa b=>HT.lexLt b a=false:=by
 intro ts
 induction ts with
 | nil=>exact List.Pairwise.nil
 | cons t ts ih=>exact zfa t _ ih
theorem zc0 {ts us:List (List Int)}(p:us.Perm ts)(h:us.Pairwise λa b=>HT.lexLt b a=false):us=yM ts :=
 u2h (le:=λa b=>HT.lexLt b a=false) (λa b _ _ h1 h2=>OwnSortT.lex_total _ _ h2 h1) h (Z8 ts) (p.trans (Z4 ts).symm)
variable [KK]
end Dl
namespace Dl
open PySem L2
def b3:D->Option (List (Option D))
 | .tup [x,y,z]=>some [some x,some y,some z]
 | _=>none
end Dl
namespace Dl
open PySem L2
variable [KK]
section
variable {E:XK}{cl:Nat->Addr}{X:Cx}{a b e:Expr}{es:List Expr}{pos:Pos}
theorem zmU {x:Str} {id:String} {p:Pos} {fx:Ev->Option Nat} (hg:Gl X x) (hm:X.mg x=none) (hv:bootBuiltins x=some (.builtin id)) (ha:XA E cl X (e::es) fx) (hn:x≠"__name__":=by decide) (hdb:(x == ("__debug__":Str))=false:=by decide)
 (he:starEach (e::es) X.env=(false,eval e X.env)::starEach es X.env:=by rfl) (hpl:(backTo pos (starEach es X.env)).any (·.1)=false:=by rfl):XE E cl X (.Call (.Name x p) (e::es) [] pos) fx:=by
 obtain⟨t,pa,ra⟩:=ha
 exact⟨_,zX (r:=λ_ _ _=>False) (λ_ _ _ _ _ _ _ _ _ h=>h.elim) hg hm hv pa hn hdb he hpl,fun σ ρ F0 H j Q s va e w=>ra σ ρ F0 H j _ s va e w⟩
end
end Dl
namespace Dl
open PySem L2
variable [KK]
theorem edv {X:Cx} (i:Nat) {x:Str} {pos:Pos} (hN:X.N[i]?=some x:=by rfl) (hv:Vis X.env.scope x:=by first | exact Or.inl rfl | exact Or.inr (Or.inl rfl) | exact Or.inr (Or.inr rfl)) (hd:(x == ("__debug__":Str))=false:=by decide)
 (hcd:(x == ("__classdict__":Str))=false:=by decide):ED X (.Name x pos) (zg i):=zkT i (pv i hN hv hd hcd)
theorem zm {X:Cx}{x:Str}{j k m:Nat}{f:Addr}{fd:FuncData}{ps:List Str}{st:Stmt}{p:List D->Option D}{e:Expr}{es:List Expr}{pp pos:Pos}{fa:Ev->Option (List D)}(F:yU X.prog X.w X.K X.mg X.base CX0 j f fd ps (spD m p))(hr:ve k X.A)(hg:Gl X x)(d:Def X.K X.mg x st ps f fd)
 (ha:AD X (e::es) fa) (hj:j<=k:=by decide) (hdb:(x == ("__debug__":Str))=false:=by decide) (he:starEach (e::es) X.env=(false,eval e X.env)::starEach es X.env:=by rfl) (hpl:(backTo pos (starEach es X.env)).any (·.1)=false:=by rfl) :
 ED X (.Call (.Name x pp) (e::es) [] pos) (zr m p fa):=zgX (F.mono hj) hr hg d.at_ d.kp d.bd ha hdb he hpl
end Dl
namespace L2
open PySem PySem.Spec PyProof.Rows PySem.W
structure Xb (base:Heap) (mg:Str->Option Value) (c P:Addr) (q:Str):Prop where
 hd:CodeHd base c P
 mt:base.objs[P]?=some (YL q)
 bm:base.BuiltinsAt mg P
def zbF (H:Hp)(ca:Addr)(q:Str):Prop:=∃ oc vs t P,H ca=some (.frz oc (.own P))/\oc.data=.fields vs/\vs[1]?=some (.str q t)
theorem zbF.at {P:Program}{w:World}{H:Hp}{h:Heap}{ca:Addr}{q:Str}(x:zbF H ca q)(ok:HOk P w H h):h.CodeRec (.ref ca) q:=by
 obtain⟨oc,vs,t,P',e,d,g⟩:=x
 exact⟨ca,oc,vs,t,rfl,(ok ca _ e).1,d,g⟩
theorem zbF.mono {H H':Hp}{ca:Addr}{q:Str}(x:zbF H ca q)(k:∀ b o,H b=some o->H' b=some o):zbF H' ca q:=by
 obtain⟨oc,vs,t,P',e,r⟩:=x
 exact⟨oc,vs,t,P',k _ _ e,r⟩
theorem zfy {base:Heap}{P:Addr}{q:Str}(h:base.objs[P]?=some (YL q)):base.get? P=none:=by
 unfold Heap.get?
 rw[h]
 rfl
theorem zdV {pos p2:Pos}{c x:Value}(l:List Value)(h:TriplesOk l)(hc:codeAmong pos (l++[rawInt p2.line,rawInt p2.col,x])=some c):codeAmong pos l=some c\/c=x:=by
 fun_induction TriplesOk l with
 | case1 =>
  simp only[u3b,codeAmong,rawInt]at hc
  split at hc
  .cases hc;exact .inr rfl
  .cases hc
 | case2 a t b u y rest ih =>
  simp only[List.cons_append,codeAmong]at hc ⊢
  split at hc
  .rename_i hh;rw[j4 hh];exact .inl hc
  .rename_i hh;rw[j6 hh];exact ih h hc
 | case3 l h1 h2=>exact h.elim
section
variable {X:Cx}{pins:List (Addr × Obj)}{σ:St}{H:Hp}{s:Shared}{c P:Addr}{q:Str}{params:Arguments}{body:Expr}{scope:Scope}{pos:Pos}{clos:List (Str × Addr)}{A:Around}{E:Value->Shared->Prop}
abbrev zbU (X:Cx) (q:Str) (params:Arguments) (body:Expr) (scope:Scope) (clos:List (Str × Addr)) (ca:Addr) (ctv:Value):Obj:=kla_obj "<lambda>" q params body scope clos ((X.mg "__name__").getD .none) ca ctv
theorem Inv.pushed {h':Heap}{tk:Nat}{o:Obj}(I:Inv X pins σ H { s with heap:=h',toks:=tk })(hd:∀ v,o.data≠.cell v)(hf:o.data≠.freed)(hfd:(h'.push o).get? h'.objs.size=some o) :
 Inv X (pins++YB [h'.objs.size] (h'.push o)) σ H { s with heap:=h'.push o,toks:=tk }:=by
 have I2:=I.un (t':=tk) (H':=H) (h':=h'.push o) (Un.kept λ_ _ q=>u5 _ q) (I.hok.kept λ_ _ q=>u5 _ q)
 exact I2.pinned (fp:=[h'.objs.size]) (λb hb=>by rw[d4.mp hb];exact I.fpOk (q5 _) (I.hok.fresh (q5 _))) (λb hb=>by rw[d4.mp hb];exact⟨o,hfd,hd⟩)
theorem zdd {Q:Value->Shared->Prop} (L:Xb X.base X.mg c P q) (hcd:X.env.code=.ref c) (hcl:closureFor scope X.env=pure clos) (hdef:defaultsOf params X.env=([],[])) (hq:X.env.qual++"<lambda>"=q) (I:Inv X pins σ H s)
 (h:∀ (f ca:Addr) (ctv:Value) (H':Hp) (s':Shared),(∀ b o,H b=some o->H' b=some o)->Inv X (pins++YB [f] s'.heap) σ H' s'->s'.heap.get? f=some (zbU X q params body scope clos ca ctv)->zbF H' ca q->Q (.ref f) s') :
 wpAny (model X.prog X.w) A (eval (.Lambda params body scope pos) X.env) Q E s:=by
 refine kla_eval hdef ?_
 rw[hq]
 have tb:H P=some (.tbl #[.str q 0]):=I.bs.2 P q L.mt
 obtain⟨qs,eP,tr,all⟩:=(show xk X.prog X.w H s.heap P (.tbl #[.str q 0])from I.hok P _ tb)
 have C:=L.hd.keeps I.bk
 have hg:s.heap.Ns mainGlobals X.mg:=I.ok.mod.glob.keeps I.bk
 have hgP:mainGlobals≠P:=λz=>by
  obtain⟨o,es,ep,e,hd,_⟩:=I.ok.mod.glob
  rw[z,zfy L.mt]at e
  cases e
 have hb:=L.bm.keeps I.bk
 cases hcode:codeAmong pos qs.toList with
 | some cv =>
  obtain⟨ca,oc,vs,q',t,t2,rfl,ow,od,ov,ep⟩:=all pos cv hcode
  obtain rfl:q'=q:=by
   have:some (Value.str q 0)=some (.str q' t2):=ep
   cases this
   rfl
  refine kla_makeFunctionHit (mg:=X.mg) hcl I.ok.glob hg hcd C eP tr hcode hb λctv h' tk hk hsz=>?_
  have I1:=I.un (t':=tk) (H':=H) (h':=h') (Un.kept hk) (I.hok.kept hk)
  refine h _ ca ctv H _ (λ_ _ e=>e) (I1.pushed (o:=zbU X q' params body scope clos ca ctv) (λv z=>by cases z) (λz=>by cases z) (r6 _ rfl)) (r6 _ rfl) ⟨oc,vs,t,P,ow,od,ov⟩
 | none =>
  refine kla_makeFunction (mg:=X.mg) hcl I.ok.glob hg hcd C eP tr hcode hgP hb λc' ctv h' tk hx hge hlt hrec htb=>?_
  have hc0:H c'=none:=I.hok.fresh hge
  have cP:c'≠P:=λz=>by rw[z,tb]at hc0;cases hc0
  obtain⟨c2,oc,vs,t,e2,hoc,hdc,hv⟩:=id hrec
  cases e2
  have ext:∀ b o,H b=some o->upd H c' (.frz oc (.own P)) b=some o:=λb o e=>by rw[zn (zj e hc0)];exact e
  have hP':∀ b,H b=none->b≠P:=λb e z=>by rw[z,tb]at e;cases e
  have hok:HOk X.prog X.w (upd H c' (.frz oc (.own P))) h':=λa o e=>by
   by_cases ha:a=c'
   .subst ha
    rw[zq]at e
    cases e
    exact⟨hoc,oc,hoc⟩
   .rw[zn ha]at e
    by_cases hp:a=P
    .subst hp
     rw[tb]at e
     cases e
     refine⟨_,htb,?_,λp2 cc hcc=>?_⟩
     .rw[e9];exact TriplesOk_snoc _ _ _ _ tr
     .rw[e9]at hcc
      rcases zdV _ tr hcc with hcc | rfl
      .obtain⟨ca,o3,v3,q',t3,t4,ec,ow,r⟩:=all p2 cc hcc
       exact⟨ca,o3,v3,q',t3,t4,ec,ext _ _ ow,r⟩
      .exact⟨c',oc,vs,q,t,0,rfl,zq,hdc,hv,rfl⟩
    .refine(I.hok a o e).stay (λb u hb g=>hx b u ?_ g) (λb g=>ext _ _ g) (λb xs g=>ext _ _ g) λb o u g=>ext _ _ g
     rcases hb with rfl | hb
     .exact hp
     .intro z
      rw[z,tb]at hb
      cases hb
  have I1:Inv X pins σ (upd H c' (.frz oc (.own P))) { s with heap:=h',toks:=tk }:=I.un (t':=tk)
   ⟨λb o e n _ _=>hx b o (hP' b n) e,λb o e n _ _=>⟨o.slots,hx b o (hP' b n) e⟩,λb o e n _=>by rw[zn (p4 (d7 (j7 e) hge))];exact n,λb o e _=>(by
    by_cases z:b=P
    .exact⟨_,z ▸ htb⟩
    .exact⟨o,hx b o z e⟩),λb xs e=>ext _ _ e,λb o u e=>ext _ _ e,λb ps e=>ext _ _ e⟩ hok
  refine h _ c' ctv _ _ ext (I1.pushed (o:=zbU X q params body scope clos c' ctv) (λv z=>by cases z) (λz=>by cases z) (r6 _ rfl)) (r6 _ rfl) ⟨oc,vs,t,P,zq,hdc,hv⟩
end
structure vw (X:Cx) (x:Str) (M:List Str) (scope:Scope) (cl:List (Str × Addr)):Prop where
 clos:closureFor scope X.env=pure cl
 cell:∀ y∈scope.names,y.2≠.cell
 kind:scope.kind=.function
 par:scope.names.lookup x=some .local
 co:scope.isCoroutine=false
 gen:scope.isGenerator=false
 sub:∀ y c,cl.lookup y=some c->X.env.cells.lookup y=some c
 has:∀ y,(scope.names.lookup y=some .cell\/scope.names.lookup y=some .free)->∃ c,cl.lookup y=some c
 mlen:M.length=X.N.length
 msk:∀ (i:Nat) y,M[i]?=some y->Vis scope y->X.N[i]?=some y
 vis:∀ (i:Nat) y,M[i]?=some y->Vis scope y->(scope.names.lookup y=some .cell\/scope.names.lookup y=some .free)
 out:∀ (i:Nat) y,M[i]?=some y->Vis scope y->Vis X.env.scope y/\X.env.kindOf y≠some .local
def zbo (X:Cx)(x:Str)(M:List Str)(q:Str)(scope:Scope)(cl:List (Str × Addr))(f ca:Addr)(A:Around)(s:Shared)(H:Hp):Cx :=
 { X with A:=A.deeper (envX q scope s.heap.objs.size f (.ref ca) cl),N:=x::M,s₀:=s,H₀:=H,env:=envX q scope s.heap.objs.size f (.ref ca) cl,outer:=X.stack,stack:=envX q scope s.heap.objs.size f (.ref ca) cl::X.stack,ex:=[],calm:=true,fn:=λ_=>false,pn:=[],xe:=λ_ _=>False }
section
variable {X:Cx}{pins:List (Addr × Obj)}{σ:St}{H:Hp}{s:Shared}{q x:Str}{params:Arguments}{body:Expr}{scope:Scope}{cl:List (Str × Addr)}{M:List Str}{A:Around}{f ca:Addr}{ctv:Value}{v:V}{u:Value}{te:TE}{Q:VK}{k:Nat}
theorem zhp (S:vw X x M scope cl)(hr:ve k A)(hfr:A.frames=some X.stack)(I:Inv X pins σ H s)(ho:s.heap.get? f=some (zbU X q params body scope cl ca ctv))(rc:zbF H ca q)
 (hbind:bindArgs (kla_fn "<lambda>" q params body scope cl ((X.mg "__name__").getD .none) (.ref ca) ctv) ⟨[u],[]⟩=pure [(x,u)]) (he:PE (zbo X x M q scope cl f ca A s H) body te) (rv:xj v u) (ht:te (some v::σ) H Q) :
 codeAny (model X.prog X.w) A (.call (.ref f) ⟨[u],[]⟩) (λr s'=>∃ y,r=.ok (.ret y)/\EP X pins σ Q y s') s:=by
 refine kla_callFunE hr.depth ho rfl S.co S.gen rfl (rc.at I.hok) ?_
 rw[hbind]
 refine t7 (wpAny_newFunctionEnv S.cell (λy hy=>by rw[d4.mp hy];exact S.par) (λh₁ hns hsb=>?_) S.kind)
 have k34:∀ b o,s.heap.get? b=some o->h₁.get? b=some o:=λb o e=>hsb.extBut b o (p4 (j7 e)) (u5 _ e)
 refine⟨I.nolimit.keeps k34,?_⟩
 show codeAny _ _ (.expr body (envX q scope s.heap.objs.size f (.ref ca) cl)) _ _
 let Y:Cx:=zbo X x M q scope cl f ca A s H
 have noA:∀ b:Addr,b∉Y.ex:=λb z=>absurd (show b∈([]:List Addr)from z) (by simp)
 have OkY:Y.Ok:=⟨I.ok.mod,S.kind,rfl,rfl,q5 _,λy z c h1 h2=>I.ok.inj y z c (S.sub y c h1) (S.sub z c h2),λy hy=>S.has y hy,(λy c h _=>absurd h u6),λ_=>hr.hd,Around.frames_deeper hfr,.inr ⟨rfl,rfl⟩,λb z=>absurd z (noA b),I.bs,u0H I.ok.bsz I.sz,λb _ _=>noA b,λb z=>absurd z (noA b),I.stack,I.stkFree⟩
 have IY:Inv Y [] (some v::σ) H { s with heap:=h₁,toks:=s.toks+[(x,u)].length }:=by
  refine⟨OkY,rfl,I.bare,Un.kept k34,⟨_,hns,λi y w e1 e2 e3=>?_⟩,λy c e=>?_,I.hok.fresh (q5 _),λy c e=>I.freeC y c (S.sub y c e),λp hp=>absurd (show p∈([]:List (Addr × Obj))from hp) (by simp),I.hok.kept k34,?_⟩
  .cases i with
   | zero =>
    have e1:some x=some y:=e1
    have e2:some (some v)=some (some w):=e2
    cases e1
    cases e2
    refine⟨u,rv,.inl ⟨S.par,?_⟩⟩
    show List.lookup x ([(x,u)].reverse)=some u
    simp
   | succ i =>
    have e0':M[i]?=some y:=e1
    have e2':σ[i]?=some (some w):=e2
    have e1':=S.msk _ y e0' e3
    obtain⟨ov,ok⟩:=S.out _ y e0' e3
    obtain⟨m,hn,hl⟩:=I.loc
    obtain⟨u2,ru,lk⟩:=hl _ y w e1' e2' ov
    refine⟨u2,ru,?_⟩
    rcases lk with ⟨hk,_⟩ | ⟨_,c,hc',hcell⟩
    .exact absurd hk ok
    .have kn:=S.vis _ y e0' e3
     obtain⟨c',hc2⟩:=S.has y kn
     have:=S.sub y c' hc2
     rw[hc']at this
     cases this
     refine .inr ⟨kn,c,hc2,?_⟩
     obtain⟨o,ho,hd⟩:=hcell
     exact⟨o,k34 _ _ ho,hd⟩
  .obtain⟨w,o,ho,hd⟩:=I.cell y c (S.sub y c e)
   exact⟨w,o,k34 _ _ ho,hd⟩
  .show σ.length+1=M.length+1
   rw[I.len,S.mlen]
 refine kla_codeExpr (u0B (he [] _ _ H Q IY ht) (λy s' h=>?_) λe s' z=>z.elim)
 obtain⟨w,H',J,rw',q'⟩:=h
 exact⟨y,rfl,I.after ⟨w,H',J.os,J.bare,J.base,J.hok,rw',q'⟩⟩
end
section
variable {X:Cx}{pins:List (Addr × Obj)}{σ:St}{H:Hp}{s:Shared}
theorem Inv.own2 {b:Addr}{h':Heap}{tk:Nat}(I:Inv X pins σ H s)(f:zaU X pins H b)(k:∀ c o,c≠b->s.heap.get? c=some o->h'.get? c=some o)(hb:∃ o,h'.get? b=some o):Inv X pins σ H { s with heap:=h',toks:=tk }:=by
 obtain⟨f0,f1,f2,f3,f4,f5⟩:=f
 have k':∀ c o,c∉[b]->s.heap.get? c=some o->h'.get? c=some o:=λc o hc e=>k c o (λz=>hc (d4.mpr z)) e
 refine I.call' (s':={ s with heap:=h',toks:=tk }) (ch:=[b]) rfl ⟨λc o e _ _ hx=>k' c o hx e,λc o e _ _ hx=>⟨o.slots,k' c o hx e⟩,λ_ _ _ n _=>n,λc o e hx=>⟨o,k' c o hx e⟩,λ_ _ q=>q,λ_ _ _ q=>q,λ_ _ q=>q⟩ ?_ I.bare λc hc=>?_
 .intro c oc e
  refine(I.hok c oc e).stay (λc' v hc q=>k c' v (λz=>?_) q) (λ_ q=>q) λ_ _ q=>q
  subst z
  rcases hc with z | z
  .rw[<-z,f0]at e;cases e
  .rw[f0]at z;cases z
 .rw[d4.mp hc]
  exact⟨f3,f1,f4,f5⟩
def zg1 (md:Bool)(H:Hp)(b:Addr)(t:List Int):Prop:=match md with
 | false=>H b=some (.tup (t.map V.int))
 | true=>∃ i c us,t=i::us/\H b=some (.tup [.int i,.ref c])/\H c=some (.tup (us.map V.int))
theorem zg1.mono {md:Bool}{H H':Hp}{b:Addr}{t:List Int}(x:zg1 md H b t)(k:∀ b o,H b=some o->H' b=some o):zg1 md H' b t:=by
 cases md with
 | false=>exact k _ _ x
 | true =>
  obtain⟨i,c,us,e,h1,h2⟩:=x
  exact⟨i,c,us,e,k _ _ h1,k _ _ h2⟩
structure zjc (md:Bool) (X:Cx) (pins:List (Addr × Obj)) (σ:St) (H0:Hp) (a kS:Addr) (e1:Nat) (ts:List (List Int)) (keys:Array Value) (H:Hp) (s:Shared):Prop where
 inv:Inv X pins σ H s
 up:∀ b o,H0 b=some o->H b=some o
 ha:s.heap.get? a=some (seqObj "list" #[] e1)
 hk:∃ e,s.heap.get? kS=some (seqObj "list" keys e)
 fa:zaU X pins H a
 fk:zaU X pins H kS
 ks:keys.size<=ts.length/\∀ (j:Nat) (v:Value),keys[j]?=some v->∃ b t,v=.ref b/\ts[j]?=some t/\zg1 md H b t
theorem zii {md:Bool}{H0:Hp}{a kS f:Addr}{e1:Nat}{vs:List Value}{ts:List (List Int)}{P:PySem.Fin->Shared->Prop}{E:Value->Shared->Prop}{A:Around}(hak:a≠kS)(hlen:ts.length=vs.length)(hz:vs.length < sizeLine)
 (turn:∀ (i:Nat) (v:Value) (t:List Int),vs[i]?=some v->ts[i]?=some t->∀ (pins1:List (Addr × Obj)) (H1:Hp) (s1:Shared),(∀ b o,H0 b=some o->H1 b=some o)->Inv X (pins++pins1) σ H1 s1 ->
  wpAny (model X.prog X.w) A (call (.ref f) [v]) (λy s2=>∃ b H2,y=.ref b/\(∀ b o,H1 b=some o->H2 b=some o)/\zg1 md H2 b t/\Inv X (pins++pins1) σ H2 s2) (λ_ _=>False) s1)
 (S:zjc md X pins σ H0 a kS e1 ts #[] H s)
 (fin:∀ keys H' s',zjc md X pins σ H0 a kS e1 ts keys H' s'->keys.size=vs.length->wpAny (model X.prog X.w) A (ksk_end a false vs.toArray e1 (.ref kS) keys) P E s') :
 wpAny (model X.prog X.w) A (ksk_rest a (.ref f) false vs.toArray e1 (.ref kS)) P E s:=by
 unfold ksk_rest
 refine u0 (u1t ?_)
 first
  | rw[List.forIn_toArray]
  | (rw[<-Array.forIn_toList];simp only[List.toList_toArray])
  | rw[<-Array.forIn_toList]
 refine u0 (ksk_fold (λi s'=>∃ keys H',zjc md X pins σ H0 a kS e1 ts keys H' s'/\keys.size=i) vs 0 s ⟨#[],H,S,rfl⟩ ?step ?done)
 case step =>
  rintro j x s' hx ⟨keys,H1,S1,hj⟩
  rw[u02]at hj ⊢
  have hjv:j < vs.length:=(u8.mp hx).1
  obtain⟨tj,hjt⟩:∃ t,ts[j]?=some t:=⟨_,u7 (by omega)⟩
  obtain⟨e,hk⟩:=S1.hk
  have nc:∀ {o:Obj} {its:Array Value} {n:Nat},o=seqObj "list" its n->∀ v,o.data≠.cell v:=λh v z=>by rw[h]at z;cases z
  have I1:=S1.inv.pinned (fp:=[a,kS]) (λb hb=>by
   rcases d5.mp hb with rfl | hb
   .exact S1.fa
   .rw[d4.mp hb];exact S1.fk) (λb hb=>by
   rcases d5.mp hb with rfl | hb
   .exact⟨_,S1.ha,nc rfl⟩
   .rw[d4.mp hb];exact⟨_,hk,nc rfl⟩)
  refine u0 (u1O (u0B (turn j x tj hx hjt _ H1 s' S1.up I1) (λy s2 he=>?_) λ_ _ hF=>hF.elim))
  obtain⟨b,H2,rfl,up2,hb2,I2⟩:=he
  have pa:=I2.pin (a,seqObj "list" #[] e1) (d9 _ (d9 _ (yS (.head _) S1.ha)))
  have pk:=I2.pin (kS,seqObj "list" keys e) (d9 _ (d9 _ (yS (.tail _ (.head _)) hk)))
  have I3:=I2.unpinned
  try dsimp only
  obtain⟨c2,hc2⟩:∃ c2,(s2.heap.update kS (Obj.mapSeq (·.push (.ref b)))).get? kS=some (seqObj "list" (keys.push (.ref b)) c2):=⟨_,u2u pk.1 (·.push (.ref b))⟩
  have s1:=u1a s2.heap kS (Obj.mapSeq (·.push (.ref b)))
  refine u0 (u13 pk.1 rfl ?_ (by rw[hj];omega) (u0H (u3l (u3J ..)) (by rw[hj];omega)))
  refine t7 ⟨rfl,keys.push (.ref b),H2,⟨?_,λc o z=>up2 _ _ (S1.up _ _ z),(s1.2 a hak).trans pa.1,⟨c2,hc2⟩,⟨pa.2.1,S1.fa.2⟩,⟨pk.2.1,S1.fk.2⟩,?_,λi v hv=>?_⟩,by rw[u3J,hj]⟩
  .exact I3.own2 (b:=kS) (tk:=s2.toks) ⟨pk.2.1,S1.fk.2⟩ (λc o hc z=>(s1.2 c hc).trans z) ⟨_,hc2⟩
  .rw[u3J,hj];omega
  .rw[Array.getElem?_push]at hv
   split at hv
   .rename_i hi
    cases hv
    refine⟨b,tj,rfl,?_,hb2⟩
    rw[hi,hj]
    exact hjt
   .obtain⟨b2,t2,e1',e2',e3'⟩:=S1.ks.2 i v hv
    exact⟨b2,t2,e1',e2',e3'.mono up2⟩
 case done =>
  rintro s' ⟨keys,H1,S1,hj⟩
  obtain⟨e,hk⟩:=S1.hk
  refine u0 (u1L hk rfl (fin keys H1 s' S1 (by rw[hj,u02])))
end
end L2
namespace OwnSortT
open PySem PyProof.Rows OwnSort
def NT (h:Heap) (v:Value) (t:List Int):Prop:=∃ a o n i tk c us,v=.ref a/\h.get? a=some o/\o.cls=.type "tuple"/\o.data=.seq [Value.int i tk,.ref c].toArray n/\t=i::us/\∃ o2 n2 its,h.get? c=some o2/\o2.cls=.type "tuple"/\o2.data=.seq its.toArray n2/\IntsAre its us
theorem NT.uniq {h:Heap}{v:Value}{s t:List Int}(x:NT h v s)(y:NT h v t):s=t:=by
 obtain⟨a,o,n,i,tk,c,us,rfl,e1,_,d1,rfl,o2,n2,its,f1,_,g1,i1⟩:=x
 obtain⟨b,p,m,j,tj,d,ws,e,e2,_,d2,rfl,p2,m2,its',f2,_,g2,i2⟩:=y
 cases e
 rw[e1]at e2
 cases e2
 rw[d1]at d2
 have e3:[Value.int i tk,.ref c].toArray=[Value.int j tj,.ref d].toArray:=by injection d2
 have e3:=u2X e3
 cases e3
 rw[f1]at f2
 cases f2
 rw[g1]at g2
 have e4:its.toArray=its'.toArray:=by injection g2
 cases u2X e4
 rw[WO i1 i2]
def TN (md:Bool)(h:Heap)(v:Value)(t:List Int):Prop:=match md with
 | false=>TT h v t
 | true=>NT h v t
theorem TN.uniq {md:Bool}{h:Heap}{v:Value}{s t:List Int}(x:TN md h v s)(y:TN md h v t):s=t:=by
 cases md with
 | false=>exact TT.uniq x y
 | true=>exact NT.uniq x y
open Classical in
noncomputable def zb4 (md:Bool)(h:Heap)(v:Value):Option (List Int):=if x:∃ t,TN md h v t then some x.choose else none
theorem keyTN_of {md:Bool}{h:Heap}{v:Value}{t:List Int}(x:TN md h v t):zb4 md h v=some t:=by
 unfold zb4
 have y:∃ t,TN md h v t:=⟨t,x⟩
 rw[dif_pos y,y.choose_spec.uniq x]
@[reducible] noncomputable def zdy (md:Bool) (h:Heap):KeyKind where
 α:=List Int
 blt:=HT.lexLt
 irrefl:=lex_irr
 trans:=lex_trans
 negTrans:=lex_neg
 total:=lex_total
 keyOf:=zb4 md h
 dflt:=[]
section
variable {prog:Program}{w:World}{A:Around}{E:Value->Shared->Prop}{s:Shared}
theorem zfl:∀ {vs:List Value} {ns:List Int},IntsAre vs ns->∀ {j:Nat} (h:j < vs.length),∃ t,vs[j]=.int (ns.getD j 0) t:=by
 intro vs ns h
 induction h with
 | nil=>intro j h;simp at h
 | cons n t h ih =>
  intro j hj
  cases j with
  | zero=>exact⟨t,rfl⟩
  | succ j=>exact ih (by simpa using hj)
theorem zjx:∀ (ns ms:List Int),((List.range (min ns.length ms.length)).all (λj=>ns.getD j 0 == ms.getD j 0)&&ns.length == ms.length)=decide (ns=ms):=by
 intro ns ms
 rw[u1U,h9,u0k,g9,b9]
 constructor
 .rintro⟨h1,h2⟩
  refine List.ext_getElem h2 λi g1 g2=>?_
  have:=h1 i (u0e.mpr (by omega))
  rw[g9,p8,p8,u7 g1,u7 g2]at this
  exact this
 .rintro rfl
  exact⟨λj _=>u1y _,rfl⟩
theorem zjY {c d:Addr} {o o2:Obj} {n n2:Nat} {xs ys:List Value} {ns ms:List Int} (hu:A.units < cLine) (e1:s.heap.get? c=some o) (c1:o.cls=.type "tuple") (d1:o.data=.seq xs.toArray n) (i1:IntsAre xs ns) (e2:s.heap.get? d=some o2) (c2:o2.cls=.type "tuple") (d2:o2.data=.seq ys.toArray n2) (i2:IntsAre ys ms) :
 SeqAt.EqAt A s (.ref c) (.ref d) (decide (ns=ms)):=by
 by_cases h:c=d
 .subst h
  rw[e1]at e2
  cases e2
  rw[d1]at d2
  have e3:xs.toArray=ys.toArray:=by injection d2
  cases u2X e3
  rw[WO i1 i2,o0 rfl]
  exact .same _
 .have l1:=i1.length
  have l2:=i2.length
  have:=SeqAt.RcAt.tuples (A:=A) (s:=s) (l:=c) (b:=d) (items:=xs.toArray) (items2:=ys.toArray) (e:=λj=>ns.getD j 0 == ms.getD j 0) ⟨o,e1,c1,n,d1⟩ ⟨o2,e2,c2,n2,d2⟩ hu λj g1 g2=>by
   obtain⟨t,ht⟩:=zfl i1 (j:=j) (by simpa using g1)
   obtain⟨u,hu⟩:=zfl i2 (j:=j) (by simpa using g2)
   simp only[u2Z,ht,hu]
   exact .int_int _ _ _ _
  rw[j3,j3,l1,l2,zjx]at this
  exact u2t h this
theorem zjE {c d:Addr} {o o2:Obj} {n n2:Nat} {xs ys:List Value} {ns ms:List Int} {Q:Bool->Shared->Prop} (hu:A.units < cLine) (e1:s.heap.get? c=some o) (c1:o.cls=.type "tuple") (d1:o.data=.seq xs.toArray n) (i1:IntsAre xs ns) (e2:s.heap.get? d=some o2) (c2:o2.cls=.type "tuple") (d2:o2.data=.seq ys.toArray n2) (i2:IntsAre ys ms) (h:Q (HT.lexLt ns ms) s) :
 wpAny (model prog w) A (oneLt' false (.ref c) (.ref d)) Q E s:=by
 rw[oneLt'_eq]
 rw[j6 u6]
 exact u0 (HT.lt_tupInts (items:=xs.toArray) (items2:=ys.toArray) ⟨o,e1,c1,n,d1⟩ ⟨o2,e2,c2,n2,d2⟩ i1 i2 hu (u04 h))
theorem zj9 {md:Bool}{x y:Value}{a b:List Int}{Q:Bool->Shared->Prop}(hu:A.units < cLine)(hx:TN md s.heap x a)(hy:TN md s.heap y b)(h:Q (HT.lexLt a b) s):wpAny (model prog w) A (keyLt' (tuples' true) x y) Q E s:=by
 cases md with
 | false=>exact zfc hx hy h
 | true =>
  obtain⟨p,o,n,i,tk,c,us,rfl,e1,_,d1,rfl,o3,n3,xs,f1,c1,g1,i1⟩:=hx
  obtain⟨q,o2,n2,j,tj,d,ws,rfl,e2,_,d2,rfl,o4,n4,ys,f2,c2,g2,i2⟩:=hy
  rw[zb1]
  refine u0 (u1L e1 d1 (u0 (u1L e2 d2 ?_)))
  simp only[u1C,u3k,u2c,u3O,u2o,u2K]
  refine u0 (u0 (u0 (u2s i tk j tj prog w E _ ?_)))
  rw[HT.lexLt_cons]at h
  by_cases k1:i=j
  .rw[j4 k1]at h
   rw[show(i == j)=true by rw[k1];exact u1y _]
   refine t7 (u0 (u0 (zjY hu f1 c1 g1 i1 f2 c2 g2 i2 prog w E _ ?_)))
   by_cases k2:us=ws
   .rw[o0 k2]
    refine t7 (t7 (t7 ?_))
    rw[k2,lex_irr]at h
    exact h
   .rw[i7 k2]
    exact u0 (zjE hu f1 c1 g1 i1 f2 c2 g2 i2 (t7 (t7 (t7 h))))
  .rw[j6 k1]at h
   rw[show(i == j)=false by simpa using k1]
   exact u0 (oneLt_int (t7 (t7 (t7 h))))
theorem zis {md:Bool} {h:Heap} {v:Value} {t:List Int} (x:TN md h v t):∃ a o n i0 tk zs,v=.ref a/\h.get? a=some o/\o.cls=.type "tuple"/\o.data=.seq (Value.int i0 tk::zs).toArray n:=by
 cases md with
 | false =>
  obtain⟨a,o,n,its,rfl,e1,c1,d1,hi,hne⟩:=(show TT h v t from x)
  cases hi with
  | nil=>exact absurd rfl hne
  | cons i0 tk hi=>exact⟨a,o,n,i0,tk,_,rfl,e1,c1,d1⟩
 | true =>
  obtain⟨a,o,n,i,tk,c,us,rfl,e1,c1,d1,_⟩:=(show NT h v t from x)
  exact⟨a,o,n,i,tk,_,rfl,e1,c1,d1⟩
theorem V1 {md:Bool}:∀ {vs:List Value} {Q:List (Option Value)->Shared->Prop},(∀ v∈vs,∃ t,TN md s.heap v t)->(∀ fs:List Value,fs.length=vs.length->(∀ f∈fs,∃ i t,f=.int i t)->Q (fs.map some) s)->wpAny (model prog w) A (vs.mapM firstOfTuple') Q E s
 | [],Q,_,h=>by rw[List.mapM_nil];exact t7 (h [] rfl (by simp))
 | v::vs,Q,hT,h=>by
  obtain⟨t,ht⟩:=hT v u0E
  obtain⟨a,o,n,i0,tk,zs,rfl,e1,c1,d1⟩:=zis ht
  rw[u3S,zbg]
  refine u0 (u0 (u3o (T:="tuple") ⟨o,e1,c1⟩ ?_))
  rw[j6 (by simp)]
  refine u0 (u1L e1 d1 (t7 (u0 (V1 (λu hu=>hT u (u0d _ hu)) λfs hl hf=>t7 ?_))))
  exact h (.int i0 tk::fs) (by simp[hl]) λf hf'=>by
   rcases d5.mp hf' with rfl | hf'
   .exact⟨_,_,rfl⟩
   .exact hf f hf'
theorem zj3 {md:Bool}{v₁:Value}{vs:List Value}{Q:SortKind->Shared->Prop}(hT:∀ v∈v₁::vs,∃ t,TN md s.heap v t)(h:Q (tuples' true) s):wpAny (model prog w) A (keyKind' (v₁::vs).toArray) Q E s:=by
 rw[keyKind'_eq,u2C,<- bind_pure_comp,bind_assoc]
 refine u0 (V1 hT λfs hl hf=>u0 (t7 ?_))
 cases fs with
 | nil=>simp at hl
 | cons f fs =>
  rw[j4 (by simp)]
  have ef:((f::fs).map some).toArray.filterMap id=(f::fs).toArray:=by simp
  refine u0 (u1t ?_)
  rw[ef,oneTypeOnly'_eq,u2C,zac hf]
  simp only[map_pure,pure_bind]
  rw[show(List.map (λ_=>Value.type "int") (f::fs)).toArray[0]?=some (Value.type "int") by simp]
  have al:((List.map (λ_=>Value.type "int") (f::fs)).toArray.all λx=>x == Value.type "int")=true:=by
   simp only[List.all_toArray,u2i,u0k]
   intro _ _
   rfl
  simp only[al,u2F,pure_bind,Option.any_some]
  rw[show(Value.type "int" != Value.type "tuple")=true by decide +kernel]
  exact t7 h
end
end OwnSortT
namespace OwnKey
open PySem PyProof.Rows OwnSort OwnSortT
section
variable {prog:Program}{w:World}{A:Around}{E:Value->Shared->Prop}{s:Shared}
theorem zh6 {keys:Array Value}{vs:List Value}{x:Keyed}(h:x∈(keys.zip vs.toArray).toList):x.1∈keys.toList:=by
 rw[ksk_zip]at h
 obtain⟨x1,x2⟩:=x
 exact(u2p h).1
theorem zfr {md:Bool}{keys:Array Value}{vs:List Value}(hu:A.units < cLine)(hT:∀ v∈keys.toList,∃ t,TN md s.heap v t):OwnTim.LtE prog w A E s (zdy md s.heap) (tuples' true) (·∈(keys.zip vs.toArray).toList):=by
 intro st x y Q hk hx hy h
 have look:∀ {x:Keyed},x∈(keys.zip vs.toArray).toList->∃ t,TN md s.heap x.1 t/\OwnTim.ky (zdy md s.heap) x=t:=λ{x} hm=>by
  obtain⟨t,ht⟩:=hT _ (zh6 hm)
  refine⟨t,ht,?_⟩
  unfold OwnTim.ky
  show(zb4 md s.heap x.1).getD _=t
  rw[keyTN_of ht]
  rfl
 obtain⟨a,ta,ka⟩:=look hx
 obtain⟨b,tb,kb⟩:=look hy
 rw[ka,kb]at h
 rw[lt'_eq]
 refine r8 (u3q ?_)
 rw[hk]
 exact r8 (u3B (u1O (zj9 hu ta tb ⟨rfl,d6 h⟩)))
def zgH (md:Bool)(h:Heap)(xs:Array Keyed):Prop:=xs.toList.Pairwise λp q=>HT.lexLt ((zb4 md h q.1).getD ([]:List Int)) ((zb4 md h p.1).getD ([]:List Int))=false
theorem ziv {md:Bool}{h:Heap}{xs:Array Keyed}{n:Nat}(hn:xs.size=n)(hs:SortedToK (zdy md h) xs n):zgH md h xs:=by
 unfold zgH
 rw[u0A]
 intro i j hi hj hij
 have hi':i < xs.size:=by simpa using hi
 have hj':j < xs.size:=by simpa using hj
 have:=hs i j (u2j hij) (by rw[<-hn];exact hj')
 unfold KK at this
 rw[u3n xs i hi',u3n xs j hj']at this
 have this:HT.lexLt ((zb4 md h xs[j].1).getD ([]:List Int)) ((zb4 md h xs[i].1).getD ([]:List Int))=false:=this
 simpa using this
theorem zeP {a kS:Addr} {e e1:Nat} {keys:Array Value} {vs:List Value} {st:SortSt} {P:PySem.Fin->Shared->Prop} (hlen:keys.size=vs.length) (h64:vs.length < 10000000) (hk:s.heap.get? kS=some (seqObj "list" keys e)) (ha:s.heap.get? a=some (seqObj "list" #[] e1)) (hak:a≠kS)
 (pm:(arrOf st).Perm (keys.zip vs.toArray)) (fl:failedOf st=none)
 (h:P (.done (.ret .none)) { s with heap:=(s.heap.update kS (Obj.mapSeq λ_=>#[])).update a (Obj.mapSeq λ_=>(arrOf st).map (·.2)) }):wpAny (model prog w) A (ksk_tail a false e1 (.ref kS) st) P E s:=by
 have s1:=u1a s.heap kS (Obj.mapSeq λ_=>(#[]:Array Value))
 have na1:(s.heap.update kS (Obj.mapSeq λ_=>(#[]:Array Value))).get? a=some (seqObj "list" #[] e1):=(s1.2 a hak).trans ha
 have hsz2:(arrOf st).size=vs.length:=by rw[pm.size_eq,Array.size_zip,hlen,j3,u2P]
 unfold ksk_tail
 try dsimp only
 refine u0 (u13 hk rfl ?_ (by rw[hlen,u10];omega) (u0D _))
 refine u0 (u2H ?_)
 refine u0 (seqEpoch_at na1 rfl ?_)
 refine u0 (u13 na1 rfl ?_ (u0D _) (by rw[j6 u6,u3R,hsz2,u10];omega))
 rw[fl]
 simp only[bne_self_eq_false,u3i,u3X]
 exact t7 h
theorem zly {md:Bool} {a kS:Addr} {e e1:Nat} {keys:Array Value} {vs:List Value} {P:PySem.Fin->Shared->Prop} (hlen:keys.size=vs.length) (h64:vs.length < 10000000) (hu:A.units < cLine) (hT:∀ v∈keys.toList,∃ t,TN md s.heap v t) (hk:s.heap.get? kS=some (seqObj "list" keys e)) (ha:s.heap.get? a=some (seqObj "list" #[] e1)) (hak:a≠kS)
 (h:∀ xs:Array Keyed,xs.Perm (keys.zip vs.toArray)->zgH md s.heap xs->P (.done (.ret .none)) { s with heap:=(s.heap.update kS (Obj.mapSeq λ_=>#[])).update a (Obj.mapSeq λ_=>xs.map (·.2)) }) :
 wpAny (model prog w) A (ksk_end a false vs.toArray e1 (.ref kS) keys) P E s:=by
 have hzs:(keys.zip vs.toArray).size=vs.length:=by rw[Array.size_zip,hlen,j3,u2P]
 unfold ksk_end
 try dsimp only
 rw[j6 u6]
 by_cases h2:vs.toArray.size < 2
 .rw[j4 h2,j4 h2]
  refine u0 (t7 ?_)
  rw[StateT.run_pure]
  refine u0 (t7 ?_)
  try dsimp only
  refine zeP (st:=SortSt.mk' general' (keys.zip vs.toArray) #[] 7 none) hlen h64 hk ha hak (u2m _) rfl (h _ (u2m _) ?_)
  unfold zgH
  rw[u0A]
  intro i j hi hj hij
  have hj':j < (keys.zip vs.toArray).size:=by rw[j8]at hj;exact hj
  rw[j3]at h2
  rw[hzs]at hj'
  omega
 .rw[j6 h2,j6 h2]
  rw[j3]at h2
  obtain⟨k1,ks,ek⟩:∃ k1 ks,keys.toList=k1::ks:=by
   cases q:keys.toList with
   | nil =>
    have:=u05 List.length q
    rw[j8,u1W]at this
    omega
   | cons k1 ks=>exact⟨k1,ks,rfl⟩
  have ek2:keys=(k1::ks).toArray:=by rw[<-ek,Array.toArray_toList]
  have hT2:=hT
  rw[ek]at hT2
  have kk:wpAny (model prog w) A (keyKind' keys) (λk s'=>k=tuples' true/\s'=s) E s:=by
   rw[ek2]
   exact zj3 hT2 ⟨rfl,rfl⟩
  refine u0 (u0B kk (λk s' hks=>?_) λ_ _ z=>z)
  obtain⟨rfl,rfl⟩:=hks
  refine u0 (u0B (OwnTim.own_runsE (a₀:=keys.zip vs.toArray) (st:=SortSt.mk' (tuples' true) (keys.zip vs.toArray) #[] 7 none) (Q:=λ_ t=>(arrOf t).Perm (keys.zip vs.toArray)/\failedOf t=none/\SortedToK (zdy md _) (arrOf t) (keys.zip vs.toArray).size)
   (zfr hu hT) (u2m _) rfl rfl rfl λt p1 p2 p3=>⟨p1,p2,p3⟩) ?_ λ_ _ z=>z)
  rintro⟨⟨⟩,t⟩ s' ⟨rfl,p1,p2,p3⟩
  exact zeP hlen h64 hk ha hak p1 p2 (h _ p1 (ziv p1.size_eq p3))
end
end OwnKey
namespace L2
open PySem PySem.Spec PyProof.Rows PySem.W OwnKey
theorem zgJ {α β:Type}{f:α->β}{l m:List β}(p:l.Perm m):∀ Z:List α,m=Z.map f->∃ Z':List α,Z'.Perm Z/\l=Z'.map f:=by
 induction p with
 | nil=>intro Z e;exact⟨Z,.refl _,e⟩
 | cons x p ih =>
  intro Z e
  cases Z with
  | nil=>cases e
  | cons z Z =>
   rw[u0g]at e
   obtain⟨e1,e2⟩:=u1z e
   obtain⟨Z',p',rfl⟩:=ih Z e2
   exact⟨z::Z',p'.cons z,by rw[u0g,e1]⟩
 | swap x y l =>
  intro Z e
  cases Z with
  | nil=>cases e
  | cons z Z =>
   cases Z with
   | nil=>cases e
   | cons z2 Z =>
    rw[u0g,u0g]at e
    obtain⟨e1,e2⟩:=u1z e
    obtain⟨e2,e3⟩:=u1z e2
    exact⟨z2::z::Z,.swap _ _ _,by rw[u0g,u0g,e1,e2,e3]⟩
 | trans p1 p2 ih1 ih2 =>
  intro Z e
  obtain⟨Z2,q2,e2⟩:=ih2 Z e
  obtain⟨Z3,q3,e3⟩:=ih1 Z2 e2
  exact⟨Z3,q3.trans q2,e3⟩
theorem zcY:∀ {t:List Int} {its:List Value},yk (t.map V.int) its->IntsAre its t
 | [],_,.nil=>.nil
 | n::t,_,.cons h r=>by
  obtain⟨tk,rfl⟩:=h
  exact .cons n tk (zcY r)
section
variable {X:Cx}{pins:List (Addr × Obj)}{σ:St}{H:Hp}{s:Shared}
theorem Inv.trackF {a:Addr}{o:HO}(I:Inv X pins σ H s)(f:zaU X pins H a)(h0:X.s₀.heap.objs.size<=a)(new:xk X.prog X.w (upd H a o) s.heap a o):Inv X pins σ (upd H a o) s:=by
 obtain⟨ha,neL,_,_,neC,hp⟩:=f
 have nz:∀ b u,X.s₀.heap.get? b=some u->b≠a:=λb u e z=>absurd (d7 (j7 e) (z ▸ h0)) (u0W _)
 have ext:∀ b u,H b=some u->upd H a o b=some u:=λb u e=>by rw[zn (zj e ha)];exact e
 refine⟨I.ok,I.os,I.bare,⟨I.base.keep,I.base.slot,λb u e n hx=>?_,I.base.there,λb xs e=>ext _ _ (I.base.tups b xs e),λb u v e=>ext _ _ (I.base.frzs b u v e),λb ps e=>ext _ _ (I.base.tbls b ps e)⟩,I.loc,I.cell,?_,λx c e=>?_,λp hq=>?_,λb u e=>?_,I.len⟩
 .rw[zn (nz b u e)]
  exact I.base.free b u e n hx
 .rw[zn (u1l neL)]
  exact I.free
 .rw[zn (neC x c e)]
  exact I.freeC x c e
 .obtain⟨e,n,r⟩:=I.pin p hq
  exact⟨e,by rw[zn (hp p hq)];exact n,r⟩
 .by_cases c:b=a
  .subst c
   rw[zq]at e
   cases e
   exact new
  .rw[zn c]at e
   exact(I.hok b u e).stay (λ_ _ _ q=>q) (λc hc=>ext _ _ hc) (λc xs hc=>ext _ _ hc) λc ob v hc=>ext _ _ hc
theorem zm6 {md:Bool}{P:Program}{w:World}{h:Heap}{b:Addr}{t:List Int}(ok:HOk P w H h)(e:zg1 md H b t)(hne:t≠[]):OwnSortT.TN md h (.ref b) t:=by
 cases md with
 | false =>
  obtain⟨_,its,r,o,e1,c,n,d⟩:=(show xk P w H h b (.tup (t.map V.int))from ok b _ e)
  exact⟨b,o,n,its,rfl,e1,c,d,zcY r,hne⟩
 | true =>
  obtain⟨i,c,us,rfl,h1,h2⟩:=e
  obtain⟨_,its,r,o,e1,c1,n,d⟩:=(show xk P w H h b (.tup [.int i,.ref c])from ok b _ h1)
  obtain⟨_,its2,r2,o2,e2,c2,n2,d2⟩:=(show xk P w H h c (.tup (us.map V.int))from ok c _ h2)
  cases r with
  | cons q r =>
   cases r with
   | cons q2 r =>
    cases r
    obtain⟨tk,rfl⟩:=q
    cases q2
    exact⟨b,o,n,i,tk,c,us,rfl,e1,c1,d,rfl,o2,n2,its2,e2,c2,d2,zcY r2⟩
theorem zf5:∀ {xs:List V} {vs:List Value},xs.length=vs.length->(∀ p∈xs.zip vs,xj p.1 p.2)->yk xs vs
 | [],[],_,_=>.nil
 | x::xs,v::vs,hl,h=>.cons (h (x,v) (.head _)) (zf5 (by simpa using hl) λp hp=>h p (.tail _ hp))
theorem zh5 {md:Bool}{f a:Addr}{n:Nat}{vs:List Value}{xs:List V}{ts:List (List Int)}{P:PySem.Fin->Shared->Prop}{E:Value->Shared->Prop}{A:Around}(rv:yk xs vs)(hlen:ts.length=vs.length)(h64:vs.length < 10000000)(hne:∀ t∈ts,t≠[])(hu:A.units < cLine)
 (I:Inv X pins σ H s) (ho:s.heap.get? a=some (seqObj "list" vs.toArray n)) (fa:zaU X pins H a) (h0:X.s₀.heap.objs.size<=a)
 (turn:∀ (i:Nat) (v:Value) (t:List Int),vs[i]?=some v->ts[i]?=some t->∀ (pins1:List (Addr × Obj)) (H1:Hp) (s1:Shared),(∀ b o,H b=some o->H1 b=some o)->Inv X (pins++pins1) σ H1 s1 ->
  wpAny (model X.prog X.w) A (call (.ref f) [v]) (λy s2=>∃ b H2,y=.ref b/\(∀ b o,H1 b=some o->H2 b=some o)/\zg1 md H2 b t/\Inv X (pins++pins1) σ H2 s2) (λ_ _=>False) s1)
 (fin:∀ (zs:List (List Int × V)) (H':Hp) (s':Shared),zs.Perm (ts.zip xs)->zs.Pairwise (λp q=>HT.lexLt q.1 p.1=false)->(∀ b o,H b=some o->H' b=some o)->H' a=none->Inv X pins σ (upd H' a (.lst (zs.map (·.2)))) s'->P (.done (.ret .none)) s') :
 wpAny (model X.prog X.w) A (ksk_tree a (.ref f) false) P E s:=by
 have sl:vs.length < sizeLine:=by rw[u10];omega
 have ha:a < s.heap.objs.size:=j7 ho
 have s1:=u1a s.heap a (Obj.mapSeq λ_=>(#[]:Array Value))
 obtain⟨e1,ho1⟩:∃ e1,(s.heap.update a (Obj.mapSeq λ_=>(#[]:Array Value))).get? a=some (seqObj "list" #[] e1):=⟨_,u2u ho λ_=>#[]⟩
 have I1:=I.own2 (b:=a) (tk:=s.toks) fa (λc o hc z=>(s1.2 c hc).trans z) ⟨_,ho1⟩
 unfold ksk_tree
 refine u0 (u1L ho rfl ?_)
 refine u0 (u13 ho rfl ?_ (by rw[j3];omega) (u0D _))
 refine u0 (seqEpoch_at ho1 rfl ?_)
 refine u0 (wpAny_newTuple ?_ (by show vs.length<=_;omega))
 refine u0 (u3A ?_ (u0D _))
 refine u0M ?_
 have I2:=I1.un (t':=s.toks) (H':=H) (h':=(s.heap.update a (Obj.mapSeq λ_=>(#[]:Array Value))).push (seqObj "tuple" vs.toArray 0)) (Un.kept λ_ _ q=>u5 _ q) (I1.hok.kept λ_ _ q=>u5 _ q)
 have I3:=I2.un (t':=s.toks) (H':=H) (h':=((s.heap.update a (Obj.mapSeq λ_=>(#[]:Array Value))).push (seqObj "tuple" vs.toArray 0)).push (seqObj "list" #[] 0)) (Un.kept λ_ _ q=>u5 _ q) (I2.hok.kept λ_ _ q=>u5 _ q)
 have hkS:((s.heap.update a (Obj.mapSeq λ_=>(#[]:Array Value))).push (seqObj "tuple" vs.toArray 0)).objs.size=s.heap.objs.size+1:=by rw[size_push',Heap.size_update]
 have hak:a≠((s.heap.update a (Obj.mapSeq λ_=>(#[]:Array Value))).push (seqObj "tuple" vs.toArray 0)).objs.size:=by rw[hkS];exact p4 (u12 ha)
 refine zii (md:=md) (X:=X) (pins:=pins) (σ:=σ) (H0:=H) (H:=H) (ts:=ts) hak hlen sl turn ⟨I3,λ_ _ z=>z,u5 _ (u5 _ ho1),⟨0,r6 _ rfl⟩,fa,I2.fpOk (q5 _) (I2.hok.fresh (q5 _)),⟨u0D _,λj v hv=>by simp at hv⟩⟩ λkeys H' s' S hks=>?_
 obtain⟨e,hk⟩:=S.hk
 have keyAt:∀ (j:Nat) (v:Value),keys[j]?=some v->∃ t,ts[j]?=some t/\OwnSortT.TN md s'.heap v t:=λj v hv=>by
  obtain⟨b,t,rfl,h1,h2⟩:=S.ks.2 j v hv
  exact⟨t,h1,zm6 S.inv.hok h2 (hne t (j5 h1))⟩
 refine zly (md:=md) hks h64 hu (λv hv=>?_) hk S.ha hak λys pm rise=>?_
 .obtain⟨j,hj,rfl⟩:=u0v hv
  obtain⟨t,_,h2⟩:=keyAt j keys.toList[j] (by rw[<-u0t,u7 hj])
  exact⟨t,h2⟩
 .have kl:keys.toList.length=vs.length:=by rw[j8];exact hks
  have xl:xs.length=vs.length:=rv.length
  obtain⟨Z,hZ⟩:∃ Z:List (Keyed × (List Int × V)),(keys.toList.zip vs).zip (ts.zip xs)=Z:=⟨_,rfl⟩
  have z1:Z.map (·.1)=keys.toList.zip vs:=by rw[<-hZ];exact List.map_fst_zip (by rw[u0S,u0S];omega)
  have z2:Z.map (·.2)=ts.zip xs:=by rw[<-hZ];exact List.map_snd_zip (by rw[u0S,u0S];omega)
  have zf:∀ z∈Z,OwnSortT.TN md s'.heap z.1.1 z.2.1/\xj z.2.2 z.1.2:=λz hz=>by
   rw[<-hZ]at hz
   obtain⟨i,hi,rfl⟩:=u0v hz
   rw[u0S,u0S,u0S]at hi
   have i1:i < keys.toList.length:=by omega
   have i2:i < vs.length:=by omega
   have i3:i < ts.length:=by omega
   have i4:i < xs.length:=by omega
   rw[u2V,u2V,u2V]
   obtain⟨t,h1,h2⟩:=keyAt i keys.toList[i] (by rw[<-u0t,u7 i1])
   rw[u7 i3]at h1
   cases h1
   refine⟨h2,?_⟩
   obtain⟨u,hu,r⟩:=rv.get (u7 i4)
   rw[u7 i2]at hu
   cases hu
   exact r
  have pl:ys.toList.Perm (keys.toList.zip vs):=by rw[<-ksk_zip];exact u0N.mp pm
  obtain⟨Z',p',ey⟩:=zgJ pl Z z1.symm
  have zf':∀ z∈Z',OwnSortT.TN md s'.heap z.1.1 z.2.1/\xj z.2.2 z.1.2:=λz hz=>zf z (p'.mem_iff.mp hz)
  have sorted:(Z'.map (·.2)).Pairwise (λp q=>HT.lexLt q.1 p.1=false):=by
   unfold zgH at rise
   rw[ey,u0J]at rise
   rw[u0J]
   refine rise.imp_of_mem λ{p q} hp hq hr=>?_
   rw[OwnSortT.keyTN_of (zf' p hp).1,OwnSortT.keyTN_of (zf' q hq).1]at hr
   exact hr
  have eo:(ys.map (·.2)).toList=Z'.map (λz=>z.1.2):=by rw[Array.toList_map,ey,u0O];rfl
  have vo:yk ((Z'.map (·.2)).map (·.2)) (ys.map (·.2)).toList:=by
   rw[eo,u0O]
   refine zf5 (by rw[u9,u9]) λp hp=>?_
   rw[List.zip_map']at hp
   obtain⟨z,hz,rfl⟩:=u1q.mp hp
   exact(zf' z hz).2
  have zl:Z'.length=vs.length:=by rw[p'.length_eq,<- hZ,u0S,u0S,u0S];omega
  have t1:=u1a s'.heap ((s.heap.update a (Obj.mapSeq λ_=>(#[]:Array Value))).push (seqObj "tuple" vs.toArray 0)).objs.size (Obj.mapSeq λ_=>(#[]:Array Value))
  obtain⟨c1,g1⟩:∃ c1,(s'.heap.update ((s.heap.update a (Obj.mapSeq λ_=>(#[]:Array Value))).push (seqObj "tuple" vs.toArray 0)).objs.size (Obj.mapSeq λ_=>(#[]:Array Value))).get? ((s.heap.update a (Obj.mapSeq λ_=>(#[]:Array Value))).push (seqObj "tuple" vs.toArray 0)).objs.size=some (seqObj "list" #[] c1):=⟨_,u2u hk λ_=>#[]⟩
  have J1:=S.inv.own2 (tk:=s'.toks) S.fk (λc o hc z=>(t1.2 c hc).trans z) ⟨_,g1⟩
  have na1:=(t1.2 a hak).trans S.ha
  have t2:=u1a (s'.heap.update ((s.heap.update a (Obj.mapSeq λ_=>(#[]:Array Value))).push (seqObj "tuple" vs.toArray 0)).objs.size (Obj.mapSeq λ_=>(#[]:Array Value))) a (Obj.mapSeq λ_=>ys.map (·.2))
  obtain⟨c2,g2⟩:∃ c2,((s'.heap.update ((s.heap.update a (Obj.mapSeq λ_=>(#[]:Array Value))).push (seqObj "tuple" vs.toArray 0)).objs.size (Obj.mapSeq λ_=>(#[]:Array Value))).update a (Obj.mapSeq λ_=>ys.map (·.2))).get? a=some (seqObj "list" (ys.map (·.2)) c2):=⟨_,u2u na1 λ_=>ys.map (·.2)⟩
  have J2:=J1.own2 (b:=a) (tk:=s'.toks) S.fa (λc o hc z=>(t2.2 c hc).trans z) ⟨_,g2⟩
  refine fin (Z'.map (·.2)) H' _ (by rw[<-z2];exact p'.map _) sorted S.up S.fa.1 (J2.trackF S.fa h0 ⟨by rw[u9,u9,zl];omega,(ys.map (·.2)).toList,c2,vo,?_⟩)
  rw[g2]
end
section
variable {X:Cx}{e body:Expr}{params:Arguments}{scope:Scope}{p pos kp lp:Pos}{t:TA}{te:TE}{q x:Str}{M:List Str}{cl:List (Str × Addr)}{c P:Addr}{k:Nat}
def zk0 (md:Bool)(t:TA)(te:TE):TE:=fun σ H Q=>t σ H λvs H1=>∃ (l:Addr) (xs:List V) (ts:List (List Int)),vs=[.ref l]/\H1 l=some (.lst xs)/\ts.length=xs.length/\xs.length < 10000000/\(∀ t∈ts,t≠[]) /\
 (∀ (i:Nat) (y:V) (t:List Int),xs[i]?=some y->ts[i]?=some t->∀ H2:Hp,(∀ b o,H1 b=some o->H2 b=some o)->te (some y::σ) H2 λz H3=>∃ b,z=.ref b/\(∀ b o,H2 b=some o->H3 b=some o)/\zg1 md H3 b t) /\
 ∀ (zs:List (List Int × V)) (D:Addr) (H':Hp),zs.Perm (ts.zip xs)->zs.Pairwise (λp q=>HT.lexLt q.1 p.1=false)->(∀ b o,H1 b=some o->H' b=some o)->H' D=none->H1 D=none->Q (.ref D) (upd H' D (.lst (zs.map (·.2))))
theorem V7 {md:Bool}{pins:List (Addr × Obj)}{σ:St}{H1 H2:Hp}{s2:Shared}{h2:Heap}{u:Value}{f ca:Addr}{ctv:Value}{xs:List V}{ts:List (List Int)}{Q:VK}(hr:ve (k+4) X.A)(S:vw X x M scope cl)
 (hbind:∀ (pm cdv ctv u:Value),bindArgs (kla_fn "<lambda>" q params body scope cl pm cdv ctv) ⟨[u],[]⟩=pure [(x,u)])
 (hb:∀ f ca A s H,PE (zbo X x M q scope cl f ca A s H) body te) (up2:∀ b o,H1 b=some o->H2 b=some o) (I2:Inv X (pins++YB [f] h2) σ H2 s2) (hf:h2.get? f=some (zbU X q params body scope cl ca ctv)) (cx:zbF H2 ca q)
 (hcol:∀ (Q':List Value->Shared->Prop) (E':Value->Shared->Prop),(∀ its s3,yk xs its->Inv X (pins++YB [f] h2) σ H2 s3->Q' its s3)->wpAny (model X.prog X.w) X.A.in1 (collect u) Q' E' s2)
 (hlen:ts.length=xs.length) (h64:xs.length < 10000000) (hne:∀ t∈ts,t≠[])
 (turn:∀ (i:Nat) (y:V) (t:List Int),xs[i]?=some y->ts[i]?=some t->∀ H2:Hp,(∀ b o,H1 b=some o->H2 b=some o)->te (some y::σ) H2 λz H3=>∃ b,z=.ref b/\(∀ b o,H2 b=some o->H3 b=some o)/\zg1 md H3 b t)
 (fin:∀ (zs:List (List Int × V)) (D:Addr) (H':Hp),zs.Perm (ts.zip xs)->zs.Pairwise (λp q=>HT.lexLt q.1 p.1=false)->(∀ b o,H1 b=some o->H' b=some o)->H' D=none->H1 D=none->Q (.ref D) (upd H' D (.lst (zs.map (·.2))))) :
 wpAny (model X.prog X.w) X.A (call (.builtin "sorted") [u] [(Str.ofString "key",.ref f)]) (EP X pins σ Q) X.xe s2:=by
 have hfr:X.A.in1.in1.frames=some X.stack:=I2.ok.frames
 have hr2:ve k X.A.in1.in1:=(hr.mono (by omega:k+2<=k+4)).in1.in1
 refine call_function_entry_kw kind_sorted plain_sorted entry_sorted (ksk_s1 _ _) ?_
 unfold Builtin.«sorted»
 refine u0 (m:=checkCount "sorted" 1 1 _) (t7 ?_)
 refine u0 (hcol _ _ λits s3 rv I3=>?_)
 have hvl:=rv.length
 have hn2:H2 s3.heap.objs.size=none:=I3.hok.fresh (q5 _)
 refine u0 (u3A ?_ (by rw[u10];omega))
 have hoL:(s3.heap.push (seqObj "list" its.toArray 0)).get? s3.heap.objs.size=some (seqObj "list" its.toArray 0):=r6 _ rfl
 have I4:=I3.un (t':=s3.toks) (H':=H2) (h':=s3.heap.push (seqObj "list" its.toArray 0)) (Un.kept λ_ _ e=>u5 _ e) (I3.hok.kept λ_ _ e=>u5 _ e)
 show wpAny _ _ _ _ _ { s3 with heap:=s3.heap.push (seqObj "list" its.toArray 0) }
 refine u0 (u0M (wpAny_call_entry_kw slot_list_sort ⟨_,hoL,rfl⟩ entry_list_sort ?body (ksk_l1 _ _)))
 case body =>
  show wpAny (model X.prog X.w) X.A.in1.in1 (Builtin.«list.sort» ⟨[.ref s3.heap.objs.size],[(Str.ofString "key",.ref f)]⟩) _ _ _
  rw[ksk_t1]
  refine zh5 (md:=md) (X:=X) (pins:=pins++YB [f] h2) (σ:=σ) (H:=H2) (ts:=ts) rv (by omega) (by omega) hne (u0F (u0V _ _) hr2.units) I4 hoL (I3.fpOk (q5 _) hn2) I3.sz (λi v t hv ht pins1 H3 s4 up3 I5=>?_) λzs H' s' pz sz up ha I5=>⟨_,rfl,t7 ⟨_,rfl,?_⟩⟩
  .have hi:i < xs.length:=by rw[hvl];exact(u8.mp hv).1
   obtain⟨y,hy⟩:∃ y,xs[i]?=some y:=⟨_,u7 hi⟩
   obtain⟨u,hu,ry⟩:=rv.get hy
   rw[hv]at hu
   cases hu
   have hf3:=(I5.pin (f,_) (d9 _ (u1F _ (d9 _ (yS (d4.mpr rfl) hf))))).1
   refine u3Q (u2S (zhp S hr2 hfr I5 hf3 (cx.mono up3) (hbind _ _ _ _) (hb f ca _ s4 H3) ry (turn i y t hy ht H3 λb o z=>up3 _ _ (up2 _ _ z))) λr s' hrs=>?_)
   obtain⟨w,rfl,v,H5,I6,rw',b,rfl,up5,hb5⟩:=hrs
   exact⟨b,H5,rw',up5,hb5,I6⟩
  .refine⟨.ref s3.heap.objs.size,_,I5.unpinned,rfl,fin zs _ H' pz sz (λb o z=>up _ _ (up2 _ _ z)) ha ?_⟩
   cases z:H1 s3.heap.objs.size with
   | none=>rfl
   | some o=>rw[up2 _ _ z]at hn2;cases hn2
theorem zdG {md:Bool} (hr:ve (k+4) X.A) (hg:Gl X "sorted") (hm:X.mg "sorted"=none) (hv:bootBuiltins "sorted"=some (.builtin "sorted")) (ha:PA X [e] t)
 (L:Xb X.base X.mg c P q) (hcd:X.env.code=.ref c) (S:vw X x M scope cl) (hdef:defaultsOf params X.env=([],[])) (hq:X.env.qual++"<lambda>"=q)
 (hbind:∀ (pm cdv ctv u:Value),bindArgs (kla_fn "<lambda>" q params body scope cl pm cdv ctv) ⟨[u],[]⟩=pure [(x,u)])
 (hb:∀ f ca A s H,PE (zbo X x M q scope cl f ca A s H) body te)
 (he:backTo pos (starEach [e] X.env)=(false,eval e X.env)::backTo pos (starEach [] X.env):=by rfl) (hpl:(backTo pos (starEach [e] X.env)).any (·.1)=false:=by rfl) :
 PE X (.Call (.Name "sorted" p) [e] [⟨some "key",.Lambda params body scope lp,kp⟩] pos) (zk0 md t te):=by
 intro pins s σ H Q I h
 refine u1i (Yn I hg hm hv ?_ (by decide) (by decide))
 refine u2k (thn (ha pos pins s σ H _ I h) λus s1 ⟨vs,H1,I1,r1,q1⟩=>u2R ?_) he hpl
 obtain⟨l,xs,ts,rfl,hl,hlen,h64,hne,turn,fin⟩:=q1
 obtain⟨u,rfl,ru⟩:=zaf r1
 cases ru
 refine zdd (body:=body) (scope:=scope) (clos:=cl) L hcd S.clos hdef hq I1 λf ca ctv H2 s2 up2 I2 hf cx=>u20 ?_
 obtain⟨_,its,n,rv,el⟩:xs.length<=sizeLine/\∃ (its:List Value) (n:Nat),yk xs its/\s2.heap.get? l=some { cls:=.type "list",data:=.seq its.toArray n }:=I2.hok _ _ (up2 _ _ hl)
 have hvl:=rv.length
 have hls:s2.heap.IsList l its.toArray:=⟨_,el,rfl,n,rfl⟩
 refine V7 (md:=md) (H1:=H1) hr S hbind hb up2 I2 hf cx (λQ' E' hQ=>?_) hlen h64 hne turn fin
 refine collect_list hls (hQ its _ rv (I2.un (t':=s2.toks) (H':=H2) (Un.kept ?_) (I2.hok.kept ?_))) (by rw[u10];omega)
 all_goals
  intro b o q
  have hlt:b < s2.heap.objs.size:=j7 q
  rw[Heap.get?_update_ne _ _ _ _ (p4 hlt),Heap.get?_push_ne _ _ _ (p4 hlt)]
  exact q
end
end L2
namespace OwnKey
open PySem
section
variable {prog:Program}{w:World}{A:Around}{E:Value->Shared->Prop}{s:Shared}
theorem zad {r:Addr}{a b c:Int}{t u v:Tok}{n:Nat}{Q:List Value->Shared->Prop}(hh:A.handled=none)(hr:IsRange s.heap r a b c t u v)(hsmall:Builtin.Range.small a b c=true)(hn:Builtin.Range.rangeSize a b c=n)(hlen:n<=2 ^ 24)
 (h:∀ (h':Heap) (tk:Nat) (acc:Array Value),(∀ b o,s.heap.get? b=some o->h'.get? b=some o)->ItemsOf (λi v=>∃ t,v=.int (a+i*c) t) acc n->Q acc.toList { s with heap:=h',toks:=tk }):wpAny (model prog w) A (collect (.ref r)) Q E s:=by
 unfold collect
 refine u0 (wpAny_runValue (u3c F.entry_proto_collect ?_))
 rw[u2Y F.plain_proto_collect _]
 show wpAny _ A.in1 (newList []>>=λl=>again (.builtin "list.__iadd__" ⟨[l,.ref r],[]⟩)) _ _ s
 refine u0 (u03 ?_)
 refine t7 ⟨u22 F.plain_list_iadd _,u3c F.entry_list_iadd ?_⟩
 rw[u2Y F.plain_list_iadd _]
 show wpAny _ A.in1 (Builtin.List.listExtendWith (.ref s.heap.objs.size) (.ref r) (.ref s.heap.objs.size)) _ _ _
 have last:∀ (r':Result) (s':Shared),(∃ h' tk acc c',r'=.ok (.ret (.ref s.heap.objs.size))/\s'={ s with heap:=h',toks:=tk }/\(∀ b o,s.heap.get? b=some o->h'.get? b=some o)/\h'.get? s.heap.objs.size=some { cls:=.type "list",dict:=none,data:=.seq acc c',slots:=#[] }/\ItemsOf (λi v=>∃ t,v=.int (a+i*c) t) acc n) ->
  wants (λv s'=>wpAny (model prog w) A (match v with
   | .ref a=>do
    let o<-load a
    match o.data with
    | .seq xs _=>pure xs.toList
    | _=>unsupported "internal:collect"
   | _=>unsupported "internal:collect") Q E s') E r' s':=by
  rintro _ _ ⟨h',tk,acc,c',rfl,rfl,k,hS,hacc⟩
  show wpAny _ A (load s.heap.objs.size>>=_) _ _ _
  refine u0 (wpAny_load hS ?_)
  exact t7 (h h' tk acc k hacc)
 refine u0B (wpAny_extend_range (A:=A) (R:=λr' s'=>∃ h' tk acc c',r'=.ok (.ret (.ref s.heap.objs.size))/\s'={ s with heap:=h',toks:=tk }/\(∀ b o,s.heap.get? b=some o->h'.get? b=some o)/\h'.get? s.heap.objs.size=some { cls:=.type "list",dict:=none,data:=.seq acc c',slots:=#[] }/\ItemsOf (λi v=>∃ t,v=.int (a+i*c) t) acc n)
  (s:={ s with heap:=s.heap.push { cls:=.type "list",data:=.seq ([]:List Value).toArray } }) hh (u5 _ hr) hsmall hn hlen s.heap.objs.size _ 0 (r6 _ rfl) λh' tk acc c' k hS hacc=>⟨h',tk,acc,c',rfl,rfl,λb o e=>k b o (p4 (j7 e)) (u5 _ e),hS,hacc⟩) (λfin s' hq=>?_) λe s' hq=>?_
 .cases fin with
  | done f=>exact last _ _ hq
  | again c'=>exact⟨hq.1,u2S hq.2 λr' s'' hq'=>last _ _ hq'⟩
 .exact last _ _ hq
end
end OwnKey
namespace L2
open PySem PySem.Spec PyProof.Rows PySem.W OwnKey
section
variable {X:Cx}{a body:Expr}{params:Arguments}{scope:Scope}{p p2 pos pos2 kp lp:Pos}{ta te:TE}{q x:Str}{M:List Str}{cl:List (Str × Addr)}{c P:Addr}{k:Nat}
def zls (ta te:TE):TE:=fun σ H Q=>ta σ H λy H1=>∃ (j:Nat) (ts:List (List Int)),y=.int (j:Int)/\j<=1000/\ts.length=j/\(∀ t∈ts,t≠[]) /\
 (∀ (i:Nat) (z:V) (t:List Int),((List.range j).map λk:Nat=>V.int (k:Int))[i]?=some z->ts[i]?=some t->∀ H2:Hp,(∀ b o,H1 b=some o->H2 b=some o)->te (some z::σ) H2 λz H3=>∃ b,z=.ref b/\(∀ b o,H2 b=some o->H3 b=some o)/\zg1 false H3 b t) /\
 ∀ (zs:List (List Int × V)) (D:Addr) (H':Hp),zs.Perm (ts.zip ((List.range j).map λk:Nat=>V.int (k:Int)))->zs.Pairwise (λp q=>HT.lexLt q.1 p.1=false)->(∀ b o,H1 b=some o->H' b=some o)->H' D=none->H1 D=none->Q (.ref D) (upd H' D (.lst (zs.map (·.2))))
theorem zil (hr:ve (k+4) X.A) (hg:Gl X "sorted") (hm:X.mg "sorted"=none) (hv:bootBuiltins "sorted"=some (.builtin "sorted")) (hg2:Gl X "range") (hm2:X.mg "range"=none) (ha:PE X a ta)
 (L:Xb X.base X.mg c P q) (hcd:X.env.code=.ref c) (S:vw X x M scope cl) (hdef:defaultsOf params X.env=([],[])) (hq:X.env.qual++"<lambda>"=q)
 (hbind:∀ (pm cdv ctv u:Value),bindArgs (kla_fn "<lambda>" q params body scope cl pm cdv ctv) ⟨[u],[]⟩=pure [(x,u)])
 (hb:∀ f ca A s H,PE (zbo X x M q scope cl f ca A s H) body te) (hs:starEach [a] X.env=[(false,eval a X.env)]:=by rfl)
 (he:backTo pos (starEach [.Call (.Name "range" p2) [a] [] pos2] X.env)=(false,eval (.Call (.Name "range" p2) [a] [] pos2) X.env)::backTo pos (starEach [] X.env):=by rfl) (hpl:(backTo pos (starEach [.Call (.Name "range" p2) [a] [] pos2] X.env)).any (·.1)=false:=by rfl) :
 PE X (.Call (.Name "sorted" p) [.Call (.Name "range" p2) [a] [] pos2] [⟨some "key",.Lambda params body scope lp,kp⟩] pos) (zls ta te):=by
 intro pins s σ H Q I h
 refine u1i (Yn I hg hm hv ?_ (by decide) (by decide))
 refine u2k ?_ he hpl
 rw[he]
 show wpAny _ _ (spliced ((false,eval (.Call (.Name "range" p2) [a] [] pos2) X.env)::[])) _ _ _
 refine u2n ?_
 refine Call_ (Yn I hg2 hm2 boot_range (u0r ?_ hs rfl))
 rw[hs]
 show wpAny _ _ (spliced ((false,eval a X.env)::[])) _ _ _
 refine u2n (thn (ha pins s σ H _ I h) λv s1 hh9=>?_)
 obtain⟨y,H1,I1,r1,q1⟩:=hh9
 obtain⟨j,ts,rfl,hj,hlen,hne,turn,fin⟩:=q1
 obtain⟨t,rfl⟩:=r1
 refine u2z ?_
 refine call_range_1 ?_
 refine u2z ?_
 have I2:Inv X pins σ H1 { s1 with heap:=s1.heap.push { cls:=.type "range",data:=.fields #[.int 0 s1.toks,.int (j:Int) t,.int 1 (s1.toks+1)] },toks:=s1.toks+1+1 }:=I1.kept λb o e=>u5 _ e
 obtain⟨r,hrr⟩:∃ r,s1.heap.objs.size=r:=⟨_,rfl⟩
 have hrg:(s1.heap.push { cls:=.type "range",data:=.fields #[.int 0 s1.toks,.int (j:Int) t,.int 1 (s1.toks+1)] }).get? r=some { cls:=.type "range",data:=.fields #[.int 0 s1.toks,.int (j:Int) t,.int 1 (s1.toks+1)] }:=by rw[<-hrr];exact r6 _ rfl
 have I2p:=I2.pinned (fp:=[r]) (λb hb=>by rw[d4.mp hb];exact I1.fpOk (u3l hrr) (I1.hok.fresh (u3l hrr))) (λb hb=>by rw[d4.mp hb];exact⟨_,hrg,λv z=>by cases z⟩)
 rw[hrr]
 refine u2R ?_
 refine zdd (body:=body) (scope:=scope) (clos:=cl) L hcd S.clos hdef hq I2p λf ca ctv H2 s2 up2 I3 hf cx=>u20 ?_
 have hr2:=(I3.pin (r,_) (d9 _ (u1F _ (d9 _ (yS (d4.mpr rfl) hrg))))).1
 refine u0B (V7 (md:=false) (H1:=H1) (xs:=(List.range j).map λk:Nat=>V.int (k:Int)) (Q:=Q) hr S hbind hb up2 I3 hf cx (λQ' E' hQ=>?_) (by rw[u9,u01];exact hlen) (by rw[u9,u01];omega) hne turn fin) (λv s' ⟨w,H',J,rw',q'⟩=>⟨w,H',J.unpinned,rw',q'⟩) λ_ _ z=>z
 refine zad (n:=j) (by simp[hr.hd]) hr2 (small_one (by decide) (by decide) (by omega) (by omega)) (by rw[rangeSize_one];split <;> omega) (by omega) λh' tk acc kk hacc=>?_
 exact hQ acc.toList _ (zd9 hacc) (I3.un (t':=tk) (H':=H2) (Un.kept kk) (I3.hok.kept kk))
end
end L2
namespace Dl
open PySem L2
variable [KK]
theorem AtL.map2 {F:Hp}{α:Type}{f:α->D}{g:α->V}:∀ (l:List α),(∀ z∈l,At F (f z) (g z))->AtL F (l.map f) (l.map g)
 | [],_=>.nil
 | z::l,h=>.cons (h z (.head _)) (AtL.map2 l λy hy=>h y (.tail _ hy))
def YJ (ts:List (List Int))(ds:List D):List D:=(yM ts).map λt=>ds.getD (ts.idxOf t) .non
theorem zaQ {F:Hp}{ds:List D}{xs:List V}{ts:List (List Int)}{zs:List (List Int × V)}(al:AtL F ds xs)(hlen:ts.length=xs.length)(nd:ts.Nodup)(p:zs.Perm (ts.zip xs))(s:zs.Pairwise λp q=>HT.lexLt q.1 p.1=false) :
 AtL F (YJ ts ds) (zs.map (·.2)):=by
 have e:zs.map (·.1)=yM ts:=zc0 (by
  have:=p.map (·.1)
  rwa[show(ts.zip xs).map (·.1)=ts from List.map_fst_zip (u3l hlen)]at this) (u0J.mpr s)
 unfold YJ
 rw[<-e,u0O]
 refine AtL.map2 zs λz hz=>?_
 obtain⟨i,hi,rfl⟩:=u0v (p.mem_iff.mp hz)
 rw[u0S]at hi
 have i1:i < ts.length:=by omega
 have i2:i < xs.length:=by omega
 rw[u2V]
 show At F (ds.getD (ts.idxOf ts[i]) .non) xs[i]
 have ei:ts.idxOf ts[i]=i:=nd.idxOf_getElem i i1
 rw[ei]
 have hd:ds.length=xs.length:=al.length.symm
 have h1:ds[i]?=some ds[i]:=u7 (by omega)
 obtain⟨x,hx,ax⟩:=al.get h1
 rw[u7 i2]at hx
 cases hx
 rw[p8,h1]
 exact ax
end Dl
namespace Dl
open PySem L2
variable [KK]
def zcz (g:Ev->Option D)(ρ:Ev):List D->Option (List (List Int))
 | []=>some []
 | d::ds=>(g (some d::ρ)).bind λkd=>match kd with
  | .tup es=>(za5 es).bind λt=>if t=[]then none else (zcz g ρ ds).map (t::·)
  | _=>none
theorem Vg {g:Ev->Option D}{ρ:Ev}:∀ {ds:List D} {ts:List (List Int)},zcz g ρ ds=some ts->ts.length=ds.length/\(∀ t∈ts,t≠[])/\∀ (i:Nat) (d:D) (t:List Int),ds[i]?=some d->ts[i]?=some t->∃ es,g (some d::ρ)=some (.tup es)/\za5 es=some t
 | [],ts,h=>by
  cases h
  exact⟨rfl,λt ht=>by(cases ht),λi d t h=>by(simp at h)⟩
 | d::ds,ts,h=>by
  obtain⟨kd,e1,h⟩:=u4.mp h
  cases kd with
  | tup es =>
   obtain⟨t,e2,h⟩:=u4.mp h
   split at h
   .cases h
   .rename_i hne
    obtain⟨ts0,e3,rfl⟩:=t9.mp h
    obtain⟨l1,l2,l3⟩:=Vg e3
    refine⟨by rw[p9,p9,l1],λu hu=>?_,λi d' t' hd ht=>?_⟩
    .rcases d5.mp hu with rfl | hu
     .exact hne
     .exact l2 u hu
    .cases i with
     | zero=>cases hd;cases ht;exact⟨es,e1,e2⟩
     | succ i=>exact l3 i d' t' hd ht
  | _=>cases h
theorem Gr.upH {F H F' H':Hp}(g:Gr F H F' H')(s:yn F H):∀ b o,H b=some o->H' b=some o:=λb o e=>by
 cases h:F b with
 | none=>exact(g.kp b o h e).2
 | some u =>
  have:=s b u h
  rw[e]at this
  cases this
  exact g.fh _ _ (g.ff _ _ h)
def zdr (f g:Ev->Option D):Ev->Option (List D):=fun ρ=>(f ρ).bind λd=>(lrD d).bind λds=>(zcz g ρ ds).bind λts=>if ts.Nodup then some (YJ ts ds)else none
end Dl
namespace Dl
open PySem L2 PySem.Spec PyProof.Rows PySem.W
variable [KK]
theorem vq {F:Hp}:∀ {t:List Int} {ys:List V},AtL F (t.map D.int) ys->ys=t.map V.int
 | [],_,h=>by rw[h.nil_inv];rfl
 | n::t,_,h=>by
  obtain⟨x,r,rfl,a,l⟩:=h.cons_inv
  rw[a.int_inv,vq l]
  rfl
section
variable {X:Cx}{a body:Expr}{params:Arguments}{scope:Scope}{p p2 pos pos2 kp lp:Pos}{q x:Str}{M:List Str}{cl:List (Str × Addr)}{c P:Addr}{k:Nat}{f g:Ev->Option D}
theorem zh3 (hr:ve (k+4) X.A) (hg:Gl X "sorted") (hm:X.mg "sorted"=none) (hg2:Gl X "range") (hm2:X.mg "range"=none) (ha:ED X a f)
 (L:Xb X.base X.mg c P q) (hcd:X.env.code=.ref c) (S:vw X x M scope cl) (hdef:defaultsOf params X.env=([],[])) (hq:X.env.qual++"<lambda>"=q)
 (hbind:∀ (pm cdv ctv u:Value),bindArgs (kla_fn "<lambda>" q params body scope cl pm cdv ctv) ⟨[u],[]⟩=pure [(x,u)])
 (hb:∀ f ca A s H,ED (zbo X x M q scope cl f ca A s H) body g) (hs:starEach [a] X.env=[(false,eval a X.env)]:=by rfl)
 (he:backTo pos (starEach [.Call (.Name "range" p2) [a] [] pos2] X.env)=(false,eval (.Call (.Name "range" p2) [a] [] pos2) X.env)::backTo pos (starEach [] X.env):=by rfl) (hpl:(backTo pos (starEach [.Call (.Name "range" p2) [a] [] pos2] X.env)).any (·.1)=false:=by rfl) :
 FL X (.Call (.Name "sorted" p) [.Call (.Name "range" p2) [a] [] pos2] [⟨some "key",.Lambda params body scope lp,kp⟩] pos) (zdr f g):=by
 obtain⟨ta,pa,ra⟩:=ha
 refine⟨_,zil hr hg hm Xz hg2 hm2 pa L hcd S hdef hq hbind (λ_ _ _ _ _=>(hb _ _ _ _ _).can) hs he hpl,fun σ ρ F H z Q s va e qq=>?_⟩
 obtain⟨d,e1,e⟩:=u4.mp e
 obtain⟨ds,e2,e⟩:=u4.mp e
 obtain⟨ts,e3,e⟩:=u4.mp e
 split at e
 .rename_i nd
  cases e
  refine ra σ ρ F H d _ s va e1 λF1 H1 v g1 a1=>?_
  cases d with
  | int j =>
   have e2:(if 0<=j/\j<=1000 then some ((List.range j.toNat).map λk:Nat=>D.int (k:Int))else none)=some ds:=e2
   split at e2
   .rename_i hj
    cases e2
    have ev:=a1.int_inv
    subst ev
    obtain⟨l1,l2,l3⟩:=Vg e3
    rw[u9,u01]at l1
    have va1:=va.mono g1.ff
    have al:∀ F':Hp,AtL F' ((List.range j.toNat).map λk:Nat=>D.int (k:Int)) ((List.range j.toNat).map λk:Nat=>V.int (k:Int)):=λF'=>AtL.map2 _ λz _=>.int
    refine⟨j.toNat,ts,by rw[u1M hj.1],by omega,l1,l2,λi y t hy ht H2 up=>?_,λzs D H' pz sz up hD h1D=>?_⟩
    .rw[r9]at hy
     obtain⟨i',hi',rfl⟩:=t9.mp hy
     obtain⟨es,eg,et⟩:=l3 i (.int (i':Int)) t (by rw[r9,hi'];rfl) ht
     have s2:yn F1 H2:=λb o z=>up _ _ (g1.fh _ _ z)
     refine V5 _ (some (.int (i':Int))::ρ) F1 H2 _ _ s2 (λn d' hd=>?_) eg λF' H3 v g3 a3=>?_
     .cases n with
      | zero=>cases hd;exact⟨_,rfl,.int⟩
      | succ n=>exact va1 n d' hd
     .obtain⟨b,ys,rfl,hb',al'⟩:=a3.tup_inv
      rw[ZM et]at al'
      rw[vq al']at hb'
      exact⟨b,rfl,g3.upH s2,g3.fh _ _ hb'⟩
    .have fD:F1 D=none:=by
      cases z:F1 D with
      | none=>rfl
      | some o=>rw[g1.fh _ _ z]at h1D;cases h1D
     have g2:Gr F1 H1 F1 (upd H' D (.lst (zs.map (·.2)))):=⟨yn.refl _,λb o z=>by rw[zn (zj z fD)];exact up _ _ (g1.fh _ _ z),λb o z1 z2=>⟨.inl z1,by rw[zn (zj z2 h1D)];exact up _ _ z2⟩⟩
     exact qq F1 _ D _ (g1.trans g2) (zeS g1 h1D) fD zq (zaQ (al F1) (by rw[l1,u9,u01]) nd pz sz)
   .cases e2
  | _=>cases e2
 .cases e
end
end Dl
namespace Dl
open PySem L2 PySem.Spec PyProof.Rows PySem.W
variable [KK]
section
variable {X:Cx}{e body:Expr}{params:Arguments}{scope:Scope}{p pos kp lp:Pos}{q x:Str}{M:List Str}{cl:List (Str × Addr)}{c P:Addr}{k:Nat}{g:Ev->Option D}{fa:Ev->Option (List D)}
def ziG (g:Ev->Option D)(ρ:Ev)(as:List D):Option (List D):=match as with
 | [.lst ds]=>(zcz g ρ ds).bind λts=>if ts.Nodup/\ds.length < 10000000 then some (YJ ts ds)else none
 | _=>none
def zgo (fa:Ev->Option (List D))(g:Ev->Option D):Ev->Option (List D):=fun ρ=>(fa ρ).bind (ziG g ρ)
theorem zir (hr:ve (k+4) X.A) (hg:Gl X "sorted") (hm:X.mg "sorted"=none) (ha:AD X [e] fa)
 (L:Xb X.base X.mg c P q) (hcd:X.env.code=.ref c) (S:vw X x M scope cl) (hdef:defaultsOf params X.env=([],[])) (hq:X.env.qual++"<lambda>"=q)
 (hbind:∀ (pm cdv ctv u:Value),bindArgs (kla_fn "<lambda>" q params body scope cl pm cdv ctv) ⟨[u],[]⟩=pure [(x,u)])
 (hb:∀ f ca A s H,ED (zbo X x M q scope cl f ca A s H) body g)
 (he:backTo pos (starEach [e] X.env)=(false,eval e X.env)::backTo pos (starEach [] X.env):=by rfl) (hpl:(backTo pos (starEach [e] X.env)).any (·.1)=false:=by rfl) :
 FL X (.Call (.Name "sorted" p) [e] [⟨some "key",.Lambda params body scope lp,kp⟩] pos) (zgo fa g):=by
 obtain⟨ta,pa,ra⟩:=ha
 refine⟨_,zdG (md:=false) hr hg hm Xz pa L hcd S hdef hq hbind (λ_ _ _ _ _=>(hb _ _ _ _ _).can) he hpl,fun σ ρ F H z Q s va e qq=>?_⟩
 obtain⟨as,e1,e2⟩:=u4.mp e
 unfold ziG at e2
 split at e2
 .rename_i ds
  obtain⟨ts,e3,e⟩:=u4.mp e2
  split at e
  .rename_i nd
   cases e
   refine ra σ ρ F H _ _ s va e1 λF1 H1 vs g1 a1=>?_
   obtain⟨v,r,rfl,ax,ar⟩:=a1.cons_inv
   cases ar.nil_inv
   obtain⟨l,xs,rfl,hl,al⟩:=ax.lst_inv
   obtain⟨l1,l2,l3⟩:=Vg e3
   have hxl:=al.length
   have va1:=va.mono g1.ff
   refine⟨l,xs,ts,rfl,g1.fh _ _ hl,by omega,by omega,l2,λi y t hy ht H2 up=>?_,λzs D H' pz sz up hD h1D=>?_⟩
   .have hi:i < ds.length:=by rw[<-hxl];exact(u8.mp hy).1
    have hd:ds[i]?=some ds[i]:=u7 hi
    obtain⟨y',hy',ay⟩:=al.get hd
    rw[hy]at hy'
    cases hy'
    obtain⟨es,eg,et⟩:=l3 i _ t hd ht
    have s2:yn F1 H2:=λb o z=>up _ _ (g1.fh _ _ z)
    refine V5 _ (some ds[i]::ρ) F1 H2 _ _ s2 (λn d' hd'=>?_) eg λF' H3 v g3 a3=>?_
    .cases n with
     | zero=>cases hd';exact⟨_,rfl,ay⟩
     | succ n=>exact va1 n d' hd'
    .obtain⟨b,ys,rfl,hb',al'⟩:=a3.tup_inv
     rw[ZM et]at al'
     rw[vq al']at hb'
     exact⟨b,rfl,g3.upH s2,g3.fh _ _ hb'⟩
   .have fD:F1 D=none:=by
     cases z:F1 D with
     | none=>rfl
     | some o=>rw[g1.fh _ _ z]at h1D;cases h1D
    have g2:Gr F1 H1 F1 (upd H' D (.lst (zs.map (·.2)))):=⟨yn.refl _,λb o z=>by rw[zn (zj z fD)];exact up _ _ (g1.fh _ _ z),λb o z1 z2=>⟨.inl z1,by rw[zn (zj z2 h1D)];exact up _ _ z2⟩⟩
    exact qq F1 _ D _ (g1.trans g2) (zeS g1 h1D) fD zq (zaQ al (by omega) nd.1 pz sz)
  .cases e
 .cases e2
end
end Dl
namespace Dl
open PySem L2 PySem.Spec PyProof.Rows PySem.W
variable [KK]
def zfD (g:Ev->Option D)(ρ:Ev):List D->Option (List (List Int))
 | []=>some []
 | d::ds=>(g (some d::ρ)).bind λkd=>match kd with
  | .tup [.int i,.tup es]=>(za5 es).bind λt=>(zfD g ρ ds).map ((i::t)::·)
  | _=>none
theorem zfk {g:Ev->Option D}{ρ:Ev}:∀ {ds:List D} {ts:List (List Int)},zfD g ρ ds=some ts->ts.length=ds.length/\(∀ t∈ts,t≠[])/\∀ (i:Nat) (d:D) (t:List Int),ds[i]?=some d->ts[i]?=some t->∃ j es us,g (some d::ρ)=some (.tup [.int j,.tup es])/\za5 es=some us/\t=j::us:=by
 intro ds
 induction ds with
 | nil =>
  intro ts h
  cases h
  exact⟨rfl,λt ht=>by(cases ht),λi d t h=>by(simp at h)⟩
 | cons d ds ih =>
  intro ts h
  obtain⟨kd,e1,h⟩:=u4.mp h
  split at h
  .rename_i j es
   obtain⟨t,e2,h⟩:=u4.mp h
   obtain⟨ts0,e3,rfl⟩:=t9.mp h
   obtain⟨l1,l2,l3⟩:=ih e3
   refine⟨by rw[p9,p9,l1],λu hu=>?_,λi d' t' hd ht=>?_⟩
   .rcases d5.mp hu with rfl | hu
    .simp
    .exact l2 u hu
   .cases i with
    | zero=>cases hd;cases ht;exact⟨j,es,t,e1,e2,rfl⟩
    | succ i=>exact l3 i d' t' hd ht
  .cases h
section
variable {X:Cx}{e body:Expr}{params:Arguments}{scope:Scope}{p pos kp lp:Pos}{q x:Str}{M:List Str}{cl:List (Str × Addr)}{c P:Addr}{k:Nat}{g:Ev->Option D}{fa:Ev->Option (List D)}
def ziN (g:Ev->Option D)(ρ:Ev)(as:List D):Option (List D):=match as with
 | [.lst ds]=>(zfD g ρ ds).bind λts=>if ts.Nodup/\ds.length < 10000000 then some (YJ ts ds)else none
 | _=>none
def zgk (fa:Ev->Option (List D))(g:Ev->Option D):Ev->Option (List D):=fun ρ=>(fa ρ).bind (ziN g ρ)
theorem zhi (hr:ve (k+4) X.A) (hg:Gl X "sorted") (hm:X.mg "sorted"=none) (ha:AD X [e] fa)
 (L:Xb X.base X.mg c P q) (hcd:X.env.code=.ref c) (S:vw X x M scope cl) (hdef:defaultsOf params X.env=([],[])) (hq:X.env.qual++"<lambda>"=q)
 (hbind:∀ (pm cdv ctv u:Value),bindArgs (kla_fn "<lambda>" q params body scope cl pm cdv ctv) ⟨[u],[]⟩=pure [(x,u)])
 (hb:∀ f ca A s H,ED (zbo X x M q scope cl f ca A s H) body g)
 (he:backTo pos (starEach [e] X.env)=(false,eval e X.env)::backTo pos (starEach [] X.env):=by rfl) (hpl:(backTo pos (starEach [e] X.env)).any (·.1)=false:=by rfl) :
 FL X (.Call (.Name "sorted" p) [e] [⟨some "key",.Lambda params body scope lp,kp⟩] pos) (zgk fa g):=by
 obtain⟨ta,pa,ra⟩:=ha
 refine⟨_,zdG (md:=true) hr hg hm Xz pa L hcd S hdef hq hbind (λ_ _ _ _ _=>(hb _ _ _ _ _).can) he hpl,fun σ ρ F H z Q s va e qq=>?_⟩
 obtain⟨as,e1,e2⟩:=u4.mp e
 unfold ziN at e2
 split at e2
 .rename_i ds
  obtain⟨ts,e3,e⟩:=u4.mp e2
  split at e
  .rename_i nd
   cases e
   refine ra σ ρ F H _ _ s va e1 λF1 H1 vs g1 a1=>?_
   obtain⟨v,r,rfl,ax,ar⟩:=a1.cons_inv
   cases ar.nil_inv
   obtain⟨l,xs,rfl,hl,al⟩:=ax.lst_inv
   obtain⟨l1,l2,l3⟩:=zfk e3
   have hxl:=al.length
   have va1:=va.mono g1.ff
   refine⟨l,xs,ts,rfl,g1.fh _ _ hl,by omega,by omega,l2,λi y t hy ht H2 up=>?_,λzs D H' pz sz up hD h1D=>?_⟩
   .have hi:i < ds.length:=by rw[<-hxl];exact(u8.mp hy).1
    have hd:ds[i]?=some ds[i]:=u7 hi
    obtain⟨y',hy',ay⟩:=al.get hd
    rw[hy]at hy'
    cases hy'
    obtain⟨j,es,us,eg,et,rfl⟩:=l3 i _ t hd ht
    have s2:yn F1 H2:=λb o z=>up _ _ (g1.fh _ _ z)
    refine V5 _ (some ds[i]::ρ) F1 H2 _ _ s2 (λn d' hd'=>?_) eg λF' H3 v g3 a3=>?_
    .cases n with
     | zero=>cases hd';exact⟨_,rfl,ay⟩
     | succ n=>exact va1 n d' hd'
    .obtain⟨b,ys,rfl,hb',al'⟩:=a3.tup_inv
     obtain⟨v1,r1,rfl,b1,c1⟩:=al'.cons_inv
     obtain⟨v2,r2,rfl,b2,c2⟩:=c1.cons_inv
     cases c2.nil_inv
     cases b1.int_inv
     obtain⟨c,ws,rfl,hc',cl'⟩:=b2.tup_inv
     rw[ZM et]at cl'
     rw[vq cl']at hc'
     exact⟨b,rfl,g3.upH s2,j,c,us,rfl,g3.fh _ _ hb',g3.fh _ _ hc'⟩
   .have fD:F1 D=none:=by
     cases z:F1 D with
     | none=>rfl
     | some o=>rw[g1.fh _ _ z]at h1D;cases h1D
    have g2:Gr F1 H1 F1 (upd H' D (.lst (zs.map (·.2)))):=⟨yn.refl _,λb o z=>by rw[zn (zj z fD)];exact up _ _ (g1.fh _ _ z),λb o z1 z2=>⟨.inl z1,by rw[zn (zj z2 h1D)];exact up _ _ z2⟩⟩
    exact qq F1 _ D _ (g1.trans g2) (zeS g1 h1D) fD zq (zaQ al (by omega) nd.1 pz sz)
  .cases e
 .cases e2
end
end Dl
namespace L2
open PySem PySem.Spec PyProof.Rows
theorem zgf {X:Cx}{x:Str}{N M cn:List Str}{scope:Scope}{cl:List (Str × Addr)}{rn dn:List (Str × NameKind)}(hr:scope.names=rn)(hd:X.env.scope.names=dn)(hN:X.N=N)
 (clos:closureFor scope X.env=pure cl) (kind:scope.kind=.function) (par:scope.names.lookup x=some .local) (co:scope.isCoroutine=false) (gen:scope.isGenerator=false) (hc:cl.map Prod.fst=cn) (good:Zg scope.names rn dn N M cn=true) (sub:∀ p∈cl,X.env.cells.lookup p.1=some p.2):vw X x M scope cl:=by
 unfold Zg at good
 simp only[h9,u0k,b9]at good
 obtain⟨⟨⟨⟨⟨g1,g2⟩,g3⟩,g5⟩,g6⟩,g4⟩:=good
 have g5:M.length=N.length:=by simpa using g5
 refine⟨clos,g1,kind,par,co,gen,λy c h=>sub (y,c) (u0m h),λy h=>?_,by rw[hN];exact g5,λi y e v=>?_,λi y e v=>?_,λi y e v=>?_⟩
 .rw[hr]at h
  have hy:y∈cn:=by
   rcases h with h | h
   .exact g3 _ (u0m h) (.inl rfl)
   .exact g3 _ (u0m h) (.inr rfl)
  exact vI (by rw[hc];exact hy)
 .unfold Vis at v
  rw[hr]at v
  have hi:=(u8.mp e).1
  have hj:i < N.length:=by rw[<-g5];exact hi
  have hz:(M.zip N)[i]?=some (y,N[i]):=by
   rw[u3p]
   exact⟨e,u7 hj⟩
  have:=g6 _ (j5 hz) v
  rw[hN,u7 hj]
  exact u05 some this.symm
 .unfold Vis at v
  rw[hr]at v ⊢
  exact(g4 y (j5 e) v).1
 .unfold Vis at v
  rw[hr]at v
  obtain⟨_,k1,k2⟩:=g4 y (j5 e) v
  refine⟨?_,?_⟩
  .unfold Vis;rw[hd];exact k1
  .show X.env.scope.names.lookup y≠_;rw[hd];exact k2
end L2
namespace L2
open PySem
def zdp (o:Obj):Obj:=match o.data with
 | .freed=>{ cls:=.none,data:=.freed }
 | _=>o
theorem zcS (o:Obj)(q:Str):zdp o≠YL q:=by
 unfold zdp YL
 intro h
 split at h
 .have:=u05 Obj.cls h
  cases this
 .rename_i hn
  exact hn (by rw[h])
def wU (h:Heap)(tabs:List (Addr × Str)):Heap:={ h with objs:=h.objs.mapIdx λi o=>match tabs.lookup i with
 | some q=>YL q
 | none=>zdp o }
theorem zcW (h:Heap)(tabs:List (Addr × Str)):(wU h tabs).objs.size=h.objs.size:=by
 unfold wU
 simp
theorem v9 (h:Heap)(tabs:List (Addr × Str))(b:Addr):(wU h tabs).objs[b]?=(h.objs[b]?).map λo=>match tabs.lookup b with
 | some q=>YL q
 | none=>zdp o:=by
 unfold wU
 simp
theorem zcU {h:Heap}{tabs:List (Addr × Str)}{P:Addr}{q:Str}(e:(wU h tabs).objs[P]?=some (YL q)):tabs.lookup P=some q:=by
 rw[v9]at e
 obtain⟨o,_,e⟩:=t9.mp e
 cases z:tabs.lookup P with
 | none=>rw[z]at e;exact absurd e (zcS o q)
 | some q' =>
  rw[z]at e
  have:=u05 Obj.cls e
  have:Value.str q' 0=Value.str q 0:=this
  cases this
  rfl
theorem zbn {h:Heap}{tabs:List (Addr × Str)}{b:Addr}(hb:tabs.lookup b=none):(wU h tabs).get? b=h.get? b:=by
 unfold Heap.get?
 rw[v9,hb]
 cases z:h.objs[b]? with
 | none=>rfl
 | some o =>
  obtain⟨c,d,dt,sl⟩:=o
  cases dt <;> rfl
theorem zeM {h:Heap}{tabs:List (Addr × Str)}{b:Addr}{q:Str}(hb:tabs.lookup b=some q):(wU h tabs).get? b=none:=by
 unfold Heap.get?
 rw[v9,hb]
 cases z:h.objs[b]? with
 | none=>rfl
 | some o=>rfl
theorem zeq {h:Heap}{tabs:List (Addr × Str)}{b:Addr}{o:Obj}(e:(wU h tabs).get? b=some o):tabs.lookup b=none/\h.get? b=some o:=by
 cases z:tabs.lookup b with
 | none=>exact⟨rfl,by rw[<-zbn z];exact e⟩
 | some q=>rw[zeM z]at e;cases e
end L2
namespace L2
open PySem PySem.Spec PyProof.Rows PySem.W
abbrev TL:=List (Addr × Addr × Str)
def yI (tl:TL):List (Addr × Str):=tl.map λt=>(t.2.1,t.2.2)
theorem VX {tl:TL}{P:Addr}{q:Str}(h:(yI tl).lookup P=some q):∃ c,(c,P,q)∈tl:=by
 unfold yI at h
 induction tl with
 | nil=>cases h
 | cons t r ih =>
  rw[u0g,List.lookup_cons]at h
  cases z:P == t.2.1 with
  | true =>
   rw[z]at h
   cases h
   rw[eq_of_beq z]
   exact⟨t.1,.head _⟩
  | false =>
   rw[z]at h
   obtain⟨c,hc⟩:=ih h
   exact⟨c,.tail _ hc⟩
def wE (tl:TL)(H:Hp):Hp:=λb=>match (yI tl).lookup b with
 | some q=>some (.tbl #[.str q 0])
 | none=>H b
theorem yR {tl:TL}{H:Hp}{b:Addr}(h:(yI tl).lookup b=none):wE tl H b=H b:=by unfold wE;rw[h]
theorem Yd {tl:TL}{H:Hp}{b:Addr}{q:Str}(h:(yI tl).lookup b=some q):wE tl H b=some (.tbl #[.str q 0]):=by unfold wE;rw[h]
theorem ze7 {P:Program}{w:World}{K:W.Frag}{mg mb:Str->Option Value}{CX:CXT}{k:Nat}{fa a:Addr}{fd:FuncData}{x:Str}{sp:Sp}{s₁:Shared}{vs:List Value}{ns:List Int}{tl:TL}
 (hq:tl.all (λt=>(yI tl).lookup t.2.1 == some t.2.2)=true) (hT:∀ t∈tl,CodeHd s₁.heap t.1 t.2.1/\s₁.heap.get? t.2.1=some (tabObj #[])) (hnK:noTabs K=true)
 (hbm:∃ bm ob,mg "__builtins__"=some (.ref bm)/\bm≠builtinsNs/\s₁.heap.get? bm=some ob/\ob.cls=.type "module"/\ob.dict=some builtinsNs/\ob.data=.plain)
 (KX:K.In s₁.heap) (hns:s₁.heap.Ns mainGlobals mg) (hb:s₁.heap.Ns builtinsNs mb) (hbb:∀ x:Str,x≠"__name__"->mb x=bootBuiltins x) (hlim:s₁.heap.NoLimit) (hg:s₁.gens=#[])
 (ha:s₁.heap.get? a=some { cls:=.type "list",data:=.seq vs.toArray }) (hi:IntsAre vs ns) (hl:ns.length<=sizeLine) (hr:ve k callerA)
 (F:∀ base:Heap,K.In base->base.Ns mainGlobals mg->(∀ t∈tl,Xb base mg t.1 t.2.1 t.2.2)->yU P w K mg base CX k fa fd [x] sp) (hbind:∀ (s:Shared) (u:Value),BindsTo s fd ⟨[u],[]⟩ [(x,u)])
 (hsp:∀ H:Hp,SqL K H a (ns.map V.int)->sp [.ref a] H (λv _=>v=.bl true) λ_ _ _=>False)
 (hCX:∀ H e s',CX [] H s₁ (λ_ _ _=>False) e s'->False) :
 codeAny (model P w) callerA (.call (.ref fa) ⟨[.ref a],[]⟩) (λr s'=>r=.ok (.ret (.bool true))/\OldK s₁.heap s'.heap/\s'.os=s₁.os/\AllBare s'.gens) s₁:=by
 have rv:=zbY hi
 have lenV:=hi.length
 -- a table is no other thing
 have tabF:∀ {b:Addr} {q:Str},(yI tl).lookup b=some q->s₁.heap.get? b=some (tabObj #[]):=λ{b q} h=>by
  obtain⟨c,hc⟩:=VX h
  exact(hT _ hc).2
 have notT:∀ {b:Addr} {o:Obj},s₁.heap.get? b=some o->o≠tabObj #[]->(yI tl).lookup b=none:=λ{b o} e n=>by
  cases z:(yI tl).lookup b with
  | none=>rfl
  | some q=>rw[tabF z]at e;cases e;exact absurd rfl n
 have aT:(yI tl).lookup a=none:=notT ha (λz=>by cases z)
 have core:∀ H:Hp,(∀ b,H b=none\/∃ o xs,H b=some (.frz o (.lst xs)))->SqL K H a (ns.map V.int)->HOk P w H s₁.heap->(∀ b,H b≠none->b=a)->(H a≠none->K.lookup a=none) ->
  codeAny (model P w) callerA (.call (.ref fa) ⟨[.ref a],[]⟩) (λr s'=>r=.ok (.ret (.bool true))/\OldK s₁.heap s'.heap/\s'.os=s₁.os/\AllBare s'.gens) s₁:=by
  intro H hO hS hok hA hK
  have base_of:∀ {b:Addr} {o:Obj},s₁.heap.get? b=some o->o≠tabObj #[]->H b=none->(wU (zex s₁.heap H) (yI tl)).get? b=some o:=λe n1 n=>by
   rw[zbn (notT e n1)]
   exact zim e n
  have noA:∀ {b:Addr} {o:Obj},s₁.heap.get? b=some o->(∀ ys st,o.data≠.seq ys st)->H b=none:=λ{b o} e d=>by
   cases q:H b with
   | none=>rfl
   | some u =>
    have e':b=a:=hA b (by rw[q];simp)
    subst e'
    rw[ha]at e;cases e
    exact absurd rfl (d _ _)
  have nsK:∀ {b:Addr} {m:Str->Option Value},s₁.heap.Ns b m->(wU (zex s₁.heap H) (yI tl)).Ns b m:=λ{b m} ⟨o,es,ep,e,d,r⟩=>⟨o,es,ep,base_of e (λz=>by rw[z]at d;cases d) (noA e (λys st z=>by rw[d]at z;cases z)),d,r⟩
  have hKb:K.In (wU (zex s₁.heap H) (yI tl)):=λb o e=>base_of (KX b o e) (λz=>by
   have h2:=u0k.mp hnK (b,o) (mem_of_lookupK e)
   subst z
   exact absurd (show false=true from h2) u6) (by
   cases q:H b with
   | none=>rfl
   | some u =>
    have e':b=a:=hA b (by rw[q];simp)
    subst e'
    rw[hK (by rw[q];simp)]at e;cases e)
  have hM:Mod K mg (wU (zex s₁.heap H) (yI tl)):=⟨hKb,nsK hns,⟨mb,nsK hb,hbb⟩,let ⟨mc,h1,h2⟩:=hlim;⟨mc,nsK h1,h2⟩⟩
  have hok2:HOk P w (wE tl H) s₁.heap:=λb o e=>by
   cases z:(yI tl).lookup b with
   | some q =>
    rw[Yd z]at e
    cases e
    exact⟨#[],tabF z,trivial,λpos c hc=>by cases hc⟩
   | none =>
    rw[yR z]at e
    rcases hO b with y | ⟨ob,xs,y⟩
    .rw[y]at e;cases e
    .rw[y]at e
     cases e
     exact hok b _ y
  have hbs:Bs (wU (zex s₁.heap H) (yI tl)) s₁.heap (wE tl H):=by
   refine⟨λb o e=>?_,λP q e=>Yd (zcU e)⟩
   obtain⟨e1,e2⟩:=zeq e
   have:=zjN e2
   rw[yR e1]
   exact this
  have hlam:∀ t∈tl,Xb (wU (zex s₁.heap H) (yI tl)) mg t.1 t.2.1 t.2.2:=λt ht=>by
   have hq':=g9.mp (u0k.mp hq t ht)
   obtain⟨h1,h2⟩:=hT t ht
   refine⟨?_,?_,?_⟩
   .obtain⟨o,us,file,tf,flags,tg,inF,text,tt,e,r1,r2,r⟩:=h1
    exact⟨o,us,file,tf,flags,tg,inF,text,tt,base_of e (λz=>by rw[z]at r1;cases r1) (noA e (λys st z=>by rw[r2]at z;cases z)),r1,r2,r⟩
   .rw[v9]
    have hlt:=j7 h2
    have hlt2:t.2.1 < (zex s₁.heap H).objs.size:=by rw[zbi];exact hlt
    rw[Array.getElem?_eq_getElem hlt2,hq']
    rfl
   .obtain⟨bm,ob,b1,b2,b3,b4,b5,b6⟩:=hbm
    refine⟨bm,ob,b1,b2,?_,?_,base_of b3 (λz=>by rw[z]at b6;cases b6) (noA b3 (λys st z=>by rw[b6]at z;cases z)),b4,b5,b6⟩
    .intro z
     obtain⟨o,es,ep,e,d,_⟩:=hns
     rw[z,e]at b3
     cases b3
     rw[b6]at d
     cases d
    .intro z
     rw[z,h2]at b3
     cases b3
     cases b6
  have hS2:SqL K (wE tl H) a (ns.map V.int):=by
   rcases hS with (h | ⟨o,h⟩) | h
   .exact .inl (.inl (by rw[yR aT];exact h))
   .exact .inl (.inr ⟨o,by rw[yR aT];exact h⟩)
   .exact .inr h
  have e0:zkI P w K mg (wU (zex s₁.heap H) (yI tl)) callerA [] s₁ (wE tl H):=⟨rfl,hM,hbs,u3l ((zcW _ _).trans (zbi _ _)),trivial,λb hb=>absurd (show b∈([]:List Addr)from hb) (by simp),hok2,.of_eq hg⟩
  refine u2S ((F _ hKb (nsK hns) hlam).run callerA [] s₁ (wE tl H) ⟨[.ref a],[]⟩ [.ref a] [.ref a] _ _ hr e0 (hbind s₁ (.ref a)) (.cons rfl .nil) (hsp _ hS2)) λr s' h=>?_
  cases r with
  | error e=>exact(hCX _ e s' h).elim
  | ok fl =>
   cases fl with
   | next=>exact False.elim h
   | brk=>exact False.elim h
   | cont=>exact False.elim h
   | ret u =>
    obtain⟨v,H',os,bare,un,hok',r',q⟩:=h
    have q':v=.bl true:=q
    subst q'
    obtain rfl:u=Value.bool true:=r'
    refine⟨rfl,?_,os,bare⟩
    have one:∀ b o,s₁.heap.get? b=some o->(yI tl).lookup b=none->s'.heap.get? b=some o:=λb o e z=>by
     cases q:H b with
     | none=>exact un.keep b o e (by rw[yR z];exact q) (by intro z;exact absurd (show b∈([]:List Addr)from z) (by simp)) (by simp)
     | some u =>
      rcases hO b with y | ⟨ob,xs,y⟩
      .rw[q]at y;cases y
      .have z2:=un.frzs b ob _ (by rw[yR z];exact y)
       obtain⟨e1,_⟩:=hok b _ y
       obtain⟨e2,_⟩:=hok' b _ z2
       rw[e]at e1;cases e1
       exact e2
    have two:∀ b q,(yI tl).lookup b=some q->∃ qs:Array Value,s'.heap.get? b=some { cls:=.none,data:=.fields qs }:=λb q z=>by
     obtain⟨qs,e,_⟩:=hok' b _ (un.tbls b _ (Yd z))
     exact⟨qs,e⟩
    refine⟨λb o e=>?_,λb o e=>?_⟩
    .cases z:(yI tl).lookup b with
     | none=>exact .inl (one b o e z)
     | some q =>
      obtain⟨qs,e'⟩:=two b q z
      obtain⟨c,hc⟩:=VX z
      obtain⟨⟨oc,us,file,tf,flags,tg,inF,text,tt,c1,c2,c3,c4,_⟩,h2⟩:=hT _ hc
      rw[h2]at e
      cases e
      exact .inr (.inl ⟨⟨c,oc,us,c1,c2,c3,c4⟩,rfl,#[],qs,rfl,by rw[e'];simp⟩)
    .cases z:(yI tl).lookup b with
     | none=>exact⟨o,one b o e z⟩
     | some q =>
      obtain⟨qs,e'⟩:=two b q z
      exact⟨_,e'⟩
 cases hk:K.lookup a with
 | some o =>
  have e:=KX a o hk
  rw[ha]at e
  cases e
  refine core (λ_=>none) (λ_=>.inl rfl) (.inr ⟨_,vs.toArray,_,hk,rfl,rfl,rfl,by rw[j3,lenV];exact hl,by simpa using rv⟩) (λb u z=>by have z':(none:Option HO)=some u:=z;cases z') (λb z=>absurd rfl z) λz=>absurd rfl z
 | none =>
  refine core (λb=>if b=a then some (.frz { cls:=.type "list",data:=.seq vs.toArray } (.lst (ns.map V.int)))else none) (λb=>?_) (.inl (.inr ⟨{ cls:=.type "list",data:=.seq vs.toArray },j4 rfl⟩)) (λb u z=>?_) (λb z=>?_) λ_=>hk
  .by_cases hb:b=a
   .exact .inr ⟨_,_,j4 hb⟩
   .exact .inl (j6 hb)
  .by_cases hb:b=a
   .have z':=(j4 hb).symm.trans z
    cases z'
    subst hb
    exact⟨ha,by rw[u9];exact hl,vs,_,rv,ha⟩
   .have z':=(j6 hb).symm.trans z
    cases z'
  .by_cases hb:b=a
   .exact hb
   .exact absurd (j6 hb) z
theorem walk_ofL {l:W.OpenLaw}{n k:Nat}{q:Program}{loose:List Str}{XP:(Str->Option Value)->Heap->Prop}{YP:World->Heap->Prop}{d:DefRec}{K:Params->W.Frag}{CX:World->CXT}{sp:World->Sp}{x:Str}{tl:TL}
 (hn:l.most=some n) (hn2:n<=sizeLine) (hdf:d.params.defaults=[]) (hr:ve k callerA)
 (hY:∀ (w:World) (h:Heap),YP w h->(K w.params).In h)
 (hq:tl.all (λt=>(yI tl).lookup t.2.1 == some t.2.2)=true) (hnK:∀ w:World,noTabs (K w.params)=true)
 (hT:∀ (w:World) (mean:ExcName->Option Value) (mg mb:Str->Option Value) (h:Heap),(K w.params).In h->Top q (W.looseW q loose) mean mg mb h->∀ t∈tl,CodeHd h t.1 t.2.1/\h.get? t.2.1=some (tabObj #[]))
 (F:∀ (w:World) (mg:Str->Option Value) (fa:Addr) (h:Heap),(K w.params).In h->h.Ns mainGlobals mg->mg d.name=some (.ref fa) ->
  ∃ fd:FuncData,(∀ (s:Shared) (u:Value),BindsTo s fd ⟨[u],[]⟩ [(x,u)]) /\
   ∀ base:Heap,(K w.params).In base->base.Ns mainGlobals mg->(∀ t∈tl,Xb base mg t.1 t.2.1 t.2.2)->yU l.prog w (K w.params) mg base (CX w) k fa fd [x] (sp w))
 (hsp:∀ (w:World) (H:Hp) (a:Addr) (ns:List Int),ns.length<=n->SqL (K w.params) H a (ns.map V.int)->sp w [.ref a] H (λv _=>v=.bl true) λ_ _ _=>False)
 (hCX:∀ (w:World) (H:Hp) (s:Shared) (e:Value) (s':Shared),CX w [] H s (λ_ _ _=>False) e s'->False) :
 PySem.W.WalkO q loose XP YP l.row.toRowW d [] (λf vs=>PySem.call f vs):=by
 refine Att.attach_call hn hdf λw s₀ s₁ mg mb fa o pm cd doc a vs ns G Y ho hd hcd hmg hobj hints hlen hg=>?_
 have KX:=hY w _ Y
 obtain⟨fd,hb,hF⟩:=F w mg fa _ KX G.T.g hmg
 exact ze7 hq (hT w _ mg mb _ KX G.T) (hnK w) G.T.bmain KX G.T.g G.T.b G.T.builtins G.T.nolimit hg hobj hints (u0H hlen hn2) hr hF hb (λH hS=>hsp w H a ns hlen hS) λH e s'=>hCX w H s₁ e s'
end L2
namespace L2
open PySem PySem.Spec PyProof.Rows
def Itv (K:W.Frag)(a:Addr)(n:Nat):It :=
 ⟨λi H=>∃ xs x,SqL K H a xs/\xs.length=n/\xs.reverse[i]?=some x,λi H x H'=>H'=H/\∀ xs,SqL K H a xs->xs.reverse[i]?=some x,λi _=>n<=i⟩
theorem zhL {P:Program}{w:World}{K:W.Frag}{tg:Expr}(a it:Addr)(n:Nat):ziJ P w K tg (Itv K a n) [it] it (λi h=>i<=n/\h.IsRevIter it a ((n:Int) - 1 - (i:Int))) where
 mem:=by simp
 obj:=λi h st b hb=>by
  have e:b=it:=by simpa using hb
  subst e
  obtain⟨_,o,e,c,d⟩:=st
  exact⟨o,e,λv z=>by rw[d]at z;cases z⟩
 keep:=λi h h' st k=>⟨st.1,st.2.at λo e=>k it (by simp) o e⟩
 item:=by
  intro X hP hw hK hc i pins s σ H E I hf st hg
  subst hP hw hK
  obtain⟨xs,x,hq,hn,hx⟩:=hg
  obtain⟨its,rv,p,hz⟩:=I.list hq
  have hi:i < n:=by
   have:=(u8.mp hx).1
   rw[u2e]at this
   omega
  have hx':xs[n - 1 - i]?=some x:=by
   rw[List.getElem?_reverse (by omega),hn]at hx
   exact hx
  obtain⟨u,hu,ru⟩:=rv.get hx'
  obtain⟨f0,f1,f2,f3,f4,f5⟩:=hf it (by simp)
  have ej:((n:Int) - 1 - (i:Int))=((n - 1 - i:Nat):Int):=by omega
  have st2:=st.2
  rw[ej]at st2
  refine wpAny_pyNext_rev_item st2 p.isList (x:=u) (by simpa using hu) λh' st' sb=>?_
  have I1:Inv X pins σ H { s with heap:=h' }:=I.turned (t':=s.toks) (λb o hb e=>(sb.2 b hb).trans e) f0 f1 f3 f4 f5
  have st3:h'.IsRevIter it a ((n:Int) - 1 - ((i+1:Nat):Int)):=by
   have e2:((n - 1 - i:Nat):Int) - 1=(n:Int) - 1 - ((i+1:Nat):Int):=by omega
   rw[<-e2]
   exact st'
  obtain⟨o,e,c,d⟩:=id st'
  exact⟨u,rfl,zhW (s:={ s with heap:=h' }) e c d (by decide) ⟨x,H,I1,ru,⟨rfl,λys hy=>by rw[I.list_inj hy hq];exact hx⟩,⟨hi,st3⟩,λb hb=>(hf b hb).1⟩⟩
 done:=by
  intro X hP hw hK hc i pins s σ H E I hf st hg
  subst hP hw hK
  have hg:n<=i:=hg
  obtain⟨f0,f1,f2,f3,f4,f5⟩:=hf it (by simp)
  have ej:((n:Int) - 1 - (i:Int))=-1:=by have:=st.1;omega
  have st2:=st.2
  rw[ej]at st2
  exact wpAny_pyNext_rev_end (I.ok.hd hc) st2 λh' eb=>⟨rfl,I.turned (t':=s.toks) (λb o hb e=>eb b o hb e) f0 f1 f3 f4 f5⟩
 self:=λ_ _ _ _ _ st h=>wpAny_pyIter_revIter st.2 h
def zm7 (K:W.Frag)(ta:TE):TI:=fun σ H R=>ta σ H λx H1=>∃ a xs,x=.ref a/\SqL K H1 a xs/\R (Itv K a xs.length) H1
theorem zkN {X:Cx} {tg a:Expr} {ta:TE} {p pos:Pos} (hg:Gl X "reversed") (hm:X.mg "reversed"=none) (hb:bootBuiltins "reversed"=some (.type "reversed")) (ha:PE X a ta) (hs:starEach [a] X.env=[(false,eval a X.env)]:=by rfl) :
 PI X tg (.Call (.Name "reversed" p) [a] [] pos) (zm7 X.K ta):=by
 intro pins s σ H R I h
 refine Call_ (Yn I hg hm hb (u0r ?_ hs rfl))
 rw[hs]
 show wpAny _ _ (spliced ((false,eval a X.env)::[])) _ _ _
 refine u2n (thn (ha pins s σ H _ I h) λv s1 hh9=>?_)
 obtain⟨x,H1,I1,r1,q1⟩:=hh9
 obtain⟨t,xs,rfl,hx,q⟩:=q1
 cases r1
 obtain⟨its,rv,pt,hz⟩:=I1.list hx
 refine u2z ?_
 refine call_reversed_list pt.isList ?_
 have hl:its.toArray.size=xs.length:=by rw[j3,<- rv.length]
 refine wpAny_pyIter_revIter (l:=t) (i:=((its.toArray.size:Nat):Int) - 1) ⟨_,r6 _ rfl,rfl,rfl⟩ ?_
 refine⟨s1.heap.objs.size,[s1.heap.objs.size],_,_,H1,rfl,I1.kept (t':=s1.toks) λb o e=>u5 _ e,zhL t _ xs.length,⟨u0D _,_,r6 _ rfl,rfl,?_⟩,λb hb=>?_,q⟩
 .rw[hl]
  show Data.fields #[.ref t,rawInt ((xs.length:Int) - 1)]=Data.fields #[.ref t,rawInt ((xs.length:Int) - 1 - ((0:Nat):Int))]
  simp
 .have e:b=s1.heap.objs.size:=by simpa using hb
  subst e
  exact I1.fpOk (q5 _) (I1.hok.fresh (q5 _))
end L2
namespace Dl
open PySem L2 PySem.Spec PyProof.Rows
variable [KK]
theorem zlq {K:W.Frag}{F:Hp}{p:Addr}{xs:List V}{ds:List D}(h:F p=some (.lst xs))(al:AtL F ds xs):zkx (Itv K p xs.length) F ds.reverse:=by
 intro i F2 H2 s1 s2
 have q:SqL K H2 p xs:=SqL.of (s2 _ _ (s1 _ _ h))
 refine⟨λhl=>?_,λd hd=>?_⟩
 .show xs.length<=i
  rw[al.length,hl,u2e]
  exact q5 _
 .obtain⟨x,hx,ax⟩:=al.reverse.get hd
  refine⟨⟨xs,x,q,rfl,hx⟩,λy H3 hy=>?_⟩
  obtain⟨rfl,hy⟩:=hy
  have:=hy xs q
  rw[hx]at this
  cases this
  exact⟨F2,.refl s2,ax.mono s1⟩
theorem zlx {X:Cx} {tg a:Expr} {p pos:Pos} {f:Ev->Option D} (hg:Gl X "reversed") (hm:X.mg "reversed"=none) (ha:ED X a f) (hs:starEach [a] X.env=[(false,eval a X.env)]:=by rfl) :
 ID X tg (.Call (.Name "reversed" p) [a] [] pos) (zmI f):=by
 obtain⟨t,pa,r⟩:=ha
 refine⟨_,zkN hg hm zcr pa hs,fun σ ρ F H ds R s va e q=>?_⟩
 obtain⟨d,e1,e2⟩:=u4.mp e
 refine r σ ρ F H d _ s va e1 λF1 H1 v g1 a1=>?_
 unfold revD at e2
 split at e2 <;> cases e2
 obtain⟨l,xs,rfl,hx,al⟩:=a1.lst_inv
 exact⟨l,xs,rfl,SqL.of (g1.fh _ _ hx),q F1 H1 _ g1 (zlq hx al)⟩
end Dl
namespace L2
open PySem PySem.Spec PyProof.Rows PySem.W
section
variable {P:Program}{w:World}{K:W.Frag}{mg:Str->Option Value}{base:Heap}
theorem Fun.okC {x qual:Str}{st:Stmt}{f:Addr}{fd:FuncData}{N ps:List Str}{k:Nat}{sp:Sp}{c:Addr}(hcd:fd.code=.ref c)(F:Fun K x qual st f fd)(S:zx N ps (zk st))(len:∀ vs H Q E,sp vs H Q E->vs.length=ps.length)
 (hbody:∀ (A:Around) (outer:List Env) (s:Shared) (H:Hp) (vs:List V) (Q:VK) (E:XK),ve k (A.deeper (envOfC qual (zk st) s.heap.objs.size f (.ref c)))->sp vs H Q E ->
  ∃ t,PSs (Vv CX0 P w K mg base N qual (zk st) f (.ref c) A outer s H E).nox (xn st) t/\t { nx:=λ_ H'=>Q .non H',rt:=Q } (start N vs) H):yU P w K mg base CX0 (k+1) f fd ps sp:=by
 obtain⟨oc,od,kV,doc,pm,an,cdv,ct,osl,rfl,lk,hc2⟩:=F.ex
 have hcd:cdv=.ref c:=hcd
 subst hcd
 refine zjr lk hc2 S len λA outer s H vs Q E hr hsp=>?_
 obtain⟨t,h,q⟩:=hbody A outer s H vs Q E hr hsp
 exact⟨t,h.nox,q⟩
end
theorem tab_mk {K:Frag}{x:Str}{f c P:Addr}{oc od o1 d1 fd sl vs s1}(a:nsIn K mainGlobals x=some (some (.ref f)))(l:K.lookup f=some ⟨oc,od,.func fd,sl⟩)(hc:fd.code=.ref c)(cl:K.lookup c=some ⟨o1,d1,.fields vs,s1⟩)(hv:vs[11]?=some (.ref P)):tabIn K x=some (c,P):=by
 unfold tabIn
 rw[a]
 dsimp only
 rw[l]
 dsimp only
 rw[hc]
 dsimp only
 rw[cl]
 dsimp only
 rw[hv]
end L2
namespace Dl
open PySem L2 PySem.Spec PyProof.Rows
variable [KK]
theorem ziT {P:Program}{w:World}{K:W.Frag}{mg:Str->Option Value}{base:Heap}{x qual:Str}{st:Stmt}{f:Addr}{fd:FuncData}{N ps:List Str}{k:Nat}{g:SE->Ctl}{c:Addr}(hcd:fd.code=.ref c)(Fu:Fun K x qual st f fd)(S:zx N ps (zk st))
 (hb:∀ (A:Around) (outer:List Env) (s:Shared) (H:Hp) (E:XK),ve k (A.deeper (PyProof.Rows.envOfC qual (zk st) s.heap.objs.size f (.ref c)))->SDs (Vv CX0 P w K mg base N qual (zk st) f (.ref c) A outer s H E).nox (xn st) g) :
 yU P w K mg base CX0 (k+1) f fd ps (spD ps.length (fnD N.length g)):=by
 refine Fu.okC hcd S (λvs H Q E h=>?_) λA outer s H vs Q E hr h=>?_
 .obtain⟨ds,d,F,hl,_,a,_⟩:=h
  rw[a.length];exact hl
 .obtain⟨ds,d,F,hl,sm,a,e,q⟩:=h
  obtain⟨t,p,r⟩:=hb A outer s H E hr
  refine⟨t,p,r F H F H _ _ _ (zaN sm a) ?_⟩
  unfold fnD at e
  cases hg:g (ds.map .v++List.replicate (N.length - ds.length) .no) with
  | rt d'=>rw[hg]at e;cases e;exact λF' H' v g av=>q F' H' v g av
  | nx ρ=>rw[hg]at e;cases e;exact λF' H' σ rl=>q F' H' _ rl.gr .non
  | bk ρ=>rw[hg]at e;cases e
  | ct ρ=>rw[hg]at e;cases e
  | no=>rw[hg]at e;cases e
end Dl
namespace Dl
open PySem L2
variable [KK]
theorem zmR {E:XK}{cl:Nat->Addr}{X:Cx}{a b:Expr}{pos:Pos}{op:Operator}{fx:Ev->Option Nat}{f:Ev->Option D}(h:XE E cl X a fx)(hb:ED X b f):XE E cl X (.BinOp a op b pos) fx:=by
 obtain⟨t,p,r⟩:=h
 obtain⟨u,p2,_⟩:=hb
 exact⟨_,zev (r:=λ_ _ _ _=>False) (λ_ _ _ _ _ _ _ _ _ _ _ _ h=>h.elim) p p2,fun σ ρ F H j Q s va e w=>r σ ρ F H j _ s va e w⟩
end Dl
namespace L2
open PySem PySem.Spec PyProof.Rows
def tOrL (K:W.Frag)(ta tb:TE):TE:=fun σ H Q=>ta σ H λx H1=>∃ a xs,x=.ref a/\SqL K H1 a xs/\if xs.isEmpty=true then tb σ H1 Q else Q (.ref a) H1
theorem zl5 {X:Cx}{a b:Expr}{rest:List Expr}{pos:Pos}{ta tb:TE}(ha:PE X a ta)(hb:PE X (.BoolOp .Or (b::rest) pos) tb):PE X (.BoolOp .Or (a::b::rest) pos) (tOrL X.K ta tb):=by
  intro pins s σ H Q I h
  refine BoolOp_or (thn (ha pins s σ H _ I h) fun v s1 hh9=>?_)
  obtain ⟨x,H1,I1,r1,q1⟩:=hh9
  obtain ⟨l,xs,rfl,hx,q1⟩:=q1
  cases r1
  obtain ⟨its,r,pl,hz⟩:=I1.list hx
  have hlen:=r.length
  refine wpAny_truthy_list pl.isList (by simp only [j3]; have : sizeLine < 2 ^ 62 := by decide
                                         omega) ?_
  rw [zd8 r]
  have I2:=I1.tok (s1.toks+1+1)
  cases c:xs.isEmpty with
  | true =>
    rw [c,j4 rfl] at q1
    exact hb pins _ σ H1 Q I2 q1
  | false =>
    rw [c,j6 u6] at q1
    exact ⟨.ref l,H1,I2,rfl,q1⟩
end L2
namespace Dl
open PySem L2
variable [KK]
def zmB (f g:Ev->Option D):Ev->Option D:=fun ρ=>(f ρ).bind λd=>match d with
 | .lst ds=>if ds.isEmpty=true then g ρ else some (.lst ds)
 | _=>none
theorem zlE {X:Cx}{a b:Expr}{rest:List Expr}{pos:Pos}{f g:Ev->Option D}(ha:ED X a f)(hb:ED X (.BoolOp .Or (b::rest) pos) g):ED X (.BoolOp .Or (a::b::rest) pos) (zmB f g):=by
 obtain⟨ta,pa,ra⟩:=ha
 obtain⟨tb,pb,rb⟩:=hb
 refine⟨_,zl5 pa pb,fun σ ρ F H z Q s va e q=>?_⟩
 obtain⟨d,e1,e⟩:=u4.mp e
 refine ra σ ρ F H d _ s va e1 λF1 H1 v g1 a1=>?_
 cases d with
 | lst ds =>
  obtain⟨l,xs,rfl,hl,al⟩:=a1.lst_inv
  have he:xs.isEmpty=ds.isEmpty:=by
   have:=al.length
   cases xs <;> cases ds <;> first | rfl | simp at this
  refine⟨l,xs,rfl,SqL.of (g1.fh _ _ hl),?_⟩
  rw[he]
  have e:(if ds.isEmpty=true then g ρ else some (.lst ds))=some z:=e
  cases c:ds.isEmpty with
  | true =>
   rw[c,j4 rfl]at e
   rw[j4 rfl]
   exact rb σ ρ F1 H1 z Q g1.fh (va.mono g1.ff) e λF2 H2 v g2 a2=>q F2 H2 v (g1.trans g2) a2
  | false =>
   rw[c,j6 u6]at e
   cases e
   rw[j6 u6]
   exact q F1 H1 _ g1 a1
 | _=>cases e
end Dl
namespace Mz
open PySem Dl
abbrev Tie:=Int × Int
def ltP (s t:Tie):Prop:=s.1 < t.1\/(s.1=t.1/\s.2 < t.2)
instance (s t:Tie):Decidable (ltP s t):=by unfold ltP;infer_instance
theorem zgn {a b c:Tie}(h:ltP a b)(k:ltP b c):ltP a c:=by
 unfold ltP at *
 omega
def zE (t:Tie):D:=.tup [.int t.1,.int t.2]
theorem zgT {s t:Tie}(h:zE s=zE t):s=t:=by
 unfold zE at h
 injection h with h
 injection h with h1 h2
 injection h2 with h2 _
 injection h1 with h1
 injection h2 with h2
 exact u3w h1 h2
def zw (many:Int)(ties:List Tie):D:=.tup [.int many,.tup (ties.map zE)]
structure zY (many:Int) (ties:List Tie):Prop where
 lo:1<=many
 hi:many<=8
 rng:∀ t∈ties,0<=t.1/\t.1 < t.2/\t.2 < many
 srt:ties.Pairwise ltP
def leP (s t:Tie):Bool:=if s.1=t.1 then (if s.2=t.2 then true else decide (s.2<=t.2))else decide (s.1<=t.1)
theorem zbs {s t:Tie}:leP s t=false↔ltP t s:=by
 unfold leP ltP
 by_cases h:s.1=t.1
 .rw[j4 h]
  by_cases k:s.2=t.2
  .rw[j4 k];simp;omega
  .rw[j6 k,u0K];omega
 .rw[j6 h,u0K];omega
def ZG:D->Option Tie
 | .tup [.int a,.int b]=>some (a,b)
 | _=>none
theorem Yz (t:Tie):ZG (zE t)=some t:=rfl
theorem W6 {d:D}{t:Tie}(h:ZG d=some t):d=zE t:=by
 unfold ZG at h
 split at h
 .cases h;rfl
 .cases h
def inR (m a:Int):Bool:=decide (0<=a)&&decide (a<=m - 1)
def wf (m:Int)(d:D):Bool:=match ZG d with
 | some t=>inR m t.1&&inR m t.2&&!decide (t.1=t.2)
 | none=>false
def zb2 (p:Option Tie)(t:Tie):Bool:=match p with
 | some q=>!leP t q
 | none=>true
def yx (m:Int):Option Tie->List D->Bool
 | _,[]=>true
 | p,d::r=>match ZG d with
  | some t=>wf m d&&!decide (t.2 < t.1)&&zb2 p t&&yx m (some t) r
  | none=>false
def Za (m:Int):D->Bool
 | .tup ts=>yx m none ts
 | _=>false
def vQ:D->Bool
 | .tup [.int m,t]=>decide (1<=m)&&decide (m<=8)&&Za m t
 | _=>false
theorem X5 (m:Int):∀ (ts:List D) (p:Option Tie),yx m p ts=true↔∃ l:List Tie,ts=l.map zE/\(∀ t∈l,0<=t.1/\t.1 < t.2/\t.2 < m)/\(∀ q,p=some q->∀ t∈l,ltP q t)/\l.Pairwise ltP:=by
 intro ts
 induction ts with
 | nil =>
  intro p
  refine⟨λ_=>⟨[],rfl,by simp,by simp,.nil⟩,λ_=>rfl⟩
 | cons d r ih =>
  intro p
  unfold yx
  cases e:ZG d with
  | none =>
   refine Iff.intro (λh=>nomatch h) (λhh=>?_)
   obtain⟨l,h,_⟩:=hh
   cases l with
   | nil=>cases h
   | cons t l' =>
    rw[u0g]at h
    injection h with h1 _
    rw[h1,Yz]at e
    cases e
  | some t =>
   have ed:=W6 e
   subst ed
   simp only[wf,Yz,h9,u11,u0K,inR,b9]
   rw[ih (some t)]
   constructor
   .rintro⟨⟨⟨⟨⟨h1,h2⟩,h3⟩,h4⟩,h5⟩,l,rfl,hr,hq,hs⟩
    refine⟨t::l,rfl,?_,?_,u08.mpr ⟨hq t rfl,hs⟩⟩
    .intro u hu
     rcases d5.mp hu with rfl | hu
     .omega
     .exact hr u hu
    .rintro q rfl u hu
     have hqt:ltP q t:=zbs.mp (by simpa [zb2]using h5)
     rcases d5.mp hu with rfl | hu
     .exact hqt
     .exact zgn hqt (hq t rfl u hu)
   .rintro⟨l,h,hr,hq,hs⟩
    cases l with
    | nil=>cases h
    | cons u l' =>
     rw[u0g]at h
     injection h with h1 h2
     have hu:=zgT h1
     subst hu
     have hb:=hr t (by simp)
     refine⟨⟨⟨⟨⟨by omega,by omega⟩,by omega⟩,by omega⟩,?_⟩,l',h2,λv hv=>hr v (by simp[hv]),λq hqe v hv=>?_,(u08.mp hs).2⟩
     .cases p with
      | none=>rfl
      | some q =>
       have:=zbs.mpr (hq q rfl t (by simp))
       simp[zb2,this]
     .cases hqe
      exact(u08.mp hs).1 v hv
theorem xN (d:D):vQ d=true↔∃ m ties,d=zw m ties/\zY m ties:=by
 constructor
 .intro h
  unfold vQ at h
  split at h
  .rename_i m t
   simp only[h9,b9]at h
   obtain⟨⟨h1,h2⟩,h3⟩:=h
   unfold Za at h3
   split at h3
   .rename_i ts
    obtain⟨l,rfl,hr,_,hs⟩:=(X5 m ts none).mp h3
    exact⟨m,l,rfl,h1,h2,hr,hs⟩
   .cases h3
  .cases h
 .rintro⟨m,ties,rfl,w⟩
  unfold zw vQ Za
  simp only[h9,b9]
  exact⟨⟨w.lo,w.hi⟩,(X5 m _ none).mpr ⟨ties,rfl,w.rng,by simp,w.srt⟩⟩
theorem zkj {d:D}(h:∀ m ties,d=zw m ties->¬ zY m ties):vQ d=false:=by
 cases e:vQ d with
 | false=>rfl
 | true =>
  obtain⟨m,ties,rfl,w⟩:=(xN d).mp e
  exact absurd w (h m ties rfl)
end Mz
namespace Mz
open Dl
def zfP (c k:Int):Int :=
 let a:=(c % 2147483647+977*k+1)*48271 % 2147483647
 let b:=a*a % 2147483629
 (b+40692*(k+3))*69621 % 2147483647 / 8
def adj (ts:List Tie)(a b:Int):Prop:=(a,b)∈ts\/(b,a)∈ts
theorem adj.symm {ts:List Tie}{a b:Int}(h:adj ts a b):adj ts b a:=h.elim .inr .inl
inductive xz (ts:List Tie) (p:Int):Nat->Int->Prop
 | zero:xz ts p 0 p
 | step {k:Nat} {a b:Int}:xz ts p k a->adj ts a b->xz ts p (k+1) b
theorem adj.rng {m:Int}{ts:List Tie}{a b:Int}(ok:zY m ts)(h:adj ts a b):(0<=a/\a < m)/\0<=b/\b < m:=by
 rcases h with h | h <;> (have:=ok.rng _ h;simp only at this;omega)
theorem xz.rng {m:Int}{ts:List Tie}{p v:Int}{k:Nat}(ok:zY m ts)(hp:0<=p/\p < m)(h:xz ts p k v):0<=v/\v < m:=by
 cases h with
 | zero=>exact hp
 | step _ h=>exact(h.rng ok).2
theorem xz.inv {ts:List Tie}{p v:Int}{k:Nat}(h:xz ts p (k+1) v):∃ a,xz ts p k a/\adj ts a v:=by
 cases h with
 | step h1 h2=>exact⟨_,h1,h2⟩
theorem Zy {P:Nat->Prop}:∀ k,P k->∃ j,P j/\∀ i,P i->j<=i:=by
 intro k
 induction k using Nat.strongRecOn with
 | _ k ih =>
  intro h
  by_cases c:∃ i,i < k/\P i
  .obtain⟨i,hi,h2⟩:=c
   exact ih i hi h2
  .exact⟨k,h,λi hi=>u3D λz=>c ⟨i,z,hi⟩⟩
def Within (ts:List Tie)(p:Int)(k:Nat)(v:Int):Prop:=∃ j,j<=k/\xz ts p j v
theorem Within.succ {ts:List Tie}{p v:Int}{k:Nat}:Within ts p (k+1) v↔v=p\/∃ a,Within ts p k a/\adj ts a v:=by
 constructor
 .rintro⟨j,hj,h⟩
  cases h with
  | zero=>exact .inl rfl
  | step h1 h2=>exact .inr ⟨_,⟨_,by omega,h1⟩,h2⟩
 .rintro(rfl | ⟨a,⟨j,hj,h⟩,h2⟩)
  .exact⟨0,by omega,.zero⟩
  .exact⟨j+1,by omega,.step h h2⟩
theorem Within.up {ts:List Tie}{p v:Int}{k k':Nat}(h:Within ts p k v)(hk:k<=k'):Within ts p k' v:=let ⟨j,hj,r⟩:=h;⟨j,by omega,r⟩
theorem Vl {α:Type}{p q:α->Bool}:∀ {l:List α},(∀ x∈l,p x=true->q x=true)->l.countP q<=l.countP p->∀ x∈l,q x=true->p x=true
 | [],_,_,_,h,_=>by simp at h
 | y::l,hpq,hc,x,hx,hq=>by
  have h1:l.countP p<=l.countP q:=List.countP_mono_left λz hz=>hpq z (u0d _ hz)
  rw[u2T,u2T]at hc
  have hy:=hpq y u0E
  have ih:=Vl (p:=p) (q:=q) (l:=l) λz hz=>hpq z (u0d _ hz)
  cases e1:p y <;> cases e2:q y <;> simp[e1,e2]at hc hy
  .rcases d5.mp hx with rfl | hx
   .rw[e2]at hq;cases hq
   .exact ih (by omega) x hx hq
  .omega
  .rcases d5.mp hx with rfl | hx
   .exact e1
   .exact ih (by omega) x hx hq
open Classical in
noncomputable def wiB (ts:List Tie)(p:Int)(k v:Nat):Bool:=decide (Within ts p k (v:Int))
theorem W1 {ts:List Tie}{p:Int}{k v:Nat}:wiB ts p k v=true↔Within ts p k (v:Int):=by classical exact decide_eq_true_iff
noncomputable def cnt (ts:List Tie)(p:Int)(n k:Nat):Nat:=(List.range n).countP (wiB ts p k)
def zhc (ts:List Tie)(p:Int)(k:Nat):Prop:=∀ v,Within ts p (k+1) v->Within ts p k v
theorem zhc.all {ts:List Tie}{p:Int}{k:Nat}(h:zhc ts p k):∀ j v,Within ts p j v->Within ts p k v:=by
 intro j
 induction j with
 | zero =>
  rintro v ⟨i,hi,r⟩
  obtain rfl:i=0:=by omega
  exact⟨0,by omega,r⟩
 | succ j ih =>
  intro v hv
  rcases Within.succ.mp hv with rfl | ⟨a,ha,h2⟩
  .exact⟨0,by omega,.zero⟩
  .exact h v (Within.succ.mpr (.inr ⟨a,ih a ha,h2⟩))
theorem zhK {m:Int}{ts:List Tie}{p:Int}(ok:zY m ts)(hp:0<=p/\p < m):∃ k,k < m.toNat/\zhc ts p k:=by
 have key:∀ k,(∃ k',k' < k/\zhc ts p k')\/k+1<=cnt ts p m.toNat k:=by
  intro k
  induction k with
  | zero =>
   refine .inr ?_
   unfold cnt
   rw[List.one_le_countP_iff]
   exact⟨p.toNat,u0e.mpr (by omega),W1.mpr ⟨0,q5 _,by rw[u1M hp.1];exact .zero⟩⟩
  | succ k ih =>
   rcases ih with ⟨k',h1,h2⟩ | ih
   .exact .inl ⟨k',by omega,h2⟩
   .by_cases c:cnt ts p m.toNat (k+1)<=cnt ts p m.toNat k
    .refine .inl ⟨k,by omega,λv hv=>?_⟩
     obtain⟨j,hj,r⟩:=hv
     have hr:=r.rng ok hp
     have:=Vl (λx _ h=>W1.mpr ((W1.mp h).up (u3v k))) c v.toNat (u0e.mpr (by omega)) (W1.mpr (by rw[u1M hr.1];exact⟨j,hj,r⟩))
     have:=W1.mp this
     rwa[u1M hr.1]at this
    .exact .inr (by omega)
 rcases key m.toNat with h | h
 .exact h
 .unfold cnt at h
  have:=u2N (p:=wiB ts p m.toNat) (l:=List.range m.toNat)
  rw[u01]at this
  omega
def Far (ts:List Tie)(p v:Int)(k:Nat):Prop:=xz ts p k v/\∀ i,xz ts p i v->k<=i
theorem Far.uniq {ts:List Tie}{p v:Int}{k j:Nat}(h:Far ts p v k)(h':Far ts p v j):k=j:=Nat.le_antisymm (h.2 _ h'.1) (h'.2 _ h.1)
theorem Far.lt {m:Int}{ts:List Tie}{p v:Int}{k:Nat}(ok:zY m ts)(hp:0<=p/\p < m)(h:Far ts p v k):k < m.toNat:=by
 obtain⟨b,hb,hs⟩:=zhK ok hp
 obtain⟨j,hj,r⟩:=hs.all k v ⟨k,q5 _,h.1⟩
 have:=h.2 j r
 omega
theorem zi6 {ts:List Tie}{p v:Int}{k:Nat}(h:xz ts p k v):∃ j,Far ts p v j:=Zy k h
open Classical in
noncomputable def zdW (ts:List Tie)(p v:Int):Option Int:=if h:∃ k,Far ts p v k then some (h.choose:Int)else none
theorem ze6 {ts:List Tie}{p v:Int}{k:Nat}(h:Far ts p v k):zdW ts p v=some (k:Int):=by
 unfold zdW
 have hx:∃ k,Far ts p v k:=⟨k,h⟩
 rw[dif_pos hx,hx.choose_spec.uniq h]
theorem zf8 {ts:List Tie}{p v:Int}(h:∀ k,¬ xz ts p k v):zdW ts p v=none:=by
 unfold zdW
 rw[dif_neg]
 rintro⟨k,hk⟩
 exact h k hk.1
theorem Zl (ts:List Tie)(p v:Int):(∃ k:Nat,zdW ts p v=some (k:Int)/\Far ts p v k)\/(zdW ts p v=none/\∀ k,¬ xz ts p k v):=by
 by_cases h:∃ k,xz ts p k v
 .obtain⟨k,hk⟩:=h
  obtain⟨j,hj⟩:=zi6 hk
  exact .inl ⟨j,ze6 hj,hj⟩
 .have:∀ k,¬ xz ts p k v:=λk hk=>h ⟨k,hk⟩
  exact .inr ⟨zf8 this,this⟩
noncomputable def Wp (m:Int)(ts:List Tie)(p:Int):List (Option Int):=(List.range m.toNat).map λv:Nat=>zdW ts p v
def vf:Option Int->D
 | none=>.non
 | some k=>.int k
def oAt (fs:List (Option Int))(i:Int):Option Int:=(fs[i.toNat]?).getD none
theorem ziC {n:Nat}{i:Int}(h0:0<=i)(h1:i < n):L2.ixN n i=some i.toNat:=by
 unfold L2.ixN
 rw[j4 h0,j4 h1]
theorem X6 {α:Type}{xs:List α}{i:Int}{x:α}(h0:0<=i)(h:xs[i.toNat]?=some x):L2.atI xs i=some x:=by
 have:=(u8.mp h).1
 unfold L2.atI
 rw[ziC h0 (by omega)]
 exact h
theorem zmi {m:Bool}{i:Nat}{fk fe:Ev->Option D}{ρ:SE}{ds:List D}{d:D}{k:Int}(h1:vEv m fe ρ=some d)(h2:fk (visG ρ)=some (.int k))(h3:ρ[i]?=some (.o ds))(h4:0<=k)(h5:k < ds.length) :
 XL m i fk fe ρ=.nx (ρ.set i (.o (ds.set k.toNat d))):=by
 unfold XL
 rw[h1,h2,h3]
 show(match ((L2.ixN ds.length k).map λj=>ρ.set i (Sl.o (ds.set j d)))with | some ρ'=>Ctl.nx ρ' | none=>Ctl.no)=_
 rw[ziC h4 h5]
 rfl
theorem zjL {fs:List (Option Int)}{i:Int}(h0:0<=i)(h1:i < fs.length):L2.atI (fs.map vf) i=some (vf (oAt fs i)):=by
 refine X6 h0 ?_
 unfold oAt
 rw[r9,u7 (by omega)]
 rfl
theorem Vo {fs:List (Option Int)}{i j:Int}{x:Option Int}(hi:0<=i)(hl:i < fs.length)(hj:0<=j):oAt (fs.set i.toNat x) j=if j=i then x else oAt fs j:=by
 unfold oAt
 rw[u00]
 by_cases c:j=i
 .subst c
  rw[j4 rfl,j4 rfl,j4 (by omega)]
  rfl
 .rw[j6 (by omega),j6 c]
theorem zkd {fs gs:List (Option Int)}(hl:fs.length=gs.length)(h:∀ i:Int,0<=i->i < fs.length->oAt fs i=oAt gs i):fs=gs:=by
 refine u2B λi=>?_
 by_cases c:i < fs.length
 .have:=h (i:Int) (by omega) (by omega)
  unfold oAt at this
  rw[u2A,u7 c,u7 (by omega)]at this
  rw[u7 c,u7 (by omega)]
  exact u05 some this
 .rw[u0Z (by omega),u0Z (by omega)]
theorem ZP (m:Int)(ts:List Tie)(p:Int):(Wp m ts p).length=m.toNat:=by unfold Wp;simp
theorem zdD {m:Int}{ts:List Tie}{p v:Int}(h0:0<=v)(h1:v < m):oAt (Wp m ts p) v=zdW ts p v:=by
 unfold oAt Wp
 rw[r9,u1v (by omega)]
 show zdW ts p ((v.toNat:Nat):Int)=_
 rw[u1M h0]
def zmy (b n:Nat):List Tie:=(List.range n).map λ(k:Nat)=>((k:Int),(b:Int))
theorem VR (ts:List Tie):(zan ts).Perm ts:=u3a _ _
theorem zb9 {ts:List Tie}(h:ts.Nodup):(zan ts).Pairwise ltP:=by
 have h1:(zan ts).Pairwise λa b=>zkw a b=true:=u2q (λa b c h1 h2=>by rw[vt]at *;omega) (λa b=>by rw[u3K,vt,vt];omega) _
 have h2:(zan ts).Nodup:=(VR ts).nodup_iff.mpr h
 refine(h1.and h2).imp λ{a b} hh=>?_
 obtain⟨x,y⟩:=hh
 rw[vt]at x
 unfold ltP
 rcases x with x | x
 .exact .inl x
 .refine .inr ⟨x.1,?_⟩
  have:a.2≠b.2:=λe=>y (u3w x.1 e)
  omega
theorem V8 {d:D}{n:Int}(h0:0<=n)(h1:n<=1000):zgw (.lst [d]) (.int n)=some (List.replicate n.toNat d):=by
 show(if -(2 ^ 63)<=n/\n < 2 ^ 63/\lim (1*n.toNat)=true then _ else none)=_
 rw[j4 ⟨by omega,by omega,wq (by omega)⟩,List.flatten_replicate_singleton]
theorem zdN {m:Bool}{i:Nat}{fk fe:Ev->Option D}{ρ:SE}{n b kk:SE->Prop}{r:D->Prop}(ds:List D)(d:D)(k:Int)(h1:vEv m fe ρ=some d)(h2:fk (visG ρ)=some (.int k))(h3:ρ[i]?=some (.o ds))(h4:0<=k)(h5:k < ds.length)(q:n (ρ.set i (.o (ds.set k.toNat d)))) :
 (XL m i fk fe ρ).w n b kk r:=ZH (zmi h1 h2 h3 h4 h5) q
theorem zfB {i j:Int}(h1:-(2 ^ 64) < i)(h2:i < 2 ^ 64):Yt (.int i) (.int j)=some (.int (i*j)):=by
 show(if XW i j=true then _ else none)=_
 rw[j4 (show XW i j=true from o0 (.inl ⟨h1,h2⟩))]
theorem zhs {α:Type}(xs:List α)(lo hi:Option Int):(zez xs lo hi).length<=xs.length:=by
 unfold zez
 rw[o9,u0a]
 omega
theorem zia {a b:List D}(h:a.length+b.length<=1000):Zw (.lst a) (.lst b)=some (.lst (a++b)):=by
 show(if lim (a.length+b.length)=true then _ else none)=_
 rw[j4 (wq h)]
theorem znt {g h:SE->Ctl}{ρ:SE}{n b k:SE->Prop}{r:D->Prop}(J:SE->Prop)(h1:(g ρ).w J b k r)(h2:∀ ρ',J ρ'->(h ρ').w n b k r):(zT g h ρ).w n b k r :=
 yW (zl9 h1 h2 (λ_ h=>h) (λ_ h=>h) λ_ h=>h)
theorem zhT {m:Int}{ts:List Tie}{p:Int}{o:Option Int}(ok:zY m ts)(hp:0<=p/\p < m)(h:o∈Wp m ts p):o=none\/∃ k:Int,o=some k/\0<=k/\k < m:=by
 unfold Wp at h
 obtain⟨v,hv,rfl⟩:=u1q.mp h
 rcases Zl ts p v with ⟨k,e,hk⟩ | ⟨e,_⟩
 .have:=hk.lt ok hp
  exact .inr ⟨_,e,by omega,by omega⟩
 .exact .inl e
theorem wP {m:Bool}{i:Nat}{f:Ev->Option D}{ρ ρ':SE}{d:D}(h:vEv m f ρ=some d)(h2:ρ.set i (.v d)=ρ':=by rfl):x8 m i f ρ=.nx ρ':=by
 unfold x8
 rw[h,<- h2]
theorem xq {f:Ev->Option D}{ρ:SE}{d:D}(h:f (visG ρ)=some d):Zt f ρ=.nx ρ:=by
 unfold Zt
 rw[h]
theorem we {f:Ev->Option D}{ρ:SE}{d:D}(h:f (visG ρ)=some d):yN f ρ=.rt d:=by
 unfold yN
 rw[h]
theorem zjw {i:Nat}{f:Ev->Option (List D)}{ρ ρ':SE}{ds:List D}(h:f (visF ρ)=some ds)(h2:ρ.set i (.o ds)=ρ':=by rfl):Zu i f ρ=.nx ρ':=by
 unfold Zu
 rw[h,<- h2]
theorem yX {a b:Int}:neD (.int a) (.int b)=some (.bl (!decide (a=b))):=rfl
theorem Zh {a m x:Int}(h:0 < m)(hx:a % m=x):0<=x/\x < m:=by
 subst hx
 exact⟨Int.emod_nonneg _ (by omega),Int.emod_lt_of_pos _ h⟩
theorem len_lt {α:Type}{xs:List α}{x m:Int}(h:x < m)(hl:(xs.length:Int)=m):x < (xs.length:Int):=by omega
theorem zcC {α:Type}{f:α->D}{xs:List α}{x m:Int}(h:x < m)(hl:(xs.length:Int)=m):x < ((xs.map f).length:Int):=by rw[u9];omega
theorem ziH {m:Int}(h:1<=m):0 < m:=by omega
theorem zgF {i:Nat}{x m:Int}(hi:i < m.toNat)(hx:(0:Int)+(i:Int)=x):0<=x/\x < m:=by omega
theorem zfS {o:Nat}{m:Int}(h:(o:Int) < m):0<=(0:Int)+(o:Int)/\(0:Int)+(o:Int) < m:=by omega
theorem zlZ {n:Nat}(h:n<=8):lim n=true:=wq (by omega)
theorem zdv {α:Type}{xs:List α}{x m:Int}(h0:0<=x)(h:x < m)(hl:xs.length=m.toNat):x < (xs.length:Int):=by omega
theorem zfC {α:Type}{f:α->D}{xs:List α}{x m:Int}(h0:0<=x)(h:x < m)(hl:xs.length=m.toNat):x < ((xs.map f).length:Int):=by rw[u9];omega
theorem zfe {fs:List (Option Int)}{i m:Int}(h0:0<=i)(h:i < m)(hl:fs.length=m.toNat):L2.atI (fs.map vf) i=some (vf (oAt fs i)):=zjL h0 (zdv h0 h hl)
theorem zns {d:D}{m:Int}(h1:1<=m)(h8:m<=8):zgw (.lst [d]) (.int m)=some (List.replicate m.toNat d):=V8 (by omega) (by omega)
theorem zlH {m:Int}(h1:1<=m)(h8:m<=8):vb [.int m]=some (Wq 0 m.toNat):=by
 show(if zg0 m=true then some (Wq 0 m.toNat)else none)=_
 rw[j4 (yQ.mpr ⟨by omega,by omega⟩)]
theorem zld {m:Int}{n:Nat}(h:m=((n+1:Nat):Int))(h7:n<=7):vb [.int m]=some (Wq 0 (n+1)):=by
 rw[zlH (by omega) (by omega),show m.toNat=n+1 by omega]
theorem zml {m:Int}{n:Nat}(h:m=((n+1:Nat):Int))(h7:n<=7):Vu [.int 1,.int m]=some (Wq 1 n):=by
 show(if zg0 1=true/\zg0 m=true then some (Wq 1 (m - 1).toNat)else none)=_
 rw[j4 ⟨yQ.mpr ⟨by omega,by omega⟩,yQ.mpr ⟨by omega,by omega⟩⟩,show(m - 1).toNat=n by omega]
theorem zI {a b:Int}:Wj (.int a) (.int b)=some (.bl (decide (a=b))):=rfl
theorem yV {a b:Bool}:Wj (.bl a) (.bl b)=some (.bl (decide (a=b))):=rfl
theorem ym {a b:PySem.Str}:Wj (.str a) (.str b)=some (.bl (decide (a=b))):=rfl
theorem yd {a b:Int}:Zw (.int a) (.int b)=some (.int (a+b)):=rfl
theorem zik {a b:List D}(h:a.length+b.length<=1000):Zw (.tup a) (.tup b)=some (.tup (a++b)):=by
 show(if lim (a.length+b.length)=true then some (D.tup (a++b))else none)=_
 rw[j4 (wq h)]
section
variable {ρ:Ev}{f g h:Ev->Option D}{a:Ev->Option (List D)}{t u:Ev->Option Bool}{d e x y z:D}{ds es:List D}{b c:Bool}
theorem xY:zt ρ=some []:=rfl
theorem zV (h1:f ρ=some d)(h2:a ρ=some ds):zb f a ρ=some (d::ds):=by unfold zb;rw[h1,h2];rfl
theorem yf {n:Nat}{p:List D->Option D}(h1:a ρ=some ds)(h2:p ds=some d)(hl:ds.length=n:=by rfl):zr n p a ρ=some d:=by
 unfold zr
 rw[h1,p7,j4 hl,h2]
theorem wF {i n:Nat}{p:List D->Option D}{σ σ':SE}(h1:a (visF σ)=some ds)(h2:p ds=some d)(hl:ds.length=n:=by rfl)(h3:σ.set i (.v d)=σ':=by rfl):x8 false i (zr n p a) σ=.nx σ':=wP (show zr n p a (visF σ)=some d from yf h1 h2 hl) h3
theorem zg5 {i:Nat}{f:Ev->Option D}{σ σ':SE}(h:f (visF σ)=some d)(h3:σ.set i (.v d)=σ':=by rfl):x8 false i f σ=.nx σ':=wP (show f (visF σ)=some d from h) h3
theorem zC {k:D->D->Option D}(h1:f ρ=some x)(h2:g ρ=some y)(h3:k x y=some z):zo k f g ρ=some z:=by unfold zo;rw[h1,h2];exact h3
theorem zmc {k:D->Option D}(h1:f ρ=some x)(h3:k x=some z):eUn k f ρ=some z:=by unfold eUn;rw[h1];exact h3
theorem Wf (h1:a ρ=some ds):x5 a ρ=some (.lst ds):=by unfold x5;rw[h1];rfl
theorem WW {k:List D->Option D}(h1:a ρ=some ds)(h2:k ds=some d):eFn k a ρ=some d:=by unfold eFn;rw[h1];exact h2
theorem zgt (h1:a ρ=some ds)(hl:ds.length<=1000):ye a ρ=some ds:=by unfold ye;rw[h1,p7,j4 (wq hl)]
theorem zdE (h1:a ρ=some ds)(hl:ds.length<=1000):Yo a ρ=some (.tup ds):=by unfold Yo;rw[h1,p7,j4 (wq hl)]
theorem ziM (h1:f ρ=some d)(h2:xC d=some ds):iOf f ρ=some ds:=by unfold iOf;rw[h1];exact h2
theorem zmT (h1:t ρ=some c)(h2:(if c=true then f ρ else g ρ)=some d):eIf t f g ρ=some d:=by unfold eIf;rw[h1];exact h2
theorem ziD (h1:f ρ=some (.bl b))(h2:g ρ=some (.bl c)):ZW f g ρ=some (.bl (b&&c)):=by unfold ZW;rw[h1,h2];cases b <;> rfl
theorem Yv (h1:f ρ=some (.bl b)):tOf f ρ=some b:=by unfold tOf;rw[h1];rfl
theorem zdf (h1:t ρ=some b):yT t ρ=some (!b):=by unfold yT;rw[h1];rfl
theorem zm2 (h1:t ρ=some b)(h2:u ρ=some c):XJ t u ρ=some (b||c):=by unfold XJ;rw[h1,h2];cases b <;> rfl
theorem zlX (h1:t ρ=some false)(h2:u ρ=some c):XJ t u ρ=some c:=by unfold XJ;rw[h1];exact h2
end
end Mz
namespace Mz
open PySem L2 Dl
def top (i:Nat):Stmt:=PySem.Challenge.pw_twoforone_k32_stones_wanted_in_a_tree.main.body.getD i (.Pass ⟨0,0,0,0⟩)
abbrev Z6:Stmt:=top 17
abbrev xo:Stmt:=top 18
abbrev xG:Stmt:=top 19
abbrev xI:Stmt:=top 20
abbrev Z0:Stmt:=top 21
abbrev XH:Stmt:=top 22
abbrev XR:Stmt:=top 24
abbrev Z5:Stmt:=top 25
abbrev Vj:Stmt:=top 26
abbrev vL:Stmt:=top 27
abbrev wa:Stmt:=top 28
abbrev vF:Stmt:=top 29
abbrev v7:Stmt:=top 30
abbrev YU:Stmt:=top 31
abbrev WG:Stmt:=top 32
abbrev YE:Stmt:=top 33
abbrev XQ:Stmt:=top 34
abbrev wJ:Stmt:=top 36
abbrev xf:Stmt:=top 37
abbrev ZN:Stmt:=top 38
abbrev wS:Stmt:=top 39
abbrev YT:Stmt:=top 40
abbrev vG:Stmt:=top 41
abbrev zct:Stmt:=top 42
abbrev Yk:Stmt:=top 43
abbrev YN:Stmt:=top 44
abbrev Yi:Stmt:=top 45
abbrev wG:Stmt:=top 47
abbrev YC:Stmt:=top 48
abbrev YS:Stmt:=top 49
abbrev wX:Stmt:=top 50
abbrev v4:Stmt:=top 51
abbrev Yb:Stmt:=top 52
abbrev YY:Stmt:=top 53
abbrev zgy:Stmt:=top 54
theorem zcV:zx ["thing"] ["thing"] (zk Z6):=⟨rfl,rfl,rfl,by decide +kernel,rfl,by decide +kernel,by decide +kernel⟩
theorem Xg:zx ["thing","least","most"] ["thing","least","most"] (zk xo):=⟨rfl,rfl,rfl,by decide +kernel,rfl,by decide +kernel,by decide +kernel⟩
theorem vP:zx ["thing","least","most"] ["thing","least","most"] (zk xG):=⟨rfl,rfl,rfl,by decide +kernel,rfl,by decide +kernel,by decide +kernel⟩
theorem XM:zx ["thing"] ["thing"] (zk xI):=⟨rfl,rfl,rfl,by decide +kernel,rfl,by decide +kernel,by decide +kernel⟩
theorem zcw:zx ["many","thing"] ["many","thing"] (zk Z0):=⟨rfl,rfl,rfl,by decide +kernel,rfl,by decide +kernel,by decide +kernel⟩
theorem XZ:zx ["number","times","turn"] ["number","times"] (zk XH):=⟨rfl,rfl,rfl,by decide +kernel,rfl,by decide +kernel,by decide +kernel⟩
theorem zeu:zx ["many","thing"] ["many","thing"] (zk XR):=⟨rfl,rfl,rfl,by decide +kernel,rfl,by decide +kernel,by decide +kernel⟩
theorem ZU:zx ["many","thing","at","tie"] ["many","thing"] (zk Z5):=⟨rfl,rfl,rfl,by decide +kernel,rfl,by decide +kernel,by decide +kernel⟩
theorem zgR:zx ["thing"] ["thing"] (zk Vj):=⟨rfl,rfl,rfl,by decide +kernel,rfl,by decide +kernel,by decide +kernel⟩
theorem Vw:zx ["thing"] ["thing"] (zk vL):=⟨rfl,rfl,rfl,by decide +kernel,rfl,by decide +kernel,by decide +kernel⟩
theorem Yl:zx ["web","thing"] ["web","thing"] (zk wa):=⟨rfl,rfl,rfl,by decide +kernel,rfl,by decide +kernel,by decide +kernel⟩
theorem VL:zx ["one","other"] ["one","other"] (zk vF):=⟨rfl,rfl,rfl,by decide +kernel,rfl,by decide +kernel,by decide +kernel⟩
theorem zaC:zx ["web","place"] ["web","place"] (zk v7):=⟨rfl,rfl,rfl,by decide +kernel,rfl,by decide +kernel,by decide +kernel⟩
theorem yO:zx ["web","start","away","rim","further","place","other"] ["web","start"] (zk YU):=⟨rfl,rfl,rfl,by decide +kernel,rfl,by decide +kernel,by decide +kernel⟩
theorem YO:zx ["web","found","start","away","piece"] ["web"] (zk WG):=⟨rfl,rfl,rfl,by decide +kernel,rfl,by decide +kernel,by decide +kernel⟩
theorem zbX:zx ["web"] ["web"] (zk YE):=⟨rfl,rfl,rfl,by decide +kernel,rfl,by decide +kernel,by decide +kernel⟩
theorem zen:zx ["web"] ["web"] (zk XQ):=⟨rfl,rfl,rfl,by decide +kernel,rfl,by decide +kernel,by decide +kernel⟩
theorem Y4:zx ["web"] ["web"] (zk wJ):=⟨rfl,rfl,rfl,by decide +kernel,rfl,by decide +kernel,by decide +kernel⟩
theorem yy:zx ["web","root","away","outer","place"] ["web","root"] (zk xf):=⟨rfl,rfl,rfl,by decide +kernel,rfl,by decide +kernel,by decide +kernel⟩
theorem WR:zx ["web","root","away"] ["web","root"] (zk ZN):=⟨rfl,rfl,rfl,by decide +kernel,rfl,by decide +kernel,by decide +kernel⟩
theorem xv:zx ["web","root","outer","tall","place"] ["web","root"] (zk wS):=⟨rfl,rfl,rfl,by decide +kernel,rfl,by decide +kernel,by decide +kernel⟩
theorem yq:zx ["web","root","tall","outer","ranked","found","place","at","other"] ["web","root"] (zk YT):=⟨rfl,rfl,rfl,by decide +kernel,rfl,by decide +kernel,by decide +kernel⟩
theorem ZD:zx ["ranked","way"] ["ranked","way"] (zk vG):=⟨rfl,rfl,rfl,by decide +kernel,rfl,by decide +kernel,by decide +kernel⟩
theorem zjA:zx ["web","place"] ["web","place"] (zk zct):=⟨rfl,rfl,rfl,by decide +kernel,rfl,by decide +kernel,by decide +kernel⟩
theorem wx:zx ["web","root","times","stones","at","way"] ["web","root","times"] (zk Yk):=⟨rfl,rfl,rfl,by decide +kernel,rfl,by decide +kernel,by decide +kernel⟩
theorem X7:zx ["web","place","times"] ["web","place","times"] (zk YN):=⟨rfl,rfl,rfl,by decide +kernel,rfl,by decide +kernel,by decide +kernel⟩
theorem Xk:zx ["web","place","times"] ["web","place","times"] (zk Yi):=⟨rfl,rfl,rfl,by decide +kernel,rfl,by decide +kernel,by decide +kernel⟩
theorem W2:zx ["script","k"] ["script","k"] (zk wG):=⟨rfl,rfl,rfl,by decide +kernel,rfl,by decide +kernel,by decide +kernel⟩
theorem YA:zx ["found","due","one","other"] ["found","due"] (zk YC):=⟨rfl,rfl,rfl,by decide +kernel,rfl,by decide +kernel,by decide +kernel⟩
theorem vx:zx ["cell","k","number"] ["cell","k"] (zk YS):=⟨rfl,rfl,rfl,by decide +kernel,rfl,by decide +kernel,by decide +kernel⟩
theorem zD:zx ["cell","most","many","names","k","ties","left","inner"] ["cell","most"] (zk wX):=⟨rfl,rfl,rfl,by decide +kernel,rfl,by decide +kernel,by decide +kernel⟩
theorem xr:zx ["e","found"] ["e"] (zk v4):=⟨rfl,rfl,rfl,by decide +kernel,rfl,by decide +kernel,by decide +kernel⟩
theorem xm:zx ["web","root","times","found","rows","k","row"] ["web","root","times"] (zk Yb):=⟨rfl,rfl,rfl,by decide +kernel,rfl,by decide +kernel,by decide +kernel⟩
theorem Wb:zx ["way","web","root","times","e"] ["way","web","root","times"] (zk YY):=⟨rfl,rfl,rfl,by decide +kernel,rfl,by decide +kernel,by decide +kernel⟩
theorem Xu:zx ["script","cell","web","root","times","due","bad","no_tree","way"] ["script"] (zk zgy):=⟨rfl,rfl,rfl,by decide +kernel,rfl,by decide +kernel,by decide +kernel⟩
structure Adr where
 f_is_whole:Addr
 e_is_whole:FuncData
 f_is_whole_within:Addr
 e_is_whole_within:FuncData
 f_must_be_within:Addr
 e_must_be_within:FuncData
 f_is_place_count:Addr
 e_is_place_count:FuncData
 f_is_place:Addr
 e_is_place:FuncData
 f_doubled:Addr
 e_doubled:FuncData
 f_is_pair:Addr
 e_is_pair:FuncData
 f_are_ties:Addr
 e_are_ties:FuncData
 f_is_web:Addr
 e_is_web:FuncData
 f_must_be_web:Addr
 e_must_be_web:FuncData
 f_must_be_place:Addr
 e_must_be_place:FuncData
 f_tie_between:Addr
 e_tie_between:FuncData
 f_neighbours:Addr
 e_neighbours:FuncData
 f_ties_away:Addr
 e_ties_away:FuncData
 f_pieces:Addr
 e_pieces:FuncData
 f_is_joined:Addr
 e_is_joined:FuncData
 f_is_tree:Addr
 e_is_tree:FuncData
 f_must_be_tree:Addr
 e_must_be_tree:FuncData
 f_outer_neighbours:Addr
 e_outer_neighbours:FuncData
 f_outwards:Addr
 e_outwards:FuncData
 f_heights_from:Addr
 e_heights_from:FuncData
 f_ways_from:Addr
 e_ways_from:FuncData
 f_way_through:Addr
 e_way_through:FuncData
 f_ways:Addr
 e_ways:FuncData
 f_worst_from:Addr
 e_worst_from:FuncData
 f_tree_need:Addr
 e_tree_need:FuncData
 f_tree_worst:Addr
 e_tree_worst:FuncData
 f__law_cell_at:Addr
 e__law_cell_at:FuncData
 f__law_same:Addr
 e__law_same:FuncData
 f__law_stir:Addr
 e__law_stir:FuncData
 f__law_tree_by:Addr
 e__law_tree_by:FuncData
 f__law_kinds:Addr
 e__law_kinds:FuncData
 f__law_worst:Addr
 e__law_worst:FuncData
 f__law_came:Addr
 e__law_came:FuncData
 f_law:Addr
 e_law:FuncData
 t_MOST_PLACES:Tok
 x_NoKind:Addr
 x_NoHeap:Addr
 x_NoPlace:Addr
 x_NoNumber:Addr
 x_NoTally:Addr
 x_NotTree:Addr
 x_NotJoined:Addr
 x_NoWeights:Addr
 x_NoRow:Addr
 x_NoWeb:Addr
 x_NoSteps:Addr
 x_NoText:Addr
 x_TooGreat:Addr
 x_StoneError:Addr
 c_outwards:Addr
 p_outwards:Addr
 c_ways_from:Addr
 p_ways_from:Addr
def zks (ad:Adr):List Addr:=[ad.x_NoKind,ad.x_NoHeap,ad.x_NoPlace,ad.x_NoNumber,ad.x_NoTally,ad.x_NotTree,ad.x_NotJoined,ad.x_NoWeights,ad.x_NoRow,ad.x_NoWeb,ad.x_NoSteps,ad.x_NoText,ad.x_TooGreat]
def clT (ad:Adr)(j:Nat):Addr:=(zks ad).getD (j % 16) 0
theorem hclT (ad:Adr)(j:Nat):clT ad j=clT ad (j % 16):=by unfold clT;rw[Nat.mod_mod]
structure Txt (K:W.Frag) (mg:Str->Option Value) (base:Heap) (ad:Adr):Prop where
 d_is_whole:Def K mg "is_whole" Z6 ["thing"] ad.f_is_whole ad.e_is_whole
 d_is_whole_within:Def K mg "is_whole_within" xo ["thing","least","most"] ad.f_is_whole_within ad.e_is_whole_within
 d_must_be_within:Def K mg "must_be_within" xG ["thing","least","most"] ad.f_must_be_within ad.e_must_be_within
 d_is_place_count:Def K mg "is_place_count" xI ["thing"] ad.f_is_place_count ad.e_is_place_count
 d_is_place:Def K mg "is_place" Z0 ["many","thing"] ad.f_is_place ad.e_is_place
 d_doubled:Def K mg "doubled" XH ["number","times"] ad.f_doubled ad.e_doubled
 d_is_pair:Def K mg "is_pair" XR ["many","thing"] ad.f_is_pair ad.e_is_pair
 d_are_ties:Def K mg "are_ties" Z5 ["many","thing"] ad.f_are_ties ad.e_are_ties
 d_is_web:Def K mg "is_web" Vj ["thing"] ad.f_is_web ad.e_is_web
 d_must_be_web:Def K mg "must_be_web" vL ["thing"] ad.f_must_be_web ad.e_must_be_web
 d_must_be_place:Def K mg "must_be_place" wa ["web","thing"] ad.f_must_be_place ad.e_must_be_place
 d_tie_between:Def K mg "tie_between" vF ["one","other"] ad.f_tie_between ad.e_tie_between
 d_neighbours:Def K mg "neighbours" v7 ["web","place"] ad.f_neighbours ad.e_neighbours
 d_ties_away:Def K mg "ties_away" YU ["web","start"] ad.f_ties_away ad.e_ties_away
 d_pieces:Def K mg "pieces" WG ["web"] ad.f_pieces ad.e_pieces
 d_is_joined:Def K mg "is_joined" YE ["web"] ad.f_is_joined ad.e_is_joined
 d_is_tree:Def K mg "is_tree" XQ ["web"] ad.f_is_tree ad.e_is_tree
 d_must_be_tree:Def K mg "must_be_tree" wJ ["web"] ad.f_must_be_tree ad.e_must_be_tree
 d_outer_neighbours:Def K mg "outer_neighbours" xf ["web","root"] ad.f_outer_neighbours ad.e_outer_neighbours
 d_outwards:Def K mg "outwards" ZN ["web","root"] ad.f_outwards ad.e_outwards
 d_heights_from:Def K mg "heights_from" wS ["web","root"] ad.f_heights_from ad.e_heights_from
 d_ways_from:Def K mg "ways_from" YT ["web","root"] ad.f_ways_from ad.e_ways_from
 d_way_through:Def K mg "way_through" vG ["ranked","way"] ad.f_way_through ad.e_way_through
 d_ways:Def K mg "ways" zct ["web","place"] ad.f_ways ad.e_ways
 d_worst_from:Def K mg "worst_from" Yk ["web","root","times"] ad.f_worst_from ad.e_worst_from
 d_tree_need:Def K mg "tree_need" YN ["web","place","times"] ad.f_tree_need ad.e_tree_need
 d_tree_worst:Def K mg "tree_worst" Yi ["web","place","times"] ad.f_tree_worst ad.e_tree_worst
 d__law_cell_at:Def K mg "_law_cell_at" wG ["script","k"] ad.f__law_cell_at ad.e__law_cell_at
 d__law_same:Def K mg "_law_same" YC ["found","due"] ad.f__law_same ad.e__law_same
 d__law_stir:Def K mg "_law_stir" YS ["cell","k"] ad.f__law_stir ad.e__law_stir
 d__law_tree_by:Def K mg "_law_tree_by" wX ["cell","most"] ad.f__law_tree_by ad.e__law_tree_by
 d__law_kinds:Def K mg "_law_kinds" v4 ["e"] ad.f__law_kinds ad.e__law_kinds
 d__law_worst:Def K mg "_law_worst" Yb ["web","root","times"] ad.f__law_worst ad.e__law_worst
 d__law_came:Def K mg "_law_came" YY ["way","web","root","times"] ad.f__law_came ad.e__law_came
 d_law:Def K mg "law" zgy ["script"] ad.f_law ad.e_law
 g_MOST_PLACES:mg "MOST_PLACES"=some (Value.int 8 ad.t_MOST_PLACES)
 z_ValueError:mg "ValueError"=none
 z_bool:mg "bool"=none
 z_enumerate:mg "enumerate"=none
 z_int:mg "int"=none
 z_isinstance:mg "isinstance"=none
 z_len:mg "len"=none
 z_list:mg "list"=none
 z_max:mg "max"=none
 z_min:mg "min"=none
 z_range:mg "range"=none
 z_reversed:mg "reversed"=none
 z_sorted:mg "sorted"=none
 z_str:mg "str"=none
 z_sum:mg "sum"=none
 z_tuple:mg "tuple"=none
 z_zip:mg "zip"=none
 g_NoKind:mg "NoKind"=some (Value.ref ad.x_NoKind)
 g_NoHeap:mg "NoHeap"=some (Value.ref ad.x_NoHeap)
 g_NoPlace:mg "NoPlace"=some (Value.ref ad.x_NoPlace)
 g_NoNumber:mg "NoNumber"=some (Value.ref ad.x_NoNumber)
 g_NoTally:mg "NoTally"=some (Value.ref ad.x_NoTally)
 g_NotTree:mg "NotTree"=some (Value.ref ad.x_NotTree)
 g_NotJoined:mg "NotJoined"=some (Value.ref ad.x_NotJoined)
 g_NoWeights:mg "NoWeights"=some (Value.ref ad.x_NoWeights)
 g_NoRow:mg "NoRow"=some (Value.ref ad.x_NoRow)
 g_NoWeb:mg "NoWeb"=some (Value.ref ad.x_NoWeb)
 g_NoSteps:mg "NoSteps"=some (Value.ref ad.x_NoSteps)
 g_NoText:mg "NoText"=some (Value.ref ad.x_NoText)
 g_TooGreat:mg "TooGreat"=some (Value.ref ad.x_TooGreat)
 g_StoneError:mg "StoneError"=some (Value.ref ad.x_StoneError)
 c_NoPlace:W.excIn K ad.x_NoPlace bmV "ValueError.__new__"=true
 c_NoNumber:W.excIn K ad.x_NoNumber bmV "ValueError.__new__"=true
 c_NotTree:W.excIn K ad.x_NotTree bmV "ValueError.__new__"=true
 y_NoPlace:Wg K (zks ad) ad.x_StoneError ad.x_NoPlace 2=true
 y_NoNumber:Wg K (zks ad) ad.x_StoneError ad.x_NoNumber 3=true
 y_NotTree:Wg K (zks ad) ad.x_StoneError ad.x_NotTree 5=true
 lc_outwards:ad.e_outwards.code=.ref ad.c_outwards
 la_outwards:Xb base mg ad.c_outwards ad.p_outwards "outwards.<locals>.<lambda>"
 lc_ways_from:ad.e_ways_from.code=.ref ad.c_ways_from
 la_ways_from:Xb base mg ad.c_ways_from ad.p_ways_from "ways_from.<locals>.<lambda>"
theorem zmO:(["other","web","place"]:List Str).Nodup:=by decide +kernel
theorem zmL:(["place","web","found","start","away","piece"]:List Str).Nodup:=by decide +kernel
theorem znc:(["other","web","root","away","outer","place"]:List Str).Nodup:=by decide +kernel
theorem zm3:(["other","web","root","outer","tall","place"]:List Str).Nodup:=by decide +kernel
theorem znw:(["others","web","root","tall","outer","ranked","found","place","at","other"]:List Str).Nodup:=by decide +kernel
def zaI:D->Bool
 | .int _=>true
 | _=>false
def yh (d:D)(lo hi:Int):Bool:=match d with
 | .int i=>decide (lo<=i)&&decide (i<=hi)
 | _=>false
section
variable {P:Program}{w:World}{K:W.Frag}{mg:Str->Option Value}{base:Heap}{ad:Adr}
def vN:List D->Option D
 | [d]=>if noS d=true then some (.bl (zaI d))else none
 | _=>none
def XU:SE->Ctl :=
 (yN (ZW (eUn (yZ .int) (zg 0)) (zaj (eUn (yZ .bool) (zg 0)))))
def zel:List D->Option D:=fnD 1 XU
theorem zmz {α:Type}{ds:List α}(h:ds.length=1):∃ a,ds=[a]:=by match ds,h with | [a],_=>exact⟨a,rfl⟩
theorem zhk {α:Type}{ds:List α}(h:ds.length=2):∃ a b,ds=[a,b]:=by match ds,h with | [a,b],_=>exact⟨a,b,rfl⟩
theorem len3 {α:Type}{ds:List α}(h:ds.length=3):∃ a b c,ds=[a,b,c]:=by match ds,h with | [a,b,c],_=>exact⟨a,b,c,rfl⟩
theorem ifS {c:Bool}{x y:D}(h:(if c=true then some x else none)=some y):c=true/\x=y:=by
 split at h
 .cases h
  exact⟨by assumption,rfl⟩
 .cases h
theorem zcD:∀ ds d,ds.length=1->vN ds=some d->zel ds=some d:=by
 intro ds d hl h
 obtain⟨a,rfl⟩:=zmz hl
 obtain⟨hn,rfl⟩:=ifS h
 cases a <;> first | rfl | cases hn
theorem zcx (T:Txt K mg base ad):yU P w K mg base CX0 1 ad.f_is_whole ad.e_is_whole ["thing"] (@spD ⟨K⟩ 1 vN):=by
 letI:KK:=⟨K⟩
 refine Ym (y4 (N:=["thing"]) (ps:=["thing"]) T.d_is_whole.fn zcV (g:=XU) λcdv A outer s H E hr=>?_) zcD
 unfold XU
 exact(zi (zB (YX (zN .int rfl T.z_isinstance (edv 0) (yL (v:=.ty "int") rfl T.z_int zdK rfl)) (ZB (ziO (zN .bool rfl T.z_isinstance (edv 0) (yL (v:=.ty "bool") rfl T.z_bool za1 rfl)))))))
def yp:SE->Ctl :=
 (yN (ZW (zr 1 vN (zb (zg 0) zt)) (xA leD leD (zg 1) (zg 0) (zg 2))))
def vS:List D->Option D:=fnD 3 yp
def zA:List D->Option D
 | [d,.int lo,.int hi]=>if noS d=true then some (.bl (yh d lo hi))else none
 | _=>none
theorem zas {a:D}{lo hi:Int}(hn:noS a=true)(hw:zaI a=false):vS [a,.int lo,.int hi]=some (.bl false):=by
 have e:vN [a]=some (.bl false):=by
  show(if noS a=true then some (D.bl (zaI a))else none)=_
  rw[j4 hn,hw]
 refine XG (ρ:=[.v a,.v (.int lo),.v (.int hi)]) rfl ?_
 unfold yp
 refine Zc (we ?_) rfl
 show(((vN [a]).bind asB).bind λc=>if c=true then _ else some (D.bl false))=_
 rw[e]
 rfl
theorem Xl:∀ ds d,ds.length=3->zA ds=some d->vS ds=some d:=by
 intro ds d hl h
 obtain⟨a,b,c,rfl⟩:=len3 hl
 cases b <;> try cases h
 cases c <;> try cases h
 rename_i lo hi
 obtain⟨hn,rfl⟩:=ifS h
 cases a with
 | scr _=>cases hn
 | int i =>
  refine XG (ρ:=[.v (.int i),.v (.int lo),.v (.int hi)]) rfl ?_
  unfold yp
  refine Zc (we ?_) rfl
  show(if decide (lo<=i)=true then some (D.bl (decide (i<=hi)))else some (.bl false))=some (.bl (decide (lo<=i)&&decide (i<=hi)))
  cases decide (lo<=i) <;> rfl
 | tup es=>exact zas hn rfl
 | lst es=>exact zas hn rfl
 | dct z t ks vs=>exact zas hn rfl
 | non=>rfl
 | bl _=>rfl
 | str _=>rfl
theorem yF (T:Txt K mg base ad):yU P w K mg base CX0 2 ad.f_is_whole_within ad.e_is_whole_within ["thing","least","most"] (@spD ⟨K⟩ 3 zA):=by
 letI:KK:=⟨K⟩
 have G_is_whole:=zcx (P:=P) (w:=w) (base:=base) T
 refine Ym (y4 (N:=["thing","least","most"]) (ps:=["thing","least","most"]) T.d_is_whole_within.fn Xg (g:=yp) λcdv A outer s H E hr=>?_) Xl
 unfold yp
 exact(zi (zB (YX (zm G_is_whole hr rfl T.d_is_whole (za (edv 0) zc)) (ZB (zhx zg2 zg2 xS xS (edv 1) (edv 0) (edv 2) (λa b c=>zid zg2 zg2 a b c))))))
def xa:SE->Ctl :=
 (yN (zr 3 zA (zb (zg 0) (zb (eC (.int 1)) (zb (eC (.int 8)) zt)))))
def wc:List D->Option D:=fnD 1 xa
def yD:List D->Option D
 | [d]=>if noS d=true then some (.bl (yh d 1 8))else none
 | _=>none
theorem XN:∀ ds d,ds.length=1->yD ds=some d->wc ds=some d:=by
 intro ds d hl h
 obtain⟨a,rfl⟩:=zmz hl
 have e:wc [a]=zA [a,.int 1,.int 8]:=by
  cases h2:zA [a,.int 1,.int 8] <;> simp[wc,xa,fnD,zT,yN,Zr,sIf,x8,Zt,sNo,yb,zck,Zu,Wo,zci,XL,vEv,visF,visG,Sl.f,Sl.g,zg,eC,zo,ZW,eOr,zaj,eIf,eUn,Wk,Yo,x5,ye,zb,zt,zr,eFn,fFn,tOf,Yu,XJ,yT,asB,asI,yd,Xa,Yt,wl,vX,WH,vK,ltD,leD,gtD,geD,Vy,zI,yV,ym,yX,Vf,zZ,ixD,Zz,yZ,isT,eSl,Zs,w8,xA,xC,iOf,ZQ,xi,WF,vb,Vu,yr,Ys,fLC,wY,yt,Zp,yl,Ww,xx,W8,b1,b2,h2]
 rw[e]
 exact h
theorem XO (T:Txt K mg base ad):yU P w K mg base CX0 3 ad.f_is_place_count ad.e_is_place_count ["thing"] (@spD ⟨K⟩ 1 yD):=by
 letI:KK:=⟨K⟩
 have G_is_whole_within:=yF (P:=P) (w:=w) (base:=base) T
 refine Ym (y4 (N:=["thing"]) (ps:=["thing"]) T.d_is_place_count.fn XM (g:=xa) λcdv A outer s H E hr=>?_) XN
 unfold xa
 exact(zi (zB (zm G_is_whole_within hr rfl T.d_is_whole_within (za (edv 0) (za (ze zd) (za (ze (xw (v:=.int 8) rfl T.g_MOST_PLACES ⟨_,rfl⟩)) zc))))))
def Ze:SE->Ctl :=
 (yN (zr 3 zA (zb (zg 1) (zb (eC (.int 0)) (zb (zo Xa (zg 0) (eC (.int 1))) zt)))))
def XX:List D->Option D:=fnD 2 Ze
def ya:List D->Option D
 | [.int m,d]=>if noS d=true then some (.bl (yh d 0 (m - 1)))else none
 | _=>none
theorem zcM:∀ ds d,ds.length=2->ya ds=some d->XX ds=some d:=by
 intro ds d hl h
 obtain⟨a,b,rfl⟩:=zhk hl
 cases a <;> try cases h
 rename_i m
 have e:XX [.int m,b]=zA [b,.int 0,.int (m - 1)]:=by
  cases h2:zA [b,.int 0,.int (m - 1)] <;> simp[XX,Ze,fnD,zT,yN,Zr,sIf,x8,Zt,sNo,yb,zck,Zu,Wo,zci,XL,vEv,visF,visG,Sl.f,Sl.g,zg,eC,zo,ZW,eOr,zaj,eIf,eUn,Wk,Yo,x5,ye,zb,zt,zr,eFn,fFn,tOf,Yu,XJ,yT,asB,asI,yd,Xa,Yt,wl,vX,WH,vK,ltD,leD,gtD,geD,Vy,zI,yV,ym,yX,Vf,zZ,ixD,Zz,yZ,isT,eSl,Zs,w8,xA,xC,iOf,ZQ,xi,WF,vb,Vu,yr,Ys,fLC,wY,yt,Zp,yl,Ww,xx,W8,b1,b2,h2]
 rw[e]
 exact h
theorem ZV (T:Txt K mg base ad):yU P w K mg base CX0 3 ad.f_is_place ad.e_is_place ["many","thing"] (@spD ⟨K⟩ 2 ya):=by
 letI:KK:=⟨K⟩
 have G_is_whole_within:=yF (P:=P) (w:=w) (base:=base) T
 refine Ym (y4 (N:=["many","thing"]) (ps:=["many","thing"]) T.d_is_place.fn zcw (g:=Ze) λcdv A outer s H E hr=>?_) zcM
 unfold Ze
 exact(zi (zB (zm G_is_whole_within hr rfl T.d_is_whole_within (za (edv 1) (za (ze zd) (za (ZJ (edv 0) (ze zd)) zc))))))
theorem W3 {m i:Int}:yh (.int i) 0 (m - 1)=inR m i:=rfl
theorem zkl {d:D}{lo hi:Int}(h:∀ i,d≠.int i):yh d lo hi=false:=by
 cases d <;> first | rfl | exact absurd rfl (h _)
theorem zbO {d:D}{lo hi:Int}(h:yh d lo hi=true):∃ i,d=.int i:=by
 cases d with
 | int i=>exact⟨i,rfl⟩
 | _=>cases h
def Xi:SE->Ctl :=
 (zT (sIf (XJ (yT (tOf (eUn (yZ .tuple) (zg 1)))) (tOf (zo neD (eFn Zz (zb (zg 1) zt)) (eC (.int 2))))) (yN (eC (.bl false))) yb)
  (yN (ZW (zr 2 ya (zb (zg 0) (zb (zo ixD (zg 1) (eC (.int 0))) zt))) (ZW (zr 2 ya (zb (zg 0) (zb (zo ixD (zg 1) (eC (.int 1))) zt))) (zo neD (zo ixD (zg 1) (eC (.int 0))) (zo ixD (zg 1) (eC (.int 1))))))))
def ze0:List D->Option D:=fnD 2 Xi
def wQ:List D->Option D
 | [.int m,d]=>if noS d=true then some (.bl (wf m d))else none
 | _=>none
theorem zhY {m:Int}{x y:D}(h:yh x 0 (m - 1)=false):wf m (.tup [x,y])=false:=by
 cases x with
 | int i =>
  cases y with
  | int j =>
   show(inR m i&&inR m j&&!decide (i=j))=false
   rw[show inR m i=false from h]
   rfl
  | _=>rfl
 | _=>rfl
theorem zha {m:Int}{x y:D}(h:yh y 0 (m - 1)=false):wf m (.tup [x,y])=false:=by
 cases x with
 | int i =>
  cases y with
  | int j =>
   show(inR m i&&inR m j&&!decide (i=j))=false
   rw[show inR m j=false from h,u16]
   rfl
  | _=>rfl
 | _=>rfl
theorem zeg:∀ ds d,ds.length=2->wQ ds=some d->ze0 ds=some d:=by
 intro ds d hl h
 obtain⟨a,b,rfl⟩:=zhk hl
 cases a <;> try cases h
 rename_i m
 obtain⟨hn,rfl⟩:=ifS h
 clear h
 cases b with
 | tup es =>
  refine XG (ρ:=[.v (.int m),.v (.tup es)]) rfl ?_
  unfold Xi
  by_cases hl:es.length=2
  .obtain⟨x,y,rfl⟩:=zhk hl
   have hx:noS x=true:=Zj (ds:=[x,y]) (i:=0) hn rfl
   have hy:noS y=true:=Zj (ds:=[x,y]) (i:=1) hn rfl
   have e0:ya [.int m,x]=some (.bl (yh x 0 (m - 1))):=by
    show(if noS x=true then some (D.bl (yh x 0 (m - 1)))else none)=_
    rw[j4 hx]
   have e1:ya [.int m,y]=some (.bl (yh y 0 (m - 1))):=by
    show(if noS y=true then some (D.bl (yh y 0 (m - 1)))else none)=_
    rw[j4 hy]
   refine zy (ρ':=[.v (.int m),.v (.tup [x,y])]) rfl (Zc (we ?_) rfl)
   show(((ya [.int m,x]).bind asB).bind λc=>if c=true then (((ya [.int m,y]).bind asB).bind λc=>if c=true then neD x y else some (D.bl false))else some (D.bl false))=_
   rw[e0,e1]
   cases h1:yh x 0 (m - 1) with
   | false=>rw[zhY h1];rfl
   | true =>
    cases h2:yh y 0 (m - 1) with
    | false=>rw[zha h2];rfl
    | true =>
     obtain⟨i,rfl⟩:=zbO h1
     obtain⟨j,rfl⟩:=zbO h2
     show some (D.bl (!decide (i=j)))=some (.bl (inR m i&&inR m j&&!decide (i=j)))
     rw[show inR m i=true from h1,show inR m j=true from h2]
     rfl
  .have e:wf m (.tup es)=false:=by
    unfold wf ZG
    split
    .rename_i t ht
     split at ht
     .rename_i e'
      injection e' with e'
      rw[e']at hl
      exact absurd rfl hl
     .cases ht
    .rfl
   rw[e]
   refine yW (WA (c:=true) ?_ (λ_=>Zc rfl rfl) λz=>by cases z)
   show some (!decide ((es.length:Int)=2))=_
   rw[i7 (show ¬ (es.length:Int)=2 from λh=>hl (Int.ofNat.inj h))]
   rfl
 | scr _=>cases hn
 | _=>rfl
theorem zes (T:Txt K mg base ad):yU P w K mg base CX0 4 ad.f_is_pair ad.e_is_pair ["many","thing"] (@spD ⟨K⟩ 2 wQ):=by
 letI:KK:=⟨K⟩
 have G_is_place:=ZV (P:=P) (w:=w) (base:=base) T
 refine Ym (y4 (N:=["many","thing"]) (ps:=["many","thing"]) T.d_is_pair.fn zeu (g:=Xi) λcdv A outer s H E hr=>?_) zeg
 unfold Xi
 exact(zh (xD (zjI (zeb (vh (x6 (zN .tuple rfl T.z_isinstance (edv 1) (yL (v:=.ty "tuple") rfl T.z_tuple xU rfl)))) (VZ (yj VJ Xe (zH _) (zP zG x9 rfl T.z_len Yr (za (edv 1) zc)) (ze zd))))) (zi (zB (ZZ Yw))) zK)
  (zi (zB (YX (zm G_is_place hr rfl T.d_is_place (za (edv 0) (za (zL (edv 1) (ze zd) (λ_ _=>rfl)) zc))) (YX (zm G_is_place hr rfl T.d_is_place (za (edv 0) (za (zL (edv 1) (ze zd) (λ_ _=>rfl)) zc))) (ZB (ZF VJ Xe (zH _) (zL (edv 1) (ze zd) (λ_ _=>rfl)) (zL (edv 1) (ze zd) (λ_ _=>rfl)))))))))
def zbe (ds:List D):Nat->Option Tie
 | 0=>none
 | k+1=>(ds[k]?).bind ZG
def Yx:SE->Ctl :=
 (zT (sIf (XJ (yT (tOf (zr 2 wQ (zb (zg 0) (zb (zg 3) zt))))) (tOf (zo gtD (zo ixD (zg 3) (eC (.int 0))) (zo ixD (zg 3) (eC (.int 1)))))) (yN (eC (.bl false))) yb)
  (sIf (Yu (tOf (zo gtD (zg 2) (eC (.int 0)))) (tOf (zo leT (zg 3) (zo ixD (zg 1) (zo Xa (zg 2) (eC (.int 1))))))) (yN (eC (.bl false))) yb))
def vU:SE->Ctl :=
 (zT (sIf (yT (tOf (eUn (yZ .tuple) (zg 1)))) (yN (eC (.bl false))) yb)
  (zT (ZQ (yr (zb (zg 1) zt)) (Ww 2 (xx (yl 2) (xx (yl 3) W8))) Yx)
  (yN (eC (.bl true)))))
def zdL:List D->Option D:=fnD 4 vU
def vM:List D->Option D
 | [.int m,d]=>if noS d=true then some (.bl (Za m d))else none
 | _=>none
theorem VD {m:Int}{d:D}(h:wf m d=true):∃ t,d=zE t:=by
 unfold wf at h
 split at h
 .rename_i t ht
  exact⟨t,W6 ht⟩
 .cases h
theorem zco:∀ ds d,ds.length=2->vM ds=some d->zdL ds=some d:=by
 intro ds d hl h
 obtain⟨a,b,rfl⟩:=zhk hl
 cases a <;> try cases h
 rename_i m
 obtain⟨hn,rfl⟩:=ifS h
 clear h hl
 cases b with
 | scr _=>cases hn
 | tup es =>
  refine XG (g:=vU) rfl ?_
  unfold vU
  refine zy rfl ?_
  refine yW (Wn (ds:=Xv 0 es) (λi ρ=>∃ o1 o2,ρ=[.v (.int m),.v (.tup es),o1,o2]/\yx m none es=yx m (zbe es i) (es.drop i)/\∀ k,i=k+1->∃ p,es[k]?=some (zE p)) rfl
   ⟨.no,.no,rfl,rfl,λk e=>by cases e⟩ ?_ ?_)
  .rintro i d ρ hd ⟨o1,o2,rfl,hp,hk⟩
   rw[vR]at hd
   obtain⟨dx,hdx,rfl⟩:=t9.mp hd
   rw[u02]
   refine⟨_,rfl,?_⟩
   have hdrop:es.drop i=dx::es.drop (i+1):=by
    obtain⟨h1,h2⟩:=u8.mp hdx
    rw[u0z h1,h2]
   have hnx:noS dx=true:=Zj hn hdx
   unfold Yx
   cases hpr:wf m dx with
   | false =>
    have e1:wQ [.int m,dx]=some (.bl false):=by
     show(if noS dx=true then some (D.bl (wf m dx))else none)=_
     rw[j4 hnx,hpr]
    refine yW (WA (c:=true) (show(((wQ [.int m,dx]).bind asB).map (!·)).bind (λc=>if c=true then some true else _)=_ by rw[e1];rfl) (λ_=>Zc rfl ?_) (λz=>by cases z))
    have e:yx m none es=false:=by
     rw[hp,hdrop]
     unfold yx
     split
     .rw[hpr];rfl
     .rfl
    show D.bl false=.bl (yx m none es)
    rw[e]
   | true =>
    obtain⟨t,rfl⟩:=VD hpr
    have e1:wQ [.int m,zE t]=some (.bl true):=by
     show(if noS (zE t)=true then some (D.bl (wf m (zE t)))else none)=_
     rw[j4 hnx,hpr]
    have step:yx m none es=(!decide (t.2 < t.1)&&zb2 (zbe es i) t&&yx m (some t) (es.drop (i+1))):=by
     rw[hp,hdrop]
     conv=>lhs;unfold yx
     rw[Yz,hpr]
     rfl
    have prevS:zbe es (i+1)=some t:=by
     show(es[i]?).bind ZG=some t
     rw[hdx]
     rfl
    refine yW (WA (c:=decide (t.2 < t.1)) (show(((wQ [.int m,zE t]).bind asB).map (!·)).bind (λc=>if c=true then some true else some (decide (t.2 < t.1)))=_ by rw[e1];rfl) (λc=>Zc rfl ?_) (λc=>ZH rfl ?_))
    .show D.bl false=.bl (yx m none es)
     rw[step,c]
     rfl
    .cases i with
     | zero =>
      refine WA (c:=false) rfl (λz=>by cases z) (λ_=>ZH rfl ?_)
      refine⟨_,_,rfl,?_,λk e=>?_⟩
      .rw[prevS,step,c]
       rfl
      .cases e
       exact⟨t,hdx⟩
     | succ j =>
      obtain⟨p,hpk⟩:=hk j rfl
      have prevK:zbe es (j+1)=some p:=by
       show(es[j]?).bind ZG=some p
       rw[hpk]
       rfl
      rw[prevK]at step
      have ea:atI es ((((j+1:Nat):Int)) - 1)=some (zE p):=by
       rw[show(((j+1:Nat):Int)) - 1=(j:Nat)from Int.add_sub_cancel (j:Int) 1]
       exact zfO hpk
      have okP:zb2 (some p) t=!leP t p:=rfl
      refine WA (c:=leP t p) ?_ (λc2=>Zc rfl ?_) (λc2=>ZH rfl ?_)
      .have z:decide ((0:Int) < ((j+1:Nat):Int))=true:=o0 (Int.natCast_pos.mpr (Nat.succ_pos j))
       show((some (decide ((0:Int) < ((j+1:Nat):Int)))).bind λc=>if c=true then (((atI es (((j+1:Nat):Int) - 1)).bind λy=>leT (zE t) y).bind asB)else some false)=_
       rw[z,ea]
       rfl
      .show D.bl false=.bl (yx m none es)
       rw[step,okP,c2,c]
       rfl
      .refine⟨_,_,rfl,?_,λk' e=>?_⟩
       .rw[prevS,step,okP,c2,c]
        rfl
       .cases e
        exact⟨t,hdx⟩
  .rintro ρ ⟨o1,o2,rfl,hp,hk⟩
   refine Zc rfl ?_
   show D.bl true=.bl (yx m none es)
   rw[hp,xg,u2a]
   cases zbe es es.length <;> rfl
 | _=>rfl
theorem zcL (T:Txt K mg base ad):yU P w K mg base CX0 5 ad.f_are_ties ad.e_are_ties ["many","thing"] (@spD ⟨K⟩ 2 vM):=by
 letI:KK:=⟨K⟩
 have G_is_pair:=zes (P:=P) (w:=w) (base:=base) T
 refine Ym (y4 (N:=["many","thing","at","tie"]) (ps:=["many","thing"]) T.d_are_ties.fn ZU (g:=vU) λcdv A outer s H E hr=>?_) zco
 unfold vU Yx
 exact(zh (xD (vh (x6 (zN .tuple rfl T.z_isinstance (edv 1) (yL (v:=.ty "tuple") rfl T.z_tuple xU rfl)))) (zi (zB (ZZ Yw))) zK)
  (zh (ZE i5 rfl (zaz rfl T.z_enumerate vg (za (edv 1) zc)) (zbb rfl (xV (zW (zF (i:=2) ZU.nd rfl (Or.inl rfl))) (xV (zW (zF (i:=3) ZU.nd rfl (Or.inl rfl))) WV))) (zh (xD (zjI (zeb (vh (x6 (zm G_is_pair hr rfl T.d_is_pair (za (edv 0) (za (edv 3) zc))))) (VZ (yj zd0 xS (zH _) (zL (edv 3) (ze zd) (λ_ _=>rfl)) (zL (edv 3) (ze zd) (λ_ _=>rfl)))))) (zi (zB (ZZ Yw))) zK)
  (zi (xD (zjI (zmm (yj zd0 xS (zH _) (edv 2) (ze zd)) (zjb (yj (zlJ hr.units0) zkb (zH _) (edv 3) (zL (edv 1) (ZJ (edv 2) (ze zd)) (λ_ _=>rfl)))))) (zi (zB (ZZ Yw))) zK))))
  (zi (zB (ZZ Yw)))))
def Zb:SE->Ctl :=
 (zT (sIf (XJ (yT (tOf (eUn (yZ .tuple) (zg 0)))) (tOf (zo neD (eFn Zz (zb (zg 0) zt)) (eC (.int 2))))) (yN (eC (.bl false))) yb)
  (yN (ZW (zr 1 yD (zb (zo ixD (zg 0) (eC (.int 0))) zt)) (zr 2 vM (zb (zo ixD (zg 0) (eC (.int 0))) (zb (zo ixD (zg 0) (eC (.int 1))) zt))))))
def WC:List D->Option D:=fnD 1 Zb
def Xd:List D->Option D
 | [d]=>if noS d=true then some (.bl (vQ d))else none
 | _=>none
theorem zfT {x y:D}:vQ (.tup [x,y])=(yh x 1 8&&match x with | .int m=>Za m y | _=>false):=by
 cases x <;> rfl
theorem zfj:∀ ds d,ds.length=1->Xd ds=some d->WC ds=some d:=by
 intro ds d hl h
 obtain⟨a,rfl⟩:=zmz hl
 obtain⟨hn,rfl⟩:=ifS h
 clear h hl
 cases a with
 | scr _=>cases hn
 | tup es =>
  by_cases hl:es.length=2
  .obtain⟨x,y,rfl⟩:=zhk hl
   have hx:noS x=true:=Zj (ds:=[x,y]) (i:=0) hn rfl
   have hy:noS y=true:=Zj (ds:=[x,y]) (i:=1) hn rfl
   have ec:yD [x]=some (.bl (yh x 1 8)):=by simp[yD,hx]
   rw[zfT]
   by_cases ix:∃ i,x=.int i
   .obtain⟨i,rfl⟩:=ix
    have et:vM [.int i,y]=some (.bl (Za i y)):=by simp[vM,hy]
    cases hc:yh (.int i) 1 8 <;> rw[hc]at ec <;> simp[WC,Zb,fnD,zT,yN,Zr,sIf,x8,Zt,sNo,yb,zck,Zu,Wo,zci,XL,vEv,visF,visG,Sl.f,Sl.g,zg,eC,zo,ZW,eOr,zaj,eIf,eUn,Wk,Yo,x5,ye,zb,zt,zr,eFn,fFn,tOf,Yu,XJ,yT,asB,asI,yd,Xa,Yt,wl,vX,WH,vK,ltD,leD,gtD,geD,Vy,zI,yV,ym,yX,Vf,zZ,ixD,Zz,yZ,isT,eSl,Zs,w8,xA,xC,iOf,ZQ,xi,WF,vb,Vu,yr,Ys,fLC,wY,yt,Zp,yl,Ww,xx,W8,b1,b2,ec,et,atI,ixN]
   .have n2:yh x 1 8=false:=zkl λj hj=>ix ⟨j,hj⟩
    rw[n2]at ec ⊢
    simp[WC,Zb,fnD,zT,yN,Zr,sIf,x8,Zt,sNo,yb,zck,Zu,Wo,zci,XL,vEv,visF,visG,Sl.f,Sl.g,zg,eC,zo,ZW,eOr,zaj,eIf,eUn,Wk,Yo,x5,ye,zb,zt,zr,eFn,fFn,tOf,Yu,XJ,yT,asB,asI,yd,Xa,Yt,wl,vX,WH,vK,ltD,leD,gtD,geD,Vy,zI,yV,ym,yX,Vf,zZ,ixD,Zz,yZ,isT,eSl,Zs,w8,xA,xC,iOf,ZQ,xi,WF,vb,Vu,yr,Ys,fLC,wY,yt,Zp,yl,Ww,xx,W8,b1,b2,ec,atI,ixN]
  .have e:vQ (.tup es)=false:=zkj λm ties h _=>by
    unfold zw at h
    injection h with h
    rw[h]at hl
    exact hl rfl
   rw[e]
   have:¬ (es.length:Int)=2:=by omega
   simp[WC,Zb,fnD,zT,yN,Zr,sIf,x8,Zt,sNo,yb,zck,Zu,Wo,zci,XL,vEv,visF,visG,Sl.f,Sl.g,zg,eC,zo,ZW,eOr,zaj,eIf,eUn,Wk,Yo,x5,ye,zb,zt,zr,eFn,fFn,tOf,Yu,XJ,yT,asB,asI,yd,Xa,Yt,wl,vX,WH,vK,ltD,leD,gtD,geD,Vy,zI,yV,ym,yX,Vf,zZ,ixD,Zz,yZ,isT,eSl,Zs,w8,xA,xC,iOf,ZQ,xi,WF,vb,Vu,yr,Ys,fLC,wY,yt,Zp,yl,Ww,xx,W8,b1,b2,this]
 | _=>rfl
theorem zeC (T:Txt K mg base ad):yU P w K mg base CX0 6 ad.f_is_web ad.e_is_web ["thing"] (@spD ⟨K⟩ 1 Xd):=by
 letI:KK:=⟨K⟩
 have G_is_place_count:=XO (P:=P) (w:=w) (base:=base) T
 have G_are_ties:=zcL (P:=P) (w:=w) (base:=base) T
 refine Ym (y4 (N:=["thing"]) (ps:=["thing"]) T.d_is_web.fn zgR (g:=Zb) λcdv A outer s H E hr=>?_) zfj
 unfold Zb
 exact(zh (xD (zjI (zeb (vh (x6 (zN .tuple rfl T.z_isinstance (edv 0) (yL (v:=.ty "tuple") rfl T.z_tuple xU rfl)))) (VZ (yj VJ Xe (zH _) (zP zG x9 rfl T.z_len Yr (za (edv 0) zc)) (ze zd))))) (zi (zB (ZZ Yw))) zK)
  (zi (zB (YX (zm G_is_place_count hr rfl T.d_is_place_count (za (zL (edv 0) (ze zd) (λ_ _=>rfl)) zc)) (ZB (zm G_are_ties hr rfl T.d_are_ties (za (zL (edv 0) (ze zd) (λ_ _=>rfl)) (za (zL (edv 0) (ze zd) (λ_ _=>rfl)) zc))))))))
theorem zjH (m:Int)(ts:List Tie):noS (zw m ts)=true:=by
 have:∀ ts:List Tie,zi8 (ts.map zE)=true:=by
  intro ts
  induction ts with
  | nil=>rfl
  | cons t ts ih=>show(noS (zE t)&&zi8 (ts.map zE))=true;rw[ih];rfl
 show(noS (.int m)&&(noS (.tup (ts.map zE))&&true))=true
 rw[show noS (.tup (ts.map zE))=zi8 (ts.map zE)from rfl,this ts]
 rfl
def wz:SE->Ctl :=
 (sIf (yT (tOf (zr 1 Xd (zb (zg 0) zt)))) sNo yb)
def Xf:List D->Option D:=fnD 1 wz
def zM:List D->Option D
 | [d]=>if vQ d=true then some .non else none
 | _=>none
theorem VB:∀ ds d,ds.length=1->zM ds=some d->Xf ds=some d:=by
 intro ds d hl h
 obtain⟨a,rfl⟩:=zmz hl
 obtain⟨hw,rfl⟩:=ifS h
 obtain⟨m,ts,rfl,_⟩:=(xN a).mp hw
 have e:Xd [zw m ts]=some (.bl true):=by simp[Xd,zjH m ts,hw]
 simp[Xf,wz,fnD,zT,yN,Zr,sIf,x8,Zt,sNo,yb,zck,Zu,Wo,zci,XL,vEv,visF,visG,Sl.f,Sl.g,zg,eC,zo,ZW,eOr,zaj,eIf,eUn,Wk,Yo,x5,ye,zb,zt,zr,eFn,fFn,tOf,Yu,XJ,yT,asB,asI,yd,Xa,Yt,wl,vX,WH,vK,ltD,leD,gtD,geD,Vy,zI,yV,ym,yX,Vf,zZ,ixD,Zz,yZ,isT,eSl,Zs,w8,xA,xC,iOf,ZQ,xi,WF,vb,Vu,yr,Ys,fLC,wY,yt,Zp,yl,Ww,xx,W8,b1,b2,e]
theorem xO (T:Txt K mg base ad):yU P w K mg base CX0 7 ad.f_must_be_web ad.e_must_be_web ["thing"] (@spD ⟨K⟩ 1 zM):=by
 letI:KK:=⟨K⟩
 have G_is_web:=zeC (P:=P) (w:=w) (base:=base) T
 refine Ym (y4 (N:=["thing"]) (ps:=["thing"]) T.d_must_be_web.fn Vw (g:=wz) λcdv A outer s H E hr=>?_) VB
 unfold wz
 exact(zi (xD (vh (x6 (zm G_is_web hr rfl T.d_is_web (za (edv 0) zc)))) (zi Ws) zK))
def zki:D->Bool
 | .int i=>decide (0<=i)
 | _=>false
def zlG (m:Int):D->Bool
 | .tup ds=>decide ((ds.length:Int)=m)&&ds.all zki
 | _=>false
theorem Zo {m:Int}{ts:List Tie}(h:zY m ts):vb [.int m]=some (Wq 0 m.toNat):=by
 have:=h.lo
 have:=h.hi
 show(if zg0 m=true then some (Wq 0 m.toNat)else none)=_
 rw[j4 (yQ.mpr ⟨by omega,by omega⟩)]
def zjf:D->Int
 | .tup [.int m,_]=>m
 | _=>0
def zjs:D->List Tie
 | .tup [_,.tup l]=>(zbV l).getD []
 | _=>[]
theorem WK (m:Int)(ts:List Tie):zjf (zw m ts)=m:=rfl
theorem zft (ts:List Tie):ts.map zE=ts.map prD:=rfl
theorem WT (m:Int)(ts:List Tie):zjs (zw m ts)=ts:=by
 show(zbV (ts.map zE)).getD []=ts
 rw[zft,zcb]
 rfl
def zcj (a b:Int):Tie:=(if b < a then b else a,if b > a then b else a)
def xu:SE->Ctl :=
 (sIf (yT (tOf (zr 2 ya (zb (zo ixD (zg 0) (eC (.int 0))) (zb (zg 1) zt))))) sNo yb)
def YW:List D->Option D:=fnD 2 xu
def zU:List D->Option D
 | [.tup [.int m,_],.int p]=>if (decide (0<=p)&&decide (p<=m - 1))=true then some .non else none
 | _=>none
theorem Wl:∀ ds d,ds.length=2->zU ds=some d->YW ds=some d:=by
 intro ds d hl h
 obtain⟨a,b,rfl⟩:=zhk hl
 unfold zU at h
 split at h
 .rename_i m t p' e
  injection e with e1 e2
  injection e2 with e2 _
  subst e1 e2
  obtain⟨hn,rfl⟩:=ifS h
  have ec:ya [.int m,.int p']=some (.bl true):=by
   show(if noS (.int p')=true then some (D.bl (yh (.int p') 0 (m - 1)))else none)=_
   rw[j4 (show noS (.int p')=true from rfl),W3]
   unfold inR
   rw[hn]
  simp[YW,xu,fnD,zT,yN,Zr,sIf,x8,Zt,sNo,yb,zck,Zu,Wo,zci,XL,vEv,visF,visG,Sl.f,Sl.g,zg,eC,zo,ZW,eOr,zaj,eIf,eUn,Wk,Yo,x5,ye,zb,zt,zr,eFn,fFn,tOf,Yu,XJ,yT,asB,asI,yd,Xa,Yt,wl,vX,WH,vK,ltD,leD,gtD,geD,Vy,zI,yV,ym,yX,Vf,zZ,ixD,Zz,yZ,isT,eSl,Zs,w8,xA,xC,iOf,ZQ,xi,WF,vb,Vu,yr,Ys,fLC,wY,yt,Zp,yl,Ww,xx,W8,b1,b2,ec,atI,ixN]
 .cases h
theorem wm (T:Txt K mg base ad):yU P w K mg base CX0 4 ad.f_must_be_place ad.e_must_be_place ["web","thing"] (@spD ⟨K⟩ 2 zU):=by
 letI:KK:=⟨K⟩
 have G_is_place:=ZV (P:=P) (w:=w) (base:=base) T
 refine Ym (y4 (N:=["web","thing"]) (ps:=["web","thing"]) T.d_must_be_place.fn Yl (g:=xu) λcdv A outer s H E hr=>?_) Wl
 unfold xu
 exact(zi (xD (vh (x6 (zm G_is_place hr rfl T.d_is_place (za (zL (edv 0) (ze zd) (λ_ _=>rfl)) (za (edv 1) zc))))) (zi Ws) zK))
theorem Y5 {m:Int}{ts:List Tie}{p:Int}(hp:0<=p/\p < m):zU [zw m ts,.int p]=some .non:=by
 show(if (decide (0<=p)&&decide (p<=m - 1))=true then some D.non else none)=_
 rw[o0 hp.1,o0 (by omega)]
 rfl
def vZ:SE->Ctl :=
 (yN (Yo (zb (eFn zhq (zb (zg 0) (zb (zg 1) zt))) (zb (eFn zdU (zb (zg 0) (zb (zg 1) zt))) zt))))
def zal:List D->Option D:=fnD 2 vZ
def xt:List D->Option D
 | [.int a,.int b]=>some (zE (zcj a b))
 | _=>none
theorem VM:∀ ds d,ds.length=2->xt ds=some d->zal ds=some d:=by
 intro ds d hl h
 obtain⟨a,b,rfl⟩:=zhk hl
 cases a <;> try cases h
 cases b <;> try cases h
 rfl
theorem VQ (T:Txt K mg base ad):yU P w K mg base CX0 1 ad.f_tie_between ad.e_tie_between ["one","other"] (@spD ⟨K⟩ 2 xt):=by
 letI:KK:=⟨K⟩
 refine Ym (y4 (N:=["one","other"]) (ps:=["one","other"]) T.d_tie_between.fn VL (g:=vZ) λcdv A outer s H E hr=>?_) VM
 unfold vZ
 exact(zi (zB (wR (za (zP (zbH rfl) zdi rfl T.z_min ziP (za (edv 0) (za (edv 1) zc))) (za (zP (Ve rfl) zaL rfl T.z_max zdh (za (edv 0) (za (edv 1) zc))) zc)))))
theorem zfI (ts:List Tie):(ts.map zE).all (okE 20)=true:=by
 rw[u2i,u0k]
 exact λt _=>rfl
theorem zdt (s t:Tie):eqN 20 (zE s) (zE t)=decide (s=t):=by
 have:eqN 20 (zE s) (zE t)=((s.1 == t.1)&&((s.2 == t.2)&&true)&&true):=rfl
 rw[this,u3t,u3t]
 by_cases h:s=t
 .subst h
  simp
 .rw[i7 h,Bool.and_eq_false_iff]
  by_cases h1:s.1=t.1
  .exact .inr (u1N.mpr λh2=>h (u3w h1 h2))
  .exact .inl (u1N.mpr h1)
theorem zhn (t:Tie)(ts:List Tie):inD (zE t) (.tup (ts.map zE))=some (.bl (decide (t∈ts))):=by
 show(zlu (zE t) (ts.map zE)).map D.bl=_
 unfold zlu
 rw[j4 ⟨rfl,zfI ts⟩]
 show some (D.bl ((ts.map zE).any λe=>eqN 20 e (zE t)))=_
 rw[List.any_map]
 congr 2
 rw[u1U,List.any_eq_true,b9]
 constructor
 .rintro⟨s,hs,h⟩
  have h:eqN 20 (zE s) (zE t)=true:=h
  rw[zdt,b9]at h
  subst h
  exact hs
 .exact λh=>⟨t,h,by show eqN 20 (zE t) (zE t)=true;rw[zdt];exact o0 rfl⟩
def nbN (m:Int)(ts:List Tie)(p:Int):List Nat:=(List.range m.toNat).filter λk:Nat=>decide (zcj p k∈ts)
def zR (k:Nat):D:=.int ((0:Int)+(k:Int))
def vm:SE->Ctl :=
 (yN (x5 (fLC (WF vb (zb (zo ixD (zg 0) (eC (.int 0))) zt)) b1 (tOf (zo inD (zr 2 xt (zb (zg 2) (zb (zg 0) zt))) (zo ixD (zg 1) (eC (.int 1))))) (zg 0))))
def za9:List D->Option D:=fnD 2 vm
def zS:List D->Option D
 | [w,.int p]=>if vQ w=true then some (.lst ((nbN (zjf w) (zjs w) p).map zR))else none
 | _=>none
theorem zaa:∀ ds d,ds.length=2->zS ds=some d->za9 ds=some d:=by
 intro ds d hl h
 obtain⟨a,b,rfl⟩:=zhk hl
 cases b <;> try cases h
 rename_i p
 obtain⟨hw,rfl⟩:=ifS h
 obtain⟨m,ts,rfl,ok⟩:=(xN a).mp hw
 rw[WK,WT]
 refine XG rfl ?_
 unfold vm
 refine Zc (d:=.lst ((nbN m ts p).map zR)) ?_ rfl
 have e:fLC (WF vb (zb (zo ixD (zg 0) (eC (.int 0))) zt)) b1 (tOf (zo inD (zr 2 xt (zb (zg 2) (zb (zg 0) zt))) (zo ixD (zg 1) (eC (.int 1))))) (zg 0) [some (zw m ts),some (.int p)]=some ((nbN m ts p).map zR):=by
  unfold fLC
  show((vb [.int m]).bind λds=>if lim ds.length=true then _ else none)=_
  rw[Zo ok]
  show(if lim (Wq 0 m.toNat).length=true then _ else none)=_
  rw[j4 (wq (by rw[Z9];have:=ok.hi;omega))]
  refine Zf (c:=zR) (p:=λk=>decide (zcj p k∈ts)) (y:=zR) (List.range m.toNat) λk hk=>⟨[some (zR k)],rfl,?_,λ_=>rfl⟩
  show((inD (zE (zcj p (0+(k:Int)))) (.tup (ts.map zE))).bind asB)=_
  rw[u1K,zhn]
  rfl
 show(match ((fLC (WF vb (zb (zo ixD (zg 0) (eC (.int 0))) zt)) b1 (tOf (zo inD (zr 2 xt (zb (zg 2) (zb (zg 0) zt))) (zo ixD (zg 1) (eC (.int 1))))) (zg 0) [some (zw m ts),some (.int p)]).map D.lst)with | some d=>Ctl.rt d | none=>Ctl.no)=_
 rw[e]
 rfl
theorem Xs (T:Txt K mg base ad):yU P w K mg base CX0 2 ad.f_neighbours ad.e_neighbours ["web","place"] (@spD ⟨K⟩ 2 zS):=by
 letI:KK:=⟨K⟩
 have G_tie_between:=VQ (P:=P) (w:=w) (base:=base) T
 refine Ym (y4 (N:=["web","place"]) (ps:=["web","place"]) T.d_neighbours.fn zaC (g:=vm) λcdv A outer s H E hr=>?_) zaa
 unfold vm
 exact(zi (zB (vT (ze2 (L:=["other"]) (M:=["web","place"]) rfl (zbQ (by rfl) (by rfl) (by rfl) (by with_unfolding_all rfl) (by rfl) (by rfl) (by kernel_rfl) (all_cons rfl (all_cons rfl YI))) (zbt rfl T.z_range (za (zL (edv 0) (ze zd) (λ_ _=>rfl)) zc)) gs1 rb1 (λ_ _ _ _=>(zF (i:=0) zmO rfl (Or.inl rfl) (.inr rfl))) (λ_ _ _ _=>(yj (zlK hr) zkO (by with_unfolding_all rfl) (zm G_tie_between hr rfl T.d_tie_between (za (edv 2) (za (edv 0) zc))) (zL (edv 1) (ze zd) (λ_ _=>rfl)))) (λ_ _ _ _=>(edv 0))))))
def zgv (m:Int)(ts:List Tie)(i:Nat):List Tie:=(List.range i).flatMap λk:Nat=>(nbN m ts k).map λo:Nat=>((0:Int)+(k:Int),(0:Int)+(o:Int))
def ziU (m:Int)(ts:List Tie):List Tie:=zgv m ts m.toNat
theorem zep {m:Int}{ts:List Tie}{p:Int}(h:zY m ts):(nbN m ts p).length<=8:=by
 refine u0H (List.length_filter_le _ _) ?_
 rw[u01]
 have:=h.hi
 omega
def vAt (ns:List Int)(i:Int):Int:=ns.getD i.toNat 0
theorem WB {ns:List Int}{i:Int}(h0:0<=i)(h1:i < ns.length):atI (ns.map D.int) i=some (.int (vAt ns i)):=by
 unfold vAt
 obtain⟨k,hk⟩:∃ k:Nat,i=k:=⟨i.toNat,by omega⟩
 subst hk
 refine zfO ?_
 rw[u2A,r9,u7 (by omega),p8,u7 (by omega)]
 rfl
theorem zfw {ns:List Int}{i m:Int}(h:0<=i/\i < m)(hl:(ns.length:Int)=m):atI (ns.map D.int) i=some (.int (vAt ns i)):=WB h.1 (by omega)
theorem zko {m:Int}{ts:List Tie}{s:Tie}:s∈ziU m ts↔(0<=s.1/\s.1 < m)/\(0<=s.2/\s.2 < m)/\zcj s.1 s.2∈ts:=by
 unfold ziU zgv nbN
 rw[List.mem_flatMap]
 constructor
 .rintro⟨k,hk,h⟩
  obtain⟨o,ho,rfl⟩:=u1q.mp h
  rw[u07,u0e,b9]at ho
  rw[u0e]at hk
  simp only[u1K]
  exact⟨⟨by(clear h ho hk;omega),by(clear h ho;omega)⟩,⟨by(clear h ho hk;omega),by omega⟩,ho.2⟩
 .rintro⟨⟨a1,a2⟩,⟨b1,b2⟩,h⟩
  refine⟨s.1.toNat,u0e.mpr (by(clear b2 b1 h;omega)),u1q.mpr ⟨s.2.toNat,?_,?_⟩⟩
  .rw[u07,u0e,b9]
   refine⟨by omega,?_⟩
   rw[show((s.1.toNat:Nat):Int)=s.1 by(clear b2 b1 h a2;omega),show((s.2.toNat:Nat):Int)=s.2 by omega]
   exact h
  .exact u3w (by show(0:Int)+(s.1.toNat:Int)=s.1;(clear b2 b1 h a2;omega)) (by show(0:Int)+(s.2.toNat:Int)=s.2;omega)
end
theorem zjJ {m:Nat}{g:SE->Ctl}{ds:List D}{R:D->Prop}{ρ:SE}(e:ds.map .v++List.replicate (m - ds.length) .no=ρ)(q:(g ρ).w (λ_=>R .non) noP noP R):∃ d,fnD m g ds=some d/\R d:=by
 unfold fnD
 rw[e]
 cases hg:g ρ with
 | nx ρ'=>rw[hg]at q;exact⟨_,rfl,q.nxi⟩
 | rt d'=>rw[hg]at q;exact⟨_,rfl,q.rti⟩
 | bk _=>rw[hg]at q;exact q.bki.elim
 | ct _=>rw[hg]at q;exact q.cti.elim
 | no=>rw[hg]at q;exact q.noi.elim
section
variable {P:Program}{w:World}{K:W.Frag}{mg:Str->Option Value}{base:Heap}{ad:Adr}
def vY:SE->Ctl :=
 (zT (x8 false 2 (zo vX (zo Yt (zo Zw (zo Zw (zo vX (zg 0) (eC (.int 2147483647))) (zo Yt (eC (.int 977)) (zg 1))) (eC (.int 1))) (eC (.int 48271))) (eC (.int 2147483647))))
  (zT (x8 false 2 (zo vX (zo Yt (zg 2) (zg 2)) (eC (.int 2147483629))))
  (zT (x8 false 2 (zo vX (zo Yt (zo Zw (zg 2) (zo Yt (eC (.int 40692)) (zo Zw (zg 1) (eC (.int 3))))) (eC (.int 69621))) (eC (.int 2147483647))))
  (yN (zo wl (zg 2) (eC (.int 8)))))))
def zcs:List D->Option D:=fnD 3 vY
def xL:List D->Option D
 | [.int c,.int k]=>some (.int (zfP c k))
 | _=>none
theorem zcZ {i j:Int}(h1:-(2 ^ 64) < i)(h2:i < 2 ^ 64):XW i j=true:=o0 (.inl ⟨h1,h2⟩)
theorem zgz {i j:Int}(h1:-(2 ^ 64) < j)(h2:j < 2 ^ 64):XW i j=true:=o0 (.inr ⟨h1,h2⟩)
theorem WU {i j:Int}(h:XW i j=true):Yt (.int i) (.int j)=some (.int (i*j)):=by
 show(if XW i j=true then _ else none)=_
 rw[j4 h]
theorem vJ {i j:Int}(h:0 < j):vX (.int i) (.int j)=some (.int (i % j)):=by
 show(if decide (0 < j)=true then _ else none)=_
 rw[j4 (o0 h)]
theorem zaD {i j:Int}(h:0 < j)(h2:j < 1606938044258990275541962092341162602522202993782792835301376):wl (.int i) (.int j)=some (.int (i / j)):=by
 show(if decide (0 < j/\j < 1606938044258990275541962092341162602522202993782792835301376)=true then _ else none)=_
 rw[j4 (o0 ⟨h,h2⟩)]
theorem za6:∀ ds d,ds.length=2->xL ds=some d->zcs ds=some d:=by
 intro ds d hl h
 obtain⟨a,b,rfl⟩:=zhk hl
 cases a <;> try cases h
 cases b <;> try cases h
 rename_i c k
 have h1:=Int.emod_nonneg ((c % 2147483647+977*k+1)*48271) (show(2147483647:Int)≠0 by decide)
 have h2:=Int.emod_lt_of_pos ((c % 2147483647+977*k+1)*48271) (show(0:Int) < 2147483647 by decide)
 have m1:XW 977 k=true:=zcZ (by decide) (by decide)
 have m2:XW (c % 2147483647+977*k+1) 48271=true:=zgz (by decide) (by decide)
 obtain⟨x,hx⟩:∃ x,(c % 2147483647+977*k+1)*48271 % 2147483647=x:=⟨_,rfl⟩
 rw[hx]at h1 h2
 have m3:XW x x=true:=zcZ (Int.lt_of_lt_of_le (by decide) h1) (Int.lt_trans h2 (by decide))
 have m4:XW 40692 (k+3)=true:=zcZ (by decide) (by decide)
 have m5:∀ x,XW x 69621=true:=λx=>zgz (by decide) (by decide)
 obtain⟨y,hy⟩:∃ y,x*x % 2147483629=y:=⟨_,rfl⟩
 obtain⟨z,hz⟩:∃ z,(y+40692*(k+3))*69621 % 2147483647=z:=⟨_,rfl⟩
 have hst:zfP c k=z / 8:=by
  show((((c % 2147483647+977*k+1)*48271 % 2147483647)*((c % 2147483647+977*k+1)*48271 % 2147483647) % 2147483629+40692*(k+3))*69621 % 2147483647 / 8)=_
  rw[hx,hy,hz]
 rw[hst]
 refine XG (ρ:=[.v (.int c),.v (.int k),.no]) rfl ?_
 unfold vY
 refine zy (ρ':=[.v (.int c),.v (.int k),.v (.int x)]) (wP ?_) ?_
 .show(((((vX (.int c) (.int 2147483647)).bind λa=>(Yt (.int 977) (.int k)).bind λb=>Zw a b).bind λa=>Zw a (.int 1)).bind λa=>Yt a (.int 48271)).bind λa=>vX a (.int 2147483647))=_
  rw[vJ (by decide),WU m1]
  show((Yt (.int (c % 2147483647+977*k+1)) (.int 48271)).bind λa=>vX a (.int 2147483647))=_
  rw[WU m2,<- hx]
  exact vJ (by decide)
 refine zy (ρ':=[.v (.int c),.v (.int k),.v (.int y)]) (wP ?_) ?_
 .show((Yt (.int x) (.int x)).bind λa=>vX a (.int 2147483629))=_
  rw[WU m3,<- hy]
  exact vJ (by decide)
 refine zy (ρ':=[.v (.int c),.v (.int k),.v (.int z)]) (wP ?_) ?_
 .show((((Yt (.int 40692) (.int (k+3))).bind λb=>Zw (.int y) b).bind λa=>Yt a (.int 69621)).bind λa=>vX a (.int 2147483647))=_
  rw[WU m4]
  show((Yt (.int (y+40692*(k+3))) (.int 69621)).bind λa=>vX a (.int 2147483647))=_
  rw[WU (m5 _),<- hz]
  exact vJ (by decide)
 exact Zc (we (show wl (.int z) (.int 8)=_ from zaD (by decide) (by decide))) rfl
theorem Wa (T:Txt K mg base ad):yU P w K mg base CX0 1 ad.f__law_stir ad.e__law_stir ["cell","k"] (@spD ⟨K⟩ 2 xL):=by
 letI:KK:=⟨K⟩
 refine Ym (y4 (N:=["cell","k","number"]) (ps:=["cell","k"]) T.d__law_stir.fn vx (g:=vY) λcdv A outer s H E hr=>?_) za6
 unfold vY
 exact(zh (yE (m:=false) (i:=2) vx.nd rfl (Or.inl rfl) (ZA (Vi (wK (wK (ZA (edv 0) (ze zd)) (Vi (ze zd) (edv 1))) (ze zd)) (ze zd)) (ze zd)))
  (zh (yE (m:=false) (i:=2) vx.nd rfl (Or.inl rfl) (ZA (Vi (edv 2) (edv 2)) (ze zd)))
  (zh (yE (m:=false) (i:=2) vx.nd rfl (Or.inl rfl) (ZA (Vi (wK (edv 2) (Vi (ze zd) (wK (edv 1) (ze zd)))) (ze zd)) (ze zd)))
  (zi (zB (zab (edv 2) (ze zd)))))))
theorem Y6 {j:Int}(h3:0<=j)(h4:j<=1000000):vb [.int j]=some (Wq 0 j.toNat):=by
 show(if zg0 j=true then some (Wq 0 j.toNat)else none)=_
 rw[j4 (yQ.mpr ⟨by omega,by omega⟩)]
theorem zeo {ts:List Tie}(h:ts.length < 64):zee [.lst (ts.map zE)]=some ((zan ts).map zE):=by
 show(if (ts.map zE).length < 64 then _ else none)=_
 rw[j4 (by rw[u9];exact h),show ts.map zE=ts.map prD from rfl,zcb]
 rfl
def wy (r:List D->Option D):SE->Ctl :=
 (sIf (yT (tOf (zr 2 r (zb (zg 2) (zb (zg 3) zt))))) (yN (eC (.bl false))) yb)
def yg (r:List D->Option D):SE->Ctl :=
 (zT (sIf (tOf (zo Vf (zg 1) (eC .non))) (yN (zo Vf (zg 0) (eC .non))) yb)
  (zT (sIf (tOf (eUn (yZ .bool) (zg 1))) (yN (ZW (eUn (yZ .bool) (zg 0)) (zo Wj (zg 0) (zg 1)))) yb)
  (zT (sIf (tOf (eUn (yZ .int) (zg 1))) (yN (ZW (eUn (yZ .int) (zg 0)) (ZW (zaj (eUn (yZ .bool) (zg 0))) (zo Wj (zg 0) (zg 1))))) yb)
  (zT (sIf (tOf (eUn (yZ .str) (zg 1))) (yN (ZW (eUn (yZ .str) (zg 0)) (zo Wj (zg 0) (zg 1)))) yb)
  (zT (sIf (XJ (tOf (zo neD (eUn (yZ .list) (zg 1)) (eUn (yZ .list) (zg 0)))) (tOf (zo neD (eUn (yZ .tuple) (zg 1)) (eUn (yZ .tuple) (zg 0))))) (yN (eC (.bl false))) yb)
  (zT (sIf (tOf (zo neD (eFn Zz (zb (zg 0) zt)) (eFn Zz (zb (zg 1) zt)))) (yN (eC (.bl false))) yb)
  (zT (ZQ (Ys (zb (zg 0) (zb (zg 1) zt))) (Ww 2 (xx (yl 2) (xx (yl 3) W8))) (wy r))
  (yN (eC (.bl true))))))))))
def wO:List D->Option D:=zlj 4 yg 6
theorem zbl (ds:List D):zdn ds ds=ds.map λd=>.tup [d,d]:=by
 induction ds with
 | nil=>rfl
 | cons d ds ih=>show D.tup [d,d]::zdn ds ds=_;rw[ih];rfl
theorem zbk {r:List D->Option D}{d:D}(hr:∀ es,(d=.tup es\/d=.lst es)->∀ e∈es,r [e,e]=some (.bl true))(hn:∀ ns,d≠.scr ns)(hd:∀ z t ks vs,d≠.dct z t ks vs):fnD 4 (yg r) [d,d]=some (.bl true):=by
 cases d with
 | scr ns=>exact absurd rfl (hn ns)
 | dct z t ks vs=>exact absurd rfl (hd z t ks vs)
 | non=>rfl
 | bl b=>cases b <;> rfl
 | int i=>simp[yg,fnD,zT,yN,Zr,sIf,x8,Zt,sNo,yb,zck,Zu,Wo,zci,XL,vEv,visF,visG,Sl.f,Sl.g,zg,eC,zo,ZW,eOr,zaj,eIf,eUn,Wk,Yo,x5,ye,zb,zt,zr,eFn,fFn,tOf,Yu,XJ,yT,asB,asI,yd,Xa,Yt,wl,vX,WH,vK,ltD,leD,gtD,geD,Vy,zI,yV,ym,yX,Vf,zZ,ixD,Zz,yZ,isT,eSl,Zs,w8,xA,xC,iOf,ZQ,xi,WF,vb,Vu,yr,Ys,fLC,wY,yt,Zp,yl,Ww,xx,W8,b1,b2]
 | str x=>simp[yg,fnD,zT,yN,Zr,sIf,x8,Zt,sNo,yb,zck,Zu,Wo,zci,XL,vEv,visF,visG,Sl.f,Sl.g,zg,eC,zo,ZW,eOr,zaj,eIf,eUn,Wk,Yo,x5,ye,zb,zt,zr,eFn,fFn,tOf,Yu,XJ,yT,asB,asI,yd,Xa,Yt,wl,vX,WH,vK,ltD,leD,gtD,geD,Vy,zI,yV,ym,yX,Vf,zZ,ixD,Zz,yZ,isT,eSl,Zs,w8,xA,xC,iOf,ZQ,xi,WF,vb,Vu,yr,Ys,fLC,wY,yt,Zp,yl,Ww,xx,W8,b1,b2]
 | tup es =>
  refine XG (ρ:=[.v (.tup es),.v (.tup es),.no,.no]) rfl ?_
  unfold yg
  refine zy rfl (zy rfl (zy rfl (zy rfl (zy rfl (yW (WA (c:=false) (by simp[fnD,zT,yN,Zr,sIf,x8,Zt,sNo,yb,zck,Zu,Wo,zci,XL,vEv,visF,visG,Sl.f,Sl.g,zg,eC,zo,ZW,eOr,zaj,eIf,eUn,Wk,Yo,x5,ye,zb,zt,zr,eFn,fFn,tOf,Yu,XJ,yT,asB,asI,yd,Xa,Yt,wl,vX,WH,vK,ltD,leD,gtD,geD,Vy,zI,yV,ym,yX,Vf,zZ,ixD,Zz,yZ,isT,eSl,Zs,w8,xA,xC,iOf,ZQ,xi,WF,vb,Vu,yr,Ys,fLC,wY,yt,Zp,yl,Ww,xx,W8,b1,b2]) (λz=>by cases z) λ_=>ZH rfl ?_))))))
  refine yW (Wn (ds:=zdn es es) (λi ρ=>∃ o1 o2,ρ=[.v (.tup es),.v (.tup es),o1,o2]) (by simp[fnD,zT,yN,Zr,sIf,x8,Zt,sNo,yb,zck,Zu,Wo,zci,XL,vEv,visF,visG,Sl.f,Sl.g,zg,eC,zo,ZW,eOr,zaj,eIf,eUn,Wk,Yo,x5,ye,zb,zt,zr,eFn,fFn,tOf,Yu,XJ,yT,asB,asI,yd,Xa,Yt,wl,vX,WH,vK,ltD,leD,gtD,geD,Vy,zI,yV,ym,yX,Vf,zZ,ixD,Zz,yZ,isT,eSl,Zs,w8,xA,xC,iOf,ZQ,xi,WF,vb,Vu,yr,Ys,fLC,wY,yt,Zp,yl,Ww,xx,W8,b1,b2]) ⟨_,_,rfl⟩ ?_ ?_)
  .rintro i d ρ hd ⟨o1,o2,rfl⟩
   rw[zbl,r9]at hd
   obtain⟨e,he,rfl⟩:=t9.mp hd
   have hre:=hr es (.inl rfl) e (j5 he)
   refine⟨_,rfl,?_⟩
   unfold wy
   refine WA (c:=false) (by simp[fnD,zT,yN,Zr,sIf,x8,Zt,sNo,yb,zck,Zu,Wo,zci,XL,vEv,visF,visG,Sl.f,Sl.g,zg,eC,zo,ZW,eOr,zaj,eIf,eUn,Wk,Yo,x5,ye,zb,zt,zr,eFn,fFn,tOf,Yu,XJ,yT,asB,asI,yd,Xa,Yt,wl,vX,WH,vK,ltD,leD,gtD,geD,Vy,zI,yV,ym,yX,Vf,zZ,ixD,Zz,yZ,isT,eSl,Zs,w8,xA,xC,iOf,ZQ,xi,WF,vb,Vu,yr,Ys,fLC,wY,yt,Zp,yl,Ww,xx,W8,b1,b2,hre]) (λz=>by cases z) λ_=>ZH rfl ⟨_,_,rfl⟩
  .rintro ρ ⟨o1,o2,rfl⟩
   exact Zc rfl rfl
 | lst es =>
  refine XG (ρ:=[.v (.lst es),.v (.lst es),.no,.no]) rfl ?_
  unfold yg
  refine zy rfl (zy rfl (zy rfl (zy rfl (zy rfl (yW (WA (c:=false) (by simp[fnD,zT,yN,Zr,sIf,x8,Zt,sNo,yb,zck,Zu,Wo,zci,XL,vEv,visF,visG,Sl.f,Sl.g,zg,eC,zo,ZW,eOr,zaj,eIf,eUn,Wk,Yo,x5,ye,zb,zt,zr,eFn,fFn,tOf,Yu,XJ,yT,asB,asI,yd,Xa,Yt,wl,vX,WH,vK,ltD,leD,gtD,geD,Vy,zI,yV,ym,yX,Vf,zZ,ixD,Zz,yZ,isT,eSl,Zs,w8,xA,xC,iOf,ZQ,xi,WF,vb,Vu,yr,Ys,fLC,wY,yt,Zp,yl,Ww,xx,W8,b1,b2]) (λz=>by cases z) λ_=>ZH rfl ?_))))))
  refine yW (Wn (ds:=zdn es es) (λi ρ=>∃ o1 o2,ρ=[.v (.lst es),.v (.lst es),o1,o2]) (by simp[fnD,zT,yN,Zr,sIf,x8,Zt,sNo,yb,zck,Zu,Wo,zci,XL,vEv,visF,visG,Sl.f,Sl.g,zg,eC,zo,ZW,eOr,zaj,eIf,eUn,Wk,Yo,x5,ye,zb,zt,zr,eFn,fFn,tOf,Yu,XJ,yT,asB,asI,yd,Xa,Yt,wl,vX,WH,vK,ltD,leD,gtD,geD,Vy,zI,yV,ym,yX,Vf,zZ,ixD,Zz,yZ,isT,eSl,Zs,w8,xA,xC,iOf,ZQ,xi,WF,vb,Vu,yr,Ys,fLC,wY,yt,Zp,yl,Ww,xx,W8,b1,b2]) ⟨_,_,rfl⟩ ?_ ?_)
  .rintro i d ρ hd ⟨o1,o2,rfl⟩
   rw[zbl,r9]at hd
   obtain⟨e,he,rfl⟩:=t9.mp hd
   have hre:=hr es (.inr rfl) e (j5 he)
   refine⟨_,rfl,?_⟩
   unfold wy
   refine WA (c:=false) (by simp[fnD,zT,yN,Zr,sIf,x8,Zt,sNo,yb,zck,Zu,Wo,zci,XL,vEv,visF,visG,Sl.f,Sl.g,zg,eC,zo,ZW,eOr,zaj,eIf,eUn,Wk,Yo,x5,ye,zb,zt,zr,eFn,fFn,tOf,Yu,XJ,yT,asB,asI,yd,Xa,Yt,wl,vX,WH,vK,ltD,leD,gtD,geD,Vy,zI,yV,ym,yX,Vf,zZ,ixD,Zz,yZ,isT,eSl,Zs,w8,xA,xC,iOf,ZQ,xi,WF,vb,Vu,yr,Ys,fLC,wY,yt,Zp,yl,Ww,xx,W8,b1,b2,hre]) (λz=>by cases z) λ_=>ZH rfl ⟨_,_,rfl⟩
  .rintro ρ ⟨o1,o2,rfl⟩
   exact Zc rfl rfl
theorem zfK:∀ (n:Nat) {d:D},okE n d=true->zlj 4 yg (n+1) [d,d]=some (.bl true):=by
 intro n
 induction n with
 | zero =>
  intro d h
  refine zbk (λes he=>?_) (λns e=>by subst e;cases h) (λ_ _ _ _ e=>by subst e;cases h)
  rcases he with rfl | rfl <;> cases h
 | succ n ih =>
  intro d h
  refine zbk (λes he e hm=>?_) (λns e=>by subst e;cases h) (λ_ _ _ _ e=>by subst e;cases h)
  rcases he with rfl | rfl
  .exact ih (u0k.mp h e hm)
  .exact ih (u0k.mp h e hm)
theorem ziS {d:D}(h:okE 5 d=true):wO [d,d]=some (.bl true):=zfK 5 h
theorem zbW (T:Txt K mg base ad):yU P w K mg base CX0 7 ad.f__law_same ad.e__law_same ["found","due"] (@spD ⟨K⟩ 2 wO):=by
 letI:KK:=⟨K⟩
 have R:∀ n,yU P w K mg base CX0 (1+n) ad.f__law_same ad.e__law_same ["found","due"] (spD 2 (zlj 4 yg n)):=by
  refine zlv (P:=P) (w:=w) (mg:=mg) (base:=base) (k0:=1) (g:=yg) T.d__law_same.fn YA λk r hrec cdv A outer s H E hr=>?_
  unfold yg wy
  exact(zh (xD (yj zeT zcN (zH _) (edv 1) (W5 Vd)) (zi (zB (ZF zeT zcN (zH _) (edv 0) (W5 Vd)))) zK)
   (zh (xD (x6 (zN .bool rfl T.z_isinstance (edv 1) (yL (v:=.ty "bool") rfl T.z_bool za1 rfl))) (zi (zB (YX (zN .bool rfl T.z_isinstance (edv 0) (yL (v:=.ty "bool") rfl T.z_bool za1 rfl)) (ZB (ZF (w6 hr) xc (zH _) (edv 0) (edv 1)))))) zK)
   (zh (xD (x6 (zN .int rfl T.z_isinstance (edv 1) (yL (v:=.ty "int") rfl T.z_int zdK rfl))) (zi (zB (YX (zN .int rfl T.z_isinstance (edv 0) (yL (v:=.ty "int") rfl T.z_int zdK rfl)) (YX (ziO (zN .bool rfl T.z_isinstance (edv 0) (yL (v:=.ty "bool") rfl T.z_bool za1 rfl))) (ZB (ZF (w6 hr) xc (zH _) (edv 0) (edv 1))))))) zK)
   (zh (xD (x6 (zN .str rfl T.z_isinstance (edv 1) (yL (v:=.ty "str") rfl T.z_str zi7 rfl))) (zi (zB (YX (zN .str rfl T.z_isinstance (edv 0) (yL (v:=.ty "str") rfl T.z_str zi7 rfl)) (ZB (ZF (w6 hr) xc (zH _) (edv 0) (edv 1)))))) zK)
   (zh (xD (zjI (zeb (yj VJ Xe (zH _) (zN .list rfl T.z_isinstance (edv 1) (yL (v:=.ty "list") rfl T.z_list zfW rfl)) (zN .list rfl T.z_isinstance (edv 0) (yL (v:=.ty "list") rfl T.z_list zfW rfl))) (VZ (yj VJ Xe (zH _) (zN .tuple rfl T.z_isinstance (edv 1) (yL (v:=.ty "tuple") rfl T.z_tuple xU rfl)) (zN .tuple rfl T.z_isinstance (edv 0) (yL (v:=.ty "tuple") rfl T.z_tuple xU rfl)))))) (zi (zB (ZZ Yw))) zK)
   (zh (xD (yj VJ Xe (zH _) (zP zG x9 rfl T.z_len Yr (za (edv 0) zc)) (zP zG x9 rfl T.z_len Yr (za (edv 1) zc))) (zi (zB (ZZ Yw))) zK)
   (zh (ZE i5 rfl (zlb rfl T.z_zip (za (edv 0) (za (edv 1) zc))) (zbb rfl (xV (zW (zF (i:=2) YA.nd rfl (Or.inl rfl))) (xV (zW (zF (i:=3) YA.nd rfl (Or.inl rfl))) WV))) (zi (xD (vh (x6 (zgX hrec hr rfl T.d__law_same.at_ T.d__law_same.kp T.d__law_same.bd (za (edv 2) (za (edv 3) zc))))) (zi (zB (ZZ Yw))) zK)))
   (zi (zB (ZZ Yw))))))))))
 exact R 6
structure FsOk (m:Int) (ts:List Tie) (p:Int) (t:Nat) (fs:List (Option Int)):Prop where
 len:fs.length=m.toNat
 sound:∀ v k,0<=v->v < m->oAt fs v=some k->∃ j:Nat,k=(j:Int)/\xz ts p j v
 full:∀ (j:Nat) v,j<=t->xz ts p j v->∃ j':Nat,j'<=j/\oAt fs v=some (j':Int)
theorem FsOk.start {m:Int}{ts:List Tie}{p:Int}(hp:0<=p/\p < m):FsOk m ts p 0 ((List.replicate m.toNat none).set p.toNat (some 0)):=by
 have hl:p < ((List.replicate m.toNat (none:Option Int)).length:Int):=by rw[u0u];omega
 have nn:∀ v,oAt (List.replicate m.toNat (none:Option Int)) v=none:=λv=>by
  unfold oAt
  rw[u06]
  split <;> rfl
 refine⟨by simp,λv k v0 v1 e=>?_,λj v hj r=>?_⟩
 .rw[Vo hp.1 hl v0,nn]at e
  by_cases c:v=p
  .rw[j4 c]at e;cases e
   exact⟨0,rfl,by rw[c];exact .zero⟩
  .rw[j6 c]at e;cases e
 .obtain rfl:j=0:=by omega
  cases r
  exact⟨0,q5 _,by rw[Vo hp.1 hl hp.1,j4 rfl];rfl⟩
def xX:SE->Ctl :=
 (zT (sIf (tOf (zo ltD (zg 1) (eFn Zz (zb (zg 0) zt)))) (yN (zo ixD (zg 0) (zg 1))) yb)
  (yN (eC (.int 0))))
def y8:List D->Option D:=fnD 2 xX
theorem zet (ns:List Int):∃ c:Int,y8 [.scr ns,.int 0]=some (.int c):=by
 cases ns with
 | nil=>exact⟨0,rfl⟩
 | cons n ns =>
  refine⟨n,?_⟩
  have e:atI (n::ns) 0=some n:=X6 (u27 _) rfl
  simp[y8,xX,fnD,zT,yN,Zr,sIf,x8,Zt,sNo,yb,zck,Zu,Wo,zci,XL,vEv,visF,visG,Sl.f,Sl.g,zg,eC,zo,ZW,eOr,zaj,eIf,eUn,Wk,Yo,x5,ye,zb,zt,zr,eFn,fFn,tOf,Yu,XJ,yT,asB,asI,yd,Xa,Yt,wl,vX,WH,vK,ltD,leD,gtD,geD,Vy,zI,yV,ym,yX,Vf,zZ,ixD,Zz,yZ,isT,eSl,Zs,w8,xA,xC,iOf,ZQ,xi,WF,vb,Vu,yr,Ys,fLC,wY,yt,Zp,yl,Ww,xx,W8,b1,b2,e]
theorem Vk (T:Txt K mg base ad):yU P w K mg base CX0 1 ad.f__law_cell_at ad.e__law_cell_at ["script","k"] (@spD ⟨K⟩ 2 y8):=by
 letI:KK:=⟨K⟩
 refine y4 (N:=["script","k"]) (ps:=["script","k"]) T.d__law_cell_at.fn W2 (g:=xX) λcdv A outer s H E hr=>?_
 unfold xX
 exact(zh (xD (yj zlI xS (zH _) (edv 1) (zP zG x9 rfl T.z_len Yr (za (edv 0) zc))) (zi (zB (zL (edv 0) (edv 1) (λ_ _=>rfl)))) zK)
  (zi (zB (ze zd))))
theorem zix {ρ:Ev}(ns:List Int)(k:Int)(h:ns.length<=63):∃ xs:List Int,(iOf (zo Zw (x5 (ye (zb (zr 2 y8 (zb (zg 0) (zb (eC (.int 0)) zt))) zt))) (eSl slD (zg 0) (w8 (eC (.int 1))) (w8 (eC (.int k)))))) (some (.scr ns)::ρ)=some (xs.map .int):=by
 obtain⟨c,hc⟩:=zet ns
 refine⟨c::zez ns (some 1) (some k),?_⟩
 have e:=zia (a:=[.int c]) (b:=(zez ns (some 1) (some k)).map .int) (by have:=zhs ns (some 1) (some k);simp;omega)
 simp[iOf,zo,x5,ye,zb,zt,zr,zg,eC,hc,wq,eSl,w8,asI,slD,e,xC]
theorem zcA {m:Int}{ts:List Tie}{a:Int}{k:Nat}(ok:zY m ts):k∈nbN m ts a↔adj ts a (k:Int):=by
 unfold nbN
 rw[u07,b9,u0e]
 unfold zcj adj
 constructor
 .rintro⟨_,h⟩
  by_cases c:(k:Int) < a
  .rw[j4 c,j6 (by omega)]at h;exact .inr h
  .rw[j6 c]at h
   by_cases c2:(k:Int) > a
   .rw[j4 c2]at h;exact .inl h
   .rw[j6 c2]at h
    have:a=(k:Int):=by omega
    rw[<-this]
    exact .inl h
 .rintro(h | h)
  .have:=ok.rng _ h
   simp only at this
   rw[j6 (by omega),j4 (by omega)]
   exact⟨by omega,h⟩
  .have:=ok.rng _ h
   simp only at this
   rw[j4 (by omega),j6 (by omega)]
   exact⟨by omega,h⟩
structure Vs (m:Int) (ts:List Tie) (p:Int) (L:Nat) (fs:List (Option Int)) (rim:List Int):Prop where
 len:fs.length=m.toNat
 sound:∀ v k,0<=v->v < m->oAt fs v=some k->∃ j:Nat,k=(j:Int)/\j<=L/\Far ts p v j
 full:∀ v (j:Nat),j<=L->Far ts p v j->oAt fs v=some (j:Int)
 rim:∀ v,v∈rim↔Far ts p v L
structure VA (m:Int) (ts:List Tie) (p:Int) (L:Nat) (fs:List (Option Int)) (fu:List Int) (S:Int->Prop):Prop where
 len:fs.length=m.toNat
 sound:∀ v k,0<=v->v < m->oAt fs v=some k->(∃ j:Nat,k=(j:Int)/\j<=L/\Far ts p v j)\/v∈fu
 full:∀ v (j:Nat),j<=L->Far ts p v j->oAt fs v=some (j:Int)
 fur:∀ v∈fu,Far ts p v (L+1)/\oAt fs v=some ((L+1:Nat):Int)
 done:∀ v,S v->oAt fs v≠none
theorem Vs.mid {m:Int}{ts:List Tie}{p:Int}{L:Nat}{fs:List (Option Int)}{rim:List Int}(h:Vs m ts p L fs rim){S:Int->Prop}(hS:∀ v,¬ S v):VA m ts p L fs [] S :=
 ⟨h.len,λv k v0 v1 e=>.inl (h.sound v k v0 v1 e),h.full,λv hv=>(by cases hv),λv hv=>absurd hv (hS v)⟩
theorem VA.imp {m:Int}{ts:List Tie}{p:Int}{L:Nat}{fs:List (Option Int)}{fu:List Int}{S S':Int->Prop}(h:VA m ts p L fs fu S)(hS:∀ v,S' v->S v\/oAt fs v≠none):VA m ts p L fs fu S' :=
 ⟨h.len,h.sound,h.full,h.fur,λv hv=>(hS v hv).elim (h.done v) id⟩
theorem VA.add {m:Int}{ts:List Tie}{p:Int}{L:Nat}{fs:List (Option Int)}{fu:List Int}{S:Int->Prop}{a b:Int}(ok:zY m ts)(h:VA m ts p L fs fu S)(ha:Far ts p a L)(hab:adj ts a b)(hn:oAt fs b=none){x:Int}(hx:x=((L+1:Nat):Int)) :
 VA m ts p L (fs.set b.toNat (some x)) (fu++[b]) (λv=>S v\/v=b):=by
 subst hx
 obtain⟨_,b0,b1⟩:=hab.rng ok
 have hl:=h.len
 have hb:=zdv b0 b1 hl
 have hf:Far ts p b (L+1):=⟨.step ha.1 hab,λi r=>by
  obtain⟨j,hj⟩:=zi6 r
  by_cases c:j<=L
  .rw[h.full b j c hj]at hn;cases hn
  .have:=hj.2 _ r;omega⟩
 have at':∀ v,0<=v->oAt (fs.set b.toNat (some ((L+1:Nat):Int))) v=if v=b then some ((L+1:Nat):Int)else oAt fs v:=λv v0=>Vo b0 hb v0
 have sm:∀ v,oAt fs v≠none->oAt (fs.set b.toNat (some ((L+1:Nat):Int))) v≠none:=λv hv=>by
  by_cases v0:0<=v
  .rw[at' v v0]
   split
   .intro z;cases z
   .exact hv
  .unfold oAt at hv ⊢
   rw[u00]
   split
   .split
    .intro z;cases z
    .rename_i c1 c2
     omega
   .exact hv
 refine⟨by rw[u1X];exact hl,λv k v0 v1 e=>?_,λv j hj hv=>?_,λv hv=>?_,λv hv=>?_⟩
 .rw[at' v v0]at e
  by_cases c:v=b
  .exact .inr (by rw[c];simp)
  .rw[j6 c]at e
   exact(h.sound v k v0 v1 e).imp id λz=>u0G.mpr (.inl z)
 .have e:=h.full v j hj hv
  have:v≠b:=λz=>by rw[z,hn]at e;cases e
  by_cases v0:0<=v
  .rw[at' v v0,j6 this];exact e
  .unfold oAt at e ⊢
   rw[u00]
   split
   .rename_i c
    have vz:v.toNat=0:=by omega
    rw[vz]at c e
    unfold oAt at hn
    rw[c]at hn
    rw[hn]at e
    cases e
   .exact e
 .rcases u0G.mp hv with hv | hv
  .obtain⟨h1,h2⟩:=h.fur v hv
   refine⟨h1,?_⟩
   have v0:0<=v:=by
    obtain⟨a',_,had⟩:=h1.1.inv
    exact(had.rng ok).2.1
   rw[at' v v0]
   split
   .rfl
   .exact h2
  .cases d4.mp hv
   exact⟨hf,by rw[at' _ b0,j4 rfl]⟩
 .rcases hv with hv | rfl
  .exact sm v (h.done v hv)
  .rw[at' _ b0,j4 rfl]
   intro z;cases z
theorem VA.end {m:Int}{ts:List Tie}{p:Int}{L:Nat}{fs:List (Option Int)}{fu:List Int}{S:Int->Prop}(ok:zY m ts)(h:VA m ts p L fs fu S)(hS:∀ a b,Far ts p a L->adj ts a b->S b):Vs m ts p (L+1) fs fu:=by
 have key:∀ v,Far ts p v (L+1)->v∈fu:=λv hv=>by
  obtain⟨a,ra,had⟩:=hv.1.inv
  have hfa:Far ts p a L:=⟨ra,λi r=>by have:=hv.2 _ (.step r had);omega⟩
  have hr:=(had.rng ok).2
  have hne:=h.done v (hS a v hfa had)
  cases e:oAt fs v with
  | none=>exact absurd e hne
  | some k =>
   rcases h.sound v k hr.1 hr.2 e with ⟨j,_,hj,hf⟩ | hm
   .have:=hf.uniq hv;omega
   .exact hm
 refine⟨h.len,λv k v0 v1 e=>?_,λv j hj hv=>?_,λv=>⟨λhv=>(h.fur v hv).1,key v⟩⟩
 .rcases h.sound v k v0 v1 e with ⟨j,e1,hj,hf⟩ | hm
  .exact⟨j,e1,by omega,hf⟩
  .obtain⟨hf,e2⟩:=h.fur v hm
   rw[e]at e2
   cases e2
   exact⟨L+1,rfl,q5 _,hf⟩
 .by_cases c:j<=L
  .exact h.full v j c hv
  .obtain rfl:j=L+1:=by omega
   exact(h.fur v (key v hv)).2
theorem zdM {ts:List Tie}{p:Int}(L:Nat):∀ (k:Nat) (v:Int),Far ts p v k->L<=k->∃ u,Far ts p u L:=by
 intro k
 induction k with
 | zero=>intro v hv hk;exact⟨v,by rwa[show L=0 by omega]⟩
 | succ k ih =>
  intro v hv hk
  by_cases c:L=k+1
  .exact⟨v,by rwa[c]⟩
  .obtain⟨a,ra,had⟩:=hv.1.inv
   exact ih a ⟨ra,λi r=>by have:=hv.2 _ (.step r had);omega⟩ (by omega)
theorem Vs.end {m:Int}{ts:List Tie}{p:Int}{L:Nat}{fs:List (Option Int)}(h:Vs m ts p L fs []):fs=Wp m ts p:=by
 refine zkd (by rw[h.len,ZP]) λv v0 v1=>?_
 have hv:v < m:=by have:=h.len;omega
 rw[zdD v0 hv]
 rcases Zl ts p v with ⟨k,e,hk⟩ | ⟨e,hk⟩
 .rw[e]
  by_cases c:k<=L
  .exact h.full v k c hk
  .obtain⟨u,hu⟩:=zdM L k v hk (by omega)
   have:=(h.rim u).mpr hu
   cases this
 .rw[e]
  cases e2:oAt fs v with
  | none=>rfl
  | some k =>
   obtain⟨j,_,_,hf⟩:=h.sound v k v0 hv e2
   exact absurd hf.1 (hk j)
theorem Vs.start {m:Int}{ts:List Tie}{p:Int}(hp:0<=p/\p < m):Vs m ts p 0 ((List.replicate m.toNat none).set p.toNat (some 0)) [p]:=by
 have hl:p < ((List.replicate m.toNat (none:Option Int)).length:Int):=by rw[u0u];omega
 have nn:∀ v,oAt (List.replicate m.toNat (none:Option Int)) v=none:=λv=>by
  unfold oAt
  rw[u06]
  split <;> rfl
 have f0:∀ v,Far ts p v 0->v=p:=λv h=>by
  have:=h.1
  cases this
  rfl
 have fp:Far ts p p 0:=⟨.zero,λ_ _=>u0D _⟩
 refine⟨by simp,λv k v0 v1 e=>?_,λv j hj hv=>?_,λv=>⟨λh=>?_,λh=>?_⟩⟩
 .rw[Vo hp.1 hl v0,nn]at e
  by_cases c:v=p
  .rw[j4 c]at e;cases e
   exact⟨0,rfl,q5 _,by rw[c];exact fp⟩
  .rw[j6 c]at e;cases e
 .obtain rfl:j=0:=by omega
  cases f0 v hv
  rw[Vo hp.1 hl hp.1,j4 rfl]
  rfl
 .cases d4.mp h
  exact fp
 .rw[f0 v h]
  exact d4.mpr rfl
def za4 (fs:List (Option Int)):Nat:=fs.countP Option.isNone
theorem zc9:∀ {fs:List (Option Int)} {k:Nat} {x:Int},k < fs.length->fs[k]?=some none->za4 (fs.set k (some x))+1=za4 fs
 | [],k,x,h,_=>by simp at h
 | f::fs,0,x,_,h=>by
  have h:some f=some none:=h
  cases h
  simp[za4]
 | f::fs,k+1,x,h,h2=>by
  have ih:=zc9 (fs:=fs) (k:=k) (x:=x) (by simpa using h) (by simpa using h2)
  unfold za4 at ih ⊢
  rw[List.set_cons_succ,u2T,u2T]
  omega
def zmM:D->Bool
 | .non=>true
 | _=>false
theorem zg9 (fs:List (Option Int)):(fs.map vf).countP zmM=za4 fs:=by
 unfold za4
 rw[List.countP_map]
 congr 1
 funext o
 cases o <;> rfl
def wv:SE->Ctl :=
 (sIf (tOf (zo Vf (zo ixD (zg 2) (zg 6)) (eC .non))) (zT (XL true 2 (zg 6) (zo Zw (zo ixD (zg 2) (zg 5)) (eC (.int 1))))
  (Wo false 4 (zg 6))) yb)
def ww:SE->Ctl :=
 (ZQ (iOf (zr 2 zS (zb (zg 0) (zb (zg 5) zt)))) (yl 6) wv)
def wt:SE->Ctl :=
 (zT (Zu 4 (ye zt))
  (zT (ZQ (iOf (zg 3)) (yl 5) ww)
  (sFz 4 (x8 false 3 (zg 4)))))
def vW:SE->Ctl :=
 (zT (Zu 2 (ziK zgw (x5 (ye (zb (eC .non) zt))) (zo ixD (zg 0) (eC (.int 0)))))
  (zT (XL false 2 (zg 1) (eC (.int 0)))
  (zT (x8 false 3 (x5 (ye (zb (zg 1) zt))))
  (zT (ZK (tOf (zo gtD (eFn Zz (zb (zg 3) zt)) (eC (.int 0)))) wt 1000)
  (sFz 2 (yN (zg 2)))))))
def wL:List D->Option D:=fnD 7 vW
def muA:SE->Nat
 | [_,_,.o ds,.v (.lst rs),_,_,_]=>2*ds.countP zmM+(if rs.isEmpty=true then 0 else 1)
 | _=>0
theorem zfV (a b o4 o5 o6:Sl)(fs:List (Option Int))(rs:List D):muA [a,b,.o (fs.map vf),.v (.lst rs),o4,o5,o6]=2*za4 fs+(if rs.isEmpty=true then 0 else 1):=by
 show 2*(fs.map vf).countP zmM+_=_
 rw[zg9]
theorem zno {W rm:D}{p a x L:Int}{gs:List (Option Int)}{fu:List Int}{N B C:SE->Prop}{R:D->Prop}(hx0:0<=x)(hx:x < ((gs.map vf).length:Int))(ex:L2.atI (gs.map vf) x=some (vf (oAt gs x)))(ea:L2.atI (gs.map vf) a=some (.int L))(hfu:(fu.map D.int).length<=1000)
 (q1:oAt gs x=none->N [.v W,.v (.int p),.o ((gs.set x.toNat (some (L+1))).map vf),.v rm,.o ((fu++[x]).map .int),.v (.int a),.v (.int x)])
 (q2:oAt gs x≠none->N [.v W,.v (.int p),.o (gs.map vf),.v rm,.o (fu.map .int),.v (.int a),.v (.int x)]) :
 (wv [.v W,.v (.int p),.o (gs.map vf),.v rm,.o (fu.map .int),.v (.int a),.v (.int x)]).w N B C R:=by
 unfold wv
 cases hn:oAt gs x with
 | none =>
  rw[hn]at ex
  refine WA (c:=true) (by show(((L2.atI (gs.map vf) x).bind λd=>Vf d .non).bind asB)=_;rw[ex];rfl) (λ_=>?_) (λz=>by cases z)
  refine yW (zdN (gs.map vf) (.int (L+1)) x ?_ rfl rfl hx0 hx ?_)
  .show((((L2.atI (gs.map vf) a).bind λx=>Zw x (.int 1))).bind λd=>if noL d=true then some d else none)=_
   rw[ea]
   rfl
  have q:=q1 hn
  rw[u1e,u2O]at q
  exact ZH (VV (ds:=fu.map .int) (d:=.int x) rfl rfl hfu) q
 | some kx =>
  rw[hn]at ex
  refine WA (c:=false) (by show(((L2.atI (gs.map vf) x).bind λd=>Vf d .non).bind asB)=_;rw[ex];rfl) (λz=>by cases z) (λ_=>ZH rfl (q2 λz=>?_))
  rw[hn]at z
  cases z
structure VF (m:Int) (ts:List Tie) (p:Int) (L c:Nat) (S:Int->Prop) (gs:List (Option Int)) (fu:List Int):Prop where
 mid:VA m ts p L gs fu S
 cnt:fu.length+za4 gs=c
theorem VF.imp {m:Int}{ts:List Tie}{p:Int}{L c:Nat}{S S':Int->Prop}{gs:List (Option Int)}{fu:List Int}(h:VF m ts p L c S gs fu)(k:∀ v,S' v->S v\/oAt gs v≠none):VF m ts p L c S' gs fu:=⟨h.mid.imp k,h.cnt⟩
theorem VF.put {m:Int}{ts:List Tie}{p a x:Int}{L c:Nat}{S S':Int->Prop}{gs:List (Option Int)}{fu:List Int}(ok:zY m ts)(h:VF m ts p L c S gs fu)(hf:Far ts p a L)(ha:adj ts a x)(hx:0<=x/\x < m)(hn:oAt gs x=none)(k:∀ v,S' v->S v\/v=x):VF m ts p L c S' (gs.set x.toNat (some ((L:Int)+1))) (fu++[x]):=by
 have hl:=h.mid.len
 have hlt:x.toNat < gs.length:=by omega
 have hg:gs[x.toNat]?=some none:=by
  unfold oAt at hn
  rw[u7 hlt]at hn ⊢
  exact u05 some hn
 have:=zc9 (fs:=gs) (k:=x.toNat) (x:=(L:Int)+1) hlt hg
 refine⟨(h.mid.add ok hf ha hn rfl).imp λv hv=>.inl ((k v hv).imp id id),?_⟩
 rw[j9,List.length_singleton,<- h.cnt]
 omega
theorem znb {m:Int}{ts:List Tie}{p a:Int}{rm:D}{L c i:Nat}{rim:List Int}{gs:List (Option Int)}{fu:List Int}{o6:Sl}{N B C:SE->Prop}{R:D->Prop}(ok:zY m ts)(hp:0<=p/\p < m)(hc:c<=1000)(hfa:Far ts p a L)(hai:rim[i]?=some a)
 (h:VF m ts p L c (λv=>∃ a∈rim.take i,adj ts a v) gs fu)
 (q:∀ gs fu o6,VF m ts p L c (λv=>∃ a∈rim.take (i+1),adj ts a v) gs fu->N [.v (zw m ts),.v (.int p),.o (gs.map vf),.v rm,.o (fu.map .int),.v (.int a),o6]) :
 (ww [.v (zw m ts),.v (.int p),.o (gs.map vf),.v rm,.o (fu.map .int),.v (.int a),o6]).w N B C R:=by
 have ha01:=hfa.1.rng ok hp
 unfold ww
 refine Wn (ds:=(nbN m ts a).map zR) (λj ρ=>∃ (gs:List (Option Int)) (fu:List Int) (o6:Sl),ρ=[.v (zw m ts),.v (.int p),.o (gs.map vf),.v rm,.o (fu.map .int),.v (.int a),o6]/\VF m ts p L c (λv=>(∃ a∈rim.take i,adj ts a v)\/∃ k∈(nbN m ts a).take j,v=(k:Int)) gs fu) ?_ ⟨gs,fu,_,rfl,h.imp (λv hv=>.inl (hv.elim id λz=>by obtain⟨k,hk,_⟩:=z;cases hk))⟩ ?_ ?_
 .have e1:zS [zw m ts,.int a]=some (.lst ((nbN m ts a).map zR)):=by
   show(if vQ (zw m ts)=true then some (D.lst ((nbN (zjf (zw m ts)) (zjs (zw m ts)) a).map zR))else none)=_
   rw[j4 ((xN _).mpr ⟨_,_,rfl,ok⟩),WK,WT]
  show(zS [zw m ts,.int a]).bind xC=_
  rw[e1]
  rfl
 .rintro j d ρ hd ⟨gs,fu,o6,rfl,hm⟩
  rw[r9]at hd
  obtain⟨k,hk,rfl⟩:=t9.mp hd
  have hadj:adj ts a (k:Int):=(zcA ok).mp (j5 hk)
  have htake2:(nbN m ts a).take (j+1)=(nbN m ts a).take j++[k]:=by rw[u3T,hk];rfl
  have hr2:=(hadj.rng ok).2
  have hl:=hm.mid.len
  have ea:=zfe (fs:=gs) (i:=a) ha01.1 ha01.2 hl
  rw[hm.mid.full a L (q5 _) hfa]at ea
  have step:∀ v,((∃ a∈rim.take i,adj ts a v)\/∃ k∈(nbN m ts a).take (j+1),v=(k:Int))->((∃ a∈rim.take i,adj ts a v)\/∃ k∈(nbN m ts a).take j,v=(k:Int))\/v=(k:Int):=λv hv=>by
   rcases hv with hv | ⟨q,hq,e⟩
   .exact .inl (.inl hv)
   .rw[htake2]at hq
    rcases u0G.mp hq with hq | hq
    .exact .inl (.inr ⟨q,hq,e⟩)
    .cases d4.mp hq
     exact .inr e
  refine⟨[.v (zw m ts),.v (.int p),.o (gs.map vf),.v rm,.o (fu.map .int),.v (.int a),.v (.int (k:Int))],by unfold zR;rw[u1K];rfl,?_⟩
  refine zno hr2.1 (zfC hr2.1 hr2.2 hl) (zfe hr2.1 hr2.2 hl) ea (by rw[u9];have:=hm.cnt;omega) (λhn=>?_) (λhn=>?_)
  .exact⟨_,_,_,rfl,hm.put ok hfa hadj hr2 hn step⟩
  .exact⟨gs,fu,_,rfl,hm.imp λv hv=>(step v hv).imp id λe=>by rw[e];exact hn⟩
 .rintro ρ ⟨gs,fu,o6,rfl,hm⟩
  rw[u9,u2b]at hm
  refine q gs fu o6 (hm.imp λv hv=>.inl ?_)
  obtain⟨b,hb,had⟩:=hv
  rw[u3T,hai]at hb
  rcases u0G.mp hb with hb | hb
  .exact .inl ⟨b,hb,had⟩
  .cases d4.mp hb
   obtain⟨k,rfl⟩:=Int.eq_ofNat_of_zero_le (had.rng ok).2.1
   exact .inr ⟨k,(zcA ok).mpr had,rfl⟩
theorem zm9 {m:Int}{ts:List Tie}{p:Int}{L:Nat}{rim:List Int}{fs:List (Option Int)}{o4 o5 o6:Sl}{N B C:SE->Prop}{R:D->Prop}(ok:zY m ts)(hp:0<=p/\p < m)(hr:Vs m ts p L fs rim)
 (q:∀ gs fu o4 o5 o6,Vs m ts p (L+1) gs fu->fu.length+za4 gs=za4 fs->N [.v (zw m ts),.v (.int p),.o (gs.map vf),.v (.lst (fu.map .int)),o4,o5,o6]) :
 (wt [.v (zw m ts),.v (.int p),.o (fs.map vf),.v (.lst (rim.map .int)),o4,o5,o6]).w N B C R:=by
 have hc:za4 fs<=1000:=u0H u2N (by rw[hr.len];have:=ok.hi;omega)
 unfold wt
 refine zy (ρ':=[.v (zw m ts),.v (.int p),.o (fs.map vf),.v (.lst (rim.map .int)),.o (([]:List Int).map .int),o5,o6]) rfl ?_
 refine yW (Wn (ds:=rim.map .int) (λi ρ=>∃ (gs:List (Option Int)) (fu:List Int) (o5 o6:Sl),ρ=[.v (zw m ts),.v (.int p),.o (gs.map vf),.v (.lst (rim.map .int)),.o (fu.map .int),o5,o6]/\VF m ts p L (za4 fs) (λv=>∃ a∈rim.take i,adj ts a v) gs fu) rfl ⟨fs,[],_,_,rfl,hr.mid (λv z=>by obtain⟨a,ha,_⟩:=z;cases ha),u02 _⟩ ?_ ?_)
 .rintro i d ρ hd ⟨gs,fu,o5,o6,rfl,hm⟩
  rw[r9]at hd
  obtain⟨a,ha,rfl⟩:=t9.mp hd
  exact⟨[.v (zw m ts),.v (.int p),.o (gs.map vf),.v (.lst (rim.map .int)),.o (fu.map .int),.v (.int a),o6],rfl,znb ok hp hc ((hr.rim a).mp (j5 ha)) ha hm λgs fu o6 h=>⟨gs,fu,_,_,rfl,h⟩⟩
 .rintro ρ ⟨gs,fu,o5,o6,rfl,hm⟩
  rw[u9,u2b]at hm
  refine zew (ρ':=[.v (zw m ts),.v (.int p),.o (gs.map vf),.v (.lst (rim.map .int)),.v (.lst (fu.map .int)),o5,o6]) rfl ?_
  exact ZH (ρ':=[.v (zw m ts),.v (.int p),.o (gs.map vf),.v (.lst (fu.map .int)),.v (.lst (fu.map .int)),o5,o6]) rfl (q gs fu _ _ _ (hm.mid.end ok λa b ha hab=>⟨a,(hr.rim a).mpr ha,hab⟩) hm.cnt)
theorem vA {m:Int}{ts:List Tie}{p:Int}(ok:zY m ts)(hp:0<=p/\p < m):wL [zw m ts,.int p]=some (.lst ((Wp m ts p).map vf)):=by
 have hm1:=ok.lo
 have hm8:=ok.hi
 refine XG (ρ:=[.v (zw m ts),.v (.int p),.no,.no,.no,.no,.no]) rfl ?_
 unfold vW
 refine zy (ρ':=[.v (zw m ts),.v (.int p),.o ((List.replicate m.toNat none).map vf),.no,.no,.no,.no]) ?_ ?_
 .have e:=zns (d:=.non) hm1 hm8
  refine zjw (ds:=(List.replicate m.toNat none).map vf) ?_
  rw[List.map_replicate]
  exact e
 refine yW (zdN _ (.int 0) p rfl rfl rfl hp.1 (by rw[u9,u0u];omega) ?_)
 rw[show((List.replicate m.toNat (none:Option Int)).map vf).set p.toNat (.int 0)=((List.replicate m.toNat none).set p.toNat (some 0)).map vf by rw[u2O];rfl]
 refine zy (ρ':=[.v (zw m ts),.v (.int p),.o (((List.replicate m.toNat none).set p.toNat (some 0)).map vf),.v (.lst ([p].map .int)),.no,.no,.no]) rfl ?_
 refine yW (za0 (fun ρ=>∃ (L:Nat) (fs:List (Option Int)) (rim:List Int) (o4 o5 o6:Sl),ρ=[.v (zw m ts),.v (.int p),.o (fs.map vf),.v (.lst (rim.map .int)),o4,o5,o6]/\Vs m ts p L fs rim) muA ?_ 1000 _ ⟨0,_,[p],_,_,_,rfl,Vs.start hp⟩ ?_)
 .rintro ρ ⟨L,fs,rim,o4,o5,o6,rfl,hr⟩
  refine⟨decide ((0:Int) < ((rim.map D.int).length:Int)),rfl,λz=>?_,λz=>?_⟩
  .refine zm9 ok hp hr λgs fu o4 o5 o6 h hc=>⟨⟨L+1,gs,fu,_,_,_,rfl,h⟩,?_⟩
   rw[zfV,zfV,<- hc]
   cases rim with
   | nil=>cases z
   | cons _ _ =>
    cases fu with
    | nil=>show 2*za4 gs+0 < 2*(0+za4 gs)+1;omega
    | cons f fu=>show 2*za4 gs+1 < 2*((fu.length+1)+za4 gs)+1;omega
  .cases rim with
   | cons _ _ =>
    have:=u1S z
    rw[u0g,p9]at this
    omega
   | nil =>
    rw[hr.end]
    exact zew (ρ':=[.v (zw m ts),.v (.int p),.v (.lst ((Wp m ts p).map vf)),.v (.lst []),o4,o5,o6]) rfl (Zc rfl rfl)
 .rw[zfV]
  have:za4 ((List.replicate m.toNat (none:Option Int)).set p.toNat (some 0))<=_:=u2N
  rw[u1X,u0u]at this
  show 2*za4 _+1 < 1000
  omega
theorem YH (T:Txt K mg base ad):yU P w K mg base CX0 3 ad.f_ties_away ad.e_ties_away ["web","start"] (@spD ⟨K⟩ 2 wL):=by
 letI:KK:=⟨K⟩
 have G_neighbours:=Xs (P:=P) (w:=w) (base:=base) T
 refine y4 (N:=["web","start","away","rim","further","place","other"]) (ps:=["web","start"]) T.d_ties_away.fn yO (g:=vW) λcdv A outer s H E hr=>?_
 unfold vW wt ww wv
 exact(zh (ZL (i:=2) yO.nd rfl (Or.inl rfl) (zdF (vT (xE (za (W5 Vd) zc))) (zL (edv 0) (ze zd) (λ_ _=>rfl))))
  (zh (V2 (m:=false) (ze zd) (pv 2) (edv 1))
  (zh (yE (m:=false) (i:=3) yO.nd rfl (Or.inl rfl) (vT (xE (za (edv 1) zc))))
  (zh (zdB 1000 i5 (yj zd0 xS (zH _) (zP zG x9 rfl T.z_len Yr (za (edv 3) zc)) (ze zd)) (zh (ZL (i:=4) yO.nd rfl (Or.inl rfl) (xE zc))
  (zh (ZE i5 rfl (WS (edv 3)) (zW (zF (i:=5) yO.nd rfl (Or.inl rfl))) (zi (ZE i5 rfl (WS (zm G_neighbours hr rfl T.d_neighbours (za (edv 0) (za (edv 5) zc)))) (zW (zF (i:=6) yO.nd rfl (Or.inl rfl))) (zi (xD (yj zeT zcN (zH _) (zL (edv 2) (edv 6) (λ_ _=>rfl)) (W5 Vd)) (zh (V2 (m:=true) (wK (zL (edv 2) (edv 5) (λ_ _=>rfl)) (ze zd)) (pv 2) (edv 6))
  (zi (zcf (m:=false) (pv 4) (edv 6) (λa b=>zbm u0x u1g u1h YV a b)))) zK)))))
  (ZC 4 (zi (yE (m:=false) (i:=3) yO.nd rfl (Or.inl rfl) (edv 4)))))))
  (ZC 2 (zi (zB (edv 2))))))))
def Z7:SE->Ctl :=
 (x8 false 0 (zo Yt (eC (.int 2)) (zg 0)))
def Xn:SE->Ctl :=
 (zT (xi vb (zb (zg 1) zt) (yl 2) Z7)
  (yN (zg 0)))
def WL:List D->Option D:=fnD 3 Xn
theorem zdO {n k:Int}(h0:0<=k)(h1:k<=1000):WL [.int n,.int k]=some (.int (n*2 ^ k.toNat)):=by
 refine XG (ρ:=[.v (.int n),.v (.int k),.no]) rfl ?_
 unfold Xn
 refine yW (XF (lo:=0) (c:=k.toNat) (λi ρ=>∃ o2,ρ=[.v (.int (n*2 ^ i)),.v (.int k),o2]) ?_ ⟨.no,by rw[Int.pow_zero,Int.mul_one]⟩ ?_ ?_)
 .show vb [.int k]=_
  exact Y6 h0 (by omega)
 .rintro i ρ hi ⟨o2,rfl⟩
  refine⟨_,rfl,?_⟩
  unfold Z7
  have e:Yt (.int 2) (.int (n*2 ^ i))=some (.int (n*2 ^ (i+1))):=by
   rw[zfB (by decide) (by decide),Int.pow_succ,Int.mul_comm 2,Int.mul_assoc]
  refine ZH (ρ':=[.v (.int (n*2 ^ (i+1))),.v (.int k),.v (.int (0+(i:Int)))]) ?_ ⟨_,rfl⟩
  generalize n*2 ^ i=y at *
  generalize n*2 ^ (i+1)=z at *
  show(match Yt (.int 2) (.int y)with | some d=>Ctl.nx [.v d,.v (.int k),.v (.int (0+(i:Int)))] | none=>Ctl.no)=_
  rw[e]
 .rintro ρ ⟨o2,rfl⟩
  exact Zc rfl rfl
theorem zd1 (T:Txt K mg base ad):yU P w K mg base CX0 1 ad.f_doubled ad.e_doubled ["number","times"] (@spD ⟨K⟩ 2 WL):=by
 letI:KK:=⟨K⟩
 refine y4 (N:=["number","times","turn"]) (ps:=["number","times"]) T.d_doubled.fn XZ (g:=Xn) λcdv A outer s H E hr=>?_
 unfold Xn Z7
 exact(zh (Yh i5 rfl rfl T.z_range (za (edv 1) zc) (zW (zF (i:=2) XZ.nd rfl (Or.inl rfl))) (zi (yE (m:=false) (i:=0) XZ.nd rfl (Or.inl rfl) (Vi (ze zd) (edv 0)))))
  (zi (zB (edv 0))))
theorem xz.cat {ts:List Tie}{p a b:Int}{k:Nat}(h:xz ts p k a):∀ {j:Nat},xz ts a j b->xz ts p (k+j) b:=by
 intro j h2
 induction h2 with
 | zero=>exact h
 | step _ had ih=>exact .step ih had
theorem xz.back {ts:List Tie}{p v:Int}{k:Nat}(h:xz ts p k v):xz ts v k p:=by
 induction h with
 | zero=>exact .zero
 | @step k a b _ had ih =>
  have:=(xz.step (ts:=ts) (p:=b) .zero had.symm).cat ih
  rwa[show 0+1+k=k+1 by omega]at this
def Yq (m:Int)(ts:List Tie):Prop:=∀ p v,0<=p/\p < m->0<=v/\v < m->∃ k,xz ts p k v
theorem zaF {m:Int}{ts:List Tie}{p:Int}(hj:Yq m ts)(hp:0<=p/\p < m):∃ ks:List Int,Wp m ts p=ks.map some/\(ks.length:Int)=m:=by
 refine⟨(Wp m ts p).map λo=>o.getD 0,?_,by rw[u9,ZP];omega⟩
 rw[u0O]
 symm
 have:(Wp m ts p).map (some ∘ λo=>o.getD 0)=(Wp m ts p).map id:=by
  refine u0w λo ho=>?_
  unfold Wp at ho
  obtain⟨v,hv,rfl⟩:=u1q.mp ho
  have hv:=u0e.mp hv
  rcases Zl ts p (v:Int)with ⟨k,e,_⟩ | ⟨e,hk⟩
  .rw[e];rfl
  .obtain⟨k,r⟩:=hj p v hp ⟨by omega,by omega⟩
   exact absurd r (hk k)
 rw[this,u29]
theorem zah (ks:List Int):(ks.map some).map vf=ks.map .int:=by rw[u0O];rfl
def Zm:SE->Ctl :=
 (zT (x8 false 3 (zr 2 wL (zb (zg 0) (zb (zg 2) zt))))
  (zT (x8 false 4 (eFn yt (zb (x5 (fLC (WF vb (zb (zo ixD (zg 0) (eC (.int 0))) zt)) b1 (tOf (zo zZ (zo ixD (zg 4) (zg 0)) (eC .non))) (zg 0))) zt)))
  (sIf (tOf (zo Wj (zo ixD (zg 4) (eC (.int 0))) (zg 2))) (Wo false 1 (zg 4)) yb)))
def Zk:SE->Ctl :=
 (zT (Zt (zr 1 zM (zb (zg 0) zt)))
  (zT (Zu 1 (ye zt))
  (zT (xi vb (zb (zo ixD (zg 0) (eC (.int 0))) zt) (yl 2) Zm)
  (sFz 1 (yN (zg 1))))))
def Wu:List D->Option D:=fnD 5 Zk
theorem zao {m:Int}{ts:List Tie}(ok:zY m ts)(hj:Yq m ts):Wu [zw m ts]=some (.lst [.tup ((List.range m.toNat).map zR)]):=by
 have hm1:=ok.lo
 have hm8:=ok.hi
 have hw:vQ (zw m ts)=true:=(xN _).mpr ⟨_,_,rfl,ok⟩
 have e1:zM [zw m ts]=some .non:=by simp[zM,hw]
 have em:ixD (zw m ts) (.int 0)=some (.int m):=rfl
 obtain⟨n,hn⟩:∃ n:Nat,m.toNat=n+1:=⟨m.toNat - 1,by omega⟩
 refine XG (ρ:=[.v (zw m ts),.no,.no,.no,.no]) rfl ?_
 unfold Zk
 refine zy (ρ':=[.v (zw m ts),.no,.no,.no,.no]) (xq e1) ?_
 refine zy (ρ':=[.v (zw m ts),.o [],.no,.no,.no]) rfl ?_
 refine yW (XF (lo:=0) (c:=m.toNat) (λi ρ=>∃ o2 o3 o4,ρ=[.v (zw m ts),.o (if i=0 then []else [.tup ((List.range m.toNat).map zR)]),o2,o3,o4]) ?_ ⟨_,_,_,rfl⟩ ?_ ?_)
 .show vb [.int m]=_
  exact Y6 (by omega) (by omega)
 .rintro i ρ hi ⟨o2,o3,o4,rfl⟩
  obtain⟨x,hx⟩:∃ x:Int,(0:Int)+(i:Int)=x:=⟨_,rfl⟩
  rw[hx]
  refine⟨_,rfl,?_⟩
  have hxp:0<=x/\x < m:=by omega
  obtain⟨ks,hks,hkl⟩:=zaF hj hxp
  have e2:=vA ok hxp
  rw[hks,zah]at e2
  unfold Zm
  refine zy (ρ':=[.v (zw m ts),.o (if i=0 then []else [.tup ((List.range m.toNat).map zR)]),.v (.int x),.v (.lst (ks.map .int)),o4]) (wP e2) ?_
  have e3:=λa b=>show fLC (WF vb (zb (zo ixD (zg 0) (eC (.int 0))) zt)) b1 (tOf (zo zZ (zo ixD (zg 4) (zg 0)) (eC .non))) (zg 0) [some (zw m ts),a,some (.int x),some (.lst (ks.map .int)),b]=some ((List.range m.toNat).map zR) by
   unfold fLC
   show((vb [.int m]).bind λds=>if lim ds.length=true then _ else none)=_
   rw[Y6 (by omega) (by omega)]
   show(if lim (Wq 0 m.toNat).length=true then _ else none)=_
   rw[j4 (wq (by rw[Z9];omega))]
   refine zai zR zR (List.range m.toNat) λk hk=>⟨[some (zR k)],rfl,?_,rfl⟩
   have hk:=u0e.mp hk
   have ea:=WB (ns:=ks) (i:=(0:Int)+(k:Int)) (by omega) (by omega)
   show(((atI (ks.map D.int) (0+(k:Int))).bind λa=>zZ a .non).bind asB)=_
   rw[ea]
   rfl
  refine zy (ρ':=[.v (zw m ts),.o (if i=0 then []else [.tup ((List.range m.toNat).map zR)]),.v (.int x),.v (.lst (ks.map .int)),.v (.tup ((List.range m.toNat).map zR))]) (by simp[x8,vEv,visF,Sl.f,eFn,x5,zb,zt,e3,yt]) ?_
  have e4:atI ((List.range m.toNat).map zR) 0=some (.int 0):=by
   rw[hn,List.range_succ_eq_map,u0g]
   exact X6 (u27 _) rfl
  have e5:Wj (.int 0) (.int x)=some (.bl (decide ((0:Int)=x))):=rfl
  refine WA (c:=decide ((0:Int)=x)) (by simp[tOf,zo,zg,visG,Sl.g,eC,ixD,e4,e5,asB]) (λz=>?_) (λz=>ZH rfl ⟨.v (.int x),.v (.lst (ks.map .int)),.v (.tup ((List.range m.toNat).map zR)),?_⟩)
  .have z:=p6 z
   have hi0:i=0:=by omega
   subst hi0
   refine ZH (ρ':=[.v (zw m ts),.o [.tup ((List.range m.toNat).map zR)],.v (.int x),.v (.lst (ks.map .int)),.v (.tup ((List.range m.toNat).map zR))]) ?_ ⟨_,_,_,rfl⟩
   rw[VV (ds:=[]) (d:=.tup ((List.range m.toNat).map zR)) rfl rfl (by simp)]
   rfl
  .have z:=u1S z
   have hi0:i≠0:=by omega
   rw[j6 hi0,j6 (by omega:i+1≠0)]
 .rintro ρ ⟨o2,o3,o4,rfl⟩
  rw[j6 (by omega)]
  exact zew (ρ':=[.v (zw m ts),.v (.lst [.tup ((List.range m.toNat).map zR)]),o2,o3,o4]) rfl (Zc rfl rfl)
theorem zfF (T:Txt K mg base ad):yU P w K mg base CX0 8 ad.f_pieces ad.e_pieces ["web"] (@spD ⟨K⟩ 1 Wu):=by
 letI:KK:=⟨K⟩
 have G_must_be_web:=xO (P:=P) (w:=w) (base:=base) T
 have G_ties_away:=YH (P:=P) (w:=w) (base:=base) T
 refine y4 (N:=["web","found","start","away","piece"]) (ps:=["web"]) T.d_pieces.fn YO (g:=Zk) λcdv A outer s H E hr=>?_
 unfold Zk Zm
 exact(zh (xJ (zm G_must_be_web hr rfl T.d_must_be_web (za (edv 0) zc)))
  (zh (ZL (i:=1) YO.nd rfl (Or.inl rfl) (xE zc))
  (zh (Yh i5 rfl rfl T.z_range (za (zL (edv 0) (ze zd) (λ_ _=>rfl)) zc) (zW (zF (i:=2) YO.nd rfl (Or.inl rfl))) (zh (yE (m:=false) (i:=3) YO.nd rfl (Or.inr rfl) (zm G_ties_away hr rfl T.d_ties_away (za (edv 0) (za (edv 2) zc))))
  (zh (yE (m:=false) (i:=4) YO.nd rfl (Or.inl rfl) (vV xB YK rfl T.z_tuple xU (za (vT (ze2 (L:=["place"]) (M:=["web","found","start","away","piece"]) rfl (zbQ (by rfl) (by rfl) (by rfl) (by with_unfolding_all rfl) (by rfl) (by rfl) (by kernel_rfl) (all_cons rfl YI)) (zbt rfl T.z_range (za (zL (edv 0) (ze zd) (λ_ _=>rfl)) zc)) gs1 rb1 (λ_ _ _ _=>(zF (i:=0) zmL rfl (Or.inl rfl) (.inr rfl))) (λ_ _ _ _=>(yj zgM zdP (zH _) (zL (edv 4) (edv 0) (λ_ _=>rfl)) (W5 Vd))) (λ_ _ _ _=>(edv 0)))) zc)))
  (zi (xD (yj (w6 hr) xc (zH _) (zL (edv 4) (ze zd) (λ_ _=>rfl)) (edv 2)) (zi (zcf (m:=false) (pv 1) (edv 4) (λa b=>zbm u0x u1g u1h YV a b))) zK)))))
  (ZC 1 (zi (zB (edv 1)))))))
def wT:SE->Ctl :=
 (yN (zo Wj (eFn Zz (zb (zr 1 Wu (zb (zg 0) zt)) zt)) (eC (.int 1))))
def Yg:List D->Option D:=fnD 1 wT
theorem zaA {m:Int}{ts:List Tie}(ok:zY m ts)(hj:Yq m ts):Yg [zw m ts]=some (.bl true):=by
 have e1:=zao ok hj
 generalize (List.range m.toNat).map zR=pc at e1
 refine XG (ρ:=[.v (zw m ts)]) rfl ?_
 unfold wT
 have e2:Zz [.lst [.tup pc]]=some (.int 1):=rfl
 have e3:Wj (.int 1) (.int 1)=some (.bl true):=rfl
 exact Zc (d:=.bl true) (by simp[yN,visG,Sl.g,zo,eFn,zr,zb,zt,zg,eC,e1,e2,e3]) rfl
theorem zcd (T:Txt K mg base ad):yU P w K mg base CX0 9 ad.f_is_joined ad.e_is_joined ["web"] (@spD ⟨K⟩ 1 Yg):=by
 letI:KK:=⟨K⟩
 have G_pieces:=zfF (P:=P) (w:=w) (base:=base) T
 refine y4 (N:=["web"]) (ps:=["web"]) T.d_is_joined.fn zbX (g:=wT) λcdv A outer s H E hr=>?_
 unfold wT
 exact(zi (zB (ZF (w6 hr) xc (zH _) (zP zG x9 rfl T.z_len Yr (za (zm G_pieces hr rfl T.d_pieces (za (edv 0) zc)) zc)) (ze zd))))
def Y0:SE->Ctl :=
 (yN (ZW (zr 1 Yg (zb (zg 0) zt)) (zo Wj (eFn Zz (zb (zo ixD (zg 0) (eC (.int 1))) zt)) (zo Xa (zo ixD (zg 0) (eC (.int 0))) (eC (.int 1))))))
def YG:List D->Option D:=fnD 1 Y0
theorem zcq {m:Int}{ts:List Tie}(ok:zY m ts)(hj:Yq m ts)(hl:(ts.length:Int)=m - 1):YG [zw m ts]=some (.bl true):=by
 have e1:=zaA ok hj
 have e2:Zz [.tup (ts.map zE)]=some (.int (m - 1)):=by
  show some (D.int ((ts.map zE).length:Int))=_
  rw[u9,hl]
 have em:ixD (zw m ts) (.int 0)=some (.int m):=rfl
 have em1:ixD (zw m ts) (.int 1)=some (.tup (ts.map zE)):=rfl
 have e3:Wj (.int (m - 1)) (.int (m - 1))=some (.bl true):=by
  show some (D.bl (decide (m - 1=m - 1)))=_
  rw[o0 rfl]
 have es:Xa (.int m) (.int 1)=some (.int (m - 1)):=rfl
 refine XG (ρ:=[.v (zw m ts)]) rfl ?_
 unfold Y0
 exact Zc (d:=.bl true) (by simp[yN,visG,Sl.g,ZW,zo,eFn,zr,zb,zt,zg,eC,e1,e2,em,em1,es,e3,asB]) rfl
theorem VS (T:Txt K mg base ad):yU P w K mg base CX0 10 ad.f_is_tree ad.e_is_tree ["web"] (@spD ⟨K⟩ 1 YG):=by
 letI:KK:=⟨K⟩
 have G_is_joined:=zcd (P:=P) (w:=w) (base:=base) T
 refine y4 (N:=["web"]) (ps:=["web"]) T.d_is_tree.fn zen (g:=Y0) λcdv A outer s H E hr=>?_
 unfold Y0
 exact(zi (zB (YX (zm G_is_joined hr rfl T.d_is_joined (za (edv 0) zc)) (ZB (ZF (w6 hr) xc (zH _) (zP zG x9 rfl T.z_len Yr (za (zL (edv 0) (ze zd) (λ_ _=>rfl)) zc)) (ZJ (zL (edv 0) (ze zd) (λ_ _=>rfl)) (ze zd)))))))
def xP:SE->Ctl :=
 (sIf (yT (tOf (zr 1 YG (zb (zg 0) zt)))) sNo yb)
def xW:List D->Option D:=fnD 1 xP
theorem YM {m:Int}{ts:List Tie}(ok:zY m ts)(hj:Yq m ts)(hl:(ts.length:Int)=m - 1):xW [zw m ts]=some .non:=by
 have e1:=zcq ok hj hl
 refine XG (ρ:=[.v (zw m ts)]) rfl ?_
 unfold xP
 exact WA (c:=false) (by simp[yT,tOf,visG,Sl.g,zr,zb,zt,zg,e1,asB]) (λz=>by cases z) (λ_=>ZH rfl rfl)
theorem wW (T:Txt K mg base ad):yU P w K mg base CX0 11 ad.f_must_be_tree ad.e_must_be_tree ["web"] (@spD ⟨K⟩ 1 xW):=by
 letI:KK:=⟨K⟩
 have G_is_tree:=VS (P:=P) (w:=w) (base:=base) T
 refine y4 (N:=["web"]) (ps:=["web"]) T.d_must_be_tree.fn Y4 (g:=xP) λcdv A outer s H E hr=>?_
 unfold xP
 exact(zi (xD (vh (x6 (zm G_is_tree hr rfl T.d_is_tree (za (edv 0) zc)))) (zi Ws) zK))
structure vD (i:Nat) (ns:List Int):Prop where
 len:ns.length=i
 nd:ns.Nodup
 mem:∀ x:Int,x∈ns↔0<=x/\x < (i:Int)
def zkq (ns:List Int)(j:Int)(x:Int):List Int:=ns.take j.toNat++x::ns.drop j.toNat
theorem zeW (ns:List Int)(j x:Int):zkn (ns.map .int) j (.int x)=(zkq ns j x).map .int:=by
 unfold zkn zkq
 rw[u1e,u0g,List.map_take,List.map_drop]
theorem zfR (ns:List Int)(j x:Int):(zkq ns j x).Perm (x::ns):=by
 unfold zkq
 have:=List.perm_middle (a:=x) (l₁:=ns.take j.toNat) (l₂:=ns.drop j.toNat)
 rwa[u0c]at this
theorem vD.ins {i:Nat}{ns:List Int}(h:vD i ns)(j:Int){x:Int}(hx:x=(i:Int)):vD (i+1) (zkq ns j x):=by
 subst hx
 have p:=zfR ns j (i:Int)
 refine⟨by rw[p.length_eq,p9,h.len],?_,λx=>?_⟩
 .rw[p.nodup_iff,u1f]
  exact⟨λz=>by have:=(h.mem _).mp z;omega,h.nd⟩
 .rw[p.mem_iff,d5,h.mem]
  omega
def WN (ns:List Int)(ts:List Tie):Prop:=∀ (s:Nat) (t:Tie),ts[s]?=some t->∃ j:Nat,j<=s/\t=zcj (vAt ns ((s+1:Nat):Int)) (vAt ns (j:Int))
theorem Zn (a b:Int):zcj a b=(b,a)/\b < a\/zcj a b=(a,b)/\a < b\/a=b:=by
 unfold zcj
 by_cases c:b < a
 .left;rw[j4 c,j6 (by omega)];exact⟨rfl,c⟩
 .by_cases c2:b > a
  .right;left;rw[j6 c,j4 c2];exact⟨rfl,c2⟩
  .right;right;omega
theorem zaZ {ns:List Int}{k:Nat}(h:k < ns.length):vAt ns (k:Int)=ns[k]:=by
 unfold vAt
 rw[show((k:Int)).toNat=k by omega,p8,u7 h]
 rfl
section
variable {n:Nat}{ns:List Int}{ts:List Tie}
theorem Y9 (h:vD n ns){i j:Nat}(hi:i < n)(hj:j < n)(hij:i≠j):vAt ns (i:Int)≠vAt ns (j:Int):=by
 have hl:=h.len
 rw[zaZ (by omega),zaZ (by omega)]
 intro e
 exact hij ((u3C h.nd).mp e)
theorem zbE (h:vD n ns){i:Nat}(hi:i < n):0<=vAt ns (i:Int)/\vAt ns (i:Int) < (n:Int):=by
 have hl:=h.len
 rw[zaZ (by omega)]
 exact(h.mem _).mp (u1x _)
theorem WN.rng (h:vD n ns)(g:WN ns ts)(hl:ts.length < n):∀ t∈ts,0<=t.1/\t.1 < t.2/\t.2 < (n:Int):=by
 intro t ht
 obtain⟨s,hs⟩:=u1Y.mp ht
 obtain⟨j,hj,rfl⟩:=g s t hs
 have hsl:s < ts.length:=(u8.mp hs).1
 have ne:=Y9 h (i:=s+1) (j:=j) (by omega) (by omega) (by omega)
 have r1:=zbE h (i:=s+1) (by omega)
 have r2:=zbE h (i:=j) (by omega)
 rcases Zn (vAt ns ((s+1:Nat):Int)) (vAt ns (j:Int))with ⟨e,c⟩ | ⟨e,c⟩ | e
 .rw[e];exact⟨r2.1,c,r1.2⟩
 .rw[e];exact⟨r1.1,c,r2.2⟩
 .exact absurd e ne
theorem WN.nodup (h:vD n ns)(g:WN ns ts)(hl:ts.length < n):ts.Nodup:=by
  rw [u09,u0A]
  intro s s' hs hs' hlt e
  obtain ⟨j,hj,e1⟩:=g s ts[s] (u7 hs)
  obtain ⟨j',hj',e2⟩:=g s' ts[s'] (u7 hs')
  rw [e1,e2] at e
  have n1:=Y9 h (i:=s'+1) (j:=s+1) (by omega) (by omega) (by omega)
  have n2:=Y9 h (i:=s'+1) (j:=j) (by omega) (by omega) (by omega)
  have n3:=Y9 h (i:=s+1) (j:=j) (by omega) (by omega) (by omega)
  have n4:=Y9 h (i:=s'+1) (j:=j') (by omega) (by omega) (by omega)
  generalize vAt ns ((s'+1:Nat):Int)=a' at *
  generalize vAt ns ((s+1:Nat):Int)=a at *
  generalize vAt ns (j:Int)=b at *
  generalize vAt ns (j':Int)=b' at *
  rcases Zn a b with ⟨x1,c1⟩ | ⟨x1,c1⟩ | x1 <;> rcases Zn a' b' with ⟨x2,c2⟩ | ⟨x2,c2⟩ | x2 <;> first
    | exact n3 x1
    | exact n4 x2
    | (rw [x1,x2] at e
       have f1:=u05 Prod.fst e
       have f2:=u05 Prod.snd e
       simp only at f1 f2
       first | exact n1 f1.symm | exact n1 f2.symm | exact n2 f1.symm | exact n2 f2.symm)
theorem WN.snoc (g:WN ns ts){j:Nat}(hj:j<=ts.length){t:Tie}(ht:t=zcj (vAt ns ((ts.length+1:Nat):Int)) (vAt ns (j:Int))):WN ns (ts++[t]):=by
 intro s u hs
 by_cases c:s < ts.length
 .rw[u0R c]at hs
  exact g s u hs
 .rw[u0j (by omega)]at hs
  by_cases c2:s=ts.length
  .subst c2
   simp at hs
   exact⟨j,hj,by rw[<-hs,ht]⟩
  .rw[u0Z (by simp;omega)]at hs
   cases hs
theorem WN.joined (h:vD n ns)(g:WN ns ts)(hl:ts.length+1=n){us:List Tie}(hp:us.Perm ts):Yq (n:Int) us:=by
 have key:∀ s:Nat,s < n->∃ k,xz us (vAt ns ((0:Nat):Int)) k (vAt ns (s:Int)):=by
  intro s
  induction s using Nat.strongRecOn with
  | _ s ih =>
   intro hs
   cases s with
   | zero=>exact⟨0,.zero⟩
   | succ s =>
    have hsl:s < ts.length:=by omega
    obtain⟨j,hj,e⟩:=g s ts[s] (u7 hsl)
    obtain⟨k,r⟩:=ih j (by omega) (by omega)
    refine⟨k+1,.step r ?_⟩
    have hm:zcj (vAt ns ((s+1:Nat):Int)) (vAt ns (j:Int))∈us:=by
     rw[<-e]
     exact hp.mem_iff.mpr (u1x hsl)
    have ne:=Y9 h (i:=s+1) (j:=j) (by omega) (by omega) (by omega)
    rcases Zn (vAt ns ((s+1:Nat):Int)) (vAt ns (j:Int))with ⟨x,c⟩ | ⟨x,c⟩ | x
    .rw[x]at hm;exact .inl hm
    .rw[x]at hm;exact .inr hm
    .exact absurd x ne
 have all:∀ v:Int,0<=v/\v < (n:Int)->∃ k,xz us (vAt ns ((0:Nat):Int)) k v:=λv hv=>by
  obtain⟨s,hs⟩:=u1Y.mp ((h.mem v).mpr hv)
  obtain⟨hs1,hs2⟩:=u8.mp hs
  have hlen:=h.len
  obtain⟨k,r⟩:=key s (by omega)
  rw[zaZ hs1,hs2]at r
  exact⟨k,r⟩
 intro p v hp' hv
 obtain⟨k,r⟩:=all p hp'
 obtain⟨j,r2⟩:=all v hv
 exact⟨_,r.back.cat r2⟩
end
def wj:SE->Ctl :=
 (zT (x8 false 7 (zo vX (zg 6) (zg 4)))
  (zT (x8 false 6 (zo wl (zg 6) (zg 4)))
  (zT (sIf (tOf (zo Wj (zo vX (zo wl (zg 0) (zg 1)) (eC (.int 2))) (eC (.int 1)))) (x8 false 7 (eFn zdU (zb (eC (.int 0)) (zb (zo Xa (zo Xa (zg 4) (eC (.int 1))) (zo vX (zr 2 xL (zb (zg 0) (zb (zo Zw (eC (.int 60)) (zg 4)) zt))) (eC (.int 3)))) zt)))) yb)
  (Wo false 5 (Yo (zb (eFn zhq (zb (zo ixD (zg 3) (zg 4)) (zb (zo ixD (zg 3) (zg 7)) zt))) (zb (eFn zdU (zb (zo ixD (zg 3) (zg 4)) (zb (zo ixD (zg 3) (zg 7)) zt))) zt)))))))
def wd:SE->Ctl :=
 (zmq false 3 (zo vX (zr 2 xL (zb (zg 0) (zb (zo Zw (eC (.int 40)) (zg 4)) zt))) (zo Zw (zg 4) (eC (.int 1)))) (zg 4))
def y3:SE->Ctl :=
 (zT (x8 false 2 (zo Zw (eC (.int 1)) (zo vX (zg 0) (zg 1))))
  (zT (Zu 3 (ye zt))
  (zT (xi vb (zb (zg 2) zt) (yl 4) wd)
  (sFz 3 (zT (Zu 5 (ye zt))
  (zT (x8 false 6 (zo wl (zg 0) (zg 1)))
  (zT (xi Vu (zb (eC (.int 1)) (zb (zg 2) zt)) (yl 4) wj)
  (sFz 5 (yN (Yo (zb (zg 2) (zb (eFn yt (zb (x5 (fFn zee (zb (zg 5) zt))) zt)) zt))))))))))))
def vC:List D->Option D:=fnD 8 y3
theorem zd2 {c mo:Int}(h1:1<=mo)(h8:mo<=8):∃ ts,vC [.int c,.int mo]=some (zw (1+c % mo) ts)/\zY (1+c % mo) ts/\Yq (1+c % mo) ts/\(ts.length:Int)=1+c % mo - 1:=by
 obtain⟨g1,g2⟩:=Zh (a:=c) (ziH h1) rfl
 obtain⟨n,hn⟩:∃ n:Nat,1+c % mo=((n+1:Nat):Int):=⟨(c % mo).toNat,by omega⟩
 obtain⟨m,hm⟩:∃ m:Int,1+c % mo=m:=⟨_,rfl⟩
 obtain⟨lf,hlf⟩:∃ lf:Int,c / mo=lf:=⟨_,rfl⟩
 rw[hm]
 rw[hm]at hn
 have hmp:=ziH h1
 have hn7:n<=7:=by omega
 have hmB:mo < 1606938044258990275541962092341162602522202993782792835301376:=by omega
 clear g1 g2 h8
 have key:=zjJ (m:=8) (g:=y3) (ds:=[.int c,.int mo]) (R:=λd=>∃ (ns:List Int) (ts:List Tie),d=zw m (zan ts)/\vD (n+1) ns/\WN ns ts/\ts.length=n) (ρ:=[.v (.int c),.v (.int mo),.no,.no,.no,.no,.no,.no]) rfl ?_
 .obtain⟨d,e,ns,ts,rfl,hnm,hg,hl⟩:=key
  have hp:=VR ts
  refine⟨_,e,⟨by omega,by omega,λt ht=>?_,zb9 (hg.nodup hnm (by omega))⟩,?_,by rw[hp.length_eq];omega⟩
  .have:=hg.rng hnm (by omega) t (hp.mem_iff.mp ht)
   rw[hn]
   exact this
  .rw[hn]
   exact hg.joined hnm (by omega) hp
 unfold y3
 have es:∀ k:Int,xL [.int c,.int k]=some (.int (zfP c k)):=λk=>rfl
 have e0:vX (.int c) (.int mo)=some (.int (c % mo)):=vJ hmp
 have e1:wl (.int c) (.int mo)=some (.int lf):=by rw[zaD hmp hmB,hlf]
 refine zy (ρ':=[.v (.int c),.v (.int mo),.v (.int m),.no,.no,.no,.no,.no]) (by simp[x8,vEv,visF,Sl.f,zo,zg,eC,e0,yd,hm]) ?_
 refine zy (ρ':=[.v (.int c),.v (.int mo),.v (.int m),.o (([]:List Int).map .int),.no,.no,.no,.no]) rfl ?_
 refine yW (XF (lo:=0) (c:=n+1) (λi ρ=>∃ (ns:List Int) (o4:Sl),ρ=[.v (.int c),.v (.int mo),.v (.int m),.o (ns.map .int),o4,.no,.no,.no]/\vD i ns) ?_ ⟨[],_,rfl,rfl,u2L,λx=>by simp <;> omega⟩ ?_ ?_)
 .show vb [.int m]=_
  exact zld hn hn7
 .rintro i ρ hi ⟨ns,o4,rfl,hnm⟩
  obtain⟨x,hx⟩:∃ x:Int,(0:Int)+(i:Int)=x:=⟨_,rfl⟩
  rw[hx]
  refine⟨_,rfl,?_⟩
  unfold wd
  obtain⟨j,hj⟩:∃ j:Int,zfP c (40+x) % (x+1)=j:=⟨_,rfl⟩
  have x1:0 < x+1:=by omega
  obtain⟨j0,j1⟩:=Zh x1 hj
  have m1:vX (.int (zfP c (40+x))) (.int (x+1))=some (.int j):=by rw[vJ x1,hj]
  have a1:Zw (.int 40) (.int x)=some (.int (40+x)):=rfl
  have a2:Zw (.int x) (.int 1)=some (.int (x+1)):=rfl
  have hl:=hnm.len
  refine ZH (ρ':=[.v (.int c),.v (.int mo),.v (.int m),.o ((zkq ns j x).map .int),.v (.int x),.no,.no,.no]) ?_ ⟨_,_,rfl,hnm.ins j (by omega)⟩
  rw[zkH (ds:=ns.map .int) (d:=.int x) (k:=j) ?_ rfl rfl (by rw[u9];omega) j0 (by omega),zeW]
  .rfl
  .have es2:=es (40+x)
   generalize zfP c (40+x)=sx at *
   simp[vEv,visF,Sl.f,zo,zr,zb,zt,zg,eC,a1,a2,es2,m1]
 .rintro ρ ⟨ns,o4,rfl,hnm⟩
  have hl:=hnm.len
  refine zew (ρ':=[.v (.int c),.v (.int mo),.v (.int m),.v (.lst (ns.map .int)),o4,.no,.no,.no]) rfl ?_
  refine zy (ρ':=[.v (.int c),.v (.int mo),.v (.int m),.v (.lst (ns.map .int)),o4,.o (([]:List Tie).map zE),.no,.no]) rfl ?_
  refine zy (ρ':=[.v (.int c),.v (.int mo),.v (.int m),.v (.lst (ns.map .int)),o4,.o (([]:List Tie).map zE),.v (.int lf),.no]) (wP e1) ?_
  refine yW (XF (lo:=1) (c:=n) (λi ρ=>∃ (ts:List Tie) (l:Int) (o4 o7:Sl),ρ=[.v (.int c),.v (.int mo),.v (.int m),.v (.lst (ns.map .int)),o4,.o (ts.map zE),.v (.int l),o7]/\WN ns ts/\ts.length=i) ?_ ⟨[],lf,_,_,rfl,λs t h=>by simp at h,rfl⟩ ?_ ?_)
  .show Vu [.int 1,.int m]=_
   exact zml hn hn7
  .rintro i ρ hi ⟨ts,l,o4,o7,rfl,hg,hi2⟩
   obtain⟨x,hx⟩:∃ x:Int,(1:Int)+(i:Int)=x:=⟨_,rfl⟩
   rw[hx]
   refine⟨[.v (.int c),.v (.int mo),.v (.int m),.v (.lst (ns.map .int)),.v (.int x),.o (ts.map zE),.v (.int l),o7],rfl,?_⟩
   unfold wj
   have xp:0 < x:=by omega
   have m1:vX (.int l) (.int x)=some (.int (l % x)):=vJ xp
   have m2:wl (.int l) (.int x)=some (.int (l / x)):=zaD xp (by omega)
   refine zy (ρ':=[.v (.int c),.v (.int mo),.v (.int m),.v (.lst (ns.map .int)),.v (.int x),.o (ts.map zE),.v (.int l),.v (.int (l % x))]) (wP m1) ?_
   refine zy (ρ':=[.v (.int c),.v (.int mo),.v (.int m),.v (.lst (ns.map .int)),.v (.int x),.o (ts.map zE),.v (.int (l / x)),.v (.int (l % x))]) (wP m2) ?_
   refine znt (fun ρ=>∃ j:Int,ρ=[.v (.int c),.v (.int mo),.v (.int m),.v (.lst (ns.map .int)),.v (.int x),.o (ts.map zE),.v (.int (l / x)),.v (.int j)]/\0<=j/\j < x) ?_ ?_
   .have m3:vX (.int lf) (.int 2)=some (.int (lf % 2)):=vJ (by decide)
    have q1:Wj (.int (lf % 2)) (.int 1)=some (.bl (decide (lf % 2=1))):=rfl
    refine WA (c:=decide (lf % 2=1)) (by simp[tOf,zo,zg,visG,Sl.g,eC,e1,m3,q1,asB]) (λ_=>?_) (λ_=>ZH rfl ⟨_,rfl,(Zh xp rfl).1,(Zh xp rfl).2⟩)
    obtain⟨r,hr⟩:∃ r:Int,zfP c (60+x) % 3=r:=⟨_,rfl⟩
    have r0:=(Zh (by decide) hr).1
    have m4:vX (.int (zfP c (60+x))) (.int 3)=some (.int r):=by rw[vJ (by decide),hr]
    have a1:Zw (.int 60) (.int x)=some (.int (60+x)):=rfl
    have s1:Xa (.int x) (.int 1)=some (.int (x - 1)):=rfl
    have s2:Xa (.int (x - 1)) (.int r)=some (.int (x - 1 - r)):=rfl
    have x1:zdU [.int 0,.int (x - 1 - r)]=some (.int (if x - 1 - r > 0 then x - 1 - r else 0)):=rfl
    refine ZH (ρ':=[.v (.int c),.v (.int mo),.v (.int m),.v (.lst (ns.map .int)),.v (.int x),.o (ts.map zE),.v (.int (l / x)),.v (.int (if x - 1 - r > 0 then x - 1 - r else 0))]) ?_ ⟨_,rfl,by split <;> omega,by split <;> omega⟩
    have es2:=es (60+x)
    generalize zfP c (60+x)=sx at *
    generalize (if x - 1 - r > 0 then x - 1 - r else 0)=mx at *
    simp[x8,vEv,visF,Sl.f,eFn,zo,zr,zb,zt,zg,eC,a1,es2,m4,s1,s2,x1]
   .rintro ρ ⟨j,rfl,j0,j1⟩
    have ex:=WB (ns:=ns) (i:=x) (by omega) (by omega)
    have ej:=WB (ns:=ns) (i:=j) (by omega) (by omega)
    have hmin:zhq [.int (vAt ns x),.int (vAt ns j)]=some (.int (zcj (vAt ns x) (vAt ns j)).1):=rfl
    have hmax:zdU [.int (vAt ns x),.int (vAt ns j)]=some (.int (zcj (vAt ns x) (vAt ns j)).2):=rfl
    refine ZH (ρ':=[.v (.int c),.v (.int mo),.v (.int m),.v (.lst (ns.map .int)),.v (.int x),.o ((ts++[zcj (vAt ns x) (vAt ns j)]).map zE),.v (.int (l / x)),.v (.int j)]) ?_ ⟨_,_,_,_,rfl,hg.snoc (j:=j.toNat) (by omega) ?_,by rw[j9,hi2];rfl⟩
    .generalize zcj (vAt ns x) (vAt ns j)=tt at *
     rw[VV (ds:=ts.map zE) (d:=zE tt) ?_ rfl (by rw[u9];omega),u1e]
     .rfl
     .simp[vEv,visF,Sl.f,Yo,eFn,zb,zt,zo,zg,ixD,ex,ej,hmin,hmax,wq]
      rfl
    .rw[show((ts.length+1:Nat):Int)=x by omega,show((j.toNat:Nat):Int)=j by omega]
  .rintro ρ ⟨ts,l,o4,o7,rfl,hg,hi2⟩
   have e5:=zeo (ts:=ts) (by omega)
   refine zew (ρ':=[.v (.int c),.v (.int mo),.v (.int m),.v (.lst (ns.map .int)),o4,.v (.lst (ts.map zE)),.v (.int l),o7]) rfl ?_
   refine Zc (d:=zw m (zan ts)) ?_ ⟨ns,ts,rfl,hnm,hg,hi2⟩
   simp[yN,visG,Sl.g,Yo,eFn,x5,fFn,zb,zt,zg,e5,yt,wq]
   rfl
theorem W7 (T:Txt K mg base ad):yU P w K mg base CX0 2 ad.f__law_tree_by ad.e__law_tree_by ["cell","most"] (@spD ⟨K⟩ 2 vC):=by
 letI:KK:=⟨K⟩
 have G__law_stir:=Wa (P:=P) (w:=w) (base:=base) T
 refine y4 (N:=["cell","most","many","names","k","ties","left","inner"]) (ps:=["cell","most"]) T.d__law_tree_by.fn zD (g:=y3) λcdv A outer s H E hr=>?_
 unfold y3 wd wj
 exact(zh (yE (m:=false) (i:=2) zD.nd rfl (Or.inl rfl) (wK (ze zd) (ZA (edv 0) (edv 1))))
  (zh (ZL (i:=3) zD.nd rfl (Or.inl rfl) (xE zc))
  (zh (Yh i5 rfl rfl T.z_range (za (edv 2) zc) (zW (zF (i:=4) zD.nd rfl (Or.inl rfl))) (zi (zl1 (m:=false) (pv 3) (ZA (zm G__law_stir hr rfl T.d__law_stir (za (edv 0) (za (wK (ze zd) (edv 4)) zc))) (wK (edv 4) (ze zd))) (edv 4) (λa b=>zbm u0x PySem.F.slot_list_insert PySem.F.type_list_insert zeY a b))))
  (ZC 3 (zh (ZL (i:=5) zD.nd rfl (Or.inl rfl) (xE zc))
  (zh (yE (m:=false) (i:=6) zD.nd rfl (Or.inl rfl) (zab (edv 0) (edv 1)))
  (zh (zhC i5 rfl rfl T.z_range (za (ze zd) (za (edv 2) zc)) (zW (zF (i:=4) zD.nd rfl (Or.inl rfl))) (zh (yE (m:=false) (i:=7) zD.nd rfl (Or.inl rfl) (ZA (edv 6) (edv 4)))
  (zh (yE (m:=false) (i:=6) zD.nd rfl (Or.inl rfl) (zab (edv 6) (edv 4)))
  (zh (xD (yj (w6 hr) xc (zH _) (ZA (zab (edv 0) (edv 1)) (ze zd)) (ze zd)) (zi (yE (m:=false) (i:=7) zD.nd rfl (Or.inl rfl) (zP (Ve rfl) zaL rfl T.z_max zdh (za (ze zd) (za (ZJ (ZJ (edv 4) (ze zd)) (ZA (zm G__law_stir hr rfl T.d__law_stir (za (edv 0) (za (wK (ze zd) (edv 4)) zc))) (ze zd))) zc))))) zK)
  (zi (zcf (m:=false) (pv 5) (wR (za (zP (zbH rfl) zdi rfl T.z_min ziP (za (zL (edv 3) (edv 4) (λ_ _=>rfl)) (za (zL (edv 3) (edv 7) (λ_ _=>rfl)) zc))) (za (zP (Ve rfl) zaL rfl T.z_max zdh (za (zL (edv 3) (edv 4) (λ_ _=>rfl)) (za (zL (edv 3) (edv 7) (λ_ _=>rfl)) zc))) zc))) (λa b=>zbm u0x u1g u1h YV a b)))))))
  (ZC 5 (zi (zB (wR (za (edv 2) (za (vV xB YK rfl T.z_tuple xU (za (vT (zfz rfl rfl T.z_sorted (za (edv 5) zc))) zc)) zc)))))))))))))
theorem zg3 {gx hx:SE->Option Nat}{g:SE->Ctl}{ρ:SE}{j:Nat}(e:gx ρ=some j):zhf gx g hx ρ=some j:=by
 unfold zhf
 rw[e]
theorem Vn {gx hx:SE->Option Nat}{g:SE->Ctl}{ρ ρ':SE}{j:Nat}(e:gx ρ=none)(e2:g ρ=.nx ρ')(e3:hx ρ'=some j):zhf gx g hx ρ=some j:=by
 unfold zhf
 rw[e,e2]
 exact e3
theorem zij {gx:SE->Option Nat}{g:SE->Ctl}{h:Nat->Option D}{ρ:SE}{j:Nat}{d:D}(e:gx ρ=some j)(e2:h j=some d):zlO gx g h ρ=.rt d:=by
 unfold zlO
 rw[e]
 show(match h j with | some d=>Ctl.rt d | none=>.no)=_
 rw[e2]
def ZI (m:Int)(ts:List Tie)(ks:List Int)(x:Int):List Nat:=(nbN m ts x).filter λo:Nat=>decide (vAt ks x < vAt ks (o:Int))
theorem zbv {m:Int}{ts:List Tie}{x:Int}{o:Nat}(h:o∈nbN m ts x):(o:Int) < m:=by
 unfold nbN at h
 have:=u0e.mp (u07.mp h).1
 omega
theorem ziY {m:Int}{ts:List Tie}{x:Int}(ok:zY m ts):(nbN m ts x).length<=8:=zep ok
theorem q_nb {m:Int}{ts:List Tie}{x:Int}(ok:zY m ts):zS [zw m ts,.int x]=some (.lst ((nbN m ts x).map zR)):=by
 simp only[zS]
 rw[j4 ((xN _).mpr ⟨_,_,rfl,ok⟩),WK,WT]
def Zd (m:Int)(ts:List Tie)(ks:List Int)(i:Nat):List D:=(List.range i).map λx:Nat=>.lst ((ZI m ts ks (x:Int)).map zR)
def yY:SE->Ctl :=
 (Wo false 3 (x5 (fLC (iOf (zr 2 zS (zb (zg 0) (zb (zg 4) zt)))) b1 (tOf (zo gtD (zo ixD (zg 3) (zg 0)) (zo ixD (zg 3) (zg 5)))) (zg 0))))
def yG:SE->Ctl :=
 (zT (x8 false 2 (zr 2 wL (zb (zg 0) (zb (zg 1) zt))))
  (zT (Zu 3 (ye zt))
  (zT (xi vb (zb (zo ixD (zg 0) (eC (.int 0))) zt) (yl 4) yY)
  (sFz 3 (yN (zg 3))))))
def yH:List D->Option D:=fnD 5 yG
theorem zdm {m:Int}{ts:List Tie}{p:Int}{ks:List Int}(ok:zY m ts)(hp:0<=p/\p < m)(hks:Wp m ts p=ks.map some)(hkl:(ks.length:Int)=m):yH [zw m ts,.int p]=some (.lst (Zd m ts ks m.toNat)):=by
 have hm1:=ok.lo
 have hm8:=ok.hi
 have em:ixD (zw m ts) (.int 0)=some (.int m):=rfl
 have e2:=vA ok hp
 rw[hks,zah]at e2
 refine XG (ρ:=[.v (zw m ts),.v (.int p),.no,.no,.no]) rfl ?_
 unfold yG
 refine zy (ρ':=[.v (zw m ts),.v (.int p),.v (.lst (ks.map .int)),.no,.no]) (wP e2) ?_
 refine zy (ρ':=[.v (zw m ts),.v (.int p),.v (.lst (ks.map .int)),.o [],.no]) rfl ?_
 refine yW (XF (lo:=0) (c:=m.toNat) (λi ρ=>∃ o4,ρ=[.v (zw m ts),.v (.int p),.v (.lst (ks.map .int)),.o (Zd m ts ks i),o4]) ?_ ⟨_,rfl⟩ ?_ ?_)
 .show vb [.int m]=_
  exact Zo ok
 .rintro i ρ hi ⟨o4,rfl⟩
  obtain⟨x,hx⟩:∃ x:Int,(0:Int)+(i:Int)=x:=⟨_,rfl⟩
  rw[hx]
  refine⟨[.v (zw m ts),.v (.int p),.v (.lst (ks.map .int)),.o (Zd m ts ks i),.v (.int x)],rfl,?_⟩
  unfold yY
  have hxp:=zgF hi hx
  have ex:=zfw (ns:=ks) (i:=x) hxp hkl
  have e3:fLC (iOf (zr 2 zS (zb (zg 0) (zb (zg 4) zt)))) b1 (tOf (zo gtD (zo ixD (zg 3) (zg 0)) (zo ixD (zg 3) (zg 5)))) (zg 0) [some (zw m ts),some (.int p),some (.lst (ks.map .int)),none,some (.int x)]=some ((ZI m ts ks x).map zR):=by
   unfold fLC
   show((zS [zw m ts,.int x]).bind xC).bind _=_
   rw[q_nb ok]
   show(if lim ((nbN m ts x).map zR).length=true then _ else none)=_
   rw[j4 (zlZ (by rw[u9];exact ziY ok))]
   unfold ZI
   refine Zf zR (λo:Nat=>decide (vAt ks x < vAt ks (o:Int))) zR (nbN m ts x) λo ho=>⟨[some (zR o)],rfl,?_,λ_=>rfl⟩
   have ho:=zbv ho
   have eo:=zfw (ns:=ks) (zfS ho) hkl
   show(((atI (ks.map D.int) (0+(o:Int))).bind λa=>(atI (ks.map D.int) x).bind λb=>gtD a b).bind asB)=_
   rw[eo,ex,u1K]
   rfl
  refine ZH (ρ':=[.v (zw m ts),.v (.int p),.v (.lst (ks.map .int)),.o (Zd m ts ks (i+1)),.v (.int x)]) ?_ ⟨_,rfl⟩
  rw[VV (ds:=Zd m ts ks i) (d:=.lst ((ZI m ts ks x).map zR)) ?_ rfl (by unfold Zd;rw[u9,u01];omega)]
  .have:Zd m ts ks (i+1)=Zd m ts ks i++[.lst ((ZI m ts ks x).map zR)]:=by
    unfold Zd
    rw[List.range_succ,u1e]
    rw[show x=(i:Int) by omega]
    rfl
   rw[this]
   rfl
  .simp only[vEv,visF,x5,u0g,u3N,Sl.f,u3i,u3X,e3]
   rfl
 .rintro ρ ⟨o4,rfl⟩
  exact zew (ρ':=[.v (zw m ts),.v (.int p),.v (.lst (ks.map .int)),.v (.lst (Zd m ts ks m.toNat)),o4]) rfl (Zc rfl rfl)
theorem wZ (T:Txt K mg base ad):yU P w K mg base CX0 4 ad.f_outer_neighbours ad.e_outer_neighbours ["web","root"] (@spD ⟨K⟩ 2 yH):=by
 letI:KK:=⟨K⟩
 have G_neighbours:=Xs (P:=P) (w:=w) (base:=base) T
 have G_ties_away:=YH (P:=P) (w:=w) (base:=base) T
 refine y4 (N:=["web","root","away","outer","place"]) (ps:=["web","root"]) T.d_outer_neighbours.fn yy (g:=yG) λcdv A outer s H E hr=>?_
 unfold yG yY
 exact(zh (yE (m:=false) (i:=2) yy.nd rfl (Or.inr rfl) (zm G_ties_away hr rfl T.d_ties_away (za (edv 0) (za (edv 1) zc))))
  (zh (ZL (i:=3) yy.nd rfl (Or.inl rfl) (xE zc))
  (zh (Yh i5 rfl rfl T.z_range (za (zL (edv 0) (ze zd) (λ_ _=>rfl)) zc) (zW (zF (i:=4) yy.nd rfl (Or.inr rfl))) (zi (zcf (m:=false) (pv 3) (vT (ze2 (L:=["other"]) (M:=["web","root","away","outer","place"]) rfl (zbQ (by rfl) (by rfl) (by rfl) (by with_unfolding_all rfl) (by rfl) (by rfl) (by kernel_rfl) (all_cons rfl (all_cons rfl YI))) (WS (zm G_neighbours hr rfl T.d_neighbours (za (edv 0) (za (edv 4) zc)))) gs1 rb1 (λ_ _ _ _=>(zF (i:=0) znc rfl (Or.inl rfl) (.inr rfl))) (λ_ _ _ _=>(yj zd0 xS (zH _) (zL (edv 3) (edv 0) (λ_ _=>rfl)) (zL (edv 3) (edv 5) (λ_ _=>rfl)))) (λ_ _ _ _=>(edv 0)))) (λa b=>zbm u0x u1g u1h YV a b))))
  (ZC 3 (zi (zB (edv 3)))))))
theorem ZT {m:Int}{ts:List Tie}{ks:List Int}{x:Int}{o:Nat}(h:o∈ZI m ts ks x):(o:Int) < m:=zbv (u07.mp h).1
theorem zaw {m:Int}{ts:List Tie}{ks:List Int}{x:Int}(ok:zY m ts):(ZI m ts ks x).length<=8:=by
 unfold ZI
 exact u0H (List.length_filter_le _ _) (ziY ok)
theorem zaH {ns:List Int}{i j x:Int}(hi:0<=i)(hl:i < ns.length)(hj:0<=j):vAt (ns.set i.toNat x) j=if j=i then x else vAt ns j:=by
 unfold vAt
 rw[p8,p8,u00]
 by_cases h:j=i
 .subst h
  rw[j4 rfl,j4 rfl,j4 (by omega)]
  rfl
 .rw[j6 h,j6 (by omega)]
def zhX (m:Int)(ts:List Tie)(ks cs:List Int)(x:Int):List Int:=(ZI m ts ks x).map λo:Nat=>vAt cs (o:Int)
def EqA (F:Int->List Int->Int)(m:Int)(ts:List Tie)(ks cs:List Int)(x:Int):Prop:=vAt cs x=F x (zhX m ts ks cs x)
theorem W4 {m:Int}{ts:List Tie}{ks:List Int}{x:Int}{o:Nat}(h:o∈ZI m ts ks x):vAt ks x < vAt ks (o:Int):=p6 (u07.mp h).2
theorem zc2 {m x v:Int}{ts:List Tie}{ks cs:List Int}{y:Int}(h0:0<=x)(h1:x < cs.length)(h:∀ o∈ZI m ts ks y,(o:Int)≠x):zhX m ts ks (cs.set x.toNat v) y=zhX m ts ks cs y:=by
 refine u0w λo ho=>?_
 rw[zaH h0 h1 (by omega),j6 (h o ho)]
theorem zjD {F:Int->List Int->Int}{m x:Int}{ts:List Tie}{ks cs:List Int}{S:Int->Prop}(hS:∀ y,S y->0<=y/\EqA F m ts ks cs y)(hcl:∀ y,S y->∀ o∈ZI m ts ks y,S (o:Int))(hx:¬ S x)(hxo:∀ o∈ZI m ts ks x,S (o:Int))(h0:0<=x)(h1:x < cs.length) :
 ∀ y,S y\/y=x->0<=y/\EqA F m ts ks (cs.set x.toNat (F x (zhX m ts ks cs x))) y:=by
 intro y hy
 have ne:∀ o:Nat,S (o:Int)->(o:Int)≠x:=λo ho z=>hx (z ▸ ho)
 rcases hy with hy | rfl
 .refine⟨(hS y hy).1,?_⟩
  unfold EqA
  rw[zc2 h0 h1 λo ho=>ne o (hcl y hy o ho),zaH h0 h1 (hS y hy).1,j6 (λz=>by rw[z]at hy;exact hx hy)]
  exact(hS y hy).2
 .refine⟨h0,?_⟩
  unfold EqA
  rw[zc2 h0 h1 λo ho=>ne o (hxo o ho),zaH h0 h1 h0,j4 rfl]
def zlk (a:Nat->Int)(x y:Nat):Prop:=a x < a y\/a x=a y/\x < y
theorem zjd {a:Nat->Int}{x y:Nat}(h:zlk a x y):a x<=a y:=h.elim (λh=>Int.le_of_lt h) λh=>Int.le_of_eq h.1
theorem lex2 {a b c d:Int}(h:HT.lexLt [c,d] [a,b]=false):a < c\/a=c/\b<=d:=by
 rw[HT.lexLt_cons]at h
 by_cases h2:c=a
 .rw[j4 h2,HT.lexLt_cons]at h
  by_cases h3:d=b
  .omega
  .rw[j6 h3]at h
   have:=u1S h
   omega
 .rw[j6 h2]at h
  have:=u1S h
  omega
theorem zbc (n:Nat)(a:Nat->Int):∃ L:List Nat,YJ ((List.range n).map λx=>[a x,(x:Int)]) ((List.range n).map λk:Nat=>D.int (k:Int))=L.map (λx:Nat=>D.int (x:Int))/\L.Perm (List.range n)/\L.Pairwise (zlk a):=by
 obtain⟨f,hf⟩:∃ f:Nat->List Int,f=λx=>[a x,(x:Int)]:=⟨_,rfl⟩
 obtain⟨g,hg⟩:∃ g:List Int->Nat,g=λt=>(t.getD 1 0).toNat:=⟨_,rfl⟩
 have hgf:∀ x,g (f x)=x:=λx=>by rw[hg,hf];rfl
 have inj:∀ x y,f x=f y->x=y:=λx y e=>by rw[<-hgf x,e,hgf]
 have p:=Z4 ((List.range n).map f)
 have r:=Z8 ((List.range n).map f)
 have nd:((List.range n).map f).Nodup:=by
  rw[u09,u0J]
  exact u1P.imp λh e=>h (inj _ _ e)
 have hM:((yM ((List.range n).map f)).map g).map f=yM ((List.range n).map f):=by
  rw[u0O]
  have:(yM ((List.range n).map f)).map (f ∘ g)=(yM ((List.range n).map f)).map id:=by
   refine u0w λt ht=>?_
   obtain⟨x,_,rfl⟩:=u1q.mp (p.mem_iff.mp ht)
   show f (g (f x))=f x
   rw[hgf]
  rw[this,u29]
 have pM:((yM ((List.range n).map f)).map g).Perm (List.range n):=by
  have:=p.map g
  rw[u0O]at this
  have e:(List.range n).map (g ∘ f)=List.range n:=by
   have:(List.range n).map (g ∘ f)=(List.range n).map id:=u0w λx _=>hgf x
   rw[this,u29]
  rwa[e]at this
 have hgoal:∃ L:List Nat,YJ ((List.range n).map f) ((List.range n).map λk:Nat=>D.int (k:Int))=L.map (λx:Nat=>D.int (x:Int))/\L.Perm (List.range n)/\L.Pairwise (zlk a):=by
  refine⟨(yM ((List.range n).map f)).map g,?_,pM,?_⟩
  .unfold YJ
   conv=>lhs;rw[<-hM]
   rw[u0O]
   refine u0w λx hx=>?_
   have hx:=u0e.mp (pM.mem_iff.mp hx)
   have hl:x < ((List.range n).map f).length:=by rw[u9,u01];exact hx
   have e1:((List.range n).map f)[x]=f x:=by rw[u2U,List.getElem_range]
   have e2:((List.range n).map f).idxOf (f x)=x:=by
    have:=nd.idxOf_getElem x hl
    rw[e1]at this
    exact this
   show((List.range n).map λk:Nat=>D.int (k:Int)).getD (((List.range n).map f).idxOf (f x)) .non=D.int (x:Int)
   rw[e2,p8,r9,u1v hx]
   rfl
  .have nM:((yM ((List.range n).map f)).map g).Nodup:=pM.nodup_iff.mpr u1P
   rw[<-hM,u0J]at r
   refine(r.and nM).imp λ{x y} h=>?_
   obtain⟨h1,h2⟩:=h
   rw[hf]at h1
   rcases lex2 h1 with h3 | ⟨h3,h4⟩
   .exact .inl h3
   .exact .inr ⟨h3,by omega⟩
 rw[hf]at hgoal
 exact hgoal
theorem zcT {g:Ev->Option D}{ρ:Ev}{a:Nat->Int}:∀ (l:List Nat),(∀ x∈l,g (some (.int (x:Int))::ρ)=some (.tup [.int (a x),.int (x:Int)]))->zcz g ρ (l.map λk:Nat=>D.int (k:Int))=some (l.map λx=>[a x,(x:Int)]):=by
 intro l
 induction l with
 | nil=>intro _;rfl
 | cons x l ih =>
  intro h
  have e:=h x (.head _)
  have r:=ih λy hy=>h y (.tail _ hy)
  show(g (some (.int (x:Int))::ρ)).bind _=_
  rw[e,p7]
  show(za5 [.int (a x),.int (x:Int)]).bind _=_
  rw[show za5 [.int (a x),.int (x:Int)]=some [a x,(x:Int)]from rfl,p7,j6 (by simp),r]
  rfl
theorem zfH {f g:Ev->Option D}{ρ:Ev}{m:Int}{a:Nat->Int}(hf:f ρ=some (.int m))(h0:0<=m)(h1:m<=1000)(hg:∀ x:Nat,(x:Int) < m->g (some (.int (x:Int))::ρ)=some (.tup [.int (a x),.int (x:Int)])) :
 ∃ L:List Nat,zdr f g ρ=some (L.map λx:Nat=>D.int (x:Int))/\L.Perm (List.range m.toNat)/\L.Pairwise (zlk a):=by
 obtain⟨L,e,p,s⟩:=zbc m.toNat a
 refine⟨L,?_,p,s⟩
 unfold zdr
 rw[hf,p7,show lrD (.int m)=some ((List.range m.toNat).map λk:Nat=>.int (k:Int))from j4 ⟨h0,h1⟩,p7,zcT (a:=a) _ λx hx=>hg x (by have:=u0e.mp hx;omega),p7,j4,e]
 rw[u09,u0J]
 refine u1P.imp λh e=>h ?_
 have:=(u1z (u1z e).2).1
 omega
def Swp (R:List Nat)(i:Nat)(y:Int):Prop:=∃ k o:Nat,k < i/\R[k]?=some o/\y=(o:Int)
theorem zh7 {R:List Nat}{i x:Nat}(h:R[i]?=some x){y:Int}(hy:Swp R (i+1) y):Swp R i y\/y=(x:Int):=by
 obtain⟨k,o,hk,ho,rfl⟩:=hy
 by_cases c:k=i
 .subst c
  rw[h]at ho
  cases ho
  exact .inr rfl
 .exact .inl ⟨k,o,by omega,ho,rfl⟩
structure zgu (m:Int) (ts:List Tie) (ks:List Int) (R:List Nat):Prop where
 perm:R.Perm (List.range m.toNat)
 down:R.Pairwise λx y:Nat=>vAt ks (y:Int)<=vAt ks (x:Int)
theorem zgu.mem {m:Int}{ts:List Tie}{ks:List Int}{R:List Nat}(h:zgu m ts ks R){x:Nat}:x∈R↔(x:Int) < m:=by rw[h.perm.mem_iff,u0e];omega
theorem zgu.nodup {m:Int}{ts:List Tie}{ks:List Int}{R:List Nat}(h:zgu m ts ks R):R.Nodup:=h.perm.nodup_iff.mpr u1P
theorem zgu.out {m:Int}{ts:List Tie}{ks:List Int}{R:List Nat}(h:zgu m ts ks R){i x o:Nat}(hx:R[i]?=some x)(ho:o∈ZI m ts ks (x:Int)):∃ k,k < i/\R[k]?=some o:=by
 obtain⟨k,hk,e⟩:=u0v (h.mem.mpr (ZT ho))
 have far:=W4 ho
 refine⟨k,?_,by rw[u7 hk,e]⟩
 obtain⟨hi,ex⟩:=u8.mp hx
 by_cases c:k < i
 .exact c
 .by_cases c2:k=i
  .subst c2
   rw[ex]at e
   subst e
   omega
  .have:=u0A.mp h.down i k hi hk (by omega)
   rw[ex,e]at this
   omega
theorem zgu.step {F:Int->List Int->Int}{m:Int}{ts:List Tie}{ks cs:List Int}{R:List Nat}(h:zgu m ts ks R){i x:Nat}(hx:R[i]?=some x)(hl:(cs.length:Int)=m)(hS:∀ y,Swp R i y->0<=y/\EqA F m ts ks cs y) :
 ∀ y,Swp R (i+1) y->0<=y/\EqA F m ts ks (cs.set x (F (x:Int) (zhX m ts ks cs (x:Int)))) y:=by
 intro y hy
 have hxm:(x:Int) < m:=h.mem.mp (j5 hx)
 refine zjD (x:=(x:Int)) (S:=Swp R i) hS ?_ ?_ ?_ (by omega) (by omega) y (zh7 hx hy)
 .rintro y ⟨k,o,hk,ho,rfl⟩ o' ho'
  obtain⟨k',hk',e'⟩:=h.out ho ho'
  exact⟨k',o',by omega,e',rfl⟩
 .rintro⟨k,o,hk,ho,e⟩
  have e:x=o:=by omega
  subst e
  obtain⟨h1,e1⟩:=u8.mp hx
  obtain⟨h2,e2⟩:=u8.mp ho
  have:=(u3C h.nodup).mp (e1.trans e2.symm)
  omega
 .intro o ho
  obtain⟨k',hk',e'⟩:=h.out hx ho
  exact⟨k',o,hk',e',rfl⟩
theorem zgu.fin {F:Int->List Int->Int}{m:Int}{ts:List Tie}{ks cs:List Int}{R:List Nat}(h:zgu m ts ks R)(hS:∀ y,Swp R R.length y->0<=y/\EqA F m ts ks cs y):∀ x:Int,0<=x->x < m->EqA F m ts ks cs x:=by
 intro x h0 h1
 obtain⟨k,hk,e⟩:=u0v (h.mem.mpr (show((x.toNat:Nat):Int) < m by omega))
 exact(hS x ⟨k,x.toNat,hk,by rw[u7 hk,e],by omega⟩).2
def Y7:SE->Ctl :=
 (zT (x8 false 2 (zr 2 wL (zb (zg 0) (zb (zg 1) zt))))
  (yN (x5 (zdr (zo ixD (zg 0) (eC (.int 0))) (Yo (zb (zo ixD (zg 3) (zg 0)) (zb (zg 0) zt)))))))
def p_outwards:List D->Option D:=fnD 3 Y7
theorem zcm {m:Int}{ts:List Tie}{p:Int}{ks:List Int}(ok:zY m ts)(hp:0<=p/\p < m)(hks:Wp m ts p=ks.map some)(hkl:(ks.length:Int)=m):∃ L:List Nat,p_outwards [zw m ts,.int p]=some (.lst (L.map λx:Nat=>.int (x:Int)))/\zgu m ts ks L.reverse:=by
 have hm1:=ok.lo
 have hm8:=ok.hi
 have e2:=vA ok hp
 rw[hks,zah]at e2
 obtain⟨L,e,pm,sr⟩:=zfH (f:=zo ixD (zg 0) (eC (.int 0))) (g:=Yo (zb (zo ixD (zg 3) (zg 0)) (zb (zg 0) zt))) (ρ:=visG [.v (zw m ts),.v (.int p),.v (.lst (ks.map .int))]) (m:=m) (a:=λx=>vAt ks (x:Int)) rfl (by omega) (by omega) (λx hx=>by
  refine zdE (zV (zC (x:=.lst (ks.map .int)) (y:=.int (x:Int)) rfl rfl (zfw (ns:=ks) ⟨by omega,hx⟩ hkl)) (zV rfl xY)) (by show 2<=1000;decide))
 refine⟨L,?_,(u1s L).trans pm,u1Z.mpr (sr.imp zjd)⟩
 refine XG (ρ:=[.v (zw m ts),.v (.int p),.no]) rfl ?_
 unfold Y7
 refine zy (ρ':=[.v (zw m ts),.v (.int p),.v (.lst (ks.map .int))]) (wF (ds:=[zw m ts,.int p]) rfl e2) ?_
 exact Zc (we (Wf e)) rfl
theorem zcy (T:Txt K mg base ad):yU P w K mg base CX0 5 ad.f_outwards ad.e_outwards ["web","root"] (@spD ⟨K⟩ 2 p_outwards):=by
 letI:KK:=⟨K⟩
 have G_ties_away:=YH (P:=P) (w:=w) (base:=base) T
 refine ziT (N:=["web","root","away"]) (ps:=["web","root"]) T.lc_outwards T.d_outwards.fn WR (g:=Y7) λA outer s H E hr=>?_
 unfold Y7
 exact(zh (yE (m:=false) (i:=2) WR.nd rfl (Or.inr rfl) (zm G_ties_away hr rfl T.d_ties_away (za (edv 0) (za (edv 1) zc))))
  (zi (zB (vT (zh3 (x:="place") (M:=["web","root","away"]) hr rfl T.z_sorted rfl T.z_range (zL (edv 0) (ze zd) (λ_ _=>rfl)) T.la_outwards rfl (zgf (by rfl) (by rfl) (by rfl) (by with_unfolding_all rfl) (by rfl) (by rfl) (by rfl) (by rfl) (by rfl) (by kernel_rfl) (all_cons rfl YI)) rfl (by kernel_rfl) (λ_ _ _ _=>rfl) (λ_ _ _ _ _=>(wR (za (zL (edv 3) (edv 0) (λ_ _=>rfl)) (za (edv 0) zc)))))))))
theorem znk {i:Ev->Option (List D)}{ρ:Ev}{os:List Nat}{cs:List Int}{m:Int}{k:Nat}{d:D}(hi:i ρ=some (os.map zR))(hk:ρ[k]?=some (some d))(hd:∀ j,ixD d (.int j)=atI (cs.map D.int) j)(hl:(cs.length:Int)=m)(ho:∀ o∈os,(o:Int) < m)(h8:os.length<=8):fLC i b1 wY (zo Zw (zo ixD (zg (k+1)) (zg 0)) (eC (.int 1))) ρ=some ((os.map λo:Nat=>vAt cs (o:Int)+1).map .int):=by
 unfold fLC
 rw[hi]
 show(if lim (os.map zR).length=true then _ else none)=_
 rw[j4 (zlZ (by rw[u9];exact h8)),u0O]
 refine zai zR _ os λo hm=>⟨[some (zR o)],rfl,rfl,?_⟩
 have:=ho o hm
 have eo:=zfw (ns:=cs) (zfS this) hl
 have e1:zg (k+1) ([some (zR o)]++ρ)=some d:=by
  show((some (zR o)::ρ)[k+1]?).getD none=_
  rw[List.getElem?_cons_succ,hk]
  rfl
 refine zC (x:=.int (vAt cs (o:Int))) (y:=.int 1) (zC (x:=d) (y:=zR o) e1 rfl ?_) rfl rfl
 show ixD d (.int (0+(o:Int)))=_
 rw[hd,eo,u1K]
def Fh (_:Int)(vs:List Int):Int:=if vs.map (·+1)=[]then 0 else maxL (vs.map (·+1))
theorem zer (ns:List Int):zgj (.lst (ns.map .int)) (.int 0)=some (.int (if ns=[]then 0 else maxL ns)):=by
 show(za5 (ns.map .int)).map _=_
 rw[Xh]
 rfl
theorem zll {m:Int}{ts:List Tie}{ks:List Int}{x:Int}(hx:0<=x/\x < m):atI (Zd m ts ks m.toNat) x=some (.lst ((ZI m ts ks x).map zR)):=by
 refine X6 hx.1 ?_
 unfold Zd
 rw[r9,u1v (by omega)]
 show some (D.lst ((ZI m ts ks ((x.toNat:Nat):Int)).map zR))=_
 rw[show((x.toNat:Nat):Int)=x by omega]
def wn:SE->Ctl :=
 (XL true 3 (zg 4) (zo zgj (x5 (fLC (iOf (zo ixD (zg 2) (zg 4))) b1 wY (zo Zw (zo ixD (zg 4) (zg 0)) (eC (.int 1))))) (eC (.int 0))))
def y6:SE->Ctl :=
 (zT (x8 false 2 (zr 2 yH (zb (zg 0) (zb (zg 1) zt))))
  (zT (Zu 3 (ziK zgw (x5 (ye (zb (eC (.int 0)) zt))) (zo ixD (zg 0) (eC (.int 0)))))
  (zT (ZQ (zmI (zr 2 p_outwards (zb (zg 0) (zb (zg 1) zt)))) (yl 4) wn)
  (sFz 3 (yN (eFn yt (zb (zg 3) zt)))))))
def xT:List D->Option D:=fnD 5 y6
theorem YZ {m:Int}{ts:List Tie}{p:Int}{ks:List Int}(ok:zY m ts)(hp:0<=p/\p < m)(hks:Wp m ts p=ks.map some)(hkl:(ks.length:Int)=m):∃ cs:List Int,xT [zw m ts,.int p]=some (.tup (cs.map .int))/\(cs.length:Int)=m/\∀ x:Int,0<=x->x < m->EqA Fh m ts ks cs x:=by
 have hm1:=ok.lo
 have hm8:=ok.hi
 have em:ixD (zw m ts) (.int 0)=some (.int m):=rfl
 have e5:=zdm ok hp hks hkl
 obtain⟨L,eL,hR⟩:=zcm ok hp hks hkl
 obtain⟨R,hRL⟩:∃ R,L.reverse=R:=⟨_,rfl⟩
 rw[hRL]at hR
 have key:=zjJ (m:=5) (g:=y6) (ds:=[zw m ts,.int p]) (R:=λd=>∃ cs:List Int,d=.tup (cs.map .int)/\(cs.length:Int)=m/\∀ x:Int,0<=x->x < m->EqA Fh m ts ks cs x) (ρ:=[.v (zw m ts),.v (.int p),.no,.no,.no]) rfl ?_
 .obtain⟨d,e,cs,rfl,h⟩:=key
  exact⟨cs,e,h⟩
 unfold y6
 refine zy (ρ':=[.v (zw m ts),.v (.int p),.v (.lst (Zd m ts ks m.toNat)),.no,.no]) (wF (ds:=[_,_]) rfl e5) ?_
 refine zy (ρ':=[.v (zw m ts),.v (.int p),.v (.lst (Zd m ts ks m.toNat)),.o ((List.replicate m.toNat (0:Int)).map .int),.no]) ?_ ?_
 .have e:=V8 (d:=.int 0) (n:=m) (by omega) (by omega)
  simp[Zu,ziK,x5,ye,zb,zt,eC,wq,zg,visF,Sl.f,zo,em,e]
 have hfor:zmI (zr 2 p_outwards (zb (zg 0) (zb (zg 1) zt))) (visG [.v (zw m ts),.v (.int p),.v (.lst (Zd m ts ks m.toNat)),.o ((List.replicate m.toNat (0:Int)).map .int),.no])=some (R.map λx:Nat=>D.int (x:Int)):=by
  unfold zmI
  rw[yf (ds:=[zw m ts,.int p]) rfl eL,p7,<- hRL,List.map_reverse]
  rfl
 refine yW (Wn (ds:=R.map λx:Nat=>D.int (x:Int)) (λi ρ=>∃ (cs:List Int) (o4:Sl),ρ=[.v (zw m ts),.v (.int p),.v (.lst (Zd m ts ks m.toNat)),.o (cs.map .int),o4]/\(cs.length:Int)=m/\∀ y,Swp R i y->0<=y/\EqA Fh m ts ks cs y) hfor ⟨_,_,rfl,by rw[u0u];omega,λy ⟨k,o,hk,_⟩=>absurd hk (Nat.not_lt_zero _)⟩ ?_ ?_)
 .rintro i d ρ hd ⟨cs,o4,rfl,hl,hS⟩
  rw[r9]at hd
  obtain⟨x,hx,rfl⟩:=t9.mp hd
  have hxm:(x:Int) < m:=hR.mem.mp (j5 hx)
  have hxp:0<=(x:Int)/\(x:Int) < m:=⟨by omega,hxm⟩
  refine⟨[.v (zw m ts),.v (.int p),.v (.lst (Zd m ts ks m.toNat)),.o (cs.map .int),.v (.int (x:Int))],rfl,?_⟩
  unfold wn
  have st:=hR.step (F:=Fh) hx hl hS
  have ev:zo zgj (x5 (fLC (iOf (zo ixD (zg 2) (zg 4))) b1 wY (zo Zw (zo ixD (zg 4) (zg 0)) (eC (.int 1))))) (eC (.int 0)) (visG [.v (zw m ts),.v (.int p),.v (.lst (Zd m ts ks m.toNat)),.o (cs.map .int),.v (.int (x:Int))])=some (.int (Fh (x:Int) (zhX m ts ks cs (x:Int)))):=by
   refine zC (x:=.lst (((ZI m ts ks (x:Int)).map λo:Nat=>vAt cs (o:Int)+1).map .int)) (y:=.int 0) (Wf ?_) rfl ?_
   .exact znk (k:=3) (d:=.lst (cs.map .int)) (m:=m) (ziM (zC (x:=.lst (Zd m ts ks m.toNat)) (y:=.int (x:Int)) rfl rfl (zll hxp)) rfl) rfl (λ_=>rfl) hl (λo ho=>ZT ho) (zaw ok)
   .rw[zer]
    unfold Fh zhX
    rw[u0O]
    rfl
  refine zdN (cs.map .int) (.int (Fh (x:Int) (zhX m ts ks cs (x:Int)))) (x:Int) ?_ rfl rfl hxp.1 (zcC hxm hl) ⟨cs.set x (Fh (x:Int) (zhX m ts ks cs (x:Int))),.v (.int (x:Int)),?_,by rw[u1X];exact hl,st⟩
  .unfold vEv
   rw[j4 rfl,ev]
   rfl
  .rw[u2O];rfl
 .rintro ρ ⟨cs,o4,rfl,hl,hS⟩
  rw[u9]at hS
  exact zew (ρ':=[.v (zw m ts),.v (.int p),.v (.lst (Zd m ts ks m.toNat)),.v (.lst (cs.map .int)),o4]) rfl (Zc rfl ⟨cs,rfl,hl,hR.fin hS⟩)
theorem WP (T:Txt K mg base ad):yU P w K mg base CX0 6 ad.f_heights_from ad.e_heights_from ["web","root"] (@spD ⟨K⟩ 2 xT):=by
 letI:KK:=⟨K⟩
 have G_outer_neighbours:=wZ (P:=P) (w:=w) (base:=base) T
 have G_outwards:=zcy (P:=P) (w:=w) (base:=base) T
 refine y4 (N:=["web","root","outer","tall","place"]) (ps:=["web","root"]) T.d_heights_from.fn xv (g:=y6) λcdv A outer s H E hr=>?_
 unfold y6 wn
 exact(zh (yE (m:=false) (i:=2) xv.nd rfl (Or.inl rfl) (zm G_outer_neighbours hr rfl T.d_outer_neighbours (za (edv 0) (za (edv 1) zc))))
  (zh (ZL (i:=3) xv.nd rfl (Or.inr rfl) (zdF (vT (xE (za (ze zd) zc))) (zL (edv 0) (ze zd) (λ_ _=>rfl))))
  (zh (ZE i5 rfl (zlx rfl T.z_reversed (zm G_outwards hr rfl T.d_outwards (za (edv 0) (za (edv 1) zc)))) (zW (zF (i:=4) xv.nd rfl (Or.inl rfl))) (zi (V2 (m:=true) (zjv rfl rfl T.z_max (vT (zkV (L:=["other"]) (M:=["web","root","outer","tall","place"]) rfl (zbQ (by rfl) (by rfl) (by rfl) (by with_unfolding_all rfl) (by rfl) (by rfl) (by kernel_rfl) (all_cons rfl YI)) (WS (zL (edv 2) (edv 4) (λ_ _=>rfl))) gs1 rb1 (λ_ _ _ _=>(zF (i:=0) zm3 rfl (Or.inl rfl) (.inr rfl))) (λ_ _ _ _=>(wK (zL (edv 4) (edv 0) (λ_ _=>rfl)) (ze zd))))) (ze zd)) (pv 3) (edv 4))))
  (ZC 3 (zi (zB (vV xB YK rfl T.z_tuple xU (za (edv 3) zc))))))))
theorem zbR {α β:Type}{f:α->β}{l:List α}(h:∀ a∈l,∀ b∈l,f a=f b->a=b)(nd:l.Nodup):(l.map f).Nodup:=by
 rw[u09,u0J]
 exact List.Pairwise.imp_of_mem (λha hb hne e=>hne (h _ ha _ hb e)) nd
theorem zbL {m:Int}{ts:List Tie}(ok:zY m ts):zM [zw m ts]=some .non:=by
 have hw:vQ (zw m ts)=true:=(xN _).mpr ⟨_,_,rfl,ok⟩
 simp[zM,hw]
theorem zbN {m:Int}{ts:List Tie}(ok:zY m ts):∃ l:List D,Wu [zw m ts]=some (.lst l):=by
 have hm1:=ok.lo
 have hm8:=ok.hi
 have key:=zjJ (m:=5) (g:=Zk) (ds:=[zw m ts]) (R:=λd=>∃ l:List D,d=.lst l) (ρ:=[.v (zw m ts),.no,.no,.no,.no]) rfl ?_
 .obtain⟨d,e,l,rfl⟩:=key
  exact⟨l,e⟩
 unfold Zk
 refine zy (xq (zbL ok)) (zy (ρ':=[.v (zw m ts),.o [],.no,.no,.no]) rfl ?_)
 refine yW (XF (lo:=0) (c:=m.toNat) (λi ρ=>∃ (l:List D) (o2 o3 o4:Sl),ρ=[.v (zw m ts),.o l,o2,o3,o4]/\l.length<=i) (Zo ok) ⟨_,_,_,_,rfl,q5 _⟩ ?_ ?_)
 .rintro i ρ hi ⟨l,o2,o3,o4,rfl,hl⟩
  refine⟨[.v (zw m ts),.o l,.v (.int (0+(i:Int))),o3,o4],rfl,?_⟩
  rw[u1K]
  unfold Zm
  obtain⟨P,hP⟩:∃ P,(List.range m.toNat).filter (λv:Nat=>(zdW ts (i:Int) (v:Int)).isSome)=P:=⟨_,rfl⟩
  have e3:fLC (WF vb (zb (zo ixD (zg 0) (eC (.int 0))) zt)) b1 (tOf (zo zZ (zo ixD (zg 4) (zg 0)) (eC .non))) (zg 0) (visF [.v (zw m ts),.o l,.v (.int (i:Int)),.v (.lst ((Wp m ts (i:Int)).map vf)),o4])=some (P.map zR):=by
   unfold fLC
   rw[show WF vb (zb (zo ixD (zg 0) (eC (.int 0))) zt) (visF [.v (zw m ts),.o l,.v (.int (i:Int)),.v (.lst ((Wp m ts (i:Int)).map vf)),o4])=some (Wq 0 m.toNat)from Zo ok,p7,j4 (wq (by rw[Z9];omega)),<- hP]
   refine Zf zR (λv:Nat=>(zdW ts (i:Int) (v:Int)).isSome) zR (List.range m.toNat) λv hv=>⟨[some (zR v)],rfl,?_,λ_=>rfl⟩
   have hv:=u0e.mp hv
   refine Yv (zC (x:=vf (zdW ts (i:Int) (v:Int))) (y:=.non) (zC (x:=.lst ((Wp m ts (i:Int)).map vf)) (y:=zR v) rfl rfl ?_) rfl ?_)
   .show L2.atI ((Wp m ts (i:Int)).map vf) ((0:Int)+(v:Int))=_
    rw[zfe (m:=m) (by omega) (by omega) (ZP m ts _),u1K,zdD (by omega) (by omega)]
   .cases zdW ts (i:Int) (v:Int) <;> rfl
  have hin:i∈P:=by
   rw[<-hP]
   refine u07.mpr ⟨u0e.mpr hi,?_⟩
   rcases Zl ts (i:Int) (i:Int)with ⟨k,e,_⟩ | ⟨_,h⟩
   .rw[e];rfl
   .exact absurd (.zero) (h 0)
  clear hP
  obtain⟨h,r,hpl⟩:∃ h r,P=h::r:=by
   cases P with
   | nil=>cases hin
   | cons h r=>exact⟨h,r,rfl⟩
  subst hpl
  refine zy (wF (ds:=[zw m ts,.int (i:Int)]) rfl (vA ok ⟨by omega,by omega⟩)) ?_
  refine zy (ρ':=[.v (zw m ts),.o l,.v (.int (i:Int)),.v (.lst ((Wp m ts (i:Int)).map vf)),.v (.tup ((h::r).map zR))]) (zg5 (WW (zV (Wf e3) xY) rfl)) ?_
  refine WA (c:=decide ((0:Int)+(h:Int)=(i:Int))) (Yv (zC (x:=zR h) (y:=.int (i:Int)) (zC (x:=.tup ((h::r).map zR)) (y:=.int 0) rfl rfl (X6 (u27 _) rfl)) rfl zI)) (λz=>?_) (λz=>ZH rfl ⟨_,_,_,_,rfl,by omega⟩)
  exact ZH (VV (m:=false) (i:=1) (f:=zg 4) (d:=.tup ((h::r).map zR)) rfl rfl (by omega)) ⟨_,_,_,_,rfl,by rw[j9];show l.length+1<=i+1;omega⟩
 .rintro ρ ⟨l,o2,o3,o4,rfl,hl⟩
  exact zew (ρ':=[.v (zw m ts),.v (.lst l),o2,o3,o4]) rfl (Zc rfl ⟨l,rfl⟩)
theorem zaG {m:Int}{ts:List Tie}(ok:zY m ts):∃ b,Yg [zw m ts]=some (.bl b):=by
 obtain⟨l,e⟩:=zbN ok
 refine⟨decide ((l.length:Int)=1),?_⟩
 refine XG (ρ:=[.v (zw m ts)]) rfl ?_
 unfold wT
 exact Zc (we (zC (x:=.int (l.length:Int)) (y:=.int 1) (WW (ds:=[.lst l]) (zV (yf (ds:=[_]) rfl e) xY) rfl) rfl zI)) rfl
theorem zdY {m:Int}{ts:List Tie}(ok:zY m ts)(hl:(ts.length:Int)≠m - 1):YG [zw m ts]=some (.bl false):=by
 obtain⟨b,e⟩:=zaG ok
 have e2:Zz [.tup (ts.map zE)]=some (.int (ts.length:Int)):=by
  show some (D.int ((ts.map zE).length:Int))=_
  rw[u9]
 refine XG (ρ:=[.v (zw m ts)]) rfl ?_
 unfold Y0
 refine Zc (we (ziD (b:=b) (c:=false) (yf (ds:=[_]) rfl e) (zC (x:=.int (ts.length:Int)) (y:=.int (m - 1)) (WW (ds:=[.tup (ts.map zE)]) rfl e2) rfl ?_))) ?_
 .rw[zI,i7 hl]
 .rw[u16]
def yC:SE->Option Nat :=
 (xIf (yT (tOf (zr 2 ya (zb (zo ixD (zg 0) (eC (.int 0))) (zb (zg 1) zt))))) (zdk 2) xNo)
def wk:List D->Option Nat:=fnX 2 yC
theorem xM (T:Txt K mg base ad):yU P w K mg base (Air P w) 4 ad.f_must_be_place ad.e_must_be_place ["web","thing"] (@spX ⟨K⟩ (clT ad) 2 wk):=by
 letI:KK:=⟨K⟩
 have G_is_place:=ZV (P:=P) (w:=w) (base:=base) T
 refine zby (cl:=clT ad) (N:=["web","thing"]) (ps:=["web","thing"]) T.d_must_be_place.fn Yl (gx:=yC) λcdv A outer s H E hr=>?_
 unfold yC
 exact(vE (zhO (vh (x6 (zm G_is_place hr rfl T.d_is_place (za (zL (edv 0) (ze zd) (λ_ _=>rfl)) (za (edv 1) zc))))) (vE (zax (cl:=clT ad) (j:=2) ⟨T.g_NoPlace,T.c_NoPlace⟩ rfl)) Va))
def yK:SE->Option Nat :=
 (xIf (yT (tOf (zr 1 YG (zb (zg 0) zt)))) (zdk 5) xNo)
def wH:List D->Option Nat:=fnX 1 yK
theorem wg (T:Txt K mg base ad):yU P w K mg base (Air P w) 11 ad.f_must_be_tree ad.e_must_be_tree ["web"] (@spX ⟨K⟩ (clT ad) 1 wH):=by
 letI:KK:=⟨K⟩
 have G_is_tree:=VS (P:=P) (w:=w) (base:=base) T
 refine zby (cl:=clT ad) (N:=["web"]) (ps:=["web"]) T.d_must_be_tree.fn Y4 (gx:=yK) λcdv A outer s H E hr=>?_
 unfold yK
 exact(vE (zhO (vh (x6 (zm G_is_tree hr rfl T.d_is_tree (za (edv 0) zc)))) (vE (zax (cl:=clT ad) (j:=5) ⟨T.g_NotTree,T.c_NotTree⟩ rfl)) Va))
theorem zdq {m p:Int}{ts:List Tie}(hp:0<=p/\p < m):wk [zw m ts,.int p]=none:=by
 have e:ya [.int m,.int p]=some (.bl true):=by
  show(if noS (.int p)=true then some (D.bl (yh (.int p) 0 (m - 1)))else none)=_
  rw[j4 (show noS (.int p)=true from rfl),W3]
  unfold inR
  rw[o0 hp.1,o0 (show p<=m - 1 by omega)]
  rfl
 show yC [.v (zw m ts),.v (.int p)]=none
 unfold yC xIf
 rw[zdf (Yv (yf (ds:=[.int m,.int p]) rfl e))]
 rfl
theorem zk5 {m:Int}{ts:List Tie}(ok:zY m ts)(hl:(ts.length:Int)≠m - 1):wH [zw m ts]=some 5:=by
 show yK [.v (zw m ts)]=some 5
 unfold yK xIf
 rw[zdf (Yv (yf (ds:=[zw m ts]) rfl (zdY ok hl)))]
 rfl
theorem ziX {m p:Int}{ts:List Tie}{ks:List Int}(ok:zY m ts)(hp:0<=p/\p < m)(hks:Wp m ts p=ks.map some)(hkl:(ks.length:Int)=m):∀ x:Int,0<=x->x < m->0<=vAt ks x/\vAt ks x < m:=by
 intro x h0 h1
 have hl:x.toNat < ks.length:=by omega
 have hm:vAt ks x∈ks:=by
  unfold vAt
  rw[p8,u7 hl]
  exact u1x hl
 have:some (vAt ks x)∈Wp m ts p:=by
  rw[hks]
  exact List.mem_map_of_mem hm
 rcases zhT ok hp this with h | ⟨k,e,h⟩
 .cases h
 .cases e
  exact h
def xb:SE->Ctl :=
 (sIf (yT (tOf (zr 3 zA (zb (zg 0) (zb (zg 1) (zb (zg 2) zt)))))) sNo yb)
def y9:List D->Option D:=fnD 3 xb
theorem zbp {x a b:Int}(h1:a<=x)(h2:x<=b):y9 [.int x,.int a,.int b]=some .non:=by
 refine XG (ρ:=[.v (.int x),.v (.int a),.v (.int b)]) rfl ?_
 unfold xb
 refine WA (c:=false) ?_ (λz=>by cases z) (λ_=>ZH rfl rfl)
 show(((if noS (.int x)=true then some (D.bl (yh (.int x) a b))else none).bind asB).map λc=>!c)=_
 rw[j4 (show noS (.int x)=true from rfl)]
 show some (!(decide (a<=x)&&decide (x<=b)))=_
 rw[o0 h1,o0 h2]
 rfl
theorem vO (T:Txt K mg base ad):yU P w K mg base CX0 3 ad.f_must_be_within ad.e_must_be_within ["thing","least","most"] (@spD ⟨K⟩ 3 y9):=by
 letI:KK:=⟨K⟩
 have G_is_whole_within:=yF (P:=P) (w:=w) (base:=base) T
 refine y4 (N:=["thing","least","most"]) (ps:=["thing","least","most"]) T.d_must_be_within.fn vP (g:=xb) λcdv A outer s H E hr=>?_
 unfold xb
 exact(zi (xD (vh (x6 (zm G_is_whole_within hr rfl T.d_is_whole_within (za (edv 0) (za (edv 1) (za (edv 2) zc)))))) (zi Ws) zK))
def xH:SE->Option Nat :=
 (xIf (yT (tOf (zr 3 zA (zb (zg 0) (zb (zg 1) (zb (zg 2) zt)))))) (zdk 3) xNo)
def yo:List D->Option Nat:=fnX 3 xH
theorem zfs:yo [.int 1,.int 1,.int 2]=none:=rfl
theorem vv (T:Txt K mg base ad):yU P w K mg base (Air P w) 3 ad.f_must_be_within ad.e_must_be_within ["thing","least","most"] (@spX ⟨K⟩ (clT ad) 3 yo):=by
 letI:KK:=⟨K⟩
 have G_is_whole_within:=yF (P:=P) (w:=w) (base:=base) T
 refine zby (cl:=clT ad) (N:=["thing","least","most"]) (ps:=["thing","least","most"]) T.d_must_be_within.fn vP (gx:=xH) λcdv A outer s H E hr=>?_
 unfold xH
 exact(vE (zhO (vh (x6 (zm G_is_whole_within hr rfl T.d_is_whole_within (za (edv 0) (za (edv 1) (za (edv 2) zc)))))) (vE (zax (cl:=clT ad) (j:=3) ⟨T.g_NoNumber,T.c_NoNumber⟩ rfl)) Va))
theorem XY {α:Type}{l:List α}(f:α->List Int)(g:List Int->α)(d:α->D)(hgf:∀ x∈l,g (f x)=x)(nd:l.Nodup) :
 YJ (l.map f) (l.map d)=((yM (l.map f)).map g).map d/\((yM (l.map f)).map g).Perm l/\((yM (l.map f)).map g).Pairwise (λx y=>HT.lexLt (f y) (f x)=false)/\(l.map f).Nodup:=by
 have p:=Z4 (l.map f)
 have r:=Z8 (l.map f)
 have ndf:(l.map f).Nodup:=zbR (λa ha b hb e=>by rw[<-hgf a ha,e,hgf b hb]) nd
 have hM:((yM (l.map f)).map g).map f=yM (l.map f):=by
  rw[u0O]
  have:(yM (l.map f)).map (f ∘ g)=(yM (l.map f)).map id:=by
   refine u0w λt ht=>?_
   obtain⟨x,hx,rfl⟩:=u1q.mp (p.mem_iff.mp ht)
   show f (g (f x))=f x
   rw[hgf x hx]
  rw[this,u29]
 have pM:((yM (l.map f)).map g).Perm l:=by
  have:=p.map g
  rw[u0O]at this
  have e:l.map (g ∘ f)=l:=by
   have:l.map (g ∘ f)=l.map id:=u0w λx hx=>hgf x hx
   rw[this,u29]
  rwa[e]at this
 refine⟨?_,pM,?_,ndf⟩
 .unfold YJ
  conv=>lhs;rw[<-hM]
  rw[u0O]
  refine u0w λx hx=>?_
  obtain⟨i,hi,rfl⟩:=u0v (pM.mem_iff.mp hx)
  have hl:i < (l.map f).length:=by rw[u9];exact hi
  have e1:(l.map f)[i]=f l[i]:=by rw[u2U]
  have e2:(l.map f).idxOf (f l[i])=i:=by
   have:=ndf.idxOf_getElem i hl
   rw[e1]at this
   exact this
  show(l.map d).getD ((l.map f).idxOf (f l[i])) .non=d l[i]
  rw[e2,p8,r9,u7 hi]
  rfl
 .rw[<-hM,u0J]at r
  exact r
theorem zfG {α:Type}{g:Ev->Option D}{ρ:Ev}{c:α->D}{f:α->List Int}:∀ (l:List α),(∀ x∈l,g (some (c x)::ρ)=some (.tup ((f x).map .int))/\f x≠[])->zcz g ρ (l.map c)=some (l.map f):=by
 intro l
 induction l with
 | nil=>intro _;rfl
 | cons x l ih =>
  intro h
  obtain⟨e,hne⟩:=h x (.head _)
  have r:=ih λy hy=>h y (.tail _ hy)
  show(g (some (c x)::ρ)).bind _=_
  rw[e,p7]
  show(za5 ((f x).map .int)).bind _=_
  rw[Xh,p7,j6 hne,r]
  rfl
theorem zgY {α:Type}{g:Ev->Option D}{ρ:Ev}{c:α->D}{h:α->Int}{u:α->List Int}:∀ (l:List α),(∀ x∈l,g (some (c x)::ρ)=some (.tup [.int (h x),.tup ((u x).map .int)]))->zfD g ρ (l.map c)=some (l.map λx=>h x::u x):=by
 intro l
 induction l with
 | nil=>intro _;rfl
 | cons x l ih =>
  intro hh
  have e:=hh x (.head _)
  have r:=ih λy hy=>hh y (.tail _ hy)
  show(g (some (c x)::ρ)).bind _=_
  rw[e,p7]
  show(za5 ((u x).map .int)).bind _=_
  rw[Xh,p7,r]
  rfl
def zmC (a:Nat->Int)(l:List Nat):List Nat:=(yM (l.map λx=>[a x,(x:Int)])).map λt=>(t.getD 1 0).toNat
theorem zbI (a:Nat->Int)(d:Nat->D){l:List Nat}(nd:l.Nodup):YJ (l.map λx=>[a x,(x:Int)]) (l.map d)=(zmC a l).map d/\(zmC a l).Perm l/\(zmC a l).Pairwise (zlk a)/\(l.map λx=>[a x,(x:Int)]).Nodup:=by
 obtain⟨h1,h2,h3,h4⟩:=XY (λx:Nat=>[a x,(x:Int)]) (λt=>(t.getD 1 0).toNat) d (λx _=>rfl) nd
 refine⟨h1,h2,?_,h4⟩
 refine(h3.and (h2.nodup_iff.mpr nd)).imp λ{x y} h=>?_
 obtain⟨h5,h6⟩:=h
 rcases lex2 h5 with h7 | ⟨h7,h8⟩
 .exact .inl h7
 .exact .inr ⟨h7,by omega⟩
theorem Y8 (k:Nat):zR k=.int (k:Int):=by show D.int (0+(k:Int))=_;rw[u1K]
theorem W9 (m:Int)(ts:List Tie)(ks:List Int)(x:Int):(ZI m ts ks x).Nodup:=by
 unfold ZI nbN
 exact(u1P.filter _).filter _
def rkN (m:Int)(ts:List Tie)(ks tl:List Int)(x:Nat):List Nat:=zmC (λo=>-vAt tl (o:Int)) (ZI m ts ks (x:Int))
theorem Wx (m:Int)(ts:List Tie)(ks tl:List Int)(x:Nat):(rkN m ts ks tl x).Perm (ZI m ts ks (x:Int)):=(zbI _ zR (W9 m ts ks _)).2.1
theorem zaO {m:Int}{ts:List Tie}{ks tl:List Int}{x o:Nat}:o∈rkN m ts ks tl x↔o∈ZI m ts ks (x:Int):=(Wx m ts ks tl x).mem_iff
theorem zbx (m:Int)(ts:List Tie)(ks tl:List Int)(x:Nat):(rkN m ts ks tl x).Nodup:=(Wx m ts ks tl x).nodup_iff.mpr (W9 m ts ks _)
def rkD (m:Int)(ts:List Tie)(ks tl:List Int):List D:=(List.range m.toNat).map λx=>.lst ((rkN m ts ks tl x).map zR)
theorem ziZ {m:Int}{ts:List Tie}{ks tl:List Int}{x:Nat}(hx:(x:Int) < m):L2.atI (rkD m ts ks tl) (x:Int)=some (.lst ((rkN m ts ks tl x).map zR)):=by
 refine X6 (by omega) ?_
 unfold rkD
 rw[r9,show((x:Int)).toNat=x from rfl,u1v (by omega)]
 rfl
def Wh (rk:Nat->List Nat):Nat->Nat->List Nat
 | 0,_=>[]
 | n+1,y=>match rk y with
  | []=>[]
  | o::_=>o::Wh rk n o
def wD (w:List Nat):D:=.tup (w.map zR)
def muW:SE->Nat
 | [_,.v (.tup ds)]=>10 - ds.length
 | _=>0
theorem zeE {w:List Nat}{y:Nat}:L2.atI ((w++[y]).map zR) (-1)=some (zR y):=by
 have e:L2.ixN ((w++[y]).map zR).length (-1)=some w.length:=by
  unfold L2.ixN
  rw[u9,j9]
  simp
  omega
 unfold L2.atI
 rw[e]
 simp
def wM:SE->Ctl :=
 (x8 false 1 (zo Zw (zg 1) (Yo (zb (zo ixD (zo ixD (zg 0) (zo ixD (zg 1) (eUn Wk (eC (.int 1))))) (eC (.int 0))) zt))))
def wC:SE->Ctl :=
 (zT (ZK (tOf (zo gtD (eFn Zz (zb (zo ixD (zg 0) (zo ixD (zg 1) (eUn Wk (eC (.int 1))))) zt)) (eC (.int 0)))) wM 10)
  (yN (zg 1)))
def wu:List D->Option D:=fnD 2 wC
theorem VP {m p:Int}{ts:List Tie}{ks tl:List Int}(ok:zY m ts)(hb:∀ x:Int,0<=x->x < m->0<=vAt ks x/\vAt ks x < m){w:List Nat}{y:Nat}(hy:(y:Int) < m)(hl:(w.length:Int)<=vAt ks (y:Int)):wu [.lst (rkD m ts ks tl),wD (w++[y])]=some (wD (w++[y]++Wh (rkN m ts ks tl) (9 - w.length) y)):=by
 have hm8:=ok.hi
 obtain⟨T,hT⟩:∃ T,w++[y]++Wh (rkN m ts ks tl) (9 - w.length) y=T:=⟨_,rfl⟩
 rw[hT]
 have hb0:=hb (y:Int) (by omega) hy
 refine XG (ρ:=[.v (.lst (rkD m ts ks tl)),.v (wD (w++[y]))]) rfl ?_
 unfold wC
 refine yW (za0 (fun ρ=>∃ (w:List Nat) (y:Nat),ρ=[.v (.lst (rkD m ts ks tl)),.v (wD (w++[y]))]/\(y:Int) < m/\(w.length:Int)<=vAt ks (y:Int)/\w++[y]++Wh (rkN m ts ks tl) (9 - w.length) y=T) muW ?_ 10 _ ⟨w,y,rfl,hy,hl,hT⟩ ?_)
 .rintro ρ ⟨w,y,rfl,hy,hl,hT⟩
  have hbb:=hb (y:Int) (by omega) hy
  have e1:zo ixD (zg 0) (zo ixD (zg 1) (eUn Wk (eC (.int 1)))) (visG [.v (.lst (rkD m ts ks tl)),.v (wD (w++[y]))])=some (.lst ((rkN m ts ks tl y).map zR)):=by
   refine zC (x:=.lst (rkD m ts ks tl)) (y:=zR y) rfl (zC (x:=wD (w++[y])) (y:=.int (-1)) rfl rfl zeE) ?_
   rw[Y8]
   exact ziZ hy
  cases hr:rkN m ts ks tl y with
  | nil =>
   rw[hr]at e1
   refine⟨false,Yv (zC (x:=.int 0) (y:=.int 0) (WW (ds:=[.lst []]) (zV e1 xY) rfl) rfl rfl),(λz=>by cases z),λ_=>?_⟩
   have:Wh (rkN m ts ks tl) (9 - w.length) y=[]:=by
    rw[show 9 - w.length=(8 - w.length)+1 by omega]
    unfold Wh
    rw[hr]
   rw[this,u0l]at hT
   rw[hT]
   exact Zc rfl rfl
  | cons o r =>
   rw[hr]at e1
   have ho:o∈ZI m ts ks (y:Int):=zaO.mp (by rw[hr];exact .head _)
   have far:=W4 ho
   refine⟨true,Yv (zC (x:=.int ((((o::r).map zR).length:Nat):Int)) (y:=.int 0) (WW (ds:=[.lst ((o::r).map zR)]) (zV e1 xY) rfl) rfl ?_),λ_=>?_,(λz=>by cases z)⟩
   .show some (D.bl (decide (((((o::r).map zR).length:Nat):Int) > 0)))=_
    rw[o0 (by rw[u9,p9];omega)]
   .unfold wM
    refine ZH (ρ':=[.v (.lst (rkD m ts ks tl)),.v (wD (w++[y]++[o]))]) (zg5 (zC (x:=wD (w++[y])) (y:=.tup [zR o]) rfl (zdE (zV (zC (x:=.lst ((o::r).map zR)) (y:=.int 0) e1 rfl (X6 (u27 _) rfl)) xY) (by show 1<=1000;decide)) ?_)) ⟨⟨w++[y],o,rfl,ZT ho,?_,?_⟩,?_⟩
    .show Zw (.tup ((w++[y]).map zR)) (.tup [zR o])=_
     rw[zik (by rw[u9,j9];show w.length+1+1<=1000;omega)]
     unfold wD
     rw[u1e (l₂:=[o])]
     rfl
    .rw[j9]
     show((w.length+1:Nat):Int)<=_
     omega
    .rw[<-hT,j9]
     show w++[y]++[o]++Wh (rkN m ts ks tl) (9 - (w.length+1)) o=_
     rw[show 9 - w.length=(9 - (w.length+1))+1 by omega]
     conv=>rhs;unfold Wh
     rw[hr]
     simp
    .show 10 - ((w++[y]++[o]).map zR).length < 10 - ((w++[y]).map zR).length
     rw[u9,u9,j9,j9]
     show 10 - (w.length+1+1) < 10 - (w.length+1)
     omega
 .show 10 - ((w++[y]).map zR).length < 10
  rw[u9,j9]
  show 10 - (w.length+1) < 10
  omega
theorem VO (T:Txt K mg base ad):yU P w K mg base CX0 1 ad.f_way_through ad.e_way_through ["ranked","way"] (@spD ⟨K⟩ 2 wu):=by
 letI:KK:=⟨K⟩
 refine y4 (N:=["ranked","way"]) (ps:=["ranked","way"]) T.d_way_through.fn ZD (g:=wC) λcdv A outer s H E hr=>?_
 unfold wC wM
 exact(zh (zdB 10 i5 (yj zd0 xS (zH _) (zP zG x9 rfl T.z_len Yr (za (zL (edv 0) (zL (edv 1) (Vp (ze zd)) (λ_ _=>rfl)) (λ_ _=>rfl)) zc)) (ze zd)) (zi (yE (m:=false) (i:=1) ZD.nd rfl (Or.inl rfl) (wK (edv 1) (wR (za (zL (zL (edv 0) (zL (edv 1) (Vp (ze zd)) (λ_ _=>rfl)) (λ_ _=>rfl)) (ze zd) (λ_ _=>rfl)) zc))))))
  (zi (zB (edv 1))))
def zcl (rk:Nat->List Nat)(x y:Nat):List Nat:=x::y::Wh rk 8 y
def zfo (p:Int)(rk:Nat->List Nat)(x:Nat):List Nat:=if (x:Int)=p then rk x else (rk x).drop 1
def yi (p:Int)(rk:Nat->List Nat)(n:Nat):List (List Nat):=(List.range n).flatMap λx=>(zfo p rk x).map (zcl rk x)
def zbG (p:Int)(rk:Nat->List Nat)(x j:Nat):List Nat:=if (x:Int)=p then (rk x).take j else ((rk x).take j).drop 1
theorem zfi {p:Int}{rk:Nat->List Nat}{x j o:Nat}(h:(rk x)[j]?=some o):zbG p rk x (j+1)=zbG p rk x j++(if 0 < j\/(x:Int)=p then [o]else []):=by
 unfold zbG
 have hj:=(u8.mp h).1
 by_cases c:(x:Int)=p
 .rw[j4 c,j4 c,j4 (.inr c),u2D,h]
  rfl
 .rw[j6 c,j6 c,u2D,h]
  show((rk x).take j++[o]).drop 1=_
  by_cases c2:0 < j
  .rw[j4 (.inl c2),u1j (by rw[o9];omega)]
  .have:j=0:=by omega
   subst this
   rw[j6 (λh=>h.elim (λh=>absurd h (u0W _)) c)]
   rfl
theorem ZY (p:Int)(rk:Nat->List Nat)(n:Nat):yi p rk (n+1)=yi p rk n++(zfo p rk n).map (zcl rk n):=by
 unfold yi
 rw[List.range_succ,List.flatMap_append,List.flatMap_singleton]
theorem zhu {p:Int}{rk:Nat->List Nat}{x o:Nat}(h:o∈zfo p rk x):o∈rk x:=by
 unfold zfo at h
 split at h
 .exact h
 .exact u0b h
theorem X9 (p:Int){rk:Nat->List Nat}(hn:∀ x,(rk x).Nodup)(n:Nat):(yi p rk n).Nodup:=by
 unfold yi
 rw[u09,List.pairwise_flatMap]
 refine⟨λx _=>?_,?_⟩
 .rw[u0J]
  have:(zfo p rk x).Nodup:=by
   unfold zfo
   split
   .exact hn x
   .exact(hn x).sublist (u0Y _ _)
  refine this.imp λ{a b} h e=>h ?_
  unfold zcl at e
  exact(u1z (u1z e).2).1
 .refine u1P.imp λ{a b} h u hu v hv e=>h ?_
  obtain⟨o,_,rfl⟩:=u1q.mp hu
  obtain⟨o',_,rfl⟩:=u1q.mp hv
  unfold zcl at e
  exact(u1z e).1
theorem V0 {p:Int}{rk:Nat->List Nat}{n:Nat}(hl:∀ x,(rk x).length<=8)(hn:n<=8):(yi p rk n).length<=8*n:=by
 induction n with
 | zero=>exact q5 _
 | succ n ih =>
  rw[ZY,j9,u9]
  have:=ih (by omega)
  have h2:(zfo p rk n).length<=8:=by
   unfold zfo
   split
   .exact hl n
   .rw[u0a];have:=hl n;omega
  omega
theorem zem {m:Int}{ts:List Tie}{ks tl:List Int}:∀ (n y:Nat),(y:Int) < m->∀ w:List Nat,(w.length:Int)<=vAt ks (y:Int)->∃ (u:List Nat) (z:Nat),w++[y]++Wh (rkN m ts ks tl) n y=u++[z]/\(z:Int) < m/\(u.length:Int)<=vAt ks (z:Int)/\w.length<=u.length:=by
 intro n
 induction n with
 | zero=>intro y hy w hw;exact⟨w,y,by unfold Wh;rw[u0l],hy,hw,q5 _⟩
 | succ n ih =>
  intro y hy w hw
  unfold Wh
  cases hr:rkN m ts ks tl y with
  | nil=>exact⟨w,y,by simp,hy,hw,q5 _⟩
  | cons o r =>
   have ho:o∈ZI m ts ks (y:Int):=zaO.mp (by rw[hr];exact .head _)
   have far:=W4 ho
   obtain⟨u,z,e,h1,h2,h3⟩:=ih o (ZT ho) (w++[y]) (by rw[j9];show((w.length+1:Nat):Int)<=_;omega)
   refine⟨u,z,?_,h1,h2,?_⟩
   .rw[<-e]
    simp
   .rw[j9]at h3
    have:w.length+1<=u.length:=h3
    omega
def zk4 (m:Int)(w:List Nat):Prop:=∃ (u:List Nat) (z:Nat),w=u++[z]/\(z:Int) < m/\1<=u.length/\(u.length:Int) < m
theorem zmg {m p:Int}{ts:List Tie}{ks tl:List Int}(hb:∀ x:Int,0<=x->x < m->0<=vAt ks x/\vAt ks x < m){x y:Nat}(hx:(x:Int) < m)(hy:y∈rkN m ts ks tl x):zk4 m (zcl (rkN m ts ks tl) x y):=by
 have ho:=zaO.mp hy
 have far:=W4 ho
 have h0:=(hb (x:Int) (by omega) hx).1
 obtain⟨u,z,e,h1,h2,h3⟩:=zem (m:=m) (ts:=ts) (ks:=ks) (tl:=tl) 8 y (ZT ho) [x] (by show(1:Int)<=_;omega)
 have h4:=(hb (z:Int) (by omega) h1).2
 exact⟨u,z,e,h1,h3,by omega⟩
theorem zgB {m p:Int}{ts:List Tie}{ks tl:List Int}(hb:∀ x:Int,0<=x->x < m->0<=vAt ks x/\vAt ks x < m):∀ w∈yi p (rkN m ts ks tl) m.toNat,zk4 m w:=by
 intro w hw
 unfold yi at hw
 obtain⟨x,hx,hw⟩:=List.mem_flatMap.mp hw
 obtain⟨y,hy,rfl⟩:=u1q.mp hw
 have hx:=u0e.mp hx
 exact zmg (p:=p) hb (by omega) (zhu hy)
def wI (w:List Nat):List Int:=w.map λk:Nat=>(k:Int)
theorem zk6 (w:List Nat):wD w=.tup ((wI w).map .int):=by
 unfold wD wI
 rw[u0O]
 congr 1
 exact u0w λk _=>Y8 k
def kW (w:List Nat):List Int:=-(w.length:Int)::wI w
def zja (F:List (List Nat)):List (List Nat):=(yM (F.map kW)).map λt=>(t.drop 1).map Int.toNat
theorem zgb (w:List Nat):((kW w).drop 1).map Int.toNat=w:=by
 show(wI w).map Int.toNat=w
 unfold wI
 rw[u0O]
 have:w.map (Int.toNat ∘ λk:Nat=>(k:Int))=w.map id:=u0w λk _=>rfl
 rw[this,u29]
def v5:SE->Ctl :=
 (sIf (XJ (tOf (zo gtD (zg 7) (eC (.int 0)))) (tOf (zo Wj (zg 6) (zg 1)))) (Wo false 5 (zr 2 wu (zb (zg 4) (zb (Yo (zb (zg 6) (zb (zg 8) zt))) zt)))) yb)
def Yj:SE->Ctl :=
 (ZQ (yr (zb (zo ixD (zg 4) (zg 6)) zt)) (Ww 2 (xx (yl 7) (xx (yl 8) W8))) v5)
def Yf:SE->Ctl :=
 (zT (x8 false 2 (zr 2 xT (zb (zg 0) (zb (zg 1) zt))))
  (zT (x8 false 3 (zr 2 yH (zb (zg 0) (zb (zg 1) zt))))
  (zT (x8 false 4 (x5 (fLC (iOf (zg 3)) b1 wY (x5 (zgo (zb (zg 0) zt) (Yo (zb (eUn Wk (zo ixD (zg 4) (zg 0))) (zb (zg 0) zt))))))))
  (zT (Zu 5 (ye zt))
  (zT (xi vb (zb (zo ixD (zg 0) (eC (.int 0))) zt) (yl 6) Yj)
  (sFz 5 (yN (x5 (zgk (zb (zg 5) zt) (Yo (zb (eUn Wk (eFn Zz (zb (zg 0) zt))) (zb (zg 0) zt))))))))))))
def p_ways_from:List D->Option D:=fnD 9 Yf
theorem X4 {m:Int}{ts:List Tie}{p:Int}{ks tl:List Int}(ok:zY m ts)(hp:0<=p/\p < m)(hks:Wp m ts p=ks.map some)(hkl:(ks.length:Int)=m)(hb:∀ x:Int,0<=x->x < m->0<=vAt ks x/\vAt ks x < m)(et:xT [zw m ts,.int p]=some (.tup (tl.map .int)))(htl:(tl.length:Int)=m):p_ways_from [zw m ts,.int p]=some (.lst ((zja (yi p (rkN m ts ks tl) m.toNat)).map wD)):=by
 have hm1:=ok.lo
 have hm8:=ok.hi
 have e5:=zdm ok hp hks hkl
 have hn:=zbx m ts ks tl
 have hl8:∀ x,(rkN m ts ks tl x).length<=8:=λx=>by rw[(Wx m ts ks tl x).length_eq];exact zaw ok
 obtain⟨rk,hrk⟩:∃ rk,rkN m ts ks tl=rk:=⟨_,rfl⟩
 refine XG (ρ:=[.v (zw m ts),.v (.int p),.no,.no,.no,.no,.no,.no,.no]) rfl ?_
 unfold Yf
 refine zy (ρ':=[.v (zw m ts),.v (.int p),.v (.tup (tl.map .int)),.no,.no,.no,.no,.no,.no]) (wF (ds:=[_,_]) rfl et) ?_
 refine zy (ρ':=[.v (zw m ts),.v (.int p),.v (.tup (tl.map .int)),.v (.lst (Zd m ts ks m.toNat)),.no,.no,.no,.no,.no]) (wF (ds:=[_,_]) rfl e5) ?_
 refine zy (ρ':=[.v (zw m ts),.v (.int p),.v (.tup (tl.map .int)),.v (.lst (Zd m ts ks m.toNat)),.v (.lst (rkD m ts ks tl)),.no,.no,.no,.no]) (zg5 (Wf ?_)) ?_
 .unfold fLC
  rw[ziM (d:=.lst (Zd m ts ks m.toNat)) rfl rfl,p7,j4 (wq (by unfold Zd;rw[u9,u01];omega))]
  unfold Zd rkD
  refine zai (λx:Nat=>D.lst ((ZI m ts ks (x:Int)).map zR)) (λx:Nat=>D.lst ((rkN m ts ks tl x).map zR)) (List.range m.toNat) λx hx=>⟨[some (.lst ((ZI m ts ks (x:Int)).map zR))],rfl,rfl,Wf ?_⟩
  unfold zgo
  rw[zV (d:=.lst ((ZI m ts ks (x:Int)).map zR)) (ds:=[]) rfl xY,p7]
  show(zcz _ _ ((ZI m ts ks (x:Int)).map zR)).bind _=_
  obtain⟨h1,h2,h3,h4⟩:=zbI (λo=>-vAt tl (o:Int)) zR (W9 m ts ks (x:Int))
  have hlen:((ZI m ts ks (x:Int)).map zR).length < 10000000:=by
   rw[u9]
   exact u0F (zaw ok) (by decide)
  rw[zfG (c:=zR) (f:=λo:Nat=>[-vAt tl (o:Int),(o:Int)]) (ZI m ts ks (x:Int)) (λo ho=>⟨by
   have hom:=ZT ho
   rw[Y8]
   exact zdE (ds:=[.int (-vAt tl (o:Int)),.int (o:Int)]) (zV (zmc (x:=.int (vAt tl (o:Int))) (zC (x:=.tup (tl.map .int)) (y:=.int (o:Int)) rfl rfl (zfw (ns:=tl) ⟨by omega,hom⟩ htl)) rfl) (zV rfl xY)) (by show 2<=1000;decide),by simp⟩),p7,j4 ⟨h4,hlen⟩,h1]
  rfl
 refine zy (ρ':=[.v (zw m ts),.v (.int p),.v (.tup (tl.map .int)),.v (.lst (Zd m ts ks m.toNat)),.v (.lst (rkD m ts ks tl)),.o [],.no,.no,.no]) rfl ?_
 refine yW (XF (lo:=0) (c:=m.toNat) (λi ρ=>∃ o6 o7 o8,ρ=[.v (zw m ts),.v (.int p),.v (.tup (tl.map .int)),.v (.lst (Zd m ts ks m.toNat)),.v (.lst (rkD m ts ks tl)),.o ((yi p rk i).map wD),o6,o7,o8]) (Zo ok) ⟨_,_,_,rfl⟩ ?_ ?_)
 .rintro x ρ hx ⟨o6,o7,o8,rfl⟩
  have hxm:(x:Int) < m:=by omega
  rw[u1K]
  refine⟨[.v (zw m ts),.v (.int p),.v (.tup (tl.map .int)),.v (.lst (Zd m ts ks m.toNat)),.v (.lst (rkD m ts ks tl)),.o ((yi p rk x).map wD),.v (.int (x:Int)),o7,o8],rfl,?_⟩
  unfold Yj
  have eit:∀ o7 o8:Sl,yr (zb (zo ixD (zg 4) (zg 6)) zt) (visG [.v (zw m ts),.v (.int p),.v (.tup (tl.map .int)),.v (.lst (Zd m ts ks m.toNat)),.v (.lst (rkD m ts ks tl)),.o ((yi p rk x).map wD),.v (.int (x:Int)),o7,o8])=some (Xv 0 ((rk x).map zR)):=λo7 o8=>by
   unfold yr
   rw[zV (d:=.lst ((rk x).map zR)) (ds:=[]) (zC (x:=.lst (rkD m ts ks tl)) (y:=.int (x:Int)) rfl rfl (by rw[<-hrk];exact ziZ hxm)) xY]
   rfl
  refine Wn (ds:=Xv 0 ((rk x).map zR)) (λj ρ=>∃ o7 o8,ρ=[.v (zw m ts),.v (.int p),.v (.tup (tl.map .int)),.v (.lst (Zd m ts ks m.toNat)),.v (.lst (rkD m ts ks tl)),.o ((yi p rk x++(zbG p rk x j).map (zcl rk x)).map wD),.v (.int (x:Int)),o7,o8]) (eit o7 o8) ⟨o7,o8,?_⟩ ?_ ?_
  .have:zbG p rk x 0=[]:=by unfold zbG;split <;> simp
   rw[this,u3N,u0l]
  .rintro j d ρ hd ⟨o7,o8,rfl⟩
   rw[vR]at hd
   obtain⟨dd,hdd,rfl⟩:=t9.mp hd
   rw[r9]at hdd
   obtain⟨y,hy,rfl⟩:=t9.mp hdd
   rw[u02]
   have hyr:=j5 hy
   have hyo:y∈ZI m ts ks (x:Int):=zaO.mp (by rw[hrk];exact hyr)
   have far:=W4 hyo
   have h0:=(hb (x:Int) (by omega) hxm).1
   refine⟨[.v (zw m ts),.v (.int p),.v (.tup (tl.map .int)),.v (.lst (Zd m ts ks m.toNat)),.v (.lst (rkD m ts ks tl)),.o ((yi p rk x++(zbG p rk x j).map (zcl rk x)).map wD),.v (.int (x:Int)),.v (.int (j:Int)),.v (zR y)],rfl,?_⟩
   unfold v5
   rw[zfi hy]
   have ew:=VP (p:=p) (tl:=tl) ok hb (w:=[x]) (y:=y) (ZT hyo) (by show(1:Int)<=_;omega)
   rw[hrk]at ew
   have ew:wu [.lst (rkD m ts ks tl),.tup [.int (x:Int),zR y]]=some (wD (zcl rk x y)):=by
    have e:D.tup [.int (x:Int),zR y]=wD ([x]++[y]):=by unfold wD;rw[<-Y8 x];rfl
    rw[e]
    exact ew
   refine WA (c:=decide (0 < j\/(x:Int)=p)) ?_ (λhc=>?_) (λhc=>ZH rfl ⟨.v (.int (j:Int)),.v (zR y),?_⟩)
   .have e1:tOf (zo gtD (zg 7) (eC (.int 0))) (visG [.v (zw m ts),.v (.int p),.v (.tup (tl.map .int)),.v (.lst (Zd m ts ks m.toNat)),.v (.lst (rkD m ts ks tl)),.o ((yi p rk x++(zbG p rk x j).map (zcl rk x)).map wD),.v (.int (x:Int)),.v (.int (j:Int)),.v (zR y)])=some (decide (0 < j)):=by
     refine Yv (zC (x:=.int (j:Int)) (y:=.int 0) rfl rfl ?_)
     show some (D.bl (decide ((j:Int) > 0)))=_
     congr 2
     exact u3F.mpr (by omega)
    have e2:tOf (zo Wj (zg 6) (zg 1)) (visG [.v (zw m ts),.v (.int p),.v (.tup (tl.map .int)),.v (.lst (Zd m ts ks m.toNat)),.v (.lst (rkD m ts ks tl)),.o ((yi p rk x++(zbG p rk x j).map (zcl rk x)).map wD),.v (.int (x:Int)),.v (.int (j:Int)),.v (zR y)])=some (decide ((x:Int)=p)):=Yv (zC (x:=.int (x:Int)) (y:=.int p) rfl rfl zI)
    rw[zm2 e1 e2,Bool.decide_or]
   .have hc:=p6 hc
    rw[j4 hc]
    have hlen:((yi p rk x++(zbG p rk x j).map (zcl rk x)).map wD).length<=1000:=by
     have a1:=V0 (p:=p) (rk:=rk) (n:=x) (by rw[<-hrk];exact hl8) (by omega)
     have a2:(zbG p rk x j).length<=8:=by
      have:=hl8 x
      rw[hrk]at this
      unfold zbG
      split
      .rw[o9];omega
      .rw[u0a,o9];omega
     rw[u9,j9,u9]
     omega
    refine ZH (VV (m:=false) (i:=5) (d:=wD (zcl rk x y)) (ds:=(yi p rk x++(zbG p rk x j).map (zcl rk x)).map wD) (by unfold vEv;rw[j6 u6];exact yf (ds:=[.lst (rkD m ts ks tl),.tup [.int (x:Int),zR y]]) rfl ew) rfl hlen) ⟨.v (.int (j:Int)),.v (zR y),?_⟩
    have e:(yi p rk x++(zbG p rk x j++[y]).map (zcl rk x)).map wD=(yi p rk x++(zbG p rk x j).map (zcl rk x)).map wD++[wD (zcl rk x y)]:=by simp
    rw[e]
    rfl
   .have hc:=u1S hc
    rw[j6 hc,u0l]
  .rintro ρ ⟨o7,o8,rfl⟩
   refine⟨.v (.int (x:Int)),o7,o8,?_⟩
   rw[xg,u9]
   have:zbG p rk x (rk x).length=zfo p rk x:=by
    unfold zbG zfo
    rw[u2b]
   rw[this,ZY]
 .rintro ρ ⟨o6,o7,o8,rfl⟩
  refine zew (ρ':=[.v (zw m ts),.v (.int p),.v (.tup (tl.map .int)),.v (.lst (Zd m ts ks m.toNat)),.v (.lst (rkD m ts ks tl)),.v (.lst ((yi p rk m.toNat).map wD)),o6,o7,o8]) rfl ?_
  obtain⟨h1,h2,h3,h4⟩:=XY kW (λt=>(t.drop 1).map Int.toNat) wD (λw _=>zgb w) (X9 p (rk:=rk) (by rw[<-hrk];exact hn) m.toNat)
  refine Zc (we (Wf ?_)) (by rw[hrk])
  unfold zgk
  rw[zV (d:=.lst ((yi p rk m.toNat).map wD)) (ds:=[]) rfl xY,p7]
  show(zfD _ _ ((yi p rk m.toNat).map wD)).bind _=_
  have hlen:((yi p rk m.toNat).map wD).length < 10000000:=by
   rw[u9]
   have a1:=V0 (p:=p) (rk:=rk) (n:=m.toNat) (by rw[<-hrk];exact hl8) (by omega)
   exact u0F a1 (by omega)
  rw[zgY (c:=wD) (h:=λw:List Nat=>-(w.length:Int)) (u:=wI) (yi p rk m.toNat) (λw hw=>by
   rw[<-zk6]
   refine zdE (ds:=[.int (-(w.length:Int)),wD w]) (zV (zmc (x:=.int (w.length:Int)) (WW (ds:=[wD w]) rfl ?_) rfl) (zV rfl xY)) (by show 2<=1000;decide)
   show some (D.int ((w.map zR).length:Int))=_
   rw[u9]),p7,j4 ⟨h4,hlen⟩]
  exact u05 some h1
theorem X0 (T:Txt K mg base ad):yU P w K mg base CX0 7 ad.f_ways_from ad.e_ways_from ["web","root"] (@spD ⟨K⟩ 2 p_ways_from):=by
 letI:KK:=⟨K⟩
 have G_outer_neighbours:=wZ (P:=P) (w:=w) (base:=base) T
 have G_heights_from:=WP (P:=P) (w:=w) (base:=base) T
 have G_way_through:=VO (P:=P) (w:=w) (base:=base) T
 refine ziT (N:=["web","root","tall","outer","ranked","found","place","at","other"]) (ps:=["web","root"]) T.lc_ways_from T.d_ways_from.fn yq (g:=Yf) λA outer s H E hr=>?_
 unfold Yf Yj v5
 exact(zh (yE (m:=false) (i:=2) yq.nd rfl (Or.inr rfl) (zm G_heights_from hr rfl T.d_heights_from (za (edv 0) (za (edv 1) zc))))
  (zh (yE (m:=false) (i:=3) yq.nd rfl (Or.inl rfl) (zm G_outer_neighbours hr rfl T.d_outer_neighbours (za (edv 0) (za (edv 1) zc))))
  (zh (zjS (m:=false) (i:=4) (zj8 (L:=["others"]) (M:=["web","root","tall","outer","ranked","found","place","at","other"]) yq.nd rfl (Or.inl rfl) rfl (zbQ (by rfl) (by rfl) (by rfl) (by with_unfolding_all rfl) (by rfl) (by rfl) (by kernel_rfl) (all_cons rfl YI)) (WS (edv 3)) gs1 rb1 (λ_ _ _ _=>(zF (i:=0) znw rfl (Or.inl rfl) (.inr rfl))) (λ_ _ _ _=>(vT (zir (x:="other") (M:=["others","web","root","tall","outer","ranked","found","place","at","·other"]) hr rfl T.z_sorted (za (edv 0) zc) T.la_ways_from rfl (zgf (by rfl) (by rfl) (by rfl) (by with_unfolding_all rfl) (by rfl) (by rfl) (by rfl) (by rfl) (by rfl) (by kernel_rfl) (all_cons rfl YI)) rfl (by kernel_rfl) (λ_ _ _ _=>rfl) (λ_ _ _ _ _=>(wR (za (Vp (zL (edv 4) (edv 0) (λ_ _=>rfl))) (za (edv 0) zc)))))))))
  (zh (ZL (i:=5) yq.nd rfl (Or.inl rfl) (xE zc))
  (zh (Yh i5 rfl rfl T.z_range (za (zL (edv 0) (ze zd) (λ_ _=>rfl)) zc) (zW (zF (i:=6) yq.nd rfl (Or.inl rfl))) (zi (ZE i5 rfl (zaz rfl T.z_enumerate vg (za (zL (edv 4) (edv 6) (λ_ _=>rfl)) zc)) (zbb rfl (xV (zW (zF (i:=7) yq.nd rfl (Or.inl rfl))) (xV (zW (zF (i:=8) yq.nd rfl (Or.inl rfl))) WV))) (zi (xD (zjI (zeb (yj zd0 xS (zH _) (edv 7) (ze zd)) (VZ (yj (w6 hr) xc (zH _) (edv 6) (edv 1))))) (zi (zcf (m:=false) (pv 5) (zm G_way_through hr rfl T.d_way_through (za (edv 4) (za (wR (za (edv 6) (za (edv 8) zc))) zc))) (λa b=>zbm u0x u1g u1h YV a b))) zK)))))
  (ZC 5 (zi (zB (vT (zhi (x:="way") (M:=["web","root","tall","outer","ranked","found","place","at","other"]) hr rfl T.z_sorted (za (edv 5) zc) T.la_ways_from rfl (zgf (by rfl) (by rfl) (by rfl) (by with_unfolding_all rfl) (by rfl) (by rfl) (by rfl) (by rfl) (by rfl) (by kernel_rfl) YI) rfl (by kernel_rfl) (λ_ _ _ _=>rfl) (λ_ _ _ _ _=>(wR (za (Vp (zP zG x9 rfl T.z_len Yr (za (edv 0) zc))) (za (edv 0) zc))))))))))))))
theorem zd5 {F:List (List Nat)}(nd:F.Nodup):(zja F).Perm F:=(XY kW (λt=>(t.drop 1).map Int.toNat) wD (λw _=>zgb w) nd).2.1
def zdu:SE->Ctl :=
 (zT (Zt (zr 1 zM (zb (zg 0) zt)))
  (zT (Zt (zr 2 zU (zb (zg 0) (zb (zg 1) zt))))
  (zT (Zt (zr 1 xW (zb (zg 0) zt)))
  (yN (zr 2 p_ways_from (zb (zg 0) (zb (zg 1) zt)))))))
def zc7:List D->Option D:=fnD 2 zdu
theorem zjq {m p:Int}{ts:List Tie}{W:List (List Nat)}(ok:zY m ts)(hj:Yq m ts)(htl:(ts.length:Int)=m - 1)(hp:0<=p/\p < m)(e:p_ways_from [zw m ts,.int p]=some (.lst (W.map wD))):zc7 [zw m ts,.int p]=some (.lst (W.map wD)):=by
 refine XG (ρ:=[.v (zw m ts),.v (.int p)]) rfl ?_
 unfold zdu
 refine zy (xq (d:=.non) (zbL ok)) ?_
 refine zy (xq (d:=.non) (Y5 (ts:=ts) hp)) ?_
 refine zy (xq (d:=.non) (YM ok hj htl)) ?_
 exact Zc (we (yf (ds:=[_,_]) rfl e)) rfl
theorem zjz (T:Txt K mg base ad):yU P w K mg base CX0 12 ad.f_ways ad.e_ways ["web","place"] (@spD ⟨K⟩ 2 zc7):=by
 letI:KK:=⟨K⟩
 have G_must_be_web:=xO (P:=P) (w:=w) (base:=base) T
 have G_must_be_place:=wm (P:=P) (w:=w) (base:=base) T
 have X_must_be_place:=xM (P:=P) (w:=w) (base:=base) T
 have G_must_be_tree:=wW (P:=P) (w:=w) (base:=base) T
 have X_must_be_tree:=wg (P:=P) (w:=w) (base:=base) T
 have G_ways_from:=X0 (P:=P) (w:=w) (base:=base) T
 refine y4 (N:=["web","place"]) (ps:=["web","place"]) T.d_ways.fn zjA (g:=zdu) λcdv A outer s H E hr=>?_
 unfold zdu
 exact(zh (xJ (zm G_must_be_web hr rfl T.d_must_be_web (za (edv 0) zc)))
  (zh (xJ (zm G_must_be_place hr rfl T.d_must_be_place (za (edv 0) (za (edv 1) zc))))
  (zh (xJ (zm G_must_be_tree hr rfl T.d_must_be_tree (za (edv 0) zc)))
  (zi (zB (zm G_ways_from hr rfl T.d_ways_from (za (edv 0) (za (edv 1) zc))))))))
def lastN (w:List Nat):Nat:=w.getLastD 0
def ziW (t:Int)(i:Nat)(w:List Nat):Int:=(if i=0 then t else 1)*2 ^ (w.length - 1) - 1
def yz (t m:Int)(V:List (List Nat))(i:Nat):List Int:=(V.zipIdx.take i).foldl (λs q=>s.set (lastN q.1) (ziW t q.2 q.1)) (List.replicate m.toNat 0)
theorem We {t m:Int}{V:List (List Nat)}{i:Nat}{w:List Nat}(h:V[i]?=some w):yz t m V (i+1)=(yz t m V i).set (lastN w) (ziW t i w):=by
 unfold yz
 have:V.zipIdx[i]?=some (w,i):=by rw[List.getElem?_zipIdx,h];simp
 rw[u2D,this,List.foldl_append]
 rfl
theorem WQ {t m:Int}{V:List (List Nat)}(hm:0<=m)(i:Nat):((yz t m V i).length:Int)=m:=by
 unfold yz
 have:∀ (l:List (List Nat × Nat)) (s:List Int),(l.foldl (λs q=>s.set (lastN q.1) (ziW t q.2 q.1)) s).length=s.length:=by
  intro l
  induction l with
  | nil=>intro s;rfl
  | cons a l ih=>intro s;rw[u3M,ih,u1X]
 rw[this,u0u]
 omega
def zkr (m:Int)(w:List Nat):Prop:=∃ (u:List Nat) (z:Nat),w=u++[z]/\(z:Int) < m/\(u.length:Int) < m
theorem zkr.last {m:Int}{w:List Nat}(h:zkr m w):L2.atI (w.map zR) (-1)=some (.int (lastN w:Int))/\(lastN w:Int) < m:=by
 obtain⟨u,z,rfl,h1,_⟩:=h
 have e:lastN (u++[z])=z:=by unfold lastN;simp
 rw[e]
 refine⟨?_,h1⟩
 rw[zeE,Y8]
theorem zgW {n:Nat}(h:n<=8):(0:Int) < 2 ^ n/\(2:Int) ^ n<=256:=by
 have h1:(2:Nat) ^ n<=2 ^ 8:=Nat.pow_le_pow_right (by decide) h
 have h2:0 < (2:Nat) ^ n:=Nat.pow_pos (by decide)
 have e:((2:Int) ^ n)=(((2:Nat) ^ n:Nat):Int):=by simp
 rw[e]
 omega
def vH:SE->Ctl :=
 (XL false 3 (zo ixD (zg 5) (eUn Wk (eC (.int 1)))) (zo Xa (zr 2 WL (zb (eIf (tOf (zo Wj (zg 4) (eC (.int 0)))) (zg 2) (eC (.int 1))) (zb (zo Xa (eFn Zz (zb (zg 5) zt)) (eC (.int 1))) zt))) (eC (.int 1))))
def vd:SE->Ctl :=
 (zT (Zu 3 (ziK zgw (x5 (ye (zb (eC (.int 0)) zt))) (zo ixD (zg 0) (eC (.int 0)))))
  (zT (ZQ (yr (zb (zmB (zr 2 p_ways_from (zb (zg 0) (zb (zg 1) zt))) (x5 (ye (zb (Yo (zb (zg 1) zt)) zt)))) zt)) (Ww 2 (xx (yl 4) (xx (yl 5) W8))) vH)
  (sFz 3 (yN (eFn yt (zb (zg 3) zt))))))
def vc:List D->Option D:=fnD 6 vd
theorem Xy {m p t:Int}{ts:List Tie}{W V:List (List Nat)}(ok:zY m ts)(hp:0<=p/\p < m)(e:p_ways_from [zw m ts,.int p]=some (.lst (W.map wD)))(hV:V=if W.isEmpty=true then [[p.toNat]]else W)(hE:∀ w∈V,zkr m w):vc [zw m ts,.int p,.int t]=some (.tup ((yz t m V V.length).map .int)):=by
 have hm1:=ok.lo
 have hm8:=ok.hi
 have em:ixD (zw m ts) (.int 0)=some (.int m):=rfl
 refine XG (ρ:=[.v (zw m ts),.v (.int p),.v (.int t),.no,.no,.no]) rfl ?_
 unfold vd
 refine zy (ρ':=[.v (zw m ts),.v (.int p),.v (.int t),.o ((yz t m V 0).map .int),.no,.no]) ?_ ?_
 .have e:=V8 (d:=.int 0) (n:=m) (by omega) (by omega)
  have e0:(yz t m V 0).map D.int=List.replicate m.toNat (.int 0):=by
   show(List.replicate m.toNat (0:Int)).map D.int=_
   rw[List.map_replicate]
  rw[e0]
  simp[Zu,ziK,x5,ye,zb,zt,eC,wq,zg,visF,Sl.f,zo,em,e]
 have eit:yr (zb (zmB (zr 2 p_ways_from (zb (zg 0) (zb (zg 1) zt))) (x5 (ye (zb (Yo (zb (zg 1) zt)) zt)))) zt) (visG [.v (zw m ts),.v (.int p),.v (.int t),.o ((yz t m V 0).map .int),.no,.no])=some (Xv 0 (V.map wD)):=by
  unfold yr
  rw[zV (d:=.lst (V.map wD)) (ds:=[]) ?_ xY]
  .rfl
  .unfold zmB
   rw[yf (ds:=[zw m ts,.int p]) rfl e,p7]
   show(if (W.map wD).isEmpty=true then _ else _)=_
   rw[hV,List.isEmpty_map]
   cases c:W.isEmpty with
   | true =>
    rw[j4 rfl,j4 rfl]
    have e2:D.tup [.int p]=wD [p.toNat]:=by
     show _=D.tup [zR p.toNat]
     rw[Y8,show((p.toNat:Nat):Int)=p by omega]
    show some (D.lst [D.tup [.int p]])=_
    rw[e2]
    rfl
   | false =>
    rw[j6 u6,j6 u6]
 refine yW (Wn (ds:=Xv 0 (V.map wD)) (λi ρ=>∃ o4 o5,ρ=[.v (zw m ts),.v (.int p),.v (.int t),.o ((yz t m V i).map .int),o4,o5]) eit ⟨_,_,rfl⟩ ?_ ?_)
 .rintro i d ρ hd ⟨o4,o5,rfl⟩
  rw[vR]at hd
  obtain⟨dd,hdd,rfl⟩:=t9.mp hd
  rw[r9]at hdd
  obtain⟨w,hw,rfl⟩:=t9.mp hdd
  rw[u02]
  have hwE:=hE w (j5 hw)
  obtain⟨el,hlm⟩:=hwE.last
  obtain⟨u,z,ew,_,hul⟩:=hwE
  have hwl:w.length - 1<=8:=by rw[ew,j9];show u.length+1 - 1<=8;omega
  have hw1:1<=w.length:=by rw[ew,j9];show 1<=u.length+1;omega
  refine⟨[.v (zw m ts),.v (.int p),.v (.int t),.o ((yz t m V i).map .int),.v (.int (i:Int)),.v (wD w)],rfl,?_⟩
  unfold vH
  have edb:=zdO (n:=if i=0 then t else 1) (k:=(w.length:Int) - 1) (by omega) (by omega)
  rw[show((w.length:Int) - 1).toNat=w.length - 1 by omega]at edb
  refine zdN ((yz t m V i).map .int) (.int (ziW t i w)) (lastN w:Int) ?_ (zC (x:=wD w) (y:=.int (-1)) rfl rfl el) rfl (by omega) (zcC hlm (WQ (by omega) i)) ⟨.v (.int (i:Int)),.v (wD w),?_⟩
  .unfold vEv
   rw[j6 u6]
   refine zC (x:=.int ((if i=0 then t else 1)*2 ^ (w.length - 1))) (y:=.int 1) (yf (ds:=[.int (if i=0 then t else 1),.int ((w.length:Int) - 1)]) (zV (zmT (c:=decide ((i:Int)=0)) (Yv (zC (x:=.int (i:Int)) (y:=.int 0) rfl rfl zI)) ?_) (zV (zC (x:=.int (w.length:Int)) (y:=.int 1) (WW (ds:=[wD w]) rfl ?_) rfl rfl) xY)) edb) rfl rfl
   .by_cases c:i=0
    .rw[o0 (by omega),j4 rfl,j4 c]
     rfl
    .rw[i7 (by omega),j6 u6,j6 c]
     rfl
   .show some (D.int ((w.map zR).length:Int))=_
    rw[u9]
  .rw[We hw,u2O]
   rfl
 .rintro ρ ⟨o4,o5,rfl⟩
  rw[xg,u9]
  exact zew (ρ':=[.v (zw m ts),.v (.int p),.v (.int t),.v (.lst ((yz t m V V.length).map .int)),o4,o5]) rfl (Zc rfl rfl)
theorem Xj (T:Txt K mg base ad):yU P w K mg base CX0 8 ad.f_worst_from ad.e_worst_from ["web","root","times"] (@spD ⟨K⟩ 3 vc):=by
 letI:KK:=⟨K⟩
 have G_doubled:=zd1 (P:=P) (w:=w) (base:=base) T
 have G_ways_from:=X0 (P:=P) (w:=w) (base:=base) T
 refine y4 (N:=["web","root","times","stones","at","way"]) (ps:=["web","root","times"]) T.d_worst_from.fn wx (g:=vd) λcdv A outer s H E hr=>?_
 unfold vd vH
 exact(zh (ZL (i:=3) wx.nd rfl (Or.inl rfl) (zdF (vT (xE (za (ze zd) zc))) (zL (edv 0) (ze zd) (λ_ _=>rfl))))
  (zh (ZE i5 rfl (zaz rfl T.z_enumerate vg (za (zlE (zm G_ways_from hr rfl T.d_ways_from (za (edv 0) (za (edv 1) zc))) (ZB (vT (xE (za (wR (za (edv 1) zc)) zc))))) zc)) (zbb rfl (xV (zW (zF (i:=4) wx.nd rfl (Or.inl rfl))) (xV (zW (zF (i:=5) wx.nd rfl (Or.inl rfl))) WV))) (zi (V2 (m:=false) (ZJ (zm G_doubled hr rfl T.d_doubled (za (zmX (yj (w6 hr) xc (zH _) (edv 4) (ze zd)) (edv 2) (ze zd)) (za (ZJ (zP zG x9 rfl T.z_len Yr (za (edv 5) zc)) (ze zd)) zc))) (ze zd)) (pv 3) (zL (edv 5) (Vp (ze zd)) (λ_ _=>rfl)))))
  (ZC 3 (zi (zB (vV xB YK rfl T.z_tuple xU (za (edv 3) zc)))))))
def vy:SE->Ctl :=
 (zT (Zt (zr 1 zM (zb (zg 0) zt)))
  (zT (Zt (zr 2 zU (zb (zg 0) (zb (zg 1) zt))))
  (zT (Zt (zr 3 y9 (zb (zg 2) (zb (eC (.int 1)) (zb (eC (.int 2)) zt)))))
  (zT (Zt (zr 1 xW (zb (zg 0) zt)))
  (yN (zr 3 vc (zb (zg 0) (zb (zg 1) (zb (zg 2) zt)))))))))
def yc:List D->Option D:=fnD 3 vy
theorem Xx {m p t:Int}{ts:List Tie}{S:List Int}(ok:zY m ts)(hj:Yq m ts)(htl:(ts.length:Int)=m - 1)(hp:0<=p/\p < m)(h1:1<=t)(h2:t<=2)(e:vc [zw m ts,.int p,.int t]=some (.tup (S.map .int))):yc [zw m ts,.int p,.int t]=some (.tup (S.map .int)):=by
 refine XG (ρ:=[.v (zw m ts),.v (.int p),.v (.int t)]) rfl ?_
 unfold vy
 refine zy (xq (d:=.non) (zbL ok)) ?_
 refine zy (xq (d:=.non) (Y5 (ts:=ts) hp)) ?_
 refine zy (xq (d:=.non) (zbp h1 h2)) ?_
 refine zy (xq (d:=.non) (YM ok hj htl)) ?_
 exact Zc (we (yf (ds:=[_,_,_]) rfl e)) rfl
theorem wA (T:Txt K mg base ad):yU P w K mg base CX0 12 ad.f_tree_worst ad.e_tree_worst ["web","place","times"] (@spD ⟨K⟩ 3 yc):=by
 letI:KK:=⟨K⟩
 have G_must_be_within:=vO (P:=P) (w:=w) (base:=base) T
 have X_must_be_within:=vv (P:=P) (w:=w) (base:=base) T
 have G_must_be_web:=xO (P:=P) (w:=w) (base:=base) T
 have G_must_be_place:=wm (P:=P) (w:=w) (base:=base) T
 have X_must_be_place:=xM (P:=P) (w:=w) (base:=base) T
 have G_must_be_tree:=wW (P:=P) (w:=w) (base:=base) T
 have X_must_be_tree:=wg (P:=P) (w:=w) (base:=base) T
 have G_worst_from:=Xj (P:=P) (w:=w) (base:=base) T
 refine y4 (N:=["web","place","times"]) (ps:=["web","place","times"]) T.d_tree_worst.fn Xk (g:=vy) λcdv A outer s H E hr=>?_
 unfold vy
 exact(zh (xJ (zm G_must_be_web hr rfl T.d_must_be_web (za (edv 0) zc)))
  (zh (xJ (zm G_must_be_place hr rfl T.d_must_be_place (za (edv 0) (za (edv 1) zc))))
  (zh (xJ (zm G_must_be_within hr rfl T.d_must_be_within (za (edv 2) (za (ze zd) (za (ze zd) zc)))))
  (zh (xJ (zm G_must_be_tree hr rfl T.d_must_be_tree (za (edv 0) zc)))
  (zi (zB (zm G_worst_from hr rfl T.d_worst_from (za (edv 0) (za (edv 1) (za (edv 2) zc))))))))))
def yB:SE->Option Nat :=
 (zhf xNo (Zt (zr 1 zM (zb (zg 0) zt)))
  (zhf (xEx (zcp 2 wk (zb (zg 0) (zb (zg 1) zt)))) (Zt (zr 2 zU (zb (zg 0) (zb (zg 1) zt))))
  (zhf (xEx (zcp 3 yo (zb (zg 2) (zb (eC (.int 1)) (zb (eC (.int 2)) zt))))) (Zt (zr 3 y9 (zb (zg 2) (zb (eC (.int 1)) (zb (eC (.int 2)) zt)))))
  (xEx (zcp 1 wH (zb (zg 0) zt))))))
def yA:List D->Option Nat:=fnX 3 yB
theorem zc8 {m p:Int}{ts:List Tie}{d:D}(ok:zY m ts)(hp:0<=p/\p < m)(h:yo [d,.int 1,.int 2]=some 3):yA [zw m ts,.int p,d]=some 3:=by
 show yB [.v (zw m ts),.v (.int p),.v d]=some 3
 unfold yB
 refine Vn rfl (xq (d:=.non) (zbL ok)) ?_
 refine Vn (zdq hp) (xq (d:=.non) (Y5 (ts:=ts) hp)) ?_
 exact zg3 h
theorem zhy {m p:Int}{ts:List Tie}(ok:zY m ts)(hl:(ts.length:Int)≠m - 1)(hp:0<=p/\p < m):yA [zw m ts,.int p,.int 1]=some 5:=by
 show yB [.v (zw m ts),.v (.int p),.v (.int 1)]=some 5
 unfold yB
 refine Vn rfl (xq (d:=.non) (zbL ok)) ?_
 refine Vn (zdq hp) (xq (d:=.non) (Y5 (ts:=ts) hp)) ?_
 refine Vn zfs (xq (d:=.non) (zbp (x:=1) (a:=1) (b:=2) (by decide) (by decide))) ?_
 exact zk5 ok hl
theorem xQ (T:Txt K mg base ad):yU P w K mg base (Air P w) 12 ad.f_tree_worst ad.e_tree_worst ["web","place","times"] (@spX ⟨K⟩ (clT ad) 3 yA):=by
 letI:KK:=⟨K⟩
 have G_must_be_within:=vO (P:=P) (w:=w) (base:=base) T
 have X_must_be_within:=vv (P:=P) (w:=w) (base:=base) T
 have G_must_be_web:=xO (P:=P) (w:=w) (base:=base) T
 have G_must_be_place:=wm (P:=P) (w:=w) (base:=base) T
 have X_must_be_place:=xM (P:=P) (w:=w) (base:=base) T
 have G_must_be_tree:=wW (P:=P) (w:=w) (base:=base) T
 have X_must_be_tree:=wg (P:=P) (w:=w) (base:=base) T
 have G_worst_from:=Xj (P:=P) (w:=w) (base:=base) T
 refine zby (cl:=clT ad) (N:=["web","place","times"]) (ps:=["web","place","times"]) T.d_tree_worst.fn Xk (gx:=yB) λcdv A outer s H E hr=>?_
 unfold yB
 exact(zaq zhH (SD.nox (xJ (zm G_must_be_web hr rfl T.d_must_be_web (za (edv 0) zc))))
  (zaq (WY (XV (X_must_be_place.mono (by decide)) Zi hr rfl T.d_must_be_place.at_ T.d_must_be_place.kp T.d_must_be_place.bd (za (edv 0) (za (edv 1) zc)))) (SD.nox (xJ (zm G_must_be_place hr rfl T.d_must_be_place (za (edv 0) (za (edv 1) zc)))))
  (zaq (WY (XV (X_must_be_within.mono (by decide)) Zi hr rfl T.d_must_be_within.at_ T.d_must_be_within.kp T.d_must_be_within.bd (za (edv 2) (za (ze zd) (za (ze zd) zc))))) (SD.nox (xJ (zm G_must_be_within hr rfl T.d_must_be_within (za (edv 2) (za (ze zd) (za (ze zd) zc))))))
  (zge (WY (XV (X_must_be_tree.mono (by decide)) Zi hr rfl T.d_must_be_tree.at_ T.d_must_be_tree.kp T.d_must_be_tree.bd (za (edv 0) zc)))))))
def Ya:SE->Ctl :=
 (yN (zo Zw (eFn zms (zb (zr 3 yc (zb (zg 0) (zb (zg 1) (zb (zg 2) zt)))) zt)) (eC (.int 1))))
def xK:List D->Option D:=fnD 3 Ya
theorem X2 {m p t:Int}{ts:List Tie}{S:List Int}(e:yc [zw m ts,.int p,.int t]=some (.tup (S.map .int))):xK [zw m ts,.int p,.int t]=some (.int (S.sum+1)):=by
 refine XG (ρ:=[.v (zw m ts),.v (.int p),.v (.int t)]) rfl ?_
 unfold Ya
 have es:zms [.tup (S.map .int)]=some (.int S.sum):=by
  show(za5 (S.map .int)).bind _=_
  rw[Xh]
  rfl
 exact Zc (we (zC (x:=.int S.sum) (y:=.int 1) (WW (ds:=[.tup (S.map .int)]) (zV (yf (ds:=[_,_,_]) rfl e) xY) es) rfl rfl)) rfl
theorem Wd (T:Txt K mg base ad):yU P w K mg base CX0 13 ad.f_tree_need ad.e_tree_need ["web","place","times"] (@spD ⟨K⟩ 3 xK):=by
 letI:KK:=⟨K⟩
 have G_tree_worst:=wA (P:=P) (w:=w) (base:=base) T
 have X_tree_worst:=xQ (P:=P) (w:=w) (base:=base) T
 refine y4 (N:=["web","place","times"]) (ps:=["web","place","times"]) T.d_tree_need.fn X7 (g:=Ya) λcdv A outer s H E hr=>?_
 unfold Ya
 exact(zi (zB (wK (zP (zbd rfl) zeK rfl T.z_sum zgp (za (zm G_tree_worst hr rfl T.d_tree_worst (za (edv 0) (za (edv 1) (za (edv 2) zc)))) zc)) (ze zd))))
def YQ:SE->Option Nat :=
 (xEx (zcp 3 yA (zb (zg 0) (zb (zg 1) (zb (zg 2) zt)))))
def YR:List D->Option Nat:=fnX 3 YQ
theorem zlY {a b c:D}{j:Nat}(h:yA [a,b,c]=some j):YR [a,b,c]=some j:=h
theorem XC (T:Txt K mg base ad):yU P w K mg base (Air P w) 13 ad.f_tree_need ad.e_tree_need ["web","place","times"] (@spX ⟨K⟩ (clT ad) 3 YR):=by
 letI:KK:=⟨K⟩
 have G_tree_worst:=wA (P:=P) (w:=w) (base:=base) T
 have X_tree_worst:=xQ (P:=P) (w:=w) (base:=base) T
 refine zby (cl:=clT ad) (N:=["web","place","times"]) (ps:=["web","place","times"]) T.d_tree_need.fn X7 (gx:=YQ) λcdv A outer s H E hr=>?_
 unfold YQ
 exact(vE (zkZ (zmR (zmU rfl T.z_sum zgp (zkk (XV (X_tree_worst.mono (by decide)) Zi hr rfl T.d_tree_worst.at_ T.d_tree_worst.kp T.d_tree_worst.bd (za (edv 0) (za (edv 1) (za (edv 2) zc)))))) (ze zd))))
theorem zkW {j:Int}(h0:0<=j)(h1:j<=8):zm5 (.int 1) (.int j)=some (.int (2 ^ j.toNat)):=by
 have:j=0\/j=1\/j=2\/j=3\/j=4\/j=5\/j=6\/j=7\/j=8:=by omega
 rcases this with rfl | rfl | rfl | rfl | rfl | rfl | rfl | rfl | rfl <;> rfl
def xR:SE->Ctl :=
 (XL false 3 (zo ixD (zg 6) (eUn Wk (eC (.int 1)))) (zo Xa (zo Yt (zo ixD (x5 (ye (zb (eC (.int 1)) (zb (zg 2) zt)))) (eFn zmJ (zb (zo Wj (zg 5) (eC (.int 0))) zt))) (zo zm5 (eC (.int 1)) (zo Xa (eFn Zz (zb (zg 6) zt)) (eC (.int 1))))) (eC (.int 1))))
def vp:SE->Ctl :=
 (zT (Zu 3 (ziK zgw (x5 (ye (zb (eC (.int 0)) zt))) (zo ixD (zg 0) (eC (.int 0)))))
  (zT (x8 false 4 (zr 2 zc7 (zb (zg 0) (zb (zg 1) zt))))
  (zT (sIf (tOf (zo Wj (zg 4) (x5 (ye zt)))) (XL false 3 (zg 1) (zo Xa (zg 2) (eC (.int 1)))) yb)
  (zT (ZQ (yr (zb (zg 4) zt)) (Ww 2 (xx (yl 5) (xx (yl 6) W8))) xR)
  (sFz 3 (yN (eFn yt (zb (zg 3) zt))))))))
def vB:List D->Option D:=fnD 7 vp
theorem zbZ {m p t:Int}{ts:List Tie}{W V:List (List Nat)}(ok:zY m ts)(hp:0<=p/\p < m)(h1:1<=t)(h2:t<=2)(e:zc7 [zw m ts,.int p]=some (.lst (W.map wD)))(hV:V=if W.isEmpty=true then [[p.toNat]]else W)(hE:∀ w∈W,zkr m w):vB [zw m ts,.int p,.int t]=some (.tup ((yz t m V V.length).map .int)):=by
 have hm1:=ok.lo
 have hm8:=ok.hi
 have em:ixD (zw m ts) (.int 0)=some (.int m):=rfl
 refine XG (ρ:=[.v (zw m ts),.v (.int p),.v (.int t),.no,.no,.no,.no]) rfl ?_
 unfold vp
 refine zy (ρ':=[.v (zw m ts),.v (.int p),.v (.int t),.o ((List.replicate m.toNat (0:Int)).map .int),.no,.no,.no]) ?_ ?_
 .have e:=V8 (d:=.int 0) (n:=m) (by omega) (by omega)
  simp[Zu,ziK,x5,ye,zb,zt,eC,wq,zg,visF,Sl.f,zo,em,e]
 refine zy (ρ':=[.v (zw m ts),.v (.int p),.v (.int t),.o ((List.replicate m.toNat (0:Int)).map .int),.v (.lst (W.map wD)),.no,.no]) (wF (ds:=[_,_]) rfl e) ?_
 have ee:Wj (.lst (W.map wD)) (.lst [])=some (.bl W.isEmpty):=by
  have hk:okE 20 (.lst (W.map wD))=true:=by
   show(W.map wD).all (okE 19)=true
   rw[u2i,u0k]
   intro w _
   show(w.map zR).all (okE 18)=true
   rw[u2i,u0k]
   exact λ_ _=>rfl
  show(if okE 20 (.lst (W.map wD))=true/\okE 20 (.lst [])=true then some (eqN 20 (.lst (W.map wD)) (.lst []))else none).map D.bl=_
  rw[j4 ⟨hk,rfl⟩]
  cases W <;> rfl
 cases hW:W with
 | nil =>
  have hV':V=[[p.toNat]]:=by rw[hV,hW];rfl
  rw[hW]at ee
  have hv:yz t m V V.length=(List.replicate m.toNat (0:Int)).set p.toNat (t - 1):=by
   rw[hV']
   show((List.replicate m.toNat (0:Int)).set (lastN [p.toNat]) (ziW t 0 [p.toNat]))=_
   have:ziW t 0 [p.toNat]=t - 1:=by unfold ziW;simp
   rw[this]
   rfl
  rw[hv]
  have hpl:p < (((List.replicate m.toNat (0:Int)).map D.int).length:Int):=by rw[u9,u0u];omega
  refine yW (WA (c:=true) (Yv (zC (x:=.lst ([].map wD)) (y:=.lst []) rfl rfl ee)) (λ_=>?_) (λz=>by cases z))
  refine zdN ((List.replicate m.toNat (0:Int)).map .int) (.int (t - 1)) p rfl rfl rfl hp.1 hpl ?_
  show((zT (ZQ (yr (zb (zg 4) zt)) (Ww 2 (xx (yl 5) (xx (yl 6) W8))) xR) (sFz 3 (yN (eFn yt (zb (zg 3) zt))))) [.v (zw m ts),.v (.int p),.v (.int t),.o (((List.replicate m.toNat (0:Int)).map D.int).set p.toNat (.int (t - 1))),.v (.lst []),.no,.no]).w _ _ _ _
  refine yW (Wn (ds:=[]) (λ_ ρ=>ρ=[.v (zw m ts),.v (.int p),.v (.int t),.o (((List.replicate m.toNat (0:Int)).map D.int).set p.toNat (.int (t - 1))),.v (.lst []),.no,.no]) rfl rfl (λi d ρ hd=>by simp at hd) ?_)
  rintro ρ rfl
  refine zew (ρ':=[.v (zw m ts),.v (.int p),.v (.int t),.v (.lst (((List.replicate m.toNat (0:Int)).map D.int).set p.toNat (.int (t - 1)))),.v (.lst []),.no,.no]) rfl (Zc rfl ?_)
  rw[u2O]
 | cons w0 r =>
  rw[<-hW]
  have hc:W.isEmpty=false:=by rw[hW];rfl
  rw[hc]at ee
  have hV':V=W:=by rw[hV,hc];rfl
  subst hV'
  refine yW (WA (c:=false) (Yv (zC (x:=.lst (V.map wD)) (y:=.lst []) rfl rfl ee)) (λz=>by cases z) (λ_=>ZH rfl ?_))
  refine yW (Wn (ds:=Xv 0 (V.map wD)) (λi ρ=>∃ o5 o6,ρ=[.v (zw m ts),.v (.int p),.v (.int t),.o ((yz t m V i).map .int),.v (.lst (V.map wD)),o5,o6]) rfl ⟨_,_,rfl⟩ ?_ ?_)
  .rintro i d ρ hd ⟨o5,o6,rfl⟩
   rw[vR]at hd
   obtain⟨dd,hdd,rfl⟩:=t9.mp hd
   rw[r9]at hdd
   obtain⟨w,hw,rfl⟩:=t9.mp hdd
   rw[u02]
   have hwE:=hE w (j5 hw)
   obtain⟨el,hlm⟩:=hwE.last
   obtain⟨u,z,ew,_,hul⟩:=hwE
   have hwl:w.length - 1<=8:=by rw[ew,j9];show u.length+1 - 1<=8;omega
   have hw1:1<=w.length:=by rw[ew,j9];show 1<=u.length+1;omega
   refine⟨[.v (zw m ts),.v (.int p),.v (.int t),.o ((yz t m V i).map .int),.v (.lst (V.map wD)),.v (.int (i:Int)),.v (wD w)],rfl,?_⟩
   unfold xR
   have esh:=zkW (j:=(w.length:Int) - 1) (by omega) (by omega)
   rw[show((w.length:Int) - 1).toNat=w.length - 1 by omega]at esh
   have ps:=zgW hwl
   refine zdN ((yz t m V i).map .int) (.int (ziW t i w)) (lastN w:Int) ?_ (zC (x:=wD w) (y:=.int (-1)) rfl rfl el) rfl (by omega) (zcC hlm (WQ (by omega) i)) ⟨.v (.int (i:Int)),.v (wD w),?_⟩
   .unfold vEv
    rw[j6 u6]
    have q1:zmJ [.bl (decide ((i:Int)=0))]=some (.int (if decide ((i:Int)=0)=true then 1 else 0)):=rfl
    refine zC (x:=.int ((if i=0 then t else 1)*2 ^ (w.length - 1))) (y:=.int 1) (zC (x:=.int (if i=0 then t else 1)) (y:=.int (2 ^ (w.length - 1))) (zC (x:=.lst [.int 1,.int t]) (y:=.int (if decide ((i:Int)=0)=true then 1 else 0)) (Wf (zgt rfl (by show 2<=1000;decide))) (WW (ds:=[.bl (decide ((i:Int)=0))]) (zV (zC (x:=.int (i:Int)) (y:=.int 0) rfl rfl zI) xY) q1) ?_) (zC (x:=.int 1) (y:=.int ((w.length:Int) - 1)) rfl (zC (x:=.int (w.length:Int)) (y:=.int 1) (WW (ds:=[wD w]) rfl ?_) rfl rfl) esh) ?_) rfl rfl
    .by_cases c:i=0
     .rw[o0 (show(i:Int)=0 by omega),j4 rfl,j4 c]
      rfl
     .rw[i7 (show ¬ (i:Int)=0 by omega),j6 u6,j6 c]
      rfl
    .show some (D.int ((w.map zR).length:Int))=_
     rw[u9]
    .refine zfB ?_ ?_
     .by_cases c:i=0
      .rw[j4 c];omega
      .rw[j6 c];decide
     .by_cases c:i=0
      .rw[j4 c];omega
      .rw[j6 c];decide
   .rw[We hw,u2O]
    rfl
  .rintro ρ ⟨o5,o6,rfl⟩
   rw[xg,u9]
   exact zew (ρ':=[.v (zw m ts),.v (.int p),.v (.int t),.v (.lst ((yz t m V V.length).map .int)),.v (.lst (V.map wD)),o5,o6]) rfl (Zc rfl rfl)
theorem zae (T:Txt K mg base ad):yU P w K mg base CX0 13 ad.f__law_worst ad.e__law_worst ["web","root","times"] (@spD ⟨K⟩ 3 vB):=by
 letI:KK:=⟨K⟩
 have G_ways:=zjz (P:=P) (w:=w) (base:=base) T
 refine y4 (N:=["web","root","times","found","rows","k","row"]) (ps:=["web","root","times"]) T.d__law_worst.fn xm (g:=vp) λcdv A outer s H E hr=>?_
 unfold vp xR
 exact(zh (ZL (i:=3) xm.nd rfl (Or.inl rfl) (zdF (vT (xE (za (ze zd) zc))) (zL (edv 0) (ze zd) (λ_ _=>rfl))))
  (zh (yE (m:=false) (i:=4) xm.nd rfl (Or.inl rfl) (zm G_ways hr rfl T.d_ways (za (edv 0) (za (edv 1) zc))))
  (zh (xD (yj (w6 hr) xc (zH _) (edv 4) (vT (xE zc))) (zi (V2 (m:=false) (ZJ (edv 2) (ze zd)) (pv 3) (edv 1))) zK)
  (zh (ZE i5 rfl (zaz rfl T.z_enumerate vg (za (edv 4) zc)) (zbb rfl (xV (zW (zF (i:=5) xm.nd rfl (Or.inl rfl))) (xV (zW (zF (i:=6) xm.nd rfl (Or.inl rfl))) WV))) (zi (V2 (m:=false) (ZJ (Vi (zL (vT (xE (za (ze zd) (za (edv 2) zc)))) (vV zeJ zh2 rfl T.z_int zdK (za (ZF (w6 hr) xc (zH _) (edv 5) (ze zd)) zc)) (λ_ _=>rfl)) (zl3 (ze zd) (ZJ (zP zG x9 rfl T.z_len Yr (za (edv 6) zc)) (ze zd)))) (ze zd)) (pv 3) (zL (edv 6) (Vp (ze zd)) (λ_ _=>rfl)))))
  (ZC 3 (zi (zB (vV xB YK rfl T.z_tuple xU (za (edv 3) zc)))))))))
theorem za2:bootBuiltins "ValueError"=some (.type "ValueError"):=by decide +kernel
theorem zg4 {n:Nat}(h:n<=13):n<=sizeLine:=by rw[u10];omega
theorem VI (T:Txt K mg base ad):zfN P w K mg base 1 ad.f__law_kinds ad.e__law_kinds ["e"] (zfx (clT ad) (λj=>j < 13/\zdI K (zks ad) ad.x_StoneError (clT ad j) j)):=by
 letI:KK:=⟨K⟩
 refine zke (N:=["e","found"]) (ps:=["e"]) T.d__law_kinds.fn xr (λvs H Q E h=>by obtain⟨a,j,od,rfl,_⟩:=h;rfl) λcdv A outer s H vs Q E ev hr hsp=>?_
 obtain⟨a,j,od,rfl,hH,⟨hj,kj⟩,q⟩:=hsp
 refine⟨_,(vn (VY (i:=1) xr.nd rfl (Or.inl rfl) (zbj (zp (zX yJ rfl T.z_isinstance zz (zp (pv 0) (zp (xw (v:=.ref ad.x_NoKind) rfl T.g_NoKind rfl) yu))) (zp (zX yJ rfl T.z_isinstance zz (zp (pv 0) (zp (xw (v:=.ref ad.x_NoHeap) rfl T.g_NoHeap rfl) yu))) (zp (zX yJ rfl T.z_isinstance zz (zp (pv 0) (zp (xw (v:=.ref ad.x_NoPlace) rfl T.g_NoPlace rfl) yu))) (zp (zX yJ rfl T.z_isinstance zz (zp (pv 0) (zp (xw (v:=.ref ad.x_NoNumber) rfl T.g_NoNumber rfl) yu))) yu))))))
  (vn (VY (i:=1) xr.nd rfl (Or.inl rfl) (zev zdl (pv 1) (zbj (zp (zX yJ rfl T.z_isinstance zz (zp (pv 0) (zp (xw (v:=.ref ad.x_NoTally) rfl T.g_NoTally rfl) yu))) (zp (zX yJ rfl T.z_isinstance zz (zp (pv 0) (zp (xw (v:=.ref ad.x_NotTree) rfl T.g_NotTree rfl) yu))) (zp (zX yJ rfl T.z_isinstance zz (zp (pv 0) (zp (xw (v:=.ref ad.x_NotJoined) rfl T.g_NotJoined rfl) yu))) (zp (zX yJ rfl T.z_isinstance zz (zp (pv 0) (zp (xw (v:=.ref ad.x_NoWeights) rfl T.g_NoWeights rfl) yu))) yu)))))))
  (vn (VY (i:=1) xr.nd rfl (Or.inl rfl) (zev zdl (pv 1) (zbj (zp (zX yJ rfl T.z_isinstance zz (zp (pv 0) (zp (xw (v:=.ref ad.x_NoRow) rfl T.g_NoRow rfl) yu))) (zp (zX yJ rfl T.z_isinstance zz (zp (pv 0) (zp (xw (v:=.ref ad.x_NoWeb) rfl T.g_NoWeb rfl) yu))) (zp (zX yJ rfl T.z_isinstance zz (zp (pv 0) (zp (xw (v:=.ref ad.x_NoSteps) rfl T.g_NoSteps rfl) yu))) (zp (zX yJ rfl T.z_isinstance zz (zp (pv 0) (zp (xw (v:=.ref ad.x_NoText) rfl T.g_NoText rfl) yu))) yu)))))))
  (vn (VY (i:=1) xr.nd rfl (Or.inl rfl) (zev zdl (pv 1) (zbj (zp (zX yJ rfl T.z_isinstance zz (zp (pv 0) (zp (xw (v:=.ref ad.x_TooGreat) rfl T.g_TooGreat rfl) yu))) yu))))
  (vn (zjM (PW.pt (zlf (ziQ (ziR (zX yJ rfl T.z_isinstance zz (zp (pv 0) (zp (yL (v:=.ty "ValueError") rfl T.z_ValueError za2 rfl) yu))))) (ziL (zgO VJ (zbm u0x PySem.F.slot_list_count PySem.F.type_list_count zfq (pv 1) (zp Yw yu)) zd (zH _))))) (Vq (zb5 (zlL ziE zd))) zf4) (Vq (zb5 (zbm u0x PySem.F.slot_list_index PySem.F.type_list_index zgl (pv 1) (zp Yw yu))))))))),?_⟩
 refine zeB (cs:=[ad.x_NoKind,ad.x_NoHeap,ad.x_NoPlace,ad.x_NoNumber]) (bs:=[0 == j,1 == j,2 == j,3 == j]) kj.look (u05 (λl=>(l.drop 0).take 4) kj.hot) (zg4 (n:=4) (by decide)) rfl rfl hH fun σ1 H1 S1=>?_
 refine zag (cs:=[ad.x_NoTally,ad.x_NotTree,ad.x_NotJoined,ad.x_NoWeights]) (bs:=[4 == j,5 == j,6 == j,7 == j]) kj.look (u05 (λl=>(l.drop 4).take 4) kj.hot) (by exact zg4 (n:=8) (by decide)) S1 fun σ2 H2 S2=>?_
 refine zag (cs:=[ad.x_NoRow,ad.x_NoWeb,ad.x_NoSteps,ad.x_NoText]) (bs:=[8 == j,9 == j,10 == j,11 == j]) kj.look (u05 (λl=>(l.drop 8).take 4) kj.hot) (by exact zg4 (n:=12) (by decide)) S2 fun σ3 H3 S3=>?_
 refine zag (cs:=[ad.x_TooGreat]) (bs:=[12 == j]) kj.look (u05 (λl=>(l.drop 12).take 1) kj.hot) (by exact zg4 (n:=13) (by decide)) S3 fun σ4 H4 S4=>?_
 exact zjG kj.val kj.look hj S4 (q _ S4.same)
def Yc:SE->Ctl :=
 (zT (zlO (xIf (tOf (zo Wj (zg 0) (eC (.int 0)))) (xEx (zcp 3 YR (zb (zg 1) (zb (zg 2) (zb (zg 3) zt))))) (xEx (zcp 3 yA (zb (zg 1) (zb (zg 2) (zb (zg 3) zt)))))) (sIf (tOf (zo Wj (zg 0) (eC (.int 0)))) (Zt (zr 3 xK (zb (zg 1) (zb (zg 2) (zb (zg 3) zt))))) (Zt (zr 3 yc (zb (zg 1) (zb (zg 2) (zb (zg 3) zt)))))) (zkm [2,3,5] (fK [2,3,5])))
  (yN (eC .non)))
def wV:List D->Option D:=fnD 5 Yc
theorem zcI {i:Int}{a b c:D}{j:Nat}(hi:i=0\/i=1)(h:yA [a,b,c]=some j)(hj:j=3\/j=5):wV [.int i,a,b,c]=some (.int (j:Int)):=by
 refine XG (ρ:=[.v (.int i),.v a,.v b,.v c,.no]) rfl ?_
 unfold Yc
 refine yW (Zc (d:=.int (j:Int)) (zij (j:=j) ?_ ?_) rfl)
 .rcases hi with rfl | rfl
  .exact zlY h
  .exact h
 .rcases hj with rfl | rfl <;> rfl
theorem zbh (T:Txt K mg base ad):yU P w K mg base CX0 14 ad.f__law_came ad.e__law_came ["way","web","root","times"] (@spD ⟨K⟩ 4 wV):=by
 letI:KK:=⟨K⟩
 have G_tree_need:=Wd (P:=P) (w:=w) (base:=base) T
 have X_tree_need:=XC (P:=P) (w:=w) (base:=base) T
 have G_tree_worst:=wA (P:=P) (w:=w) (base:=base) T
 have X_tree_worst:=xQ (P:=P) (w:=w) (base:=base) T
 have H_kinds:=VI (P:=P) (w:=w) (base:=base) T
 have okj:∀ j,j∈[2,3,5]->j < 13/\zdI K (zks ad) ad.x_StoneError (clT ad j) j:=by
  intro j hj
  simp only[d5,i8,u1D]at hj
  rcases hj with rfl | rfl | rfl
  .exact⟨by decide,.of T.y_NoPlace⟩
  .exact⟨by decide,.of T.y_NoNumber⟩
  .exact⟨by decide,.of T.y_NotTree⟩
 have exj:∀ (h:Nat->Option D) j d,zkm [2,3,5] h j=some d->PySem.W.exmOne K (.ref (clT ad j)) (.ref ad.x_StoneError)=some true:=λh j d e=>by rw[hclT ad j];exact(okj _ (zj1 e)).2.exm
 refine y4 (N:=["way","web","root","times","e"]) (ps:=["way","web","root","times"]) T.d__law_came.fn Wb (g:=Yc) λcdv A outer s H E hr=>?_
 unfold Yc
 exact(zh (zkE (i:=4) rfl rfl rfl Wb.nd rfl rfl rfl T.g_StoneError (λps W E0 hx=>(vE (zhO (yj (w6 hr) xc (zH _) (edv 0) (ze zd)) (vE (WY (XV (X_tree_need.mono (by decide)) hx hr rfl T.d_tree_need.at_ T.d_tree_need.kp T.d_tree_need.bd (za (edv 1) (za (edv 2) (za (edv 3) zc)))))) (vE (WY (XV (X_tree_worst.mono (by decide)) hx hr rfl T.d_tree_worst.at_ T.d_tree_worst.kp T.d_tree_worst.bd (za (edv 1) (za (edv 2) (za (edv 3) zc))))))))) (λps W=>(zi (xD (yj (w6 hr) xc (zH _) (edv 0) (ze zd)) (zi (xJ (zm G_tree_need hr rfl T.d_tree_need (za (edv 1) (za (edv 2) (za (edv 3) zc)))))) (zi (xJ (zm G_tree_worst hr rfl T.d_tree_worst (za (edv 1) (za (edv 2) (za (edv 3) zc))))))))) (exj _) (λok ea=>(Vq (zb5 (zib (E:=λ_ _ _=>False) H_kinds (hr.mono (by decide)) rfl T.d__law_kinds.at_ T.d__law_kinds.kp T.d__law_kinds.bd ok (zp (pv 4) yu))))) (zlB (zkM (zhd (ok:=_) (hclT ad) okj))))
  (zi (zB (W5 Vd))))
def zcv:SE->Ctl :=
 (zT (sIf (XJ (tOf (zo neD (zr 4 wV (zb (zg 8) (zb (zg 2) (zb (eC (.int 0)) (zb (zg 6) zt))))) (eC (.int 3)))) (tOf (zo neD (zr 4 wV (zb (zg 8) (zb (zg 7) (zb (eC (.int 0)) (zb (zg 6) zt))))) (eC (.int 3))))) (yN (eC (.bl false))) yb)
  (sIf (tOf (zo neD (zr 4 wV (zb (zg 8) (zb (zg 7) (zb (eC (.int 0)) (zb (eC (.int 1)) zt))))) (eC (.int 5)))) (yN (eC (.bl false))) yb))
def zaW:SE->Ctl :=
 (zT (x8 false 5 (zr 3 vB (zb (zg 2) (zb (zg 3) (zb (zg 4) zt)))))
  (zT (sIf (yT (tOf (zr 2 wO (zb (zr 3 yc (zb (zg 2) (zb (zg 3) (zb (zg 4) zt)))) (zb (zg 5) zt))))) (yN (eC (.bl false))) yb)
  (sIf (yT (tOf (zr 2 wO (zb (zr 3 xK (zb (zg 2) (zb (zg 3) (zb (zg 4) zt)))) (zb (zo Zw (eFn zms (zb (zg 5) zt)) (eC (.int 1))) zt))))) (yN (eC (.bl false))) yb)))
def zcB:SE->Ctl :=
 (ZQ (iOf (x5 (ye (zb (eC (.int 1)) (zb (eC (.int 2)) zt))))) (yl 4) zaW)
def zav:SE->Ctl :=
 (zT (x8 false 2 (zr 2 vC (zb (zg 1) (zb (eC (.int 8)) zt))))
  (zT (xi vb (zb (zo ixD (zg 2) (eC (.int 0))) zt) (yl 3) zcB)
  (zT (x8 false 6 (zo ixD (x5 (ye (zb (eC (.int 0)) (zb (eC (.int 3)) (zb (eUn Wk (eC (.int 1))) (zb (eC (.bl true)) (zb (eC .non) (zb (eC (.str "1")) (zb (x5 (ye (zb (eC (.int 1)) zt))) (zb (zo powD (eC (.int 10)) (eC (.int 30))) zt)))))))))) (zo vX (zr 2 xL (zb (zg 1) (zb (eC (.int 5)) zt))) (eC (.int 8)))))
  (zT (x8 false 7 (Yo (zb (zo Zw (zo ixD (zg 2) (eC (.int 0))) (eC (.int 1))) (zb (zo ixD (zg 2) (eC (.int 1))) zt))))
  (sIf (tOf (zo ltD (zo ixD (zg 2) (eC (.int 0))) (eC (.int 8)))) (xi vb (zb (eC (.int 2)) zt) (yl 8) zcv) yb)))))
def zh1:SE->Ctl :=
 (zT (ZQ (iOf (zo Zw (x5 (ye (zb (zr 2 y8 (zb (zg 0) (zb (eC (.int 0)) zt))) zt))) (eSl slD (zg 0) (w8 (eC (.int 1))) (w8 (eC (.int 8)))))) (yl 1) zav)
  (yN (ZW (zo Wj (zr 3 xK (zb (Yo (zb (eC (.int 1)) (zb (Yo zt) zt))) (zb (eC (.int 0)) (zb (eC (.int 2)) zt)))) (eC (.int 2))) (zo Wj (zr 3 yc (zb (Yo (zb (eC (.int 1)) (zb (Yo zt) zt))) (zb (eC (.int 0)) (zb (eC (.int 2)) zt)))) (Yo (zb (eC (.int 1)) zt))))))
def zma:List D->Option D:=fnD 9 zh1
theorem zf7 (cs:List Int):wO [.tup (cs.map .int),.tup (cs.map .int)]=some (.bl true):=ziS (by
 show(cs.map D.int).all (okE 4)=true
 rw[u2i,u0k]
 exact λ_ _=>rfl)
theorem zlg {m p:Int}{ts:List Tie}(ok:zY m ts)(hj:Yq m ts)(htl:(ts.length:Int)=m - 1)(hp:0<=p/\p < m)(t:Int)(h1:1<=t)(h2:t<=2):∃ S:List Int,yc [zw m ts,.int p,.int t]=some (.tup (S.map .int))/\vB [zw m ts,.int p,.int t]=some (.tup (S.map .int)):=by
 obtain⟨ks,hks,hkl⟩:=zaF hj hp
 have hb:=ziX ok hp hks hkl
 obtain⟨tl,et,htl',_⟩:=YZ ok hp hks hkl
 have ew:=X4 ok hp hks hkl hb et htl'
 have pm:=zd5 (X9 p (zbx m ts ks tl) m.toNat)
 obtain⟨W,hW⟩:∃ W,zja (yi p (rkN m ts ks tl) m.toNat)=W:=⟨_,rfl⟩
 rw[hW]at ew pm
 have hE:∀ w∈W,zkr m w:=λw hw=>by
  obtain⟨u,z,e,a,_,b⟩:=zgB hb w (pm.mem_iff.mp hw)
  exact⟨u,z,e,a,b⟩
 obtain⟨V,hV⟩:∃ V,V=if W.isEmpty=true then [[p.toNat]]else W:=⟨_,rfl⟩
 have hEV:∀ w∈V,zkr m w:=λw hw=>by
  rw[hV]at hw
  split at hw
  .rw[d4.mp hw]
   exact⟨[],p.toNat,rfl,by omega,by show((0:Nat):Int) < m;omega⟩
  .exact hE w hw
 exact⟨_,Xx ok hj htl hp h1 h2 (Xy ok hp ew hV hEV),zbZ ok hp h1 h2 (zjq ok hj htl hp ew) hV hE⟩
theorem zit (script:D)(z m p t:Int)(ts:List Tie)(ok:zY m ts)(hj:Yq m ts)(htl:(ts.length:Int)=m - 1)(hp:0<=p/\p < m)(h1:1<=t)(h2:t<=2)(o5 o6 o7 o8:Sl)(n b:SE->Prop)(r:D->Prop)(I:SE->Prop)(hI:∀ o5,I [.v script,.v (.int z),.v (zw m ts),.v (.int p),.v (.int t),o5,o6,o7,o8]):(zaW [.v script,.v (.int z),.v (zw m ts),.v (.int p),.v (.int t),o5,o6,o7,o8]).w I b n r:=by
 obtain⟨S,e1,e2⟩:=zlg ok hj htl hp t h1 h2
 have e3:=X2 e1
 unfold zaW
 refine zy (ρ':=[.v script,.v (.int z),.v (zw m ts),.v (.int p),.v (.int t),.v (.tup (S.map .int)),o6,o7,o8]) (wF (ds:=[_,_,_]) rfl e2) ?_
 refine yW (WA (c:=false) (zdf (b:=true) (Yv (yf (ds:=[.tup (S.map .int),.tup (S.map .int)]) (zV (yf (ds:=[_,_,_]) rfl e1) (zV rfl xY)) (zf7 S)))) (λz=>by cases z) (λ_=>ZH rfl ?_))
 have es:zms [.tup (S.map .int)]=some (.int S.sum):=by
  show(za5 (S.map .int)).bind _=_
  rw[Xh]
  rfl
 refine WA (c:=false) (zdf (b:=true) (Yv (yf (ds:=[.int (S.sum+1),.int (S.sum+1)]) (zV (yf (ds:=[_,_,_]) rfl e3) (zV (zC (x:=.int S.sum) (y:=.int 1) (WW (ds:=[.tup (S.map .int)]) rfl es) rfl rfl) xY)) (ziS rfl)))) (λz=>by cases z) (λ_=>ZH rfl (hI _))
theorem zjB:∀ x∈[D.int 0,.int 3,.int (-1),.bl true,.non,.str "1",.lst [.int 1],.int (10 ^ 30)],yo [x,.int 1,.int 2]=some 3:=by
 intro x hx
 simp only[d5,i8,u1D]at hx
 rcases hx with rfl | rfl | rfl | rfl | rfl | rfl | rfl | rfl <;> rfl
theorem znl {j:Int}{ds:List D}(h0:0<=j)(h1:j < ds.length):∃ d,L2.atI ds j=some d/\d∈ds:=by
 have hl:j.toNat < ds.length:=by omega
 exact⟨ds[j.toNat],X6 h0 (u7 hl),u1x hl⟩
theorem zjn (script:D)(z:Int)(o2 o3 o4 o5 o6 o7 o8:Sl)(n b:SE->Prop)(r:D->Prop)(I:SE->Prop)(hI:∀ o2 o3 o4 o5 o6 o7 o8,I [.v script,.v (.int z),o2,o3,o4,o5,o6,o7,o8]):(zav [.v script,.v (.int z),o2,o3,o4,o5,o6,o7,o8]).w I b n r:=by
 obtain⟨ts,ew,ok,hj,htl⟩:=zd2 (c:=z) (mo:=8) (by decide) (by decide)
 obtain⟨m,hm⟩:∃ m:Int,1+z % 8=m:=⟨_,rfl⟩
 rw[hm]at ew ok hj htl
 have hm1:=ok.lo
 have hm8:=ok.hi
 unfold zav
 refine zy (ρ':=[.v script,.v (.int z),.v (zw m ts),o3,o4,o5,o6,o7,o8]) (wP ew) ?_
 refine yW (XF (lo:=0) (c:=m.toNat) (λi ρ=>∃ o3 o4 o5,ρ=[.v script,.v (.int z),.v (zw m ts),o3,o4,o5,o6,o7,o8]) (Zo ok) ⟨_,_,_,rfl⟩ ?_ ?_)
 .rintro i ρ hi ⟨o3,o4,o5,rfl⟩
  obtain⟨p,hpx⟩:∃ x:Int,(0:Int)+(i:Int)=x:=⟨_,rfl⟩
  rw[hpx]
  have hp:=zgF hi hpx
  refine⟨[.v script,.v (.int z),.v (zw m ts),.v (.int p),o4,o5,o6,o7,o8],rfl,?_⟩
  unfold zcB
  refine Wn (ds:=[.int 1,.int 2]) (λi ρ=>∃ o4 o5,ρ=[.v script,.v (.int z),.v (zw m ts),.v (.int p),o4,o5,o6,o7,o8]) rfl ⟨_,_,rfl⟩ ?_ ?_
  .rintro i d ρ hd ⟨o4,o5,rfl⟩
   have hd:=j5 hd
   obtain⟨t,rfl,h1,h2⟩:∃ t:Int,d=.int t/\1<=t/\t<=2:=by
    simp only[d5,i8,u1D]at hd
    rcases hd with rfl | rfl
    .exact⟨1,rfl,by decide,by decide⟩
    .exact⟨2,rfl,by decide,by decide⟩
   exact⟨[.v script,.v (.int z),.v (zw m ts),.v (.int p),.v (.int t),o5,o6,o7,o8],rfl,zit _ _ _ _ _ _ ok hj htl hp h1 h2 _ _ _ _ _ _ _ _ λ_=>⟨_,_,rfl⟩⟩
  .rintro ρ ⟨o4,o5,rfl⟩
   exact⟨_,_,_,rfl⟩
 rintro ρ ⟨o3,o4,o5,rfl⟩
 obtain⟨j,hjj⟩:∃ j:Int,zfP z 5 % 8=j:=⟨_,rfl⟩
 obtain⟨j0,j1⟩:=Zh (by decide) hjj
 obtain⟨bad,eb,hbad⟩:=znl (ds:=[D.int 0,.int 3,.int (-1),.bl true,.non,.str "1",.lst [.int 1],.int (10 ^ 30)]) j0 j1
 have hx3:=zjB bad hbad
 refine zy (ρ':=[.v script,.v (.int z),.v (zw m ts),o3,o4,o5,.v bad,o7,o8]) (zg5 (zC (x:=.lst [D.int 0,.int 3,.int (-1),.bl true,.non,.str "1",.lst [.int 1],.int (10 ^ 30)]) (y:=.int j) (Wf (zgt rfl (by show 8<=1000;decide))) (zC (x:=.int (zfP z 5)) (y:=.int 8) rfl rfl (by rw[vJ (by decide),hjj])) eb)) ?_
 refine zy (ρ':=[.v script,.v (.int z),.v (zw m ts),o3,o4,o5,.v bad,.v (zw (m+1) ts),o8]) rfl ?_
 refine WA (c:=decide (m < 8)) (Yv (zC (x:=.int m) (y:=.int 8) rfl rfl rfl)) (λhc=>?_) (λ_=>ZH rfl (hI _ _ _ _ _ _ _))
 have hc:=p6 hc
 have ok2:zY (m+1) ts:=⟨by omega,by omega,λt ht=>by have:=ok.rng t ht;omega,ok.srt⟩
 refine XF (lo:=0) (c:=2) (λi ρ=>∃ o8,ρ=[.v script,.v (.int z),.v (zw m ts),o3,o4,o5,.v bad,.v (zw (m+1) ts),o8]) (Y6 (j:=2) (by decide) (by decide)) ⟨_,rfl⟩ ?_ ?_
 .rintro i ρ hi ⟨o8,rfl⟩
  obtain⟨k,hk⟩:∃ x:Int,(0:Int)+(i:Int)=x:=⟨_,rfl⟩
  rw[hk]
  have hk2:k=0\/k=1:=by omega
  refine⟨[.v script,.v (.int z),.v (zw m ts),o3,o4,o5,.v bad,.v (zw (m+1) ts),.v (.int k)],rfl,?_⟩
  have c1:=zcI (i:=k) hk2 (zc8 (p:=0) ok ⟨by decide,by omega⟩ hx3) (.inl rfl)
  have c2:=zcI (i:=k) hk2 (zc8 (p:=0) ok2 ⟨by decide,by omega⟩ hx3) (.inl rfl)
  have c3:=zcI (i:=k) hk2 (zhy (p:=0) ok2 (by omega) ⟨by decide,by omega⟩) (.inr rfl)
  unfold zcv
  refine yW (WA (c:=false) (zlX (Yv (zC (x:=.int 3) (y:=.int 3) (yf (ds:=[.int k,zw m ts,.int 0,bad]) rfl c1) rfl rfl)) (Yv (zC (x:=.int 3) (y:=.int 3) (yf (ds:=[.int k,zw (m+1) ts,.int 0,bad]) rfl c2) rfl rfl))) (λz=>by cases z) (λ_=>ZH rfl ?_))
  exact WA (c:=false) (Yv (zC (x:=.int 5) (y:=.int 5) (yf (ds:=[.int k,zw (m+1) ts,.int 0,.int 1]) rfl c3) rfl rfl)) (λz=>by cases z) (λ_=>ZH rfl ⟨_,rfl⟩)
 .rintro ρ ⟨o8,rfl⟩
  exact hI _ _ _ _ _ _ _
theorem zkp:zY 1 []:=⟨by decide,by decide,λt h=>(by cases h),List.Pairwise.nil⟩
theorem zeU:Yq 1 []:=λp v hp hv=>⟨0,by
 have e:p=v:=by omega
 subst e
 exact .zero⟩
theorem zfp:yc [zw 1 [],.int 0,.int 2]=some (.tup [.int 1]):=by
 obtain⟨ks,hks,hkl⟩:=zaF zeU (p:=0) ⟨by decide,by decide⟩
 have hb:=ziX zkp (p:=0) ⟨by decide,by decide⟩ hks hkl
 obtain⟨tl,et,htl',_⟩:=YZ zkp (p:=0) ⟨by decide,by decide⟩ hks hkl
 have ew:=X4 zkp ⟨by decide,by decide⟩ hks hkl hb et htl'
 have ho:∀ x,ZI 1 [] ks x=[]:=λx=>by
  refine List.eq_nil_iff_forall_not_mem.mpr λk hk=>?_
  rcases(zcA zkp).mp (u07.mp hk).1 with h | h <;> cases h
 have hr:∀ x,rkN 1 [] ks tl x=[]:=λx=>by
  have:=Wx 1 [] ks tl x
  rw[ho]at this
  exact this.eq_nil
 have hf:yi 0 (rkN 1 [] ks tl) (1:Int).toNat=[]:=by
  show yi 0 (rkN 1 [] ks tl) 1=[]
  rw[ZY]
  unfold zfo
  rw[j4 (show((0:Nat):Int)=0 from rfl),hr]
  rfl
 rw[hf]at ew
 have:=Xx zkp zeU rfl (p:=0) (t:=2) ⟨by decide,by decide⟩ (by decide) (by decide) (Xy (W:=[]) (V:=[[0]]) zkp ⟨by decide,by decide⟩ ew rfl λw hw=>by
  rw[d4.mp hw]
  exact⟨[],0,rfl,by decide,by decide⟩)
 exact this
theorem zhA:∀ ns:List Int,ns.length<=63->zma [.scr ns]=some (.bl true):=by
 intro ns hns
 refine XG (ρ:=[.v (.scr ns),.no,.no,.no,.no,.no,.no,.no,.no]) rfl ?_
 unfold zh1
 obtain⟨xs,hxs⟩:=zix (ρ:=[none,none,none,none,none,none,none,none]) ns 8 hns
 refine yW (Wn (ds:=xs.map .int) (λi ρ=>∃ o1 o2 o3 o4 o5 o6 o7 o8,ρ=[.v (.scr ns),o1,o2,o3,o4,o5,o6,o7,o8]) hxs ⟨_,_,_,_,_,_,_,_,rfl⟩ ?_ ?_)
 .rintro i d ρ hd ⟨o1,o2,o3,o4,o5,o6,o7,o8,rfl⟩
  rw[r9]at hd
  obtain⟨z,hz,rfl⟩:=t9.mp hd
  exact⟨_,rfl,zjn _ _ _ _ _ _ _ _ _ _ _ _ _ λ_ _ _ _ _ _ _=>⟨_,_,_,_,_,_,_,_,rfl⟩⟩
 .rintro ρ ⟨o1,o2,o3,o4,o5,o6,o7,o8,rfl⟩
  have e1:xK [zw 1 [],.int 0,.int 2]=some (.int 2):=X2 (S:=[1]) zfp
  exact Zc (we (ziD (b:=true) (c:=true) (zC (x:=.int 2) (y:=.int 2) (yf (ds:=[.tup [.int 1,.tup []],.int 0,.int 2]) rfl e1) rfl rfl) (zC (x:=.tup [.int 1]) (y:=.tup [.int 1]) (yf (ds:=[.tup [.int 1,.tup []],.int 0,.int 2]) rfl zfp) rfl rfl))) rfl
theorem zkK (T:Txt K mg base ad):yU P w K mg base CX0 30 ad.f_law ad.e_law ["script"] (zfE K):=by
 letI:KK:=⟨K⟩
 have G_tree_need:=Wd (P:=P) (w:=w) (base:=base) T
 have X_tree_need:=XC (P:=P) (w:=w) (base:=base) T
 have G_tree_worst:=wA (P:=P) (w:=w) (base:=base) T
 have X_tree_worst:=xQ (P:=P) (w:=w) (base:=base) T
 have G__law_cell_at:=Vk (P:=P) (w:=w) (base:=base) T
 have G__law_same:=zbW (P:=P) (w:=w) (base:=base) T
 have G__law_stir:=Wa (P:=P) (w:=w) (base:=base) T
 have G__law_tree_by:=W7 (P:=P) (w:=w) (base:=base) T
 have G__law_worst:=zae (P:=P) (w:=w) (base:=base) T
 have G__law_came:=zbh (P:=P) (w:=w) (base:=base) T
 refine(zkP (p:=zma) (y4 (N:=["script","cell","web","root","times","due","bad","no_tree","way"]) (ps:=["script"]) T.d_law.fn Xu (g:=zh1) λcdv A outer s H E hr=>?_) zhA).mono (j:=15) (by decide)
 unfold zh1 zav zcB zaW zcv
 exact(zh (ZE i5 rfl (WS (wK (vT (xE (za (zm G__law_cell_at hr rfl T.d__law_cell_at (za (edv 0) (za (ze zd) zc))) zc))) (zh9 (edv 0) (zfM (ze zd)) (zfM (ze zd))))) (zW (zF (i:=1) Xu.nd rfl (Or.inl rfl))) (zh (yE (m:=false) (i:=2) Xu.nd rfl (Or.inl rfl) (zm G__law_tree_by hr rfl T.d__law_tree_by (za (edv 1) (za (ze zd) zc))))
  (zh (Yh i5 rfl rfl T.z_range (za (zL (edv 2) (ze zd) (λ_ _=>rfl)) zc) (zW (zF (i:=3) Xu.nd rfl (Or.inl rfl))) (zi (ZE i5 rfl (WS (vT (xE (za (ze zd) (za (ze zd) zc))))) (zW (zF (i:=4) Xu.nd rfl (Or.inl rfl))) (zh (yE (m:=false) (i:=5) Xu.nd rfl (Or.inl rfl) (zm G__law_worst hr rfl T.d__law_worst (za (edv 2) (za (edv 3) (za (edv 4) zc)))))
  (zh (xD (vh (x6 (zm G__law_same hr rfl T.d__law_same (za (zm G_tree_worst hr rfl T.d_tree_worst (za (edv 2) (za (edv 3) (za (edv 4) zc)))) (za (edv 5) zc))))) (zi (zB (ZZ Yw))) zK)
  (zi (xD (vh (x6 (zm G__law_same hr rfl T.d__law_same (za (zm G_tree_need hr rfl T.d_tree_need (za (edv 2) (za (edv 3) (za (edv 4) zc)))) (za (wK (zP (zbd rfl) zeK rfl T.z_sum zgp (za (edv 5) zc)) (ze zd)) zc))))) (zi (zB (ZZ Yw))) zK)))))))
  (zh (yE (m:=false) (i:=6) Xu.nd rfl (Or.inl rfl) (zL (vT (xE (za (ze zd) (za (ze zd) (za (Vp (ze zd)) (za (ZZ Yw) (za (W5 Vd) (za (zkR zl7) (za (vT (xE (za (ze zd) zc))) (za (zlQ (ze zd) (ze zd)) zc)))))))))) (ZA (zm G__law_stir hr rfl T.d__law_stir (za (edv 1) (za (ze zd) zc))) (ze zd)) (λ_ _=>rfl)))
  (zh (yE (m:=false) (i:=7) Xu.nd rfl (Or.inl rfl) (wR (za (wK (zL (edv 2) (ze zd) (λ_ _=>rfl)) (ze zd)) (za (zL (edv 2) (ze zd) (λ_ _=>rfl)) zc))))
  (zi (xD (yj zlI xS (zH _) (zL (edv 2) (ze zd) (λ_ _=>rfl)) (ze zd)) (zi (Yh i5 rfl rfl T.z_range (za (ze zd) zc) (zW (zF (i:=8) Xu.nd rfl (Or.inl rfl))) (zh (xD (zjI (zeb (yj VJ Xe (zH _) (zm G__law_came hr rfl T.d__law_came (za (edv 8) (za (edv 2) (za (ze zd) (za (edv 6) zc))))) (ze zd)) (VZ (yj VJ Xe (zH _) (zm G__law_came hr rfl T.d__law_came (za (edv 8) (za (edv 7) (za (ze zd) (za (edv 6) zc))))) (ze zd))))) (zi (zB (ZZ Yw))) zK)
  (zi (xD (yj VJ Xe (zH _) (zm G__law_came hr rfl T.d__law_came (za (edv 8) (za (edv 7) (za (ze zd) (za (ze zd) zc))))) (ze zd)) (zi (zB (ZZ Yw))) zK))))) zK)))))))
  (zi (zB (YX (ZF (w6 hr) xc (zH _) (zm G_tree_need hr rfl T.d_tree_need (za (wR (za (ze zd) (za (wR zc) zc))) (za (ze zd) (za (ze zd) zc)))) (ze zd)) (ZB (ZF (w6 hr) xc (zH _) (zm G_tree_worst hr rfl T.d_tree_worst (za (wR (za (ze zd) (za (wR zc) zc))) (za (ze zd) (za (ze zd) zc)))) (wR (za (ze zd) zc))))))))
end
theorem zmS {us:List Value}(h:us.length=1):∃ x0,us=[x0]:=by
 cases us with
 | nil=>cases h
 | cons x0 us =>
  cases us with
  | nil=>exact⟨x0,rfl⟩
  | cons _ _=>cases h
theorem znz {us:List Value}(h:us.length=2):∃ x0 x1,us=[x0,x1]:=by
 cases us with
 | nil=>cases h
 | cons x0 us =>
  cases us with
  | nil=>cases h
  | cons x1 us =>
   cases us with
   | nil=>exact⟨x0,x1,rfl⟩
   | cons _ _=>cases h
theorem zm8 {us:List Value}(h:us.length=3):∃ x0 x1 x2,us=[x0,x1,x2]:=by
 cases us with
 | nil=>cases h
 | cons x0 us =>
  cases us with
  | nil=>cases h
  | cons x1 us =>
   cases us with
   | nil=>cases h
   | cons x2 us =>
    cases us with
    | nil=>exact⟨x0,x1,x2,rfl⟩
    | cons _ _=>cases h
theorem znu {us:List Value}(h:us.length=4):∃ x0 x1 x2 x3,us=[x0,x1,x2,x3]:=by
 cases us with
 | nil=>cases h
 | cons x0 us =>
  cases us with
  | nil=>cases h
  | cons x1 us =>
   cases us with
   | nil=>cases h
   | cons x2 us =>
    cases us with
    | nil=>cases h
    | cons x3 us =>
     cases us with
     | nil=>exact⟨x0,x1,x2,x3,rfl⟩
     | cons _ _=>cases h
abbrev Lk (x:Str)(st:Stmt)(oc:Value)(od:Option Addr)(kV dc pm:Value)(an:Option Addr)(cd ct:Value)(sl:Array (Option Value)):Option Obj:=some ⟨oc,od,.func (W.fnOf x x (ZO st) (xn st) (zk st) .none kV dc pm an cd ct),sl⟩
theorem mkD {K:W.Frag}{h:Heap}{mg:Str->Option Value}{x:Str}{st:Stmt}{ps:List Str}{f:Addr}{oc kV dc pm cd ct:Value}{od an:Option Addr}{sl:Array (Option Value)}(X:K.In h)(G:h.Ns mainGlobals mg)(a:W.nsIn K mainGlobals x=some (some (.ref f)))(l:K.lookup f=Lk x st oc od kV dc pm an cd ct sl)(c:W.codeIn K cd x=true)(k:W.keepIn K (.ref f)=true)
 (b:∀ (kV doc pm:Value) (an:Option Addr) (cdv ct:Value) (us:List Value),us.length=ps.length->bindArgs (W.fnOf x x (ZO st) (xn st) (zk st) .none kV doc pm an cdv ct) ⟨us,[]⟩=pure (ps.zip us)):Def K mg x st ps f (W.fnOf x x (ZO st) (xn st) (zk st) .none kV dc pm an cd ct):=⟨zi3 l c k,(zi3 l c k).binds b,u0o X G a⟩
theorem bn1 {F:Value->Value->Value->Option Addr->Value->Value->List Value->Prop}(h:∀ a b c d e f x0,F a b c d e f [x0]):∀ a b c d e f us,us.length=1->F a b c d e f us:=λa b c d e f us hl=>by obtain⟨x0,rfl⟩:=zmS hl;exact h a b c d e f x0
theorem bn2 {F:Value->Value->Value->Option Addr->Value->Value->List Value->Prop}(h:∀ a b c d e f x0 x1,F a b c d e f [x0,x1]):∀ a b c d e f us,us.length=2->F a b c d e f us:=λa b c d e f us hl=>by obtain⟨x0,x1,rfl⟩:=znz hl;exact h a b c d e f x0 x1
theorem bn3 {F:Value->Value->Value->Option Addr->Value->Value->List Value->Prop}(h:∀ a b c d e f x0 x1 x2,F a b c d e f [x0,x1,x2]):∀ a b c d e f us,us.length=3->F a b c d e f us:=λa b c d e f us hl=>by obtain⟨x0,x1,x2,rfl⟩:=zm8 hl;exact h a b c d e f x0 x1 x2
theorem bn4 {F:Value->Value->Value->Option Addr->Value->Value->List Value->Prop}(h:∀ a b c d e f x0 x1 x2 x3,F a b c d e f [x0,x1,x2,x3]):∀ a b c d e f us,us.length=4->F a b c d e f us:=λa b c d e f us hl=>by obtain⟨x0,x1,x2,x3,rfl⟩:=znu hl;exact h a b c d e f x0 x1 x2 x3
theorem all_mk {l:W.OpenLaw} {w:World} {K:W.Frag} {h:Heap} {mg:Str->Option Value} {fa f0 f1 f2 f3 f4 f5 f6 f7 f8 f9 f10 f11 f12 f13 f14 f15 f16 f17 f18 f19 f20 f21 f22 f23 f24 f25 f26 f27 f28 f29 f30 f31 f32 f33 f34:Addr} (X:K.In h) (G:h.Ns mainGlobals mg) (hfa:mg "law"=some (.ref fa))
 {od0 an0 od1 an1 od2 an2 od3 an3 od4 an4 od5 an5 od6 an6 od7 an7 od8 an8 od9 an9 od10 an10 od11 an11 od12 an12 od13 an13 od14 an14 od15 an15 od16 an16 od17 an17 od18 an18 od19 an19 od20 an20 od21 an21 od22 an22 od23 an23 od24 an24 od25 an25 od26 an26 od27 an27 od28 an28 od29 an29 od30 an30 od31 an31 od32 an32 od33 an33 od34 an34:Option Addr} {sl0 sl1 sl2 sl3 sl4 sl5 sl6 sl7 sl8 sl9 sl10 sl11 sl12 sl13 sl14 sl15 sl16 sl17 sl18 sl19 sl20 sl21 sl22 sl23 sl24 sl25 sl26 sl27 sl28 sl29 sl30 sl31 sl32 sl33 sl34:Array (Option Value)} {oc0 kV0 dc0 pm0 ct0 cd0 oc1 kV1 dc1 pm1 ct1 cd1 oc2 kV2 dc2 pm2 ct2 cd2 oc3 kV3 dc3 pm3 ct3 cd3 oc4 kV4 dc4 pm4 ct4 cd4 oc5 kV5 dc5 pm5 ct5 cd5 oc6 kV6 dc6 pm6 ct6 cd6 oc7 kV7 dc7 pm7 ct7 cd7 oc8 kV8 dc8 pm8 ct8 cd8 oc9 kV9 dc9 pm9 ct9 cd9 oc10 kV10 dc10 pm10 ct10 cd10 oc11 kV11 dc11 pm11 ct11 cd11 oc12 kV12 dc12 pm12 ct12 cd12 oc13 kV13 dc13 pm13 ct13 cd13 oc14 kV14 dc14 pm14 ct14 cd14 oc15 kV15 dc15 pm15 ct15 cd15 oc16 kV16 dc16 pm16 ct16 cd16 oc17 kV17 dc17 pm17 ct17 cd17 oc18 kV18 dc18 pm18 ct18 cd18 oc19 kV19 dc19 pm19 ct19 oc20 kV20 dc20 pm20 ct20 cd20 oc21 kV21 dc21 pm21 ct21 oc22 kV22 dc22 pm22 ct22 cd22 oc23 kV23 dc23 pm23 ct23 cd23 oc24 kV24 dc24 pm24 ct24 cd24 oc25 kV25 dc25 pm25 ct25 cd25 oc26 kV26 dc26 pm26 ct26 cd26 oc27 kV27 dc27 pm27 ct27 cd27 oc28 kV28 dc28 pm28 ct28 cd28 oc29 kV29 dc29 pm29 ct29 cd29 oc30 kV30 dc30 pm30 ct30 cd30 oc31 kV31 dc31 pm31 ct31 cd31 oc32 kV32 dc32 pm32 ct32 cd32 oc33 kV33 dc33 pm33 ct33 cd33 oc34 kV34 dc34 pm34 ct34 cd34:Value} {tk0:Tok}
 {cc0 pp0 cc1 pp1:Addr}
 (a0:W.nsIn K mainGlobals "is_whole"=some (some (.ref f0))) (l0:K.lookup f0=Lk "is_whole" Z6 oc0 od0 kV0 dc0 pm0 an0 cd0 ct0 sl0) (c0:W.codeIn K cd0 "is_whole"=true) (k0:W.keepIn K (.ref f0)=true)
 (a1:W.nsIn K mainGlobals "is_whole_within"=some (some (.ref f1))) (l1:K.lookup f1=Lk "is_whole_within" xo oc1 od1 kV1 dc1 pm1 an1 cd1 ct1 sl1) (c1:W.codeIn K cd1 "is_whole_within"=true) (k1:W.keepIn K (.ref f1)=true)
 (a2:W.nsIn K mainGlobals "must_be_within"=some (some (.ref f2))) (l2:K.lookup f2=Lk "must_be_within" xG oc2 od2 kV2 dc2 pm2 an2 cd2 ct2 sl2) (c2:W.codeIn K cd2 "must_be_within"=true) (k2:W.keepIn K (.ref f2)=true)
 (a3:W.nsIn K mainGlobals "is_place_count"=some (some (.ref f3))) (l3:K.lookup f3=Lk "is_place_count" xI oc3 od3 kV3 dc3 pm3 an3 cd3 ct3 sl3) (c3:W.codeIn K cd3 "is_place_count"=true) (k3:W.keepIn K (.ref f3)=true)
 (a4:W.nsIn K mainGlobals "is_place"=some (some (.ref f4))) (l4:K.lookup f4=Lk "is_place" Z0 oc4 od4 kV4 dc4 pm4 an4 cd4 ct4 sl4) (c4:W.codeIn K cd4 "is_place"=true) (k4:W.keepIn K (.ref f4)=true)
 (a5:W.nsIn K mainGlobals "doubled"=some (some (.ref f5))) (l5:K.lookup f5=Lk "doubled" XH oc5 od5 kV5 dc5 pm5 an5 cd5 ct5 sl5) (c5:W.codeIn K cd5 "doubled"=true) (k5:W.keepIn K (.ref f5)=true)
 (a6:W.nsIn K mainGlobals "is_pair"=some (some (.ref f6))) (l6:K.lookup f6=Lk "is_pair" XR oc6 od6 kV6 dc6 pm6 an6 cd6 ct6 sl6) (c6:W.codeIn K cd6 "is_pair"=true) (k6:W.keepIn K (.ref f6)=true)
 (a7:W.nsIn K mainGlobals "are_ties"=some (some (.ref f7))) (l7:K.lookup f7=Lk "are_ties" Z5 oc7 od7 kV7 dc7 pm7 an7 cd7 ct7 sl7) (c7:W.codeIn K cd7 "are_ties"=true) (k7:W.keepIn K (.ref f7)=true)
 (a8:W.nsIn K mainGlobals "is_web"=some (some (.ref f8))) (l8:K.lookup f8=Lk "is_web" Vj oc8 od8 kV8 dc8 pm8 an8 cd8 ct8 sl8) (c8:W.codeIn K cd8 "is_web"=true) (k8:W.keepIn K (.ref f8)=true)
 (a9:W.nsIn K mainGlobals "must_be_web"=some (some (.ref f9))) (l9:K.lookup f9=Lk "must_be_web" vL oc9 od9 kV9 dc9 pm9 an9 cd9 ct9 sl9) (c9:W.codeIn K cd9 "must_be_web"=true) (k9:W.keepIn K (.ref f9)=true)
 (a10:W.nsIn K mainGlobals "must_be_place"=some (some (.ref f10))) (l10:K.lookup f10=Lk "must_be_place" wa oc10 od10 kV10 dc10 pm10 an10 cd10 ct10 sl10) (c10:W.codeIn K cd10 "must_be_place"=true) (k10:W.keepIn K (.ref f10)=true)
 (a11:W.nsIn K mainGlobals "tie_between"=some (some (.ref f11))) (l11:K.lookup f11=Lk "tie_between" vF oc11 od11 kV11 dc11 pm11 an11 cd11 ct11 sl11) (c11:W.codeIn K cd11 "tie_between"=true) (k11:W.keepIn K (.ref f11)=true)
 (a12:W.nsIn K mainGlobals "neighbours"=some (some (.ref f12))) (l12:K.lookup f12=Lk "neighbours" v7 oc12 od12 kV12 dc12 pm12 an12 cd12 ct12 sl12) (c12:W.codeIn K cd12 "neighbours"=true) (k12:W.keepIn K (.ref f12)=true)
 (a13:W.nsIn K mainGlobals "ties_away"=some (some (.ref f13))) (l13:K.lookup f13=Lk "ties_away" YU oc13 od13 kV13 dc13 pm13 an13 cd13 ct13 sl13) (c13:W.codeIn K cd13 "ties_away"=true) (k13:W.keepIn K (.ref f13)=true)
 (a14:W.nsIn K mainGlobals "pieces"=some (some (.ref f14))) (l14:K.lookup f14=Lk "pieces" WG oc14 od14 kV14 dc14 pm14 an14 cd14 ct14 sl14) (c14:W.codeIn K cd14 "pieces"=true) (k14:W.keepIn K (.ref f14)=true)
 (a15:W.nsIn K mainGlobals "is_joined"=some (some (.ref f15))) (l15:K.lookup f15=Lk "is_joined" YE oc15 od15 kV15 dc15 pm15 an15 cd15 ct15 sl15) (c15:W.codeIn K cd15 "is_joined"=true) (k15:W.keepIn K (.ref f15)=true)
 (a16:W.nsIn K mainGlobals "is_tree"=some (some (.ref f16))) (l16:K.lookup f16=Lk "is_tree" XQ oc16 od16 kV16 dc16 pm16 an16 cd16 ct16 sl16) (c16:W.codeIn K cd16 "is_tree"=true) (k16:W.keepIn K (.ref f16)=true)
 (a17:W.nsIn K mainGlobals "must_be_tree"=some (some (.ref f17))) (l17:K.lookup f17=Lk "must_be_tree" wJ oc17 od17 kV17 dc17 pm17 an17 cd17 ct17 sl17) (c17:W.codeIn K cd17 "must_be_tree"=true) (k17:W.keepIn K (.ref f17)=true)
 (a18:W.nsIn K mainGlobals "outer_neighbours"=some (some (.ref f18))) (l18:K.lookup f18=Lk "outer_neighbours" xf oc18 od18 kV18 dc18 pm18 an18 cd18 ct18 sl18) (c18:W.codeIn K cd18 "outer_neighbours"=true) (k18:W.keepIn K (.ref f18)=true)
 (a19:W.nsIn K mainGlobals "outwards"=some (some (.ref f19))) (l19:K.lookup f19=Lk "outwards" ZN oc19 od19 kV19 dc19 pm19 an19 (.ref cc0) ct19 sl19) (c19:W.codeIn K (.ref cc0) "outwards"=true) (k19:W.keepIn K (.ref f19)=true)
 (a20:W.nsIn K mainGlobals "heights_from"=some (some (.ref f20))) (l20:K.lookup f20=Lk "heights_from" wS oc20 od20 kV20 dc20 pm20 an20 cd20 ct20 sl20) (c20:W.codeIn K cd20 "heights_from"=true) (k20:W.keepIn K (.ref f20)=true)
 (a21:W.nsIn K mainGlobals "ways_from"=some (some (.ref f21))) (l21:K.lookup f21=Lk "ways_from" YT oc21 od21 kV21 dc21 pm21 an21 (.ref cc1) ct21 sl21) (c21:W.codeIn K (.ref cc1) "ways_from"=true) (k21:W.keepIn K (.ref f21)=true)
 (a22:W.nsIn K mainGlobals "way_through"=some (some (.ref f22))) (l22:K.lookup f22=Lk "way_through" vG oc22 od22 kV22 dc22 pm22 an22 cd22 ct22 sl22) (c22:W.codeIn K cd22 "way_through"=true) (k22:W.keepIn K (.ref f22)=true)
 (a23:W.nsIn K mainGlobals "ways"=some (some (.ref f23))) (l23:K.lookup f23=Lk "ways" zct oc23 od23 kV23 dc23 pm23 an23 cd23 ct23 sl23) (c23:W.codeIn K cd23 "ways"=true) (k23:W.keepIn K (.ref f23)=true)
 (a24:W.nsIn K mainGlobals "worst_from"=some (some (.ref f24))) (l24:K.lookup f24=Lk "worst_from" Yk oc24 od24 kV24 dc24 pm24 an24 cd24 ct24 sl24) (c24:W.codeIn K cd24 "worst_from"=true) (k24:W.keepIn K (.ref f24)=true)
 (a25:W.nsIn K mainGlobals "tree_need"=some (some (.ref f25))) (l25:K.lookup f25=Lk "tree_need" YN oc25 od25 kV25 dc25 pm25 an25 cd25 ct25 sl25) (c25:W.codeIn K cd25 "tree_need"=true) (k25:W.keepIn K (.ref f25)=true)
 (a26:W.nsIn K mainGlobals "tree_worst"=some (some (.ref f26))) (l26:K.lookup f26=Lk "tree_worst" Yi oc26 od26 kV26 dc26 pm26 an26 cd26 ct26 sl26) (c26:W.codeIn K cd26 "tree_worst"=true) (k26:W.keepIn K (.ref f26)=true)
 (a27:W.nsIn K mainGlobals "_law_cell_at"=some (some (.ref f27))) (l27:K.lookup f27=Lk "_law_cell_at" wG oc27 od27 kV27 dc27 pm27 an27 cd27 ct27 sl27) (c27:W.codeIn K cd27 "_law_cell_at"=true) (k27:W.keepIn K (.ref f27)=true)
 (a28:W.nsIn K mainGlobals "_law_same"=some (some (.ref f28))) (l28:K.lookup f28=Lk "_law_same" YC oc28 od28 kV28 dc28 pm28 an28 cd28 ct28 sl28) (c28:W.codeIn K cd28 "_law_same"=true) (k28:W.keepIn K (.ref f28)=true)
 (a29:W.nsIn K mainGlobals "_law_stir"=some (some (.ref f29))) (l29:K.lookup f29=Lk "_law_stir" YS oc29 od29 kV29 dc29 pm29 an29 cd29 ct29 sl29) (c29:W.codeIn K cd29 "_law_stir"=true) (k29:W.keepIn K (.ref f29)=true)
 (a30:W.nsIn K mainGlobals "_law_tree_by"=some (some (.ref f30))) (l30:K.lookup f30=Lk "_law_tree_by" wX oc30 od30 kV30 dc30 pm30 an30 cd30 ct30 sl30) (c30:W.codeIn K cd30 "_law_tree_by"=true) (k30:W.keepIn K (.ref f30)=true)
 (a31:W.nsIn K mainGlobals "_law_kinds"=some (some (.ref f31))) (l31:K.lookup f31=Lk "_law_kinds" v4 oc31 od31 kV31 dc31 pm31 an31 cd31 ct31 sl31) (c31:W.codeIn K cd31 "_law_kinds"=true) (k31:W.keepIn K (.ref f31)=true)
 (a32:W.nsIn K mainGlobals "_law_worst"=some (some (.ref f32))) (l32:K.lookup f32=Lk "_law_worst" Yb oc32 od32 kV32 dc32 pm32 an32 cd32 ct32 sl32) (c32:W.codeIn K cd32 "_law_worst"=true) (k32:W.keepIn K (.ref f32)=true)
 (a33:W.nsIn K mainGlobals "_law_came"=some (some (.ref f33))) (l33:K.lookup f33=Lk "_law_came" YY oc33 od33 kV33 dc33 pm33 an33 cd33 ct33 sl33) (c33:W.codeIn K cd33 "_law_came"=true) (k33:W.keepIn K (.ref f33)=true)
 (a34:W.nsIn K mainGlobals "law"=some (some (.ref f34))) (l34:K.lookup f34=Lk "law" zgy oc34 od34 kV34 dc34 pm34 an34 cd34 ct34 sl34) (c34:W.codeIn K cd34 "law"=true) (k34:W.keepIn K (.ref f34)=true)
 (gg0:W.nsIn K mainGlobals "MOST_PLACES"=some (some (.int 8 tk0)))
 {xx0 xx1 xx2 xx3 xx4 xx5 xx6 xx7 xx8 xx9 xx10 xx11 xx12 xx13:Addr}
 (xa0:W.nsIn K mainGlobals "NoKind"=some (some (.ref xx0)))
 (xa1:W.nsIn K mainGlobals "NoHeap"=some (some (.ref xx1)))
 (xa2:W.nsIn K mainGlobals "NoPlace"=some (some (.ref xx2)))
 (xa3:W.nsIn K mainGlobals "NoNumber"=some (some (.ref xx3)))
 (xa4:W.nsIn K mainGlobals "NoTally"=some (some (.ref xx4)))
 (xa5:W.nsIn K mainGlobals "NotTree"=some (some (.ref xx5)))
 (xa6:W.nsIn K mainGlobals "NotJoined"=some (some (.ref xx6)))
 (xa7:W.nsIn K mainGlobals "NoWeights"=some (some (.ref xx7)))
 (xa8:W.nsIn K mainGlobals "NoRow"=some (some (.ref xx8)))
 (xa9:W.nsIn K mainGlobals "NoWeb"=some (some (.ref xx9)))
 (xa10:W.nsIn K mainGlobals "NoSteps"=some (some (.ref xx10)))
 (xa11:W.nsIn K mainGlobals "NoText"=some (some (.ref xx11)))
 (xa12:W.nsIn K mainGlobals "TooGreat"=some (some (.ref xx12)))
 (xa13:W.nsIn K mainGlobals "StoneError"=some (some (.ref xx13)))
 (xc2:Wg K [xx0,xx1,xx2,xx3,xx4,xx5,xx6,xx7,xx8,xx9,xx10,xx11,xx12] xx13 xx2 2=true)
 (xb2:W.excIn K xx2 bmV "ValueError.__new__"=true)
 (xc3:Wg K [xx0,xx1,xx2,xx3,xx4,xx5,xx6,xx7,xx8,xx9,xx10,xx11,xx12] xx13 xx3 3=true)
 (xb3:W.excIn K xx3 bmV "ValueError.__new__"=true)
 (xc5:Wg K [xx0,xx1,xx2,xx3,xx4,xx5,xx6,xx7,xx8,xx9,xx10,xx11,xx12] xx13 xx5 5=true)
 (xb5:W.excIn K xx5 bmV "ValueError.__new__"=true)
 (z0:W.nsIn K mainGlobals "ValueError"=some none)
 (z1:W.nsIn K mainGlobals "bool"=some none)
 (z2:W.nsIn K mainGlobals "enumerate"=some none)
 (z3:W.nsIn K mainGlobals "int"=some none)
 (z4:W.nsIn K mainGlobals "isinstance"=some none)
 (z5:W.nsIn K mainGlobals "len"=some none)
 (z6:W.nsIn K mainGlobals "list"=some none)
 (z7:W.nsIn K mainGlobals "max"=some none)
 (z8:W.nsIn K mainGlobals "min"=some none)
 (z9:W.nsIn K mainGlobals "range"=some none)
 (z10:W.nsIn K mainGlobals "reversed"=some none)
 (z11:W.nsIn K mainGlobals "sorted"=some none)
 (z12:W.nsIn K mainGlobals "str"=some none)
 (z13:W.nsIn K mainGlobals "sum"=some none)
 (z14:W.nsIn K mainGlobals "tuple"=some none)
 (z15:W.nsIn K mainGlobals "zip"=some none)
 : ∃ fd:FuncData,(∀ (s:Shared) (v:Value),BindsTo s fd ⟨[v],[]⟩ [("script",v)])/\∀ base:Heap,K.In base->base.Ns mainGlobals mg->(∀ t∈([(cc0,pp0,"outwards.<locals>.<lambda>"),(cc1,pp1,"ways_from.<locals>.<lambda>")]:TL),Xb base mg t.1 t.2.1 t.2.2)->yU l.prog w K mg base CX0 30 fa fd ["script"] (zfE K):=by
 have e:=hfa.symm.trans (u0o X G a34)
 cases e
 have T:∀ base:Heap,(∀ t∈([(cc0,pp0,"outwards.<locals>.<lambda>"),(cc1,pp1,"ways_from.<locals>.<lambda>")]:TL),Xb base mg t.1 t.2.1 t.2.2)->Txt K mg base ⟨_,_,_,_,_,_,_,_,_,_,_,_,_,_,_,_,_,_,_,_,_,_,_,_,_,_,_,_,_,_,_,_,_,_,_,_,_,_,_,_,_,_,_,_,_,_,_,_,_,_,_,_,_,_,_,_,_,_,_,_,_,_,_,_,_,_,_,_,_,_,tk0,xx0,xx1,xx2,xx3,xx4,xx5,xx6,xx7,xx8,xx9,xx10,xx11,xx12,xx13,cc0,pp0,cc1,pp1⟩:=λbase hL=>⟨
  mkD X G a0 l0 c0 k0 (bn1 λ_ _ _ _ _ _ _=>rfl),
  mkD X G a1 l1 c1 k1 (bn3 λ_ _ _ _ _ _ _ _ _=>rfl),
  mkD X G a2 l2 c2 k2 (bn3 λ_ _ _ _ _ _ _ _ _=>rfl),
  mkD X G a3 l3 c3 k3 (bn1 λ_ _ _ _ _ _ _=>rfl),
  mkD X G a4 l4 c4 k4 (bn2 λ_ _ _ _ _ _ _ _=>rfl),
  mkD X G a5 l5 c5 k5 (bn2 λ_ _ _ _ _ _ _ _=>rfl),
  mkD X G a6 l6 c6 k6 (bn2 λ_ _ _ _ _ _ _ _=>rfl),
  mkD X G a7 l7 c7 k7 (bn2 λ_ _ _ _ _ _ _ _=>rfl),
  mkD X G a8 l8 c8 k8 (bn1 λ_ _ _ _ _ _ _=>rfl),
  mkD X G a9 l9 c9 k9 (bn1 λ_ _ _ _ _ _ _=>rfl),
  mkD X G a10 l10 c10 k10 (bn2 λ_ _ _ _ _ _ _ _=>rfl),
  mkD X G a11 l11 c11 k11 (bn2 λ_ _ _ _ _ _ _ _=>rfl),
  mkD X G a12 l12 c12 k12 (bn2 λ_ _ _ _ _ _ _ _=>rfl),
  mkD X G a13 l13 c13 k13 (bn2 λ_ _ _ _ _ _ _ _=>rfl),
  mkD X G a14 l14 c14 k14 (bn1 λ_ _ _ _ _ _ _=>rfl),
  mkD X G a15 l15 c15 k15 (bn1 λ_ _ _ _ _ _ _=>rfl),
  mkD X G a16 l16 c16 k16 (bn1 λ_ _ _ _ _ _ _=>rfl),
  mkD X G a17 l17 c17 k17 (bn1 λ_ _ _ _ _ _ _=>rfl),
  mkD X G a18 l18 c18 k18 (bn2 λ_ _ _ _ _ _ _ _=>rfl),
  mkD X G a19 l19 c19 k19 (bn2 λ_ _ _ _ _ _ _ _=>rfl),
  mkD X G a20 l20 c20 k20 (bn2 λ_ _ _ _ _ _ _ _=>rfl),
  mkD X G a21 l21 c21 k21 (bn2 λ_ _ _ _ _ _ _ _=>rfl),
  mkD X G a22 l22 c22 k22 (bn2 λ_ _ _ _ _ _ _ _=>rfl),
  mkD X G a23 l23 c23 k23 (bn2 λ_ _ _ _ _ _ _ _=>rfl),
  mkD X G a24 l24 c24 k24 (bn3 λ_ _ _ _ _ _ _ _ _=>rfl),
  mkD X G a25 l25 c25 k25 (bn3 λ_ _ _ _ _ _ _ _ _=>rfl),
  mkD X G a26 l26 c26 k26 (bn3 λ_ _ _ _ _ _ _ _ _=>rfl),
  mkD X G a27 l27 c27 k27 (bn2 λ_ _ _ _ _ _ _ _=>rfl),
  mkD X G a28 l28 c28 k28 (bn2 λ_ _ _ _ _ _ _ _=>rfl),
  mkD X G a29 l29 c29 k29 (bn2 λ_ _ _ _ _ _ _ _=>rfl),
  mkD X G a30 l30 c30 k30 (bn2 λ_ _ _ _ _ _ _ _=>rfl),
  mkD X G a31 l31 c31 k31 (bn1 λ_ _ _ _ _ _ _=>rfl),
  mkD X G a32 l32 c32 k32 (bn3 λ_ _ _ _ _ _ _ _ _=>rfl),
  mkD X G a33 l33 c33 k33 (bn4 λ_ _ _ _ _ _ _ _ _ _=>rfl),
  mkD X G a34 l34 c34 k34 (bn1 λ_ _ _ _ _ _ _=>rfl),
  u0o X G gg0,
  i6 X G z0,
  i6 X G z1,
  i6 X G z2,
  i6 X G z3,
  i6 X G z4,
  i6 X G z5,
  i6 X G z6,
  i6 X G z7,
  i6 X G z8,
  i6 X G z9,
  i6 X G z10,
  i6 X G z11,
  i6 X G z12,
  i6 X G z13,
  i6 X G z14,
  i6 X G z15,
  u0o X G xa0,
  u0o X G xa1,
  u0o X G xa2,
  u0o X G xa3,
  u0o X G xa4,
  u0o X G xa5,
  u0o X G xa6,
  u0o X G xa7,
  u0o X G xa8,
  u0o X G xa9,
  u0o X G xa10,
  u0o X G xa11,
  u0o X G xa12,
  u0o X G xa13,
  xb2,
  xb3,
  xb5,
  xc2,
  xc3,
  xc5,
  rfl,
  hL _ (.head _),
  rfl,
  hL _ (.tail _ (.head _))⟩
 exact⟨_,λs v=>.of_eq rfl,λbase _ _ hL=>zkK (T base hL)⟩
theorem walk {l:W.OpenLaw}{q:Program}{loose:List Str}{XP:(Str->Option Value)->Heap->Prop}{YP:World->Heap->Prop}{d:DefRec}{K:Params->W.Frag}{cc0 pp0 cc1 pp1:Addr}{dd0 dd1:DefRec}(hn:l.most=some 63)(hdf:d.params.defaults=[])
 (hY:∀ (w:World) (h:Heap),YP w h->(K w.params).In h)
 (ht0:∀ w:World,W.tabIn (K w.params) "outwards"=some (cc0,pp0)) (hr0:(PyProof.Rows.recsOf q).find? (λe:DefRec=>e.name == ("outwards":Str))=some dd0)
 (ht1:∀ w:World,W.tabIn (K w.params) "ways_from"=some (cc1,pp1)) (hr1:(PyProof.Rows.recsOf q).find? (λe:DefRec=>e.name == ("ways_from":Str))=some dd1)
 (hq:([(cc0,pp0,"outwards.<locals>.<lambda>"),(cc1,pp1,"ways_from.<locals>.<lambda>")]:TL).all (λt=>(yI ([(cc0,pp0,"outwards.<locals>.<lambda>"),(cc1,pp1,"ways_from.<locals>.<lambda>")]:TL)).lookup t.2.1 == some t.2.2)=true) (hnK:∀ w:World,W.noTabs (K w.params)=true)
 (F:∀ (w:World) (mg:Str->Option Value) (fa:Addr) (h:Heap),(K w.params).In h->h.Ns mainGlobals mg->mg d.name=some (.ref fa) ->
  ∃ fd:FuncData,(∀ (s:Shared) (u:Value),BindsTo s fd ⟨[u],[]⟩ [("script",u)])/\∀ base:Heap,(K w.params).In base->base.Ns mainGlobals mg->(∀ t∈([(cc0,pp0,"outwards.<locals>.<lambda>"),(cc1,pp1,"ways_from.<locals>.<lambda>")]:TL),Xb base mg t.1 t.2.1 t.2.2)->yU l.prog w (K w.params) mg base CX0 30 fa fd ["script"] (zfE (K w.params))) :
 PySem.W.WalkO q loose XP YP l.row.toRowW d [] (λf vs=>PySem.call f vs) :=
 L2.walk_ofL (tl:=([(cc0,pp0,"outwards.<locals>.<lambda>"),(cc1,pp1,"ways_from.<locals>.<lambda>")]:TL)) (n:=63) (k:=30) (x:="script") (CX:=λ_=>CX0) (sp:=λw=>zfE (K w.params)) hn (by decide) hdf ⟨rfl,by decide,by decide⟩ hY hq hnK
  (λw _ mg mb h X T=>List.forall_mem_cons.mpr ⟨W.tab_of T X hr0 (ht0 w),List.forall_mem_cons.mpr ⟨W.tab_of T X hr1 (ht1 w),λ_ h=>nomatch h⟩⟩) F (λ_ _ a ns hl hS=>⟨a,ns,rfl,hS,hl,λ_=>rfl⟩) λ_ _ _ _ _ z=>z
end Mz
open PySem PySem.W PyProof.Rows
theorem PySem.W.Fast.tw8098031614814042639:True:=⟨⟩
theorem PySem.W.Fast.tw13457300419221030714:True:=⟨⟩
theorem PySem.W.Fast.tw12212817122099546100:True:=⟨⟩
theorem PySem.W.Fast.tw2729065007703083334:True:=⟨⟩
theorem PySem.W.Fast.tw4975982373196369227:True:=⟨⟩
theorem PySem.W.Fast.tw6137142223267413672:True:=⟨⟩
theorem PySem.W.Fast.tw11510563257144317893:True:=⟨⟩
theorem PySem.W.Fast.tw10564395455589133319:True:=⟨⟩
theorem PySem.W.Fast.tw10214574905358499966:True:=⟨⟩
theorem PySem.W.Fast.tw7076856082852313868:True:=⟨⟩
theorem PySem.W.Fast.tw14826580496786202655:True:=⟨⟩
theorem PySem.W.Fast.tw7279030987184382659:True:=⟨⟩
theorem PySem.W.Fast.tw15884384749326793545:True:=⟨⟩
theorem PySem.W.Fast.tw16737396611322374722:True:=⟨⟩
theorem PySem.W.Fast.tw17076918919852257877:True:=⟨⟩
theorem PySem.W.Fast.tw18281745492649226758:True:=⟨⟩
theorem PySem.W.Fast.tw3569896150973981127:True:=⟨⟩
theorem PySem.W.Fast.tw10990451114215536111:True:=⟨⟩
theorem PySem.W.Fast.tw1537476029902505328:True:=⟨⟩
theorem PySem.W.Fast.tw2393137655360299820:True:=⟨⟩
theorem PySem.W.Fast.tw15917744732713198840:True:=⟨⟩
theorem PySem.W.Fast.tw10722172121153332230:True:=⟨⟩
theorem PySem.W.Fast.tw15707724026129291084:True:=⟨⟩
theorem PySem.W.Fast.tw6397565728204489518:True:=⟨⟩
theorem PySem.W.Fast.tw12268009231255988692:True:=⟨⟩
theorem PySem.W.Fast.tw6631802177179689052:True:=⟨⟩
theorem PySem.W.Fast.tw13367825382529580571:True:=⟨⟩
theorem PySem.W.Fast.tw10504664060571225496:True:=⟨⟩
theorem PySem.W.Fast.tw3954162837824052743:True:=⟨⟩
theorem PySem.W.Fast.tw12016057036857432909:True:=⟨⟩
theorem PySem.W.Fast.tw16856050290840185829:True:=⟨⟩
theorem PySem.W.Fast.tw5753854422023325517:True:=⟨⟩
theorem PySem.W.Fast.tw10069098799572784537:True:=⟨⟩
theorem PySem.W.Fast.tw18429409941841774967:True:=⟨⟩
theorem PySem.W.Fast.tw8782393039939213958:True:=⟨⟩
theorem PySem.W.Fast.tw15203070870036690451:True:=⟨⟩
theorem PySem.W.Fast.tw6914728318951777364:True:=⟨⟩
theorem PySem.W.Fast.tw10392030280553789172:True:=⟨⟩
set_option maxRecDepth 100000 in
set_option maxHeartbeats 0 in
theorem PySem.Challenge.cw_twoforone_k32_stones_wanted_in_a_tree_holds : PySem.Challenge.rw_twoforone_k32_stones_wanted_in_a_tree.Holds := by
  w_on;o_law;k_head;(case hw=>w_witness2)
  k_fill
  refine Mz.walk (l:=PySem.Challenge.rw_twoforone_k32_stones_wanted_in_a_tree) (cc0:=?cc0) (pp0:=?pp0) (dd0:=?dd0) (cc1:=?cc1) (pp1:=?pp1) (dd1:=?dd1) rfl rfl (fun w h Y=>PySem.W.km_in_of Y) ?ht0 ?hr0 ?ht1 ?hr1 ?hq ?hnK ?F
  case ht0 =>
    intro w
    refine' L2.tab_mk ?ta ?tl ?tk ?tc ?tv
    case ta | tl=>k_is
    case tk=>rfl
    case tc=>k_is
    case tv=>rfl
  case ht1 =>
    intro w
    refine' L2.tab_mk ?ta ?tl ?tk ?tc ?tv
    case ta | tl=>k_is
    case tk=>rfl
    case tc=>k_is
    case tv=>rfl
  case hr0=>rfl
  case hr1=>rfl
  case hq=>kernel_rfl
  case hnK =>
    intro w
    kernel_rfl
  case F =>
    intro w mg fa h KX G hmg
    refine' Mz.all_mk KX G hmg ?a0 ?l0 ?c0 ?k0 ?a1 ?l1 ?c1 ?k1 ?a2 ?l2 ?c2 ?k2 ?a3 ?l3 ?c3 ?k3 ?a4 ?l4 ?c4 ?k4 ?a5 ?l5 ?c5 ?k5 ?a6 ?l6 ?c6 ?k6 ?a7 ?l7 ?c7 ?k7 ?a8 ?l8 ?c8 ?k8 ?a9 ?l9 ?c9 ?k9 ?a10 ?l10 ?c10 ?k10 ?a11 ?l11 ?c11 ?k11 ?a12 ?l12 ?c12 ?k12 ?a13 ?l13 ?c13 ?k13 ?a14 ?l14 ?c14 ?k14 ?a15 ?l15 ?c15 ?k15 ?a16 ?l16 ?c16 ?k16 ?a17 ?l17 ?c17 ?k17 ?a18 ?l18 ?c18 ?k18 ?a19 ?l19 ?c19 ?k19 ?a20 ?l20 ?c20 ?k20 ?a21 ?l21 ?c21 ?k21 ?a22 ?l22 ?c22 ?k22 ?a23 ?l23 ?c23 ?k23 ?a24 ?l24 ?c24 ?k24 ?a25 ?l25 ?c25 ?k25 ?a26 ?l26 ?c26 ?k26 ?a27 ?l27 ?c27 ?k27 ?a28 ?l28 ?c28 ?k28 ?a29 ?l29 ?c29 ?k29 ?a30 ?l30 ?c30 ?k30 ?a31 ?l31 ?c31 ?k31 ?a32 ?l32 ?c32 ?k32 ?a33 ?l33 ?c33 ?k33 ?a34 ?l34 ?c34 ?k34 ?gg0 ?xa0 ?xa1 ?xa2 ?xa3 ?xa4 ?xa5 ?xa6 ?xa7 ?xa8 ?xa9 ?xa10 ?xa11 ?xa12 ?xa13 ?xc2 ?xb2 ?xc3 ?xb3 ?xc5 ?xb5 ?z0 ?z1 ?z2 ?z3 ?z4 ?z5 ?z6 ?z7 ?z8 ?z9 ?z10 ?z11 ?z12 ?z13 ?z14 ?z15
    case a0 | l0 | c0 | k0 | a1 | l1 | c1 | k1 | a2 | l2 | c2 | k2 | a3 | l3 | c3 | k3 | a4 | l4 | c4 | k4 | a5 | l5 | c5 | k5 | a6 | l6 | c6 | k6 | a7 | l7 | c7 | k7 | a8 | l8 | c8 | k8 | a9 | l9 | c9 | k9 | a10 | l10 | c10 | k10 | a11 | l11 | c11 | k11 | a12 | l12 | c12 | k12 | a13 | l13 | c13 | k13 | a14 | l14 | c14 | k14 | a15 | l15 | c15 | k15 | a16 | l16 | c16 | k16 | a17 | l17 | c17 | k17 | a18 | l18 | c18 | k18 | a19 | l19 | c19 | k19 | a20 | l20 | c20 | k20 | a21 | l21 | c21 | k21 | a22 | l22 | c22 | k22 | a23 | l23 | c23 | k23 | a24 | l24 | c24 | k24 | a25 | l25 | c25 | k25 | a26 | l26 | c26 | k26 | a27 | l27 | c27 | k27 | a28 | l28 | c28 | k28 | a29 | l29 | c29 | k29 | a30 | l30 | c30 | k30 | a31 | l31 | c31 | k31 | a32 | l32 | c32 | k32 | a33 | l33 | c33 | k33 | a34 | l34 | c34 | k34 | gg0 | xa0 | xa1 | xa2 | xa3 | xa4 | xa5 | xa6 | xa7 | xa8 | xa9 | xa10 | xa11 | xa12 | xa13=>k_is
    case xc2 | xb2 | xc3 | xb3 | xc5 | xb5=>kernel_rfl
    case z0 | z1 | z2 | z3 | z4 | z5 | z6 | z7 | z8 | z9 | z10 | z11 | z12 | z13 | z14 | z15=>k_is
