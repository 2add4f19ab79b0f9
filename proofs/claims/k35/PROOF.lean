import PyProof.Rows.All
import Wide.All
import OpenK.AllK
import Wide.FinOn
import Lean
import PyProof.EqAt
import PyProof.EqKinds
import PyProof.TupleCall
import PyProof.NeKinds
import PyProof.OldK
import KE.KLam
import KE.KSortKey
import PySem.Challenge.RW_twoforone_k35_whole_stones_wanted_are_en
set_option Elab.async false
set_option linter.all false
set_option maxRecDepth 100000
set_option maxHeartbeats 4000000
def u2i:=@PySem.Around.under_plainId
def u1E:=@Array.Perm.refl
def u0O:=@Array.length_toList
def u1p:=@Array.perm_iff_toList_perm
def u3o:=@Array.size_map
def u3e:=@Array.size_push
def b7:=@Bool.and_eq_true
def u2O:=@Bool.and_false
def u2U:=@Bool.and_true
def u1f:=@Bool.eq_iff_iff
def u2E:=@Bool.false_eq_true
def u7:=@Bool.false_ne_true
def u3f:=@Bool.or_eq_true
def u1F:=@PySem.Calls.spliced_cons
def u1O:=@PySem.Calls.spliced_nil
def u1s:=@PySem.F.plain_max_loop
def u00:=@PySem.F.slot_tuple_iterator_next
def u0P:=@PySem.Heap.SameBut.update
def u9:=@PySem.Heap.get?_push_of_some
def n0:=@PySem.Heap.get?_push_size
def i7:=@PySem.Heap.get?_update_other
def u1g:=@PySem.Heap.get?_update_self
def r9:=@PySem.Heap.lt_size
def u1W:=@PySem.Heap.size_push
def u10:=@Int.ediv_one
def u0z:=@Int.le_refl
def u2V:=@Int.mul_assoc
def u11:=@Int.mul_comm
def u3p:=@Int.mul_le_mul
def u18:=@Int.mul_le_mul_of_nonneg_left
def u2r:=@Int.mul_one
def u2W:=@Int.one_mul
def u3g:=@Int.pow_succ
def u1m:=@Int.toNat_natCast
def u1b:=@Int.toNat_of_nonneg
def u09:=@Int.zero_add
def u1P:=@PyProof.Rows.KeyOrd.kle_of_klt
def u0Z:=@PyProof.Rows.KeyOrd.kle_refl
def u19:=@PyProof.Rows.KeyOrd.kle_trans
def u1y:=@List.Pairwise.imp_of_mem
def u1z:=@List.Perm.eq_of_pairwise
def u3q:=@List.Perm.refl
def u2o:=@List.all_cons
def u0r:=@List.all_eq_true
def u1A:=@List.all_map
def u0n:=@List.append_nil
def u0R:=@List.cons.inj
def u2a:=@List.countP_cons
def u12:=@List.countP_le_length
def u07:=@List.drop_eq_getElem_cons
def u2b:=@List.drop_length
def u2c:=@List.ext_getElem
def u2S:=@List.ext_getElem?
def u2s:=@List.filterMap_cons
def u2t:=@List.flatMap_append
def u0Y:=@List.flatten_cons
def u3i:=@List.foldl_cons
def u3j:=@List.forIn_cons
def u3r:=@List.forIn_nil
def u2j:=@List.forall_mem_cons
def j4:=@List.getD_eq_getElem?_getD
def u0l:=@List.getElem?_append_left
def u0y:=@List.getElem?_append_right
def u5:=@List.getElem?_eq_getElem
def u0F:=@List.getElem?_eq_none
def t8:=@List.getElem?_eq_some_iff
def j5:=@List.getElem?_map
def u0E:=@List.getElem?_range
def u0t:=@List.getElem?_replicate
def u0G:=@List.getElem?_set
def d8:=@List.getElem?_set_ne
def u0B:=@List.getElem?_set_self
def u2P:=@List.getElem?_zip_eq_some
def u2d:=@List.getElem_inj
def u1t:=@List.getElem_map
def u0D:=@List.getElem_mem
def d6:=@List.getElem_of_mem
def u2F:=@List.getElem_range
def u2e:=@List.getElem_zip
def j9:=@List.length_append
def p6:=@List.length_cons
def u0V:=@List.length_drop
def u0I:=@List.length_eq_zero_iff
def u1B:=@List.length_erase_of_mem
def u13:=@List.length_filter_le
def u6:=@List.length_map
def u1h:=@List.length_nil
def u2u:=@List.length_pos_iff
def g8:=@List.length_range
def p5:=@List.length_replicate
def i9:=@List.length_set
def u0W:=@List.length_take
def u0o:=@List.length_zip
def u3s:=@List.mapM_cons
def u1Q:=@List.mapM_toArray
def e9:=@List.map_append
def p4:=@List.map_congr_left
def b9:=@List.map_cons
def u1v:=@List.map_id
def m7:=@List.map_map
def u3k:=@List.map_nil
def u1G:=@List.map_replicate
def u03:=@List.map_set
def u14:=@List.max?_eq_some_iff
def u0p:=@List.mem_append
def u1q:=@List.mem_append_left
def n9:=@List.mem_append_right
def n8:=@List.mem_cons
def p7:=@List.mem_cons_of_mem
def u0e:=@List.mem_cons_self
def u0a:=@List.mem_filter
def u0L:=@List.mem_flatMap
def u0g:=@List.mem_map
def u0Q:=@List.mem_map_of_mem
def r8:=@List.mem_of_getElem?
def u2Q:=@List.mem_or_eq_of_mem_set
def d5:=@List.mem_range
def j6:=@List.mem_singleton
def u2v:=@List.mergeSort_perm
def u0i:=@List.nodup_cons
def u0h:=@List.nodup_iff_pairwise_ne
def u0s:=@List.nodup_range
def u2w:=@List.of_mem_zip
def u0A:=@List.pairwise_cons
def u15:=@List.pairwise_flatMap
def u0S:=@List.pairwise_iff_getElem
def u0u:=@List.pairwise_map
def u1H:=@List.pairwise_mergeSort
def u2C:=@List.perm_ext_iff_of_nodup
def u1i:=@List.range_succ
def i5:=@List.replicate_succ
def t7:=@List.size_toArray
def u1j:=@List.sum_append
def p9:=@List.sum_cons
def u1n:=@List.take_add_one
def u01:=@List.take_length
def u3t:=@List.take_succ
def u2f:=@List.toArray_inj
def u04:=@List.zip_cons_cons
def u2G:=@List.zip_nil_right
def u2x:=@Nat.add_le_add_left
def u2g:=@Nat.le_add_right
def u1I:=@Nat.le_antisymm
def u2H:=@Nat.le_of_eq
def u0M:=@Nat.le_of_lt
def u0v:=@Nat.le_of_lt_succ
def u1u:=@Nat.le_of_not_lt
def t9:=@Nat.le_refl
def u1r:=@Nat.le_sub_one_of_lt
def u2Y:=@Nat.le_succ
def m8:=@Nat.le_trans
def u0J:=@Nat.lt_irrefl
def u0f:=@Nat.lt_of_le_of_lt
def u2I:=@Nat.lt_of_le_of_ne
def j7:=@Nat.lt_of_lt_of_le
def u1R:=@Nat.lt_succ_of_lt
def u24:=@Nat.lt_succ_self
def u1k:=@Nat.min_eq_left
def u25:=@Nat.min_le_right
def u2J:=@Nat.min_self
def g9:=@Nat.ne_of_lt
def u1l:=@Nat.not_lt_zero
def u2k:=@Nat.pow_le_pow_right
def u3v:=@Nat.pow_pos
def u2l:=@Nat.sub_le_sub_right
def u2h:=@Nat.succ_le_succ
def m9:=@Nat.zero_add
def u0m:=@Nat.zero_le
def u2T:=@Nat.zero_lt_of_lt
def u1S:=@Ne.symm
def u3:=@Option.bind_eq_some_iff
def d9:=@Option.bind_some
def u8:=@Option.map_eq_some_iff
def u0j:=@Option.some.inj
def b8:=@PySem.PassesOwn.never
def u1X:=@Prod.ext
def u1C:=@PyProof.Rows.callWith_kw
def u0q:=@PyProof.Rows.callWith_type1
def u16:=@PyProof.Rows.kws_cons
def u2m:=@PyProof.Rows.kws_nil
def u2y:=@PyProof.Rows.lt_int
def u0b:=@PyProof.Rows.slot_tuple_getitem
def u1D:=@PySem.F.args_tuple_add_2
def u1J:=@PySem.F.entry_tuple_add
def m6:=@PySem.F.plainAttrs_list
def u0c:=@PySem.F.slot_list_append
def u1N:=@PySem.F.slot_tuple_add
def u0d:=@PySem.F.type_list_append
def u0k:=@PySem.W.kia_one
def u1T:=@PySem.W.kitx_dict
def p8:=@PySem.W.mg_none_of
def u2Z:=@PySem.W.mg_of
def u3u:=@PySem.W.tab_of
def i6:=@PySem.mem_of_lookup
def u1K:=@PySem.SeqAt.EqAt.int_int
def u1L:=@PySem.SeqAt.EqAt.of_refs
def u1c:=@beq_eq_false_iff_ne
def u02:=@beq_self_eq_true
def u3n:=@PySem.call_meets
def u2K:=@PySem.codeAny_mono
def u0U:=@congrArg
def u26:=@decide_eq_decide
def d7:=@decide_eq_false
def u0w:=@decide_eq_false_iff_not
def j8:=@decide_eq_true
def r6:=@decide_eq_true_eq
def u1M:=@PyProof.Rows.get?_update_seq
def u2L:=@getElem?_pos
def u3y:=@if_false
def t6:=@if_neg
def t5:=@if_pos
def u2z:=@if_true
def u1a:=@PyProof.Rows.listItems_at
def u1o:=@PyProof.Rows.listUpdate_at
def u05:=@of_decide_eq_false
def o0:=@of_decide_eq_true
def u2M:=@PyProof.Rows.pairsOf_size
def u2p:=@PySem.plainId_quiet
def u1w:=@PySem.sizeLine_eq
def u06:=@PySem.wpAny_Call_Name_kw
def u21:=@PySem.wpAny_attempt
def u4:=@PySem.wpAny_bind
def u0X:=@PySem.wpAny_callSpecial?_slot
def u1d:=@PySem.wpAny_call_entry
def u2A:=@PySem.wpAny_execs_nil
def u1x:=@PySem.wpAny_field
def u0T:=@PySem.wpAny_holding
def u22:=@PySem.wpAny_letGo
def u0C:=@PySem.wpAny_loadPart'
def u0K:=@PySem.wpAny_mono
def u23:=@PySem.wpAny_newList
def u0H:=@PySem.wpAny_newObj_type
def u08:=@PySem.wpAny_passesOwn
def j3:=@PySem.wpAny_pure
def u1U:=@PySem.wpAny_pyIter_enum
def u1e:=@PySem.wpAny_pyIter_tuple
def u1V:=@PySem.wpAny_rule
def u1Y:=@PySem.wpAny_seqItems
def u0x:=@PySem.wpAny_truthy_bool
def u1Z:=@PySem.wpAny_tryCatch
def u2N:=@PySem.wpAny_typeOf
def i8:=@PyProof.Rows.wpS_bind
def u17:=@PyProof.Rows.wpS_forRange
def u0N:=@PyProof.Rows.wpS_pure
namespace L2
open PySem PySem.Spec PyProof.Rows
abbrev Key:=Sum Int Str
def zlo:Key->Value->Bool
 | .inl k,v=>Value.isInt k v
 | .inr x,v=>Value.isStrOf x v
def keyH (w:World):Key->Int
 | .inl k=>hashInt k
 | .inr x=>hashStr w x
theorem yB:∀ {k:Key} {v:Value},zlo k v=true->(∃ i t,k=Sum.inl i/\v=Value.int i t)\/(∃ x t,k=Sum.inr x/\v=Value.str x t)
 | .inl i,v,h=>by
  obtain⟨t,e⟩:=Value.isInt_shape (k:=i) (v:=v) h
  exact .inl ⟨i,t,rfl,e⟩
 | .inr x,v,h=>by
  obtain⟨t,e⟩:=Value.isStrOf_shape (x:=x) (v:=v) h
  exact .inr ⟨x,t,rfl,e⟩
theorem zl7 (a b:Int):decide ((Sum.inl a:Key)=Sum.inl b)=(a == b):=by
 by_cases e:a=b
 .subst e;simp
 .have h:¬ (Sum.inl a:Key)=Sum.inl b:=λq=>e (Sum.inl.inj q)
  rw[d7 h]
  exact(u1c.mpr e).symm
theorem zll (a b:Str):decide ((Sum.inr a:Key)=Sum.inr b)=decide (a=b):=by
 by_cases e:a=b
 .subst e;simp
 .have h:¬ (Sum.inr a:Key)=Sum.inr b:=λq=>e (Sum.inr.inj q)
  rw[d7 h,d7 e]
theorem zl2 (a:Int)(b:Str):decide ((Sum.inl a:Key)=Sum.inr b)=false:=d7 (λq=>nomatch q)
theorem zlj (a:Str)(b:Int):decide ((Sum.inr a:Key)=Sum.inl b)=false:=d7 (λq=>nomatch q)
def zfR (prog:Program)(w:World):PySem.KeyKind prog w Key where
 is:=zlo
 hash:=keyH w
 inj:=λv a b ha hb=>by
  rcases yB ha with ⟨i,t,rfl,rfl⟩ | ⟨x,t,rfl,rfl⟩
  .rcases yB hb with ⟨j,u,rfl,e⟩ | ⟨y,u,rfl,e⟩
   .injection e with e1 _;rw[e1]
   .exact nomatch e
  .rcases yB hb with ⟨j,u,rfl,e⟩ | ⟨y,u,rfl,e⟩
   .exact nomatch e
   .injection e with e1 _;rw[e1]
 byValue:=λk v h=>by
  rcases yB h with ⟨i,t,rfl,rfl⟩ | ⟨x,t,rfl,rfl⟩ <;> rfl
 pyHash:=λhv h=>by
  rcases yB hv with ⟨i,t,rfl,rfl⟩ | ⟨x,t,rfl,rfl⟩
  .exact wpAny_pyHash_int h
  .exact wpAny_pyHash_str h
 eqBool:=λhu hv h=>by
  rcases yB hu with ⟨i,t,rfl,rfl⟩ | ⟨x,t,rfl,rfl⟩
  .rcases yB hv with ⟨j,u,rfl,rfl⟩ | ⟨y,u,rfl,rfl⟩
   .rw[zl7]at h;exact wpAny_eqBool_int h
   .rw[zl2]at h;exact SeqAt.EqAt.int_str i t y u _ _ _ _ h
  .rcases yB hv with ⟨j,u,rfl,rfl⟩ | ⟨y,u,rfl,rfl⟩
   .rw[zlj]at h;exact SeqAt.EqAt.str_int x t j u _ _ _ _ h
   .rw[zll]at h;exact wpAny_eqBool_str h
 «strs»:=λk x t v h=>by
  rcases yB h with ⟨i,u,rfl,e⟩ | ⟨y,u,rfl,e⟩
  .exact nomatch e
  .injection e with e1 _
   subst e1
   cases v <;> rfl
inductive V where
 | non | bl (b:Bool) | int (i:Int) | str (x:Str) | byt (b:Array UInt8) | flt (b:UInt64) | ref (a:Addr) | ty (n:String)
 deriving DecidableEq
def xt:V->Value->Prop
 | .non,u=>u=Value.none
 | .bl b,u=>u=Value.bool b
 | .int i,u=>∃ t,u=Value.int i t
 | .str x,u=>∃ t,u=Value.str x t
 | .byt b,u=>∃ t,u=Value.bytes b t
 | .flt b,u=>∃ t,u=Value.float b t
 | .ref a,u=>u=Value.ref a
 | .ty n,u=>u=Value.type n
abbrev yl:List V->List Value->Prop:=Paired xt
theorem yl.length {xs:List V}{us:List Value}(r:yl xs us):xs.length=us.length:=Paired.length r
theorem yl.get:∀ {xs:List V} {us:List Value} {i:Nat} {x:V},yl xs us->xs[i]?=some x->∃ u,us[i]?=some u/\xt x u
 | _,_,_,_,.nil,e=>by simp at e
 | _,_,0,_,.cons r _,e=>by simp at e;subst e;exact⟨_,rfl,r⟩
 | _,_,i+1,x,.cons _ t,e=>by
  obtain⟨u,h1,h2⟩:=yl.get (i:=i) (x:=x) t (by simpa using e)
  exact⟨u,by simpa using h1,h2⟩
theorem yl.set {x:V}{u:Value}(r:xt x u):∀ {xs:List V} {us:List Value} (i:Nat),yl xs us->yl (xs.set i x) (us.set i u)
 | _,_,_,.nil=>.nil
 | _,_,0,.cons _ t=>.cons r t
 | _,_,i+1,.cons q t=>.cons q (yl.set r i t)
theorem yl.append:∀ {xs ys:List V} {us ws:List Value},yl xs us->yl ys ws->yl (xs++ys) (us++ws):=by
 intro xs ys us ws h s
 induction h with
 | nil=>exact s
 | cons r t ih=>exact .cons r ih
theorem yl.take:∀ {xs:List V} {us:List Value} (n:Nat),yl xs us->yl (xs.take n) (us.take n)
 | _,_,0,_=>.nil
 | _,_,_+1,.nil=>.nil
 | _,_,n+1,.cons r t=>.cons r (yl.take n t)
theorem yl.drop:∀ {xs:List V} {us:List Value} (n:Nat),yl xs us->yl (xs.drop n) (us.drop n)
 | _,_,0,r=>r
 | _,_,_+1,.nil=>.nil
 | _,_,n+1,.cons _ t=>yl.drop n t
def znh:Option V->Option Value->Prop
 | some v,some u=>xt v u
 | none,none=>True
 | _,_=>False
def KV {κ:Type}:List (κ × V)->List (κ × Value)->Prop:=Paired λ(p:κ × V) (q:κ × Value)=>p.1=q.1/\xt p.2 q.2
def kV:Key->V
 | .inl i=>.int i
 | .inr x=>.str x
inductive HO where
 | lst (xs:List V)
 | tup (xs:List V)
 | dK (kvs:List (Key × V)) | dT (kvs:List (List Key × V))
 | set (S:Int->Bool) (n:Nat)
 | ins (C dx:Addr) (fs:List (Str × V))
 | own (x:Addr)
 | xd (fs:List (Str × V))
 | met (f x:Addr)
 | rng (lo hi:Int)
 | frz (o:Obj) (u:HO)
 | tbl (ps:Array Value)
 | ext (φ:Heap->Prop)
abbrev Hp:=Addr->Option HO
def upd (H:Hp)(a:Addr)(o:HO):Hp:=λb=>if b=a then some o else H b
theorem zx {H:Hp}{a:Addr}{o:HO}:upd H a o a=some o:=by unfold upd;rw[t5 rfl]
theorem zw {H:Hp}{a b:Addr}{o:HO}(h:b≠a):upd H a o b=H b:=by unfold upd;rw[t6 h]
theorem zgD {H:Hp}{a:Addr}{o u:HO}:upd (upd H a o) a u=upd H a u:=by
 funext b;unfold upd;split <;> rfl
theorem zn {H:Hp}{a b:Addr}{o:HO}(h:H a=some o)(h':H b=none):a≠b:=by
 intro e;subst e;rw[h]at h';cases h'
section
variable (P:Program)(w:World)
def xR (H:Hp)(h:Heap)(a:Addr):HO->Prop
 | .lst xs=>xs.length<=sizeLine/\∃ (its:List Value) (n:Nat),yl xs its/\h.get? a=some { cls:=.type "list",data:=.seq its.toArray n }
 | .tup xs=>xs.length<=sizeLine/\∃ its:List Value,yl xs its/\IsTup h a its.toArray
 | .dK kvs=>kvs.length<=sizeLine/\(a == sysModules)=false/\∃ vs,KV kvs vs/\h.DictOf (zfR P w) a vs
 | .dT kvs=>kvs.length<=sizeLine/\(a == sysModules)=false/\∃ xs:List (List Key × Addr × Value),
  Paired (λ(p:List Key × V) (q:List Key × Addr × Value)=>p.1=q.1/\H q.2.1=some (.tup (p.1.map kV))/\xt p.2 q.2.2) kvs xs /\
  ∃ o es ep,h.get? a=some o/\o.ExactDict/\o.data=.dict es ep/\es.toList=xs.map (entryOfKey (tupleKind (zfR P w)))/\(xs.map (·.1)).Nodup
 | .set S n=>h.SetOf (intKind P w) a S n
 | .ins C dx fs=>H dx=some (.own a)/\fs.length<=1000/\dx≠a/\h.get? a=some (W.instObj C dx) /\
  ∃ mA,h.Ns1 dx mA/\(∀ f,znh (fs.lookup f) (mA f))/\PySem.Within mA (fs.map (·.1))
 | .own _=>∃ o,h.get? a=some o
 | .xd fs=>∃ mA,h.Ns1 a mA/\∀ f,znh (fs.lookup f) (mA f)
 | .rng lo hi=>∃ t u v,h.get? a=some { cls:=.type "range",data:=.fields #[.int lo t,.int hi u,.int 1 v] }
 | .frz o u=>h.get? a=some o/\xR H h a u
 | .tbl ps=>∃ qs:Array Value,h.get? a=some { cls:=.none,data:=.fields qs }/\TriplesOk qs.toList/\∀ pos c,codeAmong pos qs.toList=some c->∃ ca oc vs q t t2,c=.ref ca/\H ca=some (.frz oc (.own a))/\oc.data=.fields vs/\vs[1]?=some (.str q t)/\ps[0]?=some (.str q t2)
 | .met f x=>h.get? a=some (W.methodObj (.ref f) (.ref x))
 | .ext φ=>φ h/\(∃ o,h.get? a=some o)/\∀ h1 h2:Heap,φ h1->(∀ o,h1.get? a=some o->h2.get? a=some o)->φ h2
def HOk (H:Hp)(h:Heap):Prop:=∀ a o,H a=some o->xR P w H h a o
end
section
variable {P:Program}{w:World}{H H':Hp}{h h':Heap}{a:Addr}{o:HO}
theorem xR.lt (x:xR P w H h a o):a < h.objs.size:=by
 cases o with
 | lst xs=>obtain⟨_,_,_,_,e⟩:=x;exact r9 e
 | tup xs=>obtain⟨_,_,_,p⟩:=x;exact p.lt
 | dK kvs=>obtain⟨_,_,_,_,o,_,_,e,_⟩:=x;exact r9 e
 | dT kvs=>obtain⟨_,_,_,_,o,_,_,e,_⟩:=x;exact r9 e
 | set S n=>obtain⟨o,_,_,_,e,_⟩:=x;exact r9 e
 | ins C dx fs=>obtain⟨_,_,_,e,_⟩:=x;exact r9 e
 | own y=>obtain⟨_,e⟩:=x;exact r9 e
 | xd fs=>obtain⟨_,⟨_,_,_,e,_⟩,_⟩:=x;exact r9 e
 | rng lo hi=>obtain⟨_,_,_,e⟩:=x;exact r9 e
 | frz ob u=>obtain⟨e,_⟩:=x;exact r9 e
 | tbl ps=>obtain⟨_,e,_⟩:=x;exact r9 e
 | met f y=>exact r9 (show h.get? a=some _ from x)
 | ext φ=>obtain⟨_,⟨_,e⟩,_⟩:=x;exact r9 e
theorem Paired.mapP {α β:Type}{F G:α->β->Prop}:∀ {l₁:List α} {l₂:List β},Paired F l₁ l₂->(∀ a b,F a b->G a b)->Paired G l₁ l₂:=by
 intro l1 l2 h f
 induction h with
 | nil=>exact .nil
 | cons r t ih=>exact .cons (f _ _ r) ih
theorem xR.stay (x:xR P w H h a o)(k:∀ b u,(b=a\/H b=some (.own a))->h.get? b=some u->h'.get? b=some u)
 (ho:∀ b,H b=some (.own a)->H' b=some (.own a)) (ht:∀ b xs,H b=some (.tup xs)->H' b=some (.tup xs)) (hz:∀ b o u,H b=some (.frz o u)->H' b=some (.frz o u):=by(intro b ob u q;first | exact q | (rw[zw (zn q (by assumption))];exact q) | (rw[zw (λz=>by subst z;have mm:=‹Mut _›;rw[q]at mm;exact mm)];exact q))):xR P w H' h' a o:=by
 induction o with
 | lst xs=>obtain⟨z,its,n,r,e⟩:=x;exact⟨z,its,n,r,k _ _ (.inl rfl) e⟩
 | tup xs=>obtain⟨z,its,r,ob,e,c⟩:=x;exact⟨z,its,r,ob,k _ _ (.inl rfl) e,c⟩
 | dK kvs=>obtain⟨z,y,vs,r,ob,es,ep,e,c⟩:=x;exact⟨z,y,vs,r,ob,es,ep,k _ _ (.inl rfl) e,c⟩
 | dT kvs =>
  obtain⟨z,y,xs,r,ob,es,ep,e,c⟩:=x
  exact⟨z,y,xs,Paired.mapP r λp q z=>⟨z.1,ht _ _ z.2.1,z.2.2⟩,ob,es,ep,k _ _ (.inl rfl) e,c⟩
 | set S n=>obtain⟨ob,es,ep,t,e,c⟩:=x;exact⟨ob,es,ep,t,k _ _ (.inl rfl) e,c⟩
 | ins C dx fs =>
  obtain⟨d,z,ne,e,mA,⟨od,es,ep,e2,c⟩,r⟩:=x
  exact⟨ho _ d,z,ne,k _ _ (.inl rfl) e,mA,⟨od,es,ep,k _ _ (.inr d) e2,c⟩,r⟩
 | own y=>obtain⟨ob,e⟩:=x;exact⟨ob,k _ _ (.inl rfl) e⟩
 | xd fs=>obtain⟨mA,⟨od,es,ep,e,c⟩,r⟩:=x;exact⟨mA,⟨od,es,ep,k _ _ (.inl rfl) e,c⟩,r⟩
 | rng lo hi=>obtain⟨t,u,v,e⟩:=x;exact⟨t,u,v,k _ _ (.inl rfl) e⟩
 | frz ob u ih=>obtain⟨e,q⟩:=x;exact⟨k _ _ (.inl rfl) e,ih q⟩
 | tbl ps =>
  obtain⟨qs,e,tr,q⟩:=x
  refine⟨qs,k a _ (.inl rfl) e,tr,λpos c hc=>?_⟩
  obtain⟨ca,oc,vs,qn,t,t2,ec,ow,r⟩:=q pos c hc
  exact⟨ca,oc,vs,qn,t,t2,ec,hz _ _ _ ow,r⟩
 | met f y =>
  have e:h.get? a=some (W.methodObj (.ref f) (.ref y)):=x
  show h'.get? a=some (W.methodObj (.ref f) (.ref y))
  exact k a _ (.inl rfl) e
 | ext φ=>obtain⟨p,⟨o,e⟩,st⟩:=x;exact⟨st _ _ p λo q=>k _ _ (.inl rfl) q,⟨o,k _ _ (.inl rfl) e⟩,st⟩
theorem HOk.lt (x:HOk P w H h)(e:H a=some o):a < h.objs.size:=(x a o e).lt
theorem HOk.fresh (x:HOk P w H h)(e:h.objs.size<=a):H a=none:=by
 cases q:H a with
 | none=>rfl
 | some u=>exact absurd (j7 (x.lt q) e) (u0J _)
theorem HOk.kept (x:HOk P w H h)(k:∀ b u,h.get? b=some u->h'.get? b=some u):HOk P w H h':=λa o e =>
 (x a o e).stay (λb u _ q=>k b u q) (λ_ q=>q) λ_ _ q=>q
theorem HOk.laid (x:HOk P w H h)(k:∀ b u,h.get? b=some u->h'.get? b=some u)(hp:h.objs.size<=a)(new:xR P w (upd H a o) h' a o):HOk P w (upd H a o) h':=λb u e=>by
 have hn:=x.fresh hp
 by_cases hb:b=a
 .subst hb;rw[zx]at e;cases e;exact new
 .rw[zw hb]at e
  exact(x b u e).stay (λc v _ q=>k c v q) (λc q=>by rw[zw (zn q hn)];exact q) λc xs q=>by rw[zw (zn q hn)];exact q
end
def Rd (H:Hp)(a:Addr)(u:HO):Prop:=H a=some u\/∃ o,H a=some (.frz o u)
theorem Rd.ok {P:Program}{w:World}{H:Hp}{h:Heap}{a:Addr}{u:HO}(r:Rd H a u)(x:HOk P w H h):xR P w H h a u:=by
 rcases r with r | ⟨o,r⟩
 .exact x a u r
 .obtain⟨_,q⟩:=x a _ r
  exact q
def Mut:Option HO->Prop
 | some (.lst _)=>True
 | some (.dK _)=>True
 | some (.dT _)=>True
 | some (.set _ _)=>True
 | some (.ins _ _ _)=>True
 | some (.ext _)=>True
 | _=>False
section
variable {P:Program}{w:World}{H:Hp}{h h':Heap}{x e:Addr}{o':HO}
theorem HOk.write (ok:HOk P w H h)(mu:Mut (H x))(he:e=x\/H e=some (.own x))(k:∀ b u,b≠e->h.get? b=some u->h'.get? b=some u)(heo:∃ u,h'.get? e=some u)
 (new:xR P w (upd H x o') h' x o'):HOk P w (upd H x o') h':=λb u q=>by
 have nown:∀ c y,H c=some (.own y)->c≠x:=λc y r z=>by subst z;rw[r]at mu;exact mu
 have ntup:∀ c xs,H c=some (.tup xs)->c≠x:=λc xs r z=>by subst z;rw[r]at mu;exact mu
 by_cases hb:b=x
 .subst hb;rw[zx]at q;cases q;exact new
 .rw[zw hb]at q
  by_cases hbe:b=e
  .have q':H b=some (.own x):=by
    rcases he with z | z
    .exact absurd (hbe.trans z) hb
    .rw[hbe];exact z
   rw[q]at q';cases q'
   obtain⟨v,hv⟩:=heo
   exact⟨v,by rw[hbe];exact hv⟩
  .refine(ok b u q).stay (λc v hc r=>k c v ?_ r) (λc r=>by rw[zw (nown c b r)];exact r) λc xs r=>by rw[zw (ntup c xs r)];exact r
   rcases hc with rfl | hc
   .exact hbe
   .rintro rfl
    rcases he with z | z
    .exact nown c b hc z
    .rw[hc]at z;cases z;exact hb rfl
end
structure Un (fs ex:List Addr) (H H':Hp) (h h':Heap):Prop where
 keep:∀ b o,h.get? b=some o->H b=none->b∉fs->b∉ex->h'.get? b=some o
 slot:∀ b o,h.get? b=some o->H b=none->b∈fs->b∉ex->∃ sl,h'.get? b=some { o with slots:=sl }
 free:∀ b o,h.get? b=some o->H b=none->b∉ex->H' b=none
 there:∀ b o,h.get? b=some o->b∉ex->∃ o',h'.get? b=some o'
 tups:∀ b xs,H b=some (.tup xs)->H' b=some (.tup xs)
 frzs:∀ b o u,H b=some (.frz o u)->H' b=some (.frz o u)
 tbls:∀ b ps,H b=some (.tbl ps)->H' b=some (.tbl ps)
section
variable {fs fs' ex ex':List Addr}{H H1 H2:Hp}{h h1 h2 h':Heap}{a x e:Addr}{o:HO}
theorem Un.any (u:Un fs ex H H1 h h1){b:Addr}{ob:Obj}(q:h.get? b=some ob)(n:H b=none)(hx:b∉ex):∃ sl,h1.get? b=some { ob with slots:=sl }:=by
 by_cases hb:b∈fs
 .exact u.slot b ob q n hb hx
 .exact⟨ob.slots,u.keep b ob q n hb hx⟩
theorem Un.kept (k:∀ b u,h.get? b=some u->h'.get? b=some u):Un fs ex H H h h' :=
 ⟨λb ob q _ _ _=>k b ob q,λb ob q _ _ _=>⟨ob.slots,k b ob q⟩,λ_ _ _ n _=>n,λb ob q _=>⟨ob,k b ob q⟩,λ_ _ q=>q,λ_ _ _ q=>q,λ_ _ q=>q⟩
theorem Un.refl:Un fs ex H H h h:=Un.kept λ_ _ q=>q
theorem Un.laid (k:∀ b u,h.get? b=some u->h'.get? b=some u)(hp:h.objs.size<=a)(hn:H a=none):Un fs ex H (upd H a o) h h' where
 keep:=λb u q _ _ _=>k b u q
 slot:=λb u q _ _ _=>⟨u.slots,k b u q⟩
 free:=λb u q n _=>by rw[zw (g9 (j7 (r9 q) hp))];exact n
 there:=λb u q _=>⟨u,k b u q⟩
 tups:=λb xs q=>by rw[zw (zn q hn)];exact q
 frzs:=λb u xs q=>by rw[zw (zn q hn)];exact q
 tbls:=λb ps q=>by rw[zw (zn q hn)];exact q
theorem Un.write (mu:Mut (H x))(he:e=x\/H e=some (.own x))(k:∀ b u,b≠e->h.get? b=some u->h'.get? b=some u)(heo:∃ u,h'.get? e=some u):Un fs ex H (upd H x o) h h':=by
 have hx:∀ b,H b=none->b≠x:=λb n z=>by subst z;rw[n]at mu;exact mu
 have hb:∀ b,H b=none->b≠e:=λb n z=>by
  subst z
  rcases he with r | r
  .exact hx b n r
  .rw[n]at r;cases r
 have hm:∀ b u,H b=some u->¬ Mut (some u)->b≠x:=λb u q nm z=>by subst z;rw[q]at mu;exact nm mu
 refine⟨λb u q n _ _=>k b u (hb b n) q,λb u q n _ _=>⟨u.slots,k b u (hb b n) q⟩,λb u q n _=>by rw[zw (hx b n)];exact n,λb u q _=>?_,
  λb xs q=>by rw[zw (hm b _ q λz=>z)];exact q,λb u xs q=>by rw[zw (hm b _ q λz=>z)];exact q,λb ps q=>by rw[zw (hm b _ q λz=>z)];exact q⟩
 by_cases hbe:b=e
 .subst hbe;exact heo
 .exact⟨u,k b u hbe q⟩
end
def trk (h:Heap)(H:Hp):List Addr:=(List.range h.objs.size).filter λa=>(H a).isSome
def zfa (h:Heap)(H:Hp):Heap:=W.hideAll h (trk h H)
theorem zcH (h:Heap)(H:Hp):(zfa h H).objs.size=h.objs.size:=W.hideAll_size _ _
theorem zh5 {h:Heap}{H:Hp}{b:Addr}{o:Obj}(e:h.get? b=some o)(n:H b=none):(zfa h H).get? b=some o :=
 W.hideAll_get _ e λhm=>by
  have q:(H b).isSome=true:=(u0a.mp hm).2
  rw[n]at q;simp at q
theorem zjS {h:Heap}{H:Hp}{b:Addr}{o:Obj}(e:(zfa h H).get? b=some o):h.get? b=some o/\H b=none:=by
 have e':h.get? b=some o:=W.of_hideAll (trk h H) e
 refine⟨e',?_⟩
 cases q:H b with
 | none=>rfl
 | some x =>
  have hm:b∈trk h H:=u0a.mpr ⟨d5.mpr (r9 e'),by simp[q]⟩
  have z:(zfa h H).get? b=none:=W.hideAll_none (trk h H) hm
  rw[z]at e;cases e
def zky (g h:Heap)(L:Addr):List (Addr × Obj):=(List.range h.objs.size).filterMap λa=>if a=L\/(g.get? a).isSome=true then none else (h.get? a).map λo=>(a,o)
def rest (g h:Heap)(L d:Addr):List (Addr × Obj):=(zky g h L).filter λp=>decide (p.1≠d)
structure Mod (K:W.Frag) (mg:Str->Option Value) (base:Heap):Prop where
 kin:K.In base
 glob:base.Ns mainGlobals mg
 blt:∃ mb,base.Ns builtinsNs mb/\∀ x:Str,x≠"__name__"->mb x=bootBuiltins x
 nolimit:base.NoLimit
def Zr (q:Str):Obj:={ cls:=.str q 0,data:=.freed }
def Bs (base h:Heap)(H:Hp):Prop:=(∀ b o,base.get? b=some o->h.get? b=some o/\H b=none)/\∀ P q,base.objs[P]?=some (Zr q)->H P=some (.tbl #[.str q 0])
structure Cx where
 prog:Program
 w:World
 K:W.Frag
 mg:Str->Option Value
 base:Heap
 A:Around
 N:List Str
 s₀:Shared
 H₀:Hp
 env:Env
 outer:List Env
 stack:List Env
 ex:List Addr
 fn:Str->Bool
 calm:Bool
 pn:List (Addr × Obj)
 xe:Value->Shared->Prop
def frs (l:List Env):List Addr:=l.filterMap (·.frame)
abbrev Cx.fs (X:Cx):List Addr:=frs X.outer
def Vis (sc:Scope)(x:Str):Prop:=sc.names.lookup x=some .local\/sc.names.lookup x=some .cell\/sc.names.lookup x=some .free
def Loc (sc:Scope)(x:Str):Prop:=sc.names.lookup x=some .local\/sc.names.lookup x=some .cell
def Look (env:Env)(h:Heap)(m:Str->Option Value)(x:Str)(u:Value):Prop :=
 (env.kindOf x=some .local/\m x=some u)\/((env.kindOf x=some .cell\/env.kindOf x=some .free)/\∃ c,env.cells.lookup x=some c/\h.IsCell c (some u))
structure Cx.Ok (X:Cx):Prop where
 mod:Mod X.K X.mg X.base
 kind:X.env.scope.kind=.function
 glob:X.env.globals=mainGlobals
 blt:X.env.builtins=builtinsNs
 above:X.s₀.heap.objs.size<=X.env.locals
 inj:∀ x y c,X.env.cells.lookup x=some c->X.env.cells.lookup y=some c->x=y
 has:∀ x,(X.env.kindOf x=some .cell\/X.env.kindOf x=some .free)->∃ c,X.env.cells.lookup x=some c
 cab:∀ x c,X.fn x=true->X.env.cells.lookup x=some c->X.s₀.heap.objs.size<=c
 hd:X.calm=true->X.A.handled=none
 frames:X.A.frames=some X.stack
 stk:X.stack=X.outer\/(X.stack=X.env::X.outer/\X.env.frame=some X.env.locals)
 exf:∀ b∈X.ex,b≠X.env.locals/\∀ x c,X.env.cells.lookup x=some c->c≠b
 bs:Bs X.base X.s₀.heap X.H₀
 bsz:X.base.objs.size<=X.s₀.heap.objs.size
 noex:∀ b o,X.base.get? b=some o->b∉X.ex
 exfs:∀ b∈X.ex,b∉X.fs
 funs:X.s₀.heap.FunFrames X.base X.outer
 frf:∀ b∈X.fs,X.H₀ b=none
structure Inv (X:Cx) (pins:List (Addr × Obj)) (σ:List (Option V)) (H:Hp) (s:Shared):Prop where
 ok:X.Ok
 os:s.os=X.s₀.os
 bare:AllBare s.gens
 base:Un X.fs X.ex X.H₀ H X.s₀.heap s.heap
 loc:∃ m,s.heap.Ns X.env.locals m/\∀ (i:Nat) (x:Str) (v:V),X.N[i]?=some x->σ[i]?=some (some v)->Vis X.env.scope x->∃ u,xt v u/\Look X.env s.heap m x u
 cell:∀ x c,X.env.cells.lookup x=some c->∃ v,s.heap.IsCell c v
 free:H X.env.locals=none
 freeC:∀ x c,X.env.cells.lookup x=some c->H c=none
 pin:∀ p∈X.pn++pins,s.heap.get? p.1=some p.2/\H p.1=none/\p.1≠X.env.locals/\p.1∉X.fs/\∀ v,p.2.data≠.cell v
 hok:HOk X.prog X.w H s.heap
 len:σ.length=X.N.length
section
variable {X:Cx}{pins:List (Addr × Obj)}{σ:List (Option V)}{H H':Hp}{s:Shared}{h':Heap}
theorem Cx.Ok.nofr (ok:X.Ok){b:Addr}{o:Obj}(e:X.base.get? b=some o):b∉X.fs:=λhb=>by
 have:=(ok.funs.mem hb).1
 rw[e]at this;cases this
theorem Inv.bs (I:Inv X pins σ H s):Bs X.base s.heap H:=⟨λb o e =>
 ⟨I.base.keep b o (I.ok.bs.1 b o e).1 (I.ok.bs.1 b o e).2 (I.ok.nofr e) (I.ok.noex b o e),I.base.free b o (I.ok.bs.1 b o e).1 (I.ok.bs.1 b o e).2 (I.ok.noex b o e)⟩,λP q e=>I.base.tbls _ _ (I.ok.bs.2 P q e)⟩
theorem Inv.bk (I:Inv X pins σ H s):∀ b o,X.base.get? b=some o->s.heap.get? b=some o:=λb o e=>(I.bs.1 b o e).1
theorem Inv.mod (I:Inv X pins σ H s):Mod X.K X.mg X.base:=I.ok.mod
theorem Inv.kIn (I:Inv X pins σ H s):X.K.In s.heap:=I.ok.mod.kin.keeps I.bk
theorem Inv.nolimit (I:Inv X pins σ H s):s.heap.NoLimit:=I.ok.mod.nolimit.keeps I.bk
theorem Inv.fr (I:Inv X pins σ H s):∃ m,Fr X.base X.env.locals s.heap m :=
 let ⟨m,hn,_⟩:=I.loc
 ⟨m,hn,I.bk,m8 I.ok.bsz I.ok.above⟩
theorem Inv.lt (I:Inv X pins σ H s):X.env.locals < s.heap.objs.size:=let ⟨_,hn,_⟩:=I.loc;hn.lt
theorem Inv.sz (I:Inv X pins σ H s):X.s₀.heap.objs.size<=s.heap.objs.size:=m8 I.ok.above (u0M I.lt)
theorem Inv.nofs (I:Inv X pins σ H s){a:Addr}(h:s.heap.objs.size<=a):a∉X.fs:=λhb=>by
 obtain⟨_,o,ho,_⟩:=I.ok.funs.mem hb
 exact absurd (j7 (r9 ho) (m8 I.sz h)) (u0J _)
theorem Inv.cne (I:Inv X pins σ H s):∀ x c,X.env.cells.lookup x=some c->c≠X.env.locals:=λx c e z=>by
 obtain⟨v,o,ho,hd⟩:=I.cell x c e
 obtain⟨m,⟨o',es,ep,ho',hd',_⟩,_⟩:=I.loc
 rw[z,ho']at ho;cases ho;rw[hd']at hd;cases hd
theorem Inv.funs (I:Inv X pins σ H s):s.heap.FunFrames X.base X.outer:=by
 have all:∀ (l:List Env),(∀ b∈frs l,b∈X.fs)->X.s₀.heap.FunFrames X.base l->s.heap.FunFrames X.base l:=by
  intro l
  induction l with
  | nil=>intro _ _;trivial
  | cons env r ih =>
   intro hs hl
   obtain⟨hk,⟨L,o,hf,hn,ho,hd⟩,hr⟩:=hl
   have hL:L∈X.fs:=hs L (by unfold frs;rw[u2s,hf];exact u0e)
   obtain⟨sl,e⟩:=I.base.slot L o ho (I.ok.frf L hL) hL λz=>I.ok.exfs L z hL
   exact⟨hk,⟨L,_,hf,hn,e,hd⟩,ih (λb hb=>hs b (by unfold frs;rw[u2s,hf];exact p7 _ hb)) hr⟩
 exact all X.outer (λ_ hb=>hb) I.ok.funs
theorem Inv.stack (I:Inv X pins σ H s):s.heap.FunFrames X.base X.stack:=by
 rcases I.ok.stk with e | ⟨e,hf⟩
 .rw[e];exact I.funs
 .rw[e]
  obtain⟨m,hn,_⟩:=I.loc
  refine .cons (by rw[I.ok.kind];decide) hf hn ?_ I.funs
  exact Heap.get?_none_of_le (m8 I.ok.bsz I.ok.above)
theorem Inv.stkSub (I:Inv X pins σ H s):∀ b∈frs X.stack,b∈X.env.locals::X.fs:=λb hb=>by
 rcases I.ok.stk with e | ⟨e,hf⟩
 .rw[e]at hb;exact p7 _ hb
 .rw[e]at hb
  unfold frs at hb
  rw[u2s,hf]at hb
  exact hb
theorem Inv.stkFree (I:Inv X pins σ H s):∀ b∈frs X.stack,H b=none:=λb hb=>by
 rcases n8.mp (I.stkSub b hb)with e | hb
 .rw[e];exact I.free
 .obtain⟨_,o,ho,_⟩:=I.ok.funs.mem hb
  exact I.base.free b o ho (I.ok.frf b hb) λz=>I.ok.exfs b z hb
theorem Inv.step {g':Array GenState}{t':Nat}{d':Drawn}{ch:List Addr}(I:Inv X pins σ H s)
 (hch:∀ b∈ch,(b∈X.ex\/X.s₀.heap.objs.size<=b)/\b≠X.env.locals/\(∀ x c,X.env.cells.lookup x=some c->c≠b)/\∀ p∈X.pn++pins,p.1≠b)
 (keep:∀ b o,b≠X.env.locals->b∉X.fs->b∉ch->s.heap.get? b=some o->H b=none->h'.get? b=some o)
 (slot:∀ b o,b≠X.env.locals->b∈X.fs->b∉ch->s.heap.get? b=some o->H b=none->∃ sl,h'.get? b=some { o with slots:=sl }) (free:∀ b o,b∉ch->s.heap.get? b=some o->H b=none->H' b=none)
 (there:∀ b o,b∉ch->s.heap.get? b=some o->∃ o',h'.get? b=some o')
 (tups:∀ b xs,H b=some (.tup xs)->H' b=some (.tup xs)) (frzs:∀ b o u,H b=some (.frz o u)->H' b=some (.frz o u)) (tbls:∀ b ps,H b=some (.tbl ps)->H' b=some (.tbl ps))
 (ns:∀ m,s.heap.Ns X.env.locals m->h'.Ns X.env.locals m) (hok:HOk X.prog X.w H' h') (hg:AllBare g') :
 Inv X pins σ H' { s with heap:=h',gens:=g',drawn:=d',toks:=t' }:=by
 have neL:∀ b o,X.s₀.heap.get? b=some o->b≠X.env.locals:=λb o e=>g9 (j7 (r9 e) I.ok.above)
 have neC:∀ b o,X.s₀.heap.get? b=some o->b∉X.ex->b∉ch:=λb o e hx hb=>by
  rcases(hch b hb).1 with z | z
  .exact hx z
  .exact absurd (j7 (r9 e) z) (u0J _)
 have cellK:∀ x c,X.env.cells.lookup x=some c->∀ v,s.heap.IsCell c v->h'.IsCell c v:=λx c e v ⟨o,ho,hd⟩=>by
  have nch:c∉ch:=λz=>(hch c z).2.2.1 x c e rfl
  by_cases hc:c∈X.fs
  .obtain⟨sl,q⟩:=slot c o (I.cne x c e) hc nch ho (I.freeC x c e)
   exact⟨_,q,hd⟩
  .exact⟨o,keep c o (I.cne x c e) hc nch ho (I.freeC x c e),hd⟩
 refine⟨I.ok,I.os,hg,⟨λb o e n hb hx=>?_,λb o e n hb hx=>?_,λb o e n hx=>?_,λb o e hx=>?_,λb xs e=>tups b xs (I.base.tups b xs e),λb o xs e=>frzs b o xs (I.base.frzs b o xs e),λb ps e=>?_⟩,?_,λx c e=>?_,?_,λx c e=>?_,λp hp=>?_,hok,I.len⟩
 .exact keep b o (neL b o e) hb (neC b o e hx) (I.base.keep b o e n hb hx) (I.base.free b o e n hx)
 .obtain⟨sl,e1⟩:=I.base.slot b o e n hb hx
  obtain⟨sl',e2⟩:=slot b _ (neL b o e) hb (neC b o e hx) e1 (I.base.free b o e n hx)
  exact⟨sl',e2⟩
 .obtain⟨o',e1⟩:=I.base.there b o e hx
  exact free b o' (neC b o e hx) e1 (I.base.free b o e n hx)
 .obtain⟨o',e1⟩:=I.base.there b o e hx
  exact there b o' (neC b o e hx) e1
 .exact tbls b _ (I.base.tbls b ps e)
 .obtain⟨m,hn,hl⟩:=I.loc
  refine⟨m,ns m hn,λi x v e1 e2 e3=>?_⟩
  obtain⟨u,r,l⟩:=hl i x v e1 e2 e3
  refine⟨u,r,?_⟩
  rcases l with l | ⟨k,c,e,z⟩
  .exact .inl l
  .exact .inr ⟨k,c,e,cellK x c e _ z⟩
 .obtain⟨v,z⟩:=I.cell x c e
  exact⟨v,cellK x c e v z⟩
 .obtain⟨m,⟨o,_,_,ho,_⟩,_⟩:=I.loc
  exact free _ o (λz=>(hch _ z).2.1 rfl) ho I.free
 .obtain⟨v,o,ho,hd⟩:=I.cell x c e
  exact free c o (λz=>(hch c z).2.2.1 x c e rfl) ho (I.freeC x c e)
 .obtain⟨e,n,ne,nf,d⟩:=I.pin p hp
  have nch:p.1∉ch:=λz=>(hch p.1 z).2.2.2 p hp rfl
  exact⟨keep p.1 p.2 ne nf nch e n,free p.1 p.2 nch e n,ne,nf,d⟩
theorem Inv.un {t':Nat}(I:Inv X pins σ H s)(u:Un X.fs [] H H' s.heap h')(hok:HOk X.prog X.w H' h'):Inv X pins σ H' { s with heap:=h',toks:=t' }:=by
 obtain⟨m,⟨o,es,ep,ho,r⟩,_⟩:=id I.loc
 obtain⟨sl,hL⟩:=u.any ho I.free (by simp)
 exact I.step (g':=s.gens) (d':=s.drawn) (ch:=[]) (λ_ z=>nomatch z) (λb o _ hb _ e n=>u.keep b o e n hb (by simp)) (λb o _ hb _ e n=>u.slot b o e n hb (by simp)) (λb o _ e n=>u.free b o e n (by simp)) (λb o _ e=>u.there b o e (by simp)) u.tups u.frzs u.tbls (λm' hm=>by
  obtain⟨o',es',ep',ho',r'⟩:=hm
  rw[ho]at ho';cases ho'
  exact⟨_,es',ep',hL,r'⟩) hok I.bare
theorem Inv.call {g':Array GenState}{t':Nat}{d':Drawn}{ch:List Addr}(I:Inv X pins σ H s)(u:Un (frs X.stack) ch H H' s.heap h')(hok:HOk X.prog X.w H' h')(hg:AllBare g')
 (hch:∀ b∈ch,(b∈X.ex\/X.s₀.heap.objs.size<=b)/\b≠X.env.locals/\(∀ x c,X.env.cells.lookup x=some c->c≠b)/\∀ p∈X.pn++pins,p.1≠b) :
 Inv X pins σ H' { s with heap:=h',gens:=g',drawn:=d',toks:=t' }:=by
 obtain⟨m,⟨o,es,ep,ho,r⟩,_⟩:=id I.loc
 obtain⟨sl,hL⟩:=u.any ho I.free λz=>(hch _ z).2.1 rfl
 exact I.step (ch:=ch) hch (λb o hL hb hc e n=>u.keep b o e n (λz=>(n8.mp (I.stkSub b z)).elim hL hb) hc) (λb o _ _ hc e n=>u.any e n hc) (λb o hc e n=>u.free b o e n hc) (λb o hc e=>u.there b o e hc) u.tups u.frzs u.tbls (λm' hm=>by
  obtain⟨o',es',ep',ho',r'⟩:=hm
  rw[ho]at ho';cases ho'
  exact⟨_,es',ep',hL,r'⟩) hok hg
theorem Inv.turned {t':Nat}{it:Addr}(I:Inv X pins σ H s)(k:∀ b o,b≠it->s.heap.get? b=some o->h'.get? b=some o)(hn:H it=none)(hL:it≠X.env.locals)
 (h1:it∈X.ex\/X.s₀.heap.objs.size<=it) (h2:∀ x c,X.env.cells.lookup x=some c->c≠it) (h3:∀ p∈X.pn++pins,p.1≠it):Inv X pins σ H { s with heap:=h',toks:=t' }:=by
 have nit:∀ b u,H b=some u->b≠it:=λb u e z=>by rw[z,hn]at e;cases e
 refine I.step (g':=s.gens) (d':=s.drawn) (ch:=[it]) (λb hb=>?_) (λb o _ _ hc e _=>k b o (λz=>hc (by simp[z])) e) (λb o _ _ hc e _=>⟨o.slots,k b o (λz=>hc (by simp[z])) e⟩) (λ_ _ _ _ n=>n)
  (λb o hc e=>⟨o,k b o (λz=>hc (by simp[z])) e⟩) (λ_ _ e=>e) (λ_ _ _ e=>e) (λ_ _ e=>e) (λm hm=>?_) (λb u e=>?_) I.bare
 .have e:b=it:=by simpa using hb
  subst e
  exact⟨h1,hL,h2,h3⟩
 .obtain⟨o,es,ep,ho,r⟩:=hm
  exact⟨o,es,ep,k _ o (u1S hL) ho,r⟩
 .refine(I.hok b u e).stay (λc v hc q=>k c v ?_ q) (λ_ q=>q) λ_ _ q=>q
  rcases hc with z | z
  .rw[z];exact nit b u e
  .exact nit c _ z
theorem Inv.tok (I:Inv X pins σ H s)(t:Nat):Inv X pins σ H { s with toks:=t }:=I.un (h':=s.heap) (t':=t) Un.refl I.hok
theorem Inv.kept {t':Nat}(I:Inv X pins σ H s)(k:∀ b u,s.heap.get? b=some u->h'.get? b=some u):Inv X pins σ H { s with heap:=h',toks:=t' }:=I.un (Un.kept k) (I.hok.kept k)
theorem Inv.laid {a:Addr}{o:HO}{t':Nat}(I:Inv X pins σ H s)(k:∀ b u,s.heap.get? b=some u->h'.get? b=some u)(hp:s.heap.objs.size<=a)(new:xR X.prog X.w (upd H a o) h' a o) :
 Inv X pins σ (upd H a o) { s with heap:=h',toks:=t' }:=I.un (Un.laid k hp (I.hok.fresh hp)) (I.hok.laid k hp new)
theorem Inv.write {x e:Addr}{o:HO}{t':Nat}(I:Inv X pins σ H s)(mu:Mut (H x))(he:e=x\/H e=some (.own x))(k:∀ b u,b≠e->s.heap.get? b=some u->h'.get? b=some u)(heo:∃ u,h'.get? e=some u)
 (new:xR X.prog X.w (upd H x o) h' x o):Inv X pins σ (upd H x o) { s with heap:=h',toks:=t' }:=I.un (Un.write mu he k heo) (I.hok.write mu he k heo new)
theorem Inv.weak {σ':List (Option V)}(I:Inv X pins σ H s)(hl:σ'.length=σ.length)(w:∀ (i:Nat) v,σ'[i]?=some (some v)->σ[i]?=some (some v)):Inv X pins σ' H s :=
 ⟨I.ok,I.os,I.bare,I.base,let ⟨m,hn,hl'⟩:=I.loc;⟨m,hn,λi x v e1 e2 e3=>hl' i x v e1 (w i v e2) e3⟩,I.cell,I.free,I.freeC,I.pin,I.hok,hl.trans I.len⟩
theorem Inv.pins_of {pins':List (Addr × Obj)}(I:Inv X pins σ H s)(h:∀ p∈pins',s.heap.get? p.1=some p.2/\H p.1=none/\p.1≠X.env.locals/\p.1∉X.fs/\∀ v,p.2.data≠.cell v):Inv X pins' σ H s :=
 ⟨I.ok,I.os,I.bare,I.base,I.loc,I.cell,I.free,I.freeC,λp hp=>(u0p.mp hp).elim (λz=>I.pin p (u1q _ z)) (h p),I.hok,I.len⟩
theorem zd1 {N:List Str}(hN:N.Nodup){i j:Nat}{x:Str}(a:N[i]?=some x)(b:N[j]?=some x):i=j:=by
 obtain⟨h1,e1⟩:=t8.mp a
 obtain⟨h2,e2⟩:=t8.mp b
 exact(u2d hN).mp (e1.trans e2.symm)
theorem zgj {M:Model}{A:Around}{E:Value->Shared->Prop}{i:Nat}{x:Str}{v:V}{u:Value}{Q:Unit->Shared->Prop}(I:Inv X pins σ H s)(hN:X.N.Nodup)(hi:X.N[i]?=some x)(hx:Loc X.env.scope x)(r:xt v u)
 (h:∀ s',Inv X pins (σ.set i (some v)) H s'->(∃ a,Heap.SameBut a s.heap s'.heap/\(a=X.env.locals\/X.env.cells.lookup x=some a))->Q () s') (hf:X.fn x=true\/X.env.scope.names.lookup x=some .local:=by first | exact .inl rfl | exact .inr rfl | assumption):wpAny M A (storeName X.env x u) Q E s:=by
 obtain⟨m,hn,hl⟩:=id I.loc
 have hcls:(X.env.scope.kind == .class||(X.env.scope.kind == .module&&X.env.locals != X.env.globals))=false:=by rw[I.ok.kind];rfl
 have hiσ:i < σ.length:=by rw[I.len];exact(t8.mp hi).1
 have cne:=I.cne
 have tracked:∀ {a:Addr} {h':Heap},(∃ o,s.heap.get? a=some o/\H a=none)->Heap.SameBut a s.heap h'->HOk X.prog X.w H h':=λ{a h'} ha hs b ob e=>by
  obtain⟨_,_,hfree⟩:=ha
  refine(I.hok b ob e).stay (λc w' hc q=>(hs.2 c ?_).trans q) (λ_ q=>q) λ_ _ q=>q
  rintro rfl
  rcases hc with rfl | hc
  .rw[hfree]at e;cases e
  .rw[hfree]at hc;cases hc
 rcases hx with hk | hk
 .refine wpAny_storeName_local hk hn (λh' hn' hs=>?_) hcls
  obtain⟨oL,_,_,hoL,_⟩:=id hn
  refine h _ ⟨I.ok,I.os,I.bare,⟨λb o e n hb hx=>?_,λb o e n hb hx=>?_,I.base.free,λb o e hx=>?_,I.base.tups,I.base.frzs,I.base.tbls⟩,⟨_,hn',λj y v' e1 e2 e3=>?_⟩,λy c e=>?_,I.free,I.freeC,λp hp=>?_,tracked ⟨oL,hoL,I.free⟩ hs,by simpa using I.len⟩ ⟨_,hs,.inl rfl⟩
  .exact(hs.2 b (g9 (j7 (r9 e) I.ok.above))).trans (I.base.keep b o e n hb hx)
  .obtain⟨sl,e1⟩:=I.base.slot b o e n hb hx
   exact⟨sl,(hs.2 b (g9 (j7 (r9 e) I.ok.above))).trans e1⟩
  .obtain⟨o',e1⟩:=I.base.there b o e hx
   exact⟨o',(hs.2 b (g9 (j7 (r9 e) I.ok.above))).trans e1⟩
  .by_cases hj:j=i
   .subst hj
    rw[hi]at e1;cases e1
    rw[u0B hiσ]at e2
    cases e2
    exact⟨u,r,.inl ⟨hk,by simp⟩⟩
   .rw[d8 (u1S hj)]at e2
    obtain⟨u',r',q⟩:=hl j y v' e1 e2 e3
    refine⟨u',r',?_⟩
    rcases q with ⟨k,e⟩ | ⟨k,c,e,z⟩
    .refine .inl ⟨k,?_⟩
     have:y≠x:=λe=>hj (zd1 hN e1 (e ▸ hi))
     simp[this,e]
    .exact .inr ⟨k,c,e,z.sameBut hs (cne y c e)⟩
  .obtain⟨w',z⟩:=I.cell y c e
   exact⟨w',z.sameBut hs (cne y c e)⟩
  .obtain⟨e,n,ne,nf,d⟩:=I.pin p hp
   exact⟨(hs.2 p.1 ne).trans e,n,ne,nf,d⟩
 .have hfn:X.fn x=true:=by
   rcases hf with z | z
   .exact z
   .rw[z]at hk;cases hk
  obtain⟨c,hc⟩:=I.ok.has x (.inl hk)
  obtain⟨w',z⟩:=I.cell x c hc
  refine wpAny_storeName_cell I.ok.kind hk hc z (λh' hc' hs=>?_)
  obtain⟨oc,hoc,hocd⟩:=id z
  refine h { s with heap:=h' } ⟨I.ok,I.os,I.bare,⟨λb o e n hb hx=>?_,λb o e n hb hx=>?_,I.base.free,λb o e hx=>?_,I.base.tups,I.base.frzs,I.base.tbls⟩,⟨m,hn.sameBut hs (u1S (cne x c hc)),λj y v' e1 e2 e3=>?_⟩,λy c' e=>?_,I.free,I.freeC,λp hp=>?_,tracked ⟨oc,hoc,I.freeC x c hc⟩ hs,by simpa using I.len⟩ ⟨c,hs,.inr hc⟩
  .exact(hs.2 b (g9 (j7 (r9 e) (I.ok.cab x c hfn hc)))).trans (I.base.keep b o e n hb hx)
  .obtain⟨sl,e1⟩:=I.base.slot b o e n hb hx
   exact⟨sl,(hs.2 b (g9 (j7 (r9 e) (I.ok.cab x c hfn hc)))).trans e1⟩
  .obtain⟨o',e1⟩:=I.base.there b o e hx
   exact⟨o',(hs.2 b (g9 (j7 (r9 e) (I.ok.cab x c hfn hc)))).trans e1⟩
  .by_cases hj:j=i
   .subst hj
    rw[hi]at e1;cases e1
    rw[u0B hiσ]at e2
    cases e2
    exact⟨u,r,.inr ⟨.inl hk,c,hc,hc'⟩⟩
   .rw[d8 (u1S hj)]at e2
    obtain⟨u',r',q⟩:=hl j y v' e1 e2 e3
    refine⟨u',r',?_⟩
    rcases q with q | ⟨k,c',e,z'⟩
    .exact .inl q
    .refine .inr ⟨k,c',e,z'.sameBut hs ?_⟩
     rintro rfl
     exact hj (zd1 hN e1 (I.ok.inj _ _ _ e hc ▸ hi))
  .by_cases hcc:c'=c
   .subst hcc;exact⟨_,hc'⟩
   .obtain⟨w2,z2⟩:=I.cell y c' e
    exact⟨w2,z2.sameBut hs hcc⟩
  .obtain⟨e,n,ne,nf,d⟩:=I.pin p hp
   refine⟨(hs.2 p.1 ?_).trans e,n,ne,nf,d⟩
   intro q
   rw[q,hoc]at e
   have q':oc=p.2:=u0j e
   exact d w' (by rw[<-q'];exact hocd)
theorem zdE {M:Model}{A:Around}{E:Value->Shared->Prop}{i:Nat}{x:Str}{v:V}{u:Value}{Q:Unit->Shared->Prop}(I:Inv X pins σ H s)(hN:X.N.Nodup)(hi:X.N[i]?=some x)(hx:Loc X.env.scope x)(r:xt v u)
 (h:∀ s',Inv X pins (σ.set i (some v)) H s'->Q () s') (hf:X.fn x=true\/X.env.scope.names.lookup x=some .local:=by first | exact .inl rfl | exact .inr rfl | assumption):wpAny M A (storeName X.env x u) Q E s :=
 zgj I hN hi hx r (λs' I' _=>h s' I') hf
theorem Inv.call' {s':Shared}{ch:List Addr}(I:Inv X pins σ H s)(ho:s'.os=s.os)(u:Un (frs X.stack) ch H H' s.heap s'.heap)(hok:HOk X.prog X.w H' s'.heap)(hg:AllBare s'.gens)
 (hch:∀ b∈ch,(b∈X.ex\/X.s₀.heap.objs.size<=b)/\b≠X.env.locals/\(∀ x c,X.env.cells.lookup x=some c->c≠b)/\∀ p∈X.pn++pins,p.1≠b):Inv X pins σ H' s':=by
 obtain⟨h',g',d',t',o'⟩:=s'
 have e:o'=s.os:=ho
 subst e
 exact I.call (g':=g') (t':=t') (d':=d') u hok hg hch
end
abbrev XK:=Value->Option Addr->Hp->Prop
abbrev St:=List (Option V)
abbrev VK:=V->Hp->Prop
abbrev TE:=St->Hp->VK->Prop
abbrev TT:=St->Hp->(Bool->Hp->Prop)->Prop
abbrev TA:=St->Hp->(List V->Hp->Prop)->Prop
structure zgO where
 nx:St->Hp->Prop
 rt:VK
 bk:St->Hp->Prop:=λ_ _=>False
 ct:St->Hp->Prop:=λ_ _=>False
abbrev TS:=zgO->St->Hp->Prop
def EP (X:Cx)(pins:List (Addr × Obj))(σ:St)(Q:VK)(u:Value)(s':Shared):Prop:=∃ v H',Inv X pins σ H' s'/\xt v u/\Q v H'
def TP (X:Cx)(pins:List (Addr × Obj))(σ:St)(Q:Bool->Hp->Prop)(b:Bool)(s':Shared):Prop:=∃ H',Inv X pins σ H' s'/\Q b H'
def AP (X:Cx)(pins:List (Addr × Obj))(σ:St)(Q:List V->Hp->Prop)(us:List Value)(s':Shared):Prop:=∃ vs H',Inv X pins σ H' s'/\yl vs us/\Q vs H'
def SP (X:Cx)(pins:List (Addr × Obj))(D:zgO)(f:Flow)(s':Shared):Prop :=
 match f with
 | .next=>∃ σ' H',Inv X pins σ' H' s'/\D.nx σ' H'
 | .brk=>∃ σ' H',Inv X pins σ' H' s'/\D.bk σ' H'
 | .cont=>∃ σ' H',Inv X pins σ' H' s'/\D.ct σ' H'
 | .ret u=>∃ v σ' H',Inv X pins σ' H' s'/\xt v u/\D.rt v H'
def PE (X:Cx)(e:Expr)(t:TE):Prop :=
 ∀ (pins:List (Addr × Obj)) (s:Shared) (σ:St) (H:Hp) (Q:VK),Inv X pins σ H s->t σ H Q->wpAny (model X.prog X.w) X.A (eval e X.env) (EP X pins σ Q) X.xe s
def PT (X:Cx)(e:Expr)(t:TT):Prop :=
 ∀ (pins:List (Addr × Obj)) (s:Shared) (σ:St) (H:Hp) (Q:Bool->Hp->Prop),Inv X pins σ H s->t σ H Q->wpAny (model X.prog X.w) X.A (isTrue e X.env (eval e X.env)) (TP X pins σ Q) X.xe s
def PW (X:Cx)(e:Expr)(t:TT):Prop :=
 ∀ (whole:Sem Value) (pins:List (Addr × Obj)) (s:Shared) (σ:St) (H:Hp) (Q:Bool->Hp->Prop),Inv X pins σ H s->t σ H Q->wpAny (model X.prog X.w) X.A (isTrue e X.env whole) (TP X pins σ Q) X.xe s
theorem PW.pt {X:Cx}{e:Expr}{t:TT}(h:PW X e t):PT X e t:=h _
def PA (X:Cx)(es:List Expr)(t:TA):Prop :=
 ∀ (pos:Pos) (pins:List (Addr × Obj)) (s:Shared) (σ:St) (H:Hp) (Q:List V->Hp->Prop),Inv X pins σ H s->t σ H Q->wpAny (model X.prog X.w) X.A (spliced (backTo pos (starEach es X.env))) (AP X pins σ Q) X.xe s
def PS (X:Cx)(st:Stmt)(t:TS):Prop :=
 ∀ (pins:List (Addr × Obj)) (s:Shared) (σ:St) (H:Hp) (D:zgO),Inv X pins σ H s->t D σ H->wpAny (model X.prog X.w) X.A (exec st X.env) (SP X pins D) X.xe s
def PSs (X:Cx)(st:List Stmt)(t:TS):Prop :=
 ∀ (pins:List (Addr × Obj)) (s:Shared) (σ:St) (H:Hp) (D:zgO),Inv X pins σ H s->t D σ H->wpAny (model X.prog X.w) X.A (execs st X.env) (SP X pins D) X.xe s
theorem thn {α:Type}{t:Sem α}{Q Q':α->Shared->Prop}{M:Model}{A:Around}{E:Value->Shared->Prop}{s:Shared}(h:wpAny M A t Q E s)(hQ:∀ a s,Q a s->Q' a s):wpAny M A t Q' E s:=u0K h hQ λ_ _ x=>x
section
variable {X:Cx}
theorem bin {a b:Expr}{ta tb:TE}(ha:PE X a ta)(hb:PE X b tb){pins:List (Addr × Obj)}{s:Shared}{σ:St}{H:Hp}{R:V->V->Hp->Prop}(I:Inv X pins σ H s)(h:ta σ H λx H1=>tb σ H1 λy H2=>R x y H2)
 {α:Type} {Q:α->Shared->Prop} {f:Value->Value->Sem α}
 (hf:∀ v u s2 x y H2,Inv X pins σ H2 s2->xt x v->xt y u->R x y H2->wpAny (model X.prog X.w) X.A (f v u) Q X.xe s2) :
 wpAny (model X.prog X.w) X.A (eval a X.env) (λv s₁=>wpAny (model X.prog X.w) X.A (eval b X.env) (λu s₂=>wpAny (model X.prog X.w) X.A (f v u) Q X.xe s₂) X.xe s₁) X.xe s:=by
 refine thn (ha pins s σ H _ I h) λv s1 hh9=>?_
 obtain⟨x,H1,I1,r1,q1⟩:=hh9
 refine thn (hb pins s1 σ H1 _ I1 q1) λu s2 hh9=>?_
 obtain⟨y,H2,I2,r2,q2⟩:=hh9
 exact hf v u s2 x y H2 I2 r1 r2 q2
def zhK (i:Nat):TE:=fun σ H Q=>∃ v,σ[i]?=some (some v)/\Q v H
def tC (v:V):TE:=λ_ H Q=>Q v H
theorem zld {i:Nat} {x:Str} {pos:Pos} (hN:X.N[i]?=some x) (hv:Vis X.env.scope x) (hd:(x == ("__debug__":Str))=false:=by decide) (hcd:(x == ("__classdict__":Str))=false:=by decide):PE X (.Name x pos) (zhK i):=by
 intro pins s σ H Q I h
 obtain⟨v,e,h⟩:=h
 obtain⟨m,hn,hl⟩:=I.loc
 obtain⟨u,r,l⟩:=hl i x v hN e hv
 have fin:EP X pins σ Q u s:=⟨v,H,I,r,h⟩
 rcases l with ⟨hk,hm⟩ | ⟨hk,c,hc,hcell⟩
 .exact wpAny_Name (wpAny_loadName_local I.ok.kind hk hn hm fin) hd
 .rcases hk with hk | hk
  .exact wpAny_Name (wpAny_loadName_cell I.ok.kind hk hc hcell fin) hd
  .exact wpAny_Name (wpAny_loadName_free I.ok.kind hk hc hcell fin hcd) hd
theorem zh {i j pos}:PE X (.Constant (.int i) j pos) (tC (.int i)):=λ_ _ _ H _ I h=>wpAny_Constant_int ⟨.int i,H,I.tok _,⟨_,rfl⟩,h⟩
theorem Z6 {b j pos}:PE X (.Constant (.bool b) j pos) (tC (.bl b)):=λ_ _ _ H _ I h=>Constant_bool ⟨.bl b,H,I,rfl,h⟩
theorem WN {j pos}:PE X (.Constant .none j pos) (tC .non):=λ_ _ _ H _ I h=>Constant_none ⟨.non,H,I,rfl,h⟩
def Gl (X:Cx)(x:Str):Prop:=X.env.kindOf x=some .globalImplicit
theorem zfq {E:Value->Shared->Prop}{pins:List (Addr × Obj)}{s:Shared}{σ:St}{H:Hp}{x:Str}{u:Value}{pos:Pos}{Q:Value->Shared->Prop}(I:Inv X pins σ H s)(hg:Gl X x)(hm:X.mg x=some u)(h:Q u s)
 (hd:(x == ("__debug__":Str))=false:=by decide):wpAny (model X.prog X.w) X.A (eval (.Name x pos) X.env) Q E s :=
 Calls.Name_function_global I.ok.kind hg (Calls.loadGlobal_global (by rw[I.ok.glob];exact I.mod.glob.keeps I.bk) hm h) hd
theorem Zu {E:Value->Shared->Prop}{pins:List (Addr × Obj)}{s:Shared}{σ:St}{H:Hp}{x:Str}{u:Value}{pos:Pos}{Q:Value->Shared->Prop}(I:Inv X pins σ H s)(hg:Gl X x)(hm:X.mg x=none)(hv:bootBuiltins x=some u)(h:Q u s)
 (hn:x≠"__name__":=by decide) (hd:(x == ("__debug__":Str))=false:=by decide):wpAny (model X.prog X.w) X.A (eval (.Name x pos) X.env) Q E s:=by
 obtain⟨mb,h1,h2⟩:=I.mod.blt
 exact Calls.Name_function_global I.ok.kind hg (Calls.loadGlobal_builtin (by rw[I.ok.glob];exact I.mod.glob.keeps I.bk) hm (by rw[I.ok.blt];exact h1.keeps I.bk) ((h2 x hn).trans hv) h) hd
theorem zfT {x:Str} {v:V} {u:Value} {pos:Pos} (hg:Gl X x) (hm:X.mg x=some u) (r:xt v u) (hd:(x == ("__debug__":Str))=false:=by decide):PE X (.Name x pos) (tC v) :=
 λ_ _ _ H _ I h=>zfq I hg hm ⟨v,H,I,r,h⟩ hd
theorem ZK {x:Str} {v:V} {u:Value} {pos:Pos} (hg:Gl X x) (hm:X.mg x=none) (hv:bootBuiltins x=some u) (r:xt v u) (hn:x≠"__name__":=by decide) (hd:(x == ("__debug__":Str))=false:=by decide):PE X (.Name x pos) (tC v) :=
 λ_ _ _ H _ I h=>Zu I hg hm hv ⟨v,H,I,r,h⟩ hn hd
variable {a b:Expr}{ta tb:TE}{pos:Pos}
def PC (X:Cx)(op:CmpOp)(a b:Expr)(t:TE):Prop :=
 ∀ (pins:List (Addr × Obj)) (s:Shared) (σ:St) (H:Hp) (Q:VK),Inv X pins σ H s->t σ H Q ->
  wpAny (model X.prog X.w) X.A (eval a X.env) (λv s₁=>wpAny (model X.prog X.w) X.A (eval b X.env) (λu s₂=>wpAny (model X.prog X.w) X.A (compareOp op v u) (EP X pins σ Q) X.xe s₂) X.xe s₁) X.xe s
theorem zir (b:Expr){op:CmpOp}(h:op≠.In)(h2:op≠.NotIn):behindInMarks op b=false:=by
 have e1:(op == CmpOp.In)=false:=by cases op <;> first | rfl | exact absurd rfl h
 have e2:(op == CmpOp.NotIn)=false:=by cases op <;> first | rfl | exact absurd rfl h2
 cases b <;> simp[behindInMarks,e1,e2]
def tB (t:TE):TT:=fun σ H Q=>t σ H λx H1=>∃ c,x=.bl c/\Q c H1
theorem pt_cmp {op:CmpOp}{t:TE}(h:PC X op a b t)(h1:behindInMarks op b=false:=by first | exact zir _ (by decide) (by decide) | rfl):PT X (.Compare a [op] [b] pos) (tB t):=by
 intro pins s σ H Q I hw
 refine wpAny_isTrue_Compare1 (thn (h pins s σ H _ I hw) λv s1 h1=>thn h1 λu s2 h2=>thn h2 λc s3 hh9=>?_) h1
 obtain⟨x,H1,I1,r1,q1⟩:=hh9
 obtain⟨d,rfl,q⟩:=q1
 cases r1
 exact u0x ⟨H1,I1,q⟩
theorem zlF {e:Expr}{t:TE}(h:PE X e t)(he:∀ whole,isTrue e X.env whole=(do let v<-whole;standAt e.pos;holding [v] (truthy v)):=by intro _;rfl):PT X e (tB t):=by
 intro pins s σ H Q I hw
 refine isTrue_plain (thn (h pins s σ H _ I hw) λv s1 hh9=>?_) (he _)
 obtain⟨x,H1,I1,r1,q1⟩:=hh9
 obtain⟨d,rfl,q⟩:=q1
 cases r1
 exact u0x ⟨H1,I1,q⟩
variable {tA tB':TT}{rest:List Expr}
def tAnd (t u:TT):TT:=fun σ H Q=>t σ H λc H1=>if c=true then u σ H1 Q else Q false H1
def tOr (t u:TT):TT:=fun σ H Q=>t σ H λc H1=>if c=true then Q true H1 else u σ H1 Q
def tNot (t:TT):TT:=fun σ H Q=>t σ H λc H1=>Q (!c) H1
theorem zjV (ha:PT X a tA):PW X (.BoolOp .And [a] pos) tA:=by
 intro wh pins s σ H Q I h
 refine isTrue_and (thn (ha pins s σ H Q I h) λc s1 e=>?_)
 cases c with
 | true=>exact isTrue_and_nil e
 | false=>exact e
theorem zk7 (ha:PT X a tA):PW X (.BoolOp .Or [a] pos) tA:=by
 intro wh pins s σ H Q I h
 refine isTrue_or (thn (ha pins s σ H Q I h) λc s1 e=>?_)
 cases c with
 | false=>exact isTrue_or_nil e
 | true=>exact e
theorem zk1 (ha:PT X a tA)(hb:PW X (.BoolOp .And (b::rest) pos) tB'):PW X (.BoolOp .And (a::b::rest) pos) (tAnd tA tB'):=by
 intro wh pins s σ H Q I h
 refine isTrue_and (thn (ha pins s σ H _ I h) λc s1 hh9=>?_)
 obtain⟨H1,I1,q1⟩:=hh9
 cases c with
 | true=>exact hb wh pins s1 σ H1 Q I1 q1
 | false=>exact⟨H1,I1,q1⟩
theorem zm8 (ha:PT X a tA)(hb:PW X (.BoolOp .Or (b::rest) pos) tB'):PW X (.BoolOp .Or (a::b::rest) pos) (tOr tA tB'):=by
 intro wh pins s σ H Q I h
 refine isTrue_or (thn (ha pins s σ H _ I h) λc s1 hh9=>?_)
 obtain⟨H1,I1,q1⟩:=hh9
 cases c with
 | true=>exact⟨H1,I1,q1⟩
 | false=>exact hb wh pins s1 σ H1 Q I1 q1
theorem zmc (ha:PT X a tA):PT X (.UnaryOp .Not a pos) (tNot tA):=by
 intro pins s σ H Q I h
 exact isTrue_not (ha pins s σ H (λc H1=>Q (!c) H1) I h)
def znu (ta tb:TE):TE:=fun σ H Q=>ta σ H λx H1=>∃ c,x=.bl c/\if c=true then tb σ H1 Q else Q (.bl false) H1
def zm4 (ta:TE):TE:=fun σ H Q=>ta σ H λx H1=>∃ c,x=.bl c/\Q (.bl (!c)) H1
theorem zk8 {op}{t:TE}(h:PE X a t):PE X (.BoolOp op [a] pos) t:=λpins s σ H Q I hw=>BoolOp_one (h pins s σ H Q I hw)
theorem zk4 (ha:PE X a ta)(hb:PE X (.BoolOp .And (b::rest) pos) tb):PE X (.BoolOp .And (a::b::rest) pos) (znu ta tb):=by
 intro pins s σ H Q I h
 refine BoolOp_and (thn (ha pins s σ H _ I h) λv s1 hh9=>?_)
 obtain⟨x,H1,I1,r1,q1⟩:=hh9
 obtain⟨c,rfl,q1⟩:=q1
 cases r1
 refine u0x ?_
 cases c with
 | true=>exact hb pins s1 σ H1 Q I1 q1
 | false=>exact⟨.bl false,H1,I1,rfl,q1⟩
theorem zlx (ha:PE X a ta):PE X (.UnaryOp .Not a pos) (zm4 ta):=by
 intro pins s σ H Q I h
 refine UnaryOp_ (thn (ha pins s σ H _ I h) λv s1 hh9=>?_)
 obtain⟨x,H1,I1,r1,q1⟩:=hh9
 obtain⟨c,rfl,q1⟩:=q1
 cases r1
 exact not_of (u0x ⟨.bl (!c),H1,I1,rfl,q1⟩)
def tIf (t:TT)(ta tb:TE):TE:=fun σ H Q=>t σ H λc H1=>if c=true then ta σ H1 Q else tb σ H1 Q
theorem zhY {c:Expr}(hc:PT X c tA)(ha:PE X a ta)(hb:PE X b tb):PE X (.IfExp c a b pos) (tIf tA ta tb):=by
 intro pins s σ H Q I h
 refine wpAny_IfExp (thn (hc pins s σ H _ I h) λd s1 hh9=>?_)
 obtain⟨H1,I1,q1⟩:=hh9
 cases d with
 | true=>exact ha pins s1 σ H1 Q I1 q1
 | false=>exact hb pins s1 σ H1 Q I1 q1
end
def SqL (K:W.Frag)(H:Hp)(a:Addr)(xs:List V):Prop :=
 Rd H a (.lst xs) \/
  ∃ (o:Obj) (its:Array Value) (n:Nat),K.lookup a=some o/\o.cls=.type "list"/\o.dict=none/\o.data=.seq its n/\its.size<=sizeLine/\yl xs its.toList
def SqT (K:W.Frag)(H:Hp)(a:Addr)(xs:List V):Prop :=
 Rd H a (.tup xs) \/
  ∃ (o:Obj) (its:Array Value) (n:Nat),K.lookup a=some o/\o.cls=.type "tuple"/\o.data=.seq its n/\its.size<=sizeLine/\yl xs its.toList
def absV:Value->Option V
 | .none=>some .non
 | .bool b=>some (.bl b)
 | .int i _=>some (.int i)
 | .str x _=>some (.str x)
 | .bytes b _=>some (.byt b)
 | .float b _=>some (.flt b)
 | .ref a=>some (.ref a)
 | .type n=>some (.ty n)
 | _=>none
theorem xt.abs {x:V}{u:Value}(r:xt x u):absV u=some x:=by
 cases x with
 | non=>cases r;rfl
 | bl _=>cases r;rfl
 | int _=>obtain⟨t,rfl⟩:=r;rfl
 | str _=>obtain⟨t,rfl⟩:=r;rfl
 | byt _=>obtain⟨t,rfl⟩:=r;rfl
 | flt _=>obtain⟨t,rfl⟩:=r;rfl
 | ref _=>cases r;rfl
 | ty _=>cases r;rfl
theorem xt.inj {x y:V}{u:Value}(r:xt x u)(q:xt y u):x=y:=u0j (r.abs.symm.trans q.abs)
theorem yl.inj:∀ {xs ys:List V} {us:List Value},yl xs us->yl ys us->xs=ys:=by
 intro xs ys us h
 induction h generalizing ys with
 | nil=>intro h2;cases h2;rfl
 | cons r t ih=>intro h2;cases h2 with | cons r' t'=>rw[r.inj r',ih t']
section
variable {X:Cx}{pins:List (Addr × Obj)}{σ:St}{H:Hp}{s:Shared}{a:Addr}{xs ys:List V}
theorem SqL.of {K:W.Frag}(h:H a=some (.lst xs)):SqL K H a xs:=.inl (.inl h)
theorem SqT.of {K:W.Frag}(h:H a=some (.tup xs)):SqT K H a xs:=.inl (.inl h)
theorem Inv.list (I:Inv X pins σ H s)(h:SqL X.K H a xs):∃ its:List Value,yl xs its/\PlainL s.heap a its.toArray/\xs.length<=sizeLine:=by
 rcases h with h | ⟨o,its,n,hk,hc,hd,hs,hz,r⟩
 .obtain⟨z,its,n,r,e⟩:=h.ok I.hok
  exact⟨its,r,⟨_,n,e,rfl,rfl,rfl⟩,z⟩
 .refine⟨its.toList,r,⟨o,n,I.kIn a o hk,hc,hd,by simpa using hs⟩,?_⟩
  have e:=r.length
  simp only[u0O]at e
  omega
theorem Inv.tuple (I:Inv X pins σ H s)(h:SqT X.K H a xs):∃ its:List Value,yl xs its/\IsTup s.heap a its.toArray/\xs.length<=sizeLine:=by
 rcases h with h | ⟨o,its,n,hk,hc,hs,hz,r⟩
 .obtain⟨z,its,r,p⟩:=h.ok I.hok
  exact⟨its,r,p,z⟩
 .refine⟨its.toList,r,⟨o,I.kIn a o hk,hc,n,by simpa using hs⟩,?_⟩
  have e:=r.length
  simp only[u0O]at e
  omega
theorem Inv.list_inj (I:Inv X pins σ H s)(h:SqL X.K H a xs)(h':SqL X.K H a ys):xs=ys:=by
 obtain⟨its,r,⟨o,n,e,_,_,d⟩,_⟩:=I.list h
 obtain⟨its',r',⟨o',n',e',_,_,d'⟩,_⟩:=I.list h'
 rw[e]at e';cases e'
 rw[d]at d'
 injection d' with d1 _
 have:its=its':=by simpa using u0U Array.toList d1
 subst this
 exact r.inj r'
theorem Inv.tuple_inj (I:Inv X pins σ H s)(h:SqT X.K H a xs)(h':SqT X.K H a ys):xs=ys:=by
 obtain⟨its,r,⟨o,e,_,n,d⟩,_⟩:=I.tuple h
 obtain⟨its',r',⟨o',e',_,n',d'⟩,_⟩:=I.tuple h'
 rw[e]at e';cases e'
 rw[d]at d'
 injection d' with d1 _
 have:its=its':=by simpa using u0U Array.toList d1
 subst this
 exact r.inj r'
end
abbrev Cx.wish (X:Cx)(E:Value->Shared->Prop):Cx:={ X with xe:=E }
abbrev Cx.nox (X:Cx):Cx:=X.wish λ_ _=>False
theorem Cx.Ok.wish {X:Cx}(ok:X.Ok)(E:Value->Shared->Prop):(X.wish E).Ok :=
 ⟨ok.mod,ok.kind,ok.glob,ok.blt,ok.above,ok.inj,ok.has,ok.cab,ok.hd,ok.frames,ok.stk,ok.exf,ok.bs,ok.bsz,ok.noex,ok.exfs,ok.funs,ok.frf⟩
theorem Cx.Ok.unwish {X:Cx}{E:Value->Shared->Prop}(ok:(X.wish E).Ok):X.Ok :=
 ⟨ok.mod,ok.kind,ok.glob,ok.blt,ok.above,ok.inj,ok.has,ok.cab,ok.hd,ok.frames,ok.stk,ok.exf,ok.bs,ok.bsz,ok.noex,ok.exfs,ok.funs,ok.frf⟩
section
variable {X:Cx}{pins:List (Addr × Obj)}{σ:St}{H:Hp}{s:Shared}{E:Value->Shared->Prop}
theorem Inv.wish (I:Inv X pins σ H s)(E:Value->Shared->Prop):Inv (X.wish E) pins σ H s:=⟨I.ok.wish E,I.os,I.bare,I.base,I.loc,I.cell,I.free,I.freeC,I.pin,I.hok,I.len⟩
theorem Inv.unwish (I:Inv (X.wish E) pins σ H s):Inv X pins σ H s:=⟨I.ok.unwish,I.os,I.bare,I.base,I.loc,I.cell,I.free,I.freeC,I.pin,I.hok,I.len⟩
theorem SP.unwish {D:zgO}{f:Flow}{s':Shared}(h:SP (X.wish E) pins D f s'):SP X pins D f s':=by
 cases f with
 | next=>obtain⟨σ',H',I,q⟩:=h;exact⟨σ',H',I.unwish,q⟩
 | brk=>obtain⟨σ',H',I,q⟩:=h;exact⟨σ',H',I.unwish,q⟩
 | cont=>obtain⟨σ',H',I,q⟩:=h;exact⟨σ',H',I.unwish,q⟩
 | ret u=>obtain⟨v,σ',H',I,r,q⟩:=h;exact⟨v,σ',H',I.unwish,r,q⟩
theorem PSs.nox {st:List Stmt}{t:TS}(h:PSs X.nox st t):PSs X st t:=λpins s σ H D I hw =>
 u0K (h pins s σ H D (I.wish _) hw) (λ_ _ q=>q.unwish) λ_ _ z=>False.elim z
end
section
variable {X:Cx}{st:Stmt}{rest:List Stmt}{t u:TS}{e:Expr}{te:TE}{pos:Pos}
def znx:TS:=λD σ H=>D.nx σ H
def tSeq (t u:TS):TS:=λD σ H=>t { D with nx:=u D } σ H
theorem zjQ:PSs X [] znx:=λ_ _ σ H _ I h=>u2A ⟨σ,H,I,h⟩
theorem zd3 (h1:PS X st t)(h2:PSs X rest u):PSs X (st::rest) (tSeq t u):=by
 intro pins s σ H D I h
 refine wpAny_execs_cons (thn (h1 pins s σ H { D with nx:=u D } I h) λf s1 q=>?_)
 cases f with
 | next =>
  obtain⟨σ',H',I',q⟩:=q
  exact h2 pins s1 σ' H' D I' q
 | ret v=>exact q
 | brk=>exact q
 | cont=>exact q
theorem zf0 (h1:PS X st t):PSs X [st] t:=by
 intro pins s σ H D I h
 refine wpAny_execs_cons (thn (h1 pins s σ H D I h) λf s1 q=>?_)
 cases f with
 | next=>exact u2A q
 | ret v=>exact q
 | brk=>exact q
 | cont=>exact q
theorem Inv.quiet {pins:List (Addr × Obj)}{σ:St}{H:Hp}{s:Shared}(I:Inv X pins σ H s):interactive X.env=false:=by simp[interactive,I.ok.kind]
def znw (te:TE):TS:=λD σ H=>te σ H λ_ H1=>D.nx σ H1
theorem zbg (he:PE X e te)(hs:swapsWith e none pos.line X.env=pure false:=by rfl):PS X (.Expr e pos) (znw te):=by
 intro pins s σ H D I h
 exact wpAny_Expr_any (thn (he pins s σ H _ I h) λv s1 ⟨x,H1,I1,r1,q1⟩=>⟨σ,H1,I1,q1⟩) I.quiet hs
def tRet (te:TE):TS:=λD σ H=>te σ H D.rt
theorem zjm (he:PE X e te):PS X (.Return (some e) pos) (tRet te):=by
 intro pins s σ H D I h
 exact wpAny_Return_some (thn (he pins s σ H _ I h) λv s1 ⟨x,H1,I1,r1,q1⟩=>⟨x,σ,H1,I1,r1,q1⟩)
def tIfS (c:TT)(t u:TS):TS:=λD σ H=>c σ H λb H1=>if b=true then t D σ H1 else u D σ H1
theorem znl {c:Expr}{a b:List Stmt}{tc:TT}(hc:PT X c tc)(ha:PSs X a t)(hb:PSs X b u):PS X (.If c a b pos) (tIfS tc t u):=by
 intro pins s σ H D I h
 refine wpAny_If (thn (hc pins s σ H _ I h) λd s1 hh9=>?_)
 obtain⟨H1,I1,q1⟩:=hh9
 cases d with
 | true=>exact ha pins s1 σ H1 D I1 q1
 | false=>exact hb pins s1 σ H1 D I1 q1
def zmg:TS:=λ_ _ _=>False
theorem zib:PS X st zmg:=λ_ _ _ _ _ _ h=>h.elim
end
abbrev TG:=V->St->Hp->(St->Hp->Prop)->Prop
abbrev TGs:=List V->St->Hp->(St->Hp->Prop)->Prop
def PG (X:Cx)(target:Expr)(t:TG):Prop :=
 ∀ (pins:List (Addr × Obj)) (s:Shared) (σ:St) (H:Hp) (v:V) (u:Value) (Q:St->Hp->Prop),Inv X pins σ H s->xt v u->t v σ H Q ->
  wpAny (model X.prog X.w) X.A (assign target X.env u) (λ_ s'=>∃ σ' H',Inv X pins σ' H' s'/\Q σ' H') X.xe s
def PGs (X:Cx)(ts:List Expr)(t:TGs):Prop :=
 ∀ (pins:List (Addr × Obj)) (s:Shared) (σ:St) (H:Hp) (vs:List V) (us:List Value) (Q:St->Hp->Prop),Inv X pins σ H s->yl vs us->t vs σ H Q ->
  wpAny (model X.prog X.w) X.A (assignInOrder ((assignEach ts X.env).map (·.2)) us) (λ_ s'=>∃ σ' H',Inv X pins σ' H' s'/\Q σ' H') X.xe s
abbrev zmC:=V->V->V->Hp->(Hp->Prop)->Prop
def znq (X:Cx)(t:zmC):Prop :=
 ∀ (pins:List (Addr × Obj)) (s:Shared) (σ:St) (H:Hp) (o i v:V) (ov iv u:Value) (Q:Hp->Prop),Inv X pins σ H s->xt o ov->xt i iv->xt v u->t o i v H Q ->
  wpAny (model X.prog X.w) X.A (setItem ov iv u) (λ_ s'=>∃ H',Inv X pins σ H' s'/\Q H') X.xe s
abbrev TIp:=V->V->Hp->VK->Prop
def PIp (X:Cx)(op:Operator)(t:TIp):Prop :=
 ∀ (pins:List (Addr × Obj)) (s:Shared) (σ:St) (H:Hp) (x y:V) (v u:Value) (Q:VK),Inv X pins σ H s->xt x v->xt y u->t x y H Q ->
  wpAny (model X.prog X.w) X.A (inplaceOp op v u) (EP X pins σ Q) X.xe s
section
variable {X:Cx}{pos:Pos}
def X2 (i:Nat):TG:=λv σ H Q=>Q (σ.set i (some v)) H
theorem zz {i:Nat}{x:Str}(hN:X.N.Nodup)(hi:X.N[i]?=some x)(hx:Loc X.env.scope x)(hf:X.fn x=true\/X.env.scope.names.lookup x=some .local:=by first | exact .inl rfl | exact .inr rfl | assumption):PG X (.Name x pos) (X2 i):=by
 intro pins s σ H v u Q I r h
 exact wpAny_assign_Name (zdE I hN hi hx r (λs' I'=>⟨_,H,I',h⟩) hf)
def zmU:TGs:=λvs σ H Q=>vs=[]/\Q σ H
def zcU (t:TG)(u:TGs):TGs:=λvs σ H Q=>∃ v r,vs=v::r/\t v σ H fun σ' H'=>u r σ' H' Q
theorem zc8:PGs X [] zmU:=by
 intro pins s σ H vs us Q I r h
 obtain⟨e,h⟩:=h
 subst e
 cases r
 exact assignInOrder_nil ⟨σ,H,I,h⟩
theorem X8 {e:Expr}{es:List Expr}{t:TG}{u:TGs}(h1:PG X e t)(h2:PGs X es u)
 (hs:(assignEach (e::es) X.env).map (·.2)=assign e X.env::(assignEach es X.env).map (·.2):=by rfl):PGs X (e::es) (zcU t u):=by
 intro pins s σ H vs us Q I r h
 obtain⟨v,vr,e1,h⟩:=h
 subst e1
 cases r with
 | cons r rr =>
  rw[hs]
  refine assignInOrder_cons (thn (h1 pins s σ H _ _ _ I r h) λ_ s1 hh9=>?_)
  obtain⟨σ1,H1,I1,q1⟩:=hh9
  exact h2 pins s1 σ1 H1 _ _ Q I1 rr q1
def zm2 (K:W.Frag)(n:Nat)(t:TGs):TG:=λv σ H Q=>∃ a xs,v=.ref a/\SqT K H a xs/\xs.length=n/\t xs σ H Q
theorem zga {es:List Expr}{k:Nat}{t:TGs}{n:Nat}(hc:X.calm=true)(h:PGs X es t)
 (hn:(assignEach es X.env).length=n:=by rfl) (hst:(assignEach es X.env).findIdx? (·.1)=none:=by rfl):PG X (.Tuple es k pos) (zm2 X.K n t):=by
 intro pins s σ H v u Q I r hw
 obtain⟨a,xs,e1,hq,hl,hw⟩:=hw
 subst e1
 cases r
 obtain⟨its,rv,ht,hz⟩:=I.tuple hq
 refine assign_Tuple_tuple (I.ok.hd hc) ht (by simp[hn,<- hl,rv.length]) hst λh' hx=>?_
 have I1:Inv X pins σ H { s with heap:=h' }:=I.kept (t':=s.toks) λb o e=>hx b o (g9 (r9 e)) e
 exact h pins _ σ H xs _ Q I1 (by simpa using rv) hw
def gSub (to ti:TE)(t:zmC):TG:=λv σ H Q=>to σ H λo H1=>ti σ H1 λi H2=>t o i v H2 λH3=>Q σ H3
theorem zlY {o i:Expr}{to ti:TE}{t:zmC}(ho:PE X o to)(hi:PE X i ti)(hs:znq X t)
 (ha:∀ v,assign (.Subscript o i pos) X.env v=(do
  let ov<-holding [v] (eval o X.env)
  let iv<-holding [v,ov] (eval i X.env)
  standAt pos
  holding [v,ov,iv] (setItem ov iv v)
  release [v,ov,iv] []):=by intro _;rfl):PG X (.Subscript o i pos) (gSub to ti t):=by
 intro pins s σ H v u Q I r h
 rw[ha]
 refine u4 (u0T (thn (ho pins s σ H _ I h) λov s1 hh9=>?_))
 obtain⟨x,H1,I1,r1,q1⟩:=hh9
 refine u4 (u0T (thn (hi pins s1 σ H1 _ I1 q1) λiv s2 hh9=>?_))
 obtain⟨y,H2,I2,r2,q2⟩:=hh9
 refine u4 (wpAny_standAt (u4 (u0T (thn (hs pins s2 σ H2 x y v ov iv u _ I2 r1 r2 r q2) λ_ s3 hh9=>?_))))
 obtain⟨H3,I3,q3⟩:=hh9
 exact wpAny_release ⟨σ,H3,I3,q3⟩
def zm0 (te:TE)(g:TG):TS:=λD σ H=>te σ H λx H1=>g x σ H1 D.nx
theorem zlz {tg e:Expr}{te:TE}{g:TG}(he:PE X e te)(hg:PG X tg g)(hs:swapsWithSole [tg] e pos.line X.env=pure false:=by rfl)(hw:swappedStores [tg] e X.env=pure none:=by rfl)
 (h1:(assignEach [tg] X.env).map (·.2)=[assign tg X.env]:=by rfl):PS X (.Assign [tg] e pos) (zm0 te g):=by
 intro pins s σ H D I h
 refine wpAny_Assign_stores (thn (he pins s σ H _ I h) λv s1 hh9=>?_) hs hw
 obtain⟨x,H1,I1,r1,q1⟩:=hh9
 rw[h1]
 exact thn (hg pins s1 σ H1 x v _ I1 r1 q1) λ_ s2 q=>q
theorem zi5 {i:Nat}{x:Str}{e:Expr}{te:TE}{pos':Pos}(hN:X.N.Nodup)(hi:X.N[i]?=some x)(hx:Loc X.env.scope x)(he:PE X e te)(hs:swapsWith e (some (.Name x pos')) pos.line X.env=pure false:=by rfl)(hf:X.fn x=true\/X.env.scope.names.lookup x=some .local:=by first | exact .inl rfl | exact .inr rfl | assumption) :
 PS X (.Assign [.Name x pos'] e pos) (zm0 te (X2 i)):=by
 intro pins s σ H D I h
 refine wpAny_Assign_Name (thn (he pins s σ H _ I h) λv s1 hh9=>?_) hs
 obtain⟨y,H1,I1,r1,q1⟩:=hh9
 exact zdE I1 hN hi hx r1 (λs2 I2=>⟨_,H1,I2,q1⟩) hf
def znP (to ti te:TE)(tget:V->V->Hp->VK->Prop)(tip:TIp)(tset:zmC):TS:=λD σ H=>to σ H λo H1=>ti σ H1 λi H2=>tget o i H2 λx H3=>te σ H3 λy H4=>tip x y H4 λz H5=>tset o i z H5 λH6=>D.nx σ H6
def PGet (X:Cx)(t:V->V->Hp->VK->Prop):Prop :=
 ∀ (pins:List (Addr × Obj)) (s:Shared) (σ:St) (H:Hp) (o i:V) (ov iv:Value) (Q:VK),Inv X pins σ H s->xt o ov->xt i iv->t o i H Q ->
  wpAny (model X.prog X.w) X.A (getItem ov iv) (EP X pins σ Q) X.xe s
theorem zke {o i e:Expr}{to ti te:TE}{tget:V->V->Hp->VK->Prop}{tip:TIp}{tset:zmC}{op:Operator}{tpos:Pos}(ho:PE X o to)(hi:PE X i ti)(hg:PGet X tget)(he:PE X e te)(hp:PIp X op tip)(hs:znq X tset)
 (ha:∀ ov iv new,augStore i ov iv new=(do holding [new,ov,iv] (setItem ov iv new);release [new,ov,iv] [];pure .next):=by intros;rfl):PS X (.AugAssign (.Subscript o i tpos) op e pos) (znP to ti te tget tip tset):=by
 intro pins s σ H D I h
 refine wpAny_AugAssign_SubscriptAny (thn (ho pins s σ H _ I h) λov s1 hh9=>?_) ha
 obtain⟨x1,H1,I1,r1,q1⟩:=hh9
 refine thn (hi pins s1 σ H1 _ I1 q1) λiv s2 hh9=>?_
 obtain⟨x2,H2,I2,r2,q2⟩:=hh9
 refine thn (hg pins s2 σ H2 x1 x2 ov iv _ I2 r1 r2 q2) λold s3 hh9=>?_
 obtain⟨x3,H3,I3,r3,q3⟩:=hh9
 refine thn (he pins s3 σ H3 _ I3 q3) λv s4 hh9=>?_
 obtain⟨x4,H4,I4,r4,q4⟩:=hh9
 refine thn (hp pins s4 σ H4 x3 x4 old v _ I4 r3 r4 q4) λnew s5 hh9=>?_
 obtain⟨x5,H5,I5,r5,q5⟩:=hh9
 exact thn (hs pins s5 σ H5 x1 x2 x5 ov iv new _ I5 r1 r2 r5 q5) λ_ s6 ⟨H6,I6,q6⟩=>⟨σ,H6,I6,q6⟩
def ipI (f:Int->Int->Int):TIp:=λx y H Q=>∃ i j,x=.int i/\y=.int j/\Q (.int (f i j)) H
theorem zml:PIp X .Add (ipI λi j=>i+j):=by
 intro pins s σ H x y v u Q I r1 r2 h
 obtain⟨i,j,e1,e2,q⟩:=h
 subst e1;subst e2
 obtain⟨t,rfl⟩:=r1
 obtain⟨t',rfl⟩:=r2
 exact iadd_int ⟨.int _,H,I.tok _,⟨_,rfl⟩,q⟩
def zlp (c:TT)(tb:TS):TS:=λD σ H=>∃ W:Nat->St->Hp->Prop,(∃ m,W m σ H)/\∀ m σ H,W m σ H ->
 c σ H λb H1=>if b=true then ∃ N:St->Hp->Prop,(∀ σ' H',N σ' H'->∃ m',m' < m/\W m' σ' H')/\tb { D with nx:=N,ct:=N,bk:=D.nx } σ H1 else D.nx σ H1
theorem zhy {c:Expr}{body:List Stmt}{tc:TT}{tb:TS}(hp:PassesOwn (model X.prog X.w) X.A X.env X.xe)(hc:PT X c tc)(hb:PSs X body tb):PS X (.While c body [] pos) (zlp tc tb):=by
 intro pins s σ H D I h
 obtain⟨W,⟨m0,w0⟩,turn⟩:=h
 refine wpAny_While (codeAny_whileLoop (λn s'=>∃ σ' H',Inv X pins σ' H' s'/\W n σ' H') ?_ m0 ⟨σ,H,I,w0⟩)
 rintro n s1 ⟨σ1,H1,I1,w1⟩
 refine u08 hp (thn (hc pins s1 σ1 H1 _ I1 (turn n σ1 H1 w1)) λb s2 hh9=>?_)
 obtain⟨H2,I2,q2⟩:=hh9
 cases b with
 | true =>
  obtain⟨N,hN,q2⟩:=q2
  rw[t5 rfl]
  refine u08 hp (thn (hb pins s2 σ1 H2 _ I2 q2) λf s3 q3=>?_)
  cases f with
  | next =>
   obtain⟨σ3,H3,I3,n3⟩:=q3
   obtain⟨m',hm,w3⟩:=hN σ3 H3 n3
   exact⟨m',hm,σ3,H3,I3,w3⟩
  | cont =>
   obtain⟨σ3,H3,I3,n3⟩:=q3
   obtain⟨m',hm,w3⟩:=hN σ3 H3 n3
   exact⟨m',hm,σ3,H3,I3,w3⟩
  | brk=>exact q3
  | ret v=>exact q3
 | false =>
  rw[t6 u7]
  exact u2A ⟨σ1,H2,I2,q2⟩
end
structure It where
 go:Nat->Hp->Prop
 yld:Nat->Hp->V->Hp->Prop
 stop:Nat->Hp->Prop
def zbJ (X:Cx)(pins:List (Addr × Obj))(H:Hp)(b:Addr):Prop :=
 H b=none/\b≠X.env.locals/\b∉X.fs/\(b∈X.ex\/X.s₀.heap.objs.size<=b)/\(∀ x c,X.env.cells.lookup x=some c->c≠b)/\∀ p∈X.pn++pins,p.1≠b
theorem Inv.fpOk {X:Cx}{pins:List (Addr × Obj)}{σ:St}{H H':Hp}{s:Shared}{b:Addr}(I:Inv X pins σ H s)(hb:s.heap.objs.size<=b)(hn:H' b=none):zbJ X pins H' b:=by
 refine⟨hn,Nat.ne_of_gt (j7 I.lt hb),I.nofs hb,.inr (m8 I.sz hb),λx c e z=>?_,λp hp z=>?_⟩
 .obtain⟨v,q⟩:=I.cell x c e
  exact absurd (j7 q.lt (by rw[z];exact hb)) (u0J _)
 .exact absurd (j7 (r9 (I.pin p hp).1) (by rw[z];exact hb)) (u0J _)
structure zkM (P:Program) (w:World) (K:W.Frag) (tg:Expr) (J:It) (fp:List Addr) (it:Addr) (tn:Nat->Heap->Prop):Prop where
 mem:it∈fp
 obj:∀ i h,tn i h->∀ b∈fp,∃ o,h.get? b=some o/\∀ v,o.data≠.cell v
 keep:∀ i h h',tn i h->(∀ b∈fp,∀ o,h.get? b=some o->h'.get? b=some o)->tn i h'
 item:∀ (X:Cx),X.prog=P->X.w=w->X.K=K->X.calm=true->∀ (i:Nat) (pins:List (Addr × Obj)) (s:Shared) (σ:St) (H:Hp) (E:Value->Shared->Prop),Inv X pins σ H s->(∀ b∈fp,zbJ X pins H b)->tn i s.heap->J.go i H ->
  wpAny (model P w) X.A (pyNext (.ref it)) (λr s1=>∃ u,r=some u /\
   wpAny (model P w) X.A (letOwnedTupleGo tg (.ref it) u) (λ_ s2=>∃ x H',Inv X pins σ H' s2/\xt x u/\J.yld i H x H'/\tn (i+1) s2.heap/\∀ b∈fp,H' b=none) E s1) E s
 done:∀ (X:Cx),X.prog=P->X.w=w->X.K=K->X.calm=true->∀ (i:Nat) (pins:List (Addr × Obj)) (s:Shared) (σ:St) (H:Hp) (E:Value->Shared->Prop),Inv X pins σ H s->(∀ b∈fp,zbJ X pins H b)->tn i s.heap->J.stop i H ->
  wpAny (model P w) X.A (pyNext (.ref it)) (λr s1=>r=none/\Inv X pins σ H s1) E s
 self:∀ (A:Around) (i:Nat) (s:Shared) (Q:Value->Shared->Prop) (E:Value->Shared->Prop),tn i s.heap->Q (.ref it) s->wpAny (model P w) A (pyIter (.ref it)) Q E s
abbrev TI:=St->Hp->(It->Hp->Prop)->Prop
def PIE (X:Cx)(pins:List (Addr × Obj))(σ:St)(tg:Expr)(R:It->Hp->Prop)(itv:Value)(s2:Shared):Prop :=
 ∃ (it:Addr) (fp:List Addr) (tn:Nat->Heap->Prop) (J:It) (H':Hp),itv=.ref it/\Inv X pins σ H' s2/\zkM X.prog X.w X.K tg J fp it tn/\tn 0 s2.heap/\(∀ b∈fp,zbJ X pins H' b)/\R J H'
def PI (X:Cx)(tg iter:Expr)(wi:TI):Prop :=
 ∀ (pins:List (Addr × Obj)) (s:Shared) (σ:St) (H:Hp) (R:It->Hp->Prop),Inv X pins σ H s->wi σ H R ->
  wpAny (model X.prog X.w) X.A (eval iter X.env) (λv s1=>wpAny (model X.prog X.w) X.A (pyIter v) (PIE X pins σ tg R) X.xe s1) X.xe s
theorem ziy {M:Model}{A:Around}{E:Value→Shared→Prop}{s:Shared}{tg:Expr}{it:Addr}{u:Value}{o:Obj}{n:String}{vs:Array Value}{Q:Unit→Shared→Prop}(ho:s.heap.get? it=some o)(hc:o.cls=.type n)(hd:o.data=.fields vs)
    (hn:["enumerate","zip","dict_itemiterator","dict_reverseitemiterator","odict_iterator","itertools.zip_longest","itertools.pairwise"].contains n=false) (hQ:Q () s):wpAny M A (letOwnedTupleGo tg (.ref it) u) Q E s:=by
  unfold letOwnedTupleGo
  cases tg <;> first
    | exact j3 hQ
    | (cases u <;> first
        | exact j3 hQ
        | (refine u4 (wpAny_load ho ?_)
           rw [hc,hd]
           show wpAny M A (if (["enumerate","zip","dict_itemiterator","dict_reverseitemiterator","odict_iterator","itertools.zip_longest","itertools.pairwise"].contains n&&vs[0]? == some (rawInt _))=true then _ else _) Q E s
           rw [t6 (by intro h;rw [hn,Bool.false_and] at h;cases h)]
           exact j3 hQ))
def Itl (K:W.Frag)(a:Addr):It :=
 ⟨λi H=>∃ xs x,SqL K H a xs/\xs[i]?=some x,λi H x H'=>H'=H/\∀ xs,SqL K H a xs->xs[i]?=some x,λi H=>∃ xs,SqL K H a xs/\xs.length<=i⟩
def Itt (K:W.Frag)(a:Addr):It :=
 ⟨λi H=>∃ xs x,SqT K H a xs/\xs[i]?=some x,λi H x H'=>H'=H/\∀ xs,SqT K H a xs->xs[i]?=some x,λi H=>∃ xs,SqT K H a xs/\xs.length<=i⟩
def Itr (lo:Int)(n:Nat):It:=⟨λi _=>i < n,λi H x H'=>H'=H/\x=.int (lo+i),λi _=>n<=i⟩
theorem zf2 {P:Program}{w:World}{K:W.Frag}{tg:Expr}(a it:Addr):zkM P w K tg (Itl K a) [it] it (λi h=>h.IsListIter it a i) where
 mem:=by simp
 obj:=λi h st b hb=>by
  have e:b=it:=by simpa using hb
  subst e
  obtain⟨o,e,c,d⟩:=st
  exact⟨o,e,λv z=>by rw[d]at z;cases z⟩
 keep:=λi h h' st k=>st.at λo e=>k it (by simp) o e
 item:=by
  intro X hP hw hK hc i pins s σ H E I hf st hg
  subst hP hw hK
  obtain⟨xs,x,hq,hx⟩:=hg
  obtain⟨its,rv,p,hz⟩:=I.list hq
  obtain⟨u,hu,ru⟩:=rv.get hx
  obtain⟨f0,f1,f2,f3,f4,f5⟩:=hf it (by simp)
  refine wpAny_pyNext_list_item st p.isList (x:=u) (by simpa using hu) λh' st' sb=>?_
  have I1:Inv X pins σ H { s with heap:=h' }:=I.turned (t':=s.toks) (λb o hb e=>(sb.2 b hb).trans e) f0 f1 f3 f4 f5
  obtain⟨o,e,c,d⟩:=id st'
  exact⟨u,rfl,ziy (s:={ s with heap:=h' }) e c d (by decide) ⟨x,H,I1,ru,⟨rfl,λys hy=>by rw[I.list_inj hy hq];exact hx⟩,st',λb hb=>(hf b hb).1⟩⟩
 done:=by
  intro X hP hw hK hc i pins s σ H E I hf st hg
  subst hP hw hK
  obtain⟨xs,hq,hx⟩:=hg
  obtain⟨its,rv,p,hz⟩:=I.list hq
  obtain⟨f0,f1,f2,f3,f4,f5⟩:=hf it (by simp)
  have hl:=rv.length
  exact wpAny_pyNext_list_end (I.ok.hd hc) st p.isList (by simp;omega) λh' eb=>⟨rfl,I.turned (t':=s.toks) (λb o hb e=>eb b o hb e) f0 f1 f3 f4 f5⟩
 self:=λ_ _ _ _ _ st h=>wpAny_pyIter_listiter st h
theorem zes {P:Program}{w:World}{K:W.Frag}{tg:Expr}(a it:Addr):zkM P w K tg (Itt K a) [it] it (λi h=>h.IsTupleIter it a i) where
 mem:=by simp
 obj:=λi h st b hb=>by
  have e:b=it:=by simpa using hb
  subst e
  obtain⟨o,e,c,d⟩:=st
  exact⟨o,e,λv z=>by rw[d]at z;cases z⟩
 keep:=λi h h' st k=>st.at λo e=>k it (by simp) o e
 item:=by
  intro X hP hw hK hc i pins s σ H E I hf st hg
  subst hP hw hK
  obtain⟨xs,x,hq,hx⟩:=hg
  obtain⟨its,rv,p,hz⟩:=I.tuple hq
  obtain⟨u,hu,ru⟩:=rv.get hx
  obtain⟨f0,f1,f2,f3,f4,f5⟩:=hf it (by simp)
  refine wpAny_pyNext_tuple_item st (show s.heap.IsTuple a its.toArray from p) (x:=u) (by simpa using hu) λh' st' sb=>?_
  have I1:Inv X pins σ H { s with heap:=h' }:=I.turned (t':=s.toks) (λb o hb e=>(sb.2 b hb).trans e) f0 f1 f3 f4 f5
  obtain⟨o,e,c,d⟩:=id st'
  exact⟨u,rfl,ziy (s:={ s with heap:=h' }) e c d (by decide) ⟨x,H,I1,ru,⟨rfl,λys hy=>by rw[I.tuple_inj hy hq];exact hx⟩,st',λb hb=>(hf b hb).1⟩⟩
 done:=by
  intro X hP hw hK hc i pins s σ H E I hf st hg
  subst hP hw hK
  obtain⟨xs,hq,hx⟩:=hg
  obtain⟨its,rv,p,hz⟩:=I.tuple hq
  obtain⟨f0,f1,f2,f3,f4,f5⟩:=hf it (by simp)
  have hl:=rv.length
  exact wpAny_pyNext_tuple_end (I.ok.hd hc) st (show s.heap.IsTuple a its.toArray from p) (by simp;omega) λh' eb=>⟨rfl,I.turned (t':=s.toks) (λb o hb e=>eb b o hb e) f0 f1 f3 f4 f5⟩
 self:=λ_ _ _ _ _ st h=>wpAny_pyIter_tupleiter st h
theorem zew {P:Program}{w:World}{K:PySem.W.Frag}{tg:Expr}(it:Addr)(lo:Int)(n:Nat):zkM P w K tg (Itr lo n) [it] it (λi h=>IsRangeIter h it (lo+(i:Nat)*1) ((n:Int) - (i:Nat)) 1) where
 mem:=by simp
 obj:=λi h st b hb=>by
  have e:b=it:=by simpa using hb
  subst e
  exact⟨_,st,λv z=>by
   have z':Data.fields _=Data.cell v:=z
   cases z'⟩
 keep:=λi h h' st k=>k it (by simp) _ st
 item:=by
  intro X hP hw hK hc i pins s σ H E I hf st hg
  subst hP hw hK
  obtain⟨f0,f1,f2,f3,f4,f5⟩:=hf it (by simp)
  have W:=Walks.range (prog:=X.prog) (w:=X.w) (I.ok.hd hc) it lo 1 n
  refine W.item i s _ _ hg st λv h' tk hv st' kk=>?_
  obtain⟨t,rfl⟩:=hv
  have I1:Inv X pins σ H { s with heap:=h',toks:=tk }:=I.turned (λb o hb e=>kk b o (by simpa using hb) e) f0 f1 f3 f4 f5
  refine⟨_,rfl,ziy (s:={ s with heap:=h',toks:=tk }) (n:="range_iterator") st' rfl rfl (by decide) ⟨.int (lo+i),H,I1,⟨t,?_⟩,⟨rfl,rfl⟩,st',λb hb=>(hf b hb).1⟩⟩
  rw[u2r]
 done:=by
  intro X hP hw hK hc i pins s σ H E I hf st hg
  subst hP hw hK
  obtain⟨f0,f1,f2,f3,f4,f5⟩:=hf it (by simp)
  exact wpAny_pyNext_range_end (I.ok.hd hc) st (by have:n<=i:=hg;omega) λh' eb=>⟨rfl,I.turned (t':=s.toks) (λb o hb e=>eb b o hb e) f0 f1 f3 f4 f5⟩
 self:=λ_ _ _ _ _ st h=>wpAny_pyIter_rangeiter st h
section
variable {X:Cx}{tg:Expr}
theorem zdx {pins:List (Addr × Obj)}{σ:St}{H:Hp}{s:Shared}{R:It->Hp->Prop}{E:Value->Shared->Prop}{lo hi:Int}{t u v:Tok}{tk:Nat}(I:Inv X pins σ H s)(h1:-(2 ^ 62)<=lo)(h2:lo < 2 ^ 62)(h3:-(2 ^ 62)<=hi)(h4:hi < 2 ^ 62)
 (q:R (Itr lo (hi - lo).toNat) H):wpAny (model X.prog X.w) X.A (pyIter (.ref s.heap.objs.size)) (PIE X pins σ tg R) E { s with heap:=s.heap.push { cls:=.type "range",data:=.fields #[.int lo t,.int hi u,.int 1 v] },toks:=tk }:=by
 refine wpAny_pyIter_range (IsRange.new ..) (small_one h1 h2 h3 h4) ?_
 have I1:Inv X pins σ H { s with heap:=s.heap.push { cls:=.type "range",data:=.fields #[.int lo t,.int hi u,.int 1 v] },toks:=tk }:=I.kept λb o e=>u9 _ e
 refine⟨(s.heap.push { cls:=.type "range",data:=.fields #[.int lo t,.int hi u,.int 1 v] }).objs.size,[(s.heap.push { cls:=.type "range",data:=.fields #[.int lo t,.int hi u,.int 1 v] }).objs.size],_,_,H,rfl,
  I1.kept (t':=tk) λb o e=>u9 _ e,zew _ lo (hi - lo).toNat,?_,λb hb=>?_,q⟩
 .have e1:lo+((0:Nat):Int)*1=lo:=by simp
  have e2:(((hi - lo).toNat:Nat):Int) - ((0:Nat):Int)=Builtin.Range.rangeSize lo hi 1:=by rw[rangeSize_one];split <;> omega
  show IsRangeIter _ _ (lo+((0:Nat):Int)*1) ((((hi - lo).toNat:Nat):Int) - ((0:Nat):Int)) 1
  rw[e1,e2]
  exact n0 _ rfl
 .have e:b=(s.heap.push { cls:=.type "range",data:=.fields #[.int lo t,.int hi u,.int 1 v] }).objs.size:=by simpa using hb
  subst e
  exact I1.fpOk (t9 _) (I1.hok.fresh (t9 _))
def znm (ta:TA):TI:=fun σ H R=>ta σ H λvs H1=>∃ j:Int,vs=[.int j]/\-(2 ^ 62)<=j/\j < 2 ^ 62/\R (Itr 0 j.toNat) H1
def znr (ta:TA):TI:=fun σ H R=>ta σ H λvs H1=>∃ i j:Int,vs=[.int i,.int j]/\(-(2 ^ 62)<=i/\i < 2 ^ 62/\-(2 ^ 62)<=j/\j < 2 ^ 62)/\R (Itr i (j - i).toNat) H1
theorem zcr {a:Expr} {ta:TA} {p pos:Pos} (hg:Gl X "range") (hm:X.mg "range"=none) (ha:PA X [a] ta) (hs:starEach [a] X.env=[(false,eval a X.env)]:=by rfl):PI X tg (.Call (.Name "range" p) [a] [] pos) (znm ta):=by
 intro pins s σ H R I h
 refine Call_ (Zu I hg hm boot_range (u0q (thn (ha pos pins s σ H _ I h) λus s1 hh9=>?_) hs rfl))
 obtain⟨vs,H1,I1,r1,q1⟩:=hh9
 obtain⟨j,e,q1,q2,q⟩:=q1
 subst e
 cases r1 with
 | cons r rr =>
  cases rr
  obtain⟨t,rfl⟩:=r
  exact call_range_1 (zdx I1 (by omega) (by omega) q1 q2 (by simpa using q))
theorem zgQ {a b:Expr} {ta:TA} {p pos:Pos} (hg:Gl X "range") (hm:X.mg "range"=none) (ha:PA X [a,b] ta) (hs:starEach [a,b] X.env=[(false,eval a X.env),(false,eval b X.env)]:=by rfl) (hs2:starEach [b] X.env=[(false,eval b X.env)]:=by rfl) :
 PI X tg (.Call (.Name "range" p) [a,b] [] pos) (znr ta):=by
 intro pins s σ H R I h
 refine Call_ (Zu I hg hm boot_range (u0q (thn (ha pos pins s σ H _ I h) λus s1 hh9=>?_) (by rw[hs,hs2]) (by rw[hs2];rfl)))
 obtain⟨vs,H1,I1,r1,q1⟩:=hh9
 obtain⟨i,j,e,⟨q1,q2,q3,q4⟩,q⟩:=q1
 subst e
 cases r1 with
 | cons r rr =>
  cases rr with
  | cons r' rr =>
   cases rr
   obtain⟨t,rfl⟩:=r
   obtain⟨t',rfl⟩:=r'
   exact call_range_2 (zdx I1 q1 q2 q3 q4 q)
def tFor (wi:TI)(g:TG)(tb:TS):TS:=λD σ H=>wi σ H λJ H1=>∃ W:Nat->Nat->St->Hp->Prop,(∃ m,W 0 m σ H1)/\∀ i m σ H,W i m σ H ->
 (J.stop i H/\D.nx σ H)\/(J.go i H/\∃ N:St->Hp->Prop,(∀ σ' H',N σ' H'->∃ m',m' < m/\W (i+1) m' σ' H')/\∀ x H',J.yld i H x H'->g x σ H' fun σ2 H2=>tb { D with nx:=N,ct:=N,bk:=D.nx } σ2 H2)
def Zt (fp:List Addr)(h:Heap):List (Addr × Obj):=fp.filterMap λb=>(h.get? b).map λo=>(b,o)
theorem yY {fp:List Addr}{h:Heap}{b:Addr}{o:Obj}(hb:b∈fp)(e:h.get? b=some o):(b,o)∈Zt fp h:=List.mem_filterMap.mpr ⟨b,hb,by rw[e];rfl⟩
theorem zgS {fp:List Addr}{h:Heap}{p:Addr × Obj}(hp:p∈Zt fp h):p.1∈fp/\h.get? p.1=some p.2:=by
 obtain⟨b,hb,e⟩:=List.mem_filterMap.mp hp
 cases q:h.get? b with
 | none=>rw[q]at e;cases e
 | some o =>
  rw[q]at e
  have e':(b,o)=p:=u0j e
  subst e'
  exact⟨hb,q⟩
theorem Inv.pinned {pins:List (Addr × Obj)}{σ:St}{H:Hp}{s:Shared}{fp:List Addr}(I:Inv X pins σ H s)(hf:∀ b∈fp,zbJ X pins H b)(ho:∀ b∈fp,∃ o,s.heap.get? b=some o/\∀ v,o.data≠.cell v):Inv X (pins++Zt fp s.heap) σ H s :=
 I.pins_of λp hp=>(u0p.mp hp).elim (λz=>I.pin p (n9 _ z)) λz=>by
  obtain⟨hb,e⟩:=zgS z
  obtain⟨f0,f1,f2,_⟩:=hf p.1 hb
  obtain⟨o,e',d⟩:=ho p.1 hb
  rw[e]at e';cases e'
  exact⟨e,f0,f1,f2,d⟩
theorem Inv.unpinned {pins pl:List (Addr × Obj)}{σ:St}{H:Hp}{s:Shared}(I:Inv X (pins++pl) σ H s):Inv X pins σ H s:=I.pins_of λp hp=>I.pin p (n9 _ (u1q _ hp))
theorem zhg {iter:Expr}{body:List Stmt}{wi:TI}{g:TG}{tb:TS}{pos:Pos}(hp:PassesOwn (model X.prog X.w) X.A X.env X.xe)(hc:X.calm=true)(hi:PI X tg iter wi)(hg:PG X tg g)(hb:PSs X body tb)
 (hs:∀ x,foldedSetIterable iter X.env x=pure x:=by intro _;rfl):PS X (.For tg iter body [] pos) (tFor wi g tb):=by
 intro pins s σ H D I h
 refine wpAny_For (thn (hi pins s σ H _ I h) λv s1 h1=>thn h1 λitv s2 h2=>?_) hs
 obtain⟨it,fp,tn,J,H2,e,I2,T,st2,f2,W,⟨m0,w0⟩,turn⟩:=h2
 subst e
 -- what stays true of the iterator's objects through the loop
 have stat:∀ {H':Hp},(∀ b∈fp,H' b=none)->∀ b∈fp,zbJ X pins H' b:=λhn b hb=>⟨hn b hb,(f2 b hb).2⟩
 refine codeAny_forLoop_any (λn s'=>∃ i σ' H',Inv X pins σ' H' s'/\tn i s'.heap/\(∀ b∈fp,H' b=none)/\W i n σ' H') ?_ m0 ⟨0,σ,H2,I2,st2,λb hb=>(f2 b hb).1,w0⟩
 rintro n s3 ⟨i,σ3,H3,I3,st3,fr3,w3⟩
 rcases turn i n σ3 H3 w3 with ⟨stop,qn⟩ | ⟨go,N,hN,step⟩
 .refine u08 hp (thn (T.done X rfl rfl rfl hc i pins s3 σ3 H3 X.xe I3 (stat fr3) st3 stop) λr s4 hh9=>?_)
  obtain⟨hr,I4⟩:=hh9
  subst hr
  exact u2A ⟨σ3,H3,I4,qn⟩
 .refine u08 hp (thn (T.item X rfl rfl rfl hc i pins s3 σ3 H3 X.xe I3 (stat fr3) st3 go) λr s4 hh9=>?_)
  obtain⟨u,hr,h4⟩:=hh9
  subst hr
  refine u08 hp (thn h4 λ_ s5 hh9=>?_)
  obtain⟨x,H5,I5,r5,y5,st5,fr5⟩:=hh9
  have I5':=I5.pinned (stat fr5) (T.obj _ _ st5)
  refine u08 hp (thn (hg _ s5 σ3 H5 x u _ I5' r5 (step x H5 y5)) λ_ s6 hh9=>?_)
  obtain⟨σ6,H6,I6,q6⟩:=hh9
  refine u08 hp (thn (hb _ s6 σ6 H6 _ I6 q6) λf s7 q7=>?_)
  have again:∀ {σ7:St} {H7:Hp},Inv X (pins++Zt fp s5.heap) σ7 H7 s7->N σ7 H7->∃ m,m < n/\∃ i σ' H',Inv X pins σ' H' s7/\tn i s7.heap/\(∀ b∈fp,H' b=none)/\W i m σ' H':=λ{σ7 H7} I7 n7=>by
   obtain⟨m',hm,w7⟩:=hN σ7 H7 n7
   refine⟨m',hm,i+1,σ7,H7,I7.unpinned,T.keep _ _ _ st5 λb hb o e=>(I7.pin (b,o) (n9 _ (n9 _ (yY hb e)))).1,λb hb=>?_,w7⟩
   obtain⟨o,e,d⟩:=T.obj _ _ st5 b hb
   exact(I7.pin (b,o) (n9 _ (n9 _ (yY hb e)))).2.1
  cases f with
  | next=>obtain⟨σ7,H7,I7,n7⟩:=q7;exact again I7 n7
  | cont=>obtain⟨σ7,H7,I7,n7⟩:=q7;exact again I7 n7
  | brk=>obtain⟨σ7,H7,I7,q7⟩:=q7;exact⟨σ7,H7,I7.unpinned,q7⟩
  | ret v=>obtain⟨x7,σ7,H7,I7,r7,q7⟩:=q7;exact⟨x7,σ7,H7,I7.unpinned,r7,q7⟩
end
abbrev R2:=V->V->Hp->VK->Prop
def OpR (X:Cx)(f:Value->Value->Sem Value)(r:R2):Prop :=
 ∀ (pins:List (Addr × Obj)) (s:Shared) (σ:St) (H:Hp) (x y:V) (v u:Value) (Q:VK),Inv X pins σ H s->xt x v->xt y u->r x y H Q ->
  wpAny (model X.prog X.w) X.A (f v u) (EP X pins σ Q) X.xe s
def UnR (X:Cx)(f:Value->Sem Value)(r:V->Hp->VK->Prop):Prop :=
 ∀ (pins:List (Addr × Obj)) (s:Shared) (σ:St) (H:Hp) (x:V) (v:Value) (Q:VK),Inv X pins σ H s->xt x v->r x H Q ->
  wpAny (model X.prog X.w) X.A (f v) (EP X pins σ Q) X.xe s
def ZG (X:Cx)(f:Value)(r:List V->Hp->VK->Prop):Prop :=
 ∀ (pins:List (Addr × Obj)) (s:Shared) (σ:St) (H:Hp) (xs:List V) (us:List Value) (Q:VK),Inv X pins σ H s->yl xs us->r xs H Q ->
  wpAny (model X.prog X.w) X.A (call f us) (EP X pins σ Q) X.xe s
def tOp (r:R2)(ta tb:TE):TE:=fun σ H Q=>ta σ H λx H1=>tb σ H1 λy H2=>r x y H2 Q
def tUn (r:V->Hp->VK->Prop)(ta:TE):TE:=fun σ H Q=>ta σ H λx H1=>r x H1 Q
def rI (C:Int->Int->Prop)(g:Int->Int->V):R2:=λx y H Q=>∃ i j,x=.int i/\y=.int j/\C i j/\Q (g i j) H
def rI0 (g:Int->Int->V):R2:=λx y H Q=>∃ i j,x=.int i/\y=.int j/\Q (g i j) H
def rU (g:Int->V):V->Hp->VK->Prop:=λx H Q=>∃ i,x=.int i/\Q (g i) H
section
variable {X:Cx}{a b c:Expr}{ta tb tc:TE}{pos:Pos}
theorem znO (ha:PE X a ta)(hb:PE X b tb){pins:List (Addr × Obj)}{s:Shared}{σ:St}{H:Hp}{R:V->V->Hp->Prop}(I:Inv X pins σ H s)
 (h:ta σ H λx H1=>tb σ H1 λy H2=>R x y H2) {Q:Value->Shared->Prop} {f:Value->Value->Sem Value}
 (hf:∀ v u s2 x y H2,Inv X pins σ H2 s2->xt x v->xt y u->R x y H2->wpAny (model X.prog X.w) X.A (f v u) Q X.xe s2) :
 wpAny (model X.prog X.w) X.A (eval a X.env) (λv s₁=>wpAny (model X.prog X.w) X.A (eval b X.env) (λu s₂=>wpAny (model X.prog X.w) X.A (f v u) Q X.xe s₂) X.xe s₁) X.xe s:=by
 refine thn (ha pins s σ H _ I h) λv s1 hh9=>?_
 obtain⟨x,H1,I1,r1,q1⟩:=hh9
 refine thn (hb pins s1 σ H1 _ I1 q1) λu s2 hh9=>?_
 obtain⟨y,H2,I2,r2,q2⟩:=hh9
 exact hf v u s2 x y H2 I2 r1 r2 q2
theorem zmt {op:Operator}{r:R2}(ho:OpR X (binaryOp op) r)(ha:PE X a ta)(hb:PE X b tb):PE X (.BinOp a op b pos) (tOp r ta tb):=by
 intro pins s σ H Q I h
 exact wpAny_BinOp (znO ha hb I h λv u s2 x y H2 I2 rx ry q=>ho pins s2 σ H2 x y v u Q I2 rx ry q)
theorem zni {op:UnaryOp}{r:V->Hp->VK->Prop}(ho:UnR X (unaryOp op) r)(ha:PE X a ta):PE X (.UnaryOp op a pos) (tUn r ta):=by
 intro pins s σ H Q I h
 exact UnaryOp_ (thn (ha pins s σ H _ I h) λv s1 ⟨x,H1,I1,r1,q1⟩=>ho pins s1 σ H1 x v Q I1 r1 q1)
theorem opI {f:Value->Value->Sem Value}{C:Int->Int->Prop}{g:Int->Int->Int}
 (rule:∀ (i j:Int) (t u:Tok) (s:Shared) (Q:Value->Shared->Prop) (E:Value->Shared->Prop),C i j->Q (.int (g i j) s.toks) { s with toks:=s.toks+1 }->wpAny (model X.prog X.w) X.A (f (.int i t) (.int j u)) Q E s) :
 OpR X f (rI C λi j=>.int (g i j)):=by
 intro pins s σ H x y v u Q I rx ry h
 obtain⟨i,j,rfl,rfl,hc,q⟩:=h
 obtain⟨t,rfl⟩:=rx
 obtain⟨t',rfl⟩:=ry
 exact rule i j t t' s _ _ hc ⟨.int (g i j),H,I.tok _,⟨_,rfl⟩,q⟩
theorem opI0 {f:Value->Value->Sem Value}{g:Int->Int->Int}
 (rule:∀ (i j:Int) (t u:Tok) (s:Shared) (Q:Value->Shared->Prop) (E:Value->Shared->Prop),Q (.int (g i j) s.toks) { s with toks:=s.toks+1 }->wpAny (model X.prog X.w) X.A (f (.int i t) (.int j u)) Q E s) :
 OpR X f (rI0 λi j=>.int (g i j)):=by
 intro pins s σ H x y v u Q I rx ry h
 obtain⟨i,j,rfl,rfl,q⟩:=h
 obtain⟨t,rfl⟩:=rx
 obtain⟨t',rfl⟩:=ry
 exact rule i j t t' s _ _ ⟨.int (g i j),H,I.tok _,⟨_,rfl⟩,q⟩
theorem zm3 {f:Value->Value->Sem Value}{g:Int->Int->Bool}
 (rule:∀ (i j:Int) (t u:Tok) (s:Shared) (Q:Value->Shared->Prop) (E:Value->Shared->Prop),Q (.bool (g i j)) s->wpAny (model X.prog X.w) X.A (f (.int i t) (.int j u)) Q E s) :
 OpR X f (rI0 λi j=>.bl (g i j)):=by
 intro pins s σ H x y v u Q I rx ry h
 obtain⟨i,j,rfl,rfl,q⟩:=h
 obtain⟨t,rfl⟩:=rx
 obtain⟨t',rfl⟩:=ry
 exact rule i j t t' s _ _ ⟨.bl (g i j),H,I,rfl,q⟩
def znI (i j:Int):Prop:=(-(2 ^ 64) < i/\i < 2 ^ 64)\/(-(2 ^ 64) < j/\j < 2 ^ 64)
theorem znI.ok {i j:Int}(h:znI i j):IntMulOk i j:=by
 rcases h with ⟨h1,h2⟩ | ⟨h1,h2⟩
 .exact .of_left (intBits_le_64 h1 h2)
 .exact .of_right (intBits_le_64 h1 h2)
theorem zmy:OpR X (binaryOp .Add) (rI0 λi j=>.int (i+j)):=opI0 λ_ _ _ _ _ _ _ q=>add_int q
theorem zle:OpR X (binaryOp .Sub) (rI0 λi j=>.int (i - j)):=opI0 λ_ _ _ _ _ _ _ q=>sub_int q
theorem zmu:OpR X (binaryOp .Mult) (rI znI λi j=>.int (i*j)):=opI λ_ _ _ _ _ _ _ hc q=>mul_int q hc.ok
theorem zlN:OpR X (binaryOp .Mod) (rI (λ_ j=>0 < j) λi j=>.int (i % j)):=opI λi j _ _ _ _ _ hc q=>by
 have h1:(0:Int) < j:=hc
 exact mod_int' (by omega) (by rw[Int.fmod_eq_emod_of_nonneg i (by omega)];exact q)
theorem unI {f:Value->Sem Value}{g:Int->Int}
 (rule:∀ (i:Int) (t:Tok) (s:Shared) (Q:Value->Shared->Prop) (E:Value->Shared->Prop),Q (.int (g i) s.toks) { s with toks:=s.toks+1 }->wpAny (model X.prog X.w) X.A (f (.int i t)) Q E s) :
 UnR X f (rU λi=>.int (g i)):=by
 intro pins s σ H x v Q I rx h
 obtain⟨i,rfl,q⟩:=h
 obtain⟨t,rfl⟩:=rx
 exact rule i t s _ _ ⟨.int (g i),H,I.tok _,⟨_,rfl⟩,q⟩
theorem zlD:UnR X (unaryOp .USub) (rU λi=>.int (-i)):=unI λ_ _ _ _ _ q=>neg_int q
end
def scal:V->V->Bool
 | .non,.non=>true | .non,.int _=>true | .int _,.non=>true | .non,.bl _=>true | .bl _,.non=>true | .non,.str _=>true | .str _,.non=>true
 | .int _,.int _=>true | .bl _,.bl _=>true | .str _,.str _=>true | .byt _,.byt _=>true
 | .int _,.str _=>true | .str _,.int _=>true | .bl _,.str _=>true | .str _,.bl _=>true
 | _,_=>false
def rEq:R2:=λx y H Q=>scal x y=true/\Q (.bl (decide (x=y))) H
def rNe:R2:=λx y H Q=>scal x y=true/\Q (.bl (!decide (x=y))) H
theorem zf3 {i j:Int}:decide (V.int i=V.int j)=(i == j):=by
 rw[u1f]
 simp
theorem zi9 {i j:Bool}:decide (V.bl i=V.bl j)=(i == j):=by
 rw[u1f]
 simp
theorem zfI {i j:Str}:decide (V.str i=V.str j)=(i == j):=by
 rw[u1f]
 simp
theorem zfn {i j:Array UInt8}:decide (V.byt i=V.byt j)=(i.toList == j.toList):=by
 rw[u1f]
 cases i
 cases j
 simp
section
variable {X:Cx}{a b c:Expr}{ta tb tc:TE}{pos:Pos}
theorem zZ {pins:List (Addr × Obj)}{σ:St}{H:Hp}{s:Shared}{Q:VK}{k k':Bool}(I:Inv X pins σ H s)(q:Q (.bl k) H)(e:k=k'):EP X pins σ Q (.bool k') s:=by
 subst e
 exact⟨.bl k,H,I,rfl,q⟩
theorem znv:OpR X (compareOp .Eq) rEq:=by
 intro pins s σ H x y v u Q I rx ry h
 obtain⟨hs,q⟩:=h
 cases x with
 | non =>
  cases rx
  cases y with
  | non=>cases ry;exact PySem.EqNone.eq_none_none (zZ I q (by simp))
  | bl j=>cases ry;exact PySem.EqNone.eq_none_bool (zZ I q (by simp))
  | int j=>obtain⟨t',rfl⟩:=ry;exact PySem.EqNone.eq_none_int (zZ I q (by simp))
  | str j=>obtain⟨t',rfl⟩:=ry;exact PySem.EqNone.eq_none_str (zZ I q (by simp))
  | _=>exact absurd (show false=true from hs) u7
 | bl i =>
  cases rx
  cases y with
  | non=>cases ry;exact PySem.EqNone.eq_bool_none (zZ I q (by simp))
  | bl j=>cases ry;exact eq_bool (zZ I q zi9)
  | str j=>obtain⟨t',rfl⟩:=ry;exact PySem.EqMixed.eq_bool_str (zZ I q (by simp))
  | _=>exact absurd (show false=true from hs) u7
 | int i =>
  obtain⟨t,rfl⟩:=rx
  cases y with
  | non=>cases ry;exact PySem.EqNone.eq_int_none (zZ I q (by simp))
  | int j=>obtain⟨t',rfl⟩:=ry;exact eq_int (zZ I q zf3)
  | str j=>obtain⟨t',rfl⟩:=ry;exact PySem.EqMixed.eq_int_str (zZ I q (by simp))
  | _=>exact absurd (show false=true from hs) u7
 | str i =>
  obtain⟨t,rfl⟩:=rx
  cases y with
  | non=>cases ry;exact PySem.EqNone.eq_str_none (zZ I q (by simp))
  | bl j=>cases ry;exact PySem.EqMixed.eq_str_bool (zZ I q (by simp))
  | int j=>obtain⟨t',rfl⟩:=ry;exact PySem.EqMixed.eq_str_int (zZ I q (by simp))
  | str j=>obtain⟨t',rfl⟩:=ry;exact eq_str (zZ I q zfI)
  | _=>exact absurd (show false=true from hs) u7
 | byt i =>
  obtain⟨t,rfl⟩:=rx
  cases y with
  | byt j=>obtain⟨t',rfl⟩:=ry;exact W.eq_bytes (zZ I q zfn)
  | _=>exact absurd (show false=true from hs) u7
 | _=>cases y <;> exact absurd (show false=true from hs) u7
theorem zcC:OpR X (compareOp .NotEq) rNe:=by
 intro pins s σ H x y v u Q I rx ry h
 obtain⟨hs,q⟩:=h
 cases x with
 | non =>
  cases rx
  cases y with
  | non=>cases ry;exact PySem.EqNone.ne_none_none (zZ I q (by simp))
  | bl j=>cases ry;exact PySem.EqNone.ne_none_bool (zZ I q (by simp))
  | int j=>obtain⟨t',rfl⟩:=ry;exact PySem.EqNone.ne_none_int (zZ I q (by simp))
  | str j=>obtain⟨t',rfl⟩:=ry;exact PySem.EqNone.ne_none_str (zZ I q (by simp))
  | _=>exact absurd (show false=true from hs) u7
 | bl i =>
  cases rx
  cases y with
  | non=>cases ry;exact PySem.EqNone.ne_bool_none (zZ I q (by simp))
  | bl j=>cases ry;exact ne_bool (zZ I q (u0U not zi9))
  | str j=>obtain⟨t',rfl⟩:=ry;exact PySem.EqMixed.ne_bool_str (zZ I q (by simp))
  | _=>exact absurd (show false=true from hs) u7
 | int i =>
  obtain⟨t,rfl⟩:=rx
  cases y with
  | non=>cases ry;exact PySem.EqNone.ne_int_none (zZ I q (by simp))
  | int j=>obtain⟨t',rfl⟩:=ry;exact ne_int (zZ I q (u0U not zf3))
  | str j=>obtain⟨t',rfl⟩:=ry;exact PySem.EqMixed.ne_int_str (zZ I q (by simp))
  | _=>exact absurd (show false=true from hs) u7
 | str i =>
  obtain⟨t,rfl⟩:=rx
  cases y with
  | non=>cases ry;exact PySem.EqNone.ne_str_none (zZ I q (by simp))
  | bl j=>cases ry;exact PySem.EqMixed.ne_str_bool (zZ I q (by simp))
  | int j=>obtain⟨t',rfl⟩:=ry;exact PySem.EqMixed.ne_str_int (zZ I q (by simp))
  | str j=>obtain⟨t',rfl⟩:=ry;exact ne_str (zZ I q (u0U not zfI))
  | _=>exact absurd (show false=true from hs) u7
 | byt i =>
  obtain⟨t,rfl⟩:=rx
  cases y with
  | byt j=>obtain⟨t',rfl⟩:=ry;exact W.ne_bytes (zZ I q (u0U not zfn))
  | _=>exact absurd (show false=true from hs) u7
 | _=>cases y <;> exact absurd (show false=true from hs) u7
theorem ziR:OpR X (compareOp .Lt) (rI0 λi j=>.bl (decide (i < j))):=zm3 λ_ _ _ _ _ _ _ q=>lt_int q
theorem zg9:OpR X (compareOp .LtE) (rI0 λi j=>.bl (decide (i<=j))):=zm3 λ_ _ _ _ _ _ _ q=>le_int q
theorem zaZ:OpR X (compareOp .Gt) (rI0 λi j=>.bl (decide (j < i))):=zm3 λ_ _ _ _ _ _ _ q=>gt_int q
theorem znV:OpR X (compareOp .GtE) (rI0 λi j=>.bl (decide (j<=i))):=zm3 λ_ _ _ _ _ _ _ q=>ge_int q
theorem zmn:OpR X (compareOp .Is) (λx y H Q=>y=.non/\Q (.bl (decide (x=.non))) H):=by
 intro pins s σ H x y v u Q I rx ry h
 obtain⟨rfl,q⟩:=h
 cases ry
 refine is_none_gen (zZ I q ?_)
 cases x <;> first
  | (cases rx;rfl)
  | (obtain⟨t,rfl⟩:=rx;rfl)
theorem zjC:OpR X (compareOp .IsNot) (λx y H Q=>y=.non/\Q (.bl (!decide (x=.non))) H):=by
 intro pins s σ H x y v u Q I rx ry h
 obtain⟨rfl,q⟩:=h
 cases ry
 refine isnot_none_gen (zZ I q ?_)
 cases x <;> first
  | (cases rx;rfl)
  | (obtain⟨t,rfl⟩:=rx;rfl)
theorem OpR.or {f:Value->Value->Sem Value}{r r':R2}(h:OpR X f r)(h':OpR X f r'):OpR X f (λx y H Q=>r x y H Q\/r' x y H Q):=by
 intro pins s σ H x y v u Q I rx ry q
 rcases q with q | q
 .exact h pins s σ H x y v u Q I rx ry q
 .exact h' pins s σ H x y v u Q I rx ry q
theorem zM (b:Expr){op:CmpOp}(h:op≠.In:=by decide)(h2:op≠.NotIn:=by decide):behindInMarks op b=false:=by
 have e1:(op == CmpOp.In)=false:=by cases op <;> first | rfl | exact absurd rfl h
 have e2:(op == CmpOp.NotIn)=false:=by cases op <;> first | rfl | exact absurd rfl h2
 cases b <;> simp[behindInMarks,e1,e2]
theorem zjM {op:CmpOp}{r:R2}(ho:OpR X (compareOp op) r)(ha:PE X a ta)(hb:PE X b tb)(hm:behindInMarks op b=false):PE X (.Compare a [op] [b] pos) (tOp r ta tb):=by
 intro pins s σ H Q I h
 exact wpAny_Compare1 (znO ha hb I h λv u s2 x y H2 I2 rx ry q=>ho pins s2 σ H2 x y v u Q I2 rx ry q) hm
def zmH (t:TE):TT:=fun σ H Q=>t σ H λx H'=>∃ k,x=.bl k/\Q k H'
theorem zkB {op:CmpOp}{r:R2}(ho:OpR X (compareOp op) r)(ha:PE X a ta)(hb:PE X b tb)(hm:behindInMarks op b=false):PT X (.Compare a [op] [b] pos) (zmH (tOp r ta tb)):=by
 intro pins s σ H Q I h
 refine wpAny_isTrue_Compare1 (thn (ha pins s σ H _ I h) λv s1 ⟨x,H1,I1,r1,q1⟩=>thn (hb pins s1 σ H1 _ I1 q1) λu s2 ⟨y,H2,I2,r2,q2⟩ =>
  thn (ho pins s2 σ H2 x y v u _ I2 r1 r2 q2) λc s3 ⟨z,H3,I3,r3,k,e,q3⟩=>?_) hm
 subst e
 cases r3
 exact u0x ⟨H3,I3,q3⟩
def zfU (r r':R2)(ta tb tc:TE):TE:=fun σ H Q=>ta σ H λx H1=>tb σ H1 λy H2=>r x y H2 λz H3=>∃ k,z=.bl k /\
 (if k=true then tc σ H3 λw' H4=>r' y w' H4 Q else Q (.bl false) H3)
theorem zin {op op':CmpOp}{r r':R2}(ho:OpR X (compareOp op) r)(ho':OpR X (compareOp op') r')(ha:PE X a ta)(hb:PE X b tb)(hc:PE X c tc)
 (hm:lastMarks [op,op'] [b,c]=false:=by with_unfolding_all rfl):PE X (.Compare a [op,op'] [b,c] pos) (zfU r r' ta tb tc):=by
 intro pins s σ H Q I h
 refine Compare_chain (thn (ha pins s σ H _ I h) λv s1 ⟨x,H1,I1,r1,q1⟩=>chain_link (thn (hb pins s1 σ H1 _ I1 q1) λu s2 ⟨y,H2,I2,r2,q2⟩ =>
  thn (ho pins s2 σ H2 x y v u _ I2 r1 r2 q2) λd s3 ⟨z,H3,I3,r3,k,e,q3⟩=>?_)) hm
 subst e
 cases r3
 refine u0x ?_
 cases k with
 | false=>exact ite_ff ⟨.bl false,H3,I3,rfl,q3⟩
 | true=>exact ite_tt (chain_last (thn (hc pins s3 σ H3 _ I3 q3) λw' s4 ⟨z',H4,I4,r4,q4⟩=>ho' pins s4 σ H4 y z' u w' Q I4 r2 r4 q4))
theorem zeq {xs:List V}{its:List Value}(r:yl xs its):(!its.toArray.isEmpty)=!xs.isEmpty:=by
 cases r <;> simp
theorem zaq:(sizeLine:Nat) < 2 ^ 63:=by rw[u1w];decide
theorem zey:OpR X (binaryOp .Add) (λx y H Q=>∃ i j,x=.str i/\y=.str j/\i.length+j.length<=sizeLine/\Q (.str (i++j)) H):=by
 intro pins s σ H x y v u Q I rx ry h
 obtain⟨i,j,rfl,rfl,hz,q⟩:=h
 obtain⟨t,rfl⟩:=rx
 obtain⟨t',rfl⟩:=ry
 exact add_str (λt' tk=>⟨.str (i++j),H,I.tok _,⟨_,rfl⟩,q⟩) hz
theorem Wk {x:V}{us:List Value}(r:yl [x] us):∃ u,us=[u]/\xt x u:=by
 cases r with
 | cons r1 r2=>cases r2;exact⟨_,rfl,r1⟩
theorem zgz {x y:V}{us:List Value}(r:yl [x,y] us):∃ u w',us=[u,w']/\xt x u/\xt y w':=by
 cases r with
 | cons r1 r2 =>
  cases r2 with
  | cons r3 r4=>cases r4;exact⟨_,_,rfl,r1,r3⟩
theorem Vf (hc:X.calm=true):ZG X (.builtin "max") (λxs H Q=>∃ i j,xs=[.int i,.int j]/\Q (.int (if j > i then j else i)) H):=by
 intro pins s σ H xs us Q I r h
 obtain⟨i,j,rfl,q⟩:=h
 obtain⟨u,w',rfl,⟨t,rfl⟩,⟨t',rfl⟩⟩:=zgz r
 refine max_two_ints (I.ok.hd hc) λh' tk k=>⟨_,H,I.kept k,?_,q⟩
 by_cases hj:j > i
 .rw[t5 hj,t5 hj];exact⟨_,rfl⟩
 .rw[t6 hj,t6 hj];exact⟨_,rfl⟩
theorem Vz (hc:X.calm=true):ZG X (.builtin "min") (λxs H Q=>∃ i j,xs=[.int i,.int j]/\Q (.int (if j < i then j else i)) H):=by
 intro pins s σ H xs us Q I r h
 obtain⟨i,j,rfl,q⟩:=h
 obtain⟨u,w',rfl,⟨t,rfl⟩,⟨t',rfl⟩⟩:=zgz r
 refine min_two_ints (I.ok.hd hc) λh' tk k=>⟨_,H,I.kept k,?_,q⟩
 by_cases hj:j < i
 .rw[t5 hj,t5 hj];exact⟨_,rfl⟩
 .rw[t6 hj,t6 hj];exact⟨_,rfl⟩
theorem Vj:ZG X (.type "int") (λxs H Q=>(∃ i,xs=[.int i]/\Q (.int i) H)\/∃ k,xs=[.bl k]/\Q (.int (if k then 1 else 0)) H):=by
 intro pins s σ H xs us Q I r h
 rcases h with ⟨i,rfl,q⟩ | ⟨k,rfl,q⟩
 .obtain⟨u,rfl,t,rfl⟩:=Wk r
  exact call_int_int ⟨.int i,H,I,⟨_,rfl⟩,q⟩
 .obtain⟨u,rfl,r1⟩:=Wk r
  cases r1
  exact call_int_bool ⟨.int (if k then 1 else 0),H,I.tok _,⟨_,rfl⟩,q⟩
end
structure znS (h:Heap) (x dx C:Addr) (mA:Str->Option Value):Prop where
 obj:h.get? x=some (W.instObj C dx)
 ns:h.Ns1 dx mA
 ne:dx≠x
theorem zfk {h:Heap}{dx:Addr}{mA:Str->Option Value}(n:h.Ns1 dx mA):∃ od,h.get? dx=some od/\∀ name,W.lookIn name od=some (mA name):=by
 obtain⟨o,es,ep,ho,hd,hk,_,hm⟩:=n
 refine⟨o,ho,λname=>?_⟩
 have e:=hm name
 unfold nsFind findBy at e
 rw[<-Array.find?_toList]at e
 unfold W.lookIn
 rw[hd]
 dsimp only
 split
 .rename_i y q
  rw[q]at e
  exact u0U some e
 .rename_i q
  rw[q]at e
  have a:es.toList.any (·.refKey)=false:=by
   rw[List.any_eq_false]
   intro y hy
   obtain⟨z,t,hkey⟩:=hk y (Array.mem_toList_iff.mp hy)
   simp[DictEntry.refKey,hkey]
  have a':¬ es.toList.any (·.refKey)=true:=by rw[a];exact u7
  rw[t6 a']
  exact u0U some e
theorem znS.look {h:Heap}{x dx C:Addr}{mA:Str->Option Value}(I:znS h x dx C mA):∃ od,PySem.W.InstAt h x (W.instObj C dx) C (some od)/\∀ name,W.lookIn name od=some (mA name) :=
 let ⟨od,ho,hl⟩:=zfk I.ns
 ⟨od,⟨I.obj,rfl,rfl,ho⟩,hl⟩
section
variable {P:Program}{w:World}{H H':Hp}{h h':Heap}{a C dx:Addr}{fs fs':List (Str × V)}
theorem zjR (hok:HOk P w H h)(e:H a=some (.ins C dx fs)):∃ mA,znS h a dx C mA/\(∀ f,znh (fs.lookup f) (mA f))/\PySem.Within mA (fs.map (·.1))/\fs.length<=1000/\H dx=some (.own a):=by
 obtain⟨d,z,ne,ob,mA,n,r,q⟩:=(show xR P w H h a (.ins C dx fs)from hok a _ e)
 exact⟨mA,⟨ob,n,ne⟩,r,q,z,d⟩
end
structure Cls (K:W.Frag) (C:Addr):Prop where
 pg:W.plainGet K C Str.empty=true
 hd:W.hasDictIn K C=true
 po:W.plainOver K C=true
 sa:W.findIn K (.ref C) "__setattr__"=some (some (.builtin "object.__setattr__"))
theorem Cls.get {K:W.Frag}{C:Addr}(c:Cls K C)(f:Str):W.plainGet K C f=true:=c.pg
section
variable {X:Cx}{pins:List (Addr × Obj)}{σ:St}{H:Hp}{s:Shared}{A:Around}{E:Value->Shared->Prop}{Q:Value->Shared->Prop}{c:Value}{b:Bool}
inductive zdY (K:W.Frag) (H:Hp):V->Value->Prop where
 | non:zdY K H .non (.type "NoneType")
 | bl (x:Bool):zdY K H (.bl x) (.type "bool")
 | int (i:Int):zdY K H (.int i) (.type "int")
 | str (x:Str):zdY K H (.str x) (.type "str")
 | flt (x:UInt64):zdY K H (.flt x) (.type "float")
 | lst {a:Addr} {xs:List V} (e:H a=some (.lst xs)):zdY K H (.ref a) (.type "list")
 | frz {a:Addr} {o:Obj} {xs:List V} (e:H a=some (.frz o (.lst xs))):zdY K H (.ref a) (.type "list")
 | tup {a:Addr} {xs:List V} (e:H a=some (.tup xs)):zdY K H (.ref a) (.type "tuple")
 | dK {a:Addr} {kvs:List (Key × V)} (e:H a=some (.dK kvs)):zdY K H (.ref a) (.type "dict")
 | dT {a:Addr} {kvs:List (List Key × V)} (e:H a=some (.dT kvs)):zdY K H (.ref a) (.type "dict")
 | ins {a C dx:Addr} {fs:List (Str × V)} (e:H a=some (.ins C dx fs)) (cl:Cls K C) (ha:W.findIn K (.ref C) "__class__"=some (some (.builtin "object.__class__")))
  (hn:W.specialIn K (.builtin "object.__class__") "__get__"=some (some (.builtin "getset_descriptor.__get__"))) (htk:W.takesIn K (.builtin "object.__class__")=some true)
  (hm:W.mroIn K C (.type "object")=some true):zdY K H (.ref a) (.ref C)
theorem zgs {x:V}{u t:Value}(I:Inv X pins σ H s)(rx:xt x u)(ty:zdY X.K H x t)(e:W.kitOne X.K t c=some b)(h:∀ tk,Q (.bool b) { s with toks:=tk }) :
 wpAny (model X.prog X.w) A (call (.builtin "isinstance") [u,c]) Q E s:=by
 cases ty with
 | non=>cases (show u=Value.none from rx);exact u0k W.kitx_none I.kIn True.intro e (λz=>nomatch z) h
 | bl y=>cases (show u=Value.bool y from rx);exact u0k W.kitx_bool I.kIn True.intro e (λz=>nomatch z) h
 | int i=>obtain⟨t,q⟩:=(show ∃ t,u=Value.int i t from rx);cases q;exact u0k W.kitx_int I.kIn True.intro e (λz=>nomatch z) h
 | str y=>obtain⟨t,q⟩:=(show ∃ t,u=Value.str y t from rx);cases q;exact u0k W.kitx_str I.kIn True.intro e (λz=>nomatch z) h
 | flt y=>obtain⟨t,q⟩:=(show ∃ t,u=Value.float y t from rx);cases q;exact u0k W.kitx_float I.kIn True.intro e (λz=>nomatch z) h
 | @lst a xs ea =>
  cases (show u=Value.ref a from rx)
  obtain⟨_,_,n,_,h1⟩:=(show xR X.prog X.w H s.heap a (.lst xs)from I.hok a _ ea)
  exact u0k W.kitx_list I.kIn ⟨_,h1,rfl⟩ e (λz=>nomatch z) h
 | @frz a ob xs ea =>
  cases (show u=Value.ref a from rx)
  obtain⟨_,_,_,n,_,h1⟩:=(show xR X.prog X.w H s.heap a (.frz ob (.lst xs))from I.hok a _ ea)
  exact u0k W.kitx_list I.kIn ⟨_,h1,rfl⟩ e (λz=>nomatch z) h
 | @tup a xs ea =>
  cases (show u=Value.ref a from rx)
  obtain⟨_,_,_,p⟩:=(show xR X.prog X.w H s.heap a (.tup xs)from I.hok a _ ea)
  obtain⟨o,h1,h2,_⟩:=p
  exact u0k W.kitx_tuple I.kIn ⟨o,h1,h2⟩ e (λz=>nomatch z) h
 | @dK a kvs ea =>
  cases (show u=Value.ref a from rx)
  obtain⟨_,_,vs,_,p⟩:=(show xR X.prog X.w H s.heap a (.dK kvs)from I.hok a _ ea)
  obtain⟨o,es,ep,h1,h2,_⟩:=p
  exact u0k u1T I.kIn ⟨o,h1,h2.1⟩ e (λz=>nomatch z) h
 | @dT a kvs ea =>
  cases (show u=Value.ref a from rx)
  obtain⟨_,_,xs,_,o,es,ep,h1,h2,_⟩:=(show xR X.prog X.w H s.heap a (.dT kvs)from I.hok a _ ea)
  exact u0k u1T I.kIn ⟨o,h1,h2.1⟩ e (λz=>nomatch z) h
 | @ins a C dx fs ea cl ha hn htk hm =>
  cases (show u=Value.ref a from rx)
  obtain⟨mA,O,_⟩:=zjR I.hok ea
  obtain⟨od,J,_⟩:=O.look
  exact u0k (W.kitx_own (cl.get _) cl.hd ha hn htk hm) I.kIn J e (λz=>nomatch z) h
end
structure Yz (k:Nat) (A:Around):Prop where
 hd:A.handled=none
 dp:A.depth+3*k+5 < recursionLimit
 un:A.units+16*k+200 < cLine
theorem Yz.mono {j k:Nat}{A:Around}(r:Yz k A)(h:j<=k):Yz j A:=⟨r.hd,by have:=r.dp;omega,by have:=r.un;omega⟩
theorem Yz.deeper {k:Nat}{A:Around}(r:Yz (k+1) A)(env:Env):Yz k (A.deeper env) :=
 ⟨r.hd,by have:=r.dp;show A.depth+1+3*k+5 < _;omega,by have:=r.un;show A.units+3+16*k+200 < _;omega⟩
theorem Yz.in1 {k:Nat}{A:Around}(r:Yz (k+1) A):Yz k A.in1 :=
 ⟨r.hd,by have:=r.dp;show A.depth+3*k+5 < _;omega,by have:=r.un;show A.units+1+16*k+200 < _;omega⟩
theorem Yz.depth {k:Nat}{A:Around}(r:Yz k A):A.depth < recursionLimit:=by have:=r.dp;omega
theorem Yz.units {k:Nat}{A:Around}(r:Yz k A):A.units+64 < cLine:=by have:=r.un;omega
theorem Yz.units0 {k:Nat}{A:Around}(r:Yz k A):A.units < cLine:=by have:=r.un;omega
def tNil:TA:=λ_ H Q=>Q [] H
def zno (ta:TE)(tr:TA):TA:=fun σ H Q=>ta σ H λx H1=>tr σ H1 λxs H2=>Q (x::xs) H2
section
variable {X:Cx}{e:Expr}{es:List Expr}{te:TE}{t:TA}{pos:Pos}
theorem zaB:PA X [] tNil:=λ_ _ _ _ H Q I h=>u1O ⟨[],H,I,.nil,h⟩
theorem Zm (ha:PE X e te)(hr:PA X es t)(hs:starEach (e::es) X.env=(false,eval e X.env)::starEach es X.env:=by rfl):PA X (e::es) (zno te t):=by
 intro pos pins s σ H Q I h
 rw[hs]
 show wpAny _ _ (spliced ((false,eval e X.env)::backTo pos (starEach es X.env))) _ _ s
 refine u1F (thn (ha pins s σ H _ I h) λu s1 hh9=>?_)
 obtain⟨x,H1,I1,r1,q1⟩:=hh9
 exact thn (hr pos pins s1 σ H1 _ I1 q1) λus s2 ⟨xs,H2,I2,r2,q2⟩=>⟨x::xs,H2,I2,.cons r1 r2,q2⟩
def tTup (t:TA):TE:=fun σ H Q=>t σ H λxs H1=>xs.length<=sizeLine/\∀ p,H1 p=none->Q (.ref p) (upd H1 p (.tup xs))
def tLst (t:TA):TE:=fun σ H Q=>t σ H λxs H1=>xs.length<=sizeLine/\∀ p,H1 p=none->Q (.ref p) (upd H1 p (.lst xs))
theorem zlh {x1}(h:PA X es t):PE X (.Tuple es x1 pos) (tTup t):=by
 intro pins s σ H Q I hq
 refine wpAny_Tuple_spliced (thn (h pos pins s σ H _ I hq) λus s1 ⟨xs,H1,I1,r,z,q⟩=>⟨by rw[<-r.length];exact z,?_⟩)
 have hf:H1 s1.heap.objs.size=none:=I1.hok.fresh (t9 _)
 refine⟨.ref s1.heap.objs.size,upd H1 s1.heap.objs.size (.tup xs),I1.laid (t':=s1.toks) (λb u e=>u9 _ e) (t9 _) ?_,rfl,q _ hf⟩
 exact⟨z,us,r,⟨_,n0 _ rfl,rfl,_,rfl⟩⟩
theorem zmN (h:PA X es t):PE X (.List es pos) (tLst t):=by
 intro pins s σ H Q I hq
 refine wpAny_List_spliced (thn (h pos pins s σ H _ I hq) λus s1 ⟨xs,H1,I1,r,z,q⟩=>⟨by rw[<-r.length];exact z,?_⟩)
 have hf:H1 s1.heap.objs.size=none:=I1.hok.fresh (t9 _)
 refine⟨.ref s1.heap.objs.size,upd H1 s1.heap.objs.size (.lst xs),I1.laid (t':=s1.toks) (λb u e=>u9 _ e) (t9 _) ?_,rfl,q _ hf⟩
 exact⟨z,us,0,r,n0 _ rfl⟩
end
abbrev Sp:=List V->Hp->VK->XK->Prop
abbrev CXT:=List Env->Hp->Shared->XK->Value->Shared->Prop
structure zm1 (P:Program) (w:World) (K:W.Frag) (mg:Str->Option Value) (base:Heap) (A:Around) (outer:List Env) (s:Shared) (H:Hp):Prop where
 frames:A.frames=some outer
 mod:Mod K mg base
 bs:Bs base s.heap H
 bsz:base.objs.size<=s.heap.objs.size
 funs:s.heap.FunFrames base outer
 frf:∀ b∈frs outer,H b=none
 hok:HOk P w H s.heap
 bare:AllBare s.gens
def CE (outer:List Env)(P:Program)(w:World)(H:Hp)(s:Shared)(Q:VK)(u:Value)(s':Shared):Prop :=
 ∃ v H',s'.os=s.os/\AllBare s'.gens/\Un (frs outer) [] H H' s.heap s'.heap/\HOk P w H' s'.heap/\xt v u/\Q v H'
def CR (CX:CXT)(outer:List Env)(P:Program)(w:World)(H:Hp)(s:Shared)(Q:VK)(E:XK)(r:Result)(s':Shared):Prop :=
 match r with
 | .ok (.ret u)=>CE outer P w H s Q u s'
 | .ok _=>False
 | .error e=>CX outer H s E e s'
structure y6 (P:Program) (w:World) (K:W.Frag) (mg:Str->Option Value) (base:Heap) (CX:CXT) (k:Nat) (f:Addr) (fd:FuncData) (ps:List Str) (sp:Sp):Prop where
 len:∀ vs H Q E,sp vs H Q E->vs.length=ps.length
 run:∀ (A:Around) (outer:List Env) (s:Shared) (H:Hp) (args:Args) (us:List Value) (vs:List V) (Q:VK) (E:XK),Yz k A->zm1 P w K mg base A outer s H->BindsTo s fd args (ps.zip us)->yl vs us->sp vs H Q E ->
  codeAny (model P w) A (.call (.ref f) args) (CR CX outer P w H s Q E) s
theorem y6.mono {P:Program}{w:World}{K:W.Frag}{mg:Str->Option Value}{base:Heap}{CX:CXT}{j k:Nat}{f:Addr}{fd:FuncData}{ps:List Str}{sp:Sp}(F:y6 P w K mg base CX j f fd ps sp)(h:j<=k) :
 y6 P w K mg base CX k f fd ps sp:=⟨F.len,λA outer s H args us vs Q E hr=>F.run A outer s H args us vs Q E (hr.mono h)⟩
theorem y6.imp {P:Program}{w:World}{K:W.Frag}{mg:Str->Option Value}{base:Heap}{CX:CXT}{k:Nat}{f:Addr}{fd:FuncData}{ps:List Str}{sp sp':Sp}(F:y6 P w K mg base CX k f fd ps sp)
 (h:∀ vs H Q E,sp' vs H Q E->sp vs H Q E):y6 P w K mg base CX k f fd ps sp' :=
 ⟨λvs H Q E q=>F.len vs H Q E (h _ _ _ _ q),λA outer s H args us vs Q E hr he hb hv hs=>F.run A outer s H args us vs Q E hr he hb hv (h _ _ _ _ hs)⟩
section
variable {X:Cx}{pins:List (Addr × Obj)}{σ:St}{H:Hp}{s s':Shared}
theorem Inv.env0 (I:Inv X pins σ H s):zm1 X.prog X.w X.K X.mg X.base X.A X.stack s H :=
 ⟨I.ok.frames,I.ok.mod,I.bs,m8 I.ok.bsz I.sz,I.stack,I.stkFree,I.hok,I.bare⟩
theorem Inv.after {Q:VK}{u:Value}(I:Inv X pins σ H s)(h:CE X.stack X.prog X.w H s Q u s'):EP X pins σ Q u s':=by
 obtain⟨v,H',os,bare,un,hok,r,q⟩:=h
 obtain⟨hh,g,d,t,os'⟩:=s'
 obtain rfl:os'=s.os:=os
 exact⟨v,H',I.call (h':=hh) (g':=g) (d':=d) (t':=t) (ch:=[]) un hok bare (λb z=>absurd z (by simp)),r,q⟩
end
def znp (sp:Sp)(dvs:List V)(E:XK)(t:TA):TE:=fun σ H Q=>t σ H λvs H1=>sp (vs++dvs) H1 Q E
def zdb (K:W.Frag)(fd:FuncData)(ps:List Str)(ds:List Value):Prop :=
 ∀ (s:Shared) (us:List Value),K.In s.heap->(us++ds).length=ps.length->BindsTo s fd ⟨us,[]⟩ (ps.zip (us++ds))
theorem zdb.all {K:W.Frag}{fd:FuncData}{ps:List Str}(h:∀ us:List Value,us.length=ps.length->bindArgs fd ⟨us,[]⟩=pure (ps.zip us)):zdb K fd ps []:=λs us _ hl=>by
 rw[u0n]at hl ⊢
 exact .of_eq (h us hl)
def zf6 (CX:CXT)(X:Cx)(E:XK):Prop:=∀ (pins:List (Addr × Obj)) (σ:St) (H:Hp) (s:Shared) (e:Value) (s':Shared),Inv X pins σ H s->CX X.stack H s E e s'->X.xe e s'
section
variable {X:Cx}{CX:CXT}{k:Nat}{f C:Addr}{fd:FuncData}{ps:List Str}{sp:Sp}{dvs:List V}{ds:List Value}{E:XK}{x m:Str}{p pos apos:Pos}{e o:Expr}{es:List Expr}{ta:TE}{t:TA}
theorem zlQ {pins:List (Addr × Obj)}{σ:St}{H:Hp}{s:Shared}{Q:VK}{us:List Value}{vs:List V}(F:y6 X.prog X.w X.K X.mg X.base CX k f fd ps sp)(hr:Yz k X.A)(hb:zdb X.K fd ps ds)(hd:yl dvs ds)(hx:zf6 CX X E)
 (I:Inv X pins σ H s) (r:yl vs us) (h:sp (vs++dvs) H Q E):wpAny (model X.prog X.w) X.A (call (.ref f) us) (EP X pins σ Q) X.xe s:=by
 have r2:yl (vs++dvs) (us++ds):=r.append hd
 have hl:(us++ds).length=ps.length:=by rw[<-r2.length];exact F.len _ _ _ _ h
 refine wpAny_call (u2K (F.run X.A X.stack s H ⟨us,[]⟩ (us++ds) (vs++dvs) Q E hr I.env0 (hb s us I.kIn hl) r2 h) λr s' hq=>?_)
 cases r with
 | error e=>exact hx pins σ H s e s' I hq
 | ok fl =>
  cases fl with
  | ret u=>exact I.after hq
  | next=>exact False.elim hq
  | brk=>exact False.elim hq
  | cont=>exact False.elim hq
theorem zjx (F:y6 X.prog X.w X.K X.mg X.base CX k f fd ps sp)(hr:Yz k X.A)(hg:Gl X x)(hm:X.mg x=some (.ref f))(hk:W.keepIn X.K (.ref f)=true)(hb:zdb X.K fd ps ds)(hd:yl dvs ds)(hx:zf6 CX X E)
 (ha:PA X (e::es) t) (hdb:(x == ("__debug__":Str))=false:=by decide) (he:starEach (e::es) X.env=(false,eval e X.env)::starEach es X.env:=by rfl) (hpl:(backTo pos (starEach es X.env)).any (·.1)=false:=by rfl) :
 PE X (.Call (.Name x p) (e::es) [] pos) (znp sp dvs E t):=by
 intro pins s σ H Q I h
 refine u06 (zfq I hg hm ?_ hdb)
 refine W.callWith_K (h₀:=X.base) I.ok.mod.kin hk (thn (ha pos pins s σ H _ I h) λus s1 ⟨vs,H1,I1,r,q⟩=>⟨I1.kIn,?_⟩) he hpl
 exact zlQ F hr hb hd hx I1 r q
end
structure zu (N P:List Str) (sc:Scope):Prop where
 kind:sc.kind=.function
 co:sc.isCoroutine=false
 gen:sc.isGenerator=false
 nd:N.Nodup
 pre:N.take P.length=P
 par:∀ x∈P,sc.names.lookup x=some .local\/sc.names.lookup x=some .cell
 nofree:∀ y∈sc.names,y.2≠.free
theorem zcm {kindOf:Str->Option NameKind}{x:Str}:∀ {binds:List (Str × Value)} {m:Str->Option Value},(∀ v,(x,v)∉binds)->bindL kindOf binds m x=m x
 | [],_,_=>rfl
 | (n,v)::r,m,h=>by
  unfold bindL
  rw[zcm λw hw=>h w (p7 _ hw)]
  split
  .have:x≠n:=by rintro rfl;exact h v u0e
   simp[this]
  .rfl
theorem zb3 {kindOf:Str->Option NameKind}{x:Str}:∀ {binds:List (Str × Value)} {m:Str->Option Value},(∀ v,(x,v)∉binds)->bindC kindOf binds m x=m x
 | [],_,_=>rfl
 | (n,v)::r,m,h=>by
  unfold bindC
  rw[zb3 λw hw=>h w (p7 _ hw)]
  split
  .rfl
  .have:x≠n:=by rintro rfl;exact h v u0e
   simp[this]
theorem zcd {kindOf:Str->Option NameKind}{x:Str}{v:Value}:∀ {P:List Str} {vs:List Value} {i:Nat} {m:Str->Option Value},P.Nodup->P[i]?=some x->vs[i]?=some v->kindOf x=some .local ->
 bindL kindOf (P.zip vs) m x=some v
 | [],_,_,_,_,h,_,_=>by simp at h
 | _::_,[],_,_,_,_,h,_=>by simp at h
 | p::P,w::vs,0,m,nd,h1,h2,hk=>by
  simp at h1 h2;subst h1;subst h2
  show bindL kindOf ((p,w)::P.zip vs) m p=_
  unfold bindL
  rw[zcm λv hv=>(u0i.mp nd).1 (u2w hv).1,t5 hk]
  simp
 | p::P,w::vs,i+1,m,nd,h1,h2,hk=>by
  show bindL kindOf ((p,w)::P.zip vs) m x=_
  unfold bindL
  exact zcd (i:=i) (u0i.mp nd).2 (by simpa using h1) (by simpa using h2) hk
theorem zci {kindOf:Str->Option NameKind}{x:Str}{v:Value}:∀ {P:List Str} {vs:List Value} {i:Nat} {m:Str->Option Value},P.Nodup->P[i]?=some x->vs[i]?=some v->kindOf x≠some .local ->
 bindC kindOf (P.zip vs) m x=some v
 | [],_,_,_,_,h,_,_=>by simp at h
 | _::_,[],_,_,_,_,h,_=>by simp at h
 | p::P,w::vs,0,m,nd,h1,h2,hk=>by
  simp at h1 h2;subst h1;subst h2
  show bindC kindOf ((p,w)::P.zip vs) m p=_
  unfold bindC
  rw[zb3 λv hv=>(u0i.mp nd).1 (u2w hv).1,t6 hk]
  simp
 | p::P,w::vs,i+1,m,nd,h1,h2,hk=>by
  show bindC kindOf ((p,w)::P.zip vs) m x=_
  unfold bindC
  exact zci (i:=i) (u0i.mp nd).2 (by simpa using h1) (by simpa using h2) hk
def start (N:List Str)(vs:List V):St:=vs.map some++List.replicate (N.length - vs.length) none
def zhv (CX:CXT)(P:Program)(w:World)(K:W.Frag)(mg:Str->Option Value)(base:Heap)(N:List Str)(qual:Str)(scope:Scope)(f:Addr)(cd:Value)(A:Around)(outer:List Env)(s:Shared)(H:Hp)(E:XK):Cx where
 prog:=P
 w:=w
 K:=K
 mg:=mg
 base:=base
 A:=A.deeper (envOfC qual scope s.heap.objs.size f cd)
 N:=N
 s₀:=s
 H₀:=H
 env:=envOfC qual scope s.heap.objs.size f cd
 outer:=outer
 stack:=envOfC qual scope s.heap.objs.size f cd::outer
 ex:=[]
 calm:=true
 fn:=λ_=>true
 pn:=[]
 xe:=λe s'=>wpAny (model P w) (A.deeper (envOfC qual scope s.heap.objs.size f cd)) (leaving (envOfC qual scope s.heap.objs.size f cd) e) (λ_ s''=>CX outer H s E e s'') (λe' s''=>CX outer H s E e' s'') s'
theorem zed {sc:Scope}{n:Nat}{x:Str}(h:sc.names.lookup x=some .cell):∃ c,(cellsFrom n sc.names []).lookup x=some c:=by
 have q:=W.cellsFrom_some sc.names n [] (.inl h)
 exact Option.isSome_iff_exists.mp q
theorem zgh {CX:CXT}{P:Program}{w:World}{K:W.Frag}{mg:Str->Option Value}{base:Heap}{N ps:List Str}{qual:Str}{scope:Scope}{f:Addr}{cd:Value}{A:Around}{outer:List Env}{s s1:Shared}{H:Hp}{E:XK}{us:List Value}{vs:List V}
 (S:zu N ps scope) (hd:A.handled=none) (e0:zm1 P w K mg base A outer s H) (hl:vs.length=ps.length) (r:yl vs us)
 (x:InCallC s s.heap.objs.size (bindL (envOfC qual scope s.heap.objs.size f cd).kindOf (ps.zip us) λ_=>none) (cellsFrom (s.heap.objs.size+1) scope.names []) (bindC (envOfC qual scope s.heap.objs.size f cd).kindOf (ps.zip us) λ_=>none) s1) :
 Inv (zhv CX P w K mg base N qual scope f cd A outer s H E) [] (start N vs) H s1:=by
 have hpl:ps.length<=N.length:=by have:=u0U List.length S.pre;rw[u0W]at this;omega
 obtain⟨h1,tk,rfl,hk⟩:=x.done
 have noA:∀ b:Addr,b∉(zhv CX P w K mg base N qual scope f cd A outer s H E).ex:=λb z=>absurd (show b∈([]:List Addr)from z) (by simp)
 refine⟨⟨e0.mod,S.kind,rfl,rfl,t9 _,λy z c h1 h2=>?_,λy hy=>?_,λy c _ h=>?_,λ_=>hd,Around.frames_deeper e0.frames,.inr ⟨rfl,rfl⟩,λb z=>absurd z (noA b),e0.bs,e0.bsz,λb _ _=>noA b,λb z=>absurd z (noA b),e0.funs,e0.frf⟩,
  rfl,e0.bare,Un.kept hk,⟨_,x.toInCall.ns,λi y v h1 h2 h3=>?_⟩,λy c h=>⟨_,x.cell y c h⟩,e0.hok.fresh (t9 _),λy c h=>?_,λp hp=>absurd (show p∈([]:List (Addr × Obj))from hp) (by simp),e0.hok.kept hk,?_⟩
 .exact name_of_addr x.apart (i6 h1) (i6 h2)
 .have hy:scope.names.lookup y=some .cell\/scope.names.lookup y=some .free:=hy
  rcases hy with hy | hy
  .exact zed hy
  .exact absurd rfl (S.nofree _ (i6 hy))
 .exact u0M (x.above y c (i6 h))
 .have hi:i < vs.length:=by
   unfold start at h2
   by_cases hi:i < vs.length
   .exact hi
   .rw[u0y (by simpa using hi)]at h2
    rw[u0t]at h2
    split at h2 <;> cases h2
  have ha:vs[i]?=some v:=by
   unfold start at h2
   rw[u0l (by simpa using hi),j5]at h2
   cases e:vs[i]? with
   | none=>rw[e]at h2;cases h2
   | some a=>rw[e]at h2;cases h2;rfl
  obtain⟨u,hu,rv⟩:=r.get ha
  have hp:ps[i]?=some y:=by
   rw[<-S.pre,List.getElem?_take_of_lt (by omega)];exact h1
  have ndP:ps.Nodup:=by rw[<-S.pre];exact S.nd.sublist (List.take_sublist _ _)
  refine⟨u,rv,?_⟩
  rcases S.par y (r8 hp)with k | k
  .exact .inl ⟨k,zcd ndP hp hu k⟩
  .obtain⟨c,e⟩:=zed (n:=s.heap.objs.size+1) k
   refine .inr ⟨.inl k,c,e,?_⟩
   have q:=x.cell y c e
   rw[zci ndP hp hu (by show scope.names.lookup y≠_;rw[k];decide)]at q
   exact q
 .exact e0.hok.fresh (u0M (x.above y c (i6 h)))
 .unfold start
  show _=N.length
  rw[j9,u6,p5]
  omega
theorem zmh {CX:CXT}{P:Program}{w:World}{K:W.Frag}{mg:Str->Option Value}{base:Heap}{k:Nat}{f:Addr}{name qual:Str}{params:Arguments}{body:List Stmt}{scope:Scope}{dV kV doc pm cdv ct oc:Value}{an od:Option Addr}
 {osl:Array (Option Value)} {N ps:List Str} {sp:Sp} (lk:K.lookup f=some ⟨oc,od,.func (W.fnOf name qual params body scope dV kV doc pm an cdv ct),osl⟩) (hcd:W.codeIn K cdv qual=true) (S:zu N ps scope)
 (len:∀ vs H Q E,sp vs H Q E->vs.length=ps.length)
 (hbody:∀ (A:Around) (outer:List Env) (s:Shared) (H:Hp) (vs:List V) (Q:VK) (E:XK),Yz k (A.deeper (envOfC qual scope s.heap.objs.size f cdv))->sp vs H Q E ->
  ∃ t,PSs (zhv CX P w K mg base N qual scope f cdv A outer s H E) body t/\t { nx:=λ_ H'=>Q .non H',rt:=Q } (start N vs) H) :
 y6 P w K mg base CX (k+1) f (W.fnOf name qual params body scope dV kV doc pm an cdv ct) ps sp:=by
 refine⟨len,λA outer s H args us vs Q E hr e0 hb r hsp=>?_⟩
 have hl:=len _ _ _ _ hsp
 have KX:K.In s.heap:=e0.mod.kin.keeps λb o e=>(e0.bs.1 b o e).1
 have lim:s.heap.NoLimit:=e0.mod.nolimit.keeps λb o e=>(e0.bs.1 b o e).1
 have hkind:∀ y∈ps.zip us,scope.names.lookup y.1=some .local\/(scope.names.lookup y.1=some .cell/\((cellsFrom (s.heap.objs.size+1) scope.names []).lookup y.1).isSome=true):=λ⟨n,v⟩ hy=>by
  rcases S.par n (u2w hy).1 with q | q
  .exact .inl q
  .exact .inr ⟨q,W.cellsFrom_some _ _ _ (.inl q)⟩
 refine codeAny_call_function hr.depth (KX _ _ lk) rfl S.co S.gen rfl (W.codeRec_of KX hcd) (hb _ _ _ _ ?_)
 refine wpAny_newFunctionEnv_cells S.kind hkind λenv he s1 x=>?_
 subst he
 refine⟨lim.keeps x.toInCall.keep,codeAny_func ?_⟩
 obtain⟨t,ht,hq⟩:=hbody A outer s H vs Q E (hr.deeper _) hsp
 have I:Inv (zhv CX P w K mg base N qual scope f cdv A outer s H E) [] (start N vs) H s1:=zgh S hr.hd e0 hl r x
 refine u0K (ht [] s1 (start N vs) H _ I hq) (λfl s' hs=>?_) λe s' hs=>hs
 have fin:∀ {σ':St} {H':Hp} {v:V} {u:Value},Inv (zhv CX P w K mg base N qual scope f cdv A outer s H E) [] σ' H' s'->xt v u->Q v H'->CE outer P w H s Q u s' :=
  λ{σ' H' v u} J rv q=>⟨v,H',J.os,J.bare,J.base,J.hok,rv,q⟩
 cases fl with
 | ret u =>
  obtain⟨v,σ',H',J,rv,q⟩:=hs
  exact fin J rv q
 | next =>
  obtain⟨σ',H',J,q⟩:=hs
  exact fin (v:=V.non) (u:=Value.none) J rfl q
 | brk =>
  obtain⟨_,_,_,q⟩:=hs
  exact False.elim q
 | cont =>
  obtain⟨_,_,_,q⟩:=hs
  exact False.elim q
section
variable {X:Cx}{x:Str}{p pos:Pos}{e:Expr}{es:List Expr}{t:TA}{id T:String}{r:List V->Hp->VK->Prop}
def tCB (r:List V->Hp->VK->Prop)(t:TA):TE:=fun σ H Q=>t σ H λvs H1=>r vs H1 Q
theorem zaT (hc:ZG X (.builtin id) r) (hg:Gl X x) (hm:X.mg x=none) (hv:bootBuiltins x=some (.builtin id)) (ha:PA X (e::es) t) (hn:x≠"__name__":=by decide) (hdb:(x == ("__debug__":Str))=false:=by decide)
 (he:starEach (e::es) X.env=(false,eval e X.env)::starEach es X.env:=by rfl) (hpl:(backTo pos (starEach es X.env)).any (·.1)=false:=by rfl):PE X (.Call (.Name x p) (e::es) [] pos) (tCB r t):=by
 intro pins s σ H Q I h
 refine u06 (Zu I hg hm hv ?_ hn hdb)
 exact PyProof.Rows.callWith_builtin1 (thn (ha pos pins s σ H _ I h) λus s1 ⟨vs,H1,I1,r1,q1⟩=>hc pins s1 σ H1 vs us Q I1 r1 q1) he hpl
theorem zb0 (hc:ZG X (.type T) r) (hg:Gl X x) (hm:X.mg x=none) (hv:bootBuiltins x=some (.type T)) (ha:PA X (e::es) t) (hn:x≠"__name__":=by decide) (hdb:(x == ("__debug__":Str))=false:=by decide)
 (he:starEach (e::es) X.env=(false,eval e X.env)::starEach es X.env:=by rfl) (hpl:(backTo pos (starEach es X.env)).any (·.1)=false:=by rfl):PE X (.Call (.Name x p) (e::es) [] pos) (tCB r t):=by
 intro pins s σ H Q I h
 refine u06 (Zu I hg hm hv ?_ hn hdb)
 exact u0q (thn (ha pos pins s σ H _ I h) λus s1 ⟨vs,H1,I1,r1,q1⟩=>hc pins s1 σ H1 vs us Q I1 r1 q1) he hpl
end
end L2
namespace HT
open PySem PyProof.Rows
def lexLt:List Int->List Int->Bool
 | [],[]=>false
 | [],_::_=>true
 | _::_,[]=>false
 | x::xs,y::ys=>if x=y then lexLt xs ys else decide (x < y)
theorem lexLt_cons (x y:Int)(xs ys:List Int):lexLt (x::xs) (y::ys)=if x=y then lexLt xs ys else decide (x < y):=rfl
theorem zaW:lexLt [] []=false:=rfl
theorem zae (y:Int)(ys:List Int):lexLt [] (y::ys)=true:=rfl
theorem zak (x:Int)(xs:List Int):lexLt (x::xs) []=false:=rfl
theorem zei (A:Around)(s:Shared)(a:Int)(t:Tok)(c:Int)(u:Tok):∃ e,SeqAt.EqAt A s (.int a t) (.int c u) e/\(e=true↔a=c) :=
 ⟨(a == c),u1K a t c u,by simp⟩
theorem ziN (A:Around)(s:Shared)(a:Int)(t:Tok)(c:Int)(u:Tok)(prog:Program)(w:World)(E:Value->Shared->Prop)(Q:Value->Shared->Prop)(h:Q (.bool (decide (a < c))) s) :
 wpAny (model prog w) A (richCompare .Lt (.int a t) (.int c u)) Q E s :=
 (u2y h:wpAny (model prog w) A (compareOp .Lt (.int a t) (.int c u)) Q E s)
section
open PySem.SeqAt
open PySem.AutoSeq1 (wpAny_loadPart')
open PySem.MeetsSeq PySem.MeetsSeq2 PySem.MeetsSeq3
theorem zbq (l b:Addr)(items items2:Array Value)(n n2:Nat)(dd dd2:Option Addr)(sl sl2:Array (Option Value))(ns ms:List Int)(hi:IntsAre items.toList ns)(hj:IntsAre items2.toList ms) :
 Meets (Builtin.«tuple.__lt__» ⟨[.ref l,.ref b],[]⟩)
  (λ_ R s=>s.heap.get? l=some { cls:=.type "tuple",dict:=dd,data:=.seq items n,slots:=sl }/\s.heap.get? b=some { cls:=.type "tuple",dict:=dd2,data:=.seq items2 n2,slots:=sl2 } /\
   R (.ok (.ret (.bool (lexLt ns ms)))) s) :=
 .of_wp λprog w A R s h=>by
  obtain⟨hp,g,d,tk,os⟩:=s;obtain⟨hl,hb,h⟩:=h
  have f2:=AutoSeq1.sub_tuple_tuple
  have z1:items.size=ns.length:=by rw[<-hi.length];simp
  have z2:items2.size=ms.length:=by rw[<-hj.length];simp
  wp_walk using u0C hl,u0C hb,wpAny_forIn_list _ (λrest b s'=>b.1=none/\s'=⟨hp,g,d,tk,os⟩/\∃ (vs ws:List Value) (ns' ms':List Int),rest=vs.zip ws /\
   IntsAre vs ns'/\IntsAre ws ms'/\ns'.length+items2.size=ms'.length+items.size/\R (.ok (.ret (.bool (lexLt ns' ms')))) ⟨hp,g,d,tk,os⟩) _
  case turn =>
   rintro⟨y,x⟩ rest b s' ⟨hb',rfl,vs,ws,ns',ms',hz,hvi,hwi,hlen,hR⟩
   cases hvi with
   | nil=>rw[List.zip_nil_left]at hz;cases hz
   | cons a t hvi' =>
    cases hwi with
    | nil=>rw[u2G]at hz;cases hz
    | cons c u hwi' =>
     rw[u04]at hz
     injection hz with hyx hrest
     injection hyx with hy hx
     subst hy hx
     rw[lexLt_cons]at hR
     simp only[p6]at hlen
     obtain⟨e,he,hiff⟩:=zei A.in1 ⟨hp,g,d,tk,os⟩ a t c u
     refine u4 (he prog w _ _ ?_)
     cases e with
     | true =>
      rw[t5 (hiff.mp rfl)]at hR
      wp_walk
      exact⟨rfl,rfl,_,_,_,_,hrest,hvi',hwi',by omega,hR⟩
     | false =>
      rw[t6 (λq=>absurd (hiff.mpr q) u7)]at hR
      have hri:=ziN A.in1 ⟨hp,g,d,tk,os⟩ a t c u prog w
      wp_walk using hri
      exact⟨_,rfl,by simpa using hR⟩
  case fin =>
   rintro⟨b1,b2⟩ s' ⟨hb',rfl,vs,ws,ns',ms',hz,hvi,hwi,hlen,hR⟩
   simp only at hb'
   subst hb'
   have hv:lexLt ns' ms'=decide (items.size < items2.size):=by
    cases hvi with
    | nil =>
     cases hwi with
     | nil =>
      simp only[u1h]at hlen
      rw[zaW]
      exact(d7 (by omega)).symm
     | cons c u hw =>
      simp only[u1h,p6]at hlen
      rw[zae]
      exact(j8 (by omega)).symm
    | cons a t hv =>
     cases hwi with
     | nil =>
      simp only[u1h,p6]at hlen
      rw[zak]
      exact(d7 (by omega)).symm
     | cons c u hw =>
      rw[u04]at hz
      cases hz
   rw[hv]at hR
   wp_walk
   exact⟨_,rfl,by simpa [Builtin.Tuple.tupleCompareSizes]using hR⟩
  case h =>
   exact⟨rfl,rfl,items.toList,items2.toList,ns,ms,rfl,hi,hj,by omega,h⟩
end
section
variable {prog:Program}{w:World}{A:Around}{E:Value->Shared->Prop}{s:Shared}
theorem lt_tupInts {l b:Addr}{items items2:Array Value}{ns ms:List Int}{Q:Value->Shared->Prop}(hl:IsTup s.heap l items)(hb:IsTup s.heap b items2)(hi:IntsAre items.toList ns)(hj:IntsAre items2.toList ms)
 (hu:A.units < cLine) (h:Q (.bool (lexLt ns ms)) s):wpAny (model prog w) A (compareOp .Lt (.ref l) (.ref b)) Q E s:=by
 obtain⟨⟨cls,dd,data,sl⟩,ho,hc,n,hd⟩:=id hl
 obtain⟨⟨cls2,dd2,data2,sl2⟩,ho2,hc2,n2,hd2⟩:=id hb
 simp only at hc hd hc2 hd2
 subst hc hd hc2 hd2
 exact richCompare_meets_room (op:=.Lt) ⟨_,ho,rfl⟩ ⟨_,ho2,rfl⟩ PySem.F.slot_tuple_lt PySem.F.entry_tuple_lt (PySem.F.args_tuple_lt_2 _ _) (zbq l b items items2 n n2 dd dd2 sl sl2 ns ms hi hj)
  ⟨ho,ho2,show Value.bool (lexLt ns ms)≠Value.notImplemented/\Q (.bool (lexLt ns ms)) s from⟨(λx=>nomatch x),h⟩⟩ hu
theorem cat_tup {t b:Addr}{vs ws:List Value}{Q:Value->Shared->Prop}(ht:IsTup s.heap t vs.toArray)(hb:IsTup s.heap b ws.toArray)(hv:vs≠[])
 (h1:ws=[]->Q (.ref t) s) (h2:ws≠[]->Q (.ref s.heap.objs.size) { s with heap:=s.heap.push { cls:=.type "tuple",data:=.seq (vs++ws).toArray } })
 (hsz:vs.length+ws.length<=sizeLine):wpAny (model prog w) A (binaryOp .Add (.ref t) (.ref b)) Q E s:=by
 obtain⟨⟨cls,dd,data,sl⟩,ho,hc,n,hd⟩:=id ht
 obtain⟨⟨cls2,dd2,data2,sl2⟩,ho2,hc2,n2,hd2⟩:=id hb
 simp only at hc hd hc2 hd2
 subst hc hd hc2 hd2
 have e:vs.toArray++ws.toArray=(vs++ws).toArray:=by simp
 by_cases hw:ws=[]
 .exact concat_meets ⟨_,ho,rfl⟩ ⟨_,ho2,rfl⟩ noFill_tuple_add seq_tuple_add u1N u1J (u1D _ _)
   (tuple_addW1 t b vs.toArray ws.toArray n n2 dd dd2 sl sl2 (by simpa using hv) (by simp[hw])) ⟨ho,ho2,h1 hw⟩
 .refine concat_meets ⟨_,ho,rfl⟩ ⟨_,ho2,rfl⟩ noFill_tuple_add seq_tuple_add u1N u1J (u1D _ _)
   (tuple_addW2 t b vs.toArray ws.toArray n n2 dd dd2 sl sl2 (by simpa using hv) (by simpa using hw) (by rw[t7,t7];exact hsz)) ⟨ho,ho2,?_⟩
  rw[e]
  exact h2 hw
def sIx (n d:Nat):Option Int->Nat
 | none=>d
 | some v=>if v < 0 then (v+(n:Int)).toNat else min v.toNat n
theorem zmf (n d:Nat)(hd:d<=n)(o:Option Int):sIx n d o<=n:=by
 cases o with
 | none=>exact hd
 | some v =>
  show(if v < 0 then (v+(n:Int)).toNat else min v.toNat n)<=n
  by_cases hv:v < 0
  .rw[t5 hv];omega
  .rw[t6 hv];exact u25 _ _
theorem zfG (v:Int)(n d:Nat):(if v < 0 then max (v+(n:Int)) 0 else min v (n:Int))=((sIx n d (some v):Nat):Int):=by
 show(if v < 0 then max (v+(n:Int)) 0 else min v (n:Int))=(((if v < 0 then (v+(n:Int)).toNat else min v.toNat n):Nat):Int)
 by_cases hv:v < 0
 .simp only[t5 hv];omega
 .simp only[t6 hv];omega
theorem zeV (lo hi:Option Int)(n:Nat):Builtin.Slice.sliceAdjust lo hi 1 (n:Int)=(((sIx n 0 lo:Nat):Int),((sIx n n hi:Nat):Int)):=by
 have h1:¬ ((1:Int) < 0):=by omega
 unfold Builtin.Slice.sliceAdjust
 simp only[h1,u3y]
 refine u1X ?_ ?_
 .cases lo with
  | none=>rfl
  | some v=>exact zfG v n 0
 .cases hi with
  | none=>rfl
  | some v=>exact zfG v n n
theorem zeI (i j:Nat):Builtin.Slice.slicePlaces (i:Int) (j:Int) 1=j - i:=by
 unfold Builtin.Slice.slicePlaces
 have h1:(1:Int) > 0:=by omega
 simp only[h1,u2z,u10]
 split <;> omega
theorem zau {v:Value}{o:Option Int}{Q:Option Int->Shared->Prop}(p:IsPart v o)(h:Q o s):wpAny (model prog w) A (Builtin.Slice.slicePartIndex v) Q E s:=by
 cases p with
 | none=>exact slicePart_none h
 | int i t=>exact slicePart_int h
theorem Y8 {sl:Addr}{vl vu:Value}{lo hi:Option Int}{n:Nat}{Q:Int × Int × Nat->Shared->Prop}(hs:s.heap.IsSliceOf sl vl vu .none)(pl:IsPart vl lo)(pu:IsPart vu hi)
 (h:Q (((sIx n 0 lo:Nat):Int),1,sIx n n hi - sIx n 0 lo) s):wpAny (model prog w) A (Builtin.Slice.sliceApplied (.ref sl) (pure (n:Int))) Q E s:=by
 obtain⟨os,hos,hcs,hds⟩:=id hs
 unfold Builtin.Slice.sliceApplied Builtin.Slice.sliceFields
 refine u4 (u4 (u1x hos hds (x:=vl) rfl (u4 (u1x hos hds (x:=vu) rfl (u4 (u1x hos hds (x:=.none) rfl (j3 ?_)))))))
 refine u4 (slicePart_none ?_)
 show wpAny _ _ (if ((1:Int) == 0)=true then _ else _) _ _ s
 rw[t6 (by decide)]
 refine u4 (zau pl (u4 (zau pu (u4 (j3 ?_)))))
 show wpAny _ _ (match Builtin.Slice.sliceAdjust lo hi 1 (n:Int)with | (lo,hi)=>pure (lo,(1:Int),Builtin.Slice.slicePlaces lo hi 1)) _ _ s
 rw[zeV lo hi n]
 show wpAny _ _ (pure (((sIx n 0 lo:Nat):Int),(1:Int),Builtin.Slice.slicePlaces ((sIx n 0 lo:Nat):Int) ((sIx n n hi:Nat):Int) 1)) _ _ s
 rw[zeI]
 exact j3 h
theorem ziD (xs:Array Value)(i k:Nat):((List.range k).filterMap λ(m:Nat)=>xs[((i:Int)+(m:Int)*1).toNat]?).toArray=((xs.toList.drop i).take k).toArray:=by
 have e:(λ(m:Nat)=>xs[((i:Int)+(m:Int)*1).toNat]?)=λm=>xs[i+m]?:=by
  funext m
  have:((i:Int)+(m:Int)*1).toNat=i+m:=by omega
  rw[this]
 rw[e]
 have:=pick_run xs i k
 rw[List.filterMap_map]at this
 have e2:((λx=>xs[x]?) ∘ λx=>i+x)=λm=>xs[i+m]?:=rfl
 rw[e2]at this
 rw[this]
theorem getItem_tuple_cut {t sl:Addr}{items:Array Value}{vl vu:Value}{lo hi:Option Int}{Q:Value->Shared->Prop}(ht:IsTup s.heap t items)(hs:s.heap.IsSliceOf sl vl vu .none)(pl:IsPart vl lo)(pu:IsPart vu hi)
 (hw:¬ (sIx items.size 0 lo=0/\sIx items.size items.size hi=items.size))
 (h:Q (.ref s.heap.objs.size) { s with heap:=s.heap.push { cls:=.type "tuple",data:=.seq ((items.toList.drop (sIx items.size 0 lo)).take (sIx items.size items.size hi - sIx items.size 0 lo)).toArray } })
 (hsz:items.size<=sizeLine):wpAny (model prog w) A (getItem (.ref t) (.ref sl)) Q E s:=by
 have htake:sizeOk (.seq ((items.toList.drop (sIx items.size 0 lo)).take (sIx items.size items.size hi - sIx items.size 0 lo)).toArray):=by
  show((items.toList.drop (sIx items.size 0 lo)).take (sIx items.size items.size hi - sIx items.size 0 lo)).toArray.size<=sizeLine
  rw[t7,u0W,u0V,u0O]
  omega
 have hj:sIx items.size items.size hi<=items.size:=zmf _ _ (t9 _) hi
 obtain⟨os,hos,hcs,hds⟩:=id hs
 have hTs:s.TypeIs (.ref sl) "slice":=⟨os,hos,hcs⟩
 unfold getItem
 try with_reducible refine u0T ?_
 first | refine u4 (j3 ?_) | skip
 refine u4 (wpAny_sequenceKey ht.typeIs (by decide) ?_)
 refine u4 (u0X (name:=Str.ofString "__getitem__") ht.typeIs u0b
  (u1d u0b ht.typeIs entry_tuple_getitem ?_ (args_tuple_getitem _ _)))
 show wpAny _ _ (Builtin.Tuple.tupleItemsOf (.ref t)>>=_) _ _ s
 refine u4 (tupleItemsOf_ ht ?_)
 refine u4 (u2N hTs ?_)
 rw[t5 (by decide)]
 refine u4 (Y8 hs pl pu ?_)
 have hno:¬ ((((sIx items.size 0 lo:Nat):Int) == 0&&(1:Int) == 1&&(sIx items.size items.size hi - sIx items.size 0 lo) == items.size)=true):=by
  intro q
  rw[b7,b7]at q
  have q1:((sIx items.size 0 lo:Nat):Int)=0:=eq_of_beq q.1.1
  have q2:sIx items.size items.size hi - sIx items.size 0 lo=items.size:=eq_of_beq q.2
  exact hw ⟨by omega,by omega⟩
 show wpAny _ _ (if (((sIx items.size 0 lo:Nat):Int) == 0&&(1:Int) == 1&&(sIx items.size items.size hi - sIx items.size 0 lo) == items.size)=true then _ else _) _ _ s
 rw[t6 hno,ziD]
 first
  | exact u4 (m:=Builtin.Tuple.tupleExact _) (u0H (j3 ⟨_,rfl,j3 h⟩) htake)
  | exact u4 (m:=Builtin.Tuple.tupleExact _) (u0H (u4 (j3 (j3 ⟨_,rfl,j3 h⟩))) htake)
  | exact u4 (u4 (m:=Builtin.Tuple.tupleExact _) (u0H (j3 (j3 ⟨_,rfl,j3 h⟩)) htake))
  | exact u4 (u4 (m:=Builtin.Tuple.tupleExact _) (u0H (j3 ⟨_,rfl,j3 h⟩) htake))
end
end HT
namespace L2
open PySem PySem.Spec PyProof.Rows
abbrev TO:=St->Hp->(Option Int->Hp->Prop)->Prop
def PO (X:Cx)(e:Option Expr)(t:TO):Prop :=
 ∀ (pins:List (Addr × Obj)) (s:Shared) (σ:St) (H:Hp) (Q:Option Int->Hp->Prop),Inv X pins σ H s->t σ H Q ->
  wpAny (model X.prog X.w) X.A (evalPart e X.env) (λu s'=>∃ o H',Inv X pins σ H' s'/\IsPart u o/\Q o H') X.xe s
def zny (t:TE):TO:=fun σ H Q=>t σ H λx H1=>∃ i,x=.int i/\Q (some i) H1
theorem Ws {ns:List Int}:∀ {us:List Value},yl (ns.map V.int) us->IntsAre us ns:=by
 induction ns with
 | nil=>intro us r;rw[u3k]at r;cases r;exact .nil
 | cons n ns ih =>
  intro us r
  rw[b9]at r
  cases r with
  | cons r1 r2 =>
   obtain⟨t,e⟩:=r1
   subst e
   exact .cons n t (ih r2)
section
variable {X:Cx}{e:Expr}{te:TE}{lo hi:Option Expr}{tl th:TO}{pos p2:Pos}
theorem zjL (h:PE X e te):PO X (some e) (zny te):=by
 intro pins s σ H Q I hw
 rw[evalPart_some]
 refine thn (h pins s σ H _ I hw) λu s1 hh9=>?_
 obtain⟨x,H1,I1,r1,q1⟩:=hh9
 obtain⟨i,rfl,q⟩:=q1
 obtain⟨t,rfl⟩:=r1
 exact⟨some i,H1,I1,.int i t,q⟩
def SlR (X:Cx)(r:V->Option Int->Option Int->Hp->VK->Prop):Prop :=
 ∀ (pins:List (Addr × Obj)) (s:Shared) (σ:St) (H:Hp) (x:V) (v vl vu:Value) (lo hi:Option Int) (sl:Addr) (Q:VK),Inv X pins σ H s->xt x v->s.heap.IsSliceOf sl vl vu .none->IsPart vl lo->IsPart vu hi->r x lo hi H Q ->
  ∃ T id,typeLookup (.type T) "__getitem__"=pure (some (.builtin id))/\s.TypeIs v T/\wpAny (model X.prog X.w) X.A (getItem v (.ref sl)) (EP X pins σ Q) X.xe s
theorem SlR.or {r r':V->Option Int->Option Int->Hp->VK->Prop}(h:SlR X r)(h':SlR X r'):SlR X (λx lo hi H Q=>r x lo hi H Q\/r' x lo hi H Q):=by
 intro pins s σ H x v vl vu lo hi sl Q I rx hs pl pu q
 rcases q with q | q
 .exact h pins s σ H x v vl vu lo hi sl Q I rx hs pl pu q
 .exact h' pins s σ H x v vl vu lo hi sl Q I rx hs pl pu q
def tSl (r:V->Option Int->Option Int->Hp->VK->Prop)(te:TE)(tl th:TO):TE:=fun σ H Q=>te σ H λx H1=>tl σ H1 λl H2=>th σ H2 λu H3=>r x l u H3 Q
theorem ziP {r:V->Option Int->Option Int->Hp->VK->Prop}(hr:SlR X r)(he:PE X e te)(hl:PO X lo tl)(hu:PO X hi th):PE X (.Subscript e (.Slice lo hi none p2) pos) (tSl r te tl th):=by
 intro pins s σ H Q I h
 refine Subscript_ (thn (he pins s σ H _ I h) λv s1 hh9=>?_)
 obtain⟨x,H1,I1,r1,q1⟩:=hh9
 refine wpAny_Slice (thn (hl pins s1 σ H1 _ I1 q1) λvl s2 ⟨l,H2,I2,pl,q2⟩=>thn (hu pins s2 σ H2 _ I2 q2) λvu s3 hh9=>?_)
 obtain⟨u,H3,I3,pu,q3⟩:=hh9
 rw[evalPart_none]
 refine j3 ?_
 have I4:Inv X pins σ H3 { s3 with heap:=s3.heap.push { cls:=.type "slice",data:=.fields #[vl,vu,.none] } }:=I3.kept (t':=s3.toks) λb ob q=>u9 _ q
 obtain⟨T,id,hT,ht,hg⟩:=hr pins { s3 with heap:=s3.heap.push { cls:=.type "slice",data:=.fields #[vl,vu,.none] } } σ H3 x v vl vu l u s3.heap.objs.size Q I4 r1 (Heap.IsSliceOf.new ..) pl pu q3
 show wpAny (model X.prog X.w) X.A (subscriptTail e (.Slice lo hi none p2) v (.ref s3.heap.objs.size)) (EP X pins σ Q) X.xe { s3 with heap:=s3.heap.push { cls:=.type "slice",data:=.fields #[vl,vu,.none] } }
 exact tail_any (ops:=[.ref s3.heap.objs.size,v]) ht hT hg (by with_unfolding_all rfl)
def zcR (xs:List V)(lo hi:Option Int):List V:=(xs.drop (HT.sIx xs.length 0 lo)).take (HT.sIx xs.length xs.length hi - HT.sIx xs.length 0 lo)
theorem VB (xs:List V)(lo hi:Option Int):(zcR xs lo hi).length<=xs.length:=by
 unfold zcR
 rw[u0W,u0V]
 omega
def rSlT (K:W.Frag):V->Option Int->Option Int->Hp->VK->Prop:=λx lo hi H Q=>∃ a xs,x=.ref a/\SqT K H a xs /\
 ¬ (HT.sIx xs.length 0 lo=0/\HT.sIx xs.length xs.length hi=xs.length)/\∀ p,H p=none->Q (.ref p) (upd H p (.tup (zcR xs lo hi)))
theorem zlb:SlR X (rSlT X.K):=by
 intro pins s σ H x v vl vu lo hi sl Q I rx hs pl pu h
 obtain⟨a,xs,rfl,hx,hw,q⟩:=h
 cases rx
 obtain⟨its,r,ht,hz⟩:=I.tuple hx
 have hlen:its.toArray.size=xs.length:=by rw[t7];exact r.length.symm
 refine⟨"tuple",_,u0b.lookup,ht.typeIs,?_⟩
 refine HT.getItem_tuple_cut ht hs pl pu (by rw[hlen];exact hw) ?_ (by rw[hlen];exact hz)
 rw[hlen]
 refine⟨.ref s.heap.objs.size,_,I.laid (t':=s.toks) (o:=.tup (zcR xs lo hi)) (λb ob q=>u9 _ q) (t9 _) ?_,rfl,q _ (I.hok.fresh (t9 _))⟩
 exact⟨m8 (VB xs lo hi) hz,_,(r.drop (HT.sIx xs.length 0 lo)).take (HT.sIx xs.length xs.length hi - HT.sIx xs.length 0 lo),IsTup.new _ _⟩
def znK (K:W.Frag):R2:=λx y H Q=>∃ a b xs ys,x=.ref a/\y=.ref b/\SqT K H a xs/\SqT K H b ys/\xs≠[]/\xs.length+ys.length<=sizeLine /\
 (ys=[]->Q (.ref a) H)/\(ys≠[]->∀ p,H p=none->Q (.ref p) (upd H p (.tup (xs++ys))))
theorem yl.nil_iff {xs:List V}{us:List Value}(r:yl xs us):us=[]↔xs=[]:=by
 cases r with
 | nil=>simp
 | cons _ _=>simp
theorem zjA:OpR X (binaryOp .Add) (znK X.K):=by
 intro pins s σ H x y v u Q I rx ry h
 obtain⟨a,b,xs,ys,rfl,rfl,ha,hb,hx,hz,q1,q2⟩:=h
 cases rx
 cases ry
 obtain⟨its,r1,p1,_⟩:=I.tuple ha
 obtain⟨its2,r2,p2,_⟩:=I.tuple hb
 refine HT.cat_tup p1 p2 (λz=>hx (r1.nil_iff.mp z)) (λz=>⟨.ref a,H,I,rfl,q1 (r2.nil_iff.mp z)⟩) (λz=>?_) (by rw[<-r1.length,<- r2.length];exact hz)
 refine⟨.ref s.heap.objs.size,_,I.laid (t':=s.toks) (o:=.tup (xs++ys)) (λb ob q=>u9 _ q) (t9 _) ?_,rfl,q2 (λw=>z (r2.nil_iff.mpr w)) _ (I.hok.fresh (t9 _))⟩
 exact⟨by rw[j9];exact hz,_,r1.append r2,IsTup.new _ _⟩
end
def ixN (n:Nat)(i:Int):Option Nat:=if 0<=i then (if i < n then some i.toNat else none)else if -(n:Int)<=i then some (i+n).toNat else none
def atI {α:Type}(xs:List α)(i:Int):Option α:=(ixN xs.length i).bind λj=>xs[j]?
theorem zgL {n:Nat}{i:Int}{j:Nat}(h:ixN n i=some j):seqIndex? i n=some j/\j < n/\-(n:Int)<=i/\i < n:=by
 unfold ixN at h
 by_cases h0:0<=i
 .rw[t5 h0]at h
  by_cases h1:i < n
  .rw[t5 h1]at h
   have e:i.toNat=j:=u0j h
   exact⟨by rw[seqIndex_of h0 h1,e],by omega,by omega,h1⟩
  .rw[t6 h1]at h;cases h
 .rw[t6 h0]at h
  by_cases h1:-(n:Int)<=i
  .rw[t5 h1]at h
   have e:(i+n).toNat=j:=u0j h
   exact⟨by rw[seqIndex_neg (by omega) h1,e],by omega,h1,by omega⟩
  .rw[t6 h1]at h;cases h
theorem zdt {α:Type}{xs:List α}{i:Int}{v:α}(h:atI xs i=some v):∃ j,seqIndex? i xs.length=some j/\xs[j]?=some v/\j < xs.length/\-(xs.length:Int)<=i/\i < xs.length:=by
 unfold atI at h
 cases e:ixN xs.length i with
 | none=>rw[e]at h;cases h
 | some j =>
  rw[e]at h
  obtain⟨h1,h2,h3,h4⟩:=zgL e
  exact⟨j,h1,h,h2,h3,h4⟩
theorem zgH {α:Type}{xs:List α}{j:Nat}{v:α}(h:xs[j]?=some v):atI xs (j:Int)=some v:=by
 have hj:j < xs.length:=(t8.mp h).1
 have e:ixN xs.length (j:Int)=some j:=by
  unfold ixN
  rw[t5 (by omega),t5 (by omega)];simp
 unfold atI;rw[e];exact h
def zfu (b:Expr):Prop:=∀ o i,subscripted b false o i=operate [o,i] (getItem o i)
def IxR (X:Cx)(r:R2):Prop :=
 ∀ (value slice:Expr) (pins:List (Addr × Obj)) (s:Shared) (σ:St) (H:Hp) (x y:V) (v u:Value) (Q:VK),Inv X pins σ H s->xt x v->xt y u->r x y H Q ->
  subscripted slice false v u=operate [v,u] (getItem v u)->wpAny (model X.prog X.w) X.A (subscriptTail value slice v u) (EP X pins σ Q) X.xe s
def MtR (X:Cx)(id:String)(r:V->List V->Hp->VK->Prop):Prop :=
 ∀ (pins:List (Addr × Obj)) (s:Shared) (σ:St) (H:Hp) (x:V) (xs:List V) (v:Value) (us:List Value) (Q:VK),Inv X pins σ H s->xt x v->yl xs us->r x xs H Q ->
  wpAny (model X.prog X.w) X.A (call (.builtin id) (v::us)) (EP X pins σ Q) X.xe s
section
variable {X:Cx}{a b:Expr}{ta tb:TE}{pos:Pos}
theorem IxR.or {r r':R2}(h:IxR X r)(h':IxR X r'):IxR X (λx y H Q=>r x y H Q\/r' x y H Q):=by
 intro value slice pins s σ H x y v u Q I rx ry q hs
 rcases q with q | q
 .exact h value slice pins s σ H x y v u Q I rx ry q hs
 .exact h' value slice pins s σ H x y v u Q I rx ry q hs
theorem znA {r:R2}(hr:IxR X r)(ha:PE X a ta)(hb:PE X b tb)(hs:zfu b):PE X (.Subscript a b pos) (tOp r ta tb):=by
 intro pins s σ H Q I h
 exact Subscript_ (znO ha hb I h λv u s2 x y H2 I2 rx ry q=>hr a b pins s2 σ H2 x y v u Q I2 rx ry q (hs _ _))
def rIxL (K:W.Frag):R2:=λx y H Q=>∃ p xs i v,x=.ref p/\y=.int i/\SqL K H p xs/\atI xs i=some v/\Q v H
def rIxT (K:W.Frag):R2:=λx y H Q=>∃ p xs i v,x=.ref p/\y=.int i/\SqT K H p xs/\atI xs i=some v/\Q v H
def rIxS:R2:=λx y H Q=>∃ z i c,x=.str z/\y=.int i/\z.length<=sizeLine/\atI z.cps.toList i=some c/\Q (.str ⟨#[c]⟩) H
theorem zjw:IxR X (rIxL X.K):=by
 intro value slice pins s σ H x y v u Q I rx ry h hs
 obtain⟨p,xs,i,z,rfl,rfl,hq,he,q⟩:=h
 cases rx
 obtain⟨t,rfl⟩:=ry
 obtain⟨its,r,pl,hz⟩:=I.list hq
 obtain⟨j,h1,h2,h3,h4,h5⟩:=zdt he
 obtain⟨w,ew,rw'⟩:=r.get h2
 have hl:=r.length
 have hn:=zaq
 have fin:EP X pins σ Q w s:=⟨z,H,I,rw',q⟩
 by_cases h0:0<=i
 .have hj:i.toNat=j:=by
   rw[seqIndex_of h0 h5]at h1
   exact u0j h1
  exact item_listR pl.isList h0 (by omega) (by rw[hj];simpa using ew) fin hs
 .have hj:(i+(its.toArray.size:Int)).toNat=j:=by
   rw[seqIndex_neg (by omega) h4]at h1
   rw[t7,<- hl]
   exact u0j h1
  exact subscriptTail_builtinR (x:=w) pl.isList.typeIs slot_list_getitem.lookup
   (wpAny_getItem_list_neg (Q:=λr s'=>r=w/\EP X pins σ Q r s') pl.isList (by omega) (by rw[t7] <;> omega) (by omega) (by rw[hj];simpa using ew) ⟨rfl,fin⟩) hs
theorem zlr:IxR X (rIxT X.K):=by
 intro value slice pins s σ H x y v u Q I rx ry h hs
 obtain⟨p,xs,i,z,rfl,rfl,hq,he,q⟩:=h
 cases rx
 obtain⟨t,rfl⟩:=ry
 obtain⟨its,r,pl,hz⟩:=I.tuple hq
 obtain⟨j,h1,h2,h3,h4,h5⟩:=zdt he
 obtain⟨w,ew,rw'⟩:=r.get h2
 have hl:=r.length
 have hn:=zaq
 have fin:EP X pins σ Q w s:=⟨z,H,I,rw',q⟩
 exact subscriptTail_builtinR (x:=w) pl.typeIs slot_tuple_getitem.lookup
  (getItem_tuple (j:=j) (Q:=λr s'=>r=w/\EP X pins σ Q r s') pl (by omega) (by omega) (by rw[t7,<- hl];exact h1) (by simpa using ew) ⟨rfl,fin⟩) hs
theorem zmE:IxR X rIxS:=by
 intro value slice pins s σ H x y v u Q I rx ry h hs
 obtain⟨z,i,c,rfl,rfl,hz,he,q⟩:=h
 obtain⟨t,rfl⟩:=rx
 obtain⟨t',rfl⟩:=ry
 obtain⟨j,h1,h2,h3,h4,h5⟩:=zdt he
 have hl:z.cps.toList.length=z.length:=by simp[Str.length]
 rw[hl]at h1 h4 h5
 have hn:=zaq
 exact tail_any (typeIs_str s z t) slot_str_getitem.lookup (getItem_str (c:=c) (by
  have e1:decide (i < -(2 ^ 63:Int))=false:=d7 (by omega)
  have e2:decide (i >= 2 ^ 63)=false:=d7 (by omega)
  rw[e1,e2,Bool.or_false]) (by rw[h1];simpa using h2) ⟨.str ⟨#[c]⟩,H,I.tok _,⟨_,rfl⟩,q⟩) hs
def rIx (K:W.Frag):R2:=λx y H Q=>rIxL K x y H Q\/rIxT K x y H Q\/rIxS x y H Q
theorem zmk:IxR X (rIx X.K):=zjw.or (zlr.or zmE)
theorem zeo (its:List Value) (n j:Nat) (u:Value):Obj.mapSeq (·.setIfInBounds j u) { cls:=.type "list",data:=.seq its.toArray n }={ cls:=.type "list",data:=.seq (its.set j u).toArray n }:=by
 simp[Obj.mapSeq]
theorem Inv.lst {pins:List (Addr × Obj)}{σ:St}{H:Hp}{s:Shared}{p:Addr}{xs:List V}(I:Inv X pins σ H s)(h:H p=some (.lst xs)) :
 ∃ (its:List Value) (n:Nat),yl xs its/\s.heap.get? p=some { cls:=.type "list",data:=.seq its.toArray n }/\xs.length<=sizeLine:=by
 obtain⟨z,its,n,r,e⟩:=I.hok p _ h
 exact⟨its,n,r,e,z⟩
theorem Inv.lstUpd {pins:List (Addr × Obj)}{σ:St}{H:Hp}{s:Shared}{p:Addr}{xs ys:List V}{its its':List Value}{n n':Nat}{f:Obj->Obj}(I:Inv X pins σ H s)(h:H p=some (.lst xs))
 (ho:s.heap.get? p=some { cls:=.type "list",data:=.seq its.toArray n }) (hf:f { cls:=.type "list",data:=.seq its.toArray n }={ cls:=.type "list",data:=.seq its'.toArray n' }) (r:yl ys its') (hz:ys.length<=sizeLine) (t:Nat) :
 Inv X pins σ (upd H p (.lst ys)) { s with heap:=s.heap.update p f,toks:=t }:=by
 have e:(s.heap.update p f).get? p=some { cls:=.type "list",data:=.seq its'.toArray n' }:=by
  rw[u1g f ho (by rw[hf] <;> rfl),hf]
 refine I.write (x:=p) (e:=p) (by rw[h];trivial) (.inl rfl) (λb u hb q=>(i7 _ _ (u1S hb)).trans q) ⟨_,e⟩ ?_
 exact⟨hz,its',n',r,e⟩
def znX:V->V->V->Hp->(Hp->Prop)->Prop:=λo i v H Q=>∃ p xs k j,o=.ref p/\i=.int k/\H p=some (.lst xs)/\ixN xs.length k=some j/\Q (upd H p (.lst (xs.set j v)))
theorem zdN:znq X znX:=by
 intro pins s σ H o i v ov iv u Q I ro ri rv h
 obtain⟨p,xs,k,j,rfl,rfl,hp,hj,q⟩:=h
 cases ro
 obtain⟨t,rfl⟩:=ri
 obtain⟨its,n,r,ho,hz⟩:=I.lst hp
 obtain⟨h1,h2,h3,h4⟩:=zgL hj
 have hl:=r.length
 have hn:=zaq
 have I':Inv X pins σ (upd H p (.lst (xs.set j v))) { s with heap:=s.heap.update p (Obj.mapSeq (·.setIfInBounds j u)) } :=
  I.lstUpd hp ho (zeo its n j u) (r.set rv j) (by rw[i9];exact hz) s.toks
 by_cases h0:0<=k
 .have hk:k.toNat=j:=by
   rw[seqIndex_of h0 h4]at h1
   exact u0j h1
  exact W.ki_setAt ho h0 (by omega) (by rw[t7,<- hl];exact h4) (by rw[hk];exact⟨_,I',q⟩)
 .have hk:(k+(its.toArray.size:Int)).toNat=j:=by
   rw[seqIndex_neg (by omega) h3]at h1
   rw[t7,<- hl]
   exact u0j h1
  exact W.ki_setBack ho (by omega) (by rw[t7,<- hl];exact h3) (by omega) (by rw[hk];exact⟨_,I',q⟩)
theorem zcl (lo hi:Option Int)(n:Nat):(sliceBounds lo hi none n).1=((HT.sIx n 0 lo:Nat):Int)/\(sliceBounds lo hi none n).2.1=((HT.sIx n n hi:Nat):Int)/\(sliceBounds lo hi none n).2.2=1:=by
 refine⟨?_,?_,rfl⟩
 .cases lo with
  | none=>simp[sliceBounds,HT.sIx]
  | some i =>
   simp only[sliceBounds,HT.sIx,Option.getD_none,show(1:Int) > 0 by decide,u2z]
   by_cases h:i < 0
   .simp only[h,u2z] <;> omega
   .simp only[h,u3y] <;> omega
 .cases hi with
  | none=>simp[sliceBounds,HT.sIx]
  | some i =>
   simp only[sliceBounds,HT.sIx,Option.getD_none,show(1:Int) > 0 by decide,u2z]
   by_cases h:i < 0
   .simp only[h,u2z] <;> omega
   .simp only[h,u3y] <;> omega
theorem zbo (its:List Value)(lo hi:Option Int):slicePick its.toArray lo hi none=((its.drop (HT.sIx its.length 0 lo)).take (HT.sIx its.length its.length hi - HT.sIx its.length 0 lo)).toArray:=by
 obtain⟨h1,h2,h3⟩:=zcl lo hi its.toArray.size
 unfold slicePick
 rw[h1,h2,h3]
 simp only[sliceRange_one,pick_run,t7] <;> rfl
def rSlL (K:W.Frag):V->Option Int->Option Int->Hp->VK->Prop:=λx lo hi H Q=>∃ a xs,x=.ref a/\SqL K H a xs/\∀ p,H p=none->Q (.ref p) (upd H p (.lst (zcR xs lo hi)))
theorem zkO:SlR X (rSlL X.K):=by
 intro pins s σ H x v vl vu lo hi sl Q I rx hs pl pu h
 obtain⟨a,xs,rfl,hx,q⟩:=h
 cases rx
 obtain⟨its,r,ht,hz⟩:=I.list hx
 have hlen:=r.length
 refine⟨"list",_,slot_list_getitem.lookup,ht.isList.typeIs,?_⟩
 refine wpAny_getItem_list_slice ht.isList hs pl pu .none (by simp) ?_ (by rw[t7] <;> omega)
 rw[zbo,<- hlen]
 refine⟨.ref s.heap.objs.size,_,I.laid (t':=s.toks) (o:=.lst (zcR xs lo hi)) (λb ob q=>u9 _ q) (t9 _) ?_,rfl,q _ (I.hok.fresh (t9 _))⟩
 exact⟨m8 (VB xs lo hi) hz,_,0,(r.drop (HT.sIx xs.length 0 lo)).take (HT.sIx xs.length xs.length hi - HT.sIx xs.length 0 lo),n0 _ rfl⟩
def zjI:V->Bool
 | .non=>true
 | .bl _=>true
 | .int _=>true
 | .str _=>true
 | _=>false
def eqV:V->V->Bool
 | .non,.non=>true
 | .bl a,.bl b=>a == b
 | .bl a,.int b=>(if a then 1 else 0) == b
 | .int a,.bl b=>a == (if b then 1 else 0)
 | .int a,.int b=>a == b
 | .str a,.str b=>a == b
 | _,_=>false
theorem zju {A:Around}{s:Shared}{y x:V}{u v:Value}(ry:xt y u)(rx:xt x v)(fy:zjI y=true)(fx:zjI x=true):SeqAt.EqAt A s u v (eqV y x):=by
 cases y with
 | non =>
  cases ry
  cases x with
  | non=>cases rx;exact SeqAt.EqAt.same _
  | bl b=>cases rx;exact SeqAt.EqAt.none_bool b
  | int b=>obtain⟨t,rfl⟩:=rx;exact SeqAt.EqAt.none_int b t
  | str b=>obtain⟨t,rfl⟩:=rx;exact SeqAt.EqAt.none_str b t
  | _=>exact absurd (show false=true from fx) u7
 | bl a =>
  cases ry
  cases x with
  | non=>cases rx;exact SeqAt.EqAt.bool_none a
  | bl b=>cases rx;exact SeqAt.EqAt.bool_bool a b
  | int b=>obtain⟨t,rfl⟩:=rx;exact SeqAt.EqAt.bool_int a b t
  | str b=>obtain⟨t,rfl⟩:=rx;exact SeqAt.EqAt.bool_str a b t
  | _=>exact absurd (show false=true from fx) u7
 | int a =>
  obtain⟨t',rfl⟩:=ry
  cases x with
  | non=>cases rx;exact SeqAt.EqAt.int_none a t'
  | bl b=>cases rx;exact SeqAt.EqAt.int_bool a t' b
  | int b=>obtain⟨t,rfl⟩:=rx;exact u1K a t' b t
  | str b=>obtain⟨t,rfl⟩:=rx;exact SeqAt.EqAt.int_str a t' b t
  | _=>exact absurd (show false=true from fx) u7
 | str a =>
  obtain⟨t',rfl⟩:=ry
  cases x with
  | non=>cases rx;exact SeqAt.EqAt.str_none a t'
  | bl b=>cases rx;exact SeqAt.EqAt.str_bool a t' b
  | int b=>obtain⟨t,rfl⟩:=rx;exact SeqAt.EqAt.str_int a t' b t
  | str b=>obtain⟨t,rfl⟩:=rx;exact SeqAt.EqAt.str_str a t' b t
  | _=>exact absurd (show false=true from fx) u7
 | _=>exact absurd (show false=true from fy) u7
theorem zT:ZG X (.builtin "len") (λxs H Q=>∃ p ys,xs=[.ref p]/\(SqL X.K H p ys\/SqT X.K H p ys)/\Q (.int ys.length) H):=by
 intro pins s σ H xs us Q I r h
 obtain⟨p,ys,rfl,hq,q⟩:=h
 obtain⟨u,rfl,rx⟩:=Wk r
 cases rx
 have hn:=zaq
 rcases hq with hq | hq
 .obtain⟨its,r',pl,hz⟩:=I.list hq
  have hlen:=r'.length
  exact Calls.call_len_list pl.isList (by simp only[t7] <;> omega) ⟨.int ys.length,H,I.tok _,⟨s.toks+1,by rw[t7,hlen]⟩,q⟩
 .obtain⟨its,r',pl,hz⟩:=I.tuple hq
  have hlen:=r'.length
  exact len_tuple pl (by simp only[t7] <;> omega) ⟨.int ys.length,H,I.tok _,⟨s.toks+1,by rw[t7,hlen]⟩,q⟩
theorem zb1:ZG X (.type "list") (λxs H Q=>∃ p ys,xs=[.ref p]/\(SqL X.K H p ys\/SqT X.K H p ys)/\∀ l,H l=none->Q (.ref l) (upd H l (.lst ys))):=by
 intro pins s σ H xs us Q I r h
 obtain⟨p,ys,rfl,hq,q⟩:=h
 obtain⟨u,rfl,rx⟩:=Wk r
 cases rx
 have fin:∀ (its:List Value),yl ys its->ys.length<=sizeLine->∀ (h':Heap) (c':Nat),(∀ b o',s.heap.get? b=some o'->h'.get? b=some o') ->
  h'.get? s.heap.objs.size=some { cls:=.type "list",dict:=none,data:=.seq its.toArray c',slots:=#[] }->EP X pins σ Q (.ref s.heap.objs.size) { s with heap:=h' }:=λits r' hz h' c' kp e =>
  ⟨.ref s.heap.objs.size,_,I.laid (t':=s.toks) kp (t9 _) (show xR X.prog X.w _ h' _ (.lst ys) from⟨hz,its,c',r',e⟩),rfl,q _ (I.hok.fresh (t9 _))⟩
 rcases hq with hq | hq
 .obtain⟨its,r',pl,hz⟩:=I.list hq
  have hlen:=r'.length
  obtain⟨o,ho,hc,n,hd⟩:=pl.isList
  exact call_list_seq p (.inl rfl) ho hc hd (λh' c' kp e=>fin its r' hz h' c' kp e) (by simp only[t7] <;> omega)
 .obtain⟨its,r',pl,hz⟩:=I.tuple hq
  have hlen:=r'.length
  obtain⟨o,ho,hc,n,hd⟩:=pl
  exact call_list_seq p (.inr rfl) ho hc hd (λh' c' kp e=>fin its r' hz h' c' kp e) (by simp only[t7] <;> omega)
theorem zY:ZG X (.type "tuple") (λxs H Q=>∃ p ys,xs=[.ref p]/\((SqL X.K H p ys/\∀ l,H l=none->Q (.ref l) (upd H l (.tup ys)))\/(SqT X.K H p ys/\Q (.ref p) H))):=by
 intro pins s σ H xs us Q I r h
 obtain⟨p,ys,rfl,h⟩:=h
 obtain⟨u,rfl,rx⟩:=Wk r
 cases rx
 rcases h with ⟨hq,q⟩ | ⟨hq,q⟩
 .obtain⟨its,r',pl,hz⟩:=I.list hq
  have hlen:=r'.length
  refine call_tuple_list pl.isList (λh' kp=>?_) (by simp only[t7] <;> omega)
  have I1:Inv X pins σ H { s with heap:=h' }:=I.kept (t':=s.toks) kp
  have I2:Inv X pins σ (upd H h'.objs.size (.tup ys)) { s with heap:=h'.push { cls:=.type "tuple",data:=.seq its.toArray } } :=
   I1.laid (t':=s.toks) (λb o e=>u9 _ e) (t9 _) (show xR X.prog X.w _ _ _ (.tup ys) from⟨hz,its,r',IsTup.new _ _⟩)
  exact⟨.ref h'.objs.size,_,I2,rfl,q _ (I1.hok.fresh (t9 _))⟩
 .obtain⟨its,r',pl,hz⟩:=I.tuple hq
  exact call_tuple_same pl ⟨.ref p,H,I,rfl,q⟩
def tyV (K:W.Frag)(T:String)(x:V)(H:Hp):Prop:=match x with
 | .str _=>T="str"
 | .int _=>T="int"
 | .ref p=>(T="list"/\∃ xs,SqL K H p xs)\/(T="tuple"/\∃ o,K.lookup p=some o/\o.cls=.type "tuple"/\o.dict=none) \/
  (T="dict"/\((∃ kvs,H p=some (.dK kvs))\/∃ kvs,H p=some (.dT kvs)))\/(T="set"/\∃ S n,H p=some (.set S n))
 | _=>False
theorem zmz {pins:List (Addr × Obj)}{σ:St}{H:Hp}{s:Shared}{T:String}{x:V}{v:Value}(I:Inv X pins σ H s)(r:xt x v)(ty:tyV X.K T x H) :
 s.TypeIs v T/\∀ a,v=.ref a->∃ ob,s.heap.get? a=some ob/\ob.dict=none:=by
 cases x with
 | str z =>
  obtain⟨t,rfl⟩:=r
  cases (show T="str" from ty)
  exact⟨typeIs_str s z t,λ_ e=>nomatch e⟩
 | int i =>
  obtain⟨t,rfl⟩:=r
  cases (show T="int" from ty)
  exact⟨typeIs_int s i t,λ_ e=>nomatch e⟩
 | ref p =>
  cases r
  rcases ty with ⟨rfl,xs,hq⟩ | ⟨rfl,o,hk,hc,hd⟩ | ⟨rfl,hk⟩ | ⟨rfl,S,n,hk⟩
  .obtain⟨its,_,pl,_⟩:=I.list hq
   refine⟨pl.isList.typeIs,λa e=>?_⟩
   cases e
   obtain⟨o,n,e,c,hd,_⟩:=pl
   exact⟨o,e,hd⟩
  .refine⟨⟨o,I.kIn p o hk,hc⟩,λa e=>?_⟩
   cases e
   exact⟨o,I.kIn _ o hk,hd⟩
  .have z:∃ o,s.heap.get? p=some o/\o.ExactDict:=by
    rcases hk with ⟨kvs,hk⟩ | ⟨kvs,hk⟩
    .obtain⟨_,_,_,_,o,_,_,e,ex,_⟩:=I.hok p _ hk
     exact⟨o,e,ex⟩
    .obtain⟨_,_,_,_,o,_,_,e,ex,_⟩:=I.hok p _ hk
     exact⟨o,e,ex⟩
   obtain⟨o,e,ex⟩:=z
   refine⟨⟨o,e,ex.1⟩,λa e2=>?_⟩
   cases e2
   exact⟨o,e,ex.2.1⟩
  .obtain⟨o,_,_,_,e,ex,_⟩:=I.hok p _ hk
   refine⟨⟨o,e,ex.1⟩,λa e2=>?_⟩
   cases e2
   exact⟨o,e,ex.2.1⟩
 | _=>exact False.elim ty
def tBM (K:W.Frag)(T:String)(r:V->List V->Hp->VK->Prop)(to:TE)(t:TA):TE:=fun σ H Q=>to σ H λx H1=>tyV K T x H1/\t σ H1 λxs H2=>r x xs H2 Q
variable {o e:Expr}{es:List Expr}{to:TE}{t:TA}{name:Str}{apos cpos:Pos}{T id:String}{r:V->List V->Hp->VK->Prop}
theorem zab (pa:PlainAttrs T) (slot:Slot T name id) (hty:typeOf (.builtin id)=pure (.type "method_descriptor")) (hm:MtR X id r) (ho:PE X o to) (ha:PA X (e::es) t)
 (hbase:attributeBase o name X.env (eval o X.env)=eval o X.env:=by rfl)
 (hfew:((backTo cpos (starEach (e::es) X.env)).all (λx=>!x.1)&&(backToKw cpos (keywordEach [] X.env)).all (λx=>x.1.isSome)
  && decide ((e::es).length+([]:List Keyword).length+(if ([]:List Keyword).isEmpty then 0 else 1) < 30))=true:=by rfl)
 (hline:(apos.endLine == cpos.line)=true:=by rfl) (hs:starEach (e::es) X.env=(false,eval e X.env)::starEach es X.env:=by rfl) (hplain:(backTo cpos (starEach es X.env)).any (·.1)=false:=by rfl) :
 PE X (.Call (.Attribute o name apos) (e::es) [] cpos) (tBM X.K T r to t):=by
 intro pins s σ H Q I h
 refine wpAny_Call_method_late hbase hfew hline rfl (thn (ho pins s σ H _ I h) λv s1 hh9=>?_)
 obtain⟨x,H1,I1,r1,ty,q1⟩:=hh9
 obtain⟨h1,h2⟩:=zmz I1 r1 ty
 refine⟨T,id,pa,slot,hty,h1,h2,?_⟩
 have hA:=ha cpos pins s1 σ H1 _ I1 q1
 rw[hs]at hA ⊢
 refine Calls.callWith_builtin (by show(false||(backTo cpos (starEach es X.env)).any (·.1))=false;rw[hplain] <;> rfl) (Calls.evalArgs_plain ?_)
 exact thn hA λus s2 ⟨vs,H2,I2,r2,q2⟩=>hm pins s2 σ H2 x vs v us Q I2 r1 r2 q2
/- xs.append(e),list.index on a module's tuple .. are MtR facts of 06m -/
end
def MtM (X:Cx)(id:String)(r:V->List V->Hp->VK->Prop):Prop :=
 ∀ (pins:List (Addr × Obj)) (s:Shared) (σ:St) (H:Hp) (x:V) (xs:List V) (v:Value) (us:List Value) (Q:VK),Inv X pins σ H s->xt x v->yl xs us->r x xs H Q ->
  wpAny (model X.prog X.w) X.A (call (.builtin id) (v::us)) (EP X pins σ Q) X.xe s
theorem yl.one:∀ {x:V} {us:List Value},yl [x] us->∃ u,us=[u]/\xt x u:=by
 intro x us h
 cases h with | cons r t=>cases t;exact⟨_,rfl,r⟩
theorem yl.two:∀ {x y:V} {us:List Value},yl [x,y] us->∃ u v,us=[u,v]/\xt x u/\xt y v:=by
 intro x y us h
 cases h with | cons r t=>cases t with | cons q t=>cases t;exact⟨_,_,rfl,r,q⟩
theorem yl.rep {xs:List V}{us:List Value}(h:yl xs us):∀ k:Nat,yl (List.replicate k xs).flatten (List.replicate k us).flatten
 | 0=>.nil
 | k+1=>by
  rw[i5,i5,u0Y,u0Y]
  exact yl.append h (yl.rep h k)
theorem zcA (its:List Value):∀ (k:Nat) (acc:List Value),
 List.foldl (λx1 x2=>x1++x2) acc.toArray (List.replicate k its.toArray)=(acc++(List.replicate k its).flatten).toArray
 | 0,acc=>by simp
 | k+1,acc=>by
  have e:acc.toArray++its.toArray=(acc++its).toArray:=by simp
  have e2:(acc++its)++(List.replicate k its).flatten=acc++(List.replicate (k+1) its).flatten:=by
   rw[i5,u0Y,List.append_assoc]
  rw[<-e2,<- zcA its k (acc++its),<- e,i5,u3i]
section
variable {X:Cx}{pins:List (Addr × Obj)}{σ:St}{H:Hp}{s:Shared}{l b:Addr}{xs ys zs:List V}
theorem Inv.lset {its its':List Value}{n:Nat}{f:Array Value->Array Value}{t':Nat}(I:Inv X pins σ H s)(hH:H l=some (.lst xs))
 (e:s.heap.get? l=some { cls:=.type "list",data:=.seq its.toArray n }) (hf:f its.toArray=its'.toArray) (hv:yl ys its') (hz:ys.length<=sizeLine) :
 Inv X pins σ (upd H l (.lst ys)) { s with heap:=s.heap.update l (Obj.mapSeq f),toks:=t' }:=by
 have q:=PySem.IsL.update e f
 rw[hf]at q
 refine I.write (x:=l) (e:=l) (by rw[hH];exact trivial) (.inl rfl) (λb' u hb hu=>(i7 s.heap (Obj.mapSeq f) (u1S hb)).trans hu) ⟨_,q⟩ ?_
 exact⟨hz,its',_,hv,q⟩
theorem Inv.lnew {its:List Value}{t':Nat}(I:Inv X pins σ H s)(hv:yl ys its)(hz:ys.length<=sizeLine) :
 Inv X pins σ (upd H s.heap.objs.size (.lst ys)) { s with heap:=s.heap.push { cls:=.type "list",data:=.seq its.toArray },toks:=t' } :=
 I.laid (λ_ _ q=>u9 _ q) (t9 _) ⟨hz,its,0,hv,n0 _ rfl⟩
theorem Inv.fresh (I:Inv X pins σ H s):H s.heap.objs.size=none:=I.hok.fresh (t9 _)
theorem Inv.lstM (I:Inv X pins σ H s) (hH:H l=some (.lst xs)):xs.length<=sizeLine/\∃ (its:List Value) (n:Nat),yl xs its/\xs.length=its.length/\s.heap.get? l=some { cls:=.type "list",data:=.seq its.toArray n }:=by
 obtain⟨z,its,n,r,e⟩:=I.hok l _ hH
 exact⟨z,its,n,r,r.length,e⟩
theorem zdU {n:Nat}(h:n<=sizeLine):Builtin.List.listTooLong n=false:=by
 unfold Builtin.List.listTooLong
 exact d7 (by omega)
end
section
variable {X:Cx}
def zgF:V->List V->Hp->VK->Prop:=λx vs H Q=>∃ l xs y,x=.ref l/\vs=[y]/\H l=some (.lst xs)/\xs.length < sizeLine/\Q .non (upd H l (.lst (xs++[y])))
theorem wt:MtM X "list.append" zgF:=by
 intro pins s σ H x vs v us Q I rx rv h
 obtain⟨l,xs,y,rfl,rfl,hH,hz,q⟩:=h
 cases rx
 obtain⟨u,rfl,ru⟩:=rv.one
 obtain⟨z,its,n,r,hl,e⟩:=I.lstM hH
 refine u3n F.slot_list_append ⟨_,e,rfl⟩ F.entry_list_append (F.args_list_append_2 _ _) (PySem.list_append l its.toArray n u (by rw[t7];omega)) ⟨e,?_⟩
 refine⟨.non,_,I.lset (its':=its++[u]) hH e (by simp) (r.append (.cons ru .nil)) ?_,rfl,q⟩
 rw[j9,List.length_singleton]
 omega
def zg5:V->List V->Hp->VK->Prop:=λx vs H Q=>∃ l b xs zs,x=.ref l/\vs=[.ref b]/\H l=some (.lst xs)/\H b=some (.lst zs)/\xs.length+zs.length<=sizeLine/\Q .non (upd H l (.lst (xs++zs)))
theorem zgm:MtM X "list.extend" zg5:=by
 intro pins s σ H x vs v us Q I rx rv h
 obtain⟨l,b,xs,zs,rfl,rfl,hH,hB,hz,q⟩:=h
 cases rx
 obtain⟨u,rfl,ru⟩:=rv.one
 cases ru
 obtain⟨z,its,n,r,hl,e⟩:=I.lstM hH
 obtain⟨z2,its2,n2,r2,hl2,e2⟩:=I.lstM hB
 have hsz:its.toArray.size+its2.toArray.size<=sizeLine:=by rw[t7,t7];omega
 have hlong:¬ (!its.toArray.isEmpty&&Builtin.List.listTooLong (its.toArray.size+its2.toArray.size))=true:=by
  rw[zdU hsz,u2O]
  exact u7
 refine u3n F.slot_list_extend ⟨_,e,rfl⟩ F.entry_list_extend (F.args_list_extend_2 _ _)
  (AutoSeq1.list_extend_list_list_0 l its.toArray n b its2.toArray n2 hlong (by rw[t7];omega) (by omega)) ⟨e,e2,?_⟩
 refine⟨.non,_,I.lset (its':=its++its2) hH e (by simp) (r.append r2) ?_,rfl,q⟩
 rw[j9]
 omega
def rCat:R2:=λx y H Q=>∃ l b xs zs,x=.ref l/\y=.ref b/\H l=some (.lst xs)/\H b=some (.lst zs)/\xs.length+zs.length<=sizeLine/\∀ p,H p=none->Q (.ref p) (upd H p (.lst (xs++zs)))
theorem zlI:OpR X (binaryOp .Add) rCat:=by
 intro pins s σ H x y v u Q I rx ry h
 obtain⟨l,b,xs,zs,rfl,rfl,hH,hB,hz,q⟩:=h
 cases rx
 cases ry
 obtain⟨z,its,n,r,hl,e⟩:=I.lstM hH
 obtain⟨z2,its2,n2,r2,hl2,e2⟩:=I.lstM hB
 refine PySem.P.add_list e e2 ?_ (by rw[t7,t7];omega)
 have ea:its.toArray++its2.toArray=(its++its2).toArray:=by simp
 rw[ea]
 exact⟨.ref _,_,I.lnew (t':=s.toks) (r.append r2) (by rw[j9];omega),rfl,q _ I.fresh⟩
def rRep:R2:=λx y H Q=>∃ l k xs,x=.ref l/\y=.int k/\H l=some (.lst xs)/\-(2 ^ 63)<=k/\k < 2 ^ 63/\xs.length*k.toNat<=sizeLine /\
 ∀ p,H p=none->Q (.ref p) (upd H p (.lst (List.replicate k.toNat xs).flatten))
theorem zkv {α:Type}(xs:List α)(k:Nat):(List.replicate k xs).flatten.length=k*xs.length:=by
 induction k with
 | zero=>simp
 | succ k ih=>rw[i5,u0Y,j9,ih,Nat.succ_mul,Nat.add_comm]
theorem zjf:OpR X (binaryOp .Mult) rRep:=by
 intro pins s σ H x y v u Q I rx ry h
 obtain⟨l,k,xs,rfl,rfl,hH,h1,h2,hz,q⟩:=h
 cases rx
 obtain⟨t,rfl⟩:=ry
 obtain⟨z,its,n,r,hl,e⟩:=I.lstM hH
 have hlen:its.toArray.size*k.toNat<=sizeLine:=by rw[t7,<- hl];exact hz
 have hcap:¬ its.toArray.size*k.toNat > (2 ^ 63 - 1) / 8:=by
  have:(sizeLine:Nat)<=(2 ^ 63 - 1) / 8:=by decide
  omega
 have hfit:¬ (!Builtin.List.listFitsIndex k)=true:=by
  rw[fitsIndex_both h1 h2]
  exact u7
 have hlong:¬ Builtin.List.listTooLong (its.toArray.size*k.toNat)=true:=by
  rw[zdU hlen]
  exact u7
 have hnew:List.foldl (λx1 x2=>x1++x2) #[] (List.replicate (if its.toArray.isEmpty=true then 0 else k.toNat) its.toArray)=(List.replicate k.toNat its).flatten.toArray:=by
  have f0:∀ m:Nat,List.foldl (λx1 x2=>x1++x2) #[] (List.replicate m its.toArray)=(List.replicate m its).flatten.toArray:=λm=>by
   have:=zcA its m []
   rw[List.nil_append]at this
   exact this
  rw[f0]
  cases its with
  | nil=>simp
  | cons a r'=>rw[t6 (by simp)]
 refine wpAny_binaryOp_repeat_ref (T:="list") (U:="int") (by decide) ⟨_,e,rfl⟩ (λs'=>typeIs_int s' k t) noFill_list_mul F.fills_int_mul F.slot_int_rmul repeat_list F.slot_int_index.lookup
  (u3n F.slot_int_rmul (typeIs_int s k t) F.entry_int_rmul (F.args_int_rmul_2 _ _) (int___rmul___int_list k t l its.toArray n)
   ⟨e,rfl,⟨_,e,rfl⟩,u3n F.slot_list_mul ⟨_,e,rfl⟩ F.entry_list_mul (F.args_list_mul_2 _ _) (AutoListH.list___mul___list_int_3 l its.toArray n k t hfit hcap hlong) ⟨e,?_⟩⟩)
 rw[hnew]
 exact⟨.ref _,_,I.lnew (t':=s.toks) (r.rep k.toNat) (by rw[zkv,Nat.mul_comm];exact hz),rfl,q _ I.fresh⟩
end
end L2
namespace Att
open PySem PySem.W PySem.Calls PyProof.Rows
theorem VC {P:Params}{h:Heap}:∀ (ns:List Int) (vs:List Value),WellAll P h vs (ns.map WData.int)->IntsAre vs ns:=by
 intro ns
 induction ns with
 | nil =>
  intro vs w
  rw[u3k]at w
  cases w
  exact .nil
 | cons n ns ih =>
  intro vs w
  rw[b9]at w
  cases w with
  | cons a b =>
   cases a
   exact .cons _ _ (ih _ b)
theorem zgb {l:OpenLaw}{n:Nat}(hn:l.most=some n){P:Params}{h:Heap}{args:List WData}{vals:List Value}
 (hpre:l.row.toRowW.claim.pre args=true) (hwl:WellAll P h vals args) :
 ∃ a vs ns,vals=[Value.ref a]/\args=[WData.list (ns.map WData.int)]/\h.get? a=some { cls:=.type "list",data:=.seq vs.toArray }/\IntsAre vs ns/\ns.length<=n:=by
 have hsh:WShape.hasAll [] args [.list .int]=true:=(pre_splitW hpre).1
 have hc:l.pre.holds [] { args:=args }=true:=(pre_splitW hpre).2
 obtain⟨d,r,rfl,h1,h2⟩:=hasAllW_cons hsh
 obtain rfl:=hasAllW_nil h2
 obtain⟨xs,rfl,h3⟩:=hasW_list h1
 obtain⟨ns,rfl⟩:=items_int h3
 have hlen:ns.length<=n:=by
  unfold OpenLaw.pre at hc
  have h4:(WTm.not (.lt (.lit (.int (n:Int))) (.len (.arg 0)))).holds [] { args:=[.list (ns.map .int)] }=true:=by
   have h4:=(holds_andW hc).1
   rw[hn]at h4
   exact h4
  have h5:=condW_of h4 (w_not (w_lt w_lit (w_len_list (w_arg rfl))))
  rw[u6]at h5
  refine u1u λq=>?_
  have q':(n:Int) < ((ns.length:Nat):Int):=by omega
  first
   | (rw[j8 q']at h5;exact absurd h5 (by decide))
   | (simp at h5;omega)
 cases hwl with
 | cons w1 w2 =>
  cases w2
  cases w1 with
  | list ho hall=>exact⟨_,_,ns,rfl,rfl,ho,VC ns _ hall,hlen⟩
theorem zhl (l:OpenLaw)(args:List WData):l.row.toRowW.claim.post args (.bool true) args=true :=
 postW_of (r:=l.row.toRowW) (X:=(true == true))
  (show WShape.has [] (.bool true) .bool=true by first | rfl | decide | simp[WShape.has,WShape.arms,WShape.armsAll])
  (show(WTm.eq .res (.lit (.bool true))).value [] { args:=args,res:=some (.bool true),after:=args }=some (.bool (true == true))from w_eq_bool (w_res rfl) w_lit) rfl
theorem attach_call {l:OpenLaw}{n:Nat}{q:Program}{loose:List Str}{XP:(Str->Option Value)->Heap->Prop}{YP:World->Heap->Prop}{d:DefRec}
 (hn:l.most=some n) (hdf:d.params.defaults=[])
 (call:∀ (w:World) (s₀ s₁:Shared) (mg mb:Str->Option Value) (fa:Addr) (o:Obj) (pm cd doc:Value) (a:Addr) (vs:List Value) (ns:List Int),
  Ground q loose [] XP w s₀ mg mb s₁.heap->YP w s₁.heap ->
  s₁.heap.get? fa=some o->o.data=.func (docDef d.name d.params d.body d.scope pm cd doc)->s₁.heap.CodeRec cd d.name->mg d.name=some (.ref fa) ->
  s₁.heap.get? a=some { cls:=.type "list",data:=.seq vs.toArray }->IntsAre vs ns->ns.length<=n->s₁.gens=#[] ->
  codeAny (model l.prog w) callerA (.call (.ref fa) ⟨[.ref a],[]⟩) (λr s'=>r=.ok (.ret (.bool true))/\OldK s₁.heap s'.heap/\s'.os=s₁.os/\AllBare s'.gens) s₁) :
 WalkO q loose XP YP l.row.toRowW d [] (λf vs=>PySem.call f vs):=by
 intro w s₀ s₁ mg mb G Y fa o pm cd doc dV kV ho hd hcd hD hmg hg args vals as hpre hlay hrd hwl hlo
 obtain rfl:dV=.none:=Dflts.none hD hdf
 obtain rfl:kV=.none:=Dflts.noKw hD
 obtain⟨a,vs,ns,rfl,rfl,hobj,hints,hlen⟩:=zgb hn hpre hwl
 refine enter_call (u2K (call w s₀ s₁ mg mb fa o pm cd doc a vs ns G Y ho (fd_plain hd) hcd hmg hobj hints hlen hg) λr s' hq=>?_)
 obtain⟨rfl,h2,h3,h4⟩:=hq
 exact⟨.inl ⟨.bool true,.bool true,[],rfl,λ_=>rfl,.bool true,zhl l _,λ_=>⟨List.Pairwise.nil,λ_ hm=>(nomatch hm)⟩⟩,h2,h3,h4⟩
section
variable {prog:Program}{w:World}{A:Around}{E:Value->Shared->Prop}{s:Shared}{K:Frag}
def ledger (h:Heap)(L d:Addr):List (Addr × Obj):=(List.range h.objs.size).filterMap λa=>if a=L\/a=d then none else (h.get? a).map λo=>(a,o)
end
end Att
namespace L2
open PySem PySem.Spec PyProof.Rows
theorem zcn:∀ {vs:List Value} {ns:List Int},IntsAre vs ns->yl (ns.map V.int) vs:=by
 intro vs ns h
 induction h with
 | nil=>exact .nil
 | cons n t h ih=>exact .cons ⟨t,rfl⟩ ih
def Xx (s:Stmt):Arguments:=match s with
 | .FunctionDef _ a _ _ _ _ _ _ _ _=>a
 | _=>{ posonlyargs:=[],args:=[],vararg:=none,kwonlyargs:=[],kw_defaults:=[],kwarg:=none,defaults:=[] }
def wN (s:Stmt):List Stmt:=match s with
 | .FunctionDef _ _ b _ _ _ _ _ _ _=>b
 | _=>[]
def zk (s:Stmt):Scope:=match s with
 | .FunctionDef _ _ _ _ _ _ sc _ _ _=>sc
 | _=>{ kind:=.function,names:=[],isGenerator:=false,isCoroutine:=false }
abbrev CX0:CXT:=λ_ _ _ _ _ _=>False
abbrev E0:XK:=λ_ _ _=>False
theorem znT {X:Cx}:zf6 CX0 X E0:=λ_ _ _ _ _ _ _ h=>h.elim
structure Fun (K:W.Frag) (x qual:Str) (st:Stmt) (f:Addr) (fd:FuncData):Prop where
 ex:∃ (oc:Value) (od:Option Addr) (kV doc pm:Value) (an:Option Addr) (cdv ct:Value) (osl:Array (Option Value)),
  fd=W.fnOf x qual (Xx st) (wN st) (zk st) .none kV doc pm an cdv ct/\K.lookup f=some ⟨oc,od,.func fd,osl⟩/\W.codeIn K cdv qual=true
 kp:W.keepIn K (.ref f)=true
section
variable {P:Program}{w:World}{K:W.Frag}{mg:Str->Option Value}{base:Heap}
theorem Fun.ok {x qual:Str}{st:Stmt}{f:Addr}{fd:FuncData}{N ps:List Str}{k:Nat}{sp:Sp}(F:Fun K x qual st f fd)(S:zu N ps (zk st))(len:∀ vs H Q E,sp vs H Q E->vs.length=ps.length)
 (hbody:∀ (cdv:Value) (A:Around) (outer:List Env) (s:Shared) (H:Hp) (vs:List V) (Q:VK) (E:XK),Yz k (A.deeper (envOfC qual (zk st) s.heap.objs.size f cdv))->sp vs H Q E ->
  ∃ t,PSs (zhv CX0 P w K mg base N qual (zk st) f cdv A outer s H E).nox (wN st) t/\t { nx:=λ_ H'=>Q .non H',rt:=Q } (start N vs) H):y6 P w K mg base CX0 (k+1) f fd ps sp:=by
 obtain⟨oc,od,kV,doc,pm,an,cdv,ct,osl,rfl,lk,hcd⟩:=F.ex
 refine zmh lk hcd S len λA outer s H vs Q E hr hsp=>?_
 obtain⟨t,h,q⟩:=hbody cdv A outer s H vs Q E hr hsp
 exact⟨t,h.nox,q⟩
theorem Fun.binds {x qual:Str}{st:Stmt}{f:Addr}{fd:FuncData}{ps:List Str}(F:Fun K x qual st f fd)
 (h:∀ (kV doc pm:Value) (an:Option Addr) (cdv ct:Value) (us:List Value),us.length=ps.length->bindArgs (W.fnOf x qual (Xx st) (wN st) (zk st) .none kV doc pm an cdv ct) ⟨us,[]⟩=pure (ps.zip us)):zdb K fd ps []:=by
 obtain⟨oc,od,kV,doc,pm,an,cdv,ct,osl,rfl,lk,hcd⟩:=F.ex
 exact .all (h kV doc pm an cdv ct)
theorem zja {x qual:Str}{st:Stmt}{f:Addr}{oc:Value}{od an:Option Addr}{osl:Array (Option Value)}{kV doc pm cdv ct:Value}(l:K.lookup f=some ⟨oc,od,.func (W.fnOf x qual (Xx st) (wN st) (zk st) .none kV doc pm an cdv ct),osl⟩)
 (c:W.codeIn K cdv qual=true) (k:W.keepIn K (.ref f)=true):Fun K x qual st f (W.fnOf x qual (Xx st) (wN st) (zk st) .none kV doc pm an cdv ct):=⟨⟨oc,od,kV,doc,pm,an,cdv,ct,osl,rfl,l,c⟩,k⟩
end
theorem XX {n:Nat}(h:n<=1000):n < sizeLine:=u0f h (by decide)
section
variable {X:Cx}
theorem pv (i:Nat) {x:Str} {pos:Pos} (hN:X.N[i]?=some x:=by rfl) (hv:Vis X.env.scope x:=by first | exact Or.inl rfl | exact Or.inr (Or.inl rfl) | exact Or.inr (Or.inr rfl)) (hd:(x == ("__debug__":Str))=false:=by decide)
 (hcd:(x == ("__classdict__":Str))=false:=by decide):PE X (.Name x pos) (zhK i):=zld hN hv hd hcd
end
def xj (H H':Hp):Prop:=∀ b o,H b=some o->H' b=some o
theorem xj.refl (H:Hp):xj H H:=λ_ _ h=>h
theorem xj.trans {H H1 H2:Hp}(a:xj H H1)(b:xj H1 H2):xj H H2:=λc o h=>b c o (a c o h)
theorem xj.free {H H':Hp}(e:xj H H'){l:Addr}(h:H' l=Option.none):H l=Option.none:=by
 cases q:H l with
 | none=>rfl
 | some o =>
  rw[e l o q]at h
  cases h
theorem xj.seq {K:W.Frag}{H H':Hp}{a:Addr}{xs:List V}(e:xj H H')(h:SqL K H a xs):SqL K H' a xs:=by
 rcases h with (h | ⟨o,h⟩) | h
 .exact .inl (.inl (e _ _ h))
 .exact .inl (.inr ⟨o,e _ _ h⟩)
 .exact .inr h
theorem zdk {X:Cx}:ZG X (.builtin "isinstance") (λxs H Q=>∃ x n t b,xs=[x,.ty n]/\zdY X.K H x t/\W.kitOne X.K t (.type n)=some b/\Q (.bl b) H):=by
 intro pins s σ H xs us Q I r h
 obtain⟨x,n,t,b,rfl,ty,e,q⟩:=h
 obtain⟨u,w',rfl,rx,rt⟩:=zgz r
 cases (show w'=Value.type n from rt)
 exact zgs I rx ty e λtk=>⟨.bl b,H,I.tok _,rfl,q⟩
theorem zit {X:Cx}:OpR X (compareOp .Is) (λx y H Q=>∃ i j,x=.bl i/\y=.bl j/\Q (.bl (i == j)) H):=by
 intro pins s σ H x y v u Q I rx ry h
 obtain⟨i,j,rfl,rfl,q⟩:=h
 cases rx
 cases ry
 refine wpAny_is_plain (by rfl) ⟨.bl (i == j),H,I,?_,q⟩
 cases i <;> cases j <;> rfl
theorem zdp {X:Cx}:OpR X (compareOp .IsNot) (λx y H Q=>∃ i j,x=.bl i/\y=.bl j/\Q (.bl (!(i == j))) H):=by
 intro pins s σ H x y v u Q I rx ry h
 obtain⟨i,j,rfl,rfl,q⟩:=h
 cases rx
 cases ry
 refine wpAny_isNot_plain (by rfl) ⟨.bl (!(i == j)),H,I,?_,q⟩
 cases i <;> cases j <;> rfl
def zi1 (K:W.Frag):R2:=λx y H Q=>∃ a b xs ys,x=.ref a/\y=.ref b/\SqT K H a xs/\SqT K H b ys/\xs.length+ys.length<=sizeLine /\
 (xs=[]->Q (.ref b) H)/\(xs≠[]->ys=[]->Q (.ref a) H)/\(xs≠[]->ys≠[]->∀ p,H p=none->Q (.ref p) (upd H p (.tup (xs++ys))))
theorem zhC {X:Cx}:OpR X (binaryOp .Add) (zi1 X.K):=by
 intro pins s σ H x y v u Q I rx ry h
 obtain⟨a,b,xs,ys,rfl,rfl,ha,hb,hz,q0,q1,q2⟩:=h
 by_cases hx:xs=[]
 .subst hx
  cases rx
  cases ry
  obtain⟨its,r,p,_⟩:=I.tuple ha
  obtain⟨its',r',p',_⟩:=I.tuple hb
  cases r
  obtain⟨⟨cls,dd,data,sl⟩,ho,hc,n,hd⟩:=id p
  obtain⟨⟨cls2,dd2,data2,sl2⟩,ho2,hc2,n2,hd2⟩:=id p'
  simp only at hc hd hc2 hd2
  subst hc hd hc2 hd2
  exact concat_meets ⟨_,ho,rfl⟩ ⟨_,ho2,rfl⟩ noFill_tuple_add seq_tuple_add u1N u1J (u1D _ _)
   (tuple_addW0 a b #[] its'.toArray n n2 dd dd2 sl sl2 rfl) ⟨ho,ho2,⟨.ref b,H,I,rfl,q0 rfl⟩⟩
 .refine zjA pins s σ H (.ref a) (.ref b) v u Q I rx ry ⟨a,b,xs,ys,rfl,rfl,ha,hb,hx,hz,?_⟩
  exact⟨λe=>q1 hx e,λe=>q2 hx e⟩
inductive Wp:St->St->Prop where
 | nil:Wp [] []
 | non {a:Option V} {s t:St}:Wp s t->Wp (none::s) (a::t)
 | same {a:Option V} {s t:St}:Wp s t->Wp (a::s) (a::t)
theorem Wp.refl:∀ s:St,Wp s s
 | []=>.nil
 | _::r=>.same (Wp.refl r)
theorem Wp.length {s t:St}(h:Wp s t):s.length=t.length:=by
 induction h with
 | nil=>rfl
 | non _ ih=>simp[ih]
 | same _ ih=>simp[ih]
theorem Wp.get {s t:St}(h:Wp s t):∀ (i:Nat) (v:V),s[i]?=some (some v)->t[i]?=some (some v):=by
 induction h with
 | nil=>intro i v e;exact e
 | non _ ih =>
  intro i v e
  cases i with
  | zero=>simp at e
  | succ i=>simpa using ih i v (by simpa using e)
 | same _ ih =>
  intro i v e
  cases i with
  | zero=>simpa using e
  | succ i=>simpa using ih i v (by simpa using e)
theorem Wp.set {n:Nat}{v:V}:∀ {s t:St},Wp s t->s[n]?=some none->Wp s (t.set n (some v))
 | _,_,.nil,_=>.nil
 | _,_,.non (a:=a) h,e=>by
  cases n with
  | zero=>exact .non h
  | succ n=>exact .non (Wp.set h (by simpa using e))
 | _,_,.same (a:=a) h,e=>by
  cases n with
  | zero =>
   have e':a=none:=by simpa using e
   subst e'
   exact .non h
  | succ n=>exact .same (Wp.set h (by simpa using e))
theorem Inv.sub {X:Cx}{pins:List (Addr × Obj)}{σ σ':St}{H:Hp}{s:Shared}(I:Inv X pins σ H s)(h:Wp σ' σ):Inv X pins σ' H s:=I.weak h.length h.get
def PIf (X:Cx)(ifs:List Expr)(t:TT):Prop :=
 ∀ (pins:List (Addr × Obj)) (s:Shared) (σ:St) (H:Hp) (Q:Bool->Hp->Prop),Inv X pins σ H s->t σ H Q ->
  wpAny (model X.prog X.w) X.A (forIn ifs true λc r=>if r=true then do let ok<-isTrue c X.env (eval c X.env);pure (ForInStep.yield ok)else pure (ForInStep.yield r)) (TP X pins σ Q) X.xe s
def tYes:TT:=λ_ H Q=>Q true H
theorem zg3 {X:Cx}:PIf X [] tYes:=by
 intro pins s σ H Q I h
 rw[u3r]
 exact j3 ⟨H,I,h⟩
theorem zkp {X:Cx}{c:Expr}{t:TT}(hc:PT X c t):PIf X [c] t:=by
 intro pins s σ H Q I h
 rw[u3j]
 refine u4 ?_
 rw[t5 rfl]
 refine u4 (thn (hc pins s σ H Q I h) λb s1 q=>j3 ?_)
 show wpAny _ _ (forIn [] b _) _ _ _
 rw[u3r]
 exact j3 q
section
variable {prog:Program}{w:World}{A:Around}{R:Result->Shared->Prop}{s:Shared}
theorem Z8 {elt target iter:Expr}{ifs:List Expr}{scope:Scope}{pos:Pos}{it acc:Value}{env:Env}(I:Nat->Shared->Prop)
 (turn:∀ n s,I n s->wpAny (model prog w) A (pyNext it) (λr s₁=>match r with
  | none=>R (.ok .next) s₁
  | some v=>wpAny (model prog w) A (letOwnedTupleGo target it v) (λ_ s₁'=>wpAny (model prog w) A (assign target env v) (λ_ s₂ =>
   wpAny (model prog w) A (forIn ifs true λc r=>if r=true then do let ok<-isTrue c env (eval c env);pure (ForInStep.yield ok)else pure (ForInStep.yield r)) (λok s₃ =>
    if ok=true then wpAny (model prog w) A (eval elt env) (λx s₄ =>
     wpAny (model prog w) A (call (.builtin "list.append") [acc,x]) (λ_ s₅=>∃ m,m < n/\I m s₅) (λ_ _=>False) s₄) (λ_ _=>False) s₃
    else ∃ m,m < n/\I m s₃) (λ_ _=>False) s₂) (λ_ _=>False) s₁') (λ_ _=>False) s₁) (λ_ _=>False) s)
 (n:Nat) (h:I n s) :
 codeAny (model prog w) A (.compLoop (.ListComp elt [⟨target,iter,ifs,0⟩] scope pos) 0 it acc env) R s:=by
 refine codeAny_loop rfl I (λn s hI=>?_) n h
 show wpAny _ A ((compTurn (.ListComp elt [⟨target,iter,ifs,0⟩] scope pos) 0 it acc env).onRaise (λx=>do noteFrame x env;theTreesLotGoes x)) _ _ s
 refine wpAny_noted ?_
 rw[compTurn_list]
 refine u4 (wpAny_standAt (u4 (u0K (turn n s hI) (λr s₁ h₁=>?_) λ_ _ h'=>h'.elim)))
 cases r with
 | none=>exact j3 h₁
 | some v =>
  refine u4 (u0K h₁ (λ_ s₁' h₁'=>?_) λ_ _ h'=>h'.elim)
  refine u4 (u0K h₁' (λ_ s₂ h₂=>u4 (u0K h₂ (λok s₃ h₃=>?_) λ_ _ h'=>h'.elim)) λ_ _ h'=>h'.elim)
  cases ok with
  | false=>exact j3 ⟨rfl,h₃⟩
  | true =>
   exact u4 (u4 (u0K h₃ (λx s₄ h₄=>u4 (u0K h₄ (λ_ s₅ h₅=>j3 (j3 ⟨rfl,h₅⟩)) λ_ _ h'=>h'.elim)) λ_ _ h'=>h'.elim))
end
def tLC (wi:TI)(n:Nat)(g:TG)(tt:TT)(te:TE):TE:=fun σ H Q=>wi σ H λJ H1=>∀ D,H1 D=none->∃ W:Nat->Nat->List V->Hp->Prop,(∃ m,W 0 m [] (upd H1 D (.lst []))) /\
 ∀ i m ys H2,W i m ys H2->(J.stop i H2/\Q (.ref D) H2)\/(J.go i H2/\ys.length < sizeLine/\∀ x H3,J.yld i H2 x H3->g x (List.replicate n none++σ) H3 fun σ2 H4=>tt σ2 H4 λb H5 =>
  if b=true then te σ2 H5 λy H6=>H6 D=some (.lst ys)/\∃ m',m' < m/\W (i+1) m' (ys++[y]) (upd H6 D (.lst (ys++[y])))else ∃ m',m' < m/\W (i+1) m' ys H5)
theorem Yc {α:Type}:∀ {l:List (Str × α)} {y:Str},y∈l.map Prod.fst->∃ c,l.lookup y=some c
 | [],_,h=>by simp at h
 | (k,v)::r,y,h=>by
  by_cases e:y=k
  .exact⟨v,by simp[List.lookup,e]⟩
  .obtain⟨c,hc⟩:=Yc (l:=r) (y:=y) (by simpa [e]using h)
   have hb:(y == k)=false:=u1c.mpr e
   exact⟨c,by simp only[List.lookup,hb];exact hc⟩
theorem xM {α:Type}{P:α->Prop}:∀ p∈([]:List α),P p:=λ_ h=>nomatch h
theorem all_cons {α:Type}{P:α->Prop}{a:α}{l:List α}(h:P a)(t:∀ p∈l,P p):∀ p∈a::l,P p:=λp hp=>by
 rcases n8.mp hp with e | hp
 .rw[e];exact h
 .exact t p hp
theorem gs1 (σ:St)(v:V)(H:Hp)(Q:St->Hp->Prop)(h:X2 0 v (List.replicate 1 none++σ) H Q):X2 0 v (List.replicate 1 none++σ) H (fun σ2 H2=>Wp (List.replicate 1 none++σ) σ2/\Q σ2 H2):=⟨.set (.refl _) rfl,h⟩
theorem gs2 {K:W.Frag}(σ:St)(v:V)(H:Hp)(Q:St->Hp->Prop)(h:zm2 K 2 (zcU (X2 0) (zcU (X2 1) zmU)) v (List.replicate 2 none++σ) H Q) :
 zm2 K 2 (zcU (X2 0) (zcU (X2 1) zmU)) v (List.replicate 2 none++σ) H (fun σ2 H2=>Wp (List.replicate 2 none++σ) σ2/\Q σ2 H2):=by
 obtain⟨a,xs,e,hq,hl,x,r,e1,y,r2,e2,e3,q⟩:=h
 exact⟨a,xs,e,hq,hl,x,r,e1,y,r2,e2,e3,.set (.set (.refl _) rfl) rfl,q⟩
def zb7 (X:Cx)(L M:List Str)(scope:Scope)(cl:List (Str × Addr))(s₀:Shared)(H₀:Hp)(ex:List Addr)(pn:List (Addr × Obj)):Cx :=
 { X with N:=L++M,s₀:=s₀,H₀:=H₀,env:=compEnvC scope cl s₀.heap.objs.size X.env,outer:=X.stack,stack:=X.stack,ex:=ex,fn:=λ_=>false,pn:=pn,xe:=λ_ _=>False }
structure xZ (X:Cx) (L M:List Str) (scope:Scope) (cl:List (Str × Addr)):Prop where
 clos:closureFor scope X.env=pure cl
 cell:∀ y∈scope.names,y.2≠.cell
 kind:scope.kind=.function
 names:∀ y∈scope.names,y.2=.local->scope.names.lookup y.1=some .local
 sub:∀ y c,cl.lookup y=some c->X.env.cells.lookup y=some c
 has:∀ y,((relabel scope X.env).names.lookup y=some .cell\/(relabel scope X.env).names.lookup y=some .free)->∃ c,cl.lookup y=some c
 mlen:M.length=X.N.length
 msk:∀ (i:Nat) y,M[i]?=some y->Vis (relabel scope X.env) y->X.N[i]?=some y
 vis:∀ (i:Nat) y,M[i]?=some y->Vis (relabel scope X.env) y->((relabel scope X.env).names.lookup y=some .cell\/(relabel scope X.env).names.lookup y=some .free)
 out:∀ (i:Nat) y,M[i]?=some y->Vis (relabel scope X.env) y->Vis X.env.scope y/\X.env.kindOf y≠some .local
theorem Inv.letGo {X:Cx}{pins:List (Addr × Obj)}{σ:St}{H:Hp}{s:Shared}{C:Addr}{h':Heap}(I:Inv X pins σ H s)(f:zbJ X pins H C)(sb:Heap.SameBut C s.heap h'):Inv X pins σ H { s with heap:=h' }:=by
 obtain⟨f0,f1,f2,f3,f4,f5⟩:=f
 have ne:∀ b,b∉[C]->b≠C:=λb hb z=>hb (by rw[z];exact j6.mpr rfl)
 refine I.call' (s':={ s with heap:=h' }) (ch:=[C]) rfl ⟨λb o e _ _ hx=>(sb.2 b (ne b hx)).trans e,λb o e _ _ hx=>⟨o.slots,(sb.2 b (ne b hx)).trans e⟩,λ_ _ _ n _=>n,λb o e hx=>⟨o,(sb.2 b (ne b hx)).trans e⟩,λ_ _ q=>q,λ_ _ _ q=>q,λ_ _ q=>q⟩ ?_ I.bare λb hb=>?_
 .intro b ob e
  refine(I.hok b ob e).stay (λc v hc q=>(sb.2 c ?_).trans q) (λ_ q=>q) λ_ _ q=>q
  rintro rfl
  rcases hc with z | z
  .rw[<-z,f0]at e;cases e
  .rw[f0]at z;cases z
 .rw[j6.mp hb]
  exact⟨f3,f1,f4,f5⟩
theorem zhh {use:Option (Value->Sem Unit)}{Qf:Value->Shared->Prop}{X:Cx}{elt tg iter:Expr}{ifs:List Expr}{L M:List Str}{scope:Scope}{cl:List (Str × Addr)}{pos:Pos}{wi:TI}{g:TG}{tt:TT}{te:TE}
 (hc:X.calm=true) (S:xZ X L M scope cl) (hi:PI X tg iter wi)
 (hgS:∀ (σ:St) (v:V) (H:Hp) (Q:St->Hp->Prop),g v (List.replicate L.length none++σ) H Q->g v (List.replicate L.length none++σ) H (fun σ2 H2=>Wp (List.replicate L.length none++σ) σ2/\Q σ2 H2))
 (hg:∀ s₀ H₀ ex pn,PG (zb7 X L M scope cl s₀ H₀ ex pn) tg g) (ht:∀ s₀ H₀ ex pn,PIf (zb7 X L M scope cl s₀ H₀ ex pn) ifs tt) (he:∀ s₀ H₀ ex pn,PE (zb7 X L M scope cl s₀ H₀ ex pn) elt te)
 (hs:∀ x,foldedSetIterable iter X.env x=pure x:=by intro _;rfl) :
 ∀ (pos':Pos) (pins:List (Addr × Obj)) (s:Shared) (σ:St) (H:Hp) (Q:VK),Inv X pins σ H s->tLC wi L.length g tt te σ H Q ->
  (∀ (D C:Addr) (H':Hp) (s':Shared),Inv X pins σ H' s'->(∃ m,s'.heap.Ns C m)->zbJ X pins H' C->Q (.ref D) H'->compPost (model X.prog X.w) X.A X.xe use Qf (.ref D) C (.ok .next) s') ->
  wpAny (model X.prog X.w) X.A (comprehension (.ListComp elt [⟨tg,iter,ifs,0⟩] scope pos) scope X.env pos' (newList []) false (eval iter X.env) use) Qf X.xe s:=by
 intro pos' pins s σ H Q I h fin
 refine wpAny_comprehension_free (use:=use) rfl hs S.clos S.kind S.names (thn (hi pins s σ H _ I h) λv s1 h1=>thn h1 λitv s2 h2=>?_)
 obtain⟨it,fp,tn,J,H2,e,I2,T,st2,f2,q⟩:=h2
 subst e
 have hD:H2 s2.heap.objs.size=none:=I2.hok.fresh (t9 _)
 obtain⟨W,⟨m0,w0⟩,turn⟩:=q _ hD
 refine u0H (wpAny_newFunctionEnv S.cell (by intro y hy;simp at hy) (λh₁ hns₁ hsb₁=>?_) S.kind)
 have I3:Inv X pins σ (upd H2 s2.heap.objs.size (.lst [])) { s2 with heap:=s2.heap.push { cls:=.type "list",data:=.seq ([]:List Value).toArray } }:=by
  refine I2.laid (t':=s2.toks) (λb u e=>u9 _ e) (t9 _) ?_
  exact⟨u0m _,[],0,.nil,n0 _ rfl⟩
 generalize hs3:({ s2 with heap:=s2.heap.push { cls:=.type "list",data:=.seq ([]:List Value).toArray } }:Shared)=s3 at I3 hns₁ hsb₁ ⊢
 have hobj:∀ b∈fp,b < s2.heap.objs.size:=λb hb=>by
  obtain⟨o,ho,_⟩:=T.obj _ _ st2 b hb
  exact r9 ho
 have hz3:s3.heap.objs.size=s2.heap.objs.size+1:=by rw[<-hs3];exact u1W ..
 have k23:∀ b o,s2.heap.get? b=some o->s3.heap.get? b=some o:=λb o e=>by rw[<-hs3];exact u9 _ e
 have k34:∀ b o,s3.heap.get? b=some o->h₁.get? b=some o:=λb o e=>(hsb₁.2 b (g9 (r9 e))).trans (u9 _ e)
 generalize hH3:upd H2 s2.heap.objs.size (.lst [])=H3 at I3 w0
 have hfp3:∀ b∈fp,H3 b=none:=λb hb=>by
  rw[<-hH3,zw (g9 (hobj b hb))]
  exact(f2 b hb).1
 have nfs:∀ b∈fp,b∉frs X.stack:=λb hb z=>by
  obtain⟨_,n1,n2,_⟩:=f2 b hb
  rcases n8.mp (I3.stkSub b z)with e | e
  .exact n1 e
  .exact n2 e
 let Y:Cx:=zb7 X L M scope cl s3 H3 fp (X.pn++pins)
 have OkY:Y.Ok:=by
  refine⟨I.ok.mod,S.kind,I.ok.glob,I.ok.blt,t9 _,λx y c h1 h2=>I.ok.inj x y c (S.sub x c h1) (S.sub y c h2),λx hx=>S.has x hx,(λx c h _=>absurd h u7),I.ok.hd,I.ok.frames,.inl rfl,λb hb=>⟨?_,λx c e z=>?_⟩,
   I3.bs,m8 I.ok.bsz I3.sz,λb o e hb=>?_,nfs,I3.stack,I3.stkFree⟩
  .show b≠s3.heap.objs.size
   exact g9 (j7 (hobj b hb) (by rw[hz3];exact u2Y _))
  .exact(f2 b hb).2.2.2.2.1 x c (S.sub x c e) z
  .rcases(f2 b hb).2.2.2.1 with z | z
   .exact I.ok.noex b o e z
   .have h1:=r9 e
    have h2:=I.ok.bsz
    exact absurd (j7 h1 (m8 h2 z)) (u0J _)
 have I4:Inv Y [] (List.replicate L.length none++σ) H3 { s3 with heap:=h₁,toks:=s3.toks+([]:List (Str × Value)).length }:=by
  refine⟨OkY,rfl,I3.bare,Un.kept k34,⟨_,hns₁,λi y v e1 e2 e3=>?_⟩,λx c e=>?_,I3.hok.fresh (t9 _),λx c e=>I3.freeC x c (S.sub x c e),λp hp=>?_,I3.hok.kept k34,?_⟩
  .have hi:¬ i < L.length:=λhlt=>by
    rw[u0l (by simpa using hlt),u0t]at e2
    split at e2 <;> cases e2
   have e0':M[i - L.length]?=some y:=by
    have e1:(L++M)[i]?=some y:=e1
    rw[u0y (by omega)]at e1
    exact e1
   have e2':σ[i - L.length]?=some (some v):=by rw[u0y (by simpa using u1u hi)]at e2;simpa using e2
   have e1':=S.msk _ y e0' e3
   obtain⟨ov,ok⟩:=S.out _ y e0' e3
   obtain⟨m,hn,hl⟩:=I3.loc
   obtain⟨u,ru,lk⟩:=hl _ y v e1' e2' ov
   refine⟨u,ru,?_⟩
   rcases lk with ⟨hk,_⟩ | ⟨_,c,hc',hcell⟩
   .exact absurd hk ok
   .have kn:=S.vis _ y e0' e3
    obtain⟨c',hc2⟩:=S.has y kn
    have:=S.sub y c' hc2
    rw[hc']at this
    cases this
    refine .inr ⟨kn,c,hc2,?_⟩
    obtain⟨o,ho,hd⟩:=hcell
    exact⟨o,k34 _ _ ho,hd⟩
  .obtain⟨v,o,ho,hd⟩:=I3.cell x c (S.sub x c e)
   exact⟨v,o,k34 _ _ ho,hd⟩
  .have hp':p∈X.pn++pins:=u0n (X.pn++pins) ▸ hp
   obtain⟨a1,a2,a3,a4,a5⟩:=I3.pin p hp'
   refine⟨k34 _ _ a1,a2,g9 (r9 a1),λz=>?_,a5⟩
   rcases n8.mp (I3.stkSub p.1 z)with e | e
   .exact a3 e
   .exact a4 e
  .show(List.replicate L.length none++σ).length=(L++M).length
   rw[j9,j9,p5,I.len,S.mlen]
 have fpY:∀ {H':Hp},(∀ b∈fp,H' b=none)->∀ b∈fp,zbJ Y [] H' b:=λ{H'} hn b hb=>by
  refine⟨hn b hb,(OkY.exf b hb).1,nfs b hb,.inl hb,(OkY.exf b hb).2,λp hp=>?_⟩
  have hp':p∈X.pn++pins:=u0n (X.pn++pins) ▸ hp
  exact(f2 b hb).2.2.2.2.2 p hp'
 have st4:tn 0 h₁:=T.keep _ _ _ st2 λb hb o e=>k34 b o (k23 b o e)
 -- behind the loop
 have back:∀ (H':Hp) (s':Shared),Inv Y [] (List.replicate L.length none++σ) H' s'->Q (.ref s2.heap.objs.size) H'->compPost (model X.prog X.w) X.A X.xe use Qf (.ref s2.heap.objs.size) s3.heap.objs.size (.ok .next) s':=λH' s' J' q'=>by
  obtain⟨m,hn,_⟩:=J'.loc
  refine fin _ _ H' s' (I3.call' (ch:=fp) J'.os J'.base J'.hok J'.bare λb hb=>?_) ⟨m,hn⟩ (I3.fpOk (t9 _) J'.free) q'
  obtain⟨_,n1,_,n3,n4,n5⟩:=f2 b hb
  exact⟨n3,n1,n4,n5⟩
 have loop:codeAny (model X.prog X.w) X.A (.compLoop (.ListComp elt [⟨tg,iter,ifs,0⟩] scope pos) 0 (.ref it) (.ref s2.heap.objs.size) (compEnvC scope cl s3.heap.objs.size X.env))
  (compPost (model X.prog X.w) X.A X.xe use Qf (.ref s2.heap.objs.size) s3.heap.objs.size) { s3 with heap:=h₁,toks:=s3.toks+([]:List (Str × Value)).length }:=by
  refine Z8 (λn s'=>∃ i ys H',Inv Y [] (List.replicate L.length none++σ) H' s'/\tn i s'.heap/\(∀ b∈fp,H' b=none)/\W i n ys H') ?_ m0 ⟨0,[],H3,I4,st4,hfp3,w0⟩
  rintro n s5 ⟨i,ys,H5,I5,st5,fr5,w5⟩
  rcases turn i n ys H5 w5 with ⟨stop,qn⟩ | ⟨go,hlen,step⟩
  .refine thn (T.done Y rfl rfl rfl hc i [] s5 _ H5 _ I5 (fpY fr5) st5 stop) λr s6 hh9=>?_
   obtain⟨hr,I6⟩:=hh9
   subst hr
   exact back H5 s6 I6 qn
  .refine thn (T.item Y rfl rfl rfl hc i [] s5 _ H5 _ I5 (fpY fr5) st5 go) λr s6 hh9=>?_
   obtain⟨u,hr,h6⟩:=hh9
   subst hr
   refine thn h6 λ_ s7 hh9=>?_
   obtain⟨x,H7,I7,r7,y7,st7,fr7⟩:=hh9
   have I7':=I7.pinned (fpY fr7) (T.obj _ _ st7)
   have g7:=hgS σ x H7 _ (step x H7 y7)
   refine thn (hg _ _ _ _ _ s7 _ H7 x u _ I7' r7 g7) λ_ s8 hh9=>?_
   obtain⟨σ8,H8,I8,sub8,q8⟩:=hh9
   have again:∀ {σ9:St} {H9:Hp} {s9:Shared} {zs:List V},Inv Y ([]++Zt fp s7.heap) σ9 H9 s9->Wp (List.replicate L.length none++σ) σ9->(∃ m',m' < n/\W (i+1) m' zs H9) ->
    ∃ m,m < n/\∃ i ys H',Inv Y [] (List.replicate L.length none++σ) H' s9/\tn i s9.heap/\(∀ b∈fp,H' b=none)/\W i m ys H':=λ{σ9 H9 s9 zs} I9 sub9 w9=>by
    obtain⟨m',hm,w9⟩:=w9
    refine⟨m',hm,i+1,zs,H9,(I9.sub sub9).unpinned,T.keep _ _ _ st7 λb hb o e=>(I9.pin (b,o) (n9 _ (n9 _ (yY hb e)))).1,λb hb=>?_,w9⟩
    obtain⟨o,e,d⟩:=T.obj _ _ st7 b hb
    exact(I9.pin (b,o) (n9 _ (n9 _ (yY hb e)))).2.1
   refine thn (ht _ _ _ _ _ s8 σ8 H8 _ I8 q8) λb s9 hh9=>?_
   obtain⟨H9,I9,q9⟩:=hh9
   cases b with
   | false =>
    rw[t6 u7]at q9
    rw[t6 u7]
    exact again I9 sub8 q9
   | true =>
    rw[t5 rfl]at q9
    rw[t5 rfl]
    refine thn (he _ _ _ _ _ s9 σ8 H9 _ I9 q9) λy s10 hh9=>?_
    obtain⟨yv,H10,I10,r10,hD10,w10⟩:=hh9
    obtain⟨z10,its,k,rv,e10⟩:ys.length<=sizeLine/\∃ (its:List Value) (n:Nat),yl ys its/\s10.heap.get? s2.heap.objs.size=some { cls:=.type "list",data:=.seq its.toArray n }:=I10.hok _ _ hD10
    have hl10:s10.heap.PlainList s2.heap.objs.size its.toArray:=⟨k,e10⟩
    refine wpAny_list_append_plain (hsz:=by rw[t7,<- rv.length];exact z10) hl10 λh11 hl11 sb11=>?_
    obtain⟨k',e11⟩:=hl11
    have I11:Inv Y ([]++Zt fp s7.heap) σ8 (upd H10 s2.heap.objs.size (.lst (ys++[yv]))) { s10 with heap:=h11 }:=by
     refine I10.write (x:=s2.heap.objs.size) (e:=s2.heap.objs.size) (t':=s10.toks) (by rw[hD10];exact True.intro) (.inl rfl) (λb u hb e=>(sb11.2 b hb).trans e) ⟨_,e11⟩ ?_
     refine⟨by rw[j9];show ys.length+1<=sizeLine;exact hlen,its++[y],k',rv.append (.cons r10 .nil),?_⟩
     rw[e11]
     simp
    exact again I11 sub8 w10
 exact codeAny_compStart_list loop (T.self _ 0 _ _ _ st4 loop)
theorem zjv {X:Cx}{elt tg iter:Expr}{ifs:List Expr}{L M:List Str}{scope:Scope}{cl:List (Str × Addr)}{pos:Pos}{wi:TI}{g:TG}{tt:TT}{te:TE}
 (hc:X.calm=true) (S:xZ X L M scope cl) (hi:PI X tg iter wi)
 (hgS:∀ (σ:St) (v:V) (H:Hp) (Q:St->Hp->Prop),g v (List.replicate L.length none++σ) H Q->g v (List.replicate L.length none++σ) H (fun σ2 H2=>Wp (List.replicate L.length none++σ) σ2/\Q σ2 H2))
 (hg:∀ s₀ H₀ ex pn,PG (zb7 X L M scope cl s₀ H₀ ex pn) tg g) (ht:∀ s₀ H₀ ex pn,PIf (zb7 X L M scope cl s₀ H₀ ex pn) ifs tt) (he:∀ s₀ H₀ ex pn,PE (zb7 X L M scope cl s₀ H₀ ex pn) elt te)
 (hs:∀ x,foldedSetIterable iter X.env x=pure x:=by intro _;rfl) :
 PE X (.ListComp elt [⟨tg,iter,ifs,0⟩] scope pos) (tLC wi L.length g tt te):=by
 intro pins s σ H Q I h
 rw[eval_ListComp]
 refine zhh hc S hi hgS hg ht he hs _ pins s σ H Q I h λD C H' s' I' ⟨m,hn⟩ f q=>⟨m,hn,λh' sb=>⟨.ref D,_,I'.letGo f sb,rfl,q⟩⟩
theorem zlH {i:Nat}{x:Str}{px spos:Pos}{X:Cx}{elt tg iter:Expr}{ifs:List Expr}{L M:List Str}{scope:Scope}{cl:List (Str × Addr)}{pos:Pos}{wi:TI}{g:TG}{tt:TT}{te:TE}
 (hN:X.N.Nodup) (hi':X.N[i]?=some x) (hx:Loc X.env.scope x) (hc:X.calm=true) (S:xZ X L M scope cl) (hi:PI X tg iter wi)
 (hgS:∀ (σ:St) (v:V) (H:Hp) (Q:St->Hp->Prop),g v (List.replicate L.length none++σ) H Q->g v (List.replicate L.length none++σ) H (fun σ2 H2=>Wp (List.replicate L.length none++σ) σ2/\Q σ2 H2))
 (hg:∀ s₀ H₀ ex pn,PG (zb7 X L M scope cl s₀ H₀ ex pn) tg g) (ht:∀ s₀ H₀ ex pn,PIf (zb7 X L M scope cl s₀ H₀ ex pn) ifs tt) (he:∀ s₀ H₀ ex pn,PE (zb7 X L M scope cl s₀ H₀ ex pn) elt te)
 (hs:∀ x,foldedSetIterable iter X.env x=pure x:=by intro _;rfl)
 (hsw:swapsWith (.ListComp elt [⟨tg,iter,ifs,0⟩] scope pos) (some (.Name x px)) spos.line X.env=pure true:=by rfl)
 (hf:X.fn x=true\/X.env.scope.names.lookup x=some .local:=by first | exact .inl rfl | exact .inr rfl | assumption) :
 PS X (.Assign [.Name x px] (.ListComp elt [⟨tg,iter,ifs,0⟩] scope pos) spos) (zm0 (tLC wi L.length g tt te) (X2 i)):=by
 intro pins s σ H D I h
 rw[exec_Assign_Name_used _ _ _ _ hsw]
 refine u4 (wpAny_standAt (u4 ?_))
 show wpAny _ X.A (do let _<-comprehension (.ListComp elt [⟨tg,iter,ifs,0⟩] scope pos) scope X.env _ (newList []) false (eval iter X.env) (some (assign (.Name x px) X.env))) _ _ s
 refine u4 (thn (zhh (use:=some (assign (.Name x px) X.env)) (Qf:=λ_ s'=>SP X pins D .next s') hc S hi hgS hg ht he hs _ pins s σ H _ I h λD' C H' s' I' ⟨m,hn⟩ f q=>?_) λ_ s' hq=>j3 (j3 hq))
 have hob:∀ b∈[C],∃ o,s'.heap.get? b=some o/\∀ v,o.data≠.cell v:=λb hb=>by
  rw[j6.mp hb]
  obtain⟨o,es,ep,e,d,_⟩:=hn
  exact⟨o,e,λv z=>by rw[z]at d;cases d⟩
 have I2:=I'.pinned (fp:=[C]) (λb hb=>by rw[j6.mp hb];exact f) hob
 refine thn (zz (pos:=px) hN hi' hx hf _ s' σ H' (.ref D') (.ref D') _ I2 rfl q) λ_ s2 hh9=>?_
 obtain⟨σ2,H2,I3,q3⟩:=hh9
 obtain⟨o,es,ep,e,d⟩:=hn
 have pn:=I3.pin (C,o) (n9 _ (n9 _ (yY (j6.mpr rfl) e)))
 exact⟨m,⟨o,es,ep,pn.1,d⟩,λh' sb=>⟨σ2,H2,I3.unpinned.letGo ⟨pn.2.1,f.2⟩ sb,q3⟩⟩
def ZX (names rn dn:List (Str × NameKind))(N M cn:List Str):Bool :=
 names.all (λy=>decide (y.2≠.cell))&&names.all (λy=>decide (y.2=.local->names.lookup y.1=some .local)) &&
 rn.all (λy=>decide ((y.2=.cell\/y.2=.free)->y.1∈cn)) &&
 (M.length == N.length)&&(M.zip N).all (λp=>decide ((rn.lookup p.1=some .local\/rn.lookup p.1=some .cell\/rn.lookup p.1=some .free)->p.1=p.2)) &&
 M.all (λy=>decide ((rn.lookup y=some .local\/rn.lookup y=some .cell\/rn.lookup y=some .free) ->
  (rn.lookup y=some .cell\/rn.lookup y=some .free)/\(dn.lookup y=some .local\/dn.lookup y=some .cell\/dn.lookup y=some .free)/\dn.lookup y≠some .local))
theorem Xg {X:Cx}{L N M cn:List Str}{scope:Scope}{cl:List (Str × Addr)}{rn dn:List (Str × NameKind)}(hr:(relabel scope X.env).names=rn)(hd:X.env.scope.names=dn)(hN:X.N=N)
 (clos:closureFor scope X.env=pure cl) (kind:scope.kind=.function) (hc:cl.map Prod.fst=cn) (good:ZX scope.names rn dn N M cn=true) (sub:∀ p∈cl,X.env.cells.lookup p.1=some p.2):xZ X L M scope cl:=by
 unfold ZX at good
 simp only[b7,u0r,r6]at good
 obtain⟨⟨⟨⟨⟨g1,g2⟩,g3⟩,g5⟩,g6⟩,g4⟩:=good
 have g5:M.length=N.length:=by simpa using g5
 refine⟨clos,g1,kind,g2,λy c h=>sub (y,c) (i6 h),λy h=>?_,by rw[hN];exact g5,λi y e v=>?_,λi y e v=>?_,λi y e v=>?_⟩
 .rw[hr]at h
  have hy:y∈cn:=by
   rcases h with h | h
   .exact g3 _ (i6 h) (.inl rfl)
   .exact g3 _ (i6 h) (.inr rfl)
  exact Yc (by rw[hc];exact hy)
 .unfold Vis at v
  rw[hr]at v
  have hi:=(t8.mp e).1
  have hj:i < N.length:=by rw[<-g5];exact hi
  have hz:(M.zip N)[i]?=some (y,N[i]):=by
   rw[u2P]
   exact⟨e,u5 hj⟩
  have:=g6 _ (r8 hz) v
  rw[hN,u5 hj]
  exact u0U some this.symm
 .unfold Vis at v
  rw[hr]at v ⊢
  exact(g4 y (r8 e) v).1
 .unfold Vis at v
  rw[hr]at v
  obtain⟨_,k1,k2⟩:=g4 y (r8 e) v
  refine⟨?_,?_⟩
  .unfold Vis;rw[hd];exact k1
  .show X.env.scope.names.lookup y≠_;rw[hd];exact k2
end L2
namespace PySem
open Sem (wp)
open AutoSeq1 (wpAny_loadPart')
section
variable {prog:Program}{w:World}{A:Around}{E:Value->Shared->Prop}{s:Shared}
theorem Zq {it l:Addr}{i:Nat}{items}{x:Value}{Q:Value->Shared->Prop}(hit:s.heap.IsTupleIter it l i)
 (hl:s.heap.IsTuple l items) (hx:items[i]?=some x)
 (hQ:∀ h',h'.IsTupleIter it l (i+1)->Heap.SameBut it s.heap h'->Q x { s with heap:=h' }) :
 wpAny (model prog w) A (Builtin.SmallTypes.nextOf (.ref it)) Q E s:=by
 obtain⟨o,ho,hc,hd⟩:=id hit
 obtain⟨ol,hol,_,nl,hdl⟩:=hl
 unfold Builtin.SmallTypes.nextOf
 refine u4 (u0X (name:=Str.ofString "__next__") hit.typeIs u00
  (u1d u00 hit.typeIs F.entry_tuple_iterator_next ?_ (F.args_tuple_iterator_next_1 _)))
 show wpAny _ _ (field (.ref it) 0>>=_) _ _ s
 refine u4 (u1x ho hd (x:=.ref l) rfl ?_)
 show wpAny _ _ (if (Value.ref l == Value.none)=true then _ else _) _ _ s
 rw[t6 (show ¬ ((Value.ref l == Value.none)=true)from u7)]
 show wpAny _ _ (field (.ref it) 1>>=_) _ _ s
 refine u4 (u1x ho hd (x:=.int i 0) rfl ?_)
 show wpAny _ _ (seqItems? (.ref l)>>=_) _ _ s
 refine u4 (u1Y hol hdl ?_)
 simp only[u1m,hx]
 refine u4 (wpAny_setField ho hd (by simp) (j3 ⟨x,rfl,j3 (hQ _ ?_ (u0P ..))⟩))
 exact⟨_,u1g _ ho (Obj.isFreed_of_fields (Obj.data_mapFields hd _)),(Obj.cls_mapFields ..).trans hc,by
  rw[Obj.data_mapFields hd];simp[rawInt]⟩
theorem wQ {it l:Addr}{i:Nat}{items}{Q:Value->Shared->Prop}(hh:A.handled=none)
 (hit:s.heap.IsTupleIter it l i) (hl:s.heap.IsTuple l items) (hx:items[i]?=none)
 (hE:∀ h' e,Heap.ExtBut it s.heap h'->(∃ o,h'.get? e=some o/\o.cls=.type "StopIteration")->E (.ref e) { s with heap:=h' }) :
 wpAny (model prog w) A (Builtin.SmallTypes.nextOf (.ref it)) Q E s:=by
 obtain⟨o,ho,hc,hd⟩:=id hit
 obtain⟨ol,hol,_,nl,hdl⟩:=hl
 unfold Builtin.SmallTypes.nextOf
 refine u4 (u0X (name:=Str.ofString "__next__") hit.typeIs u00
  (u1d u00 hit.typeIs F.entry_tuple_iterator_next ?_ (F.args_tuple_iterator_next_1 _)))
 show wpAny _ _ (field (.ref it) 0>>=_) _ _ s
 refine u4 (u1x ho hd (x:=.ref l) rfl ?_)
 show wpAny _ _ (if (Value.ref l == Value.none)=true then _ else _) _ _ s
 rw[t6 (show ¬ ((Value.ref l == Value.none)=true)from u7)]
 show wpAny _ _ (field (.ref it) 1>>=_) _ _ s
 refine u4 (u1x ho hd (x:=.int i 0) rfl ?_)
 show wpAny _ _ (seqItems? (.ref l)>>=_) _ _ s
 refine u4 (u1Y hol hdl ?_)
 simp only[u1m,hx]
 refine u4 (u1V (u4 (wpAny_setField ho hd (by simp) ?_)))
 show wpAny _ _ (newExc (.type "StopIteration") []>>=_) _ _ _
 refine u4 ?_
 simp only[newExc,newTuple]
 refine u4 (u0H ?_ (by size_fits))
 refine u4 (m:=firstArgMember _ _) (wpAny_of_eq (a:=Value.none) (by first | rfl | (simp only[firstArgMember];rfl)) ?_)
 refine u0H ?_ (by size_fits)
 simp only[raiseNew]
 refine u4 (wpAny_handled ?_)
 first | rw[show A.in1.handled=none from hh] | rw[hh]
 refine u4 (j3 (wpAny_throw ?_))
 exact hE _ _ (((u0P ..).extBut.push _).push _) ⟨_,n0 _ rfl,rfl⟩
end
theorem Z9 {prog:Program}{w:World}{A:Around}{E:Value->Shared->Prop}{s:Shared}{e it l:Addr}{i:Nat}{items:Array Value}{old:Value}{Q:Option Value->Shared->Prop}(hh:A.handled=none)
 (he:IsEnum s.heap e it i old) (hit:s.heap.IsTupleIter it l i) (hl:s.heap.IsTuple l items) (hx:items[i]?=none)
 (hQ:∀ h',Heap.ExtBut it s.heap h'->Q none { s with heap:=h' }):wpAny (model prog w) A (pyNext (.ref e)) Q E s:=by
 have hT:s.TypeIs (.ref e) "enumerate":=⟨_,he,rfl⟩
 unfold pyNext
 refine u4 (u21 (u0X (name:=Str.ofString "__next__") hT F.slot_enumerate_next
  (u1d F.slot_enumerate_next hT F.entry_enumerate_next ?_ (F.args_enumerate_next_1 _))))
 show wpAny _ _ (field (.ref e) 2>>=_) _ _ _
 refine u4 (u1x he rfl (x:=.ref it) rfl ?_)
 refine u4 (wQ hh hit hl hx λh' x he' hx'=>?_)
 obtain⟨o,ho,hc⟩:=hx'
 refine u4 (wpAny_isInstance (T:="StopIteration") (b:=true) ⟨o,ho,hc⟩ isSubtype_stop ?_)
 exact j3 (hQ _ he')
theorem VP {prog:Program}{w:World}{A:Around}(hh:A.handled=none)(it l:Addr)(hne:l≠it)(items:Array Value) :
 Draws prog w A it [it,l] items.size (λi v=>items[i]?=some v) (λi h=>h.IsTupleIter it l i/\h.IsTuple l items) where
 live:=λ_ _ st=>let ⟨o,ho,_⟩:=st.1;⟨o,ho⟩
 frame:=λ_ _ _ st hk=>by
  obtain⟨⟨o,ho,r⟩,⟨o2,ho2,r2⟩⟩:=st
  exact⟨⟨o,hk it (by simp) o ho,r⟩,⟨o2,hk l (by simp) o2 ho2,r2⟩⟩
 item:=λi s Q E hi st hQ=>by
  refine Zq st.1 st.2 (x:=items[i]) (by simp[hi]) λh' hit' hs'=>?_
  exact hQ _ h' s.toks (by simp[hi]) ⟨hit',st.2.extBut hs'.extBut hne⟩ hs'
 done:=λs Q E st hE=>wQ hh st.1 st.2 (by simp) hE
theorem X1 (l:Addr)(items:Array Value)(n:Nat)(dd:Option Addr)(sl:Array (Option Value)) :
 Meets (Builtin.«enumerate.__new__» ⟨[.type "enumerate",.ref l],[]⟩) (λ_ R s=>s.heap.get? l=some { cls:=.type "tuple",dict:=dd,data:=.seq items n,slots:=sl } /\
  R (.ok (.ret (.ref (s.heap.push { cls:=.type "tuple_iterator",data:=.fields #[.ref l,.int 0 0] }).objs.size)))
   { s with heap:=(s.heap.push { cls:=.type "tuple_iterator",data:=.fields #[.ref l,.int 0 0] }).push { cls:=.type "enumerate",data:=.fields #[.none,.bool false,.ref s.heap.objs.size,rawInt 0,.none,.none] } }) :=
 .of_wp λprog w A R s h=>by
  obtain⟨hp,g,d,tk,os⟩:=s;obtain⟨hl,h⟩:=h
  have hsub:=sub_enumerate
  have hL:Heap.IsTuple (Shared.heap ⟨hp,g,d,tk,os⟩) l items:=⟨_,hl,rfl,n,rfl⟩
  wp_walk using u0C hl
  refine wpAny_stack_any λst=>j3 ?_
  split
  .rename_i c _ _ _ _ _
   cases (c == Value.type "enumerate")
   .wp_walk using u0C hl,u1e hL
    exact⟨_,rfl,h⟩
   .wp_walk using u0C hl,u1e hL
    exact⟨_,rfl,h⟩
  .wp_walk using u0C hl,u1e hL
   exact⟨_,rfl,h⟩
section
variable {prog:Program}{w:World}{A:Around}{E:Value->Shared->Prop}{s:Shared}
theorem Z7 {l:Addr}{items:Array Value}{Q:Value->Shared->Prop}
 (hl:s.heap.IsTuple l items)
 (h:∀ h',IsEnum h' (s.heap.objs.size+1) s.heap.objs.size 0 .none->h'.IsTupleIter s.heap.objs.size l 0->h'.objs.size=s.heap.objs.size+2 ->
  (∀ b o,s.heap.get? b=some o->h'.get? b=some o)->Q (.ref (s.heap.objs.size+1)) { s with heap:=h' }) :
 wpAny (model prog w) A (call (.type "enumerate") [.ref l]) Q E s:=by
 obtain⟨⟨cls,dd,data,sl⟩,ho,hc,n,hd⟩:=hl
 simp only at hc hd
 subst hc hd
 refine callType_new F.called_enumerate (by decide) (F.typeCall_enumerate_1 _) (F.newCall_enumerate_1 _) (λobj=>F.args_object_init_2 obj _) F.entry_enumerate_new
  (X1 l items n dd sl) ⟨ho,?_⟩
 have hz:(s.heap.push { cls:=.type "tuple_iterator",data:=.fields #[.ref l,.int 0 0] }).objs.size=s.heap.objs.size+1:=u1W ..
 show _/\_
 rw[hz]
 have he:IsEnum ((s.heap.push { cls:=.type "tuple_iterator",data:=.fields #[.ref l,.int 0 0] }).push
  { cls:=.type "enumerate",data:=.fields #[.none,.bool false,.ref s.heap.objs.size,rawInt 0,.none,.none] }) (s.heap.objs.size+1) s.heap.objs.size 0 .none:=by
  have:=n0 (s.heap.push { cls:=.type "tuple_iterator",data:=.fields #[.ref l,.int 0 0] })
   (o:={ cls:=.type "enumerate",data:=.fields #[.none,.bool false,.ref s.heap.objs.size,rawInt 0,.none,.none] }) rfl
  rw[hz]at this;exact this
 refine⟨⟨_,he,rfl⟩,h _ he ⟨_,u9 _ (n0 _ rfl),rfl,rfl⟩ (by rw[u1W,hz]) λb o x=>u9 _ (u9 _ x)⟩
end
end PySem
namespace L2
open PySem PySem.Spec PyProof.Rows
section
variable {X:Cx}{pins:List (Addr × Obj)}{σ:St}{H:Hp}{s:Shared}{h':Heap}
theorem Inv.grown {ch:List Addr}{T:Addr}{o:HO}{t':Nat}(I:Inv X pins σ H s)(hch:∀ b∈ch,zbJ X pins H b)(hT:s.heap.objs.size<=T)(k:∀ b u,b∉ch->s.heap.get? b=some u->h'.get? b=some u)
 (new:xR X.prog X.w (upd H T o) h' T o):Inv X pins σ (upd H T o) { s with heap:=h',toks:=t' }:=by
 have hn:H T=none:=I.hok.fresh hT
 have neT:∀ b u,s.heap.get? b=some u->b≠T:=λb u e=>g9 (j7 (r9 e) hT)
 have nch:∀ b u,H b=some u->b∉ch:=λb u e z=>by rw[(hch b z).1]at e;cases e
 refine I.step (g':=s.gens) (d':=s.drawn) (ch:=ch) (λb hb=>?_) (λb u _ _ hc e _=>k b u hc e) (λb u _ _ hc e _=>⟨u.slots,k b u hc e⟩) (λb u _ e n=>by rw[zw (neT b u e)];exact n)
  (λb u hc e=>⟨u,k b u hc e⟩) (λb xs e=>by rw[zw (zn e hn)];exact e) (λb u xs e=>by rw[zw (zn e hn)];exact e) (λb ps e=>by rw[zw (zn e hn)];exact e) (λm hm=>?_) (λb u e=>?_) I.bare
 .obtain⟨_,n1,_,n3,n4,n5⟩:=hch b hb
  exact⟨n3,n1,n4,n5⟩
 .obtain⟨ob,es,ep,ho,r⟩:=hm
  exact⟨ob,es,ep,k _ ob (λz=>(hch _ z).2.1 rfl) ho,r⟩
 .by_cases hb:b=T
  .subst hb;rw[zx]at e;cases e;exact new
  .rw[zw hb]at e
   refine(I.hok b u e).stay (λc v hc q=>k c v ?_ q) (λc q=>by rw[zw (zn q hn)];exact q) λc xs q=>by rw[zw (zn q hn)];exact q
   rcases hc with z | z
   .rw[z];exact nch b u e
   .exact nch c _ z
theorem Inv.turnedN {ch:List Addr}{t':Nat}(I:Inv X pins σ H s)(hch:∀ b∈ch,zbJ X pins H b)(k:∀ b u,b∉ch->s.heap.get? b=some u->h'.get? b=some u):Inv X pins σ H { s with heap:=h',toks:=t' }:=by
 have nch:∀ b u,H b=some u->b∉ch:=λb u e z=>by rw[(hch b z).1]at e;cases e
 refine I.step (g':=s.gens) (d':=s.drawn) (ch:=ch) (λb hb=>?_) (λb u _ _ hc e _=>k b u hc e) (λb u _ _ hc e _=>⟨u.slots,k b u hc e⟩) (λb u _ e n=>n)
  (λb u hc e=>⟨u,k b u hc e⟩) (λb xs e=>e) (λb u xs e=>e) (λ_ _ e=>e) (λm hm=>?_) (λb u e=>?_) I.bare
 .obtain⟨_,n1,_,n3,n4,n5⟩:=hch b hb
  exact⟨n3,n1,n4,n5⟩
 .obtain⟨ob,es,ep,ho,r⟩:=hm
  exact⟨ob,es,ep,k _ ob (λz=>(hch _ z).2.1 rfl) ho,r⟩
 .refine(I.hok b u e).stay (λc v hc q=>k c v ?_ q) (λc q=>q) λc xs q=>q
  rcases hc with z | z
  .rw[z];exact nch b u e
  .exact nch c _ z
end
def Iel (K:W.Frag)(a:Addr):It :=
 ⟨λi H=>∃ xs x,SqL K H a xs/\xs[i]?=some x,λi H v H'=>∃ T x,v=.ref T/\H T=none/\H'=upd H T (.tup [.int i,x])/\∀ xs,SqL K H a xs->xs[i]?=some x,λi H=>∃ xs,SqL K H a xs/\xs.length<=i⟩
def Iet (K:W.Frag)(a:Addr):It :=
 ⟨λi H=>∃ xs x,SqT K H a xs/\xs[i]?=some x,λi H v H'=>∃ T x,v=.ref T/\H T=none/\H'=upd H T (.tup [.int i,x])/\∀ xs,SqT K H a xs->xs[i]?=some x,λi H=>∃ xs,SqT K H a xs/\xs.length<=i⟩
theorem zeW {P:Program}{w:World}{K:W.Frag}{es:List Expr}{k:Nat}{tp:Pos}(a e it:Addr)(hne:e≠it) :
 zkM P w K (.Tuple es k tp) (Iel K a) [e,it] e (λi h=>(∃ old,IsEnum h e it i old)/\h.IsListIter it a i) where
 mem:=by simp
 obj:=λi h st b hb=>by
  obtain⟨⟨old,he⟩,o,ho,_,hd⟩:=st
  rcases n8.mp hb with rfl | hb
  .exact⟨_,he,λv z=>by cases z⟩
  .rw[j6.mp hb]
   exact⟨o,ho,λv z=>by rw[hd]at z;cases z⟩
 keep:=λi h h' st kk=>by
  obtain⟨⟨old,he⟩,hit⟩:=st
  exact⟨⟨old,kk e (by simp) _ he⟩,hit.at λo q=>kk it (by simp) o q⟩
 item:=by
  intro X hP hw hK hc i pins s σ H E I hf st hg
  subst hP hw hK
  obtain⟨⟨old,he⟩,hit⟩:=st
  obtain⟨xs,x,hq,hx⟩:=hg
  obtain⟨its,rv,p,hz⟩:=I.list hq
  obtain⟨u,hu,ru⟩:=rv.get hx
  refine wpAny_pyNext_enum_item he hit p.isList (x:=u) (by simpa using hu) hne λh1 ho1 hit1 hT1 hz1 hk1=>?_
  refine⟨_,rfl,wpAny_letOwnedTupleGo_enum ho1 λh2 he2 hs2=>?_⟩
  have hfr:H s.heap.objs.size=none:=I.hok.fresh (t9 _)
  have neE:s.heap.objs.size≠e:=Nat.ne_of_gt (r9 he)
  have hT2:h2.get? s.heap.objs.size=some { cls:=.type "tuple",data:=.seq #[.int i s.toks,u] }:=(hs2.2 _ neE).trans hT1
  refine⟨.ref s.heap.objs.size,upd H s.heap.objs.size (.tup [.int i,x]),?_,rfl,⟨_,x,rfl,hfr,rfl,λys hy=>by rw[I.list_inj hy hq];exact hx⟩,⟨⟨_,by simpa using he2⟩,hit1.at λo q=>(hs2.2 it (u1S hne)).trans q⟩,λb hb=>?_⟩
  .refine I.grown (ch:=[e,it]) hf (t9 _) (λb v hb q=>?_) ?_
   .have n1:b≠e:=λz=>hb (by simp[z])
    have n2:b≠it:=λz=>hb (by simp[z])
    exact(hs2.2 b n1).trans (hk1 b v n1 n2 q)
   .exact⟨by show 2<=sizeLine;decide,[.int i s.toks,u],.cons ⟨_,rfl⟩ (.cons ru .nil),⟨_,hT2,rfl,0,rfl⟩⟩
  .obtain⟨o,hb2,_⟩:∃ o,s.heap.get? b=some o/\True:=by
    rcases n8.mp hb with rfl | hb
    .exact⟨_,he,trivial⟩
    .rw[j6.mp hb]
     obtain⟨o,ho,_⟩:=hit
     exact⟨o,ho,trivial⟩
   rw[zw (g9 (r9 hb2))]
   exact(hf b hb).1
 done:=by
  intro X hP hw hK hc i pins s σ H E I hf st hg
  subst hP hw hK
  obtain⟨⟨old,he⟩,hit⟩:=st
  obtain⟨xs,hq,hx⟩:=hg
  obtain⟨its,rv,p,hz⟩:=I.list hq
  have hl:=rv.length
  exact wpAny_pyNext_enum_end (I.ok.hd hc) he hit p.isList (by simp;omega) λh1 hx1=>⟨rfl,I.turnedN (ch:=[e,it]) (t':=s.toks) hf λb v hb q=>hx1 b v (λz=>hb (by simp[z])) q⟩
 self:=λ_ _ _ _ _ st h=>u1U st.1.choose_spec h
theorem zeQ {P:Program}{w:World}{K:W.Frag}{es:List Expr}{k:Nat}{tp:Pos}(a e it:Addr)(hne:e≠it)(hai:a≠it)(hae:a≠e) :
 zkM P w K (.Tuple es k tp) (Iet K a) [e,it] e (λi h=>(∃ old,IsEnum h e it i old)/\h.IsTupleIter it a i) where
 mem:=by simp
 obj:=λi h st b hb=>by
  obtain⟨⟨old,he⟩,o,ho,_,hd⟩:=st
  rcases n8.mp hb with rfl | hb
  .exact⟨_,he,λv z=>by cases z⟩
  .rw[j6.mp hb]
   exact⟨o,ho,λv z=>by rw[hd]at z;cases z⟩
 keep:=λi h h' st kk=>by
  obtain⟨⟨old,he⟩,o,ho,r⟩:=st
  exact⟨⟨old,kk e (by simp) _ he⟩,o,kk it (by simp) o ho,r⟩
 item:=by
  intro X hP hw hK hc i pins s σ H E I hf st hg
  subst hP hw hK
  obtain⟨⟨old,he⟩,hit⟩:=st
  obtain⟨xs,x,hq,hx⟩:=hg
  obtain⟨its,rv,p,hz⟩:=I.tuple hq
  obtain⟨u,hu,ru⟩:=rv.get hx
  have p':s.heap.IsTuple a its.toArray:=p
  have D:=VP (prog:=X.prog) (w:=X.w) (A:=X.A.in1) (I.ok.hd hc) it a hai its.toArray
  have hlt:i < its.toArray.size:=by
   obtain⟨h1,_⟩:=t8.mp hu
   simpa using h1
  refine wpAny_pyNext_enum_itemD D he ⟨hit,p'⟩ hlt hne (by simp[hne,u1S hae]) λu' h1 tk hP1 ho1 hit1 hT1 hz1 hk1=>?_
  have eu:u'=u:=by
   have:its[i]?=some u':=by simpa using hP1
   rw[hu]at this
   exact(u0j this).symm
  subst eu
  refine⟨_,rfl,wpAny_letOwnedTupleGo_enum ho1 λh2 he2 hs2=>?_⟩
  have hfr:H s.heap.objs.size=none:=I.hok.fresh (t9 _)
  have neE:s.heap.objs.size≠e:=Nat.ne_of_gt (r9 he)
  have hT2:h2.get? s.heap.objs.size=some { cls:=.type "tuple",data:=.seq #[.int i tk,u'] }:=(hs2.2 _ neE).trans hT1
  refine⟨.ref s.heap.objs.size,upd H s.heap.objs.size (.tup [.int i,x]),?_,rfl,⟨_,x,rfl,hfr,rfl,λys hy=>by rw[I.tuple_inj hy hq];exact hx⟩,⟨⟨_,by simpa using he2⟩,?_⟩,λb hb=>?_⟩
  .refine I.grown (ch:=[e,it]) hf (t9 _) (λb v hb q=>?_) ?_
   .have n1:b≠e:=λz=>hb (by simp[z])
    have n2:b≠it:=λz=>hb (by simp[z])
    exact(hs2.2 b n1).trans (hk1 b v n1 n2 q)
   .exact⟨by show 2<=sizeLine;decide,[.int i tk,u'],.cons ⟨_,rfl⟩ (.cons ru .nil),⟨_,hT2,rfl,0,rfl⟩⟩
  .obtain⟨o,ho,r⟩:=hit1.1
   exact⟨o,(hs2.2 it (u1S hne)).trans ho,r⟩
  .obtain⟨o,hb2,_⟩:∃ o,s.heap.get? b=some o/\True:=by
    rcases n8.mp hb with rfl | hb
    .exact⟨_,he,trivial⟩
    .rw[j6.mp hb]
     obtain⟨o,ho,_⟩:=hit
     exact⟨o,ho,trivial⟩
   rw[zw (g9 (r9 hb2))]
   exact(hf b hb).1
 done:=by
  intro X hP hw hK hc i pins s σ H E I hf st hg
  subst hP hw hK
  obtain⟨⟨old,he⟩,hit⟩:=st
  obtain⟨xs,hq,hx⟩:=hg
  obtain⟨its,rv,p,hz⟩:=I.tuple hq
  have hl:=rv.length
  have p':s.heap.IsTuple a its.toArray:=p
  exact Z9 (I.ok.hd hc) he hit p' (by simp;omega) λh1 hx1=>⟨rfl,I.turnedN (ch:=[e,it]) (t':=s.toks) hf λb v hb q=>hx1 b v (λz=>hb (by simp[z])) q⟩
 self:=λ_ _ _ _ _ st h=>u1U st.1.choose_spec h
def zna (K:W.Frag)(ta:TA):TI:=fun σ H R=>ta σ H λvs H1=>∃ a,vs=[.ref a]/\((∃ xs,H1 a=some (.lst xs)/\R (Iel K a) H1)\/(∃ xs,SqT K H1 a xs/\R (Iet K a) H1))
theorem zjJ {X:Cx} {es:List Expr} {k:Nat} {tp:Pos} {a:Expr} {ta:TA} {p pos:Pos} (hg:Gl X "enumerate") (hm:X.mg "enumerate"=none) (hb:bootBuiltins "enumerate"=some (.type "enumerate")) (ha:PA X [a] ta)
 (hs:starEach [a] X.env=[(false,eval a X.env)]:=by rfl):PI X (.Tuple es k tp) (.Call (.Name "enumerate" p) [a] [] pos) (zna X.K ta):=by
 intro pins s σ H R I h
 refine Call_ (Zu I hg hm hb (u0q (thn (ha pos pins s σ H _ I h) λus s1 hh9=>?_) hs rfl))
 obtain⟨vs,H1,I1,r1,q1⟩:=hh9
 obtain⟨l,e,q⟩:=q1
 subst e
 obtain⟨u,rfl,ru⟩:=Wk r1
 cases ru
 have hn:∀ b,s1.heap.objs.size<=b->zbJ X pins H1 b:=λb hb=>I1.fpOk hb (I1.hok.fresh hb)
 have hne:s1.heap.objs.size+1≠s1.heap.objs.size:=by omega
 have hfp:∀ b∈[s1.heap.objs.size+1,s1.heap.objs.size],zbJ X pins H1 b:=λb hb=>by
  rcases n8.mp hb with rfl | hb
  .exact hn _ (u2Y _)
  .rw[j6.mp hb];exact hn _ (t9 _)
 rcases q with ⟨xs,hx,q⟩ | ⟨xs,hx,q⟩
 .obtain⟨_,its,n,_,e⟩:xs.length<=sizeLine/\∃ (its:List Value) (n:Nat),yl xs its/\s1.heap.get? l=some { cls:=.type "list",data:=.seq its.toArray n }:=I1.hok _ _ hx
  refine call_enumerate_1 e λh2 he hit hz hk=>u1U he ?_
  exact⟨_,_,_,_,H1,rfl,I1.kept (t':=s1.toks) hk,zeW l _ _ hne,⟨⟨_,he⟩,hit⟩,hfp,q⟩
 .obtain⟨its,_,p1,_⟩:=I1.tuple hx
  have lt:l < s1.heap.objs.size:=by
   obtain⟨o,ho,_⟩:=p1
   exact r9 ho
  refine Z7 (show s1.heap.IsTuple l its.toArray from p1) λh2 he hit hz hk=>u1U he ?_
  exact⟨_,_,_,_,H1,rfl,I1.kept (t':=s1.toks) hk,zeQ l _ _ hne (g9 lt) (g9 (u1R lt)),⟨⟨_,he⟩,hit⟩,hfp,q⟩
end L2
namespace HT
open PySem PyProof.Rows
def lexLe:List Int->List Int->Bool
 | [],_=>true
 | _::_,[]=>false
 | x::xs,y::ys=>if x=y then lexLe xs ys else decide (x<=y)
theorem zeN (x y:Int)(xs ys:List Int):lexLe (x::xs) (y::ys)=if x=y then lexLe xs ys else decide (x<=y):=rfl
theorem zhP (A:Around)(s:Shared)(a:Int)(t:Tok)(c:Int)(u:Tok)(prog:Program)(w:World)(E:Value->Shared->Prop)(Q:Value->Shared->Prop)(h:Q (.bool (decide (a<=c))) s) :
 wpAny (model prog w) A (richCompare .LtE (.int a t) (.int c u)) Q E s :=
 (PyProof.Rows.le_int h:wpAny (model prog w) A (compareOp .LtE (.int a t) (.int c u)) Q E s)
section
open PySem.SeqAt
open PySem.AutoSeq1 (wpAny_loadPart')
open PySem.MeetsSeq PySem.MeetsSeq2 PySem.MeetsSeq3
theorem zbA (l b:Addr)(items items2:Array Value)(n n2:Nat)(dd dd2:Option Addr)(sl sl2:Array (Option Value))(ns ms:List Int)(hi:IntsAre items.toList ns)(hj:IntsAre items2.toList ms) :
 Meets (Builtin.«tuple.__le__» ⟨[.ref l,.ref b],[]⟩)
  (λ_ R s=>s.heap.get? l=some { cls:=.type "tuple",dict:=dd,data:=.seq items n,slots:=sl }/\s.heap.get? b=some { cls:=.type "tuple",dict:=dd2,data:=.seq items2 n2,slots:=sl2 } /\
   R (.ok (.ret (.bool (lexLe ns ms)))) s) :=
 .of_wp λprog w A R s h=>by
  obtain⟨hp,g,d,tk,os⟩:=s;obtain⟨hl,hb,h⟩:=h
  have f2:=AutoSeq1.sub_tuple_tuple
  have z1:items.size=ns.length:=by rw[<-hi.length];simp
  have z2:items2.size=ms.length:=by rw[<-hj.length];simp
  wp_walk using u0C hl,u0C hb,wpAny_forIn_list _ (λrest b s'=>b.1=none/\s'=⟨hp,g,d,tk,os⟩/\∃ (vs ws:List Value) (ns' ms':List Int),rest=vs.zip ws /\
   IntsAre vs ns'/\IntsAre ws ms'/\ns'.length+items2.size=ms'.length+items.size/\R (.ok (.ret (.bool (lexLe ns' ms')))) ⟨hp,g,d,tk,os⟩) _
  case turn =>
   rintro⟨y,x⟩ rest b s' ⟨hb',rfl,vs,ws,ns',ms',hz,hvi,hwi,hlen,hR⟩
   cases hvi with
   | nil=>rw[List.zip_nil_left]at hz;cases hz
   | cons a t hvi' =>
    cases hwi with
    | nil=>rw[u2G]at hz;cases hz
    | cons c u hwi' =>
     rw[u04]at hz
     injection hz with hyx hrest
     injection hyx with hy hx
     subst hy hx
     rw[zeN]at hR
     simp only[p6]at hlen
     obtain⟨e,he,hiff⟩:=zei A.in1 ⟨hp,g,d,tk,os⟩ a t c u
     refine u4 (he prog w _ _ ?_)
     cases e with
     | true =>
      rw[t5 (hiff.mp rfl)]at hR
      wp_walk
      exact⟨rfl,rfl,_,_,_,_,hrest,hvi',hwi',by omega,hR⟩
     | false =>
      rw[t6 (λq=>absurd (hiff.mpr q) u7)]at hR
      have hri:=zhP A.in1 ⟨hp,g,d,tk,os⟩ a t c u prog w
      wp_walk using hri
      exact⟨_,rfl,by simpa using hR⟩
  case fin =>
   rintro⟨b1,b2⟩ s' ⟨hb',rfl,vs,ws,ns',ms',hz,hvi,hwi,hlen,hR⟩
   simp only at hb'
   subst hb'
   have hv:lexLe ns' ms'=decide (items.size<=items2.size):=by
    cases hvi with
    | nil =>
     simp only[u1h]at hlen
     show true=_
     exact(j8 (by omega)).symm
    | cons a t hv =>
     cases hwi with
     | nil =>
      simp only[u1h,p6]at hlen
      show false=_
      exact(d7 (by omega)).symm
     | cons c u hw =>
      rw[u04]at hz
      cases hz
   rw[hv]at hR
   wp_walk
   exact⟨_,rfl,by simpa [Builtin.Tuple.tupleCompareSizes]using hR⟩
  case h =>
   exact⟨rfl,rfl,items.toList,items2.toList,ns,ms,rfl,hi,hj,by omega,h⟩
end
section
variable {prog:Program}{w:World}{A:Around}{E:Value->Shared->Prop}{s:Shared}
theorem le_tupInts {l b:Addr}{items items2:Array Value}{ns ms:List Int}{Q:Value->Shared->Prop}(hl:IsTup s.heap l items)(hb:IsTup s.heap b items2)(hi:IntsAre items.toList ns)(hj:IntsAre items2.toList ms)
 (hu:A.units < cLine) (h:Q (.bool (lexLe ns ms)) s):wpAny (model prog w) A (compareOp .LtE (.ref l) (.ref b)) Q E s:=by
 obtain⟨⟨cls,dd,data,sl⟩,ho,hc,n,hd⟩:=id hl
 obtain⟨⟨cls2,dd2,data2,sl2⟩,ho2,hc2,n2,hd2⟩:=id hb
 simp only at hc hd hc2 hd2
 subst hc hd hc2 hd2
 exact richCompare_meets_room (op:=.LtE) ⟨_,ho,rfl⟩ ⟨_,ho2,rfl⟩ PySem.F.slot_tuple_le PySem.F.entry_tuple_le (PySem.F.args_tuple_le_2 _ _) (zbA l b items items2 n n2 dd dd2 sl sl2 ns ms hi hj)
  ⟨ho,ho2,show Value.bool (lexLe ns ms)≠Value.notImplemented/\Q (.bool (lexLe ns ms)) s from⟨(λx=>nomatch x),h⟩⟩ hu
end
end HT
namespace L2
open PySem PySem.Spec PyProof.Rows
def rLeT (K:W.Frag):R2:=λx y H Q=>∃ a b ns ms,x=.ref a/\y=.ref b/\SqT K H a (ns.map V.int)/\SqT K H b (ms.map V.int)/\Q (.bl (HT.lexLe ns ms)) H
theorem zlw {X:Cx}(hu:X.A.units < cLine):OpR X (compareOp .LtE) (rLeT X.K):=by
 intro pins s σ H x y v u Q I rx ry h
 obtain⟨a,b,ns,ms,rfl,rfl,ha,hb,q⟩:=h
 cases rx
 cases ry
 obtain⟨its,r1,p1,_⟩:=I.tuple ha
 obtain⟨its2,r2,p2,_⟩:=I.tuple hb
 have i1:IntsAre its.toArray.toList ns:=Ws r1
 have i2:IntsAre its2.toArray.toList ms:=Ws r2
 exact HT.le_tupInts p1 p2 i1 i2 hu ⟨.bl (HT.lexLe ns ms),H,I,rfl,q⟩
end L2
namespace HT
open PySem PyProof.Rows
section
variable {prog:Program}{w:World}{A:Around}{E:Value->Shared->Prop}{s:Shared}
theorem own_getItem_whole {t sl:Addr}{items:Array Value}{vl vu:Value}{lo hi:Option Int}{Q:Value->Shared->Prop}(ht:IsTup s.heap t items)(hs:s.heap.IsSliceOf sl vl vu .none)(pl:IsPart vl lo)(pu:IsPart vu hi)
 (hw:sIx items.size 0 lo=0/\sIx items.size items.size hi=items.size) (h:Q (.ref t) s):wpAny (model prog w) A (getItem (.ref t) (.ref sl)) Q E s:=by
 obtain⟨os,hos,hcs,hds⟩:=id hs
 have hTs:s.TypeIs (.ref sl) "slice":=⟨os,hos,hcs⟩
 unfold getItem
 try with_reducible refine u0T ?_
 first | refine u4 (j3 ?_) | skip
 refine u4 (wpAny_sequenceKey ht.typeIs (by decide) ?_)
 refine u4 (u0X (name:=Str.ofString "__getitem__") ht.typeIs u0b
  (u1d u0b ht.typeIs entry_tuple_getitem ?_ (args_tuple_getitem _ _)))
 show wpAny _ _ (Builtin.Tuple.tupleItemsOf (.ref t)>>=_) _ _ s
 refine u4 (tupleItemsOf_ ht ?_)
 refine u4 (u2N hTs ?_)
 rw[t5 (by decide)]
 refine u4 (Y8 hs pl pu ?_)
 have hyes:(((sIx items.size 0 lo:Nat):Int) == 0&&(1:Int) == 1&&(sIx items.size items.size hi - sIx items.size 0 lo) == items.size)=true:=by
  rw[hw.1,hw.2]
  simp
 show wpAny _ _ (if (((sIx items.size 0 lo:Nat):Int) == 0&&(1:Int) == 1&&(sIx items.size items.size hi - sIx items.size 0 lo) == items.size)=true then _ else _) _ _ s
 rw[t5 hyes]
 refine u4 (m:=Builtin.Tuple.tupleIsExact (.ref t)) ?_
 unfold Builtin.Tuple.tupleIsExact
 refine u4 (u2N ht.typeIs (j3 ?_))
 rw[t5 (by decide)]
 refine u4 (u1V ?_)
 first
  | exact j3 ⟨_,rfl,j3 h⟩
  | exact u4 (j3 (j3 ⟨_,rfl,j3 h⟩))
end
end HT
namespace OwnSort
open PySem PyProof.Rows
section pure
variable {κ:KeyKind}{xs:Array Keyed}
theorem up1 {x:Nat}(hs:SortedToK κ xs x)(hx:1<=x)(h:κ.kle (KK κ xs (x - 1)) (KK κ xs x)):SortedToK κ xs (x+1):=λi j hij hj=>by
 by_cases c:j < x
 .exact hs i j hij c
 .obtain rfl:j=x:=by omega
  by_cases d:i=j
  .rw[d];exact u0Z _
  .exact u19 (hs i (j - 1) (by omega) (by omega)) h
theorem ziE {x:Nat}(hs:NonIncK κ xs x)(hx:1<=x)(h:κ.kle (KK κ xs x) (KK κ xs (x - 1))):NonIncK κ xs (x+1):=λi j hij hj=>by
 by_cases c:j < x
 .exact hs i j hij c
 .obtain rfl:j=x:=by omega
  by_cases d:i=j
  .rw[d];exact u0Z _
  .exact u19 h (hs i (j - 1) (by omega) (by omega))
theorem Vb {ys:Array Keyed}{n:Nat}(e:∀ i,KK κ ys i=KK κ xs i)(h:NonIncK κ xs n):NonIncK κ ys n:=λi j hij hj=>by rw[e,e];exact h i j hij hj
theorem turned {n:Nat}(hn:n<=xs.size)(h:NonIncK κ xs n):SortedToK κ (mirror xs 0 n ((n - 0) / 2)) n:=λi j hij hj=>by
 rw[KK_mirror hn,KK_mirror hn,t5 ⟨by omega,by omega⟩,t5 ⟨by omega,by omega⟩]
 exact h _ _ (by omega) (by omega)
theorem ze6:SortedToK κ xs 1:=λi j hij hj=>by
 obtain rfl:i=j:=by omega
 exact u0Z _
theorem zeX:NonIncK κ xs 1:=λi j hij hj=>by
 obtain rfl:i=j:=by omega
 exact u0Z _
end pure
structure SB (k:SortKind) (a₀:Array Keyed) (st:SortSt):Prop where
 pm:(arrOf st).Perm a₀
 kd:kindOf st=k
 fl:failedOf st=none
 pd:pendingOf st=#[]
theorem SB.sz {k:SortKind}{a₀:Array Keyed}{st:SortSt}(B:SB k a₀ st):(arrOf st).size=a₀.size:=B.pm.size_eq
theorem SB.put {k:SortKind}{a₀ xs:Array Keyed}{st:SortSt}(B:SB k a₀ st)(p:xs.Perm (arrOf st)):SB k a₀ (setArr st xs):=⟨p.trans B.pm,B.kd,B.fl,B.pd⟩
section
variable {prog:Program}{w:World}{A:Around}{E:Value->Shared->Prop}{s:Shared}{a₀:Array Keyed}{κ:KeyKind}{k:SortKind}{st:SortSt}
def LtOk (prog:Program)(w:World)(A:Around)(E:Value->Shared->Prop)(s:Shared)(a₀:Array Keyed)(κ:KeyKind)(k:SortKind):Prop :=
 ∀ (st:SortSt) (i j:Nat) (Q:Option Bool->SortSt->Prop),SB k a₀ st->i < a₀.size->j < a₀.size->Q (some (κ.blt (KK κ (arrOf st) i) (KK κ (arrOf st) j))) st->wpS (model prog w) A E s (ltAt' i j) Q st
theorem zfX {a n:Nat}{Q:AscSt->SortSt->Prop}(L:LtOk prog w A E s a₀ κ k)(hn:n<=a₀.size)(ha:1<=a)(han:a<=n)(B:SB k a₀ st)(hs:SortedToK κ (arrOf st) a)
 (h:∀ m,a<=m->m<=n->SortedToK κ (arrOf st) m->(m=n\/κ.klt (KK κ (arrOf st) m) (KK κ (arrOf st) (m - 1)))->Q (none,m) st):wpS (model prog w) A E s (ascLoop a n) Q st:=by
 unfold ascLoop
 refine u17 (I:=λx c t=>(t=st/\c=(none,x))/\SortedToK κ (arrOf st) x) (λx c t h1 h2 hI=>?_) (λc t hI=>?_) ⟨⟨rfl,rfl⟩,hs⟩
 .obtain⟨⟨rfl,rfl⟩,hx⟩:=hI
  refine i8 (L _ x (x - 1) _ B (by omega) (by omega) ?_)
  cases c:κ.blt (KK κ (arrOf t) x) (KK κ (arrOf t) (x - 1)) with
  | true=>exact u0N (h x h1 (by omega) hx (.inr c))
  | false=>exact u0N ⟨⟨rfl,rfl⟩,up1 hx (by omega) c⟩
 .obtain⟨⟨rfl,rfl⟩,hx⟩:=hI
  have e:max a n=n:=by omega
  rw[e]at hx ⊢
  exact h n han (t9 _) hx (.inl rfl)
theorem zef {n m:Nat}{Q:Option Nat->SortSt->Prop}(L:LtOk prog w A E s a₀ κ k)(hm:m<=a₀.size)(h1:1<=n)(hnm:n<=m)(B:SB k a₀ st)(hs:NonIncK κ (arrOf st) n)
 (h:∀ r t,SB k a₀ t->1<=r->r<=m->SortedToK κ (arrOf t) r->Q (some r) t):wpS (model prog w) A E s (tail3 n m) Q st:=by
 unfold tail3
 have B':=B.put (mirror_perm (arrOf st) 0 n ((n - 0) / 2))
 exact i8 (wpS_reverse (i8 (zfX L hm h1 hnm B' (turned (by rw[B.sz];omega) hs) λr g1 g2 g3 _=>u0N (h r _ B' (by omega) g2 g3))))
theorem zif {n m:Nat}{Q:DescSt->SortSt->Prop}(L:LtOk prog w A E s a₀ κ k)(hm:m<=a₀.size)(h1:1<=n)(hnm:n<=m)(B:SB k a₀ st)(hs:NonIncK κ (arrOf st) n)
 (h:∀ r q t,SB k a₀ t->n<=r->r<=m->NonIncK κ (arrOf t) r->q+1<=r->(∀ i,r - (q+1)<=i->i < r->KK κ (arrOf t) i=KK κ (arrOf t) (r - 1))->Q (none,r,q) t):wpS (model prog w) A E s (descLoop n m) Q st:=by
 unfold descLoop
 refine u17 (I:=λx c t=>∃ q,c=(none,x,q)/\SB k a₀ t/\NonIncK κ (arrOf t) x/\q+1<=x/\∀ i,x - (q+1)<=i->i < x->KK κ (arrOf t) i=KK κ (arrOf t) (x - 1))
  (λx c t g1 g2 hI=>?_) (λc t hI=>?_) ⟨0,rfl,B,hs,h1,λi c1 c2=>by rw[show i=n - 1 from u1I (u1r c2) c1]⟩
 .obtain⟨q,rfl,B1,ni,hq,he⟩:=hI
  have hxs:x < a₀.size:=j7 g2 hm
  have hxs1:x - 1 < a₀.size:=u0f (Nat.sub_le _ _) hxs
  have hx1:1<=x:=m8 h1 g1
  have hz:x<=(arrOf t).size:=by rw[B1.sz];exact u0M hxs
  refine i8 (L _ x (x - 1) _ B1 hxs hxs1 ?_)
  cases c:κ.blt (KK κ (arrOf t) x) (KK κ (arrOf t) (x - 1)) with
  | true =>
   have d:=ziE ni hx1 (u1P c)
   by_cases hq0:q > 0
   .show wpS _ _ _ _ (if q > 0 then _ else _) _ _
    rw[t5 hq0]
    exact i8 (wpS_reverse (u0N ⟨0,rfl,B1.put (mirror_perm _ _ _ _),Vb (KK_mirror_equal hz he) d,u2h (u0m _),λi c1 c2=>by rw[show i=x+1 - 1 from u1I (u0v c2) c1]⟩))
   .show wpS _ _ _ _ (if q > 0 then _ else _) _ _
    rw[t6 hq0]
    exact u0N ⟨0,rfl,B1,d,u2h (u0m _),λi c1 c2=>by rw[show i=x+1 - 1 from u1I (u0v c2) c1]⟩
  | false =>
   refine i8 (L _ (x - 1) x _ B1 hxs1 hxs ?_)
   cases c2:κ.blt (KK κ (arrOf t) (x - 1)) (KK κ (arrOf t) x) with
   | true=>exact u0N (h x q t B1 g1 (u0M g2) ni hq he)
   | false =>
    have same:KK κ (arrOf t) x=KK κ (arrOf t) (x - 1):=KeyOrd.kle_antisymm c2 c
    refine u0N ⟨q+1,rfl,B1,ziE ni hx1 c2,u2h hq,λi d1 d2=>?_⟩
    show KK κ (arrOf t) i=KK κ (arrOf t) x
    by_cases di:i=x
    .rw[di]
    .rw[same];exact he i (by omega) (by omega)
 .obtain⟨q,rfl,B1,ni,hq,he⟩:=hI
  have e:max n m=m:=Nat.max_eq_right hnm
  rw[e]at ni hq he ⊢
  exact h m q t B1 hnm (t9 _) ni hq he
theorem WO {n m:Nat}{Q:Option Nat->SortSt->Prop}(L:LtOk prog w A E s a₀ κ k)(hm:m<=a₀.size)(hnm:n+1<=m)(B:SB k a₀ st)(hs:NonIncK κ (arrOf st) (n+1))
 (h:∀ r t,SB k a₀ t->1<=r->r<=m->SortedToK κ (arrOf t) r->Q (some r) t):wpS (model prog w) A E s (descPart n m) Q st:=by
 unfold descPart
 refine i8 (wpS_lift (u1V ⟨rfl,i8 (zif L hm (by omega) hnm B hs λr q t B1 r1 r2 ni hq he=>?_)⟩))
 have hz:r<=(arrOf t).size:=by rw[B1.sz];omega
 by_cases hq0:q > 0
 .show wpS _ _ _ _ (if q > 0 then _ else _) _ _
  rw[t5 hq0]
  exact i8 (wpS_reverse (zef (n:=r) L hm (by omega) r2 (B1.put (mirror_perm _ _ _ _)) (Vb (KK_mirror_equal hz he) ni) h))
 .show wpS _ _ _ _ (if q > 0 then _ else _) _ _
  rw[t6 hq0]
  exact zef (n:=r) L hm (by omega) r2 B1 ni h
theorem zkD {m:Nat}{Q:Option Nat->SortSt->Prop}(L:LtOk prog w A E s a₀ κ k)(hm:m<=a₀.size)(h1:1<=m)(B:SB k a₀ st)
 (h:∀ r t,SB k a₀ t->1<=r->r<=m->SortedToK κ (arrOf t) r->Q (some r) t):wpS (model prog w) A E s (countRun' 0 m) Q st:=by
 rw[countRun0_eq]
 refine i8 (zfX L hm (t9 1) h1 B ze6 λn n1 n2 sn or=>?_)
 show wpS _ _ _ _ (if (n == m)=true then _ else if n > 1 then _ else _) _ _
 by_cases e:n=m
 .rw[t5 (by rw[e];exact u02 m)]
  exact u0N (h n st B n1 n2 sn)
 .rw[t6 (λz=>e (eq_of_beq z))]
  have lt:=or.resolve_left e
  by_cases g:n > 1
  .rw[t5 g]
   refine i8 (L _ 0 (n - 1) _ B (by omega) (by omega) ?_)
   cases c:κ.blt (KK κ (arrOf st) 0) (KK κ (arrOf st) (n - 1)) with
   | true=>exact u0N (h n st B n1 n2 sn)
   | false =>
    have hz:n<=(arrOf st).size:=by rw[B.sz];omega
    have eq:∀ i,0<=i->i < n->KK κ (arrOf st) i=KK κ (arrOf st) (n - 1):=λi _ hi =>
     KeyOrd.kle_antisymm (sn i (n - 1) (by omega) (by omega)) (u19 c (sn 0 i (by omega) hi))
    have ni:NonIncK κ (arrOf st) n:=λi j _ hj=>by rw[eq i (by omega) (by omega),eq j (by omega) hj];exact u0Z _
    exact i8 (wpS_reverse (WO L hm (by omega) (B.put (mirror_perm _ _ _ _)) (Vb (KK_mirror_equal hz eq) (ziE ni (by omega) (u1P lt))) h))
  .rw[t6 g]
   obtain rfl:n=1:=by omega
   exact WO L hm (by omega) B (ziE zeX (t9 1) (u1P lt)) h
theorem zms {l u md:Nat}(h:(l+u) / 2=md)(c:¬ l >= u):l<=md/\md < u:=by
 have c':l < u:=Nat.lt_of_not_le c
 rw[<-h]
 exact⟨(Nat.le_div_iff_mul_le (by decide)).mpr (by rw[Nat.mul_two];exact u2x (u0M c') l),(Nat.div_lt_iff_lt_mul (by decide)).mpr (by rw[Nat.mul_two];exact Nat.add_lt_add_right c' u)⟩
theorem znj {l u md x y:Nat}(m1:l<=md)(m2:md < u)(e3:u - l<=x - y):md - l<=x - (y+1) :=
 m8 (u1r (Nat.sub_lt_sub_right m1 m2)) (u2l e3 1)
theorem zne {l u md x y:Nat}(m1:l<=md)(e3:u - l<=x - y):u - (md+1)<=x - (y+1) :=
 m8 (Nat.sub_le_sub_left (u2h m1) u) (u2l e3 1)
theorem zmr (r n:Nat):min (max (max r 1) n) n=n:=Nat.min_eq_right (Nat.le_max_right _ _)
theorem zmp {r n:Nat}(r0:¬ r=0)(hr:r<=n):min (max r 1) n=r:=by
 rw[Nat.max_eq_left (Nat.pos_of_ne_zero r0),u1k hr]
theorem zk3 {i j r n:Nat}(hr:r=0)(hij:i<=j)(hj:j < min (max r 1) n):i=j:=by
 subst hr
 have h0:j=0:=Nat.lt_one_iff.mp (j7 hj (Nat.min_le_left _ _))
 subst h0
 exact Nat.le_zero.mp hij
theorem zjB {n r:Nat}{Q:Bool->SortSt->Prop}(L:LtOk prog w A E s a₀ κ k)(hn:n<=a₀.size)(hr:r<=n)(B:SB k a₀ st)(hs:SortedToK κ (arrOf st) r)
 (h:∀ t,SB k a₀ t->SortedToK κ (arrOf t) n->Q true t):wpS (model prog w) A E s (binarySort' 0 n r) Q st:=by
 rw[binarySort'_eq]
 refine i8 (wpS_mono (u17 (I:=λx c t=>(c=(none,())/\SB k a₀ t)/\SortedToK κ (arrOf t) (min x n)) (Q:=λc t=>(c=(none,())/\SB k a₀ t)/\SortedToK κ (arrOf t) n)
  (λx c t g1 g2 hI=>?_) (λc t hI=>?_) ⟨⟨rfl,B⟩,?_⟩) λc t hI=>?_)
 .obtain⟨⟨rfl,B1⟩,sx⟩:=hI
  rw[u1k (u0M g2)]at sx
  have hx:x < a₀.size:=j7 g2 hn
  refine i8 (wpS_mono (u17
   (I:=λy c t'=>t'=t/\∃ l u,c=(none,l,u)/\(l<=u/\u<=x/\u - l<=x - y)/\(∀ i,i < l->κ.kle (KK κ (arrOf t) i) (KK κ (arrOf t) x))/\∀ i,u<=i->i < x->κ.klt (KK κ (arrOf t) x) (KK κ (arrOf t) i))
   (Q:=λc t'=>t'=t/\∃ l u,c=(none,l,u)/\l<=x/\(∀ i,i < l->κ.kle (KK κ (arrOf t) i) (KK κ (arrOf t) x))/\∀ i,l<=i->i < x->κ.klt (KK κ (arrOf t) x) (KK κ (arrOf t) i))
   (λy c t' y1 y2 hJ=>?_) (λc t' hJ=>?_) ⟨rfl,0,x,rfl,⟨u0m _,t9 _,t9 _⟩,λi hi=>absurd hi (u1l _),λi i1 i2=>absurd (u0f i1 i2) (u0J _)⟩) λc t' hJ=>?_)
  .obtain⟨rfl,l,u,rfl,⟨e1,e2,e3⟩,lo,up⟩:=hJ
   show wpS _ _ _ _ (if l >= u then _ else _) _ _
   by_cases c1:l >= u
   .rw[t5 c1]
    obtain rfl:l=u:=u1I e1 c1
    exact u0N ⟨rfl,l,l,rfl,e2,lo,up⟩
   .rw[t6 c1]
    generalize hmd:(l+u) / 2=md
    obtain⟨m1,m2⟩:=zms hmd c1
    clear hmd c1 e1
    refine i8 (L _ (0+x) (0+md) _ B1 (by rw[m9];exact hx) (by rw[m9];exact j7 m2 (m8 e2 (u0M hx))) ?_)
    rw[m9,m9]
    cases c2:κ.blt (KK κ (arrOf t') x) (KK κ (arrOf t') md) with
    | true=>exact u0N ⟨rfl,l,md,rfl,⟨m1,m8 (u0M m2) e2,znj m1 m2 e3⟩,lo,λi i1 i2=>KeyOrd.klt_of_klt_of_kle c2 (sx _ _ i1 i2)⟩
    | false=>exact u0N ⟨rfl,md+1,u,rfl,⟨m2,e2,zne m1 e3⟩,λi i1=>u19 (sx i md (u0v i1) (j7 m2 e2)) c2,up⟩
  .obtain⟨rfl,l,u,rfl,⟨e1,e2,e3⟩,lo,up⟩:=hJ
   obtain rfl:l=u:=by omega
   exact⟨rfl,l,l,rfl,e2,lo,up⟩
  .obtain⟨rfl,l,u,rfl,e2,lo,up⟩:=hJ
   show wpS _ _ _ _ (do moveDown' (0+x) (0+l);pure (ForInStep.yield (none,()))) _ _
   rw[moveDown'_eq,m9,m9]
   refine i8 (wpS_modify (u0N ⟨⟨rfl,B1.put (bubble_perm _ _ _)⟩,?_⟩))
   have hz:x < (arrOf t').size:=by rw[B1.sz];exact hx
   rw[u1k (Nat.succ_le_of_lt g2)]
   show SortedToK κ (bubble (arrOf t') x (x - l)) (x+1)
   intro i j hij hj
   rw[KK_bubble hz (Nat.sub_le _ _),KK_bubble hz (Nat.sub_le _ _),Nat.sub_sub_self e2]
   by_cases i1:i=l
   .rw[t5 i1]
    by_cases j1:j=l
    .rw[t5 j1];exact u0Z _
    .have lj:l < j:=u2I (by rw[<-i1];exact hij) (λe=>j1 e.symm)
     rw[t6 j1,t5 ⟨lj,u0v hj⟩];exact u1P (up _ (u1r lj) (j7 (Nat.sub_lt (u2T lj) Nat.one_pos) (u0v hj)))
   .rw[t6 i1]
    by_cases i2:l < i/\i<=x
    .have lj:=j7 i2.1 hij
     rw[t5 i2,t6 (λe=>absurd lj (by rw[e];exact u0J _)),t5 ⟨lj,u0v hj⟩];exact sx _ _ (u2l hij 1) (j7 (Nat.sub_lt (u2T lj) Nat.one_pos) (u0v hj))
    .rw[t6 i2]
     have i3:i < l:=u2I (u1u λh=>i2 ⟨h,m8 hij (u0v hj)⟩) i1
     clear i2 i1
     by_cases j1:j=l
     .rw[t5 j1];exact lo i i3
     .rw[t6 j1]
      by_cases j2:l < j/\j<=x
      .rw[t5 j2];exact sx _ _ (u1r (Nat.lt_trans i3 j2.1)) (j7 (Nat.sub_lt (u2T j2.1) Nat.one_pos) (u0v hj))
      .rw[t6 j2];exact sx _ _ hij (j7 (u2I (u1u λh=>j2 ⟨h,u0v hj⟩) j1) e2)
 .obtain⟨⟨e1,B1⟩,sx⟩:=hI
  rw[zmr]at sx
  exact⟨⟨e1,B1⟩,sx⟩
 .by_cases r0:r=0
  .intro i j hij hj
   obtain rfl:i=j:=zk3 r0 hij hj
   exact u0Z _
  .rw[zmp r0 hr];exact hs
 .obtain⟨⟨rfl,B1⟩,sx⟩:=hI
  exact u0N (h t B1 sx)
theorem own_runs {Q:Unit->SortSt->Prop}(L:LtOk prog w A E s a₀ κ k)(B:SB k a₀ st)(h2:2<=a₀.size)(h64:a₀.size < 64)
 (h:∀ t,(arrOf t).Perm a₀->failedOf t=none->SortedToK κ (arrOf t) a₀.size->Q () t):wpS (model prog w) A E s sortRuns' Q st:=by
 rw[sortRuns'_eq]
 have mr:minRun' a₀.size a₀.size 0=a₀.size:=by
  cases e:a₀.size with
  | zero=>omega
  | succ f=>rw[minRun'_succ,t5 (by omega),Nat.add_zero]
 refine i8 (wpS_get ?_)
 simp only[B.sz,mr]
 let Dn:SortSt->Prop:=λt=>(arrOf t).Perm a₀/\failedOf t=none/\pendingOf t=#[(0,a₀.size,0)]/\SortedToK κ (arrOf t) a₀.size
 have fin:∀ t,SB k a₀ t->SortedToK κ (arrOf t) a₀.size->Dn (setPending t ((pendingOf t).push (0,a₀.size,0))):=λt B1 sx=>⟨B1.pm,B1.fl,by show(pendingOf t).push _=_;rw[B1.pd];rfl,sx⟩
 refine i8 (wpS_mono (u17 (I:=λx c t=>(x=0/\c=(none,0)/\SB k a₀ t)\/(1<=x/\c=(none,a₀.size)/\Dn t)) (Q:=λc t=>c=(none,a₀.size)/\Dn t)
  (λx c t g1 g2 hI=>?_) (λc t hI=>?_) (.inl ⟨rfl,rfl,B⟩)) λc t hI=>?_)
 .rcases hI with ⟨rfl,rfl,B1⟩ | ⟨_,rfl,D1⟩
  .show wpS _ _ _ _ (if 0 >= a₀.size then _ else _) _ _
   rw[t6 (by omega)]
   simp only[Nat.sub_zero,u2J,m9]
   refine i8 (zkD L (t9 _) (by omega) B1 λr t2 B2 r1 r2 s2=>?_)
   show wpS _ _ _ _ (if r < a₀.size then _ else _) _ _
   by_cases c1:r < a₀.size
   .rw[t5 c1]
    refine i8 (wpS_lift (u1V ⟨rfl,i8 (zjB L (t9 _) r2 B2 s2 λt3 B3 s3=>?_)⟩))
    refine i8 (wpS_get ?_)
    rw[show(pendingOf t3).back?=none by rw[B3.pd];rfl]
    exact i8 (wpS_modify (u0N (.inr ⟨by omega,rfl,fin t3 B3 s3⟩)))
   .rw[t6 c1]
    obtain rfl:r=a₀.size:=by omega
    refine i8 (wpS_get ?_)
    rw[show(pendingOf t2).back?=none by rw[B2.pd];rfl]
    exact i8 (wpS_modify (u0N (.inr ⟨by omega,rfl,fin t2 B2 s2⟩)))
  .show wpS _ _ _ _ (if a₀.size >= a₀.size then _ else _) _ _
   rw[t5 (t9 _)]
   exact u0N ⟨rfl,D1⟩
 .rcases hI with ⟨z,_,_⟩ | ⟨_,e,D1⟩
  .omega
  .exact⟨e,D1⟩
 .obtain⟨rfl,d1,d2,d3,d4⟩:=hI
  refine i8 (wpS_mono (u17 (I:=λ_ c t'=>t'=t/\c=(none,())) (Q:=λc t'=>t'=t/\c=(none,())) (λx c t' _ _ hI=>?_) (λ_ _ z=>z) ⟨rfl,rfl⟩) λc t' hI=>?_)
  .obtain⟨rfl,rfl⟩:=hI
   refine i8 (wpS_get ?_)
   rw[t5 (by rw[d3];exact t9 1)]
   exact u0N ⟨rfl,rfl⟩
  .obtain⟨rfl,rfl⟩:=hI
   exact u0N (h _ d1 d2 d4)
end
abbrev Pr:=Int × Int
def bltP (s t:Pr):Bool:=decide (s.1 < t.1\/(s.1=t.1/\s.2 < t.2))
def TP (h:Heap) (v:Value) (t:Pr):Prop:=∃ a o n tx ty,v=.ref a/\h.get? a=some o/\o.cls=.type "tuple"/\o.data=.seq #[.int t.1 tx,.int t.2 ty] n
theorem TP.uniq {h:Heap}{v:Value}{s t:Pr}(x:TP h v s)(y:TP h v t):s=t:=by
 obtain⟨a,o,n,tx,ty,rfl,e1,_,d1⟩:=x
 obtain⟨b,o2,n2,ux,uy,e,e2,_,d2⟩:=y
 cases e
 rw[e1]at e2
 cases e2
 rw[d1]at d2
 injection d2 with d2 _
 have:=u0U Array.toList d2
 simp at this
 exact u1X this.1.1 this.2.1
theorem TP.keep {h h':Heap}{v:Value}{t:Pr}(x:TP h v t)(k:∀ b o,h.get? b=some o->h'.get? b=some o):TP h' v t:=by
 obtain⟨a,o,n,tx,ty,e,e1,r⟩:=x
 exact⟨a,o,n,tx,ty,e,k _ _ e1,r⟩
open Classical in
noncomputable def keyP (h:Heap)(v:Value):Option Pr:=if x:∃ t,TP h v t then some x.choose else none
theorem keyP_of {h:Heap}{v:Value}{t:Pr}(x:TP h v t):keyP h v=some t:=by
 unfold keyP
 have y:∃ t,TP h v t:=⟨t,x⟩
 rw[dif_pos y,y.choose_spec.uniq x]
@[reducible] noncomputable def kindP (h:Heap):KeyKind where
 α:=Pr
 blt:=bltP
 irrefl a:=by unfold bltP;exact d7 (by omega)
 trans a b c h1 h2:=by unfold bltP at *;rw[r6]at *;omega
 negTrans a b c h:=by unfold bltP at *;rw[r6]at *;rw[r6];omega
 total a b h1 h2:=by
  unfold bltP at *
  rw[u0w]at *
  exact u1X (by omega) (by omega)
 keyOf:=keyP h
 dflt:=(0,0)
theorem zcM (b:Bool)(x y:Value):keyLt' (tuples' b) x y=(do
 let xs<-Builtin.List.listItems x
 let ys<-Builtin.List.listItems y
 for ((p,q),i)in (xs.toList.zip ys.toList).zipIdx do
  if !(<- eqBool p q)then return<-oneLt' (b&&i == 0) p q
 return xs.size < ys.size):=rfl
theorem zcG (v:Value):firstOfTuple' v=(do
 if (<- typeOf v) != .type "tuple" then return none
 return (<- Builtin.List.listItems v)[0]?):=rfl
section
variable {prog:Program}{w:World}{A:Around}{E:Value->Shared->Prop}{s:Shared}
theorem lt0 {a b:Int}{t u:Tok}{Q:Bool->Shared->Prop}(h:Q (decide (a < b)) s):wpAny (model prog w) A (oneLt' false (.int a t) (.int b u)) Q E s:=by
 rw[oneLt'_eq]
 rw[t6 u7]
 exact u4 (u2y (u0x h))
theorem zbc:∀ {fs:List Value},(∀ f∈fs,∃ i t,f=.int i t)->fs.mapM typeOf=pure (fs.map λ_=>Value.type "int")
 | [],_=>by simp
 | f::fs,h=>by
  obtain⟨i,t,rfl⟩:=h f u0e
  rw[u3s,zbc λg hg=>h g (p7 _ hg),show typeOf (.int i t)=pure (.type "int")from rfl]
  simp
end
end OwnSort
namespace OwnTim
open PySem PyProof.Rows
def ky (κ:KeyKind)(x:Keyed):κ.α:=(κ.keyOf x.1).getD κ.dflt
def LtE (prog:Program)(w:World)(A:Around)(E:Value->Shared->Prop)(s:Shared)(κ:KeyKind)(k:SortKind)(D:Keyed->Prop):Prop :=
 ∀ (st:SortSt) (x y:Keyed) (Q:Option Bool->SortSt->Prop),kindOf st=k->D x->D y->Q (some (κ.blt (ky κ x) (ky κ y))) st->wpS (model prog w) A E s (lt' x y) Q st
section
variable {prog:Program}{w:World}{A:Around}{E:Value->Shared->Prop}{s:Shared}{a₀:Array Keyed}{κ:KeyKind}{k:SortKind}{st:SortSt}
theorem zlg {xs:Array Keyed}{i:Nat}{x:Keyed}(h:xs[i]?=some x):KK κ xs i=ky κ x:=by
 unfold KK
 rw[h]
 rfl
theorem zj0 (L:LtE prog w A E s κ k (·∈a₀.toList)):OwnSort.LtOk prog w A E s a₀ κ k:=by
 intro st i j Q S hi hj q
 have look:∀ {i},i < a₀.size->∃ x,(arrOf st)[i]?=some x/\x∈a₀.toList:=λ{i} hi=>by
  have hi':i < (arrOf st).size:=by rw[S.sz];exact hi
  exact⟨(arrOf st)[i],u2L _ i hi',(u1p.mp S.pm).mem_iff.mp (by simp)⟩
 obtain⟨x,e1,m1⟩:=look hi
 obtain⟨y,e2,m2⟩:=look hj
 rw[zlg e1,zlg e2]at q
 rw[ltAt'_eq]
 refine i8 (wpS_get ?_)
 show wpS _ _ _ _ (elem' (arrOf st) i>>=λx=>elem' (arrOf st) j>>=λy=>lt' x y) Q st
 rw[elem'_eq,elem'_eq,e1,e2]
 exact i8 (u0N (i8 (u0N (L _ _ _ _ S.kd m1 m2 q))))
theorem own_runsE {Q:Unit->SortSt->Prop}(L:LtE prog w A E s κ k (·∈a₀.toList))(pm:(arrOf st).Perm a₀)(kd:kindOf st=k)(fl:failedOf st=none)(pd:pendingOf st=#[])
 (h:∀ t,(arrOf t).Perm a₀->failedOf t=none->SortedToK κ (arrOf t) a₀.size->Q () t) (h2:2<=a₀.size) (h64:a₀.size < 64):wpS (model prog w) A E s sortRuns' Q st:=OwnSort.own_runs (zj0 L) ⟨pm,kd,fl,pd⟩ h2 h64 h
end
end OwnTim
namespace OwnSortT
open PySem PyProof.Rows OwnSort
theorem lex_irr:∀ a:List Int,HT.lexLt a a=false:=by
 intro a
 induction a with
 | nil=>rfl
 | cons x xs ih=>rw[HT.lexLt_cons,t5 rfl,ih]
theorem lex_trans:∀ a b c:List Int,HT.lexLt a b=true->HT.lexLt b c=true->HT.lexLt a c=true:=by
 intro a
 induction a with
 | nil =>
  intro b c h1 h2
  cases c with
  | nil=>cases b <;> cases h2
  | cons _ _=>rfl
 | cons x xs ih =>
  intro b c h1 h2
  cases b with
  | nil=>cases h1
  | cons y ys=>cases c with
   | nil=>cases h2
   | cons z zs =>
    rw[HT.lexLt_cons]at h1 h2 ⊢
    by_cases e1:x=y
    .rw[t5 e1]at h1
     by_cases e2:y=z
     .rw[t5 e2]at h2;rw[t5 (e1.trans e2)];exact ih _ _ h1 h2
     .rw[t6 e2,r6]at h2;rw[t6 (by omega),r6];omega
    .rw[t6 e1,r6]at h1
     by_cases e2:y=z
     .rw[t6 (by omega),r6];omega
     .rw[t6 e2,r6]at h2;rw[t6 (by omega),r6];omega
theorem lex_total:∀ a b:List Int,HT.lexLt a b=false->HT.lexLt b a=false->a=b:=by
 intro a
 induction a with
 | nil =>
  intro b h1 h2
  cases b with
  | nil=>rfl
  | cons _ _=>cases h1
 | cons x xs ih =>
  intro b h1 h2
  cases b with
  | nil=>cases h2
  | cons y ys =>
   rw[HT.lexLt_cons]at h1 h2
   by_cases e:x=y
   .rw[t5 e]at h1;rw[t5 e.symm]at h2;rw[e,ih _ h1 h2]
   .rw[t6 e,u0w]at h1;rw[t6 (u1S e),u0w]at h2;omega
theorem lex_neg (a b c:List Int)(h:HT.lexLt a c=true):HT.lexLt a b=true\/HT.lexLt b c=true:=by
 cases h1:HT.lexLt a b with
 | true=>exact .inl rfl
 | false =>
  refine .inr ?_
  cases h2:HT.lexLt b a with
  | true=>exact lex_trans _ _ _ h2 h
  | false=>rw[<-lex_total _ _ h1 h2];exact h
def TT (h:Heap) (v:Value) (t:List Int):Prop:=∃ a o n its,v=.ref a/\h.get? a=some o/\o.cls=.type "tuple"/\o.data=.seq its.toArray n/\IntsAre its t/\t≠[]
theorem VR:∀ {vs:List Value} {ns ms:List Int},IntsAre vs ns->IntsAre vs ms->ns=ms:=by
 intro vs ns ms h
 induction h generalizing ms with
 | nil=>intro h2;cases h2;rfl
 | cons n t h ih=>intro h2;cases h2 with | cons n' t' h'=>rw[ih h']
theorem TT.uniq {h:Heap}{v:Value}{s t:List Int}(x:TT h v s)(y:TT h v t):s=t:=by
 obtain⟨a,o,n,its,rfl,e1,_,d1,i1,_⟩:=x
 obtain⟨b,p,m,its',e,e2,_,d2,i2,_⟩:=y
 cases e
 rw[e1]at e2
 cases e2
 rw[d1]at d2
 have e3:its.toArray=its'.toArray:=by injection d2
 cases u2f e3
 exact VR i1 i2
theorem TT.keep {h h':Heap}{v:Value}{t:List Int}(x:TT h v t)(k:∀ b o,h.get? b=some o->h'.get? b=some o):TT h' v t:=by
 obtain⟨a,o,n,its,e,e1,r⟩:=x
 exact⟨a,o,n,its,e,k _ _ e1,r⟩
theorem TT.keepT {h h':Heap} {v:Value} {t:List Int} (x:TT h v t) (k:∀ b o,o.cls=.type "tuple"->h.get? b=some o->h'.get? b=some o):TT h' v t:=by
 obtain⟨a,o,n,its,e,e1,c,r⟩:=x
 exact⟨a,o,n,its,e,k _ _ c e1,c,r⟩
open Classical in
noncomputable def zct (h:Heap)(v:Value):Option (List Int):=if x:∃ t,TT h v t then some x.choose else none
theorem zd4 {h:Heap}{v:Value}{t:List Int}(x:TT h v t):zct h v=some t:=by
 unfold zct
 have y:∃ t,TT h v t:=⟨t,x⟩
 rw[dif_pos y,y.choose_spec.uniq x]
@[reducible] noncomputable def zeg (h:Heap):KeyKind where
 α:=List Int
 blt:=HT.lexLt
 irrefl:=lex_irr
 trans:=lex_trans
 negTrans:=lex_neg
 total:=lex_total
 keyOf:=zct h
 dflt:=[]
section
variable {prog:Program}{w:World}{A:Around}{E:Value->Shared->Prop}{s:Shared}
def zkS (d:Bool):List Int->List Int->Bool
 | x::xs,y::ys=>if x=y then zkS d xs ys else decide (x < y)
 | _,_=>d
theorem zkd:∀ a b:List Int,zkS (decide (a.length < b.length)) a b=HT.lexLt a b:=by
 intro a
 induction a with
 | nil=>intro b;cases b with
  | nil=>rfl
  | cons _ _=>rfl
 | cons x xs ih=>intro b;cases b with
  | nil=>rfl
  | cons y ys =>
   rw[HT.lexLt_cons,<- ih ys]
   show(if x=y then zkS (decide (xs.length+1 < ys.length+1)) xs ys else decide (x < y))=_
   rw[show decide (xs.length+1 < ys.length+1)=decide (xs.length < ys.length) by congr 1;apply propext;omega]
def zgq (x:(Value × Value) × Nat)(_:Option Bool × Unit):Sem (ForInStep (Option Bool × Unit)):=do
 let b<-eqBool x.1.1 x.1.2
 if (!b)=true then do
  let c<-oneLt' (true&&x.2 == 0) x.1.1 x.1.2
  pure (ForInStep.done (some c,()))
 else pure (ForInStep.yield (none,()))
theorem zii {d:Bool}:∀ {xs:List Value} {ns:List Int} {ys:List Value} {ms:List Int} {k:Nat} {Q:Option Bool × Unit->Shared->Prop},IntsAre xs ns->IntsAre ys ms->(∀ r:Option Bool × Unit,r.1.getD d=zkS d ns ms->Q r s) ->
 wpAny (model prog w) A (forIn ((xs.zip ys).zipIdx k) ((none,()):Option Bool × Unit) zgq) Q E s:=by
 intro xs ns ys ms k Q h1
 induction h1 generalizing ys ms k with
 | nil=>intro h2 q;exact j3 (q (none,()) rfl)
 | cons x t h1 ih =>
  intro h2 q
  cases h2 with
  | nil=>exact j3 (q (none,()) rfl)
  | cons y u h2 =>
   rw[u04,List.zipIdx_cons,u3j]
   refine u4 (u4 (u1K x t y u prog w E _ ?_))
   by_cases c:x=y
   .rw[show(x == y)=true by rw[c];exact u02 _]
    refine j3 (ih h2 λr hr=>q r (hr.trans ?_))
    show _=(if x=y then zkS d _ _ else decide (x < y))
    rw[t5 c]
   .rw[show(x == y)=false by simpa using c]
    have q0:Q (some (decide (x < y)),()) s:=q _ (by
     show decide (x < y)=(if x=y then zkS d _ _ else decide (x < y))
     rw[t6 c])
    cases k with
    | zero=>exact u4 (oneLt_int (j3 (j3 q0)))
    | succ k=>exact u4 (lt0 (j3 (j3 q0)))
theorem zgx {x y:Value}{a b:List Int}{Q:Bool->Shared->Prop}(hx:TT s.heap x a)(hy:TT s.heap y b)(h:Q (HT.lexLt a b) s):wpAny (model prog w) A (keyLt' (tuples' true) x y) Q E s:=by
 obtain⟨p,o,n,xs,rfl,e1,_,d1,i1,_⟩:=hx
 obtain⟨q,o2,n2,ys,rfl,e2,_,d2,i2,_⟩:=hy
 rw[zcM]
 refine u4 (u1a e1 d1 (u4 (u1a e2 d2 ?_)))
 show wpAny _ _ (forIn ((xs.zip ys).zipIdx 0) ((none,()):Option Bool × Unit) zgq>>=_) _ _ _
 refine u4 (zii (d:=decide (xs.length < ys.length)) i1 i2 λr hr=>?_)
 have e:Q (r.1.getD (decide (xs.length < ys.length))) s:=by
  rw[hr,i1.length,i2.length,zkd];exact h
 obtain⟨r1,u⟩:=r
 cases r1 with
 | none=>exact j3 e
 | some v=>exact j3 e
theorem zij {vs:List Value}(hT:∀ v∈vs,∃ t,TT s.heap v t):OwnTim.LtE prog w A E s (zeg s.heap) (tuples' true) (·∈(pairsOf vs).toList):=by
 intro st x y Q hk hx hy h
 have look:∀ {x:Keyed},x∈(pairsOf vs).toList->∃ t,TT s.heap x.1 t/\OwnTim.ky (zeg s.heap) x=t:=λ{x} hm=>by
  rw[pairsOf_toList]at hm
  obtain⟨t,ht⟩:=hT _ (mem_zip_self hm).2
  refine⟨t,ht,?_⟩
  unfold OwnTim.ky
  show(zct s.heap x.1).getD _=t
  rw[zd4 ht]
  rfl
 obtain⟨a,ta,ka⟩:=look hx
 obtain⟨b,tb,kb⟩:=look hy
 rw[ka,kb]at h
 rw[lt'_eq]
 refine i8 (wpS_get ?_)
 rw[hk]
 exact i8 (wpS_lift (u21 (zgx ta tb ⟨rfl,u0N h⟩)))
theorem zan:∀ {vs:List Value} {Q:List (Option Value)->Shared->Prop},(∀ v∈vs,∃ t,TT s.heap v t)->(∀ fs:List Value,fs.length=vs.length->(∀ f∈fs,∃ i t,f=.int i t)->Q (fs.map some) s)->wpAny (model prog w) A (vs.mapM firstOfTuple') Q E s
 | [],Q,_,h=>by rw[List.mapM_nil];exact j3 (h [] rfl (by simp))
 | v::vs,Q,hT,h=>by
  obtain⟨t,a,o,n,its,rfl,e1,c1,d1,hi,hne⟩:=hT v u0e
  obtain⟨z,zs,i0,tk,rfl,rfl⟩:∃ z zs i0 tk,its=z::zs/\z=.int i0 tk:=by
   cases hi with
   | nil=>exact absurd rfl hne
   | cons i0 tk hi=>exact⟨_,_,_,_,rfl,rfl⟩
  rw[u3s,zcG]
  refine u4 (u4 (u2N (T:="tuple") ⟨o,e1,c1⟩ ?_))
  rw[t6 (by simp)]
  refine u4 (u1a e1 d1 (j3 (u4 (zan (λu hu=>hT u (p7 _ hu)) λfs hl hf=>j3 ?_))))
  exact h (.int i0 tk::fs) (by simp[hl]) λf hf'=>by
   rcases n8.mp hf' with rfl | hf'
   .exact⟨_,_,rfl⟩
   .exact hf f hf'
theorem zg8 {v₁:Value}{vs:List Value}{Q:SortKind->Shared->Prop}(hT:∀ v∈v₁::vs,∃ t,TT s.heap v t)(h:Q (tuples' true) s):wpAny (model prog w) A (keyKind' (v₁::vs).toArray) Q E s:=by
 rw[keyKind'_eq,u1Q,<- bind_pure_comp,bind_assoc]
 refine u4 (zan hT λfs hl hf=>u4 (j3 ?_))
 cases fs with
 | nil=>simp at hl
 | cons f fs =>
  rw[t5 (by simp)]
  have ef:((f::fs).map some).toArray.filterMap id=(f::fs).toArray:=by simp
  refine u4 (u1V ?_)
  rw[ef,oneTypeOnly'_eq,u1Q,zbc hf]
  simp only[map_pure,pure_bind]
  rw[show(List.map (λ_=>Value.type "int") (f::fs)).toArray[0]?=some (Value.type "int") by simp]
  have al:((List.map (λ_=>Value.type "int") (f::fs)).toArray.all λx=>x == Value.type "int")=true:=by
   simp only[List.all_toArray,u1A,u0r]
   intro _ _
   rfl
  simp only[al,u2z,pure_bind,Option.any_some]
  rw[show(Value.type "int" != Value.type "tuple")=true by decide +kernel]
  exact j3 h
end
def Rise (h:Heap)(out:List Value):Prop:=∃ ts:List (List Int),out.length=ts.length/\(∀ (i:Nat) (v:Value) (t:(List Int)),out[i]?=some v->ts[i]?=some t->TT h v t)/\ts.Pairwise λa b=>HT.lexLt b a=false
theorem zgk {h h':Heap}{vs:List Value}{xs:Array Keyed}(hT:∀ v∈vs,∃ t,TT h v t)(hk:∀ v t,TT h v t->TT h' v t)(pm:xs.Perm (pairsOf vs))(hs:SortedToK (zeg h') xs (pairsOf vs).size):(xs.map (·.2)).toList.Perm vs/\Rise h (xs.map (·.2)).toList:=by
 have hl:xs.toList.Perm (vs.zip vs):=by rw[<-pairsOf_toList];exact u1p.mp pm
 have hm:∀ p∈xs.toList,p.1=p.2/\p.1∈vs:=λp hp=>mem_zip_self (hl.mem_iff.mp hp)
 have e2:(xs.map (·.2)).toList=xs.toList.map (·.2):=by simp
 rw[e2]
 refine⟨?_,xs.toList.map λp=>(zct h' p.1).getD ([]:List Int),by simp,λi v t hv ht=>?_,?_⟩
 .have:=hl.map (·.2)
  rwa[show(vs.zip vs).map (·.2)=vs from List.map_snd_zip (t9 _)]at this
 .rw[j5]at hv ht
  cases hx:xs.toList[i]? with
  | none=>rw[hx]at hv;cases hv
  | some p =>
   rw[hx]at hv ht
   cases hv
   cases ht
   obtain⟨q1,q2⟩:=hm p (r8 hx)
   obtain⟨t,ht⟩:=hT _ q2
   show TT h p.2 ((zct h' p.1).getD ([]:List Int))
   rw[zd4 (hk _ _ ht),<- q1]
   exact ht
 .rw[u0S]
  intro i j hi hj hij
  have hi':i < xs.size:=by simpa using hi
  have hj':j < xs.size:=by simpa using hj
  have:=hs i j (u0M hij) (by rw[<-pm.size_eq];exact hj')
  unfold KK at this
  rw[u2L xs i hi',u2L xs j hj']at this
  have this:HT.lexLt ((zct h' xs[j].1).getD ([]:List Int)) ((zct h' xs[i].1).getD ([]:List Int))=false:=this
  simpa using this
section
variable {prog:Program}{w:World}{A:Around}{E:Value->Shared->Prop}{s:Shared}
theorem zag {a:Addr} {vs:List Value} {n:Nat} {P:Fin->Shared->Prop} (ho:s.heap.get? a=some (seqObj "list" vs.toArray n)) (hT:∀ v∈vs,∃ t,TT s.heap v t) (h64:vs.length < 64)
 (h:∀ out:Array Value,out.toList.Perm vs->Rise s.heap out.toList->P (.done (.ret .none)) { s with heap:=sortedHeap s.heap a vs out }):wpAny (model prog w) A (Builtin.«list.sort» ⟨[.ref a],[]⟩) P E s:=by
 have la:a < s.heap.objs.size:=r9 ho
 have zl:vs.toArray.size=vs.length:=t7
 obtain⟨e1,o1⟩:∃ e1,(s.heap.update a (Obj.mapSeq λ_=>#[])).get? a=some (seqObj "list" #[] e1):=⟨_,u1M ho (λ_=>#[])⟩
 have o6:(((s.heap.update a (Obj.mapSeq λ_=>#[])).push (seqObj "tuple" vs.toArray 0)).push (seqObj "list" #[] 0)).get? a=some (seqObj "list" #[] e1):=u9 _ (u9 _ o1)
 have up:∀ b o,o.cls=.type "tuple"->s.heap.get? b=some o->(((s.heap.update a (Obj.mapSeq λ_=>#[])).push (seqObj "tuple" vs.toArray 0)).push (seqObj "list" #[] 0)).get? b=some o:=λb o c e=>by
  refine u9 _ (u9 _ ((i7 _ _ λz=>?_).trans e))
  subst z
  rw[ho]at e
  cases e
  exact absurd (show Value.type "list"=Value.type "tuple" from c) (by decide +kernel)
 have hT6:∀ v∈vs,∃ t,TT (((s.heap.update a (Obj.mapSeq λ_=>#[])).push (seqObj "tuple" vs.toArray 0)).push (seqObj "list" #[] 0)) v t:=λv hv=>let ⟨t,ht⟩:=hT v hv;⟨t,ht.keepT up⟩
 rw[list_sort_plain]
 refine u4 (u1a ho rfl (u4 (u1o ho rfl (u4 (seqEpoch_at o1 rfl (u4 (wpAny_newTuple (u4 (u23 (u0T ?_))))))))))
 show wpAny (model prog w) A _ P E { s with heap:=((s.heap.update a (Obj.mapSeq λ_=>#[])).push (seqObj "tuple" vs.toArray 0)).push (seqObj "list" #[] 0) }
 by_cases c2:vs.toArray.size < 2
 .rw[t5 c2,t5 c2]
  refine u4 (j3 ?_)
  dsimp only
  rw[StateT.run_pure]
  refine u4 (j3 ?_)
  obtain⟨r1,r2⟩:=zgk (xs:=pairsOf vs) hT (λv t ht=>ht) (u1E _) (λi j hij hj=>by
   obtain rfl:i=j:=by rw[u2M]at hj;omega
   exact u0Z _)
  refine u4 (seqEpoch_at o6 rfl (u4 (u1o o6 rfl ?_ (hsz2:=by rw[u3o];show(pairsOf vs).size<=_;rw[u2M,u1w];omega))))
  rw[show(e1 != e1)=false by simp]
  exact j3 (h _ r1 r2)
 .rw[t6 c2,t6 c2]
  cases vs with
  | nil=>simp at c2
  | cons v₁ rest =>
   refine u4 (zg8 hT6 ?_)
   refine u4 (u0K (OwnTim.own_runsE (st:=SortSt.mk' (tuples' true) ((v₁::rest).toArray.zip (v₁::rest).toArray) #[] 7 none) (Q:=λ_ t=>(arrOf t).Perm (pairsOf (v₁::rest))/\failedOf t=none/\SortedToK (zeg _) (arrOf t) (pairsOf (v₁::rest)).size)
    (zij hT6) (u1E _) rfl rfl rfl (λt p1 p2 p3=>⟨p1,p2,p3⟩) (by rw[u2M];rw[t7]at c2;omega) (by rw[u2M];exact h64)) ?_ λ_ _ e=>e)
   rintro⟨⟨⟩,t⟩ s' ⟨rfl,p1,p2,p3⟩
   obtain⟨r1,r2⟩:=zgk hT (λv t ht=>ht.keepT up) p1 p3
   refine u4 (seqEpoch_at o6 rfl (u4 (u1o o6 rfl ?_ (hsz2:=by rw[u3o];show(arrOf t).size<=_;rw[p1.size_eq,u2M,u1w];omega))))
   rw[p2,show(e1 != e1)=false by simp]
   exact j3 (h _ r1 r2)
theorem ownT_sorted {l:Addr}{vs:List Value}{Q:Value->Shared->Prop}(hl:s.heap.IsList l vs.toArray)(hT:∀ v∈vs,∃ t,TT s.heap v t)(h64:vs.length < 64)
 (h:∀ out:Array Value,out.toList.Perm vs->Rise s.heap out.toList->Q (.ref (s.heap.objs.size+1)) { s with heap:=sortedAll s.heap vs out }):wpAny (model prog w) A (call (.builtin "sorted") [.ref l]) Q E s:=by
 have z1:((s.heap.push (seqObj "list" #[] 0)).update s.heap.objs.size (Obj.mapSeq (·++vs.toArray))).objs.size=s.heap.objs.size+1:=(Heap.size_update ..).trans (size_push' _ _)
 have oL:(((s.heap.push (seqObj "list" #[] 0)).update s.heap.objs.size (Obj.mapSeq (·++vs.toArray))).push (seqObj "list" vs.toArray 0)).get? (s.heap.objs.size+1)=some (seqObj "list" vs.toArray 0):=z1 ▸ n0 _ rfl
 have up:∀ b o,s.heap.get? b=some o->(((s.heap.push (seqObj "list" #[] 0)).update s.heap.objs.size (Obj.mapSeq (·++vs.toArray))).push (seqObj "list" vs.toArray 0)).get? b=some o:=λb o e =>
  u9 _ ((i7 _ _ λz=>by subst z;exact absurd (r9 e) (u0J _)).trans (u9 _ e))
 refine Calls.call_function_entry kind_sorted plain_sorted entry_sorted (args_sorted1 _) ?_
 unfold Builtin.«sorted»
 refine u4 (m:=checkCount "sorted" 1 1 _) (j3 (u4 (collect_list hl (u4 (u23 ?_)))))
 show wpAny _ _ _ _ _ (Shared.mk (((s.heap.push (seqObj "list" #[] 0)).update s.heap.objs.size (Obj.mapSeq (·++vs.toArray))).push (seqObj "list" vs.toArray 0)) s.gens s.drawn s.toks s.os)
 rw[z1]
 refine u4 (u0T (u1d slot_list_sort ⟨_,oL,rfl⟩ entry_list_sort (zag oL (λv hv=>let ⟨t,ht⟩:=hT v hv;⟨t,ht.keep up⟩) h64 λout p1 p2=>⟨_,rfl,j3 ⟨_,rfl,h out p1 ?_⟩⟩) (args_list_sort _)))
 obtain⟨ts,q1,q2,q3⟩:=p2
 refine⟨ts,q1,λi v t hv ht=>?_,q3⟩
 obtain⟨t0,ht0⟩:=hT v (p1.mem_iff.mp (r8 hv))
 rw[(q2 i v t hv ht).uniq (ht0.keep up)]
 exact ht0
end
end OwnSortT
namespace OwnSort
open PySem PyProof.Rows
def Rise (h:Heap)(out:List Value):Prop:=∃ ts:List Pr,out.length=ts.length/\(∀ (i:Nat) (v:Value) (t:Pr),out[i]?=some v->ts[i]?=some t->TP h v t)/\ts.Pairwise λa b=>bltP b a=false
theorem TP.tt {h:Heap}{v:Value}{t:Pr}(x:TP h v t):OwnSortT.TT h v [t.1,t.2]:=by
 obtain⟨a,o,n,tx,ty,e1,e2,e3,e4⟩:=x
 exact⟨a,o,n,[.int t.1 tx,.int t.2 ty],e1,e2,e3,e4,.cons _ _ (.cons _ _ .nil),List.cons_ne_nil _ _⟩
theorem ziY (a b:Pr):HT.lexLt [a.1,a.2] [b.1,b.2]=bltP a b:=by
 rw[HT.lexLt_cons,HT.lexLt_cons]
 unfold bltP
 by_cases c:a.1=b.1
 .rw[t5 c]
  by_cases c2:a.2=b.2
  .rw[t5 c2,d7 (by omega)];rfl
  .rw[t6 c2,u26];omega
 .rw[t6 c,u26];omega
theorem zfy {h:Heap}{vs out:List Value}(hT:∀ v∈vs,∃ t,TP h v t)(pm:out.Perm vs)(r:OwnSortT.Rise h out):Rise h out:=by
 obtain⟨ts,l1,l2,l3⟩:=r
 have key:∀ (i:Nat) (v:Value) (t:List Int),out[i]?=some v->ts[i]?=some t->∃ p:Pr,TP h v p/\t=[p.1,p.2]:=λi v t h1 h2=>by
  obtain⟨p,hp⟩:=hT v (pm.mem_iff.mp (r8 h1))
  exact⟨p,hp,OwnSortT.TT.uniq (l2 i v t h1 h2) hp.tt⟩
 have ex:∀ t∈ts,∃ p:Pr,t=[p.1,p.2]:=λt ht=>by
  obtain⟨i,hi,rfl⟩:=d6 ht
  obtain⟨p,_,e⟩:=key i out[i] ts[i] (u5 (by omega)) (u5 hi)
  exact⟨p,e⟩
 refine⟨ts.map λt=>(t.getD 0 0,t.getD 1 0),by rw[u6,l1],λi v t h1 h2=>?_,?_⟩
 .rw[j5]at h2
  obtain⟨u,hu,rfl⟩:=u8.mp h2
  obtain⟨p,hp,rfl⟩:=key i v u h1 hu
  exact hp
 .rw[u0u]
  refine l3.imp_of_mem λ{a b} ha hb hab=>?_
  obtain⟨p,rfl⟩:=ex a ha
  obtain⟨q,rfl⟩:=ex b hb
  rw[ziY]at hab
  exact hab
section
variable {prog:Program}{w:World}{A:Around}{E:Value->Shared->Prop}{s:Shared}
theorem own_sorted {l:Addr}{vs:List Value}{Q:Value->Shared->Prop}(hl:s.heap.IsList l vs.toArray)(hT:∀ v∈vs,∃ t,TP s.heap v t)(h64:vs.length < 64)
 (h:∀ out:Array Value,out.toList.Perm vs->Rise s.heap out.toList->Q (.ref (s.heap.objs.size+1)) { s with heap:=sortedAll s.heap vs out }):wpAny (model prog w) A (call (.builtin "sorted") [.ref l]) Q E s :=
 OwnSortT.ownT_sorted hl (λv hv=>(hT v hv).imp' (λt=>[t.1,t.2]) λ_ ht=>ht.tt) (by omega) λout p r=>h out p (zfy hT p r)
end
end OwnSort
namespace Dl
open PySem L2
class KK where
 K:W.Frag
inductive D where
 | non | bl (b:Bool) | int (i:Int) | str (x:Str) | tup (ds:List D) | lst (ds:List D) | scr (ns:List Int)
  | dct (z t:Bool) (ks:List (List Key)) (vs:List D)
 deriving Inhabited
section
variable [KK]
def zmx (o:HO)(t:Bool)(ks:List (List Key))(xs:List V):Prop :=
 if t=true then ∃ kvs,o=.dT kvs/\kvs.map (·.1)=ks/\kvs.map (·.2)=xs else ∃ kvs:List (Key × V),o=.dK kvs/\kvs.map (λp=>[p.1])=ks/\kvs.map (·.2)=xs
def zdj (H:Hp)(a:Addr)(z t:Bool)(ks:List (List Key))(xs:List V):Prop :=
 ∃ u,zmx u t ks xs/\if z=true then ∃ ob,H a=some (.frz ob u)else H a=some u
theorem zdj.mono {H H':Hp}{a:Addr}{z t:Bool}{ks:List (List Key)}{xs:List V}(s:xj H H')(h:zdj H a z t ks xs):zdj H' a z t ks xs:=by
 obtain⟨u,h1,h2⟩:=h
 refine⟨u,h1,?_⟩
 cases z with
 | true =>
  rw[t5 rfl]at h2 ⊢
  obtain⟨ob,h2⟩:=h2
  exact⟨ob,s _ _ h2⟩
 | false =>
  rw[t6 u7]at h2 ⊢
  exact s _ _ h2
theorem zdj.rd {H:Hp}{a:Addr}{z t:Bool}{ks:List (List Key)}{xs:List V}(h:zdj H a z t ks xs):∃ u,zmx u t ks xs/\Rd H a u:=by
 obtain⟨u,h1,h2⟩:=h
 refine⟨u,h1,?_⟩
 cases z with
 | true =>
  rw[t5 rfl]at h2
  obtain⟨ob,h2⟩:=h2
  exact .inr ⟨ob,h2⟩
 | false =>
  rw[t6 u7]at h2
  exact .inl h2
mutual
def At (H:Hp):D->V->Prop
 | .non,v=>v=.non
 | .bl b,v=>v=.bl b
 | .int i,v=>v=.int i
 | .str x,v=>v=.str x
 | .tup ds,v=>∃ a xs,v=.ref a/\H a=some (.tup xs)/\AtL H ds xs
 | .lst ds,v=>∃ a xs,v=.ref a/\H a=some (.lst xs)/\AtL H ds xs
 | .scr ns,v=>∃ a,v=.ref a/\SqL KK.K H a (ns.map V.int)
 | .dct z t ks vs,v=>∃ a xs,v=.ref a/\zdj H a z t ks xs/\AtL H vs xs
def AtL (H:Hp):List D->List V->Prop
 | [],xs=>xs=[]
 | d::ds,xs=>∃ x r,xs=x::r/\At H d x/\AtL H ds r
end
mutual
theorem At.mono {H H':Hp}(s:xj H H'):∀ {d:D} {v:V},At H d v->At H' d v
 | .non,_,h=>by unfold At at h ⊢;exact h
 | .bl _,_,h=>by unfold At at h ⊢;exact h
 | .int _,_,h=>by unfold At at h ⊢;exact h
 | .str _,_,h=>by unfold At at h ⊢;exact h
 | .tup ds,_,h=>by
  unfold At at h ⊢
  obtain⟨a,xs,e,hx,hl⟩:=h
  exact⟨a,xs,e,s _ _ hx,AtL.mono s hl⟩
 | .lst ds,_,h=>by
  unfold At at h ⊢
  obtain⟨a,xs,e,hx,hl⟩:=h
  exact⟨a,xs,e,s _ _ hx,AtL.mono s hl⟩
 | .scr ns,_,h=>by
  unfold At at h ⊢
  obtain⟨a,e,hx⟩:=h
  exact⟨a,e,s.seq hx⟩
 | .dct z t ks vs,_,h=>by
  unfold At at h ⊢
  obtain⟨a,xs,e,hx,hl⟩:=h
  exact⟨a,xs,e,hx.mono s,AtL.mono s hl⟩
theorem AtL.mono {H H':Hp}(s:xj H H'):∀ {ds:List D} {xs:List V},AtL H ds xs->AtL H' ds xs
 | [],_,h=>by unfold AtL at h ⊢;exact h
 | d::ds,_,h=>by
  unfold AtL at h ⊢
  obtain⟨x,r,e,h1,h2⟩:=h
  exact⟨x,r,e,At.mono s h1,AtL.mono s h2⟩
end
mutual
def noL:D->Bool
 | .tup ds=>zmW ds
 | .lst _=>false
 | .scr _=>false
 | .dct _ _ _ _=>false
 | _=>true
def zmW:List D->Bool
 | []=>true
 | d::ds=>noL d&&zmW ds
end
mutual
theorem At.flat {G F:Hp}(h:∀ q xs,G q=some (.tup xs)->F q=some (.tup xs)):∀ {d:D} {v:V},noL d=true->At G d v->At F d v
 | .non,_,_,a=>by unfold At at a ⊢;exact a
 | .bl _,_,_,a=>by unfold At at a ⊢;exact a
 | .int _,_,_,a=>by unfold At at a ⊢;exact a
 | .str _,_,_,a=>by unfold At at a ⊢;exact a
 | .tup ds,_,n,a=>by
  unfold At at a ⊢
  unfold noL at n
  obtain⟨p,xs,e,hx,hl⟩:=a
  exact⟨p,xs,e,h _ _ hx,AtL.flat h n hl⟩
 | .lst ds,_,n,_=>by unfold noL at n;cases n
 | .scr ds,_,n,_=>by unfold noL at n;cases n
 | .dct _ _ _ _,_,n,_=>by unfold noL at n;cases n
theorem AtL.flat {G F:Hp}(h:∀ q xs,G q=some (.tup xs)->F q=some (.tup xs)):∀ {ds:List D} {xs:List V},zmW ds=true->AtL G ds xs->AtL F ds xs
 | [],_,_,a=>by unfold AtL at a ⊢;exact a
 | d::ds,_,n,a=>by
  unfold AtL at a ⊢
  unfold zmW at n
  rw[b7]at n
  obtain⟨x,r,e,h1,h2⟩:=a
  exact⟨x,r,e,At.flat h n.1 h1,AtL.flat h n.2 h2⟩
end
section
variable {H H':Hp}{d:D}{ds es:List D}{v x:V}{xs ys:List V}
theorem At.int {i:Int}:At H (.int i) (.int i):=by unfold At;rfl
theorem At.bl {b:Bool}:At H (.bl b) (.bl b):=by unfold At;rfl
theorem At.non:At H .non .non:=by unfold At;rfl
theorem At.str {y:Str}:At H (.str y) (.str y):=by unfold At;rfl
theorem At.tup {a:Addr}(h:H a=some (.tup xs))(hl:AtL H ds xs):At H (.tup ds) (.ref a):=by unfold At;exact⟨a,xs,rfl,h,hl⟩
theorem At.lst {a:Addr}(h:H a=some (.lst xs))(hl:AtL H ds xs):At H (.lst ds) (.ref a):=by unfold At;exact⟨a,xs,rfl,h,hl⟩
theorem AtL.nil:AtL H [] []:=by unfold AtL;rfl
theorem AtL.cons (h:At H d x)(hl:AtL H ds xs):AtL H (d::ds) (x::xs):=by unfold AtL;exact⟨x,xs,rfl,h,hl⟩
theorem At.int_inv {i:Int}(h:At H (.int i) v):v=.int i:=by unfold At at h;exact h
theorem At.bl_inv {b:Bool}(h:At H (.bl b) v):v=.bl b:=by unfold At at h;exact h
theorem At.non_inv (h:At H .non v):v=.non:=by unfold At at h;exact h
theorem At.str_inv {y:Str}(h:At H (.str y) v):v=.str y:=by unfold At at h;exact h
theorem At.tup_inv (h:At H (.tup ds) v):∃ a xs,v=.ref a/\H a=some (.tup xs)/\AtL H ds xs:=by unfold At at h;exact h
theorem At.lst_inv (h:At H (.lst ds) v):∃ a xs,v=.ref a/\H a=some (.lst xs)/\AtL H ds xs:=by unfold At at h;exact h
theorem At.scr_inv {ns:List Int}(h:At H (.scr ns) v):∃ a,v=.ref a/\SqL KK.K H a (ns.map V.int):=by unfold At at h;exact h
theorem At.dct_inv {z t:Bool}{ks:List (List Key)}{vs:List D}(h:At H (.dct z t ks vs) v):∃ a xs,v=.ref a/\zdj H a z t ks xs/\AtL H vs xs:=by unfold At at h;exact h
theorem AtL.nil_inv (h:AtL H [] xs):xs=[]:=by unfold AtL at h;exact h
theorem AtL.cons_inv (h:AtL H (d::ds) xs):∃ x r,xs=x::r/\At H d x/\AtL H ds r:=by unfold AtL at h;exact h
theorem AtL.length:∀ {ds:List D} {xs:List V},AtL H ds xs->xs.length=ds.length
 | [],_,h=>by rw[h.nil_inv];rfl
 | _::_,_,h=>by
  obtain⟨x,r,rfl,_,h2⟩:=h.cons_inv
  rw[p6,p6,AtL.length h2]
theorem AtL.get:∀ {ds:List D} {xs:List V} {i:Nat} {d:D},AtL H ds xs->ds[i]?=some d->∃ x,xs[i]?=some x/\At H d x
 | [],_,_,_,_,e=>by simp at e
 | _::_,_,i,_,h,e=>by
  obtain⟨x,r,rfl,h1,h2⟩:=h.cons_inv
  cases i with
  | zero =>
   simp at e
   subst e
   exact⟨x,rfl,h1⟩
  | succ i =>
   obtain⟨y,hy,ha⟩:=AtL.get (i:=i) h2 (by simpa using e)
   exact⟨y,by simpa using hy,ha⟩
theorem AtL.append:∀ {ds es:List D} {xs ys:List V},AtL H ds xs->AtL H es ys->AtL H (ds++es) (xs++ys)
 | [],_,_,_,h,k=>by rw[h.nil_inv];exact k
 | _::_,_,_,_,h,k=>by
  obtain⟨x,r,rfl,h1,h2⟩:=h.cons_inv
  exact .cons h1 (AtL.append h2 k)
theorem AtL.snoc (h:AtL H ds xs)(k:At H d v):AtL H (ds++[d]) (xs++[v]):=h.append (.cons k .nil)
theorem AtL.take:∀ (n:Nat) {ds:List D} {xs:List V},AtL H ds xs->AtL H (ds.take n) (xs.take n)
 | 0,_,_,_=>by simpa using AtL.nil
 | n+1,[],_,h=>by rw[h.nil_inv];simpa using AtL.nil
 | n+1,_::_,_,h=>by
  obtain⟨x,r,rfl,h1,h2⟩:=h.cons_inv
  rw[List.take_succ_cons,List.take_succ_cons]
  exact .cons h1 (AtL.take n h2)
theorem AtL.drop:∀ (n:Nat) {ds:List D} {xs:List V},AtL H ds xs->AtL H (ds.drop n) (xs.drop n)
 | 0,_,_,h=>h
 | n+1,[],_,h=>by rw[h.nil_inv];simpa using AtL.nil
 | n+1,_::_,_,h=>by
  obtain⟨x,r,rfl,h1,h2⟩:=h.cons_inv
  rw[List.drop_succ_cons,List.drop_succ_cons]
  exact AtL.drop n h2
theorem AtL.set:∀ (n:Nat) {ds:List D} {xs:List V},AtL H ds xs->At H d v->AtL H (ds.set n d) (xs.set n v)
 | _,[],_,h,_=>by rw[h.nil_inv];simpa using AtL.nil
 | 0,_::_,_,h,k=>by
  obtain⟨x,r,rfl,h1,h2⟩:=h.cons_inv
  exact .cons k h2
 | n+1,_::_,_,h,k=>by
  obtain⟨x,r,rfl,h1,h2⟩:=h.cons_inv
  exact .cons h1 (AtL.set n h2 k)
theorem AtL.reverse:∀ {ds:List D} {xs:List V},AtL H ds xs->AtL H ds.reverse xs.reverse
 | [],_,h=>by rw[h.nil_inv];exact .nil
 | _::_,_,h=>by
  obtain⟨x,r,rfl,h1,h2⟩:=h.cons_inv
  rw[List.reverse_cons,List.reverse_cons]
  exact(AtL.reverse h2).snoc h1
theorem AtL.rep (h:AtL H ds xs):∀ k:Nat,AtL H (List.replicate k ds).flatten (List.replicate k xs).flatten
 | 0=>.nil
 | k+1=>by
  rw[i5,i5,u0Y,u0Y]
  exact h.append (AtL.rep h k)
theorem AtL.ints (ns:List Int):AtL H (ns.map D.int) (ns.map V.int):=by
 induction ns with
 | nil=>exact .nil
 | cons n r ih=>exact .cons .int ih
theorem AtL.of_ints:∀ {ns:List Int} {xs:List V},AtL H (ns.map D.int) xs->xs=ns.map V.int
 | [],_,h=>h.nil_inv
 | n::r,_,h=>by
  obtain⟨x,r',rfl,h1,h2⟩:=AtL.cons_inv (by simpa using h)
  rw[h1.int_inv,AtL.of_ints h2]
  rfl
end
def tyN:D->String
 | .non=>"NoneType" | .bl _=>"bool" | .int _=>"int" | .str _=>"str" | .tup _=>"tuple" | .lst _=>"list" | .scr _=>"list" | .dct _ _ _ _=>"dict"
def Hid (F':Hp)(p:Addr)(o:HO):Prop:=F' p=none\/((∃ xs,o=.tup xs)/\F' p=some o)
def Keep (F H F' H':Hp):Prop:=∀ p o,F p=none->H p=some o->Hid F' p o/\H' p=some o
structure Gr (F H F' H':Hp):Prop where
 ff:xj F F'
 fh:xj F' H'
 kp:Keep F H F' H'
theorem Gr.refl {F H:Hp}(s:xj F H):Gr F H F H:=⟨xj.refl _,s,λ_ _ a b=>⟨.inl a,b⟩⟩
theorem Gr.trans {F H F1 H1 F2 H2:Hp}(a:Gr F H F1 H1)(b:Gr F1 H1 F2 H2):Gr F H F2 H2 :=
 ⟨a.ff.trans b.ff,b.fh,λp o e1 e2=>by
  obtain⟨x,y⟩:=a.kp p o e1 e2
  rcases x with x | ⟨x1,x2⟩
  .exact b.kp p o x y
  .exact⟨.inr ⟨x1,b.ff _ _ x2⟩,b.fh _ _ (b.ff _ _ x2)⟩⟩
theorem Gr.kl {F H F' H':Hp}{p:Addr}{o:HO}(g:Gr F H F' H')(n:∀ xs,o≠.tup xs)(e1:F p=none)(e2:H p=some o):F' p=none/\H' p=some o:=by
 obtain⟨x,y⟩:=g.kp p o e1 e2
 rcases x with x | ⟨⟨xs,x1⟩,_⟩
 .exact⟨x,y⟩
 .exact absurd x1 (n xs)
theorem Gr.alloc {F H:Hp}{p:Addr}(s:xj F H)(h:H p=none)(o:HO):Gr F H (upd F p o) (upd H p o):=by
 have hF:F p=none:=s.free h
 refine⟨λb u q=>?_,λb u q=>?_,λb u q r=>?_⟩
 .rw[zw (zn q hF)];exact q
 .by_cases e:b=p
  .subst e;rw[zx]at q ⊢;exact q
  .rw[zw e]at q ⊢;exact s b u q
 .have e:b≠p:=zn r h
  rw[zw e];exact⟨.inl (by rw[zw e];exact q),r⟩
theorem Gr.hide {F H:Hp}{p:Addr}(s:xj F H)(h:H p=none)(o:HO):Gr F H F (upd H p o):=by
 refine⟨xj.refl _,λb u q=>?_,λb u q r=>?_⟩
 .rw[zw (zn (s b u q) h)];exact s b u q
 .have e:b≠p:=zn r h
  rw[zw e];exact⟨.inl q,r⟩
theorem Gr.show {F H:Hp}{p:Addr}{o:HO}{F0 H0:Hp}(g:Gr F0 H0 F H)(h0:H0 p=none)(hF:F p=none)(h:H p=some o):Gr F0 H0 (upd F p o) H:=by
 refine⟨λb u q=>?_,λb u q=>?_,λb u q r=>?_⟩
 .have:=g.ff b u q
  rw[zw (zn this hF)];exact this
 .by_cases e:b=p
  .subst e;rw[zx]at q;rw[<-q];exact h
  .rw[zw e]at q;exact g.fh b u q
 .have e:b≠p:=zn r h0
  obtain⟨x,y⟩:=g.kp b u q r
  refine⟨?_,y⟩
  unfold Hid
  rw[zw e]
  exact x
abbrev Ev:=List (Option D)
def VAt (F:Hp)(ρ:Ev)(σ:St):Prop:=∀ (i:Nat) (d:D),ρ[i]?=some (some d)->∃ v,σ[i]?=some (some v)/\At F d v
theorem VAt.mono {F F':Hp}{ρ:Ev}{σ:St}(h:VAt F ρ σ)(s:xj F F'):VAt F' ρ σ:=λi d e=>let ⟨v,e1,a⟩:=h i d e;⟨v,e1,a.mono s⟩
def RE (t:TE)(f:Ev->Option D):Prop :=
 ∀ (σ:St) (ρ:Ev) (F H:Hp) (d:D) (Q:VK),xj F H->VAt F ρ σ->f ρ=some d->(∀ F' H' v,Gr F H F' H'->At F' d v->Q v H')->t σ H Q
def RT (t:TT)(f:Ev->Option Bool):Prop :=
 ∀ (σ:St) (ρ:Ev) (F H:Hp) (b:Bool) (Q:Bool->Hp->Prop),xj F H->VAt F ρ σ->f ρ=some b->(∀ F' H',Gr F H F' H'->Q b H')->t σ H Q
def RA (t:TA)(f:Ev->Option (List D)):Prop :=
 ∀ (σ:St) (ρ:Ev) (F H:Hp) (ds:List D) (Q:List V->Hp->Prop),xj F H->VAt F ρ σ->f ρ=some ds->(∀ F' H' vs,Gr F H F' H'->AtL F' ds vs->Q vs H')->t σ H Q
def RF (t:TE)(f:Ev->Option (List D)):Prop :=
 ∀ (σ:St) (ρ:Ev) (F H:Hp) (ds:List D) (Q:VK),xj F H->VAt F ρ σ->f ρ=some ds->(∀ F' H' p xs,Gr F H F' H'->H p=none->F' p=none->H' p=some (.lst xs)->AtL F' ds xs->Q (.ref p) H')->t σ H Q
def ED (X:Cx)(e:Expr)(f:Ev->Option D):Prop:=∃ t,PE X e t/\RE t f
def TD (X:Cx)(e:Expr)(f:Ev->Option Bool):Prop:=∃ t,PT X e t/\RT t f
def WD (X:Cx)(e:Expr)(f:Ev->Option Bool):Prop:=∃ t,PW X e t/\RT t f
def AD (X:Cx)(es:List Expr)(f:Ev->Option (List D)):Prop:=∃ t,PA X es t/\RA t f
def FL (X:Cx)(e:Expr)(f:Ev->Option (List D)):Prop:=∃ t,PE X e t/\RF t f
section
variable {X:Cx}{a b c:Expr}{pos:Pos}
def wd (f:Ev->Option (List D)):Ev->Option D:=fun ρ=>(f ρ).map .lst
theorem w8 {f:Ev->Option (List D)}(h:FL X a f):ED X a (wd f):=by
 obtain⟨t,ht,r⟩:=h
 refine⟨t,ht,fun σ ρ F H d Q s va e q=>?_⟩
 obtain⟨ds,e1,rfl⟩:=u8.mp e
 refine r σ ρ F H ds Q s va e1 λF' H' p xs g h0 hF hH hx=>?_
 have g2:=g.show h0 hF hH
 exact q _ _ _ g2 (At.lst zx (hx.mono (λb u e=>by rw[zw (zn e hF)];exact e)))
def zc (i:Nat):Ev->Option D:=fun ρ=>(ρ[i]?).getD none
theorem zlL (i:Nat)(h:PE X a (zhK i)):ED X a (zc i):=by
 refine⟨_,h,fun σ ρ F H d Q s va e q=>?_⟩
 have e':ρ[i]?=some (some d):=by
  unfold zc at e
  cases h:ρ[i]? with
  | none=>rw[h]at e;cases e
  | some x=>rw[h]at e;cases x with
   | none=>cases e
   | some y=>cases e;rfl
 obtain⟨v,e1,a1⟩:=va i d e'
 exact⟨v,e1,q _ _ _ (.refl s) a1⟩
def eC (d:D):Ev->Option D:=λ_=>some d
theorem zg {i:Int}(h:PE X a (tC (.int i))):ED X a (eC (.int i)):=⟨_,h,λ_ _ _ _ _ _ s _ e q=>by cases e;exact q _ _ _ (.refl s) .int⟩
theorem Z5 {i:Bool}(h:PE X a (tC (.bl i))):ED X a (eC (.bl i)):=⟨_,h,λ_ _ _ _ _ _ s _ e q=>by cases e;exact q _ _ _ (.refl s) .bl⟩
theorem WQ (h:PE X a (tC .non)):ED X a (eC .non):=⟨_,h,λ_ _ _ _ _ _ s _ e q=>by cases e;exact q _ _ _ (.refl s) .non⟩
def OpD (r:R2)(g:D->D->Option D):Prop :=
 ∀ (F H:Hp) (x y:V) (d e z:D) (Q:VK),xj F H->At F d x->At F e y->g d e=some z->(∀ F' H' v,Gr F H F' H'->At F' z v->Q v H')->r x y H Q
def zm (g:D->D->Option D)(f h:Ev->Option D):Ev->Option D:=fun ρ=>(f ρ).bind λx=>(h ρ).bind λy=>g x y
theorem zh4 {r:R2}{g:D->D->Option D}{ta tb:TE}{f h:Ev->Option D}(hg:OpD r g)(ra:RE ta f)(rb:RE tb h):RE (tOp r ta tb) (zm g f h):=by
 intro σ ρ F H z Q s va e q
 obtain⟨x,e1,e⟩:=u3.mp e
 obtain⟨y,e2,e⟩:=u3.mp e
 refine ra σ ρ F H x _ s va e1 λF1 H1 v g1 a1=>?_
 refine rb σ ρ F1 H1 y _ g1.fh (va.mono g1.ff) e2 λF2 H2 u g2 a2=>?_
 exact hg F2 H2 v u x y z Q g2.fh (a1.mono g2.ff) a2 e λF3 H3 w g3 a3=>q F3 H3 w ((g1.trans g2).trans g3) a3
theorem zb4 {op:Operator}{r:R2}{g:D->D->Option D}{f h:Ev->Option D}(ho:OpR X (binaryOp op) r)(hg:OpD r g)(ha:ED X a f)(hb:ED X b h):ED X (.BinOp a op b pos) (zm g f h) :=
 let ⟨_,pa,ra⟩:=ha
 let ⟨_,pb,rb⟩:=hb
 ⟨_,zmt ho pa pb,zh4 hg ra rb⟩
theorem XO {op:CmpOp}{r:R2}{g:D->D->Option D}{f h:Ev->Option D}(ho:OpR X (compareOp op) r)(hg:OpD r g)(hm:behindInMarks op b=false)(ha:ED X a f)(hb:ED X b h):ED X (.Compare a [op] [b] pos) (zm g f h) :=
 let ⟨_,pa,ra⟩:=ha
 let ⟨_,pb,rb⟩:=hb
 ⟨_,zjM ho pa pb hm,zh4 hg ra rb⟩
def asB:D->Option Bool
 | .bl b=>some b
 | _=>none
theorem W7 {d:D}{b:Bool}(h:asB d=some b):d=.bl b:=by
 cases d <;> first | (cases h;rfl) | cases h
def tOf (f:Ev->Option D):Ev->Option Bool:=fun ρ=>(f ρ).bind asB
theorem zmF {t:TE}{f:Ev->Option D}(r:RE t f):RT (zmH t) (tOf f):=by
 intro σ ρ F H b Q s va e q
 obtain⟨x,e1,e⟩:=u3.mp e
 cases W7 e
 exact r σ ρ F H _ _ s va e1 λF1 H1 v g1 a1=>⟨b,a1.bl_inv,q F1 H1 g1⟩
theorem yb {op:CmpOp}{r:R2}{g:D->D->Option D}{f h:Ev->Option D}(ho:OpR X (compareOp op) r)(hg:OpD r g)(hm:behindInMarks op b=false)(ha:ED X a f)(hb:ED X b h):TD X (.Compare a [op] [b] pos) (tOf (zm g f h)) :=
 let ⟨_,pa,ra⟩:=ha
 let ⟨_,pb,rb⟩:=hb
 ⟨_,zkB ho pa pb hm,zmF (zh4 hg ra rb)⟩
theorem Yu {f:Ev->Option D}(ha:ED X a f)(he:∀ whole,isTrue a X.env whole=(do let v<-whole;standAt a.pos;holding [v] (truthy v)):=by intro _;rfl):TD X a (tOf f) :=
 let ⟨_,pa,ra⟩:=ha
 ⟨_,zlF pa he,zmF ra⟩
def Xm (f g:Ev->Option Bool):Ev->Option Bool:=fun ρ=>(f ρ).bind λc=>if c=true then g ρ else some false
def Wc (f g:Ev->Option Bool):Ev->Option Bool:=fun ρ=>(f ρ).bind λc=>if c=true then some true else g ρ
def xF (f:Ev->Option Bool):Ev->Option Bool:=fun ρ=>(f ρ).map (!·)
theorem zj3 {f:Ev->Option Bool}(ha:TD X a f):WD X (.BoolOp .And [a] pos) f:=let ⟨_,pa,ra⟩:=ha;⟨_,zjV pa,ra⟩
theorem WP {f:Ev->Option Bool}(ha:TD X a f):WD X (.BoolOp .Or [a] pos) f:=let ⟨_,pa,ra⟩:=ha;⟨_,zk7 pa,ra⟩
theorem zl0 {rest:List Expr}{f g:Ev->Option Bool}(ha:TD X a f)(hb:WD X (.BoolOp .And (b::rest) pos) g):WD X (.BoolOp .And (a::b::rest) pos) (Xm f g):=by
 obtain⟨ta,pa,ra⟩:=ha
 obtain⟨tb,pb,rb⟩:=hb
 refine⟨_,zk1 pa pb,fun σ ρ F H z Q s va e q=>?_⟩
 obtain⟨x,e1,e⟩:=u3.mp e
 refine ra σ ρ F H x _ s va e1 λF1 H1 g1=>?_
 cases x with
 | true =>
  rw[t5 rfl]at e ⊢
  exact rb σ ρ F1 H1 z Q g1.fh (va.mono g1.ff) e λF2 H2 g2=>q F2 H2 (g1.trans g2)
 | false =>
  rw[t6 u7]at e ⊢
  cases e
  exact q F1 H1 g1
theorem zaj {rest:List Expr}{f g:Ev->Option Bool}(ha:TD X a f)(hb:WD X (.BoolOp .Or (b::rest) pos) g):WD X (.BoolOp .Or (a::b::rest) pos) (Wc f g):=by
 obtain⟨ta,pa,ra⟩:=ha
 obtain⟨tb,pb,rb⟩:=hb
 refine⟨_,zm8 pa pb,fun σ ρ F H z Q s va e q=>?_⟩
 obtain⟨x,e1,e⟩:=u3.mp e
 refine ra σ ρ F H x _ s va e1 λF1 H1 g1=>?_
 cases x with
 | false =>
  rw[t6 u7]at e ⊢
  exact rb σ ρ F1 H1 z Q g1.fh (va.mono g1.ff) e λF2 H2 g2=>q F2 H2 (g1.trans g2)
 | true =>
  rw[t5 rfl]at e ⊢
  cases e
  exact q F1 H1 g1
theorem zio {f:Ev->Option Bool}(h:WD X a f):TD X a f:=let ⟨_,p,r⟩:=h;⟨_,p.pt,r⟩
theorem Yq {f:Ev->Option Bool}(ha:TD X a f):TD X (.UnaryOp .Not a pos) (xF f):=by
 obtain⟨ta,pa,ra⟩:=ha
 refine⟨_,zmc pa,fun σ ρ F H z Q s va e q=>?_⟩
 obtain⟨x,e1,rfl⟩:=u8.mp e
 exact ra σ ρ F H x _ s va e1 λF1 H1 g1=>q F1 H1 g1
def XZ (f g:Ev->Option D):Ev->Option D:=fun ρ=>((f ρ).bind asB).bind λc=>if c=true then g ρ else some (.bl false)
def eOr (f g:Ev->Option D):Ev->Option D:=fun ρ=>((f ρ).bind asB).bind λc=>if c=true then some (.bl true)else g ρ
def zcV (f:Ev->Option D):Ev->Option D:=fun ρ=>((f ρ).bind asB).map λc=>.bl (!c)
theorem XE {op}{f:Ev->Option D}(ha:ED X a f):ED X (.BoolOp op [a] pos) f:=let ⟨_,pa,ra⟩:=ha;⟨_,zk8 pa,ra⟩
theorem X6 {rest:List Expr}{f g:Ev->Option D}(ha:ED X a f)(hb:ED X (.BoolOp .And (b::rest) pos) g):ED X (.BoolOp .And (a::b::rest) pos) (XZ f g):=by
 obtain⟨ta,pa,ra⟩:=ha
 obtain⟨tb,pb,rb⟩:=hb
 refine⟨_,zk4 pa pb,fun σ ρ F H z Q s va e q=>?_⟩
 obtain⟨x,e1,e⟩:=u3.mp e
 obtain⟨y,e1,e2⟩:=u3.mp e1
 cases W7 e2
 refine ra σ ρ F H _ _ s va e1 λF1 H1 v g1 a1=>⟨x,a1.bl_inv,?_⟩
 cases x with
 | true =>
  rw[t5 rfl]at e ⊢
  exact rb σ ρ F1 H1 z Q g1.fh (va.mono g1.ff) e λF2 H2 w g2 a2=>q F2 H2 w (g1.trans g2) a2
 | false =>
  rw[t6 u7]at e ⊢
  cases e
  exact q F1 H1 _ g1 .bl
theorem zmv {f:Ev->Option D}(ha:ED X a f):ED X (.UnaryOp .Not a pos) (zcV f):=by
 obtain⟨ta,pa,ra⟩:=ha
 refine⟨_,zlx pa,fun σ ρ F H z Q s va e q=>?_⟩
 obtain⟨x,e1,rfl⟩:=u8.mp e
 obtain⟨y,e1,e2⟩:=u3.mp e1
 cases W7 e2
 exact ra σ ρ F H _ _ s va e1 λF1 H1 v g1 a1=>⟨x,a1.bl_inv,q F1 H1 _ g1 .bl⟩
def eIf (t:Ev->Option Bool)(f g:Ev->Option D):Ev->Option D:=fun ρ=>(t ρ).bind λc=>if c=true then f ρ else g ρ
theorem zjZ {t:Ev->Option Bool}{f g:Ev->Option D}(hc:TD X c t)(ha:ED X a f)(hb:ED X b g):ED X (.IfExp c a b pos) (eIf t f g):=by
 obtain⟨tc,pc,rc⟩:=hc
 obtain⟨ta,pa,ra⟩:=ha
 obtain⟨tb,pb,rb⟩:=hb
 refine⟨_,zhY pc pa pb,fun σ ρ F H z Q s va e q=>?_⟩
 obtain⟨x,e1,e⟩:=u3.mp e
 refine rc σ ρ F H x _ s va e1 λF1 H1 g1=>?_
 cases x with
 | true =>
  rw[t5 rfl]at e ⊢
  exact ra σ ρ F1 H1 z Q g1.fh (va.mono g1.ff) e λF2 H2 w g2 a2=>q F2 H2 w (g1.trans g2) a2
 | false =>
  rw[t6 u7]at e ⊢
  exact rb σ ρ F1 H1 z Q g1.fh (va.mono g1.ff) e λF2 H2 w g2 a2=>q F2 H2 w (g1.trans g2) a2
def eUn (g:D->Option D)(f:Ev->Option D):Ev->Option D:=fun ρ=>(f ρ).bind g
def V1:D->Option D
 | .int i=>some (.int (-i))
 | _=>none
theorem zaD {f:Ev->Option D}(ha:ED X a f):ED X (.UnaryOp .USub a pos) (eUn V1 f):=by
 obtain⟨ta,pa,ra⟩:=ha
 refine⟨_,zni zlD pa,fun σ ρ F H z Q s va e q=>?_⟩
 obtain⟨x,e1,e⟩:=u3.mp e
 cases x <;> try cases e
 exact ra σ ρ F H _ _ s va e1 λF1 H1 v g1 a1=>⟨_,a1.int_inv,q F1 H1 _ g1 .int⟩
def zq:Ev->Option (List D):=λ_=>some []
def zb (f:Ev->Option D)(g:Ev->Option (List D)):Ev->Option (List D):=fun ρ=>(f ρ).bind λd=>(g ρ).map (d::·)
theorem zd:AD X [] zq:=⟨_,zaB,λ_ _ _ _ _ _ s _ e q=>by cases e;exact q _ _ _ (.refl s) .nil⟩
theorem za {e:Expr}{es:List Expr}{f:Ev->Option D}{g:Ev->Option (List D)}(ha:ED X e f)(hr:AD X es g)(hs:starEach (e::es) X.env=(false,eval e X.env)::starEach es X.env:=by rfl):AD X (e::es) (zb f g):=by
 obtain⟨ta,pa,ra⟩:=ha
 obtain⟨tb,pb,rb⟩:=hr
 refine⟨_,Zm pa pb hs,fun σ ρ F H z Q s va e q=>?_⟩
 obtain⟨x,e1,e⟩:=u3.mp e
 obtain⟨ds,e2,rfl⟩:=u8.mp e
 refine ra σ ρ F H x _ s va e1 λF1 H1 v g1 a1=>?_
 exact rb σ ρ F1 H1 ds _ g1.fh (va.mono g1.ff) e2 λF2 H2 w g2 a2=>q F2 H2 _ (g1.trans g2) (.cons (a1.mono g2.ff) a2)
def lim (n:Nat):Bool:=decide (n<=sizeLine)
def Z1 (g:Ev->Option (List D)):Ev->Option D:=fun ρ=>(g ρ).bind λds=>if lim ds.length=true then some (.tup ds)else none
def yq (g:Ev->Option (List D)):Ev->Option (List D):=fun ρ=>(g ρ).bind λds=>if lim ds.length=true then some ds else none
theorem Y9 {es:List Expr}{x1}{g:Ev->Option (List D)}(h:AD X es g):ED X (.Tuple es x1 pos) (Z1 g):=by
 obtain⟨ta,pa,ra⟩:=h
 refine⟨_,zlh pa,fun σ ρ F H z Q s va e q=>?_⟩
 obtain⟨ds,e1,e⟩:=u3.mp e
 split at e <;> cases e
 rename_i hl
 refine ra σ ρ F H ds _ s va e1 λF1 H1 vs g1 a1=>⟨by rw[a1.length];exact o0 hl,λp hp=>?_⟩
 have g2:=Gr.alloc g1.fh hp (.tup vs)
 exact q _ _ _ (g1.trans g2) (.tup zx (a1.mono g2.ff))
theorem xV {es:List Expr}{g:Ev->Option (List D)}(h:AD X es g):FL X (.List es pos) (yq g):=by
 obtain⟨ta,pa,ra⟩:=h
 refine⟨_,zmN pa,fun σ ρ F H z Q s va e q=>?_⟩
 obtain⟨ds,e1,e⟩:=u3.mp e
 split at e <;> cases e
 rename_i hl
 refine ra σ ρ F H _ _ s va e1 λF1 H1 vs g1 a1=>⟨by rw[a1.length];exact o0 hl,λp hp=>?_⟩
 have g2:=Gr.hide g1.fh hp (.lst vs)
 have h0:H p=none:=by
  cases e:H p with
  | none=>rfl
  | some o =>
   cases e2:F p with
   | none=>rw[(g1.kp p o e2 e).2]at hp;cases hp
   | some u=>rw[g1.fh _ _ (g1.ff _ _ e2)]at hp;cases hp
 exact q _ _ _ _ (g1.trans g2) h0 (g1.fh.free hp) zx a1
end
end
end Dl
namespace Dl
open PySem L2
variable [KK]
inductive Sl where
 | no | v (d:D) | o (ds:List D) | m (t:Bool) (ks:List (List Key)) (vs:List D)
 deriving Inhabited
abbrev SE:=List Sl
def Sl.f:Sl->Option D
 | .v d=>some d
 | _=>none
def Sl.g:Sl->Option D
 | .v d=>some d
 | .o ds=>some (.lst ds)
 | .m t ks vs=>some (.dct false t ks vs)
 | .no=>none
def Sl.isO:Sl->Bool
 | .o _=>true
 | .m _ _ _=>true
 | _=>false
def visF (ρ:SE):Ev:=ρ.map Sl.f
def visG (ρ:SE):Ev:=ρ.map Sl.g
def zfd (F:Hp)(o:HO):Sl->Prop
 | .o ds=>∃ xs,o=.lst xs/\AtL F ds xs
 | .m t ks ds=>∃ xs,zmx o t ks xs/\AtL F ds xs
 | _=>False
theorem zfd.mono {F F':Hp}{o:HO}{s:Sl}(h:zfd F o s)(k:xj F F'):zfd F' o s:=by
 cases s with
 | no=>exact h
 | v d=>exact h
 | o ds=>obtain⟨xs,e,a⟩:=h;exact⟨xs,e,a.mono k⟩
 | m t ks ds=>obtain⟨xs,e,a⟩:=h;exact⟨xs,e,a.mono k⟩
theorem zfd.isO {F:Hp}{o:HO}{s:Sl}(h:zfd F o s):s.isO=true:=by
 cases s with
 | no=>exact h.elim
 | v d=>exact h.elim
 | o ds=>rfl
 | m t ks ds=>rfl
theorem zfd.ntup {F:Hp}{o:HO}{s:Sl}(h:zfd F o s)(xs:List V):o≠.tup xs:=by
 cases s with
 | no=>exact h.elim
 | v d=>exact h.elim
 | o ds=>obtain⟨ys,rfl,_⟩:=h;intro e;cases e
 | m t ks ds =>
  obtain⟨ys,e,_⟩:=h
  unfold zmx at e
  split at e
  .obtain⟨kvs,rfl,_⟩:=e;intro e;cases e
  .obtain⟨kvs,rfl,_⟩:=e;intro e;cases e
theorem zfd.at {F G:Hp}{o:HO}{s:Sl}{d:D}{p:Addr}(h:zfd F o s)(e:s.g=some d)(hp:G p=some o)(k:xj F G):At G d (.ref p):=by
 cases s with
 | no=>exact h.elim
 | v d=>exact h.elim
 | o ds =>
  cases e
  obtain⟨xs,rfl,a⟩:=h
  exact .lst hp (a.mono k)
 | m t ks ds =>
  cases e
  obtain⟨xs,e,a⟩:=h
  unfold At
  exact⟨p,xs,rfl,⟨o,e,hp⟩,a.mono k⟩
structure Rl (Fb Hb F H:Hp) (ρ:SE) (σ:St):Prop where
 gr:Gr Fb Hb F H
 vals:∀ (i:Nat) (d:D),ρ[i]?=some (.v d)->∃ v,σ[i]?=some (some v)/\At F d v
 ows:∀ (i:Nat) (s:Sl),ρ[i]?=some s->s.isO=true->∃ p o,σ[i]?=some (some (.ref p))/\Hb p=none/\F p=none/\H p=some o/\zfd F o s
 dis:∀ (i j:Nat) (p:Addr) (s t:Sl),ρ[i]?=some s->ρ[j]?=some t->s.isO=true->t.isO=true->σ[i]?=some (some (.ref p))->σ[j]?=some (some (.ref p))->i=j
 len:ρ.length=σ.length
section
variable {Fb Hb F H F' H':Hp}{ρ ρ':SE}{σ σ':St}
theorem Rl.owns (r:Rl Fb Hb F H ρ σ)(i:Nat)(ds:List D)(e:ρ[i]?=some (.o ds)):∃ p xs,σ[i]?=some (some (.ref p))/\Hb p=none/\F p=none/\H p=some (.lst xs)/\AtL F ds xs:=by
 obtain⟨p,o,e1,e2,e3,e4,xs,rfl,a⟩:=r.ows i _ e rfl
 exact⟨p,xs,e1,e2,e3,e4,a⟩
theorem Rl.grow (r:Rl Fb Hb F H ρ σ)(g:Gr F H F' H'):Rl Fb Hb F' H' ρ σ:=by
 refine⟨r.gr.trans g,λi d e=>?_,λi s e h=>?_,r.dis,r.len⟩
 .obtain⟨v,e1,a⟩:=r.vals i d e
  exact⟨v,e1,a.mono g.ff⟩
 .obtain⟨p,o,e1,e2,e3,e4,a⟩:=r.ows i s e h
  obtain⟨k1,k2⟩:=g.kl a.ntup e3 e4
  exact⟨p,o,e1,e2,k1,k2,a.mono g.ff⟩
theorem Rl.visF (r:Rl Fb Hb F H ρ σ):VAt F (visF ρ) σ:=λi d e=>by
 unfold Dl.visF at e
 rw[j5]at e
 cases h:ρ[i]? with
 | none=>rw[h]at e;cases e
 | some x =>
  rw[h]at e
  cases x with
  | no=>cases e
  | v d' =>
   cases e
   exact r.vals i d h
  | o ds=>cases e
  | m t ks ds=>cases e
def Own (ρ:SE)(σ:St)(p:Addr):Prop:=∃ (i:Nat) (s:Sl),ρ[i]?=some s/\s.isO=true/\σ[i]?=some (some (.ref p))
open Classical in
noncomputable def gOf (ρ:SE)(σ:St)(F H:Hp):Hp:=λp=>if Own ρ σ p then H p else F p
open Classical in
noncomputable def fOf (ρ:SE)(σ:St)(G:Hp):Hp:=λp=>if Own ρ σ p then none else G p
theorem Rl.own (r:Rl Fb Hb F H ρ σ){p:Addr}(h:Own ρ σ p):Hb p=none/\F p=none/\∃ o,H p=some o/\∀ xs,o≠.tup xs:=by
 obtain⟨i,s,e1,e2,e3⟩:=h
 obtain⟨q,o,e4,e5,e6,e7,a⟩:=r.ows i s e1 e2
 rw[e3]at e4
 cases e4
 exact⟨e5,e6,o,e7,a.ntup⟩
theorem Rl.notown (r:Rl Fb Hb F H ρ σ){q:Addr}(h:H q=none)(j:Nat)(s:Sl)(e1:ρ[j]?=some s)(e2:s.isO=true):σ[j]?≠some (some (.ref q)):=λe=>by
 obtain⟨p,o,f1,_,_,f4,_⟩:=r.ows j s e1 e2
 rw[e]at f1
 cases f1
 rw[h]at f4
 cases f4
theorem Rl.notbase (r:Rl Fb Hb F H ρ σ){q:Addr}(h:H q=none):Hb q=none:=by
 cases z:Hb q with
 | none=>rfl
 | some o =>
  cases z2:Fb q with
  | none=>rw[(r.gr.kp q o z2 z).2]at h;cases h
  | some u=>rw[r.gr.fh _ _ (r.gr.ff _ _ z2)]at h;cases h
theorem Rl.fg (r:Rl Fb Hb F H ρ σ):xj F (gOf ρ σ F H):=λp o e=>by
 unfold gOf
 split
 .exact r.gr.fh p o e
 .exact e
theorem Rl.gh (r:Rl Fb Hb F H ρ σ):xj (gOf ρ σ F H) H:=λp o e=>by
 unfold gOf at e
 split at e
 .exact e
 .exact r.gr.fh p o e
theorem Rl.visG (r:Rl Fb Hb F H ρ σ):VAt (gOf ρ σ F H) (visG ρ) σ:=λi d e=>by
 unfold Dl.visG at e
 rw[j5]at e
 cases h:ρ[i]? with
 | none=>rw[h]at e;cases e
 | some x =>
  rw[h]at e
  have e:x.g=some d:=u0j e
  have own:x.isO=true->∃ v,σ[i]?=some (some v)/\At (gOf ρ σ F H) d v:=λhx=>by
   obtain⟨p,o,e1,e2,e3,e4,a⟩:=r.ows i x h hx
   refine⟨_,e1,a.at e ?_ r.fg⟩
   unfold gOf
   rw[t5 ⟨i,x,h,hx,e1⟩]
   exact e4
  cases x with
  | no=>cases e
  | v d' =>
   cases e
   obtain⟨v,e1,a⟩:=r.vals i d h
   exact⟨v,e1,a.mono r.fg⟩
  | o ds=>exact own rfl
  | m t ks ds=>exact own rfl
theorem Rl.back {G':Hp}(r:Rl Fb Hb F H ρ σ)(g:Gr (gOf ρ σ F H) H G' H'):Gr F H (fOf ρ σ G') H'/\∀ q xs,G' q=some (.tup xs)->fOf ρ σ G' q=some (.tup xs):=by
 refine⟨⟨λp o e=>?_,λp o e=>?_,λp o e1 e2=>?_⟩,λq xs e=>?_⟩
 .unfold fOf
  rw[t6 (λh=>by rw[(r.own h).2.1]at e;cases e)]
  exact g.ff p o (r.fg p o e)
 .unfold fOf at e
  split at e
  .cases e
  .exact g.fh p o e
 .by_cases h:Own ρ σ p
  .refine⟨.inl (by unfold fOf;rw[t5 h]),g.fh p o (g.ff p o ?_)⟩
   unfold gOf
   rw[t5 h]
   exact e2
  .obtain⟨x,y⟩:=g.kp p o (by unfold gOf;rw[t6 h];exact e1) e2
   refine⟨?_,y⟩
   unfold Hid fOf
   rw[t6 h]
   exact x
 .unfold fOf
  rw[t6 (λh=>?_)]
  .exact e
  .obtain⟨_,_,o,e2,n⟩:=r.own h
   have:G' q=some o:=g.ff q _ (by unfold gOf;rw[t5 h];exact e2)
   rw[this]at e
   cases e
   exact n xs rfl
theorem Rl.out {G':Hp}(r:Rl Fb Hb F H ρ σ)(g:Gr (gOf ρ σ F H) H G' H'):Gr Fb Hb G' H':=by
 refine⟨λp o e=>g.ff p o (r.fg p o (r.gr.ff p o e)),g.fh,λp o e1 e2=>?_⟩
 obtain⟨k1,k2⟩:=r.gr.kp p o e1 e2
 have e3:gOf ρ σ F H p=F p:=by
  unfold gOf
  rw[t6 (λh=>by rw[(r.own h).1]at e2;cases e2)]
 rcases k1 with k1 | ⟨k1,k3⟩
 .exact g.kp p o (by rw[e3];exact k1) k2
 .have:=g.ff p o (by rw[e3];exact k3)
  exact⟨.inr ⟨k1,this⟩,g.fh _ _ this⟩
theorem Rl.set (r:Rl Fb Hb F H ρ σ){i:Nat}{d:D}{v:V}(a:At F d v):Rl Fb Hb F H (ρ.set i (.v d)) (σ.set i (some v)):=by
 have nj:∀ {j:Nat} {s:Sl},(ρ.set i (.v d))[j]?=some s->s.isO=true->i≠j:=λ{j s} h ho e=>by
  subst e
  rw[u0G]at h
  simp only[u2z]at h
  split at h <;> cases h
  cases ho
 refine⟨r.gr,λj e h=>?_,λj s h ho=>?_,λj k p s t h1 h2 o1 o2 h3 h4=>?_,by simp[r.len]⟩
 .by_cases hj:i=j
  .subst hj
   rw[u0G]at h
   simp only[u2z]at h
   split at h
   .rename_i hl
    cases h
    refine⟨v,?_,a⟩
    rw[u0G]
    simp[<-r.len,hl]
   .cases h
  .rw[d8 hj]at h ⊢
   exact r.vals j e h
 .have hj:=nj h ho
  rw[d8 hj]at h ⊢
  exact r.ows j s h ho
 .have a1:=nj h1 o1
  have a2:=nj h2 o2
  rw[d8 a1]at h1 h3
  rw[d8 a2]at h2 h4
  exact r.dis j k p s t h1 h2 o1 o2 h3 h4
theorem Rl.setW (r:Rl Fb Hb F H ρ σ){i:Nat}{w:Sl}{p:Addr}{o:HO}(h0:Hb p=none)(hF:F p=none)(hH:H p=some o)(a:zfd F o w)
 (nw:∀ (j:Nat) (s:Sl),ρ[j]?=some s->s.isO=true->σ[j]?≠some (some (.ref p))):Rl Fb Hb F H (ρ.set i w) (σ.set i (some (.ref p))):=by
 have at_i:∀ {s:Sl},(ρ.set i w)[i]?=some s->i < ρ.length/\s=w:=λ{s} h=>by
  rw[u0G]at h
  simp only[u2z]at h
  split at h
  .rename_i hl
   cases h
   exact⟨hl,rfl⟩
  .cases h
 have st_i:i < ρ.length->(σ.set i (some (V.ref p)))[i]?=some (some (.ref p)):=λhl=>by
  rw[u0G]
  simp[<-r.len,hl]
 refine⟨r.gr,λj e h=>?_,λj s h ho=>?_,λj k q s t h1 h2 o1 o2 h3 h4=>?_,by simp[r.len]⟩
 .by_cases hj:i=j
  .subst hj
   have e:=(at_i h).2
   have:=a.isO
   rw[<-e]at this
   cases this
  .rw[d8 hj]at h ⊢
   exact r.vals j e h
 .by_cases hj:i=j
  .subst hj
   obtain⟨hl,e⟩:=at_i h
   subst e
   exact⟨p,o,st_i hl,h0,hF,hH,a⟩
  .rw[d8 hj]at h ⊢
   exact r.ows j s h ho
 .by_cases hj:i=j
  .subst hj
   by_cases hk:i=k
   .exact hk
   .obtain⟨hl,_⟩:=at_i h1
    rw[st_i hl]at h3
    cases h3
    rw[d8 hk]at h2 h4
    exact absurd h4 (nw k t h2 o2)
  .by_cases hk:i=k
   .subst hk
    obtain⟨hl,_⟩:=at_i h2
    rw[st_i hl]at h4
    cases h4
    rw[d8 hj]at h1 h3
    exact absurd h3 (nw j s h1 o1)
   .rw[d8 hj]at h1 h3
    rw[d8 hk]at h2 h4
    exact r.dis j k q s t h1 h2 o1 o2 h3 h4
theorem Rl.setO (r:Rl Fb Hb F H ρ σ){i:Nat}{ds:List D}{p:Addr}{xs:List V}(h0:Hb p=none)(hF:F p=none)(hH:H p=some (.lst xs))(a:AtL F ds xs)
 (nw:∀ (j:Nat) (s:Sl),ρ[j]?=some s->s.isO=true->σ[j]?≠some (some (.ref p))):Rl Fb Hb F H (ρ.set i (.o ds)) (σ.set i (some (.ref p))):=r.setW h0 hF hH ⟨xs,rfl,a⟩ nw
theorem Rl.mutW (r:Rl Fb Hb F H ρ σ){i:Nat}{w w':Sl}{p:Addr}{o':HO}(e:ρ[i]?=some w)(hw:w.isO=true)(e1:σ[i]?=some (some (.ref p)))(a:zfd F o' w'):Rl Fb Hb F (upd H p o') (ρ.set i w') σ:=by
 obtain⟨q,o,e2,h0,hF,hH,_⟩:=r.ows i w e hw
 rw[e1]at e2
 cases e2
 have hi:i < ρ.length:=(t8.mp e).1
 have neP:∀ {j:Nat} {s:Sl} {q:Addr},i≠j->ρ[j]?=some s->s.isO=true->σ[j]?=some (some (.ref q))->q≠p:=λ{j s q} hne h1 ho h2 z=>by
  subst z
  exact hne (r.dis i j q w s e h1 hw ho e1 h2)
 refine⟨⟨r.gr.ff,λb o z=>?_,λb o z1 z2=>?_⟩,λj d h=>?_,λj s h ho=>?_,λj k q s t h1 h2 o1 o2 h3 h4=>?_,by simp[r.len]⟩
 .rw[zw (zn z hF)]
  exact r.gr.fh b o z
 .rw[zw (zn z2 h0)]
  exact r.gr.kp b o z1 z2
 .by_cases hj:i=j
  .subst hj
   rw[u0B hi]at h
   cases h
   exact(Bool.noConfusion a.isO)
  .rw[d8 hj]at h
   exact r.vals j d h
 .by_cases hj:i=j
  .subst hj
   rw[u0B hi]at h
   cases h
   exact⟨p,o',e1,h0,hF,zx,a⟩
  .rw[d8 hj]at h
   obtain⟨q,z,f1,f2,f3,f4,f5⟩:=r.ows j s h ho
   refine⟨q,z,f1,f2,f3,?_,f5⟩
   rw[zw (neP hj h ho f1)]
   exact f4
 .have back:∀ {j:Nat} {s:Sl},(ρ.set i w')[j]?=some s->s.isO=true->∃ s',ρ[j]?=some s'/\s'.isO=true:=λ{j s} h ho=>by
   by_cases hj:i=j
   .subst hj;exact⟨w,e,hw⟩
   .rw[d8 hj]at h;exact⟨s,h,ho⟩
  obtain⟨f1,g1,g1'⟩:=back h1 o1
  obtain⟨f2,g2,g2'⟩:=back h2 o2
  exact r.dis j k q f1 f2 g1 g2 g1' g2' h3 h4
theorem Rl.mutate (r:Rl Fb Hb F H ρ σ){i:Nat}{ds es:List D}{p:Addr}{ys:List V}(e:ρ[i]?=some (.o ds))(e1:σ[i]?=some (some (.ref p)))(a:AtL F es ys):Rl Fb Hb F (upd H p (.lst ys)) (ρ.set i (.o es)) σ :=
 r.mutW e rfl e1 ⟨ys,rfl,a⟩
def Sl.fz:Sl->Sl
 | .o ds=>.v (.lst ds)
 | .m t ks vs=>.v (.dct false t ks vs)
 | s=>s
def zmZ (ρ:SE)(i:Nat):SE:=ρ.set i ((ρ[i]?).getD .no).fz
theorem Rl.freeze (r:Rl Fb Hb F H ρ σ)(i:Nat):∃ F',Rl Fb Hb F' H (zmZ ρ i) σ:=by
 unfold zmZ
 cases h:ρ[i]? with
 | none =>
  refine⟨F,?_⟩
  rw[List.set_eq_of_length_le (List.getElem?_eq_none_iff.mp h)]
  exact r
 | some s =>
  have hi:i < ρ.length:=(t8.mp h).1
  have same:s.fz=s->∃ F',Rl Fb Hb F' H (ρ.set i ((some s).getD .no).fz) σ:=λe=>by
   refine⟨F,?_⟩
   show Rl Fb Hb F H (ρ.set i s.fz) σ
   rw[e]
   have:ρ.set i s=ρ:=by
    apply u2S
    intro j
    by_cases hj:i=j
    .subst hj;rw[u0B hi,h]
    .rw[d8 hj]
   rw[this]
   exact r
  have give:∀ d,s.isO=true->s.g=some d->s.fz=.v d->∃ F',Rl Fb Hb F' H (ρ.set i ((some s).getD .no).fz) σ:=λd ho hg hz=>by
   obtain⟨p,o,e1,e2,e3,e4,a⟩:=r.ows i s h ho
   have sF:xj F (upd F p o):=λb u e=>by rw[zw (zn e e3)];exact e
   show ∃ F',Rl Fb Hb F' H (ρ.set i s.fz) σ
   rw[hz]
   have nj:∀ {j:Nat} {t:Sl},(ρ.set i (.v d))[j]?=some t->t.isO=true->i≠j:=λ{j t} h ht e=>by
    subst e
    rw[u0B hi]at h
    cases h
    cases ht
   refine⟨upd F p o,r.gr.show e2 e3 e4,λj e z=>?_,λj t z ht=>?_,λj k q t u h1 h2 o1 o2 h3 h4=>?_,by simp[r.len]⟩
   .by_cases hj:i=j
    .subst hj
     rw[u0B hi]at z
     cases z
     exact⟨_,e1,a.at hg zx sF⟩
    .rw[d8 hj]at z
     obtain⟨v,f1,f2⟩:=r.vals j e z
     exact⟨v,f1,f2.mono sF⟩
   .have hj:=nj z ht
    rw[d8 hj]at z
    obtain⟨q,y,f1,f2,f3,f4,f5⟩:=r.ows j t z ht
    refine⟨q,y,f1,f2,?_,f4,f5.mono sF⟩
    rw[zw (λw=>hj (r.dis i j p s t h z ho ht e1 (by rw[<-w];exact f1)))]
    exact f3
   .have a1:=nj h1 o1
    have a2:=nj h2 o2
    rw[d8 a1]at h1
    rw[d8 a2]at h2
    exact r.dis j k q t u h1 h2 o1 o2 h3 h4
  cases s with
  | no=>exact same rfl
  | v d=>exact same rfl
  | o ds=>exact give _ rfl rfl rfl
  | m t ks ds=>exact give _ rfl rfl rfl
end
inductive Ctl where
 | nx (ρ:SE) | rt (d:D) | bk (ρ:SE) | ct (ρ:SE) | no
 deriving Inhabited
def SOk (Fb Hb:Hp)(E:zgO):Ctl->Prop
 | .nx ρ=>∀ F H σ,Rl Fb Hb F H ρ σ->E.nx σ H
 | .bk ρ=>∀ F H σ,Rl Fb Hb F H ρ σ->E.bk σ H
 | .ct ρ=>∀ F H σ,Rl Fb Hb F H ρ σ->E.ct σ H
 | .rt d=>∀ F H v,Gr Fb Hb F H->At F d v->E.rt v H
 | .no=>False
def RS (t:TS)(g:SE->Ctl):Prop:=∀ (Fb Hb F H:Hp) (ρ:SE) (σ:St) (E:zgO),Rl Fb Hb F H ρ σ->SOk Fb Hb E (g ρ)->t E σ H
def SD (X:Cx)(st:Stmt)(g:SE->Ctl):Prop:=∃ t,PS X st t/\RS t g
def SDs (X:Cx)(sts:List Stmt)(g:SE->Ctl):Prop:=∃ t,PSs X sts t/\RS t g
section
variable {X:Cx}{st:Stmt}{sts:List Stmt}{a b c e:Expr}{pos pos':Pos}
def yk:SE->Ctl:=.nx
def zI (g h:SE->Ctl):SE->Ctl:=fun ρ=>match g ρ with
 | .nx ρ'=>h ρ'
 | .rt d=>.rt d
 | .bk ρ'=>.bk ρ'
 | .ct ρ'=>.ct ρ'
 | .no=>.no
theorem zU:SDs X [] yk:=⟨_,zjQ,λ_ _ F H ρ σ E r h=>h F H σ r⟩
theorem ze {g h:SE->Ctl}(h1:SD X st g)(h2:SDs X sts h):SDs X (st::sts) (zI g h):=by
 obtain⟨t,p,r⟩:=h1
 obtain⟨u,p2,r2⟩:=h2
 refine⟨_,zd3 p p2,λFb Hb F H ρ σ E rl k=>?_⟩
 refine r Fb Hb F H ρ σ { E with nx:=u E } rl ?_
 unfold zI at k
 cases e:g ρ with
 | nx ρ' =>
  rw[e]at k
  exact λF' H' σ' rl'=>r2 Fb Hb F' H' ρ' σ' E rl' k
 | rt d=>rw[e]at k;exact k
 | bk d=>rw[e]at k;exact k
 | ct d=>rw[e]at k;exact k
 | no=>rw[e]at k;exact k
theorem zj {g:SE->Ctl}(h1:SD X st g):SDs X [st] g:=let ⟨_,p,r⟩:=h1;⟨_,zf0 p,r⟩
def sFz (i:Nat)(g:SE->Ctl):SE->Ctl:=fun ρ=>g (zmZ ρ i)
theorem vO {g:SE->Ctl}(i:Nat)(h:SDs X sts g):SDs X sts (sFz i g):=by
 obtain⟨t,p,r⟩:=h
 refine⟨_,p,λFb Hb F H ρ σ E rl k=>?_⟩
 obtain⟨F',rl'⟩:=rl.freeze i
 exact r Fb Hb F' H _ σ E rl' k
def sNo:SE->Ctl:=λ_=>.no
theorem XH:SD X st sNo:=⟨_,zib,λ_ _ _ _ _ _ _ _ h=>h.elim⟩
def yO (f:Ev->Option D):SE->Ctl:=fun ρ=>match f (visG ρ) with
 | some d=>.rt d
 | none=>.no
theorem zB {f:Ev->Option D}(h:ED X e f):SD X (.Return (some e) pos) (yO f):=by
 obtain⟨t,p,r⟩:=h
 refine⟨_,zjm p,λFb Hb F H ρ σ E rl k=>?_⟩
 unfold yO at k
 cases h:f (visG ρ) with
 | none=>rw[h]at k;exact k.elim
 | some d =>
  rw[h]at k
  exact r σ _ _ H d _ rl.gh rl.visG h λF' H' v g av=>k F' H' v (rl.out g) av
def WB:SE->Ctl:=λ_=>.rt .non
def vEv (m:Bool)(f:Ev->Option D)(ρ:SE):Option D:=if m=true then (f (visG ρ)).bind λd=>if noL d=true then some d else none else f (visF ρ)
theorem RE.at {Fb Hb F H:Hp}{ρ:SE}{σ:St}{m:Bool}{f:Ev->Option D}{t:TE}{d:D}{Q:VK}(r:RE t f)(rl:Rl Fb Hb F H ρ σ)(h:vEv m f ρ=some d)(q:∀ F' H' v,Gr F H F' H'->At F' d v->Q v H'):t σ H Q:=by
 unfold vEv at h
 cases m with
 | false =>
  rw[t6 u7]at h
  exact r σ _ _ H d _ rl.gr.fh rl.visF h q
 | true =>
  rw[t5 rfl]at h
  obtain⟨d',h1,h2⟩:=u3.mp h
  split at h2 <;> cases h2
  rename_i hn
  refine r σ _ _ H d _ rl.gh rl.visG h1 λF' H' v g av=>?_
  obtain⟨g2,fl⟩:=rl.back g
  exact q _ H' v g2 (av.flat fl hn)
def y9 (m:Bool)(i:Nat)(f:Ev->Option D):SE->Ctl:=fun ρ=>match vEv m f ρ with
 | some d=>.nx (ρ.set i (.v d))
 | none=>.no
theorem zJ {m:Bool}{i:Nat}{x:Str}{f:Ev->Option D}(hN:X.N.Nodup)(hi:X.N[i]?=some x)(hx:Loc X.env.scope x)(he:ED X e f)(hs:swapsWith e (some (.Name x pos')) pos.line X.env=pure false:=by rfl)
 (hf:X.fn x=true\/X.env.scope.names.lookup x=some .local:=by first | exact .inl rfl | exact .inr rfl | assumption):SD X (.Assign [.Name x pos'] e pos) (y9 m i f):=by
 obtain⟨t,p,r⟩:=he
 refine⟨_,zi5 hN hi hx p hs hf,λFb Hb F H ρ σ E rl k=>?_⟩
 unfold y9 at k
 cases h:vEv m f ρ with
 | none=>rw[h]at k;exact k.elim
 | some d =>
  rw[h]at k
  exact r.at rl h λF' H' v g av=>k F' H' _ ((rl.grow g).set av)
def XL (f:Ev->Option D):SE->Ctl:=fun ρ=>match f (visG ρ) with
 | some _=>.nx ρ
 | none=>.no
theorem wH {f:Ev->Option D}(he:ED X e f)(hs:swapsWith e none pos.line X.env=pure false:=by rfl):SD X (.Expr e pos) (XL f):=by
 obtain⟨t,p,r⟩:=he
 refine⟨_,zbg p hs,λFb Hb F H ρ σ E rl k=>?_⟩
 unfold XL at k
 cases h:f (visG ρ) with
 | none=>rw[h]at k;exact k.elim
 | some d =>
  rw[h]at k
  exact r σ _ _ H d _ rl.gh rl.visG h λF' H' v g av=>k _ H' σ (rl.grow (rl.back g).1)
def Zc (i:Nat)(f:Ev->Option (List D)):SE->Ctl:=fun ρ=>match f (visF ρ) with
 | some ds=>.nx (ρ.set i (.o ds))
 | none=>.no
theorem vg {i:Nat}{x:Str}{f:Ev->Option (List D)}(hN:X.N.Nodup)(hi:X.N[i]?=some x)(hx:Loc X.env.scope x)(he:FL X e f)(hs:swapsWith e (some (.Name x pos')) pos.line X.env=pure false:=by rfl)
 (hf:X.fn x=true\/X.env.scope.names.lookup x=some .local:=by first | exact .inl rfl | exact .inr rfl | assumption):SD X (.Assign [.Name x pos'] e pos) (Zc i f):=by
 obtain⟨t,p,r⟩:=he
 refine⟨_,zi5 hN hi hx p hs hf,λFb Hb F H ρ σ E rl k=>?_⟩
 unfold Zc at k
 cases h:f (visF ρ) with
 | none=>rw[h]at k;exact k.elim
 | some ds =>
  rw[h]at k
  refine r σ _ _ H ds _ rl.gr.fh rl.visF h λF' H' q xs g h0 hF hH hx=>?_
  have rl2:=rl.grow g
  exact k F' H' _ (rl2.setO (rl.notbase h0) hF hH hx (rl.notown h0))
def sIf (t:Ev->Option Bool)(g h:SE->Ctl):SE->Ctl:=fun ρ=>match t (visG ρ) with
 | some true=>g ρ
 | some false=>h ρ
 | none=>.no
theorem wx {as bs:List Stmt}{t:Ev->Option Bool}{g h:SE->Ctl}(hc:TD X c t)(ha:SDs X as g)(hb:SDs X bs h):SD X (.If c as bs pos) (sIf t g h):=by
 obtain⟨tc,pc,rc⟩:=hc
 obtain⟨ta,pa,ra⟩:=ha
 obtain⟨tb,pb,rb⟩:=hb
 refine⟨_,znl pc pa pb,λFb Hb F H ρ σ E rl k=>?_⟩
 unfold sIf at k
 cases h:t (visG ρ) with
 | none=>rw[h]at k;exact k.elim
 | some d =>
  rw[h]at k
  refine rc σ _ _ H d _ rl.gh rl.visG h λF' H' g=>?_
  have rl2:=rl.grow (rl.back g).1
  cases d with
  | true=>rw[t5 rfl];exact ra Fb Hb _ H' ρ σ E rl2 k
  | false=>rw[t6 u7];exact rb Fb Hb _ H' ρ σ E rl2 k
def Xf (t:Ev->Option Bool)(g:SE->Ctl):Nat->SE->Ctl
 | 0,_=>.no
 | n+1,ρ=>match t (visG ρ) with
  | some true=>match g ρ with
   | .nx ρ'=>Xf t g n ρ'
   | .ct ρ'=>Xf t g n ρ'
   | .bk ρ'=>.nx ρ'
   | .rt d=>.rt d
   | .no=>.no
  | some false=>.nx ρ
  | none=>.no
theorem zdw {as:List Stmt}{t:Ev->Option Bool}{g:SE->Ctl}(n:Nat)(hp:PassesOwn (model X.prog X.w) X.A X.env X.xe)(hc:TD X c t)(ha:SDs X as g):SD X (.While c as [] pos) (Xf t g n):=by
 obtain⟨tc,pc,rc⟩:=hc
 obtain⟨ta,pa,ra⟩:=ha
 refine⟨_,zhy hp pc pa,λFb Hb F H ρ σ E rl k=>?_⟩
 refine⟨λm σ H=>∃ F ρ,Rl Fb Hb F H ρ σ/\SOk Fb Hb E (Xf t g m ρ),⟨n,F,ρ,rl,k⟩,?_⟩
 rintro m σ H ⟨F,ρ,rl,k⟩
 cases m with
 | zero=>exact k.elim
 | succ m =>
  unfold Xf at k
  cases h:t (visG ρ) with
  | none=>rw[h]at k;exact k.elim
  | some d =>
   rw[h]at k
   refine rc σ _ _ H d _ rl.gh rl.visG h λF' H' gr=>?_
   have rl2:=rl.grow (rl.back gr).1
   cases d with
   | false=>rw[t6 u7];exact k _ H' σ rl2
   | true =>
    rw[t5 rfl]
    refine⟨fun σ H=>∃ F ρ,Rl Fb Hb F H ρ σ/\SOk Fb Hb E (Xf t g m ρ),fun σ' H' w=>⟨m,u24 m,w⟩,?_⟩
    refine ra Fb Hb _ H' ρ σ _ rl2 ?_
    dsimp only at k
    cases hg:g ρ with
    | nx ρ'=>rw[hg]at k;exact λF2 H2 σ2 r2=>⟨F2,ρ',r2,k⟩
    | ct ρ'=>rw[hg]at k;exact λF2 H2 σ2 r2=>⟨F2,ρ',r2,k⟩
    | bk ρ'=>rw[hg]at k;exact k
    | rt d=>rw[hg]at k;exact k
    | no=>rw[hg]at k;exact k.elim
def RG (t:TG)(b:D->SE->Option SE):Prop:=∀ (Fb Hb F H:Hp) (ρ ρ':SE) (σ:St) (d:D) (v:V) (Q:St->Hp->Prop),Rl Fb Hb F H ρ σ->At F d v->b d ρ=some ρ'->(∀ σ',Rl Fb Hb F H ρ' σ'->Q σ' H)->t v σ H Q
def RGs (t:TGs)(b:List D->SE->Option SE):Prop:=∀ (Fb Hb F H:Hp) (ρ ρ':SE) (σ:St) (ds:List D) (vs:List V) (Q:St->Hp->Prop),Rl Fb Hb F H ρ σ->AtL F ds vs->b ds ρ=some ρ'->(∀ σ',Rl Fb Hb F H ρ' σ'->Q σ' H)->t vs σ H Q
def BD (X:Cx)(tg:Expr)(b:D->SE->Option SE):Prop:=∃ t,PG X tg t/\RG t b
def BDs (X:Cx)(tgs:List Expr)(b:List D->SE->Option SE):Prop:=∃ t,PGs X tgs t/\RGs t b
def yw (i:Nat):D->SE->Option SE:=λd ρ=>some (ρ.set i (.v d))
theorem zS {i:Nat}(h:PG X a (X2 i)):BD X a (yw i):=by
 refine⟨_,h,λFb Hb F H ρ ρ' σ d v Q rl av e q=>?_⟩
 cases e
 exact q _ (rl.set av)
def zbF:List D->SE->Option SE
 | [],ρ=>some ρ
 | _,_=>none
def vI (b:D->SE->Option SE)(c:List D->SE->Option SE):List D->SE->Option SE
 | d::ds,ρ=>(b d ρ).bind (c ds)
 | [],_=>none
theorem zaH:BDs X [] zbF:=by
 refine⟨_,zc8,λFb Hb F H ρ ρ' σ ds vs Q rl av e q=>?_⟩
 cases ds with
 | nil=>cases e;exact⟨av.nil_inv,q _ rl⟩
 | cons _ _=>cases e
theorem vL {es:List Expr}{b:D->SE->Option SE}{c:List D->SE->Option SE}(h1:BD X e b)(h2:BDs X es c)
 (hs:(assignEach (e::es) X.env).map (·.2)=assign e X.env::(assignEach es X.env).map (·.2):=by rfl):BDs X (e::es) (vI b c):=by
 obtain⟨t,p,r⟩:=h1
 obtain⟨u,p2,r2⟩:=h2
 refine⟨_,X8 p p2 hs,λFb Hb F H ρ ρ' σ ds vs Q rl av e q=>?_⟩
 cases ds with
 | nil=>cases e
 | cons d ds =>
  obtain⟨x,xs,rfl,a1,a2⟩:=av.cons_inv
  obtain⟨ρ1,e1,e2⟩:=u3.mp e
  exact⟨x,xs,rfl,r Fb Hb F H ρ ρ1 σ d x _ rl a1 e1 fun σ1 rl1=>r2 Fb Hb F H ρ1 ρ' σ1 ds xs Q rl1 a2 e2 q⟩
def za5 (n:Nat)(c:List D->SE->Option SE):D->SE->Option SE
 | .tup ds,ρ=>if ds.length=n then c ds ρ else none
 | _,_=>none
theorem zej {es:List Expr}{k:Nat}{n:Nat}{c:List D->SE->Option SE}(hc:X.calm=true)(h:BDs X es c)
 (hn:(assignEach es X.env).length=n:=by rfl) (hst:(assignEach es X.env).findIdx? (·.1)=none:=by rfl):BD X (.Tuple es k pos) (za5 n c):=by
 obtain⟨t,p,r⟩:=h
 refine⟨_,zga hc p hn hst,λFb Hb F H ρ ρ' σ d v Q rl av e q=>?_⟩
 cases d with
 | tup ds =>
  unfold za5 at e
  dsimp only at e
  split at e
  .rename_i hl
   obtain⟨a,xs,rfl,hx,al⟩:=av.tup_inv
   exact⟨a,xs,rfl,SqT.of (rl.gr.fh _ _ hx),by rw[al.length];exact hl,r Fb Hb F H ρ ρ' σ ds xs Q rl al e q⟩
  .cases e
 | _=>cases e
def zep (m:Bool)(f:Ev->Option D)(b:D->SE->Option SE):SE->Ctl:=fun ρ=>match (vEv m f ρ).bind λd=>b d ρ with
 | some ρ'=>.nx ρ'
 | none=>.no
def Wd (m:Bool)(i:Nat)(fk fe:Ev->Option D):SE->Ctl:=fun ρ=>match (vEv m fe ρ).bind λd=>(fk (visG ρ)).bind λk=>match ρ[i]?,k with
 | some (.o ds),.int k=>(ixN ds.length k).map λj=>ρ.set i (.o (ds.set j d))
 | _,_=>none with
 | some ρ'=>.nx ρ'
 | none=>.no
theorem XF {m:Bool}{i:Nat}{ko:Expr}{fk fe:Ev->Option D}(he:ED X e fe)(ho:PE X a (zhK i))(hk:ED X ko fk)(hs:swapsWithSole [.Subscript a ko pos'] e pos.line X.env=pure false:=by rfl)(hw:swappedStores [.Subscript a ko pos'] e X.env=pure none:=by rfl)
 (h1:(assignEach [.Subscript a ko pos'] X.env).map (·.2)=[assign (.Subscript a ko pos') X.env]:=by rfl)
 (ha:∀ v,assign (.Subscript a ko pos') X.env v=(do
  let ov<-holding [v] (eval a X.env)
  let iv<-holding [v,ov] (eval ko X.env)
  standAt pos'
  holding [v,ov,iv] (setItem ov iv v)
  release [v,ov,iv] []):=by intro _;rfl):SD X (.Assign [.Subscript a ko pos'] e pos) (Wd m i fk fe):=by
 obtain⟨t,p,r⟩:=he
 obtain⟨tk,pk,rk⟩:=hk
 refine⟨_,zlz p (zlY ho pk zdN ha) hs hw h1,λFb Hb F H ρ σ E rl k=>?_⟩
 unfold Wd at k
 cases h:(vEv m fe ρ).bind λd=>(fk (visG ρ)).bind λk=>match ρ[i]?,k with
  | some (.o ds),.int k=>(ixN ds.length k).map λj=>ρ.set i (.o (ds.set j d))
  | _,_=>none with
 | none=>rw[h]at k;exact k.elim
 | some ρ' =>
  rw[h]at k
  obtain⟨d,e1,e2⟩:=u3.mp h
  obtain⟨kd,e3,e2⟩:=u3.mp e2
  cases hs:ρ[i]? with
  | none=>rw[hs]at e2;cases e2
  | some sl =>
   rw[hs]at e2
   cases sl with
   | no=>cases e2
   | v _=>cases e2
   | m _ _ _=>cases e2
   | o ds =>
    cases kd with
    | int kk =>
     obtain⟨j,e4,rfl⟩:=u8.mp e2
     refine r.at rl e1 λF' H' v g av=>?_
     have rl2:=rl.grow g
     obtain⟨q,xs,f1,_⟩:=rl2.owns i ds hs
     refine⟨_,f1,?_⟩
     refine rk σ _ _ H' _ _ rl2.gh rl2.visG e3 λF3 H3 v3 g3 av3=>?_
     obtain⟨gb,_⟩:=rl2.back g3
     have rl3:=rl2.grow gb
     obtain⟨q3,xs3,f1',_,_,f4,f5⟩:=rl3.owns i ds hs
     rw[f1]at f1'
     cases f1'
     refine⟨q,xs3,kk,j,rfl,av3.int_inv,f4,by rw[f5.length];exact e4,?_⟩
     exact k _ _ σ (rl3.mutate hs f1 (f5.set j (av.mono gb.ff)))
    | _=>cases e2
end
end Dl
namespace L2
open PySem PySem.Spec PyProof.Rows
section
variable {X:Cx}{tg:Expr}
def iSeq (K:W.Frag)(tl:TE):TI:=fun σ H R=>tl σ H λx H1=>(∃ a,x=.ref a/\(∃ xs,SqL K H1 a xs)/\R (Itl K a) H1)\/(∃ a,x=.ref a/\(∃ xs,SqT K H1 a xs)/\R (Itt K a) H1)
theorem zmD {l:Expr}{tl:TE}(hl:PE X l tl):PI X tg l (iSeq X.K tl):=by
 intro pins s σ H R I h
 refine thn (hl pins s σ H _ I h) λv s1 hh9=>?_
 obtain⟨x,H1,I1,r1,q1⟩:=hh9
 rcases q1 with ⟨a,e,⟨xs,hq⟩,q⟩ | ⟨a,e,⟨xs,hq⟩,q⟩
 .subst e
  cases r1
  obtain⟨its,rv,p,hz⟩:=I1.list hq
  refine wpAny_pyIter_list p.isList ?_
  refine⟨s1.heap.objs.size,[s1.heap.objs.size],_,_,H1,rfl,I1.kept (t':=s1.toks) λb o e=>u9 _ e,zf2 a _,⟨_,n0 _ rfl,rfl,rfl⟩,λb hb=>?_,q⟩
  have e:b=s1.heap.objs.size:=by simpa using hb
  subst e
  exact I1.fpOk (t9 _) (I1.hok.fresh (t9 _))
 .subst e
  cases r1
  obtain⟨its,rv,p,hz⟩:=I1.tuple hq
  refine u1e (show s1.heap.IsTuple a its.toArray from p) ?_
  refine⟨s1.heap.objs.size,[s1.heap.objs.size],_,_,H1,rfl,I1.kept (t':=s1.toks) λb o e=>u9 _ e,zes a _,⟨_,n0 _ rfl,rfl,rfl⟩,λb hb=>?_,q⟩
  have e:b=s1.heap.objs.size:=by simpa using hb
  subst e
  exact I1.fpOk (t9 _) (I1.hok.fresh (t9 _))
end
end L2
namespace Dl
open PySem L2
variable [KK]
def zkU (J:It)(F:Hp)(ds:List D):Prop:=∀ (i:Nat) (F2 H2:Hp),xj F F2->xj F2 H2->(i=ds.length->J.stop i H2) /\
 ∀ d,ds[i]?=some d->J.go i H2/\∀ x H3,J.yld i H2 x H3->∃ F3,Gr F2 H2 F3 H3/\At F3 d x
def RI (wi:TI)(f:Ev->Option (List D)):Prop :=
 ∀ (σ:St) (ρ:Ev) (F H:Hp) (ds:List D) (R:It->Hp->Prop),xj F H->VAt F ρ σ->f ρ=some ds->(∀ F' H' J,Gr F H F' H'->zkU J F' ds->R J H')->wi σ H R
def ID (X:Cx)(tg iter:Expr)(f:Ev->Option (List D)):Prop:=∃ wi,PI X tg iter wi/\RI wi f
def wF:D->Option (List D)
 | .lst ds=>some ds
 | .tup ds=>some ds
 | _=>none
section
variable {X:Cx}{tg a b c e:Expr}{pos:Pos}
theorem zlq {K:W.Frag}{F:Hp}{p:Addr}{xs:List V}{ds:List D}(h:F p=some (.lst xs))(al:AtL F ds xs):zkU (Itl K p) F ds:=by
 intro i F2 H2 s1 s2
 have q:SqL K H2 p xs:=SqL.of (s2 _ _ (s1 _ _ h))
 refine⟨λhl=>⟨xs,q,by rw[al.length,hl];exact t9 _⟩,λd hd=>?_⟩
 obtain⟨x,hx,ax⟩:=al.get hd
 refine⟨⟨xs,x,q,hx⟩,λy H3 hy=>?_⟩
 obtain⟨rfl,hy⟩:=hy
 have:=hy xs q
 rw[hx]at this
 cases this
 exact⟨F2,.refl s2,ax.mono s1⟩
theorem zk5 {K:W.Frag}{F:Hp}{p:Addr}{xs:List V}{ds:List D}(h:F p=some (.tup xs))(al:AtL F ds xs):zkU (Itt K p) F ds:=by
 intro i F2 H2 s1 s2
 have q:SqT K H2 p xs:=SqT.of (s2 _ _ (s1 _ _ h))
 refine⟨λhl=>⟨xs,q,by rw[al.length,hl];exact t9 _⟩,λd hd=>?_⟩
 obtain⟨x,hx,ax⟩:=al.get hd
 refine⟨⟨xs,x,q,hx⟩,λy H3 hy=>?_⟩
 obtain⟨rfl,hy⟩:=hy
 have:=hy xs q
 rw[hx]at this
 cases this
 exact⟨F2,.refl s2,ax.mono s1⟩
def iOf (f:Ev->Option D):Ev->Option (List D):=fun ρ=>(f ρ).bind wF
theorem Y5 {f:Ev->Option D}(ha:ED X a f):ID X tg a (iOf f):=by
 obtain⟨t,p,r⟩:=ha
 refine⟨_,zmD p,fun σ ρ F H ds R s va e q=>?_⟩
 obtain⟨d,e1,e2⟩:=u3.mp e
 refine r σ ρ F H d _ s va e1 λF1 H1 v g1 a1=>?_
 cases d <;> try cases e2
 .obtain⟨p,xs,rfl,hx,al⟩:=a1.tup_inv
  exact .inr ⟨p,rfl,⟨xs,SqT.of (g1.fh _ _ hx)⟩,q F1 H1 _ g1 (zk5 hx al)⟩
 .obtain⟨p,xs,rfl,hx,al⟩:=a1.lst_inv
  exact .inl ⟨p,rfl,⟨xs,SqL.of (g1.fh _ _ hx)⟩,q F1 H1 _ g1 (zlq hx al)⟩
def W0 (lo:Int)(n:Nat):List D:=(List.range n).map λk:Nat=>.int (lo+k)
theorem zfJ {F:Hp}(lo:Int)(n:Nat):zkU (Itr lo n) F (W0 lo n):=by
 intro i F2 H2 s1 s2
 have hlen:(W0 lo n).length=n:=by unfold W0;simp
 refine⟨λhl=>by rw[hlen]at hl;rw[hl];exact t9 _,λd hd=>?_⟩
 have hi:i < n:=by
  have:=(t8.mp hd).1
  omega
 refine⟨hi,λy H3 hy=>?_⟩
 obtain⟨rfl,rfl⟩:=hy
 refine⟨F2,.refl s2,?_⟩
 unfold W0 at hd
 rw[j5,u0E hi]at hd
 cases hd
 exact .int
@[irreducible] def zhx (j:Int):Bool:=decide (-(2 ^ 62)<=j/\j < 2 ^ 62)
omit [KK] in
theorem yX {j:Int}:zhx j=true↔-(2 ^ 62)<=j/\j < 2 ^ 62:=by unfold zhx;exact decide_eq_true_iff
def Yi:List D->Option (List D)
 | [.int j]=>if zhx j=true then some (W0 0 j.toNat)else none
 | _=>none
def za4:List D->Option (List D)
 | [.int i,.int j]=>if zhx i=true/\zhx j=true then some (W0 i (j - i).toNat)else none
 | _=>none
def zay (g:List D->Option (List D))(f:Ev->Option (List D)):Ev->Option (List D):=fun ρ=>(f ρ).bind g
theorem Vx {p:Pos} {f:Ev->Option (List D)} (hg:Gl X "range") (hm:X.mg "range"=none) (ha:AD X [a] f) (hs:starEach [a] X.env=[(false,eval a X.env)]:=by rfl):ID X tg (.Call (.Name "range" p) [a] [] pos) (zay Yi f):=by
 obtain⟨t,pa,r⟩:=ha
 refine⟨_,zcr hg hm pa hs,fun σ ρ F H ds R s va e q=>?_⟩
 obtain⟨d,e1,e2⟩:=u3.mp e
 refine r σ ρ F H d _ s va e1 λF1 H1 v g1 a1=>?_
 unfold Yi at e2
 split at e2
 .split at e2
  .cases e2
   rename_i hc
   obtain⟨x,r',rfl,ax,ar⟩:=a1.cons_inv
   cases ar.nil_inv
   exact⟨_,by rw[ax.int_inv],(yX.mp hc).1,(yX.mp hc).2,q F1 H1 _ g1 (zfJ 0 _)⟩
  .cases e2
 .cases e2
def Zj (n:Nat):List D->List D
 | []=>[]
 | d::ds=>.tup [.int n,d]::Zj (n+1) ds
omit [KK] in
theorem vE (ds:List D):∀ (n i:Nat),(Zj n ds)[i]?=(ds[i]?).map λd=>.tup [.int ((n+i:Nat):Int),d]:=by
 induction ds with
 | nil=>intro n i;simp[Zj]
 | cons d ds ih =>
  intro n i
  cases i with
  | zero=>simp[Zj]
  | succ i =>
   show(Zj (n+1) ds)[i]?=(ds[i]?).map _
   rw[ih]
   have:n+1+i=n+(i+1):=by omega
   rw[this]
omit [KK] in
theorem xz (ds:List D):∀ n,(Zj n ds).length=ds.length:=by
 induction ds with
 | nil=>intro n;rfl
 | cons d ds ih=>intro n;simp[Zj,ih]
def yx (f:Ev->Option (List D)):Ev->Option (List D):=fun ρ=>(f ρ).bind λas=>match as with
 | [d]=>(wF d).map (Zj 0)
 | _=>none
theorem Wq {es:List Expr} {k:Nat} {tp p:Pos} {f:Ev->Option (List D)} (hg:Gl X "enumerate") (hm:X.mg "enumerate"=none) (hb:bootBuiltins "enumerate"=some (.type "enumerate")) (ha:AD X [a] f)
 (hs:starEach [a] X.env=[(false,eval a X.env)]:=by rfl):ID X (.Tuple es k tp) (.Call (.Name "enumerate" p) [a] [] pos) (yx f):=by
 obtain⟨t,pa,r⟩:=ha
 refine⟨_,zjJ hg hm hb pa hs,fun σ ρ F H ds R s va e q=>?_⟩
 obtain⟨as,e1,e2⟩:=u3.mp e
 refine r σ ρ F H as _ s va e1 λF1 H1 v g1 a1=>?_
 split at e2
 .obtain⟨x,r',rfl,ax,ar⟩:=a1.cons_inv
  cases ar.nil_inv
  obtain⟨es,e3,rfl⟩:=u8.mp e2
  rename_i d
  cases d <;> try cases e3
  .obtain⟨p,xs,rfl,hx,al⟩:=ax.tup_inv
   refine⟨p,rfl,.inr ⟨xs,SqT.of (g1.fh _ _ hx),q F1 H1 _ g1 λi F2 H2 s1 s2=>?_⟩⟩
   have qq:SqT X.K H2 p xs:=SqT.of (s2 _ _ (s1 _ _ hx))
   refine⟨λhl=>⟨xs,qq,by rw[al.length,hl,xz];exact t9 _⟩,λd hd=>?_⟩
   rw[vE]at hd
   obtain⟨d',hd',rfl⟩:=u8.mp hd
   obtain⟨x,hxi,ax⟩:=al.get hd'
   refine⟨⟨xs,x,qq,hxi⟩,λy H3 hy=>?_⟩
   obtain⟨T,y,rfl,hT,rfl,hy⟩:=hy
   have:=hy xs qq
   rw[hxi]at this
   cases this
   have g3:=Gr.alloc s2 hT (.tup [.int i,x])
   exact⟨_,g3,.tup zx (.cons (by rw[m9];exact .int) (.cons (ax.mono (s1.trans g3.ff)) .nil))⟩
  .obtain⟨p,xs,rfl,hx,al⟩:=ax.lst_inv
   refine⟨p,rfl,.inl ⟨xs,g1.fh _ _ hx,q F1 H1 _ g1 λi F2 H2 s1 s2=>?_⟩⟩
   have qq:SqL X.K H2 p xs:=SqL.of (s2 _ _ (s1 _ _ hx))
   refine⟨λhl=>⟨xs,qq,by rw[al.length,hl,xz];exact t9 _⟩,λd hd=>?_⟩
   rw[vE]at hd
   obtain⟨d',hd',rfl⟩:=u8.mp hd
   obtain⟨x,hxi,ax⟩:=al.get hd'
   refine⟨⟨xs,x,qq,hxi⟩,λy H3 hy=>?_⟩
   obtain⟨T,y,rfl,hT,rfl,hy⟩:=hy
   have:=hy xs qq
   rw[hxi]at this
   cases this
   have g3:=Gr.alloc s2 hT (.tup [.int i,x])
   exact⟨_,g3,.tup zx (.cons (by rw[m9];exact .int) (.cons (ax.mono (s1.trans g3.ff)) .nil))⟩
 .cases e2
def hb2 (F1 Hb:Hp):Hp:=λp=>match F1 p with
 | some o=>some o
 | none=>Hb p
theorem W5 {F1 Hb:Hp}{p:Addr}(h:F1 p=none):hb2 F1 Hb p=Hb p:=by unfold hb2;rw[h]
theorem ziw {F1 Hb:Hp}{p:Addr}{o:HO}(h:F1 p=some o):hb2 F1 Hb p=some o:=by unfold hb2;rw[h]
theorem Gr.up {Fb Hb F1 H1 F H:Hp}(g1:Gr Fb Hb F1 H1)(g:Gr F1 (hb2 F1 Hb) F H):Gr Fb Hb F H:=by
 refine⟨g1.ff.trans g.ff,g.fh,λp o e1 e2=>?_⟩
 rcases(g1.kp p o e1 e2).1 with n | ⟨n1,n2⟩
 .exact g.kp p o n (by rw[W5 n];exact e2)
 .exact⟨.inr ⟨n1,g.ff _ _ n2⟩,g.fh _ _ (g.ff _ _ n2)⟩
theorem Gr.dn {Fb Hb F1 F H:Hp}(g:Gr Fb Hb F H)(s1:xj Fb F1)(s:xj F1 F):Gr F1 (hb2 F1 Hb) F H:=by
 refine⟨s,g.fh,λp o e1 e2=>?_⟩
 rw[W5 e1]at e2
 exact g.kp p o (s1.free e1) e2
theorem Rl.up {Fb Hb F1 H1 F H:Hp}{ρ:SE}{σ:St}(g1:Gr Fb Hb F1 H1)(r:Rl F1 (hb2 F1 Hb) F H ρ σ):Rl Fb Hb F H ρ σ:=by
 refine⟨g1.up r.gr,r.vals,λi s e ho=>?_,r.dis,r.len⟩
 obtain⟨p,o,e1,e2,e3⟩:=r.ows i s e ho
 refine⟨p,o,e1,?_,e3⟩
 cases h:F1 p with
 | none=>rw[W5 h]at e2;exact e2
 | some o=>rw[ziw h]at e2;cases e2
theorem Rl.dn {Fb Hb F1 F H:Hp}{ρ:SE}{σ:St}(r:Rl Fb Hb F H ρ σ)(s1:xj Fb F1)(s:xj F1 F):Rl F1 (hb2 F1 Hb) F H ρ σ:=by
 refine⟨r.gr.dn s1 s,r.vals,λi t e ho=>?_,r.dis,r.len⟩
 obtain⟨p,o,e1,e2,e3,e4⟩:=r.ows i t e ho
 refine⟨p,o,e1,?_,e3,e4⟩
 rw[W5 (s.free e3)]
 exact e2
def zg1 (b:D->SE->Option SE)(g:SE->Ctl):List D->SE->Ctl
 | [],ρ=>.nx ρ
 | d::ds,ρ=>match b d ρ with
  | none=>.no
  | some ρ1=>match g ρ1 with
   | .nx ρ'=>zg1 b g ds ρ'
   | .ct ρ'=>zg1 b g ds ρ'
   | .bk ρ'=>.nx ρ'
   | .rt d=>.rt d
   | .no=>.no
def XD (f:Ev->Option (List D))(b:D->SE->Option SE)(g:SE->Ctl):SE->Ctl:=fun ρ=>match f (visF ρ) with
 | some ds=>zg1 b g ds ρ
 | none=>.no
theorem zf1 {Fb Hb F1 H1:Hp}{ρ:SE}{σ:St}{E:zgO}{J:It}{g:TG}{tb:TS}{ds:List D}{b:D->SE->Option SE}{gb:SE->Ctl}(hit:zkU J F1 ds)(rg:RG g b)(rb:RS tb gb)(rl0:Rl Fb Hb F1 H1 ρ σ)(k:SOk Fb Hb E (zg1 b gb ds ρ)) :
 ∃ W:Nat->Nat->St->Hp->Prop,(∃ m,W 0 m σ H1)/\∀ i m σ H,W i m σ H ->
  (J.stop i H/\E.nx σ H)\/(J.go i H/\∃ N:St->Hp->Prop,(∀ σ' H',N σ' H'->∃ m',m' < m/\W (i+1) m' σ' H')/\∀ x H',J.yld i H x H'->g x σ H' fun σ2 H2=>tb { E with nx:=N,ct:=N,bk:=E.nx } σ2 H2):=by
 refine⟨λi m σ H=>m=ds.length - i/\i<=ds.length/\∃ F ρ,xj F1 F/\Rl Fb Hb F H ρ σ/\SOk Fb Hb E (zg1 b gb (ds.drop i) ρ),⟨ds.length,by simp,u0m _,F1,ρ,xj.refl _,rl0,k⟩,?_⟩
 rintro i m σ H ⟨rfl,hi,F,ρ,s1,rl,k⟩
 obtain⟨stop,go⟩:=hit i F H s1 rl.gr.fh
 by_cases hlt:i < ds.length
 .have hd:ds.drop i=ds[i]::ds.drop (i+1):=u07 hlt
  rw[hd]at k
  unfold zg1 at k
  obtain⟨g1,g2⟩:=go ds[i] (by simp[hlt])
  refine .inr ⟨g1,fun σ H=>∃ F ρ,xj F1 F/\Rl Fb Hb F H ρ σ/\SOk Fb Hb E (zg1 b gb (ds.drop (i+1)) ρ),fun σ' H' w=>⟨ds.length - (i+1),by omega,rfl,hlt,w⟩,λx H' hy=>?_⟩
  obtain⟨F3,g3,a3⟩:=g2 x H' hy
  cases hb:b ds[i] ρ with
  | none=>rw[hb]at k;exact k.elim
  | some ρ1 =>
   rw[hb]at k
   dsimp only at k
   refine rg Fb Hb F3 H' ρ ρ1 σ _ x _ (rl.grow g3) a3 hb fun σ2 rl2=>?_
   have s3:=s1.trans g3.ff
   refine rb F1 (hb2 F1 Hb) F3 H' ρ1 σ2 _ (rl2.dn rl0.gr.ff s3) ?_
   cases hg:gb ρ1 with
   | nx ρ'=>rw[hg]at k;exact λF4 H4 σ4 r4=>⟨F4,ρ',r4.gr.ff,r4.up rl0.gr,k⟩
   | ct ρ'=>rw[hg]at k;exact λF4 H4 σ4 r4=>⟨F4,ρ',r4.gr.ff,r4.up rl0.gr,k⟩
   | bk ρ'=>rw[hg]at k;exact λF4 H4 σ4 r4=>k F4 H4 σ4 (r4.up rl0.gr)
   | rt d=>rw[hg]at k;exact λF4 H4 v g4 a4=>k F4 H4 v (rl0.gr.up g4) a4
   | no=>rw[hg]at k;exact k.elim
 .have e:i=ds.length:=by omega
  subst e
  rw[u2b]at k
  exact .inl ⟨stop rfl,k F H σ rl⟩
theorem Yx {iter:Expr}{body:List Stmt}{f:Ev->Option (List D)}{b:D->SE->Option SE}{g:SE->Ctl}(hp:PassesOwn (model X.prog X.w) X.A X.env X.xe)(hc:X.calm=true)(hi:ID X tg iter f)(hg:BD X tg b)(hb:SDs X body g)
 (hs:∀ x,foldedSetIterable iter X.env x=pure x:=by intro _;rfl):SD X (.For tg iter body [] pos) (XD f b g):=by
 obtain⟨wi,pi,ri⟩:=hi
 obtain⟨tg',pg,rg⟩:=hg
 obtain⟨tb,pb,rb⟩:=hb
 refine⟨_,zhg hp hc pi pg pb hs,λFb Hb F H ρ σ E rl k=>?_⟩
 unfold XD at k
 cases h:f (visF ρ) with
 | none=>rw[h]at k;exact k.elim
 | some ds =>
  rw[h]at k
  exact ri σ _ _ H ds _ rl.gr.fh rl.visF h λF1 H1 J g1 ok=>zf1 ok rg rb (rl.grow g1) k
end
def lcD (b:D->Option (List (Option D)))(t:Ev->Option Bool)(f:Ev->Option D)(ρ:Ev):List D->Option (List D)
 | []=>some []
 | d::ds=>(b d).bind λown=>(t (own++ρ)).bind λc=>if c=true then (f (own++ρ)).bind λy=>(lcD b t f ρ ds).map (y::·)else lcD b t f ρ ds
def fLC (i:Ev->Option (List D))(b:D->Option (List (Option D)))(t:Ev->Option Bool)(f:Ev->Option D):Ev->Option (List D):=fun ρ=>(i ρ).bind λds=>if lim ds.length=true then lcD b t f ρ ds else none
def b1:D->Option (List (Option D)):=λd=>some [some d]
def b2:D->Option (List (Option D))
 | .tup [x,y]=>some [some x,some y]
 | _=>none
def RB (n:Nat)(t:TG)(b:D->Option (List (Option D))):Prop:=∀ (σ:St) (ρ:Ev) (F H:Hp) (d:D) (v:V) (own:List (Option D)) (Q:St->Hp->Prop),xj F H->VAt F ρ σ->At F d v->b d=some own->(∀ σ',VAt F (own++ρ) σ'->Q σ' H)->t v (List.replicate n none++σ) H Q
def xw:Ev->Option Bool:=λ_=>some true
theorem zjg:RT tYes xw:=λ_ _ _ _ _ _ s _ e q=>by cases e;exact q _ _ (.refl s)
theorem zjy {wi:TI}{n:Nat}{g:TG}{tt:TT}{te:TE}{fi:Ev->Option (List D)}{b:D->Option (List (Option D))}{ft:Ev->Option Bool}{fe:Ev->Option D}(ri:RI wi fi)(rg:RB n g b)(rt:RT tt ft)(re:RE te fe) :
 RF (tLC wi n g tt te) (fLC fi b ft fe):=by
 intro σ ρ F H out Q s va e q
 obtain⟨ds,e1,e2⟩:=u3.mp e
 split at e2 <;> try cases e2
 rename_i hlim
 have hlim:ds.length<=sizeLine:=o0 hlim
 refine ri σ ρ F H ds _ s va e1 λF1 H1 J g1 ok=>?_
 intro P hP
 have hF1:F1 P=none:=g1.fh.free hP
 have hH0:H P=none:=by
  cases e:H P with
  | none=>rfl
  | some o =>
   cases e2:F P with
   | none=>rw[(g1.kp P o e2 e).2]at hP;cases hP
   | some u=>rw[g1.fh _ _ (g1.ff _ _ e2)]at hP;cases hP
 refine⟨λi m ys H2=>m=ds.length - i/\i<=ds.length/\∃ F2 done,Gr F1 H1 F2 H2/\Gr F1 (upd H1 P (.lst [])) F2 (upd H2 P (.lst []))/\F2 P=none/\H2 P=some (.lst ys)/\AtL F2 done ys/\done.length<=i/\∃ more,lcD b ft fe ρ (ds.drop i)=some more/\done++more=out,⟨ds.length,by simp,u0m _,F1,[],Gr.hide g1.fh hP _,?_,hF1,zx,.nil,u0m _,out,e2,rfl⟩,?_⟩
 .rw[zgD]
  exact .refl λb u z=>by rw[zw (zn z hF1)];exact g1.fh b u z
 rintro i m ys H2 ⟨rfl,hi,F2,done,g2,g2',hF2,hH2,al,hdl,more,hm,hout⟩
 obtain⟨stop,go⟩:=ok i F2 H2 g2.ff g2.fh
 by_cases hlt:i < ds.length
 .have hd:ds.drop i=ds[i]::ds.drop (i+1):=u07 hlt
  rw[hd]at hm
  unfold lcD at hm
  obtain⟨own,hb,hm⟩:=u3.mp hm
  obtain⟨cb,hc,hm⟩:=u3.mp hm
  obtain⟨k1,k2⟩:=go ds[i] (by simp[hlt])
  refine .inr ⟨k1,by rw[al.length];omega,λx H3 hy=>?_⟩
  obtain⟨F3,g3,a3⟩:=k2 x H3 hy
  refine rg σ ρ F3 H3 ds[i] x own _ g3.fh (va.mono (g1.ff.trans (g2.ff.trans g3.ff))) a3 hb fun σ4 va4=>?_
  refine rt σ4 _ F3 H3 cb _ g3.fh va4 hc λF5 H5 g5=>?_
  have g35:=g3.trans g5
  obtain⟨n5,h5⟩:=g35.kl (λ_ e=>by cases e) hF2 hH2
  have keep2:∀ {F6 H6:Hp} {o:HO},Gr F2 H2 F6 H6->F6 P=none->Gr F1 (upd H1 P (.lst [])) F6 (upd (upd H6 P o) P (.lst [])):=λ{F6 H6 o} g6 n6=>by
   rw[zgD]
   refine⟨g2.ff.trans g6.ff,λb u z=>?_,λb u z1 z2=>?_⟩
   .rw[zw (zn z n6)];exact g6.fh b u z
   .by_cases hbP:b=P
    .subst hbP
     rw[zx]at z2 ⊢
     exact⟨.inl n6,z2⟩
    .rw[zw hbP]at z2 ⊢
     exact(g2.trans g6).kp b u z1 z2
  have keep1:∀ {F6 H6:Hp} {o:HO},Gr F2 H2 F6 H6->F6 P=none->Gr F1 H1 F6 (upd H6 P o):=λ{F6 H6 o} g6 n6=>by
   refine⟨g2.ff.trans g6.ff,λb u z=>?_,λb u z1 z2=>?_⟩
   .rw[zw (zn z n6)];exact g6.fh b u z
   .rw[zw (zn z2 hP)]
    exact(g2.trans g6).kp b u z1 z2
  cases cb with
  | false =>
   rw[t6 u7]at hm ⊢
   have ups:H5=upd H5 P (.lst ys):=by
    funext b
    by_cases hbP:b=P
    .subst hbP;rw[zx];exact h5
    .rw[zw hbP]
   refine⟨ds.length - (i+1),by omega,rfl,hlt,F5,done,?_,?_,n5,h5,al.mono g35.ff,by omega,more,hm,hout⟩
   .rw[ups];exact keep1 g35 n5
   .have:=keep2 (o:=.lst ys) g35 n5
    rw[<-ups]at this
    exact this
  | true =>
   rw[t5 rfl]at hm ⊢
   obtain⟨y,hy,hm⟩:=u3.mp hm
   obtain⟨rest,hm',rfl⟩:=u8.mp hm
   refine re σ4 _ F5 H5 y _ g5.fh (va4.mono g5.ff) hy λF6 H6 v g6 a6=>?_
   have g36:=g35.trans g6
   obtain⟨n6,h6⟩:=g36.kl (λ_ e=>by cases e) hF2 hH2
   refine⟨h6,ds.length - (i+1),by omega,rfl,hlt,F6,done++[y],keep1 g36 n6,keep2 g36 n6,n6,zx,(al.mono g36.ff).snoc a6,by rw[j9];simp;omega,rest,hm',by rw[<-hout,List.append_assoc];rfl⟩
 .have e:i=ds.length:=by omega
  subst e
  rw[u2b]at hm
  cases hm
  rw[u0n]at hout
  subst hout
  exact .inl ⟨stop rfl,q F2 H2 P ys (g1.trans g2) hH0 hF2 hH2 al⟩
theorem rb1:RB 1 (X2 0) b1:=by
 intro σ ρ F H d v own Q s va av e q
 cases e
 refine q _ λi d' h=>?_
 cases i with
 | zero=>cases h;exact⟨v,rfl,av⟩
 | succ i=>exact va i d' h
theorem rb2 {K:W.Frag}:RB 2 (zm2 K 2 (zcU (X2 0) (zcU (X2 1) zmU))) b2:=by
 intro σ ρ F H d v own Q s va av e q
 unfold b2 at e
 split at e <;> cases e
 obtain⟨p,xs,rfl,hx,al⟩:=av.tup_inv
 obtain⟨x,r,rfl,ax,al⟩:=al.cons_inv
 obtain⟨y,r,rfl,ay,al⟩:=al.cons_inv
 cases al.nil_inv
 refine⟨p,_,rfl,SqT.of (s _ _ hx),rfl,x,_,rfl,y,_,rfl,rfl,?_⟩
 refine q _ λi d' h=>?_
 match i,h with
 | 0,h=>cases h;exact⟨x,rfl,ax⟩
 | 1,h=>cases h;exact⟨y,rfl,ay⟩
 | i+2,h=>exact va i d' h
def tCan (f:Ev->Option D):TE:=fun σ H Q=>∃ ρ F d,xj F H/\VAt F ρ σ/\f ρ=some d/\∀ F' H' v,Gr F H F' H'->At F' d v->Q v H'
def zlf (f:Ev->Option Bool):TT:=fun σ H Q=>∃ ρ F d,xj F H/\VAt F ρ σ/\f ρ=some d/\∀ F' H',Gr F H F' H'->Q d H'
theorem ED.can {X:Cx}{e:Expr}{f:Ev->Option D}(h:ED X e f):PE X e (tCan f):=by
 obtain⟨t,p,r⟩:=h
 rintro pins s σ H Q I ⟨ρ,F,d,h1,h2,h3,h4⟩
 exact p pins s σ H Q I (r σ ρ F H d Q h1 h2 h3 h4)
theorem TD.can {X:Cx}{e:Expr}{f:Ev->Option Bool}(h:TD X e f):PT X e (zlf f):=by
 obtain⟨t,p,r⟩:=h
 rintro pins s σ H Q I ⟨ρ,F,d,h1,h2,h3,h4⟩
 exact p pins s σ H Q I (r σ ρ F H d Q h1 h2 h3 h4)
theorem zaE {f:Ev->Option D}:RE (tCan f) f:=λ_ ρ F _ d _ h1 h2 h3 h4=>⟨ρ,F,d,h1,h2,h3,h4⟩
theorem zlV {f:Ev->Option Bool}:RT (zlf f) f:=λ_ ρ F _ d _ h1 h2 h3 h4=>⟨ρ,F,d,h1,h2,h3,h4⟩
theorem zas {X:Cx}{elt tg iter:Expr}{L M:List Str}{scope:Scope}{cl:List (Str × Addr)}{pos:Pos}{fi:Ev->Option (List D)}{b:D->Option (List (Option D))}{fe:Ev->Option D}{g:TG}
 (hc:X.calm=true) (S:xZ X L M scope cl) (hi:ID X tg iter fi)
 (hgS:∀ (σ:St) (v:V) (H:Hp) (Q:St->Hp->Prop),g v (List.replicate L.length none++σ) H Q->g v (List.replicate L.length none++σ) H (fun σ2 H2=>Wp (List.replicate L.length none++σ) σ2/\Q σ2 H2))
 (hrb:RB L.length g b)
 (hg:∀ s₀ H₀ ex pn,PG (zb7 X L M scope cl s₀ H₀ ex pn) tg g) (he:∀ s₀ H₀ ex pn,ED (zb7 X L M scope cl s₀ H₀ ex pn) elt fe)
 (hs:∀ x,foldedSetIterable iter X.env x=pure x:=by intro _;rfl):FL X (.ListComp elt [⟨tg,iter,[],0⟩] scope pos) (fLC fi b xw fe):=by
 obtain⟨wi,pi,ri⟩:=hi
 exact⟨_,zjv hc S pi hgS hg (λ_ _ _ _=>zg3) (λ_ _ _ _=>(he _ _ _ _).can) hs,zjy ri hrb zjg zaE⟩
theorem zfw {X:Cx}{elt tg iter c:Expr}{L M:List Str}{scope:Scope}{cl:List (Str × Addr)}{pos:Pos}{fi:Ev->Option (List D)}{b:D->Option (List (Option D))}{ft:Ev->Option Bool}{fe:Ev->Option D}{g:TG}
 (hc:X.calm=true) (S:xZ X L M scope cl) (hi:ID X tg iter fi)
 (hgS:∀ (σ:St) (v:V) (H:Hp) (Q:St->Hp->Prop),g v (List.replicate L.length none++σ) H Q->g v (List.replicate L.length none++σ) H (fun σ2 H2=>Wp (List.replicate L.length none++σ) σ2/\Q σ2 H2))
 (hrb:RB L.length g b)
 (hg:∀ s₀ H₀ ex pn,PG (zb7 X L M scope cl s₀ H₀ ex pn) tg g) (ht:∀ s₀ H₀ ex pn,TD (zb7 X L M scope cl s₀ H₀ ex pn) c ft) (he:∀ s₀ H₀ ex pn,ED (zb7 X L M scope cl s₀ H₀ ex pn) elt fe)
 (hs:∀ x,foldedSetIterable iter X.env x=pure x:=by intro _;rfl):FL X (.ListComp elt [⟨tg,iter,[c],0⟩] scope pos) (fLC fi b ft fe):=by
 obtain⟨wi,pi,ri⟩:=hi
 exact⟨_,zjv hc S pi hgS hg (λ_ _ _ _=>zkp (ht _ _ _ _).can) (λ_ _ _ _=>(he _ _ _ _).can) hs,zjy ri hrb zlV zaE⟩
theorem zl6 {t:TE}{f:Ev->Option (List D)}(r:RF t f):RE t (wd f):=by
 intro σ ρ F H d Q s va e q
 obtain⟨ds,e1,rfl⟩:=u8.mp e
 refine r σ ρ F H ds Q s va e1 λF' H' p xs g h0 hF hH hx=>?_
 have g2:=g.show h0 hF hH
 exact q _ _ _ g2 (At.lst zx (hx.mono (λb u e=>by rw[zw (zn e hF)];exact e)))
def FLS (X:Cx)(i:Nat)(st:Stmt)(f:Ev->Option (List D)):Prop:=∃ t,PS X st (zm0 t (X2 i))/\RF t f
theorem zka {m:Bool}{i:Nat}{st:Stmt}{f:Ev->Option (List D)}(he:FLS X i st f):SD X st (y9 m i (wd f)):=by
 obtain⟨t,p,r⟩:=he
 refine⟨_,p,λFb Hb F H ρ σ E rl k=>?_⟩
 unfold y9 at k
 cases h:vEv m (wd f) ρ with
 | none=>rw[h]at k;exact k.elim
 | some d =>
  rw[h]at k
  exact(zl6 r).at rl h λF' H' v g av=>k F' H' _ ((rl.grow g).set av)
theorem zkk {i:Nat}{x:Str}{px spos:Pos}{X:Cx}{elt tg iter:Expr}{L M:List Str}{scope:Scope}{cl:List (Str × Addr)}{pos:Pos}{fi:Ev->Option (List D)}{b:D->Option (List (Option D))}{fe:Ev->Option D}{g:TG}
 (hN:X.N.Nodup) (hi':X.N[i]?=some x) (hx:Loc X.env.scope x) (hc:X.calm=true) (S:xZ X L M scope cl) (hi:ID X tg iter fi)
 (hgS:∀ (σ:St) (v:V) (H:Hp) (Q:St->Hp->Prop),g v (List.replicate L.length none++σ) H Q->g v (List.replicate L.length none++σ) H (fun σ2 H2=>Wp (List.replicate L.length none++σ) σ2/\Q σ2 H2))
 (hrb:RB L.length g b)
 (hg:∀ s₀ H₀ ex pn,PG (zb7 X L M scope cl s₀ H₀ ex pn) tg g) (he:∀ s₀ H₀ ex pn,ED (zb7 X L M scope cl s₀ H₀ ex pn) elt fe)
 (hs:∀ x,foldedSetIterable iter X.env x=pure x:=by intro _;rfl)
 (hsw:swapsWith (.ListComp elt [⟨tg,iter,[],0⟩] scope pos) (some (.Name x px)) spos.line X.env=pure true:=by rfl)
 (hf:X.fn x=true\/X.env.scope.names.lookup x=some .local:=by first | exact .inl rfl | exact .inr rfl | assumption):FLS X i (.Assign [.Name x px] (.ListComp elt [⟨tg,iter,[],0⟩] scope pos) spos) (fLC fi b xw fe):=by
 obtain⟨wi,pi,ri⟩:=hi
 exact⟨_,zlH hN hi' hx hc S pi hgS hg (λ_ _ _ _=>zg3) (λ_ _ _ _=>(he _ _ _ _).can) hs hsw hf,zjy ri hrb zjg zaE⟩
def fnD (n:Nat)(g:SE->Ctl)(ds:List D):Option D:=match g (ds.map .v++List.replicate (n - ds.length) .no) with
 | .rt d=>some d
 | .nx _=>some .non
 | _=>none
def spD (m:Nat)(p:List D->Option D):Sp:=λvs H Q _=>∃ ds d F,ds.length=m/\xj F H/\AtL F ds vs/\p ds=some d/\∀ F' H' v,Gr F H F' H'->At F' d v->Q v H'
theorem zbb {F H:Hp}{N:List Str}{ds:List D}{vs:List V}(s:xj F H)(a:AtL F ds vs):Rl F H F H (ds.map .v++List.replicate (N.length - ds.length) .no) (L2.start N vs):=by
 have hl:=a.length
 have noO:∀ (i:Nat) (t:Sl),(ds.map Sl.v++List.replicate (N.length - ds.length) Sl.no)[i]?=some t->t.isO=true->False:=λi t h ho=>by
  by_cases hi:i < ds.length
  .rw[u0l (by simpa using hi),j5]at h
   cases e:ds[i]? with
   | none=>rw[e]at h;cases h
   | some d=>rw[e]at h;cases h;cases ho
  .rw[u0y (by simpa using hi),u0t]at h
   split at h <;> cases h
   cases ho
 refine⟨.refl s,λi d h=>?_,λi t h ho=>(noO i t h ho).elim,λi j p t u h _ ho=>(noO i t h ho).elim,?_⟩
 .by_cases hi:i < ds.length
  .rw[u0l (by simpa using hi),j5]at h
   cases e:ds[i]? with
   | none=>rw[e]at h;cases h
   | some d' =>
    rw[e]at h
    cases h
    obtain⟨x,hx,ax⟩:=a.get e
    refine⟨x,?_,ax⟩
    unfold L2.start
    rw[u0l (by simpa [hl]using hi),j5,hx]
    rfl
  .rw[u0y (by simpa using hi),u0t]at h
   split at h <;> cases h
 .unfold L2.start
  simp[hl]
theorem yC {P:Program}{w:World}{K:W.Frag}{mg:Str->Option Value}{base:Heap}{x qual:Str}{st:Stmt}{f:Addr}{fd:FuncData}{N ps:List Str}{k:Nat}{g:SE->Ctl}(Fu:Fun K x qual st f fd)(S:zu N ps (zk st))
 (hb:∀ (cdv:Value) (A:Around) (outer:List Env) (s:Shared) (H:Hp) (E:XK),Yz k (A.deeper (PyProof.Rows.envOfC qual (zk st) s.heap.objs.size f cdv))->SDs (zhv CX0 P w K mg base N qual (zk st) f cdv A outer s H E).nox (wN st) g) :
 y6 P w K mg base CX0 (k+1) f fd ps (spD ps.length (fnD N.length g)):=by
 refine Fu.ok S (λvs H Q E h=>?_) λcdv A outer s H vs Q E hr h=>?_
 .obtain⟨ds,d,F,hl,_,a,_⟩:=h
  rw[a.length];exact hl
 .obtain⟨ds,d,F,hl,sm,a,e,q⟩:=h
  obtain⟨t,p,r⟩:=hb cdv A outer s H E hr
  refine⟨t,p,r F H F H _ _ _ (zbb sm a) ?_⟩
  unfold fnD at e
  cases hg:g (ds.map .v++List.replicate (N.length - ds.length) .no) with
  | rt d'=>rw[hg]at e;cases e;exact λF' H' v g av=>q F' H' v g av
  | nx ρ=>rw[hg]at e;cases e;exact λF' H' σ rl=>q F' H' _ rl.gr .non
  | bk ρ=>rw[hg]at e;cases e
  | ct ρ=>rw[hg]at e;cases e
  | no=>rw[hg]at e;cases e
theorem vh {P:Program}{w:World}{K:W.Frag}{mg:Str->Option Value}{base:Heap}{f:Addr}{fd:FuncData}{ps:List Str}{k m:Nat}{p q:List D->Option D}(F:y6 P w K mg base CX0 k f fd ps (spD m p))(h:∀ ds d,ds.length=m->q ds=some d->p ds=some d):y6 P w K mg base CX0 k f fd ps (spD m q) :=
 F.imp λvs H Q E ⟨ds,d,F',h1,h2,h3,h4,h5⟩=>⟨ds,d,F',h1,h2,h3,h ds d h1 h4,h5⟩
def zo (m:Nat)(p:List D->Option D)(f:Ev->Option (List D)):Ev->Option D:=fun ρ=>(f ρ).bind λds=>if ds.length=m then p ds else none
theorem zkc {X:Cx}{x:Str}{k m:Nat}{f:Addr}{fd:FuncData}{ps:List Str}{p:List D->Option D}{e:Expr}{es:List Expr}{pp pos:Pos}{fa:Ev->Option (List D)}(F:y6 X.prog X.w X.K X.mg X.base CX0 k f fd ps (spD m p))(hr:Yz k X.A)(hg:Gl X x)(hm:X.mg x=some (.ref f))(hk:W.keepIn X.K (.ref f)=true)(hb:zdb X.K fd ps [])
 (ha:AD X (e::es) fa) (hdb:(x == ("__debug__":Str))=false:=by decide) (he:starEach (e::es) X.env=(false,eval e X.env)::starEach es X.env:=by rfl) (hpl:(backTo pos (starEach es X.env)).any (·.1)=false:=by rfl) :
 ED X (.Call (.Name x pp) (e::es) [] pos) (zo m p fa):=by
 obtain⟨t,pa,r⟩:=ha
 refine⟨_,zjx F hr hg hm hk hb .nil znT pa hdb he hpl,fun σ ρ F0 H d Q s va e q=>?_⟩
 obtain⟨ds,e1,e2⟩:=u3.mp e
 split at e2 <;> try cases e2
 rename_i hl
 refine r σ ρ F0 H ds _ s va e1 λF1 H1 vs g1 a1=>?_
 refine⟨ds,d,F1,hl,g1.fh,by rw[u0n];exact a1,e2,λF' H' v g av=>q F' H' v (g1.trans g) av⟩
end Dl
namespace Dl
open PySem L2
variable [KK]
section
variable {X:Cx}{a b c e:Expr}{pos:Pos}
theorem zbx:bootBuiltins "isinstance"=some (.builtin "isinstance"):=by decide +kernel
theorem Zy:bootBuiltins "len"=some (.builtin "len"):=by decide +kernel
theorem zd2:bootBuiltins "min"=some (.builtin "min"):=by decide +kernel
theorem zcK:bootBuiltins "max"=some (.builtin "max"):=by decide +kernel
theorem XV:bootBuiltins "sorted"=some (.builtin "sorted"):=by decide +kernel
theorem zbQ:bootBuiltins "sum"=some (.builtin "sum"):=by decide +kernel
theorem zlP:bootBuiltins "all"=some (.builtin "all"):=by decide +kernel
theorem zdG:bootBuiltins "int"=some (.type "int"):=by decide +kernel
theorem zjG:bootBuiltins "bool"=some (.type "bool"):=by decide +kernel
theorem yM:bootBuiltins "tuple"=some (.type "tuple"):=by decide +kernel
theorem zgU:bootBuiltins "list"=some (.type "list"):=by decide +kernel
theorem xB:bootBuiltins "enumerate"=some (.type "enumerate"):=by decide +kernel
theorem zdd:bootBuiltins "reversed"=some (.type "reversed"):=by decide +kernel
def zbI (C:Int->Int->Bool)(g:Int->Int->Int):D->D->Option D
 | .int i,.int j=>if C i j=true then some (.int (g i j))else none
 | _,_=>none
def Zb (g:Int->Int->Int):D->D->Option D
 | .int i,.int j=>some (.int (g i j))
 | _,_=>none
def zbd (g:Int->Int->Bool):D->D->Option D
 | .int i,.int j=>some (.bl (g i j))
 | _,_=>none
theorem zbh {C:Int->Int->Prop}{Cb:Int->Int->Bool}{g:Int->Int->Int}(h:∀ i j,Cb i j=true->C i j):OpD (rI C λi j=>.int (g i j)) (zbI Cb g):=by
 intro F H x y d e z Q s ax ay ez q
 cases d <;> try cases ez
 cases e <;> try cases ez
 unfold zbI at ez
 dsimp only at ez
 split at ez <;> cases ez
 rename_i hc
 exact⟨_,_,ax.int_inv,ay.int_inv,h _ _ hc,q F H _ (.refl s) .int⟩
theorem zch {g:Int->Int->Int}:OpD (rI0 λi j=>.int (g i j)) (Zb g):=by
 intro F H x y d e z Q s ax ay ez q
 cases d <;> try cases ez
 cases e <;> try cases ez
 exact⟨_,_,ax.int_inv,ay.int_inv,q F H _ (.refl s) .int⟩
theorem yi {g:Int->Int->Bool}:OpD (rI0 λi j=>.bl (g i j)) (zbd g):=by
 intro F H x y d e z Q s ax ay ez q
 cases d <;> try cases ez
 cases e <;> try cases ez
 exact⟨_,_,ax.int_inv,ay.int_inv,q F H _ (.refl s) .bl⟩
theorem zck {r r':R2}{g g':D->D->Option D}(h:OpD r g)(h':OpD r' g'):OpD (λx y H Q=>r x y H Q\/r' x y H Q) (λd e=>(g d e).or (g' d e)):=by
 intro F H x y d e z Q s ax ay ez q
 dsimp only at ez
 cases hg:g d e with
 | some z'=>rw[hg]at ez;cases ez;exact .inl (h F H x y d e z Q s ax ay hg q)
 | none=>rw[hg]at ez;exact .inr (h' F H x y d e z Q s ax ay ez q)
def zl5:D->D->Option D
 | .tup a,.tup b=>if lim (a.length+b.length)=true then some (.tup (a++b))else none
 | _,_=>none
def zme:D->D->Option (List D)
 | .lst a,.lst b=>if lim (a.length+b.length)=true then some (a++b)else none
 | _,_=>none
def zgw (d e:D):Option D:=(zme d e).map .lst
def zmd:D->D->Option D
 | .str a,.str b=>if lim (a.length+b.length)=true then some (.str (a++b))else none
 | _,_=>none
theorem zig {K:W.Frag}:OpD (zi1 K) zl5:=by
 intro F H x y d e z Q s ax ay ez q
 cases d <;> try cases ez
 cases e <;> try cases ez
 unfold zl5 at ez
 dsimp only at ez
 split at ez <;> cases ez
 rename_i hl
 obtain⟨p,xs,rfl,hx,al⟩:=ax.tup_inv
 obtain⟨p2,ys,rfl,hy,bl⟩:=ay.tup_inv
 refine⟨p,p2,xs,ys,rfl,rfl,SqT.of (s _ _ hx),SqT.of (s _ _ hy),by rw[al.length,bl.length];exact o0 hl,λe1=>?_,λ_ e2=>?_,λ_ _ r hr=>?_⟩
 .subst e1
  have:(_:List D)=[]:=u0I.mp al.length.symm
  subst this
  exact q F H _ (.refl s) (.tup hy bl)
 .subst e2
  have:(_:List D)=[]:=u0I.mp bl.length.symm
  subst this
  rw[u0n]at q
  exact q F H _ (.refl s) (.tup hx al)
 .have g:=Gr.alloc s hr (.tup (xs++ys))
  exact q _ _ _ g (.tup zx ((al.append bl).mono g.ff))
theorem zix:OpD rCat zgw:=by
 intro F H x y d e z Q s ax ay ez q
 cases d <;> try cases ez
 cases e <;> try cases ez
 unfold zgw zme at ez
 dsimp only at ez
 split at ez <;> cases ez
 rename_i hl
 obtain⟨p,xs,rfl,hx,al⟩:=ax.lst_inv
 obtain⟨p2,ys,rfl,hy,bl⟩:=ay.lst_inv
 refine⟨p,p2,xs,ys,rfl,rfl,s _ _ hx,s _ _ hy,by rw[al.length,bl.length];exact o0 hl,λr hr=>?_⟩
 have g:=Gr.alloc s hr (.lst (xs++ys))
 exact q _ _ _ g (.lst zx ((al.append bl).mono g.ff))
theorem zhU:OpD (λx y H Q=>∃ i j,x=.str i/\y=.str j/\i.length+j.length<=sizeLine/\Q (.str (i++j)) H) zmd:=by
 intro F H x y d e z Q s ax ay ez q
 cases d <;> try cases ez
 cases e <;> try cases ez
 unfold zmd at ez
 dsimp only at ez
 split at ez <;> cases ez
 rename_i hl
 exact⟨_,_,ax.str_inv,ay.str_inv,o0 hl,q F H _ (.refl s) .str⟩
def vv:D->D->Option D
 | .int i,.int j=>some (.int (i+j))
 | .tup a,.tup b=>if lim (a.length+b.length)=true then some (.tup (a++b))else none
 | .lst a,.lst b=>if lim (a.length+b.length)=true then some (.lst (a++b))else none
 | .str a,.str b=>if lim (a.length+b.length)=true then some (.str (a++b))else none
 | _,_=>none
theorem zc4 {r:R2}{g g':D->D->Option D}(h:OpD r g)(k:∀ d e z,g' d e=some z->g d e=some z):OpD r g':=λF H x y d e z Q s ax ay ez q=>h F H x y d e z Q s ax ay (k d e z ez) q
theorem yp {f h:Ev->Option D}(ha:ED X a f)(hb:ED X b h):ED X (.BinOp a .Add b pos) (zm vv f h) :=
 zb4 (((zmy.or zhC).or zlI).or zey) (zc4 (zck (zck (zck (zch (g:=λi j=>i+j)) zig) zix) zhU) λd e z h=>by
  cases d <;> try cases h
  all_goals cases e <;> try cases h
  .rfl
  .unfold vv at h;dsimp only at h;split at h <;> cases h;rename_i hl;simp[Zb,zl5,hl,zgw,zme,zmd]
  .unfold vv at h;dsimp only at h;split at h <;> cases h;rename_i hl;simp[Zb,zl5,hl,zgw,zme,zmd]
  .unfold vv at h;dsimp only at h;split at h <;> cases h;rename_i hl;simp[Zb,zl5,hl,zgw,zme,zmd]) ha hb
def zf5 (g:D->D->Option (List D))(f h:Ev->Option D):Ev->Option (List D):=fun ρ=>(f ρ).bind λx=>(h ρ).bind λy=>g x y
theorem zbV {F H F1 H1:Hp}{p:Addr}(g1:Gr F H F1 H1)(hp:H1 p=none):H p=none:=by
 cases e:H p with
 | none=>rfl
 | some o =>
  cases e2:F p with
  | none=>rw[(g1.kp p o e2 e).2]at hp;cases hp
  | some u=>rw[g1.fh _ _ (g1.ff _ _ e2)]at hp;cases hp
def Wx (i j:Int):Bool:=decide ((-(2 ^ 64) < i/\i < 2 ^ 64)\/(-(2 ^ 64) < j/\j < 2 ^ 64))
def zdP:D->D->Option (List D)
 | .lst a,.int k=>if -(2 ^ 63)<=k/\k < 2 ^ 63/\lim (a.length*k.toNat)=true then some (List.replicate k.toNat a).flatten else none
 | _,_=>none
def zhI (d e:D):Option D:=(zdP d e).map .lst
def Yt:D->D->Option D
 | .int i,.int j=>if Wx i j=true then some (.int (i*j))else none
 | .lst a,.int k=>if -(2 ^ 63)<=k/\k < 2 ^ 63/\lim (a.length*k.toNat)=true then some (.lst (List.replicate k.toNat a).flatten)else none
 | _,_=>none
theorem zhW:OpD rRep zhI:=by
 intro F H x y d e z Q s ax ay ez q
 cases d <;> try cases ez
 cases e <;> try cases ez
 unfold zhI zdP at ez
 dsimp only at ez
 split at ez <;> cases ez
 rename_i hl
 obtain⟨p,xs,rfl,hx,al⟩:=ax.lst_inv
 refine⟨p,_,xs,rfl,ay.int_inv,s _ _ hx,hl.1,hl.2.1,by rw[al.length];exact o0 hl.2.2,λr hr=>?_⟩
 rename_i ds k
 have g:=Gr.alloc s hr (.lst (List.replicate k.toNat xs).flatten)
 exact q _ _ _ g (.lst zx ((al.rep _).mono g.ff))
theorem ZI {f h:Ev->Option D}(ha:ED X a f)(hb:ED X b h):ED X (.BinOp a .Mult b pos) (zm Yt f h) :=
 zb4 (zmu.or zjf) (zc4 (zck (zbh (Cb:=Wx) (g:=λi j=>i*j) λi j h=>by have h':=o0 (show decide ((-(2 ^ 64) < i/\i < 2 ^ 64)\/(-(2 ^ 64) < j/\j < 2 ^ 64))=true from h);exact h') zhW) λd e z h=>by
  cases d <;> try cases h
  all_goals cases e <;> try cases h
  .unfold Yt at h;dsimp only at h;split at h <;> cases h;rename_i hl;simp[zbI,hl]
  .unfold Yt at h;dsimp only at h;split at h <;> cases h;rename_i hl;show(zhI _ _)=_;unfold zhI zdP;dsimp only;rw[t5 hl];rfl) ha hb
theorem zaA {f h:Ev->Option D}(ha:ED X a f)(hb:ED X b h):FL X (.BinOp a .Mult b pos) (zf5 zdP f h):=by
 obtain⟨ta,pa,ra⟩:=ha
 obtain⟨tb,pb,rb⟩:=hb
 refine⟨_,zmt zjf pa pb,fun σ ρ F H z Q s va e q=>?_⟩
 obtain⟨x,e1,e3⟩:=u3.mp e
 obtain⟨y,e2,ez⟩:=u3.mp e3
 clear e e3
 refine ra σ ρ F H x _ s va e1 λF1 H1 v g1 a1=>?_
 refine rb σ ρ F1 H1 y _ g1.fh (va.mono g1.ff) e2 λF2 H2 u g2 a2=>?_
 cases x <;> try cases ez
 cases y <;> try cases ez
 unfold zdP at ez
 dsimp only at ez
 split at ez <;> cases ez
 rename_i hl
 obtain⟨p,xs,rfl,hx,al⟩:=(a1.mono g2.ff).lst_inv
 refine⟨p,_,xs,rfl,a2.int_inv,g2.fh _ _ hx,hl.1,hl.2.1,by rw[al.length];exact o0 hl.2.2,λr hr=>?_⟩
 exact q _ _ _ _ ((g1.trans g2).trans (Gr.hide g2.fh hr _)) (zbV (g1.trans g2) hr) (g2.fh.free hr) zx (al.rep _)
def XC:=Zb λi j=>i - j
def vy:=zbI (λ_ j=>decide (0 < j/\j < 1606938044258990275541962092341162602522202993782792835301376)) λi j=>i / j
def vG:=zbI (λ_ j=>decide (0 < j)) λi j=>i % j
theorem Yr {f h:Ev->Option D}(ha:ED X a f)(hb:ED X b h):ED X (.BinOp a .Sub b pos) (zm XC f h):=zb4 zle zch ha hb
theorem ziO:OpR X (binaryOp .FloorDiv) (rI (λ_ j=>0 < j/\j < 1606938044258990275541962092341162602522202993782792835301376) λi j=>.int (i / j)):=opI λi j _ _ _ _ _ hc q=>by
 have h1:(0:Int) < j:=hc.1
 have h2:j < 1606938044258990275541962092341162602522202993782792835301376:=hc.2
 refine PyProof.Rows.floordiv_int (by omega) (by rw[Int.fdiv_eq_ediv_of_nonneg i (by omega)];exact q) (.inl (PyProof.noPylong_of_log2 ?_))
 have h0:j.natAbs≠0:=by omega
 have h3:j.natAbs < 1606938044258990275541962092341162602522202993782792835301376:=by omega
 have h4:j.natAbs.log2 < 200:=(Nat.log2_lt h0).mpr h3
 omega
theorem Vd {f h:Ev->Option D}(ha:ED X a f)(hb:ED X b h):ED X (.BinOp a .FloorDiv b pos) (zm vy f h):=zb4 ziO (zbh λ_ _ h=>by have h':=o0 h;exact h') ha hb
theorem wy {f h:Ev->Option D}(ha:ED X a f)(hb:ED X b h):ED X (.BinOp a .Mod b pos) (zm vG f h):=zb4 zlN (zbh λ_ _ h=>by have h':=o0 h;exact h') ha hb
def ltD:=zbd λi j=>decide (i < j)
def leD:=zbd λi j=>decide (i<=j)
def gtD:=zbd λi j=>decide (j < i)
def geD:=zbd λi j=>decide (j<=i)
def eqS:D->D->Option Bool
 | .non,.non=>some true
 | .int i,.int j=>some (decide (i=j))
 | .bl i,.bl j=>some (decide (i=j))
 | .str i,.str j=>some (decide (i=j))
 | .non,.int _=>some false | .int _,.non=>some false | .non,.bl _=>some false | .bl _,.non=>some false | .non,.str _=>some false | .str _,.non=>some false
 | .int _,.str _=>some false | .str _,.int _=>some false | .bl _,.str _=>some false | .str _,.bl _=>some false
 | _,_=>none
def eqD (d e:D):Option D:=(eqS d e).map .bl
def neD (d e:D):Option D:=(eqS d e).map λc=>.bl (!c)
theorem zjt:OpD rEq eqD:=by
 intro F H x y d e z Q s ax ay ez q
 obtain⟨c,e1,rfl⟩:=u8.mp ez
 cases d <;> cases e <;> try cases e1
 .cases ax.non_inv;cases ay.non_inv;exact⟨rfl,q F H _ (.refl s) .bl⟩
 .cases ax.non_inv;cases ay.bl_inv;exact⟨rfl,q F H _ (.refl s) .bl⟩
 .cases ax.non_inv;cases ay.int_inv;exact⟨rfl,q F H _ (.refl s) .bl⟩
 .cases ax.non_inv;cases ay.str_inv;exact⟨rfl,q F H _ (.refl s) .bl⟩
 .cases ax.bl_inv;cases ay.non_inv;exact⟨rfl,q F H _ (.refl s) .bl⟩
 .cases ax.bl_inv;cases ay.bl_inv;refine⟨rfl,?_⟩;rw[show ∀ i j:Bool,decide (V.bl i=V.bl j)=decide (i=j)from λi j=>by simp];exact q F H _ (.refl s) .bl
 .cases ax.bl_inv;cases ay.str_inv;exact⟨rfl,q F H _ (.refl s) .bl⟩
 .cases ax.int_inv;cases ay.non_inv;exact⟨rfl,q F H _ (.refl s) .bl⟩
 .cases ax.int_inv;cases ay.int_inv;refine⟨rfl,?_⟩;rw[show ∀ i j:Int,decide (V.int i=V.int j)=decide (i=j)from λi j=>by simp];exact q F H _ (.refl s) .bl
 .cases ax.int_inv;cases ay.str_inv;exact⟨rfl,q F H _ (.refl s) .bl⟩
 .cases ax.str_inv;cases ay.non_inv;exact⟨rfl,q F H _ (.refl s) .bl⟩
 .cases ax.str_inv;cases ay.bl_inv;exact⟨rfl,q F H _ (.refl s) .bl⟩
 .cases ax.str_inv;cases ay.int_inv;exact⟨rfl,q F H _ (.refl s) .bl⟩
 .cases ax.str_inv;cases ay.str_inv;refine⟨rfl,?_⟩;rw[show ∀ i j:Str,decide (V.str i=V.str j)=decide (i=j)from λi j=>by simp];exact q F H _ (.refl s) .bl
theorem WM:OpD rNe neD:=by
 intro F H x y d e z Q s ax ay ez q
 obtain⟨c,e1,rfl⟩:=u8.mp ez
 have:=zjt F H x y d e (.bl c) (λv H'=>∃ b,v=.bl b/\Q (.bl (!b)) H') s ax ay (by unfold eqD;rw[e1];rfl) λF' H' v g av=>⟨c,av.bl_inv,q F' H' _ g .bl⟩
 obtain⟨h1,b,h2,h3⟩:=this
 cases h2
 exact⟨h1,h3⟩
def zbC:D->D->Option D
 | d,.non=>some (.bl (match d with | .non=>true | _=>false))
 | .bl a,.bl b=>some (.bl (a == b))
 | _,_=>none
def yz:D->D->Option D
 | d,.non=>some (.bl (match d with | .non=>false | _=>true))
 | .bl a,.bl b=>some (.bl (!(a == b)))
 | _,_=>none
theorem zhm {F:Hp}{d:D}{x:V}(h:At F d x):decide (x=V.non)=(match d with | .non=>true | _=>false):=by
 cases d with
 | non=>cases h.non_inv;rfl
 | bl b=>cases h.bl_inv;rfl
 | int b=>cases h.int_inv;rfl
 | str b=>cases h.str_inv;rfl
 | tup ds=>obtain⟨a,xs,rfl,_⟩:=h.tup_inv;rfl
 | lst ds=>obtain⟨a,xs,rfl,_⟩:=h.lst_inv;rfl
 | scr ds=>obtain⟨a,rfl,_⟩:=h.scr_inv;rfl
 | dct z t ks vs=>obtain⟨a,xs,rfl,_⟩:=h.dct_inv;rfl
theorem zfW:OpD (λx y H Q=>(y=.non/\Q (.bl (decide (x=.non))) H)\/∃ i j,x=.bl i/\y=.bl j/\Q (.bl (i == j)) H) zbC:=by
 intro F H x y d e z Q s ax ay ez q
 unfold zbC at ez
 split at ez
 .cases ez
  refine .inl ⟨ay.non_inv,?_⟩
  rw[zhm ax]
  have:=q F H _ (.refl s) .bl
  cases d <;> exact this
 .cases ez
  exact .inr ⟨_,_,ax.bl_inv,ay.bl_inv,q F H _ (.refl s) .bl⟩
 .cases ez
theorem zax:OpD (λx y H Q=>(y=.non/\Q (.bl (!decide (x=.non))) H)\/∃ i j,x=.bl i/\y=.bl j/\Q (.bl (!(i == j))) H) yz:=by
 intro F H x y d e z Q s ax ay ez q
 unfold yz at ez
 split at ez
 .cases ez
  refine .inl ⟨ay.non_inv,?_⟩
  rw[zhm ax]
  have:=q F H _ (.refl s) .bl
  cases d <;> exact this
 .cases ez
  exact .inr ⟨_,_,ax.bl_inv,ay.bl_inv,q F H _ (.refl s) .bl⟩
 .cases ez
theorem zjs:OpR X (compareOp .Is) (λx y H Q=>(y=.non/\Q (.bl (decide (x=.non))) H)\/∃ i j,x=.bl i/\y=.bl j/\Q (.bl (i == j)) H):=zmn.or zit
theorem zbR:OpR X (compareOp .IsNot) (λx y H Q=>(y=.non/\Q (.bl (!decide (x=.non))) H)\/∃ i j,x=.bl i/\y=.bl j/\Q (.bl (!(i == j))) H):=zjC.or zdp
def wP (g g':D->D->Option D)(f h k:Ev->Option D):Ev->Option D:=fun ρ=>(f ρ).bind λx=>(h ρ).bind λy=>((g x y).bind asB).bind λc=>if c=true then (k ρ).bind λz=>g' y z else some (.bl false)
theorem zim {r r':R2}{g g':D->D->Option D}{ta tb tc:TE}{f h k:Ev->Option D}(hg:OpD r g)(hg':OpD r' g')(ra:RE ta f)(rb:RE tb h)(rc:RE tc k):RE (zfU r r' ta tb tc) (wP g g' f h k):=by
 intro σ ρ F H z Q s va e q
 obtain⟨x,e1,e⟩:=u3.mp e
 obtain⟨y,e2,e⟩:=u3.mp e
 obtain⟨c,e3,e⟩:=u3.mp e
 obtain⟨cd,e3,e4⟩:=u3.mp e3
 cases W7 e4
 refine ra σ ρ F H x _ s va e1 λF1 H1 v g1 a1=>?_
 refine rb σ ρ F1 H1 y _ g1.fh (va.mono g1.ff) e2 λF2 H2 u g2 a2=>?_
 refine hg F2 H2 v u x y _ _ g2.fh (a1.mono g2.ff) a2 e3 λF3 H3 w g3 a3=>⟨c,a3.bl_inv,?_⟩
 have g123:=(g1.trans g2).trans g3
 cases c with
 | true =>
  rw[t5 rfl]at e ⊢
  obtain⟨z',e5,e6⟩:=u3.mp e
  refine rc σ ρ F3 H3 z' _ g3.fh (va.mono g123.ff) e5 λF4 H4 w4 g4 a4=>?_
  exact hg' F4 H4 u w4 y z' z Q g4.fh (a2.mono (g3.ff.trans g4.ff)) a4 e6 λF5 H5 w5 g5 a5=>q F5 H5 w5 ((g123.trans g4).trans g5) a5
 | false =>
  rw[t6 u7]at e ⊢
  cases e
  exact q F3 H3 _ g123 .bl
theorem zh8 {op op':CmpOp}{r r':R2}{g g':D->D->Option D}{f h k:Ev->Option D}(ho:OpR X (compareOp op) r)(ho':OpR X (compareOp op') r')(hg:OpD r g)(hg':OpD r' g')(ha:ED X a f)(hb:ED X b h)(hc:ED X c k)
 (pch:∀ {ta tb tc:TE},PE X a ta->PE X b tb->PE X c tc->PE X (.Compare a [op,op'] [b,c] pos) (zfU r r' ta tb tc)):ED X (.Compare a [op,op'] [b,c] pos) (wP g g' f h k) :=
 let ⟨_,pa,ra⟩:=ha
 let ⟨_,pb,rb⟩:=hb
 let ⟨_,pc,rc⟩:=hc
 ⟨_,pch pa pb pc,zim hg hg' ra rb rc⟩
def zdK:List D->Option (List Int)
 | []=>some []
 | .int b::ds=>(zdK ds).map (b::·)
 | _=>none
omit [KK] in
theorem VU:∀ {ds:List D} {bs:List Int},zdK ds=some bs->ds=bs.map .int
 | [],bs,h=>by cases h;rfl
 | d::ds,bs,h=>by
  cases d <;> try cases h
  obtain⟨cs,h1,rfl⟩:=u8.mp h
  rw[VU h1]
  rfl
def leT:D->D->Option D
 | .tup a,.tup b=>(zdK a).bind λns=>(zdK b).map λms=>.bl (HT.lexLe ns ms)
 | _,_=>none
theorem zkL {K:W.Frag}:OpD (rLeT K) leT:=by
 intro F H x y d e z Q s ax ay ez q
 cases d <;> try cases ez
 cases e <;> try cases ez
 obtain⟨ns,e1,e2⟩:=u3.mp ez
 obtain⟨ms,e3,rfl⟩:=u8.mp e2
 rw[VU e1]at ax
 rw[VU e3]at ay
 obtain⟨p,xs,rfl,hx,al⟩:=ax.tup_inv
 obtain⟨p2,ys,rfl,hy,bl⟩:=ay.tup_inv
 cases al.of_ints
 cases bl.of_ints
 exact⟨p,p2,ns,ms,rfl,rfl,SqT.of (s _ _ hx),SqT.of (s _ _ hy),q F H _ (.refl s) .bl⟩
def ixD:D->D->Option D
 | .lst ds,.int i=>atI ds i
 | .tup ds,.int i=>atI ds i
 | .scr ns,.int i=>(atI ns i).map .int
 | _,_=>none
theorem AtL.atI {F:Hp}{ds:List D}{xs:List V}{i:Int}{d:D}(al:AtL F ds xs)(h:L2.atI ds i=some d):∃ x,L2.atI xs i=some x/\At F d x:=by
 unfold L2.atI at h ⊢
 obtain⟨j,e1,e2⟩:=u3.mp h
 obtain⟨x,hx,ax⟩:=al.get e2
 exact⟨x,by rw[al.length,e1];exact hx,ax⟩
theorem zlK:OpD (rIx KK.K) ixD:=by
 intro F H x y d e z Q s ax ay ez q
 cases e <;> try (cases d <;> cases ez)
 cases ay.int_inv
 cases d with
 | lst ds =>
  obtain⟨p,xs,rfl,hx,al⟩:=ax.lst_inv
  obtain⟨v,e1,av⟩:=al.atI ez
  exact .inl ⟨p,xs,_,v,rfl,rfl,SqL.of (s _ _ hx),e1,q F H _ (.refl s) av⟩
 | tup ds =>
  obtain⟨p,xs,rfl,hx,al⟩:=ax.tup_inv
  obtain⟨v,e1,av⟩:=al.atI ez
  exact .inr (.inl ⟨p,xs,_,v,rfl,rfl,SqT.of (s _ _ hx),e1,q F H _ (.refl s) av⟩)
 | scr ns =>
  obtain⟨p,rfl,hx⟩:=ax.scr_inv
  obtain⟨n,e1,rfl⟩:=u8.mp ez
  refine .inl ⟨p,ns.map V.int,_,.int n,rfl,rfl,s.seq hx,?_,q F H _ (.refl s) .int⟩
  unfold L2.atI at e1 ⊢
  rw[u6]
  obtain⟨j,e2,e3⟩:=u3.mp e1
  rw[e2]
  show(ns.map V.int)[j]?=_
  rw[j5,e3]
  rfl
 | _=>cases ez
theorem zA {f h:Ev->Option D}(ha:ED X a f)(hb:ED X b h)(hs:zfu b)(hK:X.K=KK.K:=by rfl):ED X (.Subscript a b pos) (zm ixD f h) :=
 let ⟨_,pa,ra⟩:=ha
 let ⟨_,pb,rb⟩:=hb
 ⟨_,znA zmk pa pb hs,zh4 (by rw[hK];exact zlK) ra rb⟩
def zfc {α:Type}(xs:List α)(lo hi:Option Int):List α:=(xs.drop (HT.sIx xs.length 0 lo)).take (HT.sIx xs.length xs.length hi - HT.sIx xs.length 0 lo)
theorem AtL.cut {F:Hp}{ds:List D}{xs:List V}{lo hi:Option Int}(al:AtL F ds xs):AtL F (zfc ds lo hi) (zcR xs lo hi):=by
 unfold zfc zcR
 rw[al.length]
 exact(al.drop _).take _
def OD (X:Cx)(e:Option Expr)(f:Ev->Option (Option Int)):Prop:=∃ t,PO X e t/\∀ (σ:St) (ρ:Ev) (F H:Hp) (i:Option Int) (Q:Option Int->Hp->Prop),xj F H->VAt F ρ σ->f ρ=some i->(∀ F' H',Gr F H F' H'->Q i H')->t σ H Q
def Wm:Ev->Option (Option Int):=λ_=>some none
def asI:D->Option Int
 | .int i=>some i
 | _=>none
def YI (f:Ev->Option D):Ev->Option (Option Int):=fun ρ=>((f ρ).bind asI).map some
theorem zfN {f:Ev->Option D}(h:ED X e f):OD X (some e) (YI f):=by
 obtain⟨t,p,r⟩:=h
 refine⟨_,zjL p,fun σ ρ F H i Q s va e q=>?_⟩
 obtain⟨j,e1,rfl⟩:=u8.mp e
 obtain⟨d,e1,e2⟩:=u3.mp e1
 cases d <;> cases e2
 exact r σ ρ F H _ _ s va e1 λF1 H1 v g1 a1=>⟨_,a1.int_inv,q F1 H1 g1⟩
def slD:D->Option Int->Option Int->Option D
 | .lst ds,lo,hi=>some (.lst (zfc ds lo hi))
 | .scr ns,lo,hi=>some (.lst ((zfc ns lo hi).map .int))
 | .tup ds,lo,hi=>some (.tup (zfc ds lo hi))
 | _,_,_=>none
def eSl (g:D->Option Int->Option Int->Option D)(f:Ev->Option D)(l h:Ev->Option (Option Int)):Ev->Option D:=fun ρ=>(f ρ).bind λd=>(l ρ).bind λlo=>(h ρ).bind λhi=>g d lo hi
omit [KK] in
theorem zid {ns:List Int}{lo hi:Option Int}:zcR (ns.map V.int) lo hi=(zfc ns lo hi).map V.int:=by
 unfold zcR zfc
 rw[u6,List.map_take,List.map_drop]
end
end Dl
namespace L2
open PySem PySem.Spec PyProof.Rows
def rSlN:V->Option Int->Option Int->Hp->VK->Prop:=λx lo hi H Q=>∃ a xs,x=.ref a/\H a=some (.tup xs)/\(zcR xs lo hi=xs->Q (.ref a) H)/\∀ p,H p=none->Q (.ref p) (upd H p (.tup (zcR xs lo hi)))
theorem zjX {X:Cx}:SlR X rSlN:=by
 intro pins s σ H x v vl vu lo hi sl Q I rx hs pl pu h
 obtain⟨a,xs,rfl,hx,q1,q2⟩:=h
 by_cases hw:HT.sIx xs.length 0 lo=0/\HT.sIx xs.length xs.length hi=xs.length
 .cases rx
  obtain⟨its,r,ht,hz⟩:=I.tuple (SqT.of hx)
  have hlen:its.toArray.size=xs.length:=by rw[t7];exact r.length.symm
  refine⟨"tuple",_,u0b.lookup,ht.typeIs,?_⟩
  refine HT.own_getItem_whole ht hs pl pu (by rw[hlen];exact hw) ⟨.ref a,H,I,rfl,q1 ?_⟩
  unfold zcR
  rw[hw.1,hw.2,List.drop_zero,Nat.sub_zero,u01]
 .exact zlb pins s σ H (.ref a) v vl vu lo hi sl Q I rx hs pl pu ⟨a,xs,rfl,SqT.of hx,hw,q2⟩
end L2
namespace Dl
open PySem L2
variable [KK]
section
variable {X:Cx}{a b c e:Expr}{pos:Pos}
theorem zhQ {lo hi:Option Expr}{p2:Pos}{f:Ev->Option D}{l h:Ev->Option (Option Int)}(ha:ED X a f)(hl:OD X lo l)(hh:OD X hi h)(hK:X.K=KK.K:=by rfl):ED X (.Subscript a (.Slice lo hi none p2) pos) (eSl slD f l h):=by
 obtain⟨ta,pa,ra⟩:=ha
 obtain⟨tl,ppl,rl⟩:=hl
 obtain⟨th,ph,rh⟩:=hh
 refine⟨_,ziP (zkO.or zjX) pa ppl ph,fun σ ρ F H z Q s va e q=>?_⟩
 obtain⟨d,e1,e⟩:=u3.mp e
 obtain⟨i,e2,e⟩:=u3.mp e
 obtain⟨j,e3,e⟩:=u3.mp e
 refine ra σ ρ F H d _ s va e1 λF1 H1 v g1 a1=>?_
 refine rl σ ρ F1 H1 i _ g1.fh (va.mono g1.ff) e2 λF2 H2 g2=>?_
 refine rh σ ρ F2 H2 j _ g2.fh (va.mono (g1.ff.trans g2.ff)) e3 λF3 H3 g3=>?_
 have g123:=(g1.trans g2).trans g3
 have a3:=a1.mono (g2.ff.trans g3.ff)
 cases d <;> try cases e
 .obtain⟨p,xs,rfl,hx,al⟩:=a3.tup_inv
  refine .inr ⟨p,xs,rfl,g3.fh _ _ hx,λec=>?_,λr hr=>?_⟩
  .have:=al.cut (lo:=i) (hi:=j)
   rw[ec]at this
   exact q F3 H3 _ g123 (.tup hx this)
  .have g:=Gr.alloc g3.fh hr (.tup (zcR xs i j))
   exact q _ _ _ (g123.trans g) (.tup zx (al.cut.mono g.ff))
 .obtain⟨p,xs,rfl,hx,al⟩:=a3.lst_inv
  refine .inl ⟨p,xs,rfl,SqL.of (g3.fh _ _ hx),λr hr=>?_⟩
  have g:=Gr.alloc g3.fh hr (.lst (zcR xs i j))
  exact q _ _ _ (g123.trans g) (.lst zx (al.cut.mono g.ff))
 .rename_i ns _ _
  obtain⟨p,rfl,hx⟩:=a3.scr_inv
  refine .inl ⟨p,_,rfl,(by rw[hK];exact g3.fh.seq hx),λr hr=>?_⟩
  rw[zid]
  have g:=Gr.alloc g3.fh hr (.lst ((zfc ns i j).map V.int))
  exact q _ _ _ (g123.trans g) (.lst zx (.ints _))
def CaD (r:List V->Hp->VK->Prop)(g:List D->Option D):Prop:=∀ (F H:Hp) (vs:List V) (ds:List D) (z:D) (Q:VK),xj F H->AtL F ds vs->g ds=some z->(∀ F' H' v,Gr F H F' H'->At F' z v->Q v H')->r vs H Q
def eFn (g:List D->Option D)(f:Ev->Option (List D)):Ev->Option D:=fun ρ=>(f ρ).bind g
def fFn (g:List D->Option (List D))(f:Ev->Option (List D)):Ev->Option (List D):=fun ρ=>(f ρ).bind g
theorem zH {x:Str}{id:String}{p:Pos}{es:List Expr}{r:List V->Hp->VK->Prop}{g:List D->Option D}{f:Ev->Option (List D)}(hc:ZG X (.builtin id) r)(hg:CaD r g)(hgl:Gl X x)(hm:X.mg x=none)(hv:bootBuiltins x=some (.builtin id))(ha:AD X (e::es) f)
 (hn:x≠"__name__":=by decide) (hdb:(x == ("__debug__":Str))=false:=by decide) (he:starEach (e::es) X.env=(false,eval e X.env)::starEach es X.env:=by rfl) (hpl:(backTo pos (starEach es X.env)).any (·.1)=false:=by rfl) :
 ED X (.Call (.Name x p) (e::es) [] pos) (eFn g f):=by
 obtain⟨t,pa,ra⟩:=ha
 refine⟨_,zaT hc hgl hm hv pa hn hdb he hpl,fun σ ρ F H z Q s va e q=>?_⟩
 obtain⟨ds,e1,e2⟩:=u3.mp e
 refine ra σ ρ F H ds _ s va e1 λF1 H1 vs g1 a1=>?_
 exact hg F1 H1 vs ds z Q g1.fh a1 e2 λF' H' v g av=>q F' H' v (g1.trans g) av
theorem yI {x:Str}{T:String}{p:Pos}{es:List Expr}{r:List V->Hp->VK->Prop}{g:List D->Option D}{f:Ev->Option (List D)}(hc:ZG X (.type T) r)(hg:CaD r g)(hgl:Gl X x)(hm:X.mg x=none)(hv:bootBuiltins x=some (.type T))(ha:AD X (e::es) f)
 (hn:x≠"__name__":=by decide) (hdb:(x == ("__debug__":Str))=false:=by decide) (he:starEach (e::es) X.env=(false,eval e X.env)::starEach es X.env:=by rfl) (hpl:(backTo pos (starEach es X.env)).any (·.1)=false:=by rfl) :
 ED X (.Call (.Name x p) (e::es) [] pos) (eFn g f):=by
 obtain⟨t,pa,ra⟩:=ha
 refine⟨_,zb0 hc hgl hm hv pa hn hdb he hpl,fun σ ρ F H z Q s va e q=>?_⟩
 obtain⟨ds,e1,e2⟩:=u3.mp e
 refine ra σ ρ F H ds _ s va e1 λF1 H1 vs g1 a1=>?_
 exact hg F1 H1 vs ds z Q g1.fh a1 e2 λF' H' v g av=>q F' H' v (g1.trans g) av
def We:List D->Option D
 | [.lst ds]=>some (.int ds.length)
 | [.tup ds]=>some (.int ds.length)
 | [.scr ds]=>some (.int ds.length)
 | _=>none
theorem vx:CaD (λxs H Q=>∃ p ys,xs=[.ref p]/\(SqL KK.K H p ys\/SqT KK.K H p ys)/\Q (.int ys.length) H) We:=by
 intro F H vs ds z Q s al e q
 unfold We at e
 split at e <;> cases e
 all_goals
  obtain⟨x,r,rfl,ax,ar⟩:=al.cons_inv
  cases ar.nil_inv
 .obtain⟨p,xs,rfl,hx,bl⟩:=ax.lst_inv
  exact⟨p,xs,rfl,.inl (SqL.of (s _ _ hx)),by rw[bl.length];exact q F H _ (.refl s) .int⟩
 .obtain⟨p,xs,rfl,hx,bl⟩:=ax.tup_inv
  exact⟨p,xs,rfl,.inr (SqT.of (s _ _ hx)),by rw[bl.length];exact q F H _ (.refl s) .int⟩
 .obtain⟨p,rfl,hx⟩:=ax.scr_inv
  exact⟨p,_,rfl,.inl ((s.seq hx)),by rw[u6];exact q F H _ (.refl s) .int⟩
def zex:List D->Option D
 | [.int i,.int j]=>some (.int (if j > i then j else i))
 | _=>none
def zgN:List D->Option D
 | [.int i,.int j]=>some (.int (if j < i then j else i))
 | _=>none
theorem zd0 {g:Int->Int->Int}:CaD (λxs H Q=>∃ i j,xs=[.int i,.int j]/\Q (.int (g i j)) H) (λds=>match ds with | [.int i,.int j]=>some (.int (g i j)) | _=>none):=by
 intro F H vs ds z Q s al e q
 dsimp only at e
 split at e <;> cases e
 obtain⟨x,r,rfl,ax,ar⟩:=al.cons_inv
 obtain⟨y,r,rfl,ay,ar⟩:=ar.cons_inv
 cases ar.nil_inv
 exact⟨_,_,by rw[ax.int_inv,ay.int_inv],q F H _ (.refl s) .int⟩
theorem zaY:CaD (λxs H Q=>∃ i j,xs=[.int i,.int j]/\Q (.int (if j > i then j else i)) H) zex:=zd0 (g:=λi j=>if j > i then j else i)
theorem za2:CaD (λxs H Q=>∃ i j,xs=[.int i,.int j]/\Q (.int (if j < i then j else i)) H) zgN:=zd0 (g:=λi j=>if j < i then j else i)
def ym:List D->Option D
 | [.lst ds]=>some (.tup ds)
 | [.tup ds]=>some (.tup ds)
 | _=>none
theorem xK {K:W.Frag}:CaD (λxs H Q=>∃ p ys,xs=[.ref p]/\((SqL K H p ys/\∀ l,H l=none->Q (.ref l) (upd H l (.tup ys)))\/(SqT K H p ys/\Q (.ref p) H))) ym:=by
 intro F H vs ds z Q s al e q
 unfold ym at e
 split at e <;> cases e
 all_goals
  obtain⟨x,r,rfl,ax,ar⟩:=al.cons_inv
  cases ar.nil_inv
 .obtain⟨p,xs,rfl,hx,bl⟩:=ax.lst_inv
  refine⟨p,xs,rfl,.inl ⟨SqL.of (s _ _ hx),λl hl=>?_⟩⟩
  have g:=Gr.alloc s hl (.tup xs)
  exact q _ _ _ g (.tup zx (bl.mono g.ff))
 .obtain⟨p,xs,rfl,hx,bl⟩:=ax.tup_inv
  exact⟨p,xs,rfl,.inr ⟨SqT.of (s _ _ hx),q F H _ (.refl s) (.tup hx bl)⟩⟩
def Xa:List D->Option (List D)
 | [.lst ds]=>some ds
 | [.tup ds]=>some ds
 | [.scr ns]=>some (ns.map .int)
 | _=>none
theorem zkr {p:Pos} {f:Ev->Option (List D)} (hgl:Gl X "list") (hm:X.mg "list"=none) (ha:AD X [e] f) (hK:X.K=KK.K:=by rfl)
 (he:starEach [e] X.env=(false,eval e X.env)::starEach [] X.env:=by rfl) (hpl:(backTo pos (starEach [] X.env)).any (·.1)=false:=by rfl):FL X (.Call (.Name "list" p) [e] [] pos) (fFn Xa f):=by
 obtain⟨t,pa,ra⟩:=ha
 refine⟨_,zb0 zb1 hgl hm zgU pa (by decide) (by decide) he hpl,fun σ ρ F H z Q s va e q=>?_⟩
 obtain⟨ds,e1,e2⟩:=u3.mp e
 refine ra σ ρ F H ds _ s va e1 λF1 H1 vs g1 a1=>?_
 unfold Xa at e2
 split at e2 <;> cases e2
 all_goals
  obtain⟨x,r,rfl,ax,ar⟩:=a1.cons_inv
  cases ar.nil_inv
 .obtain⟨p,xs,rfl,hx,bl⟩:=ax.lst_inv
  exact⟨p,xs,rfl,.inl (SqL.of (g1.fh _ _ hx)),λl hl=>q _ _ _ _ (g1.trans (Gr.hide g1.fh hl _)) (zbV g1 hl) (g1.fh.free hl) zx bl⟩
 .obtain⟨p,xs,rfl,hx,bl⟩:=ax.tup_inv
  exact⟨p,xs,rfl,.inr (SqT.of (g1.fh _ _ hx)),λl hl=>q _ _ _ _ (g1.trans (Gr.hide g1.fh hl _)) (zbV g1 hl) (g1.fh.free hl) zx bl⟩
 .obtain⟨p,rfl,hx⟩:=ax.scr_inv
  exact⟨p,_,rfl,.inl (by rw[hK];exact g1.fh.seq hx),λl hl=>q _ _ _ _ (g1.trans (Gr.hide g1.fh hl _)) (zbV g1 hl) (g1.fh.free hl) zx (.ints _)⟩
inductive TyD (K:W.Frag) (H:Hp):V->Value->Prop where
 | of {v:V} {t:Value} (h:zdY K H v t):TyD K H v t
 | dd {a:Addr} {u:HO} (h:Rd H a u) (d:(∃ kvs,u=.dK kvs)\/∃ kvs,u=.dT kvs):TyD K H (.ref a) (.type "dict")
theorem zbK {X:Cx}:ZG X (.builtin "isinstance") (λxs H Q=>∃ x n t b,xs=[x,.ty n]/\TyD X.K H x t/\W.kitOne X.K t (.type n)=some b/\Q (.bl b) H):=by
 intro pins s σ H xs us Q I r h
 obtain⟨x,n,t,b,rfl,ty,e,q⟩:=h
 cases ty with
 | of ty=>exact zdk pins s σ H _ us Q I r ⟨x,n,t,b,rfl,ty,e,q⟩
 | @dd a u h d =>
  cases r with
  | cons r1 r2 =>
   cases r2 with
   | cons r3 r4 =>
    cases r4
    cases r1
    cases r3
    have ok:=h.ok I.hok
    rcases d with ⟨kvs,rfl⟩ | ⟨kvs,rfl⟩
    .obtain⟨_,_,vs,_,p⟩:=(show xR X.prog X.w H s.heap a (.dK kvs)from ok)
     obtain⟨o,es,ep,h1,h2,_⟩:=p
     exact u0k u1T I.kIn ⟨o,h1,h2.1⟩ e (λz=>nomatch z) λtk=>⟨.bl b,H,I.tok tk,rfl,q⟩
    .obtain⟨_,_,xs,_,o,es,ep,h1,h2,_⟩:=(show xR X.prog X.w H s.heap a (.dT kvs)from ok)
     exact u0k u1T I.kIn ⟨o,h1,h2.1⟩ e (λz=>nomatch z) λtk=>⟨.bl b,H,I.tok tk,rfl,q⟩
theorem At.ty {K:W.Frag}{F H:Hp}(s:xj F H):∀ {d:D} {v:V},At F d v->(∀ ns,d≠.scr ns)->TyD K H v (.type (tyN d))
 | .non,_,h,_=>by cases h.non_inv;exact .of .non
 | .bl b,_,h,_=>by cases h.bl_inv;exact .of (.bl b)
 | .int i,_,h,_=>by cases h.int_inv;exact .of (.int i)
 | .str x,_,h,_=>by cases h.str_inv;exact .of (.str x)
 | .tup ds,_,h,_=>by obtain⟨a,xs,rfl,e,_⟩:=h.tup_inv;exact .of (.tup (s _ _ e))
 | .lst ds,_,h,_=>by obtain⟨a,xs,rfl,e,_⟩:=h.lst_inv;exact .of (.lst (s _ _ e))
 | .scr ns,_,_,n=>absurd rfl (n ns)
 | .dct z t ks vs,_,h,_=>by
  obtain⟨a,xs,rfl,d,_⟩:=h.dct_inv
  obtain⟨u,e1,e2⟩:=(d.mono s).rd
  exact .dd e2 (by
   unfold zmx at e1
   split at e1
   .obtain⟨kvs,rfl,_⟩:=e1;exact .inr ⟨kvs,rfl⟩
   .obtain⟨kvs,rfl,_⟩:=e1;exact .inl ⟨kvs,rfl⟩)
inductive Ty where
 | int | bool | tuple | list | str
def Ty.nm:Ty->String
 | .int=>"int" | .bool=>"bool" | .tuple=>"tuple" | .list=>"list" | .str=>"str"
def isT:Ty->D->Bool
 | .int,.int _=>true | .int,.bl _=>true
 | .bool,.bl _=>true
 | .tuple,.tup _=>true
 | .list,.lst _=>true
 | .str,.str _=>true
 | _,_=>false
def vH (n:Ty):D->Option D
 | .scr _=>none
 | d=>some (.bl (isT n d))
theorem zkY (K:W.Frag)(n:Ty)(d:D)(h:∀ ns,d≠.scr ns):W.kitOne K (.type (tyN d)) (.type n.nm)=some (isT n d):=by
 cases n <;> cases d <;> first | exact absurd rfl (h _) | kernel_rfl
theorem ww {p:Pos} {f:Ev->Option D} (n:Ty) (hgl:Gl X "isinstance") (hm:X.mg "isinstance"=none) (ha:ED X a f) (hb:PE X b (tC (.ty n.nm)))
 (hs:starEach [a,b] X.env=(false,eval a X.env)::starEach [b] X.env:=by rfl) (hs2:starEach [b] X.env=(false,eval b X.env)::starEach [] X.env:=by rfl) (hpl:(backTo pos (starEach [b] X.env)).any (·.1)=false:=by rfl) :
 ED X (.Call (.Name "isinstance" p) [a,b] [] pos) (eUn (vH n) f):=by
 obtain⟨t,pa,ra⟩:=ha
 refine⟨_,zaT zbK hgl hm zbx (Zm pa (Zm hb zaB hs2) hs) (by decide) (by decide) hs hpl,fun σ ρ F H z Q s va e q=>?_⟩
 obtain⟨d,e1,e2⟩:=u3.mp e
 refine ra σ ρ F H d _ s va e1 λF1 H1 v g1 a1=>?_
 have ns:∀ ns,d≠.scr ns:=λns h=>by subst h;cases e2
 have e3:z=.bl (isT n d):=by
  cases d <;> first | exact(u0j e2).symm | exact absurd rfl (ns _)
 subst e3
 exact⟨v,n.nm,_,_,rfl,a1.ty g1.fh ns,zkY _ n d ns,q F1 H1 _ g1 .bl⟩
def WW (m:Bool)(i:Nat)(f:Ev->Option D):SE->Ctl:=fun ρ=>match (vEv m f ρ).bind λd=>match ρ[i]? with
 | some (.o ds)=>if decide (ds.length < sizeLine)=true then some (ρ.set i (.o (ds++[d])))else none
 | _=>none with
 | some ρ'=>.nx ρ'
 | none=>.no
theorem WL {m:Bool}{i:Nat}{p pos':Pos}{f:Ev->Option D}(ho:PE X a (zhK i))(he:ED X e f)
 (hp:∀ {ta:TE} {t:TA},PE X a ta->PA X [e] t->PE X (.Call (.Attribute a "append" p) [e] [] pos') (tBM X.K "list" zgF ta t)) (hsw:swapsWith (.Call (.Attribute a "append" p) [e] [] pos') none pos.line X.env=pure false:=by rfl)
 (hs:starEach [e] X.env=(false,eval e X.env)::starEach [] X.env:=by rfl):SD X (.Expr (.Call (.Attribute a "append" p) [e] [] pos') pos) (WW m i f):=by
 obtain⟨t,pe,re⟩:=he
 refine⟨_,zbg (hp ho (Zm pe zaB hs)) hsw,λFb Hb F H ρ σ E rl k=>?_⟩
 unfold WW at k
 cases h:(vEv m f ρ).bind λd=>match ρ[i]? with
  | some (.o ds)=>if decide (ds.length < sizeLine)=true then some (ρ.set i (.o (ds++[d])))else none
  | _=>none with
 | none=>rw[h]at k;exact k.elim
 | some ρ' =>
  rw[h]at k
  obtain⟨d,e1,e2⟩:=u3.mp h
  cases hs:ρ[i]? with
  | none=>rw[hs]at e2;cases e2
  | some sl =>
   rw[hs]at e2
   cases sl with
   | no=>cases e2
   | v _=>cases e2
   | m _ _ _=>cases e2
   | o ds =>
    dsimp only at e2
    split at e2 <;> cases e2
    rename_i hl
    obtain⟨q,xs,f1,f2,f3,f4,f5⟩:=rl.owns i ds hs
    refine⟨_,f1,.inl ⟨rfl,xs,SqL.of f4⟩,?_⟩
    refine re.at rl e1 λF' H' v g av=>?_
    have rl2:=rl.grow g
    obtain⟨q2,xs2,f1',_,_,f4',f5'⟩:=rl2.owns i ds hs
    rw[f1]at f1'
    cases f1'
    refine⟨q,xs2,v,rfl,rfl,f4',by rw[f5'.length];exact o0 hl,?_⟩
    exact k _ _ σ (rl2.mutate hs f1 (f5'.snoc av))
def zbH (i:Nat)(f:Ev->Option D):SE->Ctl:=fun ρ=>match (f (visF ρ)).bind λd=>match ρ[i]?,d with
 | some (.o ds),.lst es=>if lim (ds.length+es.length)=true then some (ρ.set i (.o (ds++es)))else none
 | _,_=>none with
 | some ρ'=>.nx ρ'
 | none=>.no
theorem zly {i:Nat}{p pos':Pos}{f:Ev->Option D}(ho:PE X a (zhK i))(he:ED X e f)
 (hp:∀ {ta:TE} {t:TA},PE X a ta->PA X [e] t->PE X (.Call (.Attribute a "extend" p) [e] [] pos') (tBM X.K "list" zg5 ta t)) (hsw:swapsWith (.Call (.Attribute a "extend" p) [e] [] pos') none pos.line X.env=pure false:=by rfl)
 (hs:starEach [e] X.env=(false,eval e X.env)::starEach [] X.env:=by rfl):SD X (.Expr (.Call (.Attribute a "extend" p) [e] [] pos') pos) (zbH i f):=by
 obtain⟨t,pe,re⟩:=he
 refine⟨_,zbg (hp ho (Zm pe zaB hs)) hsw,λFb Hb F H ρ σ E rl k=>?_⟩
 unfold zbH at k
 cases h:(f (visF ρ)).bind λd=>match ρ[i]?,d with
  | some (.o ds),.lst es=>if lim (ds.length+es.length)=true then some (ρ.set i (.o (ds++es)))else none
  | _,_=>none with
 | none=>rw[h]at k;exact k.elim
 | some ρ' =>
  rw[h]at k
  obtain⟨d,e1,e2⟩:=u3.mp h
  cases hs:ρ[i]? with
  | none=>rw[hs]at e2;cases e2
  | some sl =>
   rw[hs]at e2
   cases sl with
   | no=>cases e2
   | v _=>cases e2
   | m _ _ _=>cases e2
   | o ds =>
    cases d with
    | lst es =>
     dsimp only at e2
     split at e2 <;> cases e2
     rename_i hl
     obtain⟨q,xs,f1,f2,f3,f4,f5⟩:=rl.owns i ds hs
     refine⟨_,f1,.inl ⟨rfl,xs,SqL.of f4⟩,?_⟩
     refine re σ _ _ H _ _ rl.gr.fh rl.visF e1 λF' H' v g av=>?_
     have rl2:=rl.grow g
     obtain⟨q2,xs2,f1',_,_,f4',f5'⟩:=rl2.owns i ds hs
     rw[f1]at f1'
     cases f1'
     obtain⟨pb,zs,rfl,hz,bl⟩:=av.lst_inv
     refine⟨q,pb,xs2,zs,rfl,rfl,f4',g.fh _ _ hz,by rw[f5'.length,bl.length];exact o0 hl,?_⟩
     exact k _ _ σ (rl2.mutate hs f1 (f5'.append bl))
    | _=>cases e2
end
end Dl
namespace Dl
open PySem L2
variable [KK]
def okE:Nat->D->Bool
 | _,.scr _=>false
 | _,.dct _ _ _ _=>false
 | 0,.tup _=>false
 | 0,.lst _=>false
 | n+1,.tup ds=>ds.all (okE n)
 | n+1,.lst ds=>ds.all (okE n)
 | _,_=>true
def eqN:Nat->D->D->Bool
 | _,.non,.non=>true
 | _,.bl a,.bl b=>a == b
 | _,.bl a,.int b=>(if a then 1 else 0) == b
 | _,.int a,.bl b=>a == (if b then 1 else 0)
 | _,.int a,.int b=>a == b
 | _,.str a,.str b=>a == b
 | n+1,.tup a,.tup b=>(List.zipWith (eqN n) a b).all id&&a.length == b.length
 | n+1,.lst a,.lst b=>(List.zipWith (eqN n) a b).all id&&a.length == b.length
 | _,_,_=>false
omit [KK] in
theorem zcO {n:Nat}:∀ (a b:List D),(List.zipWith (eqN n) a b).all id=(List.range (min a.length b.length)).all λj=>eqN n (a.getD j .non) (b.getD j .non):=by
 intro a b
 have:List.zipWith (eqN n) a b=(List.range (min a.length b.length)).map λj=>eqN n (a.getD j .non) (b.getD j .non):=by
  apply u2c
  .simp
  .intro i h1 h2
   simp at h1 h2
   have g1:i < a.length:=j7 h1 (Nat.min_le_left _ _)
   have g2:i < b.length:=j7 h1 (u25 _ _)
   simp[g1,g2]
 rw[this,u1A]
 rfl
omit [KK] in
def vOf:D->V
 | .bl b=>.bl b
 | .int i=>.int i
 | .str t=>.str t
 | _=>.non
theorem wL {F:Hp}{d:D}{x:V}(h:okE 0 d=true)(a:At F d x):x=vOf d:=by
 cases d with
 | non=>exact a.non_inv
 | bl b=>exact a.bl_inv
 | int b=>exact a.int_inv
 | str b=>exact a.str_inv
 | _=>cases h
omit [KK] in
theorem W8 {d:D}(h:okE 0 d=true):zjI (vOf d)=true:=by
 cases d <;> first | rfl | cases h
omit [KK] in
theorem zaM {d:D}{p:Addr}(h:okE 0 d=true)(e:vOf d=.ref p):False:=by
 cases d <;> first | (cases h;done) | (cases e;done)
def dOfV:V->D
 | .bl b=>.bl b
 | .int i=>.int i
 | .str t=>.str t
 | _=>.non
omit [KK] in
theorem zfY {d:D}(h:okE 0 d=true):dOfV (vOf d)=d:=by
 cases d <;> first | rfl | (cases h;done)
omit [KK] in
theorem zgf {d e:D}(h1:okE 0 d=true)(h2:okE 0 e=true)(h:vOf d=vOf e):d=e:=by
 rw[<-zfY h1,h,zfY h2]
omit [KK] in
theorem wz {n:Nat}{d:D}(h:okE (n+1) d=true):okE 0 d=true\/(∃ ds,d=.tup ds/\ds.all (okE n)=true)\/∃ ds,d=.lst ds/\ds.all (okE n)=true:=by
 cases d with
 | tup ds=>exact .inr (.inl ⟨ds,rfl,h⟩)
 | lst ds=>exact .inr (.inr ⟨ds,rfl,h⟩)
 | scr _=>cases h
 | dct _ _ _ _=>cases h
 | _=>exact .inl rfl
theorem zgB {F:Hp}{n:Nat}(ih:∀ {d e:D} {v:V},okE n d=true->okE n e=true->At F d v->At F e v->d=e):∀ {xs:List V} {ds es:List D},ds.all (okE n)=true->es.all (okE n)=true->AtL F ds xs->AtL F es xs->ds=es:=by
 intro xs
 induction xs with
 | nil =>
  intro ds es _ _ a1 a2
  exact(u0I.mp a1.length.symm).trans (u0I.mp a2.length.symm).symm
 | cons x xs ih2 =>
  intro ds es h1 h2 a1 a2
  cases ds with
  | nil=>cases a1.nil_inv
  | cons d ds=>cases es with
   | nil=>cases a2.nil_inv
   | cons e es =>
    obtain⟨y,r,e1,b1,c1⟩:=a1.cons_inv
    obtain⟨y2,r2,e2,b2,c2⟩:=a2.cons_inv
    cases e1
    cases e2
    rw[u2o,b7]at h1 h2
    rw[ih2 h1.2 h2.2 c1 c2,ih h1.1 h2.1 b1 b2]
theorem zjd {F:Hp}:∀ (n:Nat) {d e:D} {v:V},okE n d=true->okE n e=true->At F d v->At F e v->d=e:=by
 intro n
 induction n with
 | zero =>
  intro d e v h1 h2 a1 a2
  exact zgf h1 h2 ((wL h1 a1).symm.trans (wL h2 a2))
 | succ n ih =>
  intro d e v h1 h2 a1 a2
  rcases wz h1 with f1 | ⟨ds,rfl,k1⟩ | ⟨ds,rfl,k1⟩
  .have e1:=wL f1 a1
   rcases wz h2 with f2 | ⟨es,rfl,_⟩ | ⟨es,rfl,_⟩
   .exact zgf f1 f2 (e1.symm.trans (wL f2 a2))
   .obtain⟨p,xs,e2,_⟩:=a2.tup_inv
    exact(zaM f1 (e1.symm.trans e2)).elim
   .obtain⟨p,xs,e2,_⟩:=a2.lst_inv
    exact(zaM f1 (e1.symm.trans e2)).elim
  .obtain⟨p,xs,e0,hx,al⟩:=a1.tup_inv
   rcases wz h2 with f2 | ⟨es,rfl,k2⟩ | ⟨es,rfl,k2⟩
   .exact(zaM f2 ((wL f2 a2).symm.trans e0)).elim
   .obtain⟨q,ys,e1,hy,bl⟩:=a2.tup_inv
    cases e0.symm.trans e1
    cases hx.symm.trans hy
    rw[zgB ih k1 k2 al bl]
   .obtain⟨q,ys,e1,hy,bl⟩:=a2.lst_inv
    cases e0.symm.trans e1
    cases hx.symm.trans hy
  .obtain⟨p,xs,e0,hx,al⟩:=a1.lst_inv
   rcases wz h2 with f2 | ⟨es,rfl,k2⟩ | ⟨es,rfl,k2⟩
   .exact(zaM f2 ((wL f2 a2).symm.trans e0)).elim
   .obtain⟨q,ys,e1,hy,bl⟩:=a2.tup_inv
    cases e0.symm.trans e1
    cases hx.symm.trans hy
   .obtain⟨q,ys,e1,hy,bl⟩:=a2.lst_inv
    cases e0.symm.trans e1
    cases hx.symm.trans hy
    rw[zgB ih k1 k2 al bl]
omit [KK] in
theorem ziJ:∀ (n:Nat) {d:D},okE n d=true->eqN n d d=true:=by
 intro n
 induction n with
 | zero =>
  intro d h
  cases d with
  | tup _=>cases h
  | lst _=>cases h
  | scr _=>cases h
  | dct _ _ _ _=>cases h
  | _=>first | rfl | exact j8 rfl | exact u02 _
 | succ n ih =>
  have ihl:∀ {ds:List D},ds.all (okE n)=true->(List.zipWith (eqN n) ds ds).all id=true:=by
   intro ds
   induction ds with
   | nil=>intro _;rfl
   | cons d ds ih2 =>
    intro h
    rw[u2o,b7]at h
    rw[List.zipWith_cons_cons,u2o,ih2 h.2,u2U]
    exact ih h.1
  intro d h
  cases d with
  | tup ds=>show((List.zipWith (eqN n) ds ds).all id&&ds.length == ds.length)=true;rw[ihl h];simp
  | lst ds=>show((List.zipWith (eqN n) ds ds).all id&&ds.length == ds.length)=true;rw[ihl h];simp
  | scr _=>cases h
  | dct _ _ _ _=>cases h
  | _=>first | rfl | exact j8 rfl | exact u02 _
theorem ziZ {F:Hp}(n:Nat){d e:D}{v:V}(h1:okE n d=true)(h2:okE n e=true)(a1:At F d v)(a2:At F e v):eqN n d e=true:=by
 rw[zjd n h1 h2 a1 a2]
 exact ziJ n h2
omit [KK] in
theorem Yb {n:Nat}{ds:List D}{j:Nat}(h:ds.all (okE n)=true)(hj:j < ds.length):okE n (ds.getD j .non)=true:=by
 have:ds.getD j .non=ds[j]:=by simp[hj]
 rw[this]
 exact u0r.mp h _ (u0D hj)
theorem AtL.nth {F:Hp}{ds:List D}{xs:List V}{us:List Value}{j:Nat}(al:AtL F ds xs)(r:yl xs us)(h:j < us.length):∃ x,At F (ds.getD j .non) x/\xt x us[j]:=by
 have hl:=al.length
 have hl2:=r.length
 have hj:j < ds.length:=by omega
 obtain⟨x,hx,ax⟩:=al.get (i:=j) (d:=ds[j]) (by simp[hj])
 obtain⟨u,hu,ru⟩:=r.get hx
 refine⟨x,by rw[show ds.getD j .non=ds[j] by simp[hj]];exact ax,?_⟩
 have:us[j]?=some us[j]:=by simp[h]
 rw[hu]at this
 cases this
 exact ru
omit [KK] in
theorem zd9 {n:Nat}{d e:D}(h1:okE 0 d=true)(h2:okE 0 e=true):eqN n d e=eqV (vOf d) (vOf e):=by
 cases n <;> cases d <;> first | (cases h1;done) | skip
 all_goals cases e <;> first | (cases h2;done) | rfl
omit [KK] in
theorem zdR {n:Nat}{d:D}(ds:List D)(h:okE 0 d=true):eqN (n+1) d (.tup ds)=false/\eqN (n+1) d (.lst ds)=false/\eqN (n+1) (.tup ds) d=false/\eqN (n+1) (.lst ds) d=false:=by
 cases d <;> first | exact⟨rfl,rfl,rfl,rfl⟩ | cases h
omit [KK] in
theorem za6 {A:Around}{s:Shared}{d:D}{u:Value}{p:Addr}{its:Array Value}(h:okE 0 d=true)(r:xt (vOf d) u)(hu:A.units < cLine) :
 (s.heap.IsTuple p its->SeqAt.EqAt A s u (.ref p) false/\SeqAt.EqAt A s (.ref p) u false)/\(s.heap.IsList p its->SeqAt.EqAt A s u (.ref p) false/\SeqAt.EqAt A s (.ref p) u false):=by
 cases d with
 | non=>cases r;exact⟨λht=>⟨.none_tuple ht hu,.tuple_none ht hu⟩,λht=>⟨.none_list ht hu,.list_none ht hu⟩⟩
 | bl b=>cases r;exact⟨λht=>⟨.bool_tuple b ht hu,.tuple_bool b ht hu⟩,λht=>⟨.bool_list b ht hu,.list_bool b ht hu⟩⟩
 | int b=>obtain⟨t,rfl⟩:=r;exact⟨λht=>⟨.int_tuple b t ht hu,.tuple_int b t ht hu⟩,λht=>⟨.int_list b t ht hu,.list_int b t ht hu⟩⟩
 | str b=>obtain⟨t,rfl⟩:=r;exact⟨λht=>⟨.str_tuple b t ht hu,.tuple_str b t ht hu⟩,λht=>⟨.str_list b t ht hu,.list_str b t ht hu⟩⟩
 | _=>cases h
theorem zaS {X:Cx}{pins:List (Addr × Obj)}{σ:St}{F H:Hp}{s:Shared}(I:Inv X pins σ H s)(sm:xj F H){ds:List D}{x:V}{u:Value}(a:At F (.tup ds) x)(r:xt x u):∃ p its xs,u=.ref p/\x=.ref p/\yl xs its/\AtL F ds xs/\s.heap.IsTuple p its.toArray:=by
 obtain⟨p,xs,rfl,hx,al⟩:=a.tup_inv
 cases r
 obtain⟨its,rv,ht,hz⟩:=I.tuple (SqT.of (sm _ _ hx))
 exact⟨p,its,xs,rfl,rfl,rv,al,ht⟩
theorem zaJ {X:Cx}{pins:List (Addr × Obj)}{σ:St}{F H:Hp}{s:Shared}(I:Inv X pins σ H s)(sm:xj F H){ds:List D}{x:V}{u:Value}(a:At F (.lst ds) x)(r:xt x u):∃ p its xs,u=.ref p/\x=.ref p/\yl xs its/\AtL F ds xs/\s.heap.IsList p its.toArray:=by
 obtain⟨p,xs,rfl,hx,al⟩:=a.lst_inv
 cases r
 obtain⟨its,rv,ht,hz⟩:=I.list (SqL.of (sm _ _ hx))
 exact⟨p,its,xs,rfl,rfl,rv,al,ht.isList⟩
omit [KK] in
theorem zf4 {n:Nat}(ds es:List D):((List.zipWith (eqN n) ds es).all id&&ds.length == es.length)=((List.range (min ds.length es.length)).all (λj=>eqN n (ds.getD j .non) (es.getD j .non))&&ds.length == es.length):=by rw[zcO]
theorem zdI {X:Cx}{pins:List (Addr × Obj)}{σ:St}{F H:Hp}{s:Shared}(I:Inv X pins σ H s)(sm:xj F H):∀ (n:Nat) {A:Around} {d e:D} {x y:V} {u v:Value},okE n d=true->okE n e=true->At F d x->At F e y->xt x u->xt y v->A.units+n < cLine->SeqAt.EqAt A s u v (eqN n d e):=by
 intro n
 induction n with
 | zero =>
  intro A d e x y u v h1 h2 a1 a2 r1 r2 hu
  cases wL h1 a1
  cases wL h2 a2
  rw[zd9 h1 h2]
  exact zju r1 r2 (W8 h1) (W8 h2)
 | succ n ih =>
  intro A d e x y u v h1 h2 a1 a2 r1 r2 hu
  have hu0:A.units < cLine:=u0f (u2g _ _) hu
  have hu1:A.units+1+n < cLine:=by rw[Nat.add_assoc,Nat.add_comm 1 n];exact hu
  rcases wz h1 with f1 | ⟨ds,rfl,k1⟩ | ⟨ds,rfl,k1⟩
  .cases wL f1 a1
   rcases wz h2 with f2 | ⟨es,rfl,k2⟩ | ⟨es,rfl,k2⟩
   .cases wL f2 a2
    rw[zd9 f1 f2]
    exact zju r1 r2 (W8 f1) (W8 f2)
   .obtain⟨q,its2,ys,rfl,_,_,_,ht2⟩:=zaS I sm a2 r2
    rw[(zdR es f1).1]
    exact((za6 f1 r1 hu0).1 ht2).1
   .obtain⟨q,its2,ys,rfl,_,_,_,ht2⟩:=zaJ I sm a2 r2
    rw[(zdR es f1).2.1]
    exact((za6 f1 r1 hu0).2 ht2).1
  .obtain⟨p,its,xs,rfl,hxp,rv,al,ht⟩:=zaS I sm a1 r1
   rcases wz h2 with f2 | ⟨es,rfl,k2⟩ | ⟨es,rfl,k2⟩
   .cases wL f2 a2
    rw[(zdR ds f2).2.2.1]
    exact((za6 f2 r2 hu0).1 ht).2
   .obtain⟨q,its2,ys,rfl,hyq,rv2,bl,ht2⟩:=zaS I sm a2 r2
    by_cases hpq:p=q
    .subst hpq
     rw[hxp]at a1
     rw[hyq]at a2
     rw[ziZ (n+1) h1 h2 a1 a2]
     exact .same _
    .have hl1:its.toArray.size=ds.length:=by rw[t7,<- rv.length,al.length]
     have hl2:its2.toArray.size=es.length:=by rw[t7,<- rv2.length,bl.length]
     have:=SeqAt.RcAt.tuples (A:=A) (e:=λj=>eqN n (ds.getD j .non) (es.getD j .non)) ht ht2 hu0 λj g1 g2=>by
      obtain⟨x',ax,rx⟩:=al.nth rv (j:=j) g1
      obtain⟨y',ay,ry⟩:=bl.nth rv2 (j:=j) g2
      exact ih (Yb k1 (hl1 ▸ g1)) (Yb k2 (hl2 ▸ g2)) ax ay rx ry hu1
     rw[hl1,hl2]at this
     rw[show eqN (n+1) (.tup ds) (.tup es)=_ from zf4 ds es]
     exact u1L hpq this
   .obtain⟨q,its2,ys,rfl,_,_,_,ht2⟩:=zaJ I sm a2 r2
    exact .tuple_list ht ht2 hu0
  .obtain⟨p,its,xs,rfl,hxp,rv,al,ht⟩:=zaJ I sm a1 r1
   rcases wz h2 with f2 | ⟨es,rfl,k2⟩ | ⟨es,rfl,k2⟩
   .cases wL f2 a2
    rw[(zdR ds f2).2.2.2]
    exact((za6 f2 r2 hu0).2 ht).2
   .obtain⟨q,its2,ys,rfl,_,_,_,ht2⟩:=zaS I sm a2 r2
    exact .list_tuple ht ht2 hu0
   .obtain⟨q,its2,ys,rfl,hyq,rv2,bl,ht2⟩:=zaJ I sm a2 r2
    by_cases hpq:p=q
    .subst hpq
     rw[hxp]at a1
     rw[hyq]at a2
     rw[ziZ (n+1) h1 h2 a1 a2]
     exact .same _
    .have hl1:its.toArray.size=ds.length:=by rw[t7,<- rv.length,al.length]
     have hl2:its2.toArray.size=es.length:=by rw[t7,<- rv2.length,bl.length]
     rw[show eqN (n+1) (.lst ds) (.lst es)=_ from zf4 ds es]
     by_cases hle:ds.length=es.length
     .have:=SeqAt.RcAt.lists (A:=A) (e:=λj=>eqN n (ds.getD j .non) (es.getD j .non)) ht ht2 (by rw[hl1,hl2,hle]) hu0 λj g1 g2=>by
       obtain⟨x',ax,rx⟩:=al.nth rv (j:=j) g1
       obtain⟨y',ay,ry⟩:=bl.nth rv2 (j:=j) g2
       exact ih (Yb k1 (hl1 ▸ g1)) (Yb k2 (hl2 ▸ g2)) ax ay rx ry hu1
      rw[hl1]at this
      rw[<-hle,u2J,u02,u2U]
      exact u1L hpq this
     .have:=SeqAt.RcAt.lists_lengths (A:=A) ht ht2 (by rw[hl1,hl2];exact bne_iff_ne.mpr hle) hu0
      rw[u1c.mpr hle,u2O]
      exact u1L hpq this
def zhA (d:D)(es:List D):Option Bool:=if okE 20 d=true/\es.all (okE 20)=true then some (es.any λe=>eqN 20 e d)else none
def inD (d e:D):Option D:=(wF e).bind λes=>(zhA d es).map .bl
def zgV (d e:D):Option D:=(wF e).bind λes=>(zhA d es).map λb=>.bl (!b)
open Classical in
noncomputable def zbY (F:Hp)(d:D)(u:Value):Bool:=decide (∃ d0 x,At F d0 x/\xt x u/\okE 20 d0=true/\eqN 20 d0 d=true)
open Classical in
theorem zdo {F:Hp}{d d0:D}{x:V}{u:Value}(a:At F d0 x)(r:xt x u)(k:okE 20 d0=true):zbY F d u=eqN 20 d0 d:=by
 unfold zbY
 cases h:eqN 20 d0 d with
 | true=>exact j8 ⟨d0,x,a,r,k,h⟩
 | false =>
  refine d7 ?_
  rintro⟨d1,y,a1,r1,k1,h1⟩
  have e:=r1.inj r
  subst e
  rw[zjd 20 k1 k a1 a]at h1
  rw[h1]at h
  cases h
theorem XQ {F:Hp}{d:D}:∀ {ds:List D} {xs:List V} {us:List Value},AtL F ds xs->yl xs us->ds.all (okE 20)=true->us.any (zbY F d)=ds.any λe=>eqN 20 e d
 | [],_,_,al,r,_=>by cases al.nil_inv;cases r;rfl
 | e::ds,_,_,al,r,k=>by
  obtain⟨x,xs,rfl,a1,a2⟩:=al.cons_inv
  cases r with
  | cons r1 r2 =>
   rw[u2o,b7]at k
   rw[List.any_cons,List.any_cons,zdo a1 r1 k.1,XQ a2 r2 k.2]
section
variable {X:Cx}
def zmY (neg:Bool):R2:=λx y H Q=>∃ F d e es b,xj F H/\At F d x/\At F e y/\wF e=some es/\zhA d es=some b/\Q (.bl (if neg then !b else b)) H
theorem zmq {k:Nat}(hr:Yz k X.A):OpR X (compareOp .In) (zmY false):=by
 intro pins s σ H x y v u Q I rx ry h
 obtain⟨F,d,e,es,b,sm,a1,a2,hs,hb,q⟩:=h
 unfold zhA at hb
 split at hb <;> cases hb
 rename_i hk
 have hu:X.A.in1.units+20 < cLine:=by have:=hr.un;show X.A.units+1+20 < cLine;omega
 have mem:∀ {xs:List V} {us:List Value},AtL F es xs->yl xs us->∀ z∈us,SeqAt.EqAt X.A.in1 s z v (zbY F d z):=λ{xs us} al r z hz=>by
  obtain⟨j,hj,rfl⟩:=d6 hz
  obtain⟨x',ax,rx'⟩:=al.nth r hj
  have hj':j < es.length:=by have:=al.length;have:=r.length;omega
  have k2:=Yb hk.2 hj'
  rw[zdo ax rx' k2]
  exact zdI I sm 20 k2 hk.1 ax a1 rx' rx hu
 cases e <;> cases hs
 .obtain⟨p,xs,rfl,hx,al⟩:=a2.tup_inv
  cases ry
  obtain⟨its,r,pl,hz⟩:=I.tuple (SqT.of (sm _ _ hx))
  refine SeqAt.in_tupleAt (zbY F d) pl (λz hz=>mem al r z (by simpa using hz)) ⟨.bl _,H,I,rfl,?_⟩
  rw[show its.toArray.any (zbY F d)=its.any (zbY F d) by simp,XQ al r hk.2]
  exact q
 .obtain⟨p,xs,rfl,hx,al⟩:=a2.lst_inv
  cases ry
  obtain⟨its,r,pl,hz⟩:=I.list (SqL.of (sm _ _ hx))
  refine SeqAt.in_listAt (zbY F d) pl.isList (λz hz=>mem al r z (by simpa using hz)) ⟨.bl _,H,I,rfl,?_⟩
  rw[show its.toArray.any (zbY F d)=its.any (zbY F d) by simp,XQ al r hk.2]
  exact q
theorem zg4 {k:Nat}(hr:Yz k X.A):OpR X (compareOp .NotIn) (zmY true):=by
 intro pins s σ H x y v u Q I rx ry h
 obtain⟨F,d,e,es,b,sm,a1,a2,hs,hb,q⟩:=h
 unfold zhA at hb
 split at hb <;> cases hb
 rename_i hk
 have hu:X.A.in1.units+20 < cLine:=by have:=hr.un;show X.A.units+1+20 < cLine;omega
 have mem:∀ {xs:List V} {us:List Value},AtL F es xs->yl xs us->∀ z∈us,SeqAt.EqAt X.A.in1 s z v (zbY F d z):=λ{xs us} al r z hz=>by
  obtain⟨j,hj,rfl⟩:=d6 hz
  obtain⟨x',ax,rx'⟩:=al.nth r hj
  have hj':j < es.length:=by have:=al.length;have:=r.length;omega
  have k2:=Yb hk.2 hj'
  rw[zdo ax rx' k2]
  exact zdI I sm 20 k2 hk.1 ax a1 rx' rx hu
 cases e <;> cases hs
 .obtain⟨p,xs,rfl,hx,al⟩:=a2.tup_inv
  cases ry
  obtain⟨its,r,pl,hz⟩:=I.tuple (SqT.of (sm _ _ hx))
  refine SeqAt.notIn_tupleAt (zbY F d) pl (λz hz=>mem al r z (by simpa using hz)) ⟨.bl _,H,I,rfl,?_⟩
  rw[show its.toArray.any (zbY F d)=its.any (zbY F d) by simp,XQ al r hk.2]
  exact q
 .obtain⟨p,xs,rfl,hx,al⟩:=a2.lst_inv
  cases ry
  obtain⟨its,r,pl,hz⟩:=I.list (SqL.of (sm _ _ hx))
  refine SeqAt.notIn_listAt (zbY F d) pl.isList (λz hz=>mem al r z (by simpa using hz)) ⟨.bl _,H,I,rfl,?_⟩
  rw[show its.toArray.any (zbY F d)=its.any (zbY F d) by simp,XQ al r hk.2]
  exact q
theorem zlu:OpD (zmY false) inD:=by
 intro F H x y d e z Q s ax ay ez q
 obtain⟨es,e1,e2⟩:=u3.mp ez
 obtain⟨b,e3,rfl⟩:=u8.mp e2
 exact⟨F,d,e,es,b,s,ax,ay,e1,e3,q F H _ (.refl s) .bl⟩
theorem zgE:OpD (zmY true) zgV:=by
 intro F H x y d e z Q s ax ay ez q
 obtain⟨es,e1,e2⟩:=u3.mp ez
 obtain⟨b,e3,rfl⟩:=u8.mp e2
 exact⟨F,d,e,es,b,s,ax,ay,e1,e3,q F H _ (.refl s) .bl⟩
def eqG (d e:D):Option Bool:=match d,e with
 | .tup _,.tup _=>if okE 20 d=true/\okE 20 e=true then some (eqN 20 d e)else none
 | .lst _,.lst _=>if okE 20 d=true/\okE 20 e=true then some (eqN 20 d e)else none
 | _,_=>eqS d e
def V5 (d e:D):Option D:=(eqG d e).map .bl
def zmR:R2:=λx y H Q=>∃ F d e,xj F H/\At F d x/\At F e y/\((∃ ds es,d=.tup ds/\e=.tup es)\/(∃ ds es,d=.lst ds/\e=.lst es))/\okE 20 d=true/\okE 20 e=true/\Q (.bl (eqN 20 d e)) H
theorem zlv {k:Nat}(hr:Yz k X.A):OpR X (compareOp .Eq) zmR:=by
 intro pins s σ H x y v u Q I rx ry h
 obtain⟨F,d,e,sm,a1,a2,hk,k1,k2,q⟩:=h
 have hu:X.A.units+30 < cLine:=by have:=hr.un;omega
 rcases hk with ⟨ds,es,rfl,rfl⟩ | ⟨ds,es,rfl,rfl⟩
 .obtain⟨p,xs,rfl,hx,al⟩:=a1.tup_inv
  obtain⟨p2,ys,rfl,hy,bl⟩:=a2.tup_inv
  cases rx
  cases ry
  obtain⟨its,r,ht,hz⟩:=I.tuple (SqT.of (sm _ _ hx))
  obtain⟨its2,r2,ht2,hz2⟩:=I.tuple (SqT.of (sm _ _ hy))
  have hl1:its.toArray.size=ds.length:=by rw[t7,<- r.length,al.length]
  have hl2:its2.toArray.size=es.length:=by rw[t7,<- r2.length,bl.length]
  refine SeqAt.eq_tupleAt (e:=λj=>eqN 19 (ds.getD j .non) (es.getD j .non)) (show s.heap.IsTuple p its.toArray from ht) (show s.heap.IsTuple p2 its2.toArray from ht2) (by omega) (λj g1 g2=>?_) ⟨.bl _,H,I,rfl,?_⟩
  .obtain⟨x',ax,rx⟩:=al.nth r (j:=j) (by simpa using g1)
   obtain⟨y',ay,ry⟩:=bl.nth r2 (j:=j) (by simpa using g2)
   exact zdI I sm 19 (Yb k1 (by rw[<-hl1];exact g1)) (Yb k2 (by rw[<-hl2];exact g2)) ax ay (by simpa using rx) (by simpa using ry) (u0f (show X.A.units+20<=X.A.units+30 from u2x (by decide) _) hu)
  .rw[hl1,hl2,<- zcO]
   exact q
 .obtain⟨p,xs,rfl,hx,al⟩:=a1.lst_inv
  obtain⟨p2,ys,rfl,hy,bl⟩:=a2.lst_inv
  cases rx
  cases ry
  obtain⟨its,r,ht,hz⟩:=I.list (SqL.of (sm _ _ hx))
  obtain⟨its2,r2,ht2,hz2⟩:=I.list (SqL.of (sm _ _ hy))
  have hl1:its.toArray.size=ds.length:=by rw[t7,<- r.length,al.length]
  have hl2:its2.toArray.size=es.length:=by rw[t7,<- r2.length,bl.length]
  have e1:eqN 20 (.lst ds) (.lst es)=((List.range (min ds.length es.length)).all (λj=>eqN 19 (ds.getD j .non) (es.getD j .non))&&ds.length == es.length):=by
   show((List.zipWith (eqN 19) ds es).all id&&ds.length == es.length)=_
   rw[zcO]
  by_cases hle:ds.length=es.length
  .refine SeqAt.eq_listAt (e:=λj=>eqN 19 (ds.getD j .non) (es.getD j .non)) ht.isList ht2.isList (by rw[hl1,hl2];exact hle) (u0f (u2g _ 30) hu) (λj g1 g2=>?_) ⟨.bl _,H,I,rfl,?_⟩
   .obtain⟨x',ax,rx⟩:=al.nth r (j:=j) (by simpa using g1)
    obtain⟨y',ay,ry⟩:=bl.nth r2 (j:=j) (by simpa using g2)
    exact zdI I sm 19 (Yb k1 (by rw[<-hl1];exact g1)) (Yb k2 (by rw[<-hl2];exact g2)) ax ay (by simpa using rx) (by simpa using ry) (u0f (show X.A.units+20<=X.A.units+30 from u2x (by decide) _) hu)
   .rw[hl1]
    rw[e1,<- hle,u2J]at q
    simpa using q
  .refine SeqAt.eq_list_lengthsAt ht.isList ht2.isList (by rw[hl1,hl2];simpa using hle) (u0f (u2g _ 30) hu) ⟨.bl _,H,I,rfl,?_⟩
   have:(ds.length == es.length)=false:=by simpa using hle
   rw[e1,this,u2O]at q
   exact q
theorem zjD:OpD zmR (λd e=>match d,e with
 | .tup _,.tup _=>if okE 20 d=true/\okE 20 e=true then some (.bl (eqN 20 d e))else none
 | .lst _,.lst _=>if okE 20 d=true/\okE 20 e=true then some (.bl (eqN 20 d e))else none
 | _,_=>none):=by
 intro F H x y d e z Q s ax ay ez q
 dsimp only at ez
 split at ez
 .split at ez <;> cases ez
  rename_i hk
  exact⟨F,_,_,s,ax,ay,.inl ⟨_,_,rfl,rfl⟩,hk.1,hk.2,q F H _ (.refl s) .bl⟩
 .split at ez <;> cases ez
  rename_i hk
  exact⟨F,_,_,s,ax,ay,.inr ⟨_,_,rfl,rfl⟩,hk.1,hk.2,q F H _ (.refl s) .bl⟩
 .cases ez
theorem Zp {k:Nat}(hr:Yz k X.A):OpR X (compareOp .Eq) (λx y H Q=>rEq x y H Q\/zmR x y H Q):=znv.or (zlv hr)
theorem vf:OpD (λx y H Q=>rEq x y H Q\/zmR x y H Q) V5:=by
 refine zc4 (zck zjt zjD) λd e z h=>?_
 obtain⟨b,hb,rfl⟩:=u8.mp h
 unfold eqG at hb
 split at hb
 .split at hb <;> cases hb
  rename_i hk
  show(Option.or none (if okE 20 _=true/\okE 20 _=true then some (D.bl (eqN 20 _ _))else none))=_
  rw[t5 hk]
  rfl
 .split at hb <;> cases hb
  rename_i hk
  show(Option.or none (if okE 20 _=true/\okE 20 _=true then some (D.bl (eqN 20 _ _))else none))=_
  rw[t5 hk]
  rfl
 .show((eqD d e).or _)=_
  unfold eqD
  rw[hb]
  rfl
theorem seq_walk {pins:List (Addr × Obj)}{σ:St}{H:Hp}{s:Shared}{a:Addr}{xs:List V}{A:Around}{Q:Value->Shared->Prop}{E:Value->Shared->Prop}(I:Inv X pins σ H s)(hh:A.handled=none)(h:SqL X.K H a xs\/SqT X.K H a xs)
 (k:∀ (it:Addr) (its:List Value) (fp wr:List Addr) (St:Nat->Heap->Prop) (s₂:Shared),yl xs its->Walks X.prog X.w A it fp wr its.length (λi v=>its[i]?=some v) St->St 0 s₂.heap->(∀ b∈fp,b < s₂.heap.objs.size) ->
  (∀ (h':Heap) (tk:Nat),(∀ b o,b∉wr->s₂.heap.get? b=some o->h'.get? b=some o)->Inv X pins σ H { s₂ with heap:=h',toks:=tk })->Q (.ref it) s₂) :
 wpAny (model X.prog X.w) A (pyIter (.ref a)) Q E s:=by
 have back:∀ {o:Obj} {s₂:Shared},s₂={ s with heap:=s.heap.push o }->∀ (h':Heap) (tk:Nat),(∀ b u,b∉[s.heap.objs.size]->s₂.heap.get? b=some u->h'.get? b=some u)->Inv X pins σ H { s₂ with heap:=h',toks:=tk }:=λ{o s₂} e h' tk kk=>by
  subst e
  exact I.kept (t':=tk) λb u z=>kk b u (by simpa using g9 (r9 z)) (u9 _ z)
 rcases h with h | h
 .obtain⟨its,rv,p,hz⟩:=I.list h
  have lt:a < s.heap.objs.size:=by obtain⟨o,n,ho,_⟩:=p;exact r9 ho
  refine wpAny_pyIter_list p.isList ?_
  have W:=Walks.list (prog:=X.prog) (w:=X.w) (A:=A) hh s.heap.objs.size a (g9 lt) its.toArray
  refine k s.heap.objs.size its [s.heap.objs.size,a] [s.heap.objs.size] (λi h=>h.IsListIter s.heap.objs.size a i/\h.IsList a its.toArray) _ rv (by simpa using W) ⟨⟨_,n0 _ rfl,rfl,rfl⟩,p.isList.at λo e=>u9 _ e⟩ (λb hb=>?_) (back rfl)
  show b < (s.heap.push _).objs.size
  rw[u1W]
  rcases n8.mp hb with rfl | hb
  .exact u24 _
  .rw[j6.mp hb];exact u1R lt
 .obtain⟨its,rv,p,hz⟩:=I.tuple h
  have p':s.heap.IsTuple a its.toArray:=p
  have lt:a < s.heap.objs.size:=by obtain⟨o,ho,_⟩:=p;exact r9 ho
  refine u1e p' ?_
  have W:=Walks.tuple (prog:=X.prog) (w:=X.w) (A:=A) hh s.heap.objs.size a (g9 lt) its.toArray
  refine k s.heap.objs.size its [s.heap.objs.size,a] [s.heap.objs.size] (λi h=>h.IsTupleIter s.heap.objs.size a i/\h.IsTuple a its.toArray) _ rv (by simpa using W) ⟨⟨_,n0 _ rfl,rfl,rfl⟩,p'.at λo e=>u9 _ e⟩ (λb hb=>?_) (back rfl)
  show b < (s.heap.push _).objs.size
  rw[u1W]
  rcases n8.mp hb with rfl | hb
  .exact u24 _
  .rw[j6.mp hb];exact u1R lt
end
end Dl
namespace Dl
open PySem L2
variable [KK]
omit [KK] in
theorem zfs {bs:List Bool}:(List.range bs.length).all (λi=>bs.getD i false)=bs.all id:=by
 have:bs=(List.range bs.length).map λi=>bs.getD i false:=by
  apply u2c
  .simp
  .intro i h1 h2
   simp[h1]
 conv=>rhs;rw[this]
 rw[u1A]
 rfl
omit [KK] in
theorem zg6:∀ (ns:List Int) (n:Nat),n<=ns.length->preSum (λi=>ns.getD i 0) n=(ns.take n).sum:=by
 intro ns n
 induction n with
 | zero=>intro _;simp[preSum]
 | succ n ih =>
  intro h
  show preSum (λi=>ns.getD i 0) n+ns.getD n 0=_
  rw[ih (by omega),u3t,u1j]
  have:ns[n]?=some ns[n]:=by simp[show n < ns.length by omega]
  simp[this]
section
variable {X:Cx}
omit [KK] in
theorem zkK {bs:List Bool}{its:List Value}{i:Nat}{v:Value}(r:yl (bs.map V.bl) its)(h:its[i]?=some v):v=.bool (bs.getD i false):=by
 have hl:=r.length
 have hi:i < its.length:=(t8.mp h).1
 rw[u6]at hl
 obtain⟨u,hu,ru⟩:=r.get (i:=i) (x:=.bl (bs[i]'(by omega))) (by rw[j5];simp[show i < bs.length by omega])
 rw[h]at hu
 cases hu
 cases ru
 simp[show i < bs.length by omega]
omit [KK] in
theorem vals_int {ns:List Int}{its:List Value}{i:Nat}{v:Value}(r:yl (ns.map V.int) its)(h:its[i]?=some v):∃ t,v=.int (ns.getD i 0) t:=by
 have hl:=r.length
 have hi:i < its.length:=(t8.mp h).1
 rw[u6]at hl
 obtain⟨u,hu,ru⟩:=r.get (i:=i) (x:=.int (ns[i]'(by omega))) (by rw[j5];simp[show i < ns.length by omega])
 rw[h]at hu
 cases hu
 obtain⟨t,rfl⟩:=ru
 exact⟨t,by simp[show i < ns.length by omega]⟩
theorem zgu (hc:X.calm=true):ZG X (.builtin "all") (λxs H Q=>∃ (p:Addr) (bs:List Bool),xs=[.ref p]/\(SqL X.K H p (bs.map V.bl)\/SqT X.K H p (bs.map V.bl))/\Q (.bl (bs.all id)) H):=by
 intro pins s σ H xs us Q I r h
 obtain⟨p,bs,rfl,hq,q⟩:=h
 obtain⟨u,rfl,ru⟩:=Wk r
 cases ru
 refine call_all_walk (seq_walk I (I.ok.hd hc) hq λit its fp wr St s₂ rv W st fpl back=>?_)
 have hl:=rv.length
 rw[u6]at hl
 refine⟨it,fp,wr,_,_,St,λi=>bs.getD i false,rfl,W,st,λi v s Q E hv hQ=>?_,λh' tk kk=>⟨.bl _,H,back h' tk kk,rfl,?_⟩⟩
 .rw[zkK rv hv]
  exact u0x hQ
 .rw[<-hl,zfs]
  exact q
theorem ZE (hc:X.calm=true):ZG X (.builtin "sum") (λxs H Q=>∃ (p:Addr) (ns:List Int),xs=[.ref p]/\(SqL X.K H p (ns.map V.int)\/SqT X.K H p (ns.map V.int))/\Q (.int ns.sum) H):=by
 intro pins s σ H xs us Q I r h
 obtain⟨p,ns,rfl,hq,q⟩:=h
 obtain⟨u,rfl,ru⟩:=Wk r
 cases ru
 refine call_sum_walkG (seq_walk I (I.ok.hd hc) hq λit its fp wr St s₂ rv W st fpl back=>?_)
 have hl:=rv.length
 rw[u6]at hl
 refine⟨it,fp,wr,_,_,St,λi=>ns.getD i 0,rfl,W,st,fpl,λi v hv=>vals_int rv hv,λh' tk t' kk=>⟨.int ns.sum,H,back h' tk kk,?_,q⟩⟩
 refine⟨t',?_⟩
 rw[<-hl,zg6 ns _ (t9 _),u01]
def maxL (ns:List Int):Int:=(ns.max?).getD 0
def zh9 (ns:List Int):Int:=(ns.min?).getD 0
omit [KK] in
theorem best_ge (f:Nat→Int):∀ k i,i≤k→f i≤f (argBest (fun i j=>decide (f j < f i)) k)∧argBest (fun i j=>decide (f j < f i)) k≤k:=by
  intro k
  induction k with
  | zero => intro i hi; have : i = 0 := by omega
            subst this;exact ⟨u0z _,t9 _⟩
  | succ k ih =>
    intro i hi
    unfold argBest
    obtain ⟨h1,h2⟩:=ih (min i k) (u25 _ _)
    split
    · rename_i hc
      have hc:f (argBest (fun i j=>decide (f j < f i)) k) < f (k+1):=o0 hc
      refine ⟨?_,t9 _⟩
      by_cases hik:i≤k
      · rw [u1k hik] at h1;omega
      · have:i=k+1:=by omega
        subst this;exact u0z _
    · rename_i hc
      have hc:¬ f (argBest (fun i j=>decide (f j < f i)) k) < f (k+1):=fun z=>hc (j8 z)
      refine ⟨?_,by omega⟩
      by_cases hik:i≤k
      · rw [u1k hik] at h1;exact h1
      · have:i=k+1:=by omega
        subst this;omega
omit [KK] in
theorem max_is {ns:List Int}{m:Int}(h1:m∈ns)(h2:∀ x∈ns,x<=m):maxL ns=m:=by
 unfold maxL
 rw[u14.mpr ⟨h1,h2⟩]
 rfl
omit [KK] in
theorem zmi {ns:List Int}{m:Int}(h1:m∈ns)(h2:∀ x∈ns,m<=x):zh9 ns=m:=by
 unfold zh9
 rw[List.min?_eq_some_iff.mpr ⟨h1,h2⟩]
 rfl
omit [KK] in
theorem getD_mem {ns:List Int}{k:Nat}(h:k < ns.length):ns.getD k 0∈ns:=by
 rw[j4,u5 h]
 exact u0D h
omit [KK] in
theorem getD_at {ns:List Int}{k:Nat}(h:k < ns.length):ns.getD k 0=ns[k]:=by
 rw[j4,u5 h]
 rfl
theorem zha (hc:X.calm=true):ZG X (.builtin "max") (λxs H Q=>∃ (p:Addr) (ns:List Int),xs=[.ref p]/\(SqL X.K H p (ns.map V.int)\/SqT X.K H p (ns.map V.int))/\ns≠[]/\Q (.int (maxL ns)) H):=by
 intro pins s σ H xs us Q I r h
 obtain⟨p,ns,rfl,hq,hne,q⟩:=h
 obtain⟨u,rfl,ru⟩:=Wk r
 cases ru
 refine call_max_walk (seq_walk I (I.ok.hd hc) hq λit its fp wr St s₂ rv W st fpl back=>?_)
 have hl:=rv.length
 rw[u6]at hl
 have hpos:0 < ns.length:=u2u.mpr hne
 refine⟨it,fp,wr,_,_,St,λi j=>decide (ns.getD j 0 < ns.getD i 0),rfl,W,st,fpl,by omega,λi j vi vj s Q E hi hj hQ=>?_,λv h' tk hv kk=>?_⟩
 .obtain⟨t1,rfl⟩:=vals_int rv hi
  obtain⟨t2,rfl⟩:=vals_int rv hj
  exact PyProof.Rows.gt_int hQ
 .obtain⟨t,rfl⟩:=vals_int rv hv
  refine⟨.int (maxL ns),H,back h' tk kk,⟨t,?_⟩,q⟩
  have key:=best_ge (λi=>ns.getD i 0) (its.length - 1)
  have hb:argBest (λi j=>decide (ns.getD j 0 < ns.getD i 0)) (its.length - 1) < ns.length:=by
   have:=(key 0 (u0m _)).2
   omega
  rw[max_is (m:=ns.getD (argBest (λi j=>decide (ns.getD j 0 < ns.getD i 0)) (its.length - 1)) 0)]
  .exact getD_mem hb
  .intro x hx
   obtain⟨j,hj,rfl⟩:=d6 hx
   have:=(key j (by omega)).1
   rw[<-getD_at hj]
   exact this
theorem zfh (hc:X.calm=true):ZG X (.builtin "min") (λxs H Q=>∃ (p:Addr) (ns:List Int),xs=[.ref p]/\(SqL X.K H p (ns.map V.int)\/SqT X.K H p (ns.map V.int))/\ns≠[]/\Q (.int (zh9 ns)) H):=by
 intro pins s σ H xs us Q I r h
 obtain⟨p,ns,rfl,hq,hne,q⟩:=h
 obtain⟨u,rfl,ru⟩:=Wk r
 cases ru
 refine call_min_walk (seq_walk I (I.ok.hd hc) hq λit its fp wr St s₂ rv W st fpl back=>?_)
 have hl:=rv.length
 rw[u6]at hl
 have hpos:0 < ns.length:=u2u.mpr hne
 refine⟨it,fp,wr,_,_,St,λi j=>decide (ns.getD i 0 < ns.getD j 0),rfl,W,st,fpl,by omega,λi j vi vj s Q E hi hj hQ=>?_,λv h' tk hv kk=>?_⟩
 .obtain⟨t1,rfl⟩:=vals_int rv hi
  obtain⟨t2,rfl⟩:=vals_int rv hj
  exact u2y hQ
 .obtain⟨t,rfl⟩:=vals_int rv hv
  refine⟨.int (zh9 ns),H,back h' tk kk,⟨t,?_⟩,q⟩
  have key:=best_ge (λi=>- ns.getD i 0) (its.length - 1)
  have e0:(λi j=>decide (ns.getD i 0 < ns.getD j 0))=λi j=>decide (-ns.getD j 0 < -ns.getD i 0):=by
   funext i j
   congr 1
   apply propext
   constructor <;> intro h <;> omega
  rw[e0]
  have hb:argBest (λi j=>decide (-ns.getD j 0 < -ns.getD i 0)) (its.length - 1) < ns.length:=by
   have:=(key 0 (u0m _)).2
   omega
  rw[zmi (m:=ns.getD (argBest (λi j=>decide (-ns.getD j 0 < -ns.getD i 0)) (its.length - 1)) 0)]
  .exact getD_mem hb
  .intro x hx
   obtain⟨j,hj,rfl⟩:=d6 hx
   have:=(key j (by omega)).1
   rw[<-getD_at hj]
   omega
def zks:List D->Option (List Bool)
 | []=>some []
 | .bl b::ds=>(zks ds).map (b::·)
 | _=>none
def zai:List D->Option (List Int)
 | []=>some []
 | .int b::ds=>(zai ds).map (b::·)
 | _=>none
omit [KK] in
theorem zgc:∀ {ds:List D} {bs:List Bool},zks ds=some bs->ds=bs.map .bl
 | [],bs,h=>by cases h;rfl
 | d::ds,bs,h=>by
  cases d <;> try cases h
  obtain⟨cs,h1,rfl⟩:=u8.mp h
  rw[zgc h1]
  rfl
omit [KK] in
theorem YO:∀ {ds:List D} {bs:List Int},zai ds=some bs->ds=bs.map .int
 | [],bs,h=>by cases h;rfl
 | d::ds,bs,h=>by
  cases d <;> try cases h
  obtain⟨cs,h1,rfl⟩:=u8.mp h
  rw[YO h1]
  rfl
omit [KK] in
theorem ziW (bs:List Bool):zks (bs.map .bl)=some bs:=by
 induction bs with
 | nil=>rfl
 | cons b r ih=>show(zks (r.map .bl)).map (b::·)=_;rw[ih];rfl
omit [KK] in
theorem ZN (bs:List Int):zai (bs.map .int)=some bs:=by
 induction bs with
 | nil=>rfl
 | cons b r ih=>show(zai (r.map .int)).map (b::·)=_;rw[ih];rfl
theorem AtL.of_bls {H:Hp}:∀ {ns:List Bool} {xs:List V},AtL H (ns.map D.bl) xs->xs=ns.map V.bl
 | [],_,h=>h.nil_inv
 | n::r,_,h=>by
  obtain⟨x,r',rfl,h1,h2⟩:=AtL.cons_inv (by simpa using h)
  rw[h1.bl_inv,AtL.of_bls h2]
  rfl
def zkW {α:Type}(as:List D->Option α)(g:α->Option D):List D->Option D
 | [d]=>((wF d).bind as).bind g
 | _=>none
theorem zaK {K:W.Frag}{F H:Hp}{vs:List V}{ds:List D}{z:D}{α:Type}{as:List D->Option α}{g:α->Option D}(s:xj F H)(al:AtL F ds vs)(e:zkW as g ds=some z) :
 ∃ p es xs b,vs=[.ref p]/\(SqL K H p xs\/SqT K H p xs)/\AtL F es xs/\as es=some b/\g b=some z:=by
 unfold zkW at e
 split at e
 .obtain⟨b,e1,e2⟩:=u3.mp e
  obtain⟨es,e3,e4⟩:=u3.mp e1
  obtain⟨x,r,rfl,ax,ar⟩:=al.cons_inv
  cases ar.nil_inv
  rename_i d
  cases d <;> cases e3
  .obtain⟨p,xs,rfl,hx,bl⟩:=ax.tup_inv
   exact⟨p,_,xs,b,rfl,.inr (SqT.of (s _ _ hx)),bl,e4,e2⟩
  .obtain⟨p,xs,rfl,hx,bl⟩:=ax.lst_inv
   exact⟨p,_,xs,b,rfl,.inl (SqL.of (s _ _ hx)),bl,e4,e2⟩
 .cases e
def zma:=zkW zks λbs=>some (.bl (bs.all id))
def ziG:=zkW zai λns=>some (.int ns.sum)
def zk9:=zkW zai λns=>if ns=[]then none else some (.int (maxL ns))
def zmw:=zkW zai λns=>if ns=[]then none else some (.int (zh9 ns))
theorem zkw {K:W.Frag}:CaD (λxs H Q=>∃ (p:Addr) (bs:List Bool),xs=[.ref p]/\(SqL K H p (bs.map V.bl)\/SqT K H p (bs.map V.bl))/\Q (.bl (bs.all id)) H) zma:=by
 intro F H vs ds z Q s al e q
 obtain⟨p,es,xs,bs,rfl,hq,bl,e1,e2⟩:=zaK (K:=K) s al e
 cases e2
 rw[zgc e1]at bl
 rw[bl.of_bls]at hq
 exact⟨p,bs,rfl,hq,q F H _ (.refl s) .bl⟩
theorem VT {K:W.Frag}:CaD (λxs H Q=>∃ (p:Addr) (ns:List Int),xs=[.ref p]/\(SqL K H p (ns.map V.int)\/SqT K H p (ns.map V.int))/\Q (.int ns.sum) H) ziG:=by
 intro F H vs ds z Q s al e q
 obtain⟨p,es,xs,bs,rfl,hq,bl,e1,e2⟩:=zaK (K:=K) s al e
 cases e2
 rw[YO e1]at bl
 rw[bl.of_ints]at hq
 exact⟨p,bs,rfl,hq,q F H _ (.refl s) .int⟩
theorem ziK {K:W.Frag}:CaD (λxs H Q=>∃ (p:Addr) (ns:List Int),xs=[.ref p]/\(SqL K H p (ns.map V.int)\/SqT K H p (ns.map V.int))/\ns≠[]/\Q (.int (maxL ns)) H) zk9:=by
 intro F H vs ds z Q s al e q
 obtain⟨p,es,xs,bs,rfl,hq,bl,e1,e2⟩:=zaK (K:=K) s al e
 split at e2 <;> cases e2
 rename_i hne
 rw[YO e1]at bl
 rw[bl.of_ints]at hq
 exact⟨p,bs,rfl,hq,hne,q F H _ (.refl s) .int⟩
theorem zil {K:W.Frag}:CaD (λxs H Q=>∃ (p:Addr) (ns:List Int),xs=[.ref p]/\(SqL K H p (ns.map V.int)\/SqT K H p (ns.map V.int))/\ns≠[]/\Q (.int (zh9 ns)) H) zmw:=by
 intro F H vs ds z Q s al e q
 obtain⟨p,es,xs,bs,rfl,hq,bl,e1,e2⟩:=zaK (K:=K) s al e
 split at e2 <;> cases e2
 rename_i hne
 rw[YO e1]at bl
 rw[bl.of_ints]at hq
 exact⟨p,bs,rfl,hq,hne,q F H _ (.refl s) .int⟩
end
end Dl
namespace Dl
open PySem L2
variable [KK]
section
variable {X:Cx}{tg a b c e:Expr}{pos:Pos}
def zipD:List D->List D->List D
 | x::xs,y::ys=>.tup [x,y]::zipD xs ys
 | _,_=>[]
def Wu (f:Ev->Option (List D)):Ev->Option (List D):=fun ρ=>(f ρ).bind λas=>match as with
 | [d,e]=>(wF d).bind λxs=>(wF e).bind λys=>if xs.length<=ys.length then some (zipD xs ys)else none
 | _=>none
def xT (g:List D->Option (List D))(f:Ev->Option (List D))(b:D->SE->Option SE)(h:SE->Ctl):SE->Ctl:=fun ρ=>match (f (visG ρ)).bind g with
 | some ds=>zg1 b h ds ρ
 | none=>.no
theorem vX {p pos':Pos} {body:List Stmt} {f:Ev->Option (List D)} {b':D->SE->Option SE} {g:SE->Ctl} (hp:PassesOwn (model X.prog X.w) X.A X.env X.xe) (hc:X.calm=true) (hgl:Gl X "range") (hm:X.mg "range"=none) (ha:AD X [a] f) (hg:BD X tg b') (hb:SDs X body g)
 (hs0:starEach [a] X.env=[(false,eval a X.env)]:=by rfl) (hs:∀ x,foldedSetIterable (.Call (.Name "range" p) [a] [] pos) X.env x=pure x:=by intro _;rfl):SD X (.For tg (.Call (.Name "range" p) [a] [] pos) body [] pos') (xT Yi f b' g):=by
 obtain⟨t,pa,r⟩:=ha
 obtain⟨tg',pg,rg⟩:=hg
 obtain⟨tb,pb,rb⟩:=hb
 refine⟨_,zhg hp hc (zcr hgl hm pa hs0) pg pb hs,λFb Hb F H ρ σ E rl k=>?_⟩
 unfold xT at k
 cases h:(f (visG ρ)).bind Yi with
 | none=>rw[h]at k;exact k.elim
 | some ds =>
  rw[h]at k
  obtain⟨as,e1,e2⟩:=u3.mp h
  refine r σ _ _ H as _ rl.gh rl.visG e1 λF1 H1 vs g1 a1=>?_
  have rl2:=rl.grow (rl.back g1).1
  unfold Yi at e2
  split at e2
  .split at e2 <;> cases e2
   rename_i hc
   obtain⟨x,r',rfl,ax,ar⟩:=a1.cons_inv
   cases ar.nil_inv
   exact⟨_,by rw[ax.int_inv],(yX.mp hc).1,(yX.mp hc).2,zf1 (zfJ 0 _) rg rb rl2 k⟩
  .cases e2
theorem zia {p pos':Pos} {body:List Stmt} {f:Ev->Option (List D)} {b':D->SE->Option SE} {g:SE->Ctl} (hp:PassesOwn (model X.prog X.w) X.A X.env X.xe) (hc:X.calm=true) (hgl:Gl X "range") (hm:X.mg "range"=none) (ha:AD X [a,b] f) (hg:BD X tg b') (hb:SDs X body g)
 (hs0:starEach [a,b] X.env=[(false,eval a X.env),(false,eval b X.env)]:=by rfl) (hs2:starEach [b] X.env=[(false,eval b X.env)]:=by rfl) (hs:∀ x,foldedSetIterable (.Call (.Name "range" p) [a,b] [] pos) X.env x=pure x:=by intro _;rfl):SD X (.For tg (.Call (.Name "range" p) [a,b] [] pos) body [] pos') (xT za4 f b' g):=by
 obtain⟨t,pa,r⟩:=ha
 obtain⟨tg',pg,rg⟩:=hg
 obtain⟨tb,pb,rb⟩:=hb
 refine⟨_,zhg hp hc (zgQ hgl hm pa hs0 hs2) pg pb hs,λFb Hb F H ρ σ E rl k=>?_⟩
 unfold xT at k
 cases h:(f (visG ρ)).bind za4 with
 | none=>rw[h]at k;exact k.elim
 | some ds =>
  rw[h]at k
  obtain⟨as,e1,e2⟩:=u3.mp h
  refine r σ _ _ H as _ rl.gh rl.visG e1 λF1 H1 vs g1 a1=>?_
  have rl2:=rl.grow (rl.back g1).1
  unfold za4 at e2
  split at e2
  .split at e2 <;> cases e2
   rename_i hc
   obtain⟨x,r',rfl,ax,ar⟩:=a1.cons_inv
   obtain⟨y,r',rfl,ay,ar⟩:=ar.cons_inv
   cases ar.nil_inv
   exact⟨_,_,by rw[ax.int_inv,ay.int_inv],⟨(yX.mp hc.1).1,(yX.mp hc.1).2,(yX.mp hc.2).1,(yX.mp hc.2).2⟩,zf1 (zfJ _ _) rg rb rl2 k⟩
  .cases e2
end
def zfH (K:W.Frag):Sp:=λvs H Q _=>∃ (a:Addr) (ns:List Int),vs=[.ref a]/\SqL K H a (ns.map V.int)/\ns.length<=63/\∀ H',Q (.bl true) H'
end Dl
namespace Dl
open PySem L2
theorem zl1 {P:Program}{w:World}{K:W.Frag}{mg:Str->Option Value}{base:Heap}{f:Addr}{fd:FuncData}{ps:List Str}{k:Nat}{p:List D->Option D}(F:y6 P w K mg base CX0 k f fd ps (@spD ⟨K⟩ 1 p))(h:∀ ns:List Int,ns.length<=63->p [.scr ns]=some (.bl true)) :
 y6 P w K mg base CX0 k f fd ps (zfH K):=by
 letI:KK:=⟨K⟩
 refine F.imp λvs H Q E hs=>?_
 obtain⟨a,ns,rfl,hq,hl,q⟩:=hs
 refine⟨[.scr ns],.bl true,H,rfl,xj.refl _,.cons ?_ .nil,h ns hl,λF' H' v _ av=>?_⟩
 .unfold At
  exact⟨a,rfl,hq⟩
 .rw[av.bl_inv]
  exact q H'
structure Def (K:W.Frag) (mg:Str->Option Value) (x:Str) (st:Stmt) (ps:List Str) (f:Addr) (fd:FuncData):Prop where
 fn:Fun K x x st f fd
 bd:zdb K fd ps []
 at_:mg x=some (.ref f)
theorem Def.kp {K:W.Frag}{mg:Str->Option Value}{x:Str}{st:Stmt}{ps:List Str}{f:Addr}{fd:FuncData}(d:Def K mg x st ps f fd):W.keepIn K (.ref f)=true:=d.fn.kp
inductive Ctl.w:Ctl->(SE->Prop)->(SE->Prop)->(SE->Prop)->(D->Prop)->Prop where
 | nx {ρ:SE} {n b k:SE->Prop} {r:D->Prop}:n ρ->Ctl.w (.nx ρ) n b k r
 | bk {ρ:SE} {n b k:SE->Prop} {r:D->Prop}:b ρ->Ctl.w (.bk ρ) n b k r
 | ct {ρ:SE} {n b k:SE->Prop} {r:D->Prop}:k ρ->Ctl.w (.ct ρ) n b k r
 | rt {d:D} {n b k:SE->Prop} {r:D->Prop}:r d->Ctl.w (.rt d) n b k r
section
variable {ρ:SE}{d:D}{n b k:SE->Prop}{r:D->Prop}
theorem Ctl.w.nxi (h:Ctl.w (.nx ρ) n b k r):n ρ:=by cases h;assumption
theorem Ctl.w.bki (h:Ctl.w (.bk ρ) n b k r):b ρ:=by cases h;assumption
theorem Ctl.w.cti (h:Ctl.w (.ct ρ) n b k r):k ρ:=by cases h;assumption
theorem Ctl.w.rti (h:Ctl.w (.rt d) n b k r):r d:=by cases h;assumption
theorem Ctl.w.noi (h:Ctl.w .no n b k r):False:=by cases h
end
abbrev noP:SE->Prop:=λ_=>False
section
variable {g h:SE->Ctl}{ρ ρ':SE}{n b k:SE->Prop}{r:D->Prop}
theorem yJ (e:(g ρ).w (fun ρ'=>(h ρ').w n b k r) b k r):(zI g h ρ).w n b k r:=by
 unfold zI
 cases hg:g ρ with
 | nx ρ'=>rw[hg]at e;exact e.nxi
 | bk ρ'=>rw[hg]at e;exact .bk e.bki
 | ct ρ'=>rw[hg]at e;exact .ct e.cti
 | rt d=>rw[hg]at e;exact .rt e.rti
 | no=>rw[hg]at e;exact e.noi.elim
theorem zt (e:g ρ=.nx ρ')(q:(h ρ').w n b k r):(zI g h ρ).w n b k r:=yJ (by rw[e];exact .nx q)
theorem Zh (e:g ρ=.nx ρ')(q:n ρ'):(g ρ).w n b k r:=by rw[e];exact .nx q
theorem ZW {d:D}(e:g ρ=.rt d)(q:r d):(g ρ).w n b k r:=by rw[e];exact .rt q
theorem zn0 {d:D}(e:g ρ=.rt d)(q:r d):(zI g h ρ).w n b k r:=yJ (by rw[e];exact .rt q)
theorem W3 {t:Ev->Option Bool}{c:Bool}(e:t (visG ρ)=some c)(h1:c=true->(g ρ).w n b k r)(h2:c=false->(h ρ).w n b k r):(sIf t g h ρ).w n b k r:=by
 unfold sIf
 rw[e]
 cases c with
 | true=>exact h1 rfl
 | false=>exact h2 rfl
theorem zdB {i:Nat}(e:zmZ ρ i=ρ')(q:(g ρ').w n b k r):(sFz i g ρ).w n b k r:=by
 unfold sFz
 rw[e]
 exact q
theorem zfv {bd:D->SE->Option SE}(I:Nat->SE->Prop):∀ (ds:List D) (j:Nat) (ρ:SE),I j ρ ->
 (∀ i d ρ,ds[i]?=some d->I (j+i) ρ->∃ ρ1,bd d ρ=some ρ1/\(g ρ1).w (I (j+i+1)) n (I (j+i+1)) r)->(∀ ρ,I (j+ds.length) ρ->n ρ)->(zg1 bd g ds ρ).w n b k r
 | [],j,ρ,h0,_,fin=>.nx (fin ρ h0)
 | d::ds,j,ρ,h0,step,fin=>by
  obtain⟨ρ1,e1,e2⟩:=step 0 d ρ rfl h0
  unfold zg1
  rw[e1]
  dsimp only
  have next:∀ ρ',I (j+1) ρ'->(zg1 bd g ds ρ').w n b k r:=fun ρ' h'=>zfv I ds (j+1) ρ' h'
   (λi d' ρ hd hI=>by
    have:=step (i+1) d' ρ (by simpa using hd) (by rw[show j+(i+1)=j+1+i by omega];exact hI)
    rwa[show j+(i+1)+1=j+1+i+1 by omega]at this)
   (fun ρ hI=>fin ρ (by rw[p6,show j+(ds.length+1)=j+1+ds.length by omega];exact hI))
  cases hg:g ρ1 with
  | nx ρ'=>rw[hg]at e2;exact next ρ' e2.nxi
  | ct ρ'=>rw[hg]at e2;exact next ρ' e2.cti
  | bk ρ'=>rw[hg]at e2;exact .nx e2.bki
  | rt d'=>rw[hg]at e2;exact .rt e2.rti
  | no=>rw[hg]at e2;exact e2.noi.elim
theorem Wt {f:Ev->Option (List D)}{bd:D->SE->Option SE}{ds:List D}(I:Nat->SE->Prop)(e:f (visF ρ)=some ds)(h0:I 0 ρ)
 (step:∀ i d ρ,ds[i]?=some d->I i ρ->∃ ρ1,bd d ρ=some ρ1/\(g ρ1).w (I (i+1)) n (I (i+1)) r) (fin:∀ ρ,I ds.length ρ->n ρ):(XD f bd g ρ).w n b k r:=by
 unfold XD
 rw[e]
 exact zfv I ds 0 ρ h0 (λi d ρ hd hI=>by rw[m9]at hI ⊢;exact step i d ρ hd hI) (fun ρ hI=>fin ρ (by rw[m9]at hI;exact hI))
theorem X3 {f:Ev->Option (List D)}{bd:D->SE->Option SE}{rg:List D->Option (List D)}{lo:Int}{c:Nat}(I:Nat->SE->Prop)(e:(f (visG ρ)).bind rg=some (W0 lo c))(h0:I 0 ρ)
 (step:∀ (i:Nat) ρ,i < c->I i ρ->∃ ρ1,bd (.int (lo+i)) ρ=some ρ1/\(g ρ1).w (I (i+1)) n (I (i+1)) r) (fin:∀ ρ,I c ρ->n ρ):(xT rg f bd g ρ).w n b k r:=by
 unfold xT
 rw[e]
 refine zfv I (W0 lo c) 0 ρ h0 (λi d ρ hd hI=>?_) (fun ρ hI=>fin ρ ?_)
 .rw[m9]at hI ⊢
  unfold W0 at hd
  rw[j5]at hd
  by_cases hi:i < c
  .rw[u0E hi]at hd
   cases hd
   exact step i ρ hi hI
  .rw[u0F (by simpa using hi)]at hd
   cases hd
 .rw[m9]at hI
  rwa[show(W0 lo c).length=c by unfold W0;simp]at hI
theorem zlt {n' b' k':SE->Prop}{r':D->Prop}{c:Ctl}(q:c.w n b k r)(h1:∀ ρ,n ρ->n' ρ)(h2:∀ ρ,b ρ->b' ρ)(h3:∀ ρ,k ρ->k' ρ)(h4:∀ d,r d->r' d):c.w n' b' k' r':=by
 cases q with
 | nx q=>exact .nx (h1 _ q)
 | bk q=>exact .bk (h2 _ q)
 | ct q=>exact .ct (h3 _ q)
 | rt q=>exact .rt (h4 _ q)
theorem zbf {t:Ev->Option Bool}(I:SE->Prop)(μ:SE->Nat)(step:∀ ρ,I ρ->∃ c,t (visG ρ)=some c/\(c=true->(g ρ).w (fun ρ'=>I ρ'/\μ ρ' < μ ρ) n (fun ρ'=>I ρ'/\μ ρ' < μ ρ) r)/\(c=false->n ρ)):∀ (fu:Nat) (ρ:SE),I ρ->μ ρ < fu->(Xf t g fu ρ).w n b k r
 | 0,ρ,_,hf=>by omega
 | fu+1,ρ,hI,hf=>by
  obtain⟨c,e,q1,q2⟩:=step ρ hI
  unfold Xf
  rw[e]
  cases c with
  | false=>exact .nx (q2 rfl)
  | true =>
   have q:=q1 rfl
   dsimp only
   cases hg:g ρ with
   | nx ρ'=>rw[hg]at q;exact zbf I μ step fu ρ' q.nxi.1 (by have:=q.nxi.2;omega)
   | ct ρ'=>rw[hg]at q;exact zbf I μ step fu ρ' q.cti.1 (by have:=q.cti.2;omega)
   | bk ρ'=>rw[hg]at q;exact .nx q.bki
   | rt d'=>rw[hg]at q;exact .rt q.rti
   | no=>rw[hg]at q;exact q.noi.elim
end
theorem WE {m:Nat}{g:SE->Ctl}{ds:List D}{d:D}{ρ:SE}(e:ds.map .v++List.replicate (m - ds.length) .no=ρ)(q:(g ρ).w (λ_=>d=.non) noP noP (λd'=>d'=d)):fnD m g ds=some d:=by
 unfold fnD
 rw[e]
 cases hg:g ρ with
 | nx ρ'=>rw[hg]at q;rw[show d=.non from q.nxi]
 | rt d'=>rw[hg]at q;rw[show d'=d from q.rti]
 | bk _=>rw[hg]at q;exact q.bki.elim
 | ct _=>rw[hg]at q;exact q.cti.elim
 | no=>rw[hg]at q;exact q.noi.elim
theorem WK {m:Bool}{i:Nat}{f:Ev->Option D}{ρ:SE}{ds:List D}{d:D}(h1:vEv m f ρ=some d)(h2:ρ[i]?=some (.o ds))(h3:ds.length<=1000):WW m i f ρ=.nx (ρ.set i (.o (ds++[d]))):=by
 unfold WW
 rw[h1,h2]
 show(match (if decide (ds.length < sizeLine)=true then some (ρ.set i (.o (ds++[d])))else none)with | some ρ'=>Ctl.nx ρ' | none=>Ctl.no)=_
 rw[t5 (j8 (XX h3))]
theorem Zd {b:D->Option (List (Option D))}{t:Ev->Option Bool}{f:Ev->Option D}{ρ:Ev}{α:Type}(c:α->D)(y:α->D):∀ (xs:List α),(∀ x∈xs,∃ own,b (c x)=some own/\t (own++ρ)=some true/\f (own++ρ)=some (y x))->lcD b t f ρ (xs.map c)=some (xs.map y)
 | [],_=>rfl
 | x::xs,h=>by
  obtain⟨own,h1,h2,h3⟩:=h x u0e
  show lcD b t f ρ (c x::xs.map c)=_
  unfold lcD
  rw[h1]
  simp only[d9,h2,u2z,h3,Zd c y xs λz hz=>h z (p7 _ hz)]
  rfl
theorem Wv {b:D->Option (List (Option D))}{t:Ev->Option Bool}{f:Ev->Option D}{ρ:Ev}{α:Type}(c:α->D)(p:α->Bool)(y:α->D):∀ (xs:List α),(∀ x∈xs,∃ own,b (c x)=some own/\t (own++ρ)=some (p x)/\(p x=true->f (own++ρ)=some (y x)))->lcD b t f ρ (xs.map c)=some ((xs.filter p).map y)
 | [],_=>rfl
 | x::xs,h=>by
  obtain⟨own,h1,h2,h3⟩:=h x u0e
  have ih:=Wv c p y xs λz hz=>h z (p7 _ hz)
  show lcD b t f ρ (c x::xs.map c)=_
  unfold lcD
  rw[h1]
  simp only[d9,h2]
  cases hp:p x with
  | false =>
   rw[t6 u7,ih,List.filter_cons,t6 (by rw[hp];exact u7)]
  | true =>
   rw[t5 rfl,h3 hp,ih,List.filter_cons,t5 hp]
   rfl
mutual
def noS:D->Bool
 | .tup ds=>zhw ds
 | .lst ds=>zhw ds
 | .scr _=>false
 | _=>true
def zhw:List D->Bool
 | []=>true
 | d::ds=>noS d&&zhw ds
end
theorem YB:∀ {ds:List D} {i:Nat} {d:D},zhw ds=true->ds[i]?=some d->noS d=true
 | [],_,_,_,h=>by simp at h
 | d::ds,i,e,h,he=>by
  unfold zhw at h
  rw[b7]at h
  cases i with
  | zero=>simp at he;subst he;exact h.1
  | succ i=>exact YB h.2 (by simpa using he)
theorem xk {n:Nat}(h:n<=1000):lim n=true:=by
 unfold lim
 exact j8 (u0M (XX h))
theorem Xt (lo:Int)(n:Nat):(W0 lo n).length=n:=by unfold W0;simp
end Dl
namespace Dl
open PySem L2
abbrev Pr:=Int × Int
def prD (t:Pr):D:=.tup [.int t.1,.int t.2]
def zmV:D->Option Pr
 | .tup [.int a,.int b]=>some (a,b)
 | _=>none
def zcf:List D->Option (List Pr)
 | []=>some []
 | d::ds=>(zmV d).bind λt=>(zcf ds).map (t::·)
theorem zj6 {d:D}{t:Pr}(h:zmV d=some t):d=prD t:=by
 unfold zmV at h
 split at h
 .cases h;rfl
 .cases h
theorem zd6:∀ {ds:List D} {ts:List Pr},zcf ds=some ts->ds=ts.map prD
 | [],ts,h=>by cases h;rfl
 | d::ds,ts,h=>by
  unfold zcf at h
  obtain⟨t,h1,h2⟩:=u3.mp h
  obtain⟨us,h3,rfl⟩:=u8.mp h2
  rw[zj6 h1,zd6 h3]
  rfl
theorem zcb (ts:List Pr):zcf (ts.map prD)=some ts:=by
 induction ts with
 | nil=>rfl
 | cons t ts ih =>
  show(zmV (prD t)).bind (λu=>(zcf (ts.map prD)).map (u::·))=_
  rw[ih]
  rfl
def zkX (a b:Pr):Bool:=!OwnSort.bltP b a
def zaN (ts:List Pr):List Pr:=ts.mergeSort zkX
def leI (a b:Int):Bool:=decide (a<=b)
def zh1 (ns:List Int):List Int:=ns.mergeSort leI
theorem zap {a b:Pr}:OwnSort.bltP b a=false↔zkX a b=true:=by unfold zkX;simp
theorem v4 {a b:Pr}:zkX a b=true↔a.1 < b.1\/(a.1=b.1/\a.2<=b.2):=by
 rw[<-zap]
 unfold OwnSort.bltP
 rw[u0w]
 omega
theorem zeO {ts us:List Pr}(p:us.Perm ts)(h:us.Pairwise λa b=>OwnSort.bltP b a=false):us=zaN ts:=by
 refine u1z (le:=λa b=>zkX a b=true) (λa b _ _ h1 h2=>?_) (h.imp λx=>zap.mp x) ?_ (p.trans (u2v _ _).symm)
 .rw[v4]at h1 h2
  exact u1X (by omega) (by omega)
 .exact u1H (λa b c h1 h2=>by rw[v4]at *;omega) (λa b=>by rw[u3f,v4,v4];omega) _
theorem ze0 {ts us:List Int}(p:us.Perm ts)(h:us.Pairwise (·<=·)):us=zh1 ts:=by
 refine u1z (le:=λa b=>leI a b=true) (λa b _ _ h1 h2=>?_) (h.imp λx=>j8 x) ?_ (p.trans (u2v _ _).symm)
 .unfold leI at h1 h2
  rw[r6]at h1 h2
  omega
 .exact u1H (λa b c h1 h2=>by unfold leI at *;rw[r6]at *;omega) (λa b=>by unfold leI;rw[u3f,r6,r6];omega) _
def ze1:List D->Option (List D)
 | [.lst ds]=>if ds.length < 64 then match zcf ds with
  | some ts=>some ((zaN ts).map prD)
  | none=>match zai ds with
   | some ns=>some ((zh1 ns).map .int)
   | none=>none
  else none
 | _=>none
variable [KK]
section
variable {X:Cx}{e:Expr}{pos:Pos}
theorem At.pr_inv {F:Hp}{t:Pr}{v:V}(h:At F (prD t) v):∃ a,v=.ref a/\F a=some (.tup [.int t.1,.int t.2]):=by
 obtain⟨a,xs,rfl,hx,al⟩:=h.tup_inv
 obtain⟨x,r,rfl,a1,al⟩:=al.cons_inv
 obtain⟨y,r,rfl,a2,al⟩:=al.cons_inv
 cases al.nil_inv
 cases a1.int_inv
 cases a2.int_inv
 exact⟨a,rfl,hx⟩
theorem zbX (hc:X.calm=true):ZG X (.builtin "sorted") (λxs H Q=>∃ F p ys ds out,xs=[.ref p]/\xj F H/\H p=some (.lst ys)/\AtL F ds ys/\ze1 [.lst ds]=some out/\∀ l zs,H l=none->AtL F out zs->Q (.ref l) (upd H l (.lst zs))):=by
 intro pins s σ H xs us Q I r h
 obtain⟨F,p,ys,ds,out,rfl,sm,hp,al,hs,q⟩:=h
 obtain⟨u,rfl,ru⟩:=Wk r
 cases ru
 obtain⟨its,rv,pl,hz⟩:=I.list (SqL.of hp)
 have hlen:its.length=ds.length:=by rw[<-rv.length,al.length]
 unfold ze1 at hs
 dsimp only at hs
 split at hs <;> try cases hs
 rename_i h64
 have fin:∀ (zs:List V) (ws:List Value),zs.length < 64->yl zs ws->AtL F out zs->EP X pins σ Q (.ref (s.heap.objs.size+1)) { s with heap:=PyProof.Rows.sortedAll s.heap its ws.toArray }:=λzs ws hl rz az=>by
  have hn:H (s.heap.objs.size+1)=none:=I.hok.fresh (u2Y _)
  obtain⟨ep,he⟩:=PyProof.Rows.sortedAll_at s.heap its ws.toArray
  refine⟨.ref (s.heap.objs.size+1),upd H (s.heap.objs.size+1) (.lst zs),I.laid (t':=s.toks) (λb o z=>PyProof.Rows.sortedAll_old z) (u2Y _) ?_,rfl,q _ zs hn az⟩
  exact⟨u0M (XX (by omega)),ws,ep,rz,he⟩
 split at hs
 .rename_i ts hts
  cases hs
  have eds:=zd6 hts
  subst eds
  have look:∀ {v:Value},v∈its->∃ a t,v=.ref a/\t∈ts/\F a=some (.tup [.int t.1,.int t.2])/\OwnSort.TP s.heap v t:=λ{v} hv=>by
   obtain⟨j,hj,rfl⟩:=d6 hv
   have hj2:j < ts.length:=by rw[u6]at hlen;omega
   obtain⟨x,hx,ax⟩:=al.get (i:=j) (d:=prD ts[j]) (by rw[j5];simp[hj2])
   obtain⟨a,rfl,ha⟩:=ax.pr_inv
   obtain⟨v,hv,rvv⟩:=rv.get hx
   have e1:its[j]?=some its[j]:=by simp[hj]
   rw[hv]at e1
   cases e1
   have e2:its[j]=.ref a:=rvv
   refine⟨a,ts[j],e2,u0D hj2,ha,?_⟩
   obtain⟨us,ru,⟨o,ho,hcl,n,hd⟩,_⟩:=I.tuple (SqT.of (sm _ _ ha))
   obtain⟨u1,u2,rfl,r1,r2⟩:=zgz ru
   obtain⟨t1,rfl⟩:=r1
   obtain⟨t2,rfl⟩:=r2
   exact⟨a,o,n,t1,t2,e2,ho,hcl,hd⟩
  refine OwnSort.own_sorted pl.isList (λv hv=>let ⟨a,t,_,_,_,ht⟩:=look hv;⟨t,ht⟩) (by omega) λo2 pm ri=>?_
  obtain⟨us,l1,l2,l3⟩:=ri
  have hlo:o2.toList.length=ts.length:=by rw[pm.length_eq,hlen,u6]
  -- the values' addresses
  have zsOf:∀ (ws:List Value) (vs:List Pr),ws.length=vs.length->(∀ w∈ws,w∈its)->(∀ (i:Nat) v t,ws[i]?=some v->vs[i]?=some t->OwnSort.TP s.heap v t)->∃ zs:List V,yl zs ws/\AtL F (vs.map prD) zs:=by
   intro ws
   induction ws with
   | nil =>
    intro vs hl _ _
    cases vs with
    | nil=>exact⟨[],.nil,.nil⟩
    | cons _ _=>simp at hl
   | cons w ws ih =>
    intro vs hl hm ht
    cases vs with
    | nil=>simp at hl
    | cons t vs =>
     obtain⟨zs,z1,z2⟩:=ih vs (by simpa using hl) (λw' hw'=>hm w' (p7 _ hw')) (λi v t h1 h2=>ht (i+1) v t (by simpa using h1) (by simpa using h2))
     obtain⟨a,t',rfl,_,ha,htp⟩:=look (hm w u0e)
     have et:t'=t:=htp.uniq (ht 0 _ t rfl rfl)
     subst et
     exact⟨.ref a::zs,.cons rfl z1,.cons (.tup ha (.cons .int (.cons .int .nil))) z2⟩
  obtain⟨zs,z1,z2⟩:=zsOf o2.toList us l1 (λw hw=>pm.mem_iff.mp hw) l2
  have keysPerm:us.Perm ts:=by
   -- by the keys of the values
   have kv:∀ (ws:List Value) (vs:List Pr),ws.length=vs.length->(∀ (i:Nat) v t,ws[i]?=some v->vs[i]?=some t->OwnSort.TP s.heap v t)->vs=ws.map λv=>(OwnSort.keyP s.heap v).getD (0,0):=by
    intro ws
    induction ws with
    | nil=>intro vs hl _;cases vs with
     | nil=>rfl
     | cons _ _=>simp at hl
    | cons w ws ih =>
     intro vs hl ht
     cases vs with
     | nil=>simp at hl
     | cons t vs =>
      rw[b9,OwnSort.keyP_of (ht 0 w t rfl rfl),<- ih vs (by simpa using hl) λi v t h1 h2=>ht (i+1) v t (by simpa using h1) (by simpa using h2)]
      rfl
   rw[kv _ _ l1 l2,kv its ts (by rw[hlen,u6]) λi v t h1 h2=>?_]
   .exact pm.map _
   .obtain⟨x,hx,ax⟩:=al.get (i:=i) (d:=prD t) (by rw[j5,h2];rfl)
    obtain⟨a,rfl,ha⟩:=ax.pr_inv
    obtain⟨v',hv',rvv⟩:=rv.get hx
    rw[h1]at hv'
    cases hv'
    obtain⟨us',ru',⟨o,ho,hcl,n,hd⟩,_⟩:=I.tuple (SqT.of (sm _ _ ha))
    obtain⟨u1,u2,rfl,r1,r2⟩:=zgz ru'
    obtain⟨t1,rfl⟩:=r1
    obtain⟨t2,rfl⟩:=r2
    exact⟨a,o,n,t1,t2,rvv,ho,hcl,hd⟩
  have e3:=zeO keysPerm l3
  rw[e3]at z2
  have:=fin zs o2.toList (by rw[z1.length];rw[u6]at h64;omega) z1 z2
  simpa using this
 .split at hs <;> try cases hs
  rename_i ns hns
  have eds:=YO hns
  subst eds
  have hI:PyProof.Rows.IntsAre its ns:=Ws (by rw[<-al.of_ints];exact rv)
  refine PyProof.Rows.sorted_ints pl.isList hI (by omega) λo2 ns' h1 h2 h3=>?_
  have e3:=ze0 h2 h3
  subst e3
  have z1:yl ((zh1 ns).map V.int) o2.toList:=zcn h1
  have:=fin ((zh1 ns).map V.int) o2.toList (by rw[u6,h2.length_eq];rw[u6]at h64;omega) z1 (.ints _)
  simpa using this
theorem zho {p:Pos} {f:Ev->Option (List D)} (hc:X.calm=true) (hgl:Gl X "sorted") (hm:X.mg "sorted"=none) (ha:AD X [e] f)
 (he:starEach [e] X.env=(false,eval e X.env)::starEach [] X.env:=by rfl) (hpl:(backTo pos (starEach [] X.env)).any (·.1)=false:=by rfl):FL X (.Call (.Name "sorted" p) [e] [] pos) (fFn ze1 f):=by
 obtain⟨t,pa,ra⟩:=ha
 refine⟨_,zaT (zbX hc) hgl hm XV pa (by decide) (by decide) he hpl,fun σ ρ F H z Q s va e q=>?_⟩
 obtain⟨ds,e1,e2⟩:=u3.mp e
 refine ra σ ρ F H ds _ s va e1 λF1 H1 vs g1 a1=>?_
 have e2':=e2
 unfold ze1 at e2'
 split at e2'
 .obtain⟨x,r,rfl,ax,ar⟩:=a1.cons_inv
  cases ar.nil_inv
  obtain⟨p,ys,rfl,hx,bl⟩:=ax.lst_inv
  exact⟨F1,p,ys,_,z,rfl,g1.fh,g1.fh _ _ hx,bl,e2,λl zs hl az=>q _ _ _ _ (g1.trans (Gr.hide g1.fh hl _)) (zbV g1 hl) (g1.fh.free hl) zx az⟩
 .cases e2'
end
end Dl
namespace Dl
open PySem L2
variable [KK]
def zkP:List D->Option D
 | [.int i]=>some (.int i)
 | [.bl k]=>some (.int (if k then 1 else 0))
 | _=>none
theorem zbk:CaD (λxs H Q=>(∃ i,xs=[.int i]/\Q (.int i) H)\/∃ k,xs=[.bl k]/\Q (.int (if k then 1 else 0)) H) zkP:=by
 intro F H vs ds z Q s al e q
 unfold zkP at e
 split at e <;> cases e
 all_goals
  obtain⟨x,r,rfl,ax,ar⟩:=al.cons_inv
  cases ar.nil_inv
 .exact .inl ⟨_,by rw[ax.int_inv],q F H _ (.refl s) .int⟩
 .exact .inr ⟨_,by rw[ax.bl_inv],q F H _ (.refl s) .int⟩
end Dl
namespace L2
open PySem PySem.Spec PyProof.Rows
section
variable {X:Cx}
def zgI:V->List V->Hp->VK->Prop:=λx vs H Q=>∃ l xs i y,x=.ref l/\vs=[.int i,y]/\H l=some (.lst xs)/\xs.length < sizeLine/\0<=i/\i < 2 ^ 63/\Q .non (upd H l (.lst (xs.take i.toNat++y::xs.drop i.toNat)))
theorem zkG (its:List Value)(u:Value)(x:Int)(h0:0<=x) :
 (λxs:Array Value=>have k:=if x < 0 then (x+((xs.size:Nat):Int)).toNat else min x.toNat xs.size;(xs.extract 0 k).push u++xs.extract k) its.toArray=(its.take x.toNat++u::its.drop x.toNat).toArray:=by
 have hn:¬ x < 0:=by omega
 apply Array.ext'
 simp only[t6 hn]
 by_cases c:x.toNat<=its.length
 .simp[u1k c]
  exact List.take_of_length_le (by rw[u0V];exact t9 _)
 .have e:min x.toNat its.length=its.length:=by omega
  have e1:its.take x.toNat=its:=List.take_of_length_le (by omega)
  have e2:its.drop x.toNat=[]:=List.drop_eq_nil_of_le (by omega)
  simp[e,e1,e2]
theorem zf7:MtM X "list.insert" zgI:=by
 intro pins s σ H x vs v us Q I rx rv h
 obtain⟨l,xs,i,y,rfl,rfl,hH,hz,h0,h1,q⟩:=h
 cases rx
 obtain⟨u,w,rfl,ru,rw'⟩:=rv.two
 obtain⟨t,rfl⟩:=ru
 obtain⟨z,its,n,r,hl,e⟩:=I.lstM hH
 have hfit:¬(!Builtin.List.listFitsIndex i)=true:=by
  have:Builtin.List.listFitsIndex i=true:=fitsIndex_both (by omega) h1
  rw[this]
  exact u7
 refine u3n F.slot_list_insert ⟨_,e,rfl⟩ F.entry_list_insert (F.args_list_insert_3 _ _ _) (AutoListH.list_insert_list_int_val_1 l its.toArray n i t w hfit (by rw[t7];omega)) ⟨e,?_⟩
 refine⟨.non,_,I.lset (its':=its.take i.toNat++w::its.drop i.toNat) hH e (zkG its w i h0) ((r.take _).append (.cons rw' (r.drop _))) ?_,rfl,q⟩
 rw[j9,p6,u0W,u0V]
 omega
end
end L2
namespace Dl
open PySem L2
section
variable [KK]{X:Cx}{a e k:Expr}{pos:Pos}
def zkV (ds:List D)(i:Int)(d:D):List D:=ds.take i.toNat++d::ds.drop i.toNat
def zlJ (m:Bool)(i:Nat)(fk f:Ev->Option D):SE->Ctl:=fun ρ=>match (vEv m fk ρ).bind λkd=>(vEv m f ρ).bind λd=>match ρ[i]?,kd with
 | some (.o ds),.int j=>if (decide (ds.length < sizeLine)&&decide (0<=j/\j < 2 ^ 63))=true then some (ρ.set i (.o (zkV ds j d)))else none
 | _,_=>none with
 | some ρ'=>.nx ρ'
 | none=>.no
theorem zmm {m:Bool}{i:Nat}{p pos':Pos}{fk f:Ev->Option D}(ho:PE X a (zhK i))(hk:ED X k fk)(he:ED X e f)
 (hp:∀ {ta:TE} {t:TA},PE X a ta->PA X [k,e] t->PE X (.Call (.Attribute a "insert" p) [k,e] [] pos') (tBM X.K "list" zgI ta t)) (hsw:swapsWith (.Call (.Attribute a "insert" p) [k,e] [] pos') none pos.line X.env=pure false:=by rfl)
 (hs:starEach [k,e] X.env=(false,eval k X.env)::starEach [e] X.env:=by rfl) (hs2:starEach [e] X.env=(false,eval e X.env)::starEach [] X.env:=by rfl):SD X (.Expr (.Call (.Attribute a "insert" p) [k,e] [] pos') pos) (zlJ m i fk f):=by
 obtain⟨tk,pk,rk⟩:=hk
 obtain⟨t,pe,re⟩:=he
 refine⟨_,zbg (hp ho (Zm pk (Zm pe zaB hs2) hs)) hsw,λFb Hb F H ρ σ E rl kk=>?_⟩
 unfold zlJ at kk
 cases h:(vEv m fk ρ).bind λkd=>(vEv m f ρ).bind λd=>match ρ[i]?,kd with
  | some (.o ds),.int j=>if (decide (ds.length < sizeLine)&&decide (0<=j/\j < 2 ^ 63))=true then some (ρ.set i (.o (zkV ds j d)))else none
  | _,_=>none with
 | none=>rw[h]at kk;exact kk.elim
 | some ρ' =>
  rw[h]at kk
  obtain⟨kd,e0,e2⟩:=u3.mp h
  obtain⟨d,e1,e2⟩:=u3.mp e2
  cases hs:ρ[i]? with
  | none=>rw[hs]at e2;cases e2
  | some sl =>
   rw[hs]at e2
   cases sl with
   | no=>cases e2
   | v _=>cases e2
   | m _ _ _=>cases e2
   | o ds =>
    cases kd with
    | int j =>
     dsimp only at e2
     split at e2 <;> cases e2
     rename_i hl
     rw[b7]at hl
     have hj:=o0 hl.2
     obtain⟨q,xs,f1,f2,f3,f4,f5⟩:=rl.owns i ds hs
     refine⟨_,f1,.inl ⟨rfl,xs,SqL.of f4⟩,?_⟩
     refine rk.at rl e0 λF0 H0 vk g0 ak=>?_
     have rl1:=rl.grow g0
     refine re.at rl1 e1 λF' H' v g av=>?_
     have rl2:=rl1.grow g
     obtain⟨q2,xs2,f1',_,_,f4',f5'⟩:=rl2.owns i ds hs
     rw[f1]at f1'
     cases f1'
     cases ak.int_inv
     refine⟨q,xs2,j,v,rfl,rfl,f4',by rw[f5'.length];exact o0 hl.1,hj.1,hj.2,?_⟩
     exact kk _ _ σ (rl2.mutate hs f1 ((f5'.take _).append (.cons av (f5'.drop _))))
    | _=>cases e2
end
theorem zmO {m:Bool}{i:Nat}{fk f:Ev->Option D}{ρ:SE}{ds:List D}{d:D}{k:Int}(h0:vEv m fk ρ=some (.int k))(h1:vEv m f ρ=some d)(h2:ρ[i]?=some (.o ds))(h3:ds.length<=1000)(h4:0<=k)(h5:k<=1000):zlJ m i fk f ρ=.nx (ρ.set i (.o (zkV ds k d))):=by
 unfold zlJ
 rw[h0,h1,h2]
 show(match (if (decide (ds.length < sizeLine)&&decide (0<=k/\k < 2 ^ 63))=true then some (ρ.set i (.o (zkV ds k d)))else none)with | some ρ'=>Ctl.nx ρ' | none=>Ctl.no)=_
 have hs:ds.length < sizeLine:=XX h3
 rw[t5 (by rw[j8 hs,j8 ⟨h4,by omega⟩];rfl)]
end Dl
namespace Dl
open PySem L2
variable [KK]
def znC (m:Nat)(p:List D->Option (List D)):Sp:=λvs H Q _=>∃ ds es F,ds.length=m/\xj F H/\AtL F ds vs/\p ds=some es/\∀ F' H' q xs,Gr F H F' H'->H q=none->F' q=none->H' q=some (.lst xs)->AtL F' es xs->Q (.ref q) H'
def SDO (X:Cx)(sts:List Stmt)(g:SE->Ctl)(i:Nat):Prop:=∃ t,PSs X sts t/\∀ (Fb Hb F H:Hp) (ρ:SE) (σ:St) (E:zgO),Rl Fb Hb F H ρ σ->∀ (ρ':SE) (es:List D),g ρ=.nx ρ'->ρ'[i]?=some (.o es) ->
 (∀ F' H' q xs,Gr Fb Hb F' H'->Hb q=none->F' q=none->H' q=some (.lst xs)->AtL F' es xs->E.rt (.ref q) H')->t E σ H
section
variable {X:Cx}{st:Stmt}{sts:List Stmt}{a e:Expr}{pos:Pos}
theorem zjN {i:Nat}(h:PE X e (zhK i)):SDO X [.Return (some e) pos] yk i:=by
 refine⟨_,zf0 (zjm h),λFb Hb F H ρ σ E rl ρ' es hg hi k=>?_⟩
 cases hg
 obtain⟨p,xs,f1,f2,f3,f4,f5⟩:=rl.owns i es hi
 exact⟨_,f1,k F H p xs rl.gr f2 f3 f4 f5⟩
theorem ZV {g h:SE->Ctl}{i:Nat}(h1:SD X st g)(h2:SDO X sts h i):SDO X (st::sts) (zI g h) i:=by
 obtain⟨t,p,r⟩:=h1
 obtain⟨u,p2,r2⟩:=h2
 refine⟨_,zd3 p p2,λFb Hb F H ρ σ E rl ρ' es hg hi k=>?_⟩
 refine r Fb Hb F H ρ σ { E with nx:=u E } rl ?_
 unfold zI at hg
 cases e:g ρ with
 | nx ρ1 =>
  rw[e]at hg
  exact λF' H' σ' rl'=>r2 Fb Hb F' H' ρ1 σ' E rl' ρ' es hg hi k
 | rt d=>rw[e]at hg;cases hg
 | bk d=>rw[e]at hg;cases hg
 | ct d=>rw[e]at hg;cases hg
 | no=>rw[e]at hg;cases hg
end
def zmL (n:Nat)(g:SE->Ctl)(i:Nat)(ds:List D):Option (List D):=match g (ds.map .v++List.replicate (n - ds.length) .no) with
 | .nx ρ=>match ρ[i]? with
  | some (.o es)=>some es
  | _=>none
 | _=>none
theorem zmG {P:Program}{w:World}{K:W.Frag}{mg:Str->Option Value}{base:Heap}{f:Addr}{fd:FuncData}{ps:List Str}{k m:Nat}{p:List D->Option (List D)}(F:y6 P w K mg base CX0 k f fd ps (znC m p)):y6 P w K mg base CX0 k f fd ps (spD m λds=>(p ds).map .lst) :=
 F.imp λvs H Q E ⟨ds,d,F',h1,h2,h3,h4,h5⟩=>by
  obtain⟨es,e1,rfl⟩:=u8.mp h4
  exact⟨ds,es,F',h1,h2,h3,e1,λF2 H2 q xs g h0 hF hH hx=>h5 _ _ _ (g.show h0 hF hH) (At.lst zx (hx.mono (λb u e=>by rw[zw (zn e hF)];exact e)))⟩
omit [KK] in
theorem zmb {m:Nat}{g:SE->Ctl}{i:Nat}{ds es:List D}{ρ:SE}(e:ds.map .v++List.replicate (m - ds.length) .no=ρ)(q:(g ρ).w (fun ρ'=>ρ'[i]?=some (.o es)) noP noP (λ_=>False)):zmL m g i ds=some es:=by
 unfold zmL
 rw[e]
 cases hg:g ρ with
 | nx ρ'=>rw[hg]at q;dsimp only;rw[q.nxi]
 | bk ρ'=>rw[hg]at q;exact q.bki.elim
 | ct ρ'=>rw[hg]at q;exact q.cti.elim
 | rt d=>rw[hg]at q;exact q.rti.elim
 | no=>rw[hg]at q;exact q.noi.elim
end Dl
namespace Dl
open PySem L2
section
variable [KK]
section
variable {κ:Type}[DecidableEq κ](f:κ->List Key)(hf:∀ a b,f a=f b->a=b)
include hf
end
end
end Dl
namespace Dl
open PySem L2 PySem.Spec PyProof.Rows
variable [KK]{X:Cx}{e:Expr}
def revD:D->Option (List D)
 | .lst ds=>some ds.reverse
 | _=>none
def zjP (f:Ev->Option D):Ev->Option (List D):=fun ρ=>(f ρ).bind revD
end Dl
namespace L2
open PySem PySem.Spec PyProof.Rows
theorem zeH {acc:Array Value}{j:Nat}(h:ItemsOf (λi v=>∃ t,v=Value.int (0+(i:Int)*1) t) acc j):yl ((List.range j).map λk:Nat=>V.int (k:Int)) acc.toList:=by
 have gen:∀ (vs:List Value) (a:Nat),(∀ i v,vs[i]?=some v->∃ t,v=Value.int (0+((a+i:Nat):Int)*1) t)->yl ((List.range' a vs.length).map λk:Nat=>V.int (k:Int)) vs:=by
  intro vs
  induction vs with
  | nil=>intro a _;exact .nil
  | cons v vs ih =>
   intro a h
   refine .cons ?_ (ih (a+1) λi v hv=>?_)
   .obtain⟨t,rfl⟩:=h 0 v rfl
    exact⟨t,by rw[show(0:Int)+((a+0:Nat):Int)*1=(a:Int) by omega]⟩
   .have:=h (i+1) v (by simpa using hv)
    rwa[show a+(i+1)=a+1+i by omega]at this
 have:=gen acc.toList 0 λi v hv=>by
  rw[m9]
  exact h.2 i v (by simpa using hv)
 rw[u0O,h.1]at this
 rwa[List.range_eq_range']
end L2
namespace Dl
open PySem L2 PySem.Spec PyProof.Rows
variable [KK]{X:Cx}{e:Expr}
def lrD:D->Option (List D)
 | .int j=>if 0<=j/\j<=60 then some ((List.range j.toNat).map λk:Nat=>.int (k:Int))else none
 | _=>none
end Dl
namespace L2
open PySem PySem.Spec PyProof.Rows
def znJ:V->V->Hp->VK->Prop:=λo i H Q=>∃ p xs k v,o=.ref p/\i=.int k/\0<=k/\H p=some (.lst xs)/\xs[k.toNat]?=some v/\Q v H
theorem zh7 {X:Cx}:PGet X znJ:=by
 intro pins s σ H o i ov iv Q I ro ri h
 obtain⟨p,xs,k,v,rfl,rfl,h0,hp,hv,q⟩:=h
 cases ro
 obtain⟨t,rfl⟩:=ri
 obtain⟨its,r,pl,hz⟩:=I.list (SqL.of (K:=X.K) hp)
 obtain⟨w,ew,rw'⟩:=r.get hv
 have hn:=zaq
 have hk:k.toNat < xs.length:=(t8.mp hv).1
 exact wpAny_getItem_list pl.isList h0 (by omega) (x:=w) (by simpa using ew) ⟨v,H,I,rw',q⟩
end L2
namespace Dl
open PySem L2 PySem.Spec PyProof.Rows
variable [KK]{X:Cx}{a e ko:Expr}{pos tpos:Pos}
def zkl (ρ:SE)(i:Nat)(kd yd:D):Option SE:=match ρ[i]?,kd,yd with
 | some (.o ds),.int k,.int y=>if 0<=k then match ds[k.toNat]? with
  | some (.int x)=>some (ρ.set i (.o (ds.set k.toNat (.int (x+y)))))
  | _=>none else none
 | _,_,_=>none
def zlA (i:Nat)(fk fe:Ev->Option D):SE->Ctl:=fun ρ=>match (fk (visG ρ)).bind λkd=>(fe (visG ρ)).bind λyd=>zkl ρ i kd yd with
 | some ρ'=>.nx ρ'
 | none=>.no
omit [KK] in
theorem zhT {ρ ρ':SE}{i:Nat}{kd yd:D}(h:zkl ρ i kd yd=some ρ'):∃ ds k x y,ρ[i]?=some (.o ds)/\kd=.int k/\yd=.int y/\0<=k/\ds[k.toNat]?=some (.int x)/\ρ'=ρ.set i (.o (ds.set k.toNat (.int (x+y)))):=by
 unfold zkl at h
 split at h
 .rename_i ds k y e
  split at h
  .rename_i h0
   split at h
   .rename_i x hx
    cases h
    exact⟨ds,k,x,y,e,rfl,rfl,h0,hx,rfl⟩
   .cases h
  .cases h
 .cases h
theorem zlX {i:Nat}{fk fe:Ev->Option D}(ho:PE X a (zhK i))(hk:ED X ko fk)(he:ED X e fe)
 (ha:∀ ov iv new,augStore ko ov iv new=(do holding [new,ov,iv] (setItem ov iv new);release [new,ov,iv] [];pure .next):=by intros;rfl):SD X (.AugAssign (.Subscript a ko tpos) .Add e pos) (zlA i fk fe):=by
 obtain⟨tk,pk,rk⟩:=hk
 obtain⟨te,pe,re⟩:=he
 refine⟨_,zke ho pk zh7 pe zml zdN ha,λFb Hb F H ρ σ E rl k=>?_⟩
 unfold zlA at k
 cases h:(fk (visG ρ)).bind λkd=>(fe (visG ρ)).bind λyd=>zkl ρ i kd yd with
 | none=>rw[h]at k;exact k.elim
 | some ρ' =>
  rw[h]at k
  obtain⟨kd,e1,e2⟩:=u3.mp h
  obtain⟨yd,e3,e2⟩:=u3.mp e2
  obtain⟨ds,kk,x,y,hs,rfl,rfl,h0,hx,rfl⟩:=zhT e2
  obtain⟨q,xs,f1,_⟩:=rl.owns i ds hs
  refine⟨_,f1,?_⟩
  refine rk σ _ _ H _ _ rl.gh rl.visG e1 λF3 H3 v3 g3 av3=>?_
  obtain⟨gb,_⟩:=rl.back g3
  have rl3:=rl.grow gb
  obtain⟨q3,xs3,f1',_,_,f4,f5⟩:=rl3.owns i ds hs
  rw[f1]at f1'
  cases f1'
  obtain⟨xv,hxv,axv⟩:=f5.get hx
  cases axv.int_inv
  refine⟨q,xs3,kk,.int x,rfl,av3.int_inv,h0,f4,hxv,?_⟩
  refine re σ _ _ H3 _ _ rl3.gh rl3.visG e3 λF5 H5 v5 g5 av5=>?_
  obtain⟨gb5,_⟩:=rl3.back g5
  have rl5:=rl3.grow gb5
  obtain⟨q5,xs5,f1'',_,_,f4',f5'⟩:=rl5.owns i ds hs
  rw[f1]at f1''
  cases f1''
  refine⟨x,y,rfl,av5.int_inv,q,xs5,kk,kk.toNat,rfl,av3.int_inv,f4',?_,?_⟩
  .have hlt:=(t8.mp hx).1
   rw[f5'.length]
   unfold ixN
   rw[t5 h0,t5 (by omega)]
  .exact k _ _ σ (rl5.mutate hs f1 (f5'.set kk.toNat .int))
end Dl
namespace L2
open PySem PySem.Spec PyProof.Rows
open Sem (wp)
section
variable {prog:Program}{w:World}{A:Around}{E:Value->Shared->Prop}{h:Heap}{g:Array GenState}{d:Drawn}{t:Nat}{os:OsState}
 {nm q:Str} {C N fI:Addr} {bs bm:List Value} {hdct:Bool} {sn:List Str} {sub:List Value} {ab:Bool} {col:Option Bool} {dd:Option Addr} {k0 k1 k2 k3 k5:Option Value} {mN:Str->Option Value} {us:List Value} {oI:Obj}
end
end L2
namespace L2
open PySem PySem.Spec PyProof.Rows
section
variable {prog:Program}{w:World}{A:Around}{E:Value->Shared->Prop}{s:Shared}{env:Env}
 {nm q:Str} {C N fI:Addr} {bs bm:List Value} {hdct:Bool} {sn:List Str} {sub:List Value} {ab:Bool} {col:Option Bool} {dd:Option Addr} {k0 k1 k2 k3 k5:Option Value} {mN:Str->Option Value} {oI:Obj}
end
abbrev gone (i:Nat)(D:zgO):zgO:={ nx:=fun σ H=>D.nx (σ.set i none) H,rt:=D.rt,bk:=fun σ H=>D.bk (σ.set i none) H,ct:=fun σ H=>D.ct (σ.set i none) H }
end L2
namespace PySem
section
variable {prog:Program}{w:World}{A:Around}{R:Result->Shared->Prop}{it S:Addr}{fp wr:List Addr}{n:Nat}{P:Nat->Value->Prop}{St:Nat->Heap->Prop}{kw:List (Str × Value)}
theorem YW:(toString "max"++toString ".loop":String)="max.loop":=by decide
theorem VF {s:Shared}(k:wpAny (model prog w) A.in1 (Builtin.«max.loop» ⟨[.ref it,.none,.ref S],kw⟩) (λfin s'=>match fin with | .done f=>R (.ok f) s' | .again c'=>c'.quiet=true/\codeAny (model prog w) A c' R s') (λe s'=>R (.error e) s') s) :
 codeAny (model prog w) A (.builtin "max.loop" ⟨[.ref it,.none,.ref S],kw⟩) R s:=codeAny_builtin F.entry_max_loop (by rw[u2i u1s _];exact k)
theorem zgX (W:Walks prog w A.in1 it fp wr n P St)(bt:Nat->Nat->Bool)(cm:CmpOf prog w A.in1 .Gt P bt)(nf:S∉fp):∀ (left j:Nat) (s:Shared) (v0:Value) (c:Nat),j+1+left=n->St (j+1) s.heap->P (argBest bt j) v0 ->
 s.heap.get? S=some { cls:=.type "list",dict:=none,data:=.seq #[v0,v0] c,slots:=#[] } ->
 (∀ v g tk,P (argBest bt (n - 1)) v->(∀ b o,b∉wr->b≠S->s.heap.get? b=some o->g.get? b=some o)->R (.ok (.ret v)) { s with heap:=g,toks:=tk }) ->
 codeAny (model prog w) A (.builtin "max.loop" ⟨[.ref it,.none,.ref S],kw⟩) R s:=by
 have nw:S∉wr:=λz=>nf (W.sub _ z)
 intro left
 induction left with
 | zero =>
  intro j s v0 c e st p0 hS k
  have ej:j+1=n:=e
  refine VF ?_
  show wpAny _ A.in1 (seqItems? (.ref S)>>=_) _ _ s;refine u4 (u1Y hS rfl ?_)
  show wpAny _ A.in1 (tryCatch (pyNext (.ref it)) _>>=_) _ _ s;refine u4 (u1Z (W.done s _ _ (ej ▸ st) λg tk kk=>?_))
  show wpAny _ A.in1 (updateSeq S (λ_=>#[])>>=_) _ _ _;refine u4 (wpAny_updateSeq (kk S _ nw hS) rfl (u4 (u22 (j3 (k v0 _ tk (ej ▸ p0) λb o b1 b2 q=>?_)))))
  exact(i7 _ _ (u1S b2)).trans (kk b o b1 q)
 | succ left ih =>
  intro j s v0 c e st p0 hS k
  refine VF ?_
  show wpAny _ A.in1 (seqItems? (.ref S)>>=_) _ _ s;refine u4 (u1Y hS rfl ?_)
  show wpAny _ A.in1 (tryCatch (pyNext (.ref it)) _>>=_) _ _ s;refine u4 (u1Z (W.item (j+1) s _ _ (by omega) st λv g tk pv st' kk=>?_))
  have hS':=kk S _ nw hS
  show wpAny _ A.in1 (tryCatch (holding [v,v] (richCompare .Gt v v0>>=_)) _>>=_) _ _ _;refine u4 (u1Z (u0T (u4 (cm (j+1) (argBest bt j) v v0 _ _ _ pv p0 (u4 (u0T (u0x (u4 (u22 (j3 ?_))))))))))
  cases hb:bt (j+1) (argBest bt j) with
  | true =>
   simp only[u2z];refine u4 (wpAny_updateSeq hS' rfl (u4 (u22 ?_)))
   rw[YW];refine j3 ⟨u2p u1s _,ih (j+1) _ v _ (by omega) (W.frame _ _ _ st' λb bf o q=>?_) (by rw[argBest,t5 hb];exact pv) (u1g _ hS' rfl) λv1 g1 tk1 p1 kk1=>?_⟩
   .exact(i7 _ _ (λz:S=b=>nf (z ▸ bf))).trans q
   .exact k v1 g1 tk1 p1 λb o b1 b2 q=>kk1 b o b1 b2 ((i7 _ _ (u1S b2)).trans (kk b o b1 q))
  | false =>
   simp only[u2E,u3y];refine u4 (u22 ?_)
   rw[YW];exact j3 ⟨u2p u1s _,ih (j+1) _ v0 c (by omega) st' (by rw[argBest,t6 (by rw[hb];exact u7)];exact p0) hS' λv1 g1 tk1 p1 kk1=>k v1 g1 tk1 p1 λb o b1 b2 q=>kk1 b o b1 b2 (kk b o b1 q)⟩
theorem ziX {s:Shared}{c:Nat}{d:Value}(W:Walks prog w A.in1 it fp wr n P St)(bt:Nat->Nat->Bool)(cm:CmpOf prog w A.in1 .Gt P bt)(nf:S∉fp)(st:St 0 s.heap)
 (hS:s.heap.get? S=some { cls:=.type "list",dict:=none,data:=.seq #[] c,slots:=#[] })
 (k:∀ v g tk,(if n=0 then v=d else P (argBest bt (n - 1)) v)->(∀ b o,b∉wr->b≠S->s.heap.get? b=some o->g.get? b=some o)->R (.ok (.ret v)) { s with heap:=g,toks:=tk }) :
 codeAny (model prog w) A (.builtin "max.loop" ⟨[.ref it,.none,.ref S],[("default",d)]⟩) R s:=by
 have nw:S∉wr:=λz=>nf (W.sub _ z)
 refine VF ?_
 show wpAny _ A.in1 (seqItems? (.ref S)>>=_) _ _ s;refine u4 (u1Y hS rfl ?_)
 show wpAny _ A.in1 (tryCatch (pyNext (.ref it)) _>>=_) _ _ s
 by_cases hn:n=0
 .refine u4 (u1Z (W.done s _ _ (hn ▸ st) λg tk kk=>?_))
  show wpAny _ A.in1 (rule _>>=_) _ _ _;exact u4 (u1V (j3 (k d g tk (by rw[t5 hn]) λb o b1 _ q=>kk b o b1 q)))
 .refine u4 (u1Z (W.item 0 s _ _ (Nat.pos_of_ne_zero hn) st λv g tk pv st' kk=>?_))
  have hS':=kk S _ nw hS
  show wpAny _ A.in1 (updateSeq S (λ_=>#[v,v])>>=_) _ _ _;refine u4 (wpAny_updateSeq hS' rfl ?_)
  rw[YW];refine j3 ⟨u2p u1s _,zgX W bt cm nf (n - 1) 0 _ v _ (by omega) (W.frame _ _ _ st' λb bf o q=>?_) pv (u1g _ hS' rfl) λv1 g1 tk1 p1 kk1=>?_⟩
  .exact(i7 _ _ (λz:S=b=>nf (z ▸ bf))).trans q
  .exact k v1 g1 tk1 (by rw[t6 hn];exact p1) λb o b1 b2 q=>kk1 b o b1 b2 ((i7 _ _ (u1S b2)).trans (kk b o b1 q))
end
theorem zc0 (x d:Value):argsOk "max" ⟨[x],[(Str.ofString "default",d)]⟩:=by unfold argsOk;kernel_rfl
theorem zbt {prog:Program}{w:World}{A:Around}{E:Value->Shared->Prop}{s:Shared}{x d:Value}{Q:Value->Shared->Prop}
 (h:wpAny (model prog w) A.in1 (pyIter x) (λi s₂=>∃ it fp wr n P St bt,i=.ref it/\Walks prog w A.in1 it fp wr n P St/\St 0 s₂.heap/\(∀ b∈fp,b < s₂.heap.objs.size)/\CmpOf prog w A.in1 .Gt P bt /\
  ∀ v g tk,(if n=0 then v=d else P (argBest bt (n - 1)) v)->(∀ b o,b∉wr->s₂.heap.get? b=some o->g.get? b=some o)->Q v { s₂ with heap:=g,toks:=tk }) E s) :
 wpAny (model prog w) A (call (.builtin "max") [x] [(Str.ofString "default",d)]) Q E s:=by
 refine PyProof.Rows.kmk_tree F.kind_max F.plain_max F.entry_max (zc0 x d) ?_
 show wpAny _ A.in1 (Builtin.Builtins.bindParams "max" ["key","default"] 0 ⟨[],[(Str.ofString "default",d)]⟩>>=_) _ _ s
 refine u4 (wpAny_of_eq (show Builtin.Builtins.bindParams "max" ["key","default"] 0 ⟨[],[(Str.ofString "default",d)]⟩=pure [none,some d]from rfl) (u4 (j3 ?_)))
 refine u4 (u0K h (λi s₂ h₂=>?_) λ_ _ e=>e)
 obtain⟨it,fp,wr,n,P,St,bt,rfl,W,st,hfp,cm,k⟩:=h₂
 refine u4 (u0H ?_)
 have nf:s₂.heap.objs.size∉fp:=λz=>u0J _ (hfp _ z)
 rw[YW]
 refine j3 ⟨u2p u1s _,ziX W bt cm nf (W.frame _ _ _ st λb _ o e=>u9 _ e) (n0 _ rfl) λv g tk p kk=>?_⟩
 exact k v g tk p λb o b1 e=>kk b o b1 (g9 (r9 e)) (u9 _ e)
end PySem
namespace L2
open PySem PySem.Spec PyProof.Rows
section
variable {X:Cx}{e de:Expr}{p pos kp:Pos}{t:TA}{td:TE}
def znW (K:W.Frag)(t:TA)(td:TE):TE:=fun σ H Q=>t σ H λvs H1=>td σ H1 λy H2=>∃ (a:Addr) (ns:List Int) (k:Int),vs=[.ref a]/\y=.int k/\SqL K H2 a (ns.map V.int)/\Q (.int (if ns=[]then k else Dl.maxL ns)) H2
theorem zj7 (hc:X.calm=true) (hg:Gl X "max") (hm:X.mg "max"=none) (hv:bootBuiltins "max"=some (.builtin "max")) (ha:PA X [e] t) (hd:PE X de td) (he:backTo pos (starEach [e] X.env)=(false,eval e X.env)::backTo pos (starEach [] X.env):=by rfl) (hpl:(backTo pos (starEach [e] X.env)).any (·.1)=false:=by rfl) :
 PE X (.Call (.Name "max" p) [e] [⟨some "default",de,kp⟩] pos) (znW X.K t td):=by
 intro pins s σ H Q I h
 refine u06 (Zu I hg hm hv ?_ (by decide) (by decide))
 refine u1C (thn (ha pos pins s σ H _ I h) λus s1 ⟨vs,H1,I1,r1,q1⟩=>u16 (thn (hd pins s1 σ H1 _ I1 q1) λud s2 ⟨y,H2,I2,r2,q2⟩=>u2m ?_)) he hpl
 obtain⟨a,ns,k,rfl,rfl,hq,q⟩:=q2
 obtain⟨u,rfl,ru⟩:=Wk r1
 cases ru
 obtain⟨tk0,rfl⟩:=r2
 letI:Dl.KK:=⟨X.K⟩
 refine zbt (Dl.seq_walk I2 (I2.ok.hd hc) (.inl hq) λit its fp wr St s₂ rv W st fpl back=>?_)
 have hl:=rv.length
 rw[u6]at hl
 refine⟨it,fp,wr,_,_,St,λi j=>decide (ns.getD j 0 < ns.getD i 0),rfl,W,st,fpl,λi j vi vj s Q E hi hj hQ=>?_,λv h' tk hv kk=>?_⟩
 .obtain⟨t1,rfl⟩:=Dl.vals_int rv hi
  obtain⟨t2,rfl⟩:=Dl.vals_int rv hj
  exact PyProof.Rows.gt_int hQ
 .by_cases hn:ns=[]
  .subst hn
   have h0:its.length=0:=hl.symm
   rw[t5 h0]at hv
   subst hv
   exact⟨.int k,H2,back h' tk kk,⟨tk0,rfl⟩,by rw[t5 rfl]at q;exact q⟩
  .have hpos:0 < ns.length:=u2u.mpr hn
   rw[t6 (by omega)]at hv
   obtain⟨t,rfl⟩:=Dl.vals_int rv hv
   rw[t6 hn]at q
   refine⟨.int (Dl.maxL ns),H2,back h' tk kk,⟨t,?_⟩,q⟩
   have key:=Dl.best_ge (λi=>ns.getD i 0) (its.length - 1)
   have hb:argBest (λi j=>decide (ns.getD j 0 < ns.getD i 0)) (its.length - 1) < ns.length:=by
    have:=(key 0 (u0m _)).2
    omega
   rw[Dl.max_is (m:=ns.getD (argBest (λi j=>decide (ns.getD j 0 < ns.getD i 0)) (its.length - 1)) 0) (Dl.getD_mem hb)]
   intro x hx
   obtain⟨j,hj,rfl⟩:=d6 hx
   have:=(key j (by omega)).1
   rw[<-Dl.getD_at hj]
   exact this
end
end L2
namespace Dl
open PySem L2
variable [KK]
section
variable {X:Cx}{e de:Expr}{p pos kp:Pos}
def zff:D->D->Option D
 | .lst ds,.int k=>(zai ds).map λns=>.int (if ns=[]then k else maxL ns)
 | _,_=>none
theorem zj8 {f h:Ev->Option D} (hc:X.calm=true) (hg:Gl X "max") (hm:X.mg "max"=none) (ha:ED X e f) (hd:ED X de h) (hs:starEach [e] X.env=(false,eval e X.env)::starEach [] X.env:=by rfl) (he:backTo pos (starEach [e] X.env)=(false,eval e X.env)::backTo pos (starEach [] X.env):=by rfl) (hpl:(backTo pos (starEach [e] X.env)).any (·.1)=false:=by rfl) :
 ED X (.Call (.Name "max" p) [e] [⟨some "default",de,kp⟩] pos) (zm zff f h):=by
 obtain⟨ta,pa,ra⟩:=ha
 obtain⟨td,pd,rd⟩:=hd
 refine⟨_,zj7 hc hg hm zcK (Zm pa zaB hs) pd he hpl,fun σ ρ F H z Q s va e q=>?_⟩
 obtain⟨d,e1,e⟩:=u3.mp e
 obtain⟨k,e2,e3⟩:=u3.mp e
 refine ra σ ρ F H d _ s va e1 λF1 H1 v g1 a1=>?_
 refine rd σ ρ F1 H1 k _ g1.fh (va.mono g1.ff) e2 λF2 H2 y g2 a2=>?_
 unfold zff at e3
 split at e3 <;> try cases e3
 obtain⟨ns,hn,rfl⟩:=u8.mp e3
 cases YO hn
 obtain⟨a,xs,rfl,hx,al⟩:=(a1.mono g2.ff).lst_inv
 cases al.of_ints
 exact⟨a,ns,_,rfl,a2.int_inv,SqL.of (g2.fh _ _ hx),q F2 H2 _ (g1.trans g2) .int⟩
end
end Dl
namespace Dl
open PySem L2
def zkT (t:List Int):List (List Int)->List (List Int)
 | []=>[t]
 | u::us=>if HT.lexLt u t=true then u::zkT t us else t::u::us
def yP:List (List Int)->List (List Int)
 | []=>[]
 | t::ts=>zkT t (yP ts)
theorem zbU (t:List Int):∀ us:List (List Int),(zkT t us).Perm (t::us):=by
 intro us
 induction us with
 | nil=>exact u3q _
 | cons u us ih =>
  unfold zkT
  split
  .exact(ih.cons u).trans (List.Perm.swap _ _ _)
  .exact u3q _
theorem XA:∀ ts:List (List Int),(yP ts).Perm ts:=by
 intro ts
 induction ts with
 | nil=>exact u3q _
 | cons t ts ih=>exact(zbU t _).trans (ih.cons t)
theorem zfD (t:List Int):∀ us:List (List Int),us.Pairwise (λa b=>HT.lexLt b a=false)->(zkT t us).Pairwise λa b=>HT.lexLt b a=false:=by
 intro us
 induction us with
 | nil=>intro _;exact List.pairwise_singleton _ _
 | cons u us ih =>
  intro h
  rw[u0A]at h
  unfold zkT
  by_cases c:HT.lexLt u t=true
  .rw[t5 c]
   refine u0A.mpr ⟨λv hv=>?_,ih h.2⟩
   rcases n8.mp ((zbU t us).mem_iff.mp hv)with rfl | hv
   .cases e:HT.lexLt v u with
    | false=>rfl
    | true =>
     have:=OwnSortT.lex_trans _ _ _ c e
     rw[OwnSortT.lex_irr]at this
     cases this
   .exact h.1 v hv
  .rw[t6 c]
   have c:HT.lexLt u t=false:=by cases e:HT.lexLt u t with
    | false=>rfl
    | true=>exact absurd e c
   refine u0A.mpr ⟨λv hv=>?_,u0A.mpr h⟩
   rcases n8.mp hv with rfl | hv
   .exact c
   .cases e:HT.lexLt v t with
    | false=>rfl
    | true =>
     rcases OwnSortT.lex_neg v u t e with z | z
     .rw[h.1 v hv]at z;cases z
     .rw[c]at z;cases z
theorem Xu:∀ ts:List (List Int),(yP ts).Pairwise λa b=>HT.lexLt b a=false:=by
 intro ts
 induction ts with
 | nil=>exact List.Pairwise.nil
 | cons t ts ih=>exact zfD t _ ih
theorem zdg {ts us:List (List Int)}(p:us.Perm ts)(h:us.Pairwise λa b=>HT.lexLt b a=false):us=yP ts :=
 u1z (le:=λa b=>HT.lexLt b a=false) (λa b _ _ h1 h2=>OwnSortT.lex_total _ _ h2 h1) h (Xu ts) (p.trans (XA ts).symm)
variable [KK]
end Dl
namespace Dl
open PySem L2
def b3:D->Option (List (Option D))
 | .tup [x,y,z]=>some [some x,some y,some z]
 | _=>none
end Dl
namespace Dl
open PySem L2
variable [KK]
theorem edv {X:Cx} (i:Nat) {x:Str} {pos:Pos} (hN:X.N[i]?=some x:=by rfl) (hv:Vis X.env.scope x:=by first | exact Or.inl rfl | exact Or.inr (Or.inl rfl) | exact Or.inr (Or.inr rfl)) (hd:(x == ("__debug__":Str))=false:=by decide)
 (hcd:(x == ("__classdict__":Str))=false:=by decide):ED X (.Name x pos) (zc i):=zlL i (pv i hN hv hd hcd)
theorem zi {X:Cx}{x:Str}{j k m:Nat}{f:Addr}{fd:FuncData}{ps:List Str}{st:Stmt}{p:List D->Option D}{e:Expr}{es:List Expr}{pp pos:Pos}{fa:Ev->Option (List D)}(F:y6 X.prog X.w X.K X.mg X.base CX0 j f fd ps (spD m p))(hr:Yz k X.A)(hg:Gl X x)(d:Def X.K X.mg x st ps f fd)
 (ha:AD X (e::es) fa) (hj:j<=k:=by decide) (hdb:(x == ("__debug__":Str))=false:=by decide) (he:starEach (e::es) X.env=(false,eval e X.env)::starEach es X.env:=by rfl) (hpl:(backTo pos (starEach es X.env)).any (·.1)=false:=by rfl) :
 ED X (.Call (.Name x pp) (e::es) [] pos) (zo m p fa):=zkc (F.mono hj) hr hg d.at_ d.kp d.bd ha hdb he hpl
end Dl
namespace L2
open PySem PySem.Spec PyProof.Rows PySem.W
structure Xq (base:Heap) (mg:Str->Option Value) (c P:Addr) (q:Str):Prop where
 hd:CodeHd base c P
 mt:base.objs[P]?=some (Zr q)
 bm:base.BuiltinsAt mg P
def zce (H:Hp)(ca:Addr)(q:Str):Prop:=∃ oc vs t P,H ca=some (.frz oc (.own P))/\oc.data=.fields vs/\vs[1]?=some (.str q t)
theorem zce.at {P:Program}{w:World}{H:Hp}{h:Heap}{ca:Addr}{q:Str}(x:zce H ca q)(ok:HOk P w H h):h.CodeRec (.ref ca) q:=by
 obtain⟨oc,vs,t,P',e,d,g⟩:=x
 exact⟨ca,oc,vs,t,rfl,(ok ca _ e).1,d,g⟩
theorem zce.mono {H H':Hp}{ca:Addr}{q:Str}(x:zce H ca q)(k:∀ b o,H b=some o->H' b=some o):zce H' ca q:=by
 obtain⟨oc,vs,t,P',e,r⟩:=x
 exact⟨oc,vs,t,P',k _ _ e,r⟩
theorem zg7 {base:Heap}{P:Addr}{q:Str}(h:base.objs[P]?=some (Zr q)):base.get? P=none:=by
 unfold Heap.get?
 rw[h]
 rfl
theorem zez {pos p2:Pos}{c x:Value}(l:List Value)(h:TriplesOk l)(hc:codeAmong pos (l++[rawInt p2.line,rawInt p2.col,x])=some c):codeAmong pos l=some c\/c=x:=by
 fun_induction TriplesOk l with
 | case1 =>
  simp only[List.nil_append,codeAmong,rawInt]at hc
  split at hc
  .cases hc;exact .inr rfl
  .cases hc
 | case2 a t b u y rest ih =>
  simp only[List.cons_append,codeAmong]at hc ⊢
  split at hc
  .rename_i hh;rw[t5 hh];exact .inl hc
  .rename_i hh;rw[t6 hh];exact ih h hc
 | case3 l h1 h2=>exact h.elim
section
variable {X:Cx}{pins:List (Addr × Obj)}{σ:St}{H:Hp}{s:Shared}{c P:Addr}{q:Str}{params:Arguments}{body:Expr}{scope:Scope}{pos:Pos}{clos:List (Str × Addr)}{A:Around}{E:Value->Shared->Prop}
abbrev zcw (X:Cx) (q:Str) (params:Arguments) (body:Expr) (scope:Scope) (clos:List (Str × Addr)) (ca:Addr) (ctv:Value):Obj:=kla_obj "<lambda>" q params body scope clos ((X.mg "__name__").getD .none) ca ctv
theorem Inv.pushed {h':Heap}{tk:Nat}{o:Obj}(I:Inv X pins σ H { s with heap:=h',toks:=tk })(hd:∀ v,o.data≠.cell v)(hf:o.data≠.freed)(hfd:(h'.push o).get? h'.objs.size=some o) :
 Inv X (pins++Zt [h'.objs.size] (h'.push o)) σ H { s with heap:=h'.push o,toks:=tk }:=by
 have I2:=I.un (t':=tk) (H':=H) (h':=h'.push o) (Un.kept λ_ _ q=>u9 _ q) (I.hok.kept λ_ _ q=>u9 _ q)
 exact I2.pinned (fp:=[h'.objs.size]) (λb hb=>by rw[j6.mp hb];exact I.fpOk (t9 _) (I.hok.fresh (t9 _))) (λb hb=>by rw[j6.mp hb];exact⟨o,hfd,hd⟩)
theorem zdv {Q:Value->Shared->Prop} (L:Xq X.base X.mg c P q) (hcd:X.env.code=.ref c) (hcl:closureFor scope X.env=pure clos) (hdef:defaultsOf params X.env=([],[])) (hq:X.env.qual++"<lambda>"=q) (I:Inv X pins σ H s)
 (h:∀ (f ca:Addr) (ctv:Value) (H':Hp) (s':Shared),(∀ b o,H b=some o->H' b=some o)->Inv X (pins++Zt [f] s'.heap) σ H' s'->s'.heap.get? f=some (zcw X q params body scope clos ca ctv)->zce H' ca q->Q (.ref f) s') :
 wpAny (model X.prog X.w) A (eval (.Lambda params body scope pos) X.env) Q E s:=by
 refine kla_eval hdef ?_
 rw[hq]
 have tb:H P=some (.tbl #[.str q 0]):=I.bs.2 P q L.mt
 obtain⟨qs,eP,tr,all⟩:=(show xR X.prog X.w H s.heap P (.tbl #[.str q 0])from I.hok P _ tb)
 have C:=L.hd.keeps I.bk
 have hg:s.heap.Ns mainGlobals X.mg:=I.ok.mod.glob.keeps I.bk
 have hgP:mainGlobals≠P:=λz=>by
  obtain⟨o,es,ep,e,hd,_⟩:=I.ok.mod.glob
  rw[z,zg7 L.mt]at e
  cases e
 have hb:=L.bm.keeps I.bk
 cases hcode:codeAmong pos qs.toList with
 | some cv =>
  obtain⟨ca,oc,vs,q',t,t2,rfl,ow,od,ov,ep⟩:=all pos cv hcode
  obtain rfl:q'=q:=by
   have:some (Value.str q 0)=some (.str q' t2):=ep
   cases this
   rfl
  refine kla_makeFunctionHit (mg:=X.mg) hcl I.ok.glob hg hcd C eP tr hcode hb λctv h' tk hk hsz=>?_
  have I1:=I.un (t':=tk) (H':=H) (h':=h') (Un.kept hk) (I.hok.kept hk)
  refine h _ ca ctv H _ (λ_ _ e=>e) (I1.pushed (o:=zcw X q' params body scope clos ca ctv) (λv z=>by cases z) (λz=>by cases z) (n0 _ rfl)) (n0 _ rfl) ⟨oc,vs,t,P,ow,od,ov⟩
 | none =>
  refine kla_makeFunction (mg:=X.mg) hcl I.ok.glob hg hcd C eP tr hcode hgP hb λc' ctv h' tk hx hge hlt hrec htb=>?_
  have hc0:H c'=none:=I.hok.fresh hge
  have cP:c'≠P:=λz=>by rw[z,tb]at hc0;cases hc0
  obtain⟨c2,oc,vs,t,e2,hoc,hdc,hv⟩:=id hrec
  cases e2
  have ext:∀ b o,H b=some o->upd H c' (.frz oc (.own P)) b=some o:=λb o e=>by rw[zw (zn e hc0)];exact e
  have hP':∀ b,H b=none->b≠P:=λb e z=>by rw[z,tb]at e;cases e
  have hok:HOk X.prog X.w (upd H c' (.frz oc (.own P))) h':=λa o e=>by
   by_cases ha:a=c'
   .subst ha
    rw[zx]at e
    cases e
    exact⟨hoc,oc,hoc⟩
   .rw[zw ha]at e
    by_cases hp:a=P
    .subst hp
     rw[tb]at e
     cases e
     refine⟨_,htb,?_,λp2 cc hcc=>?_⟩
     .rw[Array.toList_append];exact TriplesOk_snoc _ _ _ _ tr
     .rw[Array.toList_append]at hcc
      rcases zez _ tr hcc with hcc | rfl
      .obtain⟨ca,o3,v3,q',t3,t4,ec,ow,r⟩:=all p2 cc hcc
       exact⟨ca,o3,v3,q',t3,t4,ec,ext _ _ ow,r⟩
      .exact⟨c',oc,vs,q,t,0,rfl,zx,hdc,hv,rfl⟩
    .refine(I.hok a o e).stay (λb u hb g=>hx b u ?_ g) (λb g=>ext _ _ g) (λb xs g=>ext _ _ g) λb o u g=>ext _ _ g
     rcases hb with rfl | hb
     .exact hp
     .intro z
      rw[z,tb]at hb
      cases hb
  have I1:Inv X pins σ (upd H c' (.frz oc (.own P))) { s with heap:=h',toks:=tk }:=I.un (t':=tk)
   ⟨λb o e n _ _=>hx b o (hP' b n) e,λb o e n _ _=>⟨o.slots,hx b o (hP' b n) e⟩,λb o e n _=>by rw[zw (g9 (j7 (r9 e) hge))];exact n,λb o e _=>(by
    by_cases z:b=P
    .exact⟨_,z ▸ htb⟩
    .exact⟨o,hx b o z e⟩),λb xs e=>ext _ _ e,λb o u e=>ext _ _ e,λb ps e=>ext _ _ e⟩ hok
  refine h _ c' ctv _ _ ext (I1.pushed (o:=zcw X q params body scope clos c' ctv) (λv z=>by cases z) (λz=>by cases z) (n0 _ rfl)) (n0 _ rfl) ⟨oc,vs,t,P,zx,hdc,hv⟩
end
structure vP (X:Cx) (x:Str) (M:List Str) (scope:Scope) (cl:List (Str × Addr)):Prop where
 clos:closureFor scope X.env=pure cl
 cell:∀ y∈scope.names,y.2≠.cell
 kind:scope.kind=.function
 par:scope.names.lookup x=some .local
 co:scope.isCoroutine=false
 gen:scope.isGenerator=false
 sub:∀ y c,cl.lookup y=some c->X.env.cells.lookup y=some c
 has:∀ y,(scope.names.lookup y=some .cell\/scope.names.lookup y=some .free)->∃ c,cl.lookup y=some c
 mlen:M.length=X.N.length
 msk:∀ (i:Nat) y,M[i]?=some y->Vis scope y->X.N[i]?=some y
 vis:∀ (i:Nat) y,M[i]?=some y->Vis scope y->(scope.names.lookup y=some .cell\/scope.names.lookup y=some .free)
 out:∀ (i:Nat) y,M[i]?=some y->Vis scope y->Vis X.env.scope y/\X.env.kindOf y≠some .local
def zbW (X:Cx)(x:Str)(M:List Str)(q:Str)(scope:Scope)(cl:List (Str × Addr))(f ca:Addr)(A:Around)(s:Shared)(H:Hp):Cx :=
 { X with A:=A.deeper (envX q scope s.heap.objs.size f (.ref ca) cl),N:=x::M,s₀:=s,H₀:=H,env:=envX q scope s.heap.objs.size f (.ref ca) cl,outer:=X.stack,stack:=envX q scope s.heap.objs.size f (.ref ca) cl::X.stack,ex:=[],calm:=true,fn:=λ_=>false,pn:=[],xe:=λ_ _=>False }
section
variable {X:Cx}{pins:List (Addr × Obj)}{σ:St}{H:Hp}{s:Shared}{q x:Str}{params:Arguments}{body:Expr}{scope:Scope}{cl:List (Str × Addr)}{M:List Str}{A:Around}{f ca:Addr}{ctv:Value}{v:V}{u:Value}{te:TE}{Q:VK}{k:Nat}
theorem ziq (S:vP X x M scope cl)(hr:Yz k A)(hfr:A.frames=some X.stack)(I:Inv X pins σ H s)(ho:s.heap.get? f=some (zcw X q params body scope cl ca ctv))(rc:zce H ca q)
 (hbind:bindArgs (kla_fn "<lambda>" q params body scope cl ((X.mg "__name__").getD .none) (.ref ca) ctv) ⟨[u],[]⟩=pure [(x,u)]) (he:PE (zbW X x M q scope cl f ca A s H) body te) (rv:xt v u) (ht:te (some v::σ) H Q) :
 codeAny (model X.prog X.w) A (.call (.ref f) ⟨[u],[]⟩) (λr s'=>∃ y,r=.ok (.ret y)/\EP X pins σ Q y s') s:=by
 refine kla_callFunE hr.depth ho rfl S.co S.gen rfl (rc.at I.hok) ?_
 rw[hbind]
 refine j3 (wpAny_newFunctionEnv S.cell (λy hy=>by rw[j6.mp hy];exact S.par) (λh₁ hns hsb=>?_) S.kind)
 have k34:∀ b o,s.heap.get? b=some o->h₁.get? b=some o:=λb o e=>hsb.extBut b o (g9 (r9 e)) (u9 _ e)
 refine⟨I.nolimit.keeps k34,?_⟩
 show codeAny _ _ (.expr body (envX q scope s.heap.objs.size f (.ref ca) cl)) _ _
 let Y:Cx:=zbW X x M q scope cl f ca A s H
 have noA:∀ b:Addr,b∉Y.ex:=λb z=>absurd (show b∈([]:List Addr)from z) (by simp)
 have OkY:Y.Ok:=⟨I.ok.mod,S.kind,rfl,rfl,t9 _,λy z c h1 h2=>I.ok.inj y z c (S.sub y c h1) (S.sub z c h2),λy hy=>S.has y hy,(λy c h _=>absurd h u7),λ_=>hr.hd,Around.frames_deeper hfr,.inr ⟨rfl,rfl⟩,λb z=>absurd z (noA b),I.bs,m8 I.ok.bsz I.sz,λb _ _=>noA b,λb z=>absurd z (noA b),I.stack,I.stkFree⟩
 have IY:Inv Y [] (some v::σ) H { s with heap:=h₁,toks:=s.toks+[(x,u)].length }:=by
  refine⟨OkY,rfl,I.bare,Un.kept k34,⟨_,hns,λi y w e1 e2 e3=>?_⟩,λy c e=>?_,I.hok.fresh (t9 _),λy c e=>I.freeC y c (S.sub y c e),λp hp=>absurd (show p∈([]:List (Addr × Obj))from hp) (by simp),I.hok.kept k34,?_⟩
  .cases i with
   | zero =>
    have e1:some x=some y:=e1
    have e2:some (some v)=some (some w):=e2
    cases e1
    cases e2
    refine⟨u,rv,.inl ⟨S.par,?_⟩⟩
    show List.lookup x ([(x,u)].reverse)=some u
    simp
   | succ i =>
    have e0':M[i]?=some y:=e1
    have e2':σ[i]?=some (some w):=e2
    have e1':=S.msk _ y e0' e3
    obtain⟨ov,ok⟩:=S.out _ y e0' e3
    obtain⟨m,hn,hl⟩:=I.loc
    obtain⟨u2,ru,lk⟩:=hl _ y w e1' e2' ov
    refine⟨u2,ru,?_⟩
    rcases lk with ⟨hk,_⟩ | ⟨_,c,hc',hcell⟩
    .exact absurd hk ok
    .have kn:=S.vis _ y e0' e3
     obtain⟨c',hc2⟩:=S.has y kn
     have:=S.sub y c' hc2
     rw[hc']at this
     cases this
     refine .inr ⟨kn,c,hc2,?_⟩
     obtain⟨o,ho,hd⟩:=hcell
     exact⟨o,k34 _ _ ho,hd⟩
  .obtain⟨w,o,ho,hd⟩:=I.cell y c (S.sub y c e)
   exact⟨w,o,k34 _ _ ho,hd⟩
  .show σ.length+1=M.length+1
   rw[I.len,S.mlen]
 refine kla_codeExpr (u0K (he [] _ _ H Q IY ht) (λy s' h=>?_) λe s' z=>z.elim)
 obtain⟨w,H',J,rw',q'⟩:=h
 exact⟨y,rfl,I.after ⟨w,H',J.os,J.bare,J.base,J.hok,rw',q'⟩⟩
end
section
variable {X:Cx}{pins:List (Addr × Obj)}{σ:St}{H:Hp}{s:Shared}
theorem Inv.own2 {b:Addr}{h':Heap}{tk:Nat}(I:Inv X pins σ H s)(f:zbJ X pins H b)(k:∀ c o,c≠b->s.heap.get? c=some o->h'.get? c=some o)(hb:∃ o,h'.get? b=some o):Inv X pins σ H { s with heap:=h',toks:=tk }:=by
 obtain⟨f0,f1,f2,f3,f4,f5⟩:=f
 have k':∀ c o,c∉[b]->s.heap.get? c=some o->h'.get? c=some o:=λc o hc e=>k c o (λz=>hc (j6.mpr z)) e
 refine I.call' (s':={ s with heap:=h',toks:=tk }) (ch:=[b]) rfl ⟨λc o e _ _ hx=>k' c o hx e,λc o e _ _ hx=>⟨o.slots,k' c o hx e⟩,λ_ _ _ n _=>n,λc o e hx=>⟨o,k' c o hx e⟩,λ_ _ q=>q,λ_ _ _ q=>q,λ_ _ q=>q⟩ ?_ I.bare λc hc=>?_
 .intro c oc e
  refine(I.hok c oc e).stay (λc' v hc q=>k c' v (λz=>?_) q) (λ_ q=>q) λ_ _ q=>q
  subst z
  rcases hc with z | z
  .rw[<-z,f0]at e;cases e
  .rw[f0]at z;cases z
 .rw[j6.mp hc]
  exact⟨f3,f1,f4,f5⟩
def zhs (md:Bool)(H:Hp)(b:Addr)(t:List Int):Prop:=match md with
 | false=>H b=some (.tup (t.map V.int))
 | true=>∃ i c us,t=i::us/\H b=some (.tup [.int i,.ref c])/\H c=some (.tup (us.map V.int))
theorem zhs.mono {md:Bool}{H H':Hp}{b:Addr}{t:List Int}(x:zhs md H b t)(k:∀ b o,H b=some o->H' b=some o):zhs md H' b t:=by
 cases md with
 | false=>exact k _ _ x
 | true =>
  obtain⟨i,c,us,e,h1,h2⟩:=x
  exact⟨i,c,us,e,k _ _ h1,k _ _ h2⟩
structure zkt (md:Bool) (X:Cx) (pins:List (Addr × Obj)) (σ:St) (H0:Hp) (a kS:Addr) (e1:Nat) (ts:List (List Int)) (keys:Array Value) (H:Hp) (s:Shared):Prop where
 inv:Inv X pins σ H s
 up:∀ b o,H0 b=some o->H b=some o
 ha:s.heap.get? a=some (seqObj "list" #[] e1)
 hk:∃ e,s.heap.get? kS=some (seqObj "list" keys e)
 fa:zbJ X pins H a
 fk:zbJ X pins H kS
 ks:keys.size<=ts.length/\∀ (j:Nat) (v:Value),keys[j]?=some v->∃ b t,v=.ref b/\ts[j]?=some t/\zhs md H b t
theorem zhD {md:Bool}{H0:Hp}{a kS f:Addr}{e1:Nat}{vs:List Value}{ts:List (List Int)}{P:PySem.Fin->Shared->Prop}{E:Value->Shared->Prop}{A:Around}(hak:a≠kS)(hlen:ts.length=vs.length)(hz:vs.length < sizeLine)
 (turn:∀ (i:Nat) (v:Value) (t:List Int),vs[i]?=some v->ts[i]?=some t->∀ (pins1:List (Addr × Obj)) (H1:Hp) (s1:Shared),(∀ b o,H0 b=some o->H1 b=some o)->Inv X (pins++pins1) σ H1 s1 ->
  wpAny (model X.prog X.w) A (call (.ref f) [v]) (λy s2=>∃ b H2,y=.ref b/\(∀ b o,H1 b=some o->H2 b=some o)/\zhs md H2 b t/\Inv X (pins++pins1) σ H2 s2) (λ_ _=>False) s1)
 (S:zkt md X pins σ H0 a kS e1 ts #[] H s)
 (fin:∀ keys H' s',zkt md X pins σ H0 a kS e1 ts keys H' s'->keys.size=vs.length->wpAny (model X.prog X.w) A (ksk_end a false vs.toArray e1 (.ref kS) keys) P E s') :
 wpAny (model X.prog X.w) A (ksk_rest a (.ref f) false vs.toArray e1 (.ref kS)) P E s:=by
 unfold ksk_rest
 refine u4 (u1V ?_)
 first
  | rw[List.forIn_toArray]
  | (rw[<-Array.forIn_toList];simp only[List.toList_toArray])
  | rw[<-Array.forIn_toList]
 refine u4 (ksk_fold (λi s'=>∃ keys H',zkt md X pins σ H0 a kS e1 ts keys H' s'/\keys.size=i) vs 0 s ⟨#[],H,S,rfl⟩ ?step ?done)
 case step =>
  rintro j x s' hx ⟨keys,H1,S1,hj⟩
  rw[m9]at hj ⊢
  have hjv:j < vs.length:=(t8.mp hx).1
  obtain⟨tj,hjt⟩:∃ t,ts[j]?=some t:=⟨_,u5 (by omega)⟩
  obtain⟨e,hk⟩:=S1.hk
  have nc:∀ {o:Obj} {its:Array Value} {n:Nat},o=seqObj "list" its n->∀ v,o.data≠.cell v:=λh v z=>by rw[h]at z;cases z
  have I1:=S1.inv.pinned (fp:=[a,kS]) (λb hb=>by
   rcases n8.mp hb with rfl | hb
   .exact S1.fa
   .rw[j6.mp hb];exact S1.fk) (λb hb=>by
   rcases n8.mp hb with rfl | hb
   .exact⟨_,S1.ha,nc rfl⟩
   .rw[j6.mp hb];exact⟨_,hk,nc rfl⟩)
  refine u4 (u21 (u0K (turn j x tj hx hjt _ H1 s' S1.up I1) (λy s2 he=>?_) λ_ _ hF=>hF.elim))
  obtain⟨b,H2,rfl,up2,hb2,I2⟩:=he
  have pa:=I2.pin (a,seqObj "list" #[] e1) (n9 _ (n9 _ (yY (.head _) S1.ha)))
  have pk:=I2.pin (kS,seqObj "list" keys e) (n9 _ (n9 _ (yY (.tail _ (.head _)) hk)))
  have I3:=I2.unpinned
  try dsimp only
  obtain⟨c2,hc2⟩:∃ c2,(s2.heap.update kS (Obj.mapSeq (·.push (.ref b)))).get? kS=some (seqObj "list" (keys.push (.ref b)) c2):=⟨_,u1M pk.1 (·.push (.ref b))⟩
  have s1:=u0P s2.heap kS (Obj.mapSeq (·.push (.ref b)))
  refine u4 (u1o pk.1 rfl ?_ (by rw[hj];omega) (m8 (u2H (u3e ..)) (by rw[hj];omega)))
  refine j3 ⟨rfl,keys.push (.ref b),H2,⟨?_,λc o z=>up2 _ _ (S1.up _ _ z),(s1.2 a hak).trans pa.1,⟨c2,hc2⟩,⟨pa.2.1,S1.fa.2⟩,⟨pk.2.1,S1.fk.2⟩,?_,λi v hv=>?_⟩,by rw[u3e,hj]⟩
  .exact I3.own2 (b:=kS) (tk:=s2.toks) ⟨pk.2.1,S1.fk.2⟩ (λc o hc z=>(s1.2 c hc).trans z) ⟨_,hc2⟩
  .rw[u3e,hj];omega
  .rw[Array.getElem?_push]at hv
   split at hv
   .rename_i hi
    cases hv
    refine⟨b,tj,rfl,?_,hb2⟩
    rw[hi,hj]
    exact hjt
   .obtain⟨b2,t2,e1',e2',e3'⟩:=S1.ks.2 i v hv
    exact⟨b2,t2,e1',e2',e3'.mono up2⟩
 case done =>
  rintro s' ⟨keys,H1,S1,hj⟩
  obtain⟨e,hk⟩:=S1.hk
  refine u4 (u1a hk rfl (fin keys H1 s' S1 (by rw[hj,m9])))
end
end L2
namespace OwnSortT
open PySem PyProof.Rows OwnSort
def NT (h:Heap) (v:Value) (t:List Int):Prop:=∃ a o n i tk c us,v=.ref a/\h.get? a=some o/\o.cls=.type "tuple"/\o.data=.seq [Value.int i tk,.ref c].toArray n/\t=i::us/\∃ o2 n2 its,h.get? c=some o2/\o2.cls=.type "tuple"/\o2.data=.seq its.toArray n2/\IntsAre its us
theorem NT.uniq {h:Heap}{v:Value}{s t:List Int}(x:NT h v s)(y:NT h v t):s=t:=by
 obtain⟨a,o,n,i,tk,c,us,rfl,e1,_,d1,rfl,o2,n2,its,f1,_,g1,i1⟩:=x
 obtain⟨b,p,m,j,tj,d,ws,e,e2,_,d2,rfl,p2,m2,its',f2,_,g2,i2⟩:=y
 cases e
 rw[e1]at e2
 cases e2
 rw[d1]at d2
 have e3:[Value.int i tk,.ref c].toArray=[Value.int j tj,.ref d].toArray:=by injection d2
 have e3:=u2f e3
 cases e3
 rw[f1]at f2
 cases f2
 rw[g1]at g2
 have e4:its.toArray=its'.toArray:=by injection g2
 cases u2f e4
 rw[VR i1 i2]
def TN (md:Bool)(h:Heap)(v:Value)(t:List Int):Prop:=match md with
 | false=>TT h v t
 | true=>NT h v t
theorem TN.uniq {md:Bool}{h:Heap}{v:Value}{s t:List Int}(x:TN md h v s)(y:TN md h v t):s=t:=by
 cases md with
 | false=>exact TT.uniq x y
 | true=>exact NT.uniq x y
open Classical in
noncomputable def zcD (md:Bool)(h:Heap)(v:Value):Option (List Int):=if x:∃ t,TN md h v t then some x.choose else none
theorem keyTN_of {md:Bool}{h:Heap}{v:Value}{t:List Int}(x:TN md h v t):zcD md h v=some t:=by
 unfold zcD
 have y:∃ t,TN md h v t:=⟨t,x⟩
 rw[dif_pos y,y.choose_spec.uniq x]
@[reducible] noncomputable def zdz (md:Bool) (h:Heap):KeyKind where
 α:=List Int
 blt:=HT.lexLt
 irrefl:=lex_irr
 trans:=lex_trans
 negTrans:=lex_neg
 total:=lex_total
 keyOf:=zcD md h
 dflt:=[]
section
variable {prog:Program}{w:World}{A:Around}{E:Value->Shared->Prop}{s:Shared}
theorem zgp:∀ {vs:List Value} {ns:List Int},IntsAre vs ns->∀ {j:Nat} (h:j < vs.length),∃ t,vs[j]=.int (ns.getD j 0) t:=by
 intro vs ns h
 induction h with
 | nil=>intro j h;simp at h
 | cons n t h ih =>
  intro j hj
  cases j with
  | zero=>exact⟨t,rfl⟩
  | succ j=>exact ih (by simpa using hj)
theorem zkb:∀ (ns ms:List Int),((List.range (min ns.length ms.length)).all (λj=>ns.getD j 0 == ms.getD j 0)&&ns.length == ms.length)=decide (ns=ms):=by
 intro ns ms
 rw[u1f,b7,u0r,beq_iff_eq,r6]
 constructor
 .rintro⟨h1,h2⟩
  refine u2c h2 λi g1 g2=>?_
  have:=h1 i (d5.mpr (by omega))
  rw[beq_iff_eq,j4,j4,u5 g1,u5 g2]at this
  exact this
 .rintro rfl
  exact⟨λj _=>u02 _,rfl⟩
theorem zkE {c d:Addr} {o o2:Obj} {n n2:Nat} {xs ys:List Value} {ns ms:List Int} (hu:A.units < cLine) (e1:s.heap.get? c=some o) (c1:o.cls=.type "tuple") (d1:o.data=.seq xs.toArray n) (i1:IntsAre xs ns) (e2:s.heap.get? d=some o2) (c2:o2.cls=.type "tuple") (d2:o2.data=.seq ys.toArray n2) (i2:IntsAre ys ms) :
 SeqAt.EqAt A s (.ref c) (.ref d) (decide (ns=ms)):=by
 by_cases h:c=d
 .subst h
  rw[e1]at e2
  cases e2
  rw[d1]at d2
  have e3:xs.toArray=ys.toArray:=by injection d2
  cases u2f e3
  rw[VR i1 i2,j8 rfl]
  exact .same _
 .have l1:=i1.length
  have l2:=i2.length
  have:=SeqAt.RcAt.tuples (A:=A) (s:=s) (l:=c) (b:=d) (items:=xs.toArray) (items2:=ys.toArray) (e:=λj=>ns.getD j 0 == ms.getD j 0) ⟨o,e1,c1,n,d1⟩ ⟨o2,e2,c2,n2,d2⟩ hu λj g1 g2=>by
   obtain⟨t,ht⟩:=zgp i1 (j:=j) (by simpa using g1)
   obtain⟨u,hu⟩:=zgp i2 (j:=j) (by simpa using g2)
   simp only[List.getElem_toArray,ht,hu]
   exact .int_int _ _ _ _
  rw[t7,t7,l1,l2,zkb]at this
  exact u1L h this
theorem zkI {c d:Addr} {o o2:Obj} {n n2:Nat} {xs ys:List Value} {ns ms:List Int} {Q:Bool->Shared->Prop} (hu:A.units < cLine) (e1:s.heap.get? c=some o) (c1:o.cls=.type "tuple") (d1:o.data=.seq xs.toArray n) (i1:IntsAre xs ns) (e2:s.heap.get? d=some o2) (c2:o2.cls=.type "tuple") (d2:o2.data=.seq ys.toArray n2) (i2:IntsAre ys ms) (h:Q (HT.lexLt ns ms) s) :
 wpAny (model prog w) A (oneLt' false (.ref c) (.ref d)) Q E s:=by
 rw[oneLt'_eq]
 rw[t6 u7]
 exact u4 (HT.lt_tupInts (items:=xs.toArray) (items2:=ys.toArray) ⟨o,e1,c1,n,d1⟩ ⟨o2,e2,c2,n2,d2⟩ i1 i2 hu (u0x h))
theorem zkj {md:Bool}{x y:Value}{a b:List Int}{Q:Bool->Shared->Prop}(hu:A.units < cLine)(hx:TN md s.heap x a)(hy:TN md s.heap y b)(h:Q (HT.lexLt a b) s):wpAny (model prog w) A (keyLt' (tuples' true) x y) Q E s:=by
 cases md with
 | false=>exact zgx hx hy h
 | true =>
  obtain⟨p,o,n,i,tk,c,us,rfl,e1,_,d1,rfl,o3,n3,xs,f1,c1,g1,i1⟩:=hx
  obtain⟨q,o2,n2,j,tj,d,ws,rfl,e2,_,d2,rfl,o4,n4,ys,f2,c2,g2,i2⟩:=hy
  rw[zcM]
  refine u4 (u1a e1 d1 (u4 (u1a e2 d2 ?_)))
  simp only[u04,u2G,List.zipIdx_cons,List.zipIdx_nil,u3j,u3r]
  refine u4 (u4 (u4 (u1K i tk j tj prog w E _ ?_)))
  rw[HT.lexLt_cons]at h
  by_cases k1:i=j
  .rw[t5 k1]at h
   rw[show(i == j)=true by rw[k1];exact u02 _]
   refine j3 (u4 (u4 (zkE hu f1 c1 g1 i1 f2 c2 g2 i2 prog w E _ ?_)))
   by_cases k2:us=ws
   .rw[j8 k2]
    refine j3 (j3 (j3 ?_))
    rw[k2,lex_irr]at h
    exact h
   .rw[d7 k2]
    exact u4 (zkI hu f1 c1 g1 i1 f2 c2 g2 i2 (j3 (j3 (j3 h))))
  .rw[t6 k1]at h
   rw[show(i == j)=false by simpa using k1]
   exact u4 (oneLt_int (j3 (j3 (j3 h))))
theorem ziM {md:Bool} {h:Heap} {v:Value} {t:List Int} (x:TN md h v t):∃ a o n i0 tk zs,v=.ref a/\h.get? a=some o/\o.cls=.type "tuple"/\o.data=.seq (Value.int i0 tk::zs).toArray n:=by
 cases md with
 | false =>
  obtain⟨a,o,n,its,rfl,e1,c1,d1,hi,hne⟩:=(show TT h v t from x)
  cases hi with
  | nil=>exact absurd rfl hne
  | cons i0 tk hi=>exact⟨a,o,n,i0,tk,_,rfl,e1,c1,d1⟩
 | true =>
  obtain⟨a,o,n,i,tk,c,us,rfl,e1,c1,d1,_⟩:=(show NT h v t from x)
  exact⟨a,o,n,i,tk,_,rfl,e1,c1,d1⟩
theorem zar {md:Bool}:∀ {vs:List Value} {Q:List (Option Value)->Shared->Prop},(∀ v∈vs,∃ t,TN md s.heap v t)->(∀ fs:List Value,fs.length=vs.length->(∀ f∈fs,∃ i t,f=.int i t)->Q (fs.map some) s)->wpAny (model prog w) A (vs.mapM firstOfTuple') Q E s
 | [],Q,_,h=>by rw[List.mapM_nil];exact j3 (h [] rfl (by simp))
 | v::vs,Q,hT,h=>by
  obtain⟨t,ht⟩:=hT v u0e
  obtain⟨a,o,n,i0,tk,zs,rfl,e1,c1,d1⟩:=ziM ht
  rw[u3s,zcG]
  refine u4 (u4 (u2N (T:="tuple") ⟨o,e1,c1⟩ ?_))
  rw[t6 (by simp)]
  refine u4 (u1a e1 d1 (j3 (u4 (zar (λu hu=>hT u (p7 _ hu)) λfs hl hf=>j3 ?_))))
  exact h (.int i0 tk::fs) (by simp[hl]) λf hf'=>by
   rcases n8.mp hf' with rfl | hf'
   .exact⟨_,_,rfl⟩
   .exact hf f hf'
theorem zjK {md:Bool}{v₁:Value}{vs:List Value}{Q:SortKind->Shared->Prop}(hT:∀ v∈v₁::vs,∃ t,TN md s.heap v t)(h:Q (tuples' true) s):wpAny (model prog w) A (keyKind' (v₁::vs).toArray) Q E s:=by
 rw[keyKind'_eq,u1Q,<- bind_pure_comp,bind_assoc]
 refine u4 (zar hT λfs hl hf=>u4 (j3 ?_))
 cases fs with
 | nil=>simp at hl
 | cons f fs =>
  rw[t5 (by simp)]
  have ef:((f::fs).map some).toArray.filterMap id=(f::fs).toArray:=by simp
  refine u4 (u1V ?_)
  rw[ef,oneTypeOnly'_eq,u1Q,zbc hf]
  simp only[map_pure,pure_bind]
  rw[show(List.map (λ_=>Value.type "int") (f::fs)).toArray[0]?=some (Value.type "int") by simp]
  have al:((List.map (λ_=>Value.type "int") (f::fs)).toArray.all λx=>x == Value.type "int")=true:=by
   simp only[List.all_toArray,u1A,u0r]
   intro _ _
   rfl
  simp only[al,u2z,pure_bind,Option.any_some]
  rw[show(Value.type "int" != Value.type "tuple")=true by decide +kernel]
  exact j3 h
end
end OwnSortT
namespace OwnKey
open PySem PyProof.Rows OwnSort OwnSortT
section
variable {prog:Program}{w:World}{A:Around}{E:Value->Shared->Prop}{s:Shared}
theorem ziV {keys:Array Value}{vs:List Value}{x:Keyed}(h:x∈(keys.zip vs.toArray).toList):x.1∈keys.toList:=by
 rw[ksk_zip]at h
 obtain⟨x1,x2⟩:=x
 exact(u2w h).1
theorem zf8 {md:Bool}{keys:Array Value}{vs:List Value}(hu:A.units < cLine)(hT:∀ v∈keys.toList,∃ t,TN md s.heap v t):OwnTim.LtE prog w A E s (zdz md s.heap) (tuples' true) (·∈(keys.zip vs.toArray).toList):=by
 intro st x y Q hk hx hy h
 have look:∀ {x:Keyed},x∈(keys.zip vs.toArray).toList->∃ t,TN md s.heap x.1 t/\OwnTim.ky (zdz md s.heap) x=t:=λ{x} hm=>by
  obtain⟨t,ht⟩:=hT _ (ziV hm)
  refine⟨t,ht,?_⟩
  unfold OwnTim.ky
  show(zcD md s.heap x.1).getD _=t
  rw[keyTN_of ht]
  rfl
 obtain⟨a,ta,ka⟩:=look hx
 obtain⟨b,tb,kb⟩:=look hy
 rw[ka,kb]at h
 rw[lt'_eq]
 refine i8 (wpS_get ?_)
 rw[hk]
 exact i8 (wpS_lift (u21 (zkj hu ta tb ⟨rfl,u0N h⟩)))
def zg2 (md:Bool)(h:Heap)(xs:Array Keyed):Prop:=xs.toList.Pairwise λp q=>HT.lexLt ((zcD md h q.1).getD ([]:List Int)) ((zcD md h p.1).getD ([]:List Int))=false
theorem zhM {md:Bool}{h:Heap}{xs:Array Keyed}{n:Nat}(hn:xs.size=n)(hs:SortedToK (zdz md h) xs n):zg2 md h xs:=by
 unfold zg2
 rw[u0S]
 intro i j hi hj hij
 have hi':i < xs.size:=by simpa using hi
 have hj':j < xs.size:=by simpa using hj
 have:=hs i j (u0M hij) (by rw[<-hn];exact hj')
 unfold KK at this
 rw[u2L xs i hi',u2L xs j hj']at this
 have this:HT.lexLt ((zcD md h xs[j].1).getD ([]:List Int)) ((zcD md h xs[i].1).getD ([]:List Int))=false:=this
 simpa using this
theorem zhp {a kS:Addr} {e e1:Nat} {keys:Array Value} {vs:List Value} {st:SortSt} {P:PySem.Fin->Shared->Prop} (hlen:keys.size=vs.length) (h64:vs.length < 64) (hk:s.heap.get? kS=some (seqObj "list" keys e)) (ha:s.heap.get? a=some (seqObj "list" #[] e1)) (hak:a≠kS)
 (pm:(arrOf st).Perm (keys.zip vs.toArray)) (fl:failedOf st=none)
 (h:P (.done (.ret .none)) { s with heap:=(s.heap.update kS (Obj.mapSeq λ_=>#[])).update a (Obj.mapSeq λ_=>(arrOf st).map (·.2)) }):wpAny (model prog w) A (ksk_tail a false e1 (.ref kS) st) P E s:=by
 have s1:=u0P s.heap kS (Obj.mapSeq λ_=>(#[]:Array Value))
 have na1:(s.heap.update kS (Obj.mapSeq λ_=>(#[]:Array Value))).get? a=some (seqObj "list" #[] e1):=(s1.2 a hak).trans ha
 have hsz2:(arrOf st).size=vs.length:=by rw[pm.size_eq,Array.size_zip,hlen,t7,u2J]
 unfold ksk_tail
 try dsimp only
 refine u4 (u1o hk rfl ?_ (by rw[hlen,u1w];omega) (u0m _))
 refine u4 (u22 ?_)
 refine u4 (seqEpoch_at na1 rfl ?_)
 refine u4 (u1o na1 rfl ?_ (u0m _) (by rw[t6 u7,u3o,hsz2,u1w];omega))
 rw[fl]
 simp only[bne_self_eq_false,u2E,u3y]
 exact j3 h
theorem zmA {md:Bool} {a kS:Addr} {e e1:Nat} {keys:Array Value} {vs:List Value} {P:PySem.Fin->Shared->Prop} (hlen:keys.size=vs.length) (h64:vs.length < 64) (hu:A.units < cLine) (hT:∀ v∈keys.toList,∃ t,TN md s.heap v t) (hk:s.heap.get? kS=some (seqObj "list" keys e)) (ha:s.heap.get? a=some (seqObj "list" #[] e1)) (hak:a≠kS)
 (h:∀ xs:Array Keyed,xs.Perm (keys.zip vs.toArray)->zg2 md s.heap xs->P (.done (.ret .none)) { s with heap:=(s.heap.update kS (Obj.mapSeq λ_=>#[])).update a (Obj.mapSeq λ_=>xs.map (·.2)) }) :
 wpAny (model prog w) A (ksk_end a false vs.toArray e1 (.ref kS) keys) P E s:=by
 have hzs:(keys.zip vs.toArray).size=vs.length:=by rw[Array.size_zip,hlen,t7,u2J]
 unfold ksk_end
 try dsimp only
 rw[t6 u7]
 by_cases h2:vs.toArray.size < 2
 .rw[t5 h2,t5 h2]
  refine u4 (j3 ?_)
  rw[StateT.run_pure]
  refine u4 (j3 ?_)
  try dsimp only
  refine zhp (st:=SortSt.mk' general' (keys.zip vs.toArray) #[] 7 none) hlen h64 hk ha hak (u1E _) rfl (h _ (u1E _) ?_)
  unfold zg2
  rw[u0S]
  intro i j hi hj hij
  have hj':j < (keys.zip vs.toArray).size:=by rw[u0O]at hj;exact hj
  rw[t7]at h2
  rw[hzs]at hj'
  omega
 .rw[t6 h2,t6 h2]
  rw[t7]at h2
  obtain⟨k1,ks,ek⟩:∃ k1 ks,keys.toList=k1::ks:=by
   cases q:keys.toList with
   | nil =>
    have:=u0U List.length q
    rw[u0O,u1h]at this
    omega
   | cons k1 ks=>exact⟨k1,ks,rfl⟩
  have ek2:keys=(k1::ks).toArray:=by rw[<-ek,Array.toArray_toList]
  have hT2:=hT
  rw[ek]at hT2
  have kk:wpAny (model prog w) A (keyKind' keys) (λk s'=>k=tuples' true/\s'=s) E s:=by
   rw[ek2]
   exact zjK hT2 ⟨rfl,rfl⟩
  refine u4 (u0K kk (λk s' hks=>?_) λ_ _ z=>z)
  obtain⟨rfl,rfl⟩:=hks
  refine u4 (u0K (OwnTim.own_runsE (a₀:=keys.zip vs.toArray) (st:=SortSt.mk' (tuples' true) (keys.zip vs.toArray) #[] 7 none) (Q:=λ_ t=>(arrOf t).Perm (keys.zip vs.toArray)/\failedOf t=none/\SortedToK (zdz md _) (arrOf t) (keys.zip vs.toArray).size)
   (zf8 hu hT) (u1E _) rfl rfl rfl (λt p1 p2 p3=>⟨p1,p2,p3⟩) (by rw[hzs];omega) (by rw[hzs];exact h64)) ?_ λ_ _ z=>z)
  rintro⟨⟨⟩,t⟩ s' ⟨rfl,p1,p2,p3⟩
  exact zhp hlen h64 hk ha hak p1 p2 (h _ p1 (zhM p1.size_eq p3))
end
end OwnKey
namespace L2
open PySem PySem.Spec PyProof.Rows PySem.W OwnKey
theorem zhr {α β:Type}{f:α->β}{l m:List β}(p:l.Perm m):∀ Z:List α,m=Z.map f->∃ Z':List α,Z'.Perm Z/\l=Z'.map f:=by
 induction p with
 | nil=>intro Z e;exact⟨Z,.refl _,e⟩
 | cons x p ih =>
  intro Z e
  cases Z with
  | nil=>cases e
  | cons z Z =>
   rw[b9]at e
   obtain⟨e1,e2⟩:=u0R e
   obtain⟨Z',p',rfl⟩:=ih Z e2
   exact⟨z::Z',p'.cons z,by rw[b9,e1]⟩
 | swap x y l =>
  intro Z e
  cases Z with
  | nil=>cases e
  | cons z Z =>
   cases Z with
   | nil=>cases e
   | cons z2 Z =>
    rw[b9,b9]at e
    obtain⟨e1,e2⟩:=u0R e
    obtain⟨e2,e3⟩:=u0R e2
    exact⟨z2::z::Z,.swap _ _ _,by rw[b9,b9,e1,e2,e3]⟩
 | trans p1 p2 ih1 ih2 =>
  intro Z e
  obtain⟨Z2,q2,e2⟩:=ih2 Z e
  obtain⟨Z3,q3,e3⟩:=ih1 Z2 e2
  exact⟨Z3,q3.trans q2,e3⟩
theorem zcW:∀ {t:List Int} {its:List Value},yl (t.map V.int) its->IntsAre its t
 | [],_,.nil=>.nil
 | n::t,_,.cons h r=>by
  obtain⟨tk,rfl⟩:=h
  exact .cons n tk (zcW r)
section
variable {X:Cx}{pins:List (Addr × Obj)}{σ:St}{H:Hp}{s:Shared}
theorem Inv.trackF {a:Addr}{o:HO}(I:Inv X pins σ H s)(f:zbJ X pins H a)(h0:X.s₀.heap.objs.size<=a)(new:xR X.prog X.w (upd H a o) s.heap a o):Inv X pins σ (upd H a o) s:=by
 obtain⟨ha,neL,_,_,neC,hp⟩:=f
 have nz:∀ b u,X.s₀.heap.get? b=some u->b≠a:=λb u e z=>absurd (j7 (r9 e) (z ▸ h0)) (u0J _)
 have ext:∀ b u,H b=some u->upd H a o b=some u:=λb u e=>by rw[zw (zn e ha)];exact e
 refine⟨I.ok,I.os,I.bare,⟨I.base.keep,I.base.slot,λb u e n hx=>?_,I.base.there,λb xs e=>ext _ _ (I.base.tups b xs e),λb u v e=>ext _ _ (I.base.frzs b u v e),λb ps e=>ext _ _ (I.base.tbls b ps e)⟩,I.loc,I.cell,?_,λx c e=>?_,λp hq=>?_,λb u e=>?_,I.len⟩
 .rw[zw (nz b u e)]
  exact I.base.free b u e n hx
 .rw[zw (u1S neL)]
  exact I.free
 .rw[zw (neC x c e)]
  exact I.freeC x c e
 .obtain⟨e,n,r⟩:=I.pin p hq
  exact⟨e,by rw[zw (hp p hq)];exact n,r⟩
 .by_cases c:b=a
  .subst c
   rw[zx]at e
   cases e
   exact new
  .rw[zw c]at e
   exact(I.hok b u e).stay (λ_ _ _ q=>q) (λc hc=>ext _ _ hc) (λc xs hc=>ext _ _ hc) λc ob v hc=>ext _ _ hc
theorem zm6 {md:Bool}{P:Program}{w:World}{h:Heap}{b:Addr}{t:List Int}(ok:HOk P w H h)(e:zhs md H b t)(hne:t≠[]):OwnSortT.TN md h (.ref b) t:=by
 cases md with
 | false =>
  obtain⟨_,its,r,o,e1,c,n,d⟩:=(show xR P w H h b (.tup (t.map V.int))from ok b _ e)
  exact⟨b,o,n,its,rfl,e1,c,d,zcW r,hne⟩
 | true =>
  obtain⟨i,c,us,rfl,h1,h2⟩:=e
  obtain⟨_,its,r,o,e1,c1,n,d⟩:=(show xR P w H h b (.tup [.int i,.ref c])from ok b _ h1)
  obtain⟨_,its2,r2,o2,e2,c2,n2,d2⟩:=(show xR P w H h c (.tup (us.map V.int))from ok c _ h2)
  cases r with
  | cons q r =>
   cases r with
   | cons q2 r =>
    cases r
    obtain⟨tk,rfl⟩:=q
    cases q2
    exact⟨b,o,n,i,tk,c,us,rfl,e1,c1,d,rfl,o2,n2,its2,e2,c2,d2,zcW r2⟩
theorem zgK:∀ {xs:List V} {vs:List Value},xs.length=vs.length->(∀ p∈xs.zip vs,xt p.1 p.2)->yl xs vs
 | [],[],_,_=>.nil
 | x::xs,v::vs,hl,h=>.cons (h (x,v) (.head _)) (zgK (by simpa using hl) λp hp=>h p (.tail _ hp))
theorem ziT {md:Bool}{f a:Addr}{n:Nat}{vs:List Value}{xs:List V}{ts:List (List Int)}{P:PySem.Fin->Shared->Prop}{E:Value->Shared->Prop}{A:Around}(rv:yl xs vs)(hlen:ts.length=vs.length)(h64:vs.length < 64)(hne:∀ t∈ts,t≠[])(hu:A.units < cLine)
 (I:Inv X pins σ H s) (ho:s.heap.get? a=some (seqObj "list" vs.toArray n)) (fa:zbJ X pins H a) (h0:X.s₀.heap.objs.size<=a)
 (turn:∀ (i:Nat) (v:Value) (t:List Int),vs[i]?=some v->ts[i]?=some t->∀ (pins1:List (Addr × Obj)) (H1:Hp) (s1:Shared),(∀ b o,H b=some o->H1 b=some o)->Inv X (pins++pins1) σ H1 s1 ->
  wpAny (model X.prog X.w) A (call (.ref f) [v]) (λy s2=>∃ b H2,y=.ref b/\(∀ b o,H1 b=some o->H2 b=some o)/\zhs md H2 b t/\Inv X (pins++pins1) σ H2 s2) (λ_ _=>False) s1)
 (fin:∀ (zs:List (List Int × V)) (H':Hp) (s':Shared),zs.Perm (ts.zip xs)->zs.Pairwise (λp q=>HT.lexLt q.1 p.1=false)->(∀ b o,H b=some o->H' b=some o)->H' a=none->Inv X pins σ (upd H' a (.lst (zs.map (·.2)))) s'->P (.done (.ret .none)) s') :
 wpAny (model X.prog X.w) A (ksk_tree a (.ref f) false) P E s:=by
 have sl:vs.length < sizeLine:=by rw[u1w];omega
 have ha:a < s.heap.objs.size:=r9 ho
 have s1:=u0P s.heap a (Obj.mapSeq λ_=>(#[]:Array Value))
 obtain⟨e1,ho1⟩:∃ e1,(s.heap.update a (Obj.mapSeq λ_=>(#[]:Array Value))).get? a=some (seqObj "list" #[] e1):=⟨_,u1M ho λ_=>#[]⟩
 have I1:=I.own2 (b:=a) (tk:=s.toks) fa (λc o hc z=>(s1.2 c hc).trans z) ⟨_,ho1⟩
 unfold ksk_tree
 refine u4 (u1a ho rfl ?_)
 refine u4 (u1o ho rfl ?_ (by rw[t7];omega) (u0m _))
 refine u4 (seqEpoch_at ho1 rfl ?_)
 refine u4 (wpAny_newTuple ?_ (by show vs.length<=_;omega))
 refine u4 (u23 ?_ (u0m _))
 refine u0T ?_
 have I2:=I1.un (t':=s.toks) (H':=H) (h':=(s.heap.update a (Obj.mapSeq λ_=>(#[]:Array Value))).push (seqObj "tuple" vs.toArray 0)) (Un.kept λ_ _ q=>u9 _ q) (I1.hok.kept λ_ _ q=>u9 _ q)
 have I3:=I2.un (t':=s.toks) (H':=H) (h':=((s.heap.update a (Obj.mapSeq λ_=>(#[]:Array Value))).push (seqObj "tuple" vs.toArray 0)).push (seqObj "list" #[] 0)) (Un.kept λ_ _ q=>u9 _ q) (I2.hok.kept λ_ _ q=>u9 _ q)
 have hkS:((s.heap.update a (Obj.mapSeq λ_=>(#[]:Array Value))).push (seqObj "tuple" vs.toArray 0)).objs.size=s.heap.objs.size+1:=by rw[size_push',Heap.size_update]
 have hak:a≠((s.heap.update a (Obj.mapSeq λ_=>(#[]:Array Value))).push (seqObj "tuple" vs.toArray 0)).objs.size:=by rw[hkS];exact g9 (u1R ha)
 refine zhD (md:=md) (X:=X) (pins:=pins) (σ:=σ) (H0:=H) (H:=H) (ts:=ts) hak hlen sl turn ⟨I3,λ_ _ z=>z,u9 _ (u9 _ ho1),⟨0,n0 _ rfl⟩,fa,I2.fpOk (t9 _) (I2.hok.fresh (t9 _)),⟨u0m _,λj v hv=>by simp at hv⟩⟩ λkeys H' s' S hks=>?_
 obtain⟨e,hk⟩:=S.hk
 have keyAt:∀ (j:Nat) (v:Value),keys[j]?=some v->∃ t,ts[j]?=some t/\OwnSortT.TN md s'.heap v t:=λj v hv=>by
  obtain⟨b,t,rfl,h1,h2⟩:=S.ks.2 j v hv
  exact⟨t,h1,zm6 S.inv.hok h2 (hne t (r8 h1))⟩
 refine zmA (md:=md) hks h64 hu (λv hv=>?_) hk S.ha hak λys pm rise=>?_
 .obtain⟨j,hj,rfl⟩:=d6 hv
  obtain⟨t,_,h2⟩:=keyAt j keys.toList[j] (by rw[<-Array.getElem?_toList,u5 hj])
  exact⟨t,h2⟩
 .have kl:keys.toList.length=vs.length:=by rw[u0O];exact hks
  have xl:xs.length=vs.length:=rv.length
  obtain⟨Z,hZ⟩:∃ Z:List (Keyed × (List Int × V)),(keys.toList.zip vs).zip (ts.zip xs)=Z:=⟨_,rfl⟩
  have z1:Z.map (·.1)=keys.toList.zip vs:=by rw[<-hZ];exact List.map_fst_zip (by rw[u0o,u0o];omega)
  have z2:Z.map (·.2)=ts.zip xs:=by rw[<-hZ];exact List.map_snd_zip (by rw[u0o,u0o];omega)
  have zf:∀ z∈Z,OwnSortT.TN md s'.heap z.1.1 z.2.1/\xt z.2.2 z.1.2:=λz hz=>by
   rw[<-hZ]at hz
   obtain⟨i,hi,rfl⟩:=d6 hz
   rw[u0o,u0o,u0o]at hi
   have i1:i < keys.toList.length:=by omega
   have i2:i < vs.length:=by omega
   have i3:i < ts.length:=by omega
   have i4:i < xs.length:=by omega
   rw[u2e,u2e,u2e]
   obtain⟨t,h1,h2⟩:=keyAt i keys.toList[i] (by rw[<-Array.getElem?_toList,u5 i1])
   rw[u5 i3]at h1
   cases h1
   refine⟨h2,?_⟩
   obtain⟨u,hu,r⟩:=rv.get (u5 i4)
   rw[u5 i2]at hu
   cases hu
   exact r
  have pl:ys.toList.Perm (keys.toList.zip vs):=by rw[<-ksk_zip];exact u1p.mp pm
  obtain⟨Z',p',ey⟩:=zhr pl Z z1.symm
  have zf':∀ z∈Z',OwnSortT.TN md s'.heap z.1.1 z.2.1/\xt z.2.2 z.1.2:=λz hz=>zf z (p'.mem_iff.mp hz)
  have sorted:(Z'.map (·.2)).Pairwise (λp q=>HT.lexLt q.1 p.1=false):=by
   unfold zg2 at rise
   rw[ey,u0u]at rise
   rw[u0u]
   refine rise.imp_of_mem λ{p q} hp hq hr=>?_
   rw[OwnSortT.keyTN_of (zf' p hp).1,OwnSortT.keyTN_of (zf' q hq).1]at hr
   exact hr
  have eo:(ys.map (·.2)).toList=Z'.map (λz=>z.1.2):=by rw[Array.toList_map,ey,m7];rfl
  have vo:yl ((Z'.map (·.2)).map (·.2)) (ys.map (·.2)).toList:=by
   rw[eo,m7]
   refine zgK (by rw[u6,u6]) λp hp=>?_
   rw[List.zip_map']at hp
   obtain⟨z,hz,rfl⟩:=u0g.mp hp
   exact(zf' z hz).2
  have zl:Z'.length=vs.length:=by rw[p'.length_eq,<- hZ,u0o,u0o,u0o];omega
  have t1:=u0P s'.heap ((s.heap.update a (Obj.mapSeq λ_=>(#[]:Array Value))).push (seqObj "tuple" vs.toArray 0)).objs.size (Obj.mapSeq λ_=>(#[]:Array Value))
  obtain⟨c1,g1⟩:∃ c1,(s'.heap.update ((s.heap.update a (Obj.mapSeq λ_=>(#[]:Array Value))).push (seqObj "tuple" vs.toArray 0)).objs.size (Obj.mapSeq λ_=>(#[]:Array Value))).get? ((s.heap.update a (Obj.mapSeq λ_=>(#[]:Array Value))).push (seqObj "tuple" vs.toArray 0)).objs.size=some (seqObj "list" #[] c1):=⟨_,u1M hk λ_=>#[]⟩
  have J1:=S.inv.own2 (tk:=s'.toks) S.fk (λc o hc z=>(t1.2 c hc).trans z) ⟨_,g1⟩
  have na1:=(t1.2 a hak).trans S.ha
  have t2:=u0P (s'.heap.update ((s.heap.update a (Obj.mapSeq λ_=>(#[]:Array Value))).push (seqObj "tuple" vs.toArray 0)).objs.size (Obj.mapSeq λ_=>(#[]:Array Value))) a (Obj.mapSeq λ_=>ys.map (·.2))
  obtain⟨c2,g2⟩:∃ c2,((s'.heap.update ((s.heap.update a (Obj.mapSeq λ_=>(#[]:Array Value))).push (seqObj "tuple" vs.toArray 0)).objs.size (Obj.mapSeq λ_=>(#[]:Array Value))).update a (Obj.mapSeq λ_=>ys.map (·.2))).get? a=some (seqObj "list" (ys.map (·.2)) c2):=⟨_,u1M na1 λ_=>ys.map (·.2)⟩
  have J2:=J1.own2 (b:=a) (tk:=s'.toks) S.fa (λc o hc z=>(t2.2 c hc).trans z) ⟨_,g2⟩
  refine fin (Z'.map (·.2)) H' _ (by rw[<-z2];exact p'.map _) sorted S.up S.fa.1 (J2.trackF S.fa h0 ⟨by rw[u6,u6,zl];omega,(ys.map (·.2)).toList,c2,vo,?_⟩)
  rw[g2]
end
section
variable {X:Cx}{e body:Expr}{params:Arguments}{scope:Scope}{p pos kp lp:Pos}{t:TA}{te:TE}{q x:Str}{M:List Str}{cl:List (Str × Addr)}{c P:Addr}{k:Nat}
def zl9 (md:Bool)(t:TA)(te:TE):TE:=fun σ H Q=>t σ H λvs H1=>∃ (l:Addr) (xs:List V) (ts:List (List Int)),vs=[.ref l]/\H1 l=some (.lst xs)/\ts.length=xs.length/\xs.length < 64/\(∀ t∈ts,t≠[]) /\
 (∀ (i:Nat) (y:V) (t:List Int),xs[i]?=some y->ts[i]?=some t->∀ H2:Hp,(∀ b o,H1 b=some o->H2 b=some o)->te (some y::σ) H2 λz H3=>∃ b,z=.ref b/\(∀ b o,H2 b=some o->H3 b=some o)/\zhs md H3 b t) /\
 ∀ (zs:List (List Int × V)) (D:Addr) (H':Hp),zs.Perm (ts.zip xs)->zs.Pairwise (λp q=>HT.lexLt q.1 p.1=false)->(∀ b o,H1 b=some o->H' b=some o)->H' D=none->H1 D=none->Q (.ref D) (upd H' D (.lst (zs.map (·.2))))
theorem zav {md:Bool}{pins:List (Addr × Obj)}{σ:St}{H1 H2:Hp}{s2:Shared}{h2:Heap}{u:Value}{f ca:Addr}{ctv:Value}{xs:List V}{ts:List (List Int)}{Q:VK}(hr:Yz (k+4) X.A)(S:vP X x M scope cl)
 (hbind:∀ (pm cdv ctv u:Value),bindArgs (kla_fn "<lambda>" q params body scope cl pm cdv ctv) ⟨[u],[]⟩=pure [(x,u)])
 (hb:∀ f ca A s H,PE (zbW X x M q scope cl f ca A s H) body te) (up2:∀ b o,H1 b=some o->H2 b=some o) (I2:Inv X (pins++Zt [f] h2) σ H2 s2) (hf:h2.get? f=some (zcw X q params body scope cl ca ctv)) (cx:zce H2 ca q)
 (hcol:∀ (Q':List Value->Shared->Prop) (E':Value->Shared->Prop),(∀ its s3,yl xs its->Inv X (pins++Zt [f] h2) σ H2 s3->Q' its s3)->wpAny (model X.prog X.w) X.A.in1 (collect u) Q' E' s2)
 (hlen:ts.length=xs.length) (h64:xs.length < 64) (hne:∀ t∈ts,t≠[])
 (turn:∀ (i:Nat) (y:V) (t:List Int),xs[i]?=some y->ts[i]?=some t->∀ H2:Hp,(∀ b o,H1 b=some o->H2 b=some o)->te (some y::σ) H2 λz H3=>∃ b,z=.ref b/\(∀ b o,H2 b=some o->H3 b=some o)/\zhs md H3 b t)
 (fin:∀ (zs:List (List Int × V)) (D:Addr) (H':Hp),zs.Perm (ts.zip xs)->zs.Pairwise (λp q=>HT.lexLt q.1 p.1=false)->(∀ b o,H1 b=some o->H' b=some o)->H' D=none->H1 D=none->Q (.ref D) (upd H' D (.lst (zs.map (·.2))))) :
 wpAny (model X.prog X.w) X.A (call (.builtin "sorted") [u] [(Str.ofString "key",.ref f)]) (EP X pins σ Q) X.xe s2:=by
 have hfr:X.A.in1.in1.frames=some X.stack:=I2.ok.frames
 have hr2:Yz k X.A.in1.in1:=(hr.mono (by omega:k+2<=k+4)).in1.in1
 refine call_function_entry_kw kind_sorted plain_sorted entry_sorted (ksk_s1 _ _) ?_
 unfold Builtin.«sorted»
 refine u4 (m:=checkCount "sorted" 1 1 _) (j3 ?_)
 refine u4 (hcol _ _ λits s3 rv I3=>?_)
 have hvl:=rv.length
 have hn2:H2 s3.heap.objs.size=none:=I3.hok.fresh (t9 _)
 refine u4 (u23 ?_ (by rw[u1w];omega))
 have hoL:(s3.heap.push (seqObj "list" its.toArray 0)).get? s3.heap.objs.size=some (seqObj "list" its.toArray 0):=n0 _ rfl
 have I4:=I3.un (t':=s3.toks) (H':=H2) (h':=s3.heap.push (seqObj "list" its.toArray 0)) (Un.kept λ_ _ e=>u9 _ e) (I3.hok.kept λ_ _ e=>u9 _ e)
 show wpAny _ _ _ _ _ { s3 with heap:=s3.heap.push (seqObj "list" its.toArray 0) }
 refine u4 (u0T (wpAny_call_entry_kw slot_list_sort ⟨_,hoL,rfl⟩ entry_list_sort ?body (ksk_l1 _ _)))
 case body =>
  show wpAny (model X.prog X.w) X.A.in1.in1 (Builtin.«list.sort» ⟨[.ref s3.heap.objs.size],[(Str.ofString "key",.ref f)]⟩) _ _ _
  rw[ksk_t1]
  refine ziT (md:=md) (X:=X) (pins:=pins++Zt [f] h2) (σ:=σ) (H:=H2) (ts:=ts) rv (by omega) (by omega) hne (u0f (u2g _ _) hr2.units) I4 hoL (I3.fpOk (t9 _) hn2) I3.sz (λi v t hv ht pins1 H3 s4 up3 I5=>?_) λzs H' s' pz sz up ha I5=>⟨_,rfl,j3 ⟨_,rfl,?_⟩⟩
  .have hi:i < xs.length:=by rw[hvl];exact(t8.mp hv).1
   obtain⟨y,hy⟩:∃ y,xs[i]?=some y:=⟨_,u5 hi⟩
   obtain⟨u,hu,ry⟩:=rv.get hy
   rw[hv]at hu
   cases hu
   have hf3:=(I5.pin (f,_) (n9 _ (u1q _ (n9 _ (yY (j6.mpr rfl) hf))))).1
   refine wpAny_call (u2K (ziq S hr2 hfr I5 hf3 (cx.mono up3) (hbind _ _ _ _) (hb f ca _ s4 H3) ry (turn i y t hy ht H3 λb o z=>up3 _ _ (up2 _ _ z))) λr s' hrs=>?_)
   obtain⟨w,rfl,v,H5,I6,rw',b,rfl,up5,hb5⟩:=hrs
   exact⟨b,H5,rw',up5,hb5,I6⟩
  .refine⟨.ref s3.heap.objs.size,_,I5.unpinned,rfl,fin zs _ H' pz sz (λb o z=>up _ _ (up2 _ _ z)) ha ?_⟩
   cases z:H1 s3.heap.objs.size with
   | none=>rfl
   | some o=>rw[up2 _ _ z]at hn2;cases hn2
theorem zee {md:Bool} (hr:Yz (k+4) X.A) (hg:Gl X "sorted") (hm:X.mg "sorted"=none) (hv:bootBuiltins "sorted"=some (.builtin "sorted")) (ha:PA X [e] t)
 (L:Xq X.base X.mg c P q) (hcd:X.env.code=.ref c) (S:vP X x M scope cl) (hdef:defaultsOf params X.env=([],[])) (hq:X.env.qual++"<lambda>"=q)
 (hbind:∀ (pm cdv ctv u:Value),bindArgs (kla_fn "<lambda>" q params body scope cl pm cdv ctv) ⟨[u],[]⟩=pure [(x,u)])
 (hb:∀ f ca A s H,PE (zbW X x M q scope cl f ca A s H) body te)
 (he:backTo pos (starEach [e] X.env)=(false,eval e X.env)::backTo pos (starEach [] X.env):=by rfl) (hpl:(backTo pos (starEach [e] X.env)).any (·.1)=false:=by rfl) :
 PE X (.Call (.Name "sorted" p) [e] [⟨some "key",.Lambda params body scope lp,kp⟩] pos) (zl9 md t te):=by
 intro pins s σ H Q I h
 refine u06 (Zu I hg hm hv ?_ (by decide) (by decide))
 refine u1C (thn (ha pos pins s σ H _ I h) λus s1 ⟨vs,H1,I1,r1,q1⟩=>u16 ?_) he hpl
 obtain⟨l,xs,ts,rfl,hl,hlen,h64,hne,turn,fin⟩:=q1
 obtain⟨u,rfl,ru⟩:=Wk r1
 cases ru
 refine zdv (body:=body) (scope:=scope) (clos:=cl) L hcd S.clos hdef hq I1 λf ca ctv H2 s2 up2 I2 hf cx=>u2m ?_
 obtain⟨_,its,n,rv,el⟩:xs.length<=sizeLine/\∃ (its:List Value) (n:Nat),yl xs its/\s2.heap.get? l=some { cls:=.type "list",data:=.seq its.toArray n }:=I2.hok _ _ (up2 _ _ hl)
 have hvl:=rv.length
 have hls:s2.heap.IsList l its.toArray:=⟨_,el,rfl,n,rfl⟩
 refine zav (md:=md) (H1:=H1) hr S hbind hb up2 I2 hf cx (λQ' E' hQ=>?_) hlen h64 hne turn fin
 refine collect_list hls (hQ its _ rv (I2.un (t':=s2.toks) (H':=H2) (Un.kept ?_) (I2.hok.kept ?_))) (by rw[u1w];omega)
 all_goals
  intro b o q
  have hlt:b < s2.heap.objs.size:=r9 q
  rw[Heap.get?_update_ne _ _ _ _ (g9 hlt),Heap.get?_push_ne _ _ _ (g9 hlt)]
  exact q
end
end L2
namespace OwnKey
open PySem
section
variable {prog:Program}{w:World}{A:Around}{E:Value->Shared->Prop}{s:Shared}
theorem zbs {r:Addr}{a b c:Int}{t u v:Tok}{n:Nat}{Q:List Value->Shared->Prop}(hh:A.handled=none)(hr:IsRange s.heap r a b c t u v)(hsmall:Builtin.Range.small a b c=true)(hn:Builtin.Range.rangeSize a b c=n)(hlen:n<=2 ^ 24)
 (h:∀ (h':Heap) (tk:Nat) (acc:Array Value),(∀ b o,s.heap.get? b=some o->h'.get? b=some o)->ItemsOf (λi v=>∃ t,v=.int (a+i*c) t) acc n->Q acc.toList { s with heap:=h',toks:=tk }):wpAny (model prog w) A (collect (.ref r)) Q E s:=by
 unfold collect
 refine u4 (wpAny_runValue (codeAny_builtin F.entry_proto_collect ?_))
 rw[u2i F.plain_proto_collect _]
 show wpAny _ A.in1 (newList []>>=λl=>again (.builtin "list.__iadd__" ⟨[l,.ref r],[]⟩)) _ _ s
 refine u4 (u0H ?_)
 refine j3 ⟨u2p F.plain_list_iadd _,codeAny_builtin F.entry_list_iadd ?_⟩
 rw[u2i F.plain_list_iadd _]
 show wpAny _ A.in1 (Builtin.List.listExtendWith (.ref s.heap.objs.size) (.ref r) (.ref s.heap.objs.size)) _ _ _
 have last:∀ (r':Result) (s':Shared),(∃ h' tk acc c',r'=.ok (.ret (.ref s.heap.objs.size))/\s'={ s with heap:=h',toks:=tk }/\(∀ b o,s.heap.get? b=some o->h'.get? b=some o)/\h'.get? s.heap.objs.size=some { cls:=.type "list",dict:=none,data:=.seq acc c',slots:=#[] }/\ItemsOf (λi v=>∃ t,v=.int (a+i*c) t) acc n) ->
  wants (λv s'=>wpAny (model prog w) A (match v with
   | .ref a=>do
    let o<-load a
    match o.data with
    | .seq xs _=>pure xs.toList
    | _=>unsupported "internal:collect"
   | _=>unsupported "internal:collect") Q E s') E r' s':=by
  rintro _ _ ⟨h',tk,acc,c',rfl,rfl,k,hS,hacc⟩
  show wpAny _ A (load s.heap.objs.size>>=_) _ _ _
  refine u4 (wpAny_load hS ?_)
  exact j3 (h h' tk acc k hacc)
 refine u0K (wpAny_extend_range (A:=A) (R:=λr' s'=>∃ h' tk acc c',r'=.ok (.ret (.ref s.heap.objs.size))/\s'={ s with heap:=h',toks:=tk }/\(∀ b o,s.heap.get? b=some o->h'.get? b=some o)/\h'.get? s.heap.objs.size=some { cls:=.type "list",dict:=none,data:=.seq acc c',slots:=#[] }/\ItemsOf (λi v=>∃ t,v=.int (a+i*c) t) acc n)
  (s:={ s with heap:=s.heap.push { cls:=.type "list",data:=.seq ([]:List Value).toArray } }) hh (u9 _ hr) hsmall hn hlen s.heap.objs.size _ 0 (n0 _ rfl) λh' tk acc c' k hS hacc=>⟨h',tk,acc,c',rfl,rfl,λb o e=>k b o (g9 (r9 e)) (u9 _ e),hS,hacc⟩) (λfin s' hq=>?_) λe s' hq=>?_
 .cases fin with
  | done f=>exact last _ _ hq
  | again c'=>exact⟨hq.1,u2K hq.2 λr' s'' hq'=>last _ _ hq'⟩
 .exact last _ _ hq
end
end OwnKey
namespace L2
open PySem PySem.Spec PyProof.Rows PySem.W OwnKey
section
variable {X:Cx}{a body:Expr}{params:Arguments}{scope:Scope}{p p2 pos pos2 kp lp:Pos}{ta te:TE}{q x:Str}{M:List Str}{cl:List (Str × Addr)}{c P:Addr}{k:Nat}
def zlM (ta te:TE):TE:=fun σ H Q=>ta σ H λy H1=>∃ (j:Nat) (ts:List (List Int)),y=.int (j:Int)/\j<=60/\ts.length=j/\(∀ t∈ts,t≠[]) /\
 (∀ (i:Nat) (z:V) (t:List Int),((List.range j).map λk:Nat=>V.int (k:Int))[i]?=some z->ts[i]?=some t->∀ H2:Hp,(∀ b o,H1 b=some o->H2 b=some o)->te (some z::σ) H2 λz H3=>∃ b,z=.ref b/\(∀ b o,H2 b=some o->H3 b=some o)/\zhs false H3 b t) /\
 ∀ (zs:List (List Int × V)) (D:Addr) (H':Hp),zs.Perm (ts.zip ((List.range j).map λk:Nat=>V.int (k:Int)))->zs.Pairwise (λp q=>HT.lexLt q.1 p.1=false)->(∀ b o,H1 b=some o->H' b=some o)->H' D=none->H1 D=none->Q (.ref D) (upd H' D (.lst (zs.map (·.2))))
theorem zhz (hr:Yz (k+4) X.A) (hg:Gl X "sorted") (hm:X.mg "sorted"=none) (hv:bootBuiltins "sorted"=some (.builtin "sorted")) (hg2:Gl X "range") (hm2:X.mg "range"=none) (ha:PE X a ta)
 (L:Xq X.base X.mg c P q) (hcd:X.env.code=.ref c) (S:vP X x M scope cl) (hdef:defaultsOf params X.env=([],[])) (hq:X.env.qual++"<lambda>"=q)
 (hbind:∀ (pm cdv ctv u:Value),bindArgs (kla_fn "<lambda>" q params body scope cl pm cdv ctv) ⟨[u],[]⟩=pure [(x,u)])
 (hb:∀ f ca A s H,PE (zbW X x M q scope cl f ca A s H) body te) (hs:starEach [a] X.env=[(false,eval a X.env)]:=by rfl)
 (he:backTo pos (starEach [.Call (.Name "range" p2) [a] [] pos2] X.env)=(false,eval (.Call (.Name "range" p2) [a] [] pos2) X.env)::backTo pos (starEach [] X.env):=by rfl) (hpl:(backTo pos (starEach [.Call (.Name "range" p2) [a] [] pos2] X.env)).any (·.1)=false:=by rfl) :
 PE X (.Call (.Name "sorted" p) [.Call (.Name "range" p2) [a] [] pos2] [⟨some "key",.Lambda params body scope lp,kp⟩] pos) (zlM ta te):=by
 intro pins s σ H Q I h
 refine u06 (Zu I hg hm hv ?_ (by decide) (by decide))
 refine u1C ?_ he hpl
 rw[he]
 show wpAny _ _ (spliced ((false,eval (.Call (.Name "range" p2) [a] [] pos2) X.env)::[])) _ _ _
 refine u1F ?_
 refine Call_ (Zu I hg2 hm2 boot_range (u0q ?_ hs rfl))
 rw[hs]
 show wpAny _ _ (spliced ((false,eval a X.env)::[])) _ _ _
 refine u1F (thn (ha pins s σ H _ I h) λv s1 hh9=>?_)
 obtain⟨y,H1,I1,r1,q1⟩:=hh9
 obtain⟨j,ts,rfl,hj,hlen,hne,turn,fin⟩:=q1
 obtain⟨t,rfl⟩:=r1
 refine u1O ?_
 refine call_range_1 ?_
 refine u1O ?_
 have I2:Inv X pins σ H1 { s1 with heap:=s1.heap.push { cls:=.type "range",data:=.fields #[.int 0 s1.toks,.int (j:Int) t,.int 1 (s1.toks+1)] },toks:=s1.toks+1+1 }:=I1.kept λb o e=>u9 _ e
 obtain⟨r,hrr⟩:∃ r,s1.heap.objs.size=r:=⟨_,rfl⟩
 have hrg:(s1.heap.push { cls:=.type "range",data:=.fields #[.int 0 s1.toks,.int (j:Int) t,.int 1 (s1.toks+1)] }).get? r=some { cls:=.type "range",data:=.fields #[.int 0 s1.toks,.int (j:Int) t,.int 1 (s1.toks+1)] }:=by rw[<-hrr];exact n0 _ rfl
 have I2p:=I2.pinned (fp:=[r]) (λb hb=>by rw[j6.mp hb];exact I1.fpOk (u2H hrr) (I1.hok.fresh (u2H hrr))) (λb hb=>by rw[j6.mp hb];exact⟨_,hrg,λv z=>by cases z⟩)
 rw[hrr]
 refine u16 ?_
 refine zdv (body:=body) (scope:=scope) (clos:=cl) L hcd S.clos hdef hq I2p λf ca ctv H2 s2 up2 I3 hf cx=>u2m ?_
 have hr2:=(I3.pin (r,_) (n9 _ (u1q _ (n9 _ (yY (j6.mpr rfl) hrg))))).1
 refine u0K (zav (md:=false) (H1:=H1) (xs:=(List.range j).map λk:Nat=>V.int (k:Int)) (Q:=Q) hr S hbind hb up2 I3 hf cx (λQ' E' hQ=>?_) (by rw[u6,g8];exact hlen) (by rw[u6,g8];omega) hne turn fin) (λv s' ⟨w,H',J,rw',q'⟩=>⟨w,H',J.unpinned,rw',q'⟩) λ_ _ z=>z
 refine zbs (n:=j) (by simp[hr.hd]) hr2 (small_one (by decide) (by decide) (by omega) (by omega)) (by rw[rangeSize_one];split <;> omega) (by omega) λh' tk acc kk hacc=>?_
 exact hQ acc.toList _ (zeH hacc) (I3.un (t':=tk) (H':=H2) (Un.kept kk) (I3.hok.kept kk))
end
end L2
namespace Dl
open PySem L2
variable [KK]
theorem AtL.map2 {F:Hp}{α:Type}{f:α->D}{g:α->V}:∀ (l:List α),(∀ z∈l,At F (f z) (g z))->AtL F (l.map f) (l.map g)
 | [],_=>.nil
 | z::l,h=>.cons (h z (.head _)) (AtL.map2 l λy hy=>h y (.tail _ hy))
def Zx (ts:List (List Int))(ds:List D):List D:=(yP ts).map λt=>ds.getD (ts.idxOf t) .non
theorem zaR {F:Hp}{ds:List D}{xs:List V}{ts:List (List Int)}{zs:List (List Int × V)}(al:AtL F ds xs)(hlen:ts.length=xs.length)(nd:ts.Nodup)(p:zs.Perm (ts.zip xs))(s:zs.Pairwise λp q=>HT.lexLt q.1 p.1=false) :
 AtL F (Zx ts ds) (zs.map (·.2)):=by
 have e:zs.map (·.1)=yP ts:=zdg (by
  have:=p.map (·.1)
  rwa[show(ts.zip xs).map (·.1)=ts from List.map_fst_zip (u2H hlen)]at this) (u0u.mpr s)
 unfold Zx
 rw[<-e,m7]
 refine AtL.map2 zs λz hz=>?_
 obtain⟨i,hi,rfl⟩:=d6 (p.mem_iff.mp hz)
 rw[u0o]at hi
 have i1:i < ts.length:=by omega
 have i2:i < xs.length:=by omega
 rw[u2e]
 show At F (ds.getD (ts.idxOf ts[i]) .non) xs[i]
 have ei:ts.idxOf ts[i]=i:=nd.idxOf_getElem i i1
 rw[ei]
 have hd:ds.length=xs.length:=al.length.symm
 have h1:ds[i]?=some ds[i]:=u5 (by omega)
 obtain⟨x,hx,ax⟩:=al.get h1
 rw[u5 i2]at hx
 cases hx
 rw[j4,h1]
 exact ax
end Dl
namespace Dl
open PySem L2
variable [KK]
def zcZ (g:Ev->Option D)(ρ:Ev):List D->Option (List (List Int))
 | []=>some []
 | d::ds=>(g (some d::ρ)).bind λkd=>match kd with
  | .tup es=>(zai es).bind λt=>if t=[]then none else (zcZ g ρ ds).map (t::·)
  | _=>none
theorem VD {g:Ev->Option D}{ρ:Ev}:∀ {ds:List D} {ts:List (List Int)},zcZ g ρ ds=some ts->ts.length=ds.length/\(∀ t∈ts,t≠[])/\∀ (i:Nat) (d:D) (t:List Int),ds[i]?=some d->ts[i]?=some t->∃ es,g (some d::ρ)=some (.tup es)/\zai es=some t
 | [],ts,h=>by
  cases h
  exact⟨rfl,λt ht=>by(cases ht),λi d t h=>by(simp at h)⟩
 | d::ds,ts,h=>by
  obtain⟨kd,e1,h⟩:=u3.mp h
  cases kd with
  | tup es =>
   obtain⟨t,e2,h⟩:=u3.mp h
   split at h
   .cases h
   .rename_i hne
    obtain⟨ts0,e3,rfl⟩:=u8.mp h
    obtain⟨l1,l2,l3⟩:=VD e3
    refine⟨by rw[p6,p6,l1],λu hu=>?_,λi d' t' hd ht=>?_⟩
    .rcases n8.mp hu with rfl | hu
     .exact hne
     .exact l2 u hu
    .cases i with
     | zero=>cases hd;cases ht;exact⟨es,e1,e2⟩
     | succ i=>exact l3 i d' t' hd ht
  | _=>cases h
theorem Gr.upH {F H F' H':Hp}(g:Gr F H F' H')(s:xj F H):∀ b o,H b=some o->H' b=some o:=λb o e=>by
 cases h:F b with
 | none=>exact(g.kp b o h e).2
 | some u =>
  have:=s b u h
  rw[e]at this
  cases this
  exact g.fh _ _ (g.ff _ _ h)
def zcy (f g:Ev->Option D):Ev->Option (List D):=fun ρ=>(f ρ).bind λd=>(lrD d).bind λds=>(zcZ g ρ ds).bind λts=>if ts.Nodup then some (Zx ts ds)else none
end Dl
namespace Dl
open PySem L2 PySem.Spec PyProof.Rows PySem.W
variable [KK]
theorem vU {F:Hp}:∀ {t:List Int} {ys:List V},AtL F (t.map D.int) ys->ys=t.map V.int
 | [],_,h=>by rw[h.nil_inv];rfl
 | n::t,_,h=>by
  obtain⟨x,r,rfl,a,l⟩:=h.cons_inv
  rw[a.int_inv,vU l]
  rfl
section
variable {X:Cx}{a body:Expr}{params:Arguments}{scope:Scope}{p p2 pos pos2 kp lp:Pos}{q x:Str}{M:List Str}{cl:List (Str × Addr)}{c P:Addr}{k:Nat}{f g:Ev->Option D}
theorem zdT (hr:Yz (k+4) X.A) (hg:Gl X "sorted") (hm:X.mg "sorted"=none) (hg2:Gl X "range") (hm2:X.mg "range"=none) (ha:ED X a f)
 (L:Xq X.base X.mg c P q) (hcd:X.env.code=.ref c) (S:vP X x M scope cl) (hdef:defaultsOf params X.env=([],[])) (hq:X.env.qual++"<lambda>"=q)
 (hbind:∀ (pm cdv ctv u:Value),bindArgs (kla_fn "<lambda>" q params body scope cl pm cdv ctv) ⟨[u],[]⟩=pure [(x,u)])
 (hb:∀ f ca A s H,ED (zbW X x M q scope cl f ca A s H) body g) (hs:starEach [a] X.env=[(false,eval a X.env)]:=by rfl)
 (he:backTo pos (starEach [.Call (.Name "range" p2) [a] [] pos2] X.env)=(false,eval (.Call (.Name "range" p2) [a] [] pos2) X.env)::backTo pos (starEach [] X.env):=by rfl) (hpl:(backTo pos (starEach [.Call (.Name "range" p2) [a] [] pos2] X.env)).any (·.1)=false:=by rfl) :
 FL X (.Call (.Name "sorted" p) [.Call (.Name "range" p2) [a] [] pos2] [⟨some "key",.Lambda params body scope lp,kp⟩] pos) (zcy f g):=by
 obtain⟨ta,pa,ra⟩:=ha
 refine⟨_,zhz hr hg hm XV hg2 hm2 pa L hcd S hdef hq hbind (λ_ _ _ _ _=>(hb _ _ _ _ _).can) hs he hpl,fun σ ρ F H z Q s va e qq=>?_⟩
 obtain⟨d,e1,e⟩:=u3.mp e
 obtain⟨ds,e2,e⟩:=u3.mp e
 obtain⟨ts,e3,e⟩:=u3.mp e
 split at e
 .rename_i nd
  cases e
  refine ra σ ρ F H d _ s va e1 λF1 H1 v g1 a1=>?_
  cases d with
  | int j =>
   have e2:(if 0<=j/\j<=60 then some ((List.range j.toNat).map λk:Nat=>D.int (k:Int))else none)=some ds:=e2
   split at e2
   .rename_i hj
    cases e2
    have ev:=a1.int_inv
    subst ev
    obtain⟨l1,l2,l3⟩:=VD e3
    rw[u6,g8]at l1
    have va1:=va.mono g1.ff
    have al:∀ F':Hp,AtL F' ((List.range j.toNat).map λk:Nat=>D.int (k:Int)) ((List.range j.toNat).map λk:Nat=>V.int (k:Int)):=λF'=>AtL.map2 _ λz _=>.int
    refine⟨j.toNat,ts,by rw[u1b hj.1],by omega,l1,l2,λi y t hy ht H2 up=>?_,λzs D H' pz sz up hD h1D=>?_⟩
    .rw[j5]at hy
     obtain⟨i',hi',rfl⟩:=u8.mp hy
     obtain⟨es,eg,et⟩:=l3 i (.int (i':Int)) t (by rw[j5,hi'];rfl) ht
     have s2:xj F1 H2:=λb o z=>up _ _ (g1.fh _ _ z)
     refine zaE _ (some (.int (i':Int))::ρ) F1 H2 _ _ s2 (λn d' hd=>?_) eg λF' H3 v g3 a3=>?_
     .cases n with
      | zero=>cases hd;exact⟨_,rfl,.int⟩
      | succ n=>exact va1 n d' hd
     .obtain⟨b,ys,rfl,hb',al'⟩:=a3.tup_inv
      rw[YO et]at al'
      rw[vU al']at hb'
      exact⟨b,rfl,g3.upH s2,g3.fh _ _ hb'⟩
    .have fD:F1 D=none:=by
      cases z:F1 D with
      | none=>rfl
      | some o=>rw[g1.fh _ _ z]at h1D;cases h1D
     have g2:Gr F1 H1 F1 (upd H' D (.lst (zs.map (·.2)))):=⟨xj.refl _,λb o z=>by rw[zw (zn z fD)];exact up _ _ (g1.fh _ _ z),λb o z1 z2=>⟨.inl z1,by rw[zw (zn z2 h1D)];exact up _ _ z2⟩⟩
     exact qq F1 _ D _ (g1.trans g2) (zbV g1 h1D) fD zx (zaR (al F1) (by rw[l1,u6,g8]) nd pz sz)
   .cases e2
  | _=>cases e2
 .cases e
end
end Dl
namespace Dl
open PySem L2 PySem.Spec PyProof.Rows PySem.W
variable [KK]
section
variable {X:Cx}{e body:Expr}{params:Arguments}{scope:Scope}{p pos kp lp:Pos}{q x:Str}{M:List Str}{cl:List (Str × Addr)}{c P:Addr}{k:Nat}{g:Ev->Option D}{fa:Ev->Option (List D)}
def zjp (g:Ev->Option D)(ρ:Ev)(as:List D):Option (List D):=match as with
 | [.lst ds]=>(zcZ g ρ ds).bind λts=>if ts.Nodup/\ds.length < 64 then some (Zx ts ds)else none
 | _=>none
def zfL (fa:Ev->Option (List D))(g:Ev->Option D):Ev->Option (List D):=fun ρ=>(fa ρ).bind (zjp g ρ)
theorem ziB (hr:Yz (k+4) X.A) (hg:Gl X "sorted") (hm:X.mg "sorted"=none) (ha:AD X [e] fa)
 (L:Xq X.base X.mg c P q) (hcd:X.env.code=.ref c) (S:vP X x M scope cl) (hdef:defaultsOf params X.env=([],[])) (hq:X.env.qual++"<lambda>"=q)
 (hbind:∀ (pm cdv ctv u:Value),bindArgs (kla_fn "<lambda>" q params body scope cl pm cdv ctv) ⟨[u],[]⟩=pure [(x,u)])
 (hb:∀ f ca A s H,ED (zbW X x M q scope cl f ca A s H) body g)
 (he:backTo pos (starEach [e] X.env)=(false,eval e X.env)::backTo pos (starEach [] X.env):=by rfl) (hpl:(backTo pos (starEach [e] X.env)).any (·.1)=false:=by rfl) :
 FL X (.Call (.Name "sorted" p) [e] [⟨some "key",.Lambda params body scope lp,kp⟩] pos) (zfL fa g):=by
 obtain⟨ta,pa,ra⟩:=ha
 refine⟨_,zee (md:=false) hr hg hm XV pa L hcd S hdef hq hbind (λ_ _ _ _ _=>(hb _ _ _ _ _).can) he hpl,fun σ ρ F H z Q s va e qq=>?_⟩
 obtain⟨as,e1,e2⟩:=u3.mp e
 unfold zjp at e2
 split at e2
 .rename_i ds
  obtain⟨ts,e3,e⟩:=u3.mp e2
  split at e
  .rename_i nd
   cases e
   refine ra σ ρ F H _ _ s va e1 λF1 H1 vs g1 a1=>?_
   obtain⟨v,r,rfl,ax,ar⟩:=a1.cons_inv
   cases ar.nil_inv
   obtain⟨l,xs,rfl,hl,al⟩:=ax.lst_inv
   obtain⟨l1,l2,l3⟩:=VD e3
   have hxl:=al.length
   have va1:=va.mono g1.ff
   refine⟨l,xs,ts,rfl,g1.fh _ _ hl,by omega,by omega,l2,λi y t hy ht H2 up=>?_,λzs D H' pz sz up hD h1D=>?_⟩
   .have hi:i < ds.length:=by rw[<-hxl];exact(t8.mp hy).1
    have hd:ds[i]?=some ds[i]:=u5 hi
    obtain⟨y',hy',ay⟩:=al.get hd
    rw[hy]at hy'
    cases hy'
    obtain⟨es,eg,et⟩:=l3 i _ t hd ht
    have s2:xj F1 H2:=λb o z=>up _ _ (g1.fh _ _ z)
    refine zaE _ (some ds[i]::ρ) F1 H2 _ _ s2 (λn d' hd'=>?_) eg λF' H3 v g3 a3=>?_
    .cases n with
     | zero=>cases hd';exact⟨_,rfl,ay⟩
     | succ n=>exact va1 n d' hd'
    .obtain⟨b,ys,rfl,hb',al'⟩:=a3.tup_inv
     rw[YO et]at al'
     rw[vU al']at hb'
     exact⟨b,rfl,g3.upH s2,g3.fh _ _ hb'⟩
   .have fD:F1 D=none:=by
     cases z:F1 D with
     | none=>rfl
     | some o=>rw[g1.fh _ _ z]at h1D;cases h1D
    have g2:Gr F1 H1 F1 (upd H' D (.lst (zs.map (·.2)))):=⟨xj.refl _,λb o z=>by rw[zw (zn z fD)];exact up _ _ (g1.fh _ _ z),λb o z1 z2=>⟨.inl z1,by rw[zw (zn z2 h1D)];exact up _ _ z2⟩⟩
    exact qq F1 _ D _ (g1.trans g2) (zbV g1 h1D) fD zx (zaR al (by omega) nd.1 pz sz)
  .cases e
 .cases e2
end
end Dl
namespace Dl
open PySem L2 PySem.Spec PyProof.Rows PySem.W
variable [KK]
def zgT (g:Ev->Option D)(ρ:Ev):List D->Option (List (List Int))
 | []=>some []
 | d::ds=>(g (some d::ρ)).bind λkd=>match kd with
  | .tup [.int i,.tup es]=>(zai es).bind λt=>(zgT g ρ ds).map ((i::t)::·)
  | _=>none
theorem zfj {g:Ev->Option D}{ρ:Ev}:∀ {ds:List D} {ts:List (List Int)},zgT g ρ ds=some ts->ts.length=ds.length/\(∀ t∈ts,t≠[])/\∀ (i:Nat) (d:D) (t:List Int),ds[i]?=some d->ts[i]?=some t->∃ j es us,g (some d::ρ)=some (.tup [.int j,.tup es])/\zai es=some us/\t=j::us:=by
 intro ds
 induction ds with
 | nil =>
  intro ts h
  cases h
  exact⟨rfl,λt ht=>by(cases ht),λi d t h=>by(simp at h)⟩
 | cons d ds ih =>
  intro ts h
  obtain⟨kd,e1,h⟩:=u3.mp h
  split at h
  .rename_i j es
   obtain⟨t,e2,h⟩:=u3.mp h
   obtain⟨ts0,e3,rfl⟩:=u8.mp h
   obtain⟨l1,l2,l3⟩:=ih e3
   refine⟨by rw[p6,p6,l1],λu hu=>?_,λi d' t' hd ht=>?_⟩
   .rcases n8.mp hu with rfl | hu
    .simp
    .exact l2 u hu
   .cases i with
    | zero=>cases hd;cases ht;exact⟨j,es,t,e1,e2,rfl⟩
    | succ i=>exact l3 i d' t' hd ht
  .cases h
section
variable {X:Cx}{e body:Expr}{params:Arguments}{scope:Scope}{p pos kp lp:Pos}{q x:Str}{M:List Str}{cl:List (Str × Addr)}{c P:Addr}{k:Nat}{g:Ev->Option D}{fa:Ev->Option (List D)}
def zji (g:Ev->Option D)(ρ:Ev)(as:List D):Option (List D):=match as with
 | [.lst ds]=>(zgT g ρ ds).bind λts=>if ts.Nodup/\ds.length < 64 then some (Zx ts ds)else none
 | _=>none
def zhf (fa:Ev->Option (List D))(g:Ev->Option D):Ev->Option (List D):=fun ρ=>(fa ρ).bind (zji g ρ)
theorem zhH (hr:Yz (k+4) X.A) (hg:Gl X "sorted") (hm:X.mg "sorted"=none) (ha:AD X [e] fa)
 (L:Xq X.base X.mg c P q) (hcd:X.env.code=.ref c) (S:vP X x M scope cl) (hdef:defaultsOf params X.env=([],[])) (hq:X.env.qual++"<lambda>"=q)
 (hbind:∀ (pm cdv ctv u:Value),bindArgs (kla_fn "<lambda>" q params body scope cl pm cdv ctv) ⟨[u],[]⟩=pure [(x,u)])
 (hb:∀ f ca A s H,ED (zbW X x M q scope cl f ca A s H) body g)
 (he:backTo pos (starEach [e] X.env)=(false,eval e X.env)::backTo pos (starEach [] X.env):=by rfl) (hpl:(backTo pos (starEach [e] X.env)).any (·.1)=false:=by rfl) :
 FL X (.Call (.Name "sorted" p) [e] [⟨some "key",.Lambda params body scope lp,kp⟩] pos) (zhf fa g):=by
 obtain⟨ta,pa,ra⟩:=ha
 refine⟨_,zee (md:=true) hr hg hm XV pa L hcd S hdef hq hbind (λ_ _ _ _ _=>(hb _ _ _ _ _).can) he hpl,fun σ ρ F H z Q s va e qq=>?_⟩
 obtain⟨as,e1,e2⟩:=u3.mp e
 unfold zji at e2
 split at e2
 .rename_i ds
  obtain⟨ts,e3,e⟩:=u3.mp e2
  split at e
  .rename_i nd
   cases e
   refine ra σ ρ F H _ _ s va e1 λF1 H1 vs g1 a1=>?_
   obtain⟨v,r,rfl,ax,ar⟩:=a1.cons_inv
   cases ar.nil_inv
   obtain⟨l,xs,rfl,hl,al⟩:=ax.lst_inv
   obtain⟨l1,l2,l3⟩:=zfj e3
   have hxl:=al.length
   have va1:=va.mono g1.ff
   refine⟨l,xs,ts,rfl,g1.fh _ _ hl,by omega,by omega,l2,λi y t hy ht H2 up=>?_,λzs D H' pz sz up hD h1D=>?_⟩
   .have hi:i < ds.length:=by rw[<-hxl];exact(t8.mp hy).1
    have hd:ds[i]?=some ds[i]:=u5 hi
    obtain⟨y',hy',ay⟩:=al.get hd
    rw[hy]at hy'
    cases hy'
    obtain⟨j,es,us,eg,et,rfl⟩:=l3 i _ t hd ht
    have s2:xj F1 H2:=λb o z=>up _ _ (g1.fh _ _ z)
    refine zaE _ (some ds[i]::ρ) F1 H2 _ _ s2 (λn d' hd'=>?_) eg λF' H3 v g3 a3=>?_
    .cases n with
     | zero=>cases hd';exact⟨_,rfl,ay⟩
     | succ n=>exact va1 n d' hd'
    .obtain⟨b,ys,rfl,hb',al'⟩:=a3.tup_inv
     obtain⟨v1,r1,rfl,b1,c1⟩:=al'.cons_inv
     obtain⟨v2,r2,rfl,b2,c2⟩:=c1.cons_inv
     cases c2.nil_inv
     cases b1.int_inv
     obtain⟨c,ws,rfl,hc',cl'⟩:=b2.tup_inv
     rw[YO et]at cl'
     rw[vU cl']at hc'
     exact⟨b,rfl,g3.upH s2,j,c,us,rfl,g3.fh _ _ hb',g3.fh _ _ hc'⟩
   .have fD:F1 D=none:=by
     cases z:F1 D with
     | none=>rfl
     | some o=>rw[g1.fh _ _ z]at h1D;cases h1D
    have g2:Gr F1 H1 F1 (upd H' D (.lst (zs.map (·.2)))):=⟨xj.refl _,λb o z=>by rw[zw (zn z fD)];exact up _ _ (g1.fh _ _ z),λb o z1 z2=>⟨.inl z1,by rw[zw (zn z2 h1D)];exact up _ _ z2⟩⟩
    exact qq F1 _ D _ (g1.trans g2) (zbV g1 h1D) fD zx (zaR al (by omega) nd.1 pz sz)
  .cases e
 .cases e2
end
end Dl
namespace L2
open PySem PySem.Spec PyProof.Rows
theorem zec {X:Cx}{x:Str}{N M cn:List Str}{scope:Scope}{cl:List (Str × Addr)}{rn dn:List (Str × NameKind)}(hr:scope.names=rn)(hd:X.env.scope.names=dn)(hN:X.N=N)
 (clos:closureFor scope X.env=pure cl) (kind:scope.kind=.function) (par:scope.names.lookup x=some .local) (co:scope.isCoroutine=false) (gen:scope.isGenerator=false) (hc:cl.map Prod.fst=cn) (good:ZX scope.names rn dn N M cn=true) (sub:∀ p∈cl,X.env.cells.lookup p.1=some p.2):vP X x M scope cl:=by
 unfold ZX at good
 simp only[b7,u0r,r6]at good
 obtain⟨⟨⟨⟨⟨g1,g2⟩,g3⟩,g5⟩,g6⟩,g4⟩:=good
 have g5:M.length=N.length:=by simpa using g5
 refine⟨clos,g1,kind,par,co,gen,λy c h=>sub (y,c) (i6 h),λy h=>?_,by rw[hN];exact g5,λi y e v=>?_,λi y e v=>?_,λi y e v=>?_⟩
 .rw[hr]at h
  have hy:y∈cn:=by
   rcases h with h | h
   .exact g3 _ (i6 h) (.inl rfl)
   .exact g3 _ (i6 h) (.inr rfl)
  exact Yc (by rw[hc];exact hy)
 .unfold Vis at v
  rw[hr]at v
  have hi:=(t8.mp e).1
  have hj:i < N.length:=by rw[<-g5];exact hi
  have hz:(M.zip N)[i]?=some (y,N[i]):=by
   rw[u2P]
   exact⟨e,u5 hj⟩
  have:=g6 _ (r8 hz) v
  rw[hN,u5 hj]
  exact u0U some this.symm
 .unfold Vis at v
  rw[hr]at v ⊢
  exact(g4 y (r8 e) v).1
 .unfold Vis at v
  rw[hr]at v
  obtain⟨_,k1,k2⟩:=g4 y (r8 e) v
  refine⟨?_,?_⟩
  .unfold Vis;rw[hd];exact k1
  .show X.env.scope.names.lookup y≠_;rw[hd];exact k2
end L2
namespace L2
open PySem
def zdZ (o:Obj):Obj:=match o.data with
 | .freed=>{ cls:=.none,data:=.freed }
 | _=>o
theorem zcP (o:Obj)(q:Str):zdZ o≠Zr q:=by
 unfold zdZ Zr
 intro h
 split at h
 .have:=u0U Obj.cls h
  cases this
 .rename_i hn
  exact hn (by rw[h])
def vd (h:Heap)(tabs:List (Addr × Str)):Heap:={ h with objs:=h.objs.mapIdx λi o=>match tabs.lookup i with
 | some q=>Zr q
 | none=>zdZ o }
theorem zc6 (h:Heap)(tabs:List (Addr × Str)):(vd h tabs).objs.size=h.objs.size:=by
 unfold vd
 simp
theorem Y3 (h:Heap)(tabs:List (Addr × Str))(b:Addr):(vd h tabs).objs[b]?=(h.objs[b]?).map λo=>match tabs.lookup b with
 | some q=>Zr q
 | none=>zdZ o:=by
 unfold vd
 simp
theorem zcT {h:Heap}{tabs:List (Addr × Str)}{P:Addr}{q:Str}(e:(vd h tabs).objs[P]?=some (Zr q)):tabs.lookup P=some q:=by
 rw[Y3]at e
 obtain⟨o,_,e⟩:=u8.mp e
 cases z:tabs.lookup P with
 | none=>rw[z]at e;exact absurd e (zcP o q)
 | some q' =>
  rw[z]at e
  have:=u0U Obj.cls e
  have:Value.str q' 0=Value.str q 0:=this
  cases this
  rfl
theorem zbZ {h:Heap}{tabs:List (Addr × Str)}{b:Addr}(hb:tabs.lookup b=none):(vd h tabs).get? b=h.get? b:=by
 unfold Heap.get?
 rw[Y3,hb]
 cases z:h.objs[b]? with
 | none=>rfl
 | some o =>
  obtain⟨c,d,dt,sl⟩:=o
  cases dt <;> rfl
theorem zgg {h:Heap}{tabs:List (Addr × Str)}{b:Addr}{q:Str}(hb:tabs.lookup b=some q):(vd h tabs).get? b=none:=by
 unfold Heap.get?
 rw[Y3,hb]
 cases z:h.objs[b]? with
 | none=>rfl
 | some o=>rfl
theorem zeR {h:Heap}{tabs:List (Addr × Str)}{b:Addr}{o:Obj}(e:(vd h tabs).get? b=some o):tabs.lookup b=none/\h.get? b=some o:=by
 cases z:tabs.lookup b with
 | none=>exact⟨rfl,by rw[<-zbZ z];exact e⟩
 | some q=>rw[zgg z]at e;cases e
end L2
namespace L2
open PySem PySem.Spec PyProof.Rows PySem.W
abbrev TL:=List (Addr × Addr × Str)
def yN (tl:TL):List (Addr × Str):=tl.map λt=>(t.2.1,t.2.2)
theorem zat {tl:TL}{P:Addr}{q:Str}(h:(yN tl).lookup P=some q):∃ c,(c,P,q)∈tl:=by
 unfold yN at h
 induction tl with
 | nil=>cases h
 | cons t r ih =>
  rw[b9,List.lookup_cons]at h
  cases z:P == t.2.1 with
  | true =>
   rw[z]at h
   cases h
   rw[eq_of_beq z]
   exact⟨t.1,.head _⟩
  | false =>
   rw[z]at h
   obtain⟨c,hc⟩:=ih h
   exact⟨c,.tail _ hc⟩
def w6 (tl:TL)(H:Hp):Hp:=λb=>match (yN tl).lookup b with
 | some q=>some (.tbl #[.str q 0])
 | none=>H b
theorem y4 {tl:TL}{H:Hp}{b:Addr}(h:(yN tl).lookup b=none):w6 tl H b=H b:=by unfold w6;rw[h]
theorem YC {tl:TL}{H:Hp}{b:Addr}{q:Str}(h:(yN tl).lookup b=some q):w6 tl H b=some (.tbl #[.str q 0]):=by unfold w6;rw[h]
theorem zgJ {P:Program}{w:World}{K:W.Frag}{mg mb:Str->Option Value}{CX:CXT}{k:Nat}{fa a:Addr}{fd:FuncData}{x:Str}{sp:Sp}{s₁:Shared}{vs:List Value}{ns:List Int}{tl:TL}
 (hq:tl.all (λt=>(yN tl).lookup t.2.1 == some t.2.2)=true) (hT:∀ t∈tl,CodeHd s₁.heap t.1 t.2.1/\s₁.heap.get? t.2.1=some (tabObj #[])) (hnK:noTabs K=true)
 (hbm:∃ bm ob,mg "__builtins__"=some (.ref bm)/\bm≠builtinsNs/\s₁.heap.get? bm=some ob/\ob.cls=.type "module"/\ob.dict=some builtinsNs/\ob.data=.plain)
 (KX:K.In s₁.heap) (hns:s₁.heap.Ns mainGlobals mg) (hb:s₁.heap.Ns builtinsNs mb) (hbb:∀ x:Str,x≠"__name__"->mb x=bootBuiltins x) (hlim:s₁.heap.NoLimit) (hg:s₁.gens=#[])
 (ha:s₁.heap.get? a=some { cls:=.type "list",data:=.seq vs.toArray }) (hi:IntsAre vs ns) (hl:ns.length<=sizeLine) (hr:Yz k callerA)
 (F:∀ base:Heap,K.In base->base.Ns mainGlobals mg->(∀ t∈tl,Xq base mg t.1 t.2.1 t.2.2)->y6 P w K mg base CX k fa fd [x] sp) (hbind:∀ (s:Shared) (u:Value),BindsTo s fd ⟨[u],[]⟩ [(x,u)])
 (hsp:∀ H:Hp,SqL K H a (ns.map V.int)->sp [.ref a] H (λv _=>v=.bl true) λ_ _ _=>False)
 (hCX:∀ H e s',CX [] H s₁ (λ_ _ _=>False) e s'->False) :
 codeAny (model P w) callerA (.call (.ref fa) ⟨[.ref a],[]⟩) (λr s'=>r=.ok (.ret (.bool true))/\OldK s₁.heap s'.heap/\s'.os=s₁.os/\AllBare s'.gens) s₁:=by
 have rv:=zcn hi
 have lenV:=hi.length
 -- a table is no other thing
 have tabF:∀ {b:Addr} {q:Str},(yN tl).lookup b=some q->s₁.heap.get? b=some (tabObj #[]):=λ{b q} h=>by
  obtain⟨c,hc⟩:=zat h
  exact(hT _ hc).2
 have notT:∀ {b:Addr} {o:Obj},s₁.heap.get? b=some o->o≠tabObj #[]->(yN tl).lookup b=none:=λ{b o} e n=>by
  cases z:(yN tl).lookup b with
  | none=>rfl
  | some q=>rw[tabF z]at e;cases e;exact absurd rfl n
 have aT:(yN tl).lookup a=none:=notT ha (λz=>by cases z)
 have core:∀ H:Hp,(∀ b,H b=none\/∃ o xs,H b=some (.frz o (.lst xs)))->SqL K H a (ns.map V.int)->HOk P w H s₁.heap->(∀ b,H b≠none->b=a)->(H a≠none->K.lookup a=none) ->
  codeAny (model P w) callerA (.call (.ref fa) ⟨[.ref a],[]⟩) (λr s'=>r=.ok (.ret (.bool true))/\OldK s₁.heap s'.heap/\s'.os=s₁.os/\AllBare s'.gens) s₁:=by
  intro H hO hS hok hA hK
  have base_of:∀ {b:Addr} {o:Obj},s₁.heap.get? b=some o->o≠tabObj #[]->H b=none->(vd (zfa s₁.heap H) (yN tl)).get? b=some o:=λe n1 n=>by
   rw[zbZ (notT e n1)]
   exact zh5 e n
  have noA:∀ {b:Addr} {o:Obj},s₁.heap.get? b=some o->(∀ ys st,o.data≠.seq ys st)->H b=none:=λ{b o} e d=>by
   cases q:H b with
   | none=>rfl
   | some u =>
    have e':b=a:=hA b (by rw[q];simp)
    subst e'
    rw[ha]at e;cases e
    exact absurd rfl (d _ _)
  have nsK:∀ {b:Addr} {m:Str->Option Value},s₁.heap.Ns b m->(vd (zfa s₁.heap H) (yN tl)).Ns b m:=λ{b m} ⟨o,es,ep,e,d,r⟩=>⟨o,es,ep,base_of e (λz=>by rw[z]at d;cases d) (noA e (λys st z=>by rw[d]at z;cases z)),d,r⟩
  have hKb:K.In (vd (zfa s₁.heap H) (yN tl)):=λb o e=>base_of (KX b o e) (λz=>by
   have h2:=u0r.mp hnK (b,o) (mem_of_lookupK e)
   subst z
   exact absurd (show false=true from h2) u7) (by
   cases q:H b with
   | none=>rfl
   | some u =>
    have e':b=a:=hA b (by rw[q];simp)
    subst e'
    rw[hK (by rw[q];simp)]at e;cases e)
  have hM:Mod K mg (vd (zfa s₁.heap H) (yN tl)):=⟨hKb,nsK hns,⟨mb,nsK hb,hbb⟩,let ⟨mc,h1,h2⟩:=hlim;⟨mc,nsK h1,h2⟩⟩
  have hok2:HOk P w (w6 tl H) s₁.heap:=λb o e=>by
   cases z:(yN tl).lookup b with
   | some q =>
    rw[YC z]at e
    cases e
    exact⟨#[],tabF z,trivial,λpos c hc=>by cases hc⟩
   | none =>
    rw[y4 z]at e
    rcases hO b with y | ⟨ob,xs,y⟩
    .rw[y]at e;cases e
    .rw[y]at e
     cases e
     exact hok b _ y
  have hbs:Bs (vd (zfa s₁.heap H) (yN tl)) s₁.heap (w6 tl H):=by
   refine⟨λb o e=>?_,λP q e=>YC (zcT e)⟩
   obtain⟨e1,e2⟩:=zeR e
   have:=zjS e2
   rw[y4 e1]
   exact this
  have hlam:∀ t∈tl,Xq (vd (zfa s₁.heap H) (yN tl)) mg t.1 t.2.1 t.2.2:=λt ht=>by
   have hq':=beq_iff_eq.mp (u0r.mp hq t ht)
   obtain⟨h1,h2⟩:=hT t ht
   refine⟨?_,?_,?_⟩
   .obtain⟨o,us,file,tf,flags,tg,inF,text,tt,e,r1,r2,r⟩:=h1
    exact⟨o,us,file,tf,flags,tg,inF,text,tt,base_of e (λz=>by rw[z]at r1;cases r1) (noA e (λys st z=>by rw[r2]at z;cases z)),r1,r2,r⟩
   .rw[Y3]
    have hlt:=r9 h2
    have hlt2:t.2.1 < (zfa s₁.heap H).objs.size:=by rw[zcH];exact hlt
    rw[Array.getElem?_eq_getElem hlt2,hq']
    rfl
   .obtain⟨bm,ob,b1,b2,b3,b4,b5,b6⟩:=hbm
    refine⟨bm,ob,b1,b2,?_,?_,base_of b3 (λz=>by rw[z]at b6;cases b6) (noA b3 (λys st z=>by rw[b6]at z;cases z)),b4,b5,b6⟩
    .intro z
     obtain⟨o,es,ep,e,d,_⟩:=hns
     rw[z,e]at b3
     cases b3
     rw[b6]at d
     cases d
    .intro z
     rw[z,h2]at b3
     cases b3
     cases b6
  have hS2:SqL K (w6 tl H) a (ns.map V.int):=by
   rcases hS with (h | ⟨o,h⟩) | h
   .exact .inl (.inl (by rw[y4 aT];exact h))
   .exact .inl (.inr ⟨o,by rw[y4 aT];exact h⟩)
   .exact .inr h
  have e0:zm1 P w K mg (vd (zfa s₁.heap H) (yN tl)) callerA [] s₁ (w6 tl H):=⟨rfl,hM,hbs,u2H ((zc6 _ _).trans (zcH _ _)),trivial,λb hb=>absurd (show b∈([]:List Addr)from hb) (by simp),hok2,.of_eq hg⟩
  refine u2K ((F _ hKb (nsK hns) hlam).run callerA [] s₁ (w6 tl H) ⟨[.ref a],[]⟩ [.ref a] [.ref a] _ _ hr e0 (hbind s₁ (.ref a)) (.cons rfl .nil) (hsp _ hS2)) λr s' h=>?_
  cases r with
  | error e=>exact(hCX _ e s' h).elim
  | ok fl =>
   cases fl with
   | next=>exact False.elim h
   | brk=>exact False.elim h
   | cont=>exact False.elim h
   | ret u =>
    obtain⟨v,H',os,bare,un,hok',r',q⟩:=h
    have q':v=.bl true:=q
    subst q'
    obtain rfl:u=Value.bool true:=r'
    refine⟨rfl,?_,os,bare⟩
    have one:∀ b o,s₁.heap.get? b=some o->(yN tl).lookup b=none->s'.heap.get? b=some o:=λb o e z=>by
     cases q:H b with
     | none=>exact un.keep b o e (by rw[y4 z];exact q) (by intro z;exact absurd (show b∈([]:List Addr)from z) (by simp)) (by simp)
     | some u =>
      rcases hO b with y | ⟨ob,xs,y⟩
      .rw[q]at y;cases y
      .have z2:=un.frzs b ob _ (by rw[y4 z];exact y)
       obtain⟨e1,_⟩:=hok b _ y
       obtain⟨e2,_⟩:=hok' b _ z2
       rw[e]at e1;cases e1
       exact e2
    have two:∀ b q,(yN tl).lookup b=some q->∃ qs:Array Value,s'.heap.get? b=some { cls:=.none,data:=.fields qs }:=λb q z=>by
     obtain⟨qs,e,_⟩:=hok' b _ (un.tbls b _ (YC z))
     exact⟨qs,e⟩
    refine⟨λb o e=>?_,λb o e=>?_⟩
    .cases z:(yN tl).lookup b with
     | none=>exact .inl (one b o e z)
     | some q =>
      obtain⟨qs,e'⟩:=two b q z
      obtain⟨c,hc⟩:=zat z
      obtain⟨⟨oc,us,file,tf,flags,tg,inF,text,tt,c1,c2,c3,c4,_⟩,h2⟩:=hT _ hc
      rw[h2]at e
      cases e
      exact .inr (.inl ⟨⟨c,oc,us,c1,c2,c3,c4⟩,rfl,#[],qs,rfl,by rw[e'];simp⟩)
    .cases z:(yN tl).lookup b with
     | none=>exact⟨o,one b o e z⟩
     | some q =>
      obtain⟨qs,e'⟩:=two b q z
      exact⟨_,e'⟩
 cases hk:K.lookup a with
 | some o =>
  have e:=KX a o hk
  rw[ha]at e
  cases e
  refine core (λ_=>none) (λ_=>.inl rfl) (.inr ⟨_,vs.toArray,_,hk,rfl,rfl,rfl,by rw[t7,lenV];exact hl,by simpa using rv⟩) (λb u z=>by have z':(none:Option HO)=some u:=z;cases z') (λb z=>absurd rfl z) λz=>absurd rfl z
 | none =>
  refine core (λb=>if b=a then some (.frz { cls:=.type "list",data:=.seq vs.toArray } (.lst (ns.map V.int)))else none) (λb=>?_) (.inl (.inr ⟨{ cls:=.type "list",data:=.seq vs.toArray },t5 rfl⟩)) (λb u z=>?_) (λb z=>?_) λ_=>hk
  .by_cases hb:b=a
   .exact .inr ⟨_,_,t5 hb⟩
   .exact .inl (t6 hb)
  .by_cases hb:b=a
   .have z':=(t5 hb).symm.trans z
    cases z'
    subst hb
    exact⟨ha,by rw[u6];exact hl,vs,_,rv,ha⟩
   .have z':=(t6 hb).symm.trans z
    cases z'
  .by_cases hb:b=a
   .exact hb
   .exact absurd (t6 hb) z
theorem walk_ofL {l:W.OpenLaw}{n k:Nat}{q:Program}{loose:List Str}{XP:(Str->Option Value)->Heap->Prop}{YP:World->Heap->Prop}{d:DefRec}{K:Params->W.Frag}{CX:World->CXT}{sp:World->Sp}{x:Str}{tl:TL}
 (hn:l.most=some n) (hn2:n<=sizeLine) (hdf:d.params.defaults=[]) (hr:Yz k callerA)
 (hY:∀ (w:World) (h:Heap),YP w h->(K w.params).In h)
 (hq:tl.all (λt=>(yN tl).lookup t.2.1 == some t.2.2)=true) (hnK:∀ w:World,noTabs (K w.params)=true)
 (hT:∀ (w:World) (mean:ExcName->Option Value) (mg mb:Str->Option Value) (h:Heap),(K w.params).In h->Top q (W.looseW q loose) mean mg mb h->∀ t∈tl,CodeHd h t.1 t.2.1/\h.get? t.2.1=some (tabObj #[]))
 (F:∀ (w:World) (mg:Str->Option Value) (fa:Addr) (h:Heap),(K w.params).In h->h.Ns mainGlobals mg->mg d.name=some (.ref fa) ->
  ∃ fd:FuncData,(∀ (s:Shared) (u:Value),BindsTo s fd ⟨[u],[]⟩ [(x,u)]) /\
   ∀ base:Heap,(K w.params).In base->base.Ns mainGlobals mg->(∀ t∈tl,Xq base mg t.1 t.2.1 t.2.2)->y6 l.prog w (K w.params) mg base (CX w) k fa fd [x] (sp w))
 (hsp:∀ (w:World) (H:Hp) (a:Addr) (ns:List Int),ns.length<=n->SqL (K w.params) H a (ns.map V.int)->sp w [.ref a] H (λv _=>v=.bl true) λ_ _ _=>False)
 (hCX:∀ (w:World) (H:Hp) (s:Shared) (e:Value) (s':Shared),CX w [] H s (λ_ _ _=>False) e s'->False) :
 PySem.W.WalkO q loose XP YP l.row.toRowW d [] (λf vs=>PySem.call f vs):=by
 refine Att.attach_call hn hdf λw s₀ s₁ mg mb fa o pm cd doc a vs ns G Y ho hd hcd hmg hobj hints hlen hg=>?_
 have KX:=hY w _ Y
 obtain⟨fd,hb,hF⟩:=F w mg fa _ KX G.T.g hmg
 exact zgJ hq (hT w _ mg mb _ KX G.T) (hnK w) G.T.bmain KX G.T.g G.T.b G.T.builtins G.T.nolimit hg hobj hints (m8 hlen hn2) hr hF hb (λH hS=>hsp w H a ns hlen hS) λH e s'=>hCX w H s₁ e s'
end L2
namespace L2
open PySem PySem.Spec PyProof.Rows
def Itv (K:W.Frag)(a:Addr)(n:Nat):It :=
 ⟨λi H=>∃ xs x,SqL K H a xs/\xs.length=n/\xs.reverse[i]?=some x,λi H x H'=>H'=H/\∀ xs,SqL K H a xs->xs.reverse[i]?=some x,λi _=>n<=i⟩
theorem ziS {P:Program}{w:World}{K:W.Frag}{tg:Expr}(a it:Addr)(n:Nat):zkM P w K tg (Itv K a n) [it] it (λi h=>i<=n/\h.IsRevIter it a ((n:Int) - 1 - (i:Int))) where
 mem:=by simp
 obj:=λi h st b hb=>by
  have e:b=it:=by simpa using hb
  subst e
  obtain⟨_,o,e,c,d⟩:=st
  exact⟨o,e,λv z=>by rw[d]at z;cases z⟩
 keep:=λi h h' st k=>⟨st.1,st.2.at λo e=>k it (by simp) o e⟩
 item:=by
  intro X hP hw hK hc i pins s σ H E I hf st hg
  subst hP hw hK
  obtain⟨xs,x,hq,hn,hx⟩:=hg
  obtain⟨its,rv,p,hz⟩:=I.list hq
  have hi:i < n:=by
   have:=(t8.mp hx).1
   rw[List.length_reverse]at this
   omega
  have hx':xs[n - 1 - i]?=some x:=by
   rw[List.getElem?_reverse (by omega),hn]at hx
   exact hx
  obtain⟨u,hu,ru⟩:=rv.get hx'
  obtain⟨f0,f1,f2,f3,f4,f5⟩:=hf it (by simp)
  have ej:((n:Int) - 1 - (i:Int))=((n - 1 - i:Nat):Int):=by omega
  have st2:=st.2
  rw[ej]at st2
  refine wpAny_pyNext_rev_item st2 p.isList (x:=u) (by simpa using hu) λh' st' sb=>?_
  have I1:Inv X pins σ H { s with heap:=h' }:=I.turned (t':=s.toks) (λb o hb e=>(sb.2 b hb).trans e) f0 f1 f3 f4 f5
  have st3:h'.IsRevIter it a ((n:Int) - 1 - ((i+1:Nat):Int)):=by
   have e2:((n - 1 - i:Nat):Int) - 1=(n:Int) - 1 - ((i+1:Nat):Int):=by omega
   rw[<-e2]
   exact st'
  obtain⟨o,e,c,d⟩:=id st'
  exact⟨u,rfl,ziy (s:={ s with heap:=h' }) e c d (by decide) ⟨x,H,I1,ru,⟨rfl,λys hy=>by rw[I.list_inj hy hq];exact hx⟩,⟨hi,st3⟩,λb hb=>(hf b hb).1⟩⟩
 done:=by
  intro X hP hw hK hc i pins s σ H E I hf st hg
  subst hP hw hK
  have hg:n<=i:=hg
  obtain⟨f0,f1,f2,f3,f4,f5⟩:=hf it (by simp)
  have ej:((n:Int) - 1 - (i:Int))=-1:=by have:=st.1;omega
  have st2:=st.2
  rw[ej]at st2
  exact wpAny_pyNext_rev_end (I.ok.hd hc) st2 λh' eb=>⟨rfl,I.turned (t':=s.toks) (λb o hb e=>eb b o hb e) f0 f1 f3 f4 f5⟩
 self:=λ_ _ _ _ _ st h=>wpAny_pyIter_revIter st.2 h
def znk (K:W.Frag)(ta:TE):TI:=fun σ H R=>ta σ H λx H1=>∃ a xs,x=.ref a/\SqL K H1 a xs/\R (Itv K a xs.length) H1
theorem zli {X:Cx} {tg a:Expr} {ta:TE} {p pos:Pos} (hg:Gl X "reversed") (hm:X.mg "reversed"=none) (hb:bootBuiltins "reversed"=some (.type "reversed")) (ha:PE X a ta) (hs:starEach [a] X.env=[(false,eval a X.env)]:=by rfl) :
 PI X tg (.Call (.Name "reversed" p) [a] [] pos) (znk X.K ta):=by
 intro pins s σ H R I h
 refine Call_ (Zu I hg hm hb (u0q ?_ hs rfl))
 rw[hs]
 show wpAny _ _ (spliced ((false,eval a X.env)::[])) _ _ _
 refine u1F (thn (ha pins s σ H _ I h) λv s1 hh9=>?_)
 obtain⟨x,H1,I1,r1,q1⟩:=hh9
 obtain⟨t,xs,rfl,hx,q⟩:=q1
 cases r1
 obtain⟨its,rv,pt,hz⟩:=I1.list hx
 refine u1O ?_
 refine call_reversed_list pt.isList ?_
 have hl:its.toArray.size=xs.length:=by rw[t7,<- rv.length]
 refine wpAny_pyIter_revIter (l:=t) (i:=((its.toArray.size:Nat):Int) - 1) ⟨_,n0 _ rfl,rfl,rfl⟩ ?_
 refine⟨s1.heap.objs.size,[s1.heap.objs.size],_,_,H1,rfl,I1.kept (t':=s1.toks) λb o e=>u9 _ e,ziS t _ xs.length,⟨u0m _,_,n0 _ rfl,rfl,?_⟩,λb hb=>?_,q⟩
 .rw[hl]
  show Data.fields #[.ref t,rawInt ((xs.length:Int) - 1)]=Data.fields #[.ref t,rawInt ((xs.length:Int) - 1 - ((0:Nat):Int))]
  simp
 .have e:b=s1.heap.objs.size:=by simpa using hb
  subst e
  exact I1.fpOk (t9 _) (I1.hok.fresh (t9 _))
end L2
namespace Dl
open PySem L2 PySem.Spec PyProof.Rows
variable [KK]
theorem zlk {K:W.Frag}{F:Hp}{p:Addr}{xs:List V}{ds:List D}(h:F p=some (.lst xs))(al:AtL F ds xs):zkU (Itv K p xs.length) F ds.reverse:=by
 intro i F2 H2 s1 s2
 have q:SqL K H2 p xs:=SqL.of (s2 _ _ (s1 _ _ h))
 refine⟨λhl=>?_,λd hd=>?_⟩
 .show xs.length<=i
  rw[al.length,hl,List.length_reverse]
  exact t9 _
 .obtain⟨x,hx,ax⟩:=al.reverse.get hd
  refine⟨⟨xs,x,q,rfl,hx⟩,λy H3 hy=>?_⟩
  obtain⟨rfl,hy⟩:=hy
  have:=hy xs q
  rw[hx]at this
  cases this
  exact⟨F2,.refl s2,ax.mono s1⟩
theorem zi2 {X:Cx} {tg a:Expr} {p pos:Pos} {f:Ev->Option D} (hg:Gl X "reversed") (hm:X.mg "reversed"=none) (ha:ED X a f) (hs:starEach [a] X.env=[(false,eval a X.env)]:=by rfl) :
 ID X tg (.Call (.Name "reversed" p) [a] [] pos) (zjP f):=by
 obtain⟨t,pa,r⟩:=ha
 refine⟨_,zli hg hm zdd pa hs,fun σ ρ F H ds R s va e q=>?_⟩
 obtain⟨d,e1,e2⟩:=u3.mp e
 refine r σ ρ F H d _ s va e1 λF1 H1 v g1 a1=>?_
 unfold revD at e2
 split at e2 <;> cases e2
 obtain⟨l,xs,rfl,hx,al⟩:=a1.lst_inv
 exact⟨l,xs,rfl,SqL.of (g1.fh _ _ hx),q F1 H1 _ g1 (zlk hx al)⟩
end Dl
namespace L2
open PySem PySem.Spec PyProof.Rows PySem.W
section
variable {P:Program}{w:World}{K:W.Frag}{mg:Str->Option Value}{base:Heap}
theorem Fun.okC {x qual:Str}{st:Stmt}{f:Addr}{fd:FuncData}{N ps:List Str}{k:Nat}{sp:Sp}{c:Addr}(hcd:fd.code=.ref c)(F:Fun K x qual st f fd)(S:zu N ps (zk st))(len:∀ vs H Q E,sp vs H Q E->vs.length=ps.length)
 (hbody:∀ (A:Around) (outer:List Env) (s:Shared) (H:Hp) (vs:List V) (Q:VK) (E:XK),Yz k (A.deeper (envOfC qual (zk st) s.heap.objs.size f (.ref c)))->sp vs H Q E ->
  ∃ t,PSs (zhv CX0 P w K mg base N qual (zk st) f (.ref c) A outer s H E).nox (wN st) t/\t { nx:=λ_ H'=>Q .non H',rt:=Q } (start N vs) H):y6 P w K mg base CX0 (k+1) f fd ps sp:=by
 obtain⟨oc,od,kV,doc,pm,an,cdv,ct,osl,rfl,lk,hc2⟩:=F.ex
 have hcd:cdv=.ref c:=hcd
 subst hcd
 refine zmh lk hc2 S len λA outer s H vs Q E hr hsp=>?_
 obtain⟨t,h,q⟩:=hbody A outer s H vs Q E hr hsp
 exact⟨t,h.nox,q⟩
end
theorem tab_mk {K:Frag}{x:Str}{f c P:Addr}{oc od o1 d1 fd sl vs s1}(a:nsIn K mainGlobals x=some (some (.ref f)))(l:K.lookup f=some ⟨oc,od,.func fd,sl⟩)(hc:fd.code=.ref c)(cl:K.lookup c=some ⟨o1,d1,.fields vs,s1⟩)(hv:vs[11]?=some (.ref P)):tabIn K x=some (c,P):=by
 unfold tabIn
 rw[a]
 dsimp only
 rw[l]
 dsimp only
 rw[hc]
 dsimp only
 rw[cl]
 dsimp only
 rw[hv]
end L2
namespace Dl
open PySem L2 PySem.Spec PyProof.Rows
variable [KK]
theorem zjh {P:Program}{w:World}{K:W.Frag}{mg:Str->Option Value}{base:Heap}{x qual:Str}{st:Stmt}{f:Addr}{fd:FuncData}{N ps:List Str}{k:Nat}{g:SE->Ctl}{c:Addr}(hcd:fd.code=.ref c)(Fu:Fun K x qual st f fd)(S:zu N ps (zk st))
 (hb:∀ (A:Around) (outer:List Env) (s:Shared) (H:Hp) (E:XK),Yz k (A.deeper (PyProof.Rows.envOfC qual (zk st) s.heap.objs.size f (.ref c)))->SDs (zhv CX0 P w K mg base N qual (zk st) f (.ref c) A outer s H E).nox (wN st) g) :
 y6 P w K mg base CX0 (k+1) f fd ps (spD ps.length (fnD N.length g)):=by
 refine Fu.okC hcd S (λvs H Q E h=>?_) λA outer s H vs Q E hr h=>?_
 .obtain⟨ds,d,F,hl,_,a,_⟩:=h
  rw[a.length];exact hl
 .obtain⟨ds,d,F,hl,sm,a,e,q⟩:=h
  obtain⟨t,p,r⟩:=hb A outer s H E hr
  refine⟨t,p,r F H F H _ _ _ (zbb sm a) ?_⟩
  unfold fnD at e
  cases hg:g (ds.map .v++List.replicate (N.length - ds.length) .no) with
  | rt d'=>rw[hg]at e;cases e;exact λF' H' v g av=>q F' H' v g av
  | nx ρ=>rw[hg]at e;cases e;exact λF' H' σ rl=>q F' H' _ rl.gr .non
  | bk ρ=>rw[hg]at e;cases e
  | ct ρ=>rw[hg]at e;cases e
  | no=>rw[hg]at e;cases e
theorem zkx {P:Program}{w:World}{K:W.Frag}{mg:Str->Option Value}{base:Heap}{x qual:Str}{st:Stmt}{f:Addr}{fd:FuncData}{N ps:List Str}{k:Nat}{g:SE->Ctl}{i:Nat}{c:Addr}(hcd:fd.code=.ref c)(Fu:Fun K x qual st f fd)(S:zu N ps (zk st))
 (hb:∀ (A:Around) (outer:List Env) (s:Shared) (H:Hp) (E:XK),Yz k (A.deeper (PyProof.Rows.envOfC qual (zk st) s.heap.objs.size f (.ref c)))->SDO (zhv CX0 P w K mg base N qual (zk st) f (.ref c) A outer s H E).nox (wN st) g i) :
 y6 P w K mg base CX0 (k+1) f fd ps (znC ps.length (zmL N.length g i)):=by
 refine Fu.okC hcd S (λvs H Q E h=>?_) λA outer s H vs Q E hr h=>?_
 .obtain⟨ds,d,F,hl,_,a,_⟩:=h
  rw[a.length];exact hl
 .obtain⟨ds,es,F,hl,sm,a,e,q⟩:=h
  obtain⟨t,p,r⟩:=hb A outer s H E hr
  unfold zmL at e
  cases hg:g (ds.map .v++List.replicate (N.length - ds.length) .no) with
  | nx ρ =>
   rw[hg]at e
   dsimp only at e
   cases hi:ρ[i]? with
   | none=>rw[hi]at e;cases e
   | some sl =>
    rw[hi]at e
    cases sl with
    | no=>cases e
    | v _=>cases e
    | m _ _ _=>cases e
    | o es' =>
     cases e
     exact⟨t,p,r F H F H _ _ _ (zbb sm a) ρ es hg hi λF' H' q' xs g h0 hF hH hx=>q F' H' q' xs g h0 hF hH hx⟩
  | rt d'=>rw[hg]at e;cases e
  | bk ρ=>rw[hg]at e;cases e
  | ct ρ=>rw[hg]at e;cases e
  | no=>rw[hg]at e;cases e
end Dl
namespace L2
open PySem PySem.Spec PyProof.Rows
def tOrL (K:W.Frag)(ta tb:TE):TE:=fun σ H Q=>ta σ H λx H1=>∃ a xs,x=.ref a/\SqL K H1 a xs/\if xs.isEmpty=true then tb σ H1 Q else Q (.ref a) H1
theorem zl3 {X:Cx}{a b:Expr}{rest:List Expr}{pos:Pos}{ta tb:TE}(ha:PE X a ta)(hb:PE X (.BoolOp .Or (b::rest) pos) tb):PE X (.BoolOp .Or (a::b::rest) pos) (tOrL X.K ta tb):=by
  intro pins s σ H Q I h
  refine BoolOp_or (thn (ha pins s σ H _ I h) fun v s1 hh9=>?_)
  obtain ⟨x,H1,I1,r1,q1⟩:=hh9
  obtain ⟨l,xs,rfl,hx,q1⟩:=q1
  cases r1
  obtain ⟨its,r,pl,hz⟩:=I1.list hx
  have hlen:=r.length
  refine wpAny_truthy_list pl.isList (by simp only [t7]; have : sizeLine < 2 ^ 62 := by decide
                                         omega) ?_
  rw [zeq r]
  have I2:=I1.tok (s1.toks+1+1)
  cases c:xs.isEmpty with
  | true =>
    rw [c,t5 rfl] at q1
    exact hb pins _ σ H1 Q I2 q1
  | false =>
    rw [c,t6 u7] at q1
    exact ⟨.ref l,H1,I2,rfl,q1⟩
end L2
namespace Dl
open PySem L2
variable [KK]
def zmQ (f g:Ev->Option D):Ev->Option D:=fun ρ=>(f ρ).bind λd=>match d with
 | .lst ds=>if ds.isEmpty=true then g ρ else some (.lst ds)
 | _=>none
theorem zlU {X:Cx}{a b:Expr}{rest:List Expr}{pos:Pos}{f g:Ev->Option D}(ha:ED X a f)(hb:ED X (.BoolOp .Or (b::rest) pos) g):ED X (.BoolOp .Or (a::b::rest) pos) (zmQ f g):=by
 obtain⟨ta,pa,ra⟩:=ha
 obtain⟨tb,pb,rb⟩:=hb
 refine⟨_,zl3 pa pb,fun σ ρ F H z Q s va e q=>?_⟩
 obtain⟨d,e1,e⟩:=u3.mp e
 refine ra σ ρ F H d _ s va e1 λF1 H1 v g1 a1=>?_
 cases d with
 | lst ds =>
  obtain⟨l,xs,rfl,hl,al⟩:=a1.lst_inv
  have he:xs.isEmpty=ds.isEmpty:=by
   have:=al.length
   cases xs <;> cases ds <;> first | rfl | simp at this
  refine⟨l,xs,rfl,SqL.of (g1.fh _ _ hl),?_⟩
  rw[he]
  have e:(if ds.isEmpty=true then g ρ else some (.lst ds))=some z:=e
  cases c:ds.isEmpty with
  | true =>
   rw[c,t5 rfl]at e
   rw[t5 rfl]
   exact rb σ ρ F1 H1 z Q g1.fh (va.mono g1.ff) e λF2 H2 v g2 a2=>q F2 H2 v (g1.trans g2) a2
  | false =>
   rw[c,t6 u7]at e
   cases e
   rw[t6 u7]
   exact q F1 H1 _ g1 a1
 | _=>cases e
end Dl
namespace Mz
open PySem Dl
abbrev Tie:=Int × Int
def ltP (s t:Tie):Prop:=s.1 < t.1\/(s.1=t.1/\s.2 < t.2)
instance (s t:Tie):Decidable (ltP s t):=by unfold ltP;infer_instance
theorem zgZ {a b c:Tie}(h:ltP a b)(k:ltP b c):ltP a c:=by
 unfold ltP at *
 omega
def zv (t:Tie):D:=.tup [.int t.1,.int t.2]
theorem zfz {s t:Tie}(h:zv s=zv t):s=t:=by
 unfold zv at h
 injection h with h
 injection h with h1 h2
 injection h2 with h2 _
 injection h1 with h1
 injection h2 with h2
 exact u1X h1 h2
def zp (many:Int)(ties:List Tie):D:=.tup [.int many,.tup (ties.map zv)]
structure zG (many:Int) (ties:List Tie):Prop where
 lo:1<=many
 hi:many<=8
 rng:∀ t∈ties,0<=t.1/\t.1 < t.2/\t.2 < many
 srt:ties.Pairwise ltP
def leP (s t:Tie):Bool:=if s.1=t.1 then (if s.2=t.2 then true else decide (s.2<=t.2))else decide (s.1<=t.1)
theorem zcE {s t:Tie}:leP s t=false↔ltP t s:=by
 unfold leP ltP
 by_cases h:s.1=t.1
 .rw[t5 h]
  by_cases k:s.2=t.2
  .rw[t5 k];simp;omega
  .rw[t6 k,u0w];omega
 .rw[t6 h,u0w];omega
def Xe:D->Option Tie
 | .tup [.int a,.int b]=>some (a,b)
 | _=>none
theorem Zl (t:Tie):Xe (zv t)=some t:=rfl
theorem Vr {d:D}{t:Tie}(h:Xe d=some t):d=zv t:=by
 unfold Xe at h
 split at h
 .cases h;rfl
 .cases h
def inR (m a:Int):Bool:=decide (0<=a)&&decide (a<=m - 1)
def wE (m:Int)(d:D):Bool:=match Xe d with
 | some t=>inR m t.1&&inR m t.2&&!decide (t.1=t.2)
 | none=>false
def zcz (p:Option Tie)(t:Tie):Bool:=match p with
 | some q=>!leP t q
 | none=>true
def yD (m:Int):Option Tie->List D->Bool
 | _,[]=>true
 | p,d::r=>match Xe d with
  | some t=>wE m d&&!decide (t.2 < t.1)&&zcz p t&&yD m (some t) r
  | none=>false
def ZQ (m:Int):D->Bool
 | .tup ts=>yD m none ts
 | _=>false
def vQ:D->Bool
 | .tup [.int m,t]=>decide (1<=m)&&decide (m<=8)&&ZQ m t
 | _=>false
theorem WV (m:Int):∀ (ts:List D) (p:Option Tie),yD m p ts=true↔∃ l:List Tie,ts=l.map zv/\(∀ t∈l,0<=t.1/\t.1 < t.2/\t.2 < m)/\(∀ q,p=some q->∀ t∈l,ltP q t)/\l.Pairwise ltP:=by
 intro ts
 induction ts with
 | nil =>
  intro p
  refine⟨λ_=>⟨[],rfl,by simp,by simp,.nil⟩,λ_=>rfl⟩
 | cons d r ih =>
  intro p
  unfold yD
  cases e:Xe d with
  | none =>
   refine Iff.intro (λh=>nomatch h) (λhh=>?_)
   obtain⟨l,h,_⟩:=hh
   cases l with
   | nil=>cases h
   | cons t l' =>
    rw[b9]at h
    injection h with h1 _
    rw[h1,Zl]at e
    cases e
  | some t =>
   have ed:=Vr e
   subst ed
   simp only[wE,Zl,b7,Bool.not_eq_true',u0w,inR,r6]
   rw[ih (some t)]
   constructor
   .rintro⟨⟨⟨⟨⟨h1,h2⟩,h3⟩,h4⟩,h5⟩,l,rfl,hr,hq,hs⟩
    refine⟨t::l,rfl,?_,?_,u0A.mpr ⟨hq t rfl,hs⟩⟩
    .intro u hu
     rcases n8.mp hu with rfl | hu
     .omega
     .exact hr u hu
    .rintro q rfl u hu
     have hqt:ltP q t:=zcE.mp (by simpa [zcz]using h5)
     rcases n8.mp hu with rfl | hu
     .exact hqt
     .exact zgZ hqt (hq t rfl u hu)
   .rintro⟨l,h,hr,hq,hs⟩
    cases l with
    | nil=>cases h
    | cons u l' =>
     rw[b9]at h
     injection h with h1 h2
     have hu:=zfz h1
     subst hu
     have hb:=hr t (by simp)
     refine⟨⟨⟨⟨⟨by omega,by omega⟩,by omega⟩,by omega⟩,?_⟩,l',h2,λv hv=>hr v (by simp[hv]),λq hqe v hv=>?_,(u0A.mp hs).2⟩
     .cases p with
      | none=>rfl
      | some q =>
       have:=zcE.mpr (hq q rfl t (by simp))
       simp[zcz,this]
     .cases hqe
      exact(u0A.mp hs).1 v hv
theorem xE (d:D):vQ d=true↔∃ m ties,d=zp m ties/\zG m ties:=by
 constructor
 .intro h
  unfold vQ at h
  split at h
  .rename_i m t
   simp only[b7,r6]at h
   obtain⟨⟨h1,h2⟩,h3⟩:=h
   unfold ZQ at h3
   split at h3
   .rename_i ts
    obtain⟨l,rfl,hr,_,hs⟩:=(WV m ts none).mp h3
    exact⟨m,l,rfl,h1,h2,hr,hs⟩
   .cases h3
  .cases h
 .rintro⟨m,ties,rfl,w⟩
  unfold zp vQ ZQ
  simp only[b7,r6]
  exact⟨⟨w.lo,w.hi⟩,(WV m _ none).mpr ⟨ties,rfl,w.rng,by simp,w.srt⟩⟩
theorem zkf {d:D}(h:∀ m ties,d=zp m ties->¬ zG m ties):vQ d=false:=by
 cases e:vQ d with
 | false=>rfl
 | true =>
  obtain⟨m,ties,rfl,w⟩:=(xE d).mp e
  exact absurd w (h m ties rfl)
end Mz
namespace Mz
open Dl
def WU (c k:Int):Int :=
 let a:=(c % 2147483647+977*k+1)*48271 % 2147483647
 let b:=a*a % 2147483629
 (b+40692*(k+3))*69621 % 2147483647 / 8
def adj (ts:List Tie)(a b:Int):Prop:=(a,b)∈ts\/(b,a)∈ts
theorem adj.symm {ts:List Tie}{a b:Int}(h:adj ts a b):adj ts b a:=h.elim .inr .inl
inductive xP (ts:List Tie) (p:Int):Nat->Int->Prop
 | zero:xP ts p 0 p
 | step {k:Nat} {a b:Int}:xP ts p k a->adj ts a b->xP ts p (k+1) b
theorem adj.rng {m:Int}{ts:List Tie}{a b:Int}(ok:zG m ts)(h:adj ts a b):(0<=a/\a < m)/\0<=b/\b < m:=by
 rcases h with h | h <;> (have:=ok.rng _ h;simp only at this;omega)
theorem xP.rng {m:Int}{ts:List Tie}{p v:Int}{k:Nat}(ok:zG m ts)(hp:0<=p/\p < m)(h:xP ts p k v):0<=v/\v < m:=by
 cases h with
 | zero=>exact hp
 | step _ h=>exact(h.rng ok).2
theorem xP.inv {ts:List Tie}{p v:Int}{k:Nat}(h:xP ts p (k+1) v):∃ a,xP ts p k a/\adj ts a v:=by
 cases h with
 | step h1 h2=>exact⟨_,h1,h2⟩
theorem WG {P:Nat->Prop}:∀ k,P k->∃ j,P j/\∀ i,P i->j<=i:=by
 intro k
 induction k using Nat.strongRecOn with
 | _ k ih =>
  intro h
  by_cases c:∃ i,i < k/\P i
  .obtain⟨i,hi,h2⟩:=c
   exact ih i hi h2
  .exact⟨k,h,λi hi=>u1u λz=>c ⟨i,z,hi⟩⟩
def Within (ts:List Tie)(p:Int)(k:Nat)(v:Int):Prop:=∃ j,j<=k/\xP ts p j v
theorem Within.succ {ts:List Tie}{p v:Int}{k:Nat}:Within ts p (k+1) v↔v=p\/∃ a,Within ts p k a/\adj ts a v:=by
 constructor
 .rintro⟨j,hj,h⟩
  cases h with
  | zero=>exact .inl rfl
  | step h1 h2=>exact .inr ⟨_,⟨_,by omega,h1⟩,h2⟩
 .rintro(rfl | ⟨a,⟨j,hj,h⟩,h2⟩)
  .exact⟨0,by omega,.zero⟩
  .exact⟨j+1,by omega,.step h h2⟩
theorem Within.up {ts:List Tie}{p v:Int}{k k':Nat}(h:Within ts p k v)(hk:k<=k'):Within ts p k' v:=let ⟨j,hj,r⟩:=h;⟨j,by omega,r⟩
theorem VX {α:Type}{p q:α->Bool}:∀ {l:List α},(∀ x∈l,p x=true->q x=true)->l.countP q<=l.countP p->∀ x∈l,q x=true->p x=true
 | [],_,_,_,h,_=>by simp at h
 | y::l,hpq,hc,x,hx,hq=>by
  have h1:l.countP p<=l.countP q:=List.countP_mono_left λz hz=>hpq z (p7 _ hz)
  rw[u2a,u2a]at hc
  have hy:=hpq y u0e
  have ih:=VX (p:=p) (q:=q) (l:=l) λz hz=>hpq z (p7 _ hz)
  cases e1:p y <;> cases e2:q y <;> simp[e1,e2]at hc hy
  .rcases n8.mp hx with rfl | hx
   .rw[e2]at hq;cases hq
   .exact ih (by omega) x hx hq
  .omega
  .rcases n8.mp hx with rfl | hx
   .exact e1
   .exact ih (by omega) x hx hq
open Classical in
noncomputable def wiB (ts:List Tie)(p:Int)(k v:Nat):Bool:=decide (Within ts p k (v:Int))
theorem Vk {ts:List Tie}{p:Int}{k v:Nat}:wiB ts p k v=true↔Within ts p k (v:Int):=by classical exact decide_eq_true_iff
noncomputable def cnt (ts:List Tie)(p:Int)(n k:Nat):Nat:=(List.range n).countP (wiB ts p k)
def zh0 (ts:List Tie)(p:Int)(k:Nat):Prop:=∀ v,Within ts p (k+1) v->Within ts p k v
theorem zh0.all {ts:List Tie}{p:Int}{k:Nat}(h:zh0 ts p k):∀ j v,Within ts p j v->Within ts p k v:=by
 intro j
 induction j with
 | zero =>
  rintro v ⟨i,hi,r⟩
  obtain rfl:i=0:=by omega
  exact⟨0,by omega,r⟩
 | succ j ih =>
  intro v hv
  rcases Within.succ.mp hv with rfl | ⟨a,ha,h2⟩
  .exact⟨0,by omega,.zero⟩
  .exact h v (Within.succ.mpr (.inr ⟨a,ih a ha,h2⟩))
theorem zhE {m:Int}{ts:List Tie}{p:Int}(ok:zG m ts)(hp:0<=p/\p < m):∃ k,k < m.toNat/\zh0 ts p k:=by
 have key:∀ k,(∃ k',k' < k/\zh0 ts p k')\/k+1<=cnt ts p m.toNat k:=by
  intro k
  induction k with
  | zero =>
   refine .inr ?_
   unfold cnt
   rw[List.one_le_countP_iff]
   exact⟨p.toNat,d5.mpr (by omega),Vk.mpr ⟨0,t9 _,by rw[u1b hp.1];exact .zero⟩⟩
  | succ k ih =>
   rcases ih with ⟨k',h1,h2⟩ | ih
   .exact .inl ⟨k',by omega,h2⟩
   .by_cases c:cnt ts p m.toNat (k+1)<=cnt ts p m.toNat k
    .refine .inl ⟨k,by omega,λv hv=>?_⟩
     obtain⟨j,hj,r⟩:=hv
     have hr:=r.rng ok hp
     have:=VX (λx _ h=>Vk.mpr ((Vk.mp h).up (u2Y k))) c v.toNat (d5.mpr (by omega)) (Vk.mpr (by rw[u1b hr.1];exact⟨j,hj,r⟩))
     have:=Vk.mp this
     rwa[u1b hr.1]at this
    .exact .inr (by omega)
 rcases key m.toNat with h | h
 .exact h
 .unfold cnt at h
  have:=u12 (p:=wiB ts p m.toNat) (l:=List.range m.toNat)
  rw[g8]at this
  omega
def Far (ts:List Tie)(p v:Int)(k:Nat):Prop:=xP ts p k v/\∀ i,xP ts p i v->k<=i
theorem Far.uniq {ts:List Tie}{p v:Int}{k j:Nat}(h:Far ts p v k)(h':Far ts p v j):k=j:=u1I (h.2 _ h'.1) (h'.2 _ h.1)
theorem Far.lt {m:Int}{ts:List Tie}{p v:Int}{k:Nat}(ok:zG m ts)(hp:0<=p/\p < m)(h:Far ts p v k):k < m.toNat:=by
 obtain⟨b,hb,hs⟩:=zhE ok hp
 obtain⟨j,hj,r⟩:=hs.all k v ⟨k,t9 _,h.1⟩
 have:=h.2 j r
 omega
theorem zjj {ts:List Tie}{p v:Int}{k:Nat}(h:xP ts p k v):∃ j,Far ts p v j:=WG k h
open Classical in
noncomputable def zhu (ts:List Tie)(p v:Int):Option Int:=if h:∃ k,Far ts p v k then some (h.choose:Int)else none
theorem zf9 {ts:List Tie}{p v:Int}{k:Nat}(h:Far ts p v k):zhu ts p v=some (k:Int):=by
 unfold zhu
 have hx:∃ k,Far ts p v k:=⟨k,h⟩
 rw[dif_pos hx,hx.choose_spec.uniq h]
theorem zft {ts:List Tie}{p v:Int}(h:∀ k,¬ xP ts p k v):zhu ts p v=none:=by
 unfold zhu
 rw[dif_neg]
 rintro⟨k,hk⟩
 exact h k hk.1
theorem ZM (ts:List Tie)(p v:Int):(∃ k:Nat,zhu ts p v=some (k:Int)/\Far ts p v k)\/(zhu ts p v=none/\∀ k,¬ xP ts p k v):=by
 by_cases h:∃ k,xP ts p k v
 .obtain⟨k,hk⟩:=h
  obtain⟨j,hj⟩:=zjj hk
  exact .inl ⟨j,zf9 hj,hj⟩
 .have:∀ k,¬ xP ts p k v:=λk hk=>h ⟨k,hk⟩
  exact .inr ⟨zft this,this⟩
noncomputable def YX (m:Int)(ts:List Tie)(p:Int):List (Option Int):=(List.range m.toNat).map λv:Nat=>zhu ts p v
def xS:Option Int->D
 | none=>.non
 | some k=>.int k
def oAt (fs:List (Option Int))(i:Int):Option Int:=(fs[i.toNat]?).getD none
theorem zi3 {n:Nat}{i:Int}(h0:0<=i)(h1:i < n):L2.ixN n i=some i.toNat:=by
 unfold L2.ixN
 rw[t5 h0,t5 h1]
theorem zaw {α:Type}{xs:List α}{i:Int}{x:α}(h0:0<=i)(h:xs[i.toNat]?=some x):L2.atI xs i=some x:=by
 have:=(t8.mp h).1
 unfold L2.atI
 rw[zi3 h0 (by omega)]
 exact h
theorem zlT {m:Bool}{i:Nat}{fk fe:Ev->Option D}{ρ:SE}{ds:List D}{d:D}{k:Int}(h1:vEv m fe ρ=some d)(h2:fk (visG ρ)=some (.int k))(h3:ρ[i]?=some (.o ds))(h4:0<=k)(h5:k < ds.length) :
 Wd m i fk fe ρ=.nx (ρ.set i (.o (ds.set k.toNat d))):=by
 unfold Wd
 rw[h1,h2,h3]
 show(match ((L2.ixN ds.length k).map λj=>ρ.set i (Sl.o (ds.set j d)))with | some ρ'=>Ctl.nx ρ' | none=>Ctl.no)=_
 rw[zi3 h4 h5]
 rfl
theorem zfg {fs:List (Option Int)}{i:Int}(h0:0<=i)(h1:i < fs.length):L2.atI (fs.map xS) i=some (xS (oAt fs i)):=by
 refine zaw h0 ?_
 unfold oAt
 rw[j5,u5 (by omega)]
 rfl
theorem Xj {fs:List (Option Int)}{i j:Int}{x:Option Int}(hi:0<=i)(hl:i < fs.length)(hj:0<=j):oAt (fs.set i.toNat x) j=if j=i then x else oAt fs j:=by
 unfold oAt
 rw[u0G]
 by_cases c:j=i
 .subst c
  rw[t5 rfl,t5 rfl,t5 (by omega)]
  rfl
 .rw[t6 (by omega),t6 c]
theorem zkF {fs gs:List (Option Int)}(hl:fs.length=gs.length)(h:∀ i:Int,0<=i->i < fs.length->oAt fs i=oAt gs i):fs=gs:=by
 refine u2S λi=>?_
 by_cases c:i < fs.length
 .have:=h (i:Int) (by omega) (by omega)
  unfold oAt at this
  rw[u1m,u5 c,u5 (by omega)]at this
  rw[u5 c,u5 (by omega)]
  exact u0U some this
 .rw[u0F (by omega),u0F (by omega)]
theorem Ve (m:Int)(ts:List Tie)(p:Int):(YX m ts p).length=m.toNat:=by unfold YX;simp
theorem zdF {m:Int}{ts:List Tie}{p v:Int}(h0:0<=v)(h1:v < m):oAt (YX m ts p) v=zhu ts p v:=by
 unfold oAt YX
 rw[j5,u0E (by omega)]
 show zhu ts p ((v.toNat:Nat):Int)=_
 rw[u1b h0]
theorem zfK:∀ {ns:List Int} {k:Nat} {x:Int} (h:k < ns.length),(ns.set k x).sum=ns.sum - ns[k]+x
 | [],_,_,h=>by simp at h
 | n::ns,0,x,_=>by simp;omega
 | n::ns,k+1,x,h=>by
  have:=zfK (ns:=ns) (k:=k) (x:=x) (by simpa using h)
  simp only[List.set_cons_succ,p9,List.getElem_cons_succ,this]
  omega
theorem zao (ts:List Tie):(zaN ts).Perm ts:=u2v _ _
theorem zbP {ts:List Tie}(h:ts.Nodup):(zaN ts).Pairwise ltP:=by
 have h1:(zaN ts).Pairwise λa b=>zkX a b=true:=u1H (λa b c h1 h2=>by rw[v4]at *;omega) (λa b=>by rw[u3f,v4,v4];omega) _
 have h2:(zaN ts).Nodup:=(zao ts).nodup_iff.mpr h
 refine(h1.and h2).imp λ{a b} hh=>?_
 obtain⟨x,y⟩:=hh
 rw[v4]at x
 unfold ltP
 rcases x with x | x
 .exact .inl x
 .refine .inr ⟨x.1,?_⟩
  have:a.2≠b.2:=λe=>y (u1X x.1 e)
  omega
theorem Wn {d:D}{n:Int}(h0:0<=n)(h1:n<=1000):zdP (.lst [d]) (.int n)=some (List.replicate n.toNat d):=by
 show(if -(2 ^ 63)<=n/\n < 2 ^ 63/\lim (1*n.toNat)=true then _ else none)=_
 rw[t5 ⟨by omega,by omega,xk (by omega)⟩,List.flatten_replicate_singleton]
theorem zby {m:Bool}{i:Nat}{fk fe:Ev->Option D}{ρ:SE}{n b kk:SE->Prop}{r:D->Prop}(ds:List D)(d:D)(k:Int)(h1:vEv m fe ρ=some d)(h2:fk (visG ρ)=some (.int k))(h3:ρ[i]?=some (.o ds))(h4:0<=k)(h5:k < ds.length)(q:n (ρ.set i (.o (ds.set k.toNat d)))) :
 (Wd m i fk fe ρ).w n b kk r:=Zh (zlT h1 h2 h3 h4 h5) q
theorem zaI {i j:Int}(h1:-(2 ^ 64) < i)(h2:i < 2 ^ 64):Yt (.int i) (.int j)=some (.int (i*j)):=by
 show(if Wx i j=true then _ else none)=_
 rw[t5 (show Wx i j=true from j8 (.inl ⟨h1,h2⟩))]
theorem zie (ns:List Int):ziG [.lst (ns.map .int)]=some (.int ns.sum):=by
 show((zai (ns.map .int)).bind λns=>some (D.int ns.sum))=_
 rw[ZN]
 rfl
theorem ziL {α:Type}(xs:List α)(lo hi:Option Int):(zfc xs lo hi).length<=xs.length:=by
 unfold zfc
 rw[u0W,u0V]
 omega
theorem zhO {a b:List D}(h:a.length+b.length<=1000):vv (.lst a) (.lst b)=some (.lst (a++b)):=by
 show(if lim (a.length+b.length)=true then _ else none)=_
 rw[t5 (xk h)]
theorem znd {g h:SE->Ctl}{ρ:SE}{n b k:SE->Prop}{r:D->Prop}(J:SE->Prop)(h1:(g ρ).w J b k r)(h2:∀ ρ',J ρ'->(h ρ').w n b k r):(zI g h ρ).w n b k r :=
 yJ (zlt h1 h2 (λ_ h=>h) (λ_ h=>h) λ_ h=>h)
theorem zhX {m:Int}{ts:List Tie}{p:Int}{o:Option Int}(ok:zG m ts)(hp:0<=p/\p < m)(h:o∈YX m ts p):o=none\/∃ k:Int,o=some k/\0<=k/\k < m:=by
 unfold YX at h
 obtain⟨v,hv,rfl⟩:=u0g.mp h
 rcases ZM ts p v with ⟨k,e,hk⟩ | ⟨e,_⟩
 .have:=hk.lt ok hp
  exact .inr ⟨_,e,by omega,by omega⟩
 .exact .inl e
theorem zea:∀ {ns:List Int},(∀ x∈ns,0<=x)->0<=ns.sum
 | [],_=>by simp
 | n::ns,h=>by
  have:=zea (ns:=ns) λx hx=>h x (p7 _ hx)
  have:=h n u0e
  rw[p9]
  omega
theorem xf {m:Bool}{i:Nat}{f:Ev->Option D}{ρ ρ':SE}{d:D}(h:vEv m f ρ=some d)(h2:ρ.set i (.v d)=ρ':=by rfl):y9 m i f ρ=.nx ρ':=by
 unfold y9
 rw[h,<- h2]
theorem wC {f:Ev->Option D}{ρ:SE}{d:D}(h:f (visG ρ)=some d):XL f ρ=.nx ρ:=by
 unfold XL
 rw[h]
theorem Yg {f:Ev->Option D}{ρ:SE}{d:D}(h:f (visG ρ)=some d):yO f ρ=.rt d:=by
 unfold yO
 rw[h]
theorem zfo {i:Nat}{f:Ev->Option (List D)}{ρ ρ':SE}{ds:List D}(h:f (visF ρ)=some ds)(h2:ρ.set i (.o ds)=ρ':=by rfl):Zc i f ρ=.nx ρ':=by
 unfold Zc
 rw[h,<- h2]
theorem yT {a b:Int}:neD (.int a) (.int b)=some (.bl (!decide (a=b))):=rfl
theorem y8 {a m x:Int}(h:0 < m)(hx:a % m=x):0<=x/\x < m:=by
 subst hx
 exact⟨Int.emod_nonneg _ (by omega),Int.emod_lt_of_pos _ h⟩
theorem len_lt {α:Type}{xs:List α}{x m:Int}(h:x < m)(hl:(xs.length:Int)=m):x < (xs.length:Int):=by omega
theorem Xl {α:Type}{f:α->D}{xs:List α}{x m:Int}(h:x < m)(hl:(xs.length:Int)=m):x < ((xs.map f).length:Int):=by rw[u6];omega
theorem zdS {m:Int}(h:1<=m):0 < m:=by omega
theorem zhe {i:Nat}{x m:Int}(hi:i < m.toNat)(hx:(0:Int)+(i:Int)=x):0<=x/\x < m:=by omega
theorem zjr {i:Nat}{x:Int}(hx:(0:Int)+(i:Int)=x):(i:Int)=x:=by omega
theorem zdq {o:Nat}{m:Int}(h:(o:Int) < m):0<=(0:Int)+(o:Int)/\(0:Int)+(o:Int) < m:=by omega
theorem zj1 {n:Nat}(h:n<=8):lim n=true:=xk (by omega)
theorem zdL {α:Type}{xs:List α}{x m:Int}(h0:0<=x)(h:x < m)(hl:xs.length=m.toNat):x < (xs.length:Int):=by omega
theorem zfB {α:Type}{f:α->D}{xs:List α}{x m:Int}(h0:0<=x)(h:x < m)(hl:xs.length=m.toNat):x < ((xs.map f).length:Int):=by rw[u6];omega
theorem zjn {fs:List (Option Int)}{i m:Int}(h0:0<=i)(h:i < m)(hl:fs.length=m.toNat):L2.atI (fs.map xS) i=some (xS (oAt fs i)):=zfg h0 (zdL h0 h hl)
theorem zm5 {d:D}{m:Int}(h1:1<=m)(h8:m<=8):zdP (.lst [d]) (.int m)=some (List.replicate m.toNat d):=Wn (by omega) (by omega)
theorem zlO {m:Int}(h1:1<=m)(h8:m<=8):Yi [.int m]=some (W0 0 m.toNat):=by
 show(if zhx m=true then some (W0 0 m.toNat)else none)=_
 rw[t5 (yX.mpr ⟨by omega,by omega⟩)]
theorem zlC {m:Int}{n:Nat}(h:m=((n+1:Nat):Int))(h7:n<=7):Yi [.int m]=some (W0 0 (n+1)):=by
 rw[zlO (by omega) (by omega),show m.toNat=n+1 by omega]
theorem zl4 {m:Int}{n:Nat}(h:m=((n+1:Nat):Int))(h7:n<=7):za4 [.int 1,.int m]=some (W0 1 n):=by
 show(if zhx 1=true/\zhx m=true then some (W0 1 (m - 1).toNat)else none)=_
 rw[t5 ⟨yX.mpr ⟨by omega,by omega⟩,yX.mpr ⟨by omega,by omega⟩⟩,show(m - 1).toNat=n by omega]
theorem zX {a b:Int}:V5 (.int a) (.int b)=some (.bl (decide (a=b))):=rfl
theorem x8 {a b:Bool}:V5 (.bl a) (.bl b)=some (.bl (decide (a=b))):=rfl
theorem yZ {a b:PySem.Str}:V5 (.str a) (.str b)=some (.bl (decide (a=b))):=rfl
theorem yA {a b:Int}:vv (.int a) (.int b)=some (.int (a+b)):=rfl
theorem zhV {a b:List D}(h:a.length+b.length<=1000):vv (.tup a) (.tup b)=some (.tup (a++b)):=by
 show(if lim (a.length+b.length)=true then some (D.tup (a++b))else none)=_
 rw[t5 (xk h)]
section
variable {ρ:Ev}{f g h:Ev->Option D}{a:Ev->Option (List D)}{t u:Ev->Option Bool}{d e x y z:D}{ds es:List D}{b c:Bool}
theorem yj:zq ρ=some []:=rfl
theorem zy (h1:f ρ=some d)(h2:a ρ=some ds):zb f a ρ=some (d::ds):=by unfold zb;rw[h1,h2];rfl
theorem yr {n:Nat}{p:List D->Option D}(h1:a ρ=some ds)(h2:p ds=some d)(hl:ds.length=n:=by rfl):zo n p a ρ=some d:=by
 unfold zo
 rw[h1,d9,t5 hl,h2]
theorem yH {i n:Nat}{p:List D->Option D}{σ σ':SE}(h1:a (visF σ)=some ds)(h2:p ds=some d)(hl:ds.length=n:=by rfl)(h3:σ.set i (.v d)=σ':=by rfl):y9 false i (zo n p a) σ=.nx σ':=xf (show zo n p a (visF σ)=some d from yr h1 h2 hl) h3
theorem zcu {i:Nat}{f:Ev->Option D}{σ σ':SE}(h:f (visF σ)=some d)(h3:σ.set i (.v d)=σ':=by rfl):y9 false i f σ=.nx σ':=xf (show f (visF σ)=some d from h) h3
theorem zr {k:D->D->Option D}(h1:f ρ=some x)(h2:g ρ=some y)(h3:k x y=some z):zm k f g ρ=some z:=by unfold zm;rw[h1,h2];exact h3
theorem zj2 {k:D->Option D}(h1:f ρ=some x)(h3:k x=some z):eUn k f ρ=some z:=by unfold eUn;rw[h1];exact h3
theorem ZH (h1:a ρ=some ds):wd a ρ=some (.lst ds):=by unfold wd;rw[h1];rfl
theorem Zv {k:List D->Option D}(h1:a ρ=some ds)(h2:k ds=some d):eFn k a ρ=some d:=by unfold eFn;rw[h1];exact h2
theorem zjE (h1:a ρ=some ds)(hl:ds.length<=1000):yq a ρ=some ds:=by unfold yq;rw[h1,d9,t5 (xk hl)]
theorem VY (h1:a ρ=some ds)(hl:ds.length<=1000):Z1 a ρ=some (.tup ds):=by unfold Z1;rw[h1,d9,t5 (xk hl)]
theorem zbL (h1:f ρ=some d)(h2:wF d=some ds):iOf f ρ=some ds:=by unfold iOf;rw[h1];exact h2
theorem zmB (h1:t ρ=some c)(h2:(if c=true then f ρ else g ρ)=some d):eIf t f g ρ=some d:=by unfold eIf;rw[h1];exact h2
theorem zk2 (h1:f ρ=some (.bl b))(h2:g ρ=some (.bl c)):XZ f g ρ=some (.bl (b&&c)):=by unfold XZ;rw[h1,h2];cases b <;> rfl
theorem Xb (h1:f ρ=some (.bl b)):tOf f ρ=some b:=by unfold tOf;rw[h1];rfl
theorem znQ (h1:t ρ=some b)(h2:u ρ=some c):Wc t u ρ=some (b||c):=by unfold Wc;rw[h1,h2];cases b <;> rfl
theorem zcc (h1:t ρ=some false)(h2:u ρ=some c):Wc t u ρ=some c:=by unfold Wc;rw[h1];exact h2
end
end Mz
namespace Mz
open PySem L2 Dl
def top (i:Nat):Stmt:=PySem.Challenge.pw_twoforone_k35_whole_stones_wanted_are_en.main.body.getD i (.Pass ⟨0,0,0,0⟩)
abbrev Xv:Stmt:=top 10
abbrev xN:Stmt:=top 11
abbrev x9:Stmt:=top 12
abbrev xY:Stmt:=top 13
abbrev Xi:Stmt:=top 14
abbrev Y1:Stmt:=top 15
abbrev Wf:Stmt:=top 16
abbrev Wj:Stmt:=top 18
abbrev Xk:Stmt:=top 19
abbrev Vh:Stmt:=top 20
abbrev Ym:Stmt:=top 21
abbrev wO:Stmt:=top 22
abbrev v8:Stmt:=top 23
abbrev YR:Stmt:=top 24
abbrev ZC:Stmt:=top 25
abbrev VV:Stmt:=top 26
abbrev Ze:Stmt:=top 27
abbrev Wl:Stmt:=top 28
abbrev vw:Stmt:=top 30
abbrev xu:Stmt:=top 31
abbrev xy:Stmt:=top 32
abbrev Xw:Stmt:=top 33
abbrev vt:Stmt:=top 34
abbrev Zk:Stmt:=top 35
abbrev Ya:Stmt:=top 36
abbrev YQ:Stmt:=top 37
abbrev Zn:Stmt:=top 38
abbrev Y2:Stmt:=top 39
abbrev Y0:Stmt:=top 41
abbrev ve:Stmt:=top 42
abbrev x6:Stmt:=top 44
abbrev Xs:Stmt:=top 45
abbrev YU:Stmt:=top 46
abbrev WI:Stmt:=top 47
abbrev YK:Stmt:=top 48
abbrev Yj:Stmt:=top 49
abbrev vn:Stmt:=top 51
abbrev Zo:Stmt:=top 52
abbrev vA:Stmt:=top 53
abbrev Yl:Stmt:=top 54
abbrev YE:Stmt:=top 55
abbrev zfC:Stmt:=top 56
theorem zde:zu ["thing"] ["thing"] (zk Xv):=⟨rfl,rfl,rfl,by decide +kernel,rfl,by decide +kernel,by decide +kernel⟩
theorem X7:zu ["thing","least","most"] ["thing","least","most"] (zk xN):=⟨rfl,rfl,rfl,by decide +kernel,rfl,by decide +kernel,by decide +kernel⟩
theorem WA:zu ["thing","least","most"] ["thing","least","most"] (zk x9):=⟨rfl,rfl,rfl,by decide +kernel,rfl,by decide +kernel,by decide +kernel⟩
theorem WC:zu ["thing"] ["thing"] (zk xY):=⟨rfl,rfl,rfl,by decide +kernel,rfl,by decide +kernel,by decide +kernel⟩
theorem zds:zu ["many","thing"] ["many","thing"] (zk Xi):=⟨rfl,rfl,rfl,by decide +kernel,rfl,by decide +kernel,by decide +kernel⟩
theorem zbn:zu ["many","thing"] ["many","thing"] (zk Y1):=⟨rfl,rfl,rfl,by decide +kernel,rfl,by decide +kernel,by decide +kernel⟩
theorem Wi:zu ["number","times","turn"] ["number","times"] (zk Wf):=⟨rfl,rfl,rfl,by decide +kernel,rfl,by decide +kernel,by decide +kernel⟩
theorem zeG:zu ["many","thing"] ["many","thing"] (zk Wj):=⟨rfl,rfl,rfl,by decide +kernel,rfl,by decide +kernel,by decide +kernel⟩
theorem Xy:zu ["many","thing","at","tie"] ["many","thing"] (zk Xk):=⟨rfl,rfl,rfl,by decide +kernel,rfl,by decide +kernel,by decide +kernel⟩
theorem zhj:zu ["thing"] ["thing"] (zk Vh):=⟨rfl,rfl,rfl,by decide +kernel,rfl,by decide +kernel,by decide +kernel⟩
theorem zaa:zu ["thing"] ["thing"] (zk Ym):=⟨rfl,rfl,rfl,by decide +kernel,rfl,by decide +kernel,by decide +kernel⟩
theorem WX:zu ["web","thing"] ["web","thing"] (zk wO):=⟨rfl,rfl,rfl,by decide +kernel,rfl,by decide +kernel,by decide +kernel⟩
theorem zah:zu ["one","other"] ["one","other"] (zk v8):=⟨rfl,rfl,rfl,by decide +kernel,rfl,by decide +kernel,by decide +kernel⟩
theorem za7:zu ["web","place"] ["web","place"] (zk YR):=⟨rfl,rfl,rfl,by decide +kernel,rfl,by decide +kernel,by decide +kernel⟩
theorem yS:zu ["web","start","away","rim","further","place","other"] ["web","start"] (zk ZC):=⟨rfl,rfl,rfl,by decide +kernel,rfl,by decide +kernel,by decide +kernel⟩
theorem Zs:zu ["web","found","start","away","piece"] ["web"] (zk VV):=⟨rfl,rfl,rfl,by decide +kernel,rfl,by decide +kernel,by decide +kernel⟩
theorem zbN:zu ["web"] ["web"] (zk Ze):=⟨rfl,rfl,rfl,by decide +kernel,rfl,by decide +kernel,by decide +kernel⟩
theorem zeC:zu ["web"] ["web"] (zk Wl):=⟨rfl,rfl,rfl,by decide +kernel,rfl,by decide +kernel,by decide +kernel⟩
theorem VZ:zu ["web"] ["web"] (zk vw):=⟨rfl,rfl,rfl,by decide +kernel,rfl,by decide +kernel,by decide +kernel⟩
theorem yE:zu ["web","root","away","outer","place"] ["web","root"] (zk xu):=⟨rfl,rfl,rfl,by decide +kernel,rfl,by decide +kernel,by decide +kernel⟩
theorem yc:zu ["web","root","inner","place","outer","other"] ["web","root"] (zk xy):=⟨rfl,rfl,rfl,by decide +kernel,rfl,by decide +kernel,by decide +kernel⟩
theorem Vu:zu ["web","root","away"] ["web","root"] (zk Xw):=⟨rfl,rfl,rfl,by decide +kernel,rfl,by decide +kernel,by decide +kernel⟩
theorem xJ:zu ["web","root","outer","tall","place"] ["web","root"] (zk vt):=⟨rfl,rfl,rfl,by decide +kernel,rfl,by decide +kernel,by decide +kernel⟩
theorem yy:zu ["web","root","tall","outer","ranked","found","place","at","other"] ["web","root"] (zk Zk):=⟨rfl,rfl,rfl,by decide +kernel,rfl,by decide +kernel,by decide +kernel⟩
theorem Xc:zu ["ranked","way"] ["ranked","way"] (zk Ya):=⟨rfl,rfl,rfl,by decide +kernel,rfl,by decide +kernel,by decide +kernel⟩
theorem wY:zu ["web","root","times","stones","at","way"] ["web","root","times"] (zk YQ):=⟨rfl,rfl,rfl,by decide +kernel,rfl,by decide +kernel,by decide +kernel⟩
theorem zcL:zu ["web","place","times"] ["web","place","times"] (zk Zn):=⟨rfl,rfl,rfl,by decide +kernel,rfl,by decide +kernel,by decide +kernel⟩
theorem za9:zu ["web","place","times"] ["web","place","times"] (zk Y2):=⟨rfl,rfl,rfl,by decide +kernel,rfl,by decide +kernel,by decide +kernel⟩
theorem za0:zu ["web","thing"] ["web","thing"] (zk Y0):=⟨rfl,rfl,rfl,by decide +kernel,rfl,by decide +kernel,by decide +kernel⟩
theorem Vs:zu ["web","thing"] ["web","thing"] (zk ve):=⟨rfl,rfl,rfl,by decide +kernel,rfl,by decide +kernel,by decide +kernel⟩
theorem Wr:zu ["web","heap","place"] ["web","heap","place"] (zk x6):=⟨rfl,rfl,rfl,by decide +kernel,rfl,by decide +kernel,by decide +kernel⟩
theorem zc5:zu ["heap","outer","carried","place"] ["heap","outer","carried","place"] (zk Xs):=⟨rfl,rfl,rfl,by decide +kernel,rfl,by decide +kernel,by decide +kernel⟩
theorem xG:zu ["web","heap","root","outer","carried","place","stones"] ["web","heap","root"] (zk YU):=⟨rfl,rfl,rfl,by decide +kernel,rfl,by decide +kernel,by decide +kernel⟩
theorem zeU:zu ["web","heap","place"] ["web","heap","place"] (zk WI):=⟨rfl,rfl,rfl,by decide +kernel,rfl,by decide +kernel,by decide +kernel⟩
theorem y3:zu ["web","heap","place","carried","inner","away","steps","other"] ["web","heap","place"] (zk YK):=⟨rfl,rfl,rfl,by decide +kernel,rfl,by decide +kernel,by decide +kernel⟩
theorem xm:zu ["web","heap","place","thing","outer","other","stones","most"] ["web","heap","place","thing"] (zk Yj):=⟨rfl,rfl,rfl,by decide +kernel,rfl,by decide +kernel,by decide +kernel⟩
theorem Vg:zu ["script","k"] ["script","k"] (zk vn):=⟨rfl,rfl,rfl,by decide +kernel,rfl,by decide +kernel,by decide +kernel⟩
theorem vK:zu ["cell","k","number"] ["cell","k"] (zk Zo):=⟨rfl,rfl,rfl,by decide +kernel,rfl,by decide +kernel,by decide +kernel⟩
theorem zF:zu ["cell","most","many","names","k","ties","left","inner"] ["cell","most"] (zk vA):=⟨rfl,rfl,rfl,by decide +kernel,rfl,by decide +kernel,by decide +kernel⟩
theorem v9:zu ["web","heap","steps","here","step"] ["web","heap","steps"] (zk Yl):=⟨rfl,rfl,rfl,by decide +kernel,rfl,by decide +kernel,by decide +kernel⟩
theorem zQ:zu ["web","need_here","poorest","cell","found","k","heap","left","j","place","many","at"] ["web","need_here","poorest","cell"] (zk YE):=⟨rfl,rfl,rfl,by decide +kernel,rfl,by decide +kernel,by decide +kernel⟩
theorem Y7:zu ["script","cell","web","root","times","need_here","poorest","heap","last","paper","at","less"] ["script"] (zk zfC):=⟨rfl,rfl,rfl,by decide +kernel,rfl,by decide +kernel,by decide +kernel⟩
structure Adr where
 f_is_whole:Addr
 e_is_whole:FuncData
 f_is_whole_within:Addr
 e_is_whole_within:FuncData
 f_must_be_within:Addr
 e_must_be_within:FuncData
 f_is_place_count:Addr
 e_is_place_count:FuncData
 f_is_place:Addr
 e_is_place:FuncData
 f_are_counts:Addr
 e_are_counts:FuncData
 f_doubled:Addr
 e_doubled:FuncData
 f_is_pair:Addr
 e_is_pair:FuncData
 f_are_ties:Addr
 e_are_ties:FuncData
 f_is_web:Addr
 e_is_web:FuncData
 f_must_be_web:Addr
 e_must_be_web:FuncData
 f_must_be_place:Addr
 e_must_be_place:FuncData
 f_tie_between:Addr
 e_tie_between:FuncData
 f_neighbours:Addr
 e_neighbours:FuncData
 f_ties_away:Addr
 e_ties_away:FuncData
 f_pieces:Addr
 e_pieces:FuncData
 f_is_joined:Addr
 e_is_joined:FuncData
 f_is_tree:Addr
 e_is_tree:FuncData
 f_must_be_tree:Addr
 e_must_be_tree:FuncData
 f_outer_neighbours:Addr
 e_outer_neighbours:FuncData
 f_inner_neighbours:Addr
 e_inner_neighbours:FuncData
 f_outwards:Addr
 e_outwards:FuncData
 f_heights_from:Addr
 e_heights_from:FuncData
 f_ways_from:Addr
 e_ways_from:FuncData
 f_way_through:Addr
 e_way_through:FuncData
 f_worst_from:Addr
 e_worst_from:FuncData
 f_tree_need:Addr
 e_tree_need:FuncData
 f_tree_worst:Addr
 e_tree_worst:FuncData
 f_are_stones:Addr
 e_are_stones:FuncData
 f_must_be_heap:Addr
 e_must_be_heap:FuncData
 f_must_be_rooted:Addr
 e_must_be_rooted:FuncData
 f_gathered:Addr
 e_gathered:FuncData
 f_carried_to:Addr
 e_carried_to:FuncData
 f_carries:Addr
 e_carries:FuncData
 f_tree_steps:Addr
 e_tree_steps:FuncData
 f_carry_holds:Addr
 e_carry_holds:FuncData
 f__law_cell_at:Addr
 e__law_cell_at:FuncData
 f__law_stir:Addr
 e__law_stir:FuncData
 f__law_tree_by:Addr
 e__law_tree_by:FuncData
 f__law_played:Addr
 e__law_played:FuncData
 f__law_heaps:Addr
 e__law_heaps:FuncData
 f_law:Addr
 e_law:FuncData
 t_MOST_PLACES:Tok
 t_MOST_STONES:Tok
 c_outwards:Addr
 p_outwards:Addr
 c_ways_from:Addr
 p_ways_from:Addr
 c_tree_steps:Addr
 p_tree_steps:Addr
structure Txt (K:W.Frag) (mg:Str->Option Value) (base:Heap) (ad:Adr):Prop where
 d_is_whole:Def K mg "is_whole" Xv ["thing"] ad.f_is_whole ad.e_is_whole
 d_is_whole_within:Def K mg "is_whole_within" xN ["thing","least","most"] ad.f_is_whole_within ad.e_is_whole_within
 d_must_be_within:Def K mg "must_be_within" x9 ["thing","least","most"] ad.f_must_be_within ad.e_must_be_within
 d_is_place_count:Def K mg "is_place_count" xY ["thing"] ad.f_is_place_count ad.e_is_place_count
 d_is_place:Def K mg "is_place" Xi ["many","thing"] ad.f_is_place ad.e_is_place
 d_are_counts:Def K mg "are_counts" Y1 ["many","thing"] ad.f_are_counts ad.e_are_counts
 d_doubled:Def K mg "doubled" Wf ["number","times"] ad.f_doubled ad.e_doubled
 d_is_pair:Def K mg "is_pair" Wj ["many","thing"] ad.f_is_pair ad.e_is_pair
 d_are_ties:Def K mg "are_ties" Xk ["many","thing"] ad.f_are_ties ad.e_are_ties
 d_is_web:Def K mg "is_web" Vh ["thing"] ad.f_is_web ad.e_is_web
 d_must_be_web:Def K mg "must_be_web" Ym ["thing"] ad.f_must_be_web ad.e_must_be_web
 d_must_be_place:Def K mg "must_be_place" wO ["web","thing"] ad.f_must_be_place ad.e_must_be_place
 d_tie_between:Def K mg "tie_between" v8 ["one","other"] ad.f_tie_between ad.e_tie_between
 d_neighbours:Def K mg "neighbours" YR ["web","place"] ad.f_neighbours ad.e_neighbours
 d_ties_away:Def K mg "ties_away" ZC ["web","start"] ad.f_ties_away ad.e_ties_away
 d_pieces:Def K mg "pieces" VV ["web"] ad.f_pieces ad.e_pieces
 d_is_joined:Def K mg "is_joined" Ze ["web"] ad.f_is_joined ad.e_is_joined
 d_is_tree:Def K mg "is_tree" Wl ["web"] ad.f_is_tree ad.e_is_tree
 d_must_be_tree:Def K mg "must_be_tree" vw ["web"] ad.f_must_be_tree ad.e_must_be_tree
 d_outer_neighbours:Def K mg "outer_neighbours" xu ["web","root"] ad.f_outer_neighbours ad.e_outer_neighbours
 d_inner_neighbours:Def K mg "inner_neighbours" xy ["web","root"] ad.f_inner_neighbours ad.e_inner_neighbours
 d_outwards:Def K mg "outwards" Xw ["web","root"] ad.f_outwards ad.e_outwards
 d_heights_from:Def K mg "heights_from" vt ["web","root"] ad.f_heights_from ad.e_heights_from
 d_ways_from:Def K mg "ways_from" Zk ["web","root"] ad.f_ways_from ad.e_ways_from
 d_way_through:Def K mg "way_through" Ya ["ranked","way"] ad.f_way_through ad.e_way_through
 d_worst_from:Def K mg "worst_from" YQ ["web","root","times"] ad.f_worst_from ad.e_worst_from
 d_tree_need:Def K mg "tree_need" Zn ["web","place","times"] ad.f_tree_need ad.e_tree_need
 d_tree_worst:Def K mg "tree_worst" Y2 ["web","place","times"] ad.f_tree_worst ad.e_tree_worst
 d_are_stones:Def K mg "are_stones" Y0 ["web","thing"] ad.f_are_stones ad.e_are_stones
 d_must_be_heap:Def K mg "must_be_heap" ve ["web","thing"] ad.f_must_be_heap ad.e_must_be_heap
 d_must_be_rooted:Def K mg "must_be_rooted" x6 ["web","heap","place"] ad.f_must_be_rooted ad.e_must_be_rooted
 d_gathered:Def K mg "gathered" Xs ["heap","outer","carried","place"] ad.f_gathered ad.e_gathered
 d_carried_to:Def K mg "carried_to" YU ["web","heap","root"] ad.f_carried_to ad.e_carried_to
 d_carries:Def K mg "carries" WI ["web","heap","place"] ad.f_carries ad.e_carries
 d_tree_steps:Def K mg "tree_steps" YK ["web","heap","place"] ad.f_tree_steps ad.e_tree_steps
 d_carry_holds:Def K mg "carry_holds" Yj ["web","heap","place","thing"] ad.f_carry_holds ad.e_carry_holds
 d__law_cell_at:Def K mg "_law_cell_at" vn ["script","k"] ad.f__law_cell_at ad.e__law_cell_at
 d__law_stir:Def K mg "_law_stir" Zo ["cell","k"] ad.f__law_stir ad.e__law_stir
 d__law_tree_by:Def K mg "_law_tree_by" vA ["cell","most"] ad.f__law_tree_by ad.e__law_tree_by
 d__law_played:Def K mg "_law_played" Yl ["web","heap","steps"] ad.f__law_played ad.e__law_played
 d__law_heaps:Def K mg "_law_heaps" YE ["web","need_here","poorest","cell"] ad.f__law_heaps ad.e__law_heaps
 d_law:Def K mg "law" zfC ["script"] ad.f_law ad.e_law
 g_MOST_PLACES:mg "MOST_PLACES"=some (Value.int 8 ad.t_MOST_PLACES)
 g_MOST_STONES:mg "MOST_STONES"=some (Value.int 300 ad.t_MOST_STONES)
 z_all:mg "all"=none
 z_bool:mg "bool"=none
 z_enumerate:mg "enumerate"=none
 z_int:mg "int"=none
 z_isinstance:mg "isinstance"=none
 z_len:mg "len"=none
 z_list:mg "list"=none
 z_max:mg "max"=none
 z_min:mg "min"=none
 z_range:mg "range"=none
 z_reversed:mg "reversed"=none
 z_sorted:mg "sorted"=none
 z_sum:mg "sum"=none
 z_tuple:mg "tuple"=none
 lc_outwards:ad.e_outwards.code=.ref ad.c_outwards
 la_outwards:Xq base mg ad.c_outwards ad.p_outwards "outwards.<locals>.<lambda>"
 lc_ways_from:ad.e_ways_from.code=.ref ad.c_ways_from
 la_ways_from:Xq base mg ad.c_ways_from ad.p_ways_from "ways_from.<locals>.<lambda>"
 lc_tree_steps:ad.e_tree_steps.code=.ref ad.c_tree_steps
 la_tree_steps:Xq base mg ad.c_tree_steps ad.p_tree_steps "tree_steps.<locals>.<lambda>"
theorem znf:(["part","many","thing"]:List Str).Nodup:=by decide +kernel
theorem znF:(["other","web","place"]:List Str).Nodup:=by decide +kernel
theorem znD:(["place","web","found","start","away","piece"]:List Str).Nodup:=by decide +kernel
theorem zng:(["other","web","root","away","outer","place"]:List Str).Nodup:=by decide +kernel
theorem znN:(["other","heap","outer","carried","place"]:List Str).Nodup:=by decide +kernel
theorem znB:(["other","web","root","outer","tall","place"]:List Str).Nodup:=by decide +kernel
theorem znL:(["others","web","root","tall","outer","ranked","found","place","at","other"]:List Str).Nodup:=by decide +kernel
theorem zmo:(["k","stones","web","need_here","poorest","cell","found","·k","heap","left","j","place","many","at"]:List Str).Nodup:=by decide +kernel
theorem zm7:(["k","web","need_here","poorest","cell","found","·k","heap","left","j","place","many","at"]:List Str).Nodup:=by decide +kernel
theorem zk0:(["k","stones","script","cell","web","root","times","need_here","poorest","heap","last","paper","at","less"]:List Str).Nodup:=by decide +kernel
def XN:D->Bool
 | .int _=>true
 | _=>false
def yt (d:D)(lo hi:Int):Bool:=match d with
 | .int i=>decide (lo<=i)&&decide (i<=hi)
 | _=>false
section
variable {P:Program}{w:World}{K:W.Frag}{mg:Str->Option Value}{base:Heap}{ad:Adr}
def yg:List D->Option D
 | [d]=>if noS d=true then some (.bl (XN d))else none
 | _=>none
def Wz:SE->Ctl :=
 (yO (XZ (eUn (vH .int) (zc 0)) (zcV (eUn (vH .bool) (zc 0)))))
def zeB:List D->Option D:=fnD 1 Wz
theorem zmX {α:Type}{ds:List α}(h:ds.length=1):∃ a,ds=[a]:=by match ds,h with | [a],_=>exact⟨a,rfl⟩
theorem zfe {α:Type}{ds:List α}(h:ds.length=2):∃ a b,ds=[a,b]:=by match ds,h with | [a,b],_=>exact⟨a,b,rfl⟩
theorem len3 {α:Type}{ds:List α}(h:ds.length=3):∃ a b c,ds=[a,b,c]:=by match ds,h with | [a,b,c],_=>exact⟨a,b,c,rfl⟩
theorem ifS {c:Bool}{x y:D}(h:(if c=true then some x else none)=some y):c=true/\x=y:=by
 split at h
 .cases h
  exact⟨by assumption,rfl⟩
 .cases h
theorem zdc:∀ ds d,ds.length=1->yg ds=some d->zeB ds=some d:=by
 intro ds d hl h
 obtain⟨a,rfl⟩:=zmX hl
 obtain⟨hn,rfl⟩:=ifS h
 cases a <;> first | rfl | cases hn
theorem V0 (T:Txt K mg base ad):y6 P w K mg base CX0 1 ad.f_is_whole ad.e_is_whole ["thing"] (@spD ⟨K⟩ 1 yg):=by
 letI:KK:=⟨K⟩
 refine vh (yC (N:=["thing"]) (ps:=["thing"]) T.d_is_whole.fn zde (g:=Wz) λcdv A outer s H E hr=>?_) zdc
 unfold Wz
 exact(zj (zB (X6 (ww .int rfl T.z_isinstance (edv 0) (ZK (v:=.ty "int") rfl T.z_int zdG rfl)) (XE (zmv (ww .bool rfl T.z_isinstance (edv 0) (ZK (v:=.ty "bool") rfl T.z_bool zjG rfl)))))))
def yo:SE->Ctl :=
 (yO (XZ (zo 1 yg (zb (zc 0) zq)) (wP leD leD (zc 1) (zc 0) (zc 2))))
def Yv:List D->Option D:=fnD 3 yo
def zD:List D->Option D
 | [d,.int lo,.int hi]=>if noS d=true then some (.bl (yt d lo hi))else none
 | _=>none
theorem zbr {a:D}{lo hi:Int}(hn:noS a=true)(hw:XN a=false):Yv [a,.int lo,.int hi]=some (.bl false):=by
 have e:yg [a]=some (.bl false):=by
  show(if noS a=true then some (D.bl (XN a))else none)=_
  rw[t5 hn,hw]
 refine WE (ρ:=[.v a,.v (.int lo),.v (.int hi)]) rfl ?_
 unfold yo
 refine ZW (Yg ?_) rfl
 show(((yg [a]).bind asB).bind λc=>if c=true then _ else some (D.bl false))=_
 rw[e]
 rfl
theorem XG:∀ ds d,ds.length=3->zD ds=some d->Yv ds=some d:=by
 intro ds d hl h
 obtain⟨a,b,c,rfl⟩:=len3 hl
 cases b <;> try cases h
 cases c <;> try cases h
 rename_i lo hi
 obtain⟨hn,rfl⟩:=ifS h
 cases a with
 | scr _=>cases hn
 | int i =>
  refine WE (ρ:=[.v (.int i),.v (.int lo),.v (.int hi)]) rfl ?_
  unfold yo
  refine ZW (Yg ?_) rfl
  show(if decide (lo<=i)=true then some (D.bl (decide (i<=hi)))else some (.bl false))=some (.bl (decide (lo<=i)&&decide (i<=hi)))
  cases decide (lo<=i) <;> rfl
 | tup es=>exact zbr hn rfl
 | lst es=>exact zbr hn rfl
 | dct z t ks vs=>exact zbr hn rfl
 | non=>rfl
 | bl _=>rfl
 | str _=>rfl
theorem xQ (T:Txt K mg base ad):y6 P w K mg base CX0 2 ad.f_is_whole_within ad.e_is_whole_within ["thing","least","most"] (@spD ⟨K⟩ 3 zD):=by
 letI:KK:=⟨K⟩
 have G_is_whole:=V0 (P:=P) (w:=w) (base:=base) T
 refine vh (yC (N:=["thing","least","most"]) (ps:=["thing","least","most"]) T.d_is_whole_within.fn X7 (g:=yo) λcdv A outer s H E hr=>?_) XG
 unfold yo
 exact(zj (zB (X6 (zi G_is_whole hr rfl T.d_is_whole (za (edv 0) zd)) (XE (zh8 zg9 zg9 yi yi (edv 1) (edv 0) (edv 2) (λa b c=>zin zg9 zg9 a b c))))))
def xr:SE->Ctl :=
 (yO (zo 3 zD (zb (zc 0) (zb (eC (.int 1)) (zb (eC (.int 8)) zq)))))
def wG:List D->Option D:=fnD 1 xr
def yF:List D->Option D
 | [d]=>if noS d=true then some (.bl (yt d 1 8))else none
 | _=>none
theorem Wy:∀ ds d,ds.length=1->yF ds=some d->wG ds=some d:=by
 intro ds d hl h
 obtain⟨a,rfl⟩:=zmX hl
 have e:wG [a]=zD [a,.int 1,.int 8]:=by
  cases h2:zD [a,.int 1,.int 8] <;> simp[wG,xr,fnD,zI,yO,WB,sIf,y9,XL,sNo,yk,zep,Zc,WW,zbH,Wd,vEv,visF,visG,Sl.f,Sl.g,zc,eC,zm,XZ,eOr,zcV,eIf,eUn,V1,Z1,wd,yq,zb,zq,zo,eFn,fFn,tOf,Xm,Wc,xF,asB,asI,yA,XC,Yt,vy,vG,zbI,Zb,ltD,leD,gtD,geD,zbd,zX,x8,yZ,yT,zbC,yz,ixD,We,vH,isT,eSl,Wm,YI,wP,wF,iOf,XD,xT,zay,Yi,za4,yx,Wu,fLC,xw,ym,Xa,yw,za5,vI,zbF,b1,b2,h2]
 rw[e]
 exact h
theorem WH (T:Txt K mg base ad):y6 P w K mg base CX0 3 ad.f_is_place_count ad.e_is_place_count ["thing"] (@spD ⟨K⟩ 1 yF):=by
 letI:KK:=⟨K⟩
 have G_is_whole_within:=xQ (P:=P) (w:=w) (base:=base) T
 refine vh (yC (N:=["thing"]) (ps:=["thing"]) T.d_is_place_count.fn WC (g:=xr) λcdv A outer s H E hr=>?_) Wy
 unfold xr
 exact(zj (zB (zi G_is_whole_within hr rfl T.d_is_whole_within (za (edv 0) (za (zg zh) (za (zg (zfT (v:=.int 8) rfl T.g_MOST_PLACES ⟨_,rfl⟩)) zd))))))
def ZP:SE->Ctl :=
 (yO (zo 3 zD (zb (zc 1) (zb (eC (.int 0)) (zb (zm XC (zc 0) (eC (.int 1))) zq)))))
def Wg:List D->Option D:=fnD 2 ZP
def yK:List D->Option D
 | [.int m,d]=>if noS d=true then some (.bl (yt d 0 (m - 1)))else none
 | _=>none
theorem zdr:∀ ds d,ds.length=2->yK ds=some d->Wg ds=some d:=by
 intro ds d hl h
 obtain⟨a,b,rfl⟩:=zfe hl
 cases a <;> try cases h
 rename_i m
 have e:Wg [.int m,b]=zD [b,.int 0,.int (m - 1)]:=by
  cases h2:zD [b,.int 0,.int (m - 1)] <;> simp[Wg,ZP,fnD,zI,yO,WB,sIf,y9,XL,sNo,yk,zep,Zc,WW,zbH,Wd,vEv,visF,visG,Sl.f,Sl.g,zc,eC,zm,XZ,eOr,zcV,eIf,eUn,V1,Z1,wd,yq,zb,zq,zo,eFn,fFn,tOf,Xm,Wc,xF,asB,asI,yA,XC,Yt,vy,vG,zbI,Zb,ltD,leD,gtD,geD,zbd,zX,x8,yZ,yT,zbC,yz,ixD,We,vH,isT,eSl,Wm,YI,wP,wF,iOf,XD,xT,zay,Yi,za4,yx,Wu,fLC,xw,ym,Xa,yw,za5,vI,zbF,b1,b2,h2]
 rw[e]
 exact h
theorem Vt (T:Txt K mg base ad):y6 P w K mg base CX0 3 ad.f_is_place ad.e_is_place ["many","thing"] (@spD ⟨K⟩ 2 yK):=by
 letI:KK:=⟨K⟩
 have G_is_whole_within:=xQ (P:=P) (w:=w) (base:=base) T
 refine vh (yC (N:=["many","thing"]) (ps:=["many","thing"]) T.d_is_place.fn zds (g:=ZP) λcdv A outer s H E hr=>?_) zdr
 unfold ZP
 exact(zj (zB (zi G_is_whole_within hr rfl T.d_is_whole_within (za (edv 1) (za (zg zh) (za (Yr (edv 0) (zg zh)) zd))))))
theorem zdi {m i:Int}:yt (.int i) 0 (m - 1)=inR m i:=rfl
theorem zjH {d:D}{lo hi:Int}(h:∀ i,d≠.int i):yt d lo hi=false:=by
 cases d <;> first | rfl | exact absurd rfl (h _)
theorem zb9 {d:D}{lo hi:Int}(h:yt d lo hi=true):∃ i,d=.int i:=by
 cases d with
 | int i=>exact⟨i,rfl⟩
 | _=>cases h
def X9:SE->Ctl :=
 (zI (sIf (Wc (xF (tOf (eUn (vH .tuple) (zc 1)))) (tOf (zm neD (eFn We (zb (zc 1) zq)) (eC (.int 2))))) (yO (eC (.bl false))) yk)
  (yO (XZ (zo 2 yK (zb (zc 0) (zb (zm ixD (zc 1) (eC (.int 0))) zq))) (XZ (zo 2 yK (zb (zc 0) (zb (zm ixD (zc 1) (eC (.int 1))) zq))) (zm neD (zm ixD (zc 1) (eC (.int 0))) (zm ixD (zc 1) (eC (.int 1))))))))
def zgY:List D->Option D:=fnD 2 X9
def vm:List D->Option D
 | [.int m,d]=>if noS d=true then some (.bl (wE m d))else none
 | _=>none
theorem zh2 {m:Int}{x y:D}(h:yt x 0 (m - 1)=false):wE m (.tup [x,y])=false:=by
 cases x with
 | int i =>
  cases y with
  | int j =>
   show(inR m i&&inR m j&&!decide (i=j))=false
   rw[show inR m i=false from h]
   rfl
  | _=>rfl
 | _=>rfl
theorem ziA {m:Int}{x y:D}(h:yt y 0 (m - 1)=false):wE m (.tup [x,y])=false:=by
 cases x with
 | int i =>
  cases y with
  | int j =>
   show(inR m i&&inR m j&&!decide (i=j))=false
   rw[show inR m j=false from h,u2O]
   rfl
  | _=>rfl
 | _=>rfl
theorem zeK:∀ ds d,ds.length=2->vm ds=some d->zgY ds=some d:=by
 intro ds d hl h
 obtain⟨a,b,rfl⟩:=zfe hl
 cases a <;> try cases h
 rename_i m
 obtain⟨hn,rfl⟩:=ifS h
 clear h
 cases b with
 | tup es =>
  refine WE (ρ:=[.v (.int m),.v (.tup es)]) rfl ?_
  unfold X9
  by_cases hl:es.length=2
  .obtain⟨x,y,rfl⟩:=zfe hl
   have hx:noS x=true:=YB (ds:=[x,y]) (i:=0) hn rfl
   have hy:noS y=true:=YB (ds:=[x,y]) (i:=1) hn rfl
   have e0:yK [.int m,x]=some (.bl (yt x 0 (m - 1))):=by
    show(if noS x=true then some (D.bl (yt x 0 (m - 1)))else none)=_
    rw[t5 hx]
   have e1:yK [.int m,y]=some (.bl (yt y 0 (m - 1))):=by
    show(if noS y=true then some (D.bl (yt y 0 (m - 1)))else none)=_
    rw[t5 hy]
   refine zt (ρ':=[.v (.int m),.v (.tup [x,y])]) rfl (ZW (Yg ?_) rfl)
   show(((yK [.int m,x]).bind asB).bind λc=>if c=true then (((yK [.int m,y]).bind asB).bind λc=>if c=true then neD x y else some (D.bl false))else some (D.bl false))=_
   rw[e0,e1]
   cases h1:yt x 0 (m - 1) with
   | false=>rw[zh2 h1];rfl
   | true =>
    cases h2:yt y 0 (m - 1) with
    | false=>rw[ziA h2];rfl
    | true =>
     obtain⟨i,rfl⟩:=zb9 h1
     obtain⟨j,rfl⟩:=zb9 h2
     show some (D.bl (!decide (i=j)))=some (.bl (inR m i&&inR m j&&!decide (i=j)))
     rw[show inR m i=true from h1,show inR m j=true from h2]
     rfl
  .have e:wE m (.tup es)=false:=by
    unfold wE Xe
    split
    .rename_i t ht
     split at ht
     .rename_i e'
      injection e' with e'
      rw[e']at hl
      exact absurd rfl hl
     .cases ht
    .rfl
   rw[e]
   refine yJ (W3 (c:=true) ?_ (λ_=>ZW rfl rfl) λz=>by cases z)
   show some (!decide ((es.length:Int)=2))=_
   rw[d7 (show ¬ (es.length:Int)=2 from λh=>hl (Int.ofNat.inj h))]
   rfl
 | scr _=>cases hn
 | _=>rfl
theorem zeu (T:Txt K mg base ad):y6 P w K mg base CX0 4 ad.f_is_pair ad.e_is_pair ["many","thing"] (@spD ⟨K⟩ 2 vm):=by
 letI:KK:=⟨K⟩
 have G_is_place:=Vt (P:=P) (w:=w) (base:=base) T
 refine vh (yC (N:=["many","thing"]) (ps:=["many","thing"]) T.d_is_pair.fn zeG (g:=X9) λcdv A outer s H E hr=>?_) zeK
 unfold X9
 exact(ze (wx (zio (zaj (Yq (Yu (ww .tuple rfl T.z_isinstance (edv 1) (ZK (v:=.ty "tuple") rfl T.z_tuple yM rfl)))) (WP (yb zcC WM (zM _) (zH zT vx rfl T.z_len Zy (za (edv 1) zd)) (zg zh))))) (zj (zB (Z5 Z6))) zU)
  (zj (zB (X6 (zi G_is_place hr rfl T.d_is_place (za (edv 0) (za (zA (edv 1) (zg zh) (λ_ _=>rfl)) zd))) (X6 (zi G_is_place hr rfl T.d_is_place (za (edv 0) (za (zA (edv 1) (zg zh) (λ_ _=>rfl)) zd))) (XE (XO zcC WM (zM _) (zA (edv 1) (zg zh) (λ_ _=>rfl)) (zA (edv 1) (zg zh) (λ_ _=>rfl)))))))))
def zcv (ds:List D):Nat->Option Tie
 | 0=>none
 | k+1=>(ds[k]?).bind Xe
def ZA:SE->Ctl :=
 (zI (sIf (Wc (xF (tOf (zo 2 vm (zb (zc 0) (zb (zc 3) zq))))) (tOf (zm gtD (zm ixD (zc 3) (eC (.int 0))) (zm ixD (zc 3) (eC (.int 1)))))) (yO (eC (.bl false))) yk)
  (sIf (Xm (tOf (zm gtD (zc 2) (eC (.int 0)))) (tOf (zm leT (zc 3) (zm ixD (zc 1) (zm XC (zc 2) (eC (.int 1))))))) (yO (eC (.bl false))) yk))
def Yw:SE->Ctl :=
 (zI (sIf (xF (tOf (eUn (vH .tuple) (zc 1)))) (yO (eC (.bl false))) yk)
  (zI (XD (yx (zb (zc 1) zq)) (za5 2 (vI (yw 2) (vI (yw 3) zbF))) ZA)
  (yO (eC (.bl true)))))
def zeS:List D->Option D:=fnD 4 Yw
def Yy:List D->Option D
 | [.int m,d]=>if noS d=true then some (.bl (ZQ m d))else none
 | _=>none
theorem zac {m:Int}{d:D}(h:wE m d=true):∃ t,d=zv t:=by
 unfold wE at h
 split at h
 .rename_i t ht
  exact⟨t,Vr ht⟩
 .cases h
theorem zc7:∀ ds d,ds.length=2->Yy ds=some d->zeS ds=some d:=by
 intro ds d hl h
 obtain⟨a,b,rfl⟩:=zfe hl
 cases a <;> try cases h
 rename_i m
 obtain⟨hn,rfl⟩:=ifS h
 clear h hl
 cases b with
 | scr _=>cases hn
 | tup es =>
  refine WE (g:=Yw) rfl ?_
  unfold Yw
  refine zt rfl ?_
  refine yJ (Wt (ds:=Zj 0 es) (λi ρ=>∃ o1 o2,ρ=[.v (.int m),.v (.tup es),o1,o2]/\yD m none es=yD m (zcv es i) (es.drop i)/\∀ k,i=k+1->∃ p,es[k]?=some (zv p)) rfl
   ⟨.no,.no,rfl,rfl,λk e=>by cases e⟩ ?_ ?_)
  .rintro i d ρ hd ⟨o1,o2,rfl,hp,hk⟩
   rw[vE]at hd
   obtain⟨dx,hdx,rfl⟩:=u8.mp hd
   rw[m9]
   refine⟨_,rfl,?_⟩
   have hdrop:es.drop i=dx::es.drop (i+1):=by
    obtain⟨h1,h2⟩:=t8.mp hdx
    rw[u07 h1,h2]
   have hnx:noS dx=true:=YB hn hdx
   unfold ZA
   cases hpr:wE m dx with
   | false =>
    have e1:vm [.int m,dx]=some (.bl false):=by
     show(if noS dx=true then some (D.bl (wE m dx))else none)=_
     rw[t5 hnx,hpr]
    refine yJ (W3 (c:=true) (show(((vm [.int m,dx]).bind asB).map (!·)).bind (λc=>if c=true then some true else _)=_ by rw[e1];rfl) (λ_=>ZW rfl ?_) (λz=>by cases z))
    have e:yD m none es=false:=by
     rw[hp,hdrop]
     unfold yD
     split
     .rw[hpr];rfl
     .rfl
    show D.bl false=.bl (yD m none es)
    rw[e]
   | true =>
    obtain⟨t,rfl⟩:=zac hpr
    have e1:vm [.int m,zv t]=some (.bl true):=by
     show(if noS (zv t)=true then some (D.bl (wE m (zv t)))else none)=_
     rw[t5 hnx,hpr]
    have step:yD m none es=(!decide (t.2 < t.1)&&zcz (zcv es i) t&&yD m (some t) (es.drop (i+1))):=by
     rw[hp,hdrop]
     conv=>lhs;unfold yD
     rw[Zl,hpr]
     rfl
    have prevS:zcv es (i+1)=some t:=by
     show(es[i]?).bind Xe=some t
     rw[hdx]
     rfl
    refine yJ (W3 (c:=decide (t.2 < t.1)) (show(((vm [.int m,zv t]).bind asB).map (!·)).bind (λc=>if c=true then some true else some (decide (t.2 < t.1)))=_ by rw[e1];rfl) (λc=>ZW rfl ?_) (λc=>Zh rfl ?_))
    .show D.bl false=.bl (yD m none es)
     rw[step,c]
     rfl
    .cases i with
     | zero =>
      refine W3 (c:=false) rfl (λz=>by cases z) (λ_=>Zh rfl ?_)
      refine⟨_,_,rfl,?_,λk e=>?_⟩
      .rw[prevS,step,c]
       rfl
      .cases e
       exact⟨t,hdx⟩
     | succ j =>
      obtain⟨p,hpk⟩:=hk j rfl
      have prevK:zcv es (j+1)=some p:=by
       show(es[j]?).bind Xe=some p
       rw[hpk]
       rfl
      rw[prevK]at step
      have ea:atI es ((((j+1:Nat):Int)) - 1)=some (zv p):=by
       rw[show(((j+1:Nat):Int)) - 1=(j:Nat)from Int.add_sub_cancel (j:Int) 1]
       exact zgH hpk
      have okP:zcz (some p) t=!leP t p:=rfl
      refine W3 (c:=leP t p) ?_ (λc2=>ZW rfl ?_) (λc2=>Zh rfl ?_)
      .have z:decide ((0:Int) < ((j+1:Nat):Int))=true:=j8 (Int.natCast_pos.mpr (Nat.succ_pos j))
       show((some (decide ((0:Int) < ((j+1:Nat):Int)))).bind λc=>if c=true then (((atI es (((j+1:Nat):Int) - 1)).bind λy=>leT (zv t) y).bind asB)else some false)=_
       rw[z,ea]
       rfl
      .show D.bl false=.bl (yD m none es)
       rw[step,okP,c2,c]
       rfl
      .refine⟨_,_,rfl,?_,λk' e=>?_⟩
       .rw[prevS,step,okP,c2,c]
        rfl
       .cases e
        exact⟨t,hdx⟩
  .rintro ρ ⟨o1,o2,rfl,hp,hk⟩
   refine ZW rfl ?_
   show D.bl true=.bl (yD m none es)
   rw[hp,xz,u2b]
   cases zcv es es.length <;> rfl
 | _=>rfl
theorem zcY (T:Txt K mg base ad):y6 P w K mg base CX0 5 ad.f_are_ties ad.e_are_ties ["many","thing"] (@spD ⟨K⟩ 2 Yy):=by
 letI:KK:=⟨K⟩
 have G_is_pair:=zeu (P:=P) (w:=w) (base:=base) T
 refine vh (yC (N:=["many","thing","at","tie"]) (ps:=["many","thing"]) T.d_are_ties.fn Xy (g:=Yw) λcdv A outer s H E hr=>?_) zc7
 unfold Yw ZA
 exact(ze (wx (Yq (Yu (ww .tuple rfl T.z_isinstance (edv 1) (ZK (v:=.ty "tuple") rfl T.z_tuple yM rfl)))) (zj (zB (Z5 Z6))) zU)
  (ze (Yx b8 rfl (Wq rfl T.z_enumerate xB (za (edv 1) zd)) (zej rfl (vL (zS (zz (i:=2) Xy.nd rfl (Or.inl rfl))) (vL (zS (zz (i:=3) Xy.nd rfl (Or.inl rfl))) zaH))) (ze (wx (zio (zaj (Yq (Yu (zi G_is_pair hr rfl T.d_is_pair (za (edv 0) (za (edv 3) zd))))) (WP (yb zaZ yi (zM _) (zA (edv 3) (zg zh) (λ_ _=>rfl)) (zA (edv 3) (zg zh) (λ_ _=>rfl)))))) (zj (zB (Z5 Z6))) zU)
  (zj (wx (zio (zl0 (yb zaZ yi (zM _) (edv 2) (zg zh)) (zj3 (yb (zlw hr.units0) zkL (zM _) (edv 3) (zA (edv 1) (Yr (edv 2) (zg zh)) (λ_ _=>rfl)))))) (zj (zB (Z5 Z6))) zU))))
  (zj (zB (Z5 Z6)))))
def ZO:SE->Ctl :=
 (zI (sIf (Wc (xF (tOf (eUn (vH .tuple) (zc 0)))) (tOf (zm neD (eFn We (zb (zc 0) zq)) (eC (.int 2))))) (yO (eC (.bl false))) yk)
  (yO (XZ (zo 1 yF (zb (zm ixD (zc 0) (eC (.int 0))) zq)) (zo 2 Yy (zb (zm ixD (zc 0) (eC (.int 0))) (zb (zm ixD (zc 0) (eC (.int 1))) zq))))))
def W1:List D->Option D:=fnD 1 ZO
def Wa:List D->Option D
 | [d]=>if noS d=true then some (.bl (vQ d))else none
 | _=>none
theorem zgi {x y:D}:vQ (.tup [x,y])=(yt x 1 8&&match x with | .int m=>ZQ m y | _=>false):=by
 cases x <;> rfl
theorem zhb:∀ ds d,ds.length=1->Wa ds=some d->W1 ds=some d:=by
 intro ds d hl h
 obtain⟨a,rfl⟩:=zmX hl
 obtain⟨hn,rfl⟩:=ifS h
 clear h hl
 cases a with
 | scr _=>cases hn
 | tup es =>
  by_cases hl:es.length=2
  .obtain⟨x,y,rfl⟩:=zfe hl
   have hx:noS x=true:=YB (ds:=[x,y]) (i:=0) hn rfl
   have hy:noS y=true:=YB (ds:=[x,y]) (i:=1) hn rfl
   have ec:yF [x]=some (.bl (yt x 1 8)):=by simp[yF,hx]
   rw[zgi]
   by_cases ix:∃ i,x=.int i
   .obtain⟨i,rfl⟩:=ix
    have et:Yy [.int i,y]=some (.bl (ZQ i y)):=by simp[Yy,hy]
    cases hc:yt (.int i) 1 8 <;> rw[hc]at ec <;> simp[W1,ZO,fnD,zI,yO,WB,sIf,y9,XL,sNo,yk,zep,Zc,WW,zbH,Wd,vEv,visF,visG,Sl.f,Sl.g,zc,eC,zm,XZ,eOr,zcV,eIf,eUn,V1,Z1,wd,yq,zb,zq,zo,eFn,fFn,tOf,Xm,Wc,xF,asB,asI,yA,XC,Yt,vy,vG,zbI,Zb,ltD,leD,gtD,geD,zbd,zX,x8,yZ,yT,zbC,yz,ixD,We,vH,isT,eSl,Wm,YI,wP,wF,iOf,XD,xT,zay,Yi,za4,yx,Wu,fLC,xw,ym,Xa,yw,za5,vI,zbF,b1,b2,ec,et,atI,ixN]
   .have n2:yt x 1 8=false:=zjH λj hj=>ix ⟨j,hj⟩
    rw[n2]at ec ⊢
    simp[W1,ZO,fnD,zI,yO,WB,sIf,y9,XL,sNo,yk,zep,Zc,WW,zbH,Wd,vEv,visF,visG,Sl.f,Sl.g,zc,eC,zm,XZ,eOr,zcV,eIf,eUn,V1,Z1,wd,yq,zb,zq,zo,eFn,fFn,tOf,Xm,Wc,xF,asB,asI,yA,XC,Yt,vy,vG,zbI,Zb,ltD,leD,gtD,geD,zbd,zX,x8,yZ,yT,zbC,yz,ixD,We,vH,isT,eSl,Wm,YI,wP,wF,iOf,XD,xT,zay,Yi,za4,yx,Wu,fLC,xw,ym,Xa,yw,za5,vI,zbF,b1,b2,ec,atI,ixN]
  .have e:vQ (.tup es)=false:=zkf λm ties h _=>by
    unfold zp at h
    injection h with h
    rw[h]at hl
    exact hl rfl
   rw[e]
   have:¬ (es.length:Int)=2:=by omega
   simp[W1,ZO,fnD,zI,yO,WB,sIf,y9,XL,sNo,yk,zep,Zc,WW,zbH,Wd,vEv,visF,visG,Sl.f,Sl.g,zc,eC,zm,XZ,eOr,zcV,eIf,eUn,V1,Z1,wd,yq,zb,zq,zo,eFn,fFn,tOf,Xm,Wc,xF,asB,asI,yA,XC,Yt,vy,vG,zbI,Zb,ltD,leD,gtD,geD,zbd,zX,x8,yZ,yT,zbC,yz,ixD,We,vH,isT,eSl,Wm,YI,wP,wF,iOf,XD,xT,zay,Yi,za4,yx,Wu,fLC,xw,ym,Xa,yw,za5,vI,zbF,b1,b2,this]
 | _=>rfl
theorem zhd (T:Txt K mg base ad):y6 P w K mg base CX0 6 ad.f_is_web ad.e_is_web ["thing"] (@spD ⟨K⟩ 1 Wa):=by
 letI:KK:=⟨K⟩
 have G_is_place_count:=WH (P:=P) (w:=w) (base:=base) T
 have G_are_ties:=zcY (P:=P) (w:=w) (base:=base) T
 refine vh (yC (N:=["thing"]) (ps:=["thing"]) T.d_is_web.fn zhj (g:=ZO) λcdv A outer s H E hr=>?_) zhb
 unfold ZO
 exact(ze (wx (zio (zaj (Yq (Yu (ww .tuple rfl T.z_isinstance (edv 0) (ZK (v:=.ty "tuple") rfl T.z_tuple yM rfl)))) (WP (yb zcC WM (zM _) (zH zT vx rfl T.z_len Zy (za (edv 0) zd)) (zg zh))))) (zj (zB (Z5 Z6))) zU)
  (zj (zB (X6 (zi G_is_place_count hr rfl T.d_is_place_count (za (zA (edv 0) (zg zh) (λ_ _=>rfl)) zd)) (XE (zi G_are_ties hr rfl T.d_are_ties (za (zA (edv 0) (zg zh) (λ_ _=>rfl)) (za (zA (edv 0) (zg zh) (λ_ _=>rfl)) zd))))))))
theorem zjT (m:Int)(ts:List Tie):noS (zp m ts)=true:=by
 have:∀ ts:List Tie,zhw (ts.map zv)=true:=by
  intro ts
  induction ts with
  | nil=>rfl
  | cons t ts ih=>show(noS (zv t)&&zhw (ts.map zv))=true;rw[ih];rfl
 show(noS (.int m)&&(noS (.tup (ts.map zv))&&true))=true
 rw[show noS (.tup (ts.map zv))=zhw (ts.map zv)from rfl,this ts]
 rfl
def wX:SE->Ctl :=
 (sIf (xF (tOf (zo 1 Wa (zb (zc 0) zq)))) sNo yk)
def XT:List D->Option D:=fnD 1 wX
def zN:List D->Option D
 | [d]=>if vQ d=true then some .non else none
 | _=>none
theorem V2:∀ ds d,ds.length=1->zN ds=some d->XT ds=some d:=by
 intro ds d hl h
 obtain⟨a,rfl⟩:=zmX hl
 obtain⟨hw,rfl⟩:=ifS h
 obtain⟨m,ts,rfl,_⟩:=(xE a).mp hw
 have e:Wa [zp m ts]=some (.bl true):=by simp[Wa,zjT m ts,hw]
 simp[XT,wX,fnD,zI,yO,WB,sIf,y9,XL,sNo,yk,zep,Zc,WW,zbH,Wd,vEv,visF,visG,Sl.f,Sl.g,zc,eC,zm,XZ,eOr,zcV,eIf,eUn,V1,Z1,wd,yq,zb,zq,zo,eFn,fFn,tOf,Xm,Wc,xF,asB,asI,yA,XC,Yt,vy,vG,zbI,Zb,ltD,leD,gtD,geD,zbd,zX,x8,yZ,yT,zbC,yz,ixD,We,vH,isT,eSl,Wm,YI,wP,wF,iOf,XD,xT,zay,Yi,za4,yx,Wu,fLC,xw,ym,Xa,yw,za5,vI,zbF,b1,b2,e]
theorem Yf (T:Txt K mg base ad):y6 P w K mg base CX0 7 ad.f_must_be_web ad.e_must_be_web ["thing"] (@spD ⟨K⟩ 1 zN):=by
 letI:KK:=⟨K⟩
 have G_is_web:=zhd (P:=P) (w:=w) (base:=base) T
 refine vh (yC (N:=["thing"]) (ps:=["thing"]) T.d_must_be_web.fn zaa (g:=wX) λcdv A outer s H E hr=>?_) V2
 unfold wX
 exact(zj (wx (Yq (Yu (zi G_is_web hr rfl T.d_is_web (za (edv 0) zd)))) (zj XH) zU))
def xO:D->Bool
 | .int i=>decide (0<=i)
 | _=>false
def zmJ:D->Int
 | .int i=>i
 | _=>0
def zO (m:Int):D->Bool
 | .tup ds=>decide ((ds.length:Int)=m)&&ds.all xO
 | _=>false
theorem ziI {α:Type}(f:α->Bool)(l:List α):zma [.lst (l.map λx=>.bl (f x))]=some (.bl (l.all f)):=by
 have:zks (l.map λx=>D.bl (f x))=some (l.map f):=by
  have:=ziW (l.map f)
  rwa[m7]at this
 show((zks (l.map λx=>D.bl (f x))).bind λbs=>some (D.bl (bs.all id)))=_
 rw[this]
 show some (D.bl ((l.map f).all id))=_
 rw[u1A]
 rfl
theorem VN {ds:List D}(h:ds.all xO=true):∃ ns:List Int,ds=ns.map .int/\∀ n∈ns,0<=n:=by
 induction ds with
 | nil=>exact⟨[],rfl,by simp⟩
 | cons d ds ih =>
  rw[u2o,b7]at h
  obtain⟨ns,rfl,hn⟩:=ih h.2
  cases d with
  | int i=>exact⟨i::ns,rfl,λn hm=>by
   rcases n8.mp hm with rfl | hm
   .exact o0 h.1
   .exact hn n hm⟩
  | _=>exact absurd h.1 u7
theorem zco {ns:List Int}(h:∀ n∈ns,0<=n):(ns.map D.int).all xO=true:=by
 rw[u1A,u0r]
 exact λn hn=>j8 (h n hn)
theorem Vl (ns:List Int):ziG [.tup (ns.map .int)]=some (.int ns.sum):=by
 show((zai (ns.map .int)).bind λns=>some (D.int ns.sum))=_
 rw[ZN]
 rfl
def xA:SE->Ctl :=
 (zI (sIf (Wc (xF (tOf (eUn (vH .tuple) (zc 1)))) (tOf (zm neD (eFn We (zb (zc 1) zq)) (zc 0)))) (yO (eC (.bl false))) yk)
  (yO (eFn zma (zb (wd (fLC (iOf (zc 1)) b1 xw (XZ (zo 1 yg (zb (zc 0) zq)) (zm geD (zc 0) (eC (.int 0)))))) zq))))
def WT:List D->Option D:=fnD 2 xA
def yV:List D->Option D
 | [.int m,d]=>if (noS d&&decide (m<=1000))=true then some (.bl (zO m d))else none
 | _=>none
theorem zlS {d:D}(hn:noS d=true):((yg [d]).bind asB).bind (λc=>if c=true then geD d (.int 0)else some (.bl false))=some (.bl (xO d)):=by
 cases d with
 | scr _=>cases hn
 | tup _=>simp[yg,hn,XN,asB,xO]
 | lst _=>simp[yg,hn,XN,asB,xO]
 | _=>rfl
theorem zbu:∀ ds d,ds.length=2->yV ds=some d->WT ds=some d:=by
 intro ds d hl h
 obtain⟨a,b,rfl⟩:=zfe hl
 cases a <;> try cases h
 rename_i m
 obtain⟨hn,rfl⟩:=ifS h
 clear h hl
 rw[b7,r6]at hn
 obtain⟨hn,hm⟩:=hn
 cases b with
 | scr _=>cases hn
 | tup es =>
  by_cases hl:(es.length:Int)=m
  .have e:fLC (iOf (zc 1)) b1 xw (XZ (zo 1 yg (zb (zc 0) zq)) (zm geD (zc 0) (eC (.int 0)))) [some (.int m),some (.tup es)]=some (es.map λd=>.bl (xO d)):=by
    unfold fLC
    show(if lim es.length=true then _ else none)=_
    rw[t5 (xk (by omega))]
    have:=Zd (b:=b1) (t:=xw) (f:=XZ (zo 1 yg (zb (zc 0) zq)) (zm geD (zc 0) (eC (.int 0)))) (ρ:=[some (.int m),some (.tup es)]) id (λd=>.bl (xO d)) es
     (λd hd=>⟨[some d],rfl,rfl,zlS (by obtain⟨j,hj,rfl⟩:=d6 hd;exact YB (i:=j) hn (by simp[hj]))⟩)
    rwa[u1v]at this
   show fnD 2 xA _=_
   refine WE rfl ?_
   unfold xA
   refine yJ (W3 (c:=false) (by simp[fnD,zI,yO,WB,sIf,y9,XL,sNo,yk,zep,Zc,WW,zbH,Wd,vEv,visF,visG,Sl.f,Sl.g,zc,eC,zm,XZ,eOr,zcV,eIf,eUn,V1,Z1,wd,yq,zb,zq,zo,eFn,fFn,tOf,Xm,Wc,xF,asB,asI,yA,XC,Yt,vy,vG,zbI,Zb,ltD,leD,gtD,geD,zbd,zX,x8,yZ,yT,zbC,yz,ixD,We,vH,isT,eSl,Wm,YI,wP,wF,iOf,XD,xT,zay,Yi,za4,yx,Wu,fLC,xw,ym,Xa,yw,za5,vI,zbF,b1,b2,hl]) (λz=>by cases z) λ_=>Zh rfl (ZW (d:=.bl (es.all xO)) ?_ ?_))
   .show(match (((fLC (iOf (zc 1)) b1 xw (XZ (zo 1 yg (zb (zc 0) zq)) (zm geD (zc 0) (eC (.int 0)))) [some (.int m),some (.tup es)]).map D.lst).bind λd=>(some []:Option (List D)).map (d::·)).bind zma with | some d=>Ctl.rt d | none=>Ctl.no)=_
    rw[e]
    show(match zma [.lst (es.map λd=>.bl (xO d))]with | some d=>Ctl.rt d | none=>Ctl.no)=_
    rw[ziI]
   .show D.bl (es.all xO)=.bl (decide ((es.length:Int)=m)&&es.all xO)
    rw[j8 hl,Bool.true_and]
  .have e:zO m (.tup es)=false:=by
    show(decide ((es.length:Int)=m)&&es.all xO)=false
    rw[d7 hl,Bool.false_and]
   rw[e]
   simp[WT,xA,fnD,zI,yO,WB,sIf,y9,XL,sNo,yk,zep,Zc,WW,zbH,Wd,vEv,visF,visG,Sl.f,Sl.g,zc,eC,zm,XZ,eOr,zcV,eIf,eUn,V1,Z1,wd,yq,zb,zq,zo,eFn,fFn,tOf,Xm,Wc,xF,asB,asI,yA,XC,Yt,vy,vG,zbI,Zb,ltD,leD,gtD,geD,zbd,zX,x8,yZ,yT,zbC,yz,ixD,We,vH,isT,eSl,Wm,YI,wP,wF,iOf,XD,xT,zay,Yi,za4,yx,Wu,fLC,xw,ym,Xa,yw,za5,vI,zbF,b1,b2,hl]
 | _=>rfl
theorem X4 (T:Txt K mg base ad):y6 P w K mg base CX0 2 ad.f_are_counts ad.e_are_counts ["many","thing"] (@spD ⟨K⟩ 2 yV):=by
 letI:KK:=⟨K⟩
 have G_is_whole:=V0 (P:=P) (w:=w) (base:=base) T
 refine vh (yC (N:=["many","thing"]) (ps:=["many","thing"]) T.d_are_counts.fn zbn (g:=xA) λcdv A outer s H E hr=>?_) zbu
 unfold xA
 exact(ze (wx (zio (zaj (Yq (Yu (ww .tuple rfl T.z_isinstance (edv 1) (ZK (v:=.ty "tuple") rfl T.z_tuple yM rfl)))) (WP (yb zcC WM (zM _) (zH zT vx rfl T.z_len Zy (za (edv 1) zd)) (edv 0))))) (zj (zB (Z5 Z6))) zU)
  (zj (zB (zH (zgu rfl) zkw rfl T.z_all zlP (za (w8 (zas (L:=["part"]) (M:=["many","thing"]) rfl (Xg (by rfl) (by rfl) (by rfl) (by with_unfolding_all rfl) (by rfl) (by rfl) (by kernel_rfl) xM) (Y5 (edv 1)) gs1 rb1 (λ_ _ _ _=>(zz (i:=0) znf rfl (Or.inl rfl) (.inr rfl))) (λ_ _ _ _=>(X6 (zi G_is_whole hr rfl T.d_is_whole (za (edv 0) zd)) (XE (XO znV yi (zM _) (edv 0) (zg zh))))))) zd)))))
def Xn (m:Int):D->Bool
 | .tup ds=>zO m (.tup ds)&&decide ((ds.map zmJ).sum<=300)
 | _=>false
theorem Ww (ns:List Int):(ns.map D.int).map zmJ=ns:=by rw[m7];exact(p4 λ_ _=>rfl).trans (u1v _)
def wq:SE->Ctl :=
 (yO (XZ (zo 2 yV (zb (zm ixD (zc 0) (eC (.int 0))) (zb (zc 1) zq))) (zm leD (eFn ziG (zb (zc 1) zq)) (eC (.int 300)))))
def ZJ:List D->Option D:=fnD 2 wq
def xC:List D->Option D
 | [.tup [.int m,_],d]=>if (noS d&&decide (m<=1000))=true then some (.bl (Xn m d))else none
 | _=>none
theorem zbp:∀ ds d,ds.length=2->xC ds=some d->ZJ ds=some d:=by
 intro ds d hl h
 obtain⟨a,b,rfl⟩:=zfe hl
 unfold xC at h
 split at h
 .rename_i m t b' e
  injection e with e1 e2
  injection e2 with e2 _
  subst e1 e2
  obtain⟨hn,rfl⟩:=ifS h
  have ec:yV [.int m,b]=some (.bl (zO m b)):=by simp only[yV];rw[t5 hn]
  cases hc:zO m b with
  | false =>
   rw[hc]at ec
   have e3:Xn m b=false:=by
    cases b <;> try rfl
    show(zO m _&&_)=false
    rw[hc]
    rfl
   rw[e3]
   simp[ZJ,wq,fnD,zI,yO,WB,sIf,y9,XL,sNo,yk,zep,Zc,WW,zbH,Wd,vEv,visF,visG,Sl.f,Sl.g,zc,eC,zm,XZ,eOr,zcV,eIf,eUn,V1,Z1,wd,yq,zb,zq,zo,eFn,fFn,tOf,Xm,Wc,xF,asB,asI,yA,XC,Yt,vy,vG,zbI,Zb,ltD,leD,gtD,geD,zbd,zX,x8,yZ,yT,zbC,yz,ixD,We,vH,isT,eSl,Wm,YI,wP,wF,iOf,XD,xT,zay,Yi,za4,yx,Wu,fLC,xw,ym,Xa,yw,za5,vI,zbF,b1,b2,ec,atI,ixN]
  | true =>
   rw[hc]at ec
   cases b with
   | tup es =>
    have h2:es.all xO=true:=by
     unfold zO at hc
     rw[b7]at hc
     exact hc.2
    obtain⟨ns,rfl,hns⟩:=VN h2
    have e3:Xn m (.tup (ns.map .int))=decide (ns.sum<=300):=by
     show(zO m _&&decide (((ns.map D.int).map zmJ).sum<=300))=_
     rw[hc,Ww,Bool.true_and]
    rw[e3]
    simp[ZJ,wq,fnD,zI,yO,WB,sIf,y9,XL,sNo,yk,zep,Zc,WW,zbH,Wd,vEv,visF,visG,Sl.f,Sl.g,zc,eC,zm,XZ,eOr,zcV,eIf,eUn,V1,Z1,wd,yq,zb,zq,zo,eFn,fFn,tOf,Xm,Wc,xF,asB,asI,yA,XC,Yt,vy,vG,zbI,Zb,ltD,leD,gtD,geD,zbd,zX,x8,yZ,yT,zbC,yz,ixD,We,vH,isT,eSl,Wm,YI,wP,wF,iOf,XD,xT,zay,Yi,za4,yx,Wu,fLC,xw,ym,Xa,yw,za5,vI,zbF,b1,b2,ec,Vl,atI,ixN]
   | _=>cases hc
 .cases h
theorem zbj (T:Txt K mg base ad):y6 P w K mg base CX0 3 ad.f_are_stones ad.e_are_stones ["web","thing"] (@spD ⟨K⟩ 2 xC):=by
 letI:KK:=⟨K⟩
 have G_are_counts:=X4 (P:=P) (w:=w) (base:=base) T
 refine vh (yC (N:=["web","thing"]) (ps:=["web","thing"]) T.d_are_stones.fn za0 (g:=wq) λcdv A outer s H E hr=>?_) zbp
 unfold wq
 exact(zj (zB (X6 (zi G_are_counts hr rfl T.d_are_counts (za (zA (edv 0) (zg zh) (λ_ _=>rfl)) (za (edv 1) zd))) (XE (XO zg9 yi (zM _) (zH (ZE rfl) VT rfl T.z_sum zbQ (za (edv 1) zd)) (zg (zfT (v:=.int 300) rfl T.g_MOST_STONES ⟨_,rfl⟩)))))))
theorem XS {m:Int}{ts:List Tie}(h:zG m ts):Yi [.int m]=some (W0 0 m.toNat):=by
 have:=h.lo
 have:=h.hi
 show(if zhx m=true then some (W0 0 m.toNat)else none)=_
 rw[t5 (yX.mpr ⟨by omega,by omega⟩)]
def wf:SE->Ctl :=
 (sIf (xF (tOf (zo 2 xC (zb (zc 0) (zb (zc 1) zq))))) sNo yk)
def Xd:List D->Option D:=fnD 2 wf
def xn:List D->Option D
 | [.tup [.int m,_],d]=>if (noS d&&decide (m<=1000)&&Xn m d)=true then some .non else none
 | _=>none
theorem VA:∀ ds d,ds.length=2->xn ds=some d->Xd ds=some d:=by
 intro ds d hl h
 obtain⟨a,b,rfl⟩:=zfe hl
 unfold xn at h
 split at h
 .rename_i m t b' e
  injection e with e1 e2
  injection e2 with e2 _
  subst e1 e2
  obtain⟨hn,rfl⟩:=ifS h
  rw[b7]at hn
  have ec:xC [.tup [.int m,t],b]=some (.bl true):=by simp only[xC];rw[t5 hn.1,hn.2]
  simp[Xd,wf,fnD,zI,yO,WB,sIf,y9,XL,sNo,yk,zep,Zc,WW,zbH,Wd,vEv,visF,visG,Sl.f,Sl.g,zc,eC,zm,XZ,eOr,zcV,eIf,eUn,V1,Z1,wd,yq,zb,zq,zo,eFn,fFn,tOf,Xm,Wc,xF,asB,asI,yA,XC,Yt,vy,vG,zbI,Zb,ltD,leD,gtD,geD,zbd,zX,x8,yZ,yT,zbC,yz,ixD,We,vH,isT,eSl,Wm,YI,wP,wF,iOf,XD,xT,zay,Yi,za4,yx,Wu,fLC,xw,ym,Xa,yw,za5,vI,zbF,b1,b2,ec]
 .cases h
theorem Vq (T:Txt K mg base ad):y6 P w K mg base CX0 4 ad.f_must_be_heap ad.e_must_be_heap ["web","thing"] (@spD ⟨K⟩ 2 xn):=by
 letI:KK:=⟨K⟩
 have G_are_stones:=zbj (P:=P) (w:=w) (base:=base) T
 refine vh (yC (N:=["web","thing"]) (ps:=["web","thing"]) T.d_must_be_heap.fn Vs (g:=wf) λcdv A outer s H E hr=>?_) VA
 unfold wf
 exact(zj (wx (Yq (Yu (zi G_are_stones hr rfl T.d_are_stones (za (edv 0) (za (edv 1) zd))))) (zj XH) zU))
theorem zb6 {m:Int}{ts:List Tie}(h:zG m ts):decide (m<=1000)=true:=j8 (by have:=h.hi;omega)
def zki:D->Int
 | .tup [.int m,_]=>m
 | _=>0
def zkA:D->List Tie
 | .tup [_,.tup l]=>(zcf l).getD []
 | _=>[]
theorem Vy (m:Int)(ts:List Tie):zki (zp m ts)=m:=rfl
theorem zfm (ts:List Tie):ts.map zv=ts.map prD:=rfl
theorem VH (m:Int)(ts:List Tie):zkA (zp m ts)=ts:=by
 show(zcf (ts.map zv)).getD []=ts
 rw[zfm,zcb]
 rfl
def zcB (a b:Int):Tie:=(if b < a then b else a,if b > a then b else a)
def xH:SE->Ctl :=
 (sIf (xF (tOf (zo 2 yK (zb (zm ixD (zc 0) (eC (.int 0))) (zb (zc 1) zq))))) sNo yk)
def Zg:List D->Option D:=fnD 2 xH
def yu:List D->Option D
 | [.tup [.int m,_],.int p]=>if (decide (0<=p)&&decide (p<=m - 1))=true then some .non else none
 | _=>none
theorem WZ:∀ ds d,ds.length=2->yu ds=some d->Zg ds=some d:=by
 intro ds d hl h
 obtain⟨a,b,rfl⟩:=zfe hl
 unfold yu at h
 split at h
 .rename_i m t p' e
  injection e with e1 e2
  injection e2 with e2 _
  subst e1 e2
  obtain⟨hn,rfl⟩:=ifS h
  have ec:yK [.int m,.int p']=some (.bl true):=by
   show(if noS (.int p')=true then some (D.bl (yt (.int p') 0 (m - 1)))else none)=_
   rw[t5 (show noS (.int p')=true from rfl),zdi]
   unfold inR
   rw[hn]
  simp[Zg,xH,fnD,zI,yO,WB,sIf,y9,XL,sNo,yk,zep,Zc,WW,zbH,Wd,vEv,visF,visG,Sl.f,Sl.g,zc,eC,zm,XZ,eOr,zcV,eIf,eUn,V1,Z1,wd,yq,zb,zq,zo,eFn,fFn,tOf,Xm,Wc,xF,asB,asI,yA,XC,Yt,vy,vG,zbI,Zb,ltD,leD,gtD,geD,zbd,zX,x8,yZ,yT,zbC,yz,ixD,We,vH,isT,eSl,Wm,YI,wP,wF,iOf,XD,xT,zay,Yi,za4,yx,Wu,fLC,xw,ym,Xa,yw,za5,vI,zbF,b1,b2,ec,atI,ixN]
 .cases h
theorem Y4 (T:Txt K mg base ad):y6 P w K mg base CX0 4 ad.f_must_be_place ad.e_must_be_place ["web","thing"] (@spD ⟨K⟩ 2 yu):=by
 letI:KK:=⟨K⟩
 have G_is_place:=Vt (P:=P) (w:=w) (base:=base) T
 refine vh (yC (N:=["web","thing"]) (ps:=["web","thing"]) T.d_must_be_place.fn WX (g:=xH) λcdv A outer s H E hr=>?_) WZ
 unfold xH
 exact(zj (wx (Yq (Yu (zi G_is_place hr rfl T.d_is_place (za (zA (edv 0) (zg zh) (λ_ _=>rfl)) (za (edv 1) zd))))) (zj XH) zU))
theorem zaC {m:Int}{ts:List Tie}{p:Int}(hp:0<=p/\p < m):yu [zp m ts,.int p]=some .non:=by
 show(if (decide (0<=p)&&decide (p<=m - 1))=true then some D.non else none)=_
 rw[j8 hp.1,j8 (by omega)]
 rfl
def YH:SE->Ctl :=
 (yO (Z1 (zb (eFn zgN (zb (zc 0) (zb (zc 1) zq))) (zb (eFn zex (zb (zc 0) (zb (zc 1) zq))) zq))))
def zbB:List D->Option D:=fnD 2 YH
def xL:List D->Option D
 | [.int a,.int b]=>some (zv (zcB a b))
 | _=>none
theorem zaf:∀ ds d,ds.length=2->xL ds=some d->zbB ds=some d:=by
 intro ds d hl h
 obtain⟨a,b,rfl⟩:=zfe hl
 cases a <;> try cases h
 cases b <;> try cases h
 rfl
theorem V3 (T:Txt K mg base ad):y6 P w K mg base CX0 1 ad.f_tie_between ad.e_tie_between ["one","other"] (@spD ⟨K⟩ 2 xL):=by
 letI:KK:=⟨K⟩
 refine vh (yC (N:=["one","other"]) (ps:=["one","other"]) T.d_tie_between.fn zah (g:=YH) λcdv A outer s H E hr=>?_) zaf
 unfold YH
 exact(zj (zB (Y9 (za (zH (Vz rfl) za2 rfl T.z_min zd2 (za (edv 0) (za (edv 1) zd))) (za (zH (Vf rfl) zaY rfl T.z_max zcK (za (edv 0) (za (edv 1) zd))) zd)))))
theorem zgl (ts:List Tie):(ts.map zv).all (okE 20)=true:=by
 rw[u1A,u0r]
 exact λt _=>rfl
theorem zdy (s t:Tie):eqN 20 (zv s) (zv t)=decide (s=t):=by
 have:eqN 20 (zv s) (zv t)=((s.1 == t.1)&&((s.2 == t.2)&&true)&&true):=rfl
 rw[this,u2U,u2U]
 by_cases h:s=t
 .subst h
  simp
 .rw[d7 h,Bool.and_eq_false_iff]
  by_cases h1:s.1=t.1
  .exact .inr (u1c.mpr λh2=>h (u1X h1 h2))
  .exact .inl (u1c.mpr h1)
theorem zdC (t:Tie)(ts:List Tie):inD (zv t) (.tup (ts.map zv))=some (.bl (decide (t∈ts))):=by
 show(zhA (zv t) (ts.map zv)).map D.bl=_
 unfold zhA
 rw[t5 ⟨rfl,zgl ts⟩]
 show some (D.bl ((ts.map zv).any λe=>eqN 20 e (zv t)))=_
 rw[List.any_map]
 congr 2
 rw[u1f,List.any_eq_true,r6]
 constructor
 .rintro⟨s,hs,h⟩
  have h:eqN 20 (zv s) (zv t)=true:=h
  rw[zdy,r6]at h
  subst h
  exact hs
 .exact λh=>⟨t,h,by show eqN 20 (zv t) (zv t)=true;rw[zdy];exact j8 rfl⟩
def nbN (m:Int)(ts:List Tie)(p:Int):List Nat:=(List.range m.toNat).filter λk:Nat=>decide (zcB p k∈ts)
def zV (k:Nat):D:=.int ((0:Int)+(k:Int))
def vM:SE->Ctl :=
 (yO (wd (fLC (zay Yi (zb (zm ixD (zc 0) (eC (.int 0))) zq)) b1 (tOf (zm inD (zo 2 xL (zb (zc 2) (zb (zc 0) zq))) (zm ixD (zc 1) (eC (.int 1))))) (zc 0))))
def zcq:List D->Option D:=fnD 2 vM
def ya:List D->Option D
 | [w,.int p]=>if vQ w=true then some (.lst ((nbN (zki w) (zkA w) p).map zV))else none
 | _=>none
theorem zaP:∀ ds d,ds.length=2->ya ds=some d->zcq ds=some d:=by
 intro ds d hl h
 obtain⟨a,b,rfl⟩:=zfe hl
 cases b <;> try cases h
 rename_i p
 obtain⟨hw,rfl⟩:=ifS h
 obtain⟨m,ts,rfl,ok⟩:=(xE a).mp hw
 rw[Vy,VH]
 refine WE rfl ?_
 unfold vM
 refine ZW (d:=.lst ((nbN m ts p).map zV)) ?_ rfl
 have e:fLC (zay Yi (zb (zm ixD (zc 0) (eC (.int 0))) zq)) b1 (tOf (zm inD (zo 2 xL (zb (zc 2) (zb (zc 0) zq))) (zm ixD (zc 1) (eC (.int 1))))) (zc 0) [some (zp m ts),some (.int p)]=some ((nbN m ts p).map zV):=by
  unfold fLC
  show((Yi [.int m]).bind λds=>if lim ds.length=true then _ else none)=_
  rw[XS ok]
  show(if lim (W0 0 m.toNat).length=true then _ else none)=_
  rw[t5 (xk (by rw[Xt];have:=ok.hi;omega))]
  refine Wv (c:=zV) (p:=λk=>decide (zcB p k∈ts)) (y:=zV) (List.range m.toNat) λk hk=>⟨[some (zV k)],rfl,?_,λ_=>rfl⟩
  show((inD (zv (zcB p (0+(k:Int)))) (.tup (ts.map zv))).bind asB)=_
  rw[u09,zdC]
  rfl
 show(match ((fLC (zay Yi (zb (zm ixD (zc 0) (eC (.int 0))) zq)) b1 (tOf (zm inD (zo 2 xL (zb (zc 2) (zb (zc 0) zq))) (zm ixD (zc 1) (eC (.int 1))))) (zc 0) [some (zp m ts),some (.int p)]).map D.lst)with | some d=>Ctl.rt d | none=>Ctl.no)=_
 rw[e]
 rfl
theorem XM (T:Txt K mg base ad):y6 P w K mg base CX0 2 ad.f_neighbours ad.e_neighbours ["web","place"] (@spD ⟨K⟩ 2 ya):=by
 letI:KK:=⟨K⟩
 have G_tie_between:=V3 (P:=P) (w:=w) (base:=base) T
 refine vh (yC (N:=["web","place"]) (ps:=["web","place"]) T.d_neighbours.fn za7 (g:=vM) λcdv A outer s H E hr=>?_) zaP
 unfold vM
 exact(zj (zB (w8 (zfw (L:=["other"]) (M:=["web","place"]) rfl (Xg (by rfl) (by rfl) (by rfl) (by with_unfolding_all rfl) (by rfl) (by rfl) (by kernel_rfl) (all_cons rfl (all_cons rfl xM))) (Vx rfl T.z_range (za (zA (edv 0) (zg zh) (λ_ _=>rfl)) zd)) gs1 rb1 (λ_ _ _ _=>(zz (i:=0) znF rfl (Or.inl rfl) (.inr rfl))) (λ_ _ _ _=>(yb (zmq hr) zlu (by with_unfolding_all rfl) (zi G_tie_between hr rfl T.d_tie_between (za (edv 2) (za (edv 0) zd))) (zA (edv 1) (zg zh) (λ_ _=>rfl)))) (λ_ _ _ _=>(edv 0))))))
def zgn (m:Int)(ts:List Tie)(i:Nat):List Tie:=(List.range i).flatMap λk:Nat=>(nbN m ts k).map λo:Nat=>((0:Int)+(k:Int),(0:Int)+(o:Int))
def zi8 (m:Int)(ts:List Tie):List Tie:=zgn m ts m.toNat
theorem ze8 {m:Int}{ts:List Tie}{p:Int}(h:zG m ts):(nbN m ts p).length<=8:=by
 refine m8 (u13 _ _) ?_
 rw[g8]
 have:=h.hi
 omega
theorem zeT {m:Int}{ns:List Int}(h1:(ns.length:Int)=m)(h2:∀ n∈ns,0<=n)(h3:ns.sum<=300):Xn m (.tup (ns.map .int))=true:=by
 unfold Xn zO
 rw[b7,b7,r6,r6,Ww,u6]
 exact⟨⟨h1,zco h2⟩,h3⟩
theorem zdO (ns:List Int):noS (.tup (ns.map .int))=true:=by
 show zhw (ns.map .int)=true
 induction ns with
 | nil=>rfl
 | cons n ns ih=>show(noS (.int n)&&zhw (ns.map .int))=true;rw[ih];rfl
def vAt (ns:List Int)(i:Int):Int:=ns.getD i.toNat 0
theorem Va {ns:List Int}{i:Int}(h0:0<=i)(h1:i < ns.length):atI (ns.map D.int) i=some (.int (vAt ns i)):=by
 unfold vAt
 obtain⟨k,hk⟩:∃ k:Nat,i=k:=⟨i.toNat,by omega⟩
 subst hk
 refine zgH ?_
 rw[u1m,j5,u5 (by omega),j4,u5 (by omega)]
 rfl
theorem Z4 {ns:List Int}{i m:Int}(h:0<=i/\i < m)(hl:(ns.length:Int)=m):atI (ns.map D.int) i=some (.int (vAt ns i)):=Va h.1 (by omega)
theorem zkQ {m:Int}{ts:List Tie}{s:Tie}:s∈zi8 m ts↔(0<=s.1/\s.1 < m)/\(0<=s.2/\s.2 < m)/\zcB s.1 s.2∈ts:=by
 unfold zi8 zgn nbN
 rw[u0L]
 constructor
 .rintro⟨k,hk,h⟩
  obtain⟨o,ho,rfl⟩:=u0g.mp h
  rw[u0a,d5,r6]at ho
  rw[d5]at hk
  simp only[u09]
  exact⟨⟨by(clear h ho hk;omega),by(clear h ho;omega)⟩,⟨by(clear h ho hk;omega),by omega⟩,ho.2⟩
 .rintro⟨⟨a1,a2⟩,⟨b1,b2⟩,h⟩
  refine⟨s.1.toNat,d5.mpr (by(clear b2 b1 h;omega)),u0g.mpr ⟨s.2.toNat,?_,?_⟩⟩
  .rw[u0a,d5,r6]
   refine⟨by omega,?_⟩
   rw[show((s.1.toNat:Nat):Int)=s.1 by(clear b2 b1 h a2;omega),show((s.2.toNat:Nat):Int)=s.2 by omega]
   exact h
  .exact u1X (by show(0:Int)+(s.1.toNat:Int)=s.1;(clear b2 b1 h a2;omega)) (by show(0:Int)+(s.2.toNat:Int)=s.2;omega)
end
theorem zgW {m:Nat}{g:SE->Ctl}{ds:List D}{R:D->Prop}{ρ:SE}(e:ds.map .v++List.replicate (m - ds.length) .no=ρ)(q:(g ρ).w (λ_=>R .non) noP noP R):∃ d,fnD m g ds=some d/\R d:=by
 unfold fnD
 rw[e]
 cases hg:g ρ with
 | nx ρ'=>rw[hg]at q;exact⟨_,rfl,q.nxi⟩
 | rt d'=>rw[hg]at q;exact⟨_,rfl,q.rti⟩
 | bk _=>rw[hg]at q;exact q.bki.elim
 | ct _=>rw[hg]at q;exact q.cti.elim
 | no=>rw[hg]at q;exact q.noi.elim
section
variable {P:Program}{w:World}{K:W.Frag}{mg:Str->Option Value}{base:Heap}{ad:Adr}
def YM:SE->Ctl :=
 (zI (y9 false 2 (zm vG (zm Yt (zm vv (zm vv (zm vG (zc 0) (eC (.int 2147483647))) (zm Yt (eC (.int 977)) (zc 1))) (eC (.int 1))) (eC (.int 48271))) (eC (.int 2147483647))))
  (zI (y9 false 2 (zm vG (zm Yt (zc 2) (zc 2)) (eC (.int 2147483629))))
  (zI (y9 false 2 (zm vG (zm Yt (zm vv (zc 2) (zm Yt (eC (.int 40692)) (zm vv (zc 1) (eC (.int 3))))) (eC (.int 69621))) (eC (.int 2147483647))))
  (yO (zm vy (zc 2) (eC (.int 8)))))))
def zdu:List D->Option D:=fnD 3 YM
def zL:List D->Option D
 | [.int c,.int k]=>some (.int (WU c k))
 | _=>none
theorem zcN {i j:Int}(h1:-(2 ^ 64) < i)(h2:i < 2 ^ 64):Wx i j=true:=j8 (.inl ⟨h1,h2⟩)
theorem zgA {i j:Int}(h1:-(2 ^ 64) < j)(h2:j < 2 ^ 64):Wx i j=true:=j8 (.inr ⟨h1,h2⟩)
theorem Vp {i j:Int}(h:Wx i j=true):Yt (.int i) (.int j)=some (.int (i*j)):=by
 show(if Wx i j=true then _ else none)=_
 rw[t5 h]
theorem yQ {i j:Int}(h:0 < j):vG (.int i) (.int j)=some (.int (i % j)):=by
 show(if decide (0 < j)=true then _ else none)=_
 rw[t5 (j8 h)]
theorem W6 {i j:Int}(h:0 < j)(h2:j < 1606938044258990275541962092341162602522202993782792835301376):vy (.int i) (.int j)=some (.int (i / j)):=by
 show(if decide (0 < j/\j < 1606938044258990275541962092341162602522202993782792835301376)=true then _ else none)=_
 rw[t5 (j8 ⟨h,h2⟩)]
theorem zcI:∀ ds d,ds.length=2->zL ds=some d->zdu ds=some d:=by
 intro ds d hl h
 obtain⟨a,b,rfl⟩:=zfe hl
 cases a <;> try cases h
 cases b <;> try cases h
 rename_i c k
 have h1:=Int.emod_nonneg ((c % 2147483647+977*k+1)*48271) (show(2147483647:Int)≠0 by decide)
 have h2:=Int.emod_lt_of_pos ((c % 2147483647+977*k+1)*48271) (show(0:Int) < 2147483647 by decide)
 have m1:Wx 977 k=true:=zcN (by decide) (by decide)
 have m2:Wx (c % 2147483647+977*k+1) 48271=true:=zgA (by decide) (by decide)
 obtain⟨x,hx⟩:∃ x,(c % 2147483647+977*k+1)*48271 % 2147483647=x:=⟨_,rfl⟩
 rw[hx]at h1 h2
 have m3:Wx x x=true:=zcN (Int.lt_of_lt_of_le (by decide) h1) (Int.lt_trans h2 (by decide))
 have m4:Wx 40692 (k+3)=true:=zcN (by decide) (by decide)
 have m5:∀ x,Wx x 69621=true:=λx=>zgA (by decide) (by decide)
 obtain⟨y,hy⟩:∃ y,x*x % 2147483629=y:=⟨_,rfl⟩
 obtain⟨z,hz⟩:∃ z,(y+40692*(k+3))*69621 % 2147483647=z:=⟨_,rfl⟩
 have hst:WU c k=z / 8:=by
  show((((c % 2147483647+977*k+1)*48271 % 2147483647)*((c % 2147483647+977*k+1)*48271 % 2147483647) % 2147483629+40692*(k+3))*69621 % 2147483647 / 8)=_
  rw[hx,hy,hz]
 rw[hst]
 refine WE (ρ:=[.v (.int c),.v (.int k),.no]) rfl ?_
 unfold YM
 refine zt (ρ':=[.v (.int c),.v (.int k),.v (.int x)]) (xf ?_) ?_
 .show(((((vG (.int c) (.int 2147483647)).bind λa=>(Yt (.int 977) (.int k)).bind λb=>vv a b).bind λa=>vv a (.int 1)).bind λa=>Yt a (.int 48271)).bind λa=>vG a (.int 2147483647))=_
  rw[yQ (by decide),Vp m1]
  show((Yt (.int (c % 2147483647+977*k+1)) (.int 48271)).bind λa=>vG a (.int 2147483647))=_
  rw[Vp m2,<- hx]
  exact yQ (by decide)
 refine zt (ρ':=[.v (.int c),.v (.int k),.v (.int y)]) (xf ?_) ?_
 .show((Yt (.int x) (.int x)).bind λa=>vG a (.int 2147483629))=_
  rw[Vp m3,<- hy]
  exact yQ (by decide)
 refine zt (ρ':=[.v (.int c),.v (.int k),.v (.int z)]) (xf ?_) ?_
 .show((((Yt (.int 40692) (.int (k+3))).bind λb=>vv (.int y) b).bind λa=>Yt a (.int 69621)).bind λa=>vG a (.int 2147483647))=_
  rw[Vp m4]
  show((Yt (.int (y+40692*(k+3))) (.int 69621)).bind λa=>vG a (.int 2147483647))=_
  rw[Vp (m5 _),<- hz]
  exact yQ (by decide)
 exact ZW (Yg (show vy (.int z) (.int 8)=_ from W6 (by decide) (by decide))) rfl
theorem Zz (T:Txt K mg base ad):y6 P w K mg base CX0 1 ad.f__law_stir ad.e__law_stir ["cell","k"] (@spD ⟨K⟩ 2 zL):=by
 letI:KK:=⟨K⟩
 refine vh (yC (N:=["cell","k","number"]) (ps:=["cell","k"]) T.d__law_stir.fn vK (g:=YM) λcdv A outer s H E hr=>?_) zcI
 unfold YM
 exact(ze (zJ (m:=false) (i:=2) vK.nd rfl (Or.inl rfl) (wy (ZI (yp (yp (wy (edv 0) (zg zh)) (ZI (zg zh) (edv 1))) (zg zh)) (zg zh)) (zg zh)))
  (ze (zJ (m:=false) (i:=2) vK.nd rfl (Or.inl rfl) (wy (ZI (edv 2) (edv 2)) (zg zh)))
  (ze (zJ (m:=false) (i:=2) vK.nd rfl (Or.inl rfl) (wy (ZI (yp (edv 2) (ZI (zg zh) (yp (edv 1) (zg zh)))) (zg zh)) (zg zh)))
  (zj (zB (Vd (edv 2) (zg zh)))))))
theorem Yp {j:Int}(h3:0<=j)(h4:j<=60000):Yi [.int j]=some (W0 0 j.toNat):=by
 show(if zhx j=true then some (W0 0 j.toNat)else none)=_
 rw[t5 (yX.mpr ⟨by omega,by omega⟩)]
theorem zek {ts:List Tie}(h:ts.length < 64):ze1 [.lst (ts.map zv)]=some ((zaN ts).map zv):=by
 show(if (ts.map zv).length < 64 then _ else none)=_
 rw[t5 (by rw[u6];exact h),show ts.map zv=ts.map prD from rfl,zcb]
 rfl
structure FsOk (m:Int) (ts:List Tie) (p:Int) (t:Nat) (fs:List (Option Int)):Prop where
 len:fs.length=m.toNat
 sound:∀ v k,0<=v->v < m->oAt fs v=some k->∃ j:Nat,k=(j:Int)/\xP ts p j v
 full:∀ (j:Nat) v,j<=t->xP ts p j v->∃ j':Nat,j'<=j/\oAt fs v=some (j':Int)
theorem FsOk.start {m:Int}{ts:List Tie}{p:Int}(hp:0<=p/\p < m):FsOk m ts p 0 ((List.replicate m.toNat none).set p.toNat (some 0)):=by
 have hl:p < ((List.replicate m.toNat (none:Option Int)).length:Int):=by rw[p5];omega
 have nn:∀ v,oAt (List.replicate m.toNat (none:Option Int)) v=none:=λv=>by
  unfold oAt
  rw[u0t]
  split <;> rfl
 refine⟨by simp,λv k v0 v1 e=>?_,λj v hj r=>?_⟩
 .rw[Xj hp.1 hl v0,nn]at e
  by_cases c:v=p
  .rw[t5 c]at e;cases e
   exact⟨0,rfl,by rw[c];exact .zero⟩
  .rw[t6 c]at e;cases e
 .obtain rfl:j=0:=by omega
  cases r
  exact⟨0,t9 _,by rw[Xj hp.1 hl hp.1,t5 rfl];rfl⟩
def wj:SE->Ctl :=
 (zI (sIf (tOf (zm ltD (zc 1) (eFn We (zb (zc 0) zq)))) (yO (zm ixD (zc 0) (zc 1))) yk)
  (yO (eC (.int 0))))
def xh:List D->Option D:=fnD 2 wj
theorem ze5 (ns:List Int):∃ c:Int,xh [.scr ns,.int 0]=some (.int c):=by
 cases ns with
 | nil=>exact⟨0,rfl⟩
 | cons n ns =>
  refine⟨n,?_⟩
  have e:atI (n::ns) 0=some n:=zaw (u0z _) rfl
  simp[xh,wj,fnD,zI,yO,WB,sIf,y9,XL,sNo,yk,zep,Zc,WW,zbH,Wd,vEv,visF,visG,Sl.f,Sl.g,zc,eC,zm,XZ,eOr,zcV,eIf,eUn,V1,Z1,wd,yq,zb,zq,zo,eFn,fFn,tOf,Xm,Wc,xF,asB,asI,yA,XC,Yt,vy,vG,zbI,Zb,ltD,leD,gtD,geD,zbd,zX,x8,yZ,yT,zbC,yz,ixD,We,vH,isT,eSl,Wm,YI,wP,wF,iOf,XD,xT,zay,Yi,za4,yx,Wu,fLC,xw,ym,Xa,yw,za5,vI,zbF,b1,b2,e]
theorem VG (T:Txt K mg base ad):y6 P w K mg base CX0 1 ad.f__law_cell_at ad.e__law_cell_at ["script","k"] (@spD ⟨K⟩ 2 xh):=by
 letI:KK:=⟨K⟩
 refine yC (N:=["script","k"]) (ps:=["script","k"]) T.d__law_cell_at.fn Vg (g:=wj) λcdv A outer s H E hr=>?_
 unfold wj
 exact(ze (wx (yb ziR yi (zM _) (edv 1) (zH zT vx rfl T.z_len Zy (za (edv 0) zd))) (zj (zB (zA (edv 0) (edv 1) (λ_ _=>rfl)))) zU)
  (zj (zB (zg zh))))
theorem zih {ρ:Ev}(ns:List Int)(k:Int)(h:ns.length<=63):∃ xs:List Int,(iOf (zm vv (wd (yq (zb (zo 2 xh (zb (zc 0) (zb (eC (.int 0)) zq))) zq))) (eSl slD (zc 0) (YI (eC (.int 1))) (YI (eC (.int k)))))) (some (.scr ns)::ρ)=some (xs.map .int):=by
 obtain⟨c,hc⟩:=ze5 ns
 refine⟨c::zfc ns (some 1) (some k),?_⟩
 have e:=zhO (a:=[.int c]) (b:=(zfc ns (some 1) (some k)).map .int) (by have:=ziL ns (some 1) (some k);simp;omega)
 simp[iOf,zm,wd,yq,zb,zq,zo,zc,eC,hc,xk,eSl,YI,asI,slD,e,wF]
theorem Xp {m:Int}{ts:List Tie}{a:Int}{k:Nat}(ok:zG m ts):k∈nbN m ts a↔adj ts a (k:Int):=by
 unfold nbN
 rw[u0a,r6,d5]
 unfold zcB adj
 constructor
 .rintro⟨_,h⟩
  by_cases c:(k:Int) < a
  .rw[t5 c,t6 (by omega)]at h;exact .inr h
  .rw[t6 c]at h
   by_cases c2:(k:Int) > a
   .rw[t5 c2]at h;exact .inl h
   .rw[t6 c2]at h
    have:a=(k:Int):=by omega
    rw[<-this]
    exact .inl h
 .rintro(h | h)
  .have:=ok.rng _ h
   simp only at this
   rw[t6 (by omega),t5 (by omega)]
   exact⟨by omega,h⟩
  .have:=ok.rng _ h
   simp only at this
   rw[t5 (by omega),t6 (by omega)]
   exact⟨by omega,h⟩
structure VI (m:Int) (ts:List Tie) (p:Int) (L:Nat) (fs:List (Option Int)) (rim:List Int):Prop where
 len:fs.length=m.toNat
 sound:∀ v k,0<=v->v < m->oAt fs v=some k->∃ j:Nat,k=(j:Int)/\j<=L/\Far ts p v j
 full:∀ v (j:Nat),j<=L->Far ts p v j->oAt fs v=some (j:Int)
 rim:∀ v,v∈rim↔Far ts p v L
structure V4 (m:Int) (ts:List Tie) (p:Int) (L:Nat) (fs:List (Option Int)) (fu:List Int) (S:Int->Prop):Prop where
 len:fs.length=m.toNat
 sound:∀ v k,0<=v->v < m->oAt fs v=some k->(∃ j:Nat,k=(j:Int)/\j<=L/\Far ts p v j)\/v∈fu
 full:∀ v (j:Nat),j<=L->Far ts p v j->oAt fs v=some (j:Int)
 fur:∀ v∈fu,Far ts p v (L+1)/\oAt fs v=some ((L+1:Nat):Int)
 done:∀ v,S v->oAt fs v≠none
theorem VI.mid {m:Int}{ts:List Tie}{p:Int}{L:Nat}{fs:List (Option Int)}{rim:List Int}(h:VI m ts p L fs rim){S:Int->Prop}(hS:∀ v,¬ S v):V4 m ts p L fs [] S :=
 ⟨h.len,λv k v0 v1 e=>.inl (h.sound v k v0 v1 e),h.full,λv hv=>(by cases hv),λv hv=>absurd hv (hS v)⟩
theorem V4.imp {m:Int}{ts:List Tie}{p:Int}{L:Nat}{fs:List (Option Int)}{fu:List Int}{S S':Int->Prop}(h:V4 m ts p L fs fu S)(hS:∀ v,S' v->S v\/oAt fs v≠none):V4 m ts p L fs fu S' :=
 ⟨h.len,h.sound,h.full,h.fur,λv hv=>(hS v hv).elim (h.done v) id⟩
theorem V4.add {m:Int}{ts:List Tie}{p:Int}{L:Nat}{fs:List (Option Int)}{fu:List Int}{S:Int->Prop}{a b:Int}(ok:zG m ts)(h:V4 m ts p L fs fu S)(ha:Far ts p a L)(hab:adj ts a b)(hn:oAt fs b=none){x:Int}(hx:x=((L+1:Nat):Int)) :
 V4 m ts p L (fs.set b.toNat (some x)) (fu++[b]) (λv=>S v\/v=b):=by
 subst hx
 obtain⟨_,b0,b1⟩:=hab.rng ok
 have hl:=h.len
 have hb:=zdL b0 b1 hl
 have hf:Far ts p b (L+1):=⟨.step ha.1 hab,λi r=>by
  obtain⟨j,hj⟩:=zjj r
  by_cases c:j<=L
  .rw[h.full b j c hj]at hn;cases hn
  .have:=hj.2 _ r;omega⟩
 have at':∀ v,0<=v->oAt (fs.set b.toNat (some ((L+1:Nat):Int))) v=if v=b then some ((L+1:Nat):Int)else oAt fs v:=λv v0=>Xj b0 hb v0
 have sm:∀ v,oAt fs v≠none->oAt (fs.set b.toNat (some ((L+1:Nat):Int))) v≠none:=λv hv=>by
  by_cases v0:0<=v
  .rw[at' v v0]
   split
   .intro z;cases z
   .exact hv
  .unfold oAt at hv ⊢
   rw[u0G]
   split
   .split
    .intro z;cases z
    .rename_i c1 c2
     omega
   .exact hv
 refine⟨by rw[i9];exact hl,λv k v0 v1 e=>?_,λv j hj hv=>?_,λv hv=>?_,λv hv=>?_⟩
 .rw[at' v v0]at e
  by_cases c:v=b
  .exact .inr (by rw[c];simp)
  .rw[t6 c]at e
   exact(h.sound v k v0 v1 e).imp id λz=>u0p.mpr (.inl z)
 .have e:=h.full v j hj hv
  have:v≠b:=λz=>by rw[z,hn]at e;cases e
  by_cases v0:0<=v
  .rw[at' v v0,t6 this];exact e
  .unfold oAt at e ⊢
   rw[u0G]
   split
   .rename_i c
    have vz:v.toNat=0:=by omega
    rw[vz]at c e
    unfold oAt at hn
    rw[c]at hn
    rw[hn]at e
    cases e
   .exact e
 .rcases u0p.mp hv with hv | hv
  .obtain⟨h1,h2⟩:=h.fur v hv
   refine⟨h1,?_⟩
   have v0:0<=v:=by
    obtain⟨a',_,had⟩:=h1.1.inv
    exact(had.rng ok).2.1
   rw[at' v v0]
   split
   .rfl
   .exact h2
  .cases j6.mp hv
   exact⟨hf,by rw[at' _ b0,t5 rfl]⟩
 .rcases hv with hv | rfl
  .exact sm v (h.done v hv)
  .rw[at' _ b0,t5 rfl]
   intro z;cases z
theorem V4.end {m:Int}{ts:List Tie}{p:Int}{L:Nat}{fs:List (Option Int)}{fu:List Int}{S:Int->Prop}(ok:zG m ts)(h:V4 m ts p L fs fu S)(hS:∀ a b,Far ts p a L->adj ts a b->S b):VI m ts p (L+1) fs fu:=by
 have key:∀ v,Far ts p v (L+1)->v∈fu:=λv hv=>by
  obtain⟨a,ra,had⟩:=hv.1.inv
  have hfa:Far ts p a L:=⟨ra,λi r=>by have:=hv.2 _ (.step r had);omega⟩
  have hr:=(had.rng ok).2
  have hne:=h.done v (hS a v hfa had)
  cases e:oAt fs v with
  | none=>exact absurd e hne
  | some k =>
   rcases h.sound v k hr.1 hr.2 e with ⟨j,_,hj,hf⟩ | hm
   .have:=hf.uniq hv;omega
   .exact hm
 refine⟨h.len,λv k v0 v1 e=>?_,λv j hj hv=>?_,λv=>⟨λhv=>(h.fur v hv).1,key v⟩⟩
 .rcases h.sound v k v0 v1 e with ⟨j,e1,hj,hf⟩ | hm
  .exact⟨j,e1,by omega,hf⟩
  .obtain⟨hf,e2⟩:=h.fur v hm
   rw[e]at e2
   cases e2
   exact⟨L+1,rfl,t9 _,hf⟩
 .by_cases c:j<=L
  .exact h.full v j c hv
  .obtain rfl:j=L+1:=by omega
   exact(h.fur v (key v hv)).2
theorem zeF {ts:List Tie}{p:Int}(L:Nat):∀ (k:Nat) (v:Int),Far ts p v k->L<=k->∃ u,Far ts p u L:=by
 intro k
 induction k with
 | zero=>intro v hv hk;exact⟨v,by rwa[show L=0 by omega]⟩
 | succ k ih =>
  intro v hv hk
  by_cases c:L=k+1
  .exact⟨v,by rwa[c]⟩
  .obtain⟨a,ra,had⟩:=hv.1.inv
   exact ih a ⟨ra,λi r=>by have:=hv.2 _ (.step r had);omega⟩ (by omega)
theorem VI.end {m:Int}{ts:List Tie}{p:Int}{L:Nat}{fs:List (Option Int)}(h:VI m ts p L fs []):fs=YX m ts p:=by
 refine zkF (by rw[h.len,Ve]) λv v0 v1=>?_
 have hv:v < m:=by have:=h.len;omega
 rw[zdF v0 hv]
 rcases ZM ts p v with ⟨k,e,hk⟩ | ⟨e,hk⟩
 .rw[e]
  by_cases c:k<=L
  .exact h.full v k c hk
  .obtain⟨u,hu⟩:=zeF L k v hk (by omega)
   have:=(h.rim u).mpr hu
   cases this
 .rw[e]
  cases e2:oAt fs v with
  | none=>rfl
  | some k =>
   obtain⟨j,_,_,hf⟩:=h.sound v k v0 hv e2
   exact absurd hf.1 (hk j)
theorem VI.start {m:Int}{ts:List Tie}{p:Int}(hp:0<=p/\p < m):VI m ts p 0 ((List.replicate m.toNat none).set p.toNat (some 0)) [p]:=by
 have hl:p < ((List.replicate m.toNat (none:Option Int)).length:Int):=by rw[p5];omega
 have nn:∀ v,oAt (List.replicate m.toNat (none:Option Int)) v=none:=λv=>by
  unfold oAt
  rw[u0t]
  split <;> rfl
 have f0:∀ v,Far ts p v 0->v=p:=λv h=>by
  have:=h.1
  cases this
  rfl
 have fp:Far ts p p 0:=⟨.zero,λ_ _=>u0m _⟩
 refine⟨by simp,λv k v0 v1 e=>?_,λv j hj hv=>?_,λv=>⟨λh=>?_,λh=>?_⟩⟩
 .rw[Xj hp.1 hl v0,nn]at e
  by_cases c:v=p
  .rw[t5 c]at e;cases e
   exact⟨0,rfl,t9 _,by rw[c];exact fp⟩
  .rw[t6 c]at e;cases e
 .obtain rfl:j=0:=by omega
  cases f0 v hv
  rw[Xj hp.1 hl hp.1,t5 rfl]
  rfl
 .cases j6.mp h
  exact fp
 .rw[f0 v h]
  exact j6.mpr rfl
def zbG (fs:List (Option Int)):Nat:=fs.countP Option.isNone
theorem zdW:∀ {fs:List (Option Int)} {k:Nat} {x:Int},k < fs.length->fs[k]?=some none->zbG (fs.set k (some x))+1=zbG fs
 | [],k,x,h,_=>by simp at h
 | f::fs,0,x,_,h=>by
  have h:some f=some none:=h
  cases h
  simp[zbG]
 | f::fs,k+1,x,h,h2=>by
  have ih:=zdW (fs:=fs) (k:=k) (x:=x) (by simpa using h) (by simpa using h2)
  unfold zbG at ih ⊢
  rw[List.set_cons_succ,u2a,u2a]
  omega
def zns:D->Bool
 | .non=>true
 | _=>false
theorem zhB (fs:List (Option Int)):(fs.map xS).countP zns=zbG fs:=by
 unfold zbG
 rw[List.countP_map]
 congr 1
 funext o
 cases o <;> rfl
def vc:SE->Ctl :=
 (sIf (tOf (zm zbC (zm ixD (zc 2) (zc 6)) (eC .non))) (zI (Wd true 2 (zc 6) (zm vv (zm ixD (zc 2) (zc 5)) (eC (.int 1))))
  (WW false 4 (zc 6))) yk)
def wR:SE->Ctl :=
 (XD (iOf (zo 2 ya (zb (zc 0) (zb (zc 5) zq)))) (yw 6) vc)
def wZ:SE->Ctl :=
 (zI (Zc 4 (yq zq))
  (zI (XD (iOf (zc 3)) (yw 5) wR)
  (sFz 4 (y9 false 3 (zc 4)))))
def YZ:SE->Ctl :=
 (zI (Zc 2 (zf5 zdP (wd (yq (zb (eC .non) zq))) (zm ixD (zc 0) (eC (.int 0)))))
  (zI (Wd false 2 (zc 1) (eC (.int 0)))
  (zI (y9 false 3 (wd (yq (zb (zc 1) zq))))
  (zI (Xf (tOf (zm gtD (eFn We (zb (zc 3) zq)) (eC (.int 0)))) wZ 1000)
  (sFz 2 (yO (zc 2)))))))
def wa:List D->Option D:=fnD 7 YZ
def muA:SE->Nat
 | [_,_,.o ds,.v (.lst rs),_,_,_]=>2*ds.countP zns+(if rs.isEmpty=true then 0 else 1)
 | _=>0
theorem zfZ (a b o4 o5 o6:Sl)(fs:List (Option Int))(rs:List D):muA [a,b,.o (fs.map xS),.v (.lst rs),o4,o5,o6]=2*zbG fs+(if rs.isEmpty=true then 0 else 1):=by
 show 2*(fs.map xS).countP zns+_=_
 rw[zhB]
theorem znM {W rm:D}{p a x L:Int}{gs:List (Option Int)}{fu:List Int}{N B C:SE->Prop}{R:D->Prop}(hx0:0<=x)(hx:x < ((gs.map xS).length:Int))(ex:L2.atI (gs.map xS) x=some (xS (oAt gs x)))(ea:L2.atI (gs.map xS) a=some (.int L))(hfu:(fu.map D.int).length<=1000)
 (q1:oAt gs x=none->N [.v W,.v (.int p),.o ((gs.set x.toNat (some (L+1))).map xS),.v rm,.o ((fu++[x]).map .int),.v (.int a),.v (.int x)])
 (q2:oAt gs x≠none->N [.v W,.v (.int p),.o (gs.map xS),.v rm,.o (fu.map .int),.v (.int a),.v (.int x)]) :
 (vc [.v W,.v (.int p),.o (gs.map xS),.v rm,.o (fu.map .int),.v (.int a),.v (.int x)]).w N B C R:=by
 unfold vc
 cases hn:oAt gs x with
 | none =>
  rw[hn]at ex
  refine W3 (c:=true) (by show(((L2.atI (gs.map xS) x).bind λd=>zbC d .non).bind asB)=_;rw[ex];rfl) (λ_=>?_) (λz=>by cases z)
  refine yJ (zby (gs.map xS) (.int (L+1)) x ?_ rfl rfl hx0 hx ?_)
  .show((((L2.atI (gs.map xS) a).bind λx=>vv x (.int 1))).bind λd=>if noL d=true then some d else none)=_
   rw[ea]
   rfl
  have q:=q1 hn
  rw[e9,u03]at q
  exact Zh (WK (ds:=fu.map .int) (d:=.int x) rfl rfl hfu) q
 | some kx =>
  rw[hn]at ex
  refine W3 (c:=false) (by show(((L2.atI (gs.map xS) x).bind λd=>zbC d .non).bind asB)=_;rw[ex];rfl) (λz=>by cases z) (λ_=>Zh rfl (q2 λz=>?_))
  rw[hn]at z
  cases z
structure zad (m:Int) (ts:List Tie) (p:Int) (L c:Nat) (S:Int->Prop) (gs:List (Option Int)) (fu:List Int):Prop where
 mid:V4 m ts p L gs fu S
 cnt:fu.length+zbG gs=c
theorem zad.imp {m:Int}{ts:List Tie}{p:Int}{L c:Nat}{S S':Int->Prop}{gs:List (Option Int)}{fu:List Int}(h:zad m ts p L c S gs fu)(k:∀ v,S' v->S v\/oAt gs v≠none):zad m ts p L c S' gs fu:=⟨h.mid.imp k,h.cnt⟩
theorem zad.put {m:Int}{ts:List Tie}{p a x:Int}{L c:Nat}{S S':Int->Prop}{gs:List (Option Int)}{fu:List Int}(ok:zG m ts)(h:zad m ts p L c S gs fu)(hf:Far ts p a L)(ha:adj ts a x)(hx:0<=x/\x < m)(hn:oAt gs x=none)(k:∀ v,S' v->S v\/v=x):zad m ts p L c S' (gs.set x.toNat (some ((L:Int)+1))) (fu++[x]):=by
 have hl:=h.mid.len
 have hlt:x.toNat < gs.length:=by omega
 have hg:gs[x.toNat]?=some none:=by
  unfold oAt at hn
  rw[u5 hlt]at hn ⊢
  exact u0U some hn
 have:=zdW (fs:=gs) (k:=x.toNat) (x:=(L:Int)+1) hlt hg
 refine⟨(h.mid.add ok hf ha hn rfl).imp λv hv=>.inl ((k v hv).imp id id),?_⟩
 rw[j9,List.length_singleton,<- h.cnt]
 omega
theorem znz {m:Int}{ts:List Tie}{p a:Int}{rm:D}{L c i:Nat}{rim:List Int}{gs:List (Option Int)}{fu:List Int}{o6:Sl}{N B C:SE->Prop}{R:D->Prop}(ok:zG m ts)(hp:0<=p/\p < m)(hc:c<=1000)(hfa:Far ts p a L)(hai:rim[i]?=some a)
 (h:zad m ts p L c (λv=>∃ a∈rim.take i,adj ts a v) gs fu)
 (q:∀ gs fu o6,zad m ts p L c (λv=>∃ a∈rim.take (i+1),adj ts a v) gs fu->N [.v (zp m ts),.v (.int p),.o (gs.map xS),.v rm,.o (fu.map .int),.v (.int a),o6]) :
 (wR [.v (zp m ts),.v (.int p),.o (gs.map xS),.v rm,.o (fu.map .int),.v (.int a),o6]).w N B C R:=by
 have ha01:=hfa.1.rng ok hp
 unfold wR
 refine Wt (ds:=(nbN m ts a).map zV) (λj ρ=>∃ (gs:List (Option Int)) (fu:List Int) (o6:Sl),ρ=[.v (zp m ts),.v (.int p),.o (gs.map xS),.v rm,.o (fu.map .int),.v (.int a),o6]/\zad m ts p L c (λv=>(∃ a∈rim.take i,adj ts a v)\/∃ k∈(nbN m ts a).take j,v=(k:Int)) gs fu) ?_ ⟨gs,fu,_,rfl,h.imp (λv hv=>.inl (hv.elim id λz=>by obtain⟨k,hk,_⟩:=z;cases hk))⟩ ?_ ?_
 .have e1:ya [zp m ts,.int a]=some (.lst ((nbN m ts a).map zV)):=by
   show(if vQ (zp m ts)=true then some (D.lst ((nbN (zki (zp m ts)) (zkA (zp m ts)) a).map zV))else none)=_
   rw[t5 ((xE _).mpr ⟨_,_,rfl,ok⟩),Vy,VH]
  show(ya [zp m ts,.int a]).bind wF=_
  rw[e1]
  rfl
 .rintro j d ρ hd ⟨gs,fu,o6,rfl,hm⟩
  rw[j5]at hd
  obtain⟨k,hk,rfl⟩:=u8.mp hd
  have hadj:adj ts a (k:Int):=(Xp ok).mp (r8 hk)
  have htake2:(nbN m ts a).take (j+1)=(nbN m ts a).take j++[k]:=by rw[u3t,hk];rfl
  have hr2:=(hadj.rng ok).2
  have hl:=hm.mid.len
  have ea:=zjn (fs:=gs) (i:=a) ha01.1 ha01.2 hl
  rw[hm.mid.full a L (t9 _) hfa]at ea
  have step:∀ v,((∃ a∈rim.take i,adj ts a v)\/∃ k∈(nbN m ts a).take (j+1),v=(k:Int))->((∃ a∈rim.take i,adj ts a v)\/∃ k∈(nbN m ts a).take j,v=(k:Int))\/v=(k:Int):=λv hv=>by
   rcases hv with hv | ⟨q,hq,e⟩
   .exact .inl (.inl hv)
   .rw[htake2]at hq
    rcases u0p.mp hq with hq | hq
    .exact .inl (.inr ⟨q,hq,e⟩)
    .cases j6.mp hq
     exact .inr e
  refine⟨[.v (zp m ts),.v (.int p),.o (gs.map xS),.v rm,.o (fu.map .int),.v (.int a),.v (.int (k:Int))],by unfold zV;rw[u09];rfl,?_⟩
  refine znM hr2.1 (zfB hr2.1 hr2.2 hl) (zjn hr2.1 hr2.2 hl) ea (by rw[u6];have:=hm.cnt;omega) (λhn=>?_) (λhn=>?_)
  .exact⟨_,_,_,rfl,hm.put ok hfa hadj hr2 hn step⟩
  .exact⟨gs,fu,_,rfl,hm.imp λv hv=>(step v hv).imp id λe=>by rw[e];exact hn⟩
 .rintro ρ ⟨gs,fu,o6,rfl,hm⟩
  rw[u6,u01]at hm
  refine q gs fu o6 (hm.imp λv hv=>.inl ?_)
  obtain⟨b,hb,had⟩:=hv
  rw[u3t,hai]at hb
  rcases u0p.mp hb with hb | hb
  .exact .inl ⟨b,hb,had⟩
  .cases j6.mp hb
   obtain⟨k,rfl⟩:=Int.eq_ofNat_of_zero_le (had.rng ok).2.1
   exact .inr ⟨k,(Xp ok).mpr had,rfl⟩
theorem znE {m:Int}{ts:List Tie}{p:Int}{L:Nat}{rim:List Int}{fs:List (Option Int)}{o4 o5 o6:Sl}{N B C:SE->Prop}{R:D->Prop}(ok:zG m ts)(hp:0<=p/\p < m)(hr:VI m ts p L fs rim)
 (q:∀ gs fu o4 o5 o6,VI m ts p (L+1) gs fu->fu.length+zbG gs=zbG fs->N [.v (zp m ts),.v (.int p),.o (gs.map xS),.v (.lst (fu.map .int)),o4,o5,o6]) :
 (wZ [.v (zp m ts),.v (.int p),.o (fs.map xS),.v (.lst (rim.map .int)),o4,o5,o6]).w N B C R:=by
 have hc:zbG fs<=1000:=m8 u12 (by rw[hr.len];have:=ok.hi;omega)
 unfold wZ
 refine zt (ρ':=[.v (zp m ts),.v (.int p),.o (fs.map xS),.v (.lst (rim.map .int)),.o (([]:List Int).map .int),o5,o6]) rfl ?_
 refine yJ (Wt (ds:=rim.map .int) (λi ρ=>∃ (gs:List (Option Int)) (fu:List Int) (o5 o6:Sl),ρ=[.v (zp m ts),.v (.int p),.o (gs.map xS),.v (.lst (rim.map .int)),.o (fu.map .int),o5,o6]/\zad m ts p L (zbG fs) (λv=>∃ a∈rim.take i,adj ts a v) gs fu) rfl ⟨fs,[],_,_,rfl,hr.mid (λv z=>by obtain⟨a,ha,_⟩:=z;cases ha),m9 _⟩ ?_ ?_)
 .rintro i d ρ hd ⟨gs,fu,o5,o6,rfl,hm⟩
  rw[j5]at hd
  obtain⟨a,ha,rfl⟩:=u8.mp hd
  exact⟨[.v (zp m ts),.v (.int p),.o (gs.map xS),.v (.lst (rim.map .int)),.o (fu.map .int),.v (.int a),o6],rfl,znz ok hp hc ((hr.rim a).mp (r8 ha)) ha hm λgs fu o6 h=>⟨gs,fu,_,_,rfl,h⟩⟩
 .rintro ρ ⟨gs,fu,o5,o6,rfl,hm⟩
  rw[u6,u01]at hm
  refine zdB (ρ':=[.v (zp m ts),.v (.int p),.o (gs.map xS),.v (.lst (rim.map .int)),.v (.lst (fu.map .int)),o5,o6]) rfl ?_
  exact Zh (ρ':=[.v (zp m ts),.v (.int p),.o (gs.map xS),.v (.lst (fu.map .int)),.v (.lst (fu.map .int)),o5,o6]) rfl (q gs fu _ _ _ (hm.mid.end ok λa b ha hab=>⟨a,(hr.rim a).mpr ha,hab⟩) hm.cnt)
theorem vN {m:Int}{ts:List Tie}{p:Int}(ok:zG m ts)(hp:0<=p/\p < m):wa [zp m ts,.int p]=some (.lst ((YX m ts p).map xS)):=by
 have hm1:=ok.lo
 have hm8:=ok.hi
 refine WE (ρ:=[.v (zp m ts),.v (.int p),.no,.no,.no,.no,.no]) rfl ?_
 unfold YZ
 refine zt (ρ':=[.v (zp m ts),.v (.int p),.o ((List.replicate m.toNat none).map xS),.no,.no,.no,.no]) ?_ ?_
 .have e:=zm5 (d:=.non) hm1 hm8
  refine zfo (ds:=(List.replicate m.toNat none).map xS) ?_
  rw[u1G]
  exact e
 refine yJ (zby _ (.int 0) p rfl rfl rfl hp.1 (by rw[u6,p5];omega) ?_)
 rw[show((List.replicate m.toNat (none:Option Int)).map xS).set p.toNat (.int 0)=((List.replicate m.toNat none).set p.toNat (some 0)).map xS by rw[u03];rfl]
 refine zt (ρ':=[.v (zp m ts),.v (.int p),.o (((List.replicate m.toNat none).set p.toNat (some 0)).map xS),.v (.lst ([p].map .int)),.no,.no,.no]) rfl ?_
 refine yJ (zbf (fun ρ=>∃ (L:Nat) (fs:List (Option Int)) (rim:List Int) (o4 o5 o6:Sl),ρ=[.v (zp m ts),.v (.int p),.o (fs.map xS),.v (.lst (rim.map .int)),o4,o5,o6]/\VI m ts p L fs rim) muA ?_ 1000 _ ⟨0,_,[p],_,_,_,rfl,VI.start hp⟩ ?_)
 .rintro ρ ⟨L,fs,rim,o4,o5,o6,rfl,hr⟩
  refine⟨decide ((0:Int) < ((rim.map D.int).length:Int)),rfl,λz=>?_,λz=>?_⟩
  .refine znE ok hp hr λgs fu o4 o5 o6 h hc=>⟨⟨L+1,gs,fu,_,_,_,rfl,h⟩,?_⟩
   rw[zfZ,zfZ,<- hc]
   cases rim with
   | nil=>cases z
   | cons _ _ =>
    cases fu with
    | nil=>show 2*zbG gs+0 < 2*(0+zbG gs)+1;omega
    | cons f fu=>show 2*zbG gs+1 < 2*((fu.length+1)+zbG gs)+1;omega
  .cases rim with
   | cons _ _ =>
    have:=u05 z
    rw[b9,p6]at this
    omega
   | nil =>
    rw[hr.end]
    exact zdB (ρ':=[.v (zp m ts),.v (.int p),.v (.lst ((YX m ts p).map xS)),.v (.lst []),o4,o5,o6]) rfl (ZW rfl rfl)
 .rw[zfZ]
  have:zbG ((List.replicate m.toNat (none:Option Int)).set p.toNat (some 0))<=_:=u12
  rw[i9,p5]at this
  show 2*zbG _+1 < 1000
  omega
theorem vY (T:Txt K mg base ad):y6 P w K mg base CX0 3 ad.f_ties_away ad.e_ties_away ["web","start"] (@spD ⟨K⟩ 2 wa):=by
 letI:KK:=⟨K⟩
 have G_neighbours:=XM (P:=P) (w:=w) (base:=base) T
 refine yC (N:=["web","start","away","rim","further","place","other"]) (ps:=["web","start"]) T.d_ties_away.fn yS (g:=YZ) λcdv A outer s H E hr=>?_
 unfold YZ wZ wR vc
 exact(ze (vg (i:=2) yS.nd rfl (Or.inl rfl) (zaA (w8 (xV (za (WQ WN) zd))) (zA (edv 0) (zg zh) (λ_ _=>rfl))))
  (ze (XF (m:=false) (zg zh) (pv 2) (edv 1))
  (ze (zJ (m:=false) (i:=3) yS.nd rfl (Or.inl rfl) (w8 (xV (za (edv 1) zd))))
  (ze (zdw 1000 b8 (yb zaZ yi (zM _) (zH zT vx rfl T.z_len Zy (za (edv 3) zd)) (zg zh)) (ze (vg (i:=4) yS.nd rfl (Or.inl rfl) (xV zd))
  (ze (Yx b8 rfl (Y5 (edv 3)) (zS (zz (i:=5) yS.nd rfl (Or.inl rfl))) (zj (Yx b8 rfl (Y5 (zi G_neighbours hr rfl T.d_neighbours (za (edv 0) (za (edv 5) zd)))) (zS (zz (i:=6) yS.nd rfl (Or.inl rfl))) (zj (wx (yb zjs zfW (zM _) (zA (edv 2) (edv 6) (λ_ _=>rfl)) (WQ WN)) (ze (XF (m:=true) (yp (zA (edv 2) (edv 5) (λ_ _=>rfl)) (zg zh)) (pv 2) (edv 6))
  (zj (WL (m:=false) (pv 4) (edv 6) (λa b=>zab m6 u0c u0d wt a b)))) zU)))))
  (vO 4 (zj (zJ (m:=false) (i:=3) yS.nd rfl (Or.inl rfl) (edv 4)))))))
  (vO 2 (zj (zB (edv 2))))))))
def Xz:SE->Ctl :=
 (y9 false 0 (zm Yt (eC (.int 2)) (zc 0)))
def XR:SE->Ctl :=
 (zI (xT Yi (zb (zc 1) zq) (yw 2) Xz)
  (yO (zc 0)))
def VE:List D->Option D:=fnD 3 XR
theorem zen {n k:Int}(h0:0<=k)(h1:k<=1000):VE [.int n,.int k]=some (.int (n*2 ^ k.toNat)):=by
 refine WE (ρ:=[.v (.int n),.v (.int k),.no]) rfl ?_
 unfold XR
 refine yJ (X3 (lo:=0) (c:=k.toNat) (λi ρ=>∃ o2,ρ=[.v (.int (n*2 ^ i)),.v (.int k),o2]) ?_ ⟨.no,by rw[Int.pow_zero,u2r]⟩ ?_ ?_)
 .show Yi [.int k]=_
  exact Yp h0 (by omega)
 .rintro i ρ hi ⟨o2,rfl⟩
  refine⟨_,rfl,?_⟩
  unfold Xz
  have e:Yt (.int 2) (.int (n*2 ^ i))=some (.int (n*2 ^ (i+1))):=by
   rw[zaI (by decide) (by decide),u3g,u11 2,u2V]
  refine Zh (ρ':=[.v (.int (n*2 ^ (i+1))),.v (.int k),.v (.int (0+(i:Int)))]) ?_ ⟨_,rfl⟩
  generalize n*2 ^ i=y at *
  generalize n*2 ^ (i+1)=z at *
  show(match Yt (.int 2) (.int y)with | some d=>Ctl.nx [.v d,.v (.int k),.v (.int (0+(i:Int)))] | none=>Ctl.no)=_
  rw[e]
 .rintro ρ ⟨o2,rfl⟩
  exact ZW rfl rfl
theorem zeM (T:Txt K mg base ad):y6 P w K mg base CX0 1 ad.f_doubled ad.e_doubled ["number","times"] (@spD ⟨K⟩ 2 VE):=by
 letI:KK:=⟨K⟩
 refine yC (N:=["number","times","turn"]) (ps:=["number","times"]) T.d_doubled.fn Wi (g:=XR) λcdv A outer s H E hr=>?_
 unfold XR Xz
 exact(ze (vX b8 rfl rfl T.z_range (za (edv 1) zd) (zS (zz (i:=2) Wi.nd rfl (Or.inl rfl))) (zj (zJ (m:=false) (i:=0) Wi.nd rfl (Or.inl rfl) (ZI (zg zh) (edv 0)))))
  (zj (zB (edv 0))))
theorem xP.cat {ts:List Tie}{p a b:Int}{k:Nat}(h:xP ts p k a):∀ {j:Nat},xP ts a j b->xP ts p (k+j) b:=by
 intro j h2
 induction h2 with
 | zero=>exact h
 | step _ had ih=>exact .step ih had
theorem xP.back {ts:List Tie}{p v:Int}{k:Nat}(h:xP ts p k v):xP ts v k p:=by
 induction h with
 | zero=>exact .zero
 | @step k a b _ had ih =>
  have:=(xP.step (ts:=ts) (p:=b) .zero had.symm).cat ih
  rwa[show 0+1+k=k+1 by omega]at this
def vR (m:Int)(ts:List Tie):Prop:=∀ p v,0<=p/\p < m->0<=v/\v < m->∃ k,xP ts p k v
theorem zdM {m:Int}{ts:List Tie}{p:Int}(hj:vR m ts)(hp:0<=p/\p < m):∃ ks:List Int,YX m ts p=ks.map some/\(ks.length:Int)=m:=by
 refine⟨(YX m ts p).map λo=>o.getD 0,?_,by rw[u6,Ve];omega⟩
 rw[m7]
 symm
 have:(YX m ts p).map (some ∘ λo=>o.getD 0)=(YX m ts p).map id:=by
  refine p4 λo ho=>?_
  unfold YX at ho
  obtain⟨v,hv,rfl⟩:=u0g.mp ho
  have hv:=d5.mp hv
  rcases ZM ts p (v:Int)with ⟨k,e,_⟩ | ⟨e,hk⟩
  .rw[e];rfl
  .obtain⟨k,r⟩:=hj p v hp ⟨by omega,by omega⟩
   exact absurd r (hk k)
 rw[this,u1v]
theorem W4 (ks:List Int):(ks.map some).map xS=ks.map .int:=by rw[m7];rfl
def Wh:SE->Ctl :=
 (zI (y9 false 3 (zo 2 wa (zb (zc 0) (zb (zc 2) zq))))
  (zI (y9 false 4 (eFn ym (zb (wd (fLC (zay Yi (zb (zm ixD (zc 0) (eC (.int 0))) zq)) b1 (tOf (zm yz (zm ixD (zc 4) (zc 0)) (eC .non))) (zc 0))) zq)))
  (sIf (tOf (zm V5 (zm ixD (zc 4) (eC (.int 0))) (zc 2))) (WW false 1 (zc 4)) yk)))
def W9:SE->Ctl :=
 (zI (XL (zo 1 zN (zb (zc 0) zq)))
  (zI (Zc 1 (yq zq))
  (zI (xT Yi (zb (zm ixD (zc 0) (eC (.int 0))) zq) (yw 2) Wh)
  (sFz 1 (yO (zc 1))))))
def zaU:List D->Option D:=fnD 5 W9
theorem zaQ {m:Int}{ts:List Tie}(ok:zG m ts)(hj:vR m ts):zaU [zp m ts]=some (.lst [.tup ((List.range m.toNat).map zV)]):=by
 have hm1:=ok.lo
 have hm8:=ok.hi
 have hw:vQ (zp m ts)=true:=(xE _).mpr ⟨_,_,rfl,ok⟩
 have e1:zN [zp m ts]=some .non:=by simp[zN,hw]
 have em:ixD (zp m ts) (.int 0)=some (.int m):=rfl
 obtain⟨n,hn⟩:∃ n:Nat,m.toNat=n+1:=⟨m.toNat - 1,by omega⟩
 refine WE (ρ:=[.v (zp m ts),.no,.no,.no,.no]) rfl ?_
 unfold W9
 refine zt (ρ':=[.v (zp m ts),.no,.no,.no,.no]) (wC e1) ?_
 refine zt (ρ':=[.v (zp m ts),.o [],.no,.no,.no]) rfl ?_
 refine yJ (X3 (lo:=0) (c:=m.toNat) (λi ρ=>∃ o2 o3 o4,ρ=[.v (zp m ts),.o (if i=0 then []else [.tup ((List.range m.toNat).map zV)]),o2,o3,o4]) ?_ ⟨_,_,_,rfl⟩ ?_ ?_)
 .show Yi [.int m]=_
  exact Yp (by omega) (by omega)
 .rintro i ρ hi ⟨o2,o3,o4,rfl⟩
  obtain⟨x,hx⟩:∃ x:Int,(0:Int)+(i:Int)=x:=⟨_,rfl⟩
  rw[hx]
  refine⟨_,rfl,?_⟩
  have hxp:0<=x/\x < m:=by omega
  obtain⟨ks,hks,hkl⟩:=zdM hj hxp
  have e2:=vN ok hxp
  rw[hks,W4]at e2
  unfold Wh
  refine zt (ρ':=[.v (zp m ts),.o (if i=0 then []else [.tup ((List.range m.toNat).map zV)]),.v (.int x),.v (.lst (ks.map .int)),o4]) (xf e2) ?_
  have e3:=λa b=>show fLC (zay Yi (zb (zm ixD (zc 0) (eC (.int 0))) zq)) b1 (tOf (zm yz (zm ixD (zc 4) (zc 0)) (eC .non))) (zc 0) [some (zp m ts),a,some (.int x),some (.lst (ks.map .int)),b]=some ((List.range m.toNat).map zV) by
   unfold fLC
   show((Yi [.int m]).bind λds=>if lim ds.length=true then _ else none)=_
   rw[Yp (by omega) (by omega)]
   show(if lim (W0 0 m.toNat).length=true then _ else none)=_
   rw[t5 (xk (by rw[Xt];omega))]
   refine Zd zV zV (List.range m.toNat) λk hk=>⟨[some (zV k)],rfl,?_,rfl⟩
   have hk:=d5.mp hk
   have ea:=Va (ns:=ks) (i:=(0:Int)+(k:Int)) (by omega) (by omega)
   show(((atI (ks.map D.int) (0+(k:Int))).bind λa=>yz a .non).bind asB)=_
   rw[ea]
   rfl
  refine zt (ρ':=[.v (zp m ts),.o (if i=0 then []else [.tup ((List.range m.toNat).map zV)]),.v (.int x),.v (.lst (ks.map .int)),.v (.tup ((List.range m.toNat).map zV))]) (by simp[y9,vEv,visF,Sl.f,eFn,wd,zb,zq,e3,ym]) ?_
  have e4:atI ((List.range m.toNat).map zV) 0=some (.int 0):=by
   rw[hn,List.range_succ_eq_map,b9]
   exact zaw (u0z _) rfl
  have e5:V5 (.int 0) (.int x)=some (.bl (decide ((0:Int)=x))):=rfl
  refine W3 (c:=decide ((0:Int)=x)) (by simp[tOf,zm,zc,visG,Sl.g,eC,ixD,e4,e5,asB]) (λz=>?_) (λz=>Zh rfl ⟨.v (.int x),.v (.lst (ks.map .int)),.v (.tup ((List.range m.toNat).map zV)),?_⟩)
  .have z:=o0 z
   have hi0:i=0:=by omega
   subst hi0
   refine Zh (ρ':=[.v (zp m ts),.o [.tup ((List.range m.toNat).map zV)],.v (.int x),.v (.lst (ks.map .int)),.v (.tup ((List.range m.toNat).map zV))]) ?_ ⟨_,_,_,rfl⟩
   rw[WK (ds:=[]) (d:=.tup ((List.range m.toNat).map zV)) rfl rfl (by simp)]
   rfl
  .have z:=u05 z
   have hi0:i≠0:=by omega
   rw[t6 hi0,t6 (by omega:i+1≠0)]
 .rintro ρ ⟨o2,o3,o4,rfl⟩
  rw[t6 (by omega)]
  exact zdB (ρ':=[.v (zp m ts),.v (.lst [.tup ((List.range m.toNat).map zV)]),o2,o3,o4]) rfl (ZW rfl rfl)
theorem zfl (T:Txt K mg base ad):y6 P w K mg base CX0 8 ad.f_pieces ad.e_pieces ["web"] (@spD ⟨K⟩ 1 zaU):=by
 letI:KK:=⟨K⟩
 have G_must_be_web:=Yf (P:=P) (w:=w) (base:=base) T
 have G_ties_away:=vY (P:=P) (w:=w) (base:=base) T
 refine yC (N:=["web","found","start","away","piece"]) (ps:=["web"]) T.d_pieces.fn Zs (g:=W9) λcdv A outer s H E hr=>?_
 unfold W9 Wh
 exact(ze (wH (zi G_must_be_web hr rfl T.d_must_be_web (za (edv 0) zd)))
  (ze (vg (i:=1) Zs.nd rfl (Or.inl rfl) (xV zd))
  (ze (vX b8 rfl rfl T.z_range (za (zA (edv 0) (zg zh) (λ_ _=>rfl)) zd) (zS (zz (i:=2) Zs.nd rfl (Or.inl rfl))) (ze (zJ (m:=false) (i:=3) Zs.nd rfl (Or.inr rfl) (zi G_ties_away hr rfl T.d_ties_away (za (edv 0) (za (edv 2) zd))))
  (ze (zJ (m:=false) (i:=4) Zs.nd rfl (Or.inl rfl) (yI zY xK rfl T.z_tuple yM (za (w8 (zfw (L:=["place"]) (M:=["web","found","start","away","piece"]) rfl (Xg (by rfl) (by rfl) (by rfl) (by with_unfolding_all rfl) (by rfl) (by rfl) (by kernel_rfl) (all_cons rfl xM)) (Vx rfl T.z_range (za (zA (edv 0) (zg zh) (λ_ _=>rfl)) zd)) gs1 rb1 (λ_ _ _ _=>(zz (i:=0) znD rfl (Or.inl rfl) (.inr rfl))) (λ_ _ _ _=>(yb zbR zax (zM _) (zA (edv 4) (edv 0) (λ_ _=>rfl)) (WQ WN))) (λ_ _ _ _=>(edv 0)))) zd)))
  (zj (wx (yb (Zp hr) vf (zM _) (zA (edv 4) (zg zh) (λ_ _=>rfl)) (edv 2)) (zj (WL (m:=false) (pv 1) (edv 4) (λa b=>zab m6 u0c u0d wt a b))) zU)))))
  (vO 1 (zj (zB (edv 1)))))))
def YA:SE->Ctl :=
 (yO (zm V5 (eFn We (zb (zo 1 zaU (zb (zc 0) zq)) zq)) (eC (.int 1))))
def Xr:List D->Option D:=fnD 1 YA
theorem zbw {m:Int}{ts:List Tie}(ok:zG m ts)(hj:vR m ts):Xr [zp m ts]=some (.bl true):=by
 have e1:=zaQ ok hj
 generalize (List.range m.toNat).map zV=pc at e1
 refine WE (ρ:=[.v (zp m ts)]) rfl ?_
 unfold YA
 have e2:We [.lst [.tup pc]]=some (.int 1):=rfl
 have e3:V5 (.int 1) (.int 1)=some (.bl true):=rfl
 exact ZW (d:=.bl true) (by simp[yO,visG,Sl.g,zm,eFn,zo,zb,zq,zc,eC,e1,e2,e3]) rfl
theorem zcs (T:Txt K mg base ad):y6 P w K mg base CX0 9 ad.f_is_joined ad.e_is_joined ["web"] (@spD ⟨K⟩ 1 Xr):=by
 letI:KK:=⟨K⟩
 have G_pieces:=zfl (P:=P) (w:=w) (base:=base) T
 refine yC (N:=["web"]) (ps:=["web"]) T.d_is_joined.fn zbN (g:=YA) λcdv A outer s H E hr=>?_
 unfold YA
 exact(zj (zB (XO (Zp hr) vf (zM _) (zH zT vx rfl T.z_len Zy (za (zi G_pieces hr rfl T.d_pieces (za (edv 0) zd)) zd)) (zg zh))))
def XW:SE->Ctl :=
 (yO (XZ (zo 1 Xr (zb (zc 0) zq)) (zm V5 (eFn We (zb (zm ixD (zc 0) (eC (.int 1))) zq)) (zm XC (zm ixD (zc 0) (eC (.int 0))) (eC (.int 1))))))
def Vo:List D->Option D:=fnD 1 XW
theorem zcQ {m:Int}{ts:List Tie}(ok:zG m ts)(hj:vR m ts)(hl:(ts.length:Int)=m - 1):Vo [zp m ts]=some (.bl true):=by
 have e1:=zbw ok hj
 have e2:We [.tup (ts.map zv)]=some (.int (m - 1)):=by
  show some (D.int ((ts.map zv).length:Int))=_
  rw[u6,hl]
 have em:ixD (zp m ts) (.int 0)=some (.int m):=rfl
 have em1:ixD (zp m ts) (.int 1)=some (.tup (ts.map zv)):=rfl
 have e3:V5 (.int (m - 1)) (.int (m - 1))=some (.bl true):=by
  show some (D.bl (decide (m - 1=m - 1)))=_
  rw[j8 rfl]
 have es:XC (.int m) (.int 1)=some (.int (m - 1)):=rfl
 refine WE (ρ:=[.v (zp m ts)]) rfl ?_
 unfold XW
 exact ZW (d:=.bl true) (by simp[yO,visG,Sl.g,XZ,zm,eFn,zo,zb,zq,zc,eC,e1,e2,em,em1,es,e3,asB]) rfl
theorem zeZ (T:Txt K mg base ad):y6 P w K mg base CX0 10 ad.f_is_tree ad.e_is_tree ["web"] (@spD ⟨K⟩ 1 Vo):=by
 letI:KK:=⟨K⟩
 have G_is_joined:=zcs (P:=P) (w:=w) (base:=base) T
 refine yC (N:=["web"]) (ps:=["web"]) T.d_is_tree.fn zeC (g:=XW) λcdv A outer s H E hr=>?_
 unfold XW
 exact(zj (zB (X6 (zi G_is_joined hr rfl T.d_is_joined (za (edv 0) zd)) (XE (XO (Zp hr) vf (zM _) (zH zT vx rfl T.z_len Zy (za (zA (edv 0) (zg zh) (λ_ _=>rfl)) zd)) (Yr (zA (edv 0) (zg zh) (λ_ _=>rfl)) (zg zh)))))))
def we:SE->Ctl :=
 (sIf (xF (tOf (zo 1 Vo (zb (zc 0) zq)))) sNo yk)
def wk:List D->Option D:=fnD 1 we
theorem ZF {m:Int}{ts:List Tie}(ok:zG m ts)(hj:vR m ts)(hl:(ts.length:Int)=m - 1):wk [zp m ts]=some .non:=by
 have e1:=zcQ ok hj hl
 refine WE (ρ:=[.v (zp m ts)]) rfl ?_
 unfold we
 exact W3 (c:=false) (by simp[xF,tOf,visG,Sl.g,zo,zb,zq,zc,e1,asB]) (λz=>by cases z) (λ_=>Zh rfl rfl)
theorem ZD (T:Txt K mg base ad):y6 P w K mg base CX0 11 ad.f_must_be_tree ad.e_must_be_tree ["web"] (@spD ⟨K⟩ 1 wk):=by
 letI:KK:=⟨K⟩
 have G_is_tree:=zeZ (P:=P) (w:=w) (base:=base) T
 refine yC (N:=["web"]) (ps:=["web"]) T.d_must_be_tree.fn VZ (g:=we) λcdv A outer s H E hr=>?_
 unfold we
 exact(zj (wx (Yq (Yu (zi G_is_tree hr rfl T.d_is_tree (za (edv 0) zd)))) (zj XH) zU))
structure Ye (i:Nat) (ns:List Int):Prop where
 len:ns.length=i
 nd:ns.Nodup
 mem:∀ x:Int,x∈ns↔0<=x/\x < (i:Int)
def zkR (ns:List Int)(j:Int)(x:Int):List Int:=ns.take j.toNat++x::ns.drop j.toNat
theorem zhi (ns:List Int)(j x:Int):zkV (ns.map .int) j (.int x)=(zkR ns j x).map .int:=by
 unfold zkV zkR
 rw[e9,b9,List.map_take,List.map_drop]
theorem zgo (ns:List Int)(j x:Int):(zkR ns j x).Perm (x::ns):=by
 unfold zkR
 have:=List.perm_middle (a:=x) (l₁:=ns.take j.toNat) (l₂:=ns.drop j.toNat)
 rwa[List.take_append_drop]at this
theorem Ye.ins {i:Nat}{ns:List Int}(h:Ye i ns)(j:Int){x:Int}(hx:x=(i:Int)):Ye (i+1) (zkR ns j x):=by
 subst hx
 have p:=zgo ns j (i:Int)
 refine⟨by rw[p.length_eq,p6,h.len],?_,λx=>?_⟩
 .rw[p.nodup_iff,u0i]
  exact⟨λz=>by have:=(h.mem _).mp z;omega,h.nd⟩
 .rw[p.mem_iff,n8,h.mem]
  omega
def VO (ns:List Int)(ts:List Tie):Prop:=∀ (s:Nat) (t:Tie),ts[s]?=some t->∃ j:Nat,j<=s/\t=zcB (vAt ns ((s+1:Nat):Int)) (vAt ns (j:Int))
theorem ZU (a b:Int):zcB a b=(b,a)/\b < a\/zcB a b=(a,b)/\a < b\/a=b:=by
 unfold zcB
 by_cases c:b < a
 .left;rw[t5 c,t6 (by omega)];exact⟨rfl,c⟩
 .by_cases c2:b > a
  .right;left;rw[t6 c,t5 c2];exact⟨rfl,c2⟩
  .right;right;omega
theorem za1 {ns:List Int}{k:Nat}(h:k < ns.length):vAt ns (k:Int)=ns[k]:=by
 unfold vAt
 rw[show((k:Int)).toNat=k by omega,j4,u5 h]
 rfl
section
variable {n:Nat}{ns:List Int}{ts:List Tie}
theorem ZY (h:Ye n ns){i j:Nat}(hi:i < n)(hj:j < n)(hij:i≠j):vAt ns (i:Int)≠vAt ns (j:Int):=by
 have hl:=h.len
 rw[za1 (by omega),za1 (by omega)]
 intro e
 exact hij ((u2d h.nd).mp e)
theorem zbS (h:Ye n ns){i:Nat}(hi:i < n):0<=vAt ns (i:Int)/\vAt ns (i:Int) < (n:Int):=by
 have hl:=h.len
 rw[za1 (by omega)]
 exact(h.mem _).mp (u0D _)
theorem VO.rng (h:Ye n ns)(g:VO ns ts)(hl:ts.length < n):∀ t∈ts,0<=t.1/\t.1 < t.2/\t.2 < (n:Int):=by
 intro t ht
 obtain⟨s,hs⟩:=List.mem_iff_getElem?.mp ht
 obtain⟨j,hj,rfl⟩:=g s t hs
 have hsl:s < ts.length:=(t8.mp hs).1
 have ne:=ZY h (i:=s+1) (j:=j) (by omega) (by omega) (by omega)
 have r1:=zbS h (i:=s+1) (by omega)
 have r2:=zbS h (i:=j) (by omega)
 rcases ZU (vAt ns ((s+1:Nat):Int)) (vAt ns (j:Int))with ⟨e,c⟩ | ⟨e,c⟩ | e
 .rw[e];exact⟨r2.1,c,r1.2⟩
 .rw[e];exact⟨r1.1,c,r2.2⟩
 .exact absurd e ne
theorem VO.nodup (h:Ye n ns)(g:VO ns ts)(hl:ts.length < n):ts.Nodup:=by
  rw [u0h,u0S]
  intro s s' hs hs' hlt e
  obtain ⟨j,hj,e1⟩:=g s ts[s] (u5 hs)
  obtain ⟨j',hj',e2⟩:=g s' ts[s'] (u5 hs')
  rw [e1,e2] at e
  have n1:=ZY h (i:=s'+1) (j:=s+1) (by omega) (by omega) (by omega)
  have n2:=ZY h (i:=s'+1) (j:=j) (by omega) (by omega) (by omega)
  have n3:=ZY h (i:=s+1) (j:=j) (by omega) (by omega) (by omega)
  have n4:=ZY h (i:=s'+1) (j:=j') (by omega) (by omega) (by omega)
  generalize vAt ns ((s'+1:Nat):Int)=a' at *
  generalize vAt ns ((s+1:Nat):Int)=a at *
  generalize vAt ns (j:Int)=b at *
  generalize vAt ns (j':Int)=b' at *
  rcases ZU a b with ⟨x1,c1⟩ | ⟨x1,c1⟩ | x1 <;> rcases ZU a' b' with ⟨x2,c2⟩ | ⟨x2,c2⟩ | x2 <;> first
    | exact n3 x1
    | exact n4 x2
    | (rw [x1,x2] at e
       have f1:=u0U Prod.fst e
       have f2:=u0U Prod.snd e
       simp only at f1 f2
       first | exact n1 f1.symm | exact n1 f2.symm | exact n2 f1.symm | exact n2 f2.symm)
theorem VO.snoc (g:VO ns ts){j:Nat}(hj:j<=ts.length){t:Tie}(ht:t=zcB (vAt ns ((ts.length+1:Nat):Int)) (vAt ns (j:Int))):VO ns (ts++[t]):=by
 intro s u hs
 by_cases c:s < ts.length
 .rw[u0l c]at hs
  exact g s u hs
 .rw[u0y (by omega)]at hs
  by_cases c2:s=ts.length
  .subst c2
   simp at hs
   exact⟨j,hj,by rw[<-hs,ht]⟩
  .rw[u0F (by simp;omega)]at hs
   cases hs
theorem VO.joined (h:Ye n ns)(g:VO ns ts)(hl:ts.length+1=n){us:List Tie}(hp:us.Perm ts):vR (n:Int) us:=by
 have key:∀ s:Nat,s < n->∃ k,xP us (vAt ns ((0:Nat):Int)) k (vAt ns (s:Int)):=by
  intro s
  induction s using Nat.strongRecOn with
  | _ s ih =>
   intro hs
   cases s with
   | zero=>exact⟨0,.zero⟩
   | succ s =>
    have hsl:s < ts.length:=by omega
    obtain⟨j,hj,e⟩:=g s ts[s] (u5 hsl)
    obtain⟨k,r⟩:=ih j (by omega) (by omega)
    refine⟨k+1,.step r ?_⟩
    have hm:zcB (vAt ns ((s+1:Nat):Int)) (vAt ns (j:Int))∈us:=by
     rw[<-e]
     exact hp.mem_iff.mpr (u0D hsl)
    have ne:=ZY h (i:=s+1) (j:=j) (by omega) (by omega) (by omega)
    rcases ZU (vAt ns ((s+1:Nat):Int)) (vAt ns (j:Int))with ⟨x,c⟩ | ⟨x,c⟩ | x
    .rw[x]at hm;exact .inl hm
    .rw[x]at hm;exact .inr hm
    .exact absurd x ne
 have all:∀ v:Int,0<=v/\v < (n:Int)->∃ k,xP us (vAt ns ((0:Nat):Int)) k v:=λv hv=>by
  obtain⟨s,hs⟩:=List.mem_iff_getElem?.mp ((h.mem v).mpr hv)
  obtain⟨hs1,hs2⟩:=t8.mp hs
  have hlen:=h.len
  obtain⟨k,r⟩:=key s (by omega)
  rw[za1 hs1,hs2]at r
  exact⟨k,r⟩
 intro p v hp' hv
 obtain⟨k,r⟩:=all p hp'
 obtain⟨j,r2⟩:=all v hv
 exact⟨_,r.back.cat r2⟩
end
def wA:SE->Ctl :=
 (zI (y9 false 7 (zm vG (zc 6) (zc 4)))
  (zI (y9 false 6 (zm vy (zc 6) (zc 4)))
  (zI (sIf (tOf (zm V5 (zm vG (zm vy (zc 0) (zc 1)) (eC (.int 2))) (eC (.int 1)))) (y9 false 7 (eFn zex (zb (eC (.int 0)) (zb (zm XC (zm XC (zc 4) (eC (.int 1))) (zm vG (zo 2 zL (zb (zc 0) (zb (zm vv (eC (.int 60)) (zc 4)) zq))) (eC (.int 3)))) zq)))) yk)
  (WW false 5 (Z1 (zb (eFn zgN (zb (zm ixD (zc 3) (zc 4)) (zb (zm ixD (zc 3) (zc 7)) zq))) (zb (eFn zex (zb (zm ixD (zc 3) (zc 4)) (zb (zm ixD (zc 3) (zc 7)) zq))) zq)))))))
def wB:SE->Ctl :=
 (zlJ false 3 (zm vG (zo 2 zL (zb (zc 0) (zb (zm vv (eC (.int 40)) (zc 4)) zq))) (zm vv (zc 4) (eC (.int 1)))) (zc 4))
def xi:SE->Ctl :=
 (zI (y9 false 2 (zm vv (eC (.int 1)) (zm vG (zc 0) (zc 1))))
  (zI (Zc 3 (yq zq))
  (zI (xT Yi (zb (zc 2) zq) (yw 4) wB)
  (sFz 3 (zI (Zc 5 (yq zq))
  (zI (y9 false 6 (zm vy (zc 0) (zc 1)))
  (zI (xT za4 (zb (eC (.int 1)) (zb (zc 2) zq)) (yw 4) wA)
  (sFz 5 (yO (Z1 (zb (zc 2) (zb (eFn ym (zb (wd (fFn ze1 (zb (zc 5) zq))) zq)) zq))))))))))))
def v7:List D->Option D:=fnD 8 xi
theorem zel {c mo:Int}(h1:1<=mo)(h8:mo<=8):∃ ts,v7 [.int c,.int mo]=some (zp (1+c % mo) ts)/\zG (1+c % mo) ts/\vR (1+c % mo) ts/\(ts.length:Int)=1+c % mo - 1:=by
 obtain⟨g1,g2⟩:=y8 (a:=c) (zdS h1) rfl
 obtain⟨n,hn⟩:∃ n:Nat,1+c % mo=((n+1:Nat):Int):=⟨(c % mo).toNat,by omega⟩
 obtain⟨m,hm⟩:∃ m:Int,1+c % mo=m:=⟨_,rfl⟩
 obtain⟨lf,hlf⟩:∃ lf:Int,c / mo=lf:=⟨_,rfl⟩
 rw[hm]
 rw[hm]at hn
 have hmp:=zdS h1
 have hn7:n<=7:=by omega
 have hmB:mo < 1606938044258990275541962092341162602522202993782792835301376:=by omega
 clear g1 g2 h8
 have key:=zgW (m:=8) (g:=xi) (ds:=[.int c,.int mo]) (R:=λd=>∃ (ns:List Int) (ts:List Tie),d=zp m (zaN ts)/\Ye (n+1) ns/\VO ns ts/\ts.length=n) (ρ:=[.v (.int c),.v (.int mo),.no,.no,.no,.no,.no,.no]) rfl ?_
 .obtain⟨d,e,ns,ts,rfl,hnm,hg,hl⟩:=key
  have hp:=zao ts
  refine⟨_,e,⟨by omega,by omega,λt ht=>?_,zbP (hg.nodup hnm (by omega))⟩,?_,by rw[hp.length_eq];omega⟩
  .have:=hg.rng hnm (by omega) t (hp.mem_iff.mp ht)
   rw[hn]
   exact this
  .rw[hn]
   exact hg.joined hnm (by omega) hp
 unfold xi
 have es:∀ k:Int,zL [.int c,.int k]=some (.int (WU c k)):=λk=>rfl
 have e0:vG (.int c) (.int mo)=some (.int (c % mo)):=yQ hmp
 have e1:vy (.int c) (.int mo)=some (.int lf):=by rw[W6 hmp hmB,hlf]
 refine zt (ρ':=[.v (.int c),.v (.int mo),.v (.int m),.no,.no,.no,.no,.no]) (by simp[y9,vEv,visF,Sl.f,zm,zc,eC,e0,yA,hm]) ?_
 refine zt (ρ':=[.v (.int c),.v (.int mo),.v (.int m),.o (([]:List Int).map .int),.no,.no,.no,.no]) rfl ?_
 refine yJ (X3 (lo:=0) (c:=n+1) (λi ρ=>∃ (ns:List Int) (o4:Sl),ρ=[.v (.int c),.v (.int mo),.v (.int m),.o (ns.map .int),o4,.no,.no,.no]/\Ye i ns) ?_ ⟨[],_,rfl,rfl,List.nodup_nil,λx=>by simp <;> omega⟩ ?_ ?_)
 .show Yi [.int m]=_
  exact zlC hn hn7
 .rintro i ρ hi ⟨ns,o4,rfl,hnm⟩
  obtain⟨x,hx⟩:∃ x:Int,(0:Int)+(i:Int)=x:=⟨_,rfl⟩
  rw[hx]
  refine⟨_,rfl,?_⟩
  unfold wB
  obtain⟨j,hj⟩:∃ j:Int,WU c (40+x) % (x+1)=j:=⟨_,rfl⟩
  have x1:0 < x+1:=by omega
  obtain⟨j0,j1⟩:=y8 x1 hj
  have m1:vG (.int (WU c (40+x))) (.int (x+1))=some (.int j):=by rw[yQ x1,hj]
  have a1:vv (.int 40) (.int x)=some (.int (40+x)):=rfl
  have a2:vv (.int x) (.int 1)=some (.int (x+1)):=rfl
  have hl:=hnm.len
  refine Zh (ρ':=[.v (.int c),.v (.int mo),.v (.int m),.o ((zkR ns j x).map .int),.v (.int x),.no,.no,.no]) ?_ ⟨_,_,rfl,hnm.ins j (by omega)⟩
  rw[zmO (ds:=ns.map .int) (d:=.int x) (k:=j) ?_ rfl rfl (by rw[u6];omega) j0 (by omega),zhi]
  .rfl
  .have es2:=es (40+x)
   generalize WU c (40+x)=sx at *
   simp[vEv,visF,Sl.f,zm,zo,zb,zq,zc,eC,a1,a2,es2,m1]
 .rintro ρ ⟨ns,o4,rfl,hnm⟩
  have hl:=hnm.len
  refine zdB (ρ':=[.v (.int c),.v (.int mo),.v (.int m),.v (.lst (ns.map .int)),o4,.no,.no,.no]) rfl ?_
  refine zt (ρ':=[.v (.int c),.v (.int mo),.v (.int m),.v (.lst (ns.map .int)),o4,.o (([]:List Tie).map zv),.no,.no]) rfl ?_
  refine zt (ρ':=[.v (.int c),.v (.int mo),.v (.int m),.v (.lst (ns.map .int)),o4,.o (([]:List Tie).map zv),.v (.int lf),.no]) (xf e1) ?_
  refine yJ (X3 (lo:=1) (c:=n) (λi ρ=>∃ (ts:List Tie) (l:Int) (o4 o7:Sl),ρ=[.v (.int c),.v (.int mo),.v (.int m),.v (.lst (ns.map .int)),o4,.o (ts.map zv),.v (.int l),o7]/\VO ns ts/\ts.length=i) ?_ ⟨[],lf,_,_,rfl,λs t h=>by simp at h,rfl⟩ ?_ ?_)
  .show za4 [.int 1,.int m]=_
   exact zl4 hn hn7
  .rintro i ρ hi ⟨ts,l,o4,o7,rfl,hg,hi2⟩
   obtain⟨x,hx⟩:∃ x:Int,(1:Int)+(i:Int)=x:=⟨_,rfl⟩
   rw[hx]
   refine⟨[.v (.int c),.v (.int mo),.v (.int m),.v (.lst (ns.map .int)),.v (.int x),.o (ts.map zv),.v (.int l),o7],rfl,?_⟩
   unfold wA
   have xp:0 < x:=by omega
   have m1:vG (.int l) (.int x)=some (.int (l % x)):=yQ xp
   have m2:vy (.int l) (.int x)=some (.int (l / x)):=W6 xp (by omega)
   refine zt (ρ':=[.v (.int c),.v (.int mo),.v (.int m),.v (.lst (ns.map .int)),.v (.int x),.o (ts.map zv),.v (.int l),.v (.int (l % x))]) (xf m1) ?_
   refine zt (ρ':=[.v (.int c),.v (.int mo),.v (.int m),.v (.lst (ns.map .int)),.v (.int x),.o (ts.map zv),.v (.int (l / x)),.v (.int (l % x))]) (xf m2) ?_
   refine znd (fun ρ=>∃ j:Int,ρ=[.v (.int c),.v (.int mo),.v (.int m),.v (.lst (ns.map .int)),.v (.int x),.o (ts.map zv),.v (.int (l / x)),.v (.int j)]/\0<=j/\j < x) ?_ ?_
   .have m3:vG (.int lf) (.int 2)=some (.int (lf % 2)):=yQ (by decide)
    have q1:V5 (.int (lf % 2)) (.int 1)=some (.bl (decide (lf % 2=1))):=rfl
    refine W3 (c:=decide (lf % 2=1)) (by simp[tOf,zm,zc,visG,Sl.g,eC,e1,m3,q1,asB]) (λ_=>?_) (λ_=>Zh rfl ⟨_,rfl,(y8 xp rfl).1,(y8 xp rfl).2⟩)
    obtain⟨r,hr⟩:∃ r:Int,WU c (60+x) % 3=r:=⟨_,rfl⟩
    have r0:=(y8 (by decide) hr).1
    have m4:vG (.int (WU c (60+x))) (.int 3)=some (.int r):=by rw[yQ (by decide),hr]
    have a1:vv (.int 60) (.int x)=some (.int (60+x)):=rfl
    have s1:XC (.int x) (.int 1)=some (.int (x - 1)):=rfl
    have s2:XC (.int (x - 1)) (.int r)=some (.int (x - 1 - r)):=rfl
    have x1:zex [.int 0,.int (x - 1 - r)]=some (.int (if x - 1 - r > 0 then x - 1 - r else 0)):=rfl
    refine Zh (ρ':=[.v (.int c),.v (.int mo),.v (.int m),.v (.lst (ns.map .int)),.v (.int x),.o (ts.map zv),.v (.int (l / x)),.v (.int (if x - 1 - r > 0 then x - 1 - r else 0))]) ?_ ⟨_,rfl,by split <;> omega,by split <;> omega⟩
    have es2:=es (60+x)
    generalize WU c (60+x)=sx at *
    generalize (if x - 1 - r > 0 then x - 1 - r else 0)=mx at *
    simp[y9,vEv,visF,Sl.f,eFn,zm,zo,zb,zq,zc,eC,a1,es2,m4,s1,s2,x1]
   .rintro ρ ⟨j,rfl,j0,j1⟩
    have ex:=Va (ns:=ns) (i:=x) (by omega) (by omega)
    have ej:=Va (ns:=ns) (i:=j) (by omega) (by omega)
    have hmin:zgN [.int (vAt ns x),.int (vAt ns j)]=some (.int (zcB (vAt ns x) (vAt ns j)).1):=rfl
    have hmax:zex [.int (vAt ns x),.int (vAt ns j)]=some (.int (zcB (vAt ns x) (vAt ns j)).2):=rfl
    refine Zh (ρ':=[.v (.int c),.v (.int mo),.v (.int m),.v (.lst (ns.map .int)),.v (.int x),.o ((ts++[zcB (vAt ns x) (vAt ns j)]).map zv),.v (.int (l / x)),.v (.int j)]) ?_ ⟨_,_,_,_,rfl,hg.snoc (j:=j.toNat) (by omega) ?_,by rw[j9,hi2];rfl⟩
    .generalize zcB (vAt ns x) (vAt ns j)=tt at *
     rw[WK (ds:=ts.map zv) (d:=zv tt) ?_ rfl (by rw[u6];omega),e9]
     .rfl
     .simp[vEv,visF,Sl.f,Z1,eFn,zb,zq,zm,zc,ixD,ex,ej,hmin,hmax,xk]
      rfl
    .rw[show((ts.length+1:Nat):Int)=x by omega,show((j.toNat:Nat):Int)=j by omega]
  .rintro ρ ⟨ts,l,o4,o7,rfl,hg,hi2⟩
   have e5:=zek (ts:=ts) (by omega)
   refine zdB (ρ':=[.v (.int c),.v (.int mo),.v (.int m),.v (.lst (ns.map .int)),o4,.v (.lst (ts.map zv)),.v (.int l),o7]) rfl ?_
   refine ZW (d:=zp m (zaN ts)) ?_ ⟨ns,ts,rfl,hnm,hg,hi2⟩
   simp[yO,visG,Sl.g,Z1,eFn,wd,fFn,zb,zq,zc,e5,ym,xk]
   rfl
theorem VJ (T:Txt K mg base ad):y6 P w K mg base CX0 2 ad.f__law_tree_by ad.e__law_tree_by ["cell","most"] (@spD ⟨K⟩ 2 v7):=by
 letI:KK:=⟨K⟩
 have G__law_stir:=Zz (P:=P) (w:=w) (base:=base) T
 refine yC (N:=["cell","most","many","names","k","ties","left","inner"]) (ps:=["cell","most"]) T.d__law_tree_by.fn zF (g:=xi) λcdv A outer s H E hr=>?_
 unfold xi wB wA
 exact(ze (zJ (m:=false) (i:=2) zF.nd rfl (Or.inl rfl) (yp (zg zh) (wy (edv 0) (edv 1))))
  (ze (vg (i:=3) zF.nd rfl (Or.inl rfl) (xV zd))
  (ze (vX b8 rfl rfl T.z_range (za (edv 2) zd) (zS (zz (i:=4) zF.nd rfl (Or.inl rfl))) (zj (zmm (m:=false) (pv 3) (wy (zi G__law_stir hr rfl T.d__law_stir (za (edv 0) (za (yp (zg zh) (edv 4)) zd))) (yp (edv 4) (zg zh))) (edv 4) (λa b=>zab m6 PySem.F.slot_list_insert PySem.F.type_list_insert zf7 a b))))
  (vO 3 (ze (vg (i:=5) zF.nd rfl (Or.inl rfl) (xV zd))
  (ze (zJ (m:=false) (i:=6) zF.nd rfl (Or.inl rfl) (Vd (edv 0) (edv 1)))
  (ze (zia b8 rfl rfl T.z_range (za (zg zh) (za (edv 2) zd)) (zS (zz (i:=4) zF.nd rfl (Or.inl rfl))) (ze (zJ (m:=false) (i:=7) zF.nd rfl (Or.inl rfl) (wy (edv 6) (edv 4)))
  (ze (zJ (m:=false) (i:=6) zF.nd rfl (Or.inl rfl) (Vd (edv 6) (edv 4)))
  (ze (wx (yb (Zp hr) vf (zM _) (wy (Vd (edv 0) (edv 1)) (zg zh)) (zg zh)) (zj (zJ (m:=false) (i:=7) zF.nd rfl (Or.inl rfl) (zH (Vf rfl) zaY rfl T.z_max zcK (za (zg zh) (za (Yr (Yr (edv 4) (zg zh)) (wy (zi G__law_stir hr rfl T.d__law_stir (za (edv 0) (za (yp (zg zh) (edv 4)) zd))) (zg zh))) zd))))) zU)
  (zj (WL (m:=false) (pv 5) (Y9 (za (zH (Vz rfl) za2 rfl T.z_min zd2 (za (zA (edv 3) (edv 4) (λ_ _=>rfl)) (za (zA (edv 3) (edv 7) (λ_ _=>rfl)) zd))) (za (zH (Vf rfl) zaY rfl T.z_max zcK (za (zA (edv 3) (edv 4) (λ_ _=>rfl)) (za (zA (edv 3) (edv 7) (λ_ _=>rfl)) zd))) zd))) (λa b=>zab m6 u0c u0d wt a b)))))))
  (vO 5 (zj (zB (Y9 (za (edv 2) (za (yI zY xK rfl T.z_tuple yM (za (w8 (zho rfl rfl T.z_sorted (za (edv 5) zd))) zd)) zd)))))))))))))
def zW (m:Int)(ts:List Tie)(ks:List Int)(x:Int):List Nat:=(nbN m ts x).filter λo:Nat=>decide (vAt ks x < vAt ks (o:Int))
theorem zbM {m:Int}{ts:List Tie}{x:Int}{o:Nat}(h:o∈nbN m ts x):(o:Int) < m:=by
 unfold nbN at h
 have:=d5.mp (u0a.mp h).1
 omega
theorem zjq {m:Int}{ts:List Tie}{x:Int}(ok:zG m ts):(nbN m ts x).length<=8:=ze8 ok
theorem q_nb {m:Int}{ts:List Tie}{x:Int}(ok:zG m ts):ya [zp m ts,.int x]=some (.lst ((nbN m ts x).map zV)):=by
 simp only[ya]
 rw[t5 ((xE _).mpr ⟨_,_,rfl,ok⟩),Vy,VH]
def vF (m:Int)(ts:List Tie)(ks:List Int)(i:Nat):List D:=(List.range i).map λx:Nat=>.lst ((zW m ts ks (x:Int)).map zV)
def xc:SE->Ctl :=
 (WW false 3 (wd (fLC (iOf (zo 2 ya (zb (zc 0) (zb (zc 4) zq)))) b1 (tOf (zm gtD (zm ixD (zc 3) (zc 0)) (zm ixD (zc 3) (zc 5)))) (zc 0))))
def yL:SE->Ctl :=
 (zI (y9 false 2 (zo 2 wa (zb (zc 0) (zb (zc 1) zq))))
  (zI (Zc 3 (yq zq))
  (zI (xT Yi (zb (zm ixD (zc 0) (eC (.int 0))) zq) (yw 4) xc)
  (sFz 3 (yO (zc 3))))))
def zE:List D->Option D:=fnD 5 yL
theorem XU {m:Int}{ts:List Tie}{p:Int}{ks:List Int}(ok:zG m ts)(hp:0<=p/\p < m)(hks:YX m ts p=ks.map some)(hkl:(ks.length:Int)=m):zE [zp m ts,.int p]=some (.lst (vF m ts ks m.toNat)):=by
 have hm1:=ok.lo
 have hm8:=ok.hi
 have em:ixD (zp m ts) (.int 0)=some (.int m):=rfl
 have e2:=vN ok hp
 rw[hks,W4]at e2
 refine WE (ρ:=[.v (zp m ts),.v (.int p),.no,.no,.no]) rfl ?_
 unfold yL
 refine zt (ρ':=[.v (zp m ts),.v (.int p),.v (.lst (ks.map .int)),.no,.no]) (xf e2) ?_
 refine zt (ρ':=[.v (zp m ts),.v (.int p),.v (.lst (ks.map .int)),.o [],.no]) rfl ?_
 refine yJ (X3 (lo:=0) (c:=m.toNat) (λi ρ=>∃ o4,ρ=[.v (zp m ts),.v (.int p),.v (.lst (ks.map .int)),.o (vF m ts ks i),o4]) ?_ ⟨_,rfl⟩ ?_ ?_)
 .show Yi [.int m]=_
  exact XS ok
 .rintro i ρ hi ⟨o4,rfl⟩
  obtain⟨x,hx⟩:∃ x:Int,(0:Int)+(i:Int)=x:=⟨_,rfl⟩
  rw[hx]
  refine⟨[.v (zp m ts),.v (.int p),.v (.lst (ks.map .int)),.o (vF m ts ks i),.v (.int x)],rfl,?_⟩
  unfold xc
  have hxp:=zhe hi hx
  have ex:=Z4 (ns:=ks) (i:=x) hxp hkl
  have e3:fLC (iOf (zo 2 ya (zb (zc 0) (zb (zc 4) zq)))) b1 (tOf (zm gtD (zm ixD (zc 3) (zc 0)) (zm ixD (zc 3) (zc 5)))) (zc 0) [some (zp m ts),some (.int p),some (.lst (ks.map .int)),none,some (.int x)]=some ((zW m ts ks x).map zV):=by
   unfold fLC
   show((ya [zp m ts,.int x]).bind wF).bind _=_
   rw[q_nb ok]
   show(if lim ((nbN m ts x).map zV).length=true then _ else none)=_
   rw[t5 (zj1 (by rw[u6];exact zjq ok))]
   unfold zW
   refine Wv zV (λo:Nat=>decide (vAt ks x < vAt ks (o:Int))) zV (nbN m ts x) λo ho=>⟨[some (zV o)],rfl,?_,λ_=>rfl⟩
   have ho:=zbM ho
   have eo:=Z4 (ns:=ks) (zdq ho) hkl
   show(((atI (ks.map D.int) (0+(o:Int))).bind λa=>(atI (ks.map D.int) x).bind λb=>gtD a b).bind asB)=_
   rw[eo,ex,u09]
   rfl
  refine Zh (ρ':=[.v (zp m ts),.v (.int p),.v (.lst (ks.map .int)),.o (vF m ts ks (i+1)),.v (.int x)]) ?_ ⟨_,rfl⟩
  rw[WK (ds:=vF m ts ks i) (d:=.lst ((zW m ts ks x).map zV)) ?_ rfl (by unfold vF;rw[u6,g8];omega)]
  .have:vF m ts ks (i+1)=vF m ts ks i++[.lst ((zW m ts ks x).map zV)]:=by
    unfold vF
    rw[u1i,e9]
    rw[show x=(i:Int) by omega]
    rfl
   rw[this]
   rfl
  .simp only[vEv,visF,wd,b9,u3k,Sl.f,u2E,u3y,e3]
   rfl
 .rintro ρ ⟨o4,rfl⟩
  exact zdB (ρ':=[.v (zp m ts),.v (.int p),.v (.lst (ks.map .int)),.v (.lst (vF m ts ks m.toNat)),o4]) rfl (ZW rfl rfl)
theorem ye (T:Txt K mg base ad):y6 P w K mg base CX0 4 ad.f_outer_neighbours ad.e_outer_neighbours ["web","root"] (@spD ⟨K⟩ 2 zE):=by
 letI:KK:=⟨K⟩
 have G_neighbours:=XM (P:=P) (w:=w) (base:=base) T
 have G_ties_away:=vY (P:=P) (w:=w) (base:=base) T
 refine yC (N:=["web","root","away","outer","place"]) (ps:=["web","root"]) T.d_outer_neighbours.fn yE (g:=yL) λcdv A outer s H E hr=>?_
 unfold yL xc
 exact(ze (zJ (m:=false) (i:=2) yE.nd rfl (Or.inr rfl) (zi G_ties_away hr rfl T.d_ties_away (za (edv 0) (za (edv 1) zd))))
  (ze (vg (i:=3) yE.nd rfl (Or.inl rfl) (xV zd))
  (ze (vX b8 rfl rfl T.z_range (za (zA (edv 0) (zg zh) (λ_ _=>rfl)) zd) (zS (zz (i:=4) yE.nd rfl (Or.inr rfl))) (zj (WL (m:=false) (pv 3) (w8 (zfw (L:=["other"]) (M:=["web","root","away","outer","place"]) rfl (Xg (by rfl) (by rfl) (by rfl) (by with_unfolding_all rfl) (by rfl) (by rfl) (by kernel_rfl) (all_cons rfl (all_cons rfl xM))) (Y5 (zi G_neighbours hr rfl T.d_neighbours (za (edv 0) (za (edv 4) zd)))) gs1 rb1 (λ_ _ _ _=>(zz (i:=0) zng rfl (Or.inl rfl) (.inr rfl))) (λ_ _ _ _=>(yb zaZ yi (zM _) (zA (edv 3) (edv 0) (λ_ _=>rfl)) (zA (edv 3) (edv 5) (λ_ _=>rfl)))) (λ_ _ _ _=>(edv 0)))) (λa b=>zab m6 u0c u0d wt a b))))
  (vO 3 (zj (zB (edv 3)))))))
theorem zP {m:Int}{ts:List Tie}{ks:List Int}{x:Int}{o:Nat}(h:o∈zW m ts ks x):(o:Int) < m:=zbM (u0a.mp h).1
theorem zaL {m:Int}{ts:List Tie}{ks:List Int}{x:Int}(ok:zG m ts):(zW m ts ks x).length<=8:=by
 unfold zW
 exact m8 (u13 _ _) (zjq ok)
theorem znY {i:Ev->Option (List D)}{ρ:Ev}{os:List Nat}{cs:List Int}{m:Int}{k:Nat}{d:D}(hi:i ρ=some (os.map zV))(hk:ρ[k]?=some (some d))(hd:∀ j,ixD d (.int j)=atI (cs.map D.int) j)(hl:(cs.length:Int)=m)(ho:∀ o∈os,(o:Int) < m)(h8:os.length<=8):fLC i b1 xw (zm ixD (zc (k+1)) (zc 0)) ρ=some ((os.map λo:Nat=>vAt cs (o:Int)).map .int):=by
 unfold fLC
 rw[hi]
 show(if lim (os.map zV).length=true then _ else none)=_
 rw[t5 (zj1 (by rw[u6];exact h8)),m7]
 refine Zd zV _ os λo hm=>⟨[some (zV o)],rfl,rfl,?_⟩
 have:=ho o hm
 have eo:=Z4 (ns:=cs) (zdq this) hl
 have e1:zc (k+1) ([some (zV o)]++ρ)=some d:=by
  show((some (zV o)::ρ)[k+1]?).getD none=_
  rw[List.getElem?_cons_succ,hk]
  rfl
 show(zc (k+1) ([some (zV o)]++ρ)).bind (λa=>ixD a (.int (0+(o:Int))))=_
 rw[e1,d9,hd,eo,u09]
 rfl
theorem ZB {α β:Type}{f:α->β}{l:List α}(h:∀ a∈l,∀ b∈l,f a=f b->a=b)(nd:l.Nodup):(l.map f).Nodup:=by
 rw[u0h,u0u]
 exact u1y (λha hb hne e=>hne (h _ ha _ hb e)) nd
def xq:SE->Ctl :=
 (zI (XL (zo 1 zN (zb (zc 0) zq)))
  (zI (XL (zo 2 xn (zb (zc 0) (zb (zc 1) zq))))
  (zI (XL (zo 2 yu (zb (zc 0) (zb (zc 2) zq))))
  (XL (zo 1 wk (zb (zc 0) zq))))))
def yG:List D->Option D:=fnD 3 xq
theorem VM {m:Int}{ts:List Tie}{p:Int}{hs:List Int}(ok:zG m ts)(hj:vR m ts)(htl:(ts.length:Int)=m - 1)(hp:0<=p/\p < m)(hl:(hs.length:Int)=m)(hnn:∀ x∈hs,0<=x)(hsum:hs.sum<=300):yG [zp m ts,.tup (hs.map .int),.int p]=some .non:=by
 have hw:vQ (zp m ts)=true:=(xE _).mpr ⟨_,_,rfl,ok⟩
 have e1:zN [zp m ts]=some .non:=by simp[zN,hw]
 have e2:xn [zp m ts,.tup (hs.map .int)]=some .non:=by
  show(if (noS (.tup (hs.map .int))&&decide (m<=1000)&&Xn m (.tup (hs.map .int)))=true then some D.non else none)=_
  rw[zdO,zb6 ok,zeT hl hnn hsum]
  rfl
 have e3:=zaC (ts:=ts) hp
 have e4:=ZF ok hj htl
 refine WE (ρ:=[.v (zp m ts),.v (.tup (hs.map .int)),.v (.int p)]) rfl ?_
 unfold xq
 refine zt (ρ':=[.v (zp m ts),.v (.tup (hs.map .int)),.v (.int p)]) (wC e1) ?_
 refine zt (ρ':=[.v (zp m ts),.v (.tup (hs.map .int)),.v (.int p)]) (wC e2) ?_
 refine zt (ρ':=[.v (zp m ts),.v (.tup (hs.map .int)),.v (.int p)]) (wC e3) ?_
 exact Zh (ρ':=[.v (zp m ts),.v (.tup (hs.map .int)),.v (.int p)]) (wC e4) rfl
theorem xX (T:Txt K mg base ad):y6 P w K mg base CX0 12 ad.f_must_be_rooted ad.e_must_be_rooted ["web","heap","place"] (@spD ⟨K⟩ 3 yG):=by
 letI:KK:=⟨K⟩
 have G_must_be_web:=Yf (P:=P) (w:=w) (base:=base) T
 have G_must_be_place:=Y4 (P:=P) (w:=w) (base:=base) T
 have G_must_be_tree:=ZD (P:=P) (w:=w) (base:=base) T
 have G_must_be_heap:=Vq (P:=P) (w:=w) (base:=base) T
 refine yC (N:=["web","heap","place"]) (ps:=["web","heap","place"]) T.d_must_be_rooted.fn Wr (g:=xq) λcdv A outer s H E hr=>?_
 unfold xq
 exact(ze (wH (zi G_must_be_web hr rfl T.d_must_be_web (za (edv 0) zd)))
  (ze (wH (zi G_must_be_heap hr rfl T.d_must_be_heap (za (edv 0) (za (edv 1) zd))))
  (ze (wH (zi G_must_be_place hr rfl T.d_must_be_place (za (edv 0) (za (edv 2) zd))))
  (zj (wH (zi G_must_be_tree hr rfl T.d_must_be_tree (za (edv 0) zd)))))))
theorem wV {ns:List Int}{i j x:Int}(hi:0<=i)(hl:i < ns.length)(hj:0<=j):vAt (ns.set i.toNat x) j=if j=i then x else vAt ns j:=by
 unfold vAt
 rw[j4,j4,u0G]
 by_cases h:j=i
 .subst h
  rw[t5 rfl,t5 rfl,t5 (by omega)]
  rfl
 .rw[t6 h,t6 (by omega)]
def YV (m:Int)(ts:List Tie)(ks cs:List Int)(x:Int):List Int:=(zW m ts ks x).map λo:Nat=>vAt cs (o:Int)
def EqA (F:Int->List Int->Int)(m:Int)(ts:List Tie)(ks cs:List Int)(x:Int):Prop:=vAt cs x=F x (YV m ts ks cs x)
theorem yf {m:Int}{ts:List Tie}{ks:List Int}{x:Int}{o:Nat}(h:o∈zW m ts ks x):vAt ks x < vAt ks (o:Int):=o0 (u0a.mp h).2
theorem zdQ {m x v:Int}{ts:List Tie}{ks cs:List Int}{y:Int}(h0:0<=x)(h1:x < cs.length)(h:∀ o∈zW m ts ks y,(o:Int)≠x):YV m ts ks (cs.set x.toNat v) y=YV m ts ks cs y:=by
 refine p4 λo ho=>?_
 rw[wV h0 h1 (by omega),t6 (h o ho)]
theorem zkJ {F:Int->List Int->Int}{m x:Int}{ts:List Tie}{ks cs:List Int}{S:Int->Prop}(hS:∀ y,S y->0<=y/\EqA F m ts ks cs y)(hcl:∀ y,S y->∀ o∈zW m ts ks y,S (o:Int))(hx:¬ S x)(hxo:∀ o∈zW m ts ks x,S (o:Int))(h0:0<=x)(h1:x < cs.length) :
 ∀ y,S y\/y=x->0<=y/\EqA F m ts ks (cs.set x.toNat (F x (YV m ts ks cs x))) y:=by
 intro y hy
 have ne:∀ o:Nat,S (o:Int)->(o:Int)≠x:=λo ho z=>hx (z ▸ ho)
 rcases hy with hy | rfl
 .refine⟨(hS y hy).1,?_⟩
  unfold EqA
  rw[zdQ h0 h1 λo ho=>ne o (hcl y hy o ho),wV h0 h1 (hS y hy).1,t6 (λz=>by rw[z]at hy;exact hx hy)]
  exact(hS y hy).2
 .refine⟨h0,?_⟩
  unfold EqA
  rw[zdQ h0 h1 λo ho=>ne o (hxo o ho),wV h0 h1 h0,t5 rfl]
def zkC (a:Nat->Int)(x y:Nat):Prop:=a x < a y\/a x=a y/\x < y
theorem zbl {a:Nat->Int}{x y:Nat}(h:zkC a x y):a x<=a y:=h.elim (λh=>Int.le_of_lt h) λh=>Int.le_of_eq h.1
theorem lex2 {a b c d:Int}(h:HT.lexLt [c,d] [a,b]=false):a < c\/a=c/\b<=d:=by
 rw[HT.lexLt_cons]at h
 by_cases h2:c=a
 .rw[t5 h2,HT.lexLt_cons]at h
  by_cases h3:d=b
  .omega
  .rw[t6 h3]at h
   have:=u05 h
   omega
 .rw[t6 h2]at h
  have:=u05 h
  omega
theorem zcj (n:Nat)(a:Nat->Int):∃ L:List Nat,Zx ((List.range n).map λx=>[a x,(x:Int)]) ((List.range n).map λk:Nat=>D.int (k:Int))=L.map (λx:Nat=>D.int (x:Int))/\L.Perm (List.range n)/\L.Pairwise (zkC a):=by
 obtain⟨f,hf⟩:∃ f:Nat->List Int,f=λx=>[a x,(x:Int)]:=⟨_,rfl⟩
 obtain⟨g,hg⟩:∃ g:List Int->Nat,g=λt=>(t.getD 1 0).toNat:=⟨_,rfl⟩
 have hgf:∀ x,g (f x)=x:=λx=>by rw[hg,hf];rfl
 have inj:∀ x y,f x=f y->x=y:=λx y e=>by rw[<-hgf x,e,hgf]
 have p:=XA ((List.range n).map f)
 have r:=Xu ((List.range n).map f)
 have nd:((List.range n).map f).Nodup:=by
  rw[u0h,u0u]
  exact u0s.imp λh e=>h (inj _ _ e)
 have hM:((yP ((List.range n).map f)).map g).map f=yP ((List.range n).map f):=by
  rw[m7]
  have:(yP ((List.range n).map f)).map (f ∘ g)=(yP ((List.range n).map f)).map id:=by
   refine p4 λt ht=>?_
   obtain⟨x,_,rfl⟩:=u0g.mp (p.mem_iff.mp ht)
   show f (g (f x))=f x
   rw[hgf]
  rw[this,u1v]
 have pM:((yP ((List.range n).map f)).map g).Perm (List.range n):=by
  have:=p.map g
  rw[m7]at this
  have e:(List.range n).map (g ∘ f)=List.range n:=by
   have:(List.range n).map (g ∘ f)=(List.range n).map id:=p4 λx _=>hgf x
   rw[this,u1v]
  rwa[e]at this
 have hgoal:∃ L:List Nat,Zx ((List.range n).map f) ((List.range n).map λk:Nat=>D.int (k:Int))=L.map (λx:Nat=>D.int (x:Int))/\L.Perm (List.range n)/\L.Pairwise (zkC a):=by
  refine⟨(yP ((List.range n).map f)).map g,?_,pM,?_⟩
  .unfold Zx
   conv=>lhs;rw[<-hM]
   rw[m7]
   refine p4 λx hx=>?_
   have hx:=d5.mp (pM.mem_iff.mp hx)
   have hl:x < ((List.range n).map f).length:=by rw[u6,g8];exact hx
   have e1:((List.range n).map f)[x]=f x:=by rw[u1t,u2F]
   have e2:((List.range n).map f).idxOf (f x)=x:=by
    have:=nd.idxOf_getElem x hl
    rw[e1]at this
    exact this
   show((List.range n).map λk:Nat=>D.int (k:Int)).getD (((List.range n).map f).idxOf (f x)) .non=D.int (x:Int)
   rw[e2,j4,j5,u0E hx]
   rfl
  .have nM:((yP ((List.range n).map f)).map g).Nodup:=pM.nodup_iff.mpr u0s
   rw[<-hM,u0u]at r
   refine(r.and nM).imp λ{x y} h=>?_
   obtain⟨h1,h2⟩:=h
   rw[hf]at h1
   rcases lex2 h1 with h3 | ⟨h3,h4⟩
   .exact .inl h3
   .exact .inr ⟨h3,by omega⟩
 rw[hf]at hgoal
 exact hgoal
theorem zc2 {g:Ev->Option D}{ρ:Ev}{a:Nat->Int}:∀ (l:List Nat),(∀ x∈l,g (some (.int (x:Int))::ρ)=some (.tup [.int (a x),.int (x:Int)]))->zcZ g ρ (l.map λk:Nat=>D.int (k:Int))=some (l.map λx=>[a x,(x:Int)]):=by
 intro l
 induction l with
 | nil=>intro _;rfl
 | cons x l ih =>
  intro h
  have e:=h x (.head _)
  have r:=ih λy hy=>h y (.tail _ hy)
  show(g (some (.int (x:Int))::ρ)).bind _=_
  rw[e,d9]
  show(zai [.int (a x),.int (x:Int)]).bind _=_
  rw[show zai [.int (a x),.int (x:Int)]=some [a x,(x:Int)]from rfl,d9,t6 (by simp),r]
  rfl
theorem zb8 {f g:Ev->Option D}{ρ:Ev}{m:Int}{a:Nat->Int}(hf:f ρ=some (.int m))(h0:0<=m)(h1:m<=60)(hg:∀ x:Nat,(x:Int) < m->g (some (.int (x:Int))::ρ)=some (.tup [.int (a x),.int (x:Int)])) :
 ∃ L:List Nat,zcy f g ρ=some (L.map λx:Nat=>D.int (x:Int))/\L.Perm (List.range m.toNat)/\L.Pairwise (zkC a):=by
 obtain⟨L,e,p,s⟩:=zcj m.toNat a
 refine⟨L,?_,p,s⟩
 unfold zcy
 rw[hf,d9,show lrD (.int m)=some ((List.range m.toNat).map λk:Nat=>.int (k:Int))from t5 ⟨h0,h1⟩,d9,zc2 (a:=a) _ λx hx=>hg x (by have:=d5.mp hx;omega),d9,t5,e]
 rw[u0h,u0u]
 refine u0s.imp λh e=>h ?_
 have:=(u0R (u0R e).2).1
 omega
def Swp (R:List Nat)(i:Nat)(y:Int):Prop:=∃ k o:Nat,k < i/\R[k]?=some o/\y=(o:Int)
theorem ziv {R:List Nat}{i x:Nat}(h:R[i]?=some x){y:Int}(hy:Swp R (i+1) y):Swp R i y\/y=(x:Int):=by
 obtain⟨k,o,hk,ho,rfl⟩:=hy
 by_cases c:k=i
 .subst c
  rw[h]at ho
  cases ho
  exact .inr rfl
 .exact .inl ⟨k,o,by omega,ho,rfl⟩
structure zc1 (m:Int) (ts:List Tie) (ks:List Int) (R:List Nat):Prop where
 perm:R.Perm (List.range m.toNat)
 down:R.Pairwise λx y:Nat=>vAt ks (y:Int)<=vAt ks (x:Int)
theorem zc1.mem {m:Int}{ts:List Tie}{ks:List Int}{R:List Nat}(h:zc1 m ts ks R){x:Nat}:x∈R↔(x:Int) < m:=by rw[h.perm.mem_iff,d5];omega
theorem zc1.nodup {m:Int}{ts:List Tie}{ks:List Int}{R:List Nat}(h:zc1 m ts ks R):R.Nodup:=h.perm.nodup_iff.mpr u0s
theorem zc1.out {m:Int}{ts:List Tie}{ks:List Int}{R:List Nat}(h:zc1 m ts ks R){i x o:Nat}(hx:R[i]?=some x)(ho:o∈zW m ts ks (x:Int)):∃ k,k < i/\R[k]?=some o:=by
 obtain⟨k,hk,e⟩:=d6 (h.mem.mpr (zP ho))
 have far:=yf ho
 refine⟨k,?_,by rw[u5 hk,e]⟩
 obtain⟨hi,ex⟩:=t8.mp hx
 by_cases c:k < i
 .exact c
 .by_cases c2:k=i
  .subst c2
   rw[ex]at e
   subst e
   omega
  .have:=u0S.mp h.down i k hi hk (by omega)
   rw[ex,e]at this
   omega
theorem zc1.step {F:Int->List Int->Int}{m:Int}{ts:List Tie}{ks cs:List Int}{R:List Nat}(h:zc1 m ts ks R){i x:Nat}(hx:R[i]?=some x)(hl:(cs.length:Int)=m)(hS:∀ y,Swp R i y->0<=y/\EqA F m ts ks cs y) :
 ∀ y,Swp R (i+1) y->0<=y/\EqA F m ts ks (cs.set x (F (x:Int) (YV m ts ks cs (x:Int)))) y:=by
 intro y hy
 have hxm:(x:Int) < m:=h.mem.mp (r8 hx)
 refine zkJ (x:=(x:Int)) (S:=Swp R i) hS ?_ ?_ ?_ (by omega) (by omega) y (ziv hx hy)
 .rintro y ⟨k,o,hk,ho,rfl⟩ o' ho'
  obtain⟨k',hk',e'⟩:=h.out ho ho'
  exact⟨k',o',by omega,e',rfl⟩
 .rintro⟨k,o,hk,ho,e⟩
  have e:x=o:=by omega
  subst e
  obtain⟨h1,e1⟩:=t8.mp hx
  obtain⟨h2,e2⟩:=t8.mp ho
  have:=(u2d h.nodup).mp (e1.trans e2.symm)
  omega
 .intro o ho
  obtain⟨k',hk',e'⟩:=h.out hx ho
  exact⟨k',o,hk',e',rfl⟩
theorem zc1.fin {F:Int->List Int->Int}{m:Int}{ts:List Tie}{ks cs:List Int}{R:List Nat}(h:zc1 m ts ks R)(hS:∀ y,Swp R R.length y->0<=y/\EqA F m ts ks cs y):∀ x:Int,0<=x->x < m->EqA F m ts ks cs x:=by
 intro x h0 h1
 obtain⟨k,hk,e⟩:=d6 (h.mem.mpr (show((x.toNat:Nat):Int) < m by omega))
 exact(hS x ⟨k,x.toNat,hk,by rw[u5 hk,e],by omega⟩).2
def ZZ:SE->Ctl :=
 (zI (y9 false 2 (zo 2 wa (zb (zc 0) (zb (zc 1) zq))))
  (yO (wd (zcy (zm ixD (zc 0) (eC (.int 0))) (Z1 (zb (zm ixD (zc 3) (zc 0)) (zb (zc 0) zq)))))))
def p_outwards:List D->Option D:=fnD 3 ZZ
theorem VS {m:Int}{ts:List Tie}{p:Int}{ks:List Int}(ok:zG m ts)(hp:0<=p/\p < m)(hks:YX m ts p=ks.map some)(hkl:(ks.length:Int)=m):∃ L:List Nat,p_outwards [zp m ts,.int p]=some (.lst (L.map λx:Nat=>.int (x:Int)))/\zc1 m ts ks L.reverse:=by
 have hm1:=ok.lo
 have hm8:=ok.hi
 have e2:=vN ok hp
 rw[hks,W4]at e2
 obtain⟨L,e,pm,sr⟩:=zb8 (f:=zm ixD (zc 0) (eC (.int 0))) (g:=Z1 (zb (zm ixD (zc 3) (zc 0)) (zb (zc 0) zq))) (ρ:=visG [.v (zp m ts),.v (.int p),.v (.lst (ks.map .int))]) (m:=m) (a:=λx=>vAt ks (x:Int)) rfl (by omega) (by omega) (λx hx=>by
  refine VY (zy (zr (x:=.lst (ks.map .int)) (y:=.int (x:Int)) rfl rfl (Z4 (ns:=ks) ⟨by omega,hx⟩ hkl)) (zy rfl yj)) (by show 2<=1000;decide))
 refine⟨L,?_,(List.reverse_perm L).trans pm,List.pairwise_reverse.mpr (sr.imp zbl)⟩
 refine WE (ρ:=[.v (zp m ts),.v (.int p),.no]) rfl ?_
 unfold ZZ
 refine zt (ρ':=[.v (zp m ts),.v (.int p),.v (.lst (ks.map .int))]) (yH (ds:=[zp m ts,.int p]) rfl e2) ?_
 exact ZW (Yg (ZH e)) rfl
theorem Vw (T:Txt K mg base ad):y6 P w K mg base CX0 5 ad.f_outwards ad.e_outwards ["web","root"] (@spD ⟨K⟩ 2 p_outwards):=by
 letI:KK:=⟨K⟩
 have G_ties_away:=vY (P:=P) (w:=w) (base:=base) T
 refine zjh (N:=["web","root","away"]) (ps:=["web","root"]) T.lc_outwards T.d_outwards.fn Vu (g:=ZZ) λA outer s H E hr=>?_
 unfold ZZ
 exact(ze (zJ (m:=false) (i:=2) Vu.nd rfl (Or.inr rfl) (zi G_ties_away hr rfl T.d_ties_away (za (edv 0) (za (edv 1) zd))))
  (zj (zB (w8 (zdT (x:="place") (M:=["web","root","away"]) hr rfl T.z_sorted rfl T.z_range (zA (edv 0) (zg zh) (λ_ _=>rfl)) T.la_outwards rfl (zec (by rfl) (by rfl) (by rfl) (by with_unfolding_all rfl) (by rfl) (by rfl) (by rfl) (by rfl) (by rfl) (by kernel_rfl) (all_cons rfl xM)) rfl (by kernel_rfl) (λ_ _ _ _=>rfl) (λ_ _ _ _ _=>(Y9 (za (zA (edv 3) (edv 0) (λ_ _=>rfl)) (za (edv 0) zd)))))))))
theorem zhk {α:Type}[DecidableEq α]:∀ {l k:List α},l.Nodup->(∀ x∈l,x∈k)->l.length<=k.length:=by
 intro l
 induction l with
 | nil=>intro k _ _;exact u0m _
 | cons a l ih =>
  intro k nd h
  obtain⟨h1,h2⟩:=u0i.mp nd
  have:=ih (k:=k.erase a) h2 λx hx=>by
   have ne:x≠a:=λe=>h1 (e ▸ hx)
   exact(List.mem_erase_of_ne ne).mpr (h x (.tail _ hx))
  rw[u1B (h a (.head _))]at this
  have hp:=List.length_pos_of_mem (h a (.head _))
  show l.length+1<=k.length
  omega
theorem zcp {α:Type}[DecidableEq α]:∀ {l k:List α},l.Nodup->(∀ x∈l,x∈k)->k.length<=l.length->k.Nodup:=by
 intro l
 induction l with
 | nil =>
  intro k _ _ h
  have:k=[]:=u0I.mp (Nat.le_zero.mp h)
  rw[this]
  exact List.nodup_nil
 | cons a l ih =>
  intro k nd h hl
  obtain⟨h1,h2⟩:=u0i.mp nd
  have ha:=h a (.head _)
  have hs:∀ x∈l,x∈k.erase a:=λx hx=>by
   have ne:x≠a:=λe=>h1 (e ▸ hx)
   exact(List.mem_erase_of_ne ne).mpr (h x (.tail _ hx))
  have hle:(k.erase a).length=k.length - 1:=u1B ha
  have hp:=List.length_pos_of_mem ha
  have hl':k.length<=l.length+1:=hl
  have nk:=ih h2 hs (by omega)
  have na:a∉k.erase a:=λhk=>by
   have:=zhk (l:=a::l) (k:=k.erase a) nd λx hx=>by
    rcases n8.mp hx with rfl | hx
    .exact hk
    .exact hs x hx
   have:l.length+1<=(k.erase a).length:=this
   omega
  exact(List.perm_cons_erase ha).nodup_iff.mpr (u0i.mpr ⟨na,nk⟩)
theorem Za {α β:Type}{f:α->β}{l:List α}(nd:(l.map f).Nodup){a b:α}(ha:a∈l)(hb:b∈l)(e:f a=f b):a=b:=by
 obtain⟨i,hi,rfl⟩:=d6 ha
 obtain⟨j,hj,rfl⟩:=d6 hb
 have h1:i < (l.map f).length:=by rw[u6];exact hi
 have h2:j < (l.map f).length:=by rw[u6];exact hj
 have:(l.map f)[i]=(l.map f)[j]:=by rw[u1t,u1t];exact e
 have:=(u2d nd).mp this
 subst this
 rfl
def inN (m:Int)(ts:List Tie)(ks:List Int)(x:Int):List Nat:=(nbN m ts x).filter λo:Nat=>decide (vAt ks (o:Int) < vAt ks x)
theorem zdD {m p x:Int}{ts:List Tie}{ks:List Int}(hks:YX m ts p=ks.map some)(hkl:(ks.length:Int)=m)(hx:0<=x/\x < m):∃ k:Nat,Far ts p x k/\vAt ks x=(k:Int):=by
 have h1:oAt (YX m ts p) x=zhu ts p x:=zdF hx.1 hx.2
 have h2:oAt (ks.map some) x=some (vAt ks x):=by
  have hl:x.toNat < ks.length:=by omega
  unfold oAt vAt
  rw[j4,j5,u5 hl]
  rfl
 rw[hks,h2]at h1
 rcases ZM ts p x with ⟨k,e,f⟩ | ⟨e,_⟩
 .rw[e]at h1
  exact⟨k,f,u0j h1⟩
 .rw[e]at h1
  cases h1
theorem wJ {m p x:Int}{ts:List Tie}{ks:List Int}(ok:zG m ts)(hp:0<=p/\p < m)(hks:YX m ts p=ks.map some)(hkl:(ks.length:Int)=m)(hx:0<=x/\x < m)(hne:x≠p):∃ a:Nat,a∈inN m ts ks x:=by
 obtain⟨k,fk,ek⟩:=zdD hks hkl hx
 cases k with
 | zero=>cases fk.1;exact absurd rfl hne
 | succ k =>
  obtain⟨a,ra,aa⟩:=fk.1.inv
  obtain⟨r1,_⟩:=aa.rng ok
  obtain⟨j,fj,ej⟩:=zdD hks hkl r1
  have:=fj.2 k ra
  refine⟨a.toNat,u0a.mpr ⟨(Xp ok).mpr ?_,?_⟩⟩
  .rw[show((a.toNat:Nat):Int)=a by omega]
   exact aa.symm
  .rw[r6,show((a.toNat:Nat):Int)=a by omega]
   omega
theorem wc {m x:Int}{ts:List Tie}{ks:List Int}(ok:zG m ts){o:Nat}:o∈inN m ts ks x↔adj ts x (o:Int)/\vAt ks (o:Int) < vAt ks x:=by
 unfold inN
 rw[u0a,Xp ok,r6]
theorem wU {m x:Int}{ts:List Tie}{ks:List Int}(ok:zG m ts){o:Nat}:o∈zW m ts ks x↔adj ts x (o:Int)/\vAt ks x < vAt ks (o:Int):=by
 unfold zW
 rw[u0a,Xp ok,r6]
theorem Zf {m:Int}{ts:List Tie}{ks:List Int}(ok:zG m ts){x y:Nat}:y∈inN m ts ks (x:Int)↔x∈zW m ts ks (y:Int):=by
 rw[wc ok,wU ok]
 exact⟨λh=>⟨h.1.symm,h.2⟩,λh=>⟨h.1.symm,h.2⟩⟩
theorem zjW {m a b:Int}{ts:List Tie}(ok:zG m ts)(h:adj ts a b):∃ t∈ts,(t.1=a/\t.2=b)\/(t.1=b/\t.2=a):=by
 rcases h with h | h
 .exact⟨_,h,.inl ⟨rfl,rfl⟩⟩
 .exact⟨_,h,.inr ⟨rfl,rfl⟩⟩
def upT (ks:List Int)(t:Tie):Int:=if vAt ks t.1 < vAt ks t.2 then t.2 else t.1
theorem zd8 {m x:Int}{ts:List Tie}{ks:List Int}(ok:zG m ts){o:Nat}(h:o∈inN m ts ks x):∃ t∈ts,upT ks t=x/\((t.1=x/\t.2=(o:Int))\/(t.1=(o:Int)/\t.2=x)):=by
 obtain⟨h1,h2⟩:=(wc ok).mp h
 obtain⟨t,ht,h3⟩:=zjW ok h1
 refine⟨t,ht,?_,h3⟩
 unfold upT
 rcases h3 with ⟨e1,e2⟩ | ⟨e1,e2⟩
 .rw[e1,e2,t6 (by omega)]
 .rw[e1,e2,t5 h2]
theorem zbD (m:Int)(ts:List Tie)(x:Int):(nbN m ts x).Nodup:=by
 unfold nbN
 exact u0s.filter _
theorem zd5 {m p:Int}{ts:List Tie}{ks:List Int}(ok:zG m ts)(htl:(ts.length:Int)=m - 1)(hp:0<=p/\p < m)(hks:YX m ts p=ks.map some)(hkl:(ks.length:Int)=m):(ts.map (upT ks)).Nodup:=by
 have hin:p.toNat∈List.range m.toNat:=d5.mpr (by omega)
 refine zcp (l:=((List.range m.toNat).erase p.toNat).map λk:Nat=>(k:Int)) ?_ ?_ ?_
 .exact ZB (λa _ b _ e=>by omega) (u0s.erase _)
 .intro z hz
  obtain⟨k,hk,rfl⟩:=u0g.mp hz
  obtain⟨k1,k2⟩:=(u0s.mem_erase_iff).mp hk
  have k2:=d5.mp k2
  obtain⟨a,ha⟩:=wJ (x:=(k:Int)) ok hp hks hkl ⟨by omega,by omega⟩ (by omega)
  obtain⟨t,ht,e,_⟩:=zd8 ok ha
  rw[<-e]
  exact u0Q ht
 .rw[u6,u6,u1B hin,g8]
  omega
theorem zfO {m p:Int}{ts:List Tie}{ks:List Int}(ok:zG m ts)(htl:(ts.length:Int)=m - 1)(hp:0<=p/\p < m)(hks:YX m ts p=ks.map some)(hkl:(ks.length:Int)=m){x:Int}(hx:0<=x/\x < m)(hne:x≠p):∃ y:Nat,inN m ts ks x=[y]:=by
 have hU:=zd5 ok htl hp hks hkl
 obtain⟨y,hy⟩:=wJ ok hp hks hkl hx hne
 have all:∀ z,z∈inN m ts ks x->z=y:=λz hz=>by
  obtain⟨t,ht,e1,c1⟩:=zd8 ok hy
  obtain⟨s,hs,e2,c2⟩:=zd8 ok hz
  have:=Za hU ht hs (e1.trans e2.symm)
  subst this
  have n1:=((wc ok).mp hy).2
  have n2:=((wc ok).mp hz).2
  have:(y:Int)≠x:=λe=>by rw[e]at n1;omega
  rcases c1 with ⟨a1,a2⟩ | ⟨a1,a2⟩ <;> rcases c2 with ⟨b1,b2⟩ | ⟨b1,b2⟩ <;> omega
 refine⟨y,?_⟩
 have nd:(inN m ts ks x).Nodup:=(zbD m ts x).filter _
 cases hl:inN m ts ks x with
 | nil=>rw[hl]at hy;cases hy
 | cons a r =>
  rw[hl]at nd all
  have ea:=all a (.head _)
  cases r with
  | nil=>rw[ea]
  | cons b r =>
   have eb:=all b (.tail _ (.head _))
   rw[ea,eb]at nd
   exact absurd (List.Mem.head _) (u0i.mp nd).1
def Fc (hs:List Int)(p x:Int)(vs:List Int):Int:=(vAt hs x+vs.sum) / (if x=p then 1 else 2)
theorem zjl {m:Int}{ts:List Tie}{ks:List Int}{x:Int}(hx:0<=x/\x < m):atI (vF m ts ks m.toNat) x=some (.lst ((zW m ts ks x).map zV)):=by
 refine zaw hx.1 ?_
 unfold vF
 rw[j5,u0E (by omega)]
 show some (D.lst ((zW m ts ks ((x.toNat:Nat):Int)).map zV))=_
 rw[show((x.toNat:Nat):Int)=x by omega]
def ZT:SE->Ctl :=
 (yO (zm vv (zm ixD (zc 0) (zc 3)) (eFn ziG (zb (wd (fLC (iOf (zm ixD (zc 1) (zc 3))) b1 xw (zm ixD (zc 3) (zc 0)))) zq))))
def Yo:List D->Option D:=fnD 4 ZT
theorem WR {m:Int}{ts:List Tie}{hs cs ks:List Int}{x:Int}{d:D}(ok:zG m ts)(hx:0<=x/\x < m)(hl:(hs.length:Int)=m)(hc:(cs.length:Int)=m)(hd:∀ j,ixD d (.int j)=atI (cs.map D.int) j):Yo [.tup (hs.map .int),.lst (vF m ts ks m.toNat),d,.int x]=some (.int (vAt hs x+(YV m ts ks cs x).sum)):=by
 have ex:=Z4 (ns:=hs) (i:=x) hx hl
 have eo:=zjl (ts:=ts) (ks:=ks) hx
 refine WE (ρ:=[.v (.tup (hs.map .int)),.v (.lst (vF m ts ks m.toNat)),.v d,.v (.int x)]) rfl ?_
 unfold ZT
 refine ZW (Yg (zr (x:=.int (vAt hs x)) (y:=.int (YV m ts ks cs x).sum) (zr (x:=.tup (hs.map .int)) (y:=.int x) rfl rfl ex) (Zv (ds:=[.lst ((YV m ts ks cs x).map .int)]) (zy (ZH ?_) yj) (zie _)) rfl)) rfl
 exact znY (k:=2) (d:=d) (m:=m) (zbL (zr (x:=.lst (vF m ts ks m.toNat)) (y:=.int x) rfl rfl eo) rfl) rfl hd hc (λo ho=>zP ho) (zaL ok)
theorem VW (T:Txt K mg base ad):y6 P w K mg base CX0 1 ad.f_gathered ad.e_gathered ["heap","outer","carried","place"] (@spD ⟨K⟩ 4 Yo):=by
 letI:KK:=⟨K⟩
 refine yC (N:=["heap","outer","carried","place"]) (ps:=["heap","outer","carried","place"]) T.d_gathered.fn zc5 (g:=ZT) λcdv A outer s H E hr=>?_
 unfold ZT
 exact(zj (zB (yp (zA (edv 0) (edv 3) (λ_ _=>rfl)) (zH (ZE rfl) VT rfl T.z_sum zbQ (za (w8 (zas (L:=["other"]) (M:=["heap","outer","carried","place"]) rfl (Xg (by rfl) (by rfl) (by rfl) (by with_unfolding_all rfl) (by rfl) (by rfl) (by kernel_rfl) (all_cons rfl xM)) (Y5 (zA (edv 1) (edv 3) (λ_ _=>rfl))) gs1 rb1 (λ_ _ _ _=>(zz (i:=0) znN rfl (Or.inl rfl) (.inr rfl))) (λ_ _ _ _=>(zA (edv 3) (edv 0) (λ_ _=>rfl))))) zd)))))
def v6:SE->Ctl :=
 (zI (y9 true 6 (zo 4 Yo (zb (zc 1) (zb (zc 3) (zb (zc 4) (zb (zc 5) zq))))))
  (Wd false 4 (zc 5) (eIf (tOf (zm V5 (zc 5) (zc 2))) (zc 6) (zm vy (zc 6) (eC (.int 2))))))
def wu:SE->Ctl :=
 (zI (y9 false 3 (zo 2 zE (zb (zc 0) (zb (zc 2) zq))))
  (zI (Zc 4 (zf5 zdP (wd (yq (zb (eC (.int 0)) zq))) (zm ixD (zc 0) (eC (.int 0)))))
  (zI (XD (zjP (zo 2 p_outwards (zb (zc 0) (zb (zc 2) zq)))) (yw 5) v6)
  (sFz 4 (yO (eFn ym (zb (zc 4) zq)))))))
def yR:List D->Option D:=fnD 7 wu
theorem zbE {m:Int}{ts:List Tie}{p:Int}{hs ks:List Int}(ok:zG m ts)(hp:0<=p/\p < m)(hks:YX m ts p=ks.map some)(hkl:(ks.length:Int)=m)(hhl:(hs.length:Int)=m):∃ cs:List Int,yR [zp m ts,.tup (hs.map .int),.int p]=some (.tup (cs.map .int))/\(cs.length:Int)=m/\∀ x:Int,0<=x->x < m->EqA (Fc hs p) m ts ks cs x:=by
 have hm1:=ok.lo
 have hm8:=ok.hi
 have em:ixD (zp m ts) (.int 0)=some (.int m):=rfl
 have e5:=XU ok hp hks hkl
 obtain⟨L,eL,hR⟩:=VS ok hp hks hkl
 obtain⟨R,hRL⟩:∃ R,L.reverse=R:=⟨_,rfl⟩
 rw[hRL]at hR
 have key:=zgW (m:=7) (g:=wu) (ds:=[zp m ts,.tup (hs.map .int),.int p]) (R:=λd=>∃ cs:List Int,d=.tup (cs.map .int)/\(cs.length:Int)=m/\∀ x:Int,0<=x->x < m->EqA (Fc hs p) m ts ks cs x) (ρ:=[.v (zp m ts),.v (.tup (hs.map .int)),.v (.int p),.no,.no,.no,.no]) rfl ?_
 .obtain⟨d,e,cs,rfl,h⟩:=key
  exact⟨cs,e,h⟩
 unfold wu
 generalize hO:vF m ts ks m.toNat=O at *
 refine zt (ρ':=[.v (zp m ts),.v (.tup (hs.map .int)),.v (.int p),.v (.lst O),.no,.no,.no]) (yH (ds:=[_,_]) rfl e5) ?_
 refine zt (ρ':=[.v (zp m ts),.v (.tup (hs.map .int)),.v (.int p),.v (.lst O),.o ((List.replicate m.toNat (0:Int)).map .int),.no,.no]) ?_ ?_
 .have e:=Wn (d:=.int 0) (n:=m) (by omega) (by omega)
  simp[Zc,zf5,wd,yq,zb,zq,eC,xk,zc,visF,Sl.f,zm,em,e]
 have hfor:zjP (zo 2 p_outwards (zb (zc 0) (zb (zc 2) zq))) (visG [.v (zp m ts),.v (.tup (hs.map .int)),.v (.int p),.v (.lst O),.o ((List.replicate m.toNat (0:Int)).map .int),.no,.no])=some (R.map λx:Nat=>D.int (x:Int)):=by
  unfold zjP
  rw[yr (ds:=[zp m ts,.int p]) rfl eL,d9,<- hRL,List.map_reverse]
  rfl
 refine yJ (Wt (ds:=R.map λx:Nat=>D.int (x:Int)) (λi ρ=>∃ (cs:List Int) (o5 o6:Sl),ρ=[.v (zp m ts),.v (.tup (hs.map .int)),.v (.int p),.v (.lst O),.o (cs.map .int),o5,o6]/\(cs.length:Int)=m/\∀ y,Swp R i y->0<=y/\EqA (Fc hs p) m ts ks cs y) hfor ⟨_,_,_,rfl,by rw[p5];omega,λy ⟨k,o,hk,_⟩=>absurd hk (u1l _)⟩ ?_ ?_)
 .rintro i d ρ hd ⟨cs,o5,o6,rfl,hl,hS⟩
  rw[j5]at hd
  obtain⟨x,hx,rfl⟩:=u8.mp hd
  have hxm:(x:Int) < m:=hR.mem.mp (r8 hx)
  have hxp:0<=(x:Int)/\(x:Int) < m:=⟨by omega,hxm⟩
  refine⟨[.v (zp m ts),.v (.tup (hs.map .int)),.v (.int p),.v (.lst O),.o (cs.map .int),.v (.int (x:Int)),o6],rfl,?_⟩
  unfold v6
  have st:=hR.step (F:=Fc hs p) hx hl hS
  obtain⟨S,hSS⟩:∃ S:Int,vAt hs (x:Int)+(YV m ts ks cs (x:Int)).sum=S:=⟨_,rfl⟩
  have eg:=WR (d:=.lst (cs.map .int)) (ks:=ks) ok hxp hhl hl (λ_=>rfl)
  rw[hO,hSS]at eg
  obtain⟨v,hv⟩:∃ v:Int,Fc hs p (x:Int) (YV m ts ks cs (x:Int))=v:=⟨_,rfl⟩
  have hv':S / (if (x:Int)=p then 1 else 2)=v:=by rw[<-hSS];exact hv
  rw[hv]at st
  refine zt (ρ':=[.v (zp m ts),.v (.tup (hs.map .int)),.v (.int p),.v (.lst O),.o (cs.map .int),.v (.int (x:Int)),.v (.int S)]) (xf ?_) ?_
  .unfold vEv
   rw[t5 rfl,yr (ds:=[.tup (hs.map .int),.lst O,.lst (cs.map .int),.int (x:Int)]) rfl eg]
   rfl
  refine zby (cs.map .int) (.int v) (x:Int) ?_ rfl rfl hxp.1 (Xl hxm hl) ⟨cs.set x v,.v (.int (x:Int)),.v (.int S),?_,by rw[i9];exact hl,st⟩
  .unfold vEv
   rw[t6 u7]
   refine zmB (c:=decide ((x:Int)=p)) (Xb (zr (x:=.int (x:Int)) (y:=.int p) rfl rfl zX)) ?_
   by_cases c:(x:Int)=p
   .rw[t5 c,u10]at hv'
    rw[j8 c,t5 rfl,<- hv']
    rfl
   .rw[t6 c]at hv'
    rw[d7 c,t6 u7]
    refine zr (x:=.int S) (y:=.int 2) rfl rfl ?_
    rw[W6 (by decide) (by decide),hv']
  .rw[u03];rfl
 .rintro ρ ⟨cs,o5,o6,rfl,hl,hS⟩
  rw[u6]at hS
  exact zdB (ρ':=[.v (zp m ts),.v (.tup (hs.map .int)),.v (.int p),.v (.lst O),.v (.lst (cs.map .int)),o5,o6]) rfl (ZW rfl ⟨cs,rfl,hl,hR.fin hS⟩)
theorem XY (T:Txt K mg base ad):y6 P w K mg base CX0 6 ad.f_carried_to ad.e_carried_to ["web","heap","root"] (@spD ⟨K⟩ 3 yR):=by
 letI:KK:=⟨K⟩
 have G_outer_neighbours:=ye (P:=P) (w:=w) (base:=base) T
 have G_outwards:=Vw (P:=P) (w:=w) (base:=base) T
 have G_gathered:=VW (P:=P) (w:=w) (base:=base) T
 refine yC (N:=["web","heap","root","outer","carried","place","stones"]) (ps:=["web","heap","root"]) T.d_carried_to.fn xG (g:=wu) λcdv A outer s H E hr=>?_
 unfold wu v6
 exact(ze (zJ (m:=false) (i:=3) xG.nd rfl (Or.inl rfl) (zi G_outer_neighbours hr rfl T.d_outer_neighbours (za (edv 0) (za (edv 2) zd))))
  (ze (vg (i:=4) xG.nd rfl (Or.inl rfl) (zaA (w8 (xV (za (zg zh) zd))) (zA (edv 0) (zg zh) (λ_ _=>rfl))))
  (ze (Yx b8 rfl (zi2 rfl T.z_reversed (zi G_outwards hr rfl T.d_outwards (za (edv 0) (za (edv 2) zd)))) (zS (zz (i:=5) xG.nd rfl (Or.inl rfl))) (ze (zJ (m:=true) (i:=6) xG.nd rfl (Or.inl rfl) (zi G_gathered hr rfl T.d_gathered (za (edv 1) (za (edv 3) (za (edv 4) (za (edv 5) zd))))))
  (zj (XF (m:=false) (zjZ (yb (Zp hr) vf (zM _) (edv 5) (edv 2)) (edv 6) (Vd (edv 6) (zg zh))) (pv 4) (edv 5)))))
  (vO 4 (zj (zB (yI zY xK rfl T.z_tuple yM (za (edv 4) zd))))))))
def X5:SE->Ctl :=
 (zI (XL (zo 3 yG (zb (zc 0) (zb (zc 1) (zb (zc 2) zq)))))
  (yO (zo 3 yR (zb (zc 0) (zb (zc 1) (zb (zc 2) zq))))))
def ZL:List D->Option D:=fnD 3 X5
theorem zem {m:Int}{ts:List Tie}{p:Int}{hs cs:List Int}(ok:zG m ts)(hj:vR m ts)(htl:(ts.length:Int)=m - 1)(hp:0<=p/\p < m)(hl:(hs.length:Int)=m)(hnn:∀ x∈hs,0<=x)(hsum:hs.sum<=300)(e:yR [zp m ts,.tup (hs.map .int),.int p]=some (.tup (cs.map .int))):ZL [zp m ts,.tup (hs.map .int),.int p]=some (.tup (cs.map .int)):=by
 refine WE (ρ:=[.v (zp m ts),.v (.tup (hs.map .int)),.v (.int p)]) rfl ?_
 unfold X5
 refine zt (wC (d:=.non) (VM ok hj htl hp hl hnn hsum)) ?_
 exact ZW (Yg (yr (ds:=[_,_,_]) rfl e)) rfl
theorem zeD (T:Txt K mg base ad):y6 P w K mg base CX0 13 ad.f_carries ad.e_carries ["web","heap","place"] (@spD ⟨K⟩ 3 ZL):=by
 letI:KK:=⟨K⟩
 have G_must_be_rooted:=xX (P:=P) (w:=w) (base:=base) T
 have G_carried_to:=XY (P:=P) (w:=w) (base:=base) T
 refine yC (N:=["web","heap","place"]) (ps:=["web","heap","place"]) T.d_carries.fn zeU (g:=X5) λcdv A outer s H E hr=>?_
 unfold X5
 exact(ze (wH (zi G_must_be_rooted hr rfl T.d_must_be_rooted (za (edv 0) (za (edv 1) (za (edv 2) zd)))))
  (zj (zB (zi G_carried_to hr rfl T.d_carried_to (za (edv 0) (za (edv 1) (za (edv 2) zd)))))))
theorem zlB {m p:Int}{ts:List Tie}{ks:List Int}(ok:zG m ts)(hp:0<=p/\p < m)(hks:YX m ts p=ks.map some)(hkl:(ks.length:Int)=m):∀ x:Int,0<=x->x < m->0<=vAt ks x/\vAt ks x < m:=by
 intro x h0 h1
 have hl:x.toNat < ks.length:=by omega
 have hm:vAt ks x∈ks:=by
  unfold vAt
  rw[j4,u5 hl]
  exact u0D hl
 have:some (vAt ks x)∈YX m ts p:=by
  rw[hks]
  exact u0Q hm
 rcases zhX ok hp this with h | ⟨k,e,h⟩
 .cases h
 .cases e
  exact h
theorem zgr {m p:Int}{ts:List Tie}{ks:List Int}(hp:0<=p/\p < m)(hks:YX m ts p=ks.map some)(hkl:(ks.length:Int)=m):vAt ks p=0:=by
 obtain⟨k,fk,ek⟩:=zdD hks hkl hp
 have:=fk.2 0 .zero
 omega
theorem vV {m p:Int}{ts:List Tie}{ks:List Int}(hp:0<=p/\p < m)(hks:YX m ts p=ks.map some)(hkl:(ks.length:Int)=m)(hb:∀ x:Int,0<=x->x < m->0<=vAt ks x/\vAt ks x < m){o:Nat}{x:Int}(hx:0<=x/\x < m)(h:o∈zW m ts ks x):(o:Int)≠p:=λe=>by
 have h1:=yf h
 rw[e,zgr hp hks hkl]at h1
 have:=(hb x hx.1 hx.2).1
 omega
theorem W2 {m p:Int}{ts:List Tie}{ks:List Int}(ok:zG m ts)(htl:(ts.length:Int)=m - 1)(hp:0<=p/\p < m)(hks:YX m ts p=ks.map some)(hkl:(ks.length:Int)=m)(hb:∀ x:Int,0<=x->x < m->0<=vAt ks x/\vAt ks x < m){x a b:Nat}(ha:(a:Int) < m)(h1:x∈zW m ts ks (a:Int))(h2:x∈zW m ts ks (b:Int)):a=b:=by
 obtain⟨y,hy⟩:=zfO (x:=(x:Int)) ok htl hp hks hkl ⟨by omega,zP h1⟩ (vV hp hks hkl hb ⟨by omega,ha⟩ h1)
 have e1:=(Zf ok).mpr h1
 have e2:=(Zf ok).mpr h2
 rw[hy]at e1 e2
 rw[j6.mp e1,j6.mp e2]
def mv (h:List Int)(s:Tie):List Int:=(h.set s.1.toNat (vAt h s.1 - 2)).set s.2.toNat (vAt (h.set s.1.toNat (vAt h s.1 - 2)) s.2+1)
theorem zca (h:List Int)(s:Tie):(mv h s).length=h.length:=by unfold mv;rw[i9,i9]
theorem zi6 {h:List Int}{s:Tie}(h1:0<=s.1/\s.1 < h.length)(h2:0<=s.2/\s.2 < h.length)(hne:s.1≠s.2){z:Int}(hz:0<=z):vAt (mv h s) z=vAt h z - (if z=s.1 then 2 else 0)+(if z=s.2 then 1 else 0):=by
 unfold mv
 rw[wV h2.1 (by rw[i9];exact h2.2) hz,wV h1.1 h1.2 h2.1,wV h1.1 h1.2 hz]
 by_cases c2:z=s.2
 .have c1:z≠s.1:=λe=>hne (e.symm.trans c2)
  rw[t5 c2,t5 c2,t6 (λe=>hne e.symm),t6 c1,c2]
  omega
 .rw[t6 c2,t6 c2]
  by_cases c1:z=s.1
  .rw[t5 c1,t5 c1,c1]
   omega
  .rw[t6 c1,t6 c1]
   omega
def Y6 (ts:List Tie):List Int->List Tie->Prop
 | _,[]=>True
 | h,s::r=>adj ts s.1 s.2/\2<=vAt h s.1/\Y6 ts (mv h s) r
theorem Y6.app {ts:List Tie}:∀ {a b:List Tie} {h:List Int},Y6 ts h a->Y6 ts (a.foldl mv h) b->Y6 ts h (a++b):=by
 intro a
 induction a with
 | nil=>intro b h _ h2;exact h2
 | cons s a ih=>intro b h h1 h2;exact⟨h1.1,h1.2.1,ih h1.2.2 h2⟩
theorem zd7 {l:List Tie}:∀ {h:List Int},(l.foldl mv h).length=h.length:=by
 induction l with
 | nil=>intro h;rfl
 | cons s l ih=>intro h;rw[u3i,ih,zca]
theorem zh3 {m:Int}{ts:List Tie}(ok:zG m ts){x y:Int}(ha:adj ts x y):∀ (c:Nat) (h:List Int),(h.length:Int)=m->2*(c:Int)<=vAt h x->Y6 ts h (List.replicate c (x,y))/\∀ z:Int,0<=z->vAt ((List.replicate c (x,y)).foldl mv h) z=vAt h z - (if z=x then 2*(c:Int)else 0)+(if z=y then (c:Int)else 0):=by
 obtain⟨rx,ry⟩:=ha.rng ok
 have hne:x≠y:=by
  rcases ha with h | h <;> (have:=ok.rng _ h;dsimp only at this;omega)
 intro c
 induction c with
 | zero =>
  intro h hl hc
  refine⟨trivial,λz hz=>?_⟩
  show vAt h z=_
  split <;> split <;> omega
 | succ c ih =>
  intro h hl hc
  have e:=λz hz=>zi6 (h:=h) (s:=(x,y)) ⟨rx.1,by show x < h.length;omega⟩ ⟨ry.1,by show y < h.length;omega⟩ hne (z:=z) hz
  have ex:=e x rx.1
  rw[t5 rfl,t6 (show ¬ x=y from hne)]at ex
  obtain⟨p1,p2⟩:=ih (mv h (x,y)) (by rw[zca];exact hl) (by omega)
  refine⟨⟨ha,by show 2<=vAt h x;omega,p1⟩,λz hz=>?_⟩
  show vAt ((List.replicate c (x,y)).foldl mv (mv h (x,y))) z=_
  rw[p2 z hz,e z hz]
  by_cases c1:z=x
  .have c2:¬ z=y:=λe=>hne (c1.symm.trans e)
   rw[t5 c1,t5 c1,t5 c1,t6 c2,t6 c2,t6 c2]
   omega
  .rw[t6 c1,t6 c1,t6 c1]
   by_cases c2:z=y
   .rw[t5 c2,t5 c2,t5 c2]
    omega
   .rw[t6 c2,t6 c2,t6 c2]
    omega
theorem XI:∀ {ns:List Int} {k:Nat} {x:Int},k < ns.length->(ns.set k x).sum=ns.sum - ns.getD k 0+x:=by
 intro ns k x h
 rw[zfK h,j4,u5 h]
 rfl
theorem zmP {h:List Int}{s:Tie}(h1:0<=s.1/\s.1 < h.length)(h2:0<=s.2/\s.2 < h.length):(mv h s).sum=h.sum - 1:=by
 unfold mv
 rw[XI (by rw[i9];omega),XI (by omega)]
 have e1:vAt h s.1=h.getD s.1.toNat 0:=rfl
 have e2:vAt (h.set s.1.toNat (vAt h s.1 - 2)) s.2=(h.set s.1.toNat (vAt h s.1 - 2)).getD s.2.toNat 0:=rfl
 omega
theorem znc {h:List Int}{s:Tie}(h1:0<=s.1/\s.1 < h.length)(h2:0<=s.2/\s.2 < h.length)(hne:s.1≠s.2)(hn:∀ v∈h,0<=v)(h3:2<=vAt h s.1):∀ v∈mv h s,0<=v:=by
 intro v hv
 obtain⟨i,hi,rfl⟩:=d6 hv
 have e:=zi6 h1 h2 hne (z:=(i:Int)) (by omega)
 have hi':=hi
 rw[zca]at hi'
 have e1:vAt (mv h s) (i:Int)=(mv h s)[i]:=by
  unfold vAt
  rw[j4,show((i:Int)).toNat=i from rfl,u5 hi]
  rfl
 have e2:vAt h (i:Int)=h[i]:=by
  unfold vAt
  rw[j4,show((i:Int)).toNat=i from rfl,u5 hi']
  rfl
 have e3:=hn _ (u0D hi')
 rw[<-e1,e]
 rw[<-e2]at e3
 by_cases c:(i:Int)=s.1
 .rw[t5 c]
  rw[c]at e3 ⊢
  split <;> omega
 .rw[t6 c]
  split <;> omega
theorem zik {m:Int}{ts:List Tie}(ok:zG m ts):∀ (l:List Tie) (h:List Int),(h.length:Int)=m->(∀ v∈h,0<=v)->Y6 ts h l->(l.length:Int)<=h.sum:=by
 intro l
 induction l with
 | nil=>intro h _ hn _;exact zea hn
 | cons s l ih =>
  intro h hl hn hp
  obtain⟨ha,h2,h3⟩:=hp
  obtain⟨rx,ry⟩:=ha.rng ok
  have hne:s.1≠s.2:=by
   rcases ha with h | h <;> (have:=ok.rng _ h;dsimp only at this;omega)
  have b1:0<=s.1/\s.1 < h.length:=by omega
  have b2:0<=s.2/\s.2 < h.length:=by omega
  have:=ih (mv h s) (by rw[zca];exact hl) (znc b1 b2 hne hn h2) h3
  rw[zmP b1 b2]at this
  show((l.length+1:Nat):Int)<=h.sum
  omega
def zjb (m:Int)(ts:List Tie)(ks:List Int)(x:Nat):Int:=(((inN m ts ks (x:Int)).headD 0:Nat):Int)
def zht (m:Int)(ts:List Tie)(ks cs:List Int)(p:Int)(x:Nat):List Tie:=if (x:Int)=p then []else List.replicate (vAt cs (x:Int)).toNat ((x:Int),zjb m ts ks x)
def yW (m:Int)(ts:List Tie)(ks cs:List Int)(p:Int)(M:List Nat):List Tie:=M.flatMap (zht m ts ks cs p)
theorem zhq {m p:Int}{ts:List Tie}{ks:List Int}(ok:zG m ts)(hp:0<=p/\p < m)(hks:YX m ts p=ks.map some)(hkl:(ks.length:Int)=m){x:Nat}(hx:(x:Int) < m)(hne:(x:Int)≠p):∃ y:Nat,zjb m ts ks x=(y:Int)/\y∈inN m ts ks (x:Int):=by
 obtain⟨a,ha⟩:=wJ (x:=(x:Int)) ok hp hks hkl ⟨by omega,hx⟩ hne
 unfold zjb
 cases h:inN m ts ks (x:Int) with
 | nil=>rw[h]at ha;cases ha
 | cons b r=>exact⟨b,rfl,.head _⟩
theorem ziF {m p:Int}{ts:List Tie}{hs ks cs:List Int}(hn:∀ x:Int,0<=vAt hs x)(hb:∀ x:Int,0<=x->x < m->0<=vAt ks x/\vAt ks x < m)(hE:∀ x:Int,0<=x->x < m->EqA (Fc hs p) m ts ks cs x):∀ (n:Nat) (x:Int),0<=x->x < m->m - vAt ks x<=(n:Int)->0<=vAt cs x:=by
 intro n
 induction n with
 | zero =>
  intro x h0 h1 h2
  have:=hb x h0 h1
  omega
 | succ n ih =>
  intro x h0 h1 h2
  have e:vAt cs x=Fc hs p x (YV m ts ks cs x):=hE x h0 h1
  rw[e]
  unfold Fc
  have s0:0<=(YV m ts ks cs x).sum:=zea λv hv=>by
   unfold YV at hv
   obtain⟨o,ho,rfl⟩:=u0g.mp hv
   have:=yf ho
   exact ih (o:Int) (by omega) (zP ho) (by omega)
  have:=hn x
  exact Int.ediv_nonneg (by omega) (by split <;> decide)
def sD (m:Int)(ts:List Tie)(ks cs:List Int)(E:List Nat)(z:Int):Int:=((zW m ts ks z).map λo:Nat=>if o∈E then vAt cs (o:Int)else 0).sum
theorem zkq {cs:List Int}{E:List Nat}{x:Nat}(hx:x∉E):∀ {l:List Nat},l.Nodup->(l.map λo:Nat=>if o∈E++[x]then vAt cs (o:Int)else 0).sum=(l.map λo:Nat=>if o∈E then vAt cs (o:Int)else 0).sum+(if x∈l then vAt cs (x:Int)else 0):=by
 intro l
 induction l with
 | nil=>intro _;rfl
 | cons a l ih =>
  intro nd
  obtain⟨h1,h2⟩:=u0i.mp nd
  rw[b9,b9,p9,p9,ih h2]
  by_cases c:a=x
  .subst c
   rw[t5 (n9 _ (.head _)),t6 hx,t6 h1,t5 (.head _)]
   omega
  .have e1:a∈E++[x]↔a∈E:=by
    rw[u0p,j6]
    exact⟨λh=>h.elim id λe=>absurd e c,.inl⟩
   have e2:x∈a::l↔x∈l:=by
    rw[n8]
    exact⟨λh=>h.elim (λe=>absurd e.symm c) id,.inr⟩
   by_cases c1:a∈E <;> by_cases c2:x∈l
   .rw[t5 (e1.mpr c1),t5 c1,t5 c2,t5 (e2.mpr c2)];omega
   .rw[t5 (e1.mpr c1),t5 c1,t6 c2,t6 (λh=>c2 (e2.mp h))];omega
   .rw[t6 (λh=>c1 (e1.mp h)),t6 c1,t5 c2,t5 (e2.mpr c2)];omega
   .rw[t6 (λh=>c1 (e1.mp h)),t6 c1,t6 c2,t6 (λh=>c2 (e2.mp h))];omega
theorem zgd {m:Int}{ts:List Tie}{ks cs:List Int}{E:List Nat}{x:Nat}(hx:x∉E)(z:Int):sD m ts ks cs (E++[x]) z=sD m ts ks cs E z+(if x∈zW m ts ks z then vAt cs (x:Int)else 0):=zkq hx ((zbD m ts z).filter _)
theorem zjk {m:Int}{ts:List Tie}{ks cs:List Int}{E:List Nat}{z:Int}(h:∀ o∈zW m ts ks z,o∈E):sD m ts ks cs E z=(YV m ts ks cs z).sum:=by
 unfold sD YV
 rw[p4 λo ho=>t5 (h o ho)]
theorem zlZ (m:Int)(ts:List Tie)(ks cs:List Int)(z:Int):sD m ts ks cs [] z=0:=by
 unfold sD
 have:((zW m ts ks z).map λo:Nat=>if o∈([]:List Nat)then vAt cs (o:Int)else 0)=(zW m ts ks z).map λ_=>0:=p4 λo _=>t6 (List.not_mem_nil)
 rw[this]
 induction zW m ts ks z with
 | nil=>rfl
 | cons a l ih=>rw[b9,p9,ih];rfl
structure zmS (m:Int) (ts:List Tie) (ks cs hs:List Int) (p:Int) (E:List Nat) (h:List Int):Prop where
 len:(h.length:Int)=m
 val:∀ z:Nat,(z:Int) < m->vAt h (z:Int)=vAt hs (z:Int)+sD m ts ks cs E (z:Int) - (if z∈E/\(z:Int)≠p then 2*vAt cs (z:Int)else 0)
structure WY (m:Int) (ts:List Tie) (ks cs hs:List Int) (p:Int):Prop where
 ok:zG m ts
 tl:(ts.length:Int)=m - 1
 hp:0<=p/\p < m
 hks:YX m ts p=ks.map some
 hkl:(ks.length:Int)=m
 hb:∀ x:Int,0<=x->x < m->0<=vAt ks x/\vAt ks x < m
 hn:∀ x:Int,0<=vAt hs x
 hE:∀ x:Int,0<=x->x < m->EqA (Fc hs p) m ts ks cs x
theorem WY.nn {m p:Int}{ts:List Tie}{ks cs hs:List Int}(T:WY m ts ks cs hs p){x:Int}(h0:0<=x)(h1:x < m):0<=vAt cs x:=ziF T.hn T.hb T.hE m.toNat x h0 h1 (by have:=(T.hb x h0 h1).1;omega)
theorem ziH {m p:Int}{ts:List Tie}{ks cs hs h:List Int}{E:List Nat}{x:Nat}(T:WY m ts ks cs hs p)(M:zmS m ts ks cs hs p E h)(hx:(x:Int) < m)(hxE:x∉E)(ho:∀ o∈zW m ts ks (x:Int),o∈E) :
 Y6 ts h (zht m ts ks cs p x)/\zmS m ts ks cs hs p (E++[x]) ((zht m ts ks cs p x).foldl mv h):=by
 unfold zht
 have xx:x∉zW m ts ks (x:Int):=λh=>by have:=yf h;omega
 by_cases c:(x:Int)=p
 .rw[t5 c]
  refine⟨trivial,M.len,λz hz=>?_⟩
  have np:x∉zW m ts ks (z:Int):=λh=>vV T.hp T.hks T.hkl T.hb ⟨by omega,hz⟩ h c
  show vAt h (z:Int)=_
  rw[M.val z hz,zgd hxE,t6 np,Int.add_zero]
  have e:(z∈E++[x]/\(z:Int)≠p)↔(z∈E/\(z:Int)≠p):=by
   rw[u0p,j6]
   exact⟨λ⟨a,b⟩=>⟨a.elim id λe=>absurd (by rw[e];exact c) b,b⟩,λ⟨a,b⟩=>⟨.inl a,b⟩⟩
  by_cases c2:z∈E/\(z:Int)≠p
  .rw[t5 c2,t5 (e.mpr c2)]
  .rw[t6 c2,t6 (λh=>c2 (e.mp h))]
 .rw[t6 c]
  obtain⟨y,ey,hy⟩:=zhq T.ok T.hp T.hks T.hkl hx c
  rw[ey]
  obtain⟨ha,hlt⟩:=(wc T.ok).mp hy
  have hyx:x∈zW m ts ks (y:Int):=(Zf T.ok).mp hy
  have hym:=(ha.rng T.ok).2
  have cn:=T.nn (x:=(x:Int)) (by omega) hx
  have ev:=M.val x hx
  rw[zjk ho,t6 (λ⟨a,_⟩=>hxE a)]at ev
  have eE:vAt cs (x:Int)=(vAt hs (x:Int)+(YV m ts ks cs (x:Int)).sum) / (if (x:Int)=p then 1 else 2):=T.hE (x:Int) (by omega) hx
  rw[t6 c]at eE
  obtain⟨k,hk⟩:∃ k:Nat,(vAt cs (x:Int)).toNat=k:=⟨_,rfl⟩
  have hk2:(k:Int)=vAt cs (x:Int):=by omega
  rw[hk]
  obtain⟨p1,p2⟩:=zh3 T.ok ha k h M.len (by omega)
  refine⟨p1,by rw[zd7];exact M.len,λz hz=>?_⟩
  rw[p2 (z:Int) (by omega),M.val z hz,zgd hxE,hk2]
  have hxy:(x:Int)≠(y:Int):=λe=>by rw[e]at hlt;omega
  by_cases cx:z=x
  .subst cx
   rw[t5 rfl,t6 hxy,t6 xx,t6 (λ⟨a,_⟩=>hxE a),t5 ⟨n9 _ (.head _),c⟩]
   omega
  .have e:(z∈E++[x]/\(z:Int)≠p)↔(z∈E/\(z:Int)≠p):=by
    rw[u0p,j6]
    exact⟨λ⟨a,b⟩=>⟨a.elim id λe=>absurd e cx,b⟩,λ⟨a,b⟩=>⟨.inl a,b⟩⟩
   rw[t6 (show ¬ (z:Int)=(x:Int) by omega)]
   have eI:(if z∈E++[x]/\(z:Int)≠p then 2*vAt cs (z:Int)else 0)=(if z∈E/\(z:Int)≠p then 2*vAt cs (z:Int)else 0):=by
    by_cases c2:z∈E/\(z:Int)≠p
    .rw[t5 c2,t5 (e.mpr c2)]
    .rw[t6 c2,t6 (λh=>c2 (e.mp h))]
   rw[eI]
   by_cases cy:z=y
   .subst cy
    rw[t5 rfl,t5 hyx]
    omega
   .have nz:x∉zW m ts ks (z:Int):=λh=>cy (W2 T.ok T.tl T.hp T.hks T.hkl T.hb hz h hyx)
    rw[t6 (show ¬ (z:Int)=(y:Int) by omega),t6 nz]
    omega
theorem zjY {m p:Int}{ts:List Tie}{ks cs hs:List Int}{R:List Nat}(T:WY m ts ks cs hs p)(hR:zc1 m ts ks R):∀ (M E:List Nat) (h:List Int),E++M=R->zmS m ts ks cs hs p E h->Y6 ts h (yW m ts ks cs p M)/\zmS m ts ks cs hs p R ((yW m ts ks cs p M).foldl mv h):=by
 intro M
 induction M with
 | nil =>
  intro E h e H
  rw[u0n]at e
  subst e
  exact⟨trivial,H⟩
 | cons x M ih =>
  intro E h e H
  have hi:R[E.length]?=some x:=by rw[<-e];simp
  have hx:(x:Int) < m:=hR.mem.mp (r8 hi)
  have nd:=hR.nodup
  rw[<-e]at nd
  have hxE:x∉E:=λhx=>(List.nodup_append.mp nd).2.2 x hx x (.head _) rfl
  have ho:∀ o∈zW m ts ks (x:Int),o∈E:=λo ho=>by
   obtain⟨k,hk,ek⟩:=hR.out hi ho
   rw[<-e,u0l hk]at ek
   exact r8 ek
  obtain⟨p1,p2⟩:=ziH T H hx hxE ho
  obtain⟨q1,q2⟩:=ih (E++[x]) _ (by rw[<-e];simp) p2
  unfold yW at q1 q2 ⊢
  rw[List.flatMap_cons,List.foldl_append]
  exact⟨p1.app q1,q2⟩
theorem zdV {m p:Int}{ts:List Tie}{ks cs hs:List Int}{R:List Nat}(T:WY m ts ks cs hs p)(hR:zc1 m ts ks R)(hl:(hs.length:Int)=m):Y6 ts hs (yW m ts ks cs p R)/\vAt ((yW m ts ks cs p R).foldl mv hs) p=vAt cs p:=by
 obtain⟨h1,h2⟩:=zjY T hR R [] hs rfl ⟨hl,λz hz=>by
  rw[zlZ,t6 (λ⟨a,_⟩=>by cases a)]
  omega⟩
 refine⟨h1,?_⟩
 have hp:=T.hp
 have e:=h2.val p.toNat (by omega)
 rw[show((p.toNat:Nat):Int)=p by omega]at e
 have eE:vAt cs p=(vAt hs p+(YV m ts ks cs p).sum) / (if p=p then 1 else 2):=T.hE p hp.1 hp.2
 rw[t5 rfl,u10]at eE
 rw[e,zjk (λo ho=>hR.mem.mpr (zP ho)),t6 (λ⟨_,b⟩=>b rfl),eE]
 omega
def xb:SE->Ctl :=
 (Wd false 2 (zc 5) (zc 3))
def xa:SE->Ctl :=
 (XD (iOf (zc 4)) (yw 5) xb)
def yh:SE->Ctl :=
 (zI (Zc 2 (zf5 zdP (wd (yq (zb (eC .non) zq))) (zm ixD (zc 0) (eC (.int 0)))))
  (zI (XD (yx (zb (zo 2 zE (zb (zc 0) (zb (zc 1) zq))) zq)) (za5 2 (vI (yw 3) (vI (yw 4) zbF))) xa)
  (sFz 2 (yO (zc 2)))))
def xI:List D->Option D:=fnD 6 yh
theorem ziz {m p:Int}{ts:List Tie}{ks cs hs:List Int}(T:WY m ts ks cs hs p):∃ is:List (Option Int),xI [zp m ts,.int p]=some (.lst (is.map xS))/\(is.length:Int)=m/\∀ x:Nat,(x:Int) < m->(x:Int)≠p->oAt is (x:Int)=some (zjb m ts ks x):=by
 have ok:=T.ok
 have hm1:=ok.lo
 have hm8:=ok.hi
 have em:ixD (zp m ts) (.int 0)=some (.int m):=rfl
 have e5:=XU ok T.hp T.hks T.hkl
 have key:=zgW (m:=6) (g:=yh) (ds:=[zp m ts,.int p]) (R:=λd=>∃ is:List (Option Int),d=.lst (is.map xS)/\(is.length:Int)=m/\∀ x:Nat,(x:Int) < m->(x:Int)≠p->oAt is (x:Int)=some (zjb m ts ks x)) (ρ:=[.v (zp m ts),.v (.int p),.no,.no,.no,.no]) rfl ?_
 .obtain⟨d,e,is,rfl,h⟩:=key
  exact⟨is,e,h⟩
 unfold yh
 refine zt (ρ':=[.v (zp m ts),.v (.int p),.o ((List.replicate m.toNat (none:Option Int)).map xS),.no,.no,.no]) ?_ ?_
 .have e:=Wn (d:=.non) (n:=m) (by omega) (by omega)
  have er:(List.replicate m.toNat (none:Option Int)).map xS=List.replicate m.toNat D.non:=by rw[u1G];rfl
  rw[er]
  simp[Zc,zf5,wd,yq,zb,zq,eC,xk,zc,visF,Sl.f,zm,em,e]
 have hfor:yx (zb (zo 2 zE (zb (zc 0) (zb (zc 1) zq))) zq) (visG [.v (zp m ts),.v (.int p),.o ((List.replicate m.toNat (none:Option Int)).map xS),.no,.no,.no])=some (Zj 0 (vF m ts ks m.toNat)):=by
  unfold yx
  rw[zy (yr (ds:=[zp m ts,.int p]) rfl e5) yj]
  rfl
 refine yJ (Wt (ds:=Zj 0 (vF m ts ks m.toNat)) (λi ρ=>∃ (is:List (Option Int)) (o3 o4 o5:Sl),ρ=[.v (zp m ts),.v (.int p),.o (is.map xS),o3,o4,o5]/\(is.length:Int)=m/\∀ o x:Nat,o < i->(o:Int) < m->x∈zW m ts ks (o:Int)->oAt is (x:Int)=some (o:Int)) hfor ⟨_,_,_,_,rfl,by rw[p5];omega,λo x h=>absurd h (u1l _)⟩ ?_ ?_)
 .rintro i d ρ hd ⟨is,o3,o4,o5,rfl,hl,hI⟩
  rw[vE]at hd
  obtain⟨dd,hdd,rfl⟩:=u8.mp hd
  unfold vF at hdd
  rw[j5]at hdd
  obtain⟨y,hy,rfl⟩:=u8.mp hdd
  obtain⟨hi,ey⟩:=t8.mp hy
  rw[u2F]at ey
  subst ey
  rw[g8]at hi
  rw[m9]
  refine⟨[.v (zp m ts),.v (.int p),.o (is.map xS),.v (.int (i:Int)),.v (.lst ((zW m ts ks (i:Int)).map zV)),o5],rfl,?_⟩
  unfold xa
  refine Wt (ds:=(zW m ts ks (i:Int)).map zV) (λj ρ=>∃ (is:List (Option Int)) (o5:Sl),ρ=[.v (zp m ts),.v (.int p),.o (is.map xS),.v (.int (i:Int)),.v (.lst ((zW m ts ks (i:Int)).map zV)),o5]/\(is.length:Int)=m/\(∀ o x:Nat,o < i->(o:Int) < m->x∈zW m ts ks (o:Int)->oAt is (x:Int)=some (o:Int))/\∀ k x:Nat,k < j->(zW m ts ks (i:Int))[k]?=some x->oAt is (x:Int)=some (i:Int)) rfl ⟨_,_,rfl,hl,hI,λk x h=>absurd h (u1l _)⟩ ?_ ?_
  .rintro j d ρ hd ⟨is,o5,rfl,hl,hI,hJ⟩
   rw[j5]at hd
   obtain⟨x,hx,rfl⟩:=u8.mp hd
   have hxo:=r8 hx
   have hxm:=zP hxo
   refine⟨[.v (zp m ts),.v (.int p),.o (is.map xS),.v (.int (i:Int)),.v (.lst ((zW m ts ks (i:Int)).map zV)),.v (zV x)],rfl,?_⟩
   unfold xb
   have hn:zV x=.int (x:Int):=by show D.int (0+(x:Int))=_;rw[u09]
   rw[hn]
   refine zby (is.map xS) (.int (i:Int)) (x:Int) rfl rfl rfl (by omega) (Xl hxm hl) ⟨is.set x (some (i:Int)),.v (.int (x:Int)),?_,by rw[i9];exact hl,?_,?_⟩
   .rw[u03];rfl
   .intro o z h1 h2 h3
    have e:=Xj (fs:=is) (i:=(x:Int)) (j:=(z:Int)) (x:=some (i:Int)) (by omega) (by omega) (by omega)
    have hne:z≠x:=λe=>by
     subst e
     have:=W2 ok T.tl T.hp T.hks T.hkl T.hb h2 h3 hxo
     omega
    show oAt (is.set (x:Int).toNat (some (i:Int))) (z:Int)=_
    rw[e,t6 (by omega)]
    exact hI o z h1 h2 h3
   .intro k z h1 h2
    have e:=Xj (fs:=is) (i:=(x:Int)) (j:=(z:Int)) (x:=some (i:Int)) (by omega) (by omega) (by omega)
    show oAt (is.set (x:Int).toNat (some (i:Int))) (z:Int)=_
    rw[e]
    by_cases c:z=x
    .rw[t5 (by rw[c])]
    .rw[t6 (by omega)]
     refine hJ k z ?_ h2
     have:k≠j:=λe=>by subst e;rw[hx]at h2;cases h2;exact c rfl
     omega
  .rintro ρ ⟨is,o5,rfl,hl,hI,hJ⟩
   refine⟨is,_,_,_,rfl,hl,λo x h1 h2 h3=>?_⟩
   by_cases c:o=i
   .subst c
    obtain⟨k,hk,e⟩:=d6 h3
    exact hJ k x (by rw[u6];exact hk) (by rw[u5 hk,e])
   .exact hI o x (by omega) h2 h3
 .rintro ρ ⟨is,o3,o4,o5,rfl,hl,hI⟩
  refine zdB (ρ':=[.v (zp m ts),.v (.int p),.v (.lst (is.map xS)),o3,o4,o5]) rfl (ZW rfl ⟨is,rfl,hl,λx hx hne=>?_⟩)
  obtain⟨y,ey,hy⟩:=zhq ok T.hp T.hks T.hkl hx hne
  have hyx:=(Zf ok).mp hy
  have hym:=((((wc ok).mp hy).1).rng ok).2
  rw[ey]
  refine hI y x ?_ hym.2 hyx
  rw[xz]
  unfold vF
  rw[u6,g8]
  omega
theorem XB (T:Txt K mg base ad):y6 P w K mg base CX0 5 ad.f_inner_neighbours ad.e_inner_neighbours ["web","root"] (@spD ⟨K⟩ 2 xI):=by
 letI:KK:=⟨K⟩
 have G_outer_neighbours:=ye (P:=P) (w:=w) (base:=base) T
 refine yC (N:=["web","root","inner","place","outer","other"]) (ps:=["web","root"]) T.d_inner_neighbours.fn yc (g:=yh) λcdv A outer s H E hr=>?_
 unfold yh xa xb
 exact(ze (vg (i:=2) yc.nd rfl (Or.inl rfl) (zaA (w8 (xV (za (WQ WN) zd))) (zA (edv 0) (zg zh) (λ_ _=>rfl))))
  (ze (Yx b8 rfl (Wq rfl T.z_enumerate xB (za (zi G_outer_neighbours hr rfl T.d_outer_neighbours (za (edv 0) (za (edv 1) zd))) zd)) (zej rfl (vL (zS (zz (i:=3) yc.nd rfl (Or.inl rfl))) (vL (zS (zz (i:=4) yc.nd rfl (Or.inl rfl))) zaH))) (zj (Yx b8 rfl (Y5 (edv 4)) (zS (zz (i:=5) yc.nd rfl (Or.inl rfl))) (zj (XF (m:=false) (edv 3) (pv 2) (edv 5))))))
  (vO 2 (zj (zB (edv 2))))))
theorem Vi {m p:Int}{ts:List Tie}{ks cs:List Int}{M:List Nat}{i x:Nat}(h:M[i]?=some x):yW m ts ks cs p (M.take (i+1))=yW m ts ks cs p (M.take i)++zht m ts ks cs p x:=by
 unfold yW
 rw[u1n,h,u2t]
 show _++[x].flatMap _=_
 rw[List.flatMap_singleton]
theorem zfp {m p:Int}{ts:List Tie}{ks cs:List Int}{M:List Nat}(i:Nat):(yW m ts ks cs p (M.take i)).length<=(yW m ts ks cs p M).length:=by
 have e:yW m ts ks cs p M=yW m ts ks cs p (M.take i)++yW m ts ks cs p (M.drop i):=by
  unfold yW
  rw[<-u2t,List.take_append_drop]
 rw[e,j9]
 omega
theorem zhN (n:Nat)(t:Tie):(List.replicate n [zv t]).flatten=(List.replicate n t).map zv:=by
 induction n with
 | zero=>rfl
 | succ n ih=>rw[i5,i5,u0Y,ih];rfl
theorem zjO {t:Tie}{c:Int}(h0:0<=c)(h1:c<=900):Yt (.lst [zv t]) (.int c)=some (.lst ((List.replicate c.toNat t).map zv)):=by
 show(if -(2 ^ 63)<=c/\c < 2 ^ 63/\lim ([zv t].length*c.toNat)=true then some (D.lst (List.replicate c.toNat [zv t]).flatten)else none)=_
 have hl:lim ([zv t].length*c.toNat)=true:=xk (by show 1*c.toNat<=1000;omega)
 rw[t5 ⟨Int.le_trans (by decide) h0,Int.lt_of_le_of_lt h1 (by decide),hl⟩,zhN]
theorem zmI {i:Nat}{f:Ev->Option D}{ρ ρ':SE}{ds es:List D}(h1:f (visF ρ)=some (.lst es))(h2:ρ[i]?=some (.o ds))(h3:ds.length+es.length<=1000)(h4:ρ.set i (.o (ds++es))=ρ'):zbH i f ρ=.nx ρ':=by
 unfold zbH
 rw[h1,h2]
 show(match (if lim (ds.length+es.length)=true then some (ρ.set i (.o (ds++es)))else none)with | some ρ'=>Ctl.nx ρ' | none=>Ctl.no)=_
 rw[t5 (xk h3),h4]
theorem zls {m p:Int}{ts:List Tie}{ks cs:List Int}{M:List Nat}{i x:Nat}(h:M[i]?=some x):(yW m ts ks cs p (M.take i)).length+(zht m ts ks cs p x).length<=(yW m ts ks cs p M).length:=by
 have:=zfp (m:=m) (ts:=ts) (ks:=ks) (cs:=cs) (p:=p) (M:=M) (i+1)
 rw[Vi h,j9]at this
 exact this
def Yn:SE->Ctl :=
 (sIf (tOf (zm neD (zc 7) (zc 2))) (zbH 6 (zm Yt (wd (yq (zb (Z1 (zb (zc 7) (zb (zm ixD (zc 4) (zc 7)) zq))) zq))) (zm ixD (zc 3) (zc 7)))) yk)
def vS:SE->Ctl :=
 (zI (XL (zo 3 yG (zb (zc 0) (zb (zc 1) (zb (zc 2) zq)))))
  (zI (y9 false 3 (zo 3 yR (zb (zc 0) (zb (zc 1) (zb (zc 2) zq)))))
  (zI (y9 false 4 (zo 2 xI (zb (zc 0) (zb (zc 2) zq))))
  (zI (y9 false 5 (zo 2 wa (zb (zc 0) (zb (zc 2) zq))))
  (zI (Zc 6 (yq zq))
  (zI (XD (iOf (wd (zcy (zm ixD (zc 0) (eC (.int 0))) (Z1 (zb (eUn V1 (zm ixD (zc 6) (zc 0))) (zb (zc 0) zq)))))) (yw 7) Yn)
  yk))))))
def vZ:List D->Option (List D):=zmL 8 vS 6
def p_tree_steps:List D->Option D:=λds=>(vZ ds).map .lst
theorem zaX {m p:Int}{ts:List Tie}{ks cs hs:List Int}(T:WY m ts ks cs hs p)(hj:vR m ts)(hl:(hs.length:Int)=m)(hnn:∀ x∈hs,0<=x)(hsum:hs.sum<=300)(hcl:(cs.length:Int)=m)(ec:yR [zp m ts,.tup (hs.map .int),.int p]=some (.tup (cs.map .int))) :
 ∃ M:List Nat,vZ [zp m ts,.tup (hs.map .int),.int p]=some ((yW m ts ks cs p M).map zv)/\M.Perm (List.range m.toNat)/\M.Pairwise (zkC λx=>-vAt ks (x:Int)):=by
 have ok:=T.ok
 have hm1:=ok.lo
 have hm8:=ok.hi
 obtain⟨is,ei,hil,hi⟩:=ziz T
 have e2:=vN ok T.hp
 rw[T.hks,W4]at e2
 obtain⟨M,eM,pm,sr⟩:=zb8 (f:=zm ixD (zc 0) (eC (.int 0))) (g:=Z1 (zb (eUn V1 (zm ixD (zc 6) (zc 0))) (zb (zc 0) zq))) (ρ:=visF [.v (zp m ts),.v (.tup (hs.map .int)),.v (.int p),.v (.tup (cs.map .int)),.v (.lst (is.map xS)),.v (.lst (ks.map .int)),.o [],.no]) (m:=m) (a:=λx=>-vAt ks (x:Int)) rfl (by omega) (by omega) (λx hx=>by
  refine VY (zy (zj2 (x:=.int (vAt ks (x:Int))) (zr (x:=.lst (ks.map .int)) (y:=.int (x:Int)) rfl rfl (Z4 (ns:=ks) ⟨by omega,hx⟩ T.hkl)) rfl) (zy rfl yj)) (by show 2<=1000;decide))
 refine⟨M,?_,pm,sr⟩
 have hR:zc1 m ts ks M:=⟨pm,sr.imp λh=>by have:=zbl h;omega⟩
 have hlen:=zik ok _ hs hl hnn (zdV T hR hl).1
 have hlen:(yW m ts ks cs p M).length<=300:=by omega
 refine zmb (ρ:=[.v (zp m ts),.v (.tup (hs.map .int)),.v (.int p),.no,.no,.no,.no,.no]) rfl ?_
 unfold vS
 refine zt (wC (d:=.non) (VM ok hj T.tl T.hp hl hnn hsum)) ?_
 refine zt (ρ':=[.v (zp m ts),.v (.tup (hs.map .int)),.v (.int p),.v (.tup (cs.map .int)),.no,.no,.no,.no]) (yH (ds:=[_,_,_]) rfl ec) ?_
 refine zt (ρ':=[.v (zp m ts),.v (.tup (hs.map .int)),.v (.int p),.v (.tup (cs.map .int)),.v (.lst (is.map xS)),.no,.no,.no]) (yH (ds:=[_,_]) rfl ei) ?_
 refine zt (ρ':=[.v (zp m ts),.v (.tup (hs.map .int)),.v (.int p),.v (.tup (cs.map .int)),.v (.lst (is.map xS)),.v (.lst (ks.map .int)),.no,.no]) (yH (ds:=[_,_]) rfl e2) ?_
 refine zt (ρ':=[.v (zp m ts),.v (.tup (hs.map .int)),.v (.int p),.v (.tup (cs.map .int)),.v (.lst (is.map xS)),.v (.lst (ks.map .int)),.o [],.no]) rfl ?_
 refine yJ (Wt (ds:=M.map λx:Nat=>D.int (x:Int)) (λi ρ=>∃ o7,ρ=[.v (zp m ts),.v (.tup (hs.map .int)),.v (.int p),.v (.tup (cs.map .int)),.v (.lst (is.map xS)),.v (.lst (ks.map .int)),.o ((yW m ts ks cs p (M.take i)).map zv),o7]) (zbL (ZH eM) rfl) ⟨_,rfl⟩ ?_ ?_)
 .rintro i d ρ hd ⟨o7,rfl⟩
  rw[j5]at hd
  obtain⟨x,hx,rfl⟩:=u8.mp hd
  have hxm:(x:Int) < m:=hR.mem.mp (r8 hx)
  refine⟨[.v (zp m ts),.v (.tup (hs.map .int)),.v (.int p),.v (.tup (cs.map .int)),.v (.lst (is.map xS)),.v (.lst (ks.map .int)),.o ((yW m ts ks cs p (M.take i)).map zv),.v (.int (x:Int))],rfl,?_⟩
  unfold Yn
  have hrow:=zls (m:=m) (ts:=ts) (ks:=ks) (cs:=cs) (p:=p) hx
  rw[Vi hx]
  by_cases c:(x:Int)=p
  .refine W3 (c:=false) (Xb (zr (x:=.int (x:Int)) (y:=.int p) rfl rfl (by rw[yT,j8 c];rfl))) (λz=>by cases z) (λ_=>Zh rfl ⟨.v (.int (x:Int)),?_⟩)
   have:zht m ts ks cs p x=[]:=t5 c
   rw[this,u0n]
  .refine W3 (c:=true) (Xb (zr (x:=.int (x:Int)) (y:=.int p) rfl rfl (by rw[yT,d7 c];rfl))) (λ_=>?_) (λz=>by cases z)
   have er:zht m ts ks cs p x=List.replicate (vAt cs (x:Int)).toNat ((x:Int),zjb m ts ks x):=t6 c
   have hlr:(zht m ts ks cs p x).length=(vAt cs (x:Int)).toNat:=by rw[er,p5]
   have e1:L2.atI (is.map xS) (x:Int)=some (.int (zjb m ts ks x)):=by
    rw[zfg (by omega) (by omega),hi x hxm c]
    rfl
   have e3:L2.atI (cs.map D.int) (x:Int)=some (.int (vAt cs (x:Int))):=Z4 (ns:=cs) ⟨by omega,hxm⟩ hcl
   have cn:=T.nn (x:=(x:Int)) (by omega) hxm
   refine Zh (zmI (es:=(zht m ts ks cs p x).map zv) (ds:=(yW m ts ks cs p (M.take i)).map zv) ?_ rfl (by rw[u6,u6];omega) rfl) ⟨.v (.int (x:Int)),?_⟩
   .refine zr (x:=.lst [zv ((x:Int),zjb m ts ks x)]) (y:=.int (vAt cs (x:Int))) (ZH (zjE (zy (VY (zy rfl (zy (zr (x:=.lst (is.map xS)) (y:=.int (x:Int)) rfl rfl e1) yj)) (by show 2<=1000;decide)) yj) (by show 1<=1000;decide))) (zr (x:=.tup (cs.map .int)) (y:=.int (x:Int)) rfl rfl e3) ?_
    rw[er]
    exact zjO cn (by omega)
   .rw[e9]
    rfl
 .rintro ρ ⟨o7,rfl⟩
  refine .nx ?_
  show some (Sl.o ((yW m ts ks cs p (M.take (M.map λx:Nat=>D.int (x:Int)).length)).map zv))=_
  rw[u6,u01]
theorem Xh (T:Txt K mg base ad):y6 P w K mg base CX0 13 ad.f_tree_steps ad.e_tree_steps ["web","heap","place"] (@znC ⟨K⟩ 3 vZ):=by
 letI:KK:=⟨K⟩
 have G_ties_away:=vY (P:=P) (w:=w) (base:=base) T
 have G_inner_neighbours:=XB (P:=P) (w:=w) (base:=base) T
 have G_must_be_rooted:=xX (P:=P) (w:=w) (base:=base) T
 have G_carried_to:=XY (P:=P) (w:=w) (base:=base) T
 refine zkx (N:=["web","heap","place","carried","inner","away","steps","other"]) (ps:=["web","heap","place"]) T.lc_tree_steps T.d_tree_steps.fn y3 (g:=vS) (i:=6) λA outer s H E hr=>?_
 unfold vS Yn
 exact(ZV (wH (zi G_must_be_rooted hr rfl T.d_must_be_rooted (za (edv 0) (za (edv 1) (za (edv 2) zd)))))
  (ZV (zJ (m:=false) (i:=3) y3.nd rfl (Or.inl rfl) (zi G_carried_to hr rfl T.d_carried_to (za (edv 0) (za (edv 1) (za (edv 2) zd)))))
  (ZV (zJ (m:=false) (i:=4) y3.nd rfl (Or.inl rfl) (zi G_inner_neighbours hr rfl T.d_inner_neighbours (za (edv 0) (za (edv 2) zd))))
  (ZV (zJ (m:=false) (i:=5) y3.nd rfl (Or.inr rfl) (zi G_ties_away hr rfl T.d_ties_away (za (edv 0) (za (edv 2) zd))))
  (ZV (vg (i:=6) y3.nd rfl (Or.inl rfl) (xV zd))
  (ZV (Yx b8 rfl (Y5 (w8 (zdT (x:="at") (M:=["web","heap","place","carried","inner","away","steps","other"]) hr rfl T.z_sorted rfl T.z_range (zA (edv 0) (zg zh) (λ_ _=>rfl)) T.la_tree_steps rfl (zec (by rfl) (by rfl) (by rfl) (by with_unfolding_all rfl) (by rfl) (by rfl) (by rfl) (by rfl) (by rfl) (by kernel_rfl) (all_cons rfl xM)) rfl (by kernel_rfl) (λ_ _ _ _=>rfl) (λ_ _ _ _ _=>(Y9 (za (zaD (zA (edv 6) (edv 0) (λ_ _=>rfl))) (za (edv 0) zd))))))) (zS (zz (i:=7) y3.nd rfl (Or.inl rfl))) (zj (wx (yb zcC WM (zM _) (edv 7) (edv 2)) (zj (zly (pv 6) (ZI (w8 (xV (za (Y9 (za (edv 7) (za (zA (edv 4) (edv 7) (λ_ _=>rfl)) zd))) zd))) (zA (edv 3) (edv 7) (λ_ _=>rfl))) (λa b=>zab m6 PySem.F.slot_list_extend PySem.F.type_list_extend zgm a b))) zU)))
  (zjN (pv 6))))))))
theorem zbm (T:Txt K mg base ad):y6 P w K mg base CX0 13 ad.f_tree_steps ad.e_tree_steps ["web","heap","place"] (@spD ⟨K⟩ 3 p_tree_steps):=by
 letI:KK:=⟨K⟩
 exact zmG (Xh (P:=P) (w:=w) (base:=base) T)
def Ys (m:Int)(ts:List Tie)(ks cs:List Int)(x:Int):Int:=(YV m ts ks cs x).sum
theorem zc9 {m:Int}{ts:List Tie}{hs cs ks:List Int}{x:Int}(ok:zG m ts)(hx:0<=x/\x < m)(hl:(hs.length:Int)=m)(hc:(cs.length:Int)=m):Yo [.tup (hs.map .int),.lst (vF m ts ks m.toNat),.tup (cs.map .int),.int x]=some (.int (vAt hs x+Ys m ts ks cs x)):=WR ok hx hl hc λ_=>rfl
def zj5 (m:Int)(ts:List Tie)(ks hs cs:List Int)(p x:Int):Bool:=decide (vAt hs x+Ys m ts ks cs x<=if x=p then vAt cs x else 2*vAt cs x+1)
def zfb (m:Int)(ts:List Tie)(ks hs cs:List Int)(p:Int)(i:Nat):Bool:=(List.range i).all λx:Nat=>zj5 m ts ks hs cs p (x:Int)
theorem zfV {m:Int}{ts:List Tie}{ks hs cs:List Int}{p:Int}{i:Nat}:zfb m ts ks hs cs p (i+1)=(zfb m ts ks hs cs p i&&zj5 m ts ks hs cs p (i:Int)):=by
 unfold zfb
 rw[u1i,List.all_append]
 simp
theorem zj9 {m:Int}{ts:List Tie}{ks hs cs:List Int}{p:Int}{n i:Nat}(hi:i < n)(h:zj5 m ts ks hs cs p (i:Int)=false):zfb m ts ks hs cs p n=false:=by
 unfold zfb
 rw[List.all_eq_false]
 exact⟨i,d5.mpr hi,by rw[h];exact u7⟩
def zmj (m:Int)(ts:List Tie)(ks hs:List Int)(p:Int):D->Bool
 | .tup ds=>zO m (.tup ds)&&zfb m ts ks hs (ds.map zmJ) p m.toNat
 | _=>false
theorem zcg {m:Int}{ts:List Tie}{ks hs cs:List Int}{p:Int}(hl:(cs.length:Int)=m)(hnn:∀ x∈cs,0<=x):zmj m ts ks hs p (.tup (cs.map .int))=zfb m ts ks hs cs p m.toNat:=by
 show(zO m (.tup (cs.map .int))&&zfb m ts ks hs ((cs.map D.int).map zmJ) p m.toNat)=_
 have:zO m (.tup (cs.map .int))=true:=by
  unfold zO
  rw[b7,r6,u6]
  exact⟨hl,zco hnn⟩
 rw[this,Ww]
 rfl
def vD:SE->Ctl :=
 (zI (y9 false 6 (zo 4 Yo (zb (zc 1) (zb (zc 4) (zb (zc 3) (zb (zc 5) zq))))))
  (zI (y9 false 7 (eIf (tOf (zm V5 (zc 5) (zc 2))) (zm ixD (zc 3) (zc 5)) (zm vv (zm Yt (eC (.int 2)) (zm ixD (zc 3) (zc 5))) (eC (.int 1)))))
  (sIf (tOf (zm gtD (zc 6) (zc 7))) (yO (eC (.bl false))) yk)))
def wS:SE->Ctl :=
 (zI (XL (zo 3 yG (zb (zc 0) (zb (zc 1) (zb (zc 2) zq)))))
  (zI (sIf (xF (tOf (zo 2 yV (zb (zm ixD (zc 0) (eC (.int 0))) (zb (zc 3) zq))))) (yO (eC (.bl false))) yk)
  (zI (y9 false 4 (zo 2 zE (zb (zc 0) (zb (zc 2) zq))))
  (zI (xT Yi (zb (zm ixD (zc 0) (eC (.int 0))) zq) (yw 5) vD)
  (yO (eC (.bl true)))))))
def YS:List D->Option D:=fnD 8 wS
theorem V7 {m:Int}{ts:List Tie}{p:Int}{hs ks:List Int}{d:D}(ok:zG m ts)(hj:vR m ts)(htl:(ts.length:Int)=m - 1)(hp:0<=p/\p < m)(hks:YX m ts p=ks.map some)(hkl:(ks.length:Int)=m)(hl:(hs.length:Int)=m)(hnn:∀ x∈hs,0<=x)(hsum:hs.sum<=300)(hd:noS d=true):YS [zp m ts,.tup (hs.map .int),.int p,d]=some (.bl (zmj m ts ks hs p d)):=by
 have hm1:=ok.lo
 have hm8:=ok.hi
 have em:ixD (zp m ts) (.int 0)=some (.int m):=rfl
 have e1:=VM ok hj htl hp hl hnn hsum
 have e4:yV [.int m,d]=some (.bl (zO m d)):=by
  show(if (noS d&&decide (m<=1000))=true then some (D.bl (zO m d))else none)=_
  rw[hd,zb6 ok]
  rfl
 have e5:=XU ok hp hks hkl
 refine WE (ρ:=[.v (zp m ts),.v (.tup (hs.map .int)),.v (.int p),.v d,.no,.no,.no,.no]) rfl ?_
 unfold wS
 refine zt (ρ':=[.v (zp m ts),.v (.tup (hs.map .int)),.v (.int p),.v d,.no,.no,.no,.no]) (wC e1) ?_
 cases hc:zO m d with
 | false =>
  rw[hc]at e4
  refine zn0 (d:=.bl false) (by simp[sIf,xF,tOf,zo,zb,zq,zc,visG,Sl.g,zm,eC,em,e4,asB,yO]) ?_
  cases d <;> try rfl
  show _=D.bl (zO m _&&_)
  rw[hc]
  rfl
 | true =>
  rw[hc]at e4
  refine yJ (W3 (c:=false) (by simp[xF,tOf,zo,zb,zq,zc,visG,Sl.g,zm,eC,em,e4,asB]) (λz=>by cases z) λ_=>Zh rfl ?_)
  cases d <;> try cases hc
  rename_i ds
  have hc':=hc
  unfold zO at hc'
  rw[b7,r6]at hc'
  obtain⟨cs,rfl,hcs⟩:=VN hc'.2
  have hcl:(cs.length:Int)=m:=by have:=hc'.1;rw[u6]at this;exact this
  rw[zcg hcl hcs]
  refine zt (ρ':=[.v (zp m ts),.v (.tup (hs.map .int)),.v (.int p),.v (.tup (cs.map .int)),.v (.lst (vF m ts ks m.toNat)),.no,.no,.no]) (xf e5) ?_
  refine yJ (X3 (lo:=0) (c:=m.toNat) (λi ρ=>(∃ o5 o6 o7,ρ=[.v (zp m ts),.v (.tup (hs.map .int)),.v (.int p),.v (.tup (cs.map .int)),.v (.lst (vF m ts ks m.toNat)),o5,o6,o7])/\zfb m ts ks hs cs p i=true) ?_ ⟨⟨_,_,_,rfl⟩,rfl⟩ ?_ ?_)
  .show Yi [.int m]=_
   exact XS ok
  .rintro i ρ hi ⟨⟨o5,o6,o7,rfl⟩,hB⟩
   obtain⟨x,hx⟩:∃ x:Int,(0:Int)+(i:Int)=x:=⟨_,rfl⟩
   rw[hx]
   refine⟨_,rfl,?_⟩
   have hxp:=zhe hi hx
   have e6:=zc9 (ks:=ks) ok hxp hl hcl
   have ec:=Z4 (ns:=cs) (i:=x) hxp hcl
   unfold vD
   generalize hO:vF m ts ks m.toNat=O at *
   refine zt (ρ':=[.v (zp m ts),.v (.tup (hs.map .int)),.v (.int p),.v (.tup (cs.map .int)),.v (.lst O),.v (.int x),.v (.int (vAt hs x+Ys m ts ks cs x)),o7]) (xf e6) ?_
   obtain⟨mx,hmx⟩:∃ mx:Int,(if x=p then vAt cs x else 2*vAt cs x+1)=mx:=⟨_,rfl⟩
   have hcar:zj5 m ts ks hs cs p x=decide (vAt hs x+Ys m ts ks cs x<=mx):=by unfold zj5;rw[hmx]
   refine zt (ρ':=[.v (zp m ts),.v (.tup (hs.map .int)),.v (.int p),.v (.tup (cs.map .int)),.v (.lst O),.v (.int x),.v (.int (vAt hs x+Ys m ts ks cs x)),.v (.int mx)]) ?_ ?_
   .have m2:Yt (.int 2) (.int (vAt cs x))=some (.int (2*vAt cs x)):=zaI (by decide) (by decide)
    have q1:V5 (.int x) (.int p)=some (.bl (decide (x=p))):=rfl
    by_cases c:x=p
    .rw[t5 c]at hmx
     rw[j8 c]at q1
     simp[y9,vEv,visF,Sl.f,eIf,tOf,zm,zc,q1,asB,ixD,ec,hmx]
    .rw[t6 c]at hmx
     rw[d7 c]at q1
     simp[y9,vEv,visF,Sl.f,eIf,tOf,zm,zc,eC,q1,asB,ixD,ec,m2,yA,hmx]
   refine W3 (c:=!zj5 m ts ks hs cs p x) ?_ (λz=>ZW rfl ?_) (λz=>Zh rfl ⟨⟨_,_,_,rfl⟩,?_⟩)
   .rw[hcar]
    simp[tOf,zm,zc,visG,Sl.g,gtD,zbd,asB]
    by_cases c:vAt hs x+Ys m ts ks cs x<=mx
    .rw[j8 c,d7 (by omega)];rfl
    .rw[d7 c,j8 (by omega)];rfl
   .have:zfb m ts ks hs cs p m.toNat=false:=zj9 hi (by rw[zjr hx];simpa using z)
    rw[this]
   .rw[zfV,hB,zjr hx]
    simpa using z
  .rintro ρ ⟨⟨o5,o6,o7,rfl⟩,hB⟩
   exact ZW rfl (by rw[hB])
theorem V6 (T:Txt K mg base ad):y6 P w K mg base CX0 13 ad.f_carry_holds ad.e_carry_holds ["web","heap","place","thing"] (@spD ⟨K⟩ 4 YS):=by
 letI:KK:=⟨K⟩
 have G_are_counts:=X4 (P:=P) (w:=w) (base:=base) T
 have G_outer_neighbours:=ye (P:=P) (w:=w) (base:=base) T
 have G_must_be_rooted:=xX (P:=P) (w:=w) (base:=base) T
 have G_gathered:=VW (P:=P) (w:=w) (base:=base) T
 refine yC (N:=["web","heap","place","thing","outer","other","stones","most"]) (ps:=["web","heap","place","thing"]) T.d_carry_holds.fn xm (g:=wS) λcdv A outer s H E hr=>?_
 unfold wS vD
 exact(ze (wH (zi G_must_be_rooted hr rfl T.d_must_be_rooted (za (edv 0) (za (edv 1) (za (edv 2) zd)))))
  (ze (wx (Yq (Yu (zi G_are_counts hr rfl T.d_are_counts (za (zA (edv 0) (zg zh) (λ_ _=>rfl)) (za (edv 3) zd))))) (zj (zB (Z5 Z6))) zU)
  (ze (zJ (m:=false) (i:=4) xm.nd rfl (Or.inl rfl) (zi G_outer_neighbours hr rfl T.d_outer_neighbours (za (edv 0) (za (edv 2) zd))))
  (ze (vX b8 rfl rfl T.z_range (za (zA (edv 0) (zg zh) (λ_ _=>rfl)) zd) (zS (zz (i:=5) xm.nd rfl (Or.inl rfl))) (ze (zJ (m:=false) (i:=6) xm.nd rfl (Or.inl rfl) (zi G_gathered hr rfl T.d_gathered (za (edv 1) (za (edv 4) (za (edv 3) (za (edv 5) zd))))))
  (ze (zJ (m:=false) (i:=7) xm.nd rfl (Or.inl rfl) (zjZ (yb (Zp hr) vf (zM _) (edv 5) (edv 2)) (zA (edv 3) (edv 5) (λ_ _=>rfl)) (yp (ZI (zg zh) (zA (edv 3) (edv 5) (λ_ _=>rfl))) (zg zh))))
  (zj (wx (yb zaZ yi (zM _) (edv 6) (edv 7)) (zj (zB (Z5 Z6))) zU)))))
  (zj (zB (Z5 Z6)))))))
theorem zhG {m p a b:Int}{ts:List Tie}{ks:List Int}(ok:zG m ts)(htl:(ts.length:Int)=m - 1)(hp:0<=p/\p < m)(hks:YX m ts p=ks.map some)(hkl:(ks.length:Int)=m)(h:adj ts a b):vAt ks a < vAt ks b\/vAt ks b < vAt ks a:=by
 have key:∀ t∈ts,vAt ks t.1≠vAt ks t.2:=λt ht e=>by
  have r:=ok.rng t ht
  have hU:=zd5 ok htl hp hks hkl
  have eu:upT ks t=t.1:=by unfold upT;rw[t6 (by omega)]
  by_cases c:t.1=p
  .obtain⟨k,fk,ek⟩:=zdD (x:=t.2) hks hkl ⟨by omega,by omega⟩
   rw[c,zgr hp hks hkl]at e
   have:k=0:=by omega
   subst this
   cases fk.1
   omega
  .obtain⟨o,ho⟩:=wJ (x:=t.1) ok hp hks hkl ⟨by omega,by omega⟩ c
   obtain⟨s,hs,e1,c1⟩:=zd8 ok ho
   have:=Za hU ht hs (eu.trans e1.symm)
   subst this
   have n1:=((wc ok).mp ho).2
   rcases c1 with ⟨d1,d2⟩ | ⟨d1,d2⟩
   .rw[<-d2]at n1;omega
   .rw[<-d1]at n1;omega
 rcases h with h | h
 .have:=key _ h
  dsimp only at this
  omega
 .have:=key _ h
  dsimp only at this
  omega
structure zkm (m:Int) (ts:List Tie) (ks h c:List Int) (p:Int):Prop where
 len:(c.length:Int)=m
 nn:∀ x:Int,0<=vAt c x
 hold:∀ x:Nat,(x:Int) < m->vAt h (x:Int)+Ys m ts ks c (x:Int)<=(if (x:Int)=p then vAt c (x:Int)else 2*vAt c (x:Int)+1)
theorem ze2 {m p:Int}{ts:List Tie}{ks cs hs:List Int}(T:WY m ts ks cs hs p)(hcl:(cs.length:Int)=m):zkm m ts ks hs cs p:=by
 refine⟨hcl,λx=>?_,λx hx=>?_⟩
 .by_cases c:0<=x/\x < m
  .exact T.nn c.1 c.2
  .unfold vAt
   rw[j4]
   cases e:cs[x.toNat]? with
   | none=>exact u0z _
   | some v =>
    obtain⟨hi,ev⟩:=t8.mp e
    have:=T.nn (x:=((x.toNat:Nat):Int)) (by omega) (by omega)
    unfold vAt at this
    rw[j4,show(((x.toNat:Nat):Int)).toNat=x.toNat from rfl,e]at this
    exact this
 .have e:vAt cs (x:Int)=(vAt hs (x:Int)+(YV m ts ks cs (x:Int)).sum) / (if (x:Int)=p then 1 else 2):=T.hE (x:Int) (by omega) hx
  have eo:Ys m ts ks cs (x:Int)=(YV m ts ks cs (x:Int)).sum:=rfl
  by_cases c:(x:Int)=p
  .rw[t5 c,u10]at e
   rw[t5 c]
   omega
  .rw[t6 c]at e
   rw[t6 c]
   omega
theorem ze3 {m p:Int}{ts:List Tie}{ks cs hs c:List Int}(T:WY m ts ks cs hs p)(G:zkm m ts ks hs c p):∀ (n:Nat) (x:Nat),(x:Int) < m->m - vAt ks (x:Int)<=(n:Int)->vAt cs (x:Int)<=vAt c (x:Int):=by
 intro n
 induction n with
 | zero =>
  intro x hx h
  have:=(T.hb (x:Int) (by omega) hx).2
  omega
 | succ n ih =>
  intro x hx h
  have e:vAt cs (x:Int)=(vAt hs (x:Int)+(YV m ts ks cs (x:Int)).sum) / (if (x:Int)=p then 1 else 2):=T.hE (x:Int) (by omega) hx
  have g:=G.hold x hx
  have hsum:(YV m ts ks cs (x:Int)).sum<=Ys m ts ks c (x:Int):=by
   unfold Ys YV
   have:∀ l:List Nat,(∀ o∈l,vAt cs (o:Int)<=vAt c (o:Int))->(l.map λo:Nat=>vAt cs (o:Int)).sum<=(l.map λo:Nat=>vAt c (o:Int)).sum:=λl=>by
    induction l with
    | nil=>intro _;exact u0z _
    | cons a l ih2 =>
     intro h
     rw[b9,b9,p9,p9]
     have:=h a (.head _)
     have:=ih2 λo ho=>h o (.tail _ ho)
     omega
   exact this _ λo ho=>by
    have:=yf ho
    exact ih o (zP ho) (by omega)
  by_cases c:(x:Int)=p
  .rw[t5 c,u10]at e
   rw[t5 c]at g
   omega
  .rw[t6 c]at e
   rw[t6 c]at g
   omega
theorem zhJ {m p:Int}{ts:List Tie}{ks hs cs:List Int}{n:Nat}:zfb m ts ks hs cs p n=true↔∀ x:Nat,x < n->vAt hs (x:Int)+Ys m ts ks cs (x:Int)<=(if (x:Int)=p then vAt cs (x:Int)else 2*vAt cs (x:Int)+1):=by
 unfold zfb zj5
 rw[u0r]
 exact⟨λh x hx=>o0 (h x (d5.mpr hx)),λh x hx=>j8 (h x (d5.mp hx))⟩
theorem znt {i:Ev->Option (List D)}{ρ:Ev}{os:List Nat}{cs:List Int}{m:Int}{k:Nat}{d:D}(hi:i ρ=some (os.map zV))(hk:ρ[k]?=some (some d))(hd:∀ j,ixD d (.int j)=atI (cs.map D.int) j)(hl:(cs.length:Int)=m)(ho:∀ o∈os,(o:Int) < m)(h8:os.length<=8):fLC i b1 xw (zm vv (zm ixD (zc (k+1)) (zc 0)) (eC (.int 1))) ρ=some ((os.map λo:Nat=>vAt cs (o:Int)+1).map .int):=by
 unfold fLC
 rw[hi]
 show(if lim (os.map zV).length=true then _ else none)=_
 rw[t5 (zj1 (by rw[u6];exact h8)),m7]
 refine Zd zV _ os λo hm=>⟨[some (zV o)],rfl,rfl,?_⟩
 have:=ho o hm
 have eo:=Z4 (ns:=cs) (zdq this) hl
 have e1:zc (k+1) ([some (zV o)]++ρ)=some d:=by
  show((some (zV o)::ρ)[k+1]?).getD none=_
  rw[List.getElem?_cons_succ,hk]
  rfl
 refine zr (x:=.int (vAt cs (o:Int))) (y:=.int 1) (zr (x:=d) (y:=zV o) e1 rfl ?_) rfl rfl
 show ixD d (.int (0+(o:Int)))=_
 rw[hd,eo,u09]
def Fh (_:Int)(vs:List Int):Int:=if vs.map (·+1)=[]then 0 else maxL (vs.map (·+1))
theorem zeP (ns:List Int):zff (.lst (ns.map .int)) (.int 0)=some (.int (if ns=[]then 0 else maxL ns)):=by
 show(zai (ns.map .int)).map _=_
 rw[ZN]
 rfl
def wK:SE->Ctl :=
 (Wd true 3 (zc 4) (zm zff (wd (fLC (iOf (zm ixD (zc 2) (zc 4))) b1 xw (zm vv (zm ixD (zc 4) (zc 0)) (eC (.int 1))))) (eC (.int 0))))
def xg:SE->Ctl :=
 (zI (y9 false 2 (zo 2 zE (zb (zc 0) (zb (zc 1) zq))))
  (zI (Zc 3 (zf5 zdP (wd (yq (zb (eC (.int 0)) zq))) (zm ixD (zc 0) (eC (.int 0)))))
  (zI (XD (zjP (zo 2 p_outwards (zb (zc 0) (zb (zc 1) zq)))) (yw 4) wK)
  (sFz 3 (yO (eFn ym (zb (zc 3) zq)))))))
def wg:List D->Option D:=fnD 5 xg
theorem Vv {m:Int}{ts:List Tie}{p:Int}{ks:List Int}(ok:zG m ts)(hp:0<=p/\p < m)(hks:YX m ts p=ks.map some)(hkl:(ks.length:Int)=m):∃ cs:List Int,wg [zp m ts,.int p]=some (.tup (cs.map .int))/\(cs.length:Int)=m/\∀ x:Int,0<=x->x < m->EqA Fh m ts ks cs x:=by
 have hm1:=ok.lo
 have hm8:=ok.hi
 have em:ixD (zp m ts) (.int 0)=some (.int m):=rfl
 have e5:=XU ok hp hks hkl
 obtain⟨L,eL,hR⟩:=VS ok hp hks hkl
 obtain⟨R,hRL⟩:∃ R,L.reverse=R:=⟨_,rfl⟩
 rw[hRL]at hR
 have key:=zgW (m:=5) (g:=xg) (ds:=[zp m ts,.int p]) (R:=λd=>∃ cs:List Int,d=.tup (cs.map .int)/\(cs.length:Int)=m/\∀ x:Int,0<=x->x < m->EqA Fh m ts ks cs x) (ρ:=[.v (zp m ts),.v (.int p),.no,.no,.no]) rfl ?_
 .obtain⟨d,e,cs,rfl,h⟩:=key
  exact⟨cs,e,h⟩
 unfold xg
 refine zt (ρ':=[.v (zp m ts),.v (.int p),.v (.lst (vF m ts ks m.toNat)),.no,.no]) (yH (ds:=[_,_]) rfl e5) ?_
 refine zt (ρ':=[.v (zp m ts),.v (.int p),.v (.lst (vF m ts ks m.toNat)),.o ((List.replicate m.toNat (0:Int)).map .int),.no]) ?_ ?_
 .have e:=Wn (d:=.int 0) (n:=m) (by omega) (by omega)
  simp[Zc,zf5,wd,yq,zb,zq,eC,xk,zc,visF,Sl.f,zm,em,e]
 have hfor:zjP (zo 2 p_outwards (zb (zc 0) (zb (zc 1) zq))) (visG [.v (zp m ts),.v (.int p),.v (.lst (vF m ts ks m.toNat)),.o ((List.replicate m.toNat (0:Int)).map .int),.no])=some (R.map λx:Nat=>D.int (x:Int)):=by
  unfold zjP
  rw[yr (ds:=[zp m ts,.int p]) rfl eL,d9,<- hRL,List.map_reverse]
  rfl
 refine yJ (Wt (ds:=R.map λx:Nat=>D.int (x:Int)) (λi ρ=>∃ (cs:List Int) (o4:Sl),ρ=[.v (zp m ts),.v (.int p),.v (.lst (vF m ts ks m.toNat)),.o (cs.map .int),o4]/\(cs.length:Int)=m/\∀ y,Swp R i y->0<=y/\EqA Fh m ts ks cs y) hfor ⟨_,_,rfl,by rw[p5];omega,λy ⟨k,o,hk,_⟩=>absurd hk (u1l _)⟩ ?_ ?_)
 .rintro i d ρ hd ⟨cs,o4,rfl,hl,hS⟩
  rw[j5]at hd
  obtain⟨x,hx,rfl⟩:=u8.mp hd
  have hxm:(x:Int) < m:=hR.mem.mp (r8 hx)
  have hxp:0<=(x:Int)/\(x:Int) < m:=⟨by omega,hxm⟩
  refine⟨[.v (zp m ts),.v (.int p),.v (.lst (vF m ts ks m.toNat)),.o (cs.map .int),.v (.int (x:Int))],rfl,?_⟩
  unfold wK
  have st:=hR.step (F:=Fh) hx hl hS
  have ev:zm zff (wd (fLC (iOf (zm ixD (zc 2) (zc 4))) b1 xw (zm vv (zm ixD (zc 4) (zc 0)) (eC (.int 1))))) (eC (.int 0)) (visG [.v (zp m ts),.v (.int p),.v (.lst (vF m ts ks m.toNat)),.o (cs.map .int),.v (.int (x:Int))])=some (.int (Fh (x:Int) (YV m ts ks cs (x:Int)))):=by
   refine zr (x:=.lst (((zW m ts ks (x:Int)).map λo:Nat=>vAt cs (o:Int)+1).map .int)) (y:=.int 0) (ZH ?_) rfl ?_
   .exact znt (k:=3) (d:=.lst (cs.map .int)) (m:=m) (zbL (zr (x:=.lst (vF m ts ks m.toNat)) (y:=.int (x:Int)) rfl rfl (zjl hxp)) rfl) rfl (λ_=>rfl) hl (λo ho=>zP ho) (zaL ok)
   .rw[zeP]
    unfold Fh YV
    rw[m7]
    rfl
  refine zby (cs.map .int) (.int (Fh (x:Int) (YV m ts ks cs (x:Int)))) (x:Int) ?_ rfl rfl hxp.1 (Xl hxm hl) ⟨cs.set x (Fh (x:Int) (YV m ts ks cs (x:Int))),.v (.int (x:Int)),?_,by rw[i9];exact hl,st⟩
  .unfold vEv
   rw[t5 rfl,ev]
   rfl
  .rw[u03];rfl
 .rintro ρ ⟨cs,o4,rfl,hl,hS⟩
  rw[u6]at hS
  exact zdB (ρ':=[.v (zp m ts),.v (.int p),.v (.lst (vF m ts ks m.toNat)),.v (.lst (cs.map .int)),o4]) rfl (ZW rfl ⟨cs,rfl,hl,hR.fin hS⟩)
theorem Vc (T:Txt K mg base ad):y6 P w K mg base CX0 6 ad.f_heights_from ad.e_heights_from ["web","root"] (@spD ⟨K⟩ 2 wg):=by
 letI:KK:=⟨K⟩
 have G_outer_neighbours:=ye (P:=P) (w:=w) (base:=base) T
 have G_outwards:=Vw (P:=P) (w:=w) (base:=base) T
 refine yC (N:=["web","root","outer","tall","place"]) (ps:=["web","root"]) T.d_heights_from.fn xJ (g:=xg) λcdv A outer s H E hr=>?_
 unfold xg wK
 exact(ze (zJ (m:=false) (i:=2) xJ.nd rfl (Or.inl rfl) (zi G_outer_neighbours hr rfl T.d_outer_neighbours (za (edv 0) (za (edv 1) zd))))
  (ze (vg (i:=3) xJ.nd rfl (Or.inr rfl) (zaA (w8 (xV (za (zg zh) zd))) (zA (edv 0) (zg zh) (λ_ _=>rfl))))
  (ze (Yx b8 rfl (zi2 rfl T.z_reversed (zi G_outwards hr rfl T.d_outwards (za (edv 0) (za (edv 1) zd)))) (zS (zz (i:=4) xJ.nd rfl (Or.inl rfl))) (zj (XF (m:=true) (zj8 rfl rfl T.z_max (w8 (zas (L:=["other"]) (M:=["web","root","outer","tall","place"]) rfl (Xg (by rfl) (by rfl) (by rfl) (by with_unfolding_all rfl) (by rfl) (by rfl) (by kernel_rfl) (all_cons rfl xM)) (Y5 (zA (edv 2) (edv 4) (λ_ _=>rfl))) gs1 rb1 (λ_ _ _ _=>(zz (i:=0) znB rfl (Or.inl rfl) (.inr rfl))) (λ_ _ _ _=>(yp (zA (edv 4) (edv 0) (λ_ _=>rfl)) (zg zh))))) (zg zh)) (pv 3) (edv 4))))
  (vO 3 (zj (zB (yI zY xK rfl T.z_tuple yM (za (edv 3) zd))))))))
theorem ZS {α:Type}{l:List α}(f:α->List Int)(g:List Int->α)(d:α->D)(hgf:∀ x∈l,g (f x)=x)(nd:l.Nodup) :
 Zx (l.map f) (l.map d)=((yP (l.map f)).map g).map d/\((yP (l.map f)).map g).Perm l/\((yP (l.map f)).map g).Pairwise (λx y=>HT.lexLt (f y) (f x)=false)/\(l.map f).Nodup:=by
 have p:=XA (l.map f)
 have r:=Xu (l.map f)
 have ndf:(l.map f).Nodup:=ZB (λa ha b hb e=>by rw[<-hgf a ha,e,hgf b hb]) nd
 have hM:((yP (l.map f)).map g).map f=yP (l.map f):=by
  rw[m7]
  have:(yP (l.map f)).map (f ∘ g)=(yP (l.map f)).map id:=by
   refine p4 λt ht=>?_
   obtain⟨x,hx,rfl⟩:=u0g.mp (p.mem_iff.mp ht)
   show f (g (f x))=f x
   rw[hgf x hx]
  rw[this,u1v]
 have pM:((yP (l.map f)).map g).Perm l:=by
  have:=p.map g
  rw[m7]at this
  have e:l.map (g ∘ f)=l:=by
   have:l.map (g ∘ f)=l.map id:=p4 λx hx=>hgf x hx
   rw[this,u1v]
  rwa[e]at this
 refine⟨?_,pM,?_,ndf⟩
 .unfold Zx
  conv=>lhs;rw[<-hM]
  rw[m7]
  refine p4 λx hx=>?_
  obtain⟨i,hi,rfl⟩:=d6 (pM.mem_iff.mp hx)
  have hl:i < (l.map f).length:=by rw[u6];exact hi
  have e1:(l.map f)[i]=f l[i]:=by rw[u1t]
  have e2:(l.map f).idxOf (f l[i])=i:=by
   have:=ndf.idxOf_getElem i hl
   rw[e1]at this
   exact this
  show(l.map d).getD ((l.map f).idxOf (f l[i])) .non=d l[i]
  rw[e2,j4,j5,u5 hi]
  rfl
 .rw[<-hM,u0u]at r
  exact r
theorem zge {α:Type}{g:Ev->Option D}{ρ:Ev}{c:α->D}{f:α->List Int}:∀ (l:List α),(∀ x∈l,g (some (c x)::ρ)=some (.tup ((f x).map .int))/\f x≠[])->zcZ g ρ (l.map c)=some (l.map f):=by
 intro l
 induction l with
 | nil=>intro _;rfl
 | cons x l ih =>
  intro h
  obtain⟨e,hne⟩:=h x (.head _)
  have r:=ih λy hy=>h y (.tail _ hy)
  show(g (some (c x)::ρ)).bind _=_
  rw[e,d9]
  show(zai ((f x).map .int)).bind _=_
  rw[ZN,d9,t6 hne,r]
  rfl
theorem zfr {α:Type}{g:Ev->Option D}{ρ:Ev}{c:α->D}{h:α->Int}{u:α->List Int}:∀ (l:List α),(∀ x∈l,g (some (c x)::ρ)=some (.tup [.int (h x),.tup ((u x).map .int)]))->zgT g ρ (l.map c)=some (l.map λx=>h x::u x):=by
 intro l
 induction l with
 | nil=>intro _;rfl
 | cons x l ih =>
  intro hh
  have e:=hh x (.head _)
  have r:=ih λy hy=>hh y (.tail _ hy)
  show(g (some (c x)::ρ)).bind _=_
  rw[e,d9]
  show(zai ((u x).map .int)).bind _=_
  rw[ZN,d9,r]
  rfl
def zmT (a:Nat->Int)(l:List Nat):List Nat:=(yP (l.map λx=>[a x,(x:Int)])).map λt=>(t.getD 1 0).toNat
theorem VL (a:Nat->Int)(d:Nat->D){l:List Nat}(nd:l.Nodup):Zx (l.map λx=>[a x,(x:Int)]) (l.map d)=(zmT a l).map d/\(zmT a l).Perm l/\(zmT a l).Pairwise (zkC a)/\(l.map λx=>[a x,(x:Int)]).Nodup:=by
 obtain⟨h1,h2,h3,h4⟩:=ZS (λx:Nat=>[a x,(x:Int)]) (λt=>(t.getD 1 0).toNat) d (λx _=>rfl) nd
 refine⟨h1,h2,?_,h4⟩
 refine(h3.and (h2.nodup_iff.mpr nd)).imp λ{x y} h=>?_
 obtain⟨h5,h6⟩:=h
 rcases lex2 h5 with h7 | ⟨h7,h8⟩
 .exact .inl h7
 .exact .inr ⟨h7,by omega⟩
theorem YF (k:Nat):zV k=.int (k:Int):=by show D.int (0+(k:Int))=_;rw[u09]
theorem Zi (m:Int)(ts:List Tie)(ks:List Int)(x:Int):(zW m ts ks x).Nodup:=by
 unfold zW nbN
 exact(u0s.filter _).filter _
def rkN (m:Int)(ts:List Tie)(ks tl:List Int)(x:Nat):List Nat:=zmT (λo=>-vAt tl (o:Int)) (zW m ts ks (x:Int))
theorem X0 (m:Int)(ts:List Tie)(ks tl:List Int)(x:Nat):(rkN m ts ks tl x).Perm (zW m ts ks (x:Int)):=(VL _ zV (Zi m ts ks _)).2.1
theorem zR {m:Int}{ts:List Tie}{ks tl:List Int}{x o:Nat}:o∈rkN m ts ks tl x↔o∈zW m ts ks (x:Int):=(X0 m ts ks tl x).mem_iff
theorem wv (m:Int)(ts:List Tie)(ks tl:List Int)(x:Nat):(rkN m ts ks tl x).Nodup:=(X0 m ts ks tl x).nodup_iff.mpr (Zi m ts ks _)
def rkD (m:Int)(ts:List Tie)(ks tl:List Int):List D:=(List.range m.toNat).map λx=>.lst ((rkN m ts ks tl x).map zV)
theorem zje {m:Int}{ts:List Tie}{ks tl:List Int}{x:Nat}(hx:(x:Int) < m):L2.atI (rkD m ts ks tl) (x:Int)=some (.lst ((rkN m ts ks tl x).map zV)):=by
 refine zaw (by omega) ?_
 unfold rkD
 rw[j5,show((x:Int)).toNat=x from rfl,u0E (by omega)]
 rfl
def xU (rk:Nat->List Nat):Nat->Nat->List Nat
 | 0,_=>[]
 | n+1,y=>match rk y with
  | []=>[]
  | o::_=>o::xU rk n o
def wD (w:List Nat):D:=.tup (w.map zV)
def muW:SE->Nat
 | [_,.v (.tup ds)]=>10 - ds.length
 | _=>0
theorem zfP {w:List Nat}{y:Nat}:L2.atI ((w++[y]).map zV) (-1)=some (zV y):=by
 have e:L2.ixN ((w++[y]).map zV).length (-1)=some w.length:=by
  unfold L2.ixN
  rw[u6,j9]
  simp
  omega
 unfold L2.atI
 rw[e]
 simp
def vq:SE->Ctl :=
 (y9 false 1 (zm vv (zc 1) (Z1 (zb (zm ixD (zm ixD (zc 0) (zm ixD (zc 1) (eUn V1 (eC (.int 1))))) (eC (.int 0))) zq))))
def wT:SE->Ctl :=
 (zI (Xf (tOf (zm gtD (eFn We (zb (zm ixD (zc 0) (zm ixD (zc 1) (eUn V1 (eC (.int 1))))) zq)) (eC (.int 0)))) vq 10)
  (yO (zc 1)))
def wW:List D->Option D:=fnD 2 wT
theorem zal {m p:Int}{ts:List Tie}{ks tl:List Int}(ok:zG m ts)(hb:∀ x:Int,0<=x->x < m->0<=vAt ks x/\vAt ks x < m){w:List Nat}{y:Nat}(hy:(y:Int) < m)(hl:(w.length:Int)<=vAt ks (y:Int)):wW [.lst (rkD m ts ks tl),wD (w++[y])]=some (wD (w++[y]++xU (rkN m ts ks tl) (9 - w.length) y)):=by
 have hm8:=ok.hi
 obtain⟨T,hT⟩:∃ T,w++[y]++xU (rkN m ts ks tl) (9 - w.length) y=T:=⟨_,rfl⟩
 rw[hT]
 have hb0:=hb (y:Int) (by omega) hy
 refine WE (ρ:=[.v (.lst (rkD m ts ks tl)),.v (wD (w++[y]))]) rfl ?_
 unfold wT
 refine yJ (zbf (fun ρ=>∃ (w:List Nat) (y:Nat),ρ=[.v (.lst (rkD m ts ks tl)),.v (wD (w++[y]))]/\(y:Int) < m/\(w.length:Int)<=vAt ks (y:Int)/\w++[y]++xU (rkN m ts ks tl) (9 - w.length) y=T) muW ?_ 10 _ ⟨w,y,rfl,hy,hl,hT⟩ ?_)
 .rintro ρ ⟨w,y,rfl,hy,hl,hT⟩
  have hbb:=hb (y:Int) (by omega) hy
  have e1:zm ixD (zc 0) (zm ixD (zc 1) (eUn V1 (eC (.int 1)))) (visG [.v (.lst (rkD m ts ks tl)),.v (wD (w++[y]))])=some (.lst ((rkN m ts ks tl y).map zV)):=by
   refine zr (x:=.lst (rkD m ts ks tl)) (y:=zV y) rfl (zr (x:=wD (w++[y])) (y:=.int (-1)) rfl rfl zfP) ?_
   rw[YF]
   exact zje hy
  cases hr:rkN m ts ks tl y with
  | nil =>
   rw[hr]at e1
   refine⟨false,Xb (zr (x:=.int 0) (y:=.int 0) (Zv (ds:=[.lst []]) (zy e1 yj) rfl) rfl rfl),(λz=>by cases z),λ_=>?_⟩
   have:xU (rkN m ts ks tl) (9 - w.length) y=[]:=by
    rw[show 9 - w.length=(8 - w.length)+1 by omega]
    unfold xU
    rw[hr]
   rw[this,u0n]at hT
   rw[hT]
   exact ZW rfl rfl
  | cons o r =>
   rw[hr]at e1
   have ho:o∈zW m ts ks (y:Int):=zR.mp (by rw[hr];exact .head _)
   have far:=yf ho
   refine⟨true,Xb (zr (x:=.int ((((o::r).map zV).length:Nat):Int)) (y:=.int 0) (Zv (ds:=[.lst ((o::r).map zV)]) (zy e1 yj) rfl) rfl ?_),λ_=>?_,(λz=>by cases z)⟩
   .show some (D.bl (decide (((((o::r).map zV).length:Nat):Int) > 0)))=_
    rw[j8 (by rw[u6,p6];omega)]
   .unfold vq
    refine Zh (ρ':=[.v (.lst (rkD m ts ks tl)),.v (wD (w++[y]++[o]))]) (zcu (zr (x:=wD (w++[y])) (y:=.tup [zV o]) rfl (VY (zy (zr (x:=.lst ((o::r).map zV)) (y:=.int 0) e1 rfl (zaw (u0z _) rfl)) yj) (by show 1<=1000;decide)) ?_)) ⟨⟨w++[y],o,rfl,zP ho,?_,?_⟩,?_⟩
    .show vv (.tup ((w++[y]).map zV)) (.tup [zV o])=_
     rw[zhV (by rw[u6,j9];show w.length+1+1<=1000;omega)]
     unfold wD
     rw[e9 (l₂:=[o])]
     rfl
    .rw[j9]
     show((w.length+1:Nat):Int)<=_
     omega
    .rw[<-hT,j9]
     show w++[y]++[o]++xU (rkN m ts ks tl) (9 - (w.length+1)) o=_
     rw[show 9 - w.length=(9 - (w.length+1))+1 by omega]
     conv=>rhs;unfold xU
     rw[hr]
     simp
    .show 10 - ((w++[y]++[o]).map zV).length < 10 - ((w++[y]).map zV).length
     rw[u6,u6,j9,j9]
     show 10 - (w.length+1+1) < 10 - (w.length+1)
     omega
 .show 10 - ((w++[y]).map zV).length < 10
  rw[u6,j9]
  show 10 - (w.length+1) < 10
  omega
theorem V9 (T:Txt K mg base ad):y6 P w K mg base CX0 1 ad.f_way_through ad.e_way_through ["ranked","way"] (@spD ⟨K⟩ 2 wW):=by
 letI:KK:=⟨K⟩
 refine yC (N:=["ranked","way"]) (ps:=["ranked","way"]) T.d_way_through.fn Xc (g:=wT) λcdv A outer s H E hr=>?_
 unfold wT vq
 exact(ze (zdw 10 b8 (yb zaZ yi (zM _) (zH zT vx rfl T.z_len Zy (za (zA (edv 0) (zA (edv 1) (zaD (zg zh)) (λ_ _=>rfl)) (λ_ _=>rfl)) zd)) (zg zh)) (zj (zJ (m:=false) (i:=1) Xc.nd rfl (Or.inl rfl) (yp (edv 1) (Y9 (za (zA (zA (edv 0) (zA (edv 1) (zaD (zg zh)) (λ_ _=>rfl)) (λ_ _=>rfl)) (zg zh) (λ_ _=>rfl)) zd))))))
  (zj (zB (edv 1))))
theorem zhR {m:Int}{ts:List Tie}{ks:List Int}{x:Int}(ok:zG m ts):(zW m ts ks x).length<=7:=by
 have hm1:=ok.lo
 have hm8:=ok.hi
 have ex:∃ y∈List.range m.toNat,¬ decide (zcB x (y:Int)∈ts)=true:=by
  by_cases c:0<=x/\x < m
  .refine⟨x.toNat,d5.mpr (by omega),λh=>?_⟩
   have hm:x.toNat∈nbN m ts x:=u0a.mpr ⟨d5.mpr (by omega),h⟩
   rcases(Xp ok).mp hm with h | h <;> (have:=ok.rng _ h;dsimp only at this;omega)
  .refine⟨0,d5.mpr (by omega),λh=>?_⟩
   have hm:0∈nbN m ts x:=u0a.mpr ⟨d5.mpr (by omega),h⟩
   exact c (((Xp ok).mp hm).rng ok).1
 have h1:=List.length_filter_lt_length_iff_exists.mpr ex
 have h2:(zW m ts ks x).length<=(nbN m ts x).length:=u13 _ _
 have h3:(nbN m ts x).length < (List.range m.toNat).length:=h1
 rw[g8]at h3
 omega
def Z0 (rk:Nat->List Nat)(x y:Nat):List Nat:=x::y::xU rk 8 y
def zaV (p:Int)(rk:Nat->List Nat)(x:Nat):List Nat:=if (x:Int)=p then rk x else (rk x).drop 1
def zC (p:Int)(rk:Nat->List Nat)(n:Nat):List (List Nat):=(List.range n).flatMap λx=>(zaV p rk x).map (Z0 rk x)
def zcF (p:Int)(rk:Nat->List Nat)(x j:Nat):List Nat:=if (x:Int)=p then (rk x).take j else ((rk x).take j).drop 1
theorem zfQ {p:Int}{rk:Nat->List Nat}{x j o:Nat}(h:(rk x)[j]?=some o):zcF p rk x (j+1)=zcF p rk x j++(if 0 < j\/(x:Int)=p then [o]else []):=by
 unfold zcF
 have hj:=(t8.mp h).1
 by_cases c:(x:Int)=p
 .rw[t5 c,t5 c,t5 (.inr c),u1n,h]
  rfl
 .rw[t6 c,t6 c,u1n,h]
  show((rk x).take j++[o]).drop 1=_
  by_cases c2:0 < j
  .rw[t5 (.inl c2),List.drop_append_of_le_length (by rw[u0W];omega)]
  .have:j=0:=by omega
   subst this
   rw[t6 (λh=>h.elim (λh=>absurd h (u0J _)) c)]
   rfl
theorem Vn (p:Int)(rk:Nat->List Nat)(n:Nat):zC p rk (n+1)=zC p rk n++(zaV p rk n).map (Z0 rk n):=by
 unfold zC
 rw[u1i,u2t,List.flatMap_singleton]
theorem YT {p:Int}{rk:Nat->List Nat}{x o:Nat}(h:o∈zaV p rk x):o∈rk x:=by
 unfold zaV at h
 split at h
 .exact h
 .exact List.mem_of_mem_drop h
theorem xD (p:Int){rk:Nat->List Nat}(hn:∀ x,(rk x).Nodup)(n:Nat):(zC p rk n).Nodup:=by
 unfold zC
 rw[u0h,u15]
 refine⟨λx _=>?_,?_⟩
 .rw[u0u]
  have:(zaV p rk x).Nodup:=by
   unfold zaV
   split
   .exact hn x
   .exact(hn x).sublist (List.drop_sublist _ _)
  refine this.imp λ{a b} h e=>h ?_
  unfold Z0 at e
  exact(u0R (u0R e).2).1
 .refine u0s.imp λ{a b} h u hu v hv e=>h ?_
  obtain⟨o,_,rfl⟩:=u0g.mp hu
  obtain⟨o',_,rfl⟩:=u0g.mp hv
  unfold Z0 at e
  exact(u0R e).1
theorem zaF {p:Int}{rk:Nat->List Nat}{n:Nat}(hl:∀ x,(rk x).length<=7)(hn:n<=8):(zC p rk n).length<=7*n:=by
 induction n with
 | zero=>exact t9 _
 | succ n ih =>
  rw[Vn,j9,u6]
  have:=ih (by omega)
  have h2:(zaV p rk n).length<=7:=by
   unfold zaV
   split
   .exact hl n
   .rw[u0V];have:=hl n;omega
  omega
theorem zeE {m:Int}{ts:List Tie}{ks tl:List Int}:∀ (n y:Nat),(y:Int) < m->∀ w:List Nat,(w.length:Int)<=vAt ks (y:Int)->∃ (u:List Nat) (z:Nat),w++[y]++xU (rkN m ts ks tl) n y=u++[z]/\(z:Int) < m/\(u.length:Int)<=vAt ks (z:Int)/\w.length<=u.length:=by
 intro n
 induction n with
 | zero=>intro y hy w hw;exact⟨w,y,by unfold xU;rw[u0n],hy,hw,t9 _⟩
 | succ n ih =>
  intro y hy w hw
  unfold xU
  cases hr:rkN m ts ks tl y with
  | nil=>exact⟨w,y,by simp,hy,hw,t9 _⟩
  | cons o r =>
   have ho:o∈zW m ts ks (y:Int):=zR.mp (by rw[hr];exact .head _)
   have far:=yf ho
   obtain⟨u,z,e,h1,h2,h3⟩:=ih o (zP ho) (w++[y]) (by rw[j9];show((w.length+1:Nat):Int)<=_;omega)
   refine⟨u,z,?_,h1,h2,?_⟩
   .rw[<-e]
    simp
   .rw[j9]at h3
    have:w.length+1<=u.length:=h3
    omega
def zlE (m:Int)(w:List Nat):Prop:=∃ (u:List Nat) (z:Nat),w=u++[z]/\(z:Int) < m/\1<=u.length/\(u.length:Int) < m
theorem zmK {m p:Int}{ts:List Tie}{ks tl:List Int}(hb:∀ x:Int,0<=x->x < m->0<=vAt ks x/\vAt ks x < m){x y:Nat}(hx:(x:Int) < m)(hy:y∈rkN m ts ks tl x):zlE m (Z0 (rkN m ts ks tl) x y):=by
 have ho:=zR.mp hy
 have far:=yf ho
 have h0:=(hb (x:Int) (by omega) hx).1
 obtain⟨u,z,e,h1,h2,h3⟩:=zeE (m:=m) (ts:=ts) (ks:=ks) (tl:=tl) 8 y (zP ho) [x] (by show(1:Int)<=_;omega)
 have h4:=(hb (z:Int) (by omega) h1).2
 exact⟨u,z,e,h1,h3,by omega⟩
theorem zg0 {m p:Int}{ts:List Tie}{ks tl:List Int}(hb:∀ x:Int,0<=x->x < m->0<=vAt ks x/\vAt ks x < m):∀ w∈zC p (rkN m ts ks tl) m.toNat,zlE m w:=by
 intro w hw
 unfold zC at hw
 obtain⟨x,hx,hw⟩:=u0L.mp hw
 obtain⟨y,hy,rfl⟩:=u0g.mp hw
 have hx:=d5.mp hx
 exact zmK (p:=p) hb (by omega) (YT hy)
def wI (w:List Nat):List Int:=w.map λk:Nat=>(k:Int)
theorem zln (w:List Nat):wD w=.tup ((wI w).map .int):=by
 unfold wD wI
 rw[m7]
 congr 1
 exact p4 λk _=>YF k
def kW (w:List Nat):List Int:=-(w.length:Int)::wI w
def zcS (F:List (List Nat)):List (List Nat):=(yP (F.map kW)).map λt=>(t.drop 1).map Int.toNat
theorem zdf (w:List Nat):((kW w).drop 1).map Int.toNat=w:=by
 show(wI w).map Int.toNat=w
 unfold wI
 rw[m7]
 have:w.map (Int.toNat ∘ λk:Nat=>(k:Int))=w.map id:=p4 λk _=>rfl
 rw[this,u1v]
def YN:SE->Ctl :=
 (sIf (Wc (tOf (zm gtD (zc 7) (eC (.int 0)))) (tOf (zm V5 (zc 6) (zc 1)))) (WW false 5 (zo 2 wW (zb (zc 4) (zb (Z1 (zb (zc 6) (zb (zc 8) zq))) zq)))) yk)
def YY:SE->Ctl :=
 (XD (yx (zb (zm ixD (zc 4) (zc 6)) zq)) (za5 2 (vI (yw 7) (vI (yw 8) zbF))) YN)
def YJ:SE->Ctl :=
 (zI (y9 false 2 (zo 2 wg (zb (zc 0) (zb (zc 1) zq))))
  (zI (y9 false 3 (zo 2 zE (zb (zc 0) (zb (zc 1) zq))))
  (zI (y9 false 4 (wd (fLC (iOf (zc 3)) b1 xw (wd (zfL (zb (zc 0) zq) (Z1 (zb (eUn V1 (zm ixD (zc 4) (zc 0))) (zb (zc 0) zq))))))))
  (zI (Zc 5 (yq zq))
  (zI (xT Yi (zb (zm ixD (zc 0) (eC (.int 0))) zq) (yw 6) YY)
  (sFz 5 (yO (wd (zhf (zb (zc 5) zq) (Z1 (zb (eUn V1 (eFn We (zb (zc 0) zq))) (zb (zc 0) zq))))))))))))
def p_ways_from:List D->Option D:=fnD 9 YJ
theorem zbO {m:Int}{ts:List Tie}{p:Int}{ks tl:List Int}(ok:zG m ts)(hp:0<=p/\p < m)(hks:YX m ts p=ks.map some)(hkl:(ks.length:Int)=m)(hb:∀ x:Int,0<=x->x < m->0<=vAt ks x/\vAt ks x < m)(et:wg [zp m ts,.int p]=some (.tup (tl.map .int)))(htl:(tl.length:Int)=m):p_ways_from [zp m ts,.int p]=some (.lst ((zcS (zC p (rkN m ts ks tl) m.toNat)).map wD)):=by
 have hm1:=ok.lo
 have hm8:=ok.hi
 have e5:=XU ok hp hks hkl
 have hn:=wv m ts ks tl
 have hl8:∀ x,(rkN m ts ks tl x).length<=7:=λx=>by rw[(X0 m ts ks tl x).length_eq];exact zhR ok
 obtain⟨rk,hrk⟩:∃ rk,rkN m ts ks tl=rk:=⟨_,rfl⟩
 refine WE (ρ:=[.v (zp m ts),.v (.int p),.no,.no,.no,.no,.no,.no,.no]) rfl ?_
 unfold YJ
 refine zt (ρ':=[.v (zp m ts),.v (.int p),.v (.tup (tl.map .int)),.no,.no,.no,.no,.no,.no]) (yH (ds:=[_,_]) rfl et) ?_
 refine zt (ρ':=[.v (zp m ts),.v (.int p),.v (.tup (tl.map .int)),.v (.lst (vF m ts ks m.toNat)),.no,.no,.no,.no,.no]) (yH (ds:=[_,_]) rfl e5) ?_
 refine zt (ρ':=[.v (zp m ts),.v (.int p),.v (.tup (tl.map .int)),.v (.lst (vF m ts ks m.toNat)),.v (.lst (rkD m ts ks tl)),.no,.no,.no,.no]) (zcu (ZH ?_)) ?_
 .unfold fLC
  rw[zbL (d:=.lst (vF m ts ks m.toNat)) rfl rfl,d9,t5 (xk (by unfold vF;rw[u6,g8];omega))]
  unfold vF rkD
  refine Zd (λx:Nat=>D.lst ((zW m ts ks (x:Int)).map zV)) (λx:Nat=>D.lst ((rkN m ts ks tl x).map zV)) (List.range m.toNat) λx hx=>⟨[some (.lst ((zW m ts ks (x:Int)).map zV))],rfl,rfl,ZH ?_⟩
  unfold zfL
  rw[zy (d:=.lst ((zW m ts ks (x:Int)).map zV)) (ds:=[]) rfl yj,d9]
  show(zcZ _ _ ((zW m ts ks (x:Int)).map zV)).bind _=_
  obtain⟨h1,h2,h3,h4⟩:=VL (λo=>-vAt tl (o:Int)) zV (Zi m ts ks (x:Int))
  have hlen:((zW m ts ks (x:Int)).map zV).length < 64:=by
   rw[u6]
   exact u0f (zaL ok) (by decide)
  rw[zge (c:=zV) (f:=λo:Nat=>[-vAt tl (o:Int),(o:Int)]) (zW m ts ks (x:Int)) (λo ho=>⟨by
   have hom:=zP ho
   rw[YF]
   exact VY (ds:=[.int (-vAt tl (o:Int)),.int (o:Int)]) (zy (zj2 (x:=.int (vAt tl (o:Int))) (zr (x:=.tup (tl.map .int)) (y:=.int (o:Int)) rfl rfl (Z4 (ns:=tl) ⟨by omega,hom⟩ htl)) rfl) (zy rfl yj)) (by show 2<=1000;decide),by simp⟩),d9,t5 ⟨h4,hlen⟩,h1]
  rfl
 refine zt (ρ':=[.v (zp m ts),.v (.int p),.v (.tup (tl.map .int)),.v (.lst (vF m ts ks m.toNat)),.v (.lst (rkD m ts ks tl)),.o [],.no,.no,.no]) rfl ?_
 refine yJ (X3 (lo:=0) (c:=m.toNat) (λi ρ=>∃ o6 o7 o8,ρ=[.v (zp m ts),.v (.int p),.v (.tup (tl.map .int)),.v (.lst (vF m ts ks m.toNat)),.v (.lst (rkD m ts ks tl)),.o ((zC p rk i).map wD),o6,o7,o8]) (XS ok) ⟨_,_,_,rfl⟩ ?_ ?_)
 .rintro x ρ hx ⟨o6,o7,o8,rfl⟩
  have hxm:(x:Int) < m:=by omega
  rw[u09]
  refine⟨[.v (zp m ts),.v (.int p),.v (.tup (tl.map .int)),.v (.lst (vF m ts ks m.toNat)),.v (.lst (rkD m ts ks tl)),.o ((zC p rk x).map wD),.v (.int (x:Int)),o7,o8],rfl,?_⟩
  unfold YY
  have eit:∀ o7 o8:Sl,yx (zb (zm ixD (zc 4) (zc 6)) zq) (visG [.v (zp m ts),.v (.int p),.v (.tup (tl.map .int)),.v (.lst (vF m ts ks m.toNat)),.v (.lst (rkD m ts ks tl)),.o ((zC p rk x).map wD),.v (.int (x:Int)),o7,o8])=some (Zj 0 ((rk x).map zV)):=λo7 o8=>by
   unfold yx
   rw[zy (d:=.lst ((rk x).map zV)) (ds:=[]) (zr (x:=.lst (rkD m ts ks tl)) (y:=.int (x:Int)) rfl rfl (by rw[<-hrk];exact zje hxm)) yj]
   rfl
  refine Wt (ds:=Zj 0 ((rk x).map zV)) (λj ρ=>∃ o7 o8,ρ=[.v (zp m ts),.v (.int p),.v (.tup (tl.map .int)),.v (.lst (vF m ts ks m.toNat)),.v (.lst (rkD m ts ks tl)),.o ((zC p rk x++(zcF p rk x j).map (Z0 rk x)).map wD),.v (.int (x:Int)),o7,o8]) (eit o7 o8) ⟨o7,o8,?_⟩ ?_ ?_
  .have:zcF p rk x 0=[]:=by unfold zcF;split <;> simp
   rw[this,u3k,u0n]
  .rintro j d ρ hd ⟨o7,o8,rfl⟩
   rw[vE]at hd
   obtain⟨dd,hdd,rfl⟩:=u8.mp hd
   rw[j5]at hdd
   obtain⟨y,hy,rfl⟩:=u8.mp hdd
   rw[m9]
   have hyr:=r8 hy
   have hyo:y∈zW m ts ks (x:Int):=zR.mp (by rw[hrk];exact hyr)
   have far:=yf hyo
   have h0:=(hb (x:Int) (by omega) hxm).1
   refine⟨[.v (zp m ts),.v (.int p),.v (.tup (tl.map .int)),.v (.lst (vF m ts ks m.toNat)),.v (.lst (rkD m ts ks tl)),.o ((zC p rk x++(zcF p rk x j).map (Z0 rk x)).map wD),.v (.int (x:Int)),.v (.int (j:Int)),.v (zV y)],rfl,?_⟩
   unfold YN
   rw[zfQ hy]
   have ew:=zal (p:=p) (tl:=tl) ok hb (w:=[x]) (y:=y) (zP hyo) (by show(1:Int)<=_;omega)
   rw[hrk]at ew
   have ew:wW [.lst (rkD m ts ks tl),.tup [.int (x:Int),zV y]]=some (wD (Z0 rk x y)):=by
    have e:D.tup [.int (x:Int),zV y]=wD ([x]++[y]):=by unfold wD;rw[<-YF x];rfl
    rw[e]
    exact ew
   refine W3 (c:=decide (0 < j\/(x:Int)=p)) ?_ (λhc=>?_) (λhc=>Zh rfl ⟨.v (.int (j:Int)),.v (zV y),?_⟩)
   .have e1:tOf (zm gtD (zc 7) (eC (.int 0))) (visG [.v (zp m ts),.v (.int p),.v (.tup (tl.map .int)),.v (.lst (vF m ts ks m.toNat)),.v (.lst (rkD m ts ks tl)),.o ((zC p rk x++(zcF p rk x j).map (Z0 rk x)).map wD),.v (.int (x:Int)),.v (.int (j:Int)),.v (zV y)])=some (decide (0 < j)):=by
     refine Xb (zr (x:=.int (j:Int)) (y:=.int 0) rfl rfl ?_)
     show some (D.bl (decide ((j:Int) > 0)))=_
     congr 2
     exact u26.mpr (by omega)
    have e2:tOf (zm V5 (zc 6) (zc 1)) (visG [.v (zp m ts),.v (.int p),.v (.tup (tl.map .int)),.v (.lst (vF m ts ks m.toNat)),.v (.lst (rkD m ts ks tl)),.o ((zC p rk x++(zcF p rk x j).map (Z0 rk x)).map wD),.v (.int (x:Int)),.v (.int (j:Int)),.v (zV y)])=some (decide ((x:Int)=p)):=Xb (zr (x:=.int (x:Int)) (y:=.int p) rfl rfl zX)
    rw[znQ e1 e2,Bool.decide_or]
   .have hc:=o0 hc
    rw[t5 hc]
    have hlen:((zC p rk x++(zcF p rk x j).map (Z0 rk x)).map wD).length<=1000:=by
     have a1:=zaF (p:=p) (rk:=rk) (n:=x) (by rw[<-hrk];exact hl8) (by omega)
     have a2:(zcF p rk x j).length<=8:=by
      have:=hl8 x
      rw[hrk]at this
      unfold zcF
      split
      .rw[u0W];omega
      .rw[u0V,u0W];omega
     rw[u6,j9,u6]
     omega
    refine Zh (WK (m:=false) (i:=5) (d:=wD (Z0 rk x y)) (ds:=(zC p rk x++(zcF p rk x j).map (Z0 rk x)).map wD) (by unfold vEv;rw[t6 u7];exact yr (ds:=[.lst (rkD m ts ks tl),.tup [.int (x:Int),zV y]]) rfl ew) rfl hlen) ⟨.v (.int (j:Int)),.v (zV y),?_⟩
    have e:(zC p rk x++(zcF p rk x j++[y]).map (Z0 rk x)).map wD=(zC p rk x++(zcF p rk x j).map (Z0 rk x)).map wD++[wD (Z0 rk x y)]:=by simp
    rw[e]
    rfl
   .have hc:=u05 hc
    rw[t6 hc,u0n]
  .rintro ρ ⟨o7,o8,rfl⟩
   refine⟨.v (.int (x:Int)),o7,o8,?_⟩
   rw[xz,u6]
   have:zcF p rk x (rk x).length=zaV p rk x:=by
    unfold zcF zaV
    rw[u01]
   rw[this,Vn]
 .rintro ρ ⟨o6,o7,o8,rfl⟩
  refine zdB (ρ':=[.v (zp m ts),.v (.int p),.v (.tup (tl.map .int)),.v (.lst (vF m ts ks m.toNat)),.v (.lst (rkD m ts ks tl)),.v (.lst ((zC p rk m.toNat).map wD)),o6,o7,o8]) rfl ?_
  obtain⟨h1,h2,h3,h4⟩:=ZS kW (λt=>(t.drop 1).map Int.toNat) wD (λw _=>zdf w) (xD p (rk:=rk) (by rw[<-hrk];exact hn) m.toNat)
  refine ZW (Yg (ZH ?_)) (by rw[hrk])
  unfold zhf
  rw[zy (d:=.lst ((zC p rk m.toNat).map wD)) (ds:=[]) rfl yj,d9]
  show(zgT _ _ ((zC p rk m.toNat).map wD)).bind _=_
  have hlen:((zC p rk m.toNat).map wD).length < 64:=by
   rw[u6]
   have a1:=zaF (p:=p) (rk:=rk) (n:=m.toNat) (by rw[<-hrk];exact hl8) (by omega)
   exact u0f a1 (by omega)
  rw[zfr (c:=wD) (h:=λw:List Nat=>-(w.length:Int)) (u:=wI) (zC p rk m.toNat) (λw hw=>by
   rw[<-zln]
   refine VY (ds:=[.int (-(w.length:Int)),wD w]) (zy (zj2 (x:=.int (w.length:Int)) (Zv (ds:=[wD w]) rfl ?_) rfl) (zy rfl yj)) (by show 2<=1000;decide)
   show some (D.int ((w.map zV).length:Int))=_
   rw[u6]),d9,t5 ⟨h4,hlen⟩]
  exact u0U some h1
theorem zcx (T:Txt K mg base ad):y6 P w K mg base CX0 7 ad.f_ways_from ad.e_ways_from ["web","root"] (@spD ⟨K⟩ 2 p_ways_from):=by
 letI:KK:=⟨K⟩
 have G_outer_neighbours:=ye (P:=P) (w:=w) (base:=base) T
 have G_heights_from:=Vc (P:=P) (w:=w) (base:=base) T
 have G_way_through:=V9 (P:=P) (w:=w) (base:=base) T
 refine zjh (N:=["web","root","tall","outer","ranked","found","place","at","other"]) (ps:=["web","root"]) T.lc_ways_from T.d_ways_from.fn yy (g:=YJ) λA outer s H E hr=>?_
 unfold YJ YY YN
 exact(ze (zJ (m:=false) (i:=2) yy.nd rfl (Or.inr rfl) (zi G_heights_from hr rfl T.d_heights_from (za (edv 0) (za (edv 1) zd))))
  (ze (zJ (m:=false) (i:=3) yy.nd rfl (Or.inl rfl) (zi G_outer_neighbours hr rfl T.d_outer_neighbours (za (edv 0) (za (edv 1) zd))))
  (ze (zka (m:=false) (i:=4) (zkk (L:=["others"]) (M:=["web","root","tall","outer","ranked","found","place","at","other"]) yy.nd rfl (Or.inl rfl) rfl (Xg (by rfl) (by rfl) (by rfl) (by with_unfolding_all rfl) (by rfl) (by rfl) (by kernel_rfl) (all_cons rfl xM)) (Y5 (edv 3)) gs1 rb1 (λ_ _ _ _=>(zz (i:=0) znL rfl (Or.inl rfl) (.inr rfl))) (λ_ _ _ _=>(w8 (ziB (x:="other") (M:=["others","web","root","tall","outer","ranked","found","place","at","·other"]) hr rfl T.z_sorted (za (edv 0) zd) T.la_ways_from rfl (zec (by rfl) (by rfl) (by rfl) (by with_unfolding_all rfl) (by rfl) (by rfl) (by rfl) (by rfl) (by rfl) (by kernel_rfl) (all_cons rfl xM)) rfl (by kernel_rfl) (λ_ _ _ _=>rfl) (λ_ _ _ _ _=>(Y9 (za (zaD (zA (edv 4) (edv 0) (λ_ _=>rfl))) (za (edv 0) zd)))))))))
  (ze (vg (i:=5) yy.nd rfl (Or.inl rfl) (xV zd))
  (ze (vX b8 rfl rfl T.z_range (za (zA (edv 0) (zg zh) (λ_ _=>rfl)) zd) (zS (zz (i:=6) yy.nd rfl (Or.inl rfl))) (zj (Yx b8 rfl (Wq rfl T.z_enumerate xB (za (zA (edv 4) (edv 6) (λ_ _=>rfl)) zd)) (zej rfl (vL (zS (zz (i:=7) yy.nd rfl (Or.inl rfl))) (vL (zS (zz (i:=8) yy.nd rfl (Or.inl rfl))) zaH))) (zj (wx (zio (zaj (yb zaZ yi (zM _) (edv 7) (zg zh)) (WP (yb (Zp hr) vf (zM _) (edv 6) (edv 1))))) (zj (WL (m:=false) (pv 5) (zi G_way_through hr rfl T.d_way_through (za (edv 4) (za (Y9 (za (edv 6) (za (edv 8) zd))) zd))) (λa b=>zab m6 u0c u0d wt a b))) zU)))))
  (vO 5 (zj (zB (w8 (zhH (x:="way") (M:=["web","root","tall","outer","ranked","found","place","at","other"]) hr rfl T.z_sorted (za (edv 5) zd) T.la_ways_from rfl (zec (by rfl) (by rfl) (by rfl) (by with_unfolding_all rfl) (by rfl) (by rfl) (by rfl) (by rfl) (by rfl) (by kernel_rfl) xM) rfl (by kernel_rfl) (λ_ _ _ _=>rfl) (λ_ _ _ _ _=>(Y9 (za (zaD (zH zT vx rfl T.z_len Zy (za (edv 0) zd))) (za (edv 0) zd))))))))))))))
theorem zam {F:List (List Nat)}(nd:F.Nodup):(zcS F).Perm F:=(ZS kW (λt=>(t.drop 1).map Int.toNat) wD (λw _=>zdf w) nd).2.1
def yU (rk:Nat->List Nat):Nat->Nat->List (Nat × Nat)
 | 0,_=>[]
 | n+1,y=>match rk y with
  | []=>[]
  | o::_=>(y,o)::yU rk n o
def prs (w:List Nat):List (Nat × Nat):=w.zip (w.drop 1)
theorem zgy (rk:Nat->List Nat):∀ (n y:Nat),prs (y::xU rk n y)=yU rk n y:=by
 intro n
 induction n with
 | zero=>intro y;rfl
 | succ n ih =>
  intro y
  unfold xU yU
  cases rk y with
  | nil=>rfl
  | cons o r =>
   show(y,o)::prs (o::xU rk n o)=(y,o)::yU rk n o
   rw[ih]
theorem Wo (rk:Nat->List Nat)(x y:Nat):prs (Z0 rk x y)=(x,y)::yU rk 8 y:=by
 show(x,y)::prs (y::xU rk 8 y)=_
 rw[zgy]
section
variable {m p:Int}{ts:List Tie}{ks tl:List Int}
theorem zer:∀ (n y:Nat) {a b:Nat},(a,b)∈yU (rkN m ts ks tl) n y->∃ r,rkN m ts ks tl a=b::r:=by
 intro n
 induction n with
 | zero=>intro y a b h;cases h
 | succ n ih =>
  intro y a b h
  unfold yU at h
  cases hr:rkN m ts ks tl y with
  | nil=>rw[hr]at h;cases h
  | cons o r =>
   rw[hr]at h
   rcases n8.mp h with h | h
   .cases h;exact⟨r,hr⟩
   .exact ih o h
theorem zdH:∀ (n y:Nat) {a b:Nat},(a,b)∈yU (rkN m ts ks tl) n y->vAt ks (y:Int)<=vAt ks (a:Int):=by
 intro n
 induction n with
 | zero=>intro y a b h;cases h
 | succ n ih =>
  intro y a b h
  unfold yU at h
  cases hr:rkN m ts ks tl y with
  | nil=>rw[hr]at h;cases h
  | cons o r =>
   rw[hr]at h
   have far:=yf (zR.mp (show o∈rkN m ts ks tl y by rw[hr];exact .head _))
   rcases n8.mp h with h | h
   .cases h;exact u0z _
   .have:=ih o h;omega
theorem zhF:∀ (n y:Nat),(yU (rkN m ts ks tl) n y).Pairwise λu v=>vAt ks (u.1:Int) < vAt ks (v.1:Int):=by
 intro n
 induction n with
 | zero=>intro y;exact .nil
 | succ n ih =>
  intro y
  unfold yU
  cases hr:rkN m ts ks tl y with
  | nil=>exact .nil
  | cons o r =>
   have far:=yf (zR.mp (show o∈rkN m ts ks tl y by rw[hr];exact .head _))
   exact .cons (λv hv=>by have:=zdH n o (a:=v.1) (b:=v.2) hv;show vAt ks (y:Int) < _;omega) (ih o)
theorem ze4:∀ (n y:Nat) {a b:Nat},(a,b)∈yU (rkN m ts ks tl) n y->a=y\/∃ q,(q,a)∈yU (rkN m ts ks tl) n y:=by
 intro n
 induction n with
 | zero=>intro y a b h;cases h
 | succ n ih =>
  intro y a b h
  unfold yU at h ⊢
  cases hr:rkN m ts ks tl y with
  | nil=>rw[hr]at h;cases h
  | cons o r =>
   rw[hr]at h
   rcases n8.mp h with h | h
   .cases h;exact .inl rfl
   .rcases ih o h with rfl | ⟨q,hq⟩
    .exact .inr ⟨y,.head _⟩
    .exact .inr ⟨q,.tail _ hq⟩
theorem zet (hb:∀ x:Int,0<=x->x < m->0<=vAt ks x/\vAt ks x < m):∀ (n y:Nat),(y:Int) < m->m - vAt ks (y:Int)<=(n:Int)->∀ {a o:Nat} {r:List Nat},(a=y\/∃ q,(q,a)∈yU (rkN m ts ks tl) n y)->rkN m ts ks tl a=o::r->(a,o)∈yU (rkN m ts ks tl) n y:=by
 intro n
 induction n with
 | zero =>
  intro y hy h
  have:=(hb (y:Int) (by omega) hy).2
  omega
 | succ n ih =>
  intro y hy h a o r ha hr
  unfold yU at ha ⊢
  cases hy2:rkN m ts ks tl y with
  | nil =>
   rw[hy2]at ha
   rcases ha with rfl | ⟨q,hq⟩
   .rw[hr]at hy2;cases hy2
   .cases hq
  | cons o2 r2 =>
   rw[hy2]at ha
   have ho:=zR.mp (show o2∈rkN m ts ks tl y by rw[hy2];exact .head _)
   have far:=yf ho
   rcases ha with rfl | ⟨q,hq⟩
   .rw[hr]at hy2
    cases hy2
    exact .head _
   .refine .tail _ (ih o2 (zP ho) (by omega) ?_ hr)
    rcases n8.mp hq with hq | hq
    .cases hq;exact .inl rfl
    .exact .inr ⟨q,hq⟩
theorem Wb {x y a b:Nat}(h:(a,b)∈prs (Z0 (rkN m ts ks tl) x y)):(a=x/\b=y)\/((∃ r,rkN m ts ks tl a=b::r)/\∃ q,(q,a)∈prs (Z0 (rkN m ts ks tl) x y)):=by
 rw[Wo]at h ⊢
 rcases n8.mp h with h | h
 .cases h;exact .inl ⟨rfl,rfl⟩
 .refine .inr ⟨zer 8 y h,?_⟩
  rcases ze4 8 y h with rfl | ⟨q,hq⟩
  .exact⟨x,.head _⟩
  .exact⟨q,.tail _ hq⟩
theorem wo {w:List Nat}(h:w∈zC p (rkN m ts ks tl) m.toNat):∃ x y:Nat,(x:Int) < m/\y∈zaV p (rkN m ts ks tl) x/\w=Z0 (rkN m ts ks tl) x y:=by
 unfold zC at h
 obtain⟨x,hx,hw⟩:=u0L.mp h
 obtain⟨y,hy,rfl⟩:=u0g.mp hw
 have hx:=d5.mp hx
 exact⟨x,y,by omega,hy,rfl⟩
theorem ZR {w:List Nat}(hw:w∈zC p (rkN m ts ks tl) m.toNat){a b:Nat}(h:(a,b)∈prs w):b∈zW m ts ks (a:Int):=by
 obtain⟨x,y,hx,hy,rfl⟩:=wo hw
 rcases Wb h with ⟨rfl,rfl⟩ | ⟨⟨r,hr⟩,_⟩
 .exact zR.mp (YT hy)
 .exact zR.mp (show b∈rkN m ts ks tl a by rw[hr];exact .head _)
variable (ok:zG m ts)(htl:(ts.length:Int)=m - 1)(hp:0<=p/\p < m)(hks:YX m ts p=ks.map some)(hkl:(ks.length:Int)=m)(hb:∀ x:Int,0<=x->x < m->0<=vAt ks x/\vAt ks x < m)
include ok htl hp hks hkl hb
theorem zgG:∀ (n a:Nat),(a:Int) < m->vAt ks (a:Int)<=(n:Int)->∀ {b:Nat},b∈rkN m ts ks tl a->∃ w∈zC p (rkN m ts ks tl) m.toNat,(a,b)∈prs w:=by
 intro n
 induction n with
 | zero =>
  intro a ha hn b hbb
  have h0:=(hb (a:Int) (by omega) ha).1
  have hap:(a:Int)=p:=by
   by_cases c:(a:Int)=p
   .exact c
   .obtain⟨q,hq⟩:=wJ (x:=(a:Int)) ok hp hks hkl ⟨by omega,ha⟩ c
    obtain⟨h1,h2⟩:=(wc ok).mp hq
    have h3:=(h1.rng ok).2
    have:=(hb (q:Int) h3.1 h3.2).1
    omega
  refine⟨Z0 (rkN m ts ks tl) a b,?_,by rw[Wo];exact .head _⟩
  refine u0L.mpr ⟨a,d5.mpr (by omega),u0Q ?_⟩
  unfold zaV
  rw[t5 hap]
  exact hbb
 | succ n ih =>
  intro a ha hn b hbb
  by_cases c:b∈zaV p (rkN m ts ks tl) a
  .exact⟨Z0 (rkN m ts ks tl) a b,u0L.mpr ⟨a,d5.mpr (by omega),u0Q c⟩,by rw[Wo];exact .head _⟩
  .have hap:(a:Int)≠p:=λe=>c (by unfold zaV;rw[t5 e];exact hbb)
   obtain⟨r,hr⟩:∃ r,rkN m ts ks tl a=b::r:=by
    cases h:rkN m ts ks tl a with
    | nil=>rw[h]at hbb;cases hbb
    | cons o r =>
     rw[h]at hbb
     rcases n8.mp hbb with rfl | hbb
     .exact⟨r,rfl⟩
     .refine absurd ?_ c
      unfold zaV
      rw[t6 hap,h]
      exact hbb
   obtain⟨q,hq⟩:=wJ (x:=(a:Int)) ok hp hks hkl ⟨by omega,ha⟩ hap
   obtain⟨h1,h2⟩:=(wc ok).mp hq
   have h3:=(h1.rng ok).2
   obtain⟨w,hw,hqa⟩:=ih q h3.2 (by omega) (zR.mpr ((Zf ok).mp hq))
   refine⟨w,hw,?_⟩
   obtain⟨x,y,hx,hy,rfl⟩:=wo hw
   rw[Wo]at hqa ⊢
   have hyo:=zR.mp (YT hy)
   have hfar:=yf hyo
   have hx0:=(hb (x:Int) (by omega) hx).1
   have hm8:=ok.hi
   refine .tail _ (zet hb 8 y (zP hyo) (by omega) ?_ hr)
   rcases n8.mp hqa with hqa | hqa
   .cases hqa;exact .inl rfl
   .exact .inr ⟨q,hqa⟩
theorem zfE:∀ (n a b:Nat),(a:Int) < m->vAt ks (a:Int)<=(n:Int)->∀ {w v:List Nat},w∈zC p (rkN m ts ks tl) m.toNat->v∈zC p (rkN m ts ks tl) m.toNat->(a,b)∈prs w->(a,b)∈prs v->w=v:=by
 have start:∀ {a b x y:Nat},b∈zaV p (rkN m ts ks tl) a->∀ r,rkN m ts ks tl a=b::r->(∃ q,(q,a)∈prs (Z0 (rkN m ts ks tl) x y))->Z0 (rkN m ts ks tl) x y∈zC p (rkN m ts ks tl) m.toNat->False:=by
  intro a b x y hs r hr ⟨q,hq⟩ hv
  have hao:=ZR hv hq
  have hqm:(q:Int) < m:=by
   have:=((wU ok).mp hao).1
   exact(this.rng ok).1.2
  have hap:=vV hp hks hkl hb ⟨by omega,hqm⟩ hao
  unfold zaV at hs
  rw[t6 hap,hr]at hs
  have nd:=wv m ts ks tl a
  rw[hr]at nd
  exact(u0i.mp nd).1 hs
 intro n
 induction n with
 | zero =>
  intro a b ha hn w v hw hv h1 h2
  have key:∀ {w:List Nat},w∈zC p (rkN m ts ks tl) m.toNat->(a,b)∈prs w->w=Z0 (rkN m ts ks tl) a b:=λ{w} hw h=>by
   have hw':=hw
   obtain⟨x,y,hx,hy,rfl⟩:=wo hw
   rcases Wb h with ⟨rfl,rfl⟩ | ⟨_,q,hq⟩
   .rfl
   .have hao:=ZR hw' hq
    have far:=yf hao
    have hqm:(q:Int) < m:=((((wU ok).mp hao).1).rng ok).1.2
    have:=(hb (q:Int) (by omega) hqm).1
    omega
  rw[key hw h1,key hv h2]
 | succ n ih =>
  intro a b ha hn w v hw hv h1 h2
  have hw':=hw
  have hv':=hv
  obtain⟨x,y,hx,hy,rfl⟩:=wo hw
  obtain⟨x2,y2,hx2,hy2,rfl⟩:=wo hv
  rcases Wb h1 with ⟨rfl,rfl⟩ | ⟨⟨r,hr⟩,q,hq⟩
  .rcases Wb h2 with ⟨rfl,rfl⟩ | ⟨⟨r,hr⟩,hq⟩
   .rfl
   .exact(start hy r hr hq hv').elim
  .rcases Wb h2 with ⟨rfl,rfl⟩ | ⟨_,q2,hq2⟩
   .exact(start hy2 r hr ⟨q,hq⟩ hw').elim
   .have o1:=ZR hw' hq
    have o2:=ZR hv' hq2
    have hqm:(q:Int) < m:=((((wU ok).mp o1).1).rng ok).1.2
    have e:=W2 ok htl hp hks hkl hb hqm o1 o2
    subst e
    have far:=yf o1
    exact ih q a hqm (by omega) hw' hv' hq hq2
theorem zcX:((zC p (rkN m ts ks tl) m.toNat).flatMap prs).Nodup:=by
 rw[u0h,u15]
 refine⟨λw hw=>?_,?_⟩
 .obtain⟨x,y,hx,hy,rfl⟩:=wo hw
  rw[Wo]
  have far:=yf (zR.mp (YT hy))
  refine .cons (λv hv e=>?_) ((zhF 8 y).imp λh e=>by rw[e]at h;omega)
  have:=zdH 8 y (a:=v.1) (b:=v.2) hv
  rw[<-e]at this
  have:vAt ks (y:Int)<=vAt ks (x:Int):=this
  omega
 .have nd:=xD p (wv m ts ks tl) m.toNat
  refine u1y (λ{w v} hw hv hne u hu z hz e=>hne ?_) nd
  subst e
  have ho:=ZR hw (a:=u.1) (b:=u.2) hu
  have hum:((u.1:Nat):Int) < m:=((((wU ok).mp ho).1).rng ok).1.2
  exact zfE ok htl hp hks hkl hb (vAt ks (u.1:Int)).toNat u.1 u.2 hum (by have:=(hb (u.1:Int) (by omega) hum).1;omega) hw hv hu hz
theorem vB {a b:Nat}:(a,b)∈(zC p (rkN m ts ks tl) m.toNat).flatMap prs↔b∈zW m ts ks (a:Int):=by
 rw[u0L]
 constructor
 .rintro⟨w,hw,h⟩
  exact ZR hw h
 .intro h
  have ham:(a:Int) < m:=((((wU ok).mp h).1).rng ok).1.2
  exact zgG ok htl hp hks hkl hb (vAt ks (a:Int)).toNat a ham (by have:=(hb (a:Int) (by omega) ham).1;omega) (zR.mpr h)
def zjc (u:Nat × Nat):Tie:=(if (u.2:Int) < (u.1:Int)then (u.2:Int)else (u.1:Int),if (u.2:Int) > (u.1:Int)then (u.2:Int)else (u.1:Int))
omit htl hp hks hkl hb in
theorem zis {u:Nat × Nat}(h:u.2∈zW m ts ks (u.1:Int)):zjc u∈ts:=by
 rcases((wU ok).mp h).1 with h | h
 .have r:=ok.rng _ h
  dsimp only at r
  unfold zjc
  rw[t6 (by omega),t5 (by omega)]
  exact h
 .have r:=ok.rng _ h
  dsimp only at r
  unfold zjc
  rw[t5 (by omega),t6 (by omega)]
  exact h
theorem zgv:(((zC p (rkN m ts ks tl) m.toNat).flatMap prs).map zjc).Perm ts:=by
 have nd1:(((zC p (rkN m ts ks tl) m.toNat).flatMap prs).map zjc).Nodup:=by
  refine ZB (λu hu v hv e=>?_) (zcX ok htl hp hks hkl hb)
  have f1:=yf ((vB ok htl hp hks hkl hb).mp (show(u.1,u.2)∈_ from hu))
  have f2:=yf ((vB ok htl hp hks hkl hb).mp (show(v.1,v.2)∈_ from hv))
  unfold zjc at e
  obtain⟨e1,e2⟩:=Prod.mk.inj e
  have key:(u.1=v.1/\u.2=v.2)\/(u.1=v.2/\u.2=v.1):=by
   split at e1 <;> split at e2 <;> omega
  rcases key with ⟨k1,k2⟩ | ⟨k1,k2⟩
  .exact u1X k1 k2
  .rw[k1,k2]at f1;omega
 have nd2:ts.Nodup:=ok.srt.imp λh e=>by subst e;unfold ltP at h;omega
 refine(u2C nd1 nd2).mpr λt=>⟨λh=>?_,λh=>?_⟩
 .obtain⟨u,hu,rfl⟩:=u0g.mp h
  exact zis ok ((vB ok htl hp hks hkl hb).mp (show(u.1,u.2)∈_ from hu))
 .have r:=ok.rng t h
  have ha:adj ts t.1 t.2:=.inl h
  rcases zhG ok htl hp hks hkl ha with hl | hl
  .refine u0g.mpr ⟨(t.1.toNat,t.2.toNat),(vB ok htl hp hks hkl hb).mpr ((wU ok).mpr ⟨?_,?_⟩),?_⟩
   .rw[show((t.1.toNat:Nat):Int)=t.1 by omega,show((t.2.toNat:Nat):Int)=t.2 by omega]
    exact ha
   .rw[show((t.1.toNat:Nat):Int)=t.1 by omega,show((t.2.toNat:Nat):Int)=t.2 by omega]
    exact hl
   .unfold zjc
    dsimp only
    rw[t6 (by omega),t5 (by omega)]
    exact u1X (by dsimp only;omega) (by dsimp only;omega)
  .refine u0g.mpr ⟨(t.2.toNat,t.1.toNat),(vB ok htl hp hks hkl hb).mpr ((wU ok).mpr ⟨?_,?_⟩),?_⟩
   .rw[show((t.1.toNat:Nat):Int)=t.1 by omega,show((t.2.toNat:Nat):Int)=t.2 by omega]
    exact ha.symm
   .rw[show((t.1.toNat:Nat):Int)=t.1 by omega,show((t.2.toNat:Nat):Int)=t.2 by omega]
    exact hl
   .unfold zjc
    dsimp only
    rw[t5 (by omega),t6 (by omega)]
    exact u1X (by dsimp only;omega) (by dsimp only;omega)
end
theorem ziC {l k:List Int}(h:l.Perm k):l.sum=k.sum:=by
 induction h with
 | nil=>rfl
 | cons x _ ih=>rw[p9,p9,ih]
 | swap x y l=>rw[p9,p9,p9,p9];omega
 | trans _ _ i1 i2=>exact i1.trans i2
theorem zhL {α β:Type}(f:β->Int)(g:α->List β):∀ l:List α,((l.flatMap g).map f).sum=(l.map λx=>((g x).map f).sum).sum:=by
 intro l
 induction l with
 | nil=>rfl
 | cons a l ih=>rw[List.flatMap_cons,e9,u1j,ih,b9,p9]
def sm (n:Nat)(f:Nat->Int):Int:=((List.range n).map f).sum
theorem wb (n:Nat)(f:Nat->Int):sm (n+1) f=sm n f+f n:=by
 unfold sm
 rw[u1i,e9,u1j]
 simp
theorem zjF {n:Nat}{f g:Nat->Int}(h:∀ x,x < n->f x<=g x):sm n f<=sm n g:=by
 induction n with
 | zero=>exact u0z _
 | succ n ih =>
  rw[wb,wb]
  have:=ih λx hx=>h x (by omega)
  have:=h n (by omega)
  omega
theorem YL {n:Nat}{f g:Nat->Int}(h:∀ x,x < n->f x=g x):sm n f=sm n g:=by
 induction n with
 | zero=>rfl
 | succ n ih=>rw[wb,wb,ih λx hx=>h x (by omega),h n (by omega)]
theorem zcJ (n:Nat)(f g:Nat->Int):sm n (λx=>f x+g x)=sm n f+sm n g:=by
 induction n with
 | zero=>rfl
 | succ n ih=>rw[wb,wb,wb,ih];omega
theorem zjo (n:Nat)(f g:Nat->Int):sm n (λx=>f x - g x)=sm n f - sm n g:=by
 induction n with
 | zero=>rfl
 | succ n ih=>rw[wb,wb,wb,ih];omega
def nr (p:Int)(f:Nat->Int)(x:Nat):Int:=if (x:Int)=p then 0 else f x
theorem zhc {n:Nat}{p a:Int}{f:Nat->Int}(hp:0<=p):sm n (λx=>if (x:Int)=p then a else f x)=sm n (nr p f)+(if p < (n:Int)then a else 0):=by
 induction n with
 | zero =>
  rw[t6 (by omega)]
  rfl
 | succ n ih =>
  rw[wb,wb,ih]
  unfold nr
  by_cases c:(n:Int)=p
  .rw[t5 c,t5 c,t6 (by omega),t5 (by omega)]
  .rw[t6 c,t6 c]
   by_cases c2:p < (n:Int)
   .rw[t5 c2,t5 (by omega)];omega
   .rw[t6 c2,t6 (by omega)];omega
theorem VQ {hs:List Int}{n:Nat}(h:hs.length=n):hs.sum=sm n λx=>vAt hs (x:Int):=by
 unfold sm
 congr 1
 refine u2c (by rw[u6,g8,h]) λi h1 h2=>?_
 rw[u1t,u2F]
 unfold vAt
 rw[j4,show((i:Int)).toNat=i from rfl,u5 h1]
 rfl
section
variable {m p:Int}{ts:List Tie}{ks tl:List Int}(ok:zG m ts)(htl:(ts.length:Int)=m - 1)(hp:0<=p/\p < m)(hks:YX m ts p=ks.map some)(hkl:(ks.length:Int)=m)(hb:∀ x:Int,0<=x->x < m->0<=vAt ks x/\vAt ks x < m)
include ok htl hp hks hkl hb
theorem zic:((List.range m.toNat).flatMap λx:Nat=>zW m ts ks (x:Int)).Perm ((List.range m.toNat).filter λx:Nat=>!decide ((x:Int)=p)):=by
 refine(u2C ?_ (u0s.filter _)).mpr λo=>?_
 .rw[u0h,u15]
  refine⟨λx _=>(zbD m ts (x:Int)).filter _,?_⟩
  refine u1y (λ{a b} ha hb' hne u hu v hv e=>hne ?_) u0s
  subst e
  have ha:=d5.mp ha
  exact W2 ok htl hp hks hkl hb (by omega) hu hv
 .rw[u0L,u0a,d5]
  constructor
  .rintro⟨x,hx,ho⟩
   have hx:=d5.mp hx
   have h1:=zP ho
   refine⟨by omega,?_⟩
   have:=vV hp hks hkl hb ⟨by omega,by omega⟩ ho
   simpa using this
  .rintro⟨h1,h2⟩
   have h2:(o:Int)≠p:=by simpa using h2
   obtain⟨a,ha⟩:=wJ (x:=(o:Int)) ok hp hks hkl ⟨by omega,by omega⟩ h2
   have hr:=((((wc ok).mp ha).1).rng ok).2
   exact⟨a,d5.mpr (by omega),(Zf ok).mp ha⟩
omit ok htl hp hks hkl hb in
theorem zfF (f:Nat->Int):∀ n:Nat,(((List.range n).filter λx:Nat=>!decide ((x:Int)=p)).map f).sum=sm n (nr p f):=by
 intro n
 induction n with
 | zero=>rfl
 | succ n ih =>
  rw[u1i,List.filter_append,e9,u1j,ih,wb]
  congr 1
  unfold nr
  by_cases c:(n:Int)=p
  .rw[t5 c,List.filter_cons_of_neg (by simp[c])]
   rfl
  .rw[t6 c,List.filter_cons_of_pos (by simp[c])]
   simp
theorem zeh (f:Nat->Int):sm m.toNat (λx:Nat=>((zW m ts ks (x:Int)).map f).sum)=sm m.toNat (nr p f):=by
 have e:=ziC ((zic ok htl hp hks hkl hb).map f)
 rw[zhL,zfF]at e
 exact e
end
section
variable {m p:Int}{ts:List Tie}{ks tl:List Int}(hE:∀ x:Int,0<=x->x < m->EqA Fh m ts ks tl x)
theorem zj4 {ns:List Int}{a:Int}(h:a∈ns):a<=maxL ns:=by
 unfold maxL
 cases e:ns.max? with
 | none=>rw[List.max?_eq_none_iff]at e;rw[e]at h;cases h
 | some b=>exact(u14.mp e).2 a h
theorem zjU {ns:List Int}(h:ns≠[]):maxL ns∈ns:=by
 unfold maxL
 cases e:ns.max? with
 | none=>rw[List.max?_eq_none_iff]at e;exact absurd e h
 | some b=>exact(u14.mp e).1
include hE
theorem zeb {x:Int}(h0:0<=x)(h1:x < m)(h:zW m ts ks x=[]):vAt tl x=0:=by
 have e:vAt tl x=Fh x (YV m ts ks tl x):=hE x h0 h1
 rw[e]
 unfold Fh YV
 rw[h]
 rfl
theorem zba {x:Int}(h0:0<=x)(h1:x < m){o:Nat}(h:o∈zW m ts ks x):vAt tl (o:Int)+1<=vAt tl x:=by
 have e:vAt tl x=Fh x (YV m ts ks tl x):=hE x h0 h1
 rw[e]
 unfold Fh
 have hin:vAt tl (o:Int)+1∈(YV m ts ks tl x).map (·+1):=by
  unfold YV
  exact u0Q (u0Q h)
 rw[t6 (λe=>by rw[e]at hin;cases hin)]
 exact zj4 hin
theorem zdm {x:Int}(h0:0<=x)(h1:x < m)(h:zW m ts ks x≠[]):∃ o∈zW m ts ks x,vAt tl x=vAt tl (o:Int)+1:=by
 have e:vAt tl x=Fh x (YV m ts ks tl x):=hE x h0 h1
 unfold Fh at e
 have hne:(YV m ts ks tl x).map (·+1)≠[]:=by
  unfold YV
  intro z
  rw[m7]at z
  exact h (List.map_eq_nil_iff.mp z)
 rw[t6 hne]at e
 have:=zjU hne
 rw[<-e]at this
 unfold YV at this
 rw[m7]at this
 obtain⟨o,ho,e2⟩:=u0g.mp this
 exact⟨o,ho,e2.symm⟩
theorem zkz {x:Int}(h0:0<=x)(h1:x < m)(hb:∀ x:Int,0<=x->x < m->0<=vAt ks x/\vAt ks x < m):0<=vAt tl x:=by
 have key:∀ (n:Nat) (x:Int),0<=x->x < m->m - vAt ks x<=(n:Int)->0<=vAt tl x:=by
  intro n
  induction n with
  | zero =>
   intro x h0 h1 h
   have:=(hb x h0 h1).2
   omega
  | succ n ih =>
   intro x h0 h1 h
   by_cases c:zW m ts ks x=[]
   .rw[zeb hE h0 h1 c]
    exact u0z _
   .obtain⟨o,ho,e⟩:=zdm hE h0 h1 c
    have far:=yf ho
    have:=ih (o:Int) (by omega) (zP ho) (by omega)
    omega
 exact key m.toNat x h0 h1 (by have:=(hb x h0 h1).1;omega)
def P2 (tl:List Int)(x:Int):Int:=2 ^ (vAt tl x).toNat
omit hE in
theorem zfA (tl:List Int)(x:Int):1<=P2 tl x:=by
 unfold P2
 have:0 < (2:Nat) ^ (vAt tl x).toNat:=u3v (by decide)
 have e:((2:Int) ^ (vAt tl x).toNat)=(((2:Nat) ^ (vAt tl x).toNat:Nat):Int):=by simp
 rw[e]
 omega
theorem zkn (hb:∀ x:Int,0<=x->x < m->0<=vAt ks x/\vAt ks x < m){x:Int}(h0:0<=x)(h1:x < m){o:Nat}(h:o∈zW m ts ks x):2*P2 tl (o:Int)<=P2 tl x:=by
 have s:=zba hE h0 h1 h
 have n:=zkz hE (x:=(o:Int)) (by omega) (zP h) hb
 unfold P2
 have e:∀ k:Nat,((2:Int) ^ k)=(((2:Nat) ^ k:Nat):Int):=λk=>by simp
 have hle:2 ^ ((vAt tl (o:Int)).toNat+1)<=2 ^ (vAt tl x).toNat:=u2k (by decide) (by omega)
 rw[Nat.pow_succ]at hle
 rw[e,e]
 omega
end
def Bd (m p:Int)(tl:List Int)(k:Int):Int:=k*P2 tl p+sm m.toNat (nr p λx=>P2 tl (x:Int))
theorem zkN {l:List Nat}{f:Nat->Int}{g:Nat->Int}{y:Int}(h:∀ o∈l,f o*g o<=y*f o):(l.map λo=>f o*g o).sum<=y*(l.map f).sum:=by
 induction l with
 | nil=>simp
 | cons a l ih =>
  rw[b9,b9,p9,p9,Int.mul_add]
  have:=h a (.head _)
  have:=ih λo ho=>h o (.tail _ ho)
  omega
def WS (p:Int)(c:Nat->Int)(x:Nat):Int:=if (x:Int)=p then c x else 2*c x+1
theorem zlG {m p:Int}{tl:List Int}{c y:Nat->Int}(hp:0<=p/\p < m)(hy:∀ x:Nat,y x=P2 tl (x:Int) - 1):sm m.toNat (WS p c) - sm m.toNat (nr p c)+(sm m.toNat (λx=>y x*WS p c x) - sm m.toNat (nr p λo=>c o*(2*y o+1)))=Bd m p tl (c p.toNat):=by
 have e1:sm m.toNat (WS p c)=sm m.toNat (λx=>if (x:Int)=p then c p.toNat else 2*c x+1):=YL λx _=>by
  unfold WS
  by_cases h:(x:Int)=p
  .rw[t5 h,t5 h,show p.toNat=x by omega]
  .rw[t6 h,t6 h]
 have e0:sm m.toNat (λx=>y x*WS p c x)=sm m.toNat (λx=>if (x:Int)=p then y p.toNat*c p.toNat else y x*(2*c x+1)):=YL λx _=>by
  unfold WS
  by_cases h:(x:Int)=p
  .rw[t5 h,t5 h,show p.toNat=x by omega]
  .rw[t6 h,t6 h]
 rw[e1,e0,zhc hp.1,t5 (by omega),zhc hp.1,t5 (by omega)]
 have e2:sm m.toNat (nr p λx=>y x*(2*c x+1)) - sm m.toNat (nr p λo=>c o*(2*y o+1))=sm m.toNat (nr p y) - sm m.toNat (nr p c):=by
  rw[<-zjo,<- zjo]
  refine YL λx _=>?_
  unfold nr
  by_cases h:(x:Int)=p
  .rw[t5 h,t5 h,t5 h,t5 h]
  .rw[t6 h,t6 h,t6 h,t6 h]
   have:y x*(2*c x+1) - c x*(2*y x+1)=y x - c x:=by
    rw[Int.mul_add,Int.mul_add,u2r,u2r]
    have:y x*(2*c x)=c x*(2*y x):=by rw[Int.mul_left_comm,u11 (y x),Int.mul_left_comm]
    omega
   exact this
 have e3:sm m.toNat (nr p λx=>2*c x+1)=sm m.toNat (nr p c)+sm m.toNat (nr p λx=>c x+1):=by
  rw[<-zcJ]
  refine YL λx _=>?_
  unfold nr
  by_cases h:(x:Int)=p
  .rw[t5 h,t5 h,t5 h];rfl
  .rw[t6 h,t6 h,t6 h]
   show 2*c x+1=c x+(c x+1)
   omega
 have e4:sm m.toNat (nr p λx=>c x+1)+sm m.toNat (nr p y)=sm m.toNat (nr p c)+sm m.toNat (nr p λx=>P2 tl (x:Int)):=by
  rw[<-zcJ,<- zcJ]
  refine YL λx _=>?_
  unfold nr
  by_cases h:(x:Int)=p
  .rw[t5 h,t5 h,t5 h,t5 h]
  .rw[t6 h,t6 h,t6 h,t6 h,hy]
   show c x+1+(P2 tl (x:Int) - 1)=c x+P2 tl (x:Int)
   omega
 have eyp:y p.toNat=P2 tl p - 1:=by rw[hy,show((p.toNat:Nat):Int)=p by omega]
 rw[eyp,Int.sub_mul,u2W,u11 (P2 tl p)]
 unfold Bd
 omega
theorem WJ {m p:Int}{ts:List Tie}{ks cs hs tl:List Int}(T:WY m ts ks cs hs p)(hl:(hs.length:Int)=m)(hE:∀ x:Int,0<=x->x < m->EqA Fh m ts ks tl x):hs.sum<=Bd m p tl (vAt cs p):=by
 have hp:=T.hp
 obtain⟨c,hc⟩:∃ c:Nat->Int,c=λx:Nat=>vAt cs (x:Int):=⟨_,rfl⟩
 obtain⟨y,hy⟩:∃ y:Nat->Int,y=λx:Nat=>P2 tl (x:Int) - 1:=⟨_,rfl⟩
 have cn:∀ x,x < m.toNat->0<=c x:=λx hx=>by rw[hc];exact T.nn (by omega) (by omega)
 have yn:∀ x,0<=y x:=λx=>by rw[hy];have:=zfA tl (x:Int);show 0<=P2 tl (x:Int) - 1;omega
 have eq:∀ x:Nat,x < m.toNat->vAt hs (x:Int)+((zW m ts ks (x:Int)).map c).sum<=WS p c x:=λx hx=>by
  have e:vAt cs (x:Int)=(vAt hs (x:Int)+(YV m ts ks cs (x:Int)).sum) / (if (x:Int)=p then 1 else 2):=T.hE (x:Int) (by omega) (by omega)
  have eo:((zW m ts ks (x:Int)).map c).sum=(YV m ts ks cs (x:Int)).sum:=by rw[hc];rfl
  rw[eo]
  have ec:c x=vAt cs (x:Int):=by rw[hc]
  unfold WS
  by_cases h:(x:Int)=p
  .rw[t5 h,u10]at e
   rw[t5 h]
   omega
  .rw[t6 h]at e
   rw[t6 h]
   omega
 have s1:=zjF eq
 rw[zcJ,zeh T.ok T.tl T.hp T.hks T.hkl T.hb c,<- VQ (hs:=hs) (by omega)]at s1
 have w1:∀ x:Nat,x < m.toNat->((zW m ts ks (x:Int)).map λo=>c o*(2*y o+1)).sum<=y x*WS p c x:=λx hx=>by
  have a1:((zW m ts ks (x:Int)).map λo=>c o*(2*y o+1)).sum<=y x*((zW m ts ks (x:Int)).map c).sum:=zkN λo ho=>by
   have hom:=zP ho
   have st:=zkn hE T.hb (x:=(x:Int)) (by omega) (by omega) ho
   have:2*y o+1<=y x:=by
    rw[hy]
    show 2*(P2 tl (o:Int) - 1)+1<=P2 tl (x:Int) - 1
    omega
   rw[u11 (y x)]
   exact u18 this (cn o (by omega))
  have hn:=T.hn (x:Int)
  have e:=eq x hx
  exact Int.le_trans a1 (u18 (by omega) (yn x))
 have s2:=zjF w1
 rw[zeh T.ok T.tl T.hp T.hks T.hkl T.hb λo=>c o*(2*y o+1)]at s2
 have id:=zlG (m:=m) (tl:=tl) (c:=c) (y:=y) hp (λx=>by rw[hy])
 have ecp:c p.toNat=vAt cs p:=by rw[hc];show vAt cs ((p.toNat:Nat):Int)=_;rw[show((p.toNat:Nat):Int)=p by omega]
 rw[ecp]at id
 omega
theorem zdn {m:Int}{ts:List Tie}{ks tl:List Int}(hE:∀ x:Int,0<=x->x < m->EqA Fh m ts ks tl x){x o:Nat}{r:List Nat}(hx:(x:Int) < m)(h:rkN m ts ks tl x=o::r):vAt tl (x:Int)=vAt tl (o:Int)+1:=by
 have ho:o∈zW m ts ks (x:Int):=zR.mp (by rw[h];exact .head _)
 obtain⟨o2,ho2,e⟩:=zdm hE (x:=(x:Int)) (by omega) hx (λz=>by rw[z]at ho;cases ho)
 have s:=zba hE (x:=(x:Int)) (by omega) hx ho
 have h2:o2∈o::r:=by rw[<-h];exact zR.mpr ho2
 rcases n8.mp h2 with h2 | h2
 .rw[e,h2]
 .have sr:=(VL (λo=>-vAt tl (o:Int)) zV (Zi m ts ks (x:Int))).2.2.1
  have sr:(rkN m ts ks tl x).Pairwise (zkC λo=>-vAt tl (o:Int)):=sr
  rw[h]at sr
  have:=zbl ((u0A.mp sr).1 o2 h2)
  have:-vAt tl (o:Int)<=-vAt tl (o2:Int):=this
  omega
theorem zdA {m:Int}{ts:List Tie}{ks tl:List Int}{x:Nat}:rkN m ts ks tl x=[]↔zW m ts ks (x:Int)=[]:=by
 constructor
 .intro h
  have:=X0 m ts ks tl x
  rw[h]at this
  exact this.symm.eq_nil
 .intro h
  have:=X0 m ts ks tl x
  rw[h]at this
  exact this.eq_nil
theorem zko {f:Nat->Int}{y:Nat}:∀ {l:List Nat},l.Nodup->y∈l->(∀ o∈l,o≠y->f o=0)->(l.map f).sum=f y:=by
 have zero:∀ l:List Nat,(∀ o∈l,f o=0)->(l.map f).sum=0:=λl=>by
  induction l with
  | nil=>intro _;rfl
  | cons a l ih=>intro h;rw[b9,p9,h a (.head _),ih λo ho=>h o (.tail _ ho)];rfl
 intro l
 induction l with
 | nil=>intro _ h;cases h
 | cons a l ih =>
  intro nd hy hz
  obtain⟨n1,n2⟩:=u0i.mp nd
  rw[b9,p9]
  rcases n8.mp hy with rfl | hy
  .rw[zero l λo ho=>hz o (.tail _ ho) λe=>n1 (e ▸ ho)]
   omega
  .rw[ih n2 hy λo ho=>hz o (.tail _ ho),hz a (.head _) λe=>n1 (e ▸ hy)]
   omega
def Cf (p t:Int)(ch par:Nat->Nat):Nat->Nat->Int
 | 0,_=>t - 1
 | n+1,o=>if (o:Int)=p then t - 1 else if o=ch (par o)then (if (par o:Int)=p then Cf p t ch par n (par o)else 2*Cf p t ch par n (par o)+1)else 0
theorem znn {p t:Int}{ch par:Nat->Nat}(ht:1<=t):∀ n o,0<=Cf p t ch par n o:=by
 intro n
 induction n with
 | zero=>intro o;show 0<=t - 1;omega
 | succ n ih =>
  intro o
  unfold Cf
  have:=ih (par o)
  split
  .omega
  .split
   .split <;> omega
   .omega
section
variable {m p t:Int}{ts:List Tie}{ks tl:List Int}(ok:zG m ts)(htl:(ts.length:Int)=m - 1)(hp:0<=p/\p < m)(hks:YX m ts p=ks.map some)(hkl:(ks.length:Int)=m)(hb:∀ x:Int,0<=x->x < m->0<=vAt ks x/\vAt ks x < m)
include ok htl hp hks hkl hb
theorem zfM {a:Nat}(ha:(a:Int) < m)(h:vAt ks (a:Int)<=0):(a:Int)=p:=by
 by_cases c:(a:Int)=p
 .exact c
 .obtain⟨q,hq⟩:=wJ (x:=(a:Int)) ok hp hks hkl ⟨by omega,ha⟩ c
  obtain⟨h1,h2⟩:=(wc ok).mp hq
  have h3:=(h1.rng ok).2
  have:=(hb (q:Int) h3.1 h3.2).1
  omega
theorem zh6 (ht:1<=t)(ch:Nat->Nat):∃ C:Nat->Int,C p.toNat=t - 1/\(∀ x,0<=C x)/\∀ a o:Nat,(a:Int) < m->o∈zW m ts ks (a:Int)->C o=if o=ch a then WS p C a else 0:=by
 obtain⟨par,hpar⟩:∃ par:Nat->Nat,par=λx:Nat=>(inN m ts ks (x:Int)).headD 0:=⟨_,rfl⟩
 have hpo:∀ {a o:Nat},(a:Int) < m->o∈zW m ts ks (a:Int)->par o=a:=λ{a o} ha ho=>by
  obtain⟨y,hy⟩:=zfO (x:=(o:Int)) ok htl hp hks hkl ⟨by omega,zP ho⟩ (vV hp hks hkl hb ⟨by omega,ha⟩ ho)
  have e1:=(Zf ok).mpr ho
  rw[hy]at e1
  rw[hpar]
  show(inN m ts ks (o:Int)).headD 0=a
  rw[hy]
  exact(j6.mp e1).symm
 have st:∀ (n o:Nat),(o:Int) < m->vAt ks (o:Int)<=(n:Int)->Cf p t ch par (n+1) o=Cf p t ch par n o:=by
  intro n
  induction n with
  | zero =>
   intro o ho h
   have:=zfM ok htl hp hks hkl hb ho h
   unfold Cf
   rw[t5 this]
  | succ n ih =>
   intro o ho h
   by_cases c:(o:Int)=p
   .unfold Cf
    rw[t5 c,t5 c]
   .obtain⟨q,hq⟩:=wJ (x:=(o:Int)) ok hp hks hkl ⟨by omega,ho⟩ c
    obtain⟨h1,h2⟩:=(wc ok).mp hq
    have h3:=(h1.rng ok).2
    have e:=hpo h3.2 ((Zf ok).mp hq)
    have i:=ih q h3.2 (by omega)
    unfold Cf
    rw[t6 c,t6 c,e,i]
 have hm8:=ok.hi
 refine⟨Cf p t ch par 8,?_,znn ht 8,λa o ha ho=>?_⟩
 .unfold Cf
  rw[t5 (by omega)]
 .have c:=vV hp hks hkl hb ⟨by omega,ha⟩ ho
  have e:=hpo ha ho
  have s:Cf p t ch par 8 a=Cf p t ch par 7 a:=st 7 a ha (by have:=(hb (a:Int) (by omega) ha).2;omega)
  have e8:Cf p t ch par 8 o=if o=ch a then (if (a:Int)=p then Cf p t ch par 7 a else 2*Cf p t ch par 7 a+1)else 0:=by
   show(if (o:Int)=p then t - 1 else if o=ch (par o)then (if (par o:Int)=p then Cf p t ch par 7 (par o)else 2*Cf p t ch par 7 (par o)+1)else 0)=_
   rw[t6 c,e]
  rw[e8]
  unfold WS
  rw[s]
theorem zhZ {C:Nat->Int}{ch:Nat->Nat}(hch:∀ (x o:Nat) (r:List Nat),(x:Int) < m->(x:Int)≠p->rkN m ts ks tl x=o::r->ch x=o)(hC:∀ a o:Nat,(a:Int) < m->o∈zW m ts ks (a:Int)->C o=if o=ch a then WS p C a else 0):∀ (n y:Nat),(y:Int) < m->(y:Int)≠p->m - vAt ks (y:Int)<=(n:Int)->∃ z:Nat,(∀ d,(y::xU (rkN m ts ks tl) n y).getLastD d=z)/\rkN m ts ks tl z=[]/\(z:Int) < m/\(z:Int)≠p/\C z+1=(C y+1)*2 ^ (xU (rkN m ts ks tl) n y).length/\∀ x:Nat,rkN m ts ks tl x=[]->(x=y\/∃ q,(q,x)∈yU (rkN m ts ks tl) n y)->x=z:=by
 intro n
 induction n with
 | zero =>
  intro y hy _ h
  have:=(hb (y:Int) (by omega) hy).2
  omega
 | succ n ih =>
  intro y hy hyp h
  cases hr:rkN m ts ks tl y with
  | nil =>
   have e1:xU (rkN m ts ks tl) (n+1) y=[]:=by unfold xU;rw[hr]
   have e2:yU (rkN m ts ks tl) (n+1) y=[]:=by unfold yU;rw[hr]
   rw[e1,e2]
   refine⟨y,λ_=>rfl,hr,hy,hyp,by simp,λx _ hx=>hx.elim id λ⟨q,hq⟩=>by cases hq⟩
  | cons o r =>
   have e1:xU (rkN m ts ks tl) (n+1) y=o::xU (rkN m ts ks tl) n o:=by
    show(match rkN m ts ks tl y with | []=>[] | o::_=>o::xU (rkN m ts ks tl) n o)=_
    rw[hr]
   have e2:yU (rkN m ts ks tl) (n+1) y=(y,o)::yU (rkN m ts ks tl) n o:=by
    show(match rkN m ts ks tl y with | []=>[] | o::_=>(y,o)::yU (rkN m ts ks tl) n o)=_
    rw[hr]
   have ho:o∈zW m ts ks (y:Int):=zR.mp (by rw[hr];exact .head _)
   have far:=yf ho
   have hop:=vV hp hks hkl hb ⟨by omega,hy⟩ ho
   obtain⟨z,h1,h2,h3,h4,h5,h6⟩:=ih o (zP ho) hop (by omega)
   rw[e1,e2]
   refine⟨z,λd=>?_,h2,h3,h4,?_,λx hx hh=>?_⟩
   .rw[<-h1 y]
    rfl
   .have eo:=hC y o hy ho
    rw[hch y o r hy hyp hr,t5 rfl]at eo
    unfold WS at eo
    rw[t6 hyp]at eo
    rw[h5,eo,p6,u3g,u11 (2 ^ _) 2,<- u2V]
    congr 1
    omega
   .rcases hh with rfl | ⟨q,hq⟩
    .rw[hr]at hx;cases hx
    .rcases n8.mp hq with hq | hq
     .cases hq;exact h6 _ hx (.inl rfl)
     .exact h6 x hx (.inr ⟨q,hq⟩)
theorem ziu (hE:∀ x:Int,0<=x->x < m->EqA Fh m ts ks tl x):∀ (n y:Nat),(y:Int) < m->m - vAt ks (y:Int)<=(n:Int)->(((xU (rkN m ts ks tl) n y).length:Nat):Int)=vAt tl (y:Int):=by
 intro n
 induction n with
 | zero =>
  intro y hy h
  have:=(hb (y:Int) (by omega) hy).2
  omega
 | succ n ih =>
  intro y hy h
  unfold xU
  cases hr:rkN m ts ks tl y with
  | nil =>
   rw[zeb hE (by omega) hy (zdA.mp hr)]
   rfl
  | cons o r =>
   have ho:o∈zW m ts ks (y:Int):=zR.mp (by rw[hr];exact .head _)
   have far:=yf ho
   have i:=ih o (zP ho) (by omega)
   rw[zdn hE hy hr]
   show(((xU (rkN m ts ks tl) n o).length+1:Nat):Int)=_
   omega
theorem zgR (hE:∀ x:Int,0<=x->x < m->EqA Fh m ts ks tl x):∀ (n x:Nat),(x:Int) < m->(x:Int)≠p->vAt ks (x:Int)<=(n:Int)->vAt tl (x:Int)+1<=vAt tl p:=by
 intro n
 induction n with
 | zero=>intro x hx hxp h;exact absurd (zfM ok htl hp hks hkl hb hx h) hxp
 | succ n ih =>
  intro x hx hxp h
  obtain⟨q,hq⟩:=wJ (x:=(x:Int)) ok hp hks hkl ⟨by omega,hx⟩ hxp
  obtain⟨h1,h2⟩:=(wc ok).mp hq
  have h3:=(h1.rng ok).2
  have s:=zba hE (x:=(q:Int)) h3.1 h3.2 ((Zf ok).mp hq)
  by_cases c:(q:Int)=p
  .rw[<-c];exact s
  .have:=ih q h3.2 c (by omega)
   omega
theorem zgC (hE:∀ x:Int,0<=x->x < m->EqA Fh m ts ks tl x){x y:Nat}(hx:(x:Int) < m)(hy:y∈rkN m ts ks tl x):(((Z0 (rkN m ts ks tl) x y).length:Nat):Int)=vAt tl (y:Int)+2:=by
 have ho:=zR.mp hy
 have far:=yf ho
 have h0:=(hb (x:Int) (by omega) hx).1
 have hm8:=ok.hi
 have:=ziu ok htl hp hks hkl hb hE 8 y (zP ho) (by omega)
 unfold Z0
 show(((xU (rkN m ts ks tl) 8 y).length+1+1:Nat):Int)=_
 omega
theorem zb5 (hE:∀ x:Int,0<=x->x < m->EqA Fh m ts ks tl x){w0:List Nat}{r:List (List Nat)}(hW:zcS (zC p (rkN m ts ks tl) m.toNat)=w0::r):∃ y0,y0∈rkN m ts ks tl p.toNat/\w0=Z0 (rkN m ts ks tl) p.toNat y0/\vAt tl p=vAt tl (y0:Int)+1:=by
 obtain⟨_,h2,h3,_⟩:=ZS kW (λt=>(t.drop 1).map Int.toNat) wD (λw _=>zdf w) (xD p (wv m ts ks tl) m.toNat)
 have h2:(zcS (zC p (rkN m ts ks tl) m.toNat)).Perm (zC p (rkN m ts ks tl) m.toNat):=h2
 have h3:(zcS (zC p (rkN m ts ks tl) m.toNat)).Pairwise (λx y=>HT.lexLt (kW y) (kW x)=false):=h3
 rw[hW]at h2 h3
 have long:∀ w∈zC p (rkN m ts ks tl) m.toNat,w.length<=w0.length:=λw hw=>by
  rcases n8.mp (h2.mem_iff.mpr hw)with rfl | hr
  .exact t9 _
  .have h:=(u0A.mp h3).1 w hr
   unfold kW at h
   rw[HT.lexLt_cons]at h
   by_cases e:-(w.length:Int)=-(w0.length:Int)
   .omega
   .rw[t6 e]at h
    have:=u05 h
    omega
 have hw0:w0∈zC p (rkN m ts ks tl) m.toNat:=h2.mem_iff.mp (.head _)
 obtain⟨x,y,hx,hy,e0⟩:=wo hw0
 have hyr:=YT hy
 have hyo:=zR.mp hyr
 have l0:=zgC ok htl hp hks hkl hb hE hx hyr
 rw[<-e0]at l0
 have sxy:=zba hE (x:=(x:Int)) (by omega) hx hyo
 have hpn:((p.toNat:Nat):Int)=p:=by omega
 have hpo:zW m ts ks p≠[]:=λz=>by
  have z2:=zeb hE hp.1 hp.2 z
  have ny:=zkz hE (x:=(y:Int)) (by omega) (zP hyo) hb
  by_cases c:(x:Int)=p
  .rw[c]at hyo;rw[z]at hyo;cases hyo
  .have:=zgR ok htl hp hks hkl hb hE (vAt ks (x:Int)).toNat x hx c (by have:=(hb (x:Int) (by omega) hx).1;omega)
   omega
 obtain⟨h,hh,eh⟩:=zdm hE hp.1 hp.2 hpo
 have hhr:h∈rkN m ts ks tl p.toNat:=zR.mpr (by rw[hpn];exact hh)
 have l1:=zgC ok htl hp hks hkl hb hE (x:=p.toNat) (by omega) hhr
 have l2:=long (Z0 (rkN m ts ks tl) p.toNat h) (u0L.mpr ⟨p.toNat,d5.mpr (by omega),u0Q (by unfold zaV;rw[t5 hpn];exact hhr)⟩)
 have c:(x:Int)=p:=by
  by_cases c:(x:Int)=p
  .exact c
  .have:=zgR ok htl hp hks hkl hb hE (vAt ks (x:Int)).toNat x hx c (by have:=(hb (x:Int) (by omega) hx).1;omega)
   omega
 have ex:x=p.toNat:=by omega
 subst ex
 refine⟨y,hyr,e0,?_⟩
 rw[hpn]at sxy
 omega
end
def lastN (w:List Nat):Nat:=w.getLastD 0
def zda (t:Int)(i:Nat)(w:List Nat):Int:=(if i=0 then t else 1)*2 ^ (w.length - 1) - 1
def zK (t m:Int)(V:List (List Nat))(i:Nat):List Int:=(V.zipIdx.take i).foldl (λs q=>s.set (lastN q.1) (zda t q.2 q.1)) (List.replicate m.toNat 0)
theorem wm {t m:Int}{V:List (List Nat)}{i:Nat}{w:List Nat}(h:V[i]?=some w):zK t m V (i+1)=(zK t m V i).set (lastN w) (zda t i w):=by
 unfold zK
 have:V.zipIdx[i]?=some (w,i):=by rw[List.getElem?_zipIdx,h];simp
 rw[u1n,this,List.foldl_append]
 rfl
theorem xW {t m:Int}{V:List (List Nat)}(hm:0<=m)(i:Nat):((zK t m V i).length:Int)=m:=by
 unfold zK
 have:∀ (l:List (List Nat × Nat)) (s:List Int),(l.foldl (λs q=>s.set (lastN q.1) (zda t q.2 q.1)) s).length=s.length:=by
  intro l
  induction l with
  | nil=>intro s;rfl
  | cons a l ih=>intro s;rw[u3i,ih,i9]
 rw[this,p5]
 omega
def zmM (m:Int)(w:List Nat):Prop:=∃ (u:List Nat) (z:Nat),w=u++[z]/\(z:Int) < m/\(u.length:Int) < m
theorem zmM.last {m:Int}{w:List Nat}(h:zmM m w):L2.atI (w.map zV) (-1)=some (.int (lastN w:Int))/\(lastN w:Int) < m:=by
 obtain⟨u,z,rfl,h1,_⟩:=h
 have e:lastN (u++[z])=z:=by unfold lastN;simp
 rw[e]
 refine⟨?_,h1⟩
 rw[zfP,YF]
theorem zgM {n:Nat}(h:n<=8):(0:Int) < 2 ^ n/\(2:Int) ^ n<=256:=by
 have h1:(2:Nat) ^ n<=2 ^ 8:=u2k (by decide) h
 have h2:0 < (2:Nat) ^ n:=u3v (by decide)
 have e:((2:Int) ^ n)=(((2:Nat) ^ n:Nat):Int):=by simp
 rw[e]
 omega
theorem ze7 {t m:Int}{V:List (List Nat)}{x:Nat}(hV:∀ w∈V,(lastN w:Int) < m/\lastN w≠x)(hm:0<=m):∀ k:Nat,k<=V.length->vAt (zK t m V k) (x:Int)=0:=by
 intro k
 induction k with
 | zero =>
  intro _
  show vAt (List.replicate m.toNat (0:Int)) (x:Int)=0
  unfold vAt
  rw[j4,u0t]
  split <;> rfl
 | succ k ih =>
  intro hk
  have hw:V[k]?=some V[k]:=u5 hk
  obtain⟨h1,h2⟩:=hV V[k] (u0D hk)
  rw[wm hw]
  have:=wV (ns:=zK t m V k) (i:=(lastN V[k]:Int)) (j:=(x:Int)) (x:=zda t k V[k]) (by omega) (by rw[xW hm];exact h1) (by omega)
  rw[show((lastN V[k]:Int)).toNat=lastN V[k]from rfl]at this
  rw[this,t6 (by omega)]
  exact ih (by omega)
theorem ze9 {t m v:Int}{V:List (List Nat)}{x:Nat}(hm:0<=m)(hl:∀ w∈V,(lastN w:Int) < m)(hv:∀ (j:Nat) (w:List Nat),V[j]?=some w->lastN w=x->zda t j w=v):∀ k:Nat,k<=V.length->(∃ (j:Nat) (w:List Nat),j < k/\V[j]?=some w/\lastN w=x)->vAt (zK t m V k) (x:Int)=v:=by
 intro k
 induction k with
 | zero=>rintro _ ⟨j,w,h,_⟩;exact absurd h (u1l _)
 | succ k ih =>
  rintro hk ⟨j,w,hj,hw,hx⟩
  have hw':V[k]?=some V[k]:=u5 hk
  have h1:=hl V[k] (u0D hk)
  rw[wm hw']
  have:=wV (ns:=zK t m V k) (i:=(lastN V[k]:Int)) (j:=(x:Int)) (x:=zda t k V[k]) (by omega) (by rw[xW hm];exact h1) (by omega)
  rw[show((lastN V[k]:Int)).toNat=lastN V[k]from rfl]at this
  rw[this]
  by_cases c:lastN V[k]=x
  .rw[t5 (by omega)]
   exact hv k _ hw' c
  .rw[t6 (by omega)]
   refine ih (by omega) ⟨j,w,?_,hw,hx⟩
   have:j≠k:=λe=>by
    subst e
    rw[hw']at hw
    cases hw
    exact c hx
   omega
theorem zl8 {t:Int}(ht:1<=t)(i:Nat)(w:List Nat):0<=zda t i w:=by
 have e:((2:Int) ^ (w.length - 1))=(((2:Nat) ^ (w.length - 1):Nat):Int):=by simp
 have:0 < (2:Nat) ^ (w.length - 1):=u3v (by decide)
 have h:1*1<=(if i=0 then t else 1)*(2:Int) ^ (w.length - 1):=u3p (by split <;> omega) (by rw[e];omega) (by decide) (by split <;> omega)
 unfold zda
 omega
theorem zdJ {t m:Int}{V:List (List Nat)}(ht:1<=t):∀ k:Nat,k<=V.length->∀ v∈zK t m V k,0<=v:=by
 intro k
 induction k with
 | zero =>
  intro _ v hv
  rw[List.eq_of_mem_replicate (show v∈List.replicate m.toNat (0:Int)from hv)]
  exact u0z _
 | succ k ih =>
  intro hk v hv
  have hw:V[k]?=some V[k]:=u5 hk
  rw[wm hw]at hv
  rcases u2Q hv with h | rfl
  .exact ih (by omega) v h
  .exact zl8 ht _ _
def zeL (V:List (List Nat))(k:Nat):Nat:=((V.take k).map λw=>w.length - 1).sum
theorem zev {t a b:Int}(ht:1<=t)(ha:1<=a)(hb:1<=b):t*a+b<=t*(a*b)+1:=by
 have h1:1<=t*a:=by
  have:=u3p ht ha (by decide) (by omega)
  omega
 have h2:0<=(t*a - 1)*(b - 1):=Int.mul_nonneg (by omega) (by omega)
 rw[Int.sub_mul,Int.mul_sub,u2r,u2W,u2V]at h2
 omega
theorem zc3 (k:Nat):(1:Int)<=2 ^ k:=by
 have e:((2:Int) ^ k)=(((2:Nat) ^ k:Nat):Int):=by simp
 have:0 < (2:Nat) ^ k:=u3v (by decide)
 rw[e]
 omega
theorem zgP {t m:Int}{V:List (List Nat)}(ht:1<=t)(hm:0<=m)(hl:∀ w∈V,(lastN w:Int) < m):∀ k:Nat,k<=V.length->(zK t m V k).sum<=(if k=0 then 0 else t*2 ^ zeL V k - 1):=by
 intro k
 induction k with
 | zero =>
  intro _
  rw[t5 rfl]
  show(List.replicate m.toNat (0:Int)).sum<=0
  have:∀ n:Nat,(List.replicate n (0:Int)).sum=0:=λn=>by
   induction n with
   | zero=>rfl
   | succ n ih=>rw[i5,p9,ih];rfl
  rw[this]
  exact u0z _
 | succ k ih =>
  intro hk
  have i:=ih (by omega)
  have hw:V[k]?=some V[k]:=u5 hk
  have h1:=hl V[k] (u0D hk)
  have hn:=zdJ (m:=m) (V:=V) ht k (by omega)
  rw[wm hw,XI (by have:=xW (t:=t) (V:=V) hm k;omega),t6 (by omega)]
  have h0:0<=(zK t m V k).getD (lastN V[k]) 0:=by
   rw[j4]
   cases e:(zK t m V k)[lastN V[k]]? with
   | none=>exact u0z _
   | some v=>exact hn v (r8 e)
  have ep:zeL V (k+1)=zeL V k+(V[k].length - 1):=by
   unfold zeL
   rw[u1n,hw,e9,u1j]
   simp
  rw[ep,Int.pow_add]
  unfold zda
  by_cases c:k=0
  .subst c
   rw[t5 rfl]at i ⊢
   have:zeL V 0=0:=rfl
   rw[this,Int.pow_zero,u2W]
   omega
  .rw[t6 c]at i ⊢
   rw[u2W]
   have:=zev ht (zc3 (zeL V k)) (zc3 (V[k].length - 1))
   omega
section
variable {m p t:Int}{ts:List Tie}{ks tl:List Int}(ok:zG m ts)(htl:(ts.length:Int)=m - 1)(hp:0<=p/\p < m)(hks:YX m ts p=ks.map some)(hkl:(ks.length:Int)=m)(hb:∀ x:Int,0<=x->x < m->0<=vAt ks x/\vAt ks x < m)
include ok htl hp hks hkl hb
theorem zkg {W:List (List Nat)}(pm:W.Perm (zC p (rkN m ts ks tl) m.toNat)):(zeL W W.length:Int)=m - 1:=by
 have e1:zeL W W.length=(W.flatMap prs).length:=by
  unfold zeL
  rw[u01,List.length_flatMap]
  congr 1
  refine p4 λw _=>?_
  unfold prs
  rw[u0o,u0V]
  omega
 have e2:(W.flatMap prs).length=((zC p (rkN m ts ks tl) m.toNat).flatMap prs).length:=(pm.flatMap_right prs).length_eq
 have e3:=(zgv (tl:=tl) ok htl hp hks hkl hb).length_eq
 rw[u6]at e3
 omega
theorem zeY (hE:∀ x:Int,0<=x->x < m->EqA Fh m ts ks tl x)(h1:1<=t){W V:List (List Nat)}(hW:zcS (zC p (rkN m ts ks tl) m.toNat)=W)(hV:V=if W.isEmpty=true then [[p.toNat]]else W):∃ C:Nat->Int,C p.toNat=t - 1/\(∀ x,0<=C x)/\(∀ x:Nat,(x:Int) < m->vAt (zK t m V V.length) (x:Int)+((zW m ts ks (x:Int)).map C).sum=WS p C x)/\(zK t m V V.length).sum=Bd m p tl (t - 1):=by
 have hm1:=ok.lo
 have hm8:=ok.hi
 have hpn:((p.toNat:Nat):Int)=p:=by omega
 have pm:=zam (xD p (wv m ts ks tl) m.toNat)
 have nd:W.Nodup:=by rw[<-hW];exact pm.nodup_iff.mpr (xD p (wv m ts ks tl) m.toNat)
 rw[hW]at pm
 -- the child that is gone on to
 obtain⟨ch,hch,hcw⟩:∃ ch:Nat->Nat,(∀ x:Nat,(x:Int) < m->zW m ts ks (x:Int)≠[]->ch x∈zW m ts ks (x:Int)/\vAt tl (x:Int)=vAt tl (ch x:Int)+1/\((x:Int)≠p->∃ r,rkN m ts ks tl x=ch x::r))/\(∀ w r,W=w::r->w=Z0 (rkN m ts ks tl) p.toNat (ch p.toNat)):=by
  have hd:∀ x:Nat,(x:Int) < m->zW m ts ks (x:Int)≠[]->∃ o r,rkN m ts ks tl x=o::r:=λx hx h=>by
   cases e:rkN m ts ks tl x with
   | nil=>exact absurd (zdA.mp e) h
   | cons o r=>exact⟨o,r,rfl⟩
  cases hWc:W with
  | nil =>
   refine⟨λx=>(rkN m ts ks tl x).headD 0,λx hx h=>?_,λw r e=>by cases e⟩
   obtain⟨o,r,e⟩:=hd x hx h
   have eo:(rkN m ts ks tl x).headD 0=o:=by rw[e];rfl
   dsimp only
   rw[eo]
   exact⟨zR.mp (by rw[e];exact .head _),zdn hE hx e,λ_=>⟨r,e⟩⟩
  | cons w0 r0 =>
   obtain⟨y0,hy0,ew,et⟩:=zb5 ok htl hp hks hkl hb hE (hW.trans hWc)
   refine⟨λx=>if (x:Int)=p then y0 else (rkN m ts ks tl x).headD 0,λx hx h=>?_,λw r e=>?_⟩
   .dsimp only
    by_cases c:(x:Int)=p
    .rw[t5 c]
     have:x=p.toNat:=by omega
     refine⟨zR.mp (by rw[this];exact hy0),by rw[c];exact et,λz=>absurd c z⟩
    .obtain⟨o,r,e⟩:=hd x hx h
     have eo:(rkN m ts ks tl x).headD 0=o:=by rw[e];rfl
     rw[t6 c,eo]
     exact⟨zR.mp (by rw[e];exact .head _),zdn hE hx e,λ_=>⟨r,e⟩⟩
   .cases e
    rw[ew]
    dsimp only
    rw[t5 hpn]
 obtain⟨C,C0,Cn,hC⟩:=zh6 ok htl hp hks hkl hb h1 ch
 have capp:WS p C p.toNat=t - 1:=by unfold WS;rw[t5 hpn];exact C0
 -- a leaf and what is none
 have key:∀ x:Nat,(x:Int) < m->vAt (zK t m V V.length) (x:Int)=if zW m ts ks (x:Int)=[]then WS p C x else 0:=by
  cases hWc:W with
  | nil =>
   have hout:∀ a b:Nat,b∉zW m ts ks (a:Int):=λa b h=>by
    have:=(vB (tl:=tl) ok htl hp hks hkl hb).mpr h
    rw[hWc]at pm
    rw[pm.symm.eq_nil]at this
    cases this
   intro x hx
   have hxp:(x:Int)=p:=by
    by_cases c:(x:Int)=p
    .exact c
    .obtain⟨q,hq⟩:=wJ (x:=(x:Int)) ok hp hks hkl ⟨by omega,hx⟩ c
     exact absurd ((Zf ok).mp hq) (hout _ _)
   have hx2:x=p.toNat:=by omega
   rw[t5 (List.eq_nil_iff_forall_not_mem.mpr (hout x)),hx2,capp,hpn]
   have hV':V=[[p.toNat]]:=by rw[hV,hWc];rfl
   have hv:zK t m V V.length=(List.replicate m.toNat (0:Int)).set p.toNat (t - 1):=by
    rw[hV']
    show((List.replicate m.toNat (0:Int)).set (lastN [p.toNat]) (zda t 0 [p.toNat]))=_
    have:zda t 0 [p.toNat]=t - 1:=by unfold zda;simp
    rw[this]
    rfl
   rw[hv,wV hp.1 (by rw[p5];omega) hp.1,t5 rfl]
  | cons w0 r0 =>
   have ew0:=hcw w0 r0 hWc
   have hV':V=W:=by rw[hV,hWc];rfl
   rw[hV']
   have hch2:∀ (x o:Nat) (r:List Nat),(x:Int) < m->(x:Int)≠p->rkN m ts ks tl x=o::r->ch x=o:=λx o r hx hxp hr=>by
    have ho:o∈zW m ts ks (x:Int):=zR.mp (by rw[hr];exact .head _)
    obtain⟨r2,e⟩:=(hch x hx (λz=>by rw[z]at ho;cases ho)).2.2 hxp
    rw[hr]at e
    exact(u0R e).1.symm
   -- each way: where it ends,and what lies there
   have way:∀ (i:Nat) (w:List Nat),W[i]?=some w->∃ (a y z:Nat),(a:Int) < m/\w=Z0 (rkN m ts ks tl) a y/\lastN w=z/\zW m ts ks (z:Int)=[]/\(z:Int) < m/\zda t i w=WS p C z/\∀ x:Nat,rkN m ts ks tl x=[]->(∃ q,(q,x)∈prs w)->x=z:=λi w hw=>by
    have hwf:=pm.mem_iff.mp (r8 hw)
    obtain⟨a,y,ha,hy,e⟩:=wo hwf
    have hyo:=zR.mp (YT hy)
    have far:=yf hyo
    have h0:=(hb (a:Int) (by omega) ha).1
    have hyp:=vV hp hks hkl hb ⟨by omega,ha⟩ hyo
    obtain⟨z,z1,z2,z3,z4,z5,z6⟩:=zhZ ok htl hp hks hkl hb hch2 hC 8 y (zP hyo) hyp (by omega)
    have eC:=hC a y ha hyo
    have eτ:C y+1=if i=0 then t else 1:=by
     by_cases c:i=0
     .subst c
      rw[t5 rfl]
      rw[hWc]at hw
      cases hw
      rw[e]at ew0
      unfold Z0 at ew0
      obtain⟨e1,e2⟩:=u0R ew0
      obtain⟨e2,_⟩:=u0R e2
      rw[<-e1]at e2
      rw[t5 e2,e1,capp]at eC
      omega
     .rw[t6 c]
      have hne:¬ y=ch a:=λey=>by
       by_cases cp:(a:Int)=p
       .have ea:a=p.toNat:=by omega
        rw[ea]at ey e
        rw[ey]at e
        rw[<-ew0]at e
        have hl:0 < W.length:=by rw[hWc];exact Nat.succ_pos _
        obtain⟨hi,ei⟩:=t8.mp hw
        have:W[0]=W[i]:=by
         rw[ei,e]
         simp[hWc]
        have i1:=nd.idxOf_getElem 0 hl
        have i2:=nd.idxOf_getElem i hi
        rw[this]at i1
        omega
       .cases hr:rkN m ts ks tl a with
        | nil =>
         have:=YT hy
         rw[hr]at this
         cases this
        | cons o r =>
         have eo:=hch2 a o r ha cp hr
         unfold zaV at hy
         rw[t6 cp,hr]at hy
         have ndr:=wv m ts ks tl a
         rw[hr]at ndr
         have hy:y∈r:=hy
         rw[ey,eo]at hy
         exact(u0i.mp ndr).1 hy
      rw[t6 hne]at eC
      omega
    refine⟨a,y,z,ha,e,?_,zdA.mp z2,z3,?_,λx hx ⟨q,hq⟩=>z6 x hx ?_⟩
    .rw[e]
     exact z1 a
    .unfold zda WS
     rw[t6 z4,<- eτ,e]
     have el:(Z0 (rkN m ts ks tl) a y).length - 1=(xU (rkN m ts ks tl) 8 y).length+1:=rfl
     rw[el,u3g,<- u2V,<- z5]
     omega
    .rw[e,Wo]at hq
     rcases n8.mp hq with hq | hq
     .cases hq;exact .inl rfl
     .exact .inr ⟨q,hq⟩
   have hlast:∀ w∈W,(lastN w:Int) < m:=λw hw=>by
    obtain⟨i,hi,e⟩:=d6 hw
    obtain⟨a,y,z,_,_,e1,_,e3,_⟩:=way i w (by rw[u5 hi,e])
    rw[e1];exact e3
   intro x hx
   by_cases c:zW m ts ks (x:Int)=[]
   .rw[t5 c]
    have hxp:(x:Int)≠p:=λe=>by
     have hw0:w0∈W:=by rw[hWc];exact .head _
     have ho:zW m ts ks ((p.toNat:Nat):Int)≠[]:=λz=>by
      obtain⟨y0,hy0,_⟩:=zb5 ok htl hp hks hkl hb hE (hW.trans hWc)
      have:=zR.mp hy0
      rw[z]at this
      cases this
     rw[hpn,<- e]at ho
     exact ho c
    refine ze9 (by omega) hlast (λj w hw hx'=>?_) W.length (t9 _) ?_
    .obtain⟨a,y,z,_,_,e1,_,_,e4,_⟩:=way j w hw
     rw[e4,<- e1,hx']
    .obtain⟨q,hq⟩:=wJ (x:=(x:Int)) ok hp hks hkl ⟨by omega,hx⟩ hxp
     have hqo:=(Zf ok).mp hq
     obtain⟨w,hw,hpr⟩:=u0L.mp ((vB (tl:=tl) ok htl hp hks hkl hb).mpr hqo)
     obtain⟨i,hi,e⟩:=d6 (pm.mem_iff.mpr hw)
     have ew:W[i]?=some w:=by rw[u5 hi,e]
     obtain⟨a,y,z,_,_,e1,_,_,_,e5⟩:=way i w ew
     exact⟨i,w,hi,ew,by rw[e1];exact(e5 x (zdA.mpr c) ⟨q,hpr⟩).symm⟩
   .rw[t6 c]
    refine ze7 (λw hw=>⟨hlast w hw,λe=>c ?_⟩) (by omega) W.length (t9 _)
    obtain⟨i,hi,ei⟩:=d6 hw
    obtain⟨a,y,z,_,_,e1,e2,_⟩:=way i w (by rw[u5 hi,ei])
    rw[<-e,e1]
    exact e2
 -- what comes together at a place
 have outs:∀ x:Nat,(x:Int) < m->zW m ts ks (x:Int)≠[]->∀ g:Nat->Int,((zW m ts ks (x:Int)).map λo=>C o*g o).sum=WS p C x*g (ch x):=λx hx h g=>by
  obtain⟨hc1,_,_⟩:=hch x hx h
  have e:=zko (f:=λo=>C o*g o) (Zi m ts ks (x:Int)) hc1 λo ho hne=>by
   have:=hC x o hx ho
   rw[t6 hne]at this
   show C o*g o=0
   rw[this,Int.zero_mul]
  rw[e]
  have:=hC x (ch x) hx hc1
  rw[t5 rfl]at this
  show C (ch x)*g (ch x)=_
  rw[this]
 have tight:∀ x:Nat,(x:Int) < m->vAt (zK t m V V.length) (x:Int)+((zW m ts ks (x:Int)).map C).sum=WS p C x:=λx hx=>by
  rw[key x hx]
  by_cases c:zW m ts ks (x:Int)=[]
  .rw[t5 c,c]
   show WS p C x+0=_
   omega
  .rw[t6 c]
   have:=outs x hx c λ_=>1
   simp only[u2r]at this
   rw[this]
   omega
 refine⟨C,C0,Cn,tight,?_⟩
 obtain⟨y,hy⟩:∃ y:Nat->Int,y=λx:Nat=>P2 tl (x:Int) - 1:=⟨_,rfl⟩
 have s1:sm m.toNat (λx=>vAt (zK t m V V.length) (x:Int)+((zW m ts ks (x:Int)).map C).sum)=sm m.toNat (WS p C):=YL λx hx=>tight x (by omega)
 have hlen:=xW (t:=t) (V:=V) (m:=m) (by omega) V.length
 rw[zcJ,zeh ok htl hp hks hkl hb C,<- VQ (hs:=zK t m V V.length) (by omega)]at s1
 have s2:sm m.toNat (λx=>((zW m ts ks (x:Int)).map λo=>C o*(2*y o+1)).sum)=sm m.toNat (λx=>y x*WS p C x):=YL λx hx=>by
  have hxm:(x:Int) < m:=by omega
  by_cases c:zW m ts ks (x:Int)=[]
  .rw[c]
   have e0:=zeb hE (x:=(x:Int)) (by omega) hxm c
   have:y x=0:=by
    rw[hy]
    show P2 tl (x:Int) - 1=0
    unfold P2
    rw[e0]
    rfl
   rw[this,Int.zero_mul]
   rfl
  .obtain⟨hc1,hc2,_⟩:=hch x hxm c
   rw[outs x hxm c λo=>2*y o+1,u11]
   congr 1
   have n:=zkz hE (x:=(ch x:Int)) (by omega) (zP hc1) hb
   rw[hy]
   show 2*(P2 tl (ch x:Int) - 1)+1=P2 tl (x:Int) - 1
   unfold P2
   rw[hc2,show(vAt tl (ch x:Int)+1).toNat=(vAt tl (ch x:Int)).toNat+1 by omega,u3g]
   omega
 rw[zeh ok htl hp hks hkl hb λo=>C o*(2*y o+1)]at s2
 have id:=zlG (m:=m) (tl:=tl) (c:=C) (y:=y) hp (λx=>by rw[hy])
 rw[C0]at id
 omega
end
theorem zkZ {m:Int}{ts:List Tie}(ok:zG m ts):zN [zp m ts]=some .non:=by
 have hw:vQ (zp m ts)=true:=(xE _).mpr ⟨_,_,rfl,ok⟩
 simp[zN,hw]
def xo:SE->Ctl :=
 (sIf (xF (tOf (zo 3 zD (zb (zc 0) (zb (zc 1) (zb (zc 2) zq)))))) sNo yk)
def wM:List D->Option D:=fnD 3 xo
theorem zfS {x a b:Int}(h1:a<=x)(h2:x<=b):wM [.int x,.int a,.int b]=some .non:=by
 refine WE (ρ:=[.v (.int x),.v (.int a),.v (.int b)]) rfl ?_
 unfold xo
 refine W3 (c:=false) ?_ (λz=>by cases z) (λ_=>Zh rfl rfl)
 show(((if noS (.int x)=true then some (D.bl (yt (.int x) a b))else none).bind asB).map λc=>!c)=_
 rw[t5 (show noS (.int x)=true from rfl)]
 show some (!(decide (a<=x)&&decide (x<=b)))=_
 rw[j8 h1,j8 h2]
 rfl
theorem WF (T:Txt K mg base ad):y6 P w K mg base CX0 3 ad.f_must_be_within ad.e_must_be_within ["thing","least","most"] (@spD ⟨K⟩ 3 wM):=by
 letI:KK:=⟨K⟩
 have G_is_whole_within:=xQ (P:=P) (w:=w) (base:=base) T
 refine yC (N:=["thing","least","most"]) (ps:=["thing","least","most"]) T.d_must_be_within.fn WA (g:=xo) λcdv A outer s H E hr=>?_
 unfold xo
 exact(zj (wx (Yq (Yu (zi G_is_whole_within hr rfl T.d_is_whole_within (za (edv 0) (za (edv 1) (za (edv 2) zd)))))) (zj XH) zU))
def Yd:SE->Ctl :=
 (Wd false 3 (zm ixD (zc 5) (eUn V1 (eC (.int 1)))) (zm XC (zo 2 VE (zb (eIf (tOf (zm V5 (zc 4) (eC (.int 0)))) (zc 2) (eC (.int 1))) (zb (zm XC (eFn We (zb (zc 5) zq)) (eC (.int 1))) zq))) (eC (.int 1))))
def vW:SE->Ctl :=
 (zI (Zc 3 (zf5 zdP (wd (yq (zb (eC (.int 0)) zq))) (zm ixD (zc 0) (eC (.int 0)))))
  (zI (XD (yx (zb (zmQ (zo 2 p_ways_from (zb (zc 0) (zb (zc 1) zq))) (wd (yq (zb (Z1 (zb (zc 1) zq)) zq)))) zq)) (za5 2 (vI (yw 4) (vI (yw 5) zbF))) Yd)
  (sFz 3 (yO (eFn ym (zb (zc 3) zq))))))
def vT:List D->Option D:=fnD 6 vW
theorem zbz {m p t:Int}{ts:List Tie}{W V:List (List Nat)}(ok:zG m ts)(hp:0<=p/\p < m)(e:p_ways_from [zp m ts,.int p]=some (.lst (W.map wD)))(hV:V=if W.isEmpty=true then [[p.toNat]]else W)(hE:∀ w∈V,zmM m w):vT [zp m ts,.int p,.int t]=some (.tup ((zK t m V V.length).map .int)):=by
 have hm1:=ok.lo
 have hm8:=ok.hi
 have em:ixD (zp m ts) (.int 0)=some (.int m):=rfl
 refine WE (ρ:=[.v (zp m ts),.v (.int p),.v (.int t),.no,.no,.no]) rfl ?_
 unfold vW
 refine zt (ρ':=[.v (zp m ts),.v (.int p),.v (.int t),.o ((zK t m V 0).map .int),.no,.no]) ?_ ?_
 .have e:=Wn (d:=.int 0) (n:=m) (by omega) (by omega)
  have e0:(zK t m V 0).map D.int=List.replicate m.toNat (.int 0):=by
   show(List.replicate m.toNat (0:Int)).map D.int=_
   rw[u1G]
  rw[e0]
  simp[Zc,zf5,wd,yq,zb,zq,eC,xk,zc,visF,Sl.f,zm,em,e]
 have eit:yx (zb (zmQ (zo 2 p_ways_from (zb (zc 0) (zb (zc 1) zq))) (wd (yq (zb (Z1 (zb (zc 1) zq)) zq)))) zq) (visG [.v (zp m ts),.v (.int p),.v (.int t),.o ((zK t m V 0).map .int),.no,.no])=some (Zj 0 (V.map wD)):=by
  unfold yx
  rw[zy (d:=.lst (V.map wD)) (ds:=[]) ?_ yj]
  .rfl
  .unfold zmQ
   rw[yr (ds:=[zp m ts,.int p]) rfl e,d9]
   show(if (W.map wD).isEmpty=true then _ else _)=_
   rw[hV,List.isEmpty_map]
   cases c:W.isEmpty with
   | true =>
    rw[t5 rfl,t5 rfl]
    have e2:D.tup [.int p]=wD [p.toNat]:=by
     show _=D.tup [zV p.toNat]
     rw[YF,show((p.toNat:Nat):Int)=p by omega]
    show some (D.lst [D.tup [.int p]])=_
    rw[e2]
    rfl
   | false =>
    rw[t6 u7,t6 u7]
 refine yJ (Wt (ds:=Zj 0 (V.map wD)) (λi ρ=>∃ o4 o5,ρ=[.v (zp m ts),.v (.int p),.v (.int t),.o ((zK t m V i).map .int),o4,o5]) eit ⟨_,_,rfl⟩ ?_ ?_)
 .rintro i d ρ hd ⟨o4,o5,rfl⟩
  rw[vE]at hd
  obtain⟨dd,hdd,rfl⟩:=u8.mp hd
  rw[j5]at hdd
  obtain⟨w,hw,rfl⟩:=u8.mp hdd
  rw[m9]
  have hwE:=hE w (r8 hw)
  obtain⟨el,hlm⟩:=hwE.last
  obtain⟨u,z,ew,_,hul⟩:=hwE
  have hwl:w.length - 1<=8:=by rw[ew,j9];show u.length+1 - 1<=8;omega
  have hw1:1<=w.length:=by rw[ew,j9];show 1<=u.length+1;omega
  refine⟨[.v (zp m ts),.v (.int p),.v (.int t),.o ((zK t m V i).map .int),.v (.int (i:Int)),.v (wD w)],rfl,?_⟩
  unfold Yd
  have edb:=zen (n:=if i=0 then t else 1) (k:=(w.length:Int) - 1) (by omega) (by omega)
  rw[show((w.length:Int) - 1).toNat=w.length - 1 by omega]at edb
  refine zby ((zK t m V i).map .int) (.int (zda t i w)) (lastN w:Int) ?_ (zr (x:=wD w) (y:=.int (-1)) rfl rfl el) rfl (by omega) (Xl hlm (xW (by omega) i)) ⟨.v (.int (i:Int)),.v (wD w),?_⟩
  .unfold vEv
   rw[t6 u7]
   refine zr (x:=.int ((if i=0 then t else 1)*2 ^ (w.length - 1))) (y:=.int 1) (yr (ds:=[.int (if i=0 then t else 1),.int ((w.length:Int) - 1)]) (zy (zmB (c:=decide ((i:Int)=0)) (Xb (zr (x:=.int (i:Int)) (y:=.int 0) rfl rfl zX)) ?_) (zy (zr (x:=.int (w.length:Int)) (y:=.int 1) (Zv (ds:=[wD w]) rfl ?_) rfl rfl) yj)) edb) rfl rfl
   .by_cases c:i=0
    .rw[j8 (by omega),t5 rfl,t5 c]
     rfl
    .rw[d7 (by omega),t6 u7,t6 c]
     rfl
   .show some (D.int ((w.map zV).length:Int))=_
    rw[u6]
  .rw[wm hw,u03]
   rfl
 .rintro ρ ⟨o4,o5,rfl⟩
  rw[xz,u6]
  exact zdB (ρ':=[.v (zp m ts),.v (.int p),.v (.int t),.v (.lst ((zK t m V V.length).map .int)),o4,o5]) rfl (ZW rfl rfl)
theorem za3 (T:Txt K mg base ad):y6 P w K mg base CX0 8 ad.f_worst_from ad.e_worst_from ["web","root","times"] (@spD ⟨K⟩ 3 vT):=by
 letI:KK:=⟨K⟩
 have G_doubled:=zeM (P:=P) (w:=w) (base:=base) T
 have G_ways_from:=zcx (P:=P) (w:=w) (base:=base) T
 refine yC (N:=["web","root","times","stones","at","way"]) (ps:=["web","root","times"]) T.d_worst_from.fn wY (g:=vW) λcdv A outer s H E hr=>?_
 unfold vW Yd
 exact(ze (vg (i:=3) wY.nd rfl (Or.inl rfl) (zaA (w8 (xV (za (zg zh) zd))) (zA (edv 0) (zg zh) (λ_ _=>rfl))))
  (ze (Yx b8 rfl (Wq rfl T.z_enumerate xB (za (zlU (zi G_ways_from hr rfl T.d_ways_from (za (edv 0) (za (edv 1) zd))) (XE (w8 (xV (za (Y9 (za (edv 1) zd)) zd))))) zd)) (zej rfl (vL (zS (zz (i:=4) wY.nd rfl (Or.inl rfl))) (vL (zS (zz (i:=5) wY.nd rfl (Or.inl rfl))) zaH))) (zj (XF (m:=false) (Yr (zi G_doubled hr rfl T.d_doubled (za (zjZ (yb (Zp hr) vf (zM _) (edv 4) (zg zh)) (edv 2) (zg zh)) (za (Yr (zH zT vx rfl T.z_len Zy (za (edv 5) zd)) (zg zh)) zd))) (zg zh)) (pv 3) (zA (edv 5) (zaD (zg zh)) (λ_ _=>rfl)))))
  (vO 3 (zj (zB (yI zY xK rfl T.z_tuple yM (za (edv 3) zd)))))))
def vJ:SE->Ctl :=
 (zI (XL (zo 1 zN (zb (zc 0) zq)))
  (zI (XL (zo 2 yu (zb (zc 0) (zb (zc 1) zq))))
  (zI (XL (zo 3 wM (zb (zc 2) (zb (eC (.int 1)) (zb (eC (.int 2)) zq)))))
  (zI (XL (zo 1 wk (zb (zc 0) zq)))
  (yO (zo 3 vT (zb (zc 0) (zb (zc 1) (zb (zc 2) zq)))))))))
def wn:List D->Option D:=fnD 3 vJ
theorem zbi {m p t:Int}{ts:List Tie}{S:List Int}(ok:zG m ts)(hj:vR m ts)(htl:(ts.length:Int)=m - 1)(hp:0<=p/\p < m)(h1:1<=t)(h2:t<=2)(e:vT [zp m ts,.int p,.int t]=some (.tup (S.map .int))):wn [zp m ts,.int p,.int t]=some (.tup (S.map .int)):=by
 refine WE (ρ:=[.v (zp m ts),.v (.int p),.v (.int t)]) rfl ?_
 unfold vJ
 refine zt (wC (d:=.non) (zkZ ok)) ?_
 refine zt (wC (d:=.non) (zaC (ts:=ts) hp)) ?_
 refine zt (wC (d:=.non) (zfS h1 h2)) ?_
 refine zt (wC (d:=.non) (ZF ok hj htl)) ?_
 exact ZW (Yg (yr (ds:=[_,_,_]) rfl e)) rfl
theorem XJ (T:Txt K mg base ad):y6 P w K mg base CX0 12 ad.f_tree_worst ad.e_tree_worst ["web","place","times"] (@spD ⟨K⟩ 3 wn):=by
 letI:KK:=⟨K⟩
 have G_must_be_within:=WF (P:=P) (w:=w) (base:=base) T
 have G_must_be_web:=Yf (P:=P) (w:=w) (base:=base) T
 have G_must_be_place:=Y4 (P:=P) (w:=w) (base:=base) T
 have G_must_be_tree:=ZD (P:=P) (w:=w) (base:=base) T
 have G_worst_from:=za3 (P:=P) (w:=w) (base:=base) T
 refine yC (N:=["web","place","times"]) (ps:=["web","place","times"]) T.d_tree_worst.fn za9 (g:=vJ) λcdv A outer s H E hr=>?_
 unfold vJ
 exact(ze (wH (zi G_must_be_web hr rfl T.d_must_be_web (za (edv 0) zd)))
  (ze (wH (zi G_must_be_place hr rfl T.d_must_be_place (za (edv 0) (za (edv 1) zd))))
  (ze (wH (zi G_must_be_within hr rfl T.d_must_be_within (za (edv 2) (za (zg zh) (za (zg zh) zd)))))
  (ze (wH (zi G_must_be_tree hr rfl T.d_must_be_tree (za (edv 0) zd)))
  (zj (zB (zi G_worst_from hr rfl T.d_worst_from (za (edv 0) (za (edv 1) (za (edv 2) zd))))))))))
def YG:SE->Ctl :=
 (yO (zm vv (eFn ziG (zb (zo 3 wn (zb (zc 0) (zb (zc 1) (zb (zc 2) zq)))) zq)) (eC (.int 1))))
def Xo:List D->Option D:=fnD 3 YG
theorem zbT {m p t:Int}{ts:List Tie}{S:List Int}(e:wn [zp m ts,.int p,.int t]=some (.tup (S.map .int))):Xo [zp m ts,.int p,.int t]=some (.int (S.sum+1)):=by
 refine WE (ρ:=[.v (zp m ts),.v (.int p),.v (.int t)]) rfl ?_
 unfold YG
 have es:ziG [.tup (S.map .int)]=some (.int S.sum):=by
  show(zai (S.map .int)).bind _=_
  rw[ZN]
  rfl
 exact ZW (Yg (zr (x:=.int S.sum) (y:=.int 1) (Zv (ds:=[.tup (S.map .int)]) (zy (yr (ds:=[_,_,_]) rfl e) yj) es) rfl rfl)) rfl
theorem zb2 (T:Txt K mg base ad):y6 P w K mg base CX0 13 ad.f_tree_need ad.e_tree_need ["web","place","times"] (@spD ⟨K⟩ 3 Xo):=by
 letI:KK:=⟨K⟩
 have G_tree_worst:=XJ (P:=P) (w:=w) (base:=base) T
 refine yC (N:=["web","place","times"]) (ps:=["web","place","times"]) T.d_tree_need.fn zcL (g:=YG) λcdv A outer s H E hr=>?_
 unfold YG
 exact(zj (zB (yp (zH (ZE rfl) VT rfl T.z_sum zbQ (za (zi G_tree_worst hr rfl T.d_tree_worst (za (edv 0) (za (edv 1) (za (edv 2) zd)))) zd)) (zg zh))))
theorem zdh (t:Tie)(ts:List Tie):zgV (zv t) (.tup (ts.map zv))=some (.bl (!decide (t∈ts))):=by
 have e:=zdC t ts
 show(zhA (zv t) (ts.map zv)).map (λb=>D.bl (!b))=_
 have e2:(zhA (zv t) (ts.map zv)).map D.bl=some (.bl (decide (t∈ts))):=e
 obtain⟨b,h1,h2⟩:=u8.mp e2
 injection h2 with h2
 rw[h1,<- h2]
 rfl
theorem znG {m:Int}{ts:List Tie}{s:Tie}(ok:zG m ts)(h:adj ts s.1 s.2):(zh9 [s.1,s.2],maxL [s.1,s.2])∈ts:=by
 have e1:zh9 [s.1,s.2]=min s.1 s.2:=rfl
 have e2:maxL [s.1,s.2]=max s.1 s.2:=rfl
 rw[e1,e2]
 rcases h with h | h
 .have:=ok.rng _ h
  dsimp only at this
  rw[show min s.1 s.2=s.1 by omega,show max s.1 s.2=s.2 by omega]
  exact h
 .have:=ok.rng _ h
  dsimp only at this
  rw[show min s.1 s.2=s.2 by omega,show max s.1 s.2=s.1 by omega]
  exact h
def vp:SE->Ctl :=
 (zI (sIf (Wc (xF (tOf (eUn (vH .tuple) (zc 4)))) (Wc (tOf (zm neD (eFn We (zb (zc 4) zq)) (eC (.int 2)))) (tOf (zm zgV (Z1 (zb (eFn zmw (zb (zc 4) zq)) (zb (eFn zk9 (zb (zc 4) zq)) zq))) (zm ixD (zc 0) (eC (.int 1))))))) (yO (eC .non)) yk)
  (zI (sIf (tOf (zm ltD (zm ixD (zc 3) (zm ixD (zc 4) (eC (.int 0)))) (eC (.int 2)))) (yO (eC .non)) yk)
  (zI (Wd true 3 (zm ixD (zc 4) (eC (.int 0))) (zm XC (zm ixD (zc 3) (zm ixD (zc 4) (eC (.int 0)))) (eC (.int 2))))
  (Wd true 3 (zm ixD (zc 4) (eC (.int 1))) (zm vv (zm ixD (zc 3) (zm ixD (zc 4) (eC (.int 1)))) (eC (.int 1)))))))
def vb:SE->Ctl :=
 (zI (Zc 3 (fFn Xa (zb (zc 1) zq)))
  (zI (sIf (xF (tOf (eUn (vH .list) (zc 2)))) (yO (eC .non)) yk)
  (zI (XD (iOf (zc 2)) (yw 4) vp)
  (sFz 3 (yO (zc 3))))))
def YD:List D->Option D:=fnD 5 vb
theorem zgt {m:Int}{ts S:List Tie}{hs:List Int}(ok:zG m ts)(hl:(hs.length:Int)=m)(hP:Y6 ts hs S):YD [zp m ts,.tup (hs.map .int),.lst (S.map zv)]=some (.lst ((S.foldl mv hs).map .int)):=by
 refine WE (ρ:=[.v (zp m ts),.v (.tup (hs.map .int)),.v (.lst (S.map zv)),.no,.no]) rfl ?_
 unfold vb
 refine zt (ρ':=[.v (zp m ts),.v (.tup (hs.map .int)),.v (.lst (S.map zv)),.o (hs.map .int),.no]) rfl ?_
 refine yJ (W3 (c:=false) rfl (λz=>by cases z) λ_=>Zh rfl ?_)
 refine yJ (Wt (ds:=S.map zv) (λi ρ=>∃ (h:List Int) (o4:Sl),ρ=[.v (zp m ts),.v (.tup (hs.map .int)),.v (.lst (S.map zv)),.o (h.map .int),o4]/\(h.length:Int)=m/\Y6 ts h (S.drop i)/\(S.drop i).foldl mv h=S.foldl mv hs) rfl ⟨hs,_,rfl,hl,hP,rfl⟩ ?_ ?_)
 .rintro i d ρ hd ⟨h,o4,rfl,hhl,hPi,hF⟩
  rw[j5]at hd
  obtain⟨s,hs',rfl⟩:=u8.mp hd
  obtain⟨hi,es⟩:=t8.mp hs'
  have ed:S.drop i=s::S.drop (i+1):=by rw[u07 hi,es]
  rw[ed]at hPi hF
  obtain⟨ha,h2,hP2⟩:=hPi
  obtain⟨r1,r2⟩:=ha.rng ok
  have hne:s.1≠s.2:=by
   rcases ha with h | h <;> (have:=ok.rng _ h;dsimp only at this;omega)
  have e1:L2.atI (h.map D.int) s.1=some (.int (vAt h s.1)):=Z4 (ns:=h) r1 hhl
  obtain⟨g,hg⟩:∃ g,h.set s.1.toNat (vAt h s.1 - 2)=g:=⟨_,rfl⟩
  have hgl:(g.length:Int)=m:=by rw[<-hg,i9];exact hhl
  have e2:L2.atI (g.map D.int) s.2=some (.int (vAt g s.2)):=Z4 (ns:=g) r2 hgl
  have em:mv h s=g.set s.2.toNat (vAt g s.2+1):=by unfold mv;rw[hg]
  refine⟨[.v (zp m ts),.v (.tup (hs.map .int)),.v (.lst (S.map zv)),.o (h.map .int),.v (zv s)],rfl,?_⟩
  unfold vp
  refine yJ (W3 (c:=false) ?_ (λz=>by cases z) λ_=>Zh rfl ?_)
  .refine zcc rfl (zcc rfl (Xb (zr (x:=zv (zh9 [s.1,s.2],maxL [s.1,s.2])) (y:=.tup (ts.map zv)) (VY (zy (Zv (ds:=[zv s]) rfl rfl) (zy (Zv (ds:=[zv s]) rfl rfl) yj)) (by show 2<=1000;decide)) rfl ?_)))
   rw[zdh,j8 (znG ok ha)]
   rfl
  refine yJ (W3 (c:=false) ?_ (λz=>by cases z) λ_=>Zh rfl ?_)
  .refine Xb (zr (x:=.int (vAt h s.1)) (y:=.int 2) (zr (x:=.lst (h.map .int)) (y:=.int s.1) rfl rfl e1) rfl ?_)
   show some (D.bl (decide (vAt h s.1 < 2)))=_
   rw[d7 (by omega)]
  refine yJ (zby (h.map .int) (.int (vAt h s.1 - 2)) s.1 ?_ rfl rfl r1.1 (Xl r1.2 hhl) ?_)
  .unfold vEv
   rw[t5 rfl,zr (x:=.int (vAt h s.1)) (y:=.int 2) (z:=.int (vAt h s.1 - 2)) (zr (x:=.lst (h.map .int)) (y:=.int s.1) rfl rfl e1) rfl rfl]
   rfl
  have es2:(h.map D.int).set s.1.toNat (.int (vAt h s.1 - 2))=g.map .int:=by rw[<-hg,u03]
  show((Wd true 3 (zm ixD (zc 4) (eC (.int 1))) (zm vv (zm ixD (zc 3) (zm ixD (zc 4) (eC (.int 1)))) (eC (.int 1)))) [.v (zp m ts),.v (.tup (hs.map .int)),.v (.lst (S.map zv)),.o ((h.map D.int).set s.1.toNat (.int (vAt h s.1 - 2))),.v (zv s)]).w _ _ _ _
  rw[es2]
  refine zby (g.map .int) (.int (vAt g s.2+1)) s.2 ?_ rfl rfl r2.1 (Xl r2.2 hgl) ⟨mv h s,.v (zv s),?_,by rw[zca];exact hhl,hP2,hF⟩
  .unfold vEv
   rw[t5 rfl,zr (x:=.int (vAt g s.2)) (y:=.int 1) (z:=.int (vAt g s.2+1)) (zr (x:=.lst (g.map .int)) (y:=.int s.2) rfl rfl e2) rfl rfl]
   rfl
  .rw[em,u03]
   rfl
 .rintro ρ ⟨h,o4,rfl,hhl,_,hF⟩
  rw[u6,u2b]at hF
  have hF:h=S.foldl mv hs:=hF
  rw[hF]
  exact zdB (ρ':=[.v (zp m ts),.v (.tup (hs.map .int)),.v (.lst (S.map zv)),.v (.lst ((S.foldl mv hs).map .int)),o4]) rfl (ZW rfl rfl)
theorem V8 (T:Txt K mg base ad):y6 P w K mg base CX0 1 ad.f__law_played ad.e__law_played ["web","heap","steps"] (@spD ⟨K⟩ 3 YD):=by
 letI:KK:=⟨K⟩
 refine yC (N:=["web","heap","steps","here","step"]) (ps:=["web","heap","steps"]) T.d__law_played.fn v9 (g:=vb) λcdv A outer s H E hr=>?_
 unfold vb vp
 exact(ze (vg (i:=3) v9.nd rfl (Or.inl rfl) (zkr rfl T.z_list (za (edv 1) zd)))
  (ze (wx (Yq (Yu (ww .list rfl T.z_isinstance (edv 2) (ZK (v:=.ty "list") rfl T.z_list zgU rfl)))) (zj (zB (WQ WN))) zU)
  (ze (Yx b8 rfl (Y5 (edv 2)) (zS (zz (i:=4) v9.nd rfl (Or.inl rfl))) (ze (wx (zio (zaj (Yq (Yu (ww .tuple rfl T.z_isinstance (edv 4) (ZK (v:=.ty "tuple") rfl T.z_tuple yM rfl)))) (zaj (yb zcC WM (zM _) (zH zT vx rfl T.z_len Zy (za (edv 4) zd)) (zg zh)) (WP (yb (zg4 hr) zgE (by with_unfolding_all rfl) (Y9 (za (zH (zfh rfl) zil rfl T.z_min zd2 (za (edv 4) zd)) (za (zH (zha rfl) ziK rfl T.z_max zcK (za (edv 4) zd)) zd))) (zA (edv 0) (zg zh) (λ_ _=>rfl))))))) (zj (zB (WQ WN))) zU)
  (ze (wx (yb ziR yi (zM _) (zA (edv 3) (zA (edv 4) (zg zh) (λ_ _=>rfl)) (λ_ _=>rfl)) (zg zh)) (zj (zB (WQ WN))) zU)
  (ze (XF (m:=true) (Yr (zA (edv 3) (zA (edv 4) (zg zh) (λ_ _=>rfl)) (λ_ _=>rfl)) (zg zh)) (pv 3) (zA (edv 4) (zg zh) (λ_ _=>rfl)))
  (zj (XF (m:=true) (yp (zA (edv 3) (zA (edv 4) (zg zh) (λ_ _=>rfl)) (λ_ _=>rfl)) (zg zh)) (pv 3) (zA (edv 4) (zg zh) (λ_ _=>rfl))))))))
  (vO 3 (zj (zB (edv 3)))))))
def mk (m:Nat)(f:Nat->Int):List Int:=(List.range m).map f
theorem zdX (m:Nat)(f:Nat->Int):(mk m f).length=m:=by unfold mk;rw[u6,g8]
theorem zkH {m:Nat}{f:Nat->Int}(h:∀ j,0<=f j):∀ x∈mk m f,0<=x:=λx hx=>by
 obtain⟨j,_,rfl⟩:=u0g.mp hx
 exact h j
theorem zaO (m:Nat)(f:Nat->Int):(mk (m+1) f).sum=(mk m f).sum+f m:=by
 unfold mk
 rw[u1i,e9,u1j]
 show _+(f m+0)=_
 omega
theorem zlW (f g:Nat->Int)(m:Nat):(mk m λj=>f j+g j).sum=(mk m f).sum+(mk m g).sum:=by
 induction m with
 | zero=>rfl
 | succ m ih=>rw[zaO,zaO,zaO,ih];omega
def at1 (a:Int)(j:Nat):Int:=if (decide ((j:Int)=a))=true then 1 else 0
theorem zi4 {a x:Int}(h0:0<=a)(m:Nat):(mk m λj=>x*at1 a j).sum=if a < (m:Int)then x else 0:=by
 induction m with
 | zero=>rw[t6 (by omega)];rfl
 | succ m ih =>
  rw[zaO,ih]
  unfold at1
  by_cases c:(m:Int)=a
  .rw[j8 c,t5 rfl,t6 (by omega),t5 (by omega)];omega
  .rw[d7 c,show(if (false:Bool)=true then (1:Int)else 0)=0 from rfl,Int.mul_zero,Int.add_zero]
   by_cases d:a < (m:Int)
   .rw[t5 d,t5 (by omega)]
   .rw[t6 d,t6 (by omega)]
theorem zi7 (a:Int)(j:Nat):0<=at1 a j:=by
 unfold at1
 by_cases c:decide ((j:Int)=a)=true
 .rw[t5 c];decide
 .rw[t6 c];decide
theorem zk6 (ws:List Int):(mk ws.length λj=>vAt ws (j:Int)).sum=ws.sum:=(VQ rfl).symm
theorem zfx {m:Nat}{f:Nat->Int}{o:Int}:vAt (mk m f) o=if o.toNat < m then f o.toNat else 0:=by
 unfold vAt mk
 rw[j4,j5]
 by_cases c:o.toNat < m
 .rw[t5 c,u0E c];rfl
 .rw[t6 c,u0F (by rw[g8];omega)];rfl
theorem zjz (ws:List Int):Zj 0 (ws.map .int)=(List.range ws.length).map λj:Nat=>D.tup [.int (j:Int),.int (vAt ws (j:Int))]:=by
 refine u2S λi=>?_
 rw[vE,j5,j5]
 by_cases c:i < ws.length
 .rw[u0E c,u5 c]
  show some (D.tup [.int ((0+i:Nat):Int),.int ws[i]])=some (D.tup [.int (i:Int),.int (ws.getD ((i:Int).toNat) 0)])
  rw[m9,u1m,j4,u5 c]
  rfl
 .rw[u0F (by omega),u0F (by rw[g8];omega)]
  rfl
theorem zhn {f:Ev->Option D}{ρ:Ev}{ws:List Int}{i:Ev->Option (List D)}{g:Nat->Int}(hi:i ρ=some (Zj 0 (ws.map .int)))(h8:ws.length<=8)(hf:∀ j:Nat,f (some (.int (j:Int))::some (.int (vAt ws (j:Int)))::ρ)=some (.int (g j))):fLC i b2 xw f ρ=some ((mk ws.length g).map .int):=by
 unfold fLC
 rw[hi,d9,zjz,t5 (xk (by rw[u6,g8];omega))]
 unfold mk
 rw[m7]
 exact Zd (λj:Nat=>D.tup [.int (j:Int),.int (vAt ws (j:Int))]) _ (List.range ws.length) λj _=>⟨[some (.int (j:Int)),some (.int (vAt ws (j:Int)))],rfl,rfl,hf j⟩
theorem zla {i:Nat}{fk fe:Ev->Option D}{ρ:SE}{xs:List Int}{k y:Int}(h1:fk (visG ρ)=some (.int k))(h2:fe (visG ρ)=some (.int y))(h3:ρ[i]?=some (.o (xs.map .int)))(h4:0<=k)(h5:k < (xs.length:Int)) :
 zlA i fk fe ρ=.nx (ρ.set i (.o ((xs.set k.toNat (vAt xs k+y)).map .int))):=by
 unfold zlA
 rw[h1,h2]
 show(match zkl ρ i (.int k) (.int y)with | some ρ'=>Ctl.nx ρ' | none=>Ctl.no)=_
 have e:(xs.map D.int)[k.toNat]?=some (.int (vAt xs k)):=by
  unfold vAt
  rw[j5,u5 (by omega),j4,u5 (by omega)]
  rfl
 have e2:zkl ρ i (.int k) (.int y)=some (ρ.set i (.o ((xs.set k.toNat (vAt xs k+y)).map .int))):=by
  unfold zkl
  rw[h3]
  dsimp only
  rw[t5 h4,e,u03]
 rw[e2]
theorem zi0 {xs:List Int}{k:Nat}{y:Int}(h:∀ x∈xs,0<=x)(hy:0<=y):∀ x∈xs.set k y,0<=x:=λx hx=>by
 rcases u2Q hx with hx | rfl
 .exact h x hx
 .exact hy
theorem zaG {hs:List Int}(h:∀ x∈hs,0<=x)(o:Int):0<=vAt hs o:=by
 unfold vAt
 rw[j4]
 cases e:hs[o.toNat]? with
 | none=>exact u0z _
 | some x=>exact h x (r8 e)
theorem zeA:∀ n:Nat,(List.replicate n (0:Int)).sum=0:=λn=>by
 induction n with
 | zero=>rfl
 | succ n ih=>rw[i5,p9,ih];rfl
structure zdl (m N:Int) (hs:List Int):Prop where
 len:(hs.length:Int)=m
 nn:∀ x∈hs,0<=x
 lo:N<=hs.sum
 hi:hs.sum<=N+1
abbrev hpD (hs:List Int):D:=.tup (hs.map .int)
theorem zkh {m:Int}{ρ:Ev}{f:Ev->Option D}{i:Ev->Option (List D)}{g:Nat->Int}(hm:m<=8)(hi:i ρ=some (W0 0 m.toNat))(hf:∀ j:Nat,f (some (.int (j:Int))::ρ)=some (.int (g j))):fLC i b1 xw f ρ=some ((mk m.toNat g).map .int):=by
 unfold fLC
 rw[hi,d9,t5 (xk (by rw[Xt];omega))]
 unfold mk
 rw[m7]
 refine Zd zV _ (List.range m.toNat) λj _=>⟨[some (zV j)],rfl,rfl,?_⟩
 rw[YF]
 exact hf j
theorem zfi (j:Nat)(a:Int):zkP [.bl (decide ((j:Int)=a))]=some (.int (at1 a j)):=rfl
def Yk:SE->Ctl :=
 (zI (y9 false 9 (zm vG (zo 2 zL (zb (zc 3) (zb (zm vv (zm vv (eC (.int 40)) (zm Yt (eC (.int 13)) (zc 5))) (zc 8)) zq))) (zm ixD (zc 0) (eC (.int 0)))))
  (zI (y9 false 10 (eFn zgN (zb (zc 7) (zb (zm vG (zo 2 zL (zb (zc 3) (zb (zm vv (zm vv (eC (.int 90)) (zm Yt (eC (.int 13)) (zc 5))) (zc 8)) zq))) (zm vv (zc 1) (eC (.int 1)))) zq))))
  (zI (Wd true 6 (zc 9) (zm vv (zm ixD (zc 6) (zc 9)) (zc 10)))
  (y9 false 7 (zm XC (zc 7) (zc 10))))))
def Yh:SE->Ctl :=
 (zI (Zc 6 (zf5 zdP (wd (yq (zb (eC (.int 0)) zq))) (zm ixD (zc 0) (eC (.int 0)))))
  (zI (y9 false 7 (zm vv (zc 1) (zm vG (zo 2 zL (zb (zc 3) (zb (zm vv (eC (.int 30)) (zc 5)) zq))) (eC (.int 2)))))
  (zI (xT Yi (zb (eC (.int 12)) zq) (yw 8) Yk)
  (zI (zlA 6 (zm vG (zo 2 zL (zb (zc 3) (zb (zm vv (eC (.int 33)) (zc 5)) zq))) (zm ixD (zc 0) (eC (.int 0)))) (zc 7))
  (sFz 6 (WW false 4 (eFn ym (zb (zc 6) zq))))))))
def wl:SE->Ctl :=
 (zI (Zc 4 (yq zq))
  (zI (xT Yi (zb (eC (.int 3)) zq) (yw 5) Yh)
  (zI (y9 false 11 (zm vG (zo 2 zL (zb (zc 3) (zb (eC (.int 36)) zq))) (zm ixD (zc 0) (eC (.int 0)))))
  (zI (WW false 4 (eFn ym (zb (wd (fLC (zay Yi (zb (zm ixD (zc 0) (eC (.int 0))) zq)) b1 xw (zm Yt (zc 2) (eFn zkP (zb (zm V5 (zc 0) (zc 12)) zq))))) zq)))
  (zI (WW false 4 (eFn ym (zb (wd (fLC (yx (zb (zc 2) zq)) b2 xw (zm vv (zc 1) (eFn zkP (zb (zm V5 (zc 0) (zc 13)) zq))))) zq)))
  (sFz 4 (yO (zc 4))))))))
def Zw:List D->Option D:=fnD 12 wl
theorem ziQ {m N z:Int}{ts:List Tie}{S:List Int}(ok:zG m ts)(h1:1<=N)(h2:N<=299)(hSl:(S.length:Int)=m)(hSn:∀ x∈S,0<=x)(hSs:S.sum=N - 1):∃ Hs:List (List Int),Zw [zp m ts,.int N,hpD S,.int z]=some (.lst (Hs.map hpD))/\∀ hs∈Hs,zdl m N hs:=by
 have hm1:=ok.lo
 have hm8:=ok.hi
 have hm0:0 < m:=zdS hm1
 have es:∀ k:Int,zL [.int z,.int k]=some (.int (WU z k)):=λk=>rfl
 have key:=zgW (m:=12) (g:=wl) (ds:=[zp m ts,.int N,hpD S,.int z]) (R:=λd=>∃ Hs:List (List Int),d=.lst (Hs.map hpD)/\∀ hs∈Hs,zdl m N hs) (ρ:=[.v (zp m ts),.v (.int N),.v (hpD S),.v (.int z),.no,.no,.no,.no,.no,.no,.no,.no]) rfl ?_
 .obtain⟨d,e,Hs,rfl,h⟩:=key
  exact⟨Hs,e,h⟩
 unfold wl
 refine zt (ρ':=[.v (zp m ts),.v (.int N),.v (hpD S),.v (.int z),.o (([]:List (List Int)).map hpD),.no,.no,.no,.no,.no,.no,.no]) rfl ?_
 refine yJ (X3 (lo:=0) (c:=3) (λi ρ=>∃ (Hs:List (List Int)) (o5 o6 o7 o8 o9 o10:Sl),ρ=[.v (zp m ts),.v (.int N),.v (hpD S),.v (.int z),.o (Hs.map hpD),o5,o6,o7,o8,o9,o10,.no]/\Hs.length=i/\∀ hs∈Hs,zdl m N hs) (Yp (j:=3) (by decide) (by decide)) ⟨[],_,_,_,_,_,_,rfl,rfl,λ_ h=>by cases h⟩ ?_ ?_)
 .rintro i ρ hi ⟨Hs,o5,o6,o7,o8,o9,o10,rfl,hHl,hH⟩
  obtain⟨k,hk⟩:∃ x:Int,(0:Int)+(i:Int)=x:=⟨_,rfl⟩
  rw[hk]
  refine⟨[.v (zp m ts),.v (.int N),.v (hpD S),.v (.int z),.o (Hs.map hpD),.v (.int k),o6,o7,o8,o9,o10,.no],rfl,?_⟩
  unfold Yh
  refine zt (ρ':=[.v (zp m ts),.v (.int N),.v (hpD S),.v (.int z),.o (Hs.map hpD),.v (.int k),.o ((List.replicate m.toNat (0:Int)).map .int),o7,o8,o9,o10,.no]) (zfo (ds:=(List.replicate m.toNat (0:Int)).map .int) ?_) ?_
  .show zdP (.lst [.int 0]) (.int m)=_
   rw[Wn (by omega) (by omega),u1G]
  obtain⟨u,hu⟩:∃ u:Int,WU z (30+k) % 2=u:=⟨_,rfl⟩
  obtain⟨u0,u2⟩:=y8 (by decide) hu
  refine zt (ρ':=[.v (zp m ts),.v (.int N),.v (hpD S),.v (.int z),.o (Hs.map hpD),.v (.int k),.o ((List.replicate m.toNat (0:Int)).map .int),.v (.int (N+u)),o8,o9,o10,.no]) (zcu (zr (x:=.int N) (y:=.int u) rfl (zr (x:=.int (WU z (30+k))) (y:=.int 2) (yr (ds:=[.int z,.int (30+k)]) rfl (es _)) rfl (by rw[yQ (by decide),hu])) rfl)) ?_
  refine yJ (X3 (lo:=0) (c:=12) (λ_ ρ=>∃ (h:List Int) (l:Int) (o8 o9 o10:Sl),ρ=[.v (zp m ts),.v (.int N),.v (hpD S),.v (.int z),.o (Hs.map hpD),.v (.int k),.o (h.map .int),.v (.int l),o8,o9,o10,.no]/\(h.length:Int)=m/\(∀ x∈h,0<=x)/\0<=l/\h.sum+l=N+u) (Yp (j:=12) (by decide) (by decide)) ⟨List.replicate m.toNat 0,N+u,_,_,_,rfl,by rw[p5];omega,λx hx=>by rw[(List.mem_replicate.mp hx).2];exact u0z _,by omega,by rw[zeA];omega⟩ ?_ ?_)
  .rintro j ρ hj ⟨h,l,o8,o9,o10,rfl,hl,hnn,hl0,hsum⟩
   obtain⟨jj,hjj⟩:∃ x:Int,(0:Int)+(j:Int)=x:=⟨_,rfl⟩
   rw[hjj]
   refine⟨[.v (zp m ts),.v (.int N),.v (hpD S),.v (.int z),.o (Hs.map hpD),.v (.int k),.o (h.map .int),.v (.int l),.v (.int jj),o9,o10,.no],rfl,?_⟩
   unfold Yk
   have m13:Yt (.int 13) (.int k)=some (.int (13*k)):=zaI (by decide) (by decide)
   obtain⟨pl,hpl⟩:∃ x:Int,WU z (40+13*k+jj) % m=x:=⟨_,rfl⟩
   obtain⟨p0,p1⟩:=y8 hm0 hpl
   obtain⟨b,hb⟩:∃ x:Int,WU z (90+13*k+jj) % (N+1)=x:=⟨_,rfl⟩
   obtain⟨b0,b1⟩:=y8 (by omega) hb
   obtain⟨q,hq⟩:∃ x:Int,(if b < l then b else l)=x:=⟨_,rfl⟩
   have hq0:0<=q/\q<=l:=by rw[<-hq];split <;> omega
   have ex:L2.atI (h.map D.int) pl=some (.int (vAt h pl)):=Z4 (ns:=h) ⟨p0,p1⟩ hl
   refine zt (ρ':=[.v (zp m ts),.v (.int N),.v (hpD S),.v (.int z),.o (Hs.map hpD),.v (.int k),.o (h.map .int),.v (.int l),.v (.int jj),.v (.int pl),o10,.no]) (zcu (zr (x:=.int (WU z (40+13*k+jj))) (y:=.int m) (yr (ds:=[.int z,.int (40+13*k+jj)]) (zy rfl (zy (zr (x:=.int (40+13*k)) (y:=.int jj) (zr (x:=.int 40) (y:=.int (13*k)) rfl (zr (x:=.int 13) (y:=.int k) rfl rfl m13) rfl) rfl rfl) yj)) (es _)) rfl (by rw[yQ hm0,hpl]))) ?_
   refine zt (ρ':=[.v (zp m ts),.v (.int N),.v (hpD S),.v (.int z),.o (Hs.map hpD),.v (.int k),.o (h.map .int),.v (.int l),.v (.int jj),.v (.int pl),.v (.int q),.no]) (zcu (Zv (ds:=[.int l,.int b]) (zy rfl (zy (zr (x:=.int (WU z (90+13*k+jj))) (y:=.int (N+1)) (yr (ds:=[.int z,.int (90+13*k+jj)]) (zy rfl (zy (zr (x:=.int (90+13*k)) (y:=.int jj) (zr (x:=.int 90) (y:=.int (13*k)) rfl (zr (x:=.int 13) (y:=.int k) rfl rfl m13) rfl) rfl rfl) yj)) (es _)) rfl (by rw[yQ (by omega),hb])) yj)) ?_)) ?_
   .show some (D.int (if b < l then b else l))=_
    rw[hq]
   refine yJ (zby (h.map .int) (.int (vAt h pl+q)) pl ?_ rfl rfl p0 (Xl p1 hl) ?_)
   .unfold vEv
    rw[t5 rfl,zr (x:=.int (vAt h pl)) (y:=.int q) (z:=.int (vAt h pl+q)) (zr (x:=.lst (h.map .int)) (y:=.int pl) rfl rfl ex) rfl rfl]
    rfl
   have hv:=zaG hnn pl
   refine Zh (ρ':=[.v (zp m ts),.v (.int N),.v (hpD S),.v (.int z),.o (Hs.map hpD),.v (.int k),.o ((h.map .int).set pl.toNat (.int (vAt h pl+q))),.v (.int (l - q)),.v (.int jj),.v (.int pl),.v (.int q),.no]) rfl ⟨h.set pl.toNat (vAt h pl+q),l - q,_,_,_,by rw[u03],by rw[i9];exact hl,zi0 hnn (by omega),by omega,?_⟩
   rw[XI (by omega)]
   have:h.getD pl.toNat 0=vAt h pl:=rfl
   omega
  .rintro ρ ⟨h,l,o8,o9,o10,rfl,hl,hnn,hl0,hsum⟩
   obtain⟨pl,hpl⟩:∃ x:Int,WU z (33+k) % m=x:=⟨_,rfl⟩
   obtain⟨p0,p1⟩:=y8 hm0 hpl
   have hv:=zaG hnn pl
   refine zt (zla (xs:=h) (k:=pl) (y:=l) (zr (x:=.int (WU z (33+k))) (y:=.int m) (yr (ds:=[.int z,.int (33+k)]) rfl (es _)) rfl (by rw[yQ hm0,hpl])) rfl rfl p0 (by omega)) ?_
   obtain⟨g,hg⟩:∃ g,h.set pl.toNat (vAt h pl+l)=g:=⟨_,rfl⟩
   have hR:zdl m N g:=by
    have e:g.sum=N+u:=by
     rw[<-hg,XI (by omega)]
     have:h.getD pl.toNat 0=vAt h pl:=rfl
     omega
    exact⟨by rw[<-hg,i9];exact hl,by rw[<-hg];exact zi0 hnn (by omega),by omega,by omega⟩
   show((sFz 6 (WW false 4 (eFn ym (zb (zc 6) zq)))) [.v (zp m ts),.v (.int N),.v (hpD S),.v (.int z),.o (Hs.map hpD),.v (.int k),.o ((h.set pl.toNat (vAt h pl+l)).map .int),.v (.int l),o8,o9,o10,.no]).w _ _ _ _
   rw[hg]
   refine zdB (ρ':=[.v (zp m ts),.v (.int N),.v (hpD S),.v (.int z),.o (Hs.map hpD),.v (.int k),.v (.lst (g.map .int)),.v (.int l),o8,o9,o10,.no]) rfl ?_
   refine Zh (WK (m:=false) (i:=4) (d:=hpD g) (ds:=Hs.map hpD) rfl rfl (by rw[u6];omega)) ⟨Hs++[g],.v (.int k),.v (.lst (g.map .int)),.v (.int l),o8,o9,o10,?_,by rw[j9,hHl];rfl,λx hx=>?_⟩
   .rw[e9]
    rfl
   .rcases u0p.mp hx with hx | hx
    .exact hH x hx
    .rw[j6.mp hx];exact hR
 rintro ρ ⟨Hs,o5,o6,o7,o8,o9,o10,rfl,hHl,hH⟩
 obtain⟨a,ha⟩:∃ x:Int,WU z 36 % m=x:=⟨_,rfl⟩
 obtain⟨a0,a1⟩:=y8 hm0 ha
 refine zt (ρ':=[.v (zp m ts),.v (.int N),.v (hpD S),.v (.int z),.o (Hs.map hpD),o5,o6,o7,o8,o9,o10,.v (.int a)]) (zcu (zr (x:=.int (WU z 36)) (y:=.int m) (yr (ds:=[.int z,.int 36]) rfl (es _)) rfl (by rw[yQ hm0,ha]))) ?_
 obtain⟨g1,hg1⟩:∃ g,mk m.toNat (λj=>N*at1 a j)=g:=⟨_,rfl⟩
 obtain⟨g2,hg2⟩:∃ g,mk S.length (λj=>vAt S (j:Int)+at1 a j)=g:=⟨_,rfl⟩
 have R1:zdl m N g1:=by
  have e:g1.sum=N:=by rw[<-hg1,zi4 a0,t5 (by omega)]
  exact⟨by rw[<-hg1,zdX];omega,by rw[<-hg1];exact zkH λj=>Int.mul_nonneg (by omega) (zi7 a j),by omega,by omega⟩
 have R2:zdl m N g2:=by
  have e:g2.sum=N:=by
   have h3:=zi4 (x:=1) a0 S.length
   rw[t5 (by omega)]at h3
   simp only[u2W]at h3
   rw[<-hg2,zlW,zk6,hSs,h3]
   omega
  exact⟨by rw[<-hg2,zdX];exact hSl,by rw[<-hg2];exact zkH λj=>by have:=zaG hSn (j:Int);have:=zi7 a j;omega,by omega,by omega⟩
 refine zt (ρ':=[.v (zp m ts),.v (.int N),.v (hpD S),.v (.int z),.o ((Hs++[g1]).map hpD),o5,o6,o7,o8,o9,o10,.v (.int a)]) ?_ ?_
 .rw[WK (m:=false) (i:=4) (d:=hpD g1) (ds:=Hs.map hpD) (by
   unfold vEv
   rw[t6 u7]
   refine Zv (ds:=[.lst (g1.map .int)]) (zy (ZH ?_) yj) rfl
   rw[<-hg1]
   exact zkh hm8 (XS ok) λj=>zr (x:=.int N) (y:=.int (at1 a j)) rfl (Zv (ds:=[.bl (decide ((j:Int)=a))]) (zy (zr (x:=.int (j:Int)) (y:=.int a) rfl rfl zX) yj) (zfi j a)) (zaI (by omega) (by omega))) rfl (by rw[u6];omega),e9]
  rfl
 refine zt (ρ':=[.v (zp m ts),.v (.int N),.v (hpD S),.v (.int z),.o ((Hs++[g1]++[g2]).map hpD),o5,o6,o7,o8,o9,o10,.v (.int a)]) ?_ ?_
 .rw[WK (m:=false) (i:=4) (d:=hpD g2) (ds:=(Hs++[g1]).map hpD) (by
   unfold vEv
   rw[t6 u7]
   refine Zv (ds:=[.lst (g2.map .int)]) (zy (ZH ?_) yj) rfl
   rw[<-hg2]
   exact zhn rfl (by omega) λj=>zr (x:=.int (vAt S (j:Int))) (y:=.int (at1 a j)) rfl (Zv (ds:=[.bl (decide ((j:Int)=a))]) (zy (zr (x:=.int (j:Int)) (y:=.int a) rfl rfl zX) yj) (zfi j a)) rfl) rfl (by rw[u6,j9];show Hs.length+1<=1000;omega),e9 (l₁:=Hs++[g1])]
  rfl
 refine zdB (ρ':=[.v (zp m ts),.v (.int N),.v (hpD S),.v (.int z),.v (.lst ((Hs++[g1]++[g2]).map hpD)),o5,o6,o7,o8,o9,o10,.v (.int a)]) rfl (ZW rfl ⟨_,rfl,λx hx=>?_⟩)
 rcases u0p.mp hx with hx | hx
 .rcases u0p.mp hx with hx | hx
  .exact hH x hx
  .rw[j6.mp hx];exact R1
 .rw[j6.mp hx];exact R2
theorem zbv (T:Txt K mg base ad):y6 P w K mg base CX0 2 ad.f__law_heaps ad.e__law_heaps ["web","need_here","poorest","cell"] (@spD ⟨K⟩ 4 Zw):=by
 letI:KK:=⟨K⟩
 have G__law_stir:=Zz (P:=P) (w:=w) (base:=base) T
 refine yC (N:=["web","need_here","poorest","cell","found","k","heap","left","j","place","many","at"]) (ps:=["web","need_here","poorest","cell"]) T.d__law_heaps.fn zQ (g:=wl) λcdv A outer s H E hr=>?_
 unfold wl Yh Yk
 exact(ze (vg (i:=4) zQ.nd rfl (Or.inl rfl) (xV zd))
  (ze (vX b8 rfl rfl T.z_range (za (zg zh) zd) (zS (zz (i:=5) zQ.nd rfl (Or.inl rfl))) (ze (vg (i:=6) zQ.nd rfl (Or.inl rfl) (zaA (w8 (xV (za (zg zh) zd))) (zA (edv 0) (zg zh) (λ_ _=>rfl))))
  (ze (zJ (m:=false) (i:=7) zQ.nd rfl (Or.inl rfl) (yp (edv 1) (wy (zi G__law_stir hr rfl T.d__law_stir (za (edv 3) (za (yp (zg zh) (edv 5)) zd))) (zg zh))))
  (ze (vX b8 rfl rfl T.z_range (za (zg zh) zd) (zS (zz (i:=8) zQ.nd rfl (Or.inl rfl))) (ze (zJ (m:=false) (i:=9) zQ.nd rfl (Or.inl rfl) (wy (zi G__law_stir hr rfl T.d__law_stir (za (edv 3) (za (yp (yp (zg zh) (ZI (zg zh) (edv 5))) (edv 8)) zd))) (zA (edv 0) (zg zh) (λ_ _=>rfl))))
  (ze (zJ (m:=false) (i:=10) zQ.nd rfl (Or.inl rfl) (zH (Vz rfl) za2 rfl T.z_min zd2 (za (edv 7) (za (wy (zi G__law_stir hr rfl T.d__law_stir (za (edv 3) (za (yp (yp (zg zh) (ZI (zg zh) (edv 5))) (edv 8)) zd))) (yp (edv 1) (zg zh))) zd))))
  (ze (XF (m:=true) (yp (zA (edv 6) (edv 9) (λ_ _=>rfl)) (edv 10)) (pv 6) (edv 9))
  (zj (zJ (m:=false) (i:=7) zQ.nd rfl (Or.inl rfl) (Yr (edv 7) (edv 10))))))))
  (ze (zlX (pv 6) (wy (zi G__law_stir hr rfl T.d__law_stir (za (edv 3) (za (yp (zg zh) (edv 5)) zd))) (zA (edv 0) (zg zh) (λ_ _=>rfl))) (edv 7))
  (vO 6 (zj (WL (m:=false) (pv 4) (yI zY xK rfl T.z_tuple yM (za (edv 6) zd)) (λa b=>zab m6 u0c u0d wt a b)))))))))
  (ze (zJ (m:=false) (i:=11) zQ.nd rfl (Or.inr rfl) (wy (zi G__law_stir hr rfl T.d__law_stir (za (edv 3) (za (zg zh) zd))) (zA (edv 0) (zg zh) (λ_ _=>rfl))))
  (ze (WL (m:=false) (pv 4) (yI zY xK rfl T.z_tuple yM (za (w8 (zas (L:=["k"]) (M:=["web","need_here","poorest","cell","found","·k","heap","left","j","place","many","at"]) rfl (Xg (by rfl) (by rfl) (by rfl) (by with_unfolding_all rfl) (by rfl) (by rfl) (by kernel_rfl) (all_cons rfl (all_cons rfl xM))) (Vx rfl T.z_range (za (zA (edv 0) (zg zh) (λ_ _=>rfl)) zd)) gs1 rb1 (λ_ _ _ _=>(zz (i:=0) zm7 rfl (Or.inl rfl) (.inr rfl))) (λ_ _ _ _=>(ZI (edv 2) (yI Vj zbk rfl T.z_int zdG (za (XO (Zp hr) vf (zM _) (edv 0) (edv 12)) zd)))))) zd)) (λa b=>zab m6 u0c u0d wt a b))
  (ze (WL (m:=false) (pv 4) (yI zY xK rfl T.z_tuple yM (za (w8 (zas (L:=["k","stones"]) (M:=["web","need_here","poorest","cell","found","·k","heap","left","j","place","many","at"]) rfl (Xg (by rfl) (by rfl) (by rfl) (by with_unfolding_all rfl) (by rfl) (by rfl) (by kernel_rfl) (all_cons rfl xM)) (Wq rfl T.z_enumerate xB (za (edv 2) zd)) gs2 rb2 (λ_ _ _ _=>(zga rfl (X8 (zz (i:=0) zmo rfl (Or.inl rfl) (.inr rfl)) (X8 (zz (i:=1) zmo rfl (Or.inl rfl) (.inr rfl)) zc8)))) (λ_ _ _ _=>(yp (edv 1) (yI Vj zbk rfl T.z_int zdG (za (XO (Zp hr) vf (zM _) (edv 0) (edv 13)) zd)))))) zd)) (λa b=>zab m6 u0c u0d wt a b))
  (vO 4 (zj (zB (edv 4)))))))))
theorem zeJ {n:Nat}(h:n<=7):(2:Int) ^ n<=128:=by
 have h1:(2:Nat) ^ n<=2 ^ 7:=u2k (by decide) h
 have e:((2:Int) ^ n)=(((2:Nat) ^ n:Nat):Int):=by simp
 rw[e]
 omega
def zbe:SE->Ctl :=
 (zI (y9 false 8 (zo 3 YD (zb (zc 2) (zb (zc 7) (zb (zo 3 p_tree_steps (zb (zc 2) (zb (zc 7) (zb (zc 3) zq)))) zq)))))
  (sIf (Wc (tOf (zm ltD (eFn ziG (zb (zc 7) zq)) (zc 5))) (Wc (tOf (zm zbC (zc 8) (eC .non))) (tOf (zm ltD (zm ixD (zc 8) (zc 3)) (zc 4))))) (yO (eC (.bl false))) yk))
def za8:SE->Ctl :=
 (zI (y9 false 2 (zo 2 v7 (zb (zc 1) (zb (eC (.int 8)) zq))))
  (zI (y9 false 3 (zm vG (zo 2 zL (zb (zc 1) (zb (eC (.int 1)) zq))) (zm ixD (zc 2) (eC (.int 0)))))
  (zI (y9 false 4 (zm vv (eC (.int 1)) (zm vG (zo 2 zL (zb (zc 1) (zb (eC (.int 2)) zq))) (eC (.int 2)))))
  (zI (y9 false 5 (zo 3 Xo (zb (zc 2) (zb (zc 3) (zb (zc 4) zq)))))
  (zI (y9 false 6 (zo 3 wn (zb (zc 2) (zb (zc 3) (zb (zc 4) zq)))))
  (zI (XD (iOf (zo 4 Zw (zb (zc 2) (zb (zc 5) (zb (zc 6) (zb (zc 1) zq)))))) (yw 7) zbe)
  (zI (y9 false 9 (zo 3 ZL (zb (zc 2) (zb (zc 6) (zb (zc 3) zq)))))
  (zI (sIf (Wc (tOf (zm neD (eFn ziG (zb (zc 6) zq)) (zm XC (zc 5) (eC (.int 1))))) (tOf (zm neD (zm ixD (zc 9) (zc 3)) (zm XC (zc 4) (eC (.int 1)))))) (yO (eC (.bl false))) yk)
  (zI (sIf (tOf (zm yz (zo 4 YS (zb (zc 2) (zb (zc 6) (zb (zc 3) (zb (zc 9) zq))))) (eC (.bl true)))) (yO (eC (.bl false))) yk)
  (zI (y9 false 10 (zm vG (zo 2 zL (zb (zc 1) (zb (eC (.int 3)) zq))) (zm ixD (zc 2) (eC (.int 0)))))
  (zI (y9 false 11 (eFn ym (zb (wd (fLC (yx (zb (zc 6) zq)) b2 xw (zm XC (zc 1) (eFn zkP (zb (XZ (zm V5 (zc 0) (zc 12)) (zm gtD (zc 1) (eC (.int 0)))) zq))))) zq)))
  (sIf (tOf (zm gtD (zm ixD (zo 3 ZL (zb (zc 2) (zb (zc 11) (zb (zc 3) zq)))) (zc 3)) (zm XC (zc 4) (eC (.int 1))))) (yO (eC (.bl false))) yk))))))))))))
def zhS:SE->Ctl :=
 (zI (XD (iOf (zm vv (wd (yq (zb (zo 2 xh (zb (zc 0) (zb (eC (.int 0)) zq))) zq))) (eSl slD (zc 0) (YI (eC (.int 1))) (YI (eC (.int 5)))))) (yw 1) za8)
  (yO (eC (.bl true))))
def zlm:List D->Option D:=fnD 12 zhS
theorem Vm {m p:Int}{ts:List Tie}{hs ks:List Int}(ok:zG m ts)(hj:vR m ts)(htl:(ts.length:Int)=m - 1)(hp:0<=p/\p < m)(hks:YX m ts p=ks.map some)(hkl:(ks.length:Int)=m)(hb:∀ x:Int,0<=x->x < m->0<=vAt ks x/\vAt ks x < m)(hl:(hs.length:Int)=m)(hnn:∀ x∈hs,0<=x)(hsum:hs.sum<=300):∃ cs:List Int,WY m ts ks cs hs p/\(cs.length:Int)=m/\ZL [zp m ts,hpD hs,.int p]=some (.tup (cs.map .int))/\yR [zp m ts,hpD hs,.int p]=some (.tup (cs.map .int)):=by
 obtain⟨cs,ec,hcl,hE⟩:=zbE (hs:=hs) ok hp hks hkl hl
 exact⟨cs,⟨ok,htl,hp,hks,hkl,hb,λx=>zaG hnn x,hE⟩,hcl,zem ok hj htl hp hl hnn hsum ec,ec⟩
theorem znR {m p:Int}{tl:List Int}{a b:Int}(h:Bd m p tl a < Bd m p tl b):a < b:=by
 unfold Bd at h
 have h1:=zfA tl p
 have:a*P2 tl p < b*P2 tl p:=by omega
 exact Int.lt_of_mul_lt_mul_right this (by omega)
theorem znH {m p:Int}{tl:List Int}{a b:Int}(h:Bd m p tl a<=Bd m p tl b):a<=b:=by
 unfold Bd at h
 have h1:=zfA tl p
 have:a*P2 tl p<=b*P2 tl p:=by omega
 exact Int.le_of_mul_le_mul_right this (by omega)
theorem zlc (script:D)(z m p t N:Int)(ts:List Tie)(hs ks tl:List Int)(pd:D)(ok:zG m ts)(hj:vR m ts)(htl:(ts.length:Int)=m - 1)(hp:0<=p/\p < m)(hks:YX m ts p=ks.map some)(hkl:(ks.length:Int)=m)(hb:∀ x:Int,0<=x->x < m->0<=vAt ks x/\vAt ks x < m)(hE:∀ x:Int,0<=x->x < m->EqA Fh m ts ks tl x)(hN:N=Bd m p tl (t - 1)+1)(h9:N<=299)(hR:zdl m N hs)(o8 o9 o10 o11:Sl)(n b:SE->Prop)(r:D->Prop)(I:SE->Prop)(hI:∀ o8,I [.v script,.v (.int z),.v (zp m ts),.v (.int p),.v (.int t),.v (.int N),.v pd,.v (hpD hs),o8,o9,o10,o11]):(zbe [.v script,.v (.int z),.v (zp m ts),.v (.int p),.v (.int t),.v (.int N),.v pd,.v (hpD hs),o8,o9,o10,o11]).w I b n r:=by
 have hl:=hR.len
 have hnn:=hR.nn
 have hlo:=hR.lo
 have hsum:hs.sum<=300:=by have:=hR.hi;omega
 obtain⟨cs,T,hcl,_,ec⟩:=Vm ok hj htl hp hks hkl hb hl hnn hsum
 obtain⟨M,eS,pm,sr⟩:=zaX T hj hl hnn hsum hcl ec
 have hO:zc1 m ts ks M:=⟨pm,sr.imp λh=>by have:=zbl h;omega⟩
 obtain⟨pl,pr⟩:=zdV T hO hl
 obtain⟨S,hS⟩:∃ S,yW m ts ks cs p M=S:=⟨_,rfl⟩
 rw[hS]at eS pl pr
 have epl:=zgt ok hl pl
 have hct:t - 1 < vAt cs p:=znR (m:=m) (p:=p) (tl:=tl) (by have:=WJ T hl hE;omega)
 unfold zbe
 have eS2:p_tree_steps [zp m ts,hpD hs,.int p]=some (.lst (S.map zv)):=by
  show(vZ [zp m ts,hpD hs,.int p]).map D.lst=_
  rw[eS]
  rfl
 refine zt (ρ':=[.v script,.v (.int z),.v (zp m ts),.v (.int p),.v (.int t),.v (.int N),.v pd,.v (hpD hs),.v (.lst ((S.foldl mv hs).map .int)),o9,o10,o11]) (yH (ds:=[zp m ts,hpD hs,.lst (S.map zv)]) (zy rfl (zy rfl (zy (yr (ds:=[_,_,_]) rfl eS2) yj))) epl) ?_
 have f1:L2.atI ((S.foldl mv hs).map D.int) p=some (.int (vAt (S.foldl mv hs) p)):=Z4 (ns:=S.foldl mv hs) hp (by rw[zd7];exact hl)
 refine W3 (c:=false) (zcc (Xb (zr (x:=.int hs.sum) (y:=.int N) (Zv (ds:=[hpD hs]) rfl (Vl hs)) rfl ?_)) (zcc rfl (Xb (zr (x:=.int (vAt (S.foldl mv hs) p)) (y:=.int t) (zr (x:=.lst ((S.foldl mv hs).map .int)) (y:=.int p) rfl rfl f1) rfl ?_)))) (λz=>by cases z) (λ_=>Zh rfl (hI _))
 .show some (D.bl (decide (hs.sum < N)))=_
  rw[d7 (by omega)]
 .show some (D.bl (decide (vAt (S.foldl mv hs) p < t)))=_
  rw[pr,d7 (by omega)]
theorem zaz {m p t:Int}{ts:List Tie}{hs ks cs S:List Int}{C:Nat->Int}(T:WY m ts ks cs hs p)(hle:∀ x:Int,0<=x->vAt hs x<=vAt S x)(C0:C p.toNat=t - 1)(Cn:∀ x,0<=C x)(tight:∀ x:Nat,(x:Int) < m->vAt S (x:Int)+((zW m ts ks (x:Int)).map C).sum=WS p C x):vAt cs p<=t - 1:=by
 have hp:=T.hp
 have vC:∀ x:Nat,(x:Int) < m->vAt (mk m.toNat C) (x:Int)=C x:=λx hx=>by
  rw[zfx,t5 (by show x < m.toNat;omega)]
  rfl
 have G:zkm m ts ks hs (mk m.toNat C) p:=by
  refine⟨by rw[zdX];omega,λx=>?_,λx hx=>?_⟩
  .rw[zfx]
   split
   .exact Cn _
   .exact u0z _
  .have e:Ys m ts ks (mk m.toNat C) (x:Int)=((zW m ts ks (x:Int)).map C).sum:=by
    unfold Ys YV
    congr 1
    exact p4 λo ho=>vC o (zP ho)
   have:=tight x hx
   have:=hle (x:Int) (by omega)
   rw[e,vC x hx]
   show _<=WS p C x
   omega
 have:=ze3 T G m.toNat p.toNat (by omega) (by have:=(T.hb ((p.toNat:Nat):Int) (by omega) (by omega)).1;omega)
 rw[vC p.toNat (by omega),C0,show((p.toNat:Nat):Int)=p by omega]at this
 exact this
theorem zku (script:D)(z:Int)(o2 o3 o4 o5 o6 o7 o8 o9 o10 o11:Sl)(n b:SE->Prop)(r:D->Prop)(I:SE->Prop)(hI:∀ o2 o3 o4 o5 o6 o7 o8 o9 o10 o11,I [.v script,.v (.int z),o2,o3,o4,o5,o6,o7,o8,o9,o10,o11]):(za8 [.v script,.v (.int z),o2,o3,o4,o5,o6,o7,o8,o9,o10,o11]).w I b n r:=by
 obtain⟨ts,ew,ok,hj,htl⟩:=zel (c:=z) (mo:=8) (by decide) (by decide)
 obtain⟨m,hm⟩:∃ m:Int,1+z % 8=m:=⟨_,rfl⟩
 rw[hm]at ew ok hj htl
 have hm1:=ok.lo
 have hm8:=ok.hi
 have hm0:0 < m:=zdS hm1
 obtain⟨p,hpp⟩:∃ p:Int,WU z 1 % m=p:=⟨_,rfl⟩
 have hp:=y8 hm0 hpp
 obtain⟨u,huu⟩:∃ u:Int,WU z 2 % 2=u:=⟨_,rfl⟩
 have hu:=y8 (by decide) huu
 obtain⟨t,htt⟩:∃ t:Int,1+u=t:=⟨_,rfl⟩
 have h1:1<=t:=by omega
 have h2:t<=2:=by omega
 obtain⟨ks,hks,hkl⟩:=zdM hj hp
 have hb:=zlB ok hp hks hkl
 obtain⟨tl,et,htl',hE⟩:=Vv ok hp hks hkl
 have ewy:=zbO ok hp hks hkl hb et htl'
 have pm:=zam (xD p (wv m ts ks tl) m.toNat)
 obtain⟨W,hW⟩:∃ W,zcS (zC p (rkN m ts ks tl) m.toNat)=W:=⟨_,rfl⟩
 rw[hW]at ewy pm
 have hEW:∀ w∈W,zmM m w:=λw hw=>by
  obtain⟨u,z,e,a,_,b⟩:=zg0 hb w (pm.mem_iff.mp hw)
  exact⟨u,z,e,a,b⟩
 obtain⟨V,hV⟩:∃ V,V=if W.isEmpty=true then [[p.toNat]]else W:=⟨_,rfl⟩
 have hEV:∀ w∈V,zmM m w:=λw hw=>by
  rw[hV]at hw
  split at hw
  .rw[j6.mp hw]
   exact⟨[],p.toNat,rfl,by omega,by show((0:Nat):Int) < m;omega⟩
  .exact hEW w hw
 have e1:=zbi ok hj htl hp h1 h2 (zbz (t:=t) ok hp ewy hV hEV)
 obtain⟨C,C0,Cn,tight,sB⟩:=zeY (t:=t) ok htl hp hks hkl hb hE h1 hW hV
 have hSl:=xW (t:=t) (V:=V) (m:=m) (by omega) V.length
 have hSn:=zdJ (m:=m) (V:=V) h1 V.length (t9 _)
 have hS255:(zK t m V V.length).sum<=298:=by
  have h3:=zgP (m:=m) (V:=V) h1 (by omega) (λw hw=>(hEV w hw).last.2) V.length (t9 _)
  have h4:zeL V V.length<=7:=by
   rw[hV]
   split
   .exact u0m _
   .have:=zkg ok htl hp hks hkl hb pm
    omega
  have h5:V.length≠0:=by
   rw[hV]
   cases c:W.isEmpty with
   | true=>rw[t5 rfl];exact Nat.one_ne_zero
   | false =>
    rw[t6 u7]
    intro z
    rw[u0I.mp z]at c
    cases c
  rw[t6 h5]at h3
  have h6:=(zgM (n:=zeL V V.length) (by omega)).2
  have h7:=zeJ h4
  have h8:t*2 ^ zeL V V.length<=2*128:=u3p h2 h7 (by have:=zc3 (zeL V V.length);omega) (by decide)
  omega
 obtain⟨S,hS⟩:∃ S,zK t m V V.length=S:=⟨_,rfl⟩
 rw[hS]at e1 tight sB hSl hSn hS255
 have e3:=zbT e1
 have hS0:0<=S.sum:=zea hSn
 obtain⟨N,hN⟩:∃ N:Int,S.sum+1=N:=⟨_,rfl⟩
 rw[hN]at e3
 obtain⟨Hs,eH,hH⟩:=ziQ (z:=z) ok (N:=N) (by omega) (by omega) hSl hSn (by omega)
 obtain⟨cs,T,hcl,ecc,_⟩:=Vm ok hj htl hp hks hkl hb hSl hSn (by omega)
 have hc1:=zaz (t:=t) T (λx _=>u0z _) C0 Cn tight
 have hc2:t - 1<=vAt cs p:=znH (m:=m) (p:=p) (tl:=tl) (by have:=WJ T hSl hE;omega)
 have hct:vAt cs p=t - 1:=by omega
 have G:=ze2 T hcl
 have hcn:∀ x∈cs,0<=x:=λx hx=>by
  obtain⟨i,hi,e⟩:=d6 hx
  have:=G.nn (i:Int)
  unfold vAt at this
  rw[j4,show((i:Int)).toNat=i from rfl,u5 hi,e]at this
  exact this
 have ehold:=V7 (d:=.tup (cs.map .int)) ok hj htl hp hks hkl hSl hSn (by omega) (zdO cs)
 rw[zcg hcl hcn,zhJ.mpr (λx hx=>G.hold x (by omega))]at ehold
 obtain⟨a,haa⟩:∃ a:Int,WU z 3 % m=a:=⟨_,rfl⟩
 have ha:=y8 hm0 haa
 obtain⟨ls,hls⟩:∃ ls,mk S.length (λj=>vAt S (j:Int) - (if (decide ((j:Int)=a)&&decide (vAt S (j:Int) > 0))=true then 1 else 0))=ls:=⟨_,rfl⟩
 have hll:(ls.length:Int)=m:=by rw[<-hls,zdX];exact hSl
 have hsn:∀ j:Nat,0<=vAt S (j:Int):=λj=>zaG hSn _
 have hbit:∀ j:Nat,0<=(if (decide ((j:Int)=a)&&decide (vAt S (j:Int) > 0))=true then (1:Int)else 0)/\(if (decide ((j:Int)=a)&&decide (vAt S (j:Int) > 0))=true then (1:Int)else 0)<=vAt S (j:Int):=λj=>by
  have:=hsn j
  split
  .rename_i h
   rw[b7]at h
   have:=o0 h.2
   omega
  .omega
 have hln:∀ x∈ls,0<=x:=by
  rw[<-hls]
  exact zkH λj=>by have:=hbit j;omega
 have hle:∀ x:Int,0<=x->vAt ls x<=vAt S x:=λx hx=>by
  rw[<-hls,zfx]
  have e:((x.toNat:Nat):Int)=x:=by omega
  split
  .have:=hbit x.toNat
   rw[e]at this ⊢
   omega
  .exact zaG hSn x
 have hlsum:ls.sum<=300:=by
  have e1:=VQ (hs:=ls) (n:=m.toNat) (by omega)
  have e2:=VQ (hs:=S) (n:=m.toNat) (by omega)
  have:=zjF (n:=m.toNat) (f:=λx=>vAt ls (x:Int)) (g:=λx=>vAt S (x:Int)) λx _=>hle _ (by omega)
  omega
 obtain⟨ds,T2,hdl,edc,_⟩:=Vm ok hj htl hp hks hkl hb hll hln hlsum
 have hd1:=zaz (t:=t) T2 hle C0 Cn tight
 have f1:L2.atI (cs.map D.int) p=some (.int (vAt cs p)):=Z4 (ns:=cs) hp hcl
 have f2:L2.atI (ds.map D.int) p=some (.int (vAt ds p)):=Z4 (ns:=ds) hp hdl
 unfold za8
 refine zt (ρ':=[.v script,.v (.int z),.v (zp m ts),o3,o4,o5,o6,o7,o8,o9,o10,o11]) (xf ew) ?_
 refine zt (ρ':=[.v script,.v (.int z),.v (zp m ts),.v (.int p),o4,o5,o6,o7,o8,o9,o10,o11]) (xf (show vG (.int (WU z 1)) (.int m)=some (.int p) by rw[yQ hm0,hpp])) ?_
 refine zt (ρ':=[.v script,.v (.int z),.v (zp m ts),.v (.int p),.v (.int t),o5,o6,o7,o8,o9,o10,o11]) (zcu (zr (x:=.int 1) (y:=.int u) rfl (zr (x:=.int (WU z 2)) (y:=.int 2) rfl rfl (by rw[yQ (by decide),huu])) (show vv (.int 1) (.int u)=some (.int t)from u0U (λx=>some (D.int x)) htt))) ?_
 refine zt (ρ':=[.v script,.v (.int z),.v (zp m ts),.v (.int p),.v (.int t),.v (.int N),o6,o7,o8,o9,o10,o11]) (yH (ds:=[_,_,_]) rfl e3) ?_
 refine zt (ρ':=[.v script,.v (.int z),.v (zp m ts),.v (.int p),.v (.int t),.v (.int N),.v (hpD S),o7,o8,o9,o10,o11]) (yH (ds:=[_,_,_]) rfl e1) ?_
 refine yJ (Wt (ds:=Hs.map hpD) (λi ρ=>∃ o7 o8,ρ=[.v script,.v (.int z),.v (zp m ts),.v (.int p),.v (.int t),.v (.int N),.v (hpD S),o7,o8,o9,o10,o11]) (zbL (d:=.lst (Hs.map hpD)) (yr (ds:=[zp m ts,.int N,hpD S,.int z]) rfl eH) rfl) ⟨_,_,rfl⟩ ?_ ?_)
 .rintro i d ρ hd ⟨o7,o8,rfl⟩
  rw[j5]at hd
  obtain⟨hs,hhs,rfl⟩:=u8.mp hd
  exact⟨[.v script,.v (.int z),.v (zp m ts),.v (.int p),.v (.int t),.v (.int N),.v (hpD S),.v (hpD hs),o8,o9,o10,o11],rfl,zlc _ _ _ _ _ _ _ _ _ tl _ ok hj htl hp hks hkl hb hE (by omega) (by omega) (hH hs (r8 hhs)) _ _ _ _ _ _ _ _ λ_=>⟨_,_,rfl⟩⟩
 rintro ρ ⟨o7,o8,rfl⟩
 refine zt (ρ':=[.v script,.v (.int z),.v (zp m ts),.v (.int p),.v (.int t),.v (.int N),.v (hpD S),o7,o8,.v (.tup (cs.map .int)),o10,o11]) (yH (ds:=[_,_,_]) rfl ecc) ?_
 refine yJ (W3 (c:=false) (zcc (Xb (zr (x:=.int S.sum) (y:=.int (N - 1)) (Zv (ds:=[hpD S]) rfl (Vl S)) rfl ?_)) (Xb (zr (x:=.int (vAt cs p)) (y:=.int (t - 1)) (zr (x:=.tup (cs.map .int)) (y:=.int p) rfl rfl f1) rfl ?_))) (λz=>by cases z) (λ_=>Zh rfl ?_))
 .rw[yT,j8 (by omega)]
  rfl
 .rw[yT,j8 hct]
  rfl
 refine yJ (W3 (c:=false) (Xb (zr (x:=.bl true) (y:=.bl true) (yr (ds:=[zp m ts,hpD S,.int p,.tup (cs.map .int)]) rfl ehold) rfl rfl)) (λz=>by cases z) (λ_=>Zh rfl ?_))
 refine zt (ρ':=[.v script,.v (.int z),.v (zp m ts),.v (.int p),.v (.int t),.v (.int N),.v (hpD S),o7,o8,.v (.tup (cs.map .int)),.v (.int a),o11]) (xf (show vG (.int (WU z 3)) (.int m)=some (.int a) by rw[yQ hm0,haa])) ?_
 refine zt (ρ':=[.v script,.v (.int z),.v (zp m ts),.v (.int p),.v (.int t),.v (.int N),.v (hpD S),o7,o8,.v (.tup (cs.map .int)),.v (.int a),.v (hpD ls)]) (zcu (Zv (ds:=[.lst (ls.map .int)]) (zy (ZH ?_) yj) rfl)) ?_
 .rw[<-hls]
  refine zhn rfl (by omega) λj=>?_
  exact zr (x:=.int (vAt S (j:Int))) (y:=.int (if (decide ((j:Int)=a)&&decide (vAt S (j:Int) > 0))=true then 1 else 0)) rfl (Zv (ds:=[.bl (decide ((j:Int)=a)&&decide (vAt S (j:Int) > 0))]) (zy (zk2 (b:=decide ((j:Int)=a)) (c:=decide (vAt S (j:Int) > 0)) (zr (x:=.int (j:Int)) (y:=.int a) rfl rfl zX) rfl) yj) rfl) rfl
 refine W3 (c:=false) (Xb (zr (x:=.int (vAt ds p)) (y:=.int (t - 1)) (zr (x:=.tup (ds.map .int)) (y:=.int p) (yr (ds:=[zp m ts,hpD ls,.int p]) rfl edc) rfl f2) rfl ?_)) (λz=>by cases z) (λ_=>Zh rfl (hI _ _ _ _ _ _ _ _ _ _))
 show some (D.bl (decide (vAt ds p > t - 1)))=_
 rw[d7 (by omega)]
theorem ziU:∀ ns:List Int,ns.length<=63->zlm [.scr ns]=some (.bl true):=by
 intro ns hns
 refine WE (ρ:=[.v (.scr ns),.no,.no,.no,.no,.no,.no,.no,.no,.no,.no,.no]) rfl ?_
 unfold zhS
 obtain⟨xs,hxs⟩:=zih (ρ:=[none,none,none,none,none,none,none,none,none,none,none]) ns 5 hns
 refine yJ (Wt (ds:=xs.map .int) (λi ρ=>∃ o1 o2 o3 o4 o5 o6 o7 o8 o9 o10 o11,ρ=[.v (.scr ns),o1,o2,o3,o4,o5,o6,o7,o8,o9,o10,o11]) hxs ⟨_,_,_,_,_,_,_,_,_,_,_,rfl⟩ ?_ ?_)
 .rintro i d ρ hd ⟨o1,o2,o3,o4,o5,o6,o7,o8,o9,o10,o11,rfl⟩
  rw[j5]at hd
  obtain⟨z,hz,rfl⟩:=u8.mp hd
  exact⟨_,rfl,zku _ _ _ _ _ _ _ _ _ _ _ _ _ _ _ _ λ_ _ _ _ _ _ _ _ _ _=>⟨_,_,_,_,_,_,_,_,_,_,_,rfl⟩⟩
 .rintro ρ ⟨o1,o2,o3,o4,o5,o6,o7,o8,o9,o10,o11,rfl⟩
  exact ZW rfl rfl
theorem zlR (T:Txt K mg base ad):y6 P w K mg base CX0 30 ad.f_law ad.e_law ["script"] (zfH K):=by
 letI:KK:=⟨K⟩
 have G_tree_need:=zb2 (P:=P) (w:=w) (base:=base) T
 have G_tree_worst:=XJ (P:=P) (w:=w) (base:=base) T
 have G_carries:=zeD (P:=P) (w:=w) (base:=base) T
 have G_tree_steps:=zbm (P:=P) (w:=w) (base:=base) T
 have O_tree_steps:=Xh (P:=P) (w:=w) (base:=base) T
 have G_carry_holds:=V6 (P:=P) (w:=w) (base:=base) T
 have G__law_cell_at:=VG (P:=P) (w:=w) (base:=base) T
 have G__law_stir:=Zz (P:=P) (w:=w) (base:=base) T
 have G__law_tree_by:=VJ (P:=P) (w:=w) (base:=base) T
 have G__law_played:=V8 (P:=P) (w:=w) (base:=base) T
 have G__law_heaps:=zbv (P:=P) (w:=w) (base:=base) T
 refine(zl1 (p:=zlm) (yC (N:=["script","cell","web","root","times","need_here","poorest","heap","last","paper","at","less"]) (ps:=["script"]) T.d_law.fn Y7 (g:=zhS) λcdv A outer s H E hr=>?_) ziU).mono (j:=14) (by decide)
 unfold zhS za8 zbe
 exact(ze (Yx b8 rfl (Y5 (yp (w8 (xV (za (zi G__law_cell_at hr rfl T.d__law_cell_at (za (edv 0) (za (zg zh) zd))) zd))) (zhQ (edv 0) (zfN (zg zh)) (zfN (zg zh))))) (zS (zz (i:=1) Y7.nd rfl (Or.inl rfl))) (ze (zJ (m:=false) (i:=2) Y7.nd rfl (Or.inl rfl) (zi G__law_tree_by hr rfl T.d__law_tree_by (za (edv 1) (za (zg zh) zd))))
  (ze (zJ (m:=false) (i:=3) Y7.nd rfl (Or.inl rfl) (wy (zi G__law_stir hr rfl T.d__law_stir (za (edv 1) (za (zg zh) zd))) (zA (edv 2) (zg zh) (λ_ _=>rfl))))
  (ze (zJ (m:=false) (i:=4) Y7.nd rfl (Or.inl rfl) (yp (zg zh) (wy (zi G__law_stir hr rfl T.d__law_stir (za (edv 1) (za (zg zh) zd))) (zg zh))))
  (ze (zJ (m:=false) (i:=5) Y7.nd rfl (Or.inl rfl) (zi G_tree_need hr rfl T.d_tree_need (za (edv 2) (za (edv 3) (za (edv 4) zd)))))
  (ze (zJ (m:=false) (i:=6) Y7.nd rfl (Or.inl rfl) (zi G_tree_worst hr rfl T.d_tree_worst (za (edv 2) (za (edv 3) (za (edv 4) zd)))))
  (ze (Yx b8 rfl (Y5 (zi G__law_heaps hr rfl T.d__law_heaps (za (edv 2) (za (edv 5) (za (edv 6) (za (edv 1) zd)))))) (zS (zz (i:=7) Y7.nd rfl (Or.inl rfl))) (ze (zJ (m:=false) (i:=8) Y7.nd rfl (Or.inl rfl) (zi G__law_played hr rfl T.d__law_played (za (edv 2) (za (edv 7) (za (zi G_tree_steps hr rfl T.d_tree_steps (za (edv 2) (za (edv 7) (za (edv 3) zd)))) zd)))))
  (zj (wx (zio (zaj (yb ziR yi (zM _) (zH (ZE rfl) VT rfl T.z_sum zbQ (za (edv 7) zd)) (edv 5)) (zaj (yb zjs zfW (zM _) (edv 8) (WQ WN)) (WP (yb ziR yi (zM _) (zA (edv 8) (edv 3) (λ_ _=>rfl)) (edv 4)))))) (zj (zB (Z5 Z6))) zU))))
  (ze (zJ (m:=false) (i:=9) Y7.nd rfl (Or.inl rfl) (zi G_carries hr rfl T.d_carries (za (edv 2) (za (edv 6) (za (edv 3) zd)))))
  (ze (wx (zio (zaj (yb zcC WM (zM _) (zH (ZE rfl) VT rfl T.z_sum zbQ (za (edv 6) zd)) (Yr (edv 5) (zg zh))) (WP (yb zcC WM (zM _) (zA (edv 9) (edv 3) (λ_ _=>rfl)) (Yr (edv 4) (zg zh)))))) (zj (zB (Z5 Z6))) zU)
  (ze (wx (yb zbR zax (zM _) (zi G_carry_holds hr rfl T.d_carry_holds (za (edv 2) (za (edv 6) (za (edv 3) (za (edv 9) zd))))) (Z5 Z6)) (zj (zB (Z5 Z6))) zU)
  (ze (zJ (m:=false) (i:=10) Y7.nd rfl (Or.inr rfl) (wy (zi G__law_stir hr rfl T.d__law_stir (za (edv 1) (za (zg zh) zd))) (zA (edv 2) (zg zh) (λ_ _=>rfl))))
  (ze (zJ (m:=false) (i:=11) Y7.nd rfl (Or.inl rfl) (yI zY xK rfl T.z_tuple yM (za (w8 (zas (L:=["k","stones"]) (M:=["script","cell","web","root","times","need_here","poorest","heap","last","paper","at","less"]) rfl (Xg (by rfl) (by rfl) (by rfl) (by with_unfolding_all rfl) (by rfl) (by rfl) (by kernel_rfl) (all_cons rfl xM)) (Wq rfl T.z_enumerate xB (za (edv 6) zd)) gs2 rb2 (λ_ _ _ _=>(zga rfl (X8 (zz (i:=0) zk0 rfl (Or.inl rfl) (.inr rfl)) (X8 (zz (i:=1) zk0 rfl (Or.inl rfl) (.inr rfl)) zc8)))) (λ_ _ _ _=>(Yr (edv 1) (yI Vj zbk rfl T.z_int zdG (za (X6 (XO (Zp hr) vf (zM _) (edv 0) (edv 12)) (XE (XO zaZ yi (zM _) (edv 1) (zg zh)))) zd)))))) zd)))
  (zj (wx (yb zaZ yi (zM _) (zA (zi G_carries hr rfl T.d_carries (za (edv 2) (za (edv 11) (za (edv 3) zd)))) (edv 3) (λ_ _=>rfl)) (Yr (edv 4) (zg zh))) (zj (zB (Z5 Z6))) zU))))))))))))))
  (zj (zB (Z5 Z6))))
end
theorem zm9 {us:List Value}(h:us.length=1):∃ x0,us=[x0]:=by
 cases us with
 | nil=>cases h
 | cons x0 us =>
  cases us with
  | nil=>exact⟨x0,rfl⟩
  | cons _ _=>cases h
theorem znb {us:List Value}(h:us.length=2):∃ x0 x1,us=[x0,x1]:=by
 cases us with
 | nil=>cases h
 | cons x0 us =>
  cases us with
  | nil=>cases h
  | cons x1 us =>
   cases us with
   | nil=>exact⟨x0,x1,rfl⟩
   | cons _ _=>cases h
theorem znZ {us:List Value}(h:us.length=3):∃ x0 x1 x2,us=[x0,x1,x2]:=by
 cases us with
 | nil=>cases h
 | cons x0 us =>
  cases us with
  | nil=>cases h
  | cons x1 us =>
   cases us with
   | nil=>cases h
   | cons x2 us =>
    cases us with
    | nil=>exact⟨x0,x1,x2,rfl⟩
    | cons _ _=>cases h
theorem znU {us:List Value}(h:us.length=4):∃ x0 x1 x2 x3,us=[x0,x1,x2,x3]:=by
 cases us with
 | nil=>cases h
 | cons x0 us =>
  cases us with
  | nil=>cases h
  | cons x1 us =>
   cases us with
   | nil=>cases h
   | cons x2 us =>
    cases us with
    | nil=>cases h
    | cons x3 us =>
     cases us with
     | nil=>exact⟨x0,x1,x2,x3,rfl⟩
     | cons _ _=>cases h
abbrev Lk (x:Str)(st:Stmt)(oc:Value)(od:Option Addr)(kV dc pm:Value)(an:Option Addr)(cd ct:Value)(sl:Array (Option Value)):Option Obj:=some ⟨oc,od,.func (W.fnOf x x (Xx st) (wN st) (zk st) .none kV dc pm an cd ct),sl⟩
theorem mkD {K:W.Frag}{h:Heap}{mg:Str->Option Value}{x:Str}{st:Stmt}{ps:List Str}{f:Addr}{oc kV dc pm cd ct:Value}{od an:Option Addr}{sl:Array (Option Value)}(X:K.In h)(G:h.Ns mainGlobals mg)(a:W.nsIn K mainGlobals x=some (some (.ref f)))(l:K.lookup f=Lk x st oc od kV dc pm an cd ct sl)(c:W.codeIn K cd x=true)(k:W.keepIn K (.ref f)=true)
 (b:∀ (kV doc pm:Value) (an:Option Addr) (cdv ct:Value) (us:List Value),us.length=ps.length->bindArgs (W.fnOf x x (Xx st) (wN st) (zk st) .none kV doc pm an cdv ct) ⟨us,[]⟩=pure (ps.zip us)):Def K mg x st ps f (W.fnOf x x (Xx st) (wN st) (zk st) .none kV dc pm an cd ct):=⟨zja l c k,(zja l c k).binds b,u2Z X G a⟩
theorem bn1 {F:Value->Value->Value->Option Addr->Value->Value->List Value->Prop}(h:∀ a b c d e f x0,F a b c d e f [x0]):∀ a b c d e f us,us.length=1->F a b c d e f us:=λa b c d e f us hl=>by obtain⟨x0,rfl⟩:=zm9 hl;exact h a b c d e f x0
theorem bn2 {F:Value->Value->Value->Option Addr->Value->Value->List Value->Prop}(h:∀ a b c d e f x0 x1,F a b c d e f [x0,x1]):∀ a b c d e f us,us.length=2->F a b c d e f us:=λa b c d e f us hl=>by obtain⟨x0,x1,rfl⟩:=znb hl;exact h a b c d e f x0 x1
theorem bn3 {F:Value->Value->Value->Option Addr->Value->Value->List Value->Prop}(h:∀ a b c d e f x0 x1 x2,F a b c d e f [x0,x1,x2]):∀ a b c d e f us,us.length=3->F a b c d e f us:=λa b c d e f us hl=>by obtain⟨x0,x1,x2,rfl⟩:=znZ hl;exact h a b c d e f x0 x1 x2
theorem bn4 {F:Value->Value->Value->Option Addr->Value->Value->List Value->Prop}(h:∀ a b c d e f x0 x1 x2 x3,F a b c d e f [x0,x1,x2,x3]):∀ a b c d e f us,us.length=4->F a b c d e f us:=λa b c d e f us hl=>by obtain⟨x0,x1,x2,x3,rfl⟩:=znU hl;exact h a b c d e f x0 x1 x2 x3
theorem all_mk {l:W.OpenLaw} {w:World} {K:W.Frag} {h:Heap} {mg:Str->Option Value} {fa f0 f1 f2 f3 f4 f5 f6 f7 f8 f9 f10 f11 f12 f13 f14 f15 f16 f17 f18 f19 f20 f21 f22 f23 f24 f25 f26 f27 f28 f29 f30 f31 f32 f33 f34 f35 f36 f37 f38 f39 f40 f41:Addr} (X:K.In h) (G:h.Ns mainGlobals mg) (hfa:mg "law"=some (.ref fa))
 {od0 an0 od1 an1 od2 an2 od3 an3 od4 an4 od5 an5 od6 an6 od7 an7 od8 an8 od9 an9 od10 an10 od11 an11 od12 an12 od13 an13 od14 an14 od15 an15 od16 an16 od17 an17 od18 an18 od19 an19 od20 an20 od21 an21 od22 an22 od23 an23 od24 an24 od25 an25 od26 an26 od27 an27 od28 an28 od29 an29 od30 an30 od31 an31 od32 an32 od33 an33 od34 an34 od35 an35 od36 an36 od37 an37 od38 an38 od39 an39 od40 an40 od41 an41:Option Addr} {sl0 sl1 sl2 sl3 sl4 sl5 sl6 sl7 sl8 sl9 sl10 sl11 sl12 sl13 sl14 sl15 sl16 sl17 sl18 sl19 sl20 sl21 sl22 sl23 sl24 sl25 sl26 sl27 sl28 sl29 sl30 sl31 sl32 sl33 sl34 sl35 sl36 sl37 sl38 sl39 sl40 sl41:Array (Option Value)} {oc0 kV0 dc0 pm0 ct0 cd0 oc1 kV1 dc1 pm1 ct1 cd1 oc2 kV2 dc2 pm2 ct2 cd2 oc3 kV3 dc3 pm3 ct3 cd3 oc4 kV4 dc4 pm4 ct4 cd4 oc5 kV5 dc5 pm5 ct5 cd5 oc6 kV6 dc6 pm6 ct6 cd6 oc7 kV7 dc7 pm7 ct7 cd7 oc8 kV8 dc8 pm8 ct8 cd8 oc9 kV9 dc9 pm9 ct9 cd9 oc10 kV10 dc10 pm10 ct10 cd10 oc11 kV11 dc11 pm11 ct11 cd11 oc12 kV12 dc12 pm12 ct12 cd12 oc13 kV13 dc13 pm13 ct13 cd13 oc14 kV14 dc14 pm14 ct14 cd14 oc15 kV15 dc15 pm15 ct15 cd15 oc16 kV16 dc16 pm16 ct16 cd16 oc17 kV17 dc17 pm17 ct17 cd17 oc18 kV18 dc18 pm18 ct18 cd18 oc19 kV19 dc19 pm19 ct19 cd19 oc20 kV20 dc20 pm20 ct20 cd20 oc21 kV21 dc21 pm21 ct21 oc22 kV22 dc22 pm22 ct22 cd22 oc23 kV23 dc23 pm23 ct23 oc24 kV24 dc24 pm24 ct24 cd24 oc25 kV25 dc25 pm25 ct25 cd25 oc26 kV26 dc26 pm26 ct26 cd26 oc27 kV27 dc27 pm27 ct27 cd27 oc28 kV28 dc28 pm28 ct28 cd28 oc29 kV29 dc29 pm29 ct29 cd29 oc30 kV30 dc30 pm30 ct30 cd30 oc31 kV31 dc31 pm31 ct31 cd31 oc32 kV32 dc32 pm32 ct32 cd32 oc33 kV33 dc33 pm33 ct33 cd33 oc34 kV34 dc34 pm34 ct34 oc35 kV35 dc35 pm35 ct35 cd35 oc36 kV36 dc36 pm36 ct36 cd36 oc37 kV37 dc37 pm37 ct37 cd37 oc38 kV38 dc38 pm38 ct38 cd38 oc39 kV39 dc39 pm39 ct39 cd39 oc40 kV40 dc40 pm40 ct40 cd40 oc41 kV41 dc41 pm41 ct41 cd41:Value} {tk0:Tok} {tk1:Tok}
 {cc0 pp0 cc1 pp1 cc2 pp2:Addr}
 (a0:W.nsIn K mainGlobals "is_whole"=some (some (.ref f0))) (l0:K.lookup f0=Lk "is_whole" Xv oc0 od0 kV0 dc0 pm0 an0 cd0 ct0 sl0) (c0:W.codeIn K cd0 "is_whole"=true) (k0:W.keepIn K (.ref f0)=true)
 (a1:W.nsIn K mainGlobals "is_whole_within"=some (some (.ref f1))) (l1:K.lookup f1=Lk "is_whole_within" xN oc1 od1 kV1 dc1 pm1 an1 cd1 ct1 sl1) (c1:W.codeIn K cd1 "is_whole_within"=true) (k1:W.keepIn K (.ref f1)=true)
 (a2:W.nsIn K mainGlobals "must_be_within"=some (some (.ref f2))) (l2:K.lookup f2=Lk "must_be_within" x9 oc2 od2 kV2 dc2 pm2 an2 cd2 ct2 sl2) (c2:W.codeIn K cd2 "must_be_within"=true) (k2:W.keepIn K (.ref f2)=true)
 (a3:W.nsIn K mainGlobals "is_place_count"=some (some (.ref f3))) (l3:K.lookup f3=Lk "is_place_count" xY oc3 od3 kV3 dc3 pm3 an3 cd3 ct3 sl3) (c3:W.codeIn K cd3 "is_place_count"=true) (k3:W.keepIn K (.ref f3)=true)
 (a4:W.nsIn K mainGlobals "is_place"=some (some (.ref f4))) (l4:K.lookup f4=Lk "is_place" Xi oc4 od4 kV4 dc4 pm4 an4 cd4 ct4 sl4) (c4:W.codeIn K cd4 "is_place"=true) (k4:W.keepIn K (.ref f4)=true)
 (a5:W.nsIn K mainGlobals "are_counts"=some (some (.ref f5))) (l5:K.lookup f5=Lk "are_counts" Y1 oc5 od5 kV5 dc5 pm5 an5 cd5 ct5 sl5) (c5:W.codeIn K cd5 "are_counts"=true) (k5:W.keepIn K (.ref f5)=true)
 (a6:W.nsIn K mainGlobals "doubled"=some (some (.ref f6))) (l6:K.lookup f6=Lk "doubled" Wf oc6 od6 kV6 dc6 pm6 an6 cd6 ct6 sl6) (c6:W.codeIn K cd6 "doubled"=true) (k6:W.keepIn K (.ref f6)=true)
 (a7:W.nsIn K mainGlobals "is_pair"=some (some (.ref f7))) (l7:K.lookup f7=Lk "is_pair" Wj oc7 od7 kV7 dc7 pm7 an7 cd7 ct7 sl7) (c7:W.codeIn K cd7 "is_pair"=true) (k7:W.keepIn K (.ref f7)=true)
 (a8:W.nsIn K mainGlobals "are_ties"=some (some (.ref f8))) (l8:K.lookup f8=Lk "are_ties" Xk oc8 od8 kV8 dc8 pm8 an8 cd8 ct8 sl8) (c8:W.codeIn K cd8 "are_ties"=true) (k8:W.keepIn K (.ref f8)=true)
 (a9:W.nsIn K mainGlobals "is_web"=some (some (.ref f9))) (l9:K.lookup f9=Lk "is_web" Vh oc9 od9 kV9 dc9 pm9 an9 cd9 ct9 sl9) (c9:W.codeIn K cd9 "is_web"=true) (k9:W.keepIn K (.ref f9)=true)
 (a10:W.nsIn K mainGlobals "must_be_web"=some (some (.ref f10))) (l10:K.lookup f10=Lk "must_be_web" Ym oc10 od10 kV10 dc10 pm10 an10 cd10 ct10 sl10) (c10:W.codeIn K cd10 "must_be_web"=true) (k10:W.keepIn K (.ref f10)=true)
 (a11:W.nsIn K mainGlobals "must_be_place"=some (some (.ref f11))) (l11:K.lookup f11=Lk "must_be_place" wO oc11 od11 kV11 dc11 pm11 an11 cd11 ct11 sl11) (c11:W.codeIn K cd11 "must_be_place"=true) (k11:W.keepIn K (.ref f11)=true)
 (a12:W.nsIn K mainGlobals "tie_between"=some (some (.ref f12))) (l12:K.lookup f12=Lk "tie_between" v8 oc12 od12 kV12 dc12 pm12 an12 cd12 ct12 sl12) (c12:W.codeIn K cd12 "tie_between"=true) (k12:W.keepIn K (.ref f12)=true)
 (a13:W.nsIn K mainGlobals "neighbours"=some (some (.ref f13))) (l13:K.lookup f13=Lk "neighbours" YR oc13 od13 kV13 dc13 pm13 an13 cd13 ct13 sl13) (c13:W.codeIn K cd13 "neighbours"=true) (k13:W.keepIn K (.ref f13)=true)
 (a14:W.nsIn K mainGlobals "ties_away"=some (some (.ref f14))) (l14:K.lookup f14=Lk "ties_away" ZC oc14 od14 kV14 dc14 pm14 an14 cd14 ct14 sl14) (c14:W.codeIn K cd14 "ties_away"=true) (k14:W.keepIn K (.ref f14)=true)
 (a15:W.nsIn K mainGlobals "pieces"=some (some (.ref f15))) (l15:K.lookup f15=Lk "pieces" VV oc15 od15 kV15 dc15 pm15 an15 cd15 ct15 sl15) (c15:W.codeIn K cd15 "pieces"=true) (k15:W.keepIn K (.ref f15)=true)
 (a16:W.nsIn K mainGlobals "is_joined"=some (some (.ref f16))) (l16:K.lookup f16=Lk "is_joined" Ze oc16 od16 kV16 dc16 pm16 an16 cd16 ct16 sl16) (c16:W.codeIn K cd16 "is_joined"=true) (k16:W.keepIn K (.ref f16)=true)
 (a17:W.nsIn K mainGlobals "is_tree"=some (some (.ref f17))) (l17:K.lookup f17=Lk "is_tree" Wl oc17 od17 kV17 dc17 pm17 an17 cd17 ct17 sl17) (c17:W.codeIn K cd17 "is_tree"=true) (k17:W.keepIn K (.ref f17)=true)
 (a18:W.nsIn K mainGlobals "must_be_tree"=some (some (.ref f18))) (l18:K.lookup f18=Lk "must_be_tree" vw oc18 od18 kV18 dc18 pm18 an18 cd18 ct18 sl18) (c18:W.codeIn K cd18 "must_be_tree"=true) (k18:W.keepIn K (.ref f18)=true)
 (a19:W.nsIn K mainGlobals "outer_neighbours"=some (some (.ref f19))) (l19:K.lookup f19=Lk "outer_neighbours" xu oc19 od19 kV19 dc19 pm19 an19 cd19 ct19 sl19) (c19:W.codeIn K cd19 "outer_neighbours"=true) (k19:W.keepIn K (.ref f19)=true)
 (a20:W.nsIn K mainGlobals "inner_neighbours"=some (some (.ref f20))) (l20:K.lookup f20=Lk "inner_neighbours" xy oc20 od20 kV20 dc20 pm20 an20 cd20 ct20 sl20) (c20:W.codeIn K cd20 "inner_neighbours"=true) (k20:W.keepIn K (.ref f20)=true)
 (a21:W.nsIn K mainGlobals "outwards"=some (some (.ref f21))) (l21:K.lookup f21=Lk "outwards" Xw oc21 od21 kV21 dc21 pm21 an21 (.ref cc0) ct21 sl21) (c21:W.codeIn K (.ref cc0) "outwards"=true) (k21:W.keepIn K (.ref f21)=true)
 (a22:W.nsIn K mainGlobals "heights_from"=some (some (.ref f22))) (l22:K.lookup f22=Lk "heights_from" vt oc22 od22 kV22 dc22 pm22 an22 cd22 ct22 sl22) (c22:W.codeIn K cd22 "heights_from"=true) (k22:W.keepIn K (.ref f22)=true)
 (a23:W.nsIn K mainGlobals "ways_from"=some (some (.ref f23))) (l23:K.lookup f23=Lk "ways_from" Zk oc23 od23 kV23 dc23 pm23 an23 (.ref cc1) ct23 sl23) (c23:W.codeIn K (.ref cc1) "ways_from"=true) (k23:W.keepIn K (.ref f23)=true)
 (a24:W.nsIn K mainGlobals "way_through"=some (some (.ref f24))) (l24:K.lookup f24=Lk "way_through" Ya oc24 od24 kV24 dc24 pm24 an24 cd24 ct24 sl24) (c24:W.codeIn K cd24 "way_through"=true) (k24:W.keepIn K (.ref f24)=true)
 (a25:W.nsIn K mainGlobals "worst_from"=some (some (.ref f25))) (l25:K.lookup f25=Lk "worst_from" YQ oc25 od25 kV25 dc25 pm25 an25 cd25 ct25 sl25) (c25:W.codeIn K cd25 "worst_from"=true) (k25:W.keepIn K (.ref f25)=true)
 (a26:W.nsIn K mainGlobals "tree_need"=some (some (.ref f26))) (l26:K.lookup f26=Lk "tree_need" Zn oc26 od26 kV26 dc26 pm26 an26 cd26 ct26 sl26) (c26:W.codeIn K cd26 "tree_need"=true) (k26:W.keepIn K (.ref f26)=true)
 (a27:W.nsIn K mainGlobals "tree_worst"=some (some (.ref f27))) (l27:K.lookup f27=Lk "tree_worst" Y2 oc27 od27 kV27 dc27 pm27 an27 cd27 ct27 sl27) (c27:W.codeIn K cd27 "tree_worst"=true) (k27:W.keepIn K (.ref f27)=true)
 (a28:W.nsIn K mainGlobals "are_stones"=some (some (.ref f28))) (l28:K.lookup f28=Lk "are_stones" Y0 oc28 od28 kV28 dc28 pm28 an28 cd28 ct28 sl28) (c28:W.codeIn K cd28 "are_stones"=true) (k28:W.keepIn K (.ref f28)=true)
 (a29:W.nsIn K mainGlobals "must_be_heap"=some (some (.ref f29))) (l29:K.lookup f29=Lk "must_be_heap" ve oc29 od29 kV29 dc29 pm29 an29 cd29 ct29 sl29) (c29:W.codeIn K cd29 "must_be_heap"=true) (k29:W.keepIn K (.ref f29)=true)
 (a30:W.nsIn K mainGlobals "must_be_rooted"=some (some (.ref f30))) (l30:K.lookup f30=Lk "must_be_rooted" x6 oc30 od30 kV30 dc30 pm30 an30 cd30 ct30 sl30) (c30:W.codeIn K cd30 "must_be_rooted"=true) (k30:W.keepIn K (.ref f30)=true)
 (a31:W.nsIn K mainGlobals "gathered"=some (some (.ref f31))) (l31:K.lookup f31=Lk "gathered" Xs oc31 od31 kV31 dc31 pm31 an31 cd31 ct31 sl31) (c31:W.codeIn K cd31 "gathered"=true) (k31:W.keepIn K (.ref f31)=true)
 (a32:W.nsIn K mainGlobals "carried_to"=some (some (.ref f32))) (l32:K.lookup f32=Lk "carried_to" YU oc32 od32 kV32 dc32 pm32 an32 cd32 ct32 sl32) (c32:W.codeIn K cd32 "carried_to"=true) (k32:W.keepIn K (.ref f32)=true)
 (a33:W.nsIn K mainGlobals "carries"=some (some (.ref f33))) (l33:K.lookup f33=Lk "carries" WI oc33 od33 kV33 dc33 pm33 an33 cd33 ct33 sl33) (c33:W.codeIn K cd33 "carries"=true) (k33:W.keepIn K (.ref f33)=true)
 (a34:W.nsIn K mainGlobals "tree_steps"=some (some (.ref f34))) (l34:K.lookup f34=Lk "tree_steps" YK oc34 od34 kV34 dc34 pm34 an34 (.ref cc2) ct34 sl34) (c34:W.codeIn K (.ref cc2) "tree_steps"=true) (k34:W.keepIn K (.ref f34)=true)
 (a35:W.nsIn K mainGlobals "carry_holds"=some (some (.ref f35))) (l35:K.lookup f35=Lk "carry_holds" Yj oc35 od35 kV35 dc35 pm35 an35 cd35 ct35 sl35) (c35:W.codeIn K cd35 "carry_holds"=true) (k35:W.keepIn K (.ref f35)=true)
 (a36:W.nsIn K mainGlobals "_law_cell_at"=some (some (.ref f36))) (l36:K.lookup f36=Lk "_law_cell_at" vn oc36 od36 kV36 dc36 pm36 an36 cd36 ct36 sl36) (c36:W.codeIn K cd36 "_law_cell_at"=true) (k36:W.keepIn K (.ref f36)=true)
 (a37:W.nsIn K mainGlobals "_law_stir"=some (some (.ref f37))) (l37:K.lookup f37=Lk "_law_stir" Zo oc37 od37 kV37 dc37 pm37 an37 cd37 ct37 sl37) (c37:W.codeIn K cd37 "_law_stir"=true) (k37:W.keepIn K (.ref f37)=true)
 (a38:W.nsIn K mainGlobals "_law_tree_by"=some (some (.ref f38))) (l38:K.lookup f38=Lk "_law_tree_by" vA oc38 od38 kV38 dc38 pm38 an38 cd38 ct38 sl38) (c38:W.codeIn K cd38 "_law_tree_by"=true) (k38:W.keepIn K (.ref f38)=true)
 (a39:W.nsIn K mainGlobals "_law_played"=some (some (.ref f39))) (l39:K.lookup f39=Lk "_law_played" Yl oc39 od39 kV39 dc39 pm39 an39 cd39 ct39 sl39) (c39:W.codeIn K cd39 "_law_played"=true) (k39:W.keepIn K (.ref f39)=true)
 (a40:W.nsIn K mainGlobals "_law_heaps"=some (some (.ref f40))) (l40:K.lookup f40=Lk "_law_heaps" YE oc40 od40 kV40 dc40 pm40 an40 cd40 ct40 sl40) (c40:W.codeIn K cd40 "_law_heaps"=true) (k40:W.keepIn K (.ref f40)=true)
 (a41:W.nsIn K mainGlobals "law"=some (some (.ref f41))) (l41:K.lookup f41=Lk "law" zfC oc41 od41 kV41 dc41 pm41 an41 cd41 ct41 sl41) (c41:W.codeIn K cd41 "law"=true) (k41:W.keepIn K (.ref f41)=true)
 (gg0:W.nsIn K mainGlobals "MOST_PLACES"=some (some (.int 8 tk0)))
 (gg1:W.nsIn K mainGlobals "MOST_STONES"=some (some (.int 300 tk1)))
 (z0:W.nsIn K mainGlobals "all"=some none)
 (z1:W.nsIn K mainGlobals "bool"=some none)
 (z2:W.nsIn K mainGlobals "enumerate"=some none)
 (z3:W.nsIn K mainGlobals "int"=some none)
 (z4:W.nsIn K mainGlobals "isinstance"=some none)
 (z5:W.nsIn K mainGlobals "len"=some none)
 (z6:W.nsIn K mainGlobals "list"=some none)
 (z7:W.nsIn K mainGlobals "max"=some none)
 (z8:W.nsIn K mainGlobals "min"=some none)
 (z9:W.nsIn K mainGlobals "range"=some none)
 (z10:W.nsIn K mainGlobals "reversed"=some none)
 (z11:W.nsIn K mainGlobals "sorted"=some none)
 (z12:W.nsIn K mainGlobals "sum"=some none)
 (z13:W.nsIn K mainGlobals "tuple"=some none)
 : ∃ fd:FuncData,(∀ (s:Shared) (v:Value),BindsTo s fd ⟨[v],[]⟩ [("script",v)])/\∀ base:Heap,K.In base->base.Ns mainGlobals mg->(∀ t∈([(cc0,pp0,"outwards.<locals>.<lambda>"),(cc1,pp1,"ways_from.<locals>.<lambda>"),(cc2,pp2,"tree_steps.<locals>.<lambda>")]:TL),Xq base mg t.1 t.2.1 t.2.2)->y6 l.prog w K mg base CX0 30 fa fd ["script"] (zfH K):=by
 have e:=hfa.symm.trans (u2Z X G a41)
 cases e
 have T:∀ base:Heap,(∀ t∈([(cc0,pp0,"outwards.<locals>.<lambda>"),(cc1,pp1,"ways_from.<locals>.<lambda>"),(cc2,pp2,"tree_steps.<locals>.<lambda>")]:TL),Xq base mg t.1 t.2.1 t.2.2)->Txt K mg base ⟨_,_,_,_,_,_,_,_,_,_,_,_,_,_,_,_,_,_,_,_,_,_,_,_,_,_,_,_,_,_,_,_,_,_,_,_,_,_,_,_,_,_,_,_,_,_,_,_,_,_,_,_,_,_,_,_,_,_,_,_,_,_,_,_,_,_,_,_,_,_,_,_,_,_,_,_,_,_,_,_,_,_,_,_,tk0,tk1,cc0,pp0,cc1,pp1,cc2,pp2⟩:=λbase hL=>⟨
  mkD X G a0 l0 c0 k0 (bn1 λ_ _ _ _ _ _ _=>rfl),
  mkD X G a1 l1 c1 k1 (bn3 λ_ _ _ _ _ _ _ _ _=>rfl),
  mkD X G a2 l2 c2 k2 (bn3 λ_ _ _ _ _ _ _ _ _=>rfl),
  mkD X G a3 l3 c3 k3 (bn1 λ_ _ _ _ _ _ _=>rfl),
  mkD X G a4 l4 c4 k4 (bn2 λ_ _ _ _ _ _ _ _=>rfl),
  mkD X G a5 l5 c5 k5 (bn2 λ_ _ _ _ _ _ _ _=>rfl),
  mkD X G a6 l6 c6 k6 (bn2 λ_ _ _ _ _ _ _ _=>rfl),
  mkD X G a7 l7 c7 k7 (bn2 λ_ _ _ _ _ _ _ _=>rfl),
  mkD X G a8 l8 c8 k8 (bn2 λ_ _ _ _ _ _ _ _=>rfl),
  mkD X G a9 l9 c9 k9 (bn1 λ_ _ _ _ _ _ _=>rfl),
  mkD X G a10 l10 c10 k10 (bn1 λ_ _ _ _ _ _ _=>rfl),
  mkD X G a11 l11 c11 k11 (bn2 λ_ _ _ _ _ _ _ _=>rfl),
  mkD X G a12 l12 c12 k12 (bn2 λ_ _ _ _ _ _ _ _=>rfl),
  mkD X G a13 l13 c13 k13 (bn2 λ_ _ _ _ _ _ _ _=>rfl),
  mkD X G a14 l14 c14 k14 (bn2 λ_ _ _ _ _ _ _ _=>rfl),
  mkD X G a15 l15 c15 k15 (bn1 λ_ _ _ _ _ _ _=>rfl),
  mkD X G a16 l16 c16 k16 (bn1 λ_ _ _ _ _ _ _=>rfl),
  mkD X G a17 l17 c17 k17 (bn1 λ_ _ _ _ _ _ _=>rfl),
  mkD X G a18 l18 c18 k18 (bn1 λ_ _ _ _ _ _ _=>rfl),
  mkD X G a19 l19 c19 k19 (bn2 λ_ _ _ _ _ _ _ _=>rfl),
  mkD X G a20 l20 c20 k20 (bn2 λ_ _ _ _ _ _ _ _=>rfl),
  mkD X G a21 l21 c21 k21 (bn2 λ_ _ _ _ _ _ _ _=>rfl),
  mkD X G a22 l22 c22 k22 (bn2 λ_ _ _ _ _ _ _ _=>rfl),
  mkD X G a23 l23 c23 k23 (bn2 λ_ _ _ _ _ _ _ _=>rfl),
  mkD X G a24 l24 c24 k24 (bn2 λ_ _ _ _ _ _ _ _=>rfl),
  mkD X G a25 l25 c25 k25 (bn3 λ_ _ _ _ _ _ _ _ _=>rfl),
  mkD X G a26 l26 c26 k26 (bn3 λ_ _ _ _ _ _ _ _ _=>rfl),
  mkD X G a27 l27 c27 k27 (bn3 λ_ _ _ _ _ _ _ _ _=>rfl),
  mkD X G a28 l28 c28 k28 (bn2 λ_ _ _ _ _ _ _ _=>rfl),
  mkD X G a29 l29 c29 k29 (bn2 λ_ _ _ _ _ _ _ _=>rfl),
  mkD X G a30 l30 c30 k30 (bn3 λ_ _ _ _ _ _ _ _ _=>rfl),
  mkD X G a31 l31 c31 k31 (bn4 λ_ _ _ _ _ _ _ _ _ _=>rfl),
  mkD X G a32 l32 c32 k32 (bn3 λ_ _ _ _ _ _ _ _ _=>rfl),
  mkD X G a33 l33 c33 k33 (bn3 λ_ _ _ _ _ _ _ _ _=>rfl),
  mkD X G a34 l34 c34 k34 (bn3 λ_ _ _ _ _ _ _ _ _=>rfl),
  mkD X G a35 l35 c35 k35 (bn4 λ_ _ _ _ _ _ _ _ _ _=>rfl),
  mkD X G a36 l36 c36 k36 (bn2 λ_ _ _ _ _ _ _ _=>rfl),
  mkD X G a37 l37 c37 k37 (bn2 λ_ _ _ _ _ _ _ _=>rfl),
  mkD X G a38 l38 c38 k38 (bn2 λ_ _ _ _ _ _ _ _=>rfl),
  mkD X G a39 l39 c39 k39 (bn3 λ_ _ _ _ _ _ _ _ _=>rfl),
  mkD X G a40 l40 c40 k40 (bn4 λ_ _ _ _ _ _ _ _ _ _=>rfl),
  mkD X G a41 l41 c41 k41 (bn1 λ_ _ _ _ _ _ _=>rfl),
  u2Z X G gg0,
  u2Z X G gg1,
  p8 X G z0,
  p8 X G z1,
  p8 X G z2,
  p8 X G z3,
  p8 X G z4,
  p8 X G z5,
  p8 X G z6,
  p8 X G z7,
  p8 X G z8,
  p8 X G z9,
  p8 X G z10,
  p8 X G z11,
  p8 X G z12,
  p8 X G z13,
  rfl,
  hL _ (.head _),
  rfl,
  hL _ (.tail _ (.head _)),
  rfl,
  hL _ (.tail _ (.tail _ (.head _)))⟩
 exact⟨_,λs v=>.of_eq rfl,λbase _ _ hL=>zlR (T base hL)⟩
theorem walk {l:W.OpenLaw}{q:Program}{loose:List Str}{XP:(Str->Option Value)->Heap->Prop}{YP:World->Heap->Prop}{d:DefRec}{K:Params->W.Frag}{cc0 pp0 cc1 pp1 cc2 pp2:Addr}{dd0 dd1 dd2:DefRec}(hn:l.most=some 63)(hdf:d.params.defaults=[])
 (hY:∀ (w:World) (h:Heap),YP w h->(K w.params).In h)
 (ht0:∀ w:World,W.tabIn (K w.params) "outwards"=some (cc0,pp0)) (hr0:(PyProof.Rows.recsOf q).find? (λe:DefRec=>e.name == ("outwards":Str))=some dd0)
 (ht1:∀ w:World,W.tabIn (K w.params) "ways_from"=some (cc1,pp1)) (hr1:(PyProof.Rows.recsOf q).find? (λe:DefRec=>e.name == ("ways_from":Str))=some dd1)
 (ht2:∀ w:World,W.tabIn (K w.params) "tree_steps"=some (cc2,pp2)) (hr2:(PyProof.Rows.recsOf q).find? (λe:DefRec=>e.name == ("tree_steps":Str))=some dd2)
 (hq:([(cc0,pp0,"outwards.<locals>.<lambda>"),(cc1,pp1,"ways_from.<locals>.<lambda>"),(cc2,pp2,"tree_steps.<locals>.<lambda>")]:TL).all (λt=>(yN ([(cc0,pp0,"outwards.<locals>.<lambda>"),(cc1,pp1,"ways_from.<locals>.<lambda>"),(cc2,pp2,"tree_steps.<locals>.<lambda>")]:TL)).lookup t.2.1 == some t.2.2)=true) (hnK:∀ w:World,W.noTabs (K w.params)=true)
 (F:∀ (w:World) (mg:Str->Option Value) (fa:Addr) (h:Heap),(K w.params).In h->h.Ns mainGlobals mg->mg d.name=some (.ref fa) ->
  ∃ fd:FuncData,(∀ (s:Shared) (u:Value),BindsTo s fd ⟨[u],[]⟩ [("script",u)])/\∀ base:Heap,(K w.params).In base->base.Ns mainGlobals mg->(∀ t∈([(cc0,pp0,"outwards.<locals>.<lambda>"),(cc1,pp1,"ways_from.<locals>.<lambda>"),(cc2,pp2,"tree_steps.<locals>.<lambda>")]:TL),Xq base mg t.1 t.2.1 t.2.2)->y6 l.prog w (K w.params) mg base CX0 30 fa fd ["script"] (zfH (K w.params))) :
 PySem.W.WalkO q loose XP YP l.row.toRowW d [] (λf vs=>PySem.call f vs) :=
 L2.walk_ofL (tl:=([(cc0,pp0,"outwards.<locals>.<lambda>"),(cc1,pp1,"ways_from.<locals>.<lambda>"),(cc2,pp2,"tree_steps.<locals>.<lambda>")]:TL)) (n:=63) (k:=30) (x:="script") (CX:=λ_=>CX0) (sp:=λw=>zfH (K w.params)) hn (by decide) hdf ⟨rfl,by decide,by decide⟩ hY hq hnK
  (λw _ mg mb h X T=>u2j.mpr ⟨u3u T X hr0 (ht0 w),u2j.mpr ⟨u3u T X hr1 (ht1 w),u2j.mpr ⟨u3u T X hr2 (ht2 w),λ_ h=>nomatch h⟩⟩⟩) F (λ_ _ a ns hl hS=>⟨a,ns,rfl,hS,hl,λ_=>rfl⟩) λ_ _ _ _ _ z=>z
end Mz
open PySem PySem.W PyProof.Rows
theorem PySem.W.Fast.tw795118331972294867:True:=⟨⟩
theorem PySem.W.Fast.tw7438094903823929857:True:=⟨⟩
theorem PySem.W.Fast.tw15422498867353577954:True:=⟨⟩
theorem PySem.W.Fast.tw3938664722067026478:True:=⟨⟩
theorem PySem.W.Fast.tw17671904008555721163:True:=⟨⟩
theorem PySem.W.Fast.tw2317183542998436485:True:=⟨⟩
theorem PySem.W.Fast.tw1822204323805108181:True:=⟨⟩
theorem PySem.W.Fast.tw4747575478992511003:True:=⟨⟩
theorem PySem.W.Fast.tw14381402745706737711:True:=⟨⟩
theorem PySem.W.Fast.tw16926817697497773458:True:=⟨⟩
theorem PySem.W.Fast.tw9214014313836288278:True:=⟨⟩
theorem PySem.W.Fast.tw5246099827989730953:True:=⟨⟩
theorem PySem.W.Fast.tw11038648986740587951:True:=⟨⟩
theorem PySem.W.Fast.tw5421622274457515567:True:=⟨⟩
theorem PySem.W.Fast.tw12319597663268483856:True:=⟨⟩
theorem PySem.W.Fast.tw11992678109301808914:True:=⟨⟩
theorem PySem.W.Fast.tw11340054233956148712:True:=⟨⟩
theorem PySem.W.Fast.tw4973438787220373213:True:=⟨⟩
theorem PySem.W.Fast.tw8227436165920265478:True:=⟨⟩
theorem PySem.W.Fast.tw13956291348052566835:True:=⟨⟩
theorem PySem.W.Fast.tw17182471861794913089:True:=⟨⟩
theorem PySem.W.Fast.tw7070830196659652355:True:=⟨⟩
theorem PySem.W.Fast.tw10934836406613635355:True:=⟨⟩
theorem PySem.W.Fast.tw1940523267160676003:True:=⟨⟩
theorem PySem.W.Fast.tw9416087840382097967:True:=⟨⟩
theorem PySem.W.Fast.tw2946263086429143522:True:=⟨⟩
theorem PySem.W.Fast.tw11842177862743646869:True:=⟨⟩
theorem PySem.W.Fast.tw11355652737722004128:True:=⟨⟩
set_option maxRecDepth 100000 in
set_option maxHeartbeats 0 in
theorem PySem.Challenge.cw_twoforone_k35_whole_stones_wanted_are_en_holds : PySem.Challenge.rw_twoforone_k35_whole_stones_wanted_are_en.Holds := by
  w_on;o_law;k_head;(case hw=>w_witness2)
  k_fill
  refine Mz.walk (l:=PySem.Challenge.rw_twoforone_k35_whole_stones_wanted_are_en) (cc0:=?cc0) (pp0:=?pp0) (dd0:=?dd0) (cc1:=?cc1) (pp1:=?pp1) (dd1:=?dd1) (cc2:=?cc2) (pp2:=?pp2) (dd2:=?dd2) rfl rfl (fun w h Y=>PySem.W.km_in_of Y) ?ht0 ?hr0 ?ht1 ?hr1 ?ht2 ?hr2 ?hq ?hnK ?F
  case ht0 =>
    intro w
    refine' L2.tab_mk ?ta ?tl ?tk ?tc ?tv
    case ta | tl=>k_is
    case tk=>rfl
    case tc=>k_is
    case tv=>rfl
  case ht1 =>
    intro w
    refine' L2.tab_mk ?ta ?tl ?tk ?tc ?tv
    case ta | tl=>k_is
    case tk=>rfl
    case tc=>k_is
    case tv=>rfl
  case ht2 =>
    intro w
    refine' L2.tab_mk ?ta ?tl ?tk ?tc ?tv
    case ta | tl=>k_is
    case tk=>rfl
    case tc=>k_is
    case tv=>rfl
  case hr0=>rfl
  case hr1=>rfl
  case hr2=>rfl
  case hq=>kernel_rfl
  case hnK =>
    intro w
    kernel_rfl
  case F =>
    intro w mg fa h KX G hmg
    refine' Mz.all_mk KX G hmg ?a0 ?l0 ?c0 ?k0 ?a1 ?l1 ?c1 ?k1 ?a2 ?l2 ?c2 ?k2 ?a3 ?l3 ?c3 ?k3 ?a4 ?l4 ?c4 ?k4 ?a5 ?l5 ?c5 ?k5 ?a6 ?l6 ?c6 ?k6 ?a7 ?l7 ?c7 ?k7 ?a8 ?l8 ?c8 ?k8 ?a9 ?l9 ?c9 ?k9 ?a10 ?l10 ?c10 ?k10 ?a11 ?l11 ?c11 ?k11 ?a12 ?l12 ?c12 ?k12 ?a13 ?l13 ?c13 ?k13 ?a14 ?l14 ?c14 ?k14 ?a15 ?l15 ?c15 ?k15 ?a16 ?l16 ?c16 ?k16 ?a17 ?l17 ?c17 ?k17 ?a18 ?l18 ?c18 ?k18 ?a19 ?l19 ?c19 ?k19 ?a20 ?l20 ?c20 ?k20 ?a21 ?l21 ?c21 ?k21 ?a22 ?l22 ?c22 ?k22 ?a23 ?l23 ?c23 ?k23 ?a24 ?l24 ?c24 ?k24 ?a25 ?l25 ?c25 ?k25 ?a26 ?l26 ?c26 ?k26 ?a27 ?l27 ?c27 ?k27 ?a28 ?l28 ?c28 ?k28 ?a29 ?l29 ?c29 ?k29 ?a30 ?l30 ?c30 ?k30 ?a31 ?l31 ?c31 ?k31 ?a32 ?l32 ?c32 ?k32 ?a33 ?l33 ?c33 ?k33 ?a34 ?l34 ?c34 ?k34 ?a35 ?l35 ?c35 ?k35 ?a36 ?l36 ?c36 ?k36 ?a37 ?l37 ?c37 ?k37 ?a38 ?l38 ?c38 ?k38 ?a39 ?l39 ?c39 ?k39 ?a40 ?l40 ?c40 ?k40 ?a41 ?l41 ?c41 ?k41 ?gg0 ?gg1 ?z0 ?z1 ?z2 ?z3 ?z4 ?z5 ?z6 ?z7 ?z8 ?z9 ?z10 ?z11 ?z12 ?z13
    case a0 | l0 | c0 | k0 | a1 | l1 | c1 | k1 | a2 | l2 | c2 | k2 | a3 | l3 | c3 | k3 | a4 | l4 | c4 | k4 | a5 | l5 | c5 | k5 | a6 | l6 | c6 | k6 | a7 | l7 | c7 | k7 | a8 | l8 | c8 | k8 | a9 | l9 | c9 | k9 | a10 | l10 | c10 | k10 | a11 | l11 | c11 | k11 | a12 | l12 | c12 | k12 | a13 | l13 | c13 | k13 | a14 | l14 | c14 | k14 | a15 | l15 | c15 | k15 | a16 | l16 | c16 | k16 | a17 | l17 | c17 | k17 | a18 | l18 | c18 | k18 | a19 | l19 | c19 | k19 | a20 | l20 | c20 | k20 | a21 | l21 | c21 | k21 | a22 | l22 | c22 | k22 | a23 | l23 | c23 | k23 | a24 | l24 | c24 | k24 | a25 | l25 | c25 | k25 | a26 | l26 | c26 | k26 | a27 | l27 | c27 | k27 | a28 | l28 | c28 | k28 | a29 | l29 | c29 | k29 | a30 | l30 | c30 | k30 | a31 | l31 | c31 | k31 | a32 | l32 | c32 | k32 | a33 | l33 | c33 | k33 | a34 | l34 | c34 | k34 | a35 | l35 | c35 | k35 | a36 | l36 | c36 | k36 | a37 | l37 | c37 | k37 | a38 | l38 | c38 | k38 | a39 | l39 | c39 | k39 | a40 | l40 | c40 | k40 | a41 | l41 | c41 | k41 | gg0 | gg1 | z0 | z1 | z2 | z3 | z4 | z5 | z6 | z7 | z8 | z9 | z10 | z11 | z12 | z13=>k_is
