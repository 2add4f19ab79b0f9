import PyProof.Rows.All
import Wide.All
import OpenK.AllK
import Wide.FinOn
import Lean
import PyProof.EqAt
import PyProof.EqKinds
import PyProof.TupleCall
import PyProof.NeKinds
import PySem.Challenge.RW_twoforone_k06_refused_of_webs
set_option Elab.async false
set_option linter.all false
set_option maxRecDepth 100000
set_option maxHeartbeats 4000000
def i0:=@PySem.Around.under_plainId
def p7:=@Array.getElem?_eq_getElem
def u0j:=@Array.getElem?_eq_some_iff
def u0n:=@Array.getElem?_toList
def r8:=@Array.length_toList
def u15:=@Array.perm_iff_toList_perm
def j3:=@Bool.and_eq_true
def m9:=@Bool.and_false
def u2H:=@Bool.and_true
def u1r:=@Bool.eq_false_iff
def u09:=@Bool.eq_iff_iff
def u0o:=@Bool.false_eq_true
def u7:=@Bool.false_ne_true
def u2t:=@Bool.not_eq_true'
def u2I:=@Bool.or_false
def u0Q:=@PySem.Calls.call_function_entry
def u0B:=@PySem.Calls.spliced_cons
def u0K:=@PySem.Calls.spliced_nil
def u1a:=@PySem.Code.quiet_builtin
def u0E:=@PySem.F.called_set
def u1U:=@PySem.F.plain_extend_loop
def u1s:=@PySem.F.plain_list_iadd
def u0k:=@PySem.F.slot_tuple_iterator_next
def u0d:=@PySem.Heap.SameBut.update
def u5:=@PySem.Heap.get?_push_of_some
def q2:=@PySem.Heap.get?_push_size
def r9:=@PySem.Heap.get?_update_other
def k9:=@PySem.Heap.get?_update_self
def t3:=@PySem.Heap.lt_size
def s0:=@PySem.Heap.size_push
def m5:=@Int.emod_lt_of_pos
def l4:=@Int.emod_nonneg
def u1b:=@Int.eq_ofNat_of_zero_le
def u17:=@Int.fdiv_eq_ediv_of_nonneg
def h8:=@Int.le_refl
def u02:=@Int.le_trans
def o4:=@Int.toNat_natCast
def u0e:=@Int.toNat_of_nonneg
def u1z:=@Int.zero_add
def u1t:=@PyProof.Rows.KeyOrd.kle_of_klt
def u0f:=@PyProof.Rows.KeyOrd.kle_refl
def u1D:=@PyProof.Rows.KeyOrd.kle_trans
def u0R:=@List.Perm.refl
def u1N:=@List.all_cons
def m7:=@List.all_eq_true
def u1A:=@List.all_map
def u1O:=@List.any_cons
def u2u:=@List.append_assoc
def o9:=@List.append_nil
def u0q:=@List.drop_eq_getElem_cons
def u1E:=@List.drop_length
def u2N:=@List.ext_getElem
def u0L:=@List.ext_getElem?
def u1V:=@List.filterMap_cons
def u0F:=@List.find?_cons
def u2j:=@List.findIdx?_eq_none_iff
def u0t:=@List.flatten_cons
def u2Y:=@List.forIn_cons
def u2k:=@List.forIn_nil
def g9:=@List.getD_eq_getElem?_getD
def m6:=@List.getElem?_append_left
def p0:=@List.getElem?_append_right
def q1:=@List.getElem?_eq_getElem
def g8:=@List.getElem?_eq_none
def q0:=@List.getElem?_eq_some_iff
def j1:=@List.getElem?_map
def u1W:=@List.getElem?_range
def l5:=@List.getElem?_replicate
def m8:=@List.getElem?_set
def j0:=@List.getElem?_set_ne
def n0:=@List.getElem?_set_self
def u2l:=@List.getElem?_zip_eq_some
def u1F:=@List.getElem_map
def u0l:=@List.getElem_mem
def u0g:=@List.getElem_of_mem
def j4:=@List.length_append
def g0:=@List.length_cons
def u0V:=@List.length_drop
def l6:=@List.length_eq_zero_iff
def u2v:=@List.length_erase_of_mem
def u8:=@List.length_map
def u1X:=@List.length_nil
def i8:=@List.length_replicate
def u1c:=@List.length_set
def u0m:=@List.length_take
def n9:=@List.map_append
def u0Z:=@List.map_congr_left
def r4:=@List.map_cons
def i1:=@List.map_map
def u2Z:=@List.map_set
def n7:=@List.mem_append
def u1H:=@List.mem_append_left
def k7:=@List.mem_append_right
def q4:=@List.mem_cons
def j8:=@List.mem_cons_of_mem
def r0:=@List.mem_cons_self
def p9:=@List.mem_filter
def u1d:=@List.mem_filterMap
def u2O:=@List.mem_flatMap
def f9:=@List.mem_map
def k6:=@List.mem_of_getElem?
def l0:=@List.mem_range
def t7:=@List.mem_singleton
def u1e:=@List.nodup_cons
def u0W:=@List.not_mem_nil
def u1Y:=@List.of_mem_zip
def h7:=@List.pairwise_cons
def u20:=@List.range_succ
def i3:=@List.replicate_succ
def u1u:=@List.reverse_cons
def t5:=@List.size_toArray
def u1Z:=@List.sum_append
def u1P:=@List.sum_cons
def u0z:=@List.take_length
def u1n:=@List.take_of_length_le
def u0S:=@List.take_succ
def u2a:=@List.zip_cons_cons
def u0y:=@Nat.add_le_add_left
def u0X:=@Nat.le_add_right
def u1f:=@Nat.le_antisymm
def f6:=@Nat.le_of_lt
def g4:=@Nat.le_of_lt_succ
def m4:=@Nat.le_of_not_lt
def t4:=@Nat.le_refl
def u0P:=@Nat.le_sub_one_of_lt
def u0h:=@Nat.le_succ
def k8:=@Nat.le_trans
def l7:=@Nat.lt_irrefl
def j9:=@Nat.lt_of_le_of_lt
def u0C:=@Nat.lt_of_le_of_ne
def t8:=@Nat.lt_of_lt_of_le
def u2w:=@Nat.lt_of_succ_lt
def u1o:=@Nat.lt_of_succ_lt_succ
def i4:=@Nat.lt_succ_of_lt
def u2P:=@Nat.lt_succ_self
def u0G:=@Nat.min_eq_left
def u2Q:=@Nat.min_le_right
def u21:=@Nat.min_self
def u03:=@Nat.ne_of_gt
def q5:=@Nat.ne_of_lt
def u1I:=@Nat.sub_le_sub_right
def u1G:=@Nat.succ_le_succ
def m3:=@Nat.zero_add
def o5:=@Nat.zero_le
def u2x:=@Nat.zero_lt_of_lt
def u0b:=@Ne.symm
def u1g:=@PySem.Obj.data_mapFields
def u4:=@Option.bind_eq_some_iff
def j7:=@Option.bind_some
def u04:=@Option.isSome_iff_exists
def u0M:=@Option.isSome_map
def u9:=@Option.map_eq_some_iff
def n8:=@Option.some.inj
def u1Q:=@PySem.Paired.length
def u0H:=@PySem.PassesOwn.never
def u3c:=@Prod.ext
def u0T:=@PyProof.Rows.F.entry_set_update_loop
def u0c:=@PyProof.Rows.F.plain_set_update_loop
def u10:=@PyProof.Rows.args_list_sort
def u2m:=@PyProof.Rows.args_sorted1
def u1B:=@PyProof.Rows.callWith_builtin1
def g5:=@PyProof.Rows.callWith_type1
def u1R:=@PyProof.Rows.entry_list_sort
def u2n:=@PyProof.Rows.entry_sorted
def u2y:=@PyProof.Rows.kind_sorted
def u2o:=@PyProof.Rows.plain_sorted
def u11:=@PyProof.Rows.slot_list_sort
def g6:=@PyProof.Rows.slot_tuple_getitem
def u0U:=@PySem.F.args_dict_keyiterator_next_1
def u05:=@PySem.F.args_tuple_add_2
def u12:=@PySem.F.attrBase_ValueError
def u00:=@PySem.F.entry_dict_keyiterator_next
def u1h:=@PySem.F.entry_tuple_add
def i2:=@PySem.F.excBase_ValueError
def l8:=@PySem.F.plainAttrs_list
def p6:=@PySem.F.slot_dict_keyiterator_next
def u2z:=@PySem.F.slot_list_append
def u2A:=@PySem.F.slot_list_extend
def u1p:=@PySem.F.slot_tuple_add
def u2B:=@PySem.F.type_list_append
def u2C:=@PySem.F.type_list_extend
def u2b:=@PySem.W.callWith_K
def u1q:=@PySem.W.cellsFrom_some
def i5:=@PySem.W.hideAll_get
def u1J:=@PySem.W.hideAll_none
def u2c:=@PySem.W.isNs_of_in
def p5:=@PySem.W.kia_one
def u1v:=@PySem.W.kitx_dict
def u1K:=@PySem.W.looks_findIn
def f7:=@PySem.W.mg_of
def u2d:=@PySem.W.of_hideAll
def f8:=@PySem.mem_of_lookup
def u2e:=@PySem.SeqAt.EqAt.int_int
def u2f:=@PySem.SeqAt.EqAt.of_refs
def p3:=@beq_eq_false_iff_ne
def u0u:=@beq_iff_eq
def u0A:=@beq_self_eq_true
def u0I:=@PySem.builtinLookup_eq_fast
def u2D:=@PySem.call_meets
def i9:=@PySem.codeAny_builtin
def u0s:=@PySem.codeAny_call_builtin
def u1L:=@PySem.codeAny_extend_loopS
def u06:=@PySem.codeAny_mono
def i6:=@congrArg
def j5:=@decide_eq_false
def l9:=@decide_eq_false_iff_not
def q7:=@decide_eq_true
def j6:=@decide_eq_true_eq
def u1S:=@if_false
def t9:=@if_neg
def t6:=@if_pos
def u2p:=@if_true
def u25:=@PySem.intKind_is
def u2q:=@PySem.isSubtype_type
def u2g:=@of_decide_eq_false
def j2:=@of_decide_eq_true
def u2h:=@PyProof.Rows.pairsOf_size
def u0N:=@PySem.plainId_quiet
def u0r:=@PySem.sizeLine_eq
def u1i:=@PySem.tupleKind_room_in1
def u13:=@PySem.typeLookup_type
def u1j:=@PySem.wpAny_Call_Name_kw
def h9:=@PySem.wpAny_askSetting
def u0p:=@PySem.wpAny_attempt
def u0:=@PySem.wpAny_bind
def u1w:=@PySem.wpAny_call
def o0:=@PySem.wpAny_callSpecial?_slot
def o7:=@PySem.wpAny_call_entry
def u07:=@PySem.wpAny_comprehension_free
def u1x:=@PySem.wpAny_dictEntries
def u1k:=@PySem.wpAny_execs_nil
def u01:=@PySem.wpAny_field
def u2r:=@PySem.wpAny_fieldsOf
def r6:=@PySem.wpAny_holding
def u0Y:=@PySem.wpAny_isInstance
def u0i:=@PySem.wpAny_loadPart'
def u0O:=@PySem.wpAny_loadPart_at
def o8:=@PySem.wpAny_mono
def n6:=@PySem.wpAny_newObj_type
def u0J:=@PySem.wpAny_of_eq
def u0v:=@PySem.wpAny_passesOwn
def u6:=@PySem.wpAny_pure
def u1y:=@PySem.wpAny_pyIter_enum
def u2E:=@PySem.wpAny_pyIter_list
def u2F:=@PySem.wpAny_pyIter_slot
def u0D:=@PySem.wpAny_pyIter_tuple
def u08:=@PySem.wpAny_rule
def u2s:=@PySem.wpAny_setField
def u2i:=@PySem.wpAny_setField_rec
def u2G:=@PySem.wpAny_setState_of
def u14:=@PySem.wpAny_specialOf
def u1l:=@PySem.wpAny_standAt
def p8:=@PySem.wpAny_truthy_bool
def u0a:=@PySem.wpAny_typeNameOfWhole_keyiter
def u0w:=@PySem.wpAny_typeNameOf_keyiter
def u0x:=@PySem.wpAny_typeOf
def u1m:=@PySem.wpAny_updateSeq
def p4:=@PyProof.Rows.wpS_bind
def u1C:=@PyProof.Rows.wpS_forRange
def i7:=@PyProof.Rows.wpS_pure
noncomputable section
namespace L2
open PySem PySem.Spec PyProof.Rows
abbrev Key:=Sum Int Str
def zgt:Key->Value->Bool
 | .inl k,v=>Value.isInt k v
 | .inr x,v=>Value.isStrOf x v
def keyH (w:World):Key->Int
 | .inl k=>hashInt k
 | .inr x=>hashStr w x
theorem yH:∀ {k:Key} {v:Value},zgt k v=true->(∃ i t,k=Sum.inl i/\v=Value.int i t)\/(∃ x t,k=Sum.inr x/\v=Value.str x t)
 | .inl i,v,h=>by
  obtain⟨t,e⟩:=Value.isInt_shape (k:=i) (v:=v) h
  exact .inl ⟨i,t,rfl,e⟩
 | .inr x,v,h=>by
  obtain⟨t,e⟩:=Value.isStrOf_shape (x:=x) (v:=v) h
  exact .inr ⟨x,t,rfl,e⟩
theorem zjs (i:Int)(t:Tok):zgt (.inl i) (.int i t)=true:=by simp[zgt,Value.isInt]
theorem zgR (x:Str)(t:Tok):zgt (.inr x) (.str x t)=true:=by simp[zgt,Value.isStrOf]
theorem zp2 (a b:Int):decide ((Sum.inl a:Key)=Sum.inl b)=(a == b):=by
 by_cases e:a=b
 .subst e;simp
 .have h:¬ (Sum.inl a:Key)=Sum.inl b:=λq=>e (Sum.inl.inj q)
  rw[j5 h]
  exact(p3.mpr e).symm
theorem zqm (a b:Str):decide ((Sum.inr a:Key)=Sum.inr b)=decide (a=b):=by
 by_cases e:a=b
 .subst e;simp
 .have h:¬ (Sum.inr a:Key)=Sum.inr b:=λq=>e (Sum.inr.inj q)
  rw[j5 h,j5 e]
theorem zqo (a:Int)(b:Str):decide ((Sum.inl a:Key)=Sum.inr b)=false:=j5 (λq=>nomatch q)
theorem zoO (a:Str)(b:Int):decide ((Sum.inr a:Key)=Sum.inl b)=false:=j5 (λq=>nomatch q)
def xu (prog:Program)(w:World):PySem.KeyKind prog w Key where
 is:=zgt
 hash:=keyH w
 inj:=λv a b ha hb=>by
  rcases yH ha with ⟨i,t,rfl,rfl⟩ | ⟨x,t,rfl,rfl⟩
  .rcases yH hb with ⟨j,u,rfl,e⟩ | ⟨y,u,rfl,e⟩
   .injection e with e1 _;rw[e1]
   .exact nomatch e
  .rcases yH hb with ⟨j,u,rfl,e⟩ | ⟨y,u,rfl,e⟩
   .exact nomatch e
   .injection e with e1 _;rw[e1]
 byValue:=λk v h=>by
  rcases yH h with ⟨i,t,rfl,rfl⟩ | ⟨x,t,rfl,rfl⟩ <;> rfl
 pyHash:=λhv h=>by
  rcases yH hv with ⟨i,t,rfl,rfl⟩ | ⟨x,t,rfl,rfl⟩
  .exact wpAny_pyHash_int h
  .exact wpAny_pyHash_str h
 eqBool:=λhu hv h=>by
  rcases yH hu with ⟨i,t,rfl,rfl⟩ | ⟨x,t,rfl,rfl⟩
  .rcases yH hv with ⟨j,u,rfl,rfl⟩ | ⟨y,u,rfl,rfl⟩
   .rw[zp2]at h;exact wpAny_eqBool_int h
   .rw[zqo]at h;exact SeqAt.EqAt.int_str i t y u _ _ _ _ h
  .rcases yH hv with ⟨j,u,rfl,rfl⟩ | ⟨y,u,rfl,rfl⟩
   .rw[zoO]at h;exact SeqAt.EqAt.str_int x t j u _ _ _ _ h
   .rw[zqm]at h;exact wpAny_eqBool_str h
 «strs»:=λk x t v h=>by
  rcases yH h with ⟨i,u,rfl,e⟩ | ⟨y,u,rfl,e⟩
  .exact nomatch e
  .injection e with e1 _
   subst e1
   cases v <;> rfl
theorem zdC (a:Program)(w:World)(i:Int)(t:Tok):(xu a w).is (.inl i) (.int i t)=true:=zjs i t
theorem zd8 (a:Program)(w:World)(x:Str)(t:Tok):(xu a w).is (.inr x) (.str x t)=true:=zgR x t
inductive V where
 | non | bl (b:Bool) | int (i:Int) | str (x:Str) | byt (b:Array UInt8) | flt (b:UInt64) | ref (a:Addr) | ty (n:String)
 deriving DecidableEq
def xt:V->Value->Prop
 | .non,u=>u=Value.none
 | .bl b,u=>u=Value.bool b
 | .int i,u=>∃ t,u=Value.int i t
 | .str x,u=>∃ t,u=Value.str x t
 | .byt b,u=>∃ t,u=Value.bytes b t
 | .flt b,u=>∃ t,u=Value.float b t
 | .ref a,u=>u=Value.ref a
 | .ty n,u=>u=Value.type n
abbrev yZ:List V->List Value->Prop:=Paired xt
theorem yZ.length {a:List V}{b:List Value}(r:yZ a b):a.length=b.length:=u1Q r
theorem yZ.get:∀ {a:List V} {b:List Value} {i:Nat} {x:V},yZ a b->a[i]?=some x->∃ u,b[i]?=some u/\xt x u
 | _,_,_,_,.nil,e=>by simp at e
 | _,_,0,_,.cons r _,e=>by simp at e;subst e;exact⟨_,rfl,r⟩
 | _,_,i+1,x,.cons _ t,e=>by
  obtain⟨u,c,d⟩:=yZ.get (i:=i) (x:=x) t (by simpa using e)
  exact⟨u,by simpa using c,d⟩
theorem yZ.set {x:V}{u:Value}(r:xt x u):∀ {a:List V} {b:List Value} (i:Nat),yZ a b->yZ (a.set i x) (b.set i u)
 | _,_,_,.nil=>.nil
 | _,_,0,.cons _ t=>.cons r t
 | _,_,i+1,.cons q t=>.cons q (yZ.set r i t)
theorem yZ.append:∀ {a b:List V} {c d:List Value},yZ a c->yZ b d->yZ (a++b) (c++d):=by
 intro a b c d h s
 induction h with
 | nil=>exact s
 | cons r t e=>exact .cons r e
theorem yZ.take:∀ {a:List V} {b:List Value} (n:Nat),yZ a b->yZ (a.take n) (b.take n)
 | _,_,0,_=>.nil
 | _,_,_+1,.nil=>.nil
 | _,_,n+1,.cons r t=>.cons r (yZ.take n t)
theorem yZ.drop:∀ {a:List V} {b:List Value} (n:Nat),yZ a b->yZ (a.drop n) (b.drop n)
 | _,_,0,r=>r
 | _,_,_+1,.nil=>.nil
 | _,_,n+1,.cons _ t=>yZ.drop n t
def zf7:Option V->Option Value->Prop
 | some v,some u=>xt v u
 | none,none=>True
 | _,_=>False
def KV {κ:Type}:List (κ × V)->List (κ × Value)->Prop:=Paired λ(p:κ × V) (q:κ × Value)=>p.1=q.1/\xt p.2 q.2
def kV:Key->V
 | .inl i=>.int i
 | .inr x=>.str x
inductive HO where
 | lst (xs:List V)
 | tup (xs:List V)
 | dK (kvs:List (Key × V)) | dT (kvs:List (List Key × V))
 | set (S:Int->Bool) (n:Nat)
 | ins (C dx:Addr) (fs:List (Str × V))
 | own (x:Addr)
 | xd (fs:List (Str × V))
 | met (f x:Addr)
 | rng (lo hi:Int)
 | frz (o:Obj) (u:HO)
 | tbl (ps:Array Value)
 | ext (φ:Heap->Prop)
abbrev Hp:=Addr->Option HO
def upd (H:Hp)(a:Addr)(o:HO):Hp:=λb=>if b=a then some o else H b
theorem zr {H:Hp}{a:Addr}{o:HO}:upd H a o a=some o:=by unfold upd;rw[t6 rfl]
theorem zu {H:Hp}{a b:Addr}{o:HO}(h:b≠a):upd H a o b=H b:=by unfold upd;rw[t9 h]
theorem zdu {H:Hp}{a:Addr}{o u:HO}:upd (upd H a o) a u=upd H a u:=by
 funext b;unfold upd;split <;> rfl
theorem zop {H:Hp}{a b:Addr}{o u:HO}(h:H a=some o)(c:H b=some u)(d:o≠u):a≠b:=by
 intro e;subst e;rw[h]at c;exact d (n8 c)
theorem zo {H:Hp}{a b:Addr}{o:HO}(h:H a=some o)(c:H b=none):a≠b:=by
 intro e;subst e;rw[h]at c;cases c
section
variable (P:Program)(w:World)
def yJ (H:Hp)(h:Heap)(a:Addr):HO->Prop
 | .lst d=>d.length<=sizeLine/\∃ (c:List Value) (n:Nat),yZ d c/\h.get? a=some { cls:=.type "list",data:=.seq c.toArray n }
 | .tup d=>d.length<=sizeLine/\∃ c:List Value,yZ d c/\IsTup h a c.toArray
 | .dK b=>b.length<=sizeLine/\(a == sysModules)=false/\∃ j,KV b j/\h.DictOf (xu P w) a j
 | .dT b=>b.length<=sizeLine/\(a == sysModules)=false/\∃ d:List (List Key × Addr × Value),
  Paired (λ(p:List Key × V) (q:List Key × Addr × Value)=>p.1=q.1/\H q.2.1=some (.tup (p.1.map kV))/\xt p.2 q.2.2) b d /\
  ∃ o m r,h.get? a=some o/\o.ExactDict/\o.data=.dict m r/\m.toList=d.map (entryOfKey (tupleKind (xu P w)))/\(d.map (·.1)).Nodup
 | .set S n=>h.SetOf (intKind P w) a S n
 | .ins C i g=>H i=some (.own a)/\g.length<=1000/\i≠a/\h.get? a=some (W.instObj C i) /\
  ∃ e,h.Ns1 i e/\(∀ f,zf7 (g.lookup f) (e f))/\PySem.Within e (g.map (·.1))
 | .own _=>∃ o,h.get? a=some o
 | .xd g=>∃ e,h.Ns1 a e/\∀ f,zf7 (g.lookup f) (e f)
 | .rng s z=>∃ t u v,h.get? a=some { cls:=.type "range",data:=.fields #[.int s t,.int z u,.int 1 v] }
 | .frz o u=>h.get? a=some o/\yJ H h a u
 | .tbl y=>h.get? a=some { cls:=.none,data:=.fields y }
 | .met f x=>h.get? a=some (W.methodObj (.ref f) (.ref x))
 | .ext φ=>φ h/\(∃ o,h.get? a=some o)/\∀ k l:Heap,φ k->(∀ o,k.get? a=some o->l.get? a=some o)->φ l
def HOk (H:Hp)(h:Heap):Prop:=∀ a o,H a=some o->yJ P w H h a o
end
section
variable {P:Program}{w:World}{H H':Hp}{h h':Heap}{a:Addr}{o:HO}
theorem yJ.lt (x:yJ P w H h a o):a < h.objs.size:=by
 cases o with
 | lst d=>obtain⟨_,_,_,_,e⟩:=x;exact t3 e
 | tup d=>obtain⟨_,_,_,p⟩:=x;exact p.lt
 | dK b=>obtain⟨_,_,_,_,o,_,_,e,_⟩:=x;exact t3 e
 | dT b=>obtain⟨_,_,_,_,o,_,_,e,_⟩:=x;exact t3 e
 | set S n=>obtain⟨o,_,_,_,e,_⟩:=x;exact t3 e
 | ins C i c=>obtain⟨_,_,_,e,_⟩:=x;exact t3 e
 | own y=>obtain⟨_,e⟩:=x;exact t3 e
 | xd c=>obtain⟨_,⟨_,_,_,e,_⟩,_⟩:=x;exact t3 e
 | rng j l=>obtain⟨_,_,_,e⟩:=x;exact t3 e
 | frz g u=>obtain⟨e,_⟩:=x;exact t3 e
 | tbl k=>exact t3 (show h.get? a=some _ from x)
 | met f y=>exact t3 (show h.get? a=some _ from x)
 | ext φ=>obtain⟨_,⟨_,e⟩,_⟩:=x;exact t3 e
theorem Paired.mapP {α β:Type}{F G:α->β->Prop}:∀ {d:List α} {c:List β},Paired F d c->(∀ a b,F a b->G a b)->Paired G d c:=by
 intro g i h f
 induction h with
 | nil=>exact .nil
 | cons r t e=>exact .cons (f _ _ r) e
theorem yJ.stay (x:yJ P w H h a o)(k:∀ b u,(b=a\/H b=some (.own a))->h.get? b=some u->h'.get? b=some u)
 (L:∀ b,H b=some (.own a)->H' b=some (.own a)) (F:∀ b m,H b=some (.tup m)->H' b=some (.tup m)):yJ P w H' h' a o:=by
 induction o with
 | lst m=>obtain⟨z,l,n,r,e⟩:=x;exact⟨z,l,n,r,k _ _ (.inl rfl) e⟩
 | tup m=>obtain⟨z,l,r,g,e,c⟩:=x;exact⟨z,l,r,g,k _ _ (.inl rfl) e,c⟩
 | dK A=>obtain⟨z,y,I,r,g,j,i,e,c⟩:=x;exact⟨z,y,I,r,g,j,i,k _ _ (.inl rfl) e,c⟩
 | dT A =>
  obtain⟨z,y,m,r,g,j,i,e,c⟩:=x
  exact⟨z,y,m,Paired.mapP r λp q z=>⟨z.1,F _ _ z.2.1,z.2.2⟩,g,j,i,k _ _ (.inl rfl) e,c⟩
 | set S n=>obtain⟨g,j,i,t,e,c⟩:=x;exact⟨g,j,i,t,k _ _ (.inl rfl) e,c⟩
 | ins C O J =>
  obtain⟨d,z,K,e,s,⟨B,j,i,M,c⟩,r⟩:=x
  exact⟨L _ d,z,K,k _ _ (.inl rfl) e,s,⟨B,j,i,k _ _ (.inr d) M,c⟩,r⟩
 | own y=>obtain⟨g,e⟩:=x;exact⟨g,k _ _ (.inl rfl) e⟩
 | xd J=>obtain⟨s,⟨B,j,i,e,c⟩,r⟩:=x;exact⟨s,⟨B,j,i,k _ _ (.inl rfl) e,c⟩,r⟩
 | rng N Q=>obtain⟨t,u,v,e⟩:=x;exact⟨t,u,v,k _ _ (.inl rfl) e⟩
 | frz g u G=>obtain⟨e,q⟩:=x;exact⟨k _ _ (.inl rfl) e,G q⟩
 | tbl E =>
  have e:h.get? a=some { cls:=.none,data:=.fields E }:=x
  show h'.get? a=some { cls:=.none,data:=.fields E }
  exact k a _ (.inl rfl) e
 | met f y =>
  have e:h.get? a=some (W.methodObj (.ref f) (.ref y)):=x
  show h'.get? a=some (W.methodObj (.ref f) (.ref y))
  exact k a _ (.inl rfl) e
 | ext φ=>obtain⟨p,⟨o,e⟩,D⟩:=x;exact⟨D _ _ p λo q=>k _ _ (.inl rfl) q,⟨o,k _ _ (.inl rfl) e⟩,D⟩
theorem HOk.lt (x:HOk P w H h)(e:H a=some o):a < h.objs.size:=(x a o e).lt
theorem HOk.fresh (x:HOk P w H h)(e:h.objs.size<=a):H a=none:=by
 cases q:H a with
 | none=>rfl
 | some u=>exact absurd (t8 (x.lt q) e) (l7 _)
theorem HOk.kept (x:HOk P w H h)(k:∀ b u,h.get? b=some u->h'.get? b=some u):HOk P w H h':=λa o e =>
 (x a o e).stay (λb u _ q=>k b u q) (λ_ q=>q) λ_ _ q=>q
theorem HOk.laid (x:HOk P w H h)(k:∀ b u,h.get? b=some u->h'.get? b=some u)(i:h.objs.size<=a)(d:yJ P w (upd H a o) h' a o):HOk P w (upd H a o) h':=λb u e=>by
 have f:=x.fresh i
 by_cases g:b=a
 .subst g;rw[zr]at e;cases e;exact d
 .rw[zu g]at e
  exact(x b u e).stay (λc v _ q=>k c v q) (λc q=>by rw[zu (zo q f)];exact q) λc j q=>by rw[zu (zo q f)];exact q
end
def Rd (H:Hp)(a:Addr)(u:HO):Prop:=H a=some u\/∃ o,H a=some (.frz o u)
theorem Rd.ok {P:Program}{w:World}{H:Hp}{h:Heap}{a:Addr}{u:HO}(r:Rd H a u)(x:HOk P w H h):yJ P w H h a u:=by
 rcases r with r | ⟨o,r⟩
 .exact x a u r
 .obtain⟨_,q⟩:=x a _ r
  exact q
def Mut:Option HO->Prop
 | some (.lst _)=>True
 | some (.dK _)=>True
 | some (.dT _)=>True
 | some (.set _ _)=>True
 | some (.ins _ _ _)=>True
 | some (.ext _)=>True
 | _=>False
section
variable {P:Program}{w:World}{H:Hp}{h h':Heap}{x e:Addr}{o':HO}
theorem HOk.write (ok:HOk P w H h)(i:Mut (H x))(o:e=x\/H e=some (.own x))(k:∀ b u,b≠e->h.get? b=some u->h'.get? b=some u)(m:∃ u,h'.get? e=some u)
 (n:yJ P w (upd H x o') h' x o'):HOk P w (upd H x o') h':=λb u q=>by
 have d:∀ c y,H c=some (.own y)->c≠x:=λc y r z=>by subst z;rw[r]at i;exact i
 have f:∀ c j,H c=some (.tup j)->c≠x:=λc j r z=>by subst z;rw[r]at i;exact i
 by_cases l:b=x
 .subst l;rw[zr]at q;cases q;exact n
 .rw[zu l]at q
  by_cases a:b=e
  .have p:H b=some (.own x):=by
    rcases o with z | z
    .exact absurd (a.trans z) l
    .rw[a];exact z
   rw[q]at p;cases p
   obtain⟨v,s⟩:=m
   exact⟨v,by rw[a];exact s⟩
  .refine(ok b u q).stay (λc v g r=>k c v ?_ r) (λc r=>by rw[zu (d c b r)];exact r) λc j r=>by rw[zu (f c j r)];exact r
   rcases g with rfl | g
   .exact a
   .rintro rfl
    rcases o with z | z
    .exact d c b g z
    .rw[g]at z;cases z;exact l rfl
end
structure Un (fs ex:List Addr) (H H':Hp) (h h':Heap):Prop where
 keep:∀ b o,h.get? b=some o->H b=none->b∉fs->b∉ex->h'.get? b=some o
 slot:∀ b o,h.get? b=some o->H b=none->b∈fs->b∉ex->∃ sl,h'.get? b=some { o with slots:=sl }
 free:∀ b o,h.get? b=some o->H b=none->b∉ex->H' b=none
 there:∀ b o,h.get? b=some o->b∉ex->∃ o',h'.get? b=some o'
 tups:∀ b xs,H b=some (.tup xs)->H' b=some (.tup xs)
 frzs:∀ b o u,H b=some (.frz o u)->H' b=some (.frz o u)
 tbls:∀ b ps,H b=some (.tbl ps)->∃ more,H' b=some (.tbl (ps++more))
section
variable {fs fs' ex ex':List Addr}{H H1 H2:Hp}{h h1 h2 h':Heap}{a x e:Addr}{o:HO}
theorem Un.any (u:Un fs ex H H1 h h1){b:Addr}{a:Obj}(q:h.get? b=some a)(n:H b=none)(c:b∉ex):∃ e,h1.get? b=some { a with slots:=e }:=by
 by_cases d:b∈fs
 .exact u.slot b a q n d c
 .exact⟨a.slots,u.keep b a q n d c⟩
theorem Un.kept (k:∀ b u,h.get? b=some u->h'.get? b=some u):Un fs ex H H h h' :=
 ⟨λb a q _ _ _=>k b a q,λb a q _ _ _=>⟨a.slots,k b a q⟩,λ_ _ _ n _=>n,λb a q _=>⟨a,k b a q⟩,λ_ _ q=>q,λ_ _ _ q=>q,λ_ c q=>⟨#[],by rw[q];simp⟩⟩
theorem Un.refl:Un fs ex H H h h:=Un.kept λ_ _ q=>q
theorem Un.laid (k:∀ b u,h.get? b=some u->h'.get? b=some u)(hp:h.objs.size<=a)(hn:H a=none):Un fs ex H (upd H a o) h h' where
 keep:=λb u q _ _ _=>k b u q
 slot:=λb u q _ _ _=>⟨u.slots,k b u q⟩
 free:=λb u q n _=>by rw[zu (q5 (t8 (t3 q) hp))];exact n
 there:=λb u q _=>⟨u,k b u q⟩
 tups:=λb xs q=>by rw[zu (zo q hn)];exact q
 frzs:=λb u xs q=>by rw[zu (zo q hn)];exact q
 tbls:=λb ps q=>⟨#[],by rw[zu (zo q hn),q];simp⟩
theorem Un.write (c:Mut (H x))(m:e=x\/H e=some (.own x))(k:∀ b u,b≠e->h.get? b=some u->h'.get? b=some u)(d:∃ u,h'.get? e=some u):Un fs ex H (upd H x o) h h':=by
 have g:∀ b,H b=none->b≠x:=λb n z=>by subst z;rw[n]at c;exact c
 have i:∀ b,H b=none->b≠e:=λb n z=>by
  subst z
  rcases m with r | r
  .exact g b n r
  .rw[n]at r;cases r
 have f:∀ b u,H b=some u->¬ Mut (some u)->b≠x:=λb u q l z=>by subst z;rw[q]at c;exact l c
 refine⟨λb u q n _ _=>k b u (i b n) q,λb u q n _ _=>⟨u.slots,k b u (i b n) q⟩,λb u q n _=>by rw[zu (g b n)];exact n,λb u q _=>?_,
  λb j q=>by rw[zu (f b _ q λz=>z)];exact q,λb u j q=>by rw[zu (f b _ q λz=>z)];exact q,λb p q=>⟨#[],by rw[zu (f b _ q λz=>z),q];simp⟩⟩
 by_cases a:b=e
 .subst a;exact d
 .exact⟨u,k b u a q⟩
end
def trk (h:Heap)(H:Hp):List Addr:=(List.range h.objs.size).filter λa=>(H a).isSome
def zkt (h:Heap)(H:Hp):Heap:=W.hideAll h (trk h H)
theorem zhV (h:Heap)(H:Hp):(zkt h H).objs.size=h.objs.size:=W.hideAll_size _ _
theorem zkB {h:Heap}{H:Hp}{b:Addr}{o:Obj}(e:h.get? b=some o)(n:H b=none):(zkt h H).get? b=some o :=
 i5 _ e λa=>by
  have q:(H b).isSome=true:=(p9.mp a).2
  rw[n]at q;simp at q
theorem znK {h:Heap}{H:Hp}{b:Addr}{o:Obj}(e:(zkt h H).get? b=some o):h.get? b=some o/\H b=none:=by
 have a:h.get? b=some o:=u2d (trk h H) e
 refine⟨a,?_⟩
 cases q:H b with
 | none=>rfl
 | some x =>
  have c:b∈trk h H:=p9.mpr ⟨l0.mpr (t3 a),by simp[q]⟩
  have z:(zkt h H).get? b=none:=u1J (trk h H) c
  rw[z]at e;cases e
def znd (g h:Heap)(L:Addr):List (Addr × Obj):=(List.range h.objs.size).filterMap λa=>if a=L\/(g.get? a).isSome=true then none else (h.get? a).map λo=>(a,o)
def rest (g h:Heap)(L d:Addr):List (Addr × Obj):=(znd g h L).filter λp=>decide (p.1≠d)
structure Mod (K:W.Frag) (mg:Str->Option Value) (base:Heap):Prop where
 kin:K.In base
 glob:base.Ns mainGlobals mg
 blt:∃ mb,base.Ns builtinsNs mb/\∀ x:Str,x≠"__name__"->mb x=bootBuiltins x
 nolimit:base.NoLimit
structure Cx where
 prog:Program
 w:World
 K:W.Frag
 mg:Str->Option Value
 base:Heap
 A:Around
 N:List Str
 s₀:Shared
 H₀:Hp
 env:Env
 outer:List Env
 stack:List Env
 ex:List Addr
 fn:Str->Bool
 calm:Bool
 pn:List (Addr × Obj)
 xe:Value->Shared->Prop
def frs (l:List Env):List Addr:=l.filterMap (·.frame)
abbrev Cx.fs (X:Cx):List Addr:=frs X.outer
def Vis (sc:Scope)(x:Str):Prop:=sc.names.lookup x=some .local\/sc.names.lookup x=some .cell\/sc.names.lookup x=some .free
def Loc (sc:Scope)(x:Str):Prop:=sc.names.lookup x=some .local\/sc.names.lookup x=some .cell
def Look (env:Env)(h:Heap)(m:Str->Option Value)(x:Str)(u:Value):Prop :=
 (env.kindOf x=some .local/\m x=some u)\/((env.kindOf x=some .cell\/env.kindOf x=some .free)/\∃ c,env.cells.lookup x=some c/\h.IsCell c (some u))
structure Cx.Ok (X:Cx):Prop where
 mod:Mod X.K X.mg X.base
 kind:X.env.scope.kind=.function
 glob:X.env.globals=mainGlobals
 blt:X.env.builtins=builtinsNs
 above:X.s₀.heap.objs.size<=X.env.locals
 inj:∀ x y c,X.env.cells.lookup x=some c->X.env.cells.lookup y=some c->x=y
 has:∀ x,(X.env.kindOf x=some .cell\/X.env.kindOf x=some .free)->∃ c,X.env.cells.lookup x=some c
 cab:∀ x c,X.fn x=true->X.env.cells.lookup x=some c->X.s₀.heap.objs.size<=c
 hd:X.calm=true->X.A.handled=none
 frames:X.A.frames=some X.stack
 stk:X.stack=X.outer\/(X.stack=X.env::X.outer/\X.env.frame=some X.env.locals)
 exf:∀ b∈X.ex,b≠X.env.locals/\∀ x c,X.env.cells.lookup x=some c->c≠b
 bs:∀ b o,X.base.get? b=some o->X.s₀.heap.get? b=some o/\X.H₀ b=none
 bsz:X.base.objs.size<=X.s₀.heap.objs.size
 noex:∀ b o,X.base.get? b=some o->b∉X.ex
 exfs:∀ b∈X.ex,b∉X.fs
 funs:X.s₀.heap.FunFrames X.base X.outer
 frf:∀ b∈X.fs,X.H₀ b=none
structure Inv (X:Cx) (pins:List (Addr × Obj)) (σ:List (Option V)) (H:Hp) (s:Shared):Prop where
 ok:X.Ok
 os:s.os=X.s₀.os
 bare:AllBare s.gens
 base:Un X.fs X.ex X.H₀ H X.s₀.heap s.heap
 loc:∃ m,s.heap.Ns X.env.locals m/\∀ (i:Nat) (x:Str) (v:V),X.N[i]?=some x->σ[i]?=some (some v)->Vis X.env.scope x->∃ u,xt v u/\Look X.env s.heap m x u
 cell:∀ x c,X.env.cells.lookup x=some c->∃ v,s.heap.IsCell c v
 free:H X.env.locals=none
 freeC:∀ x c,X.env.cells.lookup x=some c->H c=none
 pin:∀ p∈X.pn++pins,s.heap.get? p.1=some p.2/\H p.1=none/\p.1≠X.env.locals/\p.1∉X.fs/\∀ v,p.2.data≠.cell v
 hok:HOk X.prog X.w H s.heap
 len:σ.length=X.N.length
section
variable {X:Cx}{pins:List (Addr × Obj)}{σ:List (Option V)}{H H':Hp}{s:Shared}{h':Heap}
theorem Cx.Ok.nofr (ok:X.Ok){b:Addr}{o:Obj}(e:X.base.get? b=some o):b∉X.fs:=λa=>by
 have:=(ok.funs.mem a).1
 rw[e]at this;cases this
theorem Inv.bs (I:Inv X pins σ H s):∀ b o,X.base.get? b=some o->s.heap.get? b=some o/\H b=none:=λb o e =>
 ⟨I.base.keep b o (I.ok.bs b o e).1 (I.ok.bs b o e).2 (I.ok.nofr e) (I.ok.noex b o e),I.base.free b o (I.ok.bs b o e).1 (I.ok.bs b o e).2 (I.ok.noex b o e)⟩
theorem Inv.bk (I:Inv X pins σ H s):∀ b o,X.base.get? b=some o->s.heap.get? b=some o:=λb o e=>(I.bs b o e).1
theorem Inv.mod (I:Inv X pins σ H s):Mod X.K X.mg X.base:=I.ok.mod
theorem Inv.kIn (I:Inv X pins σ H s):X.K.In s.heap:=I.ok.mod.kin.keeps I.bk
theorem Inv.fr (I:Inv X pins σ H s):∃ m,Fr X.base X.env.locals s.heap m :=
 let ⟨m,hn,_⟩:=I.loc
 ⟨m,hn,I.bk,k8 I.ok.bsz I.ok.above⟩
theorem Inv.lt (I:Inv X pins σ H s):X.env.locals < s.heap.objs.size:=let ⟨_,hn,_⟩:=I.loc;hn.lt
theorem Inv.sz (I:Inv X pins σ H s):X.s₀.heap.objs.size<=s.heap.objs.size:=k8 I.ok.above (f6 I.lt)
theorem Inv.nofs (I:Inv X pins σ H s){a:Addr}(h:s.heap.objs.size<=a):a∉X.fs:=λc=>by
 obtain⟨_,o,b,_⟩:=I.ok.funs.mem c
 exact absurd (t8 (t3 b) (k8 I.sz h)) (l7 _)
theorem Inv.cne (I:Inv X pins σ H s):∀ x c,X.env.cells.lookup x=some c->c≠X.env.locals:=λx c e z=>by
 obtain⟨v,o,f,d⟩:=I.cell x c e
 obtain⟨m,⟨i,h,g,b,a,_⟩,_⟩:=I.loc
 rw[z,b]at f;cases f;rw[a]at d;cases d
theorem Inv.funs (I:Inv X pins σ H s):s.heap.FunFrames X.base X.outer:=by
 have c:∀ (l:List Env),(∀ b∈frs l,b∈X.fs)->X.s₀.heap.FunFrames X.base l->s.heap.FunFrames X.base l:=by
  intro l
  induction l with
  | nil=>intro _ _;trivial
  | cons env r k =>
   intro g n
   obtain⟨j,⟨L,o,d,i,p,m⟩,h⟩:=n
   have a:L∈X.fs:=g L (by unfold frs;rw[u1V,d];exact r0)
   obtain⟨q,e⟩:=I.base.slot L o p (I.ok.frf L a) a λz=>I.ok.exfs L z a
   exact⟨j,⟨L,_,d,i,e,m⟩,k (λb f=>g b (by unfold frs;rw[u1V,d];exact j8 _ f)) h⟩
 exact c X.outer (λ_ f=>f) I.ok.funs
theorem Inv.stack (I:Inv X pins σ H s):s.heap.FunFrames X.base X.stack:=by
 rcases I.ok.stk with e | ⟨e,b⟩
 .rw[e];exact I.funs
 .rw[e]
  obtain⟨m,a,_⟩:=I.loc
  refine .cons (by rw[I.ok.kind];decide) b a ?_ I.funs
  exact Heap.get?_none_of_le (k8 I.ok.bsz I.ok.above)
theorem Inv.stkSub (I:Inv X pins σ H s):∀ b∈frs X.stack,b∈X.env.locals::X.fs:=λb a=>by
 rcases I.ok.stk with e | ⟨e,c⟩
 .rw[e]at a;exact j8 _ a
 .rw[e]at a
  unfold frs at a
  rw[u1V,c]at a
  exact a
theorem Inv.stkFree (I:Inv X pins σ H s):∀ b∈frs X.stack,H b=none:=λb a=>by
 rcases q4.mp (I.stkSub b a)with e | a
 .rw[e];exact I.free
 .obtain⟨_,o,c,_⟩:=I.ok.funs.mem a
  exact I.base.free b o c (I.ok.frf b a) λz=>I.ok.exfs b z a
theorem Inv.step {g':Array GenState}{t':Nat}{d':Drawn}{ch:List Addr}(I:Inv X pins σ H s)
 (j:∀ b∈ch,(b∈X.ex\/X.s₀.heap.objs.size<=b)/\b≠X.env.locals/\(∀ x c,X.env.cells.lookup x=some c->c≠b)/\∀ p∈X.pn++pins,p.1≠b)
 (t:∀ b o,b≠X.env.locals->b∉X.fs->b∉ch->s.heap.get? b=some o->H b=none->h'.get? b=some o)
 (B:∀ b o,b≠X.env.locals->b∈X.fs->b∉ch->s.heap.get? b=some o->H b=none->∃ R,h'.get? b=some { o with slots:=R }) (f:∀ b o,b∉ch->s.heap.get? b=some o->H b=none->H' b=none)
 (C:∀ b o,b∉ch->s.heap.get? b=some o->∃ L,h'.get? b=some L)
 (K:∀ b A,H b=some (.tup A)->H' b=some (.tup A)) (F:∀ b o u,H b=some (.frz o u)->H' b=some (.frz o u)) (M:∀ b O,H b=some (.tbl O)->∃ N,H' b=some (.tbl (O++N)))
 (ns:∀ m,s.heap.Ns X.env.locals m->h'.Ns X.env.locals m) (Q:HOk X.prog X.w H' h') (hg:AllBare g') :
 Inv X pins σ H' { s with heap:=h',gens:=g',drawn:=d',toks:=t' }:=by
 have G:∀ b o,X.s₀.heap.get? b=some o->b≠X.env.locals:=λb o e=>q5 (t8 (t3 e) I.ok.above)
 have w:∀ b o,X.s₀.heap.get? b=some o->b∉X.ex->b∉ch:=λb o e a D=>by
  rcases(j b D).1 with z | z
  .exact a z
  .exact absurd (t8 (t3 e) z) (l7 _)
 have g:∀ x c,X.env.cells.lookup x=some c->∀ v,s.heap.IsCell c v->h'.IsCell c v:=λx c e v ⟨o,E,P⟩=>by
  have h:c∉ch:=λz=>(j c z).2.2.1 x c e rfl
  by_cases U:c∈X.fs
  .obtain⟨R,q⟩:=B c o (I.cne x c e) U h E (I.freeC x c e)
   exact⟨_,q,P⟩
  .exact⟨o,t c o (I.cne x c e) U h E (I.freeC x c e),P⟩
 refine⟨I.ok,I.os,hg,⟨λb o e n D a=>?_,λb o e n D a=>?_,λb o e n a=>?_,λb o e a=>?_,λb A e=>K b A (I.base.tups b A e),λb o A e=>F b o A (I.base.frzs b o A e),λb O e=>?_⟩,?_,λx c e=>?_,?_,λx c e=>?_,λp W=>?_,Q,I.len⟩
 .exact t b o (G b o e) D (w b o e a) (I.base.keep b o e n D a) (I.base.free b o e n a)
 .obtain⟨R,y⟩:=I.base.slot b o e n D a
  obtain⟨S,J⟩:=B b _ (G b o e) D (w b o e a) y (I.base.free b o e n a)
  exact⟨S,J⟩
 .obtain⟨L,y⟩:=I.base.there b o e a
  exact f b L (w b o e a) y (I.base.free b o e n a)
 .obtain⟨L,y⟩:=I.base.there b o e a
  exact C b L (w b o e a) y
 .obtain⟨m1,y⟩:=I.base.tbls b O e
  obtain⟨m2,J⟩:=M b _ y
  exact⟨m1++m2,by rw[J,Array.append_assoc]⟩
 .obtain⟨m,hn,Y⟩:=I.loc
  refine⟨m,ns m hn,λi x v y J Z=>?_⟩
  obtain⟨u,r,l⟩:=Y i x v y J Z
  refine⟨u,r,?_⟩
  rcases l with l | ⟨k,c,e,z⟩
  .exact .inl l
  .exact .inr ⟨k,c,e,g x c e _ z⟩
 .obtain⟨v,z⟩:=I.cell x c e
  exact⟨v,g x c e v z⟩
 .obtain⟨m,⟨o,_,_,E,_⟩,_⟩:=I.loc
  exact f _ o (λz=>(j _ z).2.1 rfl) E I.free
 .obtain⟨v,o,E,P⟩:=I.cell x c e
  exact f c o (λz=>(j c z).2.2.1 x c e rfl) E (I.freeC x c e)
 .obtain⟨e,n,T,V,d⟩:=I.pin p W
  have h:p.1∉ch:=λz=>(j p.1 z).2.2.2 p W rfl
  exact⟨t p.1 p.2 T V h e n,f p.1 p.2 h e n,T,V,d⟩
theorem Inv.un {t':Nat}(I:Inv X pins σ H s)(u:Un X.fs [] H H' s.heap h')(f:HOk X.prog X.w H' h'):Inv X pins σ H' { s with heap:=h',toks:=t' }:=by
 obtain⟨m,⟨o,v,l,h,r⟩,_⟩:=id I.loc
 obtain⟨q,k⟩:=u.any h I.free (by simp)
 exact I.step (g':=s.gens) (d':=s.drawn) (ch:=[]) (λ_ z=>nomatch z) (λb o _ g _ e n=>u.keep b o e n g (by simp)) (λb o _ g _ e n=>u.slot b o e n g (by simp)) (λb o _ e n=>u.free b o e n (by simp)) (λb o _ e=>u.there b o e (by simp)) u.tups u.frzs u.tbls (λt j=>by
  obtain⟨p,c,d,a,i⟩:=j
  rw[h]at a;cases a
  exact⟨_,c,d,k,i⟩) f I.bare
theorem Inv.call {g':Array GenState}{t':Nat}{d':Drawn}{ch:List Addr}(I:Inv X pins σ H s)(u:Un (frs X.stack) ch H H' s.heap h')(h:HOk X.prog X.w H' h')(q:AllBare g')
 (f:∀ b∈ch,(b∈X.ex\/X.s₀.heap.objs.size<=b)/\b≠X.env.locals/\(∀ x c,X.env.cells.lookup x=some c->c≠b)/\∀ p∈X.pn++pins,p.1≠b) :
 Inv X pins σ H' { s with heap:=h',gens:=g',drawn:=d',toks:=t' }:=by
 obtain⟨m,⟨o,C,w,k,r⟩,_⟩:=id I.loc
 obtain⟨A,j⟩:=u.any k I.free λz=>(f _ z).2.1 rfl
 exact I.step (ch:=ch) f (λb o j t a e n=>u.keep b o e n (λz=>(q4.mp (I.stkSub b z)).elim j t) a) (λb o _ _ a e n=>u.any e n a) (λb o a e n=>u.free b o e n a) (λb o a e=>u.there b o e a) u.tups u.frzs u.tbls (λB v=>by
  obtain⟨y,i,g,d,l⟩:=v
  rw[k]at d;cases d
  exact⟨_,i,g,j,l⟩) h q
theorem Inv.turned {t':Nat}{a:Addr}(I:Inv X pins σ H s)(k:∀ b o,b≠a->s.heap.get? b=some o->h'.get? b=some o)(h:H a=none)(g:a≠X.env.locals)
 (j:a∈X.ex\/X.s₀.heap.objs.size<=a) (A:∀ x c,X.env.cells.lookup x=some c->c≠a) (l:∀ p∈X.pn++pins,p.1≠a):Inv X pins σ H { s with heap:=h',toks:=t' }:=by
 have f:∀ b u,H b=some u->b≠a:=λb u e z=>by rw[z,h]at e;cases e
 refine I.step (g':=s.gens) (d':=s.drawn) (ch:=[a]) (λb w=>?_) (λb o _ _ d e _=>k b o (λz=>d (by simp[z])) e) (λb o _ _ d e _=>⟨o.slots,k b o (λz=>d (by simp[z])) e⟩) (λ_ _ _ _ n=>n)
  (λb o d e=>⟨o,k b o (λz=>d (by simp[z])) e⟩) (λ_ _ e=>e) (λ_ _ _ e=>e) (λb C e=>⟨#[],by rw[e];simp⟩) (λm y=>?_) (λb u e=>?_) I.bare
 .have e:b=a:=by simpa using w
  subst e
  exact⟨j,g,A,l⟩
 .obtain⟨o,B,i,t,r⟩:=y
  exact⟨o,B,i,k _ o (u0b g) t,r⟩
 .refine(I.hok b u e).stay (λc v d q=>k c v ?_ q) (λ_ q=>q) λ_ _ q=>q
  rcases d with z | z
  .rw[z];exact f b u e
  .exact f c _ z
theorem Inv.tok (I:Inv X pins σ H s)(t:Nat):Inv X pins σ H { s with toks:=t }:=I.un (h':=s.heap) (t':=t) Un.refl I.hok
theorem Inv.kept {t':Nat}(I:Inv X pins σ H s)(k:∀ b u,s.heap.get? b=some u->h'.get? b=some u):Inv X pins σ H { s with heap:=h',toks:=t' }:=I.un (Un.kept k) (I.hok.kept k)
theorem Inv.laid {a:Addr}{o:HO}{t':Nat}(I:Inv X pins σ H s)(k:∀ b u,s.heap.get? b=some u->h'.get? b=some u)(c:s.heap.objs.size<=a)(d:yJ X.prog X.w (upd H a o) h' a o) :
 Inv X pins σ (upd H a o) { s with heap:=h',toks:=t' }:=I.un (Un.laid k c (I.hok.fresh c)) (I.hok.laid k c d)
theorem Inv.write {x e:Addr}{o:HO}{t':Nat}(I:Inv X pins σ H s)(d:Mut (H x))(f:e=x\/H e=some (.own x))(k:∀ b u,b≠e->s.heap.get? b=some u->h'.get? b=some u)(a:∃ u,h'.get? e=some u)
 (c:yJ X.prog X.w (upd H x o) h' x o):Inv X pins σ (upd H x o) { s with heap:=h',toks:=t' }:=I.un (Un.write d f k a) (I.hok.write d f k a c)
theorem Inv.weak {a:List (Option V)}(I:Inv X pins σ H s)(b:a.length=σ.length)(w:∀ (i:Nat) v,a[i]?=some (some v)->σ[i]?=some (some v)):Inv X pins a H s :=
 ⟨I.ok,I.os,I.bare,I.base,let ⟨m,hn,hl'⟩:=I.loc;⟨m,hn,λi x v c e d=>hl' i x v c (w i v e) d⟩,I.cell,I.free,I.freeC,I.pin,I.hok,b.trans I.len⟩
theorem Inv.pins_of {a:List (Addr × Obj)}(I:Inv X pins σ H s)(h:∀ p∈a,s.heap.get? p.1=some p.2/\H p.1=none/\p.1≠X.env.locals/\p.1∉X.fs/\∀ v,p.2.data≠.cell v):Inv X a σ H s :=
 ⟨I.ok,I.os,I.bare,I.base,I.loc,I.cell,I.free,I.freeC,λp b=>(n7.mp b).elim (λz=>I.pin p (u1H _ z)) (h p),I.hok,I.len⟩
theorem zbu {N:List Str}(e:N.Nodup){i j:Nat}{x:Str}(a:N[i]?=some x)(b:N[j]?=some x):i=j:=by
 obtain⟨f,c⟩:=q0.mp a
 obtain⟨g,d⟩:=q0.mp b
 exact(List.getElem_inj e).mp (c.trans d.symm)
theorem zjH {M:Model}{A:Around}{E:Value->Shared->Prop}{i:Nat}{x:Str}{v:V}{u:Value}{Q:Unit->Shared->Prop}(I:Inv X pins σ H s)(hN:X.N.Nodup)(T:X.N[i]?=some x)(w:Loc X.env.scope x)(r:xt v u)
 (h:∀ s',Inv X pins (σ.set i (some v)) H s'->(∃ a,Heap.SameBut a s.heap s'.heap/\(a=X.env.locals\/X.env.cells.lookup x=some a))->Q () s') (hf:X.fn x=true\/X.env.scope.names.lookup x=some .local:=by first | exact .inl rfl | exact .inr rfl | assumption):wpAny M A (storeName X.env x u) Q E s:=by
 obtain⟨m,Z,hl⟩:=id I.loc
 have L:(X.env.scope.kind == .class||(X.env.scope.kind == .module&&X.env.locals != X.env.globals))=false:=by rw[I.ok.kind];rfl
 have O:i < σ.length:=by rw[I.len];exact(q0.mp T).1
 have F:=I.cne
 have g:∀ {a:Addr} {h':Heap},(∃ o,s.heap.get? a=some o/\H a=none)->Heap.SameBut a s.heap h'->HOk X.prog X.w H h':=λ{a h'} ha f b ob e=>by
  obtain⟨_,_,B⟩:=ha
  refine(I.hok b ob e).stay (λc Y t q=>(f.2 c ?_).trans q) (λ_ q=>q) λ_ _ q=>q
  rintro rfl
  rcases t with rfl | t
  .rw[B]at e;cases e
  .rw[B]at t;cases t
 rcases w with D | D
 .refine wpAny_storeName_local D Z (λh' a1 f=>?_) L
  obtain⟨oL,_,_,a0,_⟩:=id Z
  refine h _ ⟨I.ok,I.os,I.bare,⟨λb o e n G w=>?_,λb o e n G w=>?_,I.base.free,λb o e w=>?_,I.base.tups,I.base.frzs,I.base.tbls⟩,⟨_,a1,λj y v' l C e3=>?_⟩,λy c e=>?_,I.free,I.freeC,λp hp=>?_,g ⟨oL,a0,I.free⟩ f,by simpa using I.len⟩ ⟨_,f,.inl rfl⟩
  .exact(f.2 b (q5 (t8 (t3 e) I.ok.above))).trans (I.base.keep b o e n G w)
  .obtain⟨sl,l⟩:=I.base.slot b o e n G w
   exact⟨sl,(f.2 b (q5 (t8 (t3 e) I.ok.above))).trans l⟩
  .obtain⟨o',l⟩:=I.base.there b o e w
   exact⟨o',(f.2 b (q5 (t8 (t3 e) I.ok.above))).trans l⟩
  .by_cases K:j=i
   .subst K
    rw[T]at l;cases l
    rw[n0 O]at C
    cases C
    exact⟨u,r,.inl ⟨D,by simp⟩⟩
   .rw[j0 (u0b K)]at C
    obtain⟨u',r',q⟩:=hl j y v' l C e3
    refine⟨u',r',?_⟩
    rcases q with ⟨k,e⟩ | ⟨k,c,e,z⟩
    .refine .inl ⟨k,?_⟩
     have:y≠x:=λe=>K (zbu hN l (e ▸ T))
     simp[this,e]
    .exact .inr ⟨k,c,e,z.sameBut f (F y c e)⟩
  .obtain⟨Y,z⟩:=I.cell y c e
   exact⟨Y,z.sameBut f (F y c e)⟩
  .obtain⟨e,n,U,nf,d⟩:=I.pin p hp
   exact⟨(f.2 p.1 U).trans e,n,U,nf,d⟩
 .have J:X.fn x=true:=by
   rcases hf with z | z
   .exact z
   .rw[z]at D;cases D
  obtain⟨c,t⟩:=I.ok.has x (.inl D)
  obtain⟨Y,z⟩:=I.cell x c t
  refine wpAny_storeName_cell I.ok.kind D t z (λh' S f=>?_)
  obtain⟨oc,R,P⟩:=id z
  refine h { s with heap:=h' } ⟨I.ok,I.os,I.bare,⟨λb o e n G w=>?_,λb o e n G w=>?_,I.base.free,λb o e w=>?_,I.base.tups,I.base.frzs,I.base.tbls⟩,⟨m,Z.sameBut f (u0b (F x c t)),λj y v' l C e3=>?_⟩,λy W e=>?_,I.free,I.freeC,λp hp=>?_,g ⟨oc,R,I.freeC x c t⟩ f,by simpa using I.len⟩ ⟨c,f,.inr t⟩
  .exact(f.2 b (q5 (t8 (t3 e) (I.ok.cab x c J t)))).trans (I.base.keep b o e n G w)
  .obtain⟨sl,l⟩:=I.base.slot b o e n G w
   exact⟨sl,(f.2 b (q5 (t8 (t3 e) (I.ok.cab x c J t)))).trans l⟩
  .obtain⟨o',l⟩:=I.base.there b o e w
   exact⟨o',(f.2 b (q5 (t8 (t3 e) (I.ok.cab x c J t)))).trans l⟩
  .by_cases K:j=i
   .subst K
    rw[T]at l;cases l
    rw[n0 O]at C
    cases C
    exact⟨u,r,.inr ⟨.inl D,c,t,S⟩⟩
   .rw[j0 (u0b K)]at C
    obtain⟨u',r',q⟩:=hl j y v' l C e3
    refine⟨u',r',?_⟩
    rcases q with q | ⟨k,W,e,z'⟩
    .exact .inl q
    .refine .inr ⟨k,W,e,z'.sameBut f ?_⟩
     rintro rfl
     exact K (zbu hN l (I.ok.inj _ _ _ e t ▸ T))
  .by_cases N:W=c
   .subst N;exact⟨_,S⟩
   .obtain⟨w2,z2⟩:=I.cell y W e
    exact⟨w2,z2.sameBut f N⟩
  .obtain⟨e,n,U,nf,d⟩:=I.pin p hp
   refine⟨(f.2 p.1 ?_).trans e,n,U,nf,d⟩
   intro q
   rw[q,R]at e
   have q':oc=p.2:=n8 e
   exact d Y (by rw[<-q'];exact P)
theorem zaH {M:Model}{A:Around}{E:Value->Shared->Prop}{i:Nat}{x:Str}{v:V}{u:Value}{Q:Unit->Shared->Prop}(I:Inv X pins σ H s)(e:X.N.Nodup)(d:X.N[i]?=some x)(b:Loc X.env.scope x)(r:xt v u)
 (h:∀ a,Inv X pins (σ.set i (some v)) H a->Q () a) (c:X.fn x=true\/X.env.scope.names.lookup x=some .local:=by first | exact .inl rfl | exact .inr rfl | assumption):wpAny M A (storeName X.env x u) Q E s :=
 zjH I e d b r (λa I' _=>h a I') c
theorem Inv.call' {s':Shared}{ch:List Addr}(I:Inv X pins σ H s)(j:s'.os=s.os)(u:Un (frs X.stack) ch H H' s.heap s'.heap)(d:HOk X.prog X.w H' s'.heap)(i:AllBare s'.gens)
 (a:∀ b∈ch,(b∈X.ex\/X.s₀.heap.objs.size<=b)/\b≠X.env.locals/\(∀ x c,X.env.cells.lookup x=some c->c≠b)/\∀ p∈X.pn++pins,p.1≠b):Inv X pins σ H' s':=by
 obtain⟨h',h,g,f,k⟩:=s'
 have e:k=s.os:=j
 subst e
 exact I.call (g':=h) (t':=f) (d':=g) u d i a
end
abbrev XK:=Value->Option Addr->Hp->Prop
abbrev St:=List (Option V)
abbrev VK:=V->Hp->Prop
abbrev TE:=St->Hp->VK->Prop
abbrev TT:=St->Hp->(Bool->Hp->Prop)->Prop
abbrev TA:=St->Hp->(List V->Hp->Prop)->Prop
structure zce where
 nx:St->Hp->Prop
 rt:VK
 bk:St->Hp->Prop:=λ_ _=>False
 ct:St->Hp->Prop:=λ_ _=>False
abbrev TS:=zce->St->Hp->Prop
def EP (X:Cx)(a:List (Addr × Obj))(σ:St)(Q:VK)(u:Value)(b:Shared):Prop:=∃ v H',Inv X a σ H' b/\xt v u/\Q v H'
def TP (X:Cx)(a:List (Addr × Obj))(σ:St)(Q:Bool->Hp->Prop)(b:Bool)(c:Shared):Prop:=∃ H',Inv X a σ H' c/\Q b H'
def AP (X:Cx)(a:List (Addr × Obj))(σ:St)(Q:List V->Hp->Prop)(c:List Value)(d:Shared):Prop:=∃ b H',Inv X a σ H' d/\yZ b c/\Q b H'
def SP (X:Cx)(a:List (Addr × Obj))(D:zce)(f:Flow)(c:Shared):Prop :=
 match f with
 | .next=>∃ b H',Inv X a b H' c/\D.nx b H'
 | .brk=>∃ b H',Inv X a b H' c/\D.bk b H'
 | .cont=>∃ b H',Inv X a b H' c/\D.ct b H'
 | .ret u=>∃ v b H',Inv X a b H' c/\xt v u/\D.rt v H'
def PE (X:Cx)(e:Expr)(t:TE):Prop :=
 ∀ (a:List (Addr × Obj)) (s:Shared) (σ:St) (H:Hp) (Q:VK),Inv X a σ H s->t σ H Q->wpAny (model X.prog X.w) X.A (eval e X.env) (EP X a σ Q) X.xe s
def PT (X:Cx)(e:Expr)(t:TT):Prop :=
 ∀ (a:List (Addr × Obj)) (s:Shared) (σ:St) (H:Hp) (Q:Bool->Hp->Prop),Inv X a σ H s->t σ H Q->wpAny (model X.prog X.w) X.A (isTrue e X.env (eval e X.env)) (TP X a σ Q) X.xe s
def PW (X:Cx)(e:Expr)(t:TT):Prop :=
 ∀ (b:Sem Value) (a:List (Addr × Obj)) (s:Shared) (σ:St) (H:Hp) (Q:Bool->Hp->Prop),Inv X a σ H s->t σ H Q->wpAny (model X.prog X.w) X.A (isTrue e X.env b) (TP X a σ Q) X.xe s
theorem PW.pt {X:Cx}{e:Expr}{t:TT}(h:PW X e t):PT X e t:=h _
def PA (X:Cx)(c:List Expr)(t:TA):Prop :=
 ∀ (b:Pos) (a:List (Addr × Obj)) (s:Shared) (σ:St) (H:Hp) (Q:List V->Hp->Prop),Inv X a σ H s->t σ H Q->wpAny (model X.prog X.w) X.A (spliced (backTo b (starEach c X.env))) (AP X a σ Q) X.xe s
def PS (X:Cx)(b:Stmt)(t:TS):Prop :=
 ∀ (a:List (Addr × Obj)) (s:Shared) (σ:St) (H:Hp) (D:zce),Inv X a σ H s->t D σ H->wpAny (model X.prog X.w) X.A (exec b X.env) (SP X a D) X.xe s
def PSs (X:Cx)(b:List Stmt)(t:TS):Prop :=
 ∀ (a:List (Addr × Obj)) (s:Shared) (σ:St) (H:Hp) (D:zce),Inv X a σ H s->t D σ H->wpAny (model X.prog X.w) X.A (execs b X.env) (SP X a D) X.xe s
theorem thn {α:Type}{t:Sem α}{Q Q':α->Shared->Prop}{M:Model}{A:Around}{E:Value->Shared->Prop}{s:Shared}(h:wpAny M A t Q E s)(b:∀ a s,Q a s->Q' a s):wpAny M A t Q' E s:=o8 h b λ_ _ x=>x
section
variable {X:Cx}
theorem bin {a b:Expr}{g e:TE}(l:PE X a g)(r:PE X b e){c:List (Addr × Obj)}{s:Shared}{σ:St}{H:Hp}{R:V->V->Hp->Prop}(I:Inv X c σ H s)(h:g σ H λx H1=>e σ H1 λy H2=>R x y H2)
 {α:Type} {Q:α->Shared->Prop} {f:Value->Value->Sem α}
 (n:∀ v u d x y H2,Inv X c σ H2 d->xt x v->xt y u->R x y H2->wpAny (model X.prog X.w) X.A (f v u) Q X.xe d) :
 wpAny (model X.prog X.w) X.A (eval a X.env) (λv q=>wpAny (model X.prog X.w) X.A (eval b X.env) (λu k=>wpAny (model X.prog X.w) X.A (f v u) Q X.xe k) X.xe q) X.xe s:=by
 refine thn (l c s σ H _ I h) λv j hh9=>?_
 obtain⟨x,H1,I1,p,o⟩:=hh9
 refine thn (r c j σ H1 _ I1 o) λu d hh9=>?_
 obtain⟨y,H2,I2,i,m⟩:=hh9
 exact n v u d x y H2 I2 p i m
def zb4 (i:Nat):TE:=fun σ H Q=>∃ v,σ[i]?=some (some v)/\Q v H
def tC (v:V):TE:=λ_ H Q=>Q v H
theorem zqj {i:Nat} {x:Str} {j:Pos} (t:X.N[i]?=some x) (n:Vis X.env.scope x) (g:(x == ("__debug__":Str))=false:=by decide) (f:(x == ("__classdict__":Str))=false:=by decide):PE X (.Name x j) (zb4 i):=by
 intro d s σ H Q I h
 obtain⟨v,e,h⟩:=h
 obtain⟨m,o,q⟩:=I.loc
 obtain⟨u,r,l⟩:=q i x v t e n
 have fin:EP X d σ Q u s:=⟨v,H,I,r,h⟩
 rcases l with ⟨b,p⟩ | ⟨b,c,k,a⟩
 .exact wpAny_Name (wpAny_loadName_local I.ok.kind b o p fin) g
 .rcases b with b | b
  .exact wpAny_Name (wpAny_loadName_cell I.ok.kind b k a fin) g
  .exact wpAny_Name (wpAny_loadName_free I.ok.kind b k a fin f) g
theorem zX {i j pos}:PE X (.Constant (.int i) j pos) (tC (.int i)):=λ_ _ _ H _ I h=>wpAny_Constant_int ⟨.int i,H,I.tok _,⟨_,rfl⟩,h⟩
theorem zn2 {b j pos}:PE X (.Constant (.bool b) j pos) (tC (.bl b)):=λ_ _ _ H _ I h=>Constant_bool ⟨.bl b,H,I,rfl,h⟩
theorem ziC {j pos}:PE X (.Constant .none j pos) (tC .non):=λ_ _ _ H _ I h=>Constant_none ⟨.non,H,I,rfl,h⟩
theorem zpE {x j pos}:PE X (.Constant (.str x) j pos) (tC (.str x)):=λ_ _ _ H _ I h=>Calls.Constant_str ⟨.str x,H,I.tok _,⟨_,rfl⟩,h⟩
def Gl (X:Cx)(x:Str):Prop:=X.env.kindOf x=some .globalImplicit
theorem Xa {E:Value->Shared->Prop}{a:List (Addr × Obj)}{s:Shared}{σ:St}{H:Hp}{x:Str}{u:Value}{b:Pos}{Q:Value->Shared->Prop}(I:Inv X a σ H s)(c:Gl X x)(d:X.mg x=some u)(h:Q u s)
 (e:(x == ("__debug__":Str))=false:=by decide):wpAny (model X.prog X.w) X.A (eval (.Name x b) X.env) Q E s :=
 Calls.Name_function_global I.ok.kind c (Calls.loadGlobal_global (by rw[I.ok.glob];exact I.mod.glob.keeps I.bk) d h) e
theorem Y9 {E:Value->Shared->Prop}{a:List (Addr × Obj)}{s:Shared}{σ:St}{H:Hp}{x:Str}{u:Value}{b:Pos}{Q:Value->Shared->Prop}(I:Inv X a σ H s)(j:Gl X x)(e:X.mg x=none)(c:bootBuiltins x=some u)(h:Q u s)
 (d:x≠"__name__":=by decide) (g:(x == ("__debug__":Str))=false:=by decide):wpAny (model X.prog X.w) X.A (eval (.Name x b) X.env) Q E s:=by
 obtain⟨k,i,f⟩:=I.mod.blt
 exact Calls.Name_function_global I.ok.kind j (Calls.loadGlobal_builtin (by rw[I.ok.glob];exact I.mod.glob.keeps I.bk) e (by rw[I.ok.blt];exact i.keeps I.bk) ((f x d).trans c) h) g
theorem xn {x:Str} {v:V} {u:Value} {a:Pos} (b:Gl X x) (c:X.mg x=some u) (r:xt v u) (d:(x == ("__debug__":Str))=false:=by decide):PE X (.Name x a) (tC v) :=
 λ_ _ _ H _ I h=>Xa I b c ⟨v,H,I,r,h⟩ d
theorem Vm {x:Str} {v:V} {u:Value} {a:Pos} (d:Gl X x) (e:X.mg x=none) (b:bootBuiltins x=some u) (r:xt v u) (c:x≠"__name__":=by decide) (f:(x == ("__debug__":Str))=false:=by decide):PE X (.Name x a) (tC v) :=
 λ_ _ _ H _ I h=>Y9 I d e b ⟨v,H,I,r,h⟩ c f
variable {a b:Expr}{ta tb:TE}{pos:Pos}
def PC (X:Cx)(f:CmpOp)(a b:Expr)(t:TE):Prop :=
 ∀ (c:List (Addr × Obj)) (s:Shared) (σ:St) (H:Hp) (Q:VK),Inv X c σ H s->t σ H Q ->
  wpAny (model X.prog X.w) X.A (eval a X.env) (λv e=>wpAny (model X.prog X.w) X.A (eval b X.env) (λu d=>wpAny (model X.prog X.w) X.A (compareOp f v u) (EP X c σ Q) X.xe d) X.xe e) X.xe s
theorem zj1 (b:Expr){a:CmpOp}(h:a≠.In)(d:a≠.NotIn):behindInMarks a b=false:=by
 have c:(a == CmpOp.In)=false:=by cases a <;> first | rfl | exact absurd rfl h
 have e:(a == CmpOp.NotIn)=false:=by cases a <;> first | rfl | exact absurd rfl d
 cases b <;> simp[behindInMarks,c,e]
def tB (t:TE):TT:=fun σ H Q=>t σ H λx H1=>∃ c,x=.bl c/\Q c H1
theorem pt_cmp {g:CmpOp}{t:TE}(h:PC X g a b t)(f:behindInMarks g b=false:=by first | exact zj1 _ (by decide) (by decide) | rfl):PT X (.Compare a [g] [b] pos) (tB t):=by
 intro e s σ H Q I hw
 refine wpAny_isTrue_Compare1 (thn (h e s σ H _ I hw) λv l f=>thn f λu m i=>thn i λc n hh9=>?_) f
 obtain⟨x,H1,I1,k,j⟩:=hh9
 obtain⟨d,rfl,q⟩:=j
 cases k
 exact p8 ⟨H1,I1,q⟩
theorem zlZ {e:Expr}{t:TE}(h:PE X e t)(c:∀ a,isTrue e X.env a=(do let v<-a;standAt e.pos;holding [v] (truthy v)):=by intro _;rfl):PT X e (tB t):=by
 intro b s σ H Q I hw
 refine isTrue_plain (thn (h b s σ H _ I hw) λv i hh9=>?_) (c _)
 obtain⟨x,H1,I1,g,f⟩:=hh9
 obtain⟨d,rfl,q⟩:=f
 cases g
 exact p8 ⟨H1,I1,q⟩
variable {tA tB':TT}{rest:List Expr}
def tAnd (t u:TT):TT:=fun σ H Q=>t σ H λc H1=>if c=true then u σ H1 Q else Q false H1
def tOr (t u:TT):TT:=fun σ H Q=>t σ H λc H1=>if c=true then Q true H1 else u σ H1 Q
def tNot (t:TT):TT:=fun σ H Q=>t σ H λc H1=>Q (!c) H1
theorem znZ (d:PT X a tA):PW X (.BoolOp .And [a] pos) tA:=by
 intro g b s σ H Q I h
 refine isTrue_and (thn (d b s σ H Q I h) λc f e=>?_)
 cases c with
 | true=>exact isTrue_and_nil e
 | false=>exact e
theorem zlF (d:PT X a tA):PW X (.BoolOp .Or [a] pos) tA:=by
 intro g b s σ H Q I h
 refine isTrue_or (thn (d b s σ H Q I h) λc f e=>?_)
 cases c with
 | false=>exact isTrue_or_nil e
 | true=>exact e
theorem zpr (i:PT X a tA)(j:PW X (.BoolOp .And (b::rest) pos) tB'):PW X (.BoolOp .And (a::b::rest) pos) (tAnd tA tB'):=by
 intro g d s σ H Q I h
 refine isTrue_and (thn (i d s σ H _ I h) λc f hh9=>?_)
 obtain⟨H1,I1,e⟩:=hh9
 cases c with
 | true=>exact j g d f σ H1 Q I1 e
 | false=>exact⟨H1,I1,e⟩
theorem zqG (i:PT X a tA)(j:PW X (.BoolOp .Or (b::rest) pos) tB'):PW X (.BoolOp .Or (a::b::rest) pos) (tOr tA tB'):=by
 intro g d s σ H Q I h
 refine isTrue_or (thn (i d s σ H _ I h) λc f hh9=>?_)
 obtain⟨H1,I1,e⟩:=hh9
 cases c with
 | true=>exact⟨H1,I1,e⟩
 | false=>exact j g d f σ H1 Q I1 e
theorem zl3 (d:PT X a tA):PT X (.UnaryOp .Not a pos) (tNot tA):=by
 intro b s σ H Q I h
 exact isTrue_not (d b s σ H (λc H1=>Q (!c) H1) I h)
def zq7 (ta tb:TE):TE:=fun σ H Q=>ta σ H λx H1=>∃ c,x=.bl c/\if c=true then tb σ H1 Q else Q (.bl false) H1
def zrT (ta:TE):TE:=fun σ H Q=>ta σ H λx H1=>∃ c,x=.bl c/\Q (.bl (!c)) H1
theorem zp4 {op}{t:TE}(h:PE X a t):PE X (.BoolOp op [a] pos) t:=λb s σ H Q I hw=>BoolOp_one (h b s σ H Q I hw)
theorem zlH (g:PE X a ta)(j:PE X (.BoolOp .And (b::rest) pos) tb):PE X (.BoolOp .And (a::b::rest) pos) (zq7 ta tb):=by
 intro d s σ H Q I h
 refine BoolOp_and (thn (g d s σ H _ I h) λv f hh9=>?_)
 obtain⟨x,H1,I1,i,e⟩:=hh9
 obtain⟨c,rfl,e⟩:=e
 cases i
 refine p8 ?_
 cases c with
 | true=>exact j d f σ H1 Q I1 e
 | false=>exact⟨.bl false,H1,I1,rfl,e⟩
theorem zqi (e:PE X a ta):PE X (.UnaryOp .Not a pos) (zrT ta):=by
 intro b s σ H Q I h
 refine UnaryOp_ (thn (e b s σ H _ I h) λv g hh9=>?_)
 obtain⟨x,H1,I1,f,d⟩:=hh9
 obtain⟨c,rfl,d⟩:=d
 cases f
 exact not_of (p8 ⟨.bl (!c),H1,I1,rfl,d⟩)
end
def SqL (K:W.Frag)(H:Hp)(a:Addr)(c:List V):Prop :=
 Rd H a (.lst c) \/
  ∃ (o:Obj) (b:Array Value) (n:Nat),K.lookup a=some o/\o.cls=.type "list"/\o.dict=none/\o.data=.seq b n/\b.size<=sizeLine/\yZ c b.toList
def SqT (K:W.Frag)(H:Hp)(a:Addr)(c:List V):Prop :=
 Rd H a (.tup c) \/
  ∃ (o:Obj) (b:Array Value) (n:Nat),K.lookup a=some o/\o.cls=.type "tuple"/\o.data=.seq b n/\b.size<=sizeLine/\yZ c b.toList
def absV:Value->Option V
 | .none=>some .non
 | .bool b=>some (.bl b)
 | .int i _=>some (.int i)
 | .str x _=>some (.str x)
 | .bytes b _=>some (.byt b)
 | .float b _=>some (.flt b)
 | .ref a=>some (.ref a)
 | .type n=>some (.ty n)
 | _=>none
theorem xt.abs {x:V}{u:Value}(r:xt x u):absV u=some x:=by
 cases x with
 | non=>cases r;rfl
 | bl _=>cases r;rfl
 | int _=>obtain⟨t,rfl⟩:=r;rfl
 | str _=>obtain⟨t,rfl⟩:=r;rfl
 | byt _=>obtain⟨t,rfl⟩:=r;rfl
 | flt _=>obtain⟨t,rfl⟩:=r;rfl
 | ref _=>cases r;rfl
 | ty _=>cases r;rfl
theorem xt.inj {x y:V}{u:Value}(r:xt x u)(q:xt y u):x=y:=n8 (r.abs.symm.trans q.abs)
theorem yZ.inj:∀ {b a:List V} {c:List Value},yZ b c->yZ a c->b=a:=by
 intro b a c h
 induction h generalizing a with
 | nil=>intro d;cases d;rfl
 | cons r t g=>intro d;cases d with | cons e f=>rw[r.inj e,g f]
section
variable {X:Cx}{pins:List (Addr × Obj)}{σ:St}{H:Hp}{s:Shared}{a:Addr}{xs ys:List V}
theorem SqL.of {K:W.Frag}(h:H a=some (.lst xs)):SqL K H a xs:=.inl (.inl h)
theorem SqT.of {K:W.Frag}(h:H a=some (.tup xs)):SqT K H a xs:=.inl (.inl h)
theorem Inv.list (I:Inv X pins σ H s)(h:SqL X.K H a xs):∃ b:List Value,yZ xs b/\PlainL s.heap a b.toArray/\xs.length<=sizeLine:=by
 rcases h with h | ⟨o,b,n,c,d,g,f,i,r⟩
 .obtain⟨z,b,n,r,e⟩:=h.ok I.hok
  exact⟨b,r,⟨_,n,e,rfl,rfl,rfl⟩,z⟩
 .refine⟨b.toList,r,⟨o,n,I.kIn a o c,d,g,by simpa using f⟩,?_⟩
  have e:=r.length
  simp only[r8]at e
  omega
theorem Inv.tuple (I:Inv X pins σ H s)(h:SqT X.K H a xs):∃ b:List Value,yZ xs b/\IsTup s.heap a b.toArray/\xs.length<=sizeLine:=by
 rcases h with h | ⟨o,b,n,c,d,f,g,r⟩
 .obtain⟨z,b,r,p⟩:=h.ok I.hok
  exact⟨b,r,p,z⟩
 .refine⟨b.toList,r,⟨o,I.kIn a o c,d,n,by simpa using f⟩,?_⟩
  have e:=r.length
  simp only[r8]at e
  omega
theorem Inv.list_inj (I:Inv X pins σ H s)(h:SqL X.K H a xs)(j:SqL X.K H a ys):xs=ys:=by
 obtain⟨c,r,⟨o,n,e,_,_,d⟩,_⟩:=I.list h
 obtain⟨b,i,⟨l,k,g,_,_,f⟩,_⟩:=I.list j
 rw[e]at g;cases g
 rw[d]at f
 injection f with d1 _
 have:c=b:=by simpa using i6 Array.toList d1
 subst this
 exact r.inj i
theorem Inv.tuple_inj (I:Inv X pins σ H s)(h:SqT X.K H a xs)(j:SqT X.K H a ys):xs=ys:=by
 obtain⟨c,r,⟨o,e,_,n,d⟩,_⟩:=I.tuple h
 obtain⟨b,i,⟨l,g,_,k,f⟩,_⟩:=I.tuple j
 rw[e]at g;cases g
 rw[d]at f
 injection f with d1 _
 have:c=b:=by simpa using i6 Array.toList d1
 subst this
 exact r.inj i
end
abbrev Cx.wish (X:Cx)(E:Value->Shared->Prop):Cx:={ X with xe:=E }
abbrev Cx.nox (X:Cx):Cx:=X.wish λ_ _=>False
theorem Cx.Ok.wish {X:Cx}(ok:X.Ok)(E:Value->Shared->Prop):(X.wish E).Ok :=
 ⟨ok.mod,ok.kind,ok.glob,ok.blt,ok.above,ok.inj,ok.has,ok.cab,ok.hd,ok.frames,ok.stk,ok.exf,ok.bs,ok.bsz,ok.noex,ok.exfs,ok.funs,ok.frf⟩
theorem Cx.Ok.unwish {X:Cx}{E:Value->Shared->Prop}(ok:(X.wish E).Ok):X.Ok :=
 ⟨ok.mod,ok.kind,ok.glob,ok.blt,ok.above,ok.inj,ok.has,ok.cab,ok.hd,ok.frames,ok.stk,ok.exf,ok.bs,ok.bsz,ok.noex,ok.exfs,ok.funs,ok.frf⟩
section
variable {X:Cx}{pins:List (Addr × Obj)}{σ:St}{H:Hp}{s:Shared}{E:Value->Shared->Prop}
theorem Inv.wish (I:Inv X pins σ H s)(E:Value->Shared->Prop):Inv (X.wish E) pins σ H s:=⟨I.ok.wish E,I.os,I.bare,I.base,I.loc,I.cell,I.free,I.freeC,I.pin,I.hok,I.len⟩
theorem Inv.unwish (I:Inv (X.wish E) pins σ H s):Inv X pins σ H s:=⟨I.ok.unwish,I.os,I.bare,I.base,I.loc,I.cell,I.free,I.freeC,I.pin,I.hok,I.len⟩
theorem SP.unwish {D:zce}{f:Flow}{b:Shared}(h:SP (X.wish E) pins D f b):SP X pins D f b:=by
 cases f with
 | next=>obtain⟨a,H',I,q⟩:=h;exact⟨a,H',I.unwish,q⟩
 | brk=>obtain⟨a,H',I,q⟩:=h;exact⟨a,H',I.unwish,q⟩
 | cont=>obtain⟨a,H',I,q⟩:=h;exact⟨a,H',I.unwish,q⟩
 | ret u=>obtain⟨v,a,H',I,r,q⟩:=h;exact⟨v,a,H',I.unwish,r,q⟩
theorem PSs.nox {a:List Stmt}{t:TS}(h:PSs X.nox a t):PSs X a t:=λpins s σ H D I hw =>
 o8 (h pins s σ H D (I.wish _) hw) (λ_ _ q=>q.unwish) λ_ _ z=>False.elim z
end
section
variable {X:Cx}{st:Stmt}{rest:List Stmt}{t u:TS}{e:Expr}{te:TE}{pos:Pos}
def zoz:TS:=λD σ H=>D.nx σ H
def zrx (t u:TS):TS:=λD σ H=>t { D with nx:=u D } σ H
theorem zdR:PSs X [] zoz:=λ_ _ σ H _ I h=>u1k ⟨σ,H,I,h⟩
theorem wP (b:PS X st t)(e:PSs X rest u):PSs X (st::rest) (zrx t u):=by
 intro a s σ H D I h
 refine wpAny_execs_cons (thn (b a s σ H { D with nx:=u D } I h) λf c q=>?_)
 cases f with
 | next =>
  obtain⟨d,H',I',q⟩:=q
  exact e a c d H' D I' q
 | ret v=>exact q
 | brk=>exact q
 | cont=>exact q
theorem Zf (b:PS X st t):PSs X [st] t:=by
 intro a s σ H D I h
 refine wpAny_execs_cons (thn (b a s σ H D I h) λf c q=>?_)
 cases f with
 | next=>exact u1k q
 | ret v=>exact q
 | brk=>exact q
 | cont=>exact q
theorem Inv.quiet {a:List (Addr × Obj)}{σ:St}{H:Hp}{s:Shared}(I:Inv X a σ H s):interactive X.env=false:=by simp[interactive,I.ok.kind]
def zrG (te:TE):TS:=λD σ H=>te σ H λ_ H1=>D.nx σ H1
theorem zbs (c:PE X e te)(b:swapsWith e none pos.line X.env=pure false:=by rfl):PS X (.Expr e pos) (zrG te):=by
 intro a s σ H D I h
 exact wpAny_Expr_any (thn (c a s σ H _ I h) λv f ⟨x,H1,I1,g,d⟩=>⟨σ,H1,I1,d⟩) I.quiet b
def zrs (te:TE):TS:=λD σ H=>te σ H D.rt
theorem zaw (b:PE X e te):PS X (.Return (some e) pos) (zrs te):=by
 intro a s σ H D I h
 exact wpAny_Return_some (thn (b a s σ H _ I h) λv f ⟨x,H1,I1,d,c⟩=>⟨x,σ,H1,I1,d,c⟩)
def zrz (c:TT)(t u:TS):TS:=λD σ H=>c σ H λb H1=>if b=true then t D σ H1 else u D σ H1
theorem zk6 {c:Expr}{a b:List Stmt}{f:TT}(j:PT X c f)(k:PSs X a t)(l:PSs X b u):PS X (.If c a b pos) (zrz f t u):=by
 intro e s σ H D I h
 refine wpAny_If (thn (j e s σ H _ I h) λd g hh9=>?_)
 obtain⟨H1,I1,i⟩:=hh9
 cases d with
 | true=>exact k e g σ H1 D I1 i
 | false=>exact l e g σ H1 D I1 i
def zmu:TS:=λ_ _ _=>False
theorem zkG:PS X st zmu:=λ_ _ _ _ _ _ h=>h.elim
theorem zjw {a:List Stmt}:PSs X a zmu:=λ_ _ _ _ _ _ h=>h.elim
end
abbrev TG:=V->St->Hp->(St->Hp->Prop)->Prop
abbrev TGs:=List V->St->Hp->(St->Hp->Prop)->Prop
def PG (X:Cx)(a:Expr)(t:TG):Prop :=
 ∀ (b:List (Addr × Obj)) (s:Shared) (σ:St) (H:Hp) (v:V) (u:Value) (Q:St->Hp->Prop),Inv X b σ H s->xt v u->t v σ H Q ->
  wpAny (model X.prog X.w) X.A (assign a X.env u) (λ_ d=>∃ c H',Inv X b c H' d/\Q c H') X.xe s
def PGs (X:Cx)(f:List Expr)(t:TGs):Prop :=
 ∀ (a:List (Addr × Obj)) (s:Shared) (σ:St) (H:Hp) (d:List V) (b:List Value) (Q:St->Hp->Prop),Inv X a σ H s->yZ d b->t d σ H Q ->
  wpAny (model X.prog X.w) X.A (assignInOrder ((assignEach f X.env).map (·.2)) b) (λ_ e=>∃ c H',Inv X a c H' e/\Q c H') X.xe s
abbrev zru:=V->V->V->Hp->(Hp->Prop)->Prop
def PSet (X:Cx)(t:zru):Prop :=
 ∀ (a:List (Addr × Obj)) (s:Shared) (σ:St) (H:Hp) (o i v:V) (b c u:Value) (Q:Hp->Prop),Inv X a σ H s->xt o b->xt i c->xt v u->t o i v H Q ->
  wpAny (model X.prog X.w) X.A (setItem b c u) (λ_ d=>∃ H',Inv X a σ H' d/\Q H') X.xe s
section
variable {X:Cx}{pos:Pos}
def VZ (i:Nat):TG:=λv σ H Q=>Q (σ.set i (some v)) H
theorem xR {i:Nat}{x:Str}(c:X.N.Nodup)(e:X.N[i]?=some x)(b:Loc X.env.scope x)(d:X.fn x=true\/X.env.scope.names.lookup x=some .local:=by first | exact .inl rfl | exact .inr rfl | assumption):PG X (.Name x pos) (VZ i):=by
 intro a s σ H v u Q I r h
 exact wpAny_assign_Name (zaH I c e b r (λf I'=>⟨_,H,I',h⟩) d)
def gNil:TGs:=λa σ H Q=>a=[]/\Q σ H
def zrC (t:TG)(u:TGs):TGs:=λb σ H Q=>∃ v r,b=v::r/\t v σ H λa H'=>u r a H' Q
theorem znJ:PGs X [] gNil:=by
 intro a s σ H c b Q I r h
 obtain⟨e,h⟩:=h
 subst e
 cases r
 exact assignInOrder_nil ⟨σ,H,I,h⟩
theorem zlh {e:Expr}{b:List Expr}{t:TG}{u:TGs}(g:PG X e t)(f:PGs X b u)
 (d:(assignEach (e::b) X.env).map (·.2)=assign e X.env::(assignEach b X.env).map (·.2):=by rfl):PGs X (e::b) (zrC t u):=by
 intro a s σ H n m Q I r h
 obtain⟨v,o,i,h⟩:=h
 subst i
 cases r with
 | cons r l =>
  rw[d]
  refine assignInOrder_cons (thn (g a s σ H _ _ _ I r h) λ_ c hh9=>?_)
  obtain⟨j,H1,I1,k⟩:=hh9
  exact f a c j H1 _ _ Q I1 l k
def gTup (K:W.Frag)(n:Nat)(t:TGs):TG:=λv σ H Q=>∃ a b,v=.ref a/\SqT K H a b/\b.length=n/\t b σ H Q
theorem zp6 {d:List Expr}{k:Nat}{t:TGs}{n:Nat}(m:X.calm=true)(h:PGs X d t)
 (j:(assignEach d X.env).length=n:=by rfl) (f:(assignEach d X.env).findIdx? (·.1)=none:=by rfl):PG X (.Tuple d k pos) (gTup X.K n t):=by
 intro c s σ H v u Q I r hw
 obtain⟨a,w,x,l,q,hw⟩:=hw
 subst x
 cases r
 obtain⟨y,g,i,A⟩:=I.tuple l
 refine assign_Tuple_tuple (I.ok.hd m) i (by simp[j,<- q,g.length]) f λz p=>?_
 have I1:Inv X c σ H { s with heap:=z }:=I.kept (t':=s.toks) λb o e=>p b o (q5 (t3 e)) e
 exact h c _ σ H w _ Q I1 (by simpa using g) hw
def gSub (a b:TE)(t:zru):TG:=λv σ H Q=>a σ H λo H1=>b σ H1 λi H2=>t o i v H2 λH3=>Q σ H3
theorem zqa {o i:Expr}{d e:TE}{t:zru}(n:PE X o d)(z:PE X i e)(g:PSet X t)
 (j:∀ v,assign (.Subscript o i pos) X.env v=(do
  let b<-holding [v] (eval o X.env)
  let c<-holding [v,b] (eval i X.env)
  standAt pos
  holding [v,b,c] (setItem b c v)
  release [v,b,c] []):=by intro _;rfl):PG X (.Subscript o i pos) (gSub d e t):=by
 intro a s σ H v u Q I r h
 rw[j]
 refine u0 (r6 (thn (n a s σ H _ I h) λb q hh9=>?_))
 obtain⟨x,H1,I1,m,l⟩:=hh9
 refine u0 (r6 (thn (z a q σ H1 _ I1 l) λc w hh9=>?_))
 obtain⟨y,H2,I2,p,k⟩:=hh9
 refine u0 (u1l (u0 (r6 (thn (g a w σ H2 x y v b c u _ I2 m p r k) λ_ A hh9=>?_))))
 obtain⟨H3,I3,f⟩:=hh9
 exact wpAny_release ⟨σ,H3,I3,f⟩
def zoI (a:TE)(g:TG):TS:=λD σ H=>a σ H λx H1=>g x σ H1 D.nx
theorem zmx {b e:Expr}{c:TE}{g:TG}(f:PE X e c)(k:PG X b g)(i:swapsWithSole [b] e pos.line X.env=pure false:=by rfl)(hw:swappedStores [b] e X.env=pure none:=by rfl)
 (j:(assignEach [b] X.env).map (·.2)=[assign b X.env]:=by rfl):PS X (.Assign [b] e pos) (zoI c g):=by
 intro a s σ H D I h
 refine wpAny_Assign_stores (thn (f a s σ H _ I h) λv d hh9=>?_) i hw
 obtain⟨x,H1,I1,m,l⟩:=hh9
 rw[j]
 exact thn (k a d σ H1 x v _ I1 m l) λ_ n q=>q
theorem ZO {i:Nat}{x:Str}{e:Expr}{c:TE}{a:Pos}(j:X.N.Nodup)(l:X.N[i]?=some x)(d:Loc X.env.scope x)(f:PE X e c)(g:swapsWith e (some (.Name x a)) pos.line X.env=pure false:=by rfl)(k:X.fn x=true\/X.env.scope.names.lookup x=some .local:=by first | exact .inl rfl | exact .inr rfl | assumption) :
 PS X (.Assign [.Name x a] e pos) (zoI c (VZ i)):=by
 intro b s σ H D I h
 refine wpAny_Assign_Name (thn (f b s σ H _ I h) λv o hh9=>?_) g
 obtain⟨y,H1,I1,n,m⟩:=hh9
 exact zaH I1 j l d n (λp I2=>⟨_,H1,I2,m⟩) k
def zpA (c:TT)(e:TS):TS:=λD σ H=>∃ W:Nat->St->Hp->Prop,(∃ m,W m σ H)/\∀ m σ H,W m σ H ->
 c σ H λb H1=>if b=true then ∃ N:St->Hp->Prop,(∀ a H',N a H'->∃ d,d < m/\W d a H')/\e { D with nx:=N,ct:=N,bk:=D.nx } σ H1 else D.nx σ H1
theorem zkb {c:Expr}{d:List Stmt}{p:TT}{q:TS}(t:PassesOwn (model X.prog X.w) X.A X.env X.xe)(w:PT X c p)(B:PSs X d q):PS X (.While c d [] pos) (zpA p q):=by
 intro a s σ H D I h
 obtain⟨W,⟨x,z⟩,turn⟩:=h
 refine wpAny_While (codeAny_whileLoop (λn y=>∃ r H',Inv X a r H' y/\W n r H') ?_ x ⟨σ,H,I,z⟩)
 rintro n C ⟨j,H1,I1,A⟩
 refine u0v t (thn (w a C j H1 _ I1 (turn n j H1 A)) λb E hh9=>?_)
 obtain⟨H2,I2,i⟩:=hh9
 cases b with
 | true =>
  obtain⟨N,u,i⟩:=i
  rw[t6 rfl]
  refine u0v t (thn (B a E j H2 _ I2 i) λf F g=>?_)
  cases f with
  | next =>
   obtain⟨e,H3,I3,m⟩:=g
   obtain⟨o,l,k⟩:=u e H3 m
   exact⟨o,l,e,H3,I3,k⟩
  | cont =>
   obtain⟨e,H3,I3,m⟩:=g
   obtain⟨o,l,k⟩:=u e H3 m
   exact⟨o,l,e,H3,I3,k⟩
  | brk=>exact g
  | ret v=>exact g
 | false =>
  rw[t9 u7]
  exact u1k ⟨j,H2,I2,i⟩
end
structure It where
 go:Nat->Hp->Prop
 yld:Nat->Hp->V->Hp->Prop
 stop:Nat->Hp->Prop
def zc3 (X:Cx)(a:List (Addr × Obj))(H:Hp)(b:Addr):Prop :=
 H b=none/\b≠X.env.locals/\b∉X.fs/\(b∈X.ex\/X.s₀.heap.objs.size<=b)/\(∀ x c,X.env.cells.lookup x=some c->c≠b)/\∀ p∈X.pn++a,p.1≠b
theorem Inv.fpOk {X:Cx}{a:List (Addr × Obj)}{σ:St}{H H':Hp}{s:Shared}{b:Addr}(I:Inv X a σ H s)(d:s.heap.objs.size<=b)(f:H' b=none):zc3 X a H' b:=by
 refine⟨f,u03 (t8 I.lt d),I.nofs d,.inr (k8 I.sz d),λx c e z=>?_,λp g z=>?_⟩
 .obtain⟨v,q⟩:=I.cell x c e
  exact absurd (t8 q.lt (by rw[z];exact d)) (l7 _)
 .exact absurd (t8 (t3 (I.pin p g).1) (by rw[z];exact d)) (l7 _)
structure zov (P:Program) (w:World) (K:W.Frag) (tg:Expr) (J:It) (fp:List Addr) (it:Addr) (tn:Nat->Heap->Prop):Prop where
 mem:it∈fp
 obj:∀ i h,tn i h->∀ b∈fp,∃ o,h.get? b=some o/\∀ v,o.data≠.cell v
 keep:∀ i h h',tn i h->(∀ b∈fp,∀ o,h.get? b=some o->h'.get? b=some o)->tn i h'
 item:∀ (X:Cx),X.prog=P->X.w=w->X.K=K->X.calm=true->∀ (i:Nat) (pins:List (Addr × Obj)) (s:Shared) (σ:St) (H:Hp) (E:Value->Shared->Prop),Inv X pins σ H s->(∀ b∈fp,zc3 X pins H b)->tn i s.heap->J.go i H ->
  wpAny (model P w) X.A (pyNext (.ref it)) (λr s1=>∃ u,r=some u /\
   wpAny (model P w) X.A (letOwnedTupleGo tg (.ref it) u) (λ_ s2=>∃ x H',Inv X pins σ H' s2/\xt x u/\J.yld i H x H'/\tn (i+1) s2.heap/\∀ b∈fp,H' b=none) E s1) E s
 done:∀ (X:Cx),X.prog=P->X.w=w->X.K=K->X.calm=true->∀ (i:Nat) (pins:List (Addr × Obj)) (s:Shared) (σ:St) (H:Hp) (E:Value->Shared->Prop),Inv X pins σ H s->(∀ b∈fp,zc3 X pins H b)->tn i s.heap->J.stop i H ->
  wpAny (model P w) X.A (pyNext (.ref it)) (λr s1=>r=none/\Inv X pins σ H s1) E s
 self:∀ (A:Around) (i:Nat) (s:Shared) (Q:Value->Shared->Prop) (E:Value->Shared->Prop),tn i s.heap->Q (.ref it) s->wpAny (model P w) A (pyIter (.ref it)) Q E s
abbrev TI:=St->Hp->(It->Hp->Prop)->Prop
def PIE (X:Cx)(a:List (Addr × Obj))(σ:St)(h:Expr)(R:It->Hp->Prop)(c:Value)(f:Shared):Prop :=
 ∃ (g:Addr) (d:List Addr) (e:Nat->Heap->Prop) (J:It) (H':Hp),c=.ref g/\Inv X a σ H' f/\zov X.prog X.w X.K h J d g e/\e 0 f.heap/\(∀ b∈d,zc3 X a H' b)/\R J H'
def PI (X:Cx)(d b:Expr)(c:TI):Prop :=
 ∀ (a:List (Addr × Obj)) (s:Shared) (σ:St) (H:Hp) (R:It->Hp->Prop),Inv X a σ H s->c σ H R ->
  wpAny (model X.prog X.w) X.A (eval b X.env) (λv e=>wpAny (model X.prog X.w) X.A (pyIter v) (PIE X a σ d R) X.xe e) X.xe s
theorem zkL {M:Model}{A:Around}{E:Value→Shared→Prop}{s:Shared}{tg:Expr}{it:Addr}{u:Value}{o:Obj}{n:String}{vs:Array Value}{Q:Unit→Shared→Prop}(ho:s.heap.get? it=some o)(hc:o.cls=.type n)(hd:o.data=.fields vs)
    (hn:["enumerate","zip","dict_itemiterator","dict_reverseitemiterator","odict_iterator","itertools.zip_longest","itertools.pairwise"].contains n=false) (hQ:Q () s):wpAny M A (letOwnedTupleGo tg (.ref it) u) Q E s:=by
  unfold letOwnedTupleGo
  cases tg <;> first
    | exact u6 hQ
    | (cases u <;> first
        | exact u6 hQ
        | (refine u0 (wpAny_load ho ?_)
           rw [hc,hd]
           show wpAny M A (if (["enumerate","zip","dict_itemiterator","dict_reverseitemiterator","odict_iterator","itertools.zip_longest","itertools.pairwise"].contains n&&vs[0]? == some (rawInt _))=true then _ else _) Q E s
           rw [t9 (by intro h;rw [hn,Bool.false_and] at h;cases h)]
           exact u6 hQ))
def Itl (K:W.Frag)(a:Addr):It :=
 ⟨λi H=>∃ b x,SqL K H a b/\b[i]?=some x,λi H x H'=>H'=H/\∀ b,SqL K H a b->b[i]?=some x,λi H=>∃ b,SqL K H a b/\b.length<=i⟩
def Itt (K:W.Frag)(a:Addr):It :=
 ⟨λi H=>∃ b x,SqT K H a b/\b[i]?=some x,λi H x H'=>H'=H/\∀ b,SqT K H a b->b[i]?=some x,λi H=>∃ b,SqT K H a b/\b.length<=i⟩
def Itr (a:Int)(n:Nat):It:=⟨λi _=>i < n,λi H x H'=>H'=H/\x=.int (a+i),λi _=>n<=i⟩
theorem zgO {P:Program}{w:World}{K:W.Frag}{tg:Expr}(a it:Addr):zov P w K tg (Itl K a) [it] it (λi h=>h.IsListIter it a i) where
 mem:=by simp
 obj:=λi h st b hb=>by
  have e:b=it:=by simpa using hb
  subst e
  obtain⟨o,e,c,d⟩:=st
  exact⟨o,e,λv z=>by rw[d]at z;cases z⟩
 keep:=λi h h' st k=>st.at λo e=>k it (by simp) o e
 item:=by
  intro X hP hw hK hc i pins s σ H E I hf st hg
  subst hP hw hK
  obtain⟨xs,x,hq,hx⟩:=hg
  obtain⟨its,rv,p,hz⟩:=I.list hq
  obtain⟨u,hu,ru⟩:=rv.get hx
  obtain⟨f0,f1,f2,f3,f4,f5⟩:=hf it (by simp)
  refine wpAny_pyNext_list_item st p.isList (x:=u) (by simpa using hu) λh' st' sb=>?_
  have I1:Inv X pins σ H { s with heap:=h' }:=I.turned (t':=s.toks) (λb o hb e=>(sb.2 b hb).trans e) f0 f1 f3 f4 f5
  obtain⟨o,e,c,d⟩:=id st'
  exact⟨u,rfl,zkL (s:={ s with heap:=h' }) e c d (by decide) ⟨x,H,I1,ru,⟨rfl,λys hy=>by rw[I.list_inj hy hq];exact hx⟩,st',λb hb=>(hf b hb).1⟩⟩
 done:=by
  intro X hP hw hK hc i pins s σ H E I hf st hg
  subst hP hw hK
  obtain⟨xs,hq,hx⟩:=hg
  obtain⟨its,rv,p,hz⟩:=I.list hq
  obtain⟨f0,f1,f2,f3,f4,f5⟩:=hf it (by simp)
  have hl:=rv.length
  exact wpAny_pyNext_list_end (I.ok.hd hc) st p.isList (by simp;omega) λh' eb=>⟨rfl,I.turned (t':=s.toks) (λb o hb e=>eb b o hb e) f0 f1 f3 f4 f5⟩
 self:=λ_ _ _ _ _ st h=>wpAny_pyIter_listiter st h
theorem zfO {P:Program}{w:World}{K:W.Frag}{tg:Expr}(a it:Addr):zov P w K tg (Itt K a) [it] it (λi h=>h.IsTupleIter it a i) where
 mem:=by simp
 obj:=λi h st b hb=>by
  have e:b=it:=by simpa using hb
  subst e
  obtain⟨o,e,c,d⟩:=st
  exact⟨o,e,λv z=>by rw[d]at z;cases z⟩
 keep:=λi h h' st k=>st.at λo e=>k it (by simp) o e
 item:=by
  intro X hP hw hK hc i pins s σ H E I hf st hg
  subst hP hw hK
  obtain⟨xs,x,hq,hx⟩:=hg
  obtain⟨its,rv,p,hz⟩:=I.tuple hq
  obtain⟨u,hu,ru⟩:=rv.get hx
  obtain⟨f0,f1,f2,f3,f4,f5⟩:=hf it (by simp)
  refine wpAny_pyNext_tuple_item st (show s.heap.IsTuple a its.toArray from p) (x:=u) (by simpa using hu) λh' st' sb=>?_
  have I1:Inv X pins σ H { s with heap:=h' }:=I.turned (t':=s.toks) (λb o hb e=>(sb.2 b hb).trans e) f0 f1 f3 f4 f5
  obtain⟨o,e,c,d⟩:=id st'
  exact⟨u,rfl,zkL (s:={ s with heap:=h' }) e c d (by decide) ⟨x,H,I1,ru,⟨rfl,λys hy=>by rw[I.tuple_inj hy hq];exact hx⟩,st',λb hb=>(hf b hb).1⟩⟩
 done:=by
  intro X hP hw hK hc i pins s σ H E I hf st hg
  subst hP hw hK
  obtain⟨xs,hq,hx⟩:=hg
  obtain⟨its,rv,p,hz⟩:=I.tuple hq
  obtain⟨f0,f1,f2,f3,f4,f5⟩:=hf it (by simp)
  have hl:=rv.length
  exact wpAny_pyNext_tuple_end (I.ok.hd hc) st (show s.heap.IsTuple a its.toArray from p) (by simp;omega) λh' eb=>⟨rfl,I.turned (t':=s.toks) (λb o hb e=>eb b o hb e) f0 f1 f3 f4 f5⟩
 self:=λ_ _ _ _ _ st h=>wpAny_pyIter_tupleiter st h
theorem zfl {P:Program}{w:World}{K:PySem.W.Frag}{tg:Expr}(it:Addr)(lo:Int)(n:Nat):zov P w K tg (Itr lo n) [it] it (λi h=>IsRangeIter h it (lo+(i:Nat)*1) ((n:Int) - (i:Nat)) 1) where
 mem:=by simp
 obj:=λi h st b hb=>by
  have e:b=it:=by simpa using hb
  subst e
  exact⟨_,st,λv z=>by
   have z':Data.fields _=Data.cell v:=z
   cases z'⟩
 keep:=λi h h' st k=>k it (by simp) _ st
 item:=by
  intro X hP hw hK hc i pins s σ H E I hf st hg
  subst hP hw hK
  obtain⟨f0,f1,f2,f3,f4,f5⟩:=hf it (by simp)
  have W:=Walks.range (prog:=X.prog) (w:=X.w) (I.ok.hd hc) it lo 1 n
  refine W.item i s _ _ hg st λv h' tk hv st' kk=>?_
  obtain⟨t,rfl⟩:=hv
  have I1:Inv X pins σ H { s with heap:=h',toks:=tk }:=I.turned (λb o hb e=>kk b o (by simpa using hb) e) f0 f1 f3 f4 f5
  refine⟨_,rfl,zkL (s:={ s with heap:=h',toks:=tk }) (n:="range_iterator") st' rfl rfl (by decide) ⟨.int (lo+i),H,I1,⟨t,?_⟩,⟨rfl,rfl⟩,st',λb hb=>(hf b hb).1⟩⟩
  rw[Int.mul_one]
 done:=by
  intro X hP hw hK hc i pins s σ H E I hf st hg
  subst hP hw hK
  obtain⟨f0,f1,f2,f3,f4,f5⟩:=hf it (by simp)
  exact wpAny_pyNext_range_end (I.ok.hd hc) st (by have:n<=i:=hg;omega) λh' eb=>⟨rfl,I.turned (t':=s.toks) (λb o hb e=>eb b o hb e) f0 f1 f3 f4 f5⟩
 self:=λ_ _ _ _ _ st h=>wpAny_pyIter_rangeiter st h
section
variable {X:Cx}{tg:Expr}
theorem zex {d:List (Addr × Obj)}{σ:St}{H:Hp}{s:Shared}{R:It->Hp->Prop}{E:Value->Shared->Prop}{a c:Int}{t u v:Tok}{f:Nat}(I:Inv X d σ H s)(i:-(2 ^ 62)<=a)(h:a < 2 ^ 62)(j:-(2 ^ 62)<=c)(g:c < 2 ^ 62)
 (q:R (Itr a (c - a).toNat) H):wpAny (model X.prog X.w) X.A (pyIter (.ref s.heap.objs.size)) (PIE X d σ tg R) E { s with heap:=s.heap.push { cls:=.type "range",data:=.fields #[.int a t,.int c u,.int 1 v] },toks:=f }:=by
 refine wpAny_pyIter_range (IsRange.new ..) (small_one i h j g) ?_
 have I1:Inv X d σ H { s with heap:=s.heap.push { cls:=.type "range",data:=.fields #[.int a t,.int c u,.int 1 v] },toks:=f }:=I.kept λb o e=>u5 _ e
 refine⟨(s.heap.push { cls:=.type "range",data:=.fields #[.int a t,.int c u,.int 1 v] }).objs.size,[(s.heap.push { cls:=.type "range",data:=.fields #[.int a t,.int c u,.int 1 v] }).objs.size],_,_,H,rfl,
  I1.kept (t':=f) λb o e=>u5 _ e,zfl _ a (c - a).toNat,?_,λb m=>?_,q⟩
 .have k:a+((0:Nat):Int)*1=a:=by simp
  have l:(((c - a).toNat:Nat):Int) - ((0:Nat):Int)=Builtin.Range.rangeSize a c 1:=by rw[rangeSize_one];split <;> omega
  show IsRangeIter _ _ (a+((0:Nat):Int)*1) ((((c - a).toNat:Nat):Int) - ((0:Nat):Int)) 1
  rw[k,l]
  exact q2 _ rfl
 .have e:b=(s.heap.push { cls:=.type "range",data:=.fields #[.int a t,.int c u,.int 1 v] }).objs.size:=by simpa using m
  subst e
  exact I1.fpOk (t4 _) (I1.hok.fresh (t4 _))
def zrr (a:TA):TI:=fun σ H R=>a σ H λb H1=>∃ j:Int,b=[.int j]/\-(2 ^ 62)<=j/\j < 2 ^ 62/\R (Itr 0 j.toNat) H1
def zrg (a:TA):TI:=fun σ H R=>a σ H λb H1=>∃ i j:Int,b=[.int i,.int j]/\(-(2 ^ 62)<=i/\i < 2 ^ 62/\-(2 ^ 62)<=j/\j < 2 ^ 62)/\R (Itr i (j - i).toNat) H1
theorem zcd {a:Expr} {f:TA} {p b:Pos} (m:Gl X "range") (g:X.mg "range"=none) (k:PA X [a] f) (i:starEach [a] X.env=[(false,eval a X.env)]:=by rfl):PI X tg (.Call (.Name "range" p) [a] [] b) (zrr f):=by
 intro c s σ H R I h
 refine Call_ (Y9 I m g boot_range (g5 (thn (k b c s σ H _ I h) λu v hh9=>?_) i rfl))
 obtain⟨w,H1,I1,n,d⟩:=hh9
 obtain⟨j,e,d,l,q⟩:=d
 subst e
 cases n with
 | cons r o =>
  cases o
  obtain⟨t,rfl⟩:=r
  exact call_range_1 (zex I1 (by omega) (by omega) d l (by simpa using q))
theorem zhb {a b:Expr} {l:TA} {p c:Pos} (w:Gl X "range") (y:X.mg "range"=none) (u:PA X [a,b] l) (o:starEach [a,b] X.env=[(false,eval a X.env),(false,eval b X.env)]:=by rfl) (d:starEach [b] X.env=[(false,eval b X.env)]:=by rfl) :
 PI X tg (.Call (.Name "range" p) [a,b] [] c) (zrg l):=by
 intro f s σ H R I h
 refine Call_ (Y9 I w y boot_range (g5 (thn (u c f s σ H _ I h) λC D hh9=>?_) (by rw[o,d]) (by rw[d];rfl)))
 obtain⟨A,H1,I1,x,g⟩:=hh9
 obtain⟨i,j,e,⟨g,v,n,z⟩,q⟩:=g
 subst e
 cases x with
 | cons r k =>
  cases k with
  | cons m k =>
   cases k
   obtain⟨t,rfl⟩:=r
   obtain⟨B,rfl⟩:=m
   exact call_range_2 (zex I1 g v n z q)
def tFor (c:TI)(g:TG)(d:TS):TS:=λD σ H=>c σ H λJ H1=>∃ W:Nat->Nat->St->Hp->Prop,(∃ m,W 0 m σ H1)/\∀ i m σ H,W i m σ H ->
 (J.stop i H/\D.nx σ H)\/(J.go i H/\∃ N:St->Hp->Prop,(∀ a H',N a H'->∃ b,b < m/\W (i+1) b a H')/\∀ x H',J.yld i H x H'->g x σ H' λe H2=>d { D with nx:=N,ct:=N,bk:=D.nx } e H2)
def XH (a:List Addr)(h:Heap):List (Addr × Obj):=a.filterMap λb=>(h.get? b).map λo=>(b,o)
theorem wm {a:List Addr}{h:Heap}{b:Addr}{o:Obj}(c:b∈a)(e:h.get? b=some o):(b,o)∈XH a h:=u1d.mpr ⟨b,c,by rw[e];rfl⟩
theorem zhS {a:List Addr}{h:Heap}{p:Addr × Obj}(c:p∈XH a h):p.1∈a/\h.get? p.1=some p.2:=by
 obtain⟨b,f,e⟩:=u1d.mp c
 cases q:h.get? b with
 | none=>rw[q]at e;cases e
 | some o =>
  rw[q]at e
  have d:(b,o)=p:=n8 e
  subst d
  exact⟨f,q⟩
theorem Inv.pinned {a:List (Addr × Obj)}{σ:St}{H:Hp}{s:Shared}{fp:List Addr}(I:Inv X a σ H s)(k:∀ b∈fp,zc3 X a H b)(l:∀ b∈fp,∃ o,s.heap.get? b=some o/\∀ v,o.data≠.cell v):Inv X (a++XH fp s.heap) σ H s :=
 I.pins_of λp g=>(n7.mp g).elim (λz=>I.pin p (k7 _ z)) λz=>by
  obtain⟨f,e⟩:=zhS z
  obtain⟨i,j,h,_⟩:=k p.1 f
  obtain⟨o,c,d⟩:=l p.1 f
  rw[e]at c;cases c
  exact⟨e,i,j,h,d⟩
theorem Inv.unpinned {a b:List (Addr × Obj)}{σ:St}{H:Hp}{s:Shared}(I:Inv X (a++b) σ H s):Inv X a σ H s:=I.pins_of λp c=>I.pin p (k7 _ (u1H _ c))
theorem zmj {j:Expr}{q:List Stmt}{Q:TI}{g:TG}{S:TS}{O:Pos}(C:PassesOwn (model X.prog X.w) X.A X.env X.xe)(Y:X.calm=true)(hi:PI X tg j Q)(hg:PG X tg g)(k:PSs X q S)
 (hs:∀ x,foldedSetIterable j X.env x=pure x:=by intro _;rfl):PS X (.For tg j q [] O) (tFor Q g S):=by
 intro a s σ H D I h
 refine wpAny_For (thn (hi a s σ H _ I h) λv s1 h1=>thn h1 λa0 s2 h2=>?_) hs
 obtain⟨it,E,V,J,H2,e,I2,T,L,U,W,⟨m0,w0⟩,turn⟩:=h2
 subst e
 -- what stays true of the iterator's objects through the loop
 have l:∀ {H':Hp},(∀ b∈E,H' b=none)->∀ b∈E,zc3 X a H' b:=λhn b k=>⟨hn b k,(U b k).2⟩
 refine codeAny_forLoop_any (λn Z=>∃ i z H',Inv X a z H' Z/\V i Z.heap/\(∀ b∈E,H' b=none)/\W i n z H') ?_ m0 ⟨0,σ,H2,I2,L,λb k=>(U b k).1,w0⟩
 rintro n P ⟨i,F,H3,I3,w,B,w3⟩
 rcases turn i n F H3 w3 with ⟨A,qn⟩ | ⟨go,N,hN,step⟩
 .refine u0v C (thn (T.done X rfl rfl rfl Y i a P F H3 X.xe I3 (l B) w A) λr s4 hh9=>?_)
  obtain⟨G,I4⟩:=hh9
  subst G
  exact u1k ⟨F,H3,I4,qn⟩
 .refine u0v C (thn (T.item X rfl rfl rfl Y i a P F H3 X.xe I3 (l B) w go) λr s4 hh9=>?_)
  obtain⟨u,G,h4⟩:=hh9
  subst G
  refine u0v C (thn h4 λ_ R hh9=>?_)
  obtain⟨x,H5,I5,r5,y5,t,K⟩:=hh9
  have I5':=I5.pinned (l K) (T.obj _ _ t)
  refine u0v C (thn (hg _ R F H5 x u _ I5' r5 (step x H5 y5)) λ_ s6 hh9=>?_)
  obtain⟨σ6,H6,I6,q6⟩:=hh9
  refine u0v C (thn (k _ s6 σ6 H6 _ I6 q6) λf M p=>?_)
  have again:∀ {c:St} {H7:Hp},Inv X (a++XH E R.heap) c H7 M->N c H7->∃ m,m < n/\∃ i z H',Inv X a z H' M/\V i M.heap/\(∀ b∈E,H' b=none)/\W i m z H':=λ{c H7} I7 y=>by
   obtain⟨m',hm,w7⟩:=hN c H7 y
   refine⟨m',hm,i+1,c,H7,I7.unpinned,T.keep _ _ _ t λb k o e=>(I7.pin (b,o) (k7 _ (k7 _ (wm k e)))).1,λb k=>?_,w7⟩
   obtain⟨o,e,d⟩:=T.obj _ _ t b k
   exact(I7.pin (b,o) (k7 _ (k7 _ (wm k e)))).2.1
  cases f with
  | next=>obtain⟨c,H7,I7,y⟩:=p;exact again I7 y
  | cont=>obtain⟨c,H7,I7,y⟩:=p;exact again I7 y
  | brk=>obtain⟨c,H7,I7,p⟩:=p;exact⟨c,H7,I7.unpinned,p⟩
  | ret v=>obtain⟨x7,c,H7,I7,r7,p⟩:=p;exact⟨x7,c,H7,I7.unpinned,r7,p⟩
end
abbrev R2:=V->V->Hp->VK->Prop
def OpR (X:Cx)(f:Value->Value->Sem Value)(r:R2):Prop :=
 ∀ (a:List (Addr × Obj)) (s:Shared) (σ:St) (H:Hp) (x y:V) (v u:Value) (Q:VK),Inv X a σ H s->xt x v->xt y u->r x y H Q ->
  wpAny (model X.prog X.w) X.A (f v u) (EP X a σ Q) X.xe s
def UnR (X:Cx)(f:Value->Sem Value)(r:V->Hp->VK->Prop):Prop :=
 ∀ (a:List (Addr × Obj)) (s:Shared) (σ:St) (H:Hp) (x:V) (v:Value) (Q:VK),Inv X a σ H s->xt x v->r x H Q ->
  wpAny (model X.prog X.w) X.A (f v) (EP X a σ Q) X.xe s
def vN (X:Cx)(f:Value)(r:List V->Hp->VK->Prop):Prop :=
 ∀ (a:List (Addr × Obj)) (s:Shared) (σ:St) (H:Hp) (b:List V) (c:List Value) (Q:VK),Inv X a σ H s->yZ b c->r b H Q ->
  wpAny (model X.prog X.w) X.A (call f c) (EP X a σ Q) X.xe s
def tOp (r:R2)(b a:TE):TE:=fun σ H Q=>b σ H λx H1=>a σ H1 λy H2=>r x y H2 Q
def tUn (r:V->Hp->VK->Prop)(a:TE):TE:=fun σ H Q=>a σ H λx H1=>r x H1 Q
def rI (C:Int->Int->Prop)(g:Int->Int->V):R2:=λx y H Q=>∃ i j,x=.int i/\y=.int j/\C i j/\Q (g i j) H
def rI0 (g:Int->Int->V):R2:=λx y H Q=>∃ i j,x=.int i/\y=.int j/\Q (g i j) H
def rU (g:Int->V):V->Hp->VK->Prop:=λx H Q=>∃ i,x=.int i/\Q (g i) H
section
variable {X:Cx}{a b c:Expr}{ta tb tc:TE}{pos:Pos}
theorem zq9 (e:PE X a ta)(k:PE X b tb){c:List (Addr × Obj)}{s:Shared}{σ:St}{H:Hp}{R:V->V->Hp->Prop}(I:Inv X c σ H s)
 (h:ta σ H λx H1=>tb σ H1 λy H2=>R x y H2) {Q:Value->Shared->Prop} {f:Value->Value->Sem Value}
 (o:∀ v u d x y H2,Inv X c σ H2 d->xt x v->xt y u->R x y H2->wpAny (model X.prog X.w) X.A (f v u) Q X.xe d) :
 wpAny (model X.prog X.w) X.A (eval a X.env) (λv p=>wpAny (model X.prog X.w) X.A (eval b X.env) (λu n=>wpAny (model X.prog X.w) X.A (f v u) Q X.xe n) X.xe p) X.xe s:=by
 refine thn (e c s σ H _ I h) λv m hh9=>?_
 obtain⟨x,H1,I1,j,i⟩:=hh9
 refine thn (k c m σ H1 _ I1 i) λu d hh9=>?_
 obtain⟨y,H2,I2,l,g⟩:=hh9
 exact o v u d x y H2 I2 j l g
theorem zhF {d:Operator}{r:R2}(j:OpR X (binaryOp d) r)(g:PE X a ta)(k:PE X b tb):PE X (.BinOp a d b pos) (tOp r ta tb):=by
 intro c s σ H Q I h
 exact wpAny_BinOp (zq9 g k I h λv u e x y H2 I2 f i q=>j c e σ H2 x y v u Q I2 f i q)
theorem zpF {c:UnaryOp}{r:V->Hp->VK->Prop}(i:UnR X (unaryOp c) r)(e:PE X a ta):PE X (.UnaryOp c a pos) (tUn r ta):=by
 intro b s σ H Q I h
 exact UnaryOp_ (thn (e b s σ H _ I h) λv d ⟨x,H1,I1,g,f⟩=>i b d σ H1 x v Q I1 g f)
theorem opI {f:Value->Value->Sem Value}{C:Int->Int->Prop}{g:Int->Int->Int}
 (rule:∀ (i j:Int) (t u:Tok) (s:Shared) (Q:Value->Shared->Prop) (E:Value->Shared->Prop),C i j->Q (.int (g i j) s.toks) { s with toks:=s.toks+1 }->wpAny (model X.prog X.w) X.A (f (.int i t) (.int j u)) Q E s) :
 OpR X f (rI C λi j=>.int (g i j)):=by
 intro a s σ H x y v u Q I b d h
 obtain⟨i,j,rfl,rfl,c,q⟩:=h
 obtain⟨t,rfl⟩:=b
 obtain⟨e,rfl⟩:=d
 exact rule i j t e s _ _ c ⟨.int (g i j),H,I.tok _,⟨_,rfl⟩,q⟩
theorem opI0 {f:Value->Value->Sem Value}{g:Int->Int->Int}
 (rule:∀ (i j:Int) (t u:Tok) (s:Shared) (Q:Value->Shared->Prop) (E:Value->Shared->Prop),Q (.int (g i j) s.toks) { s with toks:=s.toks+1 }->wpAny (model X.prog X.w) X.A (f (.int i t) (.int j u)) Q E s) :
 OpR X f (rI0 λi j=>.int (g i j)):=by
 intro a s σ H x y v u Q I b c h
 obtain⟨i,j,rfl,rfl,q⟩:=h
 obtain⟨t,rfl⟩:=b
 obtain⟨d,rfl⟩:=c
 exact rule i j t d s _ _ ⟨.int (g i j),H,I.tok _,⟨_,rfl⟩,q⟩
theorem zqR {f:Value->Value->Sem Value}{g:Int->Int->Bool}
 (rule:∀ (i j:Int) (t u:Tok) (s:Shared) (Q:Value->Shared->Prop) (E:Value->Shared->Prop),Q (.bool (g i j)) s->wpAny (model X.prog X.w) X.A (f (.int i t) (.int j u)) Q E s) :
 OpR X f (rI0 λi j=>.bl (g i j)):=by
 intro a s σ H x y v u Q I b c h
 obtain⟨i,j,rfl,rfl,q⟩:=h
 obtain⟨t,rfl⟩:=b
 obtain⟨d,rfl⟩:=c
 exact rule i j t d s _ _ ⟨.bl (g i j),H,I,rfl,q⟩
def CPow (i j:Int):Prop:=0<=j/\j<=1000000/\i.natAbs < 2 ^ 64
def zrQ (i j:Int):Prop:=(-(2 ^ 64) < i/\i < 2 ^ 64)\/(-(2 ^ 64) < j/\j < 2 ^ 64)
theorem zrQ.ok {i j:Int}(h:zrQ i j):IntMulOk i j:=by
 rcases h with ⟨b,a⟩ | ⟨b,a⟩
 .exact .of_left (intBits_le_64 b a)
 .exact .of_right (intBits_le_64 b a)
theorem zgn (k:Nat):(0:Int)<=2 ^ k:=by
 rw[two_pow_cast]
 exact Int.natCast_nonneg _
theorem zpM:OpR X (binaryOp .Add) (rI0 λi j=>.int (i+j)):=opI0 λ_ _ _ _ _ _ _ q=>add_int q
theorem zqz:OpR X (binaryOp .Sub) (rI0 λi j=>.int (i - j)):=opI0 λ_ _ _ _ _ _ _ q=>sub_int q
theorem zpD:OpR X (binaryOp .Mult) (rI zrQ λi j=>.int (i*j)):=opI λ_ _ _ _ _ _ _ a q=>mul_int q a.ok
theorem zoQ:OpR X (binaryOp .Mod) (rI (λ_ j=>0 < j) λi j=>.int (i % j)):=opI λi j _ _ _ _ _ a q=>by
 have b:(0:Int) < j:=a
 exact mod_int' (by omega) (by rw[Int.fmod_eq_emod_of_nonneg i (by omega)];exact q)
theorem zoR:OpR X (binaryOp .Pow) (rI CPow λi j=>.int (i ^ j.toNat)):=opI λ_ _ _ _ _ _ _ a q=>pow_int_small a.1 a.2.1 a.2.2 q
theorem zqK:OpR X (binaryOp .RShift) (rI (λ_ j=>0<=j) λi j=>.int (i / 2 ^ j.toNat)):=opI λi j _ _ _ _ _ a q =>
 rshift_int a (by rw[u17 i (zgn _)];exact q)
theorem unI {f:Value->Sem Value}{g:Int->Int}
 (rule:∀ (i:Int) (t:Tok) (s:Shared) (Q:Value->Shared->Prop) (E:Value->Shared->Prop),Q (.int (g i) s.toks) { s with toks:=s.toks+1 }->wpAny (model X.prog X.w) X.A (f (.int i t)) Q E s) :
 UnR X f (rU λi=>.int (g i)):=by
 intro a s σ H x v Q I b h
 obtain⟨i,rfl,q⟩:=h
 obtain⟨t,rfl⟩:=b
 exact rule i t s _ _ ⟨.int (g i),H,I.tok _,⟨_,rfl⟩,q⟩
theorem zme:UnR X (unaryOp .USub) (rU λi=>.int (-i)):=unI λ_ _ _ _ _ q=>neg_int q
end
def scal:V->V->Bool
 | .non,.non=>true | .non,.int _=>true | .int _,.non=>true | .non,.bl _=>true | .bl _,.non=>true | .non,.str _=>true | .str _,.non=>true
 | .int _,.int _=>true | .bl _,.bl _=>true | .str _,.str _=>true | .byt _,.byt _=>true
 | .int _,.str _=>true | .str _,.int _=>true | .bl _,.str _=>true | .str _,.bl _=>true
 | _,_=>false
def rEq:R2:=λx y H Q=>scal x y=true/\Q (.bl (decide (x=y))) H
def rNe:R2:=λx y H Q=>scal x y=true/\Q (.bl (!decide (x=y))) H
theorem zaV {i j:Int}:decide (V.int i=V.int j)=(i == j):=by
 rw[u09]
 simp
theorem zmn {i j:Bool}:decide (V.bl i=V.bl j)=(i == j):=by
 rw[u09]
 simp
theorem zg7 {i j:Str}:decide (V.str i=V.str j)=(i == j):=by
 rw[u09]
 simp
theorem zht {i j:Array UInt8}:decide (V.byt i=V.byt j)=(i.toList == j.toList):=by
 rw[u09]
 cases i
 cases j
 simp
section
variable {X:Cx}{a b c:Expr}{ta tb tc:TE}{pos:Pos}
theorem yk {a:List (Addr × Obj)}{σ:St}{H:Hp}{s:Shared}{Q:VK}{k b:Bool}(I:Inv X a σ H s)(q:Q (.bl k) H)(e:k=b):EP X a σ Q (.bool b) s:=by
 subst e
 exact⟨.bl k,H,I,rfl,q⟩
theorem zqJ:OpR X (compareOp .Eq) rEq:=by
 intro e s σ H x y v u Q I d a h
 obtain⟨c,q⟩:=h
 cases x with
 | non =>
  cases d
  cases y with
  | non=>cases a;exact PySem.EqNone.eq_none_none (yk I q (by simp))
  | bl j=>cases a;exact PySem.EqNone.eq_none_bool (yk I q (by simp))
  | int j=>obtain⟨b,rfl⟩:=a;exact PySem.EqNone.eq_none_int (yk I q (by simp))
  | str j=>obtain⟨b,rfl⟩:=a;exact PySem.EqNone.eq_none_str (yk I q (by simp))
  | _=>exact absurd (show false=true from c) u7
 | bl i =>
  cases d
  cases y with
  | non=>cases a;exact PySem.EqNone.eq_bool_none (yk I q (by simp))
  | bl j=>cases a;exact eq_bool (yk I q zmn)
  | str j=>obtain⟨b,rfl⟩:=a;exact PySem.EqMixed.eq_bool_str (yk I q (by simp))
  | _=>exact absurd (show false=true from c) u7
 | int i =>
  obtain⟨t,rfl⟩:=d
  cases y with
  | non=>cases a;exact PySem.EqNone.eq_int_none (yk I q (by simp))
  | int j=>obtain⟨b,rfl⟩:=a;exact eq_int (yk I q zaV)
  | str j=>obtain⟨b,rfl⟩:=a;exact PySem.EqMixed.eq_int_str (yk I q (by simp))
  | _=>exact absurd (show false=true from c) u7
 | str i =>
  obtain⟨t,rfl⟩:=d
  cases y with
  | non=>cases a;exact PySem.EqNone.eq_str_none (yk I q (by simp))
  | bl j=>cases a;exact PySem.EqMixed.eq_str_bool (yk I q (by simp))
  | int j=>obtain⟨b,rfl⟩:=a;exact PySem.EqMixed.eq_str_int (yk I q (by simp))
  | str j=>obtain⟨b,rfl⟩:=a;exact eq_str (yk I q zg7)
  | _=>exact absurd (show false=true from c) u7
 | byt i =>
  obtain⟨t,rfl⟩:=d
  cases y with
  | byt j=>obtain⟨b,rfl⟩:=a;exact W.eq_bytes (yk I q zht)
  | _=>exact absurd (show false=true from c) u7
 | _=>cases y <;> exact absurd (show false=true from c) u7
theorem znq:OpR X (compareOp .NotEq) rNe:=by
 intro e s σ H x y v u Q I d a h
 obtain⟨c,q⟩:=h
 cases x with
 | non =>
  cases d
  cases y with
  | non=>cases a;exact PySem.EqNone.ne_none_none (yk I q (by simp))
  | bl j=>cases a;exact PySem.EqNone.ne_none_bool (yk I q (by simp))
  | int j=>obtain⟨b,rfl⟩:=a;exact PySem.EqNone.ne_none_int (yk I q (by simp))
  | str j=>obtain⟨b,rfl⟩:=a;exact PySem.EqNone.ne_none_str (yk I q (by simp))
  | _=>exact absurd (show false=true from c) u7
 | bl i =>
  cases d
  cases y with
  | non=>cases a;exact PySem.EqNone.ne_bool_none (yk I q (by simp))
  | bl j=>cases a;exact ne_bool (yk I q (i6 not zmn))
  | str j=>obtain⟨b,rfl⟩:=a;exact PySem.EqMixed.ne_bool_str (yk I q (by simp))
  | _=>exact absurd (show false=true from c) u7
 | int i =>
  obtain⟨t,rfl⟩:=d
  cases y with
  | non=>cases a;exact PySem.EqNone.ne_int_none (yk I q (by simp))
  | int j=>obtain⟨b,rfl⟩:=a;exact ne_int (yk I q (i6 not zaV))
  | str j=>obtain⟨b,rfl⟩:=a;exact PySem.EqMixed.ne_int_str (yk I q (by simp))
  | _=>exact absurd (show false=true from c) u7
 | str i =>
  obtain⟨t,rfl⟩:=d
  cases y with
  | non=>cases a;exact PySem.EqNone.ne_str_none (yk I q (by simp))
  | bl j=>cases a;exact PySem.EqMixed.ne_str_bool (yk I q (by simp))
  | int j=>obtain⟨b,rfl⟩:=a;exact PySem.EqMixed.ne_str_int (yk I q (by simp))
  | str j=>obtain⟨b,rfl⟩:=a;exact ne_str (yk I q (i6 not zg7))
  | _=>exact absurd (show false=true from c) u7
 | byt i =>
  obtain⟨t,rfl⟩:=d
  cases y with
  | byt j=>obtain⟨b,rfl⟩:=a;exact W.ne_bytes (yk I q (i6 not zht))
  | _=>exact absurd (show false=true from c) u7
 | _=>cases y <;> exact absurd (show false=true from c) u7
theorem We:OpR X (compareOp .Lt) (rI0 λi j=>.bl (decide (i < j))):=zqR λ_ _ _ _ _ _ _ q=>lt_int q
theorem zhp:OpR X (compareOp .LtE) (rI0 λi j=>.bl (decide (i<=j))):=zqR λ_ _ _ _ _ _ _ q=>le_int q
theorem zld:OpR X (compareOp .Gt) (rI0 λi j=>.bl (decide (j < i))):=zqR λ_ _ _ _ _ _ _ q=>gt_int q
theorem znv:OpR X (compareOp .GtE) (rI0 λi j=>.bl (decide (j<=i))):=zqR λ_ _ _ _ _ _ _ q=>ge_int q
theorem zpv:OpR X (compareOp .Is) (λx y H Q=>y=.non/\Q (.bl (decide (x=.non))) H):=by
 intro b s σ H x y v u Q I a c h
 obtain⟨rfl,q⟩:=h
 cases c
 refine is_none_gen (yk I q ?_)
 cases x <;> first
  | (cases a;rfl)
  | (obtain⟨t,rfl⟩:=a;rfl)
theorem zn8:OpR X (compareOp .IsNot) (λx y H Q=>y=.non/\Q (.bl (!decide (x=.non))) H):=by
 intro b s σ H x y v u Q I a c h
 obtain⟨rfl,q⟩:=h
 cases c
 refine isnot_none_gen (yk I q ?_)
 cases x <;> first
  | (cases a;rfl)
  | (obtain⟨t,rfl⟩:=a;rfl)
theorem OpR.or {f:Value->Value->Sem Value}{r b:R2}(h:OpR X f r)(e:OpR X f b):OpR X f (λx y H Q=>r x y H Q\/b x y H Q):=by
 intro a s σ H x y v u Q I c d q
 rcases q with q | q
 .exact h a s σ H x y v u Q I c d q
 .exact e a s σ H x y v u Q I c d q
theorem xY (b:Expr){a:CmpOp}(h:a≠.In:=by decide)(d:a≠.NotIn:=by decide):behindInMarks a b=false:=by
 have c:(a == CmpOp.In)=false:=by cases a <;> first | rfl | exact absurd rfl h
 have e:(a == CmpOp.NotIn)=false:=by cases a <;> first | rfl | exact absurd rfl d
 cases b <;> simp[behindInMarks,c,e]
theorem zhu {d:CmpOp}{r:R2}(k:OpR X (compareOp d) r)(i:PE X a ta)(l:PE X b tb)(g:behindInMarks d b=false):PE X (.Compare a [d] [b] pos) (tOp r ta tb):=by
 intro c s σ H Q I h
 exact wpAny_Compare1 (zq9 i l I h λv u e x y H2 I2 f j q=>k c e σ H2 x y v u Q I2 f j q) g
def zgj (t:TE):TT:=fun σ H Q=>t σ H λx H'=>∃ k,x=.bl k/\Q k H'
theorem zdd {f:CmpOp}{r:R2}(w:OpR X (compareOp f) r)(n:PE X a ta)(A:PE X b tb)(m:behindInMarks f b=false):PT X (.Compare a [f] [b] pos) (zgj (tOp r ta tb)):=by
 intro d s σ H Q I h
 refine wpAny_isTrue_Compare1 (thn (n d s σ H _ I h) λv i ⟨x,H1,I1,t,q⟩=>thn (A d i σ H1 _ I1 q) λu j ⟨y,H2,I2,g,p⟩ =>
  thn (w d j σ H2 x y v u _ I2 t g p) λc B ⟨z,H3,I3,o,k,e,l⟩=>?_) m
 subst e
 cases o
 exact p8 ⟨H3,I3,l⟩
def zck (r a:R2)(ta tb tc:TE):TE:=fun σ H Q=>ta σ H λx H1=>tb σ H1 λy H2=>r x y H2 λz H3=>∃ k,z=.bl k /\
 (if k=true then tc σ H3 λb H4=>a y b H4 Q else Q (.bl false) H3)
theorem zlo {i g:CmpOp}{r l:R2}(C:OpR X (compareOp i) r)(j:OpR X (compareOp g) l)(q:PE X a ta)(D:PE X b tb)(p:PE X c tc)
 (J:lastMarks [i,g] [b,c]=false:=by with_unfolding_all rfl):PE X (.Compare a [i,g] [b,c] pos) (zck r l ta tb tc):=by
 intro f s σ H Q I h
 refine Compare_chain (thn (q f s σ H _ I h) λv E ⟨x,H1,I1,B,A⟩=>chain_link (thn (D f E σ H1 _ I1 A) λu G ⟨y,H2,I2,n,t⟩ =>
  thn (C f G σ H2 x y v u _ I2 B n t) λd o ⟨z,H3,I3,K,k,e,m⟩=>?_)) J
 subst e
 cases K
 refine p8 ?_
 cases k with
 | false=>exact ite_ff ⟨.bl false,H3,I3,rfl,m⟩
 | true=>exact ite_tt (chain_last (thn (p f o σ H3 _ I3 m) λM F ⟨L,H4,I4,w,N⟩=>j f F σ H4 y L u M Q I4 n w N))
theorem zkn {i g:CmpOp}{r l:R2}(D:OpR X (compareOp i) r)(j:OpR X (compareOp g) l)(t:PE X a ta)(E:PE X b tb)(p:PE X c tc)
 (K:lastMarks [i,g] [b,c]=false:=by with_unfolding_all rfl):PT X (.Compare a [i,g] [b,c] pos) (zgj (zck r l ta tb tc)):=by
 intro f s σ H Q I h
 refine isTrue_chain (thn (t f s σ H _ I h) λv F ⟨x,H1,I1,C,B⟩=>test_link (thn (E f F σ H1 _ I1 B) λu J ⟨y,H2,I2,n,w⟩ =>
  thn (D f J σ H2 x y v u _ I2 C n w) λd o ⟨z,H3,I3,L,k,e,m⟩=>?_)) K
 subst e
 cases L
 refine p8 ?_
 cases k with
 | false =>
  obtain⟨Y,q,R⟩:=m
  cases q
  exact ite_ff ⟨H3,I3,R⟩
 | true =>
  refine ite_tt (test_last (thn (p f o σ H3 _ I3 m) λN G ⟨M,H4,I4,A,T⟩=>thn (j f G σ H4 y M u N _ I4 n A T) λZ W hh9=>?_))
  obtain⟨V,H5,I5,S,U,P,O⟩:=hh9
  subst P
  cases S
  exact p8 ⟨H5,I5,O⟩
theorem WK:(sizeLine:Nat) < 2 ^ 63:=by rw[u0r];decide
theorem zfv:OpR X (binaryOp .Add) (λx y H Q=>∃ i j,x=.str i/\y=.str j/\i.length+j.length<=sizeLine/\Q (.str (i++j)) H):=by
 intro a s σ H x y v u Q I b c h
 obtain⟨i,j,rfl,rfl,d,q⟩:=h
 obtain⟨t,rfl⟩:=b
 obtain⟨e,rfl⟩:=c
 exact add_str (λe f=>⟨.str (i++j),H,I.tok _,⟨_,rfl⟩,q⟩) d
theorem W3 {x:V}{a:List Value}(r:yZ [x] a):∃ u,a=[u]/\xt x u:=by
 cases r with
 | cons c b=>cases b;exact⟨_,rfl,c⟩
theorem zmP {x y:V}{b:List Value}(r:yZ [x,y] b):∃ u a,b=[u,a]/\xt x u/\xt y a:=by
 cases r with
 | cons e c =>
  cases c with
  | cons f d=>cases d;exact⟨_,_,rfl,e,f⟩
theorem zh5 (d:X.calm=true):vN X (.builtin "max") (λb H Q=>∃ i j,b=[.int i,.int j]/\Q (.int (if j > i then j else i)) H):=by
 intro c s σ H b e Q I r h
 obtain⟨i,j,rfl,q⟩:=h
 obtain⟨u,g,rfl,⟨t,rfl⟩,⟨l,rfl⟩⟩:=zmP r
 refine max_two_ints (I.ok.hd d) λm f k=>⟨_,H,I.kept k,?_,q⟩
 by_cases a:j > i
 .rw[t6 a,t6 a];exact⟨_,rfl⟩
 .rw[t9 a,t9 a];exact⟨_,rfl⟩
theorem zhe (d:X.calm=true):vN X (.builtin "min") (λb H Q=>∃ i j,b=[.int i,.int j]/\Q (.int (if j < i then j else i)) H):=by
 intro c s σ H b e Q I r h
 obtain⟨i,j,rfl,q⟩:=h
 obtain⟨u,g,rfl,⟨t,rfl⟩,⟨l,rfl⟩⟩:=zmP r
 refine min_two_ints (I.ok.hd d) λm f k=>⟨_,H,I.kept k,?_,q⟩
 by_cases a:j < i
 .rw[t6 a,t6 a];exact⟨_,rfl⟩
 .rw[t9 a,t9 a];exact⟨_,rfl⟩
end
structure zr4 (h:Heap) (x dx C:Addr) (mA:Str->Option Value):Prop where
 obj:h.get? x=some (W.instObj C dx)
 ns:h.Ns1 dx mA
 ne:dx≠x
theorem zbV {h:Heap}{d:Addr}{g:Str->Option Value}(n:h.Ns1 d g):∃ f,h.get? d=some f/\∀ b,W.lookIn b f=some (g b):=by
 obtain⟨o,i,s,r,m,j,_,l⟩:=n
 refine⟨o,r,λb=>?_⟩
 have e:=l b
 unfold nsFind findBy at e
 rw[<-Array.find?_toList]at e
 unfold W.lookIn
 rw[m]
 dsimp only
 split
 .rename_i y q
  rw[q]at e
  exact i6 some e
 .rename_i q
  rw[q]at e
  have a:i.toList.any (·.refKey)=false:=by
   rw[List.any_eq_false]
   intro y k
   obtain⟨z,t,c⟩:=j y (Array.mem_toList_iff.mp k)
   simp[DictEntry.refKey,c]
  have p:¬ i.toList.any (·.refKey)=true:=by rw[a];exact u7
  rw[t9 p]
  exact i6 some e
theorem zr4.look {h:Heap}{x c C:Addr}{d:Str->Option Value}(I:zr4 h x c C d):∃ b,PySem.W.InstAt h x (W.instObj C c) C (some b)/\∀ a,W.lookIn a b=some (d a) :=
 let ⟨b,ho,hl⟩:=zbV I.ns
 ⟨b,⟨I.obj,rfl,rfl,ho⟩,hl⟩
theorem zf7.some_of {v:V}{o:Option Value}(r:zf7 (some v) o):∃ u,o=some u/\xt v u:=by
 cases o with
 | none=>exact(show False from r).elim
 | some u=>exact⟨u,rfl,r⟩
theorem zg8 {v:V}{u:Value}(r:xt v u):W.handedIn u=true:=by
 cases v with
 | non=>cases (show u=Value.none from r);rfl
 | bl b=>cases (show u=Value.bool b from r);rfl
 | int i=>obtain⟨t,e⟩:=(show ∃ t,u=Value.int i t from r);cases e;rfl
 | str x=>obtain⟨t,e⟩:=(show ∃ t,u=Value.str x t from r);cases e;rfl
 | byt b=>obtain⟨t,e⟩:=(show ∃ t,u=Value.bytes b t from r);cases e;rfl
 | flt b=>obtain⟨t,e⟩:=(show ∃ t,u=Value.float b t from r);cases e;rfl
 | ref a=>cases (show u=Value.ref a from r);rfl
 | ty n=>cases (show u=Value.type n from r);rfl
section
variable {P:Program}{w:World}{H H':Hp}{h h':Heap}{a C dx:Addr}{fs fs':List (Str × V)}
theorem znY (c:HOk P w H h)(e:H a=some (.ins C dx fs)):∃ b,zr4 h a dx C b/\(∀ f,zf7 (fs.lookup f) (b f))/\PySem.Within b (fs.map (·.1))/\fs.length<=1000/\H dx=some (.own a):=by
 obtain⟨d,z,i,g,b,n,r,q⟩:=(show yJ P w H h a (.ins C dx fs)from c a _ e)
 exact⟨b,⟨g,n,i⟩,r,q,z,d⟩
end
structure Cls (K:W.Frag) (C:Addr):Prop where
 pg:W.plainGet K C Str.empty=true
 hd:W.hasDictIn K C=true
 po:W.plainOver K C=true
 sa:W.findIn K (.ref C) "__setattr__"=some (some (.builtin "object.__setattr__"))
theorem Cls.get {K:W.Frag}{C:Addr}(c:Cls K C)(f:Str):W.plainGet K C f=true:=c.pg
def V8 (K:W.Frag)(C:Addr)(f:Str):Prop:=W.findIn K (.ref C) f=some none
section
variable {X:Cx}{pins:List (Addr × Obj)}{σ:St}{H:Hp}{s:Shared}{a C dx:Addr}{fs:List (Str × V)}{f:Str}{v:V}{A:Around}{E:Value->Shared->Prop}
theorem zot {a:Program}{w:World}{env:Env}{e:Expr}{f:Str}{b:Pos}{s:Shared}{Q:Value->Shared->Prop}(c:attributeBase e f env (eval e env)=eval e env)
 (h:wpAny (model a w) A (eval e env) (λo d=>wpAny (model a w) A (getAttr o f true) Q E d) E s):wpAny (model a w) A (eval (.Attribute e f b) env) Q E s :=
 Attribute_any_ h (by rw[arm_eval_Attribute,c])
end
section
variable {X:Cx}{pins:List (Addr × Obj)}{σ:St}{H:Hp}{s:Shared}{A:Around}{E:Value->Shared->Prop}{Q:Value->Shared->Prop}{c:Value}{b:Bool}
inductive zel (K:W.Frag) (H:Hp):V->Value->Prop where
 | non:zel K H .non (.type "NoneType")
 | bl (x:Bool):zel K H (.bl x) (.type "bool")
 | int (i:Int):zel K H (.int i) (.type "int")
 | str (x:Str):zel K H (.str x) (.type "str")
 | flt (x:UInt64):zel K H (.flt x) (.type "float")
 | lst {a:Addr} {xs:List V} (e:H a=some (.lst xs)):zel K H (.ref a) (.type "list")
 | frz {a:Addr} {o:Obj} {xs:List V} (e:H a=some (.frz o (.lst xs))):zel K H (.ref a) (.type "list")
 | tup {a:Addr} {xs:List V} (e:H a=some (.tup xs)):zel K H (.ref a) (.type "tuple")
 | dK {a:Addr} {kvs:List (Key × V)} (e:H a=some (.dK kvs)):zel K H (.ref a) (.type "dict")
 | dT {a:Addr} {kvs:List (List Key × V)} (e:H a=some (.dT kvs)):zel K H (.ref a) (.type "dict")
 | ins {a C dx:Addr} {fs:List (Str × V)} (e:H a=some (.ins C dx fs)) (cl:Cls K C) (ha:W.findIn K (.ref C) "__class__"=some (some (.builtin "object.__class__")))
  (hn:W.specialIn K (.builtin "object.__class__") "__get__"=some (some (.builtin "getset_descriptor.__get__"))) (htk:W.takesIn K (.builtin "object.__class__")=some true)
  (hm:W.mroIn K C (.type "object")=some true):zel K H (.ref a) (.ref C)
theorem zii {x:V}{u t:Value}(I:Inv X pins σ H s)(d:xt x u)(ty:zel X.K H x t)(e:W.kitOne X.K t c=some b)(h:∀ B,Q (.bool b) { s with toks:=B }) :
 wpAny (model X.prog X.w) A (call (.builtin "isinstance") [u,c]) Q E s:=by
 cases ty with
 | non=>cases (show u=Value.none from d);exact p5 W.kitx_none I.kIn True.intro e (λz=>nomatch z) h
 | bl y=>cases (show u=Value.bool y from d);exact p5 W.kitx_bool I.kIn True.intro e (λz=>nomatch z) h
 | int i=>obtain⟨t,q⟩:=(show ∃ t,u=Value.int i t from d);cases q;exact p5 W.kitx_int I.kIn True.intro e (λz=>nomatch z) h
 | str y=>obtain⟨t,q⟩:=(show ∃ t,u=Value.str y t from d);cases q;exact p5 W.kitx_str I.kIn True.intro e (λz=>nomatch z) h
 | flt y=>obtain⟨t,q⟩:=(show ∃ t,u=Value.float y t from d);cases q;exact p5 W.kitx_float I.kIn True.intro e (λz=>nomatch z) h
 | @lst a k f =>
  cases (show u=Value.ref a from d)
  obtain⟨_,_,n,_,g⟩:=(show yJ X.prog X.w H s.heap a (.lst k)from I.hok a _ f)
  exact p5 W.kitx_list I.kIn ⟨_,g,rfl⟩ e (λz=>nomatch z) h
 | @frz a v k f =>
  cases (show u=Value.ref a from d)
  obtain⟨_,_,_,n,_,g⟩:=(show yJ X.prog X.w H s.heap a (.frz v (.lst k))from I.hok a _ f)
  exact p5 W.kitx_list I.kIn ⟨_,g,rfl⟩ e (λz=>nomatch z) h
 | @tup a k f =>
  cases (show u=Value.ref a from d)
  obtain⟨_,_,_,p⟩:=(show yJ X.prog X.w H s.heap a (.tup k)from I.hok a _ f)
  obtain⟨o,g,l,_⟩:=p
  exact p5 W.kitx_tuple I.kIn ⟨o,g,l⟩ e (λz=>nomatch z) h
 | @dK a j f =>
  cases (show u=Value.ref a from d)
  obtain⟨_,_,L,_,p⟩:=(show yJ X.prog X.w H s.heap a (.dK j)from I.hok a _ f)
  obtain⟨o,K,D,g,l,_⟩:=p
  exact p5 u1v I.kIn ⟨o,g,l.1⟩ e (λz=>nomatch z) h
 | @dT a j f =>
  cases (show u=Value.ref a from d)
  obtain⟨_,_,k,_,o,K,D,g,l,_⟩:=(show yJ X.prog X.w H s.heap a (.dT j)from I.hok a _ f)
  exact p5 u1v I.kIn ⟨o,g,l.1⟩ e (λz=>nomatch z) h
 | @ins a C P M f r F w m G =>
  cases (show u=Value.ref a from d)
  obtain⟨N,O,_⟩:=znY I.hok f
  obtain⟨R,J,_⟩:=O.look
  exact p5 (W.kitx_own (r.get _) r.hd F w m G) I.kIn J e (λz=>nomatch z) h
end
structure ww (k:Nat) (A:Around):Prop where
 hd:A.handled=none
 dp:A.depth+3*k+5 < recursionLimit
 un:A.units+16*k+200 < cLine
theorem ww.mono {j k:Nat}{A:Around}(r:ww k A)(h:j<=k):ww j A:=⟨r.hd,by have:=r.dp;omega,by have:=r.un;omega⟩
theorem ww.deeper {k:Nat}{A:Around}(r:ww (k+1) A)(env:Env):ww k (A.deeper env) :=
 ⟨r.hd,by have:=r.dp;show A.depth+1+3*k+5 < _;omega,by have:=r.un;show A.units+3+16*k+200 < _;omega⟩
theorem zfJ {A:Around} {C:Addr} {a:List Value} {b:List (Str × Value)}:(A.under (.builtin "type.__call__" ⟨.ref C::a,b⟩)).depth=A.depth+1:=by
 first | rfl | simp[Around.under,Code.weight,Code.isCreation,Code.isGuard,Code.isCaller,Code.frames,Code.isFrame,guardIds]
theorem zf1 {A:Around} {C:Addr} {a:List Value} {b:List (Str × Value)}:(A.under (.builtin "type.__call__" ⟨.ref C::a,b⟩)).units=A.units+1:=by
 first | rfl | simp[Around.under,Code.cUnits,Code.frames,Code.isFrame]
theorem ww.make {k:Nat} {A:Around} (r:ww (k+1) A) (C:Addr) (a:List Value) (b:List (Str × Value)):ww k (A.under (.builtin "type.__call__" ⟨.ref C::a,b⟩)) :=
 ⟨r.hd,by have:=r.dp;rw[zfJ];omega,by have:=r.un;rw[zf1];omega⟩
theorem ww.depth {k:Nat}{A:Around}(r:ww k A):A.depth < recursionLimit:=by have:=r.dp;omega
theorem ww.units {k:Nat}{A:Around}(r:ww k A):A.units+64 < cLine:=by have:=r.un;omega
theorem ww.units0 {k:Nat}{A:Around}(r:ww k A):A.units < cLine:=by have:=r.un;omega
def zkk:TA:=λ_ H Q=>Q [] H
def X7 (c:TE)(b:TA):TA:=fun σ H Q=>c σ H λx H1=>b σ H1 λa H2=>Q (x::a) H2
section
variable {X:Cx}{e:Expr}{es:List Expr}{te:TE}{t:TA}{pos:Pos}
theorem yG:PA X [] zkk:=λ_ _ _ _ H Q I h=>u0K ⟨[],H,I,.nil,h⟩
theorem zA (g:PE X e te)(b:PA X es t)(f:starEach (e::es) X.env=(false,eval e X.env)::starEach es X.env:=by rfl):PA X (e::es) (X7 te t):=by
 intro pos a s σ H Q I h
 rw[f]
 show wpAny _ _ (spliced ((false,eval e X.env)::backTo pos (starEach es X.env))) _ _ s
 refine u0B (thn (g a s σ H _ I h) λu d hh9=>?_)
 obtain⟨x,H1,I1,l,k⟩:=hh9
 exact thn (b pos a d σ H1 _ I1 k) λm n ⟨i,H2,I2,c,j⟩=>⟨x::i,H2,I2,.cons l c,j⟩
def tTup (t:TA):TE:=fun σ H Q=>t σ H λa H1=>a.length<=sizeLine/\∀ p,H1 p=none->Q (.ref p) (upd H1 p (.tup a))
def zpg (t:TA):TE:=fun σ H Q=>t σ H λa H1=>a.length<=sizeLine/\∀ p,H1 p=none->Q (.ref p) (upd H1 p (.lst a))
theorem zo3 {x1}(h:PA X es t):PE X (.Tuple es x1 pos) (tTup t):=by
 intro a s σ H Q I f
 refine wpAny_Tuple_spliced (thn (h pos a s σ H _ I f) λd c ⟨g,H1,I1,r,z,q⟩=>⟨by rw[<-r.length];exact z,?_⟩)
 have i:H1 c.heap.objs.size=none:=I1.hok.fresh (t4 _)
 refine⟨.ref c.heap.objs.size,upd H1 c.heap.objs.size (.tup g),I1.laid (t':=c.toks) (λb u e=>u5 _ e) (t4 _) ?_,rfl,q _ i⟩
 exact⟨z,d,r,⟨_,q2 _ rfl,rfl,_,rfl⟩⟩
theorem ZM (h:PA X es t):PE X (.List es pos) (zpg t):=by
 intro a s σ H Q I f
 refine wpAny_List_spliced (thn (h pos a s σ H _ I f) λd c ⟨g,H1,I1,r,z,q⟩=>⟨by rw[<-r.length];exact z,?_⟩)
 have i:H1 c.heap.objs.size=none:=I1.hok.fresh (t4 _)
 refine⟨.ref c.heap.objs.size,upd H1 c.heap.objs.size (.lst g),I1.laid (t':=c.toks) (λb u e=>u5 _ e) (t4 _) ?_,rfl,q _ i⟩
 exact⟨z,d,0,r,q2 _ rfl⟩
end
abbrev Sp:=List V->Hp->VK->XK->Prop
abbrev CXT:=List Env->Hp->Shared->XK->Value->Shared->Prop
structure zl7 (P:Program) (w:World) (K:W.Frag) (mg:Str->Option Value) (base:Heap) (A:Around) (outer:List Env) (s:Shared) (H:Hp):Prop where
 frames:A.frames=some outer
 mod:Mod K mg base
 bs:∀ b o,base.get? b=some o->s.heap.get? b=some o/\H b=none
 bsz:base.objs.size<=s.heap.objs.size
 funs:s.heap.FunFrames base outer
 frf:∀ b∈frs outer,H b=none
 hok:HOk P w H s.heap
 bare:AllBare s.gens
def CE (outer:List Env)(P:Program)(w:World)(H:Hp)(s:Shared)(Q:VK)(u:Value)(a:Shared):Prop :=
 ∃ v H',a.os=s.os/\AllBare a.gens/\Un (frs outer) [] H H' s.heap a.heap/\HOk P w H' a.heap/\xt v u/\Q v H'
def CR (CX:CXT)(outer:List Env)(P:Program)(w:World)(H:Hp)(s:Shared)(Q:VK)(E:XK)(r:Result)(a:Shared):Prop :=
 match r with
 | .ok (.ret u)=>CE outer P w H s Q u a
 | .ok _=>False
 | .error e=>CX outer H s E e a
structure Yb (P:Program) (w:World) (K:W.Frag) (mg:Str->Option Value) (base:Heap) (CX:CXT) (k:Nat) (f:Addr) (fd:FuncData) (ps:List Str) (sp:Sp):Prop where
 len:∀ vs H Q E,sp vs H Q E->vs.length=ps.length
 run:∀ (A:Around) (outer:List Env) (s:Shared) (H:Hp) (args:Args) (us:List Value) (vs:List V) (Q:VK) (E:XK),ww k A->zl7 P w K mg base A outer s H->BindsTo s fd args (ps.zip us)->yZ vs us->sp vs H Q E ->
  codeAny (model P w) A (.call (.ref f) args) (CR CX outer P w H s Q E) s
theorem Yb.mono {P:Program}{w:World}{K:W.Frag}{b:Str->Option Value}{a:Heap}{CX:CXT}{j k:Nat}{f:Addr}{d:FuncData}{ps:List Str}{c:Sp}(F:Yb P w K b a CX j f d ps c)(h:j<=k) :
 Yb P w K b a CX k f d ps c:=⟨F.len,λA outer s H args i g Q E e=>F.run A outer s H args i g Q E (e.mono h)⟩
theorem Yb.imp {P:Program}{w:World}{K:W.Frag}{d:Str->Option Value}{a:Heap}{CX:CXT}{k:Nat}{f:Addr}{i:FuncData}{g:List Str}{e c:Sp}(F:Yb P w K d a CX k f i g e)
 (h:∀ b H Q E,c b H Q E->e b H Q E):Yb P w K d a CX k f i g c :=
 ⟨λb H Q E q=>F.len b H Q E (h _ _ _ _ q),λA outer s H args n b Q E j p m o l=>F.run A outer s H args n b Q E j p m o (h _ _ _ _ l)⟩
theorem zl7.make {P:Program}{w:World}{K:W.Frag}{b:Str->Option Value}{a:Heap}{A:Around}{outer:List Env}{s:Shared}{H:Hp}(e:zl7 P w K b a A outer s H)(C:Addr)(c:List Value)(d:List (Str × Value)) :
 zl7 P w K b a (A.under (.builtin "type.__call__" ⟨.ref C::c,d⟩)) outer s H:=⟨by first | exact e.frames | (simpa [Around.under,Code.envs,Code.isFrame,pushEnvs]using e.frames),e.mod,e.bs,e.bsz,e.funs,e.frf,e.hok,e.bare⟩
section
variable {X:Cx}{pins:List (Addr × Obj)}{σ:St}{H:Hp}{s s':Shared}
theorem Inv.env0 (I:Inv X pins σ H s):zl7 X.prog X.w X.K X.mg X.base X.A X.stack s H :=
 ⟨I.ok.frames,I.ok.mod,I.bs,k8 I.ok.bsz I.sz,I.stack,I.stkFree,I.hok,I.bare⟩
theorem Inv.after {Q:VK}{u:Value}(I:Inv X pins σ H s)(h:CE X.stack X.prog X.w H s Q u s'):EP X pins σ Q u s':=by
 obtain⟨v,H',os,a,f,c,r,q⟩:=h
 obtain⟨hh,g,d,t,e⟩:=s'
 obtain rfl:e=s.os:=os
 exact⟨v,H',I.call (h':=hh) (g':=g) (d':=d) (t':=t) (ch:=[]) f c a (λb z=>absurd z (by simp)),r,q⟩
end
def znI (b:Sp)(a:List V)(E:XK)(t:TA):TE:=fun σ H Q=>t σ H λc H1=>b (c++a) H1 Q E
def Yc (K:W.Frag)(d:FuncData)(b:List Str)(c:List Value):Prop :=
 ∀ (s:Shared) (a:List Value),K.In s.heap->(a++c).length=b.length->BindsTo s d ⟨a,[]⟩ (b.zip (a++c))
theorem Yc.all {K:W.Frag}{c:FuncData}{b:List Str}(h:∀ a:List Value,a.length=b.length->bindArgs c ⟨a,[]⟩=pure (b.zip a)):Yc K c b []:=λs a _ d=>by
 rw[o9]at d ⊢
 exact .of_eq (h a d)
def Yh (CX:CXT)(X:Cx)(E:XK):Prop:=∀ (a:List (Addr × Obj)) (σ:St) (H:Hp) (s:Shared) (e:Value) (b:Shared),Inv X a σ H s->CX X.stack H s E e b->X.xe e b
section
variable {X:Cx}{CX:CXT}{k:Nat}{f C:Addr}{fd:FuncData}{ps:List Str}{sp:Sp}{dvs:List V}{ds:List Value}{E:XK}{x m:Str}{p pos apos:Pos}{e o:Expr}{es:List Expr}{ta:TE}{t:TA}
theorem zmz {a:List (Addr × Obj)}{σ:St}{H:Hp}{s:Shared}{Q:VK}{b:List Value}{d:List V}(F:Yb X.prog X.w X.K X.mg X.base CX k f fd ps sp)(i:ww k X.A)(p:Yc X.K fd ps ds)(l:yZ dvs ds)(j:Yh CX X E)
 (I:Inv X a σ H s) (r:yZ d b) (h:sp (d++dvs) H Q E):wpAny (model X.prog X.w) X.A (call (.ref f) b) (EP X a σ Q) X.xe s:=by
 have g:yZ (d++dvs) (b++ds):=r.append l
 have m:(b++ds).length=ps.length:=by rw[<-g.length];exact F.len _ _ _ _ h
 refine u1w (u06 (F.run X.A X.stack s H ⟨b,[]⟩ (b++ds) (d++dvs) Q E i I.env0 (p s b I.kIn m) g h) λr n c=>?_)
 cases r with
 | error e=>exact j a σ H s e n I c
 | ok o =>
  cases o with
  | ret u=>exact I.after c
  | next=>exact False.elim c
  | brk=>exact False.elim c
  | cont=>exact False.elim c
theorem ziQ (F:Yb X.prog X.w X.K X.mg X.base CX k f fd ps sp)(d:ww k X.A)(o:Gl X x)(j:X.mg x=some (.ref f))(g:W.keepIn X.K (.ref f)=true)(u:Yc X.K fd ps ds)(m:yZ dvs ds)(i:Yh CX X E)
 (n:PA X (e::es) t) (c:(x == ("__debug__":Str))=false:=by decide) (l:starEach (e::es) X.env=(false,eval e X.env)::starEach es X.env:=by rfl) (b:(backTo pos (starEach es X.env)).any (·.1)=false:=by rfl) :
 PE X (.Call (.Name x p) (e::es) [] pos) (znI sp dvs E t):=by
 intro a s σ H Q I h
 refine u1j (Xa I o j ?_ c)
 refine u2b (h₀:=X.base) I.ok.mod.kin g (thn (n pos a s σ H _ I h) λv w ⟨y,H1,I1,r,q⟩=>⟨I1.kIn,?_⟩) l b
 exact zmz F d u m i I1 r q
end
structure vJ (N P:List Str) (sc:Scope):Prop where
 kind:sc.kind=.function
 co:sc.isCoroutine=false
 gen:sc.isGenerator=false
 nd:N.Nodup
 pre:N.take P.length=P
 par:∀ x∈P,sc.names.lookup x=some .local\/sc.names.lookup x=some .cell
 nofree:∀ y∈sc.names,y.2≠.free
theorem zbO {b:Str->Option NameKind}{x:Str}:∀ {a:List (Str × Value)} {m:Str->Option Value},(∀ v,(x,v)∉a)->bindL b a m x=m x
 | [],_,_=>rfl
 | (n,v)::r,m,h=>by
  unfold bindL
  rw[zbO λw hw=>h w (j8 _ hw)]
  split
  .have:x≠n:=by rintro rfl;exact h v r0
   simp[this]
  .rfl
theorem zcE {b:Str->Option NameKind}{x:Str}:∀ {a:List (Str × Value)} {m:Str->Option Value},(∀ v,(x,v)∉a)->bindC b a m x=m x
 | [],_,_=>rfl
 | (n,v)::r,m,h=>by
  unfold bindC
  rw[zcE λw hw=>h w (j8 _ hw)]
  split
  .rfl
  .have:x≠n:=by rintro rfl;exact h v r0
   simp[this]
theorem zcA {a:Str->Option NameKind}{x:Str}{v:Value}:∀ {P:List Str} {b:List Value} {i:Nat} {m:Str->Option Value},P.Nodup->P[i]?=some x->b[i]?=some v->a x=some .local ->
 bindL a (P.zip b) m x=some v
 | [],_,_,_,_,h,_,_=>by simp at h
 | _::_,[],_,_,_,_,h,_=>by simp at h
 | p::P,w::b,0,m,nd,h1,h2,hk=>by
  simp at h1 h2;subst h1;subst h2
  show bindL a ((p,w)::P.zip b) m p=_
  unfold bindL
  rw[zbO λv c=>(u1e.mp nd).1 (u1Y c).1,t6 hk]
  simp
 | p::P,w::b,i+1,m,nd,h1,h2,hk=>by
  show bindL a ((p,w)::P.zip b) m x=_
  unfold bindL
  exact zcA (i:=i) (u1e.mp nd).2 (by simpa using h1) (by simpa using h2) hk
theorem zcc {a:Str->Option NameKind}{x:Str}{v:Value}:∀ {P:List Str} {b:List Value} {i:Nat} {m:Str->Option Value},P.Nodup->P[i]?=some x->b[i]?=some v->a x≠some .local ->
 bindC a (P.zip b) m x=some v
 | [],_,_,_,_,h,_,_=>by simp at h
 | _::_,[],_,_,_,_,h,_=>by simp at h
 | p::P,w::b,0,m,nd,h1,h2,hk=>by
  simp at h1 h2;subst h1;subst h2
  show bindC a ((p,w)::P.zip b) m p=_
  unfold bindC
  rw[zcE λv c=>(u1e.mp nd).1 (u1Y c).1,t9 hk]
  simp
 | p::P,w::b,i+1,m,nd,h1,h2,hk=>by
  show bindC a ((p,w)::P.zip b) m x=_
  unfold bindC
  exact zcc (i:=i) (u1e.mp nd).2 (by simpa using h1) (by simpa using h2) hk
def start (N:List Str)(a:List V):St:=a.map some++List.replicate (N.length - a.length) none
def vX (CX:CXT)(P:Program)(w:World)(K:W.Frag)(mg:Str->Option Value)(base:Heap)(N:List Str)(qual:Str)(scope:Scope)(f:Addr)(cd:Value)(A:Around)(outer:List Env)(s:Shared)(H:Hp)(E:XK):Cx where
 prog:=P
 w:=w
 K:=K
 mg:=mg
 base:=base
 A:=A.deeper (envOfC qual scope s.heap.objs.size f cd)
 N:=N
 s₀:=s
 H₀:=H
 env:=envOfC qual scope s.heap.objs.size f cd
 outer:=outer
 stack:=envOfC qual scope s.heap.objs.size f cd::outer
 ex:=[]
 calm:=true
 fn:=λ_=>true
 pn:=[]
 xe:=λe s'=>wpAny (model P w) (A.deeper (envOfC qual scope s.heap.objs.size f cd)) (leaving (envOfC qual scope s.heap.objs.size f cd) e) (λ_ s''=>CX outer H s E e s'') (λe' s''=>CX outer H s E e' s'') s'
theorem zez {sc:Scope}{n:Nat}{x:Str}(h:sc.names.lookup x=some .cell):∃ c,(cellsFrom n sc.names []).lookup x=some c:=by
 have q:=u1q sc.names n [] (.inl h)
 exact u04.mp q
theorem zbT {CX:CXT}{P:Program}{w:World}{K:PySem.W.Frag}{L:Str->Option Value}{l:Heap}{N C:List Str}{g:Str}{d:Scope}{f:Addr}{G:Value}{A:Around}{outer:List Env}{s O:Shared}{H:Hp}{E:XK}{M:List Value}{o:List V}
 (S:vJ N C d) (U:A.handled=none) (m:zl7 P w K L l A outer s H) (Z:o.length=C.length) (r:yZ o M)
 (x:InCallC s s.heap.objs.size (bindL (envOfC g d s.heap.objs.size f G).kindOf (C.zip M) λ_=>none) (cellsFrom (s.heap.objs.size+1) d.names []) (bindC (envOfC g d s.heap.objs.size f G).kindOf (C.zip M) λ_=>none) O) :
 Inv (vX CX P w K L l N g d f G A outer s H E) [] (start N o) H O:=by
 have X:C.length<=N.length:=by have:=i6 List.length S.pre;rw[u0m]at this;omega
 obtain⟨J,Y,rfl,R⟩:=x.done
 have B:∀ b:Addr,b∉(vX CX P w K L l N g d f G A outer s H E).ex:=λb z=>absurd (show b∈([]:List Addr)from z) (by simp)
 refine⟨⟨m.mod,S.kind,rfl,rfl,t4 _,λy z c J j=>?_,λy t=>?_,λy c _ h=>?_,λ_=>U,Around.frames_deeper m.frames,.inr ⟨rfl,rfl⟩,λb z=>absurd z (B b),m.bs,m.bsz,λb _ _=>B b,λb z=>absurd z (B b),m.funs,m.frf⟩,
  rfl,m.bare,Un.kept R,⟨_,x.toInCall.ns,λi y v J j h3=>?_⟩,λy c h=>⟨_,x.cell y c h⟩,m.hok.fresh (t4 _),λy c h=>?_,λp F=>absurd (show p∈([]:List (Addr × Obj))from F) (by simp),m.hok.kept R,?_⟩
 .exact name_of_addr x.apart (f8 J) (f8 j)
 .have t:d.names.lookup y=some .cell\/d.names.lookup y=some .free:=t
  rcases t with t | t
  .exact zez t
  .exact absurd rfl (S.nofree _ (f8 t))
 .exact f6 (x.above y c (f8 h))
 .have I:i < o.length:=by
   unfold start at j
   by_cases I:i < o.length
   .exact I
   .rw[p0 (by simpa using I)]at j
    rw[l5]at j
    split at j <;> cases j
  have W:o[i]?=some v:=by
   unfold start at j
   rw[m6 (by simpa using I),j1]at j
   cases e:o[i]? with
   | none=>rw[e]at j;cases j
   | some a=>rw[e]at j;cases j;rfl
  obtain⟨u,Q,T⟩:=r.get W
  have F:C[i]?=some y:=by
   rw[<-S.pre,List.getElem?_take_of_lt (by omega)];exact J
  have D:C.Nodup:=by rw[<-S.pre];exact S.nd.sublist (List.take_sublist _ _)
  refine⟨u,T,?_⟩
  rcases S.par y (k6 F)with k | k
  .exact .inl ⟨k,zcA D F Q k⟩
  .obtain⟨c,e⟩:=zez (n:=s.heap.objs.size+1) k
   refine .inr ⟨.inl k,c,e,?_⟩
   have q:=x.cell y c e
   rw[zcc D F Q (by show d.names.lookup y≠_;rw[k];decide)]at q
   exact q
 .exact m.hok.fresh (f6 (x.above y c (f8 h)))
 .unfold start
  show _=N.length
  rw[j4,u8,i8]
  omega
theorem zpt {CX:CXT}{P:Program}{w:World}{K:PySem.W.Frag}{G:Str->Option Value}{h:Heap}{k:Nat}{f:Addr}{l c:Str}{g:Arguments}{i:List Stmt}{a:Scope}{dV kV B Z d ct oc:Value}{Y od:Option Addr}
 {X:Array (Option Value)} {N M:List Str} {T:Sp} (lk:K.lookup f=some ⟨oc,od,.func (PySem.W.fnOf l c g i a dV kV B Z Y d ct),X⟩) (W:PySem.W.codeIn K d c=true) (S:vJ N M a)
 (F:∀ j H Q E,T j H Q E->j.length=M.length)
 (p:∀ (A:Around) (outer:List Env) (s:Shared) (H:Hp) (j:List V) (Q:VK) (E:XK),ww k (A.deeper (envOfC c a s.heap.objs.size f d))->T j H Q E ->
  ∃ t,PSs (vX CX P w K G h N c a f d A outer s H E) i t/\t { nx:=λ_ H'=>Q .non H',rt:=Q } (start N j) H) :
 Yb P w K G h CX (k+1) f (PySem.W.fnOf l c g i a dV kV B Z Y d ct) M T:=by
 refine⟨F,λA outer s H args us j Q E O C hb r D=>?_⟩
 have hl:=F _ _ _ _ D
 have KX:K.In s.heap:=C.mod.kin.keeps λb o e=>(C.bs b o e).1
 have lim:s.heap.NoLimit:=C.mod.nolimit.keeps λb o e=>(C.bs b o e).1
 have m:∀ y∈M.zip us,a.names.lookup y.1=some .local\/(a.names.lookup y.1=some .cell/\((cellsFrom (s.heap.objs.size+1) a.names []).lookup y.1).isSome=true):=λ⟨n,v⟩ hy=>by
  rcases S.par n (u1Y hy).1 with q | q
  .exact .inl q
  .exact .inr ⟨q,u1q _ _ _ (.inl q)⟩
 refine codeAny_call_function O.depth (KX _ _ lk) rfl S.co S.gen rfl (PySem.W.codeRec_of KX W) (hb _ _ _ _ ?_)
 refine wpAny_newFunctionEnv_cells S.kind m λenv he s1 x=>?_
 subst he
 refine⟨lim.keeps x.toInCall.keep,codeAny_func ?_⟩
 obtain⟨t,ht,hq⟩:=p A outer s H j Q E (O.deeper _) D
 have I:Inv (vX CX P w K G h N c a f d A outer s H E) [] (start N j) H s1:=zbT S O.hd C hl r x
 refine o8 (ht [] s1 (start N j) H _ I hq) (λfl U z=>?_) λe U z=>z
 have fin:∀ {L:St} {H':Hp} {v:V} {u:Value},Inv (vX CX P w K G h N c a f d A outer s H E) [] L H' U->xt v u->Q v H'->CE outer P w H s Q u U :=
  λ{L H' v u} J R q=>⟨v,H',J.os,J.bare,J.base,J.hok,R,q⟩
 cases fl with
 | ret u =>
  obtain⟨v,L,H',J,R,q⟩:=z
  exact fin J R q
 | next =>
  obtain⟨L,H',J,q⟩:=z
  exact fin (v:=V.non) (u:=Value.none) J rfl q
 | brk =>
  obtain⟨_,_,_,q⟩:=z
  exact False.elim q
 | cont =>
  obtain⟨_,_,_,q⟩:=z
  exact False.elim q
section
variable {X:Cx}{x:Str}{p pos:Pos}{e:Expr}{es:List Expr}{t:TA}{id T:String}{r:List V->Hp->VK->Prop}
def tCB (r:List V->Hp->VK->Prop)(t:TA):TE:=fun σ H Q=>t σ H λa H1=>r a H1 Q
theorem yj (j:vN X (.builtin id) r) (o:Gl X x) (k:X.mg x=none) (d:bootBuiltins x=some (.builtin id)) (m:PA X (e::es) t) (f:x≠"__name__":=by decide) (c:(x == ("__debug__":Str))=false:=by decide)
 (l:starEach (e::es) X.env=(false,eval e X.env)::starEach es X.env:=by rfl) (b:(backTo pos (starEach es X.env)).any (·.1)=false:=by rfl):PE X (.Call (.Name x p) (e::es) [] pos) (tCB r t):=by
 intro a s σ H Q I h
 refine u1j (Y9 I o k d ?_ f c)
 exact u1B (thn (m pos a s σ H _ I h) λg i ⟨n,H1,I1,u,q⟩=>j a i σ H1 n g Q I1 u q) l b
theorem zb7 (j:vN X (.type T) r) (o:Gl X x) (k:X.mg x=none) (d:bootBuiltins x=some (.type T)) (m:PA X (e::es) t) (f:x≠"__name__":=by decide) (c:(x == ("__debug__":Str))=false:=by decide)
 (l:starEach (e::es) X.env=(false,eval e X.env)::starEach es X.env:=by rfl) (b:(backTo pos (starEach es X.env)).any (·.1)=false:=by rfl):PE X (.Call (.Name x p) (e::es) [] pos) (tCB r t):=by
 intro a s σ H Q I h
 refine u1j (Y9 I o k d ?_ f c)
 exact g5 (thn (m pos a s σ H _ I h) λg i ⟨n,H1,I1,u,q⟩=>j a i σ H1 n g Q I1 u q) l b
end
end L2
namespace HT
open PySem PyProof.Rows
def lexLt:List Int->List Int->Bool
 | [],[]=>false
 | [],_::_=>true
 | _::_,[]=>false
 | x::xs,y::ys=>if x=y then lexLt xs ys else decide (x < y)
theorem lexLt_cons (x y:Int)(a b:List Int):lexLt (x::a) (y::b)=if x=y then lexLt a b else decide (x < y):=rfl
theorem zk1 (A:Around)(s:Shared)(a:Int)(t:Tok)(c:Int)(u:Tok):∃ e,SeqAt.EqAt A s (.int a t) (.int c u) e/\(e=true↔a=c) :=
 ⟨(a == c),u2e a t c u,by simp⟩
section
variable {prog:Program}{w:World}{A:Around}{E:Value->Shared->Prop}{s:Shared}
theorem cat_tup {t b:Addr}{d a:List Value}{Q:Value->Shared->Prop}(x:IsTup s.heap t d.toArray)(B:IsTup s.heap b a.toArray)(m:d≠[])
 (z:a=[]->Q (.ref t) s) (y:a≠[]->Q (.ref s.heap.objs.size) { s with heap:=s.heap.push { cls:=.type "tuple",data:=.seq (d++a).toArray } })
 (l:d.length+a.length<=sizeLine):wpAny (model prog w) A (binaryOp .Add (.ref t) (.ref b)) Q E s:=by
 obtain⟨⟨cls,o,data,u⟩,j,p,n,q⟩:=id x
 obtain⟨⟨v,i,k,h⟩,c,g,r,f⟩:=id B
 simp only at p q g f
 subst p q g f
 have e:d.toArray++a.toArray=(d++a).toArray:=by simp
 by_cases hw:a=[]
 .exact concat_meets ⟨_,j,rfl⟩ ⟨_,c,rfl⟩ noFill_tuple_add seq_tuple_add u1p u1h (u05 _ _)
   (tuple_addW1 t b d.toArray a.toArray n r o i u h (by simpa using m) (by simp[hw])) ⟨j,c,z hw⟩
 .refine concat_meets ⟨_,j,rfl⟩ ⟨_,c,rfl⟩ noFill_tuple_add seq_tuple_add u1p u1h (u05 _ _)
   (tuple_addW2 t b d.toArray a.toArray n r o i u h (by simpa using m) (by simpa using hw) (by rw[t5,t5];exact l)) ⟨j,c,?_⟩
  rw[e]
  exact y hw
def sIx (n d:Nat):Option Int->Nat
 | none=>d
 | some v=>if v < 0 then (v+(n:Int)).toNat else min v.toNat n
theorem sIx_none (n d:Nat):sIx n d none=d:=rfl
theorem sIx_nat (n d k:Nat):sIx n d (some (k:Int))=min k n:=by
 show(if (k:Int) < 0 then ((k:Int)+(n:Int)).toNat else min (k:Int).toNat n)=min k n
 rw[t9 (by omega),o4]
theorem zql (n d:Nat)(b:d<=n)(o:Option Int):sIx n d o<=n:=by
 cases o with
 | none=>exact b
 | some v =>
  show(if v < 0 then (v+(n:Int)).toNat else min v.toNat n)<=n
  by_cases a:v < 0
  .rw[t6 a];omega
  .rw[t9 a];exact u2Q _ _
theorem zhr (v:Int)(n d:Nat):(if v < 0 then max (v+(n:Int)) 0 else min v (n:Int))=((sIx n d (some v):Nat):Int):=by
 show(if v < 0 then max (v+(n:Int)) 0 else min v (n:Int))=(((if v < 0 then (v+(n:Int)).toNat else min v.toNat n):Nat):Int)
 by_cases a:v < 0
 .simp only[t6 a];omega
 .simp only[t9 a];omega
theorem zgw (a b:Option Int)(n:Nat):Builtin.Slice.sliceAdjust a b 1 (n:Int)=(((sIx n 0 a:Nat):Int),((sIx n n b:Nat):Int)):=by
 have c:¬ ((1:Int) < 0):=by omega
 unfold Builtin.Slice.sliceAdjust
 simp only[c,u1S]
 refine u3c ?_ ?_
 .cases a with
  | none=>rfl
  | some v=>exact zhr v n 0
 .cases b with
  | none=>rfl
  | some v=>exact zhr v n n
theorem zfo (i j:Nat):Builtin.Slice.slicePlaces (i:Int) (j:Int) 1=j - i:=by
 unfold Builtin.Slice.slicePlaces
 have a:(1:Int) > 0:=by omega
 simp only[a,u2p,Int.ediv_one]
 split <;> omega
theorem zaj {v:Value}{o:Option Int}{Q:Option Int->Shared->Prop}(p:IsPart v o)(h:Q o s):wpAny (model prog w) A (Builtin.Slice.slicePartIndex v) Q E s:=by
 cases p with
 | none=>exact slicePart_none h
 | int i t=>exact slicePart_int h
theorem v4 {g:Addr}{f e:Value}{a d:Option Int}{n:Nat}{Q:Int × Int × Nat->Shared->Prop}(l:s.heap.IsSliceOf g f e .none)(i:IsPart f a)(k:IsPart e d)
 (h:Q (((sIx n 0 a:Nat):Int),1,sIx n n d - sIx n 0 a) s):wpAny (model prog w) A (Builtin.Slice.sliceApplied (.ref g) (pure (n:Int))) Q E s:=by
 obtain⟨os,b,j,c⟩:=id l
 unfold Builtin.Slice.sliceApplied Builtin.Slice.sliceFields
 refine u0 (u0 (u01 b c (x:=f) rfl (u0 (u01 b c (x:=e) rfl (u0 (u01 b c (x:=.none) rfl (u6 ?_)))))))
 refine u0 (slicePart_none ?_)
 show wpAny _ _ (if ((1:Int) == 0)=true then _ else _) _ _ s
 rw[t9 (by decide)]
 refine u0 (zaj i (u0 (zaj k (u0 (u6 ?_)))))
 show wpAny _ _ (match Builtin.Slice.sliceAdjust a d 1 (n:Int)with | (a,d)=>pure (a,(1:Int),Builtin.Slice.slicePlaces a d 1)) _ _ s
 rw[zgw a d n]
 show wpAny _ _ (pure (((sIx n 0 a:Nat):Int),(1:Int),Builtin.Slice.slicePlaces ((sIx n 0 a:Nat):Int) ((sIx n n d:Nat):Int) 1)) _ _ s
 rw[zfo]
 exact u6 h
theorem zlC (a:Array Value)(i k:Nat):((List.range k).filterMap λ(m:Nat)=>a[((i:Int)+(m:Int)*1).toNat]?).toArray=((a.toList.drop i).take k).toArray:=by
 have e:(λ(m:Nat)=>a[((i:Int)+(m:Int)*1).toNat]?)=λm=>a[i+m]?:=by
  funext m
  have:((i:Int)+(m:Int)*1).toNat=i+m:=by omega
  rw[this]
 rw[e]
 have:=pick_run a i k
 rw[List.filterMap_map]at this
 have b:((λx=>a[x]?) ∘ λx=>i+x)=λm=>a[i+m]?:=rfl
 rw[b]at this
 rw[this]
theorem getItem_tuple_cut {t k:Addr}{a:Array Value}{o n:Value}{c d:Option Int}{Q:Value->Shared->Prop}(e:IsTup s.heap t a)(l:s.heap.IsSliceOf k o n .none)(p:IsPart o c)(r:IsPart n d)
 (hw:¬ (sIx a.size 0 c=0/\sIx a.size a.size d=a.size))
 (h:Q (.ref s.heap.objs.size) { s with heap:=s.heap.push { cls:=.type "tuple",data:=.seq ((a.toList.drop (sIx a.size 0 c)).take (sIx a.size a.size d - sIx a.size 0 c)).toArray } })
 (v:a.size<=sizeLine):wpAny (model prog w) A (getItem (.ref t) (.ref k)) Q E s:=by
 have b:sizeOk (.seq ((a.toList.drop (sIx a.size 0 c)).take (sIx a.size a.size d - sIx a.size 0 c)).toArray):=by
  show((a.toList.drop (sIx a.size 0 c)).take (sIx a.size a.size d - sIx a.size 0 c)).toArray.size<=sizeLine
  rw[t5,u0m,u0V,r8]
  omega
 have z:sIx a.size a.size d<=a.size:=zql _ _ (t4 _) d
 obtain⟨os,g,f,u⟩:=id l
 have j:s.TypeIs (.ref k) "slice":=⟨os,g,f⟩
 unfold getItem
 try with_reducible refine r6 ?_
 first | refine u0 (u6 ?_) | skip
 refine u0 (wpAny_sequenceKey e.typeIs (by decide) ?_)
 refine u0 (o0 (name:=Str.ofString "__getitem__") e.typeIs g6
  (o7 g6 e.typeIs entry_tuple_getitem ?_ (args_tuple_getitem _ _)))
 show wpAny _ _ (Builtin.Tuple.tupleItemsOf (.ref t)>>=_) _ _ s
 refine u0 (tupleItemsOf_ e ?_)
 refine u0 (u0x j ?_)
 rw[t6 (by decide)]
 refine u0 (v4 l p r ?_)
 have i:¬ ((((sIx a.size 0 c:Nat):Int) == 0&&(1:Int) == 1&&(sIx a.size a.size d - sIx a.size 0 c) == a.size)=true):=by
  intro q
  rw[j3,j3]at q
  have y:((sIx a.size 0 c:Nat):Int)=0:=eq_of_beq q.1.1
  have x:sIx a.size a.size d - sIx a.size 0 c=a.size:=eq_of_beq q.2
  exact hw ⟨by omega,by omega⟩
 show wpAny _ _ (if (((sIx a.size 0 c:Nat):Int) == 0&&(1:Int) == 1&&(sIx a.size a.size d - sIx a.size 0 c) == a.size)=true then _ else _) _ _ s
 rw[t9 i,zlC]
 first
  | exact u0 (m:=Builtin.Tuple.tupleExact _) (n6 (u6 ⟨_,rfl,u6 h⟩) b)
  | exact u0 (m:=Builtin.Tuple.tupleExact _) (n6 (u0 (u6 (u6 ⟨_,rfl,u6 h⟩))) b)
  | exact u0 (u0 (m:=Builtin.Tuple.tupleExact _) (n6 (u6 (u6 ⟨_,rfl,u6 h⟩)) b))
  | exact u0 (u0 (m:=Builtin.Tuple.tupleExact _) (n6 (u6 ⟨_,rfl,u6 h⟩) b))
end
end HT
namespace L2
open PySem PySem.Spec PyProof.Rows
abbrev TO:=St->Hp->(Option Int->Hp->Prop)->Prop
def PO (X:Cx)(e:Option Expr)(t:TO):Prop :=
 ∀ (a:List (Addr × Obj)) (s:Shared) (σ:St) (H:Hp) (Q:Option Int->Hp->Prop),Inv X a σ H s->t σ H Q ->
  wpAny (model X.prog X.w) X.A (evalPart e X.env) (λu b=>∃ o H',Inv X a σ H' b/\IsPart u o/\Q o H') X.xe s
def zoo:TO:=λ_ H Q=>Q none H
def zr5 (t:TE):TO:=fun σ H Q=>t σ H λx H1=>∃ i,x=.int i/\Q (some i) H1
theorem YI {b:List Int}:∀ {a:List Value},yZ (b.map V.int) a->IntsAre a b:=by
 induction b with
 | nil=>intro a r;rw[List.map_nil]at r;cases r;exact .nil
 | cons n b d =>
  intro a r
  rw[r4]at r
  cases r with
  | cons f c =>
   obtain⟨t,e⟩:=f
   subst e
   exact .cons n t (d c)
section
variable {X:Cx}{e:Expr}{te:TE}{lo hi:Option Expr}{tl th:TO}{pos p2:Pos}
theorem znO:PO X none zoo:=by
 intro a s σ H Q I h
 rw[evalPart_none]
 exact u6 ⟨none,H,I,.none,h⟩
theorem znc (h:PE X e te):PO X (some e) (zr5 te):=by
 intro a s σ H Q I hw
 rw[evalPart_some]
 refine thn (h a s σ H _ I hw) λu d hh9=>?_
 obtain⟨x,H1,I1,c,b⟩:=hh9
 obtain⟨i,rfl,q⟩:=b
 obtain⟨t,rfl⟩:=c
 exact⟨some i,H1,I1,.int i t,q⟩
def SlR (X:Cx)(r:V->Option Int->Option Int->Hp->VK->Prop):Prop :=
 ∀ (a:List (Addr × Obj)) (s:Shared) (σ:St) (H:Hp) (x:V) (v b d:Value) (lo hi:Option Int) (c:Addr) (Q:VK),Inv X a σ H s->xt x v->s.heap.IsSliceOf c b d .none->IsPart b lo->IsPart d hi->r x lo hi H Q ->
  ∃ T id,typeLookup (.type T) "__getitem__"=pure (some (.builtin id))/\s.TypeIs v T/\wpAny (model X.prog X.w) X.A (getItem v (.ref c)) (EP X a σ Q) X.xe s
theorem SlR.or {r c:V->Option Int->Option Int->Hp->VK->Prop}(h:SlR X r)(k:SlR X c):SlR X (λx lo hi H Q=>r x lo hi H Q\/c x lo hi H Q):=by
 intro a s σ H x v g f lo hi j Q I d e b i q
 rcases q with q | q
 .exact h a s σ H x v g f lo hi j Q I d e b i q
 .exact k a s σ H x v g f lo hi j Q I d e b i q
def tSl (r:V->Option Int->Option Int->Hp->VK->Prop)(te:TE)(tl th:TO):TE:=fun σ H Q=>te σ H λx H1=>tl σ H1 λl H2=>th σ H2 λu H3=>r x l u H3 Q
theorem zj5 {r:V->Option Int->Option Int->Hp->VK->Prop}(g:SlR X r)(C:PE X e te)(n:PO X lo tl)(m:PO X hi th):PE X (.Subscript e (.Slice lo hi none p2) pos) (tSl r te tl th):=by
 intro a s σ H Q I h
 refine Subscript_ (thn (C a s σ H _ I h) λv A hh9=>?_)
 obtain⟨x,H1,I1,y,w⟩:=hh9
 refine wpAny_Slice (thn (n a A σ H1 _ I1 w) λf B ⟨l,H2,I2,i,o⟩=>thn (m a B σ H2 _ I2 o) λd c hh9=>?_)
 obtain⟨u,H3,I3,p,k⟩:=hh9
 rw[evalPart_none]
 refine u6 ?_
 have I4:Inv X a σ H3 { c with heap:=c.heap.push { cls:=.type "slice",data:=.fields #[f,d,.none] } }:=I3.kept (t':=c.toks) λb D q=>u5 _ q
 obtain⟨T,id,z,j,t⟩:=g a { c with heap:=c.heap.push { cls:=.type "slice",data:=.fields #[f,d,.none] } } σ H3 x v f d l u c.heap.objs.size Q I4 y (Heap.IsSliceOf.new ..) i p k
 show wpAny (model X.prog X.w) X.A (subscriptTail e (.Slice lo hi none p2) v (.ref c.heap.objs.size)) (EP X a σ Q) X.xe { c with heap:=c.heap.push { cls:=.type "slice",data:=.fields #[f,d,.none] } }
 exact tail_any (ops:=[.ref c.heap.objs.size,v]) j z t (by with_unfolding_all rfl)
def zd2 (a:List V)(lo hi:Option Int):List V:=(a.drop (HT.sIx a.length 0 lo)).take (HT.sIx a.length a.length hi - HT.sIx a.length 0 lo)
theorem Vn (a:List V)(lo hi:Option Int):(zd2 a lo hi).length<=a.length:=by
 unfold zd2
 rw[u0m,u0V]
 omega
def rSlT (K:W.Frag):V->Option Int->Option Int->Hp->VK->Prop:=λx lo hi H Q=>∃ a b,x=.ref a/\SqT K H a b /\
 ¬ (HT.sIx b.length 0 lo=0/\HT.sIx b.length b.length hi=b.length)/\∀ p,H p=none->Q (.ref p) (upd H p (.tup (zd2 b lo hi)))
theorem zpB:SlR X (rSlT X.K):=by
 intro i s σ H x v u t lo hi w Q I k m j n h
 obtain⟨a,d,rfl,l,hw,q⟩:=h
 cases k
 obtain⟨e,r,f,g⟩:=I.tuple l
 have c:e.toArray.size=d.length:=by rw[t5];exact r.length.symm
 refine⟨"tuple",_,g6.lookup,f.typeIs,?_⟩
 refine HT.getItem_tuple_cut f m j n (by rw[c];exact hw) ?_ (by rw[c];exact g)
 rw[c]
 refine⟨.ref s.heap.objs.size,_,I.laid (t':=s.toks) (o:=.tup (zd2 d lo hi)) (λb p q=>u5 _ q) (t4 _) ?_,rfl,q _ (I.hok.fresh (t4 _))⟩
 exact⟨k8 (Vn d lo hi) g,_,(r.drop (HT.sIx d.length 0 lo)).take (HT.sIx d.length d.length hi - HT.sIx d.length 0 lo),IsTup.new _ _⟩
def zrB (K:W.Frag):R2:=λx y H Q=>∃ a b d c,x=.ref a/\y=.ref b/\SqT K H a d/\SqT K H b c/\d≠[]/\d.length+c.length<=sizeLine /\
 (c=[]->Q (.ref a) H)/\(c≠[]->∀ p,H p=none->Q (.ref p) (upd H p (.tup (d++c))))
theorem yZ.nil_iff {a:List V}{b:List Value}(r:yZ a b):b=[]↔a=[]:=by
 cases r with
 | nil=>simp
 | cons _ _=>simp
theorem zmR:OpR X (binaryOp .Add) (zrB X.K):=by
 intro g s σ H x y v u Q I i m h
 obtain⟨a,b,l,n,rfl,rfl,k,B,j,f,t,p⟩:=h
 cases i
 cases m
 obtain⟨A,d,r,_⟩:=I.tuple k
 obtain⟨e,c,p2,_⟩:=I.tuple B
 refine HT.cat_tup r p2 (λz=>j (d.nil_iff.mp z)) (λz=>⟨.ref a,H,I,rfl,t (c.nil_iff.mp z)⟩) (λz=>?_) (by rw[<-d.length,<- c.length];exact f)
 refine⟨.ref s.heap.objs.size,_,I.laid (t':=s.toks) (o:=.tup (l++n)) (λb C q=>u5 _ q) (t4 _) ?_,rfl,p (λw=>z (c.nil_iff.mpr w)) _ (I.hok.fresh (t4 _))⟩
 exact⟨by rw[j4];exact f,_,d.append c,IsTup.new _ _⟩
end
def ixN (n:Nat)(i:Int):Option Nat:=if 0<=i then (if i < n then some i.toNat else none)else if -(n:Int)<=i then some (i+n).toNat else none
def atI {α:Type}(a:List α)(i:Int):Option α:=(ixN a.length i).bind λj=>a[j]?
theorem zh8 {n:Nat}{i:Int}{j:Nat}(h:ixN n i=some j):seqIndex? i n=some j/\j < n/\-(n:Int)<=i/\i < n:=by
 unfold ixN at h
 by_cases b:0<=i
 .rw[t6 b]at h
  by_cases a:i < n
  .rw[t6 a]at h
   have e:i.toNat=j:=n8 h
   exact⟨by rw[seqIndex_of b a,e],by omega,by omega,a⟩
  .rw[t9 a]at h;cases h
 .rw[t9 b]at h
  by_cases a:-(n:Int)<=i
  .rw[t6 a]at h
   have e:(i+n).toNat=j:=n8 h
   exact⟨by rw[seqIndex_neg (by omega) a,e],by omega,a,by omega⟩
  .rw[t9 a]at h;cases h
theorem zdh {α:Type}{a:List α}{i:Int}{v:α}(h:atI a i=some v):∃ j,seqIndex? i a.length=some j/\a[j]?=some v/\j < a.length/\-(a.length:Int)<=i/\i < a.length:=by
 unfold atI at h
 cases e:ixN a.length i with
 | none=>rw[e]at h;cases h
 | some j =>
  rw[e]at h
  obtain⟨b,f,c,d⟩:=zh8 e
  exact⟨j,b,h,f,c,d⟩
theorem zdp {α:Type}{a:List α}{j:Nat}{v:α}(h:a[j]?=some v):atI a (j:Int)=some v:=by
 have b:j < a.length:=(q0.mp h).1
 have e:ixN a.length (j:Int)=some j:=by
  unfold ixN
  rw[t6 (by omega),t6 (by omega)];simp
 unfold atI;rw[e];exact h
def VC (b:Expr):Prop:=∀ o i,subscripted b false o i=operate [o,i] (getItem o i)
def IxR (X:Cx)(r:R2):Prop :=
 ∀ (c a:Expr) (b:List (Addr × Obj)) (s:Shared) (σ:St) (H:Hp) (x y:V) (v u:Value) (Q:VK),Inv X b σ H s->xt x v->xt y u->r x y H Q ->
  subscripted a false v u=operate [v,u] (getItem v u)->wpAny (model X.prog X.w) X.A (subscriptTail c a v u) (EP X b σ Q) X.xe s
def MtR (X:Cx)(id:String)(r:V->List V->Hp->VK->Prop):Prop :=
 ∀ (a:List (Addr × Obj)) (s:Shared) (σ:St) (H:Hp) (x:V) (b:List V) (v:Value) (c:List Value) (Q:VK),Inv X a σ H s->xt x v->yZ b c->r x b H Q ->
  wpAny (model X.prog X.w) X.A (call (.builtin id) (v::c)) (EP X a σ Q) X.xe s
section
variable {X:Cx}{a b:Expr}{ta tb:TE}{pos:Pos}
theorem IxR.or {r d:R2}(h:IxR X r)(i:IxR X d):IxR X (λx y H Q=>r x y H Q\/d x y H Q):=by
 intro b a c s σ H x y v u Q I e g q f
 rcases q with q | q
 .exact h b a c s σ H x y v u Q I e g q f
 .exact i b a c s σ H x y v u Q I e g q f
theorem zjZ {r:R2}(d:IxR X r)(i:PE X a ta)(k:PE X b tb)(g:VC b):PE X (.Subscript a b pos) (tOp r ta tb):=by
 intro c s σ H Q I h
 exact Subscript_ (zq9 i k I h λv u e x y H2 I2 f j q=>d a b c e σ H2 x y v u Q I2 f j q (g _ _))
def rIxL (K:W.Frag):R2:=λx y H Q=>∃ p a i v,x=.ref p/\y=.int i/\SqL K H p a/\atI a i=some v/\Q v H
def rIxT (K:W.Frag):R2:=λx y H Q=>∃ p a i v,x=.ref p/\y=.int i/\SqT K H p a/\atI a i=some v/\Q v H
def rIxS:R2:=λx y H Q=>∃ z i c,x=.str z/\y=.int i/\z.length<=sizeLine/\atI z.cps.toList i=some c/\Q (.str ⟨#[c]⟩) H
theorem zmS:IxR X (rIxL X.K):=by
 intro f e a s σ H x y v u Q I o J h l
 obtain⟨p,N,i,z,rfl,rfl,D,F,q⟩:=h
 cases o
 obtain⟨t,rfl⟩:=J
 obtain⟨g,r,c,M⟩:=I.list D
 obtain⟨j,b,G,L,E,C⟩:=zdh F
 obtain⟨w,m,d⟩:=r.get G
 have A:=r.length
 have K:=WK
 have fin:EP X a σ Q w s:=⟨z,H,I,d,q⟩
 by_cases n:0<=i
 .have k:i.toNat=j:=by
   rw[seqIndex_of n C]at b
   exact n8 b
  exact item_listR c.isList n (by omega) (by rw[k];simpa using m) fin l
 .have k:(i+(g.toArray.size:Int)).toNat=j:=by
   rw[seqIndex_neg (by omega) E]at b
   rw[t5,<- A]
   exact n8 b
  exact subscriptTail_builtinR (x:=w) c.isList.typeIs slot_list_getitem.lookup
   (wpAny_getItem_list_neg (Q:=λr B=>r=w/\EP X a σ Q r B) c.isList (by omega) (by rw[t5] <;> omega) (by omega) (by rw[k];simpa using m) ⟨rfl,fin⟩) l
theorem zma:IxR X (rIxT X.K):=by
 intro d c a s σ H x y v u Q I f C h g
 obtain⟨p,L,i,z,rfl,rfl,o,A,q⟩:=h
 cases f
 obtain⟨t,rfl⟩:=C
 obtain⟨D,r,e,G⟩:=I.tuple o
 obtain⟨j,m,B,F,K,J⟩:=zdh A
 obtain⟨w,n,b⟩:=r.get B
 have k:=r.length
 have E:=WK
 have fin:EP X a σ Q w s:=⟨z,H,I,b,q⟩
 exact subscriptTail_builtinR (x:=w) e.typeIs slot_tuple_getitem.lookup
  (getItem_tuple (j:=j) (Q:=λr l=>r=w/\EP X a σ Q r l) e (by omega) (by omega) (by rw[t5,<- k];exact m) (by simpa using n) ⟨rfl,fin⟩) g
theorem zo2:IxR X rIxS:=by
 intro b a e s σ H x y v u Q I f o h k
 obtain⟨z,i,c,rfl,rfl,C,l,q⟩:=h
 obtain⟨t,rfl⟩:=f
 obtain⟨D,rfl⟩:=o
 obtain⟨j,d,m,B,g,p⟩:=zdh l
 have n:z.cps.toList.length=z.length:=by simp[Str.length]
 rw[n]at d g p
 have A:=WK
 exact tail_any (typeIs_str s z t) slot_str_getitem.lookup (getItem_str (c:=c) (by
  have r:decide (i < -(2 ^ 63:Int))=false:=j5 (by omega)
  have w:decide (i >= 2 ^ 63)=false:=j5 (by omega)
  rw[r,w,u2I]) (by rw[d];simpa using m) ⟨.str ⟨#[c]⟩,H,I.tok _,⟨_,rfl⟩,q⟩) k
def rIx (K:W.Frag):R2:=λx y H Q=>rIxL K x y H Q\/rIxT K x y H Q\/rIxS x y H Q
theorem zgG:IxR X (rIx X.K):=zmS.or (zma.or zo2)
theorem zf6 (a:List Value) (n j:Nat) (u:Value):Obj.mapSeq (·.setIfInBounds j u) { cls:=.type "list",data:=.seq a.toArray n }={ cls:=.type "list",data:=.seq (a.set j u).toArray n }:=by
 simp[Obj.mapSeq]
theorem Inv.lst {b:List (Addr × Obj)}{σ:St}{H:Hp}{s:Shared}{p:Addr}{c:List V}(I:Inv X b σ H s)(h:H p=some (.lst c)) :
 ∃ (a:List Value) (n:Nat),yZ c a/\s.heap.get? p=some { cls:=.type "list",data:=.seq a.toArray n }/\c.length<=sizeLine:=by
 obtain⟨z,a,n,r,e⟩:=I.hok p _ h
 exact⟨a,n,r,e,z⟩
theorem Inv.lstUpd {c:List (Addr × Obj)}{σ:St}{H:Hp}{s:Shared}{p:Addr}{k g:List V}{d a:List Value}{n i:Nat}{f:Obj->Obj}(I:Inv X c σ H s)(h:H p=some (.lst k))
 (m:s.heap.get? p=some { cls:=.type "list",data:=.seq d.toArray n }) (j:f { cls:=.type "list",data:=.seq d.toArray n }={ cls:=.type "list",data:=.seq a.toArray i }) (r:yZ g a) (l:g.length<=sizeLine) (t:Nat) :
 Inv X c σ (upd H p (.lst g)) { s with heap:=s.heap.update p f,toks:=t }:=by
 have e:(s.heap.update p f).get? p=some { cls:=.type "list",data:=.seq a.toArray i }:=by
  rw[k9 f m (by rw[j] <;> rfl),j]
 refine I.write (x:=p) (e:=p) (by rw[h];trivial) (.inl rfl) (λb u o q=>(r9 _ _ (u0b o)).trans q) ⟨_,e⟩ ?_
 exact⟨l,a,i,r,e⟩
def zr7:V->V->V->Hp->(Hp->Prop)->Prop:=λo i v H Q=>∃ p a k j,o=.ref p/\i=.int k/\H p=some (.lst a)/\ixN a.length k=some j/\Q (upd H p (.lst (a.set j v)))
theorem zkh:PSet X zr7:=by
 intro b s σ H o i v E G u Q I A z x h
 obtain⟨p,B,k,j,rfl,rfl,m,C,q⟩:=h
 cases A
 obtain⟨t,rfl⟩:=z
 obtain⟨a,n,r,e,y⟩:=I.lst m
 obtain⟨c,F,g,l⟩:=zh8 C
 have d:=r.length
 have D:=WK
 have I':Inv X b σ (upd H p (.lst (B.set j v))) { s with heap:=s.heap.update p (Obj.mapSeq (·.setIfInBounds j u)) } :=
  I.lstUpd m e (zf6 a n j u) (r.set x j) (by rw[u1c];exact y) s.toks
 by_cases w:0<=k
 .have f:k.toNat=j:=by
   rw[seqIndex_of w l]at c
   exact n8 c
  exact W.ki_setAt e w (by omega) (by rw[t5,<- d];exact l) (by rw[f];exact⟨_,I',q⟩)
 .have f:(k+(a.toArray.size:Int)).toNat=j:=by
   rw[seqIndex_neg (by omega) g]at c
   rw[t5,<- d]
   exact n8 c
  exact W.ki_setBack e (by omega) (by rw[t5,<- d];exact g) (by omega) (by rw[f];exact⟨_,I',q⟩)
theorem zcj (a b:Option Int)(n:Nat):(sliceBounds a b none n).1=((HT.sIx n 0 a:Nat):Int)/\(sliceBounds a b none n).2.1=((HT.sIx n n b:Nat):Int)/\(sliceBounds a b none n).2.2=1:=by
 refine⟨?_,?_,rfl⟩
 .cases a with
  | none=>simp[sliceBounds,HT.sIx]
  | some i =>
   simp only[sliceBounds,HT.sIx,Option.getD_none,show(1:Int) > 0 by decide,u2p]
   by_cases h:i < 0
   .simp only[h,u2p] <;> omega
   .simp only[h,u1S] <;> omega
 .cases b with
  | none=>simp[sliceBounds,HT.sIx]
  | some i =>
   simp only[sliceBounds,HT.sIx,Option.getD_none,show(1:Int) > 0 by decide,u2p]
   by_cases h:i < 0
   .simp only[h,u2p] <;> omega
   .simp only[h,u1S] <;> omega
theorem zbf (a:List Value)(b c:Option Int):slicePick a.toArray b c none=((a.drop (HT.sIx a.length 0 b)).take (HT.sIx a.length a.length c - HT.sIx a.length 0 b)).toArray:=by
 obtain⟨f,e,d⟩:=zcj b c a.toArray.size
 unfold slicePick
 rw[f,e,d]
 simp only[sliceRange_one,pick_run,t5] <;> rfl
def rSlL (K:W.Frag):V->Option Int->Option Int->Hp->VK->Prop:=λx c d H Q=>∃ a b,x=.ref a/\SqL K H a b/\∀ p,H p=none->Q (.ref p) (upd H p (.lst (zd2 b c d)))
theorem zoq:SlR X (rSlL X.K):=by
 intro i s σ H x v y w e f z Q I k m j n h
 obtain⟨a,c,rfl,l,q⟩:=h
 cases k
 obtain⟨t,r,g,p⟩:=I.list l
 have d:=r.length
 refine⟨"list",_,slot_list_getitem.lookup,g.isList.typeIs,?_⟩
 refine wpAny_getItem_list_slice g.isList m j n .none (by simp) ?_ (by rw[t5] <;> omega)
 rw[zbf,<- d]
 refine⟨.ref s.heap.objs.size,_,I.laid (t':=s.toks) (o:=.lst (zd2 c e f)) (λb u q=>u5 _ q) (t4 _) ?_,rfl,q _ (I.hok.fresh (t4 _))⟩
 exact⟨k8 (Vn c e f) p,_,0,(r.drop (HT.sIx c.length 0 e)).take (HT.sIx c.length c.length f - HT.sIx c.length 0 e),q2 _ rfl⟩
def zn9:V->Bool
 | .non=>true
 | .bl _=>true
 | .int _=>true
 | .str _=>true
 | _=>false
def eqV:V->V->Bool
 | .non,.non=>true
 | .bl a,.bl b=>a == b
 | .bl a,.int b=>(if a then 1 else 0) == b
 | .int a,.bl b=>a == (if b then 1 else 0)
 | .int a,.int b=>a == b
 | .str a,.str b=>a == b
 | _,_=>false
theorem zms {A:Around}{s:Shared}{y x:V}{u v:Value}(e:xt y u)(c:xt x v)(g:zn9 y=true)(f:zn9 x=true):SeqAt.EqAt A s u v (eqV y x):=by
 cases y with
 | non =>
  cases e
  cases x with
  | non=>cases c;exact SeqAt.EqAt.same _
  | bl b=>cases c;exact SeqAt.EqAt.none_bool b
  | int b=>obtain⟨t,rfl⟩:=c;exact SeqAt.EqAt.none_int b t
  | str b=>obtain⟨t,rfl⟩:=c;exact SeqAt.EqAt.none_str b t
  | _=>exact absurd (show false=true from f) u7
 | bl a =>
  cases e
  cases x with
  | non=>cases c;exact SeqAt.EqAt.bool_none a
  | bl b=>cases c;exact SeqAt.EqAt.bool_bool a b
  | int b=>obtain⟨t,rfl⟩:=c;exact SeqAt.EqAt.bool_int a b t
  | str b=>obtain⟨t,rfl⟩:=c;exact SeqAt.EqAt.bool_str a b t
  | _=>exact absurd (show false=true from f) u7
 | int a =>
  obtain⟨d,rfl⟩:=e
  cases x with
  | non=>cases c;exact SeqAt.EqAt.int_none a d
  | bl b=>cases c;exact SeqAt.EqAt.int_bool a d b
  | int b=>obtain⟨t,rfl⟩:=c;exact u2e a d b t
  | str b=>obtain⟨t,rfl⟩:=c;exact SeqAt.EqAt.int_str a d b t
  | _=>exact absurd (show false=true from f) u7
 | str a =>
  obtain⟨d,rfl⟩:=e
  cases x with
  | non=>cases c;exact SeqAt.EqAt.str_none a d
  | bl b=>cases c;exact SeqAt.EqAt.str_bool a d b
  | int b=>obtain⟨t,rfl⟩:=c;exact SeqAt.EqAt.str_int a d b t
  | str b=>obtain⟨t,rfl⟩:=c;exact SeqAt.EqAt.str_str a d b t
  | _=>exact absurd (show false=true from f) u7
 | _=>exact absurd (show false=true from g) u7
theorem vd:vN X (.builtin "len") (λg H Q=>∃ p b,g=[.ref p]/\(SqL X.K H p b\/SqT X.K H p b)/\Q (.int b.length) H):=by
 intro i s σ H g m Q I r h
 obtain⟨p,b,rfl,c,q⟩:=h
 obtain⟨u,rfl,j⟩:=W3 r
 cases j
 have l:=WK
 rcases c with c | c
 .obtain⟨f,e,d,k⟩:=I.list c
  have a:=e.length
  exact Calls.call_len_list d.isList (by simp only[t5] <;> omega) ⟨.int b.length,H,I.tok _,⟨s.toks+1,by rw[t5,a]⟩,q⟩
 .obtain⟨f,e,d,k⟩:=I.tuple c
  have a:=e.length
  exact len_tuple d (by simp only[t5] <;> omega) ⟨.int b.length,H,I.tok _,⟨s.toks+1,by rw[t5,a]⟩,q⟩
theorem zca:vN X (.type "list") (λA H Q=>∃ p f,A=[.ref p]/\(SqL X.K H p f\/SqT X.K H p f)/\∀ l,H l=none->Q (.ref l) (upd H l (.lst f))):=by
 intro t s σ H A C Q I r h
 obtain⟨p,f,rfl,k,q⟩:=h
 obtain⟨u,rfl,B⟩:=W3 r
 cases B
 have fin:∀ (a:List Value),yZ f a->f.length<=sizeLine->∀ (c:Heap) (g:Nat),(∀ b z,s.heap.get? b=some z->c.get? b=some z) ->
  c.get? s.heap.objs.size=some { cls:=.type "list",dict:=none,data:=.seq a.toArray g,slots:=#[] }->EP X t σ Q (.ref s.heap.objs.size) { s with heap:=c }:=λa d i c g j e =>
  ⟨.ref s.heap.objs.size,_,I.laid (t':=s.toks) j (t4 _) (show yJ X.prog X.w _ c _ (.lst f) from⟨i,a,g,d,e⟩),rfl,q _ (I.hok.fresh (t4 _))⟩
 rcases k with k | k
 .obtain⟨a,d,v,i⟩:=I.list k
  have m:=d.length
  obtain⟨o,y,w,n,x⟩:=v.isList
  exact call_list_seq p (.inl rfl) y w x (λc g j e=>fin a d i c g j e) (by simp only[t5] <;> omega)
 .obtain⟨a,d,v,i⟩:=I.tuple k
  have m:=d.length
  obtain⟨o,y,w,n,x⟩:=v
  exact call_list_seq p (.inr rfl) y w x (λc g j e=>fin a d i c g j e) (by simp only[t5] <;> omega)
theorem zaB:vN X (.type "tuple") (λm H Q=>∃ p d,m=[.ref p]/\((SqL X.K H p d/\∀ l,H l=none->Q (.ref l) (upd H l (.tup d)))\/(SqT X.K H p d/\Q (.ref p) H))):=by
 intro a s σ H m w Q I r h
 obtain⟨p,d,rfl,h⟩:=h
 obtain⟨u,rfl,t⟩:=W3 r
 cases t
 rcases h with ⟨i,q⟩ | ⟨i,q⟩
 .obtain⟨c,j,g,n⟩:=I.list i
  have k:=j.length
  refine call_tuple_list g.isList (λf v=>?_) (by simp only[t5] <;> omega)
  have I1:Inv X a σ H { s with heap:=f }:=I.kept (t':=s.toks) v
  have I2:Inv X a σ (upd H f.objs.size (.tup d)) { s with heap:=f.push { cls:=.type "tuple",data:=.seq c.toArray } } :=
   I1.laid (t':=s.toks) (λb o e=>u5 _ e) (t4 _) (show yJ X.prog X.w _ _ _ (.tup d) from⟨n,c,j,IsTup.new _ _⟩)
  exact⟨.ref f.objs.size,_,I2,rfl,q _ (I1.hok.fresh (t4 _))⟩
 .obtain⟨c,j,g,n⟩:=I.tuple i
  exact call_tuple_same g ⟨.ref p,H,I,rfl,q⟩
def tyV (K:W.Frag)(T:String)(x:V)(H:Hp):Prop:=match x with
 | .str _=>T="str"
 | .int _=>T="int"
 | .ref p=>(T="list"/\∃ b,SqL K H p b)\/(T="tuple"/\∃ o,K.lookup p=some o/\o.cls=.type "tuple"/\o.dict=none) \/
  (T="dict"/\((∃ a,H p=some (.dK a))\/∃ a,H p=some (.dT a)))\/(T="set"/\∃ S n,H p=some (.set S n))
 | _=>False
theorem zoT {d:List (Addr × Obj)}{σ:St}{H:Hp}{s:Shared}{T:String}{x:V}{v:Value}(I:Inv X d σ H s)(r:xt x v)(ty:tyV X.K T x H) :
 s.TypeIs v T/\∀ a,v=.ref a->∃ k,s.heap.get? a=some k/\k.dict=none:=by
 cases x with
 | str z =>
  obtain⟨t,rfl⟩:=r
  cases (show T="str" from ty)
  exact⟨typeIs_str s z t,λ_ e=>nomatch e⟩
 | int i =>
  obtain⟨t,rfl⟩:=r
  cases (show T="int" from ty)
  exact⟨typeIs_int s i t,λ_ e=>nomatch e⟩
 | ref p =>
  cases r
  rcases ty with ⟨rfl,u,l⟩ | ⟨rfl,o,b,m,f⟩ | ⟨rfl,b⟩ | ⟨rfl,S,n,b⟩
  .obtain⟨q,_,j,_⟩:=I.list l
   refine⟨j.isList.typeIs,λa e=>?_⟩
   cases e
   obtain⟨o,n,e,c,f,_⟩:=j
   exact⟨o,e,f⟩
  .refine⟨⟨o,I.kIn p o b,m⟩,λa e=>?_⟩
   cases e
   exact⟨o,I.kIn _ o b,f⟩
  .have z:∃ o,s.heap.get? p=some o/\o.ExactDict:=by
    rcases b with ⟨h,b⟩ | ⟨h,b⟩
    .obtain⟨_,_,_,_,o,_,_,e,ex,_⟩:=I.hok p _ b
     exact⟨o,e,ex⟩
    .obtain⟨_,_,_,_,o,_,_,e,ex,_⟩:=I.hok p _ b
     exact⟨o,e,ex⟩
   obtain⟨o,e,ex⟩:=z
   refine⟨⟨o,e,ex.1⟩,λa g=>?_⟩
   cases g
   exact⟨o,e,ex.2.1⟩
  .obtain⟨o,_,_,_,e,ex,_⟩:=I.hok p _ b
   refine⟨⟨o,e,ex.1⟩,λa g=>?_⟩
   cases g
   exact⟨o,e,ex.2.1⟩
 | _=>exact False.elim ty
def tBM (K:W.Frag)(T:String)(r:V->List V->Hp->VK->Prop)(b:TE)(t:TA):TE:=fun σ H Q=>b σ H λx H1=>tyV K T x H1/\t σ H1 λa H2=>r x a H2 Q
variable {o e:Expr}{es:List Expr}{to:TE}{t:TA}{name:Str}{apos cpos:Pos}{T id:String}{r:V->List V->Hp->VK->Prop}
theorem zfU (q:PlainAttrs T) (g:Slot T name id) (i:typeOf (.builtin id)=pure (.type "method_descriptor")) (u:MtR X id r) (z:PE X o to) (A:PA X (e::es) t)
 (d:attributeBase o name X.env (eval o X.env)=eval o X.env:=by rfl)
 (f:((backTo cpos (starEach (e::es) X.env)).all (λx=>!x.1)&&(backToKw cpos (keywordEach [] X.env)).all (λx=>x.1.isSome)
  && decide ((e::es).length+([]:List Keyword).length+(if ([]:List Keyword).isEmpty then 0 else 1) < 30))=true:=by rfl)
 (c:(apos.endLine == cpos.line)=true:=by rfl) (w:starEach (e::es) X.env=(false,eval e X.env)::starEach es X.env:=by rfl) (b:(backTo cpos (starEach es X.env)).any (·.1)=false:=by rfl) :
 PE X (.Call (.Attribute o name apos) (e::es) [] cpos) (tBM X.K T r to t):=by
 intro a s σ H Q I h
 refine wpAny_Call_method_late d f c rfl (thn (z a s σ H _ I h) λv n hh9=>?_)
 obtain⟨x,H1,I1,k,ty,E⟩:=hh9
 obtain⟨D,y⟩:=zoT I1 k ty
 refine⟨T,id,q,g,i,D,y,?_⟩
 have j:=A cpos a n σ H1 _ I1 E
 rw[w]at j ⊢
 refine Calls.callWith_builtin (by show(false||(backTo cpos (starEach es X.env)).any (·.1))=false;rw[b] <;> rfl) (Calls.evalArgs_plain ?_)
 exact thn j λl p ⟨B,H2,I2,m,C⟩=>u a p σ H2 x B v l Q I2 k m C
/- xs.append(e),list.index on a module's tuple .. are MtR facts of 06m -/
end
def MtM (X:Cx)(id:String)(r:V->List V->Hp->VK->Prop):Prop :=
 ∀ (a:List (Addr × Obj)) (s:Shared) (σ:St) (H:Hp) (x:V) (b:List V) (v:Value) (c:List Value) (Q:VK),Inv X a σ H s->xt x v->yZ b c->r x b H Q ->
  wpAny (model X.prog X.w) X.A (call (.builtin id) (v::c)) (EP X a σ Q) X.xe s
theorem yZ.one:∀ {x:V} {a:List Value},yZ [x] a->∃ u,a=[u]/\xt x u:=by
 intro x a h
 cases h with | cons r t=>cases t;exact⟨_,rfl,r⟩
theorem yZ.reverse {a:List V}{b:List Value}(h:yZ a b):yZ a.reverse b.reverse:=by
 induction h with
 | nil=>exact .nil
 | cons r t c=>rw[u1u,u1u];exact yZ.append c (.cons r .nil)
theorem yZ.rep {a:List V}{b:List Value}(h:yZ a b):∀ k:Nat,yZ (List.replicate k a).flatten (List.replicate k b).flatten
 | 0=>.nil
 | k+1=>by
  rw[i3,i3,u0t,u0t]
  exact yZ.append h (yZ.rep h k)
theorem zb9 (a:List Value):∀ (k:Nat) (b:List Value),
 List.foldl (λc d=>c++d) b.toArray (List.replicate k a.toArray)=(b++(List.replicate k a).flatten).toArray
 | 0,b=>by simp
 | k+1,b=>by
  have e:b.toArray++a.toArray=(b++a).toArray:=by simp
  have f:(b++a)++(List.replicate k a).flatten=b++(List.replicate (k+1) a).flatten:=by
   rw[i3,u0t,u2u]
  rw[<-f,<- zb9 a k (b++a),<- e,i3,List.foldl_cons]
section
variable {X:Cx}{pins:List (Addr × Obj)}{σ:St}{H:Hp}{s:Shared}{l b:Addr}{xs ys zs:List V}
theorem Inv.lset {a its':List Value}{n:Nat}{f:Array Value->Array Value}{g:Nat}(I:Inv X pins σ H s)(c:H l=some (.lst xs))
 (e:s.heap.get? l=some { cls:=.type "list",data:=.seq a.toArray n }) (h:f a.toArray=its'.toArray) (b:yZ ys its') (d:ys.length<=sizeLine) :
 Inv X pins σ (upd H l (.lst ys)) { s with heap:=s.heap.update l (Obj.mapSeq f),toks:=g }:=by
 have q:=PySem.IsL.update e f
 rw[h]at q
 refine I.write (x:=l) (e:=l) (by rw[c];exact trivial) (.inl rfl) (λk u j i=>(r9 s.heap (Obj.mapSeq f) (u0b j)).trans i) ⟨_,q⟩ ?_
 exact⟨d,its',_,b,q⟩
theorem Inv.lnew {a:List Value}{t':Nat}(I:Inv X pins σ H s)(b:yZ ys a)(c:ys.length<=sizeLine) :
 Inv X pins σ (upd H s.heap.objs.size (.lst ys)) { s with heap:=s.heap.push { cls:=.type "list",data:=.seq a.toArray },toks:=t' } :=
 I.laid (λ_ _ q=>u5 _ q) (t4 _) ⟨c,a,0,b,q2 _ rfl⟩
theorem Inv.fresh (I:Inv X pins σ H s):H s.heap.objs.size=none:=I.hok.fresh (t4 _)
theorem Inv.lstM (I:Inv X pins σ H s) (b:H l=some (.lst xs)):xs.length<=sizeLine/\∃ (a:List Value) (n:Nat),yZ xs a/\xs.length=a.length/\s.heap.get? l=some { cls:=.type "list",data:=.seq a.toArray n }:=by
 obtain⟨z,a,n,r,e⟩:=I.hok l _ b
 exact⟨z,a,n,r,r.length,e⟩
theorem zep {n:Nat}(h:n<=sizeLine):Builtin.List.listTooLong n=false:=by
 unfold Builtin.List.listTooLong
 exact j5 (by omega)
end
section
variable {X:Cx}
def zjA:V->List V->Hp->VK->Prop:=λx b H Q=>∃ l a y,x=.ref l/\b=[y]/\H l=some (.lst a)/\a.length < sizeLine/\Q .non (upd H l (.lst (a++[y])))
theorem zcm:MtM X "list.append" zjA:=by
 intro c s σ H x k v i Q I d f h
 obtain⟨l,m,y,rfl,rfl,b,o,q⟩:=h
 cases d
 obtain⟨u,rfl,g⟩:=f.one
 obtain⟨z,a,n,r,j,e⟩:=I.lstM b
 refine u2D F.slot_list_append ⟨_,e,rfl⟩ F.entry_list_append (F.args_list_append_2 _ _) (PySem.list_append l a.toArray n u (by rw[t5];omega)) ⟨e,?_⟩
 refine⟨.non,_,I.lset (its':=a++[u]) b e (by simp) (r.append (.cons g .nil)) ?_,rfl,q⟩
 rw[j4,List.length_singleton]
 omega
def ziZ:V->List V->Hp->VK->Prop:=λx c H Q=>∃ l b a zs,x=.ref l/\c=[.ref b]/\H l=some (.lst a)/\H b=some (.lst zs)/\a.length+zs.length<=sizeLine/\Q .non (upd H l (.lst (a++zs)))
theorem zb3:MtM X "list.extend" ziZ:=by
 intro i s σ H x B v E Q I j k h
 obtain⟨l,b,G,zs,rfl,rfl,g,o,C,q⟩:=h
 cases j
 obtain⟨u,rfl,m⟩:=k.one
 cases m
 obtain⟨z,c,n,r,A,e⟩:=I.lstM g
 obtain⟨D,a,w,p,t,y⟩:=I.lstM o
 have f:c.toArray.size+a.toArray.size<=sizeLine:=by rw[t5,t5];omega
 have d:¬ (!c.toArray.isEmpty&&Builtin.List.listTooLong (c.toArray.size+a.toArray.size))=true:=by
  rw[zep f,m9]
  exact u7
 refine u2D F.slot_list_extend ⟨_,e,rfl⟩ F.entry_list_extend (F.args_list_extend_2 _ _)
  (AutoSeq1.list_extend_list_list_0 l c.toArray n b a.toArray w d (by rw[t5];omega) (by omega)) ⟨e,y,?_⟩
 refine⟨.non,_,I.lset (its':=c++a) g e (by simp) (r.append p) ?_,rfl,q⟩
 rw[j4]
 omega
def zrt:R2:=λx y H Q=>∃ l b a zs,x=.ref l/\y=.ref b/\H l=some (.lst a)/\H b=some (.lst zs)/\a.length+zs.length<=sizeLine/\∀ p,H p=none->Q (.ref p) (upd H p (.lst (a++zs)))
theorem ze8:OpR X (binaryOp .Add) zrt:=by
 intro d s σ H x y v u Q I i k h
 obtain⟨l,b,w,zs,rfl,rfl,g,m,B,q⟩:=h
 cases i
 cases k
 obtain⟨z,c,n,r,t,e⟩:=I.lstM g
 obtain⟨C,a,A,f,j,o⟩:=I.lstM m
 refine PySem.P.add_list e o ?_ (by rw[t5,t5];omega)
 have p:c.toArray++a.toArray=(c++a).toArray:=by simp
 rw[p]
 exact⟨.ref _,_,I.lnew (t':=s.toks) (r.append f) (by rw[j4];omega),rfl,q _ I.fresh⟩
def rRep:R2:=λx y H Q=>∃ l k a,x=.ref l/\y=.int k/\H l=some (.lst a)/\-(2 ^ 63)<=k/\k < 2 ^ 63/\a.length*k.toNat<=sizeLine /\
 ∀ p,H p=none->Q (.ref p) (upd H p (.lst (List.replicate k.toNat a).flatten))
theorem znB {α:Type}(a:List α)(k:Nat):(List.replicate k a).flatten.length=k*a.length:=by
 induction k with
 | zero=>simp
 | succ k b=>rw[i3,u0t,j4,b,Nat.succ_mul,Nat.add_comm]
theorem zml:OpR X (binaryOp .Mult) rRep:=by
 intro w s σ H x y v u Q I B J h
 obtain⟨l,k,M,rfl,rfl,A,E,G,p,q⟩:=h
 cases B
 obtain⟨t,rfl⟩:=J
 obtain⟨z,b,n,r,C,e⟩:=I.lstM A
 have f:b.toArray.size*k.toNat<=sizeLine:=by rw[t5,<- C];exact p
 have d:¬ b.toArray.size*k.toNat > (2 ^ 63 - 1) / 8:=by
  have:(sizeLine:Nat)<=(2 ^ 63 - 1) / 8:=by decide
  omega
 have g:¬ (!Builtin.List.listFitsIndex k)=true:=by
  rw[fitsIndex_both E G]
  exact u7
 have c:¬ Builtin.List.listTooLong (b.toArray.size*k.toNat)=true:=by
  rw[zep f]
  exact u7
 have i:List.foldl (λj o=>j++o) #[] (List.replicate (if b.toArray.isEmpty=true then 0 else k.toNat) b.toArray)=(List.replicate k.toNat b).flatten.toArray:=by
  have K:∀ m:Nat,List.foldl (λj o=>j++o) #[] (List.replicate m b.toArray)=(List.replicate m b).flatten.toArray:=λm=>by
   have:=zb9 b m []
   rw[List.nil_append]at this
   exact this
  rw[K]
  cases b with
  | nil=>simp
  | cons a L=>rw[t9 (by simp)]
 refine wpAny_binaryOp_repeat_ref (T:="list") (U:="int") (by decide) ⟨_,e,rfl⟩ (λD=>typeIs_int D k t) noFill_list_mul F.fills_int_mul F.slot_int_rmul repeat_list F.slot_int_index.lookup
  (u2D F.slot_int_rmul (typeIs_int s k t) F.entry_int_rmul (F.args_int_rmul_2 _ _) (int___rmul___int_list k t l b.toArray n)
   ⟨e,rfl,⟨_,e,rfl⟩,u2D F.slot_list_mul ⟨_,e,rfl⟩ F.entry_list_mul (F.args_list_mul_2 _ _) (AutoListH.list___mul___list_int_3 l b.toArray n k t g d c) ⟨e,?_⟩⟩)
 rw[i]
 exact⟨.ref _,_,I.lnew (t':=s.toks) (r.rep k.toNat) (by rw[znB,Nat.mul_comm];exact p),rfl,q _ I.fresh⟩
end
end L2
namespace Att
open PySem PySem.W PySem.Calls PyProof.Rows
theorem VA {P:Params}{h:Heap}:∀ (c:List Int) (d:List Value),WellAll P h d (c.map WData.int)->IntsAre d c:=by
 intro c
 induction c with
 | nil =>
  intro d w
  rw[List.map_nil]at w
  cases w
  exact .nil
 | cons n c e =>
  intro d w
  rw[r4]at w
  cases w with
  | cons a b =>
   cases a
   exact .cons _ _ (e _ b)
theorem zic {l:OpenLaw}{n:Nat}(s:l.most=some n){P:Params}{h:Heap}{args:List WData}{c:List Value}
 (e:l.row.toRowW.claim.pre args=true) (m:WellAll P h c args) :
 ∃ a p b,c=[Value.ref a]/\args=[WData.list (b.map WData.int)]/\h.get? a=some { cls:=.type "list",data:=.seq p.toArray }/\IntsAre p b/\b.length<=n:=by
 have k:WShape.hasAll [] args [.list .int]=true:=(pre_splitW e).1
 have o:l.pre.holds [] { args:=args }=true:=(pre_splitW e).2
 obtain⟨d,r,rfl,u,t⟩:=hasAllW_cons k
 obtain rfl:=hasAllW_nil t
 obtain⟨A,rfl,v⟩:=hasW_list u
 obtain⟨b,rfl⟩:=items_int v
 have g:b.length<=n:=by
  unfold OpenLaw.pre at o
  have i:(WTm.not (.lt (.lit (.int (n:Int))) (.len (.arg 0)))).holds [] { args:=[.list (b.map .int)] }=true:=by
   have i:=(holds_andW o).1
   rw[s]at i
   exact i
  have j:=condW_of i (w_not (w_lt w_lit (w_len_list (w_arg rfl))))
  rw[u8]at j
  refine m4 λq=>?_
  have y:(n:Int) < ((b.length:Nat):Int):=by omega
  first
   | (rw[q7 y]at j;exact absurd j (by decide))
   | (simp at j;omega)
 cases m with
 | cons w x =>
  cases x
  cases w with
  | list z f=>exact⟨_,_,b,rfl,rfl,z,VA b _ f,g⟩
theorem ziJ (l:OpenLaw)(args:List WData):l.row.toRowW.claim.post args (.bool true) args=true :=
 postW_of (r:=l.row.toRowW) (X:=(true == true))
  (show WShape.has [] (.bool true) .bool=true by first | rfl | decide | simp[WShape.has,WShape.arms,WShape.armsAll])
  (show(WTm.eq .res (.lit (.bool true))).value [] { args:=args,res:=some (.bool true),after:=args }=some (.bool (true == true))from w_eq_bool (w_res rfl) w_lit) rfl
theorem attach_call {l:OpenLaw}{n:Nat}{q:Program}{b:List Str}{XP:(Str->Option Value)->Heap->Prop}{YP:World->Heap->Prop}{d:DefRec}
 (F:l.most=some n) (v:d.params.defaults=[])
 (call:∀ (w:World) (s₀ c:Shared) (p x:Str->Option Value) (i:Addr) (o:Obj) (y u e:Value) (a:Addr) (h:List Value) (t:List Int),
  Ground q b [] XP w s₀ p x c.heap->YP w c.heap ->
  c.heap.get? i=some o->o.data=.func (docDef d.name d.params d.body d.scope y u e)->c.heap.CodeRec u d.name->p d.name=some (.ref i) ->
  c.heap.get? a=some { cls:=.type "list",data:=.seq h.toArray }->IntsAre h t->t.length<=n->c.gens=#[] ->
  codeAny (model l.prog w) callerA (.call (.ref i) ⟨[.ref a],[]⟩) (λr s=>r=.ok (.ret (.bool true))/\OldK c.heap s.heap/\s.os=c.os/\AllBare s.gens) c) :
 WalkO q b XP YP l.row.toRowW d [] (λf h=>PySem.call f h):=by
 intro w s₀ c p x G Y i o y u e K kV M I B hD z J args C R m D E A H
 obtain rfl:K=.none:=Dflts.none hD v
 obtain rfl:kV=.none:=Dflts.noKw hD
 obtain⟨a,h,t,rfl,rfl,j,g,k⟩:=zic F m A
 refine enter_call (u06 (call w s₀ c p x i o y u e a h t G Y M (fd_plain I) B z j g k J) λr s N=>?_)
 obtain⟨rfl,Q,L,O⟩:=N
 exact⟨.inl ⟨.bool true,.bool true,[],rfl,λ_=>rfl,.bool true,ziJ l _,λ_=>⟨List.Pairwise.nil,λ_ P=>(nomatch P)⟩⟩,Q,L,O⟩
section
variable {prog:Program}{w:World}{A:Around}{E:Value->Shared->Prop}{s:Shared}{K:Frag}
def ledger (h:Heap)(L d:Addr):List (Addr × Obj):=(List.range h.objs.size).filterMap λa=>if a=L\/a=d then none else (h.get? a).map λo=>(a,o)
end
end Att
namespace L2
open PySem PySem.Spec PyProof.Rows
theorem zcO:∀ {b:List Value} {a:List Int},IntsAre b a->yZ (a.map V.int) b:=by
 intro b a h
 induction h with
 | nil=>exact .nil
 | cons n t h c=>exact .cons ⟨t,rfl⟩ c
def zrU (H:Hp):Prop:=∀ b,H b=none\/∃ o a,H b=some (.frz o (.lst a))
theorem zlt {P:Program}{w:World}{K:PySem.W.Frag}{A T:Str->Option Value}{CX:CXT}{k:Nat}{R a:Addr}{fd:FuncData}{x:Str}{sp:Sp}{c:Shared}{t:List Value}{C:List Int}
 (KX:K.In c.heap) (O:c.heap.Ns mainGlobals A) (g:c.heap.Ns builtinsNs T) (W:∀ x:Str,x≠"__name__"->T x=bootBuiltins x) (M:c.heap.NoLimit) (hg:c.gens=#[])
 (Q:c.heap.get? a=some { cls:=.type "list",data:=.seq t.toArray }) (hi:IntsAre t C) (hl:C.length<=sizeLine) (hr:ww k callerA)
 (F:∀ j:Heap,K.In j->j.Ns mainGlobals A->Yb P w K A j CX k R fd [x] sp) (y:∀ (s:Shared) (u:Value),BindsTo s fd ⟨[u],[]⟩ [(x,u)])
 (X:∀ H:Hp,zrU H->SqL K H a (C.map V.int)->sp [.ref a] H (λv _=>v=.bl true) λ_ _ _=>False)
 (U:∀ H e i,CX [] H c (λ_ _ _=>False) e i->False) :
 codeAny (model P w) callerA (.call (.ref R) ⟨[.ref a],[]⟩) (λr i=>r=.ok (.ret (.bool true))/\OldK c.heap i.heap/\i.os=c.os/\AllBare i.gens) c:=by
 have rv:=zcO hi
 have I:=hi.length
 -- from an abstract heap in which nothing but the script may be tracked
 have p:∀ H:Hp,zrU H->SqL K H a (C.map V.int)->HOk P w H c.heap->(∀ b,H b≠none->b=a)->(H a≠none->K.lookup a=none) ->
  codeAny (model P w) callerA (.call (.ref R) ⟨[.ref a],[]⟩) (λr i=>r=.ok (.ret (.bool true))/\OldK c.heap i.heap/\i.os=c.os/\AllBare i.gens) c:=by
  intro H hO hS B hA hK
  have f:∀ {b:Addr} {o:Obj},c.heap.get? b=some o->H b=none->(zkt c.heap H).get? b=some o:=λe n=>zkB e n
  have Z:∀ {b:Addr} {o:Obj} {G:Array DictEntry} {J:Nat},c.heap.get? b=some o->o.data=.dict G J->H b=none:=λ{b o G J} e d=>by
   cases q:H b with
   | none=>rfl
   | some u =>
    have S:b=a:=hA b (by rw[q];simp)
    subst S
    rw[Q]at e;cases e
    have d':Data.seq t.toArray _=Data.dict G J:=d
    cases d'
  have l:∀ {b:Addr} {m:Str->Option Value},c.heap.Ns b m->(zkt c.heap H).Ns b m:=λ{b m} ⟨o,G,J,e,d,r⟩=>⟨o,G,J,f e (Z e d),d,r⟩
  have L:K.In (zkt c.heap H):=λb o e=>f (KX b o e) (by
   cases q:H b with
   | none=>rfl
   | some u =>
    have S:b=a:=hA b (by rw[q];simp)
    subst S
    rw[hK (by rw[q];simp)]at e;cases e)
  have hM:Mod K A (zkt c.heap H):=⟨L,l O,⟨T,l g,W⟩,let ⟨mc,h1,h2⟩:=M;⟨mc,l h1,h2⟩⟩
  have e0:zl7 P w K A (zkt c.heap H) callerA [] c H:=⟨rfl,hM,λb o e=>znK e,Nat.le_of_eq (zhV _ _),trivial,λb g=>absurd (show b∈([]:List Addr)from g) (by simp),B,.of_eq hg⟩
  refine u06 ((F _ L (l O)).run callerA [] c H ⟨[.ref a],[]⟩ [.ref a] [.ref a] _ _ hr e0 (y c (.ref a)) (.cons rfl .nil) (X H hO hS)) λr i h=>?_
  cases r with
  | error e=>exact(U H e i h).elim
  | ok fl =>
   cases fl with
   | next=>exact False.elim h
   | brk=>exact False.elim h
   | cont=>exact False.elim h
   | ret u =>
    obtain⟨v,H',os,N,un,D,r',q⟩:=h
    have q':v=.bl true:=q
    subst q'
    obtain rfl:u=Value.bool true:=r'
    refine⟨rfl,OldK.of_keep λb o e=>?_,os,N⟩
    cases q:H b with
    | none=>exact un.keep b o e q (by intro z;exact absurd (show b∈([]:List Addr)from z) (by simp)) (by simp)
    | some u =>
     rcases hO b with z | ⟨ob,xs,z⟩
     .rw[q]at z;cases z
     .have z2:=un.frzs b ob _ z
      obtain⟨e1,_⟩:=B b _ z
      obtain⟨e2,_⟩:=D b _ z2
      rw[e]at e1;cases e1
      exact e2
 cases Y:K.lookup a with
 | some o =>
  -- the script is one of the module's own objects
  have e:=KX a o Y
  rw[Q]at e
  cases e
  refine p (λ_=>none) (λ_=>.inl rfl) (.inr ⟨_,t.toArray,_,Y,rfl,rfl,rfl,by rw[t5,I];exact hl,by simpa using rv⟩) (λb u z=>by have E:(none:Option HO)=some u:=z;cases E) (λb z=>absurd rfl z) λz=>absurd rfl z
 | none =>
  refine p (λb=>if b=a then some (.frz { cls:=.type "list",data:=.seq t.toArray } (.lst (C.map V.int)))else none) (λb=>?_) (.inl (.inr ⟨{ cls:=.type "list",data:=.seq t.toArray },t6 rfl⟩)) (λb u z=>?_) (λb z=>?_) λ_=>Y
  .by_cases g:b=a
   .exact .inr ⟨_,_,t6 g⟩
   .exact .inl (t9 g)
  .by_cases g:b=a
   .have E:=(t6 g).symm.trans z
    cases E
    subst g
    exact⟨Q,by rw[u8];exact hl,t,_,rv,Q⟩
   .have E:=(t9 g).symm.trans z
    cases E
  .by_cases g:b=a
   .exact g
   .exact absurd (t9 g) z
theorem walk_of {l:PySem.W.OpenLaw}{n k:Nat}{q:Program}{g:List Str}{XP:(Str->Option Value)->Heap->Prop}{YP:World->Heap->Prop}{d:DefRec}{K:Params->PySem.W.Frag}{CX:World->CXT}{sp:World->Sp}{x:Str}
 (P:l.most=some n) (t:n<=sizeLine) (A:d.params.defaults=[]) (I:ww k callerA)
 (M:∀ (w:World) (h:Heap),YP w h->(K w.params).In h)
 (F:∀ (w:World) (j:Str->Option Value) (p:Addr) (h:Heap),(K w.params).In h->h.Ns mainGlobals j->j d.name=some (.ref p) ->
  ∃ D:FuncData,(∀ (s:Shared) (u:Value),BindsTo s D ⟨[u],[]⟩ [(x,u)]) /\
   ∀ b:Heap,(K w.params).In b->b.Ns mainGlobals j->Yb l.prog w (K w.params) j b (CX w) k p D [x] (sp w))
 (B:∀ (w:World) (H:Hp) (a:Addr) (r:List Int),r.length<=n->zrU H->SqL (K w.params) H a (r.map V.int)->sp w [.ref a] H (λv _=>v=.bl true) λ_ _ _=>False)
 (y:∀ (w:World) (H:Hp) (s:Shared) (e:Value) (z:Shared),CX w [] H s (λ_ _ _=>False) e z->False) :
 PySem.W.WalkO q g XP YP l.row.toRowW d [] (λf E=>PySem.call f E):=by
 refine Att.attach_call P A λw s₀ O j W p o Z X J a E r G Y ho U T C m i c Q=>?_
 have KX:=M w _ Y
 obtain⟨D,S,R⟩:=F w j p _ KX G.T.g C
 exact zlt KX G.T.g G.T.b G.T.builtins G.T.nolimit Q m i (k8 c t) I R S (λH N L=>B w H a r c N L) λH e z=>y w H O e z
def vT (s:Stmt):Arguments:=match s with
 | .FunctionDef _ a _ _ _ _ _ _ _ _=>a
 | _=>{ posonlyargs:=[],args:=[],vararg:=none,kwonlyargs:=[],kw_defaults:=[],kwarg:=none,defaults:=[] }
def xQ (s:Stmt):List Stmt:=match s with
 | .FunctionDef _ _ b _ _ _ _ _ _ _=>b
 | _=>[]
def zF (s:Stmt):Scope:=match s with
 | .FunctionDef _ _ _ _ _ _ sc _ _ _=>sc
 | _=>{ kind:=.function,names:=[],isGenerator:=false,isCoroutine:=false }
abbrev CX0:CXT:=λ_ _ _ _ _ _=>False
abbrev E0:XK:=λ_ _ _=>False
theorem zpN {X:Cx}:Yh CX0 X E0:=λ_ _ _ _ _ _ _ h=>h.elim
structure Fun (K:W.Frag) (x qual:Str) (st:Stmt) (f:Addr) (fd:FuncData):Prop where
 ex:∃ (oc:Value) (od:Option Addr) (kV doc pm:Value) (an:Option Addr) (cdv ct:Value) (osl:Array (Option Value)),
  fd=W.fnOf x qual (vT st) (xQ st) (zF st) .none kV doc pm an cdv ct/\K.lookup f=some ⟨oc,od,.func fd,osl⟩/\W.codeIn K cdv qual=true
 kp:W.keepIn K (.ref f)=true
section
variable {P:Program}{w:World}{K:W.Frag}{mg:Str->Option Value}{base:Heap}
theorem Fun.ok {x a:Str}{e:Stmt}{f:Addr}{n:FuncData}{N m:List Str}{k:Nat}{g:Sp}(F:Fun K x a e f n)(S:vJ N m (zF e))(l:∀ c H Q E,g c H Q E->c.length=m.length)
 (d:∀ (b:Value) (A:Around) (outer:List Env) (s:Shared) (H:Hp) (c:List V) (Q:VK) (E:XK),ww k (A.deeper (envOfC a (zF e) s.heap.objs.size f b))->g c H Q E ->
  ∃ t,PSs (vX CX0 P w K mg base N a (zF e) f b A outer s H E).nox (xQ e) t/\t { nx:=λ_ H'=>Q .non H',rt:=Q } (start N c) H):Yb P w K mg base CX0 (k+1) f n m g:=by
 obtain⟨z,B,kV,p,y,v,b,ct,r,rfl,u,j⟩:=F.ex
 refine zpt u j S l λA outer s H c Q E o i=>?_
 obtain⟨t,h,q⟩:=d b A outer s H c Q E o i
 exact⟨t,h.nox,q⟩
theorem Fun.binds {x a:Str}{d:Stmt}{f:Addr}{j:FuncData}{ps:List Str}(F:Fun K x a d f j)
 (h:∀ (kV b i:Value) (g:Option Addr) (c ct:Value) (e:List Value),e.length=ps.length->bindArgs (W.fnOf x a (vT d) (xQ d) (zF d) .none kV b i g c ct) ⟨e,[]⟩=pure (ps.zip e)):Yc K j ps []:=by
 obtain⟨n,m,kV,b,i,g,c,ct,l,rfl,o,k⟩:=F.ex
 exact .all (h kV b i g c ct)
theorem ziw {x a:Str}{st:Stmt}{f:Addr}{j:Value}{i g:Option Addr}{e:Array (Option Value)}{kV d h b ct:Value}(l:K.lookup f=some ⟨j,i,.func (W.fnOf x a (vT st) (xQ st) (zF st) .none kV d h g b ct),e⟩)
 (c:W.codeIn K b a=true) (k:W.keepIn K (.ref f)=true):Fun K x a st f (W.fnOf x a (vT st) (xQ st) (zF st) .none kV d h g b ct):=⟨⟨j,i,kV,d,h,g,b,ct,e,rfl,l,c⟩,k⟩
end
theorem ziv {A:Around}{k:Nat}(a:ww k A):A.units+1 < cLine:=j9 (u0y (by decide:1<=64) _) a.units
theorem YD {n:Nat}(h:n<=1000):n < sizeLine:=j9 h (by decide)
section
variable {X:Cx}
theorem pv (i:Nat) {x:Str} {b:Pos} (e:X.N[i]?=some x:=by rfl) (c:Vis X.env.scope x:=by first | exact Or.inl rfl | exact Or.inr (Or.inl rfl) | exact Or.inr (Or.inr rfl)) (d:(x == ("__debug__":Str))=false:=by decide)
 (a:(x == ("__classdict__":Str))=false:=by decide):PE X (.Name x b) (zb4 i):=zqj e c d a
end
def yU (H H':Hp):Prop:=∀ b o,H b=some o->H' b=some o
theorem yU.refl (H:Hp):yU H H:=λ_ _ h=>h
theorem yU.trans {H H1 H2:Hp}(a:yU H H1)(b:yU H1 H2):yU H H2:=λc o h=>b c o (a c o h)
theorem yU.free {H H':Hp}(e:yU H H'){l:Addr}(h:H' l=Option.none):H l=Option.none:=by
 cases q:H l with
 | none=>rfl
 | some o =>
  rw[e l o q]at h
  cases h
theorem yU.seq {K:W.Frag}{H H':Hp}{a:Addr}{b:List V}(e:yU H H')(h:SqL K H a b):SqL K H' a b:=by
 rcases h with (h | ⟨o,h⟩) | h
 .exact .inl (.inl (e _ _ h))
 .exact .inl (.inr ⟨o,e _ _ h⟩)
 .exact .inr h
section
variable {κ:Type}[DecidableEq κ]
def zeo (a:List (κ × V))(k:κ):Option V:=(a.find? λb=>decide (b.1=k)).map (·.2)
def zdM (a:List (κ × V))(k:κ)(v:V):List (κ × V) :=
 if (a.any λb=>decide (b.1=k))=true then a.map (λb=>if b.1=k then (b.1,v)else b)else a++[(k,v)]
theorem Wq {p:κ × V}{r:List (κ × V)}{k:κ}(e:p.1=k):zeo (p::r) k=some p.2:=by simp[zeo,u0F,e]
theorem WF {p:κ × V}{r:List (κ × V)}{k:κ}(e:¬ p.1=k):zeo (p::r) k=zeo r k:=by simp[zeo,u0F,e]
theorem zaZ (k:κ):∀ a:List (κ × V),(a.any λb=>decide (b.1=k))=(zeo a k).isSome
 | []=>rfl
 | p::r=>by
  rw[u1O]
  by_cases e:p.1=k
  .simp only[Wq e,q7 e,Bool.true_or,Option.isSome_some]
  .rw[WF e,j5 e,Bool.false_or];exact zaZ k r
theorem Vl (a:List (κ × V))(k:κ)(v:V):(zdM a k v).length<=a.length+1:=by
 unfold zdM
 split
 .rw[u8];omega
 .rw[j4,g0,u1X];omega
theorem zf7.isSome_eq {o:Option V}{u:Option Value}(r:zf7 o u):o.isSome=u.isSome:=by
 cases o with
 | none=>cases u with
  | none=>rfl
  | some _=>exact(show False from r).elim
 | some _=>cases u with
  | none=>exact(show False from r).elim
  | some _=>rfl
theorem KV.val {a:List (κ × V)}{f:List (κ × Value)}(r:KV a f)(k:κ):zf7 (zeo a k) (valueAt f k):=by
 unfold KV at r
 induction r with
 | nil=>exact True.intro
 | @cons p q l c h t i =>
  obtain⟨g,j⟩:=h
  by_cases e:p.1=k
  .have d:q.1=k:=g.symm.trans e
   have b:valueAt (q::c) k=some q.2:=by simp[valueAt,u0F,d]
   rw[Wq e,b];exact j
  .have d:¬ q.1=k:=λz=>e (g.trans z)
   have b:valueAt (q::c) k=valueAt c k:=by simp[valueAt,u0F,d]
   rw[WF e,b];exact i
theorem KV.any {a:List (κ × V)}{c:List (κ × Value)}(r:KV a c)(k:κ):(a.any λb=>decide (b.1=k))=c.any λb=>decide (b.1=k):=by
 unfold KV at r
 induction r with
 | nil=>rfl
 | cons h t d=>rw[u1O,u1O,d,h.1]
theorem KV.repl {b:List (κ × V)}{d:List (κ × Value)}(r:KV b d)(k:κ){y:V}{u:Value}(i:xt y u) :
 KV (b.map λa=>if a.1=k then (a.1,y)else a) (d.map λa=>if a.1=k then (a.1,u)else a):=by
 unfold KV at r ⊢
 induction r with
 | nil=>exact .nil
 | @cons p q l j h t f =>
  rw[r4,r4]
  refine .cons ?_ f
  obtain⟨c,g⟩:=h
  by_cases e:p.1=k
  .rw[t6 e,t6 (c.symm.trans e)];exact⟨c,i⟩
  .rw[t9 e,t9 (λz=>e (c.trans z))];exact⟨c,g⟩
theorem KV.put {a:List (κ × V)}{b:List (κ × Value)}(r:KV a b)(k:κ){y:V}{u:Value}(c:xt y u):KV (zdM a k y) (stored b k u):=by
 unfold zdM stored
 rw[r.any k]
 by_cases e:(b.any λd=>decide (d.1=k))=true
 .rw[t6 e,t6 e];exact r.repl k c
 .rw[t9 e,t9 e];exact Paired.snoc r ⟨rfl,c⟩
theorem KV.keys {a:List (κ × V)}{b:List (κ × Value)}(r:KV a b):a.map (·.1)=b.map (·.1):=by
 unfold KV at r
 induction r with
 | nil=>rfl
 | cons h t c=>rw[r4,r4,c,h.1]
theorem KV.length {a:List (κ × V)}{b:List (κ × Value)}(r:KV a b):a.length=b.length:=u1Q r
end
theorem ziM {P:Program}{w:World}{k:Key}{u:Value}(r:xt (kV k) u):(xu P w).is k u=true:=by
 cases k with
 | inl i=>obtain⟨t,e⟩:=(show ∃ t,u=Value.int i t from r);subst e;exact zdC P w i t
 | inr x=>obtain⟨t,e⟩:=(show ∃ t,u=Value.str x t from r);subst e;exact zd8 P w x t
theorem zbL {P:Program}{w:World}:∀ {a:List Key} {b:List Value},yZ (a.map kV) b->ItemsAre (xu P w) a b
 | [],_,r=>by rw[List.map_nil]at r;cases r;exact .nil
 | k::a,_,r=>by
  rw[r4]at r
  cases r with
  | cons h t=>exact .cons (ziM h) (zbL t)
abbrev KT (H:Hp):List (List Key × V)->List (List Key × Addr × Value)->Prop:=Paired λp q=>p.1=q.1/\H q.2.1=some (.tup (p.1.map kV))/\xt p.2 q.2.2
theorem KT.val {H:Hp}{a:List (List Key × V)}{f:List (List Key × Addr × Value)}(r:KT H a f)(k:List Key):zf7 (zeo a k) ((atKey f k).map (·.2)):=by
 induction r with
 | nil=>exact True.intro
 | @cons p q l c h t i =>
  obtain⟨g,_,j⟩:=h
  by_cases e:p.1=k
  .have d:q.1=k:=g.symm.trans e
   have b:atKey (q::c) k=some q.2:=by simp[atKey,u0F,d]
   rw[Wq e,b];exact j
  .have d:¬ q.1=k:=λz=>e (g.trans z)
   have b:atKey (q::c) k=atKey c k:=by simp[atKey,u0F,d]
   rw[WF e,b];exact i
theorem KT.repl {H:Hp}{a:List (List Key × V)}{f:List (List Key × Addr × Value)}(r:KT H a f)(k:List Key){y:V}{u:Value}(i:xt y u) :
 KT H (a.map λc=>if c.1=k then (c.1,y)else c) (f.map (putAt k u)):=by
 induction r with
 | nil=>exact .nil
 | @cons p q m l h t g =>
  rw[r4,r4]
  refine .cons ?_ g
  obtain⟨b,d,j⟩:=h
  unfold putAt
  by_cases e:p.1=k
  .rw[t6 e,t6 (b.symm.trans e)];exact⟨b,d,i⟩
  .rw[t9 e,t9 (λz=>e (b.trans z))];exact⟨b,d,j⟩
theorem KT.put {H:Hp}{a:List (List Key × V)}{c:List (List Key × Addr × Value)}(r:KT H a c)(k:List Key){b:Addr}{y:V}{u:Value}(g:H b=some (.tup (k.map kV)))(d:xt y u) :
 KT H (zdM a k y) (storedH c k b u):=by
 have e:(a.any λf=>decide (f.1=k))=(atKey c k).isSome:=by
  rw[zaZ,(r.val k).isSome_eq,u0M]
 unfold zdM storedH
 rw[e]
 by_cases q:(atKey c k).isSome=true
 .rw[t6 q,t6 q];exact r.repl k d
 .rw[t9 q,t9 q];exact Paired.snoc r ⟨rfl,g,d⟩
theorem KT.keeps {H H':Hp}{a:List (List Key × V)}{c:List (List Key × Addr × Value)}(r:KT H a c)(e:∀ b d,H b=some (.tup d)->H' b=some (.tup d)):KT H' a c :=
 Paired.mapP r λ_ _ z=>⟨z.1,e _ _ z.2.1,z.2.2⟩
section
variable {P:Program}{w:World}{H:Hp}{h:Heap}{a:Addr}
theorem zpJ {u:HO}(ok:HOk P w H h)(e:Rd H a u):yJ P w H h a u:=e.ok ok
theorem zjc {b:List (Key × V)}(ok:HOk P w H h)(e:Rd H a (.dK b)):b.length<=sizeLine/\(a == sysModules)=false/\∃ c,KV b c/\h.DictOf (xu P w) a c :=
 show yJ P w H h a (.dK b)from zpJ ok e
theorem zrk {b:List (Key × V)}(ok:HOk P w H h)(e:H a=some (.dK b)):b.length<=sizeLine/\(a == sysModules)=false/\∃ c,KV b c/\h.DictOf (xu P w) a c:=zjc ok (.inl e)
theorem zad {b:List Key}(ok:HOk P w H h)(e:H a=some (.tup (b.map kV))):(tupleKind (xu P w)).is h b a:=by
 obtain⟨_,c,r,o,d,g,n,f⟩:=(show yJ P w H h a (.tup (b.map kV))from ok a _ e)
 exact⟨o,c.toArray,n,d,g,f,by simpa using zbL r⟩
theorem zfm {b:List (List Key × V)}(ok:HOk P w H h)(e:Rd H a (.dT b)):b.length<=sizeLine/\(a == sysModules)=false /\
 ∃ d,KT H b d/\h.DictOfH (tupleKind (xu P w)) a d:=by
 obtain⟨z,y,d,r,o,A,j,s,n,u,i,v⟩:=(show yJ P w H h a (.dT b)from zpJ ok e)
 refine⟨z,y,d,r,o,A,j,s,n,u,i,λx c=>?_,v⟩
 have f:∀ {l:List (List Key × V)} {m:List (List Key × Addr × Value)},KT H l m->∀ x∈m,(tupleKind (xu P w)).is h x.1 x.2.1:=by
  intro l m q
  induction q with
  | nil=>intro x c;exact nomatch c
  | @cons p q C B g t k =>
   intro x c
   rcases q4.mp c with e | c
   .subst e
    exact zad ok (by rw[<-g.1];exact g.2.1)
   .exact k x c
 exact f r x c
theorem zqn {b:List (List Key × V)}(ok:HOk P w H h)(e:H a=some (.dT b)):b.length<=sizeLine/\(a == sysModules)=false /\
 ∃ c,KT H b c/\h.DictOfH (tupleKind (xu P w)) a c:=zfm ok (.inl e)
end
def znE (H:Hp)(a:Addr)(y:V)(r:Option V):Prop :=
 (∃ c k,Rd H a (.dK c)/\y=kV k/\r=zeo c k)\/∃ c k b,Rd H a (.dT c)/\y=.ref b/\H b=some (.tup (k.map kV))/\r=zeo c k
def zlf (H:Hp)(a:Addr)(y v:V)(H':Hp):Prop :=
 (∃ c k,H a=some (.dK c)/\y=kV k/\c.length < sizeLine/\H'=upd H a (.dK (zdM c k v))) \/
 ∃ c k b,H a=some (.dT c)/\y=.ref b/\H b=some (.tup (k.map kV))/\c.length < sizeLine/\H'=upd H a (.dT (zdM c k v))
theorem zlf.k {H:Hp}{a:Addr}{b:List (Key × V)}{k:Key}{v:V}(e:H a=some (.dK b))(c:b.length < sizeLine):zlf H a (kV k) v (upd H a (.dK (zdM b k v))):=.inl ⟨b,k,e,rfl,c,rfl⟩
theorem zlf.t {H:Hp}{a b:Addr}{c:List (List Key × V)}{k:List Key}{v:V}(e:H a=some (.dT c))(f:H b=some (.tup (k.map kV)))(d:c.length < sizeLine) :
 zlf H a (.ref b) v (upd H a (.dT (zdM c k v))):=.inr ⟨c,k,b,e,rfl,f,d,rfl⟩
section
variable {X:Cx}{pins:List (Addr × Obj)}{σ:St}{H:Hp}{s:Shared}{a:Addr}{y v:V}{u r:Value}{o:Option V}{A:Around}{E:Value->Shared->Prop}
theorem Inv.big (I:Inv X pins σ H s):sysModules < s.heap.objs.size:=by
 have h:mainGlobals < s.heap.objs.size:=(I.mod.glob.keeps I.bk).lt
 exact Nat.lt_trans (by decide) h
theorem zh3 {Q:Value->Shared->Prop}(w:A.units+1 < cLine)(I:Inv X pins σ H s)(g:znE H a y (some v))(q:xt y u)(h:∀ f n,Inv X pins σ H n->xt v f->Q f n) :
 wpAny (model X.prog X.w) A (getItem (.ref a) u) Q E s:=by
 rcases g with ⟨m,k,e,j,l⟩ | ⟨m,k,b,e,j,B,l⟩
 .subst j
  obtain⟨z,t,x,c,i⟩:=zjc I.hok e
  obtain⟨f,hw,d⟩:=zf7.some_of (v:=v) (o:=valueAt x k) (by rw[l];exact c.val k)
  exact wpAny_getItem_of (ziM q) i.mapOf hw (h f _ (I.tok _) d)
 .subst j
  cases (show u=Value.ref b from q)
  obtain⟨z,t,C,c,i⟩:=zfm I.hok e
  obtain⟨f,hw,d⟩:=zf7.some_of (v:=v) (o:=(atKey C k).map (·.2)) (by rw[l];exact c.val k)
  obtain⟨p,r,hp2⟩:=u9.mp hw
  refine wpAny_getItem_heap (u1i w) (zad I.hok B) i r ?_
  rw[hp2]
  exact h f _ (I.tok _) d
theorem d_in {Q:Value->Shared->Prop}(p:A.units+1 < cLine)(I:Inv X pins σ H s)(g:znE H a y o)(n:xt y u)(h:∀ m,Inv X pins σ H m->Q (.bool o.isSome) m) :
 wpAny (model X.prog X.w) A (compareOp .In u (.ref a)) Q E s:=by
 rcases g with ⟨j,k,e,f,l⟩ | ⟨j,k,b,e,f,r,l⟩
 .subst f
  obtain⟨z,i,t,c,d⟩:=zjc I.hok e
  refine wpAny_in_of (ziM n) i d.mapOf ?_
  rw[<-(c.val k).isSome_eq,<- l]
  exact h _ (I.tok _)
 .subst f
  cases (show u=Value.ref b from n)
  obtain⟨z,i,v,c,d⟩:=zfm I.hok e
  refine wpAny_in_heap (u1i p) (zad I.hok r) i d ?_
  have q:=(c.val k).isSome_eq
  rw[u0M]at q
  rw[<-q,<- l]
  exact h _ (I.tok _)
theorem zoi {Q:Value->Shared->Prop}(p:A.units+1 < cLine)(I:Inv X pins σ H s)(g:znE H a y o)(n:xt y u)(h:∀ m,Inv X pins σ H m->Q (.bool (!o.isSome)) m) :
 wpAny (model X.prog X.w) A (compareOp .NotIn u (.ref a)) Q E s:=by
 rcases g with ⟨j,k,e,f,l⟩ | ⟨j,k,b,e,f,r,l⟩
 .subst f
  obtain⟨z,i,t,c,d⟩:=zjc I.hok e
  refine wpAny_notIn_of (ziM n) i d.mapOf ?_
  rw[<-(c.val k).isSome_eq,<- l]
  exact h _ (I.tok _)
 .subst f
  cases (show u=Value.ref b from n)
  obtain⟨z,i,v,c,d⟩:=zfm I.hok e
  refine wpAny_notIn_heap (u1i p) (zad I.hok r) i d ?_
  have q:=(c.val k).isSome_eq
  rw[u0M]at q
  rw[<-q,<- l]
  exact h _ (I.tok _)
theorem zdb {c:Heap}{t':Nat}{ob:HO}(I:Inv X pins σ H s)(f:Mut (H a))(h:Heap.SameBut a s.heap c)(i:∃ q,c.get? a=some q)(d:yJ X.prog X.w (upd H a ob) c a ob) :
 Inv X pins σ (upd H a ob) { s with heap:=c,toks:=t' } :=
 I.write (x:=a) (e:=a) f (.inl rfl) (λb q g z=>(h.2 b g).trans z) i d
theorem zoP {P:Program}{w:World}{H':Hp}{e:Heap}{b:List (Key × V)}{d:List (Key × Value)}(z:b.length<=sizeLine)(g:(a == sysModules)=false)(c:KV b d)(f:e.DictOf (xu P w) a d) :
 yJ P w H' e a (.dK b):=⟨z,g,d,c,f⟩
theorem zjv {H':Hp}{Q:Unit->Shared->Prop}(L:A.units+1 < cLine)(I:Inv X pins σ H s)(g:zlf H a y v H')(J:xt y u)(B:xt v r)(h:∀ C,Inv X pins σ H' C->Q () C) :
 wpAny (model X.prog X.w) A (setItem (.ref a) u r) Q E s:=by
 rcases g with ⟨d,k,e,w,l,x⟩ | ⟨d,k,b,e,w,G,l,x⟩
 .subst w x
  obtain⟨z,o,M,f,m⟩:=zrk I.hok e
  have t:M.length<=sizeLine:=by rw[<-f.length];exact z
  have p:(zdM d k v).length<=sizeLine:=by have:=Vl d k v;omega
  refine wpAny_setItem_pairs (hsz:=t) (ziM J) m λD i n=>h _ ?_
  have R:∃ q,D.get? a=some q:=let ⟨q,_,_,j,_⟩:=i;⟨q,j⟩
  exact zdb I (by rw[e];exact True.intro) n R (zoP p o (f.put k B) i)
 .subst w x
  cases (show u=Value.ref b from J)
  obtain⟨z,o,T,f,m⟩:=zqn I.hok e
  have t:T.length<=sizeLine:=by rw[<-u1Q f];exact z
  have p:(zdM d k v).length<=sizeLine:=by have:=Vl d k v;omega
  refine wpAny_setItem_heap (hsz:=t) (u1i L) (zad I.hok G) m λD i n=>h _ ?_
  obtain⟨q,U,K,j,S,N,P,_,O⟩:=i
  refine zdb I (by rw[e];exact True.intro) n ⟨q,j⟩ ⟨p,o,_,(f.put k G B).keeps λc V F=>?_,q,U,K,j,S,N,P,O⟩
  rw[zu (zop F e (λz=>nomatch z))]
  exact F
end
def zr2 (i:Expr):Prop:=∀ a b,subscripted i false a b=operate [a,b] (getItem a b)
theorem znU {a:Program}{w:World}{A:Around}{E:Value->Shared->Prop}{s:Shared}{env:Env}{c b:Expr}{f:Pos}{T id:String}{Q:Value->Shared->Prop}
 (m:typeLookup (.type T) "__getitem__"=pure (some (.builtin id))) (l:zr2 b)
 (h:wpAny (model a w) A (eval c env) (λo k=>wpAny (model a w) A (eval b env) (λi d=>d.TypeIs o T/\wpAny (model a w) A (getItem o i) Q E d) E k) E s) :
 wpAny (model a w) A (eval (.Subscript c b f) env) Q E s:=by
 refine Subscript_ (o8 h (λo k p=>o8 p (λi d e=>?_) λ_ _ x=>x) λ_ _ x=>x)
 obtain⟨g,e⟩:=e
 unfold subscriptTail
 refine u0 ?_
 rw[getitemInPython_of_ne g.not_modules]
 refine u0 (u14 g m ?_)
 have fin:wpAny (model a w) A (subscripted b false o i) (λr j=>wpAny (model a w) A (letTemporaryGo c o r>>=λ_=>pure r) Q E j) E d:=by
  rw[l o i]
  exact wpAny_operating (o8 e (λr j n=>u0 (wpAny_letTemporaryGo (u6 n))) λ_ _ x=>x)
 first
  | exact u6 (u0 fin)
  | exact u0 (u6 (u0 fin))
  | exact u0 fin
theorem zdq {X:Cx} {c:List (Addr × Obj)} {σ:St} {H:Hp} {s:Shared} {a:Addr} {y:V} {o:Option V} (I:Inv X c σ H s) (g:znE H a y o):s.TypeIs (.ref a) "dict":=by
 rcases g with ⟨f,k,e,_,_⟩ | ⟨f,k,b,e,_,_,_⟩
 .obtain⟨_,_,h,_,d⟩:=zjc I.hok e
  exact d.typeIs
 .obtain⟨_,_,i,_,d⟩:=zfm I.hok e
  exact d.typeIs
def zrh (b ty:TE):TE:=fun σ H Q=>b σ H λx H1=>ty σ H1 λy H2=>∃ a v,x=.ref a/\znE H2 a y (some v)/\Q v H2
def zq3 (c ty b:TE):TS:=λD σ H=>b σ H λv H1=>c σ H1 λx H2=>ty σ H2 λy H3=>∃ a H4,x=.ref a/\zlf H3 a y v H4/\D.nx σ H4
section
variable {X:Cx}{o i e value:Expr}{pos pos' tpos:Pos}{td ty tv:TE}
theorem zna (j:X.A.units+1 < cLine)(p:PE X o td)(m:PE X i ty)(f:zr2 i):PE X (.Subscript o i pos) (zrh td ty):=by
 intro b s σ H Q I h
 refine znU PySem.F.slot_dict_getitem.lookup f (thn (p b s σ H _ I h) λu d ⟨x,H1,I1,e,n⟩=>thn (m b d σ H1 _ I1 n) λt q hh9=>?_)
 obtain⟨y,H2,I2,l,a,v,ex,g,k⟩:=hh9
 subst ex
 obtain rfl:u=Value.ref a:=e
 exact⟨zdq I2 g,zh3 j I2 g l λw r I3 c=>⟨v,H2,I3,c,k⟩⟩
theorem zmZ (j:X.A.units+1 < cLine)(m:PE X o td)(w:PE X i ty)(n:PE X value tv)(f:swapsWith value (some (.Subscript o i pos')) pos.line X.env=pure false) :
 PS X (.Assign [.Subscript o i pos'] value pos) (zq3 td ty tv):=by
 intro b s σ H D I h
 refine wpAny_Assign_Subscript (thn (n b s σ H _ I h) λr p ⟨v,H1,I1,d,l⟩=>thn (m b p σ H1 _ I1 l) λu q ⟨x,H2,I2,c,k⟩=>thn (w b q σ H2 _ I2 k) λB z hh9=>?_) f
 obtain⟨y,H3,I3,t,a,H4,ex,g,e⟩:=hh9
 subst ex
 obtain rfl:u=Value.ref a:=c
 exact zjv j I3 g t d λA I4=>⟨σ,H4,I4,e⟩
end
theorem zkx {P:Program} {w:World} {H:Hp} (h:Heap) (a:sysModules < h.objs.size):yJ P w H (h.push { cls:=.type "dict",data:=.dict #[] }) h.objs.size (.dK []) :=
 ⟨o5 _,p3.mpr (u0b (q5 a)),[],.nil,Heap.DictOf.new h⟩
theorem ze5 {P:Program} {w:World} {H:Hp} (h:Heap) (a:sysModules < h.objs.size):yJ P w H (h.push { cls:=.type "dict",data:=.dict #[] }) h.objs.size (.dT []) :=
 ⟨o5 _,p3.mpr (u0b (q5 a)),[],.nil,_,#[],0,q2 _ rfl,⟨rfl,rfl,rfl⟩,rfl,rfl,List.nodup_nil⟩
def zqg:TE:=λ_ H Q=>∀ p,H p=none->Q (.ref p) (upd H p (.dK []))
def zpl:TE:=λ_ H Q=>∀ p,H p=none->Q (.ref p) (upd H p (.dT []))
section
variable {X:Cx}{pos:Pos}
theorem zkV:PE X (.Dict [] [] pos) zqg:=λb s σ H Q I h =>
 wpAny_Dict_empty ⟨.ref s.heap.objs.size,_,I.laid (a:=s.heap.objs.size) (o:=.dK []) (t':=s.toks) (λ_ _ q=>u5 _ q) (t4 _) (zkx s.heap I.big),rfl,h _ (I.hok.fresh (t4 _))⟩
theorem zlx:PE X (.Dict [] [] pos) zpl:=λb s σ H Q I h =>
 wpAny_Dict_empty ⟨.ref s.heap.objs.size,_,I.laid (a:=s.heap.objs.size) (o:=.dT []) (t':=s.toks) (λ_ _ q=>u5 _ q) (t4 _) (ze5 s.heap I.big),rfl,h _ (I.hok.fresh (t4 _))⟩
end
theorem zd5 {X:Cx}:vN X (.builtin "isinstance") (λa H Q=>∃ x n t b,a=[x,.ty n]/\zel X.K H x t/\W.kitOne X.K t (.type n)=some b/\Q (.bl b) H):=by
 intro c s σ H a g Q I r h
 obtain⟨x,n,t,b,rfl,ty,e,q⟩:=h
 obtain⟨u,f,rfl,d,rt⟩:=zmP r
 cases (show f=Value.type n from rt)
 exact zii I d ty e λi=>⟨.bl b,H,I.tok _,rfl,q⟩
theorem zkf {X:Cx}:OpR X (compareOp .Is) (λx y H Q=>∃ i j,x=.bl i/\y=.bl j/\Q (.bl (i == j)) H):=by
 intro a s σ H x y v u Q I b c h
 obtain⟨i,j,rfl,rfl,q⟩:=h
 cases b
 cases c
 refine wpAny_is_plain (by rfl) ⟨.bl (i == j),H,I,?_,q⟩
 cases i <;> cases j <;> rfl
theorem zeg {X:Cx}:OpR X (compareOp .IsNot) (λx y H Q=>∃ i j,x=.bl i/\y=.bl j/\Q (.bl (!(i == j))) H):=by
 intro a s σ H x y v u Q I b c h
 obtain⟨i,j,rfl,rfl,q⟩:=h
 cases b
 cases c
 refine wpAny_isNot_plain (by rfl) ⟨.bl (!(i == j)),H,I,?_,q⟩
 cases i <;> cases j <;> rfl
def zmd (K:W.Frag):R2:=λx y H Q=>∃ a b c d,x=.ref a/\y=.ref b/\SqT K H a c/\SqT K H b d/\c.length+d.length<=sizeLine /\
 (c=[]->Q (.ref b) H)/\(c≠[]->d=[]->Q (.ref a) H)/\(c≠[]->d≠[]->∀ p,H p=none->Q (.ref p) (upd H p (.tup (c++d))))
theorem zkr {X:Cx}:OpR X (binaryOp .Add) (zmd X.K):=by
 intro i s σ H x y v u Q I o D h
 obtain⟨a,b,C,G,rfl,rfl,t,B,K,F,L,J⟩:=h
 by_cases j:C=[]
 .subst j
  cases o
  cases D
  obtain⟨P,r,p,_⟩:=I.tuple t
  obtain⟨d,R,M,_⟩:=I.tuple B
  cases r
  obtain⟨⟨cls,E,data,N⟩,A,q,n,w⟩:=id p
  obtain⟨⟨z,m,k,l⟩,f,c,O,g⟩:=id M
  simp only at q w c g
  subst q w c g
  exact concat_meets ⟨_,A,rfl⟩ ⟨_,f,rfl⟩ noFill_tuple_add seq_tuple_add u1p u1h (u05 _ _)
   (tuple_addW0 a b #[] d.toArray n O E m N l rfl) ⟨A,f,⟨.ref b,H,I,rfl,F rfl⟩⟩
 .refine zmR i s σ H (.ref a) (.ref b) v u Q I o D ⟨a,b,C,G,rfl,rfl,t,B,j,K,?_⟩
  exact⟨λe=>L j e,λe=>J j e⟩
inductive Zr:St->St->Prop where
 | nil:Zr [] []
 | non {a:Option V} {s t:St}:Zr s t->Zr (none::s) (a::t)
 | same {a:Option V} {s t:St}:Zr s t->Zr (a::s) (a::t)
theorem Zr.refl:∀ s:St,Zr s s
 | []=>.nil
 | _::r=>.same (Zr.refl r)
theorem Zr.length {s t:St}(h:Zr s t):s.length=t.length:=by
 induction h with
 | nil=>rfl
 | non _ a=>simp[a]
 | same _ a=>simp[a]
theorem Zr.get {s t:St}(h:Zr s t):∀ (i:Nat) (v:V),s[i]?=some (some v)->t[i]?=some (some v):=by
 induction h with
 | nil=>intro i v e;exact e
 | non _ a =>
  intro i v e
  cases i with
  | zero=>simp at e
  | succ i=>simpa using a i v (by simpa using e)
 | same _ a =>
  intro i v e
  cases i with
  | zero=>simpa using e
  | succ i=>simpa using a i v (by simpa using e)
theorem Zr.set {n:Nat}{v:V}:∀ {s t:St},Zr s t->s[n]?=some none->Zr s (t.set n (some v))
 | _,_,.nil,_=>.nil
 | _,_,.non (a:=a) h,e=>by
  cases n with
  | zero=>exact .non h
  | succ n=>exact .non (Zr.set h (by simpa using e))
 | _,_,.same (a:=a) h,e=>by
  cases n with
  | zero =>
   have b:a=none:=by simpa using e
   subst b
   exact .non h
  | succ n=>exact .same (Zr.set h (by simpa using e))
theorem Inv.sub {X:Cx}{a:List (Addr × Obj)}{σ b:St}{H:Hp}{s:Shared}(I:Inv X a σ H s)(h:Zr b σ):Inv X a b H s:=I.weak h.length h.get
def PIf (X:Cx)(b:List Expr)(t:TT):Prop :=
 ∀ (a:List (Addr × Obj)) (s:Shared) (σ:St) (H:Hp) (Q:Bool->Hp->Prop),Inv X a σ H s->t σ H Q ->
  wpAny (model X.prog X.w) X.A (forIn b true λc r=>if r=true then do let ok<-isTrue c X.env (eval c X.env);pure (ForInStep.yield ok)else pure (ForInStep.yield r)) (TP X a σ Q) X.xe s
def tYes:TT:=λ_ H Q=>Q true H
theorem zmU {X:Cx}:PIf X [] tYes:=by
 intro a s σ H Q I h
 rw[u2k]
 exact u6 ⟨H,I,h⟩
theorem zdE {X:Cx}{c:Expr}{t:TT}(d:PT X c t):PIf X [c] t:=by
 intro a s σ H Q I h
 rw[u2Y]
 refine u0 ?_
 rw[t6 rfl]
 refine u0 (thn (d a s σ H Q I h) λb e q=>u6 ?_)
 show wpAny _ _ (forIn [] b _) _ _ _
 rw[u2k]
 exact u6 q
section
variable {prog:Program}{w:World}{A:Around}{R:Result->Shared->Prop}{s:Shared}
theorem wK {f a e:Expr}{g:List Expr}{b:Scope}{k:Pos}{l i:Value}{env:Env}(I:Nat->Shared->Prop)
 (turn:∀ n s,I n s->wpAny (model prog w) A (pyNext l) (λr q=>match r with
  | none=>R (.ok .next) q
  | some v=>wpAny (model prog w) A (letOwnedTupleGo a l v) (λ_ j=>wpAny (model prog w) A (assign a env v) (λ_ y =>
   wpAny (model prog w) A (forIn g true λc r=>if r=true then do let ok<-isTrue c env (eval c env);pure (ForInStep.yield ok)else pure (ForInStep.yield r)) (λok o =>
    if ok=true then wpAny (model prog w) A (eval f env) (λx t =>
     wpAny (model prog w) A (call (.builtin "list.append") [i,x]) (λ_ z=>∃ m,m < n/\I m z) (λ_ _=>False) t) (λ_ _=>False) o
    else ∃ m,m < n/\I m o) (λ_ _=>False) y) (λ_ _=>False) j) (λ_ _=>False) q) (λ_ _=>False) s)
 (n:Nat) (h:I n s) :
 codeAny (model prog w) A (.compLoop (.ListComp f [⟨a,e,g,0⟩] b k) 0 l i env) R s:=by
 refine codeAny_loop rfl I (λn s E=>?_) n h
 show wpAny _ A ((compTurn (.ListComp f [⟨a,e,g,0⟩] b k) 0 l i env).onRaise (λx=>do noteFrame x env;theTreesLotGoes x)) _ _ s
 refine wpAny_noted ?_
 rw[compTurn_list]
 refine u0 (u1l (u0 (o8 (turn n s E) (λr q B=>?_) λ_ _ d=>d.elim)))
 cases r with
 | none=>exact u6 B
 | some v =>
  refine u0 (o8 B (λ_ j p=>?_) λ_ _ d=>d.elim)
  refine u0 (o8 p (λ_ y D=>u0 (o8 D (λok o u=>?_) λ_ _ d=>d.elim)) λ_ _ d=>d.elim)
  cases ok with
  | false=>exact u6 ⟨rfl,u⟩
  | true =>
   exact u0 (u0 (o8 u (λx t F=>u0 (o8 F (λ_ z C=>u6 (u6 ⟨rfl,C⟩)) λ_ _ d=>d.elim)) λ_ _ d=>d.elim))
end
def tLC (h:TI)(n:Nat)(g:TG)(f:TT)(e:TE):TE:=fun σ H Q=>h σ H λJ H1=>∀ D,H1 D=none->∃ W:Nat->Nat->List V->Hp->Prop,(∃ m,W 0 m [] (upd H1 D (.lst []))) /\
 ∀ i m a H2,W i m a H2->(J.stop i H2/\Q (.ref D) H2)\/(J.go i H2/\a.length < sizeLine/\∀ x H3,J.yld i H2 x H3->g x (List.replicate n none++σ) H3 λd H4=>f d H4 λb H5 =>
  if b=true then e d H5 λy H6=>H6 D=some (.lst a)/\∃ c,c < m/\W (i+1) c (a++[y]) (upd H6 D (.lst (a++[y])))else ∃ c,c < m/\W (i+1) c a H5)
theorem vj {α:Type}:∀ {l:List (Str × α)} {y:Str},y∈l.map Prod.fst->∃ c,l.lookup y=some c
 | [],_,h=>by simp at h
 | (k,v)::r,y,h=>by
  by_cases e:y=k
  .exact⟨v,by simp[List.lookup,e]⟩
  .obtain⟨c,b⟩:=vj (l:=r) (y:=y) (by simpa [e]using h)
   have a:(y == k)=false:=p3.mpr e
   exact⟨c,by simp only[List.lookup,a];exact b⟩
theorem wk {α:Type}{P:α->Prop}:∀ p∈([]:List α),P p:=λ_ h=>nomatch h
theorem all_cons {α:Type}{P:α->Prop}{a:α}{l:List α}(h:P a)(t:∀ p∈l,P p):∀ p∈a::l,P p:=λp b=>by
 rcases q4.mp b with e | b
 .rw[e];exact h
 .exact t p b
theorem gs1 (σ:St)(v:V)(H:Hp)(Q:St->Hp->Prop)(h:VZ 0 v (List.replicate 1 none++σ) H Q):VZ 0 v (List.replicate 1 none++σ) H (λa H2=>Zr (List.replicate 1 none++σ) a/\Q a H2):=⟨.set (.refl _) rfl,h⟩
def Wc (X:Cx)(L M:List Str)(a:Scope)(b:List (Str × Addr))(s₀:Shared)(H₀:Hp)(ex:List Addr)(pn:List (Addr × Obj)):Cx :=
 { X with N:=L++M,s₀:=s₀,H₀:=H₀,env:=compEnvC a b s₀.heap.objs.size X.env,outer:=X.stack,stack:=X.stack,ex:=ex,fn:=λ_=>false,pn:=pn,xe:=λ_ _=>False }
structure xV (X:Cx) (L M:List Str) (scope:Scope) (cl:List (Str × Addr)):Prop where
 clos:closureFor scope X.env=pure cl
 cell:∀ y∈scope.names,y.2≠.cell
 kind:scope.kind=.function
 names:∀ y∈scope.names,y.2=.local->scope.names.lookup y.1=some .local
 sub:∀ y c,cl.lookup y=some c->X.env.cells.lookup y=some c
 has:∀ y,((relabel scope X.env).names.lookup y=some .cell\/(relabel scope X.env).names.lookup y=some .free)->∃ c,cl.lookup y=some c
 mlen:M.length=X.N.length
 msk:∀ (i:Nat) y,M[i]?=some y->Vis (relabel scope X.env) y->X.N[i]?=some y
 vis:∀ (i:Nat) y,M[i]?=some y->Vis (relabel scope X.env) y->((relabel scope X.env).names.lookup y=some .cell\/(relabel scope X.env).names.lookup y=some .free)
 out:∀ (i:Nat) y,M[i]?=some y->Vis (relabel scope X.env) y->Vis X.env.scope y/\X.env.kindOf y≠some .local
theorem Inv.letGo {X:Cx}{a:List (Addr × Obj)}{σ:St}{H:Hp}{s:Shared}{C:Addr}{i:Heap}(I:Inv X a σ H s)(f:zc3 X a H C)(g:Heap.SameBut C s.heap i):Inv X a σ H { s with heap:=i }:=by
 obtain⟨k,r,w,u,p,t⟩:=f
 have h:∀ b,b∉[C]->b≠C:=λb j z=>j (by rw[z];exact t7.mpr rfl)
 refine I.call' (s':={ s with heap:=i }) (ch:=[C]) rfl ⟨λb o e _ _ d=>(g.2 b (h b d)).trans e,λb o e _ _ d=>⟨o.slots,(g.2 b (h b d)).trans e⟩,λ_ _ _ n _=>n,λb o e d=>⟨o,(g.2 b (h b d)).trans e⟩,λ_ _ q=>q,λ_ _ _ q=>q,λ_ x q=>⟨#[],by rw[q];simp⟩⟩ ?_ I.bare λb j=>?_
 .intro b l e
  refine(I.hok b l e).stay (λc v m q=>(g.2 c ?_).trans q) (λ_ q=>q) λ_ _ q=>q
  rintro rfl
  rcases m with z | z
  .rw[<-z,k]at e;cases e
  .rw[k]at z;cases z
 .rw[t7.mp j]
  exact⟨u,r,p,t⟩
theorem ziR {use:Option (Value->Sem Unit)}{Qf:Value->Shared->Prop}{X:Cx}{b0 tg t:Expr}{a7:List Expr}{L M:List Str}{a:Scope}{cl:List (Str × Addr)}{c0:Pos}{wi:TI}{g:TG}{tt:TT}{te:TE}
 (hc:X.calm=true) (S:xV X L M a cl) (hi:PI X tg t wi)
 (d7:∀ (σ:St) (v:V) (H:Hp) (Q:St->Hp->Prop),g v (List.replicate L.length none++σ) H Q->g v (List.replicate L.length none++σ) H (fun σ2 H2=>Zr (List.replicate L.length none++σ) σ2/\Q σ2 H2))
 (hg:∀ s₀ H₀ ex pn,PG (Wc X L M a cl s₀ H₀ ex pn) tg g) (ht:∀ s₀ H₀ ex pn,PIf (Wc X L M a cl s₀ H₀ ex pn) a7 tt) (he:∀ s₀ H₀ ex pn,PE (Wc X L M a cl s₀ H₀ ex pn) b0 te)
 (hs:∀ x,foldedSetIterable t X.env x=pure x:=by intro _;rfl) :
 ∀ (P:Pos) (f:List (Addr × Obj)) (s:Shared) (σ:St) (H:Hp) (Q:VK),Inv X f σ H s->tLC wi L.length g tt te σ H Q ->
  (∀ (D C:Addr) (H':Hp) (E:Shared),Inv X f σ H' E->(∃ m,E.heap.Ns C m)->zc3 X f H' C->Q (.ref D) H'->compPost (model X.prog X.w) X.A X.xe use Qf (.ref D) C (.ok .next) E) ->
  wpAny (model X.prog X.w) X.A (comprehension (.ListComp b0 [⟨tg,t,a7,0⟩] a c0) a X.env P (newList []) false (eval t X.env) use) Qf X.xe s:=by
 intro P f s σ H Q I h fin
 refine u07 (use:=use) rfl hs S.clos S.kind S.names (thn (hi f s σ H _ I h) λv s1 h1=>thn h1 λe8 l h2=>?_)
 obtain⟨it,F,tn,J,H2,e,I2,T,b6,f2,q⟩:=h2
 subst e
 have hD:H2 l.heap.objs.size=none:=I2.hok.fresh (t4 _)
 obtain⟨W,⟨m0,w0⟩,turn⟩:=q _ hD
 refine n6 (wpAny_newFunctionEnv S.cell (by intro y hy;simp at hy) (λh₁ Z O=>?_) S.kind)
 have I3:Inv X f σ (upd H2 l.heap.objs.size (.lst [])) { l with heap:=l.heap.push { cls:=.type "list",data:=.seq ([]:List Value).toArray } }:=by
  refine I2.laid (t':=l.toks) (λb u e=>u5 _ e) (t4 _) ?_
  exact⟨o5 _,[],0,.nil,q2 _ rfl⟩
 generalize c1:({ l with heap:=l.heap.push { cls:=.type "list",data:=.seq ([]:List Value).toArray } }:Shared)=s3 at I3 Z O ⊢
 have N:∀ b∈F,b < l.heap.objs.size:=λb j=>by
  obtain⟨o,ho,_⟩:=T.obj _ _ b6 b j
  exact t3 ho
 have e4:s3.heap.objs.size=l.heap.objs.size+1:=by rw[<-c1];exact s0 ..
 have d4:∀ b o,l.heap.get? b=some o->s3.heap.get? b=some o:=λb o e=>by rw[<-c1];exact u5 _ e
 have w:∀ b o,s3.heap.get? b=some o->h₁.get? b=some o:=λb o e=>(O.2 b (q5 (t3 e))).trans (u5 _ e)
 generalize d2:upd H2 l.heap.objs.size (.lst [])=H3 at I3 w0
 have b7:∀ b∈F,H3 b=none:=λb j=>by
  rw[<-d2,zu (q5 (N b j))]
  exact(f2 b j).1
 have b9:∀ b∈F,b∉frs X.stack:=λb j z=>by
  obtain⟨_,n1,n2,_⟩:=f2 b j
  rcases q4.mp (I3.stkSub b z)with e | e
  .exact n1 e
  .exact n2 e
 let Y:Cx:=Wc X L M a cl s3 H3 F (X.pn++f)
 have OkY:Y.Ok:=by
  refine⟨I.ok.mod,S.kind,I.ok.glob,I.ok.blt,t4 _,λx y c h1 h2=>I.ok.inj x y c (S.sub x c h1) (S.sub y c h2),λx hx=>S.has x hx,(λx c h _=>absurd h u7),I.ok.hd,I.ok.frames,.inl rfl,λb j=>⟨?_,λx c e z=>?_⟩,
   λb o e=>I3.bs b o e,k8 I.ok.bsz I3.sz,λb o e j=>?_,b9,I3.stack,I3.stkFree⟩
  .show b≠s3.heap.objs.size
   exact q5 (t8 (N b j) (by rw[e4];exact u0h _))
  .exact(f2 b j).2.2.2.2.1 x c (S.sub x c e) z
  .rcases(f2 b j).2.2.2.1 with z | z
   .exact I.ok.noex b o e z
   .have h1:=t3 e
    have h2:=I.ok.bsz
    exact absurd (t8 h1 (k8 h2 z)) (l7 _)
 have I4:Inv Y [] (List.replicate L.length none++σ) H3 { s3 with heap:=h₁,toks:=s3.toks+([]:List (Str × Value)).length }:=by
  refine⟨OkY,rfl,I3.bare,Un.kept w,⟨_,Z,λi y v e1 e2 e3=>?_⟩,λx c e=>?_,I3.hok.fresh (t4 _),λx c e=>I3.freeC x c (S.sub x c e),λp hp=>?_,I3.hok.kept w,?_⟩
  .have hi:¬ i < L.length:=λe7=>by
    rw[m6 (by simpa using e7),l5]at e2
    split at e2 <;> cases e2
   have a0:M[i - L.length]?=some y:=by
    have e1:(L++M)[i]?=some y:=e1
    rw[p0 (by omega)]at e1
    exact e1
   have d5:σ[i - L.length]?=some (some v):=by rw[p0 (by simpa using m4 hi)]at e2;simpa using e2
   have d1:=S.msk _ y a0 e3
   obtain⟨ov,ok⟩:=S.out _ y a0 e3
   obtain⟨m,hn,hl⟩:=I3.loc
   obtain⟨u,ru,lk⟩:=hl _ y v d1 d5 ov
   refine⟨u,ru,?_⟩
   rcases lk with ⟨hk,_⟩ | ⟨_,c,d9,a9⟩
   .exact absurd hk ok
   .have kn:=S.vis _ y a0 e3
    obtain⟨c',c8⟩:=S.has y kn
    have:=S.sub y c' c8
    rw[d9]at this
    cases this
    refine .inr ⟨kn,c,c8,?_⟩
    obtain⟨o,ho,hd⟩:=a9
    exact⟨o,w _ _ ho,hd⟩
  .obtain⟨v,o,ho,hd⟩:=I3.cell x c (S.sub x c e)
   exact⟨v,o,w _ _ ho,hd⟩
  .have a8:p∈X.pn++f:=o9 (X.pn++f) ▸ hp
   obtain⟨a1,a2,a3,a4,a5⟩:=I3.pin p a8
   refine⟨w _ _ a1,a2,q5 (t3 a1),λz=>?_,a5⟩
   rcases q4.mp (I3.stkSub p.1 z)with e | e
   .exact a3 e
   .exact a4 e
  .show(List.replicate L.length none++σ).length=(L++M).length
   rw[j4,j4,i8,I.len,S.mlen]
 have b4:∀ {H':Hp},(∀ b∈F,H' b=none)->∀ b∈F,zc3 Y [] H' b:=λ{H'} hn b j=>by
  refine⟨hn b j,(OkY.exf b j).1,b9 b j,.inl j,(OkY.exf b j).2,λp hp=>?_⟩
  have a8:p∈X.pn++f:=o9 (X.pn++f) ▸ hp
  exact(f2 b j).2.2.2.2.2 p a8
 have b8:tn 0 h₁:=T.keep _ _ _ b6 λb j o e=>w b o (d4 b o e)
 -- behind the B
 have c5:∀ (H':Hp) (E:Shared),Inv Y [] (List.replicate L.length none++σ) H' E->Q (.ref l.heap.objs.size) H'->compPost (model X.prog X.w) X.A X.xe use Qf (.ref l.heap.objs.size) s3.heap.objs.size (.ok .next) E:=λH' E J' q'=>by
  obtain⟨m,hn,_⟩:=J'.loc
  refine fin _ _ H' E (I3.call' (ch:=F) J'.os J'.base J'.hok J'.bare λb j=>?_) ⟨m,hn⟩ (I3.fpOk (t4 _) J'.free) q'
  obtain⟨_,n1,_,n3,n4,n5⟩:=f2 b j
  exact⟨n3,n1,n4,n5⟩
 have B:codeAny (model X.prog X.w) X.A (.compLoop (.ListComp b0 [⟨tg,t,a7,0⟩] a c0) 0 (.ref it) (.ref l.heap.objs.size) (compEnvC a cl s3.heap.objs.size X.env))
  (compPost (model X.prog X.w) X.A X.xe use Qf (.ref l.heap.objs.size) s3.heap.objs.size) { s3 with heap:=h₁,toks:=s3.toks+([]:List (Str × Value)).length }:=by
  refine wK (λn E=>∃ i G H',Inv Y [] (List.replicate L.length none++σ) H' E/\tn i E.heap/\(∀ b∈F,H' b=none)/\W i n G H') ?_ m0 ⟨0,[],H3,I4,b8,b7,w0⟩
  rintro n s5 ⟨i,G,H5,I5,c2,b5,w5⟩
  rcases turn i n G H5 w5 with ⟨c4,qn⟩ | ⟨go,c3,step⟩
  .refine thn (T.done Y rfl rfl rfl hc i [] s5 _ H5 _ I5 (b4 b5) c2 c4) λr s6 hh9=>?_
   obtain⟨hr,I6⟩:=hh9
   subst hr
   exact c5 H5 s6 I6 qn
  .refine thn (T.item Y rfl rfl rfl hc i [] s5 _ H5 _ I5 (b4 b5) c2 go) λr s6 hh9=>?_
   obtain⟨u,hr,h6⟩:=hh9
   subst hr
   refine thn h6 λ_ s7 hh9=>?_
   obtain⟨x,H7,I7,r7,y7,a6,d3⟩:=hh9
   have I7':=I7.pinned (b4 d3) (T.obj _ _ a6)
   have g7:=d7 σ x H7 _ (step x H7 y7)
   refine thn (hg _ _ _ _ _ s7 _ H7 x u _ I7' r7 g7) λ_ s8 hh9=>?_
   obtain⟨σ8,H8,I8,R,q8⟩:=hh9
   have again:∀ {σ9:St} {H9:Hp} {s9:Shared} {zs:List V},Inv Y ([]++XH F s7.heap) σ9 H9 s9->Zr (List.replicate L.length none++σ) σ9->(∃ m',m' < n/\W (i+1) m' zs H9) ->
    ∃ m,m < n/\∃ i G H',Inv Y [] (List.replicate L.length none++σ) H' s9/\tn i s9.heap/\(∀ b∈F,H' b=none)/\W i m G H':=λ{σ9 H9 s9 zs} I9 sub9 w9=>by
    obtain⟨m',hm,w9⟩:=w9
    refine⟨m',hm,i+1,zs,H9,(I9.sub sub9).unpinned,T.keep _ _ _ a6 λb j o e=>(I9.pin (b,o) (k7 _ (k7 _ (wm j e)))).1,λb j=>?_,w9⟩
    obtain⟨o,e,d⟩:=T.obj _ _ a6 b j
    exact(I9.pin (b,o) (k7 _ (k7 _ (wm j e)))).2.1
   refine thn (ht _ _ _ _ _ s8 σ8 H8 _ I8 q8) λb s9 hh9=>?_
   obtain⟨H9,I9,q9⟩:=hh9
   cases b with
   | false =>
    rw[t9 u7]at q9
    rw[t9 u7]
    exact again I9 R q9
   | true =>
    rw[t6 rfl]at q9
    rw[t6 rfl]
    refine thn (he _ _ _ _ _ s9 σ8 H9 _ I9 q9) λy K hh9=>?_
    obtain⟨yv,H10,I10,d6,U,e0⟩:=hh9
    obtain⟨d8,A,k,rv,e6⟩:G.length<=sizeLine/\∃ (A:List Value) (n:Nat),yZ G A/\K.heap.get? l.heap.objs.size=some { cls:=.type "list",data:=.seq A.toArray n }:=I10.hok _ _ U
    have c6:K.heap.PlainList l.heap.objs.size A.toArray:=⟨k,e6⟩
    refine wpAny_list_append_plain (hsz:=by rw[t5,<- rv.length];exact d8) c6 λe5 d0 c9=>?_
    obtain⟨k',c7⟩:=d0
    have I11:Inv Y ([]++XH F s7.heap) σ8 (upd H10 l.heap.objs.size (.lst (G++[yv]))) { K with heap:=e5 }:=by
     refine I10.write (x:=l.heap.objs.size) (e:=l.heap.objs.size) (t':=K.toks) (by rw[U];exact True.intro) (.inl rfl) (λb u j e=>(c9.2 b j).trans e) ⟨_,c7⟩ ?_
     refine⟨by rw[j4];show G.length+1<=sizeLine;exact c3,A++[y],k',rv.append (.cons d6 .nil),?_⟩
     rw[c7]
     simp
    exact again I11 R e0
 exact codeAny_compStart_list B (T.self _ 0 _ _ _ b8 B)
theorem zlY {X:Cx}{c j b:Expr}{d:List Expr}{L M:List Str}{a:Scope}{i:List (Str × Addr)}{k:Pos}{n:TI}{g:TG}{p:TT}{o:TE}
 (B:X.calm=true) (S:xV X L M a i) (y:PI X j b n)
 (l:∀ (σ:St) (v:V) (H:Hp) (Q:St->Hp->Prop),g v (List.replicate L.length none++σ) H Q->g v (List.replicate L.length none++σ) H (λr H2=>Zr (List.replicate L.length none++σ) r/\Q r H2))
 (E:∀ s₀ H₀ ex pn,PG (Wc X L M a i s₀ H₀ ex pn) j g) (z:∀ s₀ H₀ ex pn,PIf (Wc X L M a i s₀ H₀ ex pn) d p) (w:∀ s₀ H₀ ex pn,PE (Wc X L M a i s₀ H₀ ex pn) c o)
 (u:∀ x,foldedSetIterable b X.env x=pure x:=by intro _;rfl) :
 PE X (.ListComp c [⟨j,b,d,0⟩] a k) (tLC n L.length g p o):=by
 intro e s σ H Q I h
 rw[eval_ListComp]
 refine ziR B S y l E z w u _ e s σ H Q I h λD C H' F I' ⟨m,A⟩ f q=>⟨m,A,λG t=>⟨.ref D,_,I'.letGo f t,rfl,q⟩⟩
theorem zpp {i:Nat}{x:Str}{u n:Pos}{X:Cx}{j t c:Expr}{k:List Expr}{L M:List Str}{a:Scope}{w:List (Str × Addr)}{l:Pos}{J:TI}{g:TG}{R:TT}{P:TE}
 (hN:X.N.Nodup) (F:X.N[i]?=some x) (hx:Loc X.env.scope x) (hc:X.calm=true) (S:xV X L M a w) (hi:PI X t c J)
 (G:∀ (σ:St) (v:V) (H:Hp) (Q:St->Hp->Prop),g v (List.replicate L.length none++σ) H Q->g v (List.replicate L.length none++σ) H (λy H2=>Zr (List.replicate L.length none++σ) y/\Q y H2))
 (hg:∀ s₀ H₀ ex pn,PG (Wc X L M a w s₀ H₀ ex pn) t g) (ht:∀ s₀ H₀ ex pn,PIf (Wc X L M a w s₀ H₀ ex pn) k R) (Z:∀ s₀ H₀ ex pn,PE (Wc X L M a w s₀ H₀ ex pn) j P)
 (W:∀ x,foldedSetIterable c X.env x=pure x:=by intro _;rfl)
 (B:swapsWith (.ListComp j [⟨t,c,k,0⟩] a l) (some (.Name x u)) n.line X.env=pure true:=by rfl)
 (hf:X.fn x=true\/X.env.scope.names.lookup x=some .local:=by first | exact .inl rfl | exact .inr rfl | assumption) :
 PS X (.Assign [.Name x u] (.ListComp j [⟨t,c,k,0⟩] a l) n) (zoI (tLC J L.length g R P) (VZ i)):=by
 intro p s σ H D I h
 rw[exec_Assign_Name_used _ _ _ _ B]
 refine u0 (u1l (u0 ?_))
 show wpAny _ X.A (do let _<-comprehension (.ListComp j [⟨t,c,k,0⟩] a l) a X.env _ (newList []) false (eval c X.env) (some (assign (.Name x u) X.env))) _ _ s
 refine u0 (thn (ziR (use:=some (assign (.Name x u) X.env)) (Qf:=λ_ r=>SP X p D .next r) hc S hi G hg ht Z W _ p s σ H _ I h λD' C H' r I' ⟨m,N⟩ f q=>?_) λ_ r Y=>u6 (u6 Y))
 have A:∀ b∈[C],∃ o,r.heap.get? b=some o/\∀ v,o.data≠.cell v:=λb E=>by
  rw[t7.mp E]
  obtain⟨o,K,O,e,d,_⟩:=N
  exact⟨o,e,λv z=>by rw[z]at d;cases d⟩
 have I2:=I'.pinned (fp:=[C]) (λb E=>by rw[t7.mp E];exact f) A
 refine thn (xR (pos:=u) hN F hx hf _ r σ H' (.ref D') (.ref D') _ I2 rfl q) λ_ s2 hh9=>?_
 obtain⟨y,H2,I3,U⟩:=hh9
 obtain⟨o,K,O,e,d⟩:=N
 have pn:=I3.pin (C,o) (k7 _ (k7 _ (wm (t7.mpr rfl) e)))
 exact⟨m,⟨o,K,O,pn.1,d⟩,λh' T=>⟨y,H2,I3.unpinned.letGo ⟨pn.2.1,f.2⟩ T,U⟩⟩
def YH (names a b:List (Str × NameKind))(N M c:List Str):Bool :=
 names.all (λy=>decide (y.2≠.cell))&&names.all (λy=>decide (y.2=.local->names.lookup y.1=some .local)) &&
 a.all (λy=>decide ((y.2=.cell\/y.2=.free)->y.1∈c)) &&
 (M.length == N.length)&&(M.zip N).all (λp=>decide ((a.lookup p.1=some .local\/a.lookup p.1=some .cell\/a.lookup p.1=some .free)->p.1=p.2)) &&
 M.all (λy=>decide ((a.lookup y=some .local\/a.lookup y=some .cell\/a.lookup y=some .free) ->
  (a.lookup y=some .cell\/a.lookup y=some .free)/\(b.lookup y=some .local\/b.lookup y=some .cell\/b.lookup y=some .free)/\b.lookup y≠some .local))
theorem ZV {X:Cx}{L N M k:List Str}{a:Scope}{g:List (Str × Addr)}{t s:List (Str × NameKind)}(f:(relabel a X.env).names=t)(m:X.env.scope.names=s)(n:X.N=N)
 (d:closureFor a X.env=pure g) (kind:a.kind=.function) (w:g.map Prod.fst=k) (b:YH a.names t s N M k=true) (l:∀ p∈g,X.env.cells.lookup p.1=some p.2):xV X L M a g:=by
 unfold YH at b
 simp only[j3,m7,j6]at b
 obtain⟨⟨⟨⟨⟨x,E⟩,q⟩,j⟩,z⟩,r⟩:=b
 have j:M.length=N.length:=by simpa using j
 refine⟨d,x,kind,E,λy c h=>l (y,c) (f8 h),λy h=>?_,by rw[n];exact j,λi y e v=>?_,λi y e v=>?_,λi y e v=>?_⟩
 .rw[f]at h
  have u:y∈k:=by
   rcases h with h | h
   .exact q _ (f8 h) (.inl rfl)
   .exact q _ (f8 h) (.inr rfl)
  exact vj (by rw[w];exact u)
 .unfold Vis at v
  rw[f]at v
  have D:=(q0.mp e).1
  have o:i < N.length:=by rw[<-j];exact D
  have B:(M.zip N)[i]?=some (y,N[i]):=by
   rw[u2l]
   exact⟨e,q1 o⟩
  have:=z _ (k6 B) v
  rw[n,q1 o]
  exact i6 some this.symm
 .unfold Vis at v
  rw[f]at v ⊢
  exact(r y (k6 e) v).1
 .unfold Vis at v
  rw[f]at v
  obtain⟨_,C,A⟩:=r y (k6 e) v
  refine⟨?_,?_⟩
  .unfold Vis;rw[m];exact C
  .show X.env.scope.names.lookup y≠_;rw[m];exact A
end L2
namespace PySem
open Sem (wp)
open AutoSeq1 (wpAny_loadPart')
section
variable {prog:Program}{w:World}{A:Around}{E:Value->Shared->Prop}{s:Shared}
theorem YB {a l:Addr}{i:Nat}{items}{x:Value}{Q:Value->Shared->Prop}(hit:s.heap.IsTupleIter a l i)
 (hl:s.heap.IsTuple l items) (hx:items[i]?=some x)
 (hQ:∀ f,f.IsTupleIter a l (i+1)->Heap.SameBut a s.heap f->Q x { s with heap:=f }) :
 wpAny (model prog w) A (Builtin.SmallTypes.nextOf (.ref a)) Q E s:=by
 obtain⟨o,c,g,b⟩:=id hit
 obtain⟨j,e,_,h,d⟩:=hl
 unfold Builtin.SmallTypes.nextOf
 refine u0 (o0 (name:=Str.ofString "__next__") hit.typeIs u0k
  (o7 u0k hit.typeIs F.entry_tuple_iterator_next ?_ (F.args_tuple_iterator_next_1 _)))
 show wpAny _ _ (field (.ref a) 0>>=_) _ _ s
 refine u0 (u01 c b (x:=.ref l) rfl ?_)
 show wpAny _ _ (if (Value.ref l == Value.none)=true then _ else _) _ _ s
 rw[t9 (show ¬ ((Value.ref l == Value.none)=true)from u7)]
 show wpAny _ _ (field (.ref a) 1>>=_) _ _ s
 refine u0 (u01 c b (x:=.int i 0) rfl ?_)
 show wpAny _ _ (seqItems? (.ref l)>>=_) _ _ s
 refine u0 (wpAny_seqItems e d ?_)
 simp only[o4,hx]
 refine u0 (u2s c b (by simp) (u6 ⟨x,rfl,u6 (hQ _ ?_ (u0d ..))⟩))
 exact⟨_,k9 _ c (Obj.isFreed_of_fields (u1g b _)),(Obj.cls_mapFields ..).trans g,by
  rw[u1g b];simp[rawInt]⟩
theorem wM {b l:Addr}{i:Nat}{items}{Q:Value->Shared->Prop}(hh:A.handled=none)
 (hit:s.heap.IsTupleIter b l i) (hl:s.heap.IsTuple l items) (hx:items[i]?=none)
 (hE:∀ h e,Heap.ExtBut b s.heap h->(∃ o,h.get? e=some o/\o.cls=.type "StopIteration")->E (.ref e) { s with heap:=h }) :
 wpAny (model prog w) A (Builtin.SmallTypes.nextOf (.ref b)) Q E s:=by
 obtain⟨o,d,j,g⟩:=id hit
 obtain⟨n,f,_,k,c⟩:=hl
 unfold Builtin.SmallTypes.nextOf
 refine u0 (o0 (name:=Str.ofString "__next__") hit.typeIs u0k
  (o7 u0k hit.typeIs F.entry_tuple_iterator_next ?_ (F.args_tuple_iterator_next_1 _)))
 show wpAny _ _ (field (.ref b) 0>>=_) _ _ s
 refine u0 (u01 d g (x:=.ref l) rfl ?_)
 show wpAny _ _ (if (Value.ref l == Value.none)=true then _ else _) _ _ s
 rw[t9 (show ¬ ((Value.ref l == Value.none)=true)from u7)]
 show wpAny _ _ (field (.ref b) 1>>=_) _ _ s
 refine u0 (u01 d g (x:=.int i 0) rfl ?_)
 show wpAny _ _ (seqItems? (.ref l)>>=_) _ _ s
 refine u0 (wpAny_seqItems f c ?_)
 simp only[o4,hx]
 refine u0 (u08 (u0 (u2s d g (by simp) ?_)))
 show wpAny _ _ (newExc (.type "StopIteration") []>>=_) _ _ _
 refine u0 ?_
 simp only[newExc,newTuple]
 refine u0 (n6 ?_ (by size_fits))
 refine u0 (m:=firstArgMember _ _) (u0J (a:=Value.none) (by first | rfl | (simp only[firstArgMember];rfl)) ?_)
 refine n6 ?_ (by size_fits)
 simp only[raiseNew]
 refine u0 (wpAny_handled ?_)
 first | rw[show A.in1.handled=none from hh] | rw[hh]
 refine u0 (u6 (wpAny_throw ?_))
 exact hE _ _ (((u0d ..).extBut.push _).push _) ⟨_,q2 _ rfl,rfl⟩
end
theorem YV {c:Program}{w:World}{A:Around}{E:Value->Shared->Prop}{s:Shared}{e d l:Addr}{i:Nat}{a:Array Value}{h:Value}{Q:Option Value->Shared->Prop}(hh:A.handled=none)
 (m:IsEnum s.heap e d i h) (g:s.heap.IsTupleIter d l i) (t:s.heap.IsTuple l a) (r:a[i]?=none)
 (p:∀ k,Heap.ExtBut d s.heap k->Q none { s with heap:=k }):wpAny (model c w) A (pyNext (.ref e)) Q E s:=by
 have n:s.TypeIs (.ref e) "enumerate":=⟨_,m,rfl⟩
 unfold pyNext
 refine u0 (u0p (o0 (name:=Str.ofString "__next__") n F.slot_enumerate_next
  (o7 F.slot_enumerate_next n F.entry_enumerate_next ?_ (F.args_enumerate_next_1 _))))
 show wpAny _ _ (field (.ref e) 2>>=_) _ _ _
 refine u0 (u01 m rfl (x:=.ref d) rfl ?_)
 refine u0 (wM hh g t r λk x j f=>?_)
 obtain⟨o,u,q⟩:=f
 refine u0 (u0Y (T:="StopIteration") (b:=true) ⟨o,u,q⟩ isSubtype_stop ?_)
 exact u6 (p _ j)
theorem WR {prog:Program}{w:World}{A:Around}(hh:A.handled=none)(it l:Addr)(hne:l≠it)(items:Array Value) :
 Draws prog w A it [it,l] items.size (λi v=>items[i]?=some v) (λi h=>h.IsTupleIter it l i/\h.IsTuple l items) where
 live:=λ_ _ st=>let ⟨o,ho,_⟩:=st.1;⟨o,ho⟩
 frame:=λ_ _ _ st hk=>by
  obtain⟨⟨o,ho,r⟩,⟨o2,ho2,r2⟩⟩:=st
  exact⟨⟨o,hk it (by simp) o ho,r⟩,⟨o2,hk l (by simp) o2 ho2,r2⟩⟩
 item:=λi s Q E hi st hQ=>by
  refine YB st.1 st.2 (x:=items[i]) (by simp[hi]) λh' hit' hs'=>?_
  exact hQ _ h' s.toks (by simp[hi]) ⟨hit',st.2.extBut hs'.extBut hne⟩ hs'
 done:=λs Q E st hE=>wM hh st.1 st.2 (by simp) hE
theorem Zx (l:Addr)(a:Array Value)(n:Nat)(k:Option Addr)(o:Array (Option Value)) :
 Meets (Builtin.«enumerate.__new__» ⟨[.type "enumerate",.ref l],[]⟩) (λ_ R s=>s.heap.get? l=some { cls:=.type "tuple",dict:=k,data:=.seq a n,slots:=o } /\
  R (.ok (.ret (.ref (s.heap.push { cls:=.type "tuple_iterator",data:=.fields #[.ref l,.int 0 0] }).objs.size)))
   { s with heap:=(s.heap.push { cls:=.type "tuple_iterator",data:=.fields #[.ref l,.int 0 0] }).push { cls:=.type "enumerate",data:=.fields #[.none,.bool false,.ref s.heap.objs.size,rawInt 0,.none,.none] } }) :=
 .of_wp λf w A R s h=>by
  obtain⟨m,g,d,j,os⟩:=s;obtain⟨b,h⟩:=h
  have i:=sub_enumerate
  have e:Heap.IsTuple (Shared.heap ⟨m,g,d,j,os⟩) l a:=⟨_,b,rfl,n,rfl⟩
  wp_walk using u0i b
  refine wpAny_stack_any λp=>u6 ?_
  split
  .rename_i c _ _ _ _ _
   cases (c == Value.type "enumerate")
   .wp_walk using u0i b,u0D e
    exact⟨_,rfl,h⟩
   .wp_walk using u0i b,u0D e
    exact⟨_,rfl,h⟩
  .wp_walk using u0i b,u0D e
   exact⟨_,rfl,h⟩
section
variable {prog:Program}{w:World}{A:Around}{E:Value->Shared->Prop}{s:Shared}
theorem YW {l:Addr}{a:Array Value}{Q:Value->Shared->Prop}
 (m:s.heap.IsTuple l a)
 (h:∀ c,IsEnum c (s.heap.objs.size+1) s.heap.objs.size 0 .none->c.IsTupleIter s.heap.objs.size l 0->c.objs.size=s.heap.objs.size+2 ->
  (∀ b o,s.heap.get? b=some o->c.get? b=some o)->Q (.ref (s.heap.objs.size+1)) { s with heap:=c }) :
 wpAny (model prog w) A (call (.type "enumerate") [.ref l]) Q E s:=by
 obtain⟨⟨cls,j,data,p⟩,k,f,n,i⟩:=m
 simp only at f i
 subst f i
 refine callType_new F.called_enumerate (by decide) (F.typeCall_enumerate_1 _) (F.newCall_enumerate_1 _) (λd=>F.args_object_init_2 d _) F.entry_enumerate_new
  (Zx l a n j p) ⟨k,?_⟩
 have e:(s.heap.push { cls:=.type "tuple_iterator",data:=.fields #[.ref l,.int 0 0] }).objs.size=s.heap.objs.size+1:=s0 ..
 show _/\_
 rw[e]
 have g:IsEnum ((s.heap.push { cls:=.type "tuple_iterator",data:=.fields #[.ref l,.int 0 0] }).push
  { cls:=.type "enumerate",data:=.fields #[.none,.bool false,.ref s.heap.objs.size,rawInt 0,.none,.none] }) (s.heap.objs.size+1) s.heap.objs.size 0 .none:=by
  have:=q2 (s.heap.push { cls:=.type "tuple_iterator",data:=.fields #[.ref l,.int 0 0] })
   (o:={ cls:=.type "enumerate",data:=.fields #[.none,.bool false,.ref s.heap.objs.size,rawInt 0,.none,.none] }) rfl
  rw[e]at this;exact this
 refine⟨⟨_,g,rfl⟩,h _ g ⟨_,u5 _ (q2 _ rfl),rfl,rfl⟩ (by rw[s0,e]) λb o x=>u5 _ (u5 _ x)⟩
end
end PySem
namespace L2
open PySem PySem.Spec PyProof.Rows
section
variable {X:Cx}{pins:List (Addr × Obj)}{σ:St}{H:Hp}{s:Shared}{h':Heap}
theorem Inv.grown {ch:List Addr}{T:Addr}{o:HO}{x:Nat}(I:Inv X pins σ H s)(d:∀ b∈ch,zc3 X pins H b)(p:s.heap.objs.size<=T)(k:∀ b u,b∉ch->s.heap.get? b=some u->h'.get? b=some u)
 (j:yJ X.prog X.w (upd H T o) h' T o):Inv X pins σ (upd H T o) { s with heap:=h',toks:=x }:=by
 have f:H T=none:=I.hok.fresh p
 have i:∀ b u,s.heap.get? b=some u->b≠T:=λb u e=>q5 (t8 (t3 e) p)
 have g:∀ b u,H b=some u->b∉ch:=λb u e z=>by rw[(d b z).1]at e;cases e
 refine I.step (g':=s.gens) (d':=s.drawn) (ch:=ch) (λb h=>?_) (λb u _ _ a e _=>k b u a e) (λb u _ _ a e _=>⟨u.slots,k b u a e⟩) (λb u _ e n=>by rw[zu (i b u e)];exact n)
  (λb u a e=>⟨u,k b u a e⟩) (λb t e=>by rw[zu (zo e f)];exact e) (λb u t e=>by rw[zu (zo e f)];exact e) (λb G e=>⟨#[],by rw[zu (zo e f),e];simp⟩) (λm B=>?_) (λb u e=>?_) I.bare
 .obtain⟨_,E,_,D,C,y⟩:=d b h
  exact⟨D,E,C,y⟩
 .obtain⟨l,F,w,A,r⟩:=B
  exact⟨l,F,w,k _ l (λz=>(d _ z).2.1 rfl) A,r⟩
 .by_cases h:b=T
  .subst h;rw[zr]at e;cases e;exact j
  .rw[zu h]at e
   refine(I.hok b u e).stay (λc v a q=>k c v ?_ q) (λc q=>by rw[zu (zo q f)];exact q) λc t q=>by rw[zu (zo q f)];exact q
   rcases a with z | z
   .rw[z];exact g b u e
   .exact g c _ z
theorem Inv.turnedN {ch:List Addr}{t':Nat}(I:Inv X pins σ H s)(d:∀ b∈ch,zc3 X pins H b)(k:∀ b u,b∉ch->s.heap.get? b=some u->h'.get? b=some u):Inv X pins σ H { s with heap:=h',toks:=t' }:=by
 have f:∀ b u,H b=some u->b∉ch:=λb u e z=>by rw[(d b z).1]at e;cases e
 refine I.step (g':=s.gens) (d':=s.drawn) (ch:=ch) (λb y=>?_) (λb u _ _ a e _=>k b u a e) (λb u _ _ a e _=>⟨u.slots,k b u a e⟩) (λb u _ e n=>n)
  (λb u a e=>⟨u,k b u a e⟩) (λb h e=>e) (λb u h e=>e) (λb A e=>⟨#[],by rw[e];simp⟩) (λm j=>?_) (λb u e=>?_) I.bare
 .obtain⟨_,t,_,p,l,w⟩:=d b y
  exact⟨p,t,l,w⟩
 .obtain⟨g,x,i,o,r⟩:=j
  exact⟨g,x,i,k _ g (λz=>(d _ z).2.1 rfl) o,r⟩
 .refine(I.hok b u e).stay (λc v a q=>k c v ?_ q) (λc q=>q) λc h q=>q
  rcases a with z | z
  .rw[z];exact f b u e
  .exact f c _ z
end
def Iel (K:W.Frag)(a:Addr):It :=
 ⟨λi H=>∃ b x,SqL K H a b/\b[i]?=some x,λi H v H'=>∃ T x,v=.ref T/\H T=none/\H'=upd H T (.tup [.int i,x])/\∀ b,SqL K H a b->b[i]?=some x,λi H=>∃ b,SqL K H a b/\b.length<=i⟩
def Iet (K:W.Frag)(a:Addr):It :=
 ⟨λi H=>∃ b x,SqT K H a b/\b[i]?=some x,λi H v H'=>∃ T x,v=.ref T/\H T=none/\H'=upd H T (.tup [.int i,x])/\∀ b,SqT K H a b->b[i]?=some x,λi H=>∃ b,SqT K H a b/\b.length<=i⟩
theorem zfW {P:Program}{w:World}{K:W.Frag}{es:List Expr}{k:Nat}{tp:Pos}(a e it:Addr)(hne:e≠it) :
 zov P w K (.Tuple es k tp) (Iel K a) [e,it] e (λi h=>(∃ old,IsEnum h e it i old)/\h.IsListIter it a i) where
 mem:=by simp
 obj:=λi h st b hb=>by
  obtain⟨⟨old,he⟩,o,ho,_,hd⟩:=st
  rcases q4.mp hb with rfl | hb
  .exact⟨_,he,λv z=>by cases z⟩
  .rw[t7.mp hb]
   exact⟨o,ho,λv z=>by rw[hd]at z;cases z⟩
 keep:=λi h h' st kk=>by
  obtain⟨⟨old,he⟩,hit⟩:=st
  exact⟨⟨old,kk e (by simp) _ he⟩,hit.at λo q=>kk it (by simp) o q⟩
 item:=by
  intro X hP hw hK hc i pins s σ H E I hf st hg
  subst hP hw hK
  obtain⟨⟨old,he⟩,hit⟩:=st
  obtain⟨xs,x,hq,hx⟩:=hg
  obtain⟨its,rv,p,hz⟩:=I.list hq
  obtain⟨u,hu,ru⟩:=rv.get hx
  refine wpAny_pyNext_enum_item he hit p.isList (x:=u) (by simpa using hu) hne λh1 ho1 hit1 hT1 hz1 hk1=>?_
  refine⟨_,rfl,wpAny_letOwnedTupleGo_enum ho1 λh2 he2 hs2=>?_⟩
  have hfr:H s.heap.objs.size=none:=I.hok.fresh (t4 _)
  have neE:s.heap.objs.size≠e:=u03 (t3 he)
  have hT2:h2.get? s.heap.objs.size=some { cls:=.type "tuple",data:=.seq #[.int i s.toks,u] }:=(hs2.2 _ neE).trans hT1
  refine⟨.ref s.heap.objs.size,upd H s.heap.objs.size (.tup [.int i,x]),?_,rfl,⟨_,x,rfl,hfr,rfl,λys hy=>by rw[I.list_inj hy hq];exact hx⟩,⟨⟨_,by simpa using he2⟩,hit1.at λo q=>(hs2.2 it (u0b hne)).trans q⟩,λb hb=>?_⟩
  .refine I.grown (ch:=[e,it]) hf (t4 _) (λb v hb q=>?_) ?_
   .have n1:b≠e:=λz=>hb (by simp[z])
    have n2:b≠it:=λz=>hb (by simp[z])
    exact(hs2.2 b n1).trans (hk1 b v n1 n2 q)
   .exact⟨by show 2<=sizeLine;decide,[.int i s.toks,u],.cons ⟨_,rfl⟩ (.cons ru .nil),⟨_,hT2,rfl,0,rfl⟩⟩
  .obtain⟨o,hb2,_⟩:∃ o,s.heap.get? b=some o/\True:=by
    rcases q4.mp hb with rfl | hb
    .exact⟨_,he,trivial⟩
    .rw[t7.mp hb]
     obtain⟨o,ho,_⟩:=hit
     exact⟨o,ho,trivial⟩
   rw[zu (q5 (t3 hb2))]
   exact(hf b hb).1
 done:=by
  intro X hP hw hK hc i pins s σ H E I hf st hg
  subst hP hw hK
  obtain⟨⟨old,he⟩,hit⟩:=st
  obtain⟨xs,hq,hx⟩:=hg
  obtain⟨its,rv,p,hz⟩:=I.list hq
  have hl:=rv.length
  exact wpAny_pyNext_enum_end (I.ok.hd hc) he hit p.isList (by simp;omega) λh1 hx1=>⟨rfl,I.turnedN (ch:=[e,it]) (t':=s.toks) hf λb v hb q=>hx1 b v (λz=>hb (by simp[z])) q⟩
 self:=λ_ _ _ _ _ st h=>u1y st.1.choose_spec h
theorem zfN {P:Program}{w:World}{K:W.Frag}{es:List Expr}{k:Nat}{tp:Pos}(a e it:Addr)(hne:e≠it)(hai:a≠it)(hae:a≠e) :
 zov P w K (.Tuple es k tp) (Iet K a) [e,it] e (λi h=>(∃ old,IsEnum h e it i old)/\h.IsTupleIter it a i) where
 mem:=by simp
 obj:=λi h st b hb=>by
  obtain⟨⟨old,he⟩,o,ho,_,hd⟩:=st
  rcases q4.mp hb with rfl | hb
  .exact⟨_,he,λv z=>by cases z⟩
  .rw[t7.mp hb]
   exact⟨o,ho,λv z=>by rw[hd]at z;cases z⟩
 keep:=λi h h' st kk=>by
  obtain⟨⟨old,he⟩,o,ho,r⟩:=st
  exact⟨⟨old,kk e (by simp) _ he⟩,o,kk it (by simp) o ho,r⟩
 item:=by
  intro X hP hw hK hc i pins s σ H E I hf st hg
  subst hP hw hK
  obtain⟨⟨old,he⟩,hit⟩:=st
  obtain⟨xs,x,hq,hx⟩:=hg
  obtain⟨its,rv,p,hz⟩:=I.tuple hq
  obtain⟨u,hu,ru⟩:=rv.get hx
  have p':s.heap.IsTuple a its.toArray:=p
  have D:=WR (prog:=X.prog) (w:=X.w) (A:=X.A.in1) (I.ok.hd hc) it a hai its.toArray
  have hlt:i < its.toArray.size:=by
   obtain⟨h1,_⟩:=q0.mp hu
   simpa using h1
  refine wpAny_pyNext_enum_itemD D he ⟨hit,p'⟩ hlt hne (by simp[hne,u0b hae]) λu' h1 tk hP1 ho1 hit1 hT1 hz1 hk1=>?_
  have eu:u'=u:=by
   have:its[i]?=some u':=by simpa using hP1
   rw[hu]at this
   exact(n8 this).symm
  subst eu
  refine⟨_,rfl,wpAny_letOwnedTupleGo_enum ho1 λh2 he2 hs2=>?_⟩
  have hfr:H s.heap.objs.size=none:=I.hok.fresh (t4 _)
  have neE:s.heap.objs.size≠e:=u03 (t3 he)
  have hT2:h2.get? s.heap.objs.size=some { cls:=.type "tuple",data:=.seq #[.int i tk,u'] }:=(hs2.2 _ neE).trans hT1
  refine⟨.ref s.heap.objs.size,upd H s.heap.objs.size (.tup [.int i,x]),?_,rfl,⟨_,x,rfl,hfr,rfl,λys hy=>by rw[I.tuple_inj hy hq];exact hx⟩,⟨⟨_,by simpa using he2⟩,?_⟩,λb hb=>?_⟩
  .refine I.grown (ch:=[e,it]) hf (t4 _) (λb v hb q=>?_) ?_
   .have n1:b≠e:=λz=>hb (by simp[z])
    have n2:b≠it:=λz=>hb (by simp[z])
    exact(hs2.2 b n1).trans (hk1 b v n1 n2 q)
   .exact⟨by show 2<=sizeLine;decide,[.int i tk,u'],.cons ⟨_,rfl⟩ (.cons ru .nil),⟨_,hT2,rfl,0,rfl⟩⟩
  .obtain⟨o,ho,r⟩:=hit1.1
   exact⟨o,(hs2.2 it (u0b hne)).trans ho,r⟩
  .obtain⟨o,hb2,_⟩:∃ o,s.heap.get? b=some o/\True:=by
    rcases q4.mp hb with rfl | hb
    .exact⟨_,he,trivial⟩
    .rw[t7.mp hb]
     obtain⟨o,ho,_⟩:=hit
     exact⟨o,ho,trivial⟩
   rw[zu (q5 (t3 hb2))]
   exact(hf b hb).1
 done:=by
  intro X hP hw hK hc i pins s σ H E I hf st hg
  subst hP hw hK
  obtain⟨⟨old,he⟩,hit⟩:=st
  obtain⟨xs,hq,hx⟩:=hg
  obtain⟨its,rv,p,hz⟩:=I.tuple hq
  have hl:=rv.length
  have p':s.heap.IsTuple a its.toArray:=p
  exact YV (I.ok.hd hc) he hit p' (by simp;omega) λh1 hx1=>⟨rfl,I.turnedN (ch:=[e,it]) (t':=s.toks) hf λb v hb q=>hx1 b v (λz=>hb (by simp[z])) q⟩
 self:=λ_ _ _ _ _ st h=>u1y st.1.choose_spec h
def zrR (K:W.Frag)(c:TA):TI:=fun σ H R=>c σ H λd H1=>∃ a,d=[.ref a]/\((∃ b,H1 a=some (.lst b)/\R (Iel K a) H1)\/(∃ b,SqT K H1 a b/\R (Iet K a) H1))
theorem zmN {X:Cx} {P:List Expr} {k:Nat} {M:Pos} {a:Expr} {B:TA} {p t:Pos} (F:Gl X "enumerate") (N:X.mg "enumerate"=none) (g:bootBuiltins "enumerate"=some (.type "enumerate")) (D:PA X [a] B)
 (C:starEach [a] X.env=[(false,eval a X.env)]:=by rfl):PI X (.Tuple P k M) (.Call (.Name "enumerate" p) [a] [] t) (zrR X.K B):=by
 intro d s σ H R I h
 refine Call_ (Y9 I F N g (g5 (thn (D t d s σ H _ I h) λS f hh9=>?_) C rfl))
 obtain⟨Q,H1,I1,K,J⟩:=hh9
 obtain⟨l,e,q⟩:=J
 subst e
 obtain⟨u,rfl,E⟩:=W3 K
 cases E
 have y:∀ b,f.heap.objs.size<=b->zc3 X d H1 b:=λb g=>I1.fpOk g (I1.hok.fresh g)
 have r:f.heap.objs.size+1≠f.heap.objs.size:=by omega
 have j:∀ b∈[f.heap.objs.size+1,f.heap.objs.size],zc3 X d H1 b:=λb g=>by
  rcases q4.mp g with rfl | g
  .exact y _ (u0h _)
  .rw[t7.mp g];exact y _ (t4 _)
 rcases q with ⟨x,v,q⟩ | ⟨x,v,q⟩
 .obtain⟨_,c,n,_,e⟩:x.length<=sizeLine/\∃ (c:List Value) (n:Nat),yZ x c/\f.heap.get? l=some { cls:=.type "list",data:=.seq c.toArray n }:=I1.hok _ _ v
  refine call_enumerate_1 e λO m i G w=>u1y m ?_
  exact⟨_,_,_,_,H1,rfl,I1.kept (t':=f.toks) w,zfW l _ _ r,⟨⟨_,m⟩,i⟩,j,q⟩
 .obtain⟨c,_,A,_⟩:=I1.tuple v
  have z:l < f.heap.objs.size:=by
   obtain⟨o,L,_⟩:=A
   exact t3 L
  refine YW (show f.heap.IsTuple l c.toArray from A) λO m i G w=>u1y m ?_
  exact⟨_,_,_,_,H1,rfl,I1.kept (t':=f.toks) w,zfN l _ _ r (q5 z) (q5 (i4 z)),⟨⟨_,m⟩,i⟩,j,q⟩
end L2
namespace HT
open PySem PyProof.Rows
def lexLe:List Int->List Int->Bool
 | [],_=>true
 | _::_,[]=>false
 | x::xs,y::ys=>if x=y then lexLe xs ys else decide (x<=y)
theorem zfZ (x y:Int)(a b:List Int):lexLe (x::a) (y::b)=if x=y then lexLe a b else decide (x<=y):=rfl
theorem zlj (A:Around)(s:Shared)(a:Int)(t:Tok)(c:Int)(u:Tok)(b:Program)(w:World)(E:Value->Shared->Prop)(Q:Value->Shared->Prop)(h:Q (.bool (decide (a<=c))) s) :
 wpAny (model b w) A (richCompare .LtE (.int a t) (.int c u)) Q E s :=
 (PyProof.Rows.le_int h:wpAny (model b w) A (compareOp .LtE (.int a t) (.int c u)) Q E s)
section
open PySem.SeqAt
open PySem.AutoSeq1 (wpAny_loadPart')
open PySem.MeetsSeq PySem.MeetsSeq2 PySem.MeetsSeq3
theorem zbb (l b:Addr)(i f:Array Value)(n X:Nat)(T O:Option Addr)(Y N:Array (Option Value))(J H:List Int)(Q:IntsAre i.toList J)(S:IntsAre f.toList H) :
 Meets (Builtin.«tuple.__le__» ⟨[.ref l,.ref b],[]⟩)
  (λ_ R s=>s.heap.get? l=some { cls:=.type "tuple",dict:=T,data:=.seq i n,slots:=Y }/\s.heap.get? b=some { cls:=.type "tuple",dict:=O,data:=.seq f X,slots:=N } /\
   R (.ok (.ret (.bool (lexLe J H)))) s) :=
 .of_wp λr w A R s h=>by
  obtain⟨K,g,d,F,os⟩:=s;obtain⟨U,V,h⟩:=h
  have f2:=AutoSeq1.sub_tuple_tuple
  have Z:i.size=J.length:=by rw[<-Q.length];simp
  have z2:f.size=H.length:=by rw[<-S.length];simp
  wp_walk using u0i U,u0i V,wpAny_forIn_list _ (λrest b L=>b.1=none/\L=⟨K,g,d,F,os⟩/\∃ (I G:List Value) (m k:List Int),rest=I.zip G /\
   IntsAre I m/\IntsAre G k/\m.length+f.size=k.length+i.size/\R (.ok (.ret (.bool (lexLe m k)))) ⟨K,g,d,F,os⟩) _
  case turn =>
   rintro⟨y,x⟩ rest b L ⟨z,rfl,I,G,m,k,o,C,B,j,v⟩
   cases C with
   | nil=>rw[List.zip_nil_left]at o;cases o
   | cons a t E =>
    cases B with
    | nil=>rw[List.zip_nil_right]at o;cases o
    | cons c u D =>
     rw[u2a]at o
     injection o with hyx hrest
     injection hyx with hy hx
     subst hy hx
     rw[zfZ]at v
     simp only[g0]at j
     obtain⟨e,W,p⟩:=zk1 A.in1 ⟨K,g,d,F,os⟩ a t c u
     refine u0 (W r w _ _ ?_)
     cases e with
     | true =>
      rw[t6 (p.mp rfl)]at v
      wp_walk
      exact⟨rfl,rfl,_,_,_,_,hrest,E,D,by omega,v⟩
     | false =>
      rw[t9 (λq=>absurd (p.mpr q) u7)]at v
      have M:=zlj A.in1 ⟨K,g,d,F,os⟩ a t c u r w
      wp_walk using M
      exact⟨_,rfl,by simpa using v⟩
  case fin =>
   rintro⟨b1,b2⟩ L ⟨z,rfl,I,G,m,k,o,C,B,j,v⟩
   simp only at z
   subst z
   have P:lexLe m k=decide (i.size<=f.size):=by
    cases C with
    | nil =>
     simp only[u1X]at j
     show true=_
     exact(q7 (by omega)).symm
    | cons a t P =>
     cases B with
     | nil =>
      simp only[u1X,g0]at j
      show false=_
      exact(j5 (by omega)).symm
     | cons c u hw =>
      rw[u2a]at o
      cases o
   rw[P]at v
   wp_walk
   exact⟨_,rfl,by simpa [Builtin.Tuple.tupleCompareSizes]using v⟩
  case h =>
   exact⟨rfl,rfl,i.toList,f.toList,J,H,rfl,Q,S,by omega,h⟩
end
section
variable {prog:Program}{w:World}{A:Around}{E:Value->Shared->Prop}{s:Shared}
theorem le_tupInts {l b:Addr}{c a:Array Value}{e i:List Int}{Q:Value->Shared->Prop}(v:IsTup s.heap l c)(z:IsTup s.heap b a)(C:IntsAre c.toList e)(D:IntsAre a.toList i)
 (u:A.units < cLine) (h:Q (.bool (lexLe e i)) s):wpAny (model prog w) A (compareOp .LtE (.ref l) (.ref b)) Q E s:=by
 obtain⟨⟨cls,t,data,B⟩,r,o,n,p⟩:=id v
 obtain⟨⟨q,m,j,k⟩,g,f,y,d⟩:=id z
 simp only at o p f d
 subst o p f d
 exact richCompare_meets_room (op:=.LtE) ⟨_,r,rfl⟩ ⟨_,g,rfl⟩ PySem.F.slot_tuple_le PySem.F.entry_tuple_le (PySem.F.args_tuple_le_2 _ _) (zbb l b c a n y t m B k e i C D)
  ⟨r,g,show Value.bool (lexLe e i)≠Value.notImplemented/\Q (.bool (lexLe e i)) s from⟨(λx=>nomatch x),h⟩⟩ u
end
end HT
namespace L2
open PySem PySem.Spec PyProof.Rows
def rLeT (K:W.Frag):R2:=λx y H Q=>∃ a b c d,x=.ref a/\y=.ref b/\SqT K H a (c.map V.int)/\SqT K H b (d.map V.int)/\Q (.bl (HT.lexLe c d)) H
theorem zp0 {X:Cx}(m:X.A.units < cLine):OpR X (compareOp .LtE) (rLeT X.K):=by
 intro g s σ H x y v u Q I k o h
 obtain⟨a,b,e,f,rfl,rfl,n,w,q⟩:=h
 cases k
 cases o
 obtain⟨d,t,r,_⟩:=I.tuple n
 obtain⟨c,i,p,_⟩:=I.tuple w
 have l:IntsAre d.toArray.toList e:=YI t
 have j:IntsAre c.toArray.toList f:=YI i
 exact HT.le_tupInts r p l j m ⟨.bl (HT.lexLe e f),H,I,rfl,q⟩
end L2
namespace HT
open PySem PyProof.Rows
section
variable {prog:Program}{w:World}{A:Around}{E:Value->Shared->Prop}{s:Shared}
theorem own_getItem_whole {t j:Addr}{a:Array Value}{n l:Value}{b e:Option Int}{Q:Value->Shared->Prop}(c:IsTup s.heap t a)(k:s.heap.IsSliceOf j n l .none)(o:IsPart n b)(p:IsPart l e)
 (hw:sIx a.size 0 b=0/\sIx a.size a.size e=a.size) (h:Q (.ref t) s):wpAny (model prog w) A (getItem (.ref t) (.ref j)) Q E s:=by
 obtain⟨os,g,f,q⟩:=id k
 have i:s.TypeIs (.ref j) "slice":=⟨os,g,f⟩
 unfold getItem
 try with_reducible refine r6 ?_
 first | refine u0 (u6 ?_) | skip
 refine u0 (wpAny_sequenceKey c.typeIs (by decide) ?_)
 refine u0 (o0 (name:=Str.ofString "__getitem__") c.typeIs g6
  (o7 g6 c.typeIs entry_tuple_getitem ?_ (args_tuple_getitem _ _)))
 show wpAny _ _ (Builtin.Tuple.tupleItemsOf (.ref t)>>=_) _ _ s
 refine u0 (tupleItemsOf_ c ?_)
 refine u0 (u0x i ?_)
 rw[t6 (by decide)]
 refine u0 (v4 k o p ?_)
 have d:(((sIx a.size 0 b:Nat):Int) == 0&&(1:Int) == 1&&(sIx a.size a.size e - sIx a.size 0 b) == a.size)=true:=by
  rw[hw.1,hw.2]
  simp
 show wpAny _ _ (if (((sIx a.size 0 b:Nat):Int) == 0&&(1:Int) == 1&&(sIx a.size a.size e - sIx a.size 0 b) == a.size)=true then _ else _) _ _ s
 rw[t6 d]
 refine u0 (m:=Builtin.Tuple.tupleIsExact (.ref t)) ?_
 unfold Builtin.Tuple.tupleIsExact
 refine u0 (u0x c.typeIs (u6 ?_))
 rw[t6 (by decide)]
 refine u0 (u08 ?_)
 first
  | exact u6 ⟨_,rfl,u6 h⟩
  | exact u0 (u6 (u6 ⟨_,rfl,u6 h⟩))
end
end HT
namespace OwnSort
open PySem PyProof.Rows
section pure
variable {κ:KeyKind}{xs:Array Keyed}
theorem up1 {x:Nat}(b:SortedToK κ xs x)(e:1<=x)(h:κ.kle (KK κ xs (x - 1)) (KK κ xs x)):SortedToK κ xs (x+1):=λi j a f=>by
 by_cases c:j < x
 .exact b i j a c
 .obtain rfl:j=x:=by omega
  by_cases d:i=j
  .rw[d];exact u0f _
  .exact u1D (b i (j - 1) (by omega) (by omega)) h
theorem zlm {x:Nat}(b:NonIncK κ xs x)(e:1<=x)(h:κ.kle (KK κ xs x) (KK κ xs (x - 1))):NonIncK κ xs (x+1):=λi j a f=>by
 by_cases c:j < x
 .exact b i j a c
 .obtain rfl:j=x:=by omega
  by_cases d:i=j
  .rw[d];exact u0f _
  .exact u1D h (b i (j - 1) (by omega) (by omega))
theorem W1 {b:Array Keyed}{n:Nat}(e:∀ i,KK κ b i=KK κ xs i)(h:NonIncK κ xs n):NonIncK κ b n:=λi j a c=>by rw[e,e];exact h i j a c
theorem turned {n:Nat}(a:n<=xs.size)(h:NonIncK κ xs n):SortedToK κ (mirror xs 0 n ((n - 0) / 2)) n:=λi j b c=>by
 rw[KK_mirror a,KK_mirror a,t6 ⟨by omega,by omega⟩,t6 ⟨by omega,by omega⟩]
 exact h _ _ (by omega) (by omega)
theorem zgg:SortedToK κ xs 1:=λi j a b=>by
 obtain rfl:i=j:=by omega
 exact u0f _
theorem zf5:NonIncK κ xs 1:=λi j a b=>by
 obtain rfl:i=j:=by omega
 exact u0f _
end pure
structure SB (k:SortKind) (a₀:Array Keyed) (st:SortSt):Prop where
 pm:(arrOf st).Perm a₀
 kd:kindOf st=k
 fl:failedOf st=none
 pd:pendingOf st=#[]
theorem SB.sz {k:SortKind}{a:Array Keyed}{b:SortSt}(B:SB k a b):(arrOf b).size=a.size:=B.pm.size_eq
theorem SB.put {k:SortKind}{c b:Array Keyed}{a:SortSt}(B:SB k c a)(p:b.Perm (arrOf a)):SB k c (setArr a b):=⟨p.trans B.pm,B.kd,B.fl,B.pd⟩
section
variable {prog:Program}{w:World}{A:Around}{E:Value->Shared->Prop}{s:Shared}{a₀:Array Keyed}{κ:KeyKind}{k:SortKind}{st:SortSt}
def LtOk (prog:Program)(w:World)(A:Around)(E:Value->Shared->Prop)(s:Shared)(a₀:Array Keyed)(κ:KeyKind)(k:SortKind):Prop :=
 ∀ (st:SortSt) (i j:Nat) (Q:Option Bool->SortSt->Prop),SB k a₀ st->i < a₀.size->j < a₀.size->Q (some (κ.blt (KK κ (arrOf st) i) (KK κ (arrOf st) j))) st->wpS (model prog w) A E s (ltAt' i j) Q st
theorem zib {a n:Nat}{Q:AscSt->SortSt->Prop}(L:LtOk prog w A E s a₀ κ k)(j:n<=a₀.size)(o:1<=a)(d:a<=n)(B:SB k a₀ st)(g:SortedToK κ (arrOf st) a)
 (h:∀ m,a<=m->m<=n->SortedToK κ (arrOf st) m->(m=n\/κ.klt (KK κ (arrOf st) m) (KK κ (arrOf st) (m - 1)))->Q (none,m) st):wpS (model prog w) A E s (ascLoop a n) Q st:=by
 unfold ascLoop
 refine u1C (I:=λx c t=>(t=st/\c=(none,x))/\SortedToK κ (arrOf st) x) (λx c t i l f=>?_) (λc t f=>?_) ⟨⟨rfl,rfl⟩,g⟩
 .obtain⟨⟨rfl,rfl⟩,b⟩:=f
  refine p4 (L _ x (x - 1) _ B (by omega) (by omega) ?_)
  cases c:κ.blt (KK κ (arrOf t) x) (KK κ (arrOf t) (x - 1)) with
  | true=>exact i7 (h x i (by omega) b (.inr c))
  | false=>exact i7 ⟨⟨rfl,rfl⟩,up1 b (by omega) c⟩
 .obtain⟨⟨rfl,rfl⟩,b⟩:=f
  have e:max a n=n:=by omega
  rw[e]at b ⊢
  exact h n d (t4 _) b (.inl rfl)
theorem zen {n m:Nat}{Q:Option Nat->SortSt->Prop}(L:LtOk prog w A E s a₀ κ k)(d:m<=a₀.size)(b:1<=n)(a:n<=m)(B:SB k a₀ st)(e:NonIncK κ (arrOf st) n)
 (h:∀ r t,SB k a₀ t->1<=r->r<=m->SortedToK κ (arrOf t) r->Q (some r) t):wpS (model prog w) A E s (tail3 n m) Q st:=by
 unfold tail3
 have B':=B.put (mirror_perm (arrOf st) 0 n ((n - 0) / 2))
 exact p4 (wpS_reverse (p4 (zib L d b a B' (turned (by rw[B.sz];omega) e) λr g f c _=>i7 (h r _ B' (by omega) f c))))
theorem zll {n m:Nat}{Q:DescSt->SortSt->Prop}(L:LtOk prog w A E s a₀ κ k)(J:m<=a₀.size)(z:1<=n)(l:n<=m)(B:SB k a₀ st)(F:NonIncK κ (arrOf st) n)
 (h:∀ r q t,SB k a₀ t->n<=r->r<=m->NonIncK κ (arrOf t) r->q+1<=r->(∀ i,r - (q+1)<=i->i < r->KK κ (arrOf t) i=KK κ (arrOf t) (r - 1))->Q (none,r,q) t):wpS (model prog w) A E s (descLoop n m) Q st:=by
 unfold descLoop
 refine u1C (I:=λx c t=>∃ q,c=(none,x,q)/\SB k a₀ t/\NonIncK κ (arrOf t) x/\q+1<=x/\∀ i,x - (q+1)<=i->i < x->KK κ (arrOf t) i=KK κ (arrOf t) (x - 1))
  (λx c t C D y=>?_) (λc t y=>?_) ⟨0,rfl,B,F,z,λi o b=>by rw[show i=n - 1 from u1f (u0P b) o]⟩
 .obtain⟨q,rfl,B1,g,u,j⟩:=y
  have a:x < a₀.size:=t8 D J
  have f:x - 1 < a₀.size:=j9 (Nat.sub_le _ _) a
  have p:1<=x:=k8 z C
  have G:x<=(arrOf t).size:=by rw[B1.sz];exact f6 a
  refine p4 (L _ x (x - 1) _ B1 a f ?_)
  cases c:κ.blt (KK κ (arrOf t) x) (KK κ (arrOf t) (x - 1)) with
  | true =>
   have d:=zlm g p (u1t c)
   by_cases v:q > 0
   .show wpS _ _ _ _ (if q > 0 then _ else _) _ _
    rw[t6 v]
    exact p4 (wpS_reverse (i7 ⟨0,rfl,B1.put (mirror_perm _ _ _ _),W1 (KK_mirror_equal G j) d,u1G (o5 _),λi o b=>by rw[show i=x+1 - 1 from u1f (g4 b) o]⟩))
   .show wpS _ _ _ _ (if q > 0 then _ else _) _ _
    rw[t9 v]
    exact i7 ⟨0,rfl,B1,d,u1G (o5 _),λi o b=>by rw[show i=x+1 - 1 from u1f (g4 b) o]⟩
  | false =>
   refine p4 (L _ (x - 1) x _ B1 f a ?_)
   cases b:κ.blt (KK κ (arrOf t) (x - 1)) (KK κ (arrOf t) x) with
   | true=>exact i7 (h x q t B1 C (f6 D) g u j)
   | false =>
    have same:KK κ (arrOf t) x=KK κ (arrOf t) (x - 1):=KeyOrd.kle_antisymm b c
    refine i7 ⟨q+1,rfl,B1,zlm g p b,u1G u,λi M K=>?_⟩
    show KK κ (arrOf t) i=KK κ (arrOf t) x
    by_cases H:i=x
    .rw[H]
    .rw[same];exact j i (by omega) (by omega)
 .obtain⟨q,rfl,B1,g,u,j⟩:=y
  have e:max n m=m:=Nat.max_eq_right l
  rw[e]at g u j ⊢
  exact h m q t B1 l (t4 _) g u j
theorem XF {n m:Nat}{Q:Option Nat->SortSt->Prop}(L:LtOk prog w A E s a₀ κ k)(c:m<=a₀.size)(b:n+1<=m)(B:SB k a₀ st)(f:NonIncK κ (arrOf st) (n+1))
 (h:∀ r t,SB k a₀ t->1<=r->r<=m->SortedToK κ (arrOf t) r->Q (some r) t):wpS (model prog w) A E s (descPart n m) Q st:=by
 unfold descPart
 refine p4 (wpS_lift (u08 ⟨rfl,p4 (zll L c (by omega) b B f λr q t B1 l d e j g=>?_)⟩))
 have i:r<=(arrOf t).size:=by rw[B1.sz];omega
 by_cases a:q > 0
 .show wpS _ _ _ _ (if q > 0 then _ else _) _ _
  rw[t6 a]
  exact p4 (wpS_reverse (zen (n:=r) L c (by omega) d (B1.put (mirror_perm _ _ _ _)) (W1 (KK_mirror_equal i g) e) h))
 .show wpS _ _ _ _ (if q > 0 then _ else _) _ _
  rw[t9 a]
  exact zen (n:=r) L c (by omega) d B1 e h
theorem zmF {m:Nat}{Q:Option Nat->SortSt->Prop}(L:LtOk prog w A E s a₀ κ k)(b:m<=a₀.size)(p:1<=m)(B:SB k a₀ st)
 (h:∀ r t,SB k a₀ t->1<=r->r<=m->SortedToK κ (arrOf t) r->Q (some r) t):wpS (model prog w) A E s (countRun' 0 m) Q st:=by
 rw[countRun0_eq]
 refine p4 (zib L b (t4 1) p B zgg λn l o a or=>?_)
 show wpS _ _ _ _ (if (n == m)=true then _ else if n > 1 then _ else _) _ _
 by_cases e:n=m
 .rw[t6 (by rw[e];exact u0A m)]
  exact i7 (h n st B l o a)
 .rw[t9 (λz=>e (eq_of_beq z))]
  have f:=or.resolve_left e
  by_cases g:n > 1
  .rw[t6 g]
   refine p4 (L _ 0 (n - 1) _ B (by omega) (by omega) ?_)
   cases c:κ.blt (KK κ (arrOf st) 0) (KK κ (arrOf st) (n - 1)) with
   | true=>exact i7 (h n st B l o a)
   | false =>
    have q:n<=(arrOf st).size:=by rw[B.sz];omega
    have d:∀ i,0<=i->i < n->KK κ (arrOf st) i=KK κ (arrOf st) (n - 1):=λi _ v =>
     KeyOrd.kle_antisymm (a i (n - 1) (by omega) (by omega)) (u1D c (a 0 i (by omega) v))
    have u:NonIncK κ (arrOf st) n:=λi j _ x=>by rw[d i (by omega) (by omega),d j (by omega) x];exact u0f _
    exact p4 (wpS_reverse (XF L b (by omega) (B.put (mirror_perm _ _ _ _)) (W1 (KK_mirror_equal q d) (zlm u (by omega) (u1t f))) h))
  .rw[t9 g]
   obtain rfl:n=1:=by omega
   exact XF L b (by omega) B (zlm zf5 (t4 1) (u1t f)) h
theorem zpI {l u a:Nat}(h:(l+u) / 2=a)(c:¬ l >= u):l<=a/\a < u:=by
 have b:l < u:=Nat.lt_of_not_le c
 rw[<-h]
 exact⟨(Nat.le_div_iff_mul_le (by decide)).mpr (by rw[Nat.mul_two];exact u0y (f6 b) l),(Nat.div_lt_iff_lt_mul (by decide)).mpr (by rw[Nat.mul_two];exact Nat.add_lt_add_right b u)⟩
theorem zrv {l u a x y:Nat}(c:l<=a)(b:a < u)(d:u - l<=x - y):a - l<=x - (y+1) :=
 k8 (u0P (Nat.sub_lt_sub_right c b)) (u1I d 1)
theorem zq8 {l u a x y:Nat}(c:l<=a)(b:u - l<=x - y):u - (a+1)<=x - (y+1) :=
 k8 (Nat.sub_le_sub_left (u1G c) u) (u1I b 1)
theorem zpu (r n:Nat):min (max (max r 1) n) n=n:=Nat.min_eq_right (Nat.le_max_right _ _)
theorem zp9 {r n:Nat}(b:¬ r=0)(a:r<=n):min (max r 1) n=r:=by
 rw[Nat.max_eq_left (Nat.pos_of_ne_zero b),u0G a]
theorem zqv {i j r n:Nat}(b:r=0)(a:i<=j)(d:j < min (max r 1) n):i=j:=by
 subst b
 have c:j=0:=Nat.lt_one_iff.mp (t8 d (Nat.min_le_left _ _))
 subst c
 exact Nat.le_zero.mp a
theorem zng {n r:Nat}{Q:Bool->SortSt->Prop}(L:LtOk prog w A E s a₀ κ k)(W:n<=a₀.size)(V:r<=n)(B:SB k a₀ st)(X:SortedToK κ (arrOf st) r)
 (h:∀ t,SB k a₀ t->SortedToK κ (arrOf t) n->Q true t):wpS (model prog w) A E s (binarySort' 0 n r) Q st:=by
 rw[binarySort'_eq]
 refine p4 (wpS_mono (u1C (I:=λx c t=>(c=(none,())/\SB k a₀ t)/\SortedToK κ (arrOf t) (min x n)) (Q:=λc t=>(c=(none,())/\SB k a₀ t)/\SortedToK κ (arrOf t) n)
  (λx c t g1 P F=>?_) (λc t F=>?_) ⟨⟨rfl,B⟩,?_⟩) λc t F=>?_)
 .obtain⟨⟨rfl,B1⟩,d⟩:=F
  rw[u0G (f6 P)]at d
  have M:x < a₀.size:=t8 P W
  refine p4 (wpS_mono (u1C
   (I:=λy c f=>f=t/\∃ l u,c=(none,l,u)/\(l<=u/\u<=x/\u - l<=x - y)/\(∀ i,i < l->κ.kle (KK κ (arrOf t) i) (KK κ (arrOf t) x))/\∀ i,u<=i->i < x->κ.klt (KK κ (arrOf t) x) (KK κ (arrOf t) i))
   (Q:=λc f=>f=t/\∃ l u,c=(none,l,u)/\l<=x/\(∀ i,i < l->κ.kle (KK κ (arrOf t) i) (KK κ (arrOf t) x))/\∀ i,l<=i->i < x->κ.klt (KK κ (arrOf t) x) (KK κ (arrOf t) i))
   (λy c f Z y2 K=>?_) (λc f K=>?_) ⟨rfl,0,x,rfl,⟨o5 _,t4 _,t4 _⟩,λi Y=>absurd Y (Nat.not_lt_zero _),λi b m=>absurd (j9 b m) (l7 _)⟩) λc f K=>?_)
  .obtain⟨rfl,l,u,rfl,⟨J,g,N⟩,v,z⟩:=K
   show wpS _ _ _ _ (if l >= u then _ else _) _ _
   by_cases C:l >= u
   .rw[t6 C]
    obtain rfl:l=u:=u1f J C
    exact i7 ⟨rfl,l,l,rfl,g,v,z⟩
   .rw[t9 C]
    generalize D:(l+u) / 2=md
    obtain⟨O,G⟩:=zpI D C
    clear D C J
    refine p4 (L _ (0+x) (0+md) _ B1 (by rw[m3];exact M) (by rw[m3];exact t8 G (k8 g (f6 M))) ?_)
    rw[m3,m3]
    cases R:κ.blt (KK κ (arrOf f) x) (KK κ (arrOf f) md) with
    | true=>exact i7 ⟨rfl,l,md,rfl,⟨O,k8 (f6 G) g,zrv O G N⟩,v,λi b m=>KeyOrd.klt_of_klt_of_kle R (d _ _ b m)⟩
    | false=>exact i7 ⟨rfl,md+1,u,rfl,⟨G,g,zq8 O N⟩,λi b=>u1D (d i md (g4 b) (t8 G g)) R,z⟩
  .obtain⟨rfl,l,u,rfl,⟨J,g,N⟩,v,z⟩:=K
   obtain rfl:l=u:=by omega
   exact⟨rfl,l,l,rfl,g,v,z⟩
  .obtain⟨rfl,l,u,rfl,g,v,z⟩:=K
   show wpS _ _ _ _ (do moveDown' (0+x) (0+l);pure (ForInStep.yield (none,()))) _ _
   rw[moveDown'_eq,m3,m3]
   refine p4 (wpS_modify (i7 ⟨⟨rfl,B1.put (bubble_perm _ _ _)⟩,?_⟩))
   have S:x < (arrOf f).size:=by rw[B1.sz];exact M
   rw[u0G (Nat.succ_le_of_lt P)]
   show SortedToK κ (bubble (arrOf f) x (x - l)) (x+1)
   intro i j a o
   rw[KK_bubble S (Nat.sub_le _ _),KK_bubble S (Nat.sub_le _ _),Nat.sub_sub_self g]
   by_cases b:i=l
   .rw[t6 b]
    by_cases q:j=l
    .rw[t6 q];exact u0f _
    .have p:l < j:=u0C (by rw[<-b];exact a) (λe=>q e.symm)
     rw[t9 q,t6 ⟨p,g4 o⟩];exact u1t (z _ (u0P p) (t8 (Nat.sub_lt (u2x p) Nat.one_pos) (g4 o)))
   .rw[t9 b]
    by_cases m:l < i/\i<=x
    .have p:=t8 m.1 a
     rw[t6 m,t9 (λe=>absurd p (by rw[e];exact l7 _)),t6 ⟨p,g4 o⟩];exact d _ _ (u1I a 1) (t8 (Nat.sub_lt (u2x p) Nat.one_pos) (g4 o))
    .rw[t9 m]
     have T:i < l:=u0C (m4 λh=>m ⟨h,k8 a (g4 o)⟩) b
     clear m b
     by_cases q:j=l
     .rw[t6 q];exact v i T
     .rw[t9 q]
      by_cases H:l < j/\j<=x
      .rw[t6 H];exact d _ _ (u0P (Nat.lt_trans T H.1)) (t8 (Nat.sub_lt (u2x H.1) Nat.one_pos) (g4 o))
      .rw[t9 H];exact d _ _ a (t8 (u0C (m4 λh=>H ⟨h,g4 o⟩) q) g)
 .obtain⟨⟨J,B1⟩,d⟩:=F
  rw[zpu]at d
  exact⟨⟨J,B1⟩,d⟩
 .by_cases U:r=0
  .intro i j a o
   obtain rfl:i=j:=zqv U a o
   exact u0f _
  .rw[zp9 U V];exact X
 .obtain⟨⟨rfl,B1⟩,d⟩:=F
  exact i7 (h t B1 d)
theorem own_runs {Q:Unit->SortSt->Prop}(L:LtOk prog w A E s a₀ κ k)(B:SB k a₀ st)(F:2<=a₀.size)(p:a₀.size < 64)
 (h:∀ t,(arrOf t).Perm a₀->failedOf t=none->SortedToK κ (arrOf t) a₀.size->Q () t):wpS (model prog w) A E s sortRuns' Q st:=by
 rw[sortRuns'_eq]
 have n:minRun' a₀.size a₀.size 0=a₀.size:=by
  cases e:a₀.size with
  | zero=>omega
  | succ f=>rw[minRun'_succ,t6 (by omega),Nat.add_zero]
 refine p4 (wpS_get ?_)
 simp only[B.sz,n]
 let Dn:SortSt->Prop:=λt=>(arrOf t).Perm a₀/\failedOf t=none/\pendingOf t=#[(0,a₀.size,0)]/\SortedToK κ (arrOf t) a₀.size
 have fin:∀ t,SB k a₀ t->SortedToK κ (arrOf t) a₀.size->Dn (setPending t ((pendingOf t).push (0,a₀.size,0))):=λt B1 v=>⟨B1.pm,B1.fl,by show(pendingOf t).push _=_;rw[B1.pd];rfl,v⟩
 refine p4 (wpS_mono (u1C (I:=λx c t=>(x=0/\c=(none,0)/\SB k a₀ t)\/(1<=x/\c=(none,a₀.size)/\Dn t)) (Q:=λc t=>c=(none,a₀.size)/\Dn t)
  (λx c t D G a=>?_) (λc t a=>?_) (.inl ⟨rfl,rfl,B⟩)) λc t a=>?_)
 .rcases a with ⟨rfl,rfl,B1⟩ | ⟨_,rfl,D1⟩
  .show wpS _ _ _ _ (if 0 >= a₀.size then _ else _) _ _
   rw[t9 (by omega)]
   simp only[Nat.sub_zero,u21,m3]
   refine p4 (zmF L (t4 _) (by omega) B1 λr j B2 C u g=>?_)
   show wpS _ _ _ _ (if r < a₀.size then _ else _) _ _
   by_cases d:r < a₀.size
   .rw[t6 d]
    refine p4 (wpS_lift (u08 ⟨rfl,p4 (zng L (t4 _) u B2 g λi B3 l=>?_)⟩))
    refine p4 (wpS_get ?_)
    rw[show(pendingOf i).back?=none by rw[B3.pd];rfl]
    exact p4 (wpS_modify (i7 (.inr ⟨by omega,rfl,fin i B3 l⟩)))
   .rw[t9 d]
    obtain rfl:r=a₀.size:=by omega
    refine p4 (wpS_get ?_)
    rw[show(pendingOf j).back?=none by rw[B2.pd];rfl]
    exact p4 (wpS_modify (i7 (.inr ⟨by omega,rfl,fin j B2 g⟩)))
  .show wpS _ _ _ _ (if a₀.size >= a₀.size then _ else _) _ _
   rw[t6 (t4 _)]
   exact i7 ⟨rfl,D1⟩
 .rcases a with ⟨z,_,_⟩ | ⟨_,e,D1⟩
  .omega
  .exact⟨e,D1⟩
 .obtain⟨rfl,y,m,o,q⟩:=a
  refine p4 (wpS_mono (u1C (I:=λ_ c b=>b=t/\c=(none,())) (Q:=λc b=>b=t/\c=(none,())) (λx c b _ _ a=>?_) (λ_ _ z=>z) ⟨rfl,rfl⟩) λc b a=>?_)
  .obtain⟨rfl,rfl⟩:=a
   refine p4 (wpS_get ?_)
   rw[t6 (by rw[o];exact t4 1)]
   exact i7 ⟨rfl,rfl⟩
  .obtain⟨rfl,rfl⟩:=a
   exact i7 (h _ y m q)
end
abbrev Pr:=Int × Int
def zoG (s t:Pr):Bool:=decide (s.1 < t.1\/(s.1=t.1/\s.2 < t.2))
def TP (h:Heap) (v:Value) (t:Pr):Prop:=∃ a o n b ty,v=.ref a/\h.get? a=some o/\o.cls=.type "tuple"/\o.data=.seq #[.int t.1 b,.int t.2 ty] n
theorem TP.uniq {h:Heap}{v:Value}{s t:Pr}(x:TP h v s)(y:TP h v t):s=t:=by
 obtain⟨a,o,n,i,ty,rfl,g,_,f⟩:=x
 obtain⟨b,m,j,l,k,e,d,_,c⟩:=y
 cases e
 rw[g]at d
 cases d
 rw[f]at c
 injection c with c _
 have:=i6 Array.toList c
 simp at this
 exact u3c this.1.1 this.2.1
theorem TP.keep {h c:Heap}{v:Value}{t:Pr}(x:TP h v t)(k:∀ b o,h.get? b=some o->c.get? b=some o):TP c v t:=by
 obtain⟨a,o,n,d,ty,e,f,r⟩:=x
 exact⟨a,o,n,d,ty,e,k _ _ f,r⟩
open Classical in
noncomputable def keyP (h:Heap)(v:Value):Option Pr:=if x:∃ t,TP h v t then some x.choose else none
@[reducible] noncomputable def kindP (h:Heap):KeyKind where
 α:=Pr
 blt:=zoG
 irrefl a:=by unfold zoG;exact j5 (by omega)
 trans a b c h1 h2:=by unfold zoG at *;rw[j6]at *;omega
 negTrans a b c h:=by unfold zoG at *;rw[j6]at *;rw[j6];omega
 total a b h1 h2:=by
  unfold zoG at *
  rw[l9]at *
  exact u3c (by omega) (by omega)
 keyOf:=keyP h
 dflt:=(0,0)
theorem zjJ (b:Bool)(x y:Value):keyLt' (tuples' b) x y=(do
 let xs<-Builtin.List.listItems x
 let ys<-Builtin.List.listItems y
 for ((p,q),i)in (xs.toList.zip ys.toList).zipIdx do
  if !(<- eqBool p q)then return<-oneLt' (b&&i == 0) p q
 return xs.size < ys.size):=rfl
theorem ziD (v:Value):firstOfTuple' v=(do
 if (<- typeOf v) != .type "tuple" then return none
 return (<- Builtin.List.listItems v)[0]?):=rfl
section
variable {prog:Program}{w:World}{A:Around}{E:Value->Shared->Prop}{s:Shared}
theorem lt0 {a b:Int}{t u:Tok}{Q:Bool->Shared->Prop}(h:Q (decide (a < b)) s):wpAny (model prog w) A (oneLt' false (.int a t) (.int b u)) Q E s:=by
 rw[oneLt'_eq]
 rw[t9 u7]
 exact u0 (PyProof.Rows.lt_int (p8 h))
theorem zff:∀ {a:List Value},(∀ f∈a,∃ i t,f=.int i t)->a.mapM typeOf=pure (a.map λ_=>Value.type "int")
 | [],_=>by simp
 | f::a,h=>by
  obtain⟨i,t,rfl⟩:=h f r0
  rw[List.mapM_cons,zff λg b=>h g (j8 _ b),show typeOf (.int i t)=pure (.type "int")from rfl]
  simp
end
end OwnSort
namespace OwnTim
open PySem PyProof.Rows
def ky (κ:KeyKind)(x:Keyed):κ.α:=(κ.keyOf x.1).getD κ.dflt
def LtE (a:Program)(w:World)(A:Around)(E:Value->Shared->Prop)(s:Shared)(κ:KeyKind)(k:SortKind)(D:Keyed->Prop):Prop :=
 ∀ (b:SortSt) (x y:Keyed) (Q:Option Bool->SortSt->Prop),kindOf b=k->D x->D y->Q (some (κ.blt (ky κ x) (ky κ y))) b->wpS (model a w) A E s (lt' x y) Q b
section
variable {prog:Program}{w:World}{A:Around}{E:Value->Shared->Prop}{s:Shared}{a₀:Array Keyed}{κ:KeyKind}{k:SortKind}{st:SortSt}
theorem zpc {a:Array Keyed}{i:Nat}{x:Keyed}(h:a[i]?=some x):KK κ a i=ky κ x:=by
 unfold KK
 rw[h]
 rfl
theorem zon (L:LtE prog w A E s κ k (·∈a₀.toList)):OwnSort.LtOk prog w A E s a₀ κ k:=by
 intro st i j Q S c h q
 have a:∀ {i},i < a₀.size->∃ x,(arrOf st)[i]?=some x/\x∈a₀.toList:=λ{i} c=>by
  have b:i < (arrOf st).size:=by rw[S.sz];exact c
  exact⟨(arrOf st)[i],getElem?_pos _ i b,(u15.mp S.pm).mem_iff.mp (by simp)⟩
 obtain⟨x,d,g⟩:=a c
 obtain⟨y,e,f⟩:=a h
 rw[zpc d,zpc e]at q
 rw[ltAt'_eq]
 refine p4 (wpS_get ?_)
 show wpS _ _ _ _ (elem' (arrOf st) i>>=λx=>elem' (arrOf st) j>>=λy=>lt' x y) Q st
 rw[elem'_eq,elem'_eq,d,e]
 exact p4 (i7 (p4 (i7 (L _ _ _ _ S.kd g f q))))
theorem own_runsE {Q:Unit->SortSt->Prop}(L:LtE prog w A E s κ k (·∈a₀.toList))(c:(arrOf st).Perm a₀)(b:kindOf st=k)(d:failedOf st=none)(e:pendingOf st=#[])
 (h:∀ t,(arrOf t).Perm a₀->failedOf t=none->SortedToK κ (arrOf t) a₀.size->Q () t) (f:2<=a₀.size) (a:a₀.size < 64):wpS (model prog w) A E s sortRuns' Q st:=OwnSort.own_runs (zon L) ⟨c,b,d,e⟩ f a h
end
end OwnTim
namespace OwnSortT
open PySem PyProof.Rows OwnSort
theorem lex_irr:∀ a:List Int,HT.lexLt a a=false:=by
 intro a
 induction a with
 | nil=>rfl
 | cons x c b=>rw[HT.lexLt_cons,t6 rfl,b]
theorem lex_trans:∀ a b c:List Int,HT.lexLt a b=true->HT.lexLt b c=true->HT.lexLt a c=true:=by
 intro a
 induction a with
 | nil =>
  intro b c e d
  cases c with
  | nil=>cases b <;> cases d
  | cons _ _=>rfl
 | cons x i h =>
  intro b c e d
  cases b with
  | nil=>cases e
  | cons y j=>cases c with
   | nil=>cases d
   | cons z zs =>
    rw[HT.lexLt_cons]at e d ⊢
    by_cases g:x=y
    .rw[t6 g]at e
     by_cases f:y=z
     .rw[t6 f]at d;rw[t6 (g.trans f)];exact h _ _ e d
     .rw[t9 f,j6]at d;rw[t9 (by omega),j6];omega
    .rw[t9 g,j6]at e
     by_cases f:y=z
     .rw[t9 (by omega),j6];omega
     .rw[t9 f,j6]at d;rw[t9 (by omega),j6];omega
theorem lex_total:∀ a b:List Int,HT.lexLt a b=false->HT.lexLt b a=false->a=b:=by
 intro a
 induction a with
 | nil =>
  intro b c d
  cases b with
  | nil=>rfl
  | cons _ _=>cases c
 | cons x g f =>
  intro b c d
  cases b with
  | nil=>cases d
  | cons y h =>
   rw[HT.lexLt_cons]at c d
   by_cases e:x=y
   .rw[t6 e]at c;rw[t6 e.symm]at d;rw[e,f _ c d]
   .rw[t9 e,l9]at c;rw[t9 (u0b e),l9]at d;omega
theorem lex_neg (a b c:List Int)(h:HT.lexLt a c=true):HT.lexLt a b=true\/HT.lexLt b c=true:=by
 cases e:HT.lexLt a b with
 | true=>exact .inl rfl
 | false =>
  refine .inr ?_
  cases d:HT.lexLt b a with
  | true=>exact lex_trans _ _ _ d h
  | false=>rw[<-lex_total _ _ e d];exact h
def TT (h:Heap) (v:Value) (t:List Int):Prop:=∃ a o n b,v=.ref a/\h.get? a=some o/\o.cls=.type "tuple"/\o.data=.seq b.toArray n/\IntsAre b t/\t≠[]
theorem zhz:∀ {d:List Value} {b a:List Int},IntsAre d b->IntsAre d a->b=a:=by
 intro d b a h
 induction h generalizing a with
 | nil=>intro c;cases c;rfl
 | cons n t h f=>intro c;cases c with | cons i g e=>rw[f e]
theorem TT.uniq {h:Heap}{v:Value}{s t:List Int}(x:TT h v s)(y:TT h v t):s=t:=by
 obtain⟨a,o,n,d,rfl,l,_,k,j,_⟩:=x
 obtain⟨b,p,m,c,e,g,_,f,i,_⟩:=y
 cases e
 rw[l]at g
 cases g
 rw[k]at f
 have q:d.toArray=c.toArray:=by injection f
 cases List.toArray_inj q
 exact zhz j i
theorem TT.keep {h d:Heap}{v:Value}{t:List Int}(x:TT h v t)(k:∀ b o,h.get? b=some o->d.get? b=some o):TT d v t:=by
 obtain⟨a,o,n,c,e,f,r⟩:=x
 exact⟨a,o,n,c,e,k _ _ f,r⟩
theorem TT.keepT {h f:Heap} {v:Value} {t:List Int} (x:TT h v t) (k:∀ b o,o.cls=.type "tuple"->h.get? b=some o->f.get? b=some o):TT f v t:=by
 obtain⟨a,o,n,d,e,g,c,r⟩:=x
 exact⟨a,o,n,d,e,k _ _ c g,c,r⟩
open Classical in
noncomputable def keyTT (h:Heap)(v:Value):Option (List Int):=if x:∃ t,TT h v t then some x.choose else none
theorem keyTT_of {h:Heap}{v:Value}{t:List Int}(x:TT h v t):keyTT h v=some t:=by
 unfold keyTT
 have y:∃ t,TT h v t:=⟨t,x⟩
 rw[dif_pos y,y.choose_spec.uniq x]
@[reducible] noncomputable def zeU (h:Heap):KeyKind where
 α:=List Int
 blt:=HT.lexLt
 irrefl:=lex_irr
 trans:=lex_trans
 negTrans:=lex_neg
 total:=lex_total
 keyOf:=keyTT h
 dflt:=[]
section
variable {prog:Program}{w:World}{A:Around}{E:Value->Shared->Prop}{s:Shared}
def zoD (d:Bool):List Int->List Int->Bool
 | x::xs,y::ys=>if x=y then zoD d xs ys else decide (x < y)
 | _,_=>d
theorem znW:∀ a b:List Int,zoD (decide (a.length < b.length)) a b=HT.lexLt a b:=by
 intro a
 induction a with
 | nil=>intro b;cases b with
  | nil=>rfl
  | cons _ _=>rfl
 | cons x d e=>intro b;cases b with
  | nil=>rfl
  | cons y c =>
   rw[HT.lexLt_cons,<- e c]
   show(if x=y then zoD (decide (d.length+1 < c.length+1)) d c else decide (x < y))=_
   rw[show decide (d.length+1 < c.length+1)=decide (d.length < c.length) by congr 1;apply propext;omega]
def zhW (x:(Value × Value) × Nat)(_:Option Bool × Unit):Sem (ForInStep (Option Bool × Unit)):=do
 let b<-eqBool x.1.1 x.1.2
 if (!b)=true then do
  let c<-oneLt' (true&&x.2 == 0) x.1.1 x.1.2
  pure (ForInStep.done (some c,()))
 else pure (ForInStep.yield (none,()))
theorem zky {d:Bool}:∀ {g:List Value} {f:List Int} {e:List Value} {b:List Int} {k:Nat} {Q:Option Bool × Unit->Shared->Prop},IntsAre g f->IntsAre e b->(∀ r:Option Bool × Unit,r.1.getD d=zoD d f b->Q r s) ->
 wpAny (model prog w) A (forIn ((g.zip e).zipIdx k) ((none,()):Option Bool × Unit) zhW) Q E s:=by
 intro g f e b k Q i
 induction i generalizing e b k with
 | nil=>intro a q;exact u6 (q (none,()) rfl)
 | cons x t i l =>
  intro a q
  cases a with
  | nil=>exact u6 (q (none,()) rfl)
  | cons y u a =>
   rw[u2a,List.zipIdx_cons,u2Y]
   refine u0 (u0 (u2e x t y u prog w E _ ?_))
   by_cases c:x=y
   .rw[show(x == y)=true by rw[c];exact u0A _]
    refine u6 (l a λr j=>q r (j.trans ?_))
    show _=(if x=y then zoD d _ _ else decide (x < y))
    rw[t6 c]
   .rw[show(x == y)=false by simpa using c]
    have h:Q (some (decide (x < y)),()) s:=q _ (by
     show decide (x < y)=(if x=y then zoD d _ _ else decide (x < y))
     rw[t9 c])
    cases k with
    | zero=>exact u0 (oneLt_int (u6 (u6 h)))
    | succ k=>exact u0 (lt0 (u6 (u6 h)))
theorem zn5 {x y:Value}{a b:List Int}{Q:Bool->Shared->Prop}(l:TT s.heap x a)(k:TT s.heap y b)(h:Q (HT.lexLt a b) s):wpAny (model prog w) A (keyLt' (tuples' true) x y) Q E s:=by
 obtain⟨p,o,n,c,rfl,z,_,t,i,_⟩:=l
 obtain⟨q,F,D,f,rfl,C,_,m,g,_⟩:=k
 rw[zjJ]
 refine u0 (listItems_at z t (u0 (listItems_at C m ?_)))
 show wpAny _ _ (forIn ((c.zip f).zipIdx 0) ((none,()):Option Bool × Unit) zhW>>=_) _ _ _
 refine u0 (zky (d:=decide (c.length < f.length)) i g λr j=>?_)
 have e:Q (r.1.getD (decide (c.length < f.length))) s:=by
  rw[j,i.length,g.length,znW];exact h
 obtain⟨B,u⟩:=r
 cases B with
 | none=>exact u6 e
 | some v=>exact u6 e
theorem zke {d:List Value}(n:∀ v∈d,∃ t,TT s.heap v t):OwnTim.LtE prog w A E s (zeU s.heap) (tuples' true) (·∈(pairsOf d).toList):=by
 intro o x y Q g k j h
 have c:∀ {x:Keyed},x∈(pairsOf d).toList->∃ t,TT s.heap x.1 t/\OwnTim.ky (zeU s.heap) x=t:=λ{x} hm=>by
  rw[pairsOf_toList]at hm
  obtain⟨t,e⟩:=n _ (mem_zip_self hm).2
  refine⟨t,e,?_⟩
  unfold OwnTim.ky
  show(keyTT s.heap x.1).getD _=t
  rw[keyTT_of e]
  rfl
 obtain⟨a,m,f⟩:=c k
 obtain⟨b,i,l⟩:=c j
 rw[f,l]at h
 rw[lt'_eq]
 refine p4 (wpS_get ?_)
 rw[g]
 exact p4 (wpS_lift (u0p (zn5 m i ⟨rfl,i7 h⟩)))
theorem zas:∀ {e:List Value} {Q:List (Option Value)->Shared->Prop},(∀ v∈e,∃ t,TT s.heap v t)->(∀ c:List Value,c.length=e.length->(∀ f∈c,∃ i t,f=.int i t)->Q (c.map some) s)->wpAny (model prog w) A (e.mapM firstOfTuple') Q E s
 | [],Q,_,h=>by rw[List.mapM_nil];exact u6 (h [] rfl (by simp))
 | v::e,Q,hT,h=>by
  obtain⟨t,a,o,n,k,rfl,l,p,x,m,j⟩:=hT v r0
  obtain⟨z,zs,g,d,rfl,rfl⟩:∃ z zs g d,k=z::zs/\z=.int g d:=by
   cases m with
   | nil=>exact absurd rfl j
   | cons g d m=>exact⟨_,_,_,_,rfl,rfl⟩
  rw[List.mapM_cons,ziD]
  refine u0 (u0 (u0x (T:="tuple") ⟨o,l,p⟩ ?_))
  rw[t9 (by simp)]
  refine u0 (listItems_at l x (u6 (u0 (zas (λu q=>hT u (j8 _ q)) λc r y=>u6 ?_))))
  exact h (.int g d::c) (by simp[r]) λf b=>by
   rcases q4.mp b with rfl | b
   .exact⟨_,_,rfl⟩
   .exact y f b
theorem zg5 {b:Value}{c:List Value}{Q:SortKind->Shared->Prop}(j:∀ v∈b::c,∃ t,TT s.heap v t)(h:Q (tuples' true) s):wpAny (model prog w) A (keyKind' (b::c).toArray) Q E s:=by
 rw[keyKind'_eq,List.mapM_toArray,<- bind_pure_comp,bind_assoc]
 refine u0 (zas j λa d g=>u0 (u6 ?_))
 cases a with
 | nil=>simp at d
 | cons f a =>
  rw[t6 (by simp)]
  have i:((f::a).map some).toArray.filterMap id=(f::a).toArray:=by simp
  refine u0 (u08 ?_)
  rw[i,oneTypeOnly'_eq,List.mapM_toArray,zff g]
  simp only[map_pure,pure_bind]
  rw[show(List.map (λ_=>Value.type "int") (f::a)).toArray[0]?=some (Value.type "int") by simp]
  have e:((List.map (λ_=>Value.type "int") (f::a)).toArray.all λx=>x == Value.type "int")=true:=by
   simp only[List.all_toArray,u1A,m7]
   intro _ _
   rfl
  simp only[e,u2p,pure_bind,Option.any_some]
  rw[show(Value.type "int" != Value.type "tuple")=true by decide +kernel]
  exact u6 h
end
def Rise (h:Heap)(c:List Value):Prop:=∃ d:List (List Int),c.length=d.length/\(∀ (i:Nat) (v:Value) (t:(List Int)),c[i]?=some v->d[i]?=some t->TT h v t)/\d.Pairwise λa b=>HT.lexLt b a=false
theorem zjj {h c:Heap}{a:List Value}{xs:Array Keyed}(z:∀ v∈a,∃ t,TT h v t)(n:∀ v t,TT h v t->TT c v t)(m:xs.Perm (pairsOf a))(q:SortedToK (zeU c) xs (pairsOf a).size):(xs.map (·.2)).toList.Perm a/\Rise h (xs.map (·.2)).toList:=by
 have l:xs.toList.Perm (a.zip a):=by rw[<-pairsOf_toList];exact u15.mp m
 have r:∀ p∈xs.toList,p.1=p.2/\p.1∈a:=λp o=>mem_zip_self (l.mem_iff.mp o)
 have y:(xs.map (·.2)).toList=xs.toList.map (·.2):=by simp
 rw[y]
 refine⟨?_,xs.toList.map λp=>(keyTT c p.1).getD ([]:List Int),by simp,λi v t d b=>?_,?_⟩
 .have:=l.map (·.2)
  rwa[show(a.zip a).map (·.2)=a from List.map_snd_zip (t4 _)]at this
 .rw[j1]at d b
  cases g:xs.toList[i]? with
  | none=>rw[g]at d;cases d
  | some p =>
   rw[g]at d b
   cases d
   cases b
   obtain⟨x,s⟩:=r p (k6 g)
   obtain⟨t,b⟩:=z _ s
   show TT h p.2 ((keyTT c p.1).getD ([]:List Int))
   rw[keyTT_of (n _ _ b),<- x]
   exact b
 .rw[List.pairwise_iff_getElem]
  intro i j w u k
  have f:i < xs.size:=by simpa using w
  have e:j < xs.size:=by simpa using u
  have:=q i j (f6 k) (by rw[<-m.size_eq];exact e)
  unfold KK at this
  rw[getElem?_pos xs i f,getElem?_pos xs j e]at this
  have this:HT.lexLt ((keyTT c xs[j].1).getD ([]:List Int)) ((keyTT c xs[i].1).getD ([]:List Int))=false:=this
  simpa using this
section
variable {prog:Program}{w:World}{A:Around}{E:Value->Shared->Prop}{s:Shared}
theorem ownT_list_sort {a:Addr} {d:List Value} {n:Nat} {P:Fin->Shared->Prop} (p:s.heap.get? a=some (seqObj "list" d.toArray n)) (C:∀ v∈d,∃ t,TT s.heap v t) (y:d.length < 64)
 (h:∀ f:Array Value,f.toList.Perm d->Rise s.heap f.toList->P (.done (.ret .none)) { s with heap:=sortedHeap s.heap a d f }):wpAny (model prog w) A (Builtin.«list.sort» ⟨[.ref a],[]⟩) P E s:=by
 have N:a < s.heap.objs.size:=t3 p
 have M:d.toArray.size=d.length:=t5
 obtain⟨g,H⟩:∃ g,(s.heap.update a (Obj.mapSeq λ_=>#[])).get? a=some (seqObj "list" #[] g):=⟨_,get?_update_seq p (λ_=>#[])⟩
 have u:(((s.heap.update a (Obj.mapSeq λ_=>#[])).push (seqObj "tuple" d.toArray 0)).push (seqObj "list" #[] 0)).get? a=some (seqObj "list" #[] g):=u5 _ (u5 _ H)
 have G:∀ b o,o.cls=.type "tuple"->s.heap.get? b=some o->(((s.heap.update a (Obj.mapSeq λ_=>#[])).push (seqObj "tuple" d.toArray 0)).push (seqObj "list" #[] 0)).get? b=some o:=λb o c e=>by
  refine u5 _ (u5 _ ((r9 _ _ λz=>?_).trans e))
  subst z
  rw[p]at e
  cases e
  exact absurd (show Value.type "list"=Value.type "tuple" from c) (by decide +kernel)
 have m:∀ v∈d,∃ t,TT (((s.heap.update a (Obj.mapSeq λ_=>#[])).push (seqObj "tuple" d.toArray 0)).push (seqObj "list" #[] 0)) v t:=λv I=>let ⟨t,l⟩:=C v I;⟨t,l.keepT G⟩
 rw[list_sort_plain]
 refine u0 (listItems_at p rfl (u0 (listUpdate_at p rfl (u0 (seqEpoch_at H rfl (u0 (wpAny_newTuple (u0 (wpAny_newList (r6 ?_))))))))))
 show wpAny (model prog w) A _ P E { s with heap:=((s.heap.update a (Obj.mapSeq λ_=>#[])).push (seqObj "tuple" d.toArray 0)).push (seqObj "list" #[] 0) }
 by_cases k:d.toArray.size < 2
 .rw[t6 k,t6 k]
  refine u0 (u6 ?_)
  dsimp only
  rw[StateT.run_pure]
  refine u0 (u6 ?_)
  obtain⟨B,D⟩:=zjj (xs:=pairsOf d) C (λv t l=>l) (Array.Perm.refl _) (λi j J K=>by
   obtain rfl:i=j:=by rw[u2h]at K;omega
   exact u0f _)
  refine u0 (seqEpoch_at u rfl (u0 (listUpdate_at u rfl ?_ (hsz2:=by rw[Array.size_map];show(pairsOf d).size<=_;rw[u2h,u0r];omega))))
  rw[show(g != g)=false by simp]
  exact u6 (h _ B D)
 .rw[t9 k,t9 k]
  cases d with
  | nil=>simp at k
  | cons r rest =>
   refine u0 (zg5 m ?_)
   refine u0 (o8 (OwnTim.own_runsE (st:=SortSt.mk' (tuples' true) ((r::rest).toArray.zip (r::rest).toArray) #[] 7 none) (Q:=λ_ t=>(arrOf t).Perm (pairsOf (r::rest))/\failedOf t=none/\SortedToK (zeU _) (arrOf t) (pairsOf (r::rest)).size)
    (zke m) (Array.Perm.refl _) rfl rfl rfl (λt q x F=>⟨q,x,F⟩) (by rw[u2h];rw[t5]at k;omega) (by rw[u2h];exact y)) ?_ λ_ _ e=>e)
   rintro⟨⟨⟩,t⟩ L ⟨rfl,q,x,F⟩
   obtain⟨B,D⟩:=zjj C (λv t l=>l.keepT G) q F
   refine u0 (seqEpoch_at u rfl (u0 (listUpdate_at u rfl ?_ (hsz2:=by rw[Array.size_map];show(arrOf t).size<=_;rw[q.size_eq,u2h,u0r];omega))))
   rw[x,show(g != g)=false by simp]
   exact u6 (h _ B D)
end
end OwnSortT
namespace OwnSort
open PySem PyProof.Rows
def Rise (h:Heap)(c:List Value):Prop:=∃ d:List Pr,c.length=d.length/\(∀ (i:Nat) (v:Value) (t:Pr),c[i]?=some v->d[i]?=some t->TP h v t)/\d.Pairwise λa b=>zoG b a=false
theorem TP.tt {h:Heap}{v:Value}{t:Pr}(x:TP h v t):OwnSortT.TT h v [t.1,t.2]:=by
 obtain⟨a,o,n,f,ty,c,e,d,b⟩:=x
 exact⟨a,o,n,[.int t.1 f,.int t.2 ty],c,e,d,b,.cons _ _ (.cons _ _ .nil),List.cons_ne_nil _ _⟩
end OwnSort
namespace Dl
open PySem L2
class KK where
 K:W.Frag
inductive D where
 | non | bl (b:Bool) | int (i:Int) | str (x:Str) | tup (ds:List D) | lst (ds:List D) | scr (ns:List Int)
  | dct (z t:Bool) (ks:List (List Key)) (vs:List D)
 deriving Inhabited
section
variable [KK]
def zbC (o:HO)(t:Bool)(c:List (List Key))(b:List V):Prop :=
 if t=true then ∃ a,o=.dT a/\a.map (·.1)=c/\a.map (·.2)=b else ∃ a:List (Key × V),o=.dK a/\a.map (λp=>[p.1])=c/\a.map (·.2)=b
def za9 (H:Hp)(a:Addr)(z t:Bool)(d:List (List Key))(b:List V):Prop :=
 ∃ u,zbC u t d b/\if z=true then ∃ c,H a=some (.frz c u)else H a=some u
theorem za9.mono {H H':Hp}{a:Addr}{z t:Bool}{d:List (List Key)}{c:List V}(s:yU H H')(h:za9 H a z t d c):za9 H' a z t d c:=by
 obtain⟨u,f,b⟩:=h
 refine⟨u,f,?_⟩
 cases z with
 | true =>
  rw[t6 rfl]at b ⊢
  obtain⟨e,b⟩:=b
  exact⟨e,s _ _ b⟩
 | false =>
  rw[t9 u7]at b ⊢
  exact s _ _ b
theorem za9.rd {H:Hp}{a:Addr}{z t:Bool}{d:List (List Key)}{c:List V}(h:za9 H a z t d c):∃ u,zbC u t d c/\Rd H a u:=by
 obtain⟨u,f,b⟩:=h
 refine⟨u,f,?_⟩
 cases z with
 | true =>
  rw[t6 rfl]at b
  obtain⟨e,b⟩:=b
  exact .inr ⟨e,b⟩
 | false =>
  rw[t9 u7]at b
  exact .inl b
mutual
def At (H:Hp):D->V->Prop
 | .non,v=>v=.non
 | .bl b,v=>v=.bl b
 | .int i,v=>v=.int i
 | .str x,v=>v=.str x
 | .tup ds,v=>∃ a c,v=.ref a/\H a=some (.tup c)/\AtL H ds c
 | .lst ds,v=>∃ a c,v=.ref a/\H a=some (.lst c)/\AtL H ds c
 | .scr ns,v=>∃ a,v=.ref a/\SqL KK.K H a (ns.map V.int)
 | .dct z t ks vs,v=>∃ a c,v=.ref a/\za9 H a z t ks c/\AtL H vs c
def AtL (H:Hp):List D->List V->Prop
 | [],xs=>xs=[]
 | d::ds,xs=>∃ x r,xs=x::r/\At H d x/\AtL H ds r
end
mutual
theorem At.mono {H H':Hp}(s:yU H H'):∀ {d:D} {v:V},At H d v->At H' d v
 | .non,_,h=>by unfold At at h ⊢;exact h
 | .bl _,_,h=>by unfold At at h ⊢;exact h
 | .int _,_,h=>by unfold At at h ⊢;exact h
 | .str _,_,h=>by unfold At at h ⊢;exact h
 | .tup ds,_,h=>by
  unfold At at h ⊢
  obtain⟨a,c,e,b,f⟩:=h
  exact⟨a,c,e,s _ _ b,AtL.mono s f⟩
 | .lst ds,_,h=>by
  unfold At at h ⊢
  obtain⟨a,c,e,b,f⟩:=h
  exact⟨a,c,e,s _ _ b,AtL.mono s f⟩
 | .scr ns,_,h=>by
  unfold At at h ⊢
  obtain⟨a,e,b⟩:=h
  exact⟨a,e,s.seq b⟩
 | .dct z t ks vs,_,h=>by
  unfold At at h ⊢
  obtain⟨a,c,e,b,f⟩:=h
  exact⟨a,c,e,b.mono s,AtL.mono s f⟩
theorem AtL.mono {H H':Hp}(s:yU H H'):∀ {a:List D} {b:List V},AtL H a b->AtL H' a b
 | [],_,h=>by unfold AtL at h ⊢;exact h
 | d::a,_,h=>by
  unfold AtL at h ⊢
  obtain⟨x,r,e,c,f⟩:=h
  exact⟨x,r,e,At.mono s c,AtL.mono s f⟩
end
mutual
def noL:D->Bool
 | .tup a=>zq1 a
 | .lst _=>false
 | .scr _=>false
 | .dct _ _ _ _=>false
 | _=>true
def zq1:List D->Bool
 | []=>true
 | d::ds=>noL d&&zq1 ds
end
mutual
theorem At.flat {G F:Hp}(h:∀ q b,G q=some (.tup b)->F q=some (.tup b)):∀ {d:D} {v:V},noL d=true->At G d v->At F d v
 | .non,_,_,a=>by unfold At at a ⊢;exact a
 | .bl _,_,_,a=>by unfold At at a ⊢;exact a
 | .int _,_,_,a=>by unfold At at a ⊢;exact a
 | .str _,_,_,a=>by unfold At at a ⊢;exact a
 | .tup ds,_,n,a=>by
  unfold At at a ⊢
  unfold noL at n
  obtain⟨p,b,e,c,f⟩:=a
  exact⟨p,b,e,h _ _ c,AtL.flat h n f⟩
 | .lst ds,_,n,_=>by unfold noL at n;cases n
 | .scr ds,_,n,_=>by unfold noL at n;cases n
 | .dct _ _ _ _,_,n,_=>by unfold noL at n;cases n
theorem AtL.flat {G F:Hp}(h:∀ q b,G q=some (.tup b)->F q=some (.tup b)):∀ {c:List D} {b:List V},zq1 c=true->AtL G c b->AtL F c b
 | [],_,_,a=>by unfold AtL at a ⊢;exact a
 | d::c,_,n,a=>by
  unfold AtL at a ⊢
  unfold zq1 at n
  rw[j3]at n
  obtain⟨x,r,e,f,g⟩:=a
  exact⟨x,r,e,At.flat h n.1 f,AtL.flat h n.2 g⟩
end
section
variable {H H':Hp}{d:D}{ds es:List D}{v x:V}{xs ys:List V}
theorem At.int {i:Int}:At H (.int i) (.int i):=by unfold At;rfl
theorem At.bl {b:Bool}:At H (.bl b) (.bl b):=by unfold At;rfl
theorem At.non:At H .non .non:=by unfold At;rfl
theorem At.str {y:Str}:At H (.str y) (.str y):=by unfold At;rfl
theorem At.tup {a:Addr}(h:H a=some (.tup xs))(b:AtL H ds xs):At H (.tup ds) (.ref a):=by unfold At;exact⟨a,xs,rfl,h,b⟩
theorem At.lst {a:Addr}(h:H a=some (.lst xs))(b:AtL H ds xs):At H (.lst ds) (.ref a):=by unfold At;exact⟨a,xs,rfl,h,b⟩
theorem AtL.nil:AtL H [] []:=by unfold AtL;rfl
theorem AtL.cons (h:At H d x)(a:AtL H ds xs):AtL H (d::ds) (x::xs):=by unfold AtL;exact⟨x,xs,rfl,h,a⟩
theorem At.int_inv {i:Int}(h:At H (.int i) v):v=.int i:=by unfold At at h;exact h
theorem At.bl_inv {b:Bool}(h:At H (.bl b) v):v=.bl b:=by unfold At at h;exact h
theorem At.non_inv (h:At H .non v):v=.non:=by unfold At at h;exact h
theorem At.str_inv {y:Str}(h:At H (.str y) v):v=.str y:=by unfold At at h;exact h
theorem At.tup_inv (h:At H (.tup ds) v):∃ a xs,v=.ref a/\H a=some (.tup xs)/\AtL H ds xs:=by unfold At at h;exact h
theorem At.lst_inv (h:At H (.lst ds) v):∃ a xs,v=.ref a/\H a=some (.lst xs)/\AtL H ds xs:=by unfold At at h;exact h
theorem At.scr_inv {b:List Int}(h:At H (.scr b) v):∃ a,v=.ref a/\SqL KK.K H a (b.map V.int):=by unfold At at h;exact h
theorem At.dct_inv {z t:Bool}{c:List (List Key)}{b:List D}(h:At H (.dct z t c b) v):∃ a xs,v=.ref a/\za9 H a z t c xs/\AtL H b xs:=by unfold At at h;exact h
theorem AtL.nil_inv (h:AtL H [] xs):xs=[]:=by unfold AtL at h;exact h
theorem AtL.cons_inv (h:AtL H (d::ds) xs):∃ x r,xs=x::r/\At H d x/\AtL H ds r:=by unfold AtL at h;exact h
theorem AtL.length:∀ {ds:List D} {xs:List V},AtL H ds xs->xs.length=ds.length
 | [],_,h=>by rw[h.nil_inv];rfl
 | _::_,_,h=>by
  obtain⟨x,r,rfl,_,a⟩:=h.cons_inv
  rw[g0,g0,AtL.length a]
theorem AtL.get:∀ {ds:List D} {xs:List V} {i:Nat} {d:D},AtL H ds xs->ds[i]?=some d->∃ x,xs[i]?=some x/\At H d x
 | [],_,_,_,_,e=>by simp at e
 | _::_,_,i,_,h,e=>by
  obtain⟨x,r,rfl,a,c⟩:=h.cons_inv
  cases i with
  | zero =>
   simp at e
   subst e
   exact⟨x,rfl,a⟩
  | succ i =>
   obtain⟨y,b,f⟩:=AtL.get (i:=i) c (by simpa using e)
   exact⟨y,by simpa using b,f⟩
theorem AtL.append:∀ {ds es:List D} {xs ys:List V},AtL H ds xs->AtL H es ys->AtL H (ds++es) (xs++ys)
 | [],_,_,_,h,k=>by rw[h.nil_inv];exact k
 | _::_,_,_,_,h,k=>by
  obtain⟨x,r,rfl,a,b⟩:=h.cons_inv
  exact .cons a (AtL.append b k)
theorem AtL.snoc (h:AtL H ds xs)(k:At H d v):AtL H (ds++[d]) (xs++[v]):=h.append (.cons k .nil)
theorem AtL.take:∀ (n:Nat) {ds:List D} {xs:List V},AtL H ds xs->AtL H (ds.take n) (xs.take n)
 | 0,_,_,_=>by simpa using AtL.nil
 | n+1,[],_,h=>by rw[h.nil_inv];simpa using AtL.nil
 | n+1,_::_,_,h=>by
  obtain⟨x,r,rfl,a,b⟩:=h.cons_inv
  rw[List.take_succ_cons,List.take_succ_cons]
  exact .cons a (AtL.take n b)
theorem AtL.drop:∀ (n:Nat) {ds:List D} {xs:List V},AtL H ds xs->AtL H (ds.drop n) (xs.drop n)
 | 0,_,_,h=>h
 | n+1,[],_,h=>by rw[h.nil_inv];simpa using AtL.nil
 | n+1,_::_,_,h=>by
  obtain⟨x,r,rfl,b,a⟩:=h.cons_inv
  rw[List.drop_succ_cons,List.drop_succ_cons]
  exact AtL.drop n a
theorem AtL.set:∀ (n:Nat) {ds:List D} {xs:List V},AtL H ds xs->At H d v->AtL H (ds.set n d) (xs.set n v)
 | _,[],_,h,_=>by rw[h.nil_inv];simpa using AtL.nil
 | 0,_::_,_,h,k=>by
  obtain⟨x,r,rfl,b,a⟩:=h.cons_inv
  exact .cons k a
 | n+1,_::_,_,h,k=>by
  obtain⟨x,r,rfl,b,a⟩:=h.cons_inv
  exact .cons b (AtL.set n a k)
theorem AtL.reverse:∀ {ds:List D} {xs:List V},AtL H ds xs->AtL H ds.reverse xs.reverse
 | [],_,h=>by rw[h.nil_inv];exact .nil
 | _::_,_,h=>by
  obtain⟨x,r,rfl,a,b⟩:=h.cons_inv
  rw[u1u,u1u]
  exact(AtL.reverse b).snoc a
theorem AtL.rep (h:AtL H ds xs):∀ k:Nat,AtL H (List.replicate k ds).flatten (List.replicate k xs).flatten
 | 0=>.nil
 | k+1=>by
  rw[i3,i3,u0t,u0t]
  exact h.append (AtL.rep h k)
theorem AtL.ints (a:List Int):AtL H (a.map D.int) (a.map V.int):=by
 induction a with
 | nil=>exact .nil
 | cons n r b=>exact .cons .int b
theorem AtL.of_ints:∀ {a:List Int} {xs:List V},AtL H (a.map D.int) xs->xs=a.map V.int
 | [],_,h=>h.nil_inv
 | n::r,_,h=>by
  obtain⟨x,d,rfl,b,c⟩:=AtL.cons_inv (by simpa using h)
  rw[b.int_inv,AtL.of_ints c]
  rfl
end
def tyN:D->String
 | .non=>"NoneType" | .bl _=>"bool" | .int _=>"int" | .str _=>"str" | .tup _=>"tuple" | .lst _=>"list" | .scr _=>"list" | .dct _ _ _ _=>"dict"
def Hid (F':Hp)(p:Addr)(o:HO):Prop:=F' p=none\/((∃ a,o=.tup a)/\F' p=some o)
def Keep (F H F' H':Hp):Prop:=∀ p o,F p=none->H p=some o->Hid F' p o/\H' p=some o
structure Gr (F H F' H':Hp):Prop where
 ff:yU F F'
 fh:yU F' H'
 kp:Keep F H F' H'
theorem Gr.refl {F H:Hp}(s:yU F H):Gr F H F H:=⟨yU.refl _,s,λ_ _ a b=>⟨.inl a,b⟩⟩
theorem Gr.trans {F H F1 H1 F2 H2:Hp}(a:Gr F H F1 H1)(b:Gr F1 H1 F2 H2):Gr F H F2 H2 :=
 ⟨a.ff.trans b.ff,b.fh,λp o e f=>by
  obtain⟨x,y⟩:=a.kp p o e f
  rcases x with x | ⟨d,c⟩
  .exact b.kp p o x y
  .exact⟨.inr ⟨d,b.ff _ _ c⟩,b.fh _ _ (b.ff _ _ c)⟩⟩
theorem Gr.kl {F H F' H':Hp}{p:Addr}{o:HO}(g:Gr F H F' H')(n:∀ a,o≠.tup a)(c:F p=none)(d:H p=some o):F' p=none/\H' p=some o:=by
 obtain⟨x,y⟩:=g.kp p o c d
 rcases x with x | ⟨⟨a,b⟩,_⟩
 .exact⟨x,y⟩
 .exact absurd b (n a)
theorem Gr.alloc {F H:Hp}{p:Addr}(s:yU F H)(h:H p=none)(o:HO):Gr F H (upd F p o) (upd H p o):=by
 have a:F p=none:=s.free h
 refine⟨λb u q=>?_,λb u q=>?_,λb u q r=>?_⟩
 .rw[zu (zo q a)];exact q
 .by_cases e:b=p
  .subst e;rw[zr]at q ⊢;exact q
  .rw[zu e]at q ⊢;exact s b u q
 .have e:b≠p:=zo r h
  rw[zu e];exact⟨.inl (by rw[zu e];exact q),r⟩
theorem Gr.hide {F H:Hp}{p:Addr}(s:yU F H)(h:H p=none)(o:HO):Gr F H F (upd H p o):=by
 refine⟨yU.refl _,λb u q=>?_,λb u q r=>?_⟩
 .rw[zu (zo (s b u q) h)];exact s b u q
 .have e:b≠p:=zo r h
  rw[zu e];exact⟨.inl q,r⟩
theorem Gr.show {F H:Hp}{p:Addr}{o:HO}{F0 H0:Hp}(g:Gr F0 H0 F H)(a:H0 p=none)(c:F p=none)(h:H p=some o):Gr F0 H0 (upd F p o) H:=by
 refine⟨λb u q=>?_,λb u q=>?_,λb u q r=>?_⟩
 .have:=g.ff b u q
  rw[zu (zo this c)];exact this
 .by_cases e:b=p
  .subst e;rw[zr]at q;rw[<-q];exact h
  .rw[zu e]at q;exact g.fh b u q
 .have e:b≠p:=zo r a
  obtain⟨x,y⟩:=g.kp b u q r
  refine⟨?_,y⟩
  unfold Hid
  rw[zu e]
  exact x
abbrev Ev:=List (Option D)
def VAt (F:Hp)(ρ:Ev)(σ:St):Prop:=∀ (i:Nat) (d:D),ρ[i]?=some (some d)->∃ v,σ[i]?=some (some v)/\At F d v
theorem VAt.mono {F F':Hp}{ρ:Ev}{σ:St}(h:VAt F ρ σ)(s:yU F F'):VAt F' ρ σ:=λi d e=>let ⟨v,e1,a⟩:=h i d e;⟨v,e1,a.mono s⟩
def RE (t:TE)(f:Ev->Option D):Prop :=
 ∀ (σ:St) (ρ:Ev) (F H:Hp) (d:D) (Q:VK),yU F H->VAt F ρ σ->f ρ=some d->(∀ F' H' v,Gr F H F' H'->At F' d v->Q v H')->t σ H Q
def RT (t:TT)(f:Ev->Option Bool):Prop :=
 ∀ (σ:St) (ρ:Ev) (F H:Hp) (b:Bool) (Q:Bool->Hp->Prop),yU F H->VAt F ρ σ->f ρ=some b->(∀ F' H',Gr F H F' H'->Q b H')->t σ H Q
def RA (t:TA)(f:Ev->Option (List D)):Prop :=
 ∀ (σ:St) (ρ:Ev) (F H:Hp) (b:List D) (Q:List V->Hp->Prop),yU F H->VAt F ρ σ->f ρ=some b->(∀ F' H' a,Gr F H F' H'->AtL F' b a->Q a H')->t σ H Q
def RF (t:TE)(f:Ev->Option (List D)):Prop :=
 ∀ (σ:St) (ρ:Ev) (F H:Hp) (b:List D) (Q:VK),yU F H->VAt F ρ σ->f ρ=some b->(∀ F' H' p a,Gr F H F' H'->H p=none->F' p=none->H' p=some (.lst a)->AtL F' b a->Q (.ref p) H')->t σ H Q
def ED (X:Cx)(e:Expr)(f:Ev->Option D):Prop:=∃ t,PE X e t/\RE t f
def TD (X:Cx)(e:Expr)(f:Ev->Option Bool):Prop:=∃ t,PT X e t/\RT t f
def WD (X:Cx)(e:Expr)(f:Ev->Option Bool):Prop:=∃ t,PW X e t/\RT t f
def AD (X:Cx)(a:List Expr)(f:Ev->Option (List D)):Prop:=∃ t,PA X a t/\RA t f
def FL (X:Cx)(e:Expr)(f:Ev->Option (List D)):Prop:=∃ t,PE X e t/\RF t f
section
variable {X:Cx}{a b c:Expr}{pos:Pos}
def yA (f:Ev->Option (List D)):Ev->Option D:=fun ρ=>(f ρ).map .lst
theorem Xi {f:Ev->Option (List D)}(h:FL X a f):ED X a (yA f):=by
 obtain⟨t,i,r⟩:=h
 refine⟨t,i,fun σ ρ F H d Q s l e q=>?_⟩
 obtain⟨n,o,rfl⟩:=u9.mp e
 refine r σ ρ F H n Q s l o λF' H' p w g m c j k=>?_
 have v:=g.show m c j
 exact q _ _ _ v (At.lst zr (k.mono (λb u e=>by rw[zu (zo e c)];exact e)))
def zb (i:Nat):Ev->Option D:=fun ρ=>(ρ[i]?).getD none
theorem zpY (i:Nat)(h:PE X a (zb4 i)):ED X a (zb i):=by
 refine⟨_,h,fun σ ρ F H d Q s b e q=>?_⟩
 have c:ρ[i]?=some (some d):=by
  unfold zb at e
  cases h:ρ[i]? with
  | none=>rw[h]at e;cases e
  | some x=>rw[h]at e;cases x with
   | none=>cases e
   | some y=>cases e;rfl
 obtain⟨v,g,f⟩:=b i d c
 exact⟨v,g,q _ _ _ (.refl s) f⟩
def eC (d:D):Ev->Option D:=λ_=>some d
theorem zZ {i:Int}(h:PE X a (tC (.int i))):ED X a (eC (.int i)):=⟨_,h,λ_ _ _ _ _ _ s _ e q=>by cases e;exact q _ _ _ (.refl s) .int⟩
theorem zrI {i:Bool}(h:PE X a (tC (.bl i))):ED X a (eC (.bl i)):=⟨_,h,λ_ _ _ _ _ _ s _ e q=>by cases e;exact q _ _ _ (.refl s) .bl⟩
theorem zp7 {i:Str}(h:PE X a (tC (.str i))):ED X a (eC (.str i)):=⟨_,h,λ_ _ _ _ _ _ s _ e q=>by cases e;exact q _ _ _ (.refl s) .str⟩
theorem zjI (h:PE X a (tC .non)):ED X a (eC .non):=⟨_,h,λ_ _ _ _ _ _ s _ e q=>by cases e;exact q _ _ _ (.refl s) .non⟩
def OpD (r:R2)(g:D->D->Option D):Prop :=
 ∀ (F H:Hp) (x y:V) (d e z:D) (Q:VK),yU F H->At F d x->At F e y->g d e=some z->(∀ F' H' v,Gr F H F' H'->At F' z v->Q v H')->r x y H Q
def zi (g:D->D->Option D)(f h:Ev->Option D):Ev->Option D:=fun ρ=>(f ρ).bind λx=>(h ρ).bind λy=>g x y
theorem zjS {r:R2}{g:D->D->Option D}{c i:TE}{f h:Ev->Option D}(l:OpD r g)(n:RE c f)(j:RE i h):RE (tOp r c i) (zi g f h):=by
 intro σ ρ F H z Q s d e q
 obtain⟨x,t,e⟩:=u4.mp e
 obtain⟨y,A,e⟩:=u4.mp e
 refine n σ ρ F H x _ s d t λF1 H1 v a m=>?_
 refine j σ ρ F1 H1 y _ a.fh (d.mono a.ff) A λF2 H2 u b k=>?_
 exact l F2 H2 v u x y z Q b.fh (m.mono b.ff) k e λF3 H3 w p o=>q F3 H3 w ((a.trans b).trans p) o
theorem Vp {c:Operator}{r:R2}{g:D->D->Option D}{f h:Ev->Option D}(e:OpR X (binaryOp c) r)(d:OpD r g)(i:ED X a f)(j:ED X b h):ED X (.BinOp a c b pos) (zi g f h) :=
 let ⟨_,pa,ra⟩:=i
 let ⟨_,pb,rb⟩:=j
 ⟨_,zhF e pa pb,zjS d ra rb⟩
theorem ZU {c:CmpOp}{r:R2}{g:D->D->Option D}{f h:Ev->Option D}(j:OpR X (compareOp c) r)(d:OpD r g)(i:behindInMarks c b=false)(e:ED X a f)(k:ED X b h):ED X (.Compare a [c] [b] pos) (zi g f h) :=
 let ⟨_,pa,ra⟩:=e
 let ⟨_,pb,rb⟩:=k
 ⟨_,zhu j pa pb i,zjS d ra rb⟩
def asB:D->Option Bool
 | .bl b=>some b
 | _=>none
theorem Wz {d:D}{b:Bool}(h:asB d=some b):d=.bl b:=by
 cases d <;> first | (cases h;rfl) | cases h
def tOf (f:Ev->Option D):Ev->Option Bool:=fun ρ=>(f ρ).bind asB
theorem zm3 {t:TE}{f:Ev->Option D}(r:RE t f):RT (zgj t) (tOf f):=by
 intro σ ρ F H b Q s a e q
 obtain⟨x,g,e⟩:=u4.mp e
 cases Wz e
 exact r σ ρ F H _ _ s a g λF1 H1 v c d=>⟨b,d.bl_inv,q F1 H1 c⟩
theorem xp {c:CmpOp}{r:R2}{g:D->D->Option D}{f h:Ev->Option D}(j:OpR X (compareOp c) r)(d:OpD r g)(i:behindInMarks c b=false)(e:ED X a f)(k:ED X b h):TD X (.Compare a [c] [b] pos) (tOf (zi g f h)) :=
 let ⟨_,pa,ra⟩:=e
 let ⟨_,pb,rb⟩:=k
 ⟨_,zdd j pa pb i,zm3 (zjS d ra rb)⟩
theorem V4 {f:Ev->Option D}(d:ED X a f)(c:∀ b,isTrue a X.env b=(do let v<-b;standAt a.pos;holding [v] (truthy v)):=by intro _;rfl):TD X a (tOf f) :=
 let ⟨_,pa,ra⟩:=d
 ⟨_,zlZ pa c,zm3 ra⟩
def xj (f g:Ev->Option Bool):Ev->Option Bool:=fun ρ=>(f ρ).bind λc=>if c=true then g ρ else some false
def Zp (f g:Ev->Option Bool):Ev->Option Bool:=fun ρ=>(f ρ).bind λc=>if c=true then some true else g ρ
def yR (f:Ev->Option Bool):Ev->Option Bool:=fun ρ=>(f ρ).map (!·)
theorem zno {f:Ev->Option Bool}(b:TD X a f):WD X (.BoolOp .And [a] pos) f:=let ⟨_,pa,ra⟩:=b;⟨_,znZ pa,ra⟩
theorem zmc {f:Ev->Option Bool}(b:TD X a f):WD X (.BoolOp .Or [a] pos) f:=let ⟨_,pa,ra⟩:=b;⟨_,zlF pa,ra⟩
theorem zo1 {rest:List Expr}{f g:Ev->Option Bool}(k:TD X a f)(m:WD X (.BoolOp .And (b::rest) pos) g):WD X (.BoolOp .And (a::b::rest) pos) (xj f g):=by
 obtain⟨r,i,l⟩:=k
 obtain⟨p,j,h⟩:=m
 refine⟨_,zpr i j,fun σ ρ F H z Q s d e q=>?_⟩
 obtain⟨x,n,e⟩:=u4.mp e
 refine l σ ρ F H x _ s d n λF1 H1 c=>?_
 cases x with
 | true =>
  rw[t6 rfl]at e ⊢
  exact h σ ρ F1 H1 z Q c.fh (d.mono c.ff) e λF2 H2 o=>q F2 H2 (c.trans o)
 | false =>
  rw[t9 u7]at e ⊢
  cases e
  exact q F1 H1 c
theorem zpS {rest:List Expr}{f g:Ev->Option Bool}(k:TD X a f)(m:WD X (.BoolOp .Or (b::rest) pos) g):WD X (.BoolOp .Or (a::b::rest) pos) (Zp f g):=by
 obtain⟨r,i,l⟩:=k
 obtain⟨p,j,h⟩:=m
 refine⟨_,zqG i j,fun σ ρ F H z Q s d e q=>?_⟩
 obtain⟨x,n,e⟩:=u4.mp e
 refine l σ ρ F H x _ s d n λF1 H1 c=>?_
 cases x with
 | false =>
  rw[t9 u7]at e ⊢
  exact h σ ρ F1 H1 z Q c.fh (d.mono c.ff) e λF2 H2 o=>q F2 H2 (c.trans o)
 | true =>
  rw[t6 rfl]at e ⊢
  cases e
  exact q F1 H1 c
theorem td_w {f:Ev->Option Bool}(h:WD X a f):TD X a f:=let ⟨_,p,r⟩:=h;⟨_,p.pt,r⟩
theorem zeZ {f:Ev->Option Bool}(g:TD X a f):TD X (.UnaryOp .Not a pos) (yR f):=by
 obtain⟨j,d,h⟩:=g
 refine⟨_,zl3 d,fun σ ρ F H z Q s b e q=>?_⟩
 obtain⟨x,i,rfl⟩:=u9.mp e
 exact h σ ρ F H x _ s b i λF1 H1 c=>q F1 H1 c
def v9 (f g:Ev->Option D):Ev->Option D:=fun ρ=>((f ρ).bind asB).bind λc=>if c=true then g ρ else some (.bl false)
def eOr (f g:Ev->Option D):Ev->Option D:=fun ρ=>((f ρ).bind asB).bind λc=>if c=true then some (.bl true)else g ρ
def W0 (f:Ev->Option D):Ev->Option D:=fun ρ=>((f ρ).bind asB).map λc=>.bl (!c)
theorem zih {op}{f:Ev->Option D}(ha:ED X a f):ED X (.BoolOp op [a] pos) f:=let ⟨_,pa,ra⟩:=ha;⟨_,zp4 pa,ra⟩
theorem zlP {rest:List Expr}{f g:Ev->Option D}(m:ED X a f)(p:ED X (.BoolOp .And (b::rest) pos) g):ED X (.BoolOp .And (a::b::rest) pos) (v9 f g):=by
 obtain⟨A,k,n⟩:=m
 obtain⟨u,l,i⟩:=p
 refine⟨_,zlH k l,fun σ ρ F H z Q s h e q=>?_⟩
 obtain⟨x,d,e⟩:=u4.mp e
 obtain⟨y,d,r⟩:=u4.mp d
 cases Wz r
 refine n σ ρ F H _ _ s h d λF1 H1 v c o=>⟨x,o.bl_inv,?_⟩
 cases x with
 | true =>
  rw[t6 rfl]at e ⊢
  exact i σ ρ F1 H1 z Q c.fh (h.mono c.ff) e λF2 H2 w t j=>q F2 H2 w (c.trans t) j
 | false =>
  rw[t9 u7]at e ⊢
  cases e
  exact q F1 H1 _ c .bl
theorem zp3 {f:Ev->Option D}(h:ED X a f):ED X (.UnaryOp .Not a pos) (W0 f):=by
 obtain⟨l,g,i⟩:=h
 refine⟨_,zqi g,fun σ ρ F H z Q s c e q=>?_⟩
 obtain⟨x,b,rfl⟩:=u9.mp e
 obtain⟨y,b,k⟩:=u4.mp b
 cases Wz k
 exact i σ ρ F H _ _ s c b λF1 H1 v d j=>⟨x,j.bl_inv,q F1 H1 _ d .bl⟩
def eIf (t:Ev->Option Bool)(f g:Ev->Option D):Ev->Option D:=fun ρ=>(t ρ).bind λc=>if c=true then f ρ else g ρ
def eUn (g:D->Option D)(f:Ev->Option D):Ev->Option D:=fun ρ=>(f ρ).bind g
def Y8:D->Option D
 | .int i=>some (.int (-i))
 | _=>none
theorem zjk {f:Ev->Option D}(g:ED X a f):ED X (.UnaryOp .USub a pos) (eUn Y8 f):=by
 obtain⟨k,d,h⟩:=g
 refine⟨_,zpF zme d,fun σ ρ F H z Q s b e q=>?_⟩
 obtain⟨x,j,e⟩:=u4.mp e
 cases x <;> try cases e
 exact h σ ρ F H _ _ s b j λF1 H1 v c i=>⟨_,i.int_inv,q F1 H1 _ c .int⟩
def zc:Ev->Option (List D):=λ_=>some []
def za (f:Ev->Option D)(g:Ev->Option (List D)):Ev->Option (List D):=fun ρ=>(f ρ).bind λd=>(g ρ).map (d::·)
theorem zN:AD X [] zc:=⟨_,yG,λ_ _ _ _ _ _ s _ e q=>by cases e;exact q _ _ _ (.refl s) .nil⟩
theorem zn {e:Expr}{a:List Expr}{f:Ev->Option D}{g:Ev->Option (List D)}(n:ED X e f)(h:AD X a g)(l:starEach (e::a) X.env=(false,eval e X.env)::starEach a X.env:=by rfl):AD X (e::a) (za f g):=by
 obtain⟨A,k,o⟩:=n
 obtain⟨y,m,i⟩:=h
 refine⟨_,zA k m l,fun σ ρ F H z Q s c e q=>?_⟩
 obtain⟨x,t,e⟩:=u4.mp e
 obtain⟨p,u,rfl⟩:=u9.mp e
 refine o σ ρ F H x _ s c t λF1 H1 v b r=>?_
 exact i σ ρ F1 H1 p _ b.fh (c.mono b.ff) u λF2 H2 w d j=>q F2 H2 _ (b.trans d) (.cons (r.mono d.ff) j)
def lim (n:Nat):Bool:=decide (n<=sizeLine)
def yY (g:Ev->Option (List D)):Ev->Option D:=fun ρ=>(g ρ).bind λa=>if lim a.length=true then some (.tup a)else none
def zQ (g:Ev->Option (List D)):Ev->Option (List D):=fun ρ=>(g ρ).bind λa=>if lim a.length=true then some a else none
theorem zlX {d:List Expr}{x1}{g:Ev->Option (List D)}(h:AD X d g):ED X (.Tuple d x1 pos) (yY g):=by
 obtain⟨r,j,m⟩:=h
 refine⟨_,zo3 j,fun σ ρ F H z Q s f e q=>?_⟩
 obtain⟨n,o,e⟩:=u4.mp e
 split at e <;> cases e
 rename_i k
 refine m σ ρ F H n _ s f o λF1 H1 l a b=>⟨by rw[b.length];exact j2 k,λp i=>?_⟩
 have c:=Gr.alloc a.fh i (.tup l)
 exact q _ _ _ (a.trans c) (.tup zr (b.mono c.ff))
theorem zah {f:List Expr}{g:Ev->Option (List D)}(h:AD X f g):FL X (.List f pos) (zQ g):=by
 obtain⟨v,i,n⟩:=h
 refine⟨_,ZM i,fun σ ρ F H z Q s l e q=>?_⟩
 obtain⟨w,r,e⟩:=u4.mp e
 split at e <;> cases e
 rename_i j
 refine n σ ρ F H _ _ s l r λF1 H1 k a c=>⟨by rw[c.length];exact j2 j,λp b=>?_⟩
 have t:=Gr.hide a.fh b (.lst k)
 have m:H p=none:=by
  cases e:H p with
  | none=>rfl
  | some o =>
   cases d:F p with
   | none=>rw[(a.kp p o d e).2]at b;cases b
   | some u=>rw[a.fh _ _ (a.ff _ _ d)]at b;cases b
 exact q _ _ _ _ (a.trans t) m (a.fh.free b) zr c
end
end
end Dl
namespace Dl
open PySem L2
variable [KK]
inductive Sl where
 | no | v (d:D) | o (ds:List D) | m (t:Bool) (ks:List (List Key)) (vs:List D)
 deriving Inhabited
abbrev SE:=List Sl
def Sl.f:Sl->Option D
 | .v d=>some d
 | _=>none
def Sl.g:Sl->Option D
 | .v d=>some d
 | .o ds=>some (.lst ds)
 | .m t a b=>some (.dct false t a b)
 | .no=>none
def Sl.isO:Sl->Bool
 | .o _=>true
 | .m _ _ _=>true
 | _=>false
def visF (ρ:SE):Ev:=ρ.map Sl.f
def visG (ρ:SE):Ev:=ρ.map Sl.g
def zfa (F:Hp)(o:HO):Sl->Prop
 | .o b=>∃ a,o=.lst a/\AtL F b a
 | .m t c b=>∃ a,zbC o t c a/\AtL F b a
 | _=>False
theorem zfa.mono {F F':Hp}{o:HO}{s:Sl}(h:zfa F o s)(k:yU F F'):zfa F' o s:=by
 cases s with
 | no=>exact h
 | v d=>exact h
 | o c=>obtain⟨b,e,a⟩:=h;exact⟨b,e,a.mono k⟩
 | m t f c=>obtain⟨b,e,a⟩:=h;exact⟨b,e,a.mono k⟩
theorem zfa.isO {F:Hp}{o:HO}{s:Sl}(h:zfa F o s):s.isO=true:=by
 cases s with
 | no=>exact h.elim
 | v d=>exact h.elim
 | o a=>rfl
 | m t b a=>rfl
theorem zfa.ntup {F:Hp}{o:HO}{s:Sl}(h:zfa F o s)(b:List V):o≠.tup b:=by
 cases s with
 | no=>exact h.elim
 | v d=>exact h.elim
 | o f=>obtain⟨c,rfl,_⟩:=h;intro e;cases e
 | m t g f =>
  obtain⟨c,e,_⟩:=h
  unfold zbC at e
  split at e
  .obtain⟨a,rfl,_⟩:=e;intro e;cases e
  .obtain⟨a,rfl,_⟩:=e;intro e;cases e
theorem zfa.at {F G:Hp}{o:HO}{s:Sl}{d:D}{p:Addr}(h:zfa F o s)(e:s.g=some d)(c:G p=some o)(k:yU F G):At G d (.ref p):=by
 cases s with
 | no=>exact h.elim
 | v d=>exact h.elim
 | o ds =>
  cases e
  obtain⟨b,rfl,a⟩:=h
  exact .lst c (a.mono k)
 | m t f ds =>
  cases e
  obtain⟨b,e,a⟩:=h
  unfold At
  exact⟨p,b,rfl,⟨o,e,c⟩,a.mono k⟩
structure Rl (Fb Hb F H:Hp) (ρ:SE) (σ:St):Prop where
 gr:Gr Fb Hb F H
 vals:∀ (i:Nat) (d:D),ρ[i]?=some (.v d)->∃ v,σ[i]?=some (some v)/\At F d v
 ows:∀ (i:Nat) (s:Sl),ρ[i]?=some s->s.isO=true->∃ p o,σ[i]?=some (some (.ref p))/\Hb p=none/\F p=none/\H p=some o/\zfa F o s
 dis:∀ (i j:Nat) (p:Addr) (s t:Sl),ρ[i]?=some s->ρ[j]?=some t->s.isO=true->t.isO=true->σ[i]?=some (some (.ref p))->σ[j]?=some (some (.ref p))->i=j
 len:ρ.length=σ.length
section
variable {Fb Hb F H F' H':Hp}{ρ ρ':SE}{σ σ':St}
theorem Rl.owns (r:Rl Fb Hb F H ρ σ)(i:Nat)(c:List D)(e:ρ[i]?=some (.o c)):∃ p b,σ[i]?=some (some (.ref p))/\Hb p=none/\F p=none/\H p=some (.lst b)/\AtL F c b:=by
 obtain⟨p,o,f,h,g,d,b,rfl,a⟩:=r.ows i _ e rfl
 exact⟨p,b,f,h,g,d,a⟩
theorem Rl.grow (r:Rl Fb Hb F H ρ σ)(g:Gr F H F' H'):Rl Fb Hb F' H' ρ σ:=by
 refine⟨r.gr.trans g,λi d e=>?_,λi s e h=>?_,r.dis,r.len⟩
 .obtain⟨v,b,a⟩:=r.vals i d e
  exact⟨v,b,a.mono g.ff⟩
 .obtain⟨p,o,b,l,j,f,a⟩:=r.ows i s e h
  obtain⟨k,c⟩:=g.kl a.ntup j f
  exact⟨p,o,b,l,k,c,a.mono g.ff⟩
theorem Rl.visF (r:Rl Fb Hb F H ρ σ):VAt F (visF ρ) σ:=λi d e=>by
 unfold Dl.visF at e
 rw[j1]at e
 cases h:ρ[i]? with
 | none=>rw[h]at e;cases e
 | some x =>
  rw[h]at e
  cases x with
  | no=>cases e
  | v c =>
   cases e
   exact r.vals i d h
  | o a=>cases e
  | m t b a=>cases e
def Own (ρ:SE)(σ:St)(p:Addr):Prop:=∃ (i:Nat) (s:Sl),ρ[i]?=some s/\s.isO=true/\σ[i]?=some (some (.ref p))
open Classical in
noncomputable def gOf (ρ:SE)(σ:St)(F H:Hp):Hp:=λp=>if Own ρ σ p then H p else F p
open Classical in
noncomputable def fOf (ρ:SE)(σ:St)(G:Hp):Hp:=λp=>if Own ρ σ p then none else G p
theorem Rl.own (r:Rl Fb Hb F H ρ σ){p:Addr}(h:Own ρ σ p):Hb p=none/\F p=none/\∃ o,H p=some o/\∀ c,o≠.tup c:=by
 obtain⟨i,s,e,k,f⟩:=h
 obtain⟨q,o,b,g,j,d,a⟩:=r.ows i s e k
 rw[f]at b
 cases b
 exact⟨g,j,o,d,a.ntup⟩
theorem Rl.notown (r:Rl Fb Hb F H ρ σ){q:Addr}(h:H q=none)(j:Nat)(s:Sl)(c:ρ[j]?=some s)(d:s.isO=true):σ[j]?≠some (some (.ref q)):=λe=>by
 obtain⟨p,o,b,_,_,a,_⟩:=r.ows j s c d
 rw[e]at b
 cases b
 rw[h]at a
 cases a
theorem Rl.notbase (r:Rl Fb Hb F H ρ σ){q:Addr}(h:H q=none):Hb q=none:=by
 cases z:Hb q with
 | none=>rfl
 | some o =>
  cases a:Fb q with
  | none=>rw[(r.gr.kp q o a z).2]at h;cases h
  | some u=>rw[r.gr.fh _ _ (r.gr.ff _ _ a)]at h;cases h
theorem Rl.fg (r:Rl Fb Hb F H ρ σ):yU F (gOf ρ σ F H):=λp o e=>by
 unfold gOf
 split
 .exact r.gr.fh p o e
 .exact e
theorem Rl.gh (r:Rl Fb Hb F H ρ σ):yU (gOf ρ σ F H) H:=λp o e=>by
 unfold gOf at e
 split at e
 .exact e
 .exact r.gr.fh p o e
theorem Rl.visG (r:Rl Fb Hb F H ρ σ):VAt (gOf ρ σ F H) (visG ρ) σ:=λi d e=>by
 unfold Dl.visG at e
 rw[j1]at e
 cases h:ρ[i]? with
 | none=>rw[h]at e;cases e
 | some x =>
  rw[h]at e
  have e:x.g=some d:=n8 e
  have own:x.isO=true->∃ v,σ[i]?=some (some v)/\At (gOf ρ σ F H) d v:=λc=>by
   obtain⟨p,o,b,n,l,g,a⟩:=r.ows i x h c
   refine⟨_,b,a.at e ?_ r.fg⟩
   unfold gOf
   rw[t6 ⟨i,x,h,c,b⟩]
   exact g
  cases x with
  | no=>cases e
  | v k =>
   cases e
   obtain⟨v,b,a⟩:=r.vals i d h
   exact⟨v,b,a.mono r.fg⟩
  | o f=>exact own rfl
  | m t j f=>exact own rfl
theorem Rl.back {G':Hp}(r:Rl Fb Hb F H ρ σ)(g:Gr (gOf ρ σ F H) H G' H'):Gr F H (fOf ρ σ G') H'/\∀ q a,G' q=some (.tup a)->fOf ρ σ G' q=some (.tup a):=by
 refine⟨⟨λp o e=>?_,λp o e=>?_,λp o c b=>?_⟩,λq a e=>?_⟩
 .unfold fOf
  rw[t9 (λh=>by rw[(r.own h).2.1]at e;cases e)]
  exact g.ff p o (r.fg p o e)
 .unfold fOf at e
  split at e
  .cases e
  .exact g.fh p o e
 .by_cases h:Own ρ σ p
  .refine⟨.inl (by unfold fOf;rw[t6 h]),g.fh p o (g.ff p o ?_)⟩
   unfold gOf
   rw[t6 h]
   exact b
  .obtain⟨x,y⟩:=g.kp p o (by unfold gOf;rw[t9 h];exact c) b
   refine⟨?_,y⟩
   unfold Hid fOf
   rw[t9 h]
   exact x
 .unfold fOf
  rw[t9 (λh=>?_)]
  .exact e
  .obtain⟨_,_,o,b,n⟩:=r.own h
   have:G' q=some o:=g.ff q _ (by unfold gOf;rw[t6 h];exact b)
   rw[this]at e
   cases e
   exact n a rfl
theorem Rl.out {G':Hp}(r:Rl Fb Hb F H ρ σ)(g:Gr (gOf ρ σ F H) H G' H'):Gr Fb Hb G' H':=by
 refine⟨λp o e=>g.ff p o (r.fg p o (r.gr.ff p o e)),g.fh,λp o i b=>?_⟩
 obtain⟨a,d⟩:=r.gr.kp p o i b
 have c:gOf ρ σ F H p=F p:=by
  unfold gOf
  rw[t9 (λh=>by rw[(r.own h).1]at b;cases b)]
 rcases a with a | ⟨a,f⟩
 .exact g.kp p o (by rw[c];exact a) d
 .have:=g.ff p o (by rw[c];exact f)
  exact⟨.inr ⟨a,this⟩,g.fh _ _ this⟩
theorem Rl.set (r:Rl Fb Hb F H ρ σ){i:Nat}{d:D}{v:V}(a:At F d v):Rl Fb Hb F H (ρ.set i (.v d)) (σ.set i (some v)):=by
 have f:∀ {j:Nat} {s:Sl},(ρ.set i (.v d))[j]?=some s->s.isO=true->i≠j:=λ{j s} h b e=>by
  subst e
  rw[m8]at h
  simp only[u2p]at h
  split at h <;> cases h
  cases b
 refine⟨r.gr,λj e h=>?_,λj s h b=>?_,λj k p s t l g n q o m=>?_,by simp[r.len]⟩
 .by_cases c:i=j
  .subst c
   rw[m8]at h
   simp only[u2p]at h
   split at h
   .rename_i w
    cases h
    refine⟨v,?_,a⟩
    rw[m8]
    simp[<-r.len,w]
   .cases h
  .rw[j0 c]at h ⊢
   exact r.vals j e h
 .have c:=f h b
  rw[j0 c]at h ⊢
  exact r.ows j s h b
 .have x:=f l n
  have u:=f g q
  rw[j0 x]at l o
  rw[j0 u]at g m
  exact r.dis j k p s t l g n q o m
theorem Rl.setW (r:Rl Fb Hb F H ρ σ){i:Nat}{w:Sl}{p:Addr}{o:HO}(C:Hb p=none)(A:F p=none)(z:H p=some o)(a:zfa F o w)
 (v:∀ (j:Nat) (s:Sl),ρ[j]?=some s->s.isO=true->σ[j]?≠some (some (.ref p))):Rl Fb Hb F H (ρ.set i w) (σ.set i (some (.ref p))):=by
 have b:∀ {s:Sl},(ρ.set i w)[i]?=some s->i < ρ.length/\s=w:=λ{s} h=>by
  rw[m8]at h
  simp only[u2p]at h
  split at h
  .rename_i d
   cases h
   exact⟨d,rfl⟩
  .cases h
 have c:i < ρ.length->(σ.set i (some (V.ref p)))[i]?=some (some (.ref p)):=λd=>by
  rw[m8]
  simp[<-r.len,d]
 refine⟨r.gr,λj e h=>?_,λj s h B=>?_,λj k q s t m u y x g l=>?_,by simp[r.len]⟩
 .by_cases f:i=j
  .subst f
   have e:=(b h).2
   have:=a.isO
   rw[<-e]at this
   cases this
  .rw[j0 f]at h ⊢
   exact r.vals j e h
 .by_cases f:i=j
  .subst f
   obtain⟨d,e⟩:=b h
   subst e
   exact⟨p,o,c d,C,A,z,a⟩
  .rw[j0 f]at h ⊢
   exact r.ows j s h B
 .by_cases f:i=j
  .subst f
   by_cases n:i=k
   .exact n
   .obtain⟨d,_⟩:=b m
    rw[c d]at g
    cases g
    rw[j0 n]at u l
    exact absurd l (v k t u x)
  .by_cases n:i=k
   .subst n
    obtain⟨d,_⟩:=b u
    rw[c d]at l
    cases l
    rw[j0 f]at m g
    exact absurd g (v j s m y)
   .rw[j0 f]at m g
    rw[j0 n]at u l
    exact r.dis j k q s t m u y x g l
theorem Rl.setO (r:Rl Fb Hb F H ρ σ){i:Nat}{c:List D}{p:Addr}{b:List V}(g:Hb p=none)(d:F p=none)(f:H p=some (.lst b))(a:AtL F c b)
 (e:∀ (j:Nat) (s:Sl),ρ[j]?=some s->s.isO=true->σ[j]?≠some (some (.ref p))):Rl Fb Hb F H (ρ.set i (.o c)) (σ.set i (some (.ref p))):=r.setW g d f ⟨b,rfl,a⟩ e
theorem Rl.mutW (r:Rl Fb Hb F H ρ σ){i:Nat}{w B:Sl}{p:Addr}{n:HO}(e:ρ[i]?=some w)(hw:w.isO=true)(C:σ[i]?=some (some (.ref p)))(a:zfa F n B):Rl Fb Hb F (upd H p n) (ρ.set i B) σ:=by
 obtain⟨q,o,K,I,E,V,_⟩:=r.ows i w e hw
 rw[C]at K
 cases K
 have J:i < ρ.length:=(q0.mp e).1
 have m:∀ {j:Nat} {s:Sl} {q:Addr},i≠j->ρ[j]?=some s->s.isO=true->σ[j]?=some (some (.ref q))->q≠p:=λ{j s q} hne u g A z=>by
  subst z
  exact hne (r.dis i j q w s e u hw g C A)
 refine⟨⟨r.gr.ff,λb o z=>?_,λb o L G=>?_⟩,λj d h=>?_,λj s h g=>?_,λj k q s t u A R O N P=>?_,by simp[r.len]⟩
 .rw[zu (zo z E)]
  exact r.gr.fh b o z
 .rw[zu (zo G I)]
  exact r.gr.kp b o L G
 .by_cases c:i=j
  .subst c
   rw[n0 J]at h
   cases h
   exact(Bool.noConfusion a.isO)
  .rw[j0 c]at h
   exact r.vals j d h
 .by_cases c:i=j
  .subst c
   rw[n0 J]at h
   cases h
   exact⟨p,n,C,I,E,zr,a⟩
  .rw[j0 c]at h
   obtain⟨q,z,l,y,T,M,S⟩:=r.ows j s h g
   refine⟨q,z,l,y,T,?_,S⟩
   rw[zu (m c h g l)]
   exact M
 .have f:∀ {j:Nat} {s:Sl},(ρ.set i B)[j]?=some s->s.isO=true->∃ D,ρ[j]?=some D/\D.isO=true:=λ{j s} h g=>by
   by_cases c:i=j
   .subst c;exact⟨w,e,hw⟩
   .rw[j0 c]at h;exact⟨s,h,g⟩
  obtain⟨l,Q,v⟩:=f u R
  obtain⟨y,U,x⟩:=f A O
  exact r.dis j k q l y Q U v x N P
theorem Rl.mutate (r:Rl Fb Hb F H ρ σ){i:Nat}{d c:List D}{p:Addr}{b:List V}(e:ρ[i]?=some (.o d))(f:σ[i]?=some (some (.ref p)))(a:AtL F c b):Rl Fb Hb F (upd H p (.lst b)) (ρ.set i (.o c)) σ :=
 r.mutW e rfl f ⟨b,rfl,a⟩
def Sl.fz:Sl->Sl
 | .o a=>.v (.lst a)
 | .m t c b=>.v (.dct false t c b)
 | s=>s
def zqS (ρ:SE)(i:Nat):SE:=ρ.set i ((ρ[i]?).getD .no).fz
theorem Rl.freeze (r:Rl Fb Hb F H ρ σ)(i:Nat):∃ F',Rl Fb Hb F' H (zqS ρ i) σ:=by
 unfold zqS
 cases h:ρ[i]? with
 | none =>
  refine⟨F,?_⟩
  rw[List.set_eq_of_length_le (List.getElem?_eq_none_iff.mp h)]
  exact r
 | some s =>
  have D:i < ρ.length:=(q0.mp h).1
  have same:s.fz=s->∃ F',Rl Fb Hb F' H (ρ.set i ((some s).getD .no).fz) σ:=λe=>by
   refine⟨F,?_⟩
   show Rl Fb Hb F H (ρ.set i s.fz) σ
   rw[e]
   have:ρ.set i s=ρ:=by
    apply u0L
    intro j
    by_cases f:i=j
    .subst f;rw[n0 D,h]
    .rw[j0 f]
   rw[this]
   exact r
  have c:∀ d,s.isO=true->s.g=some d->s.fz=.v d->∃ F',Rl Fb Hb F' H (ρ.set i ((some s).getD .no).fz) σ:=λd G N P=>by
   obtain⟨p,o,K,W,E,T,a⟩:=r.ows i s h G
   have A:yU F (upd F p o):=λb u e=>by rw[zu (zo e E)];exact e
   show ∃ F',Rl Fb Hb F' H (ρ.set i s.fz) σ
   rw[P]
   have x:∀ {j:Nat} {t:Sl},(ρ.set i (.v d))[j]?=some t->t.isO=true->i≠j:=λ{j t} h g e=>by
    subst e
    rw[n0 D]at h
    cases h
    cases g
   refine⟨upd F p o,r.gr.show W E T,λj e z=>?_,λj t z g=>?_,λj k q t u n C J I O R=>?_,by simp[r.len]⟩
   .by_cases f:i=j
    .subst f
     rw[n0 D]at z
     cases z
     exact⟨_,K,a.at N zr A⟩
    .rw[j0 f]at z
     obtain⟨v,l,B⟩:=r.vals j e z
     exact⟨v,l,B.mono A⟩
   .have f:=x z g
    rw[j0 f]at z
    obtain⟨q,y,l,B,V,M,U⟩:=r.ows j t z g
    refine⟨q,y,l,B,?_,M,U.mono A⟩
    rw[zu (λw=>f (r.dis i j p s t h z G g K (by rw[<-w];exact l)))]
    exact V
   .have Q:=x n J
    have L:=x C I
    rw[j0 Q]at n
    rw[j0 L]at C
    exact r.dis j k q t u n C J I O R
  cases s with
  | no=>exact same rfl
  | v d=>exact same rfl
  | o S=>exact c _ rfl rfl rfl
  | m t X S=>exact c _ rfl rfl rfl
end
inductive Ctl where
 | nx (ρ:SE) | rt (d:D) | bk (ρ:SE) | ct (ρ:SE) | no
 deriving Inhabited
def SOk (Fb Hb:Hp)(E:zce):Ctl->Prop
 | .nx ρ=>∀ F H σ,Rl Fb Hb F H ρ σ->E.nx σ H
 | .bk ρ=>∀ F H σ,Rl Fb Hb F H ρ σ->E.bk σ H
 | .ct ρ=>∀ F H σ,Rl Fb Hb F H ρ σ->E.ct σ H
 | .rt d=>∀ F H v,Gr Fb Hb F H->At F d v->E.rt v H
 | .no=>False
def RS (t:TS)(g:SE->Ctl):Prop:=∀ (Fb Hb F H:Hp) (ρ:SE) (σ:St) (E:zce),Rl Fb Hb F H ρ σ->SOk Fb Hb E (g ρ)->t E σ H
def SD (X:Cx)(a:Stmt)(g:SE->Ctl):Prop:=∃ t,PS X a t/\RS t g
def SDs (X:Cx)(a:List Stmt)(g:SE->Ctl):Prop:=∃ t,PSs X a t/\RS t g
section
variable {X:Cx}{st:Stmt}{sts:List Stmt}{a b c e:Expr}{pos pos':Pos}
def zB:SE->Ctl:=.nx
noncomputable def zC (g h:SE->Ctl):SE->Ctl:=fun ρ=>match g ρ with
 | .nx ρ'=>h ρ'
 | .rt d=>.rt d
 | .bk ρ'=>.bk ρ'
 | .ct ρ'=>.ct ρ'
 | .no=>.no
theorem zay:SDs X [] zB:=⟨_,zdR,λ_ _ F H ρ σ E r h=>h F H σ r⟩
theorem zT {g h:SE->Ctl}(l:SD X st g)(i:SDs X sts h):SDs X (st::sts) (zC g h):=by
 obtain⟨t,p,r⟩:=l
 obtain⟨u,m,b⟩:=i
 refine⟨_,wP p m,λFb Hb F H ρ σ E j k=>?_⟩
 refine r Fb Hb F H ρ σ { E with nx:=u E } j ?_
 unfold zC at k
 cases e:g ρ with
 | nx c =>
  rw[e]at k
  exact λF' H' f a=>b Fb Hb F' H' c f E a k
 | rt d=>rw[e]at k;exact k
 | bk d=>rw[e]at k;exact k
 | ct d=>rw[e]at k;exact k
 | no=>rw[e]at k;exact k
theorem yy {g:SE->Ctl}(a:SD X st g):SDs X [st] g:=let ⟨_,p,r⟩:=a;⟨_,Zf p,r⟩
def sFz (i:Nat)(g:SE->Ctl):SE->Ctl:=fun ρ=>g (zqS ρ i)
theorem ze3 {g:SE->Ctl}(i:Nat)(h:SDs X sts g):SDs X sts (sFz i g):=by
 obtain⟨t,p,r⟩:=h
 refine⟨_,p,λFb Hb F H ρ σ E b k=>?_⟩
 obtain⟨F',a⟩:=b.freeze i
 exact r Fb Hb F' H _ σ E a k
def sNo:SE->Ctl:=λ_=>.no
theorem zew:SD X st sNo:=⟨_,zkG,λ_ _ _ _ _ _ _ _ h=>h.elim⟩
noncomputable def zO (f:Ev->Option D):SE->Ctl:=fun ρ=>match f (visG ρ) with
 | some d=>.rt d
 | none=>.no
theorem V6 {f:Ev->Option D}(h:ED X e f):SD X (.Return (some e) pos) (zO f):=by
 obtain⟨t,p,r⟩:=h
 refine⟨_,zaw p,λFb Hb F H ρ σ E a k=>?_⟩
 unfold zO at k
 cases h:f (visG ρ) with
 | none=>rw[h]at k;exact k.elim
 | some d =>
  rw[h]at k
  exact r σ _ _ H d _ a.gh a.visG h λF' H' v g b=>k F' H' v (a.out g) b
def vl:SE->Ctl:=λ_=>.rt .non
def vEv (m:Bool)(f:Ev->Option D)(ρ:SE):Option D:=if m=true then (f (visG ρ)).bind λd=>if noL d=true then some d else none else f (visF ρ)
theorem RE.at {Fb Hb F H:Hp}{ρ:SE}{σ:St}{m:Bool}{f:Ev->Option D}{t:TE}{d:D}{Q:VK}(r:RE t f)(a:Rl Fb Hb F H ρ σ)(h:vEv m f ρ=some d)(q:∀ F' H' v,Gr F H F' H'->At F' d v->Q v H'):t σ H Q:=by
 unfold vEv at h
 cases m with
 | false =>
  rw[t9 u7]at h
  exact r σ _ _ H d _ a.gr.fh a.visF h q
 | true =>
  rw[t6 rfl]at h
  obtain⟨l,i,b⟩:=u4.mp h
  split at b <;> cases b
  rename_i c
  refine r σ _ _ H d _ a.gh a.visG i λF' H' v g e=>?_
  obtain⟨k,j⟩:=a.back g
  exact q _ H' v k (e.flat j c)
def xo (m:Bool)(i:Nat)(f:Ev->Option D):SE->Ctl:=fun ρ=>match vEv m f ρ with
 | some d=>.nx (ρ.set i (.v d))
 | none=>.no
theorem X0 {m:Bool}{i:Nat}{x:Str}{f:Ev->Option D}(n:X.N.Nodup)(q:X.N[i]?=some x)(b:Loc X.env.scope x)(l:ED X e f)(c:swapsWith e (some (.Name x pos')) pos.line X.env=pure false:=by rfl)
 (o:X.fn x=true\/X.env.scope.names.lookup x=some .local:=by first | exact .inl rfl | exact .inr rfl | assumption):SD X (.Assign [.Name x pos'] e pos) (xo m i f):=by
 obtain⟨t,p,r⟩:=l
 refine⟨_,ZO n q b p c o,λFb Hb F H ρ σ E a k=>?_⟩
 unfold xo at k
 cases h:vEv m f ρ with
 | none=>rw[h]at k;exact k.elim
 | some d =>
  rw[h]at k
  exact r.at a h λF' H' v g j=>k F' H' _ ((a.grow g).set j)
noncomputable def yu (f:Ev->Option D):SE->Ctl:=fun ρ=>match f (visG ρ) with
 | some _=>.nx ρ
 | none=>.no
theorem wW {f:Ev->Option D}(c:ED X e f)(b:swapsWith e none pos.line X.env=pure false:=by rfl):SD X (.Expr e pos) (yu f):=by
 obtain⟨t,p,r⟩:=c
 refine⟨_,zbs p b,λFb Hb F H ρ σ E a k=>?_⟩
 unfold yu at k
 cases h:f (visG ρ) with
 | none=>rw[h]at k;exact k.elim
 | some d =>
  rw[h]at k
  exact r σ _ _ H d _ a.gh a.visG h λF' H' v g i=>k _ H' σ (a.grow (a.back g).1)
def Ya (i:Nat)(f:Ev->Option (List D)):SE->Ctl:=fun ρ=>match f (visF ρ) with
 | some a=>.nx (ρ.set i (.o a))
 | none=>.no
theorem zh7 {i:Nat}{x:Str}{f:Ev->Option (List D)}(o:X.N.Nodup)(v:X.N[i]?=some x)(b:Loc X.env.scope x)(n:FL X e f)(l:swapsWith e (some (.Name x pos')) pos.line X.env=pure false:=by rfl)
 (u:X.fn x=true\/X.env.scope.names.lookup x=some .local:=by first | exact .inl rfl | exact .inr rfl | assumption):SD X (.Assign [.Name x pos'] e pos) (Ya i f):=by
 obtain⟨t,p,r⟩:=n
 refine⟨_,ZO o v b p l u,λFb Hb F H ρ σ E a k=>?_⟩
 unfold Ya at k
 cases h:f (visF ρ) with
 | none=>rw[h]at k;exact k.elim
 | some s =>
  rw[h]at k
  refine r σ _ _ H s _ a.gr.fh a.visF h λF' H' q w g d m j b=>?_
  have c:=a.grow g
  exact k F' H' _ (c.setO (a.notbase d) m j b (a.notown d))
noncomputable def sIf (t:Ev->Option Bool)(g h:SE->Ctl):SE->Ctl:=fun ρ=>match t (visG ρ) with
 | some true=>g ρ
 | some false=>h ρ
 | none=>.no
theorem zdt {e f:List Stmt}{t:Ev->Option Bool}{g h:SE->Ctl}(j:TD X c t)(m:SDs X e g)(o:SDs X f h):SD X (.If c e f pos) (sIf t g h):=by
 obtain⟨u,r,n⟩:=j
 obtain⟨s,l,q⟩:=m
 obtain⟨v,p,i⟩:=o
 refine⟨_,zk6 r l p,λFb Hb F H ρ σ E b k=>?_⟩
 unfold sIf at k
 cases h:t (visG ρ) with
 | none=>rw[h]at k;exact k.elim
 | some d =>
  rw[h]at k
  refine n σ _ _ H d _ b.gh b.visG h λF' H' g=>?_
  have a:=b.grow (b.back g).1
  cases d with
  | true=>rw[t6 rfl];exact q Fb Hb _ H' ρ σ E a k
  | false=>rw[t9 u7];exact i Fb Hb _ H' ρ σ E a k
def w4 (t:Ev->Option Bool)(g:SE->Ctl):Nat->SE->Ctl
 | 0,_=>.no
 | n+1,ρ=>match t (visG ρ) with
  | some true=>match g ρ with
   | .nx a=>w4 t g n a
   | .ct a=>w4 t g n a
   | .bk a=>.nx a
   | .rt d=>.rt d
   | .no=>.no
  | some false=>.nx ρ
  | none=>.no
theorem zbe {j:List Stmt}{t:Ev->Option Bool}{g:SE->Ctl}(n:Nat)(p:PassesOwn (model X.prog X.w) X.A X.env X.xe)(l:TD X c t)(q:SDs X j g):SD X (.While c j [] pos) (w4 t g n):=by
 obtain⟨y,u,r⟩:=l
 obtain⟨A,o,s⟩:=q
 refine⟨_,zkb p u o,λFb Hb F H ρ σ E a k=>?_⟩
 refine⟨λm σ H=>∃ F ρ,Rl Fb Hb F H ρ σ/\SOk Fb Hb E (w4 t g m ρ),⟨n,F,ρ,a,k⟩,?_⟩
 rintro m σ H ⟨F,ρ,a,k⟩
 cases m with
 | zero=>exact k.elim
 | succ m =>
  unfold w4 at k
  cases h:t (visG ρ) with
  | none=>rw[h]at k;exact k.elim
  | some d =>
   rw[h]at k
   refine r σ _ _ H d _ a.gh a.visG h λF' H' x=>?_
   have b:=a.grow (a.back x).1
   cases d with
   | false=>rw[t9 u7];exact k _ H' σ b
   | true =>
    rw[t6 rfl]
    refine⟨fun σ H=>∃ F ρ,Rl Fb Hb F H ρ σ/\SOk Fb Hb E (w4 t g m ρ),λz H' w=>⟨m,u2P m,w⟩,?_⟩
    refine s Fb Hb _ H' ρ σ _ b ?_
    dsimp only at k
    cases e:g ρ with
    | nx f=>rw[e]at k;exact λF2 H2 v i=>⟨F2,f,i,k⟩
    | ct f=>rw[e]at k;exact λF2 H2 v i=>⟨F2,f,i,k⟩
    | bk f=>rw[e]at k;exact k
    | rt d=>rw[e]at k;exact k
    | no=>rw[e]at k;exact k.elim
def RG (t:TG)(b:D->SE->Option SE):Prop:=∀ (Fb Hb F H:Hp) (ρ a:SE) (σ:St) (d:D) (v:V) (Q:St->Hp->Prop),Rl Fb Hb F H ρ σ->At F d v->b d ρ=some a->(∀ c,Rl Fb Hb F H a c->Q c H)->t v σ H Q
def RGs (t:TGs)(b:List D->SE->Option SE):Prop:=∀ (Fb Hb F H:Hp) (ρ a:SE) (σ:St) (c:List D) (e:List V) (Q:St->Hp->Prop),Rl Fb Hb F H ρ σ->AtL F c e->b c ρ=some a->(∀ d,Rl Fb Hb F H a d->Q d H)->t e σ H Q
def BD (X:Cx)(a:Expr)(b:D->SE->Option SE):Prop:=∃ t,PG X a t/\RG t b
def BDs (X:Cx)(a:List Expr)(b:List D->SE->Option SE):Prop:=∃ t,PGs X a t/\RGs t b
def yF (i:Nat):D->SE->Option SE:=λd ρ=>some (ρ.set i (.v d))
theorem zbA {i:Nat}(h:PG X a (VZ i)):BD X a (yF i):=by
 refine⟨_,h,λFb Hb F H ρ f σ d v Q b c e q=>?_⟩
 cases e
 exact q _ (b.set c)
def Xp:List D->SE->Option SE
 | [],ρ=>some ρ
 | _,_=>none
def xH (b:D->SE->Option SE)(c:List D->SE->Option SE):List D->SE->Option SE
 | d::ds,ρ=>(b d ρ).bind (c ds)
 | [],_=>none
theorem zoc:BDs X [] Xp:=by
 refine⟨_,znJ,λFb Hb F H ρ d σ a f Q b c e q=>?_⟩
 cases a with
 | nil=>cases e;exact⟨c.nil_inv,q _ b⟩
 | cons _ _=>cases e
theorem zk3 {a:List Expr}{b:D->SE->Option SE}{c:List D->SE->Option SE}(n:BD X e b)(y:BDs X a c)
 (k:(assignEach (e::a) X.env).map (·.2)=assign e X.env::(assignEach a X.env).map (·.2):=by rfl):BDs X (e::a) (xH b c):=by
 obtain⟨t,p,r⟩:=n
 obtain⟨u,m,w⟩:=y
 refine⟨_,zlh p m k,λFb Hb F H ρ v σ g C Q z l e q=>?_⟩
 cases g with
 | nil=>cases e
 | cons d g =>
  obtain⟨x,i,rfl,o,j⟩:=l.cons_inv
  obtain⟨h,A,B⟩:=u4.mp e
  exact⟨x,i,rfl,r Fb Hb F H ρ h σ d x _ z o A λs f=>w Fb Hb F H h v s g i Q f j B q⟩
def Z8 (n:Nat)(c:List D->SE->Option SE):D->SE->Option SE
 | .tup ds,ρ=>if ds.length=n then c ds ρ else none
 | _,_=>none
theorem zpa {b:List Expr}{k:Nat}{n:Nat}{c:List D->SE->Option SE}(m:X.calm=true)(h:BDs X b c)
 (l:(assignEach b X.env).length=n:=by rfl) (f:(assignEach b X.env).findIdx? (·.1)=none:=by rfl):BD X (.Tuple b k pos) (Z8 n c):=by
 obtain⟨t,p,r⟩:=h
 refine⟨_,zp6 m p l f,λFb Hb F H ρ w σ d v Q g s e q=>?_⟩
 cases d with
 | tup x =>
  unfold Z8 at e
  dsimp only at e
  split at e
  .rename_i u
   obtain⟨a,i,rfl,o,j⟩:=s.tup_inv
   exact⟨a,i,rfl,SqT.of (g.gr.fh _ _ o),by rw[j.length];exact u,r Fb Hb F H ρ w σ x i Q g j e q⟩
  .cases e
 | _=>cases e
def Wr (m:Bool)(f:Ev->Option D)(b:D->SE->Option SE):SE->Ctl:=fun ρ=>match (vEv m f ρ).bind λd=>b d ρ with
 | some ρ'=>.nx ρ'
 | none=>.no
theorem zqC {m:Bool}{a:Expr}{f:Ev->Option D}{b:D->SE->Option SE}(y:ED X e f)(o:BD X a b)(j:swapsWithSole [a] e pos.line X.env=pure false:=by rfl)(hw:swappedStores [a] e X.env=pure none:=by rfl)
 (n:(assignEach [a] X.env).map (·.2)=[assign a X.env]:=by rfl):SD X (.Assign [a] e pos) (Wr m f b):=by
 obtain⟨t,p,r⟩:=y
 obtain⟨u,q,s⟩:=o
 refine⟨_,zmx p q j hw n,λFb Hb F H ρ σ E i k=>?_⟩
 unfold Wr at k
 cases h:(vEv m f ρ).bind λd=>b d ρ with
 | none=>rw[h]at k;exact k.elim
 | some w =>
  rw[h]at k
  obtain⟨d,z,A⟩:=u4.mp h
  refine r.at i z λF' H' v g l=>?_
  exact s Fb Hb F' H' ρ w σ d v _ (i.grow g) l A λx c=>k F' H' x c
def Y7 (m:Bool)(i:Nat)(b a:Ev->Option D):SE->Ctl:=fun ρ=>match (vEv m a ρ).bind λd=>(b (visG ρ)).bind λk=>match ρ[i]?,k with
 | some (.o ds),.int k=>(ixN ds.length k).map λj=>ρ.set i (.o (ds.set j d))
 | _,_=>none with
 | some ρ'=>.nx ρ'
 | none=>.no
theorem zqr {m:Bool}{i:Nat}{f:Expr}{x w:Ev->Option D}(S:ED X e w)(Q:PE X a (zb4 i))(R:ED X f x)(l:swapsWithSole [.Subscript a f pos'] e pos.line X.env=pure false:=by rfl)(hw:swappedStores [.Subscript a f pos'] e X.env=pure none:=by rfl)
 (M:(assignEach [.Subscript a f pos'] X.env).map (·.2)=[assign (.Subscript a f pos') X.env]:=by rfl)
 (K:∀ v,assign (.Subscript a f pos') X.env v=(do
  let ov<-holding [v] (eval a X.env)
  let iv<-holding [v,ov] (eval f X.env)
  standAt pos'
  holding [v,ov,iv] (setItem ov iv v)
  release [v,ov,iv] []):=by intro _;rfl):SD X (.Assign [.Subscript a f pos'] e pos) (Y7 m i x w):=by
 obtain⟨t,p,r⟩:=S
 obtain⟨Z,P,T⟩:=R
 refine⟨_,zmx p (zqa Q P zkh K) l hw M,λFb Hb F H ρ σ E C k=>?_⟩
 unfold Y7 at k
 cases h:(vEv m w ρ).bind λd=>(x (visG ρ)).bind λk=>match ρ[i]?,k with
  | some (.o s),.int k=>(ixN s.length k).map λj=>ρ.set i (.o (s.set j d))
  | _,_=>none with
 | none=>rw[h]at k;exact k.elim
 | some ρ' =>
  rw[h]at k
  obtain⟨d,Y,c⟩:=u4.mp h
  obtain⟨I,O,c⟩:=u4.mp c
  cases l:ρ[i]? with
  | none=>rw[l]at c;cases c
  | some W =>
   rw[l]at c
   cases W with
   | no=>cases c
   | v _=>cases c
   | m _ _ _=>cases c
   | o s =>
    cases I with
    | int N =>
     obtain⟨j,V,rfl⟩:=u9.mp c
     refine r.at C Y λF' H' v g L=>?_
     have b:=C.grow g
     obtain⟨q,xs,A,_⟩:=b.owns i s l
     refine⟨_,A,?_⟩
     refine T σ _ _ H' _ _ b.gh b.visG O λF3 H3 v3 U y=>?_
     obtain⟨B,_⟩:=b.back U
     have u:=b.grow B
     obtain⟨q3,z,n,_,_,J,G⟩:=u.owns i s l
     rw[A]at n
     cases n
     refine⟨q,z,N,j,rfl,y.int_inv,J,by rw[G.length];exact V,?_⟩
     exact k _ _ σ (u.mutate l A (G.set j (L.mono B.ff)))
    | _=>cases c
end
end Dl
namespace L2
open PySem PySem.Spec PyProof.Rows
section
variable {X:Cx}{tg:Expr}
def iSeq (K:W.Frag)(c:TE):TI:=fun σ H R=>c σ H λx H1=>(∃ a,x=.ref a/\(∃ b,SqL K H1 a b)/\R (Itl K a) H1)\/(∃ a,x=.ref a/\(∃ b,SqT K H1 a b)/\R (Itt K a) H1)
theorem zqy {l:Expr}{j:TE}(n:PE X l j):PI X tg l (iSeq X.K j):=by
 intro f s σ H R I h
 refine thn (n f s σ H _ I h) λv c hh9=>?_
 obtain⟨x,H1,I1,k,u⟩:=hh9
 rcases u with ⟨a,e,⟨r,g⟩,q⟩ | ⟨a,e,⟨r,g⟩,q⟩
 .subst e
  cases k
  obtain⟨d,m,p,t⟩:=I1.list g
  refine u2E p.isList ?_
  refine⟨c.heap.objs.size,[c.heap.objs.size],_,_,H1,rfl,I1.kept (t':=c.toks) λb o e=>u5 _ e,zgO a _,⟨_,q2 _ rfl,rfl,rfl⟩,λb i=>?_,q⟩
  have e:b=c.heap.objs.size:=by simpa using i
  subst e
  exact I1.fpOk (t4 _) (I1.hok.fresh (t4 _))
 .subst e
  cases k
  obtain⟨d,m,p,t⟩:=I1.tuple g
  refine u0D (show c.heap.IsTuple a d.toArray from p) ?_
  refine⟨c.heap.objs.size,[c.heap.objs.size],_,_,H1,rfl,I1.kept (t':=c.toks) λb o e=>u5 _ e,zfO a _,⟨_,q2 _ rfl,rfl,rfl⟩,λb i=>?_,q⟩
  have e:b=c.heap.objs.size:=by simpa using i
  subst e
  exact I1.fpOk (t4 _) (I1.hok.fresh (t4 _))
end
end L2
namespace Dl
open PySem L2
variable [KK]
def zoK (J:It)(F:Hp)(a:List D):Prop:=∀ (i:Nat) (F2 H2:Hp),yU F F2->yU F2 H2->(i=a.length->J.stop i H2) /\
 ∀ d,a[i]?=some d->J.go i H2/\∀ x H3,J.yld i H2 x H3->∃ F3,Gr F2 H2 F3 H3/\At F3 d x
def RI (b:TI)(f:Ev->Option (List D)):Prop :=
 ∀ (σ:St) (ρ:Ev) (F H:Hp) (a:List D) (R:It->Hp->Prop),yU F H->VAt F ρ σ->f ρ=some a->(∀ F' H' J,Gr F H F' H'->zoK J F' a->R J H')->b σ H R
def ID (X:Cx)(c a:Expr)(f:Ev->Option (List D)):Prop:=∃ b,PI X c a b/\RI b f
def xA:D->Option (List D)
 | .lst a=>some a
 | .tup a=>some a
 | _=>none
section
variable {X:Cx}{tg a b c e:Expr}{pos:Pos}
theorem zpH {K:W.Frag}{F:Hp}{p:Addr}{a:List V}{g:List D}(h:F p=some (.lst a))(j:AtL F g a):zoK (Itl K p) F g:=by
 intro i F2 H2 c e
 have q:SqL K H2 p a:=SqL.of (e _ _ (c _ _ h))
 refine⟨λm=>⟨a,q,by rw[j.length,m];exact t4 _⟩,λd l=>?_⟩
 obtain⟨x,f,k⟩:=j.get l
 refine⟨⟨a,x,q,f⟩,λy H3 b=>?_⟩
 obtain⟨rfl,b⟩:=b
 have:=b a q
 rw[f]at this
 cases this
 exact⟨F2,.refl e,k.mono c⟩
theorem zpP {K:W.Frag}{F:Hp}{p:Addr}{a:List V}{g:List D}(h:F p=some (.tup a))(j:AtL F g a):zoK (Itt K p) F g:=by
 intro i F2 H2 c e
 have q:SqT K H2 p a:=SqT.of (e _ _ (c _ _ h))
 refine⟨λm=>⟨a,q,by rw[j.length,m];exact t4 _⟩,λd l=>?_⟩
 obtain⟨x,f,k⟩:=j.get l
 refine⟨⟨a,x,q,f⟩,λy H3 b=>?_⟩
 obtain⟨rfl,b⟩:=b
 have:=b a q
 rw[f]at this
 cases this
 exact⟨F2,.refl e,k.mono c⟩
def iOf (f:Ev->Option D):Ev->Option (List D):=fun ρ=>(f ρ).bind xA
theorem Y4 {f:Ev->Option D}(k:ED X a f):ID X tg a (iOf f):=by
 obtain⟨t,p,r⟩:=k
 refine⟨_,zqy p,fun σ ρ F H n R s j e q=>?_⟩
 obtain⟨d,l,m⟩:=u4.mp e
 refine r σ ρ F H d _ s j l λF1 H1 v c i=>?_
 cases d <;> try cases m
 .obtain⟨p,g,rfl,b,h⟩:=i.tup_inv
  exact .inr ⟨p,rfl,⟨g,SqT.of (c.fh _ _ b)⟩,q F1 H1 _ c (zpP b h)⟩
 .obtain⟨p,g,rfl,b,h⟩:=i.lst_inv
  exact .inl ⟨p,rfl,⟨g,SqL.of (c.fh _ _ b)⟩,q F1 H1 _ c (zpH b h)⟩
def Wy (a:Int)(n:Nat):List D:=(List.range n).map λk:Nat=>.int (a+k)
theorem zij {F:Hp}(c:Int)(n:Nat):zoK (Itr c n) F (Wy c n):=by
 intro i F2 H2 j g
 have a:(Wy c n).length=n:=by unfold Wy;simp
 refine⟨λf=>by rw[a]at f;rw[f];exact t4 _,λd b=>?_⟩
 have e:i < n:=by
  have:=(q0.mp b).1
  omega
 refine⟨e,λy H3 h=>?_⟩
 obtain⟨rfl,rfl⟩:=h
 refine⟨F2,.refl g,?_⟩
 unfold Wy at b
 rw[j1,u1W e]at b
 cases b
 exact .int
@[irreducible] def zlz (j:Int):Bool:=decide (-(2 ^ 62)<=j/\j < 2 ^ 62)
omit [KK] in
theorem xP {j:Int}:zlz j=true↔-(2 ^ 62)<=j/\j < 2 ^ 62:=by unfold zlz;exact decide_eq_true_iff
def v0:List D->Option (List D)
 | [.int j]=>if zlz j=true then some (Wy 0 j.toNat)else none
 | _=>none
def ZD:List D->Option (List D)
 | [.int i,.int j]=>if zlz i=true/\zlz j=true then some (Wy i (j - i).toNat)else none
 | _=>none
def Zq (g:List D->Option (List D))(f:Ev->Option (List D)):Ev->Option (List D):=fun ρ=>(f ρ).bind g
theorem zcl {p:Pos} {f:Ev->Option (List D)} (o:Gl X "range") (l:X.mg "range"=none) (n:AD X [a] f) (m:starEach [a] X.env=[(false,eval a X.env)]:=by rfl):ID X tg (.Call (.Name "range" p) [a] [] pos) (Zq v0 f):=by
 obtain⟨t,k,r⟩:=n
 refine⟨_,zcd o l k m,fun σ ρ F H z R s h e q=>?_⟩
 obtain⟨d,w,b⟩:=u4.mp e
 refine r σ ρ F H d _ s h w λF1 H1 v j u=>?_
 unfold v0 at b
 split at b
 .split at b
  .cases b
   rename_i c
   obtain⟨x,y,rfl,g,i⟩:=u.cons_inv
   cases i.nil_inv
   exact⟨_,by rw[g.int_inv],(xP.mp c).1,(xP.mp c).2,q F1 H1 _ j (zij 0 _)⟩
  .cases b
 .cases b
theorem zi4 {p:Pos} {f:Ev->Option (List D)} (n:Gl X "range") (B:X.mg "range"=none) (m:AD X [a,b] f) (l:starEach [a,b] X.env=[(false,eval a X.env),(false,eval b X.env)]:=by rfl) (i:starEach [b] X.env=[(false,eval b X.env)]:=by rfl) :
 ID X tg (.Call (.Name "range" p) [a,b] [] pos) (Zq ZD f):=by
 obtain⟨t,k,r⟩:=m
 refine⟨_,zhb n B k l i,fun σ ρ F H E R s z e q=>?_⟩
 obtain⟨d,C,c⟩:=u4.mp e
 refine r σ ρ F H d _ s z C λF1 H1 v A o=>?_
 unfold ZD at c
 split at c
 .split at c
  .cases c
   rename_i g
   obtain⟨x,j,rfl,w,h⟩:=o.cons_inv
   obtain⟨y,j,rfl,u,h⟩:=h.cons_inv
   cases h.nil_inv
   exact⟨_,_,by rw[w.int_inv,u.int_inv],⟨(xP.mp g.1).1,(xP.mp g.1).2,(xP.mp g.2).1,(xP.mp g.2).2⟩,q F1 H1 _ A (zij _ _)⟩
  .cases c
 .cases c
def VW (n:Nat):List D->List D
 | []=>[]
 | d::ds=>.tup [.int n,d]::VW (n+1) ds
omit [KK] in
theorem Z5 (a:List D):∀ (n i:Nat),(VW n a)[i]?=(a[i]?).map λd=>.tup [.int ((n+i:Nat):Int),d]:=by
 induction a with
 | nil=>intro n i;simp[VW]
 | cons d a b =>
  intro n i
  cases i with
  | zero=>simp[VW]
  | succ i =>
   show(VW (n+1) a)[i]?=(a[i]?).map _
   rw[b]
   have:n+1+i=n+(i+1):=by omega
   rw[this]
omit [KK] in
theorem Yk (a:List D):∀ n,(VW n a).length=a.length:=by
 induction a with
 | nil=>intro n;rfl
 | cons d a b=>intro n;simp[VW,b]
def y6 (f:Ev->Option (List D)):Ev->Option (List D):=fun ρ=>(f ρ).bind λa=>match a with
 | [d]=>(xA d).map (VW 0)
 | _=>none
theorem zoA {G:List Expr} {k:Nat} {S p:Pos} {f:Ev->Option (List D)} (M:Gl X "enumerate") (U:X.mg "enumerate"=none) (P:bootBuiltins "enumerate"=some (.type "enumerate")) (L:AD X [a] f)
 (K:starEach [a] X.env=[(false,eval a X.env)]:=by rfl):ID X (.Tuple G k S) (.Call (.Name "enumerate" p) [a] [] pos) (y6 f):=by
 obtain⟨t,J,r⟩:=L
 refine⟨_,zmN M U P J K,fun σ ρ F H ds R s Q e q=>?_⟩
 obtain⟨W,Y,E⟩:=u4.mp e
 refine r σ ρ F H W _ s Q Y λF1 H1 v A N=>?_
 split at E
 .obtain⟨x,Z,rfl,l,I⟩:=N.cons_inv
  cases I.nil_inv
  obtain⟨G,O,rfl⟩:=u9.mp E
  rename_i d
  cases d <;> try cases O
  .obtain⟨p,c,rfl,m,w⟩:=l.tup_inv
   refine⟨p,rfl,.inr ⟨c,SqT.of (A.fh _ _ m),q F1 H1 _ A λi F2 H2 o u=>?_⟩⟩
   have h:SqT X.K H2 p c:=SqT.of (u _ _ (o _ _ m))
   refine⟨λB=>⟨c,h,by rw[w.length,B,Yk];exact t4 _⟩,λd n=>?_⟩
   rw[Z5]at n
   obtain⟨V,g,rfl⟩:=u9.mp n
   obtain⟨x,b,l⟩:=w.get g
   refine⟨⟨c,x,h,b⟩,λy H3 j=>?_⟩
   obtain⟨T,y,rfl,C,rfl,j⟩:=j
   have:=j c h
   rw[b]at this
   cases this
   have z:=Gr.alloc u C (.tup [.int i,x])
   exact⟨_,z,.tup zr (.cons (by rw[m3];exact .int) (.cons (l.mono (o.trans z.ff)) .nil))⟩
  .obtain⟨p,c,rfl,m,w⟩:=l.lst_inv
   refine⟨p,rfl,.inl ⟨c,A.fh _ _ m,q F1 H1 _ A λi F2 H2 o u=>?_⟩⟩
   have h:SqL X.K H2 p c:=SqL.of (u _ _ (o _ _ m))
   refine⟨λB=>⟨c,h,by rw[w.length,B,Yk];exact t4 _⟩,λd n=>?_⟩
   rw[Z5]at n
   obtain⟨V,g,rfl⟩:=u9.mp n
   obtain⟨x,b,l⟩:=w.get g
   refine⟨⟨c,x,h,b⟩,λy H3 j=>?_⟩
   obtain⟨T,y,rfl,C,rfl,j⟩:=j
   have:=j c h
   rw[b]at this
   cases this
   have z:=Gr.alloc u C (.tup [.int i,x])
   exact⟨_,z,.tup zr (.cons (by rw[m3];exact .int) (.cons (l.mono (o.trans z.ff)) .nil))⟩
 .cases E
def hb2 (F1 Hb:Hp):Hp:=λp=>match F1 p with
 | some o=>some o
 | none=>Hb p
theorem WH {F1 Hb:Hp}{p:Addr}(h:F1 p=none):hb2 F1 Hb p=Hb p:=by unfold hb2;rw[h]
theorem zlB {F1 Hb:Hp}{p:Addr}{o:HO}(h:F1 p=some o):hb2 F1 Hb p=some o:=by unfold hb2;rw[h]
theorem Gr.up {Fb Hb F1 H1 F H:Hp}(b:Gr Fb Hb F1 H1)(g:Gr F1 (hb2 F1 Hb) F H):Gr Fb Hb F H:=by
 refine⟨b.ff.trans g.ff,g.fh,λp o e c=>?_⟩
 rcases(b.kp p o e c).1 with n | ⟨d,a⟩
 .exact g.kp p o n (by rw[WH n];exact c)
 .exact⟨.inr ⟨d,g.ff _ _ a⟩,g.fh _ _ (g.ff _ _ a)⟩
theorem Gr.dn {Fb Hb F1 F H:Hp}(g:Gr Fb Hb F H)(c:yU Fb F1)(s:yU F1 F):Gr F1 (hb2 F1 Hb) F H:=by
 refine⟨s,g.fh,λp o a b=>?_⟩
 rw[WH a]at b
 exact g.kp p o (c.free a) b
theorem Rl.up {Fb Hb F1 H1 F H:Hp}{ρ:SE}{σ:St}(b:Gr Fb Hb F1 H1)(r:Rl F1 (hb2 F1 Hb) F H ρ σ):Rl Fb Hb F H ρ σ:=by
 refine⟨b.up r.gr,r.vals,λi s e f=>?_,r.dis,r.len⟩
 obtain⟨p,o,c,a,d⟩:=r.ows i s e f
 refine⟨p,o,c,?_,d⟩
 cases h:F1 p with
 | none=>rw[WH h]at a;exact a
 | some o=>rw[zlB h]at a;cases a
theorem Rl.dn {Fb Hb F1 F H:Hp}{ρ:SE}{σ:St}(r:Rl Fb Hb F H ρ σ)(b:yU Fb F1)(s:yU F1 F):Rl F1 (hb2 F1 Hb) F H ρ σ:=by
 refine⟨r.gr.dn b s,r.vals,λi t e f=>?_,r.dis,r.len⟩
 obtain⟨p,o,d,g,a,c⟩:=r.ows i t e f
 refine⟨p,o,d,?_,a,c⟩
 rw[WH (s.free a)]
 exact g
def zgV (b:D->SE->Option SE)(g:SE->Ctl):List D->SE->Ctl
 | [],ρ=>.nx ρ
 | d::ds,ρ=>match b d ρ with
  | none=>.no
  | some c=>match g c with
   | .nx a=>zgV b g ds a
   | .ct a=>zgV b g ds a
   | .bk a=>.nx a
   | .rt d=>.rt d
   | .no=>.no
noncomputable def vZ (f:Ev->Option (List D))(b:D->SE->Option SE)(g:SE->Ctl):SE->Ctl:=fun ρ=>match f (visF ρ) with
 | some a=>zgV b g a ρ
 | none=>.no
theorem zlV {Fb Hb F1 H1:Hp}{ρ:SE}{σ:St}{E:zce}{J:It}{g:TG}{B:TS}{a:List D}{b:D->SE->Option SE}{j:SE->Ctl}(y:zoK J F1 a)(R:RG g b)(M:RS B j)(c:Rl Fb Hb F1 H1 ρ σ)(k:SOk Fb Hb E (zgV b j a ρ)) :
 ∃ W:Nat->Nat->St->Hp->Prop,(∃ m,W 0 m σ H1)/\∀ i m σ H,W i m σ H ->
  (J.stop i H/\E.nx σ H)\/(J.go i H/\∃ N:St->Hp->Prop,(∀ r H',N r H'->∃ G,G < m/\W (i+1) G r H')/\∀ x H',J.yld i H x H'->g x σ H' λz H2=>B { E with nx:=N,ct:=N,bk:=E.nx } z H2):=by
 refine⟨λi m σ H=>m=a.length - i/\i<=a.length/\∃ F ρ,yU F1 F/\Rl Fb Hb F H ρ σ/\SOk Fb Hb E (zgV b j (a.drop i) ρ),⟨a.length,by simp,o5 _,F1,ρ,yU.refl _,c,k⟩,?_⟩
 rintro i m σ H ⟨rfl,V,F,ρ,A,t,k⟩
 obtain⟨l,O⟩:=y i F H A t.gr.fh
 by_cases h:i < a.length
 .have K:a.drop i=a[i]::a.drop (i+1):=u0q h
  rw[K]at k
  unfold zgV at k
  obtain⟨P,U⟩:=O a[i] (by simp[h])
  refine .inr ⟨P,fun σ H=>∃ F ρ,yU F1 F/\Rl Fb Hb F H ρ σ/\SOk Fb Hb E (zgV b j (a.drop (i+1)) ρ),λr H' w=>⟨a.length - (i+1),by omega,rfl,h,w⟩,λx H' L=>?_⟩
  obtain⟨F3,C,S⟩:=U x H' L
  cases s:b a[i] ρ with
  | none=>rw[s]at k;exact k.elim
  | some u =>
   rw[s]at k
   dsimp only at k
   refine R Fb Hb F3 H' ρ u σ _ x _ (t.grow C) S s λz q=>?_
   have I:=A.trans C.ff
   refine M F1 (hb2 F1 Hb) F3 H' u z _ (q.dn c.gr.ff I) ?_
   cases n:j u with
   | nx o=>rw[n]at k;exact λF4 H4 p f=>⟨F4,o,f.gr.ff,f.up c.gr,k⟩
   | ct o=>rw[n]at k;exact λF4 H4 p f=>⟨F4,o,f.gr.ff,f.up c.gr,k⟩
   | bk o=>rw[n]at k;exact λF4 H4 p f=>k F4 H4 p (f.up c.gr)
   | rt d=>rw[n]at k;exact λF4 H4 v T Q=>k F4 H4 v (c.gr.up T) Q
   | no=>rw[n]at k;exact k.elim
 .have e:i=a.length:=by omega
  subst e
  rw[u1E]at k
  exact .inl ⟨l rfl,k F H σ t⟩
theorem zeT {a:Expr}{c:List Stmt}{f:Ev->Option (List D)}{b:D->SE->Option SE}{g:SE->Ctl}(s:PassesOwn (model X.prog X.w) X.A X.env X.xe)(j:X.calm=true)(w:ID X tg a f)(m:BD X tg b)(p:SDs X c g)
 (l:∀ x,foldedSetIterable a X.env x=pure x:=by intro _;rfl):SD X (.For tg a c [] pos) (vZ f b g):=by
 obtain⟨y,q,n⟩:=w
 obtain⟨i,o,v⟩:=m
 obtain⟨z,t,e⟩:=p
 refine⟨_,zmj s j q o t l,λFb Hb F H ρ σ E d k=>?_⟩
 unfold vZ at k
 cases h:f (visF ρ) with
 | none=>rw[h]at k;exact k.elim
 | some u =>
  rw[h]at k
  exact n σ _ _ H u _ d.gr.fh d.visF h λF1 H1 J r ok=>zlV ok v e (d.grow r) k
end
def lcD (b:D->Option (List (Option D)))(t:Ev->Option Bool)(f:Ev->Option D)(ρ:Ev):List D->Option (List D)
 | []=>some []
 | d::ds=>(b d).bind λown=>(t (own++ρ)).bind λc=>if c=true then (f (own++ρ)).bind λy=>(lcD b t f ρ ds).map (y::·)else lcD b t f ρ ds
def fLC (i:Ev->Option (List D))(b:D->Option (List (Option D)))(t:Ev->Option Bool)(f:Ev->Option D):Ev->Option (List D):=fun ρ=>(i ρ).bind λa=>if lim a.length=true then lcD b t f ρ a else none
def b1:D->Option (List (Option D)):=λd=>some [some d]
def b2:D->Option (List (Option D))
 | .tup [x,y]=>some [some x,some y]
 | _=>none
def RB (n:Nat)(t:TG)(b:D->Option (List (Option D))):Prop:=∀ (σ:St) (ρ:Ev) (F H:Hp) (d:D) (v:V) (own:List (Option D)) (Q:St->Hp->Prop),yU F H->VAt F ρ σ->At F d v->b d=some own->(∀ a,VAt F (own++ρ) a->Q a H)->t v (List.replicate n none++σ) H Q
def yw:Ev->Option Bool:=λ_=>some true
theorem zo0:RT tYes yw:=λ_ _ _ _ _ _ s _ e q=>by cases e;exact q _ _ (.refl s)
theorem zkl {wi:TI}{n:Nat}{g:TG}{tt:TT}{te:TE}{fi:Ev->Option (List D)}{b:D->Option (List (Option D))}{ft:Ev->Option Bool}{fe:Ev->Option D}(ri:RI wi fi)(rg:RB n g b)(rt:RT tt ft)(re:RE te fe) :
 RF (tLC wi n g tt te) (fLC fi b ft fe):=by
 intro σ ρ F H O Q s va e q
 obtain⟨a,e1,L⟩:=u4.mp e
 split at L <;> try cases L
 rename_i B
 have B:a.length<=sizeLine:=j2 B
 refine ri σ ρ F H a _ s va e1 λF1 H1 J A ok=>?_
 intro P E
 have N:F1 P=none:=A.fh.free E
 have a0:H P=none:=by
  cases e:H P with
  | none=>rfl
  | some o =>
   cases L:F P with
   | none=>rw[(A.kp P o L e).2]at E;cases E
   | some u=>rw[A.fh _ _ (A.ff _ _ L)]at E;cases E
 refine⟨λi m M H2=>m=a.length - i/\i<=a.length/\∃ F2 done,Gr F1 H1 F2 H2/\Gr F1 (upd H1 P (.lst [])) F2 (upd H2 P (.lst []))/\F2 P=none/\H2 P=some (.lst M)/\AtL F2 done M/\done.length<=i/\∃ f,lcD b ft fe ρ (a.drop i)=some f/\done++f=O,⟨a.length,by simp,o5 _,F1,[],Gr.hide A.fh E _,?_,N,zr,.nil,o5 _,O,L,rfl⟩,?_⟩
 .rw[zdu]
  exact .refl λb u z=>by rw[zu (zo z N)];exact A.fh b u z
 rintro i m M H2 ⟨rfl,hi,F2,done,C,a2,I,G,V,a4,f,c,d⟩
 obtain⟨S,go⟩:=ok i F2 H2 C.ff C.fh
 by_cases t:i < a.length
 .have hd:a.drop i=a[i]::a.drop (i+1):=u0q t
  rw[hd]at c
  unfold lcD at c
  obtain⟨own,hb,c⟩:=u4.mp c
  obtain⟨cb,hc,c⟩:=u4.mp c
  obtain⟨k1,k2⟩:=go a[i] (by simp[t])
  refine .inr ⟨k1,by rw[V.length];omega,λx H3 Z=>?_⟩
  obtain⟨F3,U,a3⟩:=k2 x H3 Z
  refine rg σ ρ F3 H3 a[i] x own _ U.fh (va.mono (A.ff.trans (C.ff.trans U.ff))) a3 hb fun σ4 R=>?_
  refine rt σ4 _ F3 H3 cb _ U.fh R hc λF5 H5 X=>?_
  have k:=U.trans X
  obtain⟨Y,h5⟩:=k.kl (λ_ e=>by cases e) I G
  have j:∀ {F6 H6:Hp} {o:HO},Gr F2 H2 F6 H6->F6 P=none->Gr F1 (upd H1 P (.lst [])) F6 (upd (upd H6 P o) P (.lst [])):=λ{F6 H6 o} p w=>by
   rw[zdu]
   refine⟨C.ff.trans p.ff,λb u z=>?_,λb u W K=>?_⟩
   .rw[zu (zo z w)];exact p.fh b u z
   .by_cases l:b=P
    .subst l
     rw[zr]at K ⊢
     exact⟨.inl w,K⟩
    .rw[zu l]at K ⊢
     exact(C.trans p).kp b u W K
  have h:∀ {F6 H6:Hp} {o:HO},Gr F2 H2 F6 H6->F6 P=none->Gr F1 H1 F6 (upd H6 P o):=λ{F6 H6 o} p w=>by
   refine⟨C.ff.trans p.ff,λb u z=>?_,λb u W K=>?_⟩
   .rw[zu (zo z w)];exact p.fh b u z
   .rw[zu (zo K E)]
    exact(C.trans p).kp b u W K
  cases cb with
  | false =>
   rw[t9 u7]at c ⊢
   have T:H5=upd H5 P (.lst M):=by
    funext b
    by_cases l:b=P
    .subst l;rw[zr];exact h5
    .rw[zu l]
   refine⟨a.length - (i+1),by omega,rfl,t,F5,done,?_,?_,Y,h5,V.mono k.ff,by omega,f,c,d⟩
   .rw[T];exact h k Y
   .have:=j (o:=.lst M) k Y
    rw[<-T]at this
    exact this
  | true =>
   rw[t6 rfl]at c ⊢
   obtain⟨y,Z,c⟩:=u4.mp c
   obtain⟨rest,a1,rfl⟩:=u9.mp c
   refine re σ4 _ F5 H5 y _ X.fh (R.mono X.ff) Z λF6 H6 v p a6=>?_
   have r:=k.trans p
   obtain⟨w,h6⟩:=r.kl (λ_ e=>by cases e) I G
   refine⟨h6,a.length - (i+1),by omega,rfl,t,F6,done++[y],h r w,j r w,w,zr,(V.mono r.ff).snoc a6,by rw[j4];simp;omega,rest,a1,by rw[<-d,u2u];rfl⟩
 .have e:i=a.length:=by omega
  subst e
  rw[u1E]at c
  cases c
  rw[o9]at d
  subst d
  exact .inl ⟨S rfl,q F2 H2 P M (A.trans C) a0 I G V⟩
theorem rb1:RB 1 (VZ 0) b1:=by
 intro σ ρ F H d v own Q s a c e q
 cases e
 refine q _ λi b h=>?_
 cases i with
 | zero=>cases h;exact⟨v,rfl,c⟩
 | succ i=>exact a i b h
def tCan (f:Ev->Option D):TE:=fun σ H Q=>∃ ρ F d,yU F H/\VAt F ρ σ/\f ρ=some d/\∀ F' H' v,Gr F H F' H'->At F' d v->Q v H'
def zpj (f:Ev->Option Bool):TT:=fun σ H Q=>∃ ρ F d,yU F H/\VAt F ρ σ/\f ρ=some d/\∀ F' H',Gr F H F' H'->Q d H'
theorem ED.can {X:Cx}{e:Expr}{f:Ev->Option D}(h:ED X e f):PE X e (tCan f):=by
 obtain⟨t,p,r⟩:=h
 rintro a s σ H Q I ⟨ρ,F,d,g,c,i,b⟩
 exact p a s σ H Q I (r σ ρ F H d Q g c i b)
theorem TD.can {X:Cx}{e:Expr}{f:Ev->Option Bool}(h:TD X e f):PT X e (zpj f):=by
 obtain⟨t,p,r⟩:=h
 rintro a s σ H Q I ⟨ρ,F,d,g,c,i,b⟩
 exact p a s σ H Q I (r σ ρ F H d Q g c i b)
theorem zet {f:Ev->Option D}:RE (tCan f) f:=λ_ ρ F _ d _ a e b c=>⟨ρ,F,d,a,e,b,c⟩
theorem zjm {f:Ev->Option Bool}:RT (zpj f) f:=λ_ ρ F _ d _ a e b c=>⟨ρ,F,d,a,e,b,c⟩
theorem zcP {X:Cx}{d e c:Expr}{L M:List Str}{a:Scope}{f:List (Str × Addr)}{i:Pos}{l:Ev->Option (List D)}{b:D->Option (List (Option D))}{k:Ev->Option D}{g:TG}
 (o:X.calm=true) (S:xV X L M a f) (t:ID X e c l)
 (j:∀ (σ:St) (v:V) (H:Hp) (Q:St->Hp->Prop),g v (List.replicate L.length none++σ) H Q->g v (List.replicate L.length none++σ) H (λm H2=>Zr (List.replicate L.length none++σ) m/\Q m H2))
 (h:RB L.length g b)
 (r:∀ s₀ H₀ ex pn,PG (Wc X L M a f s₀ H₀ ex pn) e g) (p:∀ s₀ H₀ ex pn,ED (Wc X L M a f s₀ H₀ ex pn) d k)
 (q:∀ x,foldedSetIterable c X.env x=pure x:=by intro _;rfl):FL X (.ListComp d [⟨e,c,[],0⟩] a i) (fLC l b yw k):=by
 obtain⟨u,n,s⟩:=t
 exact⟨_,zlY o S n j r (λ_ _ _ _=>zmU) (λ_ _ _ _=>(p _ _ _ _).can) q,zkl s h zo0 zet⟩
theorem zmD {X:Cx}{e h d c:Expr}{L M:List Str}{a:Scope}{f:List (Str × Addr)}{j:Pos}{n:Ev->Option (List D)}{b:D->Option (List (Option D))}{m:Ev->Option Bool}{l:Ev->Option D}{g:TG}
 (q:X.calm=true) (S:xV X L M a f) (y:ID X h d n)
 (k:∀ (σ:St) (v:V) (H:Hp) (Q:St->Hp->Prop),g v (List.replicate L.length none++σ) H Q->g v (List.replicate L.length none++σ) H (λo H2=>Zr (List.replicate L.length none++σ) o/\Q o H2))
 (i:RB L.length g b)
 (s:∀ s₀ H₀ ex pn,PG (Wc X L M a f s₀ H₀ ex pn) h g) (p:∀ s₀ H₀ ex pn,TD (Wc X L M a f s₀ H₀ ex pn) c m) (w:∀ s₀ H₀ ex pn,ED (Wc X L M a f s₀ H₀ ex pn) e l)
 (r:∀ x,foldedSetIterable d X.env x=pure x:=by intro _;rfl):FL X (.ListComp e [⟨h,d,[c],0⟩] a j) (fLC n b m l):=by
 obtain⟨z,u,t⟩:=y
 exact⟨_,zlY q S u k s (λ_ _ _ _=>zdE (p _ _ _ _).can) (λ_ _ _ _=>(w _ _ _ _).can) r,zkl t i zjm zet⟩
theorem zpU {t:TE}{f:Ev->Option (List D)}(r:RF t f):RE t (yA f):=by
 intro σ ρ F H d Q s c e q
 obtain⟨k,l,rfl⟩:=u9.mp e
 refine r σ ρ F H k Q s c l λF' H' p n g j a h i=>?_
 have m:=g.show j a h
 exact q _ _ _ m (At.lst zr (i.mono (λb u e=>by rw[zu (zo e a)];exact e)))
def FLS (X:Cx)(i:Nat)(a:Stmt)(f:Ev->Option (List D)):Prop:=∃ t,PS X a (zoI t (VZ i))/\RF t f
theorem znF {m:Bool}{i:Nat}{b:Stmt}{f:Ev->Option (List D)}(c:FLS X i b f):SD X b (xo m i (yA f)):=by
 obtain⟨t,p,r⟩:=c
 refine⟨_,p,λFb Hb F H ρ σ E a k=>?_⟩
 unfold xo at k
 cases h:vEv m (yA f) ρ with
 | none=>rw[h]at k;exact k.elim
 | some d =>
  rw[h]at k
  exact(zpU r).at a h λF' H' v g e=>k F' H' _ ((a.grow g).set e)
theorem zm8 {i:Nat}{x:Str}{q e:Pos}{X:Cx}{f j d c:Expr}{L M:List Str}{a:Scope}{k:List (Str × Addr)}{h:Pos}{s:Ev->Option (List D)}{b:D->Option (List (Option D))}{r:Ev->Option Bool}{p:Ev->Option D}{g:TG}
 (F:X.N.Nodup) (m:X.N[i]?=some x) (y:Loc X.env.scope x) (w:X.calm=true) (S:xV X L M a k) (G:ID X j d s)
 (o:∀ (σ:St) (v:V) (H:Hp) (Q:St->Hp->Prop),g v (List.replicate L.length none++σ) H Q->g v (List.replicate L.length none++σ) H (λt H2=>Zr (List.replicate L.length none++σ) t/\Q t H2))
 (n:RB L.length g b)
 (A:∀ s₀ H₀ ex pn,PG (Wc X L M a k s₀ H₀ ex pn) j g) (u:∀ s₀ H₀ ex pn,TD (Wc X L M a k s₀ H₀ ex pn) c r) (E:∀ s₀ H₀ ex pn,ED (Wc X L M a k s₀ H₀ ex pn) f p)
 (z:∀ x,foldedSetIterable d X.env x=pure x:=by intro _;rfl)
 (l:swapsWith (.ListComp f [⟨j,d,[c],0⟩] a h) (some (.Name x q)) e.line X.env=pure true:=by rfl)
 (I:X.fn x=true\/X.env.scope.names.lookup x=some .local:=by first | exact .inl rfl | exact .inr rfl | assumption):FLS X i (.Assign [.Name x q] (.ListComp f [⟨j,d,[c],0⟩] a h) e) (fLC s b r p):=by
 obtain⟨J,C,B⟩:=G
 exact⟨_,zpp F m y w S C o A (λ_ _ _ _=>zdE (u _ _ _ _).can) (λ_ _ _ _=>(E _ _ _ _).can) z l I,zkl B n zjm zet⟩
noncomputable def fnD (n:Nat)(g:SE->Ctl)(a:List D):Option D:=match g (a.map .v++List.replicate (n - a.length) .no) with
 | .rt d=>some d
 | .nx _=>some .non
 | _=>none
def spD (m:Nat)(p:List D->Option D):Sp:=λb H Q _=>∃ a d F,a.length=m/\yU F H/\AtL F a b/\p a=some d/\∀ F' H' v,Gr F H F' H'->At F' d v->Q v H'
theorem zeV {F H:Hp}{N:List Str}{b:List D}{l:List V}(s:yU F H)(a:AtL F b l):Rl F H F H (b.map .v++List.replicate (N.length - b.length) .no) (L2.start N l):=by
 have k:=a.length
 have g:∀ (i:Nat) (t:Sl),(b.map Sl.v++List.replicate (N.length - b.length) Sl.no)[i]?=some t->t.isO=true->False:=λi t h f=>by
  by_cases c:i < b.length
  .rw[m6 (by simpa using c),j1]at h
   cases e:b[i]? with
   | none=>rw[e]at h;cases h
   | some d=>rw[e]at h;cases h;cases f
  .rw[p0 (by simpa using c),l5]at h
   split at h <;> cases h
   cases f
 refine⟨.refl s,λi d h=>?_,λi t h f=>(g i t h f).elim,λi j p t u h _ f=>(g i t h f).elim,?_⟩
 .by_cases c:i < b.length
  .rw[m6 (by simpa using c),j1]at h
   cases e:b[i]? with
   | none=>rw[e]at h;cases h
   | some o =>
    rw[e]at h
    cases h
    obtain⟨x,n,m⟩:=a.get e
    refine⟨x,?_,m⟩
    unfold L2.start
    rw[m6 (by simpa [k]using c),j1,n]
    rfl
  .rw[p0 (by simpa using c),l5]at h
   split at h <;> cases h
 .unfold L2.start
  simp[k]
theorem Vz {P:Program}{w:World}{K:W.Frag}{n:Str->Option Value}{i:Heap}{x b:Str}{l:Stmt}{f:Addr}{u:FuncData}{N ps:List Str}{k:Nat}{g:SE->Ctl}(Fu:Fun K x b l f u)(S:vJ N ps (zF l))
 (C:∀ (c:Value) (A:Around) (outer:List Env) (s:Shared) (H:Hp) (E:XK),ww k (A.deeper (PyProof.Rows.envOfC b (zF l) s.heap.objs.size f c))->SDs (vX CX0 P w K n i N b (zF l) f c A outer s H E).nox (xQ l) g) :
 Yb P w K n i CX0 (k+1) f u ps (spD ps.length (fnD N.length g)):=by
 refine Fu.ok S (λB H Q E h=>?_) λc A outer s H B Q E y h=>?_
 .obtain⟨m,d,F,o,_,a,_⟩:=h
  rw[a.length];exact o
 .obtain⟨m,d,F,o,G,a,e,q⟩:=h
  obtain⟨t,p,r⟩:=C c A outer s H E y
  refine⟨t,p,r F H F H _ _ _ (zeV G a) ?_⟩
  unfold fnD at e
  cases j:g (m.map .v++List.replicate (N.length - m.length) .no) with
  | rt I=>rw[j]at e;cases e;exact λF' H' v g z=>q F' H' v g z
  | nx ρ=>rw[j]at e;cases e;exact λF' H' σ D=>q F' H' _ D.gr .non
  | bk ρ=>rw[j]at e;cases e
  | ct ρ=>rw[j]at e;cases e
  | no=>rw[j]at e;cases e
theorem wh {P:Program}{w:World}{K:W.Frag}{c:Str->Option Value}{a:Heap}{f:Addr}{i:FuncData}{g:List Str}{k m:Nat}{p q:List D->Option D}(F:Yb P w K c a CX0 k f i g (spD m p))(h:∀ b d,b.length=m->q b=some d->p b=some d):Yb P w K c a CX0 k f i g (spD m q) :=
 F.imp λr H Q E ⟨b,d,F',e,o,j,n,l⟩=>⟨b,d,F',e,o,j,h b d e n,l⟩
def zd (m:Nat)(p:List D->Option D)(f:Ev->Option (List D)):Ev->Option D:=fun ρ=>(f ρ).bind λa=>if a.length=m then p a else none
theorem znf {X:Cx}{x:Str}{k m:Nat}{f:Addr}{u:FuncData}{o:List Str}{p:List D->Option D}{e:Expr}{a:List Expr}{N b:Pos}{j:Ev->Option (List D)}(F:Yb X.prog X.w X.K X.mg X.base CX0 k f u o (spD m p))(w:ww k X.A)(I:Gl X x)(z:X.mg x=some (.ref f))(M:W.keepIn X.K (.ref f)=true)(K:Yc X.K u o [])
 (E:AD X (e::a) j) (c:(x == ("__debug__":Str))=false:=by decide) (A:starEach (e::a) X.env=(false,eval e X.env)::starEach a X.env:=by rfl) (i:(backTo b (starEach a X.env)).any (·.1)=false:=by rfl) :
 ED X (.Call (.Name x N) (e::a) [] b) (zd m p j):=by
 obtain⟨t,C,r⟩:=E
 refine⟨_,ziQ F w I z M K .nil zpN C c A i,fun σ ρ F0 H d Q s L e q=>?_⟩
 obtain⟨n,B,h⟩:=u4.mp e
 split at h <;> try cases h
 rename_i y
 refine r σ ρ F0 H n _ s L B λF1 H1 O l J=>?_
 refine⟨n,d,F1,y,l.fh,by rw[o9];exact J,h,λF' H' v g G=>q F' H' v (l.trans g) G⟩
end Dl
namespace Dl
open PySem L2
variable [KK]
section
variable {X:Cx}{a b c e:Expr}{pos:Pos}
theorem zH:bootBuiltins "isinstance"=some (.builtin "isinstance"):=by decide +kernel
theorem zag:bootBuiltins "len"=some (.builtin "len"):=by decide +kernel
theorem zlQ:bootBuiltins "min"=some (.builtin "min"):=by decide +kernel
theorem zpd:bootBuiltins "max"=some (.builtin "max"):=by decide +kernel
theorem Z2:bootBuiltins "sorted"=some (.builtin "sorted"):=by decide +kernel
theorem zig:bootBuiltins "sum"=some (.builtin "sum"):=by decide +kernel
theorem zpk:bootBuiltins "all"=some (.builtin "all"):=by decide +kernel
theorem ziG:bootBuiltins "any"=some (.builtin "any"):=by decide +kernel
theorem zmv:bootBuiltins "int"=some (.type "int"):=by decide +kernel
theorem zhx:bootBuiltins "bool"=some (.type "bool"):=by decide +kernel
theorem zfb:bootBuiltins "tuple"=some (.type "tuple"):=by decide +kernel
theorem zbp:bootBuiltins "list"=some (.type "list"):=by decide +kernel
theorem zbG:bootBuiltins "enumerate"=some (.type "enumerate"):=by decide +kernel
theorem zd6:bootBuiltins "reversed"=some (.type "reversed"):=by decide +kernel
theorem zpq:bootBuiltins "set"=some (.type "set"):=by decide +kernel
def Zs (C:Int->Int->Bool)(g:Int->Int->Int):D->D->Option D
 | .int i,.int j=>if C i j=true then some (.int (g i j))else none
 | _,_=>none
def wz (g:Int->Int->Int):D->D->Option D
 | .int i,.int j=>some (.int (g i j))
 | _,_=>none
def XO (g:Int->Int->Bool):D->D->Option D
 | .int i,.int j=>some (.bl (g i j))
 | _,_=>none
theorem ZQ {C:Int->Int->Prop}{Cb:Int->Int->Bool}{g:Int->Int->Int}(h:∀ i j,Cb i j=true->C i j):OpD (rI C λi j=>.int (g i j)) (Zs Cb g):=by
 intro F H x y d e z Q s b f a q
 cases d <;> try cases a
 cases e <;> try cases a
 unfold Zs at a
 dsimp only at a
 split at a <;> cases a
 rename_i c
 exact⟨_,_,b.int_inv,f.int_inv,h _ _ c,q F H _ (.refl s) .int⟩
theorem zcf {g:Int->Int->Int}:OpD (rI0 λi j=>.int (g i j)) (wz g):=by
 intro F H x y d e z Q s b c a q
 cases d <;> try cases a
 cases e <;> try cases a
 exact⟨_,_,b.int_inv,c.int_inv,q F H _ (.refl s) .int⟩
theorem yc {g:Int->Int->Bool}:OpD (rI0 λi j=>.bl (g i j)) (XO g):=by
 intro F H x y d e z Q s b c a q
 cases d <;> try cases a
 cases e <;> try cases a
 exact⟨_,_,b.int_inv,c.int_inv,q F H _ (.refl s) .bl⟩
theorem zcJ {r f:R2}{g i:D->D->Option D}(h:OpD r g)(k:OpD f i):OpD (λx y H Q=>r x y H Q\/f x y H Q) (λd e=>(g d e).or (i d e)):=by
 intro F H x y d e z Q s c j a q
 dsimp only at a
 cases b:g d e with
 | some l=>rw[b]at a;cases a;exact .inl (h F H x y d e z Q s c j b q)
 | none=>rw[b]at a;exact .inr (k F H x y d e z Q s c j a q)
def zoZ:D->D->Option D
 | .tup a,.tup b=>if lim (a.length+b.length)=true then some (.tup (a++b))else none
 | _,_=>none
def zob:D->D->Option (List D)
 | .lst a,.lst b=>if lim (a.length+b.length)=true then some (a++b)else none
 | _,_=>none
def zhU (d e:D):Option D:=(zob d e).map .lst
def zpx:D->D->Option D
 | .str a,.str b=>if lim (a.length+b.length)=true then some (.str (a++b))else none
 | _,_=>none
theorem zla {K:W.Frag}:OpD (zmd K) zoZ:=by
 intro F H x y d e z Q s k o a q
 cases d <;> try cases a
 cases e <;> try cases a
 unfold zoZ at a
 dsimp only at a
 split at a <;> cases a
 rename_i l
 obtain⟨p,h,rfl,f,b⟩:=k.tup_inv
 obtain⟨m,i,rfl,c,bl⟩:=o.tup_inv
 refine⟨p,m,h,i,rfl,rfl,SqT.of (s _ _ f),SqT.of (s _ _ c),by rw[b.length,bl.length];exact j2 l,λn=>?_,λ_ t=>?_,λ_ _ r j=>?_⟩
 .subst n
  have:(_:List D)=[]:=l6.mp b.length.symm
  subst this
  exact q F H _ (.refl s) (.tup c bl)
 .subst t
  have:(_:List D)=[]:=l6.mp bl.length.symm
  subst this
  rw[o9]at q
  exact q F H _ (.refl s) (.tup f b)
 .have g:=Gr.alloc s j (.tup (h++i))
  exact q _ _ _ g (.tup zr ((b.append bl).mono g.ff))
theorem zkj:OpD zrt zhU:=by
 intro F H x y d e z Q s i n a q
 cases d <;> try cases a
 cases e <;> try cases a
 unfold zhU zob at a
 dsimp only at a
 split at a <;> cases a
 rename_i l
 obtain⟨p,b,rfl,k,c⟩:=i.lst_inv
 obtain⟨m,f,rfl,j,bl⟩:=n.lst_inv
 refine⟨p,m,b,f,rfl,rfl,s _ _ k,s _ _ j,by rw[c.length,bl.length];exact j2 l,λr h=>?_⟩
 have g:=Gr.alloc s h (.lst (b++f))
 exact q _ _ _ g (.lst zr ((c.append bl).mono g.ff))
theorem zlw:OpD (λx y H Q=>∃ i j,x=.str i/\y=.str j/\i.length+j.length<=sizeLine/\Q (.str (i++j)) H) zpx:=by
 intro F H x y d e z Q s b f a q
 cases d <;> try cases a
 cases e <;> try cases a
 unfold zpx at a
 dsimp only at a
 split at a <;> cases a
 rename_i c
 exact⟨_,_,b.str_inv,f.str_inv,j2 c,q F H _ (.refl s) .str⟩
def wS:D->D->Option D
 | .int i,.int j=>some (.int (i+j))
 | .tup a,.tup b=>if lim (a.length+b.length)=true then some (.tup (a++b))else none
 | .lst a,.lst b=>if lim (a.length+b.length)=true then some (.lst (a++b))else none
 | .str a,.str b=>if lim (a.length+b.length)=true then some (.str (a++b))else none
 | _,_=>none
theorem zd3 {r:R2}{g a:D->D->Option D}(h:OpD r g)(k:∀ d e z,a d e=some z->g d e=some z):OpD r a:=λF H x y d e z Q s b f c q=>h F H x y d e z Q s b f (k d e z c) q
theorem zpi {f h:Ev->Option D}(k:ED X a f)(l:ED X b h):ED X (.BinOp a .Add b pos) (zi wS f h) :=
 Vp (((zpM.or zkr).or ze8).or zfv) (zd3 (zcJ (zcJ (zcJ (zcf (g:=λi j=>i+j)) zla) zkj) zlw) λd e z h=>by
  cases d <;> try cases h
  all_goals cases e <;> try cases h
  .rfl
  .unfold wS at h;dsimp only at h;split at h <;> cases h;rename_i c;simp[wz,zoZ,c,zhU,zob,zpx]
  .unfold wS at h;dsimp only at h;split at h <;> cases h;rename_i c;simp[wz,zoZ,c,zhU,zob,zpx]
  .unfold wS at h;dsimp only at h;split at h <;> cases h;rename_i c;simp[wz,zoZ,c,zhU,zob,zpx]) k l
def zrW (g:D->D->Option (List D))(f h:Ev->Option D):Ev->Option (List D):=fun ρ=>(f ρ).bind λx=>(h ρ).bind λy=>g x y
theorem zbJ {F H F1 H1:Hp}{p:Addr}(b:Gr F H F1 H1)(a:H1 p=none):H p=none:=by
 cases e:H p with
 | none=>rfl
 | some o =>
  cases c:F p with
  | none=>rw[(b.kp p o c e).2]at a;cases a
  | some u=>rw[b.fh _ _ (b.ff _ _ c)]at a;cases a
def VG (i j:Int):Bool:=decide ((-(2 ^ 64) < i/\i < 2 ^ 64)\/(-(2 ^ 64) < j/\j < 2 ^ 64))
def zlA:D->D->Option (List D)
 | .lst a,.int k=>if -(2 ^ 63)<=k/\k < 2 ^ 63/\lim (a.length*k.toNat)=true then some (List.replicate k.toNat a).flatten else none
 | _,_=>none
def zk8 (d e:D):Option D:=(zlA d e).map .lst
def v8:D->D->Option D
 | .int i,.int j=>if VG i j=true then some (.int (i*j))else none
 | .lst a,.int k=>if -(2 ^ 63)<=k/\k < 2 ^ 63/\lim (a.length*k.toNat)=true then some (.lst (List.replicate k.toNat a).flatten)else none
 | _,_=>none
theorem zjR:OpD rRep zk8:=by
 intro F H x y d e z Q s i l a q
 cases d <;> try cases a
 cases e <;> try cases a
 unfold zk8 zlA at a
 dsimp only at a
 split at a <;> cases a
 rename_i b
 obtain⟨p,c,rfl,j,f⟩:=i.lst_inv
 refine⟨p,_,c,rfl,l.int_inv,s _ _ j,b.1,b.2.1,by rw[f.length];exact j2 b.2.2,λr h=>?_⟩
 rename_i m k
 have g:=Gr.alloc s h (.lst (List.replicate k.toNat c).flatten)
 exact q _ _ _ g (.lst zr ((f.rep _).mono g.ff))
theorem zqO {f h:Ev->Option D}(l:ED X a f)(m:ED X b h):ED X (.BinOp a .Mult b pos) (zi v8 f h) :=
 Vp (zpD.or zml) (zd3 (zcJ (ZQ (Cb:=VG) (g:=λi j=>i*j) λi j h=>by have k:=j2 (show decide ((-(2 ^ 64) < i/\i < 2 ^ 64)\/(-(2 ^ 64) < j/\j < 2 ^ 64))=true from h);exact k) zjR) λd e z h=>by
  cases d <;> try cases h
  all_goals cases e <;> try cases h
  .unfold v8 at h;dsimp only at h;split at h <;> cases h;rename_i c;simp[Zs,c]
  .unfold v8 at h;dsimp only at h;split at h <;> cases h;rename_i c;show(zk8 _ _)=_;unfold zk8 zlA;dsimp only;rw[t6 c];rfl) l m
theorem zmg {f h:Ev->Option D}(A:ED X a f)(C:ED X b h):FL X (.BinOp a .Mult b pos) (zrW zlA f h):=by
 obtain⟨L,t,G⟩:=A
 obtain⟨M,E,n⟩:=C
 refine⟨_,zhF zml t E,fun σ ρ F H z Q s l e q=>?_⟩
 obtain⟨x,J,k⟩:=u4.mp e
 obtain⟨y,K,c⟩:=u4.mp k
 clear e k
 refine G σ ρ F H x _ s l J λF1 H1 v g B=>?_
 refine n σ ρ F1 H1 y _ g.fh (l.mono g.ff) K λF2 H2 u d o=>?_
 cases x <;> try cases c
 cases y <;> try cases c
 unfold zlA at c
 dsimp only at c
 split at c <;> cases c
 rename_i j
 obtain⟨p,I,rfl,w,m⟩:=(B.mono d.ff).lst_inv
 refine⟨p,_,I,rfl,o.int_inv,d.fh _ _ w,j.1,j.2.1,by rw[m.length];exact j2 j.2.2,λr i=>?_⟩
 exact q _ _ _ _ ((g.trans d).trans (Gr.hide d.fh i _)) (zbJ (g.trans d) i) (d.fh.free i) zr (m.rep _)
def vD:=wz λi j=>i - j
def xf:=Zs (λ_ j=>decide (0 < j/\j < 1606938044258990275541962092341162602522202993782792835301376)) λi j=>i / j
def xI:=Zs (λ_ j=>decide (0 < j)) λi j=>i % j
def zoF:=Zs (λ_ j=>decide (0<=j)) λi j=>i / 2 ^ j.toNat
def zrK (i j:Int):Bool:=decide (0<=j/\j<=1000000/\i.natAbs < 2 ^ 64)
def powD:=Zs zrK λi j=>i ^ j.toNat
theorem X3 {f h:Ev->Option D}(c:ED X a f)(d:ED X b h):ED X (.BinOp a .Sub b pos) (zi vD f h):=Vp zqz zcf c d
theorem zkN:OpR X (binaryOp .FloorDiv) (rI (λ_ j=>0 < j/\j < 1606938044258990275541962092341162602522202993782792835301376) λi j=>.int (i / j)):=opI λi j _ _ _ _ _ a q=>by
 have d:(0:Int) < j:=a.1
 have f:j < 1606938044258990275541962092341162602522202993782792835301376:=a.2
 refine PyProof.Rows.floordiv_int (by omega) (by rw[u17 i (by omega)];exact q) (.inl (PyProof.noPylong_of_log2 ?_))
 have c:j.natAbs≠0:=by omega
 have b:j.natAbs < 1606938044258990275541962092341162602522202993782792835301376:=by omega
 have e:j.natAbs.log2 < 200:=(Nat.log2_lt c).mpr b
 omega
theorem zmK {f h:Ev->Option D}(d:ED X a f)(e:ED X b h):ED X (.BinOp a .FloorDiv b pos) (zi xf f h):=Vp zkN (ZQ λ_ _ h=>by have c:=j2 h;exact c) d e
theorem zpm {f h:Ev->Option D}(d:ED X a f)(e:ED X b h):ED X (.BinOp a .Mod b pos) (zi xI f h):=Vp zoQ (ZQ λ_ _ h=>by have c:=j2 h;exact c) d e
theorem zqB {f h:Ev->Option D}(d:ED X a f)(e:ED X b h):ED X (.BinOp a .RShift b pos) (zi zoF f h):=Vp zqK (ZQ λ_ _ h=>by have c:=j2 h;exact c) d e
theorem zqF {f h:Ev->Option D}(d:ED X a f)(e:ED X b h):ED X (.BinOp a .Pow b pos) (zi powD f h):=Vp zoR (ZQ λ_ _ h=>by have c:=j2 h;exact c) d e
def ltD:=XO λi j=>decide (i < j)
def leD:=XO λi j=>decide (i<=j)
def gtD:=XO λi j=>decide (j < i)
def geD:=XO λi j=>decide (j<=i)
def eqS:D->D->Option Bool
 | .non,.non=>some true
 | .int i,.int j=>some (decide (i=j))
 | .bl i,.bl j=>some (decide (i=j))
 | .str i,.str j=>some (decide (i=j))
 | .non,.int _=>some false | .int _,.non=>some false | .non,.bl _=>some false | .bl _,.non=>some false | .non,.str _=>some false | .str _,.non=>some false
 | .int _,.str _=>some false | .str _,.int _=>some false | .bl _,.str _=>some false | .str _,.bl _=>some false
 | _,_=>none
def eqD (d e:D):Option D:=(eqS d e).map .bl
def neD (d e:D):Option D:=(eqS d e).map λc=>.bl (!c)
theorem zmy:OpD rEq eqD:=by
 intro F H x y d e z Q s a b g q
 obtain⟨c,f,rfl⟩:=u9.mp g
 cases d <;> cases e <;> try cases f
 .cases a.non_inv;cases b.non_inv;exact⟨rfl,q F H _ (.refl s) .bl⟩
 .cases a.non_inv;cases b.bl_inv;exact⟨rfl,q F H _ (.refl s) .bl⟩
 .cases a.non_inv;cases b.int_inv;exact⟨rfl,q F H _ (.refl s) .bl⟩
 .cases a.non_inv;cases b.str_inv;exact⟨rfl,q F H _ (.refl s) .bl⟩
 .cases a.bl_inv;cases b.non_inv;exact⟨rfl,q F H _ (.refl s) .bl⟩
 .cases a.bl_inv;cases b.bl_inv;refine⟨rfl,?_⟩;rw[show ∀ i j:Bool,decide (V.bl i=V.bl j)=decide (i=j)from λi j=>by simp];exact q F H _ (.refl s) .bl
 .cases a.bl_inv;cases b.str_inv;exact⟨rfl,q F H _ (.refl s) .bl⟩
 .cases a.int_inv;cases b.non_inv;exact⟨rfl,q F H _ (.refl s) .bl⟩
 .cases a.int_inv;cases b.int_inv;refine⟨rfl,?_⟩;rw[show ∀ i j:Int,decide (V.int i=V.int j)=decide (i=j)from λi j=>by simp];exact q F H _ (.refl s) .bl
 .cases a.int_inv;cases b.str_inv;exact⟨rfl,q F H _ (.refl s) .bl⟩
 .cases a.str_inv;cases b.non_inv;exact⟨rfl,q F H _ (.refl s) .bl⟩
 .cases a.str_inv;cases b.bl_inv;exact⟨rfl,q F H _ (.refl s) .bl⟩
 .cases a.str_inv;cases b.int_inv;exact⟨rfl,q F H _ (.refl s) .bl⟩
 .cases a.str_inv;cases b.str_inv;refine⟨rfl,?_⟩;rw[show ∀ i j:Str,decide (V.str i=V.str j)=decide (i=j)from λi j=>by simp];exact q F H _ (.refl s) .bl
theorem zmB:OpD rNe neD:=by
 intro F H x y d e z Q s a m i q
 obtain⟨c,l,rfl⟩:=u9.mp i
 have:=zmy F H x y d e (.bl c) (λv H'=>∃ b,v=.bl b/\Q (.bl (!b)) H') s a m (by unfold eqD;rw[l];rfl) λF' H' v g h=>⟨c,h.bl_inv,q F' H' _ g .bl⟩
 obtain⟨j,b,f,k⟩:=this
 cases f
 exact⟨j,k⟩
def XC:D->D->Option D
 | d,.non=>some (.bl (match d with | .non=>true | _=>false))
 | .bl a,.bl b=>some (.bl (a == b))
 | _,_=>none
def z0:D->D->Option D
 | d,.non=>some (.bl (match d with | .non=>false | _=>true))
 | .bl a,.bl b=>some (.bl (!(a == b)))
 | _,_=>none
theorem zin {F:Hp}{d:D}{x:V}(h:At F d x):decide (x=V.non)=(match d with | .non=>true | _=>false):=by
 cases d with
 | non=>cases h.non_inv;rfl
 | bl b=>cases h.bl_inv;rfl
 | int b=>cases h.int_inv;rfl
 | str b=>cases h.str_inv;rfl
 | tup e=>obtain⟨a,c,rfl,_⟩:=h.tup_inv;rfl
 | lst e=>obtain⟨a,c,rfl,_⟩:=h.lst_inv;rfl
 | scr e=>obtain⟨a,rfl,_⟩:=h.scr_inv;rfl
 | dct z t f g=>obtain⟨a,c,rfl,_⟩:=h.dct_inv;rfl
theorem zny:OpD (λx y H Q=>(y=.non/\Q (.bl (decide (x=.non))) H)\/∃ i j,x=.bl i/\y=.bl j/\Q (.bl (i == j)) H) XC:=by
 intro F H x y d e z Q s b c a q
 unfold XC at a
 split at a
 .cases a
  refine .inl ⟨c.non_inv,?_⟩
  rw[zin b]
  have:=q F H _ (.refl s) .bl
  cases d <;> exact this
 .cases a
  exact .inr ⟨_,_,b.bl_inv,c.bl_inv,q F H _ (.refl s) .bl⟩
 .cases a
theorem zan:OpD (λx y H Q=>(y=.non/\Q (.bl (!decide (x=.non))) H)\/∃ i j,x=.bl i/\y=.bl j/\Q (.bl (!(i == j))) H) z0:=by
 intro F H x y d e z Q s b c a q
 unfold z0 at a
 split at a
 .cases a
  refine .inl ⟨c.non_inv,?_⟩
  rw[zin b]
  have:=q F H _ (.refl s) .bl
  cases d <;> exact this
 .cases a
  exact .inr ⟨_,_,b.bl_inv,c.bl_inv,q F H _ (.refl s) .bl⟩
 .cases a
theorem zpG:OpR X (compareOp .Is) (λx y H Q=>(y=.non/\Q (.bl (decide (x=.non))) H)\/∃ i j,x=.bl i/\y=.bl j/\Q (.bl (i == j)) H):=zpv.or zkf
theorem zbH:OpR X (compareOp .IsNot) (λx y H Q=>(y=.non/\Q (.bl (!decide (x=.non))) H)\/∃ i j,x=.bl i/\y=.bl j/\Q (.bl (!(i == j))) H):=zn8.or zeg
def yC (g a:D->D->Option D)(f h k:Ev->Option D):Ev->Option D:=fun ρ=>(f ρ).bind λx=>(h ρ).bind λy=>((g x y).bind asB).bind λc=>if c=true then (k ρ).bind λz=>a y z else some (.bl false)
theorem zeP {r p:R2}{g C:D->D->Option D}{t B A:TE}{f h k:Ev->Option D}(L:OpD r g)(b:OpD p C)(R:RE t f)(G:RE B h)(K:RE A k):RE (zck r p t B A) (yC g C f h k):=by
 intro σ ρ F H z Q s i e q
 obtain⟨x,W,e⟩:=u4.mp e
 obtain⟨y,X,e⟩:=u4.mp e
 obtain⟨c,d,e⟩:=u4.mp e
 obtain⟨Y,d,V⟩:=u4.mp d
 cases Wz V
 refine R σ ρ F H x _ s i W λF1 H1 v j M=>?_
 refine G σ ρ F1 H1 y _ j.fh (i.mono j.ff) X λF2 H2 u n o=>?_
 refine L F2 H2 v u x y _ _ n.fh (M.mono n.ff) o d λF3 H3 w l U=>⟨c,U.bl_inv,?_⟩
 have a:=(j.trans n).trans l
 cases c with
 | true =>
  rw[t6 rfl]at e ⊢
  obtain⟨E,I,J⟩:=u4.mp e
  refine K σ ρ F3 H3 E _ l.fh (i.mono a.ff) I λF4 H4 P m S=>?_
  exact b F4 H4 u P y E z Q m.fh (o.mono (l.ff.trans m.ff)) S J λF5 H5 O N T=>q F5 H5 O ((a.trans m).trans N) T
 | false =>
  rw[t9 u7]at e ⊢
  cases e
  exact q F3 H3 _ a .bl
theorem zkp {l d:CmpOp}{r i:R2}{g o:D->D->Option D}{f h k:Ev->Option D}(w:OpR X (compareOp l) r)(s:OpR X (compareOp d) i)(u:OpD r g)(e:OpD i o)(t:ED X a f)(v:ED X b h)(q:ED X c k)
 (j:∀ {p n m:TE},PE X a p->PE X b n->PE X c m->PE X (.Compare a [l,d] [b,c] pos) (zck r i p n m)):ED X (.Compare a [l,d] [b,c] pos) (yC g o f h k) :=
 let ⟨_,pa,ra⟩:=t
 let ⟨_,pb,rb⟩:=v
 let ⟨_,pc,rc⟩:=q
 ⟨_,j pa pb pc,zeP u e ra rb rc⟩
theorem zkO {l d:CmpOp}{r i:R2}{g o:D->D->Option D}{f h k:Ev->Option D}(w:OpR X (compareOp l) r)(s:OpR X (compareOp d) i)(u:OpD r g)(e:OpD i o)(t:ED X a f)(v:ED X b h)(q:ED X c k)
 (j:∀ {p n m:TE},PE X a p->PE X b n->PE X c m->PT X (.Compare a [l,d] [b,c] pos) (zgj (zck r i p n m))):TD X (.Compare a [l,d] [b,c] pos) (tOf (yC g o f h k)) :=
 let ⟨_,pa,ra⟩:=t
 let ⟨_,pb,rb⟩:=v
 let ⟨_,pc,rc⟩:=q
 ⟨_,j pa pb pc,zm3 (zeP u e ra rb rc)⟩
def zeR:List D->Option (List Int)
 | []=>some []
 | .int b::ds=>(zeR ds).map (b::·)
 | _=>none
omit [KK] in
theorem Vu:∀ {b:List D} {a:List Int},zeR b=some a->b=a.map .int
 | [],a,h=>by cases h;rfl
 | d::b,a,h=>by
  cases d <;> try cases h
  obtain⟨e,c,rfl⟩:=u9.mp h
  rw[Vu c]
  rfl
def leT:D->D->Option D
 | .tup a,.tup b=>(zeR a).bind λd=>(zeR b).map λc=>.bl (HT.lexLe d c)
 | _,_=>none
theorem znr {K:W.Frag}:OpD (rLeT K) leT:=by
 intro F H x y d e z Q s b c a q
 cases d <;> try cases a
 cases e <;> try cases a
 obtain⟨f,l,n⟩:=u4.mp a
 obtain⟨i,m,rfl⟩:=u9.mp n
 rw[Vu l]at b
 rw[Vu m]at c
 obtain⟨p,o,rfl,h,j⟩:=b.tup_inv
 obtain⟨k,r,rfl,g,bl⟩:=c.tup_inv
 cases j.of_ints
 cases bl.of_ints
 exact⟨p,k,f,i,rfl,rfl,SqT.of (s _ _ h),SqT.of (s _ _ g),q F H _ (.refl s) .bl⟩
def ixD:D->D->Option D
 | .lst ds,.int i=>atI ds i
 | .tup ds,.int i=>atI ds i
 | .scr ns,.int i=>(atI ns i).map .int
 | _,_=>none
theorem AtL.atI {F:Hp}{b:List D}{a:List V}{i:Int}{d:D}(c:AtL F b a)(h:L2.atI b i=some d):∃ x,L2.atI a i=some x/\At F d x:=by
 unfold L2.atI at h ⊢
 obtain⟨j,f,k⟩:=u4.mp h
 obtain⟨x,g,e⟩:=c.get k
 exact⟨x,by rw[c.length,f];exact g,e⟩
theorem zqp:OpD (rIx KK.K) ixD:=by
 intro F H x y d e z Q s f o c q
 cases e <;> try (cases d <;> cases c)
 cases o.int_inv
 cases d with
 | lst l =>
  obtain⟨p,h,rfl,b,i⟩:=f.lst_inv
  obtain⟨v,a,g⟩:=i.atI c
  exact .inl ⟨p,h,_,v,rfl,rfl,SqL.of (s _ _ b),a,q F H _ (.refl s) g⟩
 | tup l =>
  obtain⟨p,h,rfl,b,i⟩:=f.tup_inv
  obtain⟨v,a,g⟩:=i.atI c
  exact .inr (.inl ⟨p,h,_,v,rfl,rfl,SqT.of (s _ _ b),a,q F H _ (.refl s) g⟩)
 | scr k =>
  obtain⟨p,rfl,b⟩:=f.scr_inv
  obtain⟨n,a,rfl⟩:=u9.mp c
  refine .inl ⟨p,k.map V.int,_,.int n,rfl,rfl,s.seq b,?_,q F H _ (.refl s) .int⟩
  unfold L2.atI at a ⊢
  rw[u8]
  obtain⟨j,r,m⟩:=u4.mp a
  rw[r]
  show(k.map V.int)[j]?=_
  rw[j1,m]
  rfl
 | _=>cases c
theorem ZZ {f h:Ev->Option D}(d:ED X a f)(e:ED X b h)(c:VC b)(hK:X.K=KK.K:=by rfl):ED X (.Subscript a b pos) (zi ixD f h) :=
 let ⟨_,pa,ra⟩:=d
 let ⟨_,pb,rb⟩:=e
 ⟨_,zjZ zgG pa pb c,zjS (by rw[hK];exact zqp) ra rb⟩
def WB {α:Type}(a:List α)(b c:Option Int):List α:=(a.drop (HT.sIx a.length 0 b)).take (HT.sIx a.length a.length c - HT.sIx a.length 0 b)
theorem AtL.cut {F:Hp}{b:List D}{a:List V}{lo hi:Option Int}(c:AtL F b a):AtL F (WB b lo hi) (zd2 a lo hi):=by
 unfold WB zd2
 rw[c.length]
 exact(c.drop _).take _
def OD (X:Cx)(e:Option Expr)(f:Ev->Option (Option Int)):Prop:=∃ t,PO X e t/\∀ (σ:St) (ρ:Ev) (F H:Hp) (i:Option Int) (Q:Option Int->Hp->Prop),yU F H->VAt F ρ σ->f ρ=some i->(∀ F' H',Gr F H F' H'->Q i H')->t σ H Q
def xE:Ev->Option (Option Int):=λ_=>some none
def asI:D->Option Int
 | .int i=>some i
 | _=>none
def xD (f:Ev->Option D):Ev->Option (Option Int):=fun ρ=>((f ρ).bind asI).map some
theorem zdv:OD X none xE:=⟨_,znO,λ_ _ _ _ _ _ s _ e q=>by cases e;exact q _ _ (.refl s)⟩
theorem zdi {f:Ev->Option D}(h:ED X e f):OD X (some e) (xD f):=by
 obtain⟨t,p,r⟩:=h
 refine⟨_,znc p,fun σ ρ F H i Q s b e q=>?_⟩
 obtain⟨j,a,rfl⟩:=u9.mp e
 obtain⟨d,a,k⟩:=u4.mp a
 cases d <;> cases k
 exact r σ ρ F H _ _ s b a λF1 H1 v c g=>⟨_,g.int_inv,q F1 H1 c⟩
def slD:D->Option Int->Option Int->Option D
 | .lst ds,lo,hi=>some (.lst (WB ds lo hi))
 | .scr ns,lo,hi=>some (.lst ((WB ns lo hi).map .int))
 | .tup ds,lo,hi=>some (.tup (WB ds lo hi))
 | _,_,_=>none
def eSl (g:D->Option Int->Option Int->Option D)(f:Ev->Option D)(l h:Ev->Option (Option Int)):Ev->Option D:=fun ρ=>(f ρ).bind λd=>(l ρ).bind λa=>(h ρ).bind λb=>g d a b
omit [KK] in
theorem zls {b:List Int}{c a:Option Int}:zd2 (b.map V.int) c a=(WB b c a).map V.int:=by
 unfold zd2 WB
 rw[u8,List.map_take,List.map_drop]
end
end Dl
namespace L2
open PySem PySem.Spec PyProof.Rows
def rSlN:V->Option Int->Option Int->Hp->VK->Prop:=λx c d H Q=>∃ a b,x=.ref a/\H a=some (.tup b)/\(zd2 b c d=b->Q (.ref a) H)/\∀ p,H p=none->Q (.ref p) (upd H p (.tup (zd2 b c d)))
theorem znR {X:Cx}:SlR X rSlN:=by
 intro d s σ H x v p o l n t Q I i k f m h
 obtain⟨a,b,rfl,j,u,q⟩:=h
 by_cases hw:HT.sIx b.length 0 l=0/\HT.sIx b.length b.length n=b.length
 .cases i
  obtain⟨e,r,g,w⟩:=I.tuple (SqT.of j)
  have c:e.toArray.size=b.length:=by rw[t5];exact r.length.symm
  refine⟨"tuple",_,g6.lookup,g.typeIs,?_⟩
  refine HT.own_getItem_whole g k f m (by rw[c];exact hw) ⟨.ref a,H,I,rfl,u ?_⟩
  unfold zd2
  rw[hw.1,hw.2,List.drop_zero,Nat.sub_zero,u0z]
 .exact zpB d s σ H (.ref a) v p o l n t Q I i k f m ⟨a,b,rfl,SqT.of j,hw,q⟩
end L2
namespace Dl
open PySem L2
variable [KK]
section
variable {X:Cx}{a b c e:Expr}{pos:Pos}
theorem zaX {w A:Option Expr}{I:Pos}{f:Ev->Option D}{l h:Ev->Option (Option Int)}(E:ED X a f)(G:OD X w l)(hh:OD X A h)(hK:X.K=KK.K:=by rfl):ED X (.Subscript a (.Slice w A none I) pos) (eSl slD f l h):=by
 obtain⟨W,C,O⟩:=E
 obtain⟨U,B,N⟩:=G
 obtain⟨Y,R,P⟩:=hh
 refine⟨_,zj5 (zoq.or znR) C B R,fun σ ρ F H z Q s x e q=>?_⟩
 obtain⟨d,S,e⟩:=u4.mp e
 obtain⟨i,T,e⟩:=u4.mp e
 obtain⟨j,K,e⟩:=u4.mp e
 refine O σ ρ F H d _ s x S λF1 H1 v o J=>?_
 refine N σ ρ F1 H1 i _ o.fh (x.mono o.ff) T λF2 H2 u=>?_
 refine P σ ρ F2 H2 j _ u.fh (x.mono (o.ff.trans u.ff)) K λF3 H3 c=>?_
 have b:=(o.trans u).trans c
 have y:=J.mono (u.ff.trans c.ff)
 cases d <;> try cases e
 .obtain⟨p,n,rfl,k,t⟩:=y.tup_inv
  refine .inr ⟨p,n,rfl,c.fh _ _ k,λM=>?_,λr m=>?_⟩
  .have:=t.cut (lo:=i) (hi:=j)
   rw[M]at this
   exact q F3 H3 _ b (.tup k this)
  .have g:=Gr.alloc c.fh m (.tup (zd2 n i j))
   exact q _ _ _ (b.trans g) (.tup zr (t.cut.mono g.ff))
 .obtain⟨p,n,rfl,k,t⟩:=y.lst_inv
  refine .inl ⟨p,n,rfl,SqL.of (c.fh _ _ k),λr m=>?_⟩
  have g:=Gr.alloc c.fh m (.lst (zd2 n i j))
  exact q _ _ _ (b.trans g) (.lst zr (t.cut.mono g.ff))
 .rename_i L _ _
  obtain⟨p,rfl,k⟩:=y.scr_inv
  refine .inl ⟨p,_,rfl,(by rw[hK];exact c.fh.seq k),λr m=>?_⟩
  rw[zls]
  have g:=Gr.alloc c.fh m (.lst ((WB L i j).map V.int))
  exact q _ _ _ (b.trans g) (.lst zr (.ints _))
def CaD (r:List V->Hp->VK->Prop)(g:List D->Option D):Prop:=∀ (F H:Hp) (a:List V) (b:List D) (z:D) (Q:VK),yU F H->AtL F b a->g b=some z->(∀ F' H' v,Gr F H F' H'->At F' z v->Q v H')->r a H Q
def eFn (g:List D->Option D)(f:Ev->Option (List D)):Ev->Option D:=fun ρ=>(f ρ).bind g
def fFn (g:List D->Option (List D))(f:Ev->Option (List D)):Ev->Option (List D):=fun ρ=>(f ρ).bind g
theorem y8 {x:Str}{id:String}{p:Pos}{a:List Expr}{r:List V->Hp->VK->Prop}{g:List D->Option D}{f:Ev->Option (List D)}(k:vN X (.builtin id) r)(u:CaD r g)(b:Gl X x)(B:X.mg x=none)(y:bootBuiltins x=some (.builtin id))(m:AD X (e::a) f)
 (j:x≠"__name__":=by decide) (d:(x == ("__debug__":Str))=false:=by decide) (C:starEach (e::a) X.env=(false,eval e X.env)::starEach a X.env:=by rfl) (c:(backTo pos (starEach a X.env)).any (·.1)=false:=by rfl) :
 ED X (.Call (.Name x p) (e::a) [] pos) (eFn g f):=by
 obtain⟨t,l,E⟩:=m
 refine⟨_,yj k b B y l j d C c,fun σ ρ F H z Q s A e q=>?_⟩
 obtain⟨i,G,I⟩:=u4.mp e
 refine E σ ρ F H i _ s A G λF1 H1 o h w=>?_
 exact u F1 H1 o i z Q h.fh w I λF' H' v g n=>q F' H' v (h.trans g) n
theorem zim {x:Str}{T:String}{p:Pos}{a:List Expr}{r:List V->Hp->VK->Prop}{g:List D->Option D}{f:Ev->Option (List D)}(k:vN X (.type T) r)(u:CaD r g)(b:Gl X x)(B:X.mg x=none)(y:bootBuiltins x=some (.type T))(m:AD X (e::a) f)
 (j:x≠"__name__":=by decide) (d:(x == ("__debug__":Str))=false:=by decide) (C:starEach (e::a) X.env=(false,eval e X.env)::starEach a X.env:=by rfl) (c:(backTo pos (starEach a X.env)).any (·.1)=false:=by rfl) :
 ED X (.Call (.Name x p) (e::a) [] pos) (eFn g f):=by
 obtain⟨t,l,E⟩:=m
 refine⟨_,zb7 k b B y l j d C c,fun σ ρ F H z Q s A e q=>?_⟩
 obtain⟨i,G,I⟩:=u4.mp e
 refine E σ ρ F H i _ s A G λF1 H1 o h w=>?_
 exact u F1 H1 o i z Q h.fh w I λF' H' v g n=>q F' H' v (h.trans g) n
def YR:List D->Option D
 | [.lst ds]=>some (.int ds.length)
 | [.tup ds]=>some (.int ds.length)
 | [.scr ds]=>some (.int ds.length)
 | _=>none
theorem zaT:CaD (λb H Q=>∃ p d,b=[.ref p]/\(SqL KK.K H p d\/SqT KK.K H p d)/\Q (.int d.length) H) YR:=by
 intro F H h i z Q s g e q
 unfold YR at e
 split at e <;> cases e
 all_goals
  obtain⟨x,r,rfl,c,f⟩:=g.cons_inv
  cases f.nil_inv
 .obtain⟨p,b,rfl,a,bl⟩:=c.lst_inv
  exact⟨p,b,rfl,.inl (SqL.of (s _ _ a)),by rw[bl.length];exact q F H _ (.refl s) .int⟩
 .obtain⟨p,b,rfl,a,bl⟩:=c.tup_inv
  exact⟨p,b,rfl,.inr (SqT.of (s _ _ a)),by rw[bl.length];exact q F H _ (.refl s) .int⟩
 .obtain⟨p,rfl,a⟩:=c.scr_inv
  exact⟨p,_,rfl,.inl ((s.seq a)),by rw[u8];exact q F H _ (.refl s) .int⟩
def zqh:List D->Option D
 | [.int i,.int j]=>some (.int (if j > i then j else i))
 | _=>none
def zlc:List D->Option D
 | [.int i,.int j]=>some (.int (if j < i then j else i))
 | _=>none
theorem zeY {g:Int->Int->Int}:CaD (λd H Q=>∃ i j,d=[.int i,.int j]/\Q (.int (g i j)) H) (λb=>match b with | [.int i,.int j]=>some (.int (g i j)) | _=>none):=by
 intro F H k b z Q s f e q
 dsimp only at e
 split at e <;> cases e
 obtain⟨x,r,rfl,c,a⟩:=f.cons_inv
 obtain⟨y,r,rfl,h,a⟩:=a.cons_inv
 cases a.nil_inv
 exact⟨_,_,by rw[c.int_inv,h.int_inv],q F H _ (.refl s) .int⟩
theorem zkZ:CaD (λa H Q=>∃ i j,a=[.int i,.int j]/\Q (.int (if j > i then j else i)) H) zqh:=zeY (g:=λi j=>if j > i then j else i)
theorem zj7:CaD (λa H Q=>∃ i j,a=[.int i,.int j]/\Q (.int (if j < i then j else i)) H) zlc:=zeY (g:=λi j=>if j < i then j else i)
def yS:List D->Option D
 | [.lst ds]=>some (.tup ds)
 | [.tup ds]=>some (.tup ds)
 | _=>none
theorem zjF {K:W.Frag}:CaD (λa H Q=>∃ p c,a=[.ref p]/\((SqL K H p c/\∀ l,H l=none->Q (.ref l) (upd H l (.tup c)))\/(SqT K H p c/\Q (.ref p) H))) yS:=by
 intro F H j k z Q s i e q
 unfold yS at e
 split at e <;> cases e
 all_goals
  obtain⟨x,r,rfl,d,f⟩:=i.cons_inv
  cases f.nil_inv
 .obtain⟨p,a,rfl,b,bl⟩:=d.lst_inv
  refine⟨p,a,rfl,.inl ⟨SqL.of (s _ _ b),λl h=>?_⟩⟩
  have g:=Gr.alloc s h (.tup a)
  exact q _ _ _ g (.tup zr (bl.mono g.ff))
 .obtain⟨p,a,rfl,b,bl⟩:=d.tup_inv
  exact⟨p,a,rfl,.inr ⟨SqT.of (s _ _ b),q F H _ (.refl s) (.tup b bl)⟩⟩
def wc:List D->Option (List D)
 | [.lst ds]=>some ds
 | [.tup ds]=>some ds
 | [.scr ns]=>some (ns.map .int)
 | _=>none
theorem zhZ {p:Pos} {f:Ev->Option (List D)} (d:Gl X "list") (v:X.mg "list"=none) (n:AD X [e] f) (hK:X.K=KK.K:=by rfl)
 (w:starEach [e] X.env=(false,eval e X.env)::starEach [] X.env:=by rfl) (h:(backTo pos (starEach [] X.env)).any (·.1)=false:=by rfl):FL X (.Call (.Name "list" p) [e] [] pos) (fFn wc f):=by
 obtain⟨t,m,y⟩:=n
 refine⟨_,zb7 zca d v zbp m (by decide) (by decide) w h,fun σ ρ F H z Q s u e q=>?_⟩
 obtain⟨A,B,j⟩:=u4.mp e
 refine y σ ρ F H A _ s u B λF1 H1 C a o=>?_
 unfold wc at j
 split at j <;> cases j
 all_goals
  obtain⟨x,r,rfl,g,k⟩:=o.cons_inv
  cases k.nil_inv
 .obtain⟨p,i,rfl,c,bl⟩:=g.lst_inv
  exact⟨p,i,rfl,.inl (SqL.of (a.fh _ _ c)),λl b=>q _ _ _ _ (a.trans (Gr.hide a.fh b _)) (zbJ a b) (a.fh.free b) zr bl⟩
 .obtain⟨p,i,rfl,c,bl⟩:=g.tup_inv
  exact⟨p,i,rfl,.inr (SqT.of (a.fh _ _ c)),λl b=>q _ _ _ _ (a.trans (Gr.hide a.fh b _)) (zbJ a b) (a.fh.free b) zr bl⟩
 .obtain⟨p,rfl,c⟩:=g.scr_inv
  exact⟨p,_,rfl,.inl (by rw[hK];exact a.fh.seq c),λl b=>q _ _ _ _ (a.trans (Gr.hide a.fh b _)) (zbJ a b) (a.fh.free b) zr (.ints _)⟩
inductive TyD (K:W.Frag) (H:Hp):V->Value->Prop where
 | of {v:V} {t:Value} (h:zel K H v t):TyD K H v t
 | dd {a:Addr} {u:HO} (h:Rd H a u) (d:(∃ kvs,u=.dK kvs)\/∃ kvs,u=.dT kvs):TyD K H (.ref a) (.type "dict")
theorem zcq {X:Cx}:vN X (.builtin "isinstance") (λk H Q=>∃ x n t b,k=[x,.ty n]/\TyD X.K H x t/\W.kitOne X.K t (.type n)=some b/\Q (.bl b) H):=by
 intro f s σ H k y Q I r h
 obtain⟨x,n,t,b,rfl,ty,e,q⟩:=h
 cases ty with
 | of ty=>exact zd5 f s σ H _ y Q I r ⟨x,n,t,b,rfl,ty,e,q⟩
 | @dd a u h d =>
  cases r with
  | cons v w =>
   cases w with
   | cons A m =>
    cases m
    cases v
    cases A
    have ok:=h.ok I.hok
    rcases d with ⟨c,rfl⟩ | ⟨c,rfl⟩
    .obtain⟨_,_,C,_,p⟩:=(show yJ X.prog X.w H s.heap a (.dK c)from ok)
     obtain⟨o,B,l,i,j,_⟩:=p
     exact p5 u1v I.kIn ⟨o,i,j.1⟩ e (λz=>nomatch z) λg=>⟨.bl b,H,I.tok g,rfl,q⟩
    .obtain⟨_,_,k,_,o,B,l,i,j,_⟩:=(show yJ X.prog X.w H s.heap a (.dT c)from ok)
     exact p5 u1v I.kIn ⟨o,i,j.1⟩ e (λz=>nomatch z) λg=>⟨.bl b,H,I.tok g,rfl,q⟩
theorem At.ty {K:W.Frag}{F H:Hp}(s:yU F H):∀ {d:D} {v:V},At F d v->(∀ g,d≠.scr g)->TyD K H v (.type (tyN d))
 | .non,_,h,_=>by cases h.non_inv;exact .of .non
 | .bl b,_,h,_=>by cases h.bl_inv;exact .of (.bl b)
 | .int i,_,h,_=>by cases h.int_inv;exact .of (.int i)
 | .str x,_,h,_=>by cases h.str_inv;exact .of (.str x)
 | .tup ds,_,h,_=>by obtain⟨a,j,rfl,e,_⟩:=h.tup_inv;exact .of (.tup (s _ _ e))
 | .lst ds,_,h,_=>by obtain⟨a,j,rfl,e,_⟩:=h.lst_inv;exact .of (.lst (s _ _ e))
 | .scr g,_,_,n=>absurd rfl (n g)
 | .dct z t ks vs,_,h,_=>by
  obtain⟨a,j,rfl,d,_⟩:=h.dct_inv
  obtain⟨u,f,k⟩:=(d.mono s).rd
  exact .dd k (by
   unfold zbC at f
   split at f
   .obtain⟨c,rfl,_⟩:=f;exact .inr ⟨c,rfl⟩
   .obtain⟨c,rfl,_⟩:=f;exact .inl ⟨c,rfl⟩)
inductive Ty where
 | int | bool | tuple | list | str
def Ty.nm:Ty->String
 | .int=>"int" | .bool=>"bool" | .tuple=>"tuple" | .list=>"list" | .str=>"str"
def isT:Ty->D->Bool
 | .int,.int _=>true | .int,.bl _=>true
 | .bool,.bl _=>true
 | .tuple,.tup _=>true
 | .list,.lst _=>true
 | .str,.str _=>true
 | _,_=>false
def xS (n:Ty):D->Option D
 | .scr _=>none
 | d=>some (.bl (isT n d))
theorem zps (K:W.Frag)(n:Ty)(d:D)(h:∀ a,d≠.scr a):W.kitOne K (.type (tyN d)) (.type n.nm)=some (isT n d):=by
 cases n <;> cases d <;> first | exact absurd rfl (h _) | kernel_rfl
theorem zir {p:Pos} {f:Ev->Option D} (n:Ty) (g:Gl X "isinstance") (A:X.mg "isinstance"=none) (r:ED X a f) (x:PE X b (tC (.ty n.nm)))
 (k:starEach [a,b] X.env=(false,eval a X.env)::starEach [b] X.env:=by rfl) (j:starEach [b] X.env=(false,eval b X.env)::starEach [] X.env:=by rfl) (i:(backTo pos (starEach [b] X.env)).any (·.1)=false:=by rfl) :
 ED X (.Call (.Name "isinstance" p) [a,b] [] pos) (eUn (xS n) f):=by
 obtain⟨t,o,B⟩:=r
 refine⟨_,yj zcq g A zH (zA o (zA x yG j) k) (by decide) (by decide) k i,fun σ ρ F H z Q s y e q=>?_⟩
 obtain⟨d,C,m⟩:=u4.mp e
 refine B σ ρ F H d _ s y C λF1 H1 v l u=>?_
 have c:∀ c,d≠.scr c:=λc h=>by subst h;cases m
 have w:z=.bl (isT n d):=by
  cases d <;> first | exact(n8 m).symm | exact absurd rfl (c _)
 subst w
 exact⟨v,n.nm,_,_,rfl,u.ty l.fh c,zps _ n d c,q F1 H1 _ l .bl⟩
def Yw (m:Bool)(i:Nat)(f:Ev->Option D):SE->Ctl:=fun ρ=>match (vEv m f ρ).bind λd=>match ρ[i]? with
 | some (.o ds)=>if decide (ds.length < sizeLine)=true then some (ρ.set i (.o (ds++[d])))else none
 | _=>none with
 | some ρ'=>.nx ρ'
 | none=>.no
theorem zmi {m:Bool}{i:Nat}{p b:Pos}{f:Ev->Option D}(J:PE X a (zb4 i))(M:ED X e f)
 (L:∀ {A:TE} {t:TA},PE X a A->PA X [e] t->PE X (.Call (.Attribute a "append" p) [e] [] b) (tBM X.K "list" zjA A t)) (w:swapsWith (.Call (.Attribute a "append" p) [e] [] b) none pos.line X.env=pure false:=by rfl)
 (j:starEach [e] X.env=(false,eval e X.env)::starEach [] X.env:=by rfl):SD X (.Expr (.Call (.Attribute a "append" p) [e] [] b) pos) (Yw m i f):=by
 obtain⟨t,K,B⟩:=M
 refine⟨_,zbs (L J (zA K yG j)) w,λFb Hb F H ρ σ E x k=>?_⟩
 unfold Yw at k
 cases h:(vEv m f ρ).bind λd=>match ρ[i]? with
  | some (.o s)=>if decide (s.length < sizeLine)=true then some (ρ.set i (.o (s++[d])))else none
  | _=>none with
 | none=>rw[h]at k;exact k.elim
 | some R =>
  rw[h]at k
  obtain⟨d,P,c⟩:=u4.mp h
  cases j:ρ[i]? with
  | none=>rw[j]at c;cases c
  | some O =>
   rw[j]at c
   cases O with
   | no=>cases c
   | v _=>cases c
   | m _ _ _=>cases c
   | o s =>
    dsimp only at c
    split at c <;> cases c
    rename_i I
    obtain⟨q,N,y,S,U,C,T⟩:=x.owns i s j
    refine⟨_,y,.inl ⟨rfl,N,SqL.of C⟩,?_⟩
    refine B.at x P λF' H' v g G=>?_
    have n:=x.grow g
    obtain⟨Q,u,l,_,_,z,r⟩:=n.owns i s j
    rw[y]at l
    cases l
    refine⟨q,u,v,rfl,rfl,z,by rw[r.length];exact j2 I,?_⟩
    exact k _ _ σ (n.mutate j y (r.snoc G))
def Wn (i:Nat)(f:Ev->Option D):SE->Ctl:=fun ρ=>match (f (visF ρ)).bind λd=>match ρ[i]?,d with
 | some (.o ds),.lst es=>if lim (ds.length+es.length)=true then some (ρ.set i (.o (ds++es)))else none
 | _,_=>none with
 | some ρ'=>.nx ρ'
 | none=>.no
theorem zmk {i:Nat}{p b:Pos}{f:Ev->Option D}(L:PE X a (zb4 i))(O:ED X e f)
 (N:∀ {B:TE} {t:TA},PE X a B->PA X [e] t->PE X (.Call (.Attribute a "extend" p) [e] [] b) (tBM X.K "list" ziZ B t)) (x:swapsWith (.Call (.Attribute a "extend" p) [e] [] b) none pos.line X.env=pure false:=by rfl)
 (j:starEach [e] X.env=(false,eval e X.env)::starEach [] X.env:=by rfl):SD X (.Expr (.Call (.Attribute a "extend" p) [e] [] b) pos) (Wn i f):=by
 obtain⟨t,M,C⟩:=O
 refine⟨_,zbs (N L (zA M yG j)) x,λFb Hb F H ρ σ E u k=>?_⟩
 unfold Wn at k
 cases h:(f (visF ρ)).bind λd=>match ρ[i]?,d with
  | some (.o s),.lst A=>if lim (s.length+A.length)=true then some (ρ.set i (.o (s++A)))else none
  | _,_=>none with
 | none=>rw[h]at k;exact k.elim
 | some U =>
  rw[h]at k
  obtain⟨d,S,c⟩:=u4.mp h
  cases j:ρ[i]? with
  | none=>rw[j]at c;cases c
  | some R =>
   rw[j]at c
   cases R with
   | no=>cases c
   | v _=>cases c
   | m _ _ _=>cases c
   | o s =>
    cases d with
    | lst A =>
     dsimp only at c
     split at c <;> cases c
     rename_i J
     obtain⟨q,Q,y,V,Y,G,W⟩:=u.owns i s j
     refine⟨_,y,.inl ⟨rfl,Q,SqL.of G⟩,?_⟩
     refine C σ _ _ H _ _ u.gr.fh u.visF S λF' H' v g I=>?_
     have n:=u.grow g
     obtain⟨T,w,l,_,_,z,r⟩:=n.owns i s j
     rw[y]at l
     cases l
     obtain⟨P,zs,rfl,K,bl⟩:=I.lst_inv
     refine⟨q,P,w,zs,rfl,rfl,z,g.fh _ _ K,by rw[r.length,bl.length];exact j2 J,?_⟩
     exact k _ _ σ (n.mutate j y (r.append bl))
    | _=>cases c
end
end Dl
namespace Dl
open PySem L2
variable [KK]
def okE:Nat->D->Bool
 | _,.scr _=>false
 | _,.dct _ _ _ _=>false
 | 0,.tup _=>false
 | 0,.lst _=>false
 | n+1,.tup ds=>ds.all (okE n)
 | n+1,.lst ds=>ds.all (okE n)
 | _,_=>true
def eqN:Nat->D->D->Bool
 | _,.non,.non=>true
 | _,.bl a,.bl b=>a == b
 | _,.bl a,.int b=>(if a then 1 else 0) == b
 | _,.int a,.bl b=>a == (if b then 1 else 0)
 | _,.int a,.int b=>a == b
 | _,.str a,.str b=>a == b
 | n+1,.tup a,.tup b=>(List.zipWith (eqN n) a b).all id&&a.length == b.length
 | n+1,.lst a,.lst b=>(List.zipWith (eqN n) a b).all id&&a.length == b.length
 | _,_,_=>false
omit [KK] in
theorem zbh {n:Nat}:∀ (a b:List D),(List.zipWith (eqN n) a b).all id=(List.range (min a.length b.length)).all λj=>eqN n (a.getD j .non) (b.getD j .non):=by
 intro a b
 have:List.zipWith (eqN n) a b=(List.range (min a.length b.length)).map λj=>eqN n (a.getD j .non) (b.getD j .non):=by
  apply u2N
  .simp
  .intro i c e
   simp at c e
   have d:i < a.length:=t8 c (Nat.min_le_left _ _)
   have f:i < b.length:=t8 c (u2Q _ _)
   simp[d,f]
 rw[this,u1A]
 rfl
omit [KK] in
def vOf:D->V
 | .bl b=>.bl b
 | .int i=>.int i
 | .str t=>.str t
 | _=>.non
theorem wB {F:Hp}{d:D}{x:V}(h:okE 0 d=true)(a:At F d x):x=vOf d:=by
 cases d with
 | non=>exact a.non_inv
 | bl b=>exact a.bl_inv
 | int b=>exact a.int_inv
 | str b=>exact a.str_inv
 | _=>cases h
omit [KK] in
theorem Wu {d:D}(h:okE 0 d=true):zn9 (vOf d)=true:=by
 cases d <;> first | rfl | cases h
omit [KK] in
theorem zaU {d:D}{p:Addr}(h:okE 0 d=true)(e:vOf d=.ref p):False:=by
 cases d <;> first | (cases h;done) | (cases e;done)
def dOfV:V->D
 | .bl b=>.bl b
 | .int i=>.int i
 | .str t=>.str t
 | _=>.non
omit [KK] in
theorem zjg {d:D}(h:okE 0 d=true):dOfV (vOf d)=d:=by
 cases d <;> first | rfl | (cases h;done)
omit [KK] in
theorem zjb {d e:D}(b:okE 0 d=true)(a:okE 0 e=true)(h:vOf d=vOf e):d=e:=by
 rw[<-zjg b,h,zjg a]
omit [KK] in
theorem wx {n:Nat}{d:D}(h:okE (n+1) d=true):okE 0 d=true\/(∃ a,d=.tup a/\a.all (okE n)=true)\/∃ a,d=.lst a/\a.all (okE n)=true:=by
 cases d with
 | tup a=>exact .inr (.inl ⟨a,rfl,h⟩)
 | lst a=>exact .inr (.inr ⟨a,rfl,h⟩)
 | scr _=>cases h
 | dct _ _ _ _=>cases h
 | _=>exact .inl rfl
theorem ziu {F:Hp}{n:Nat}(k:∀ {d e:D} {v:V},okE n d=true->okE n e=true->At F d v->At F e v->d=e):∀ {c:List V} {a b:List D},a.all (okE n)=true->b.all (okE n)=true->AtL F a c->AtL F b c->a=b:=by
 intro c
 induction c with
 | nil =>
  intro a b _ _ g f
  exact(l6.mp g.length.symm).trans (l6.mp f.length.symm).symm
 | cons x c j =>
  intro a b i h g f
  cases a with
  | nil=>cases g.nil_inv
  | cons d a=>cases b with
   | nil=>cases f.nil_inv
   | cons e b =>
    obtain⟨y,r,o,b1,m⟩:=g.cons_inv
    obtain⟨s,q,p,b2,l⟩:=f.cons_inv
    cases o
    cases p
    rw[u1N,j3]at i h
    rw[j i.2 h.2 m l,k i.1 h.1 b1 b2]
theorem zl4 {F:Hp}:∀ (n:Nat) {d e:D} {v:V},okE n d=true->okE n e=true->At F d v->At F e v->d=e:=by
 intro n
 induction n with
 | zero =>
  intro d e v m h k a
  exact zjb m h ((wB m k).symm.trans (wB h a))
 | succ n x =>
  intro d e v m h k a
  rcases wx m with o | ⟨y,rfl,u⟩ | ⟨y,rfl,u⟩
  .have b:=wB o k
   rcases wx h with c | ⟨l,rfl,_⟩ | ⟨l,rfl,_⟩
   .exact zjb o c (b.symm.trans (wB c a))
   .obtain⟨p,r,w,_⟩:=a.tup_inv
    exact(zaU o (b.symm.trans w)).elim
   .obtain⟨p,r,w,_⟩:=a.lst_inv
    exact(zaU o (b.symm.trans w)).elim
  .obtain⟨p,r,g,i,t⟩:=k.tup_inv
   rcases wx h with c | ⟨l,rfl,j⟩ | ⟨l,rfl,j⟩
   .exact(zaU c ((wB c a).symm.trans g)).elim
   .obtain⟨q,s,b,f,bl⟩:=a.tup_inv
    cases g.symm.trans b
    cases i.symm.trans f
    rw[ziu x u j t bl]
   .obtain⟨q,s,b,f,bl⟩:=a.lst_inv
    cases g.symm.trans b
    cases i.symm.trans f
  .obtain⟨p,r,g,i,t⟩:=k.lst_inv
   rcases wx h with c | ⟨l,rfl,j⟩ | ⟨l,rfl,j⟩
   .exact(zaU c ((wB c a).symm.trans g)).elim
   .obtain⟨q,s,b,f,bl⟩:=a.tup_inv
    cases g.symm.trans b
    cases i.symm.trans f
   .obtain⟨q,s,b,f,bl⟩:=a.lst_inv
    cases g.symm.trans b
    cases i.symm.trans f
    rw[ziu x u j t bl]
omit [KK] in
theorem zk2:∀ (n:Nat) {d:D},okE n d=true->eqN n d d=true:=by
 intro n
 induction n with
 | zero =>
  intro d h
  cases d with
  | tup _=>cases h
  | lst _=>cases h
  | scr _=>cases h
  | dct _ _ _ _=>cases h
  | _=>first | rfl | exact q7 rfl | exact u0A _
 | succ n e =>
  have b:∀ {a:List D},a.all (okE n)=true->(List.zipWith (eqN n) a a).all id=true:=by
   intro a
   induction a with
   | nil=>intro _;rfl
   | cons d a c =>
    intro h
    rw[u1N,j3]at h
    rw[List.zipWith_cons_cons,u1N,c h.2,u2H]
    exact e h.1
  intro d h
  cases d with
  | tup a=>show((List.zipWith (eqN n) a a).all id&&a.length == a.length)=true;rw[b h];simp
  | lst a=>show((List.zipWith (eqN n) a a).all id&&a.length == a.length)=true;rw[b h];simp
  | scr _=>cases h
  | dct _ _ _ _=>cases h
  | _=>first | rfl | exact q7 rfl | exact u0A _
theorem zmw {F:Hp}(n:Nat){d e:D}{v:V}(c:okE n d=true)(a:okE n e=true)(f:At F d v)(b:At F e v):eqN n d e=true:=by
 rw[zl4 n c a f b]
 exact zk2 n a
omit [KK] in
theorem wH {n:Nat}{a:List D}{j:Nat}(h:a.all (okE n)=true)(b:j < a.length):okE n (a.getD j .non)=true:=by
 have:a.getD j .non=a[j]:=by simp[b]
 rw[this]
 exact m7.mp h _ (u0l b)
theorem AtL.nth {F:Hp}{a:List D}{c:List V}{b:List Value}{j:Nat}(e:AtL F a c)(r:yZ c b)(h:j < b.length):∃ x,At F (a.getD j .non) x/\xt x b[j]:=by
 have o:=e.length
 have l:=r.length
 have f:j < a.length:=by omega
 obtain⟨x,m,g⟩:=e.get (i:=j) (d:=a[j]) (by simp[f])
 obtain⟨u,k,n⟩:=r.get m
 refine⟨x,by rw[show a.getD j .non=a[j] by simp[f]];exact g,?_⟩
 have:b[j]?=some b[j]:=by simp[h]
 rw[k]at this
 cases this
 exact n
omit [KK] in
theorem zeB {n:Nat}{d e:D}(a:okE 0 d=true)(b:okE 0 e=true):eqN n d e=eqV (vOf d) (vOf e):=by
 cases n <;> cases d <;> first | (cases a;done) | skip
 all_goals cases e <;> first | (cases b;done) | rfl
omit [KK] in
theorem zeC {n:Nat}{d:D}(a:List D)(h:okE 0 d=true):eqN (n+1) d (.tup a)=false/\eqN (n+1) d (.lst a)=false/\eqN (n+1) (.tup a) d=false/\eqN (n+1) (.lst a) d=false:=by
 cases d <;> first | exact⟨rfl,rfl,rfl,rfl⟩ | cases h
omit [KK] in
theorem zbw {A:Around}{s:Shared}{d:D}{u:Value}{p:Addr}{e:Array Value}(h:okE 0 d=true)(r:xt (vOf d) u)(c:A.units < cLine) :
 (s.heap.IsTuple p e->SeqAt.EqAt A s u (.ref p) false/\SeqAt.EqAt A s (.ref p) u false)/\(s.heap.IsList p e->SeqAt.EqAt A s u (.ref p) false/\SeqAt.EqAt A s (.ref p) u false):=by
 cases d with
 | non=>cases r;exact⟨λa=>⟨.none_tuple a c,.tuple_none a c⟩,λa=>⟨.none_list a c,.list_none a c⟩⟩
 | bl b=>cases r;exact⟨λa=>⟨.bool_tuple b a c,.tuple_bool b a c⟩,λa=>⟨.bool_list b a c,.list_bool b a c⟩⟩
 | int b=>obtain⟨t,rfl⟩:=r;exact⟨λa=>⟨.int_tuple b t a c,.tuple_int b t a c⟩,λa=>⟨.int_list b t a c,.list_int b t a c⟩⟩
 | str b=>obtain⟨t,rfl⟩:=r;exact⟨λa=>⟨.str_tuple b t a c,.tuple_str b t a c⟩,λa=>⟨.str_list b t a c,.list_str b t a c⟩⟩
 | _=>cases h
theorem zaS {X:Cx}{c:List (Addr × Obj)}{σ:St}{F H:Hp}{s:Shared}(I:Inv X c σ H s)(i:yU F H){e:List D}{x:V}{u:Value}(a:At F (.tup e) x)(r:xt x u):∃ p b d,u=.ref p/\x=.ref p/\yZ d b/\AtL F e d/\s.heap.IsTuple p b.toArray:=by
 obtain⟨p,d,rfl,h,j⟩:=a.tup_inv
 cases r
 obtain⟨b,g,f,k⟩:=I.tuple (SqT.of (i _ _ h))
 exact⟨p,b,d,rfl,rfl,g,j,f⟩
theorem zaD {X:Cx}{c:List (Addr × Obj)}{σ:St}{F H:Hp}{s:Shared}(I:Inv X c σ H s)(i:yU F H){e:List D}{x:V}{u:Value}(a:At F (.lst e) x)(r:xt x u):∃ p b d,u=.ref p/\x=.ref p/\yZ d b/\AtL F e d/\s.heap.IsList p b.toArray:=by
 obtain⟨p,d,rfl,h,j⟩:=a.lst_inv
 cases r
 obtain⟨b,g,f,k⟩:=I.list (SqL.of (i _ _ h))
 exact⟨p,b,d,rfl,rfl,g,j,f.isList⟩
omit [KK] in
theorem zhJ {n:Nat}(b a:List D):((List.zipWith (eqN n) b a).all id&&b.length == a.length)=((List.range (min b.length a.length)).all (λj=>eqN n (b.getD j .non) (a.getD j .non))&&b.length == a.length):=by rw[zbh]
theorem zcb {X:Cx}{T:List (Addr × Obj)}{σ:St}{F H:Hp}{s:Shared}(I:Inv X T σ H s)(C:yU F H):∀ (n:Nat) {A:Around} {d e:D} {x y:V} {u v:Value},okE n d=true->okE n e=true->At F d x->At F e y->xt x u->xt y v->A.units+n < cLine->SeqAt.EqAt A s u v (eqN n d e):=by
 intro n
 induction n with
 | zero =>
  intro A d e x y u v G z w g J o Y
  cases wB G w
  cases wB z g
  rw[zeB G z]
  exact zms J o (Wu G) (Wu z)
 | succ n ih =>
  intro A d e x y u v G z w g J o Y
  have c:A.units < cLine:=j9 (u0X _ _) Y
  have S:A.units+1+n < cLine:=by rw[Nat.add_assoc,Nat.add_comm 1 n];exact Y
  rcases wx G with L | ⟨l,rfl,k1⟩ | ⟨l,rfl,k1⟩
  .cases wB L w
   rcases wx z with r | ⟨f,rfl,E⟩ | ⟨f,rfl,E⟩
   .cases wB r g
    rw[zeB L r]
    exact zms J o (Wu L) (Wu r)
   .obtain⟨q,b,P,rfl,_,_,_,a⟩:=zaS I C g o
    rw[(zeC f L).1]
    exact((zbw L J c).1 a).1
   .obtain⟨q,b,P,rfl,_,_,_,a⟩:=zaD I C g o
    rw[(zeC f L).2.1]
    exact((zbw L J c).2 a).1
  .obtain⟨p,M,xs,rfl,N,O,R,B⟩:=zaS I C w J
   rcases wx z with r | ⟨f,rfl,E⟩ | ⟨f,rfl,E⟩
   .cases wB r g
    rw[(zeC l r).2.2.1]
    exact((zbw r o c).1 B).2
   .obtain⟨q,b,P,rfl,K,m,bl,a⟩:=zaS I C g o
    by_cases i:p=q
    .subst i
     rw[N]at w
     rw[K]at g
     rw[zmw (n+1) G z w g]
     exact .same _
    .have h:M.toArray.size=l.length:=by rw[t5,<- O.length,R.length]
     have k:b.toArray.size=f.length:=by rw[t5,<- m.length,bl.length]
     have:=SeqAt.RcAt.tuples (A:=A) (e:=λj=>eqN n (l.getD j .non) (f.getD j .non)) B a c λj Q U=>by
      obtain⟨x',ax,W⟩:=R.nth O (j:=j) Q
      obtain⟨y',Z,ry⟩:=bl.nth m (j:=j) U
      exact ih (wH k1 (h ▸ Q)) (wH E (k ▸ U)) ax Z W ry S
     rw[h,k]at this
     rw[show eqN (n+1) (.tup l) (.tup f)=_ from zhJ l f]
     exact u2f i this
   .obtain⟨q,b,P,rfl,_,_,_,a⟩:=zaD I C g o
    exact .tuple_list B a c
  .obtain⟨p,M,xs,rfl,N,O,R,B⟩:=zaD I C w J
   rcases wx z with r | ⟨f,rfl,E⟩ | ⟨f,rfl,E⟩
   .cases wB r g
    rw[(zeC l r).2.2.2]
    exact((zbw r o c).2 B).2
   .obtain⟨q,b,P,rfl,_,_,_,a⟩:=zaS I C g o
    exact .list_tuple B a c
   .obtain⟨q,b,P,rfl,K,m,bl,a⟩:=zaD I C g o
    by_cases i:p=q
    .subst i
     rw[N]at w
     rw[K]at g
     rw[zmw (n+1) G z w g]
     exact .same _
    .have h:M.toArray.size=l.length:=by rw[t5,<- O.length,R.length]
     have k:b.toArray.size=f.length:=by rw[t5,<- m.length,bl.length]
     rw[show eqN (n+1) (.lst l) (.lst f)=_ from zhJ l f]
     by_cases t:l.length=f.length
     .have:=SeqAt.RcAt.lists (A:=A) (e:=λj=>eqN n (l.getD j .non) (f.getD j .non)) B a (by rw[h,k,t]) c λj Q U=>by
       obtain⟨x',ax,W⟩:=R.nth O (j:=j) Q
       obtain⟨y',Z,ry⟩:=bl.nth m (j:=j) U
       exact ih (wH k1 (h ▸ Q)) (wH E (k ▸ U)) ax Z W ry S
      rw[h]at this
      rw[<-t,u21,u0A,u2H]
      exact u2f i this
     .have:=SeqAt.RcAt.lists_lengths (A:=A) B a (by rw[h,k];exact bne_iff_ne.mpr t) c
      rw[p3.mpr t,m9]
      exact u2f i this
def zne (d:D)(a:List D):Option Bool:=if okE 20 d=true/\a.all (okE 20)=true then some (a.any λe=>eqN 20 e d)else none
def inD (d e:D):Option D:=(xA e).bind λa=>(zne d a).map .bl
def zl5 (d e:D):Option D:=(xA e).bind λa=>(zne d a).map λb=>.bl (!b)
open Classical in
noncomputable def zcx (F:Hp)(d:D)(u:Value):Bool:=decide (∃ a x,At F a x/\xt x u/\okE 20 a=true/\eqN 20 a d=true)
open Classical in
theorem zdV {F:Hp}{d b:D}{x:V}{u:Value}(a:At F b x)(r:xt x u)(k:okE 20 b=true):zcx F d u=eqN 20 b d:=by
 unfold zcx
 cases h:eqN 20 b d with
 | true=>exact q7 ⟨b,x,a,r,k,h⟩
 | false =>
  refine j5 ?_
  rintro⟨j,y,f,i,g,c⟩
  have e:=i.inj r
  subst e
  rw[zl4 20 g k f a]at c
  rw[c]at h
  cases h
theorem Z6 {F:Hp}{d:D}:∀ {a:List D} {b:List V} {c:List Value},AtL F a b->yZ b c->a.all (okE 20)=true->c.any (zcx F d)=a.any λe=>eqN 20 e d
 | [],_,_,al,r,_=>by cases al.nil_inv;cases r;rfl
 | e::a,_,_,al,r,k=>by
  obtain⟨x,b,rfl,h,g⟩:=al.cons_inv
  cases r with
  | cons i f =>
   rw[u1N,j3]at k
   rw[u1O,u1O,zdV h i k.1,Z6 g f k.2]
section
variable {X:Cx}
def zqT (a:Bool):R2:=λx y H Q=>∃ F d e c b,yU F H/\At F d x/\At F e y/\xA e=some c/\zne d c=some b/\Q (.bl (if a then !b else b)) H
theorem ziW {k:Nat}(L:ww k X.A):OpR X (compareOp .In) (zqT false):=by
 intro J s σ H x y v u Q I M G h
 obtain⟨F,d,e,K,b,B,P,C,N,t,q⟩:=h
 unfold zne at t
 split at t <;> cases t
 rename_i m
 have O:X.A.in1.units+20 < cLine:=by have:=L.un;show X.A.units+1+20 < cLine;omega
 have i:∀ {l:List V} {w:List Value},AtL F K l->yZ l w->∀ z∈w,SeqAt.EqAt X.A.in1 s z v (zcx F d z):=λ{l w} c r z f=>by
  obtain⟨j,R,rfl⟩:=u0g f
  obtain⟨S,E,g⟩:=c.nth r R
  have A:j < K.length:=by have:=c.length;have:=r.length;omega
  have D:=wH m.2 A
  rw[zdV E g D]
  exact zcb I B 20 D m.1 E P g M O
 cases e <;> cases N
 .obtain⟨p,l,rfl,o,c⟩:=C.tup_inv
  cases G
  obtain⟨a,r,n,f⟩:=I.tuple (SqT.of (B _ _ o))
  refine SeqAt.in_tupleAt (zcx F d) n (λz f=>i c r z (by simpa using f)) ⟨.bl _,H,I,rfl,?_⟩
  rw[show a.toArray.any (zcx F d)=a.any (zcx F d) by simp,Z6 c r m.2]
  exact q
 .obtain⟨p,l,rfl,o,c⟩:=C.lst_inv
  cases G
  obtain⟨a,r,n,f⟩:=I.list (SqL.of (B _ _ o))
  refine SeqAt.in_listAt (zcx F d) n.isList (λz f=>i c r z (by simpa using f)) ⟨.bl _,H,I,rfl,?_⟩
  rw[show a.toArray.any (zcx F d)=a.any (zcx F d) by simp,Z6 c r m.2]
  exact q
theorem ziY {k:Nat}(L:ww k X.A):OpR X (compareOp .NotIn) (zqT true):=by
 intro J s σ H x y v u Q I M G h
 obtain⟨F,d,e,K,b,B,P,C,N,t,q⟩:=h
 unfold zne at t
 split at t <;> cases t
 rename_i m
 have O:X.A.in1.units+20 < cLine:=by have:=L.un;show X.A.units+1+20 < cLine;omega
 have i:∀ {l:List V} {w:List Value},AtL F K l->yZ l w->∀ z∈w,SeqAt.EqAt X.A.in1 s z v (zcx F d z):=λ{l w} c r z f=>by
  obtain⟨j,R,rfl⟩:=u0g f
  obtain⟨S,E,g⟩:=c.nth r R
  have A:j < K.length:=by have:=c.length;have:=r.length;omega
  have D:=wH m.2 A
  rw[zdV E g D]
  exact zcb I B 20 D m.1 E P g M O
 cases e <;> cases N
 .obtain⟨p,l,rfl,o,c⟩:=C.tup_inv
  cases G
  obtain⟨a,r,n,f⟩:=I.tuple (SqT.of (B _ _ o))
  refine SeqAt.notIn_tupleAt (zcx F d) n (λz f=>i c r z (by simpa using f)) ⟨.bl _,H,I,rfl,?_⟩
  rw[show a.toArray.any (zcx F d)=a.any (zcx F d) by simp,Z6 c r m.2]
  exact q
 .obtain⟨p,l,rfl,o,c⟩:=C.lst_inv
  cases G
  obtain⟨a,r,n,f⟩:=I.list (SqL.of (B _ _ o))
  refine SeqAt.notIn_listAt (zcx F d) n.isList (λz f=>i c r z (by simpa using f)) ⟨.bl _,H,I,rfl,?_⟩
  rw[show a.toArray.any (zcx F d)=a.any (zcx F d) by simp,Z6 c r m.2]
  exact q
theorem ziE:OpD (zqT false) inD:=by
 intro F H x y d e z Q s a h c q
 obtain⟨j,f,i⟩:=u4.mp c
 obtain⟨b,g,rfl⟩:=u9.mp i
 exact⟨F,d,e,j,b,s,a,h,f,g,q F H _ (.refl s) .bl⟩
theorem ziT:OpD (zqT true) zl5:=by
 intro F H x y d e z Q s a h c q
 obtain⟨j,f,i⟩:=u4.mp c
 obtain⟨b,g,rfl⟩:=u9.mp i
 exact⟨F,d,e,j,b,s,a,h,f,g,q F H _ (.refl s) .bl⟩
def eqG (d e:D):Option Bool:=match d,e with
 | .tup _,.tup _=>if okE 20 d=true/\okE 20 e=true then some (eqN 20 d e)else none
 | .lst _,.lst _=>if okE 20 d=true/\okE 20 e=true then some (eqN 20 d e)else none
 | _,_=>eqS d e
def xg (d e:D):Option D:=(eqG d e).map .bl
def zqX:R2:=λx y H Q=>∃ F d e,yU F H/\At F d x/\At F e y/\((∃ a b,d=.tup a/\e=.tup b)\/(∃ a b,d=.lst a/\e=.lst b))/\okE 20 d=true/\okE 20 e=true/\Q (.bl (eqN 20 d e)) H
theorem zqH {k:Nat}(U:ww k X.A):OpR X (compareOp .Eq) zqX:=by
 intro T s σ H x y v u Q I n o h
 obtain⟨F,d,e,t,P,M,Z,R,N,q⟩:=h
 have D:X.A.units+30 < cLine:=by have:=U.un;omega
 rcases Z with ⟨c,g,rfl,rfl⟩ | ⟨c,g,rfl,rfl⟩
 .obtain⟨p,xs,rfl,E,A⟩:=P.tup_inv
  obtain⟨O,V,rfl,K,bl⟩:=M.tup_inv
  cases n
  cases o
  obtain⟨m,r,C,Y⟩:=I.tuple (SqT.of (t _ _ E))
  obtain⟨b,w,i,L⟩:=I.tuple (SqT.of (t _ _ K))
  have a:m.toArray.size=c.length:=by rw[t5,<- r.length,A.length]
  have f:b.toArray.size=g.length:=by rw[t5,<- w.length,bl.length]
  refine SeqAt.eq_tupleAt (e:=λj=>eqN 19 (c.getD j .non) (g.getD j .non)) (show s.heap.IsTuple p m.toArray from C) (show s.heap.IsTuple O b.toArray from i) (by omega) (λj z B=>?_) ⟨.bl _,H,I,rfl,?_⟩
  .obtain⟨W,J,n⟩:=A.nth r (j:=j) (by simpa using z)
   obtain⟨y',G,o⟩:=bl.nth w (j:=j) (by simpa using B)
   exact zcb I t 19 (wH R (by rw[<-a];exact z)) (wH N (by rw[<-f];exact B)) J G (by simpa using n) (by simpa using o) (j9 (show X.A.units+20<=X.A.units+30 from u0y (by decide) _) D)
  .rw[a,f,<- zbh]
   exact q
 .obtain⟨p,xs,rfl,E,A⟩:=P.lst_inv
  obtain⟨O,V,rfl,K,bl⟩:=M.lst_inv
  cases n
  cases o
  obtain⟨m,r,C,Y⟩:=I.list (SqL.of (t _ _ E))
  obtain⟨b,w,i,L⟩:=I.list (SqL.of (t _ _ K))
  have a:m.toArray.size=c.length:=by rw[t5,<- r.length,A.length]
  have f:b.toArray.size=g.length:=by rw[t5,<- w.length,bl.length]
  have S:eqN 20 (.lst c) (.lst g)=((List.range (min c.length g.length)).all (λj=>eqN 19 (c.getD j .non) (g.getD j .non))&&c.length == g.length):=by
   show((List.zipWith (eqN 19) c g).all id&&c.length == g.length)=_
   rw[zbh]
  by_cases l:c.length=g.length
  .refine SeqAt.eq_listAt (e:=λj=>eqN 19 (c.getD j .non) (g.getD j .non)) C.isList i.isList (by rw[a,f];exact l) (j9 (u0X _ 30) D) (λj z B=>?_) ⟨.bl _,H,I,rfl,?_⟩
   .obtain⟨W,J,n⟩:=A.nth r (j:=j) (by simpa using z)
    obtain⟨y',G,o⟩:=bl.nth w (j:=j) (by simpa using B)
    exact zcb I t 19 (wH R (by rw[<-a];exact z)) (wH N (by rw[<-f];exact B)) J G (by simpa using n) (by simpa using o) (j9 (show X.A.units+20<=X.A.units+30 from u0y (by decide) _) D)
   .rw[a]
    rw[S,<- l,u21]at q
    simpa using q
  .refine SeqAt.eq_list_lengthsAt C.isList i.isList (by rw[a,f];simpa using l) (j9 (u0X _ 30) D) ⟨.bl _,H,I,rfl,?_⟩
   have:(c.length == g.length)=false:=by simpa using l
   rw[S,this,m9]at q
   exact q
theorem zn4:OpD zqX (λd e=>match d,e with
 | .tup _,.tup _=>if okE 20 d=true/\okE 20 e=true then some (.bl (eqN 20 d e))else none
 | .lst _,.lst _=>if okE 20 d=true/\okE 20 e=true then some (.bl (eqN 20 d e))else none
 | _,_=>none):=by
 intro F H x y d e z Q s c f a q
 dsimp only at a
 split at a
 .split at a <;> cases a
  rename_i b
  exact⟨F,_,_,s,c,f,.inl ⟨_,_,rfl,rfl⟩,b.1,b.2,q F H _ (.refl s) .bl⟩
 .split at a <;> cases a
  rename_i b
  exact⟨F,_,_,s,c,f,.inr ⟨_,_,rfl,rfl⟩,b.1,b.2,q F H _ (.refl s) .bl⟩
 .cases a
theorem zeW {k:Nat}(a:ww k X.A):OpR X (compareOp .Eq) (λx y H Q=>rEq x y H Q\/zqX x y H Q):=zqJ.or (zqH a)
theorem zbn:OpD (λx y H Q=>rEq x y H Q\/zqX x y H Q) xg:=by
 refine zd3 (zcJ zmy zn4) λd e z h=>?_
 obtain⟨b,a,rfl⟩:=u9.mp h
 unfold eqG at a
 split at a
 .split at a <;> cases a
  rename_i c
  show(Option.or none (if okE 20 _=true/\okE 20 _=true then some (D.bl (eqN 20 _ _))else none))=_
  rw[t6 c]
  rfl
 .split at a <;> cases a
  rename_i c
  show(Option.or none (if okE 20 _=true/\okE 20 _=true then some (D.bl (eqN 20 _ _))else none))=_
  rw[t6 c]
  rfl
 .show((eqD d e).or _)=_
  unfold eqD
  rw[a]
  rfl
theorem Zy {d:List (Addr × Obj)}{σ:St}{H:Hp}{s:Shared}{a:Addr}{x:List V}{A:Around}{Q:Value->Shared->Prop}{E:Value->Shared->Prop}(I:Inv X d σ H s)(hh:A.handled=none)(h:SqL X.K H a x\/SqT X.K H a x)
 (k:∀ (B:Addr) (c:List Value) (C y:List Addr) (St:Nat->Heap->Prop) (f:Shared),yZ x c->Walks X.prog X.w A B C y c.length (λi v=>c[i]?=some v) St->St 0 f.heap->(∀ b∈C,b < f.heap.objs.size) ->
  (∀ (l:Heap) (m:Nat),(∀ b o,b∉y->f.heap.get? b=some o->l.get? b=some o)->Inv X d σ H { f with heap:=l,toks:=m })->Q (.ref B) f) :
 wpAny (model X.prog X.w) A (pyIter (.ref a)) Q E s:=by
 have g:∀ {o:Obj} {f:Shared},f={ s with heap:=s.heap.push o }->∀ (l:Heap) (m:Nat),(∀ b u,b∉[s.heap.objs.size]->f.heap.get? b=some u->l.get? b=some u)->Inv X d σ H { f with heap:=l,toks:=m }:=λ{o f} e l m kk=>by
  subst e
  exact I.kept (t':=m) λb u z=>kk b u (by simpa using q5 (t3 z)) (u5 _ z)
 rcases h with h | h
 .obtain⟨c,r,p,F⟩:=I.list h
  have q:a < s.heap.objs.size:=by obtain⟨o,n,t,_⟩:=p;exact t3 t
  refine u2E p.isList ?_
  have W:=Walks.list (prog:=X.prog) (w:=X.w) (A:=A) hh s.heap.objs.size a (q5 q) c.toArray
  refine k s.heap.objs.size c [s.heap.objs.size,a] [s.heap.objs.size] (λi h=>h.IsListIter s.heap.objs.size a i/\h.IsList a c.toArray) _ r (by simpa using W) ⟨⟨_,q2 _ rfl,rfl,rfl⟩,p.isList.at λo e=>u5 _ e⟩ (λb j=>?_) (g rfl)
  show b < (s.heap.push _).objs.size
  rw[s0]
  rcases q4.mp j with rfl | j
  .exact u2P _
  .rw[t7.mp j];exact i4 q
 .obtain⟨c,r,p,F⟩:=I.tuple h
  have D:s.heap.IsTuple a c.toArray:=p
  have q:a < s.heap.objs.size:=by obtain⟨o,t,_⟩:=p;exact t3 t
  refine u0D D ?_
  have W:=Walks.tuple (prog:=X.prog) (w:=X.w) (A:=A) hh s.heap.objs.size a (q5 q) c.toArray
  refine k s.heap.objs.size c [s.heap.objs.size,a] [s.heap.objs.size] (λi h=>h.IsTupleIter s.heap.objs.size a i/\h.IsTuple a c.toArray) _ r (by simpa using W) ⟨⟨_,q2 _ rfl,rfl,rfl⟩,D.at λo e=>u5 _ e⟩ (λb j=>?_) (g rfl)
  show b < (s.heap.push _).objs.size
  rw[s0]
  rcases q4.mp j with rfl | j
  .exact u2P _
  .rw[t7.mp j];exact i4 q
end
end Dl
namespace Dl
open PySem L2
variable [KK]
omit [KK] in
theorem zhK {a:List Bool}:(List.range a.length).all (λi=>a.getD i false)=a.all id:=by
 have:a=(List.range a.length).map λi=>a.getD i false:=by
  apply u2N
  .simp
  .intro i b c
   simp[b]
 conv=>rhs;rw[this]
 rw[u1A]
 rfl
omit [KK] in
theorem zgI {a:List Bool}:(List.range a.length).any (λi=>a.getD i false)=a.any id:=by
 have:a=(List.range a.length).map λi=>a.getD i false:=by
  apply u2N
  .simp
  .intro i b c
   simp[b]
 conv=>rhs;rw[this]
 rw[List.any_map]
 rfl
omit [KK] in
theorem zjh:∀ (a:List Int) (n:Nat),n<=a.length->preSum (λi=>a.getD i 0) n=(a.take n).sum:=by
 intro a n
 induction n with
 | zero=>intro _;simp[preSum]
 | succ n b =>
  intro h
  show preSum (λi=>a.getD i 0) n+a.getD n 0=_
  rw[b (by omega),u0S,u1Z]
  have:a[n]?=some a[n]:=by simp[show n < a.length by omega]
  simp[this]
section
variable {X:Cx}
omit [KK] in
theorem zhq {b:List Bool}{a:List Value}{i:Nat}{v:Value}(r:yZ (b.map V.bl) a)(h:a[i]?=some v):v=.bool (b.getD i false):=by
 have e:=r.length
 have f:i < a.length:=(q0.mp h).1
 rw[u8]at e
 obtain⟨u,c,d⟩:=r.get (i:=i) (x:=.bl (b[i]'(by omega))) (by rw[j1];simp[show i < b.length by omega])
 rw[h]at c
 cases c
 cases d
 simp[show i < b.length by omega]
omit [KK] in
theorem vM {b:List Int}{a:List Value}{i:Nat}{v:Value}(r:yZ (b.map V.int) a)(h:a[i]?=some v):∃ t,v=.int (b.getD i 0) t:=by
 have e:=r.length
 have f:i < a.length:=(q0.mp h).1
 rw[u8]at e
 obtain⟨u,c,d⟩:=r.get (i:=i) (x:=.int (b[i]'(by omega))) (by rw[j1];simp[show i < b.length by omega])
 rw[h]at c
 cases c
 obtain⟨t,rfl⟩:=d
 exact⟨t,by simp[show i < b.length by omega]⟩
theorem zhH (j:X.calm=true):vN X (.builtin "all") (λe H Q=>∃ (p:Addr) (b:List Bool),e=[.ref p]/\(SqL X.K H p (b.map V.bl)\/SqT X.K H p (b.map V.bl))/\Q (.bl (b.all id)) H):=by
 intro f s σ H e C Q I r h
 obtain⟨p,b,rfl,x,q⟩:=h
 obtain⟨u,rfl,l⟩:=W3 r
 cases l
 refine call_all_walk (Zy I (I.ok.hd j) x λo B z n St D c W A y a=>?_)
 have d:=c.length
 rw[u8]at d
 refine⟨o,z,n,_,_,St,λi=>b.getD i false,rfl,W,A,λi v s Q E w k=>?_,λt g m=>⟨.bl _,H,a t g m,rfl,?_⟩⟩
 .rw[zhq c w]
  exact p8 k
 .rw[<-d,zhK]
  exact q
theorem Vy (j:X.calm=true):vN X (.builtin "any") (λe H Q=>∃ (p:Addr) (b:List Bool),e=[.ref p]/\(SqL X.K H p (b.map V.bl)\/SqT X.K H p (b.map V.bl))/\Q (.bl (b.any id)) H):=by
 intro f s σ H e C Q I r h
 obtain⟨p,b,rfl,x,q⟩:=h
 obtain⟨u,rfl,l⟩:=W3 r
 cases l
 refine call_any_walk (Zy I (I.ok.hd j) x λo B z n St D c W A y a=>?_)
 have d:=c.length
 rw[u8]at d
 refine⟨o,z,n,_,_,St,λi=>b.getD i false,rfl,W,A,λi v s Q E w k=>?_,λt g m=>⟨.bl _,H,a t g m,rfl,?_⟩⟩
 .rw[zhq c w]
  exact p8 k
 .rw[<-d,zgI]
  exact q
theorem zbZ (m:X.calm=true):vN X (.builtin "sum") (λf H Q=>∃ (p:Addr) (a:List Int),f=[.ref p]/\(SqL X.K H p (a.map V.int)\/SqT X.K H p (a.map V.int))/\Q (.int a.sum) H):=by
 intro g s σ H f C Q I r h
 obtain⟨p,a,rfl,l,q⟩:=h
 obtain⟨u,rfl,n⟩:=W3 r
 cases n
 refine call_sum_walkG (Zy I (I.ok.hd m) l λA o t x St D d W y c b=>?_)
 have e:=d.length
 rw[u8]at e
 refine⟨A,t,x,_,_,St,λi=>a.getD i 0,rfl,W,y,c,λi v j=>vM d j,λB k z w=>⟨.int a.sum,H,b B k w,?_,q⟩⟩
 refine⟨z,?_⟩
 rw[<-e,zjh a _ (t4 _),u0z]
def zfn (a:List Int):Int:=(a.max?).getD 0
def zgN (a:List Int):Int:=(a.min?).getD 0
omit [KK] in
theorem zix (f:Nat→Int):∀ k i,i≤k→f i≤f (argBest (fun i j=>decide (f j < f i)) k)∧argBest (fun i j=>decide (f j < f i)) k≤k:=by
  intro k
  induction k with
  | zero => intro i hi; have : i = 0 := by omega
            subst this;exact ⟨h8 _,t4 _⟩
  | succ k ih =>
    intro i hi
    unfold argBest
    obtain ⟨h1,h2⟩:=ih (min i k) (u2Q _ _)
    split
    · rename_i hc
      have hc:f (argBest (fun i j=>decide (f j < f i)) k) < f (k+1):=j2 hc
      refine ⟨?_,t4 _⟩
      by_cases hik:i≤k
      · rw [u0G hik] at h1;omega
      · have:i=k+1:=by omega
        subst this;exact h8 _
    · rename_i hc
      have hc:¬ f (argBest (fun i j=>decide (f j < f i)) k) < f (k+1):=fun z=>hc (q7 z)
      refine ⟨?_,by omega⟩
      by_cases hik:i≤k
      · rw [u0G hik] at h1;exact h1
      · have:i=k+1:=by omega
        subst this;omega
omit [KK] in
theorem zmb {a:List Int}{m:Int}(b:m∈a)(c:∀ x∈a,x<=m):zfn a=m:=by
 unfold zfn
 rw[List.max?_eq_some_iff.mpr ⟨b,c⟩]
 rfl
omit [KK] in
theorem zqu {a:List Int}{m:Int}(b:m∈a)(c:∀ x∈a,m<=x):zgN a=m:=by
 unfold zgN
 rw[List.min?_eq_some_iff.mpr ⟨b,c⟩]
 rfl
omit [KK] in
theorem getD_mem {a:List Int}{k:Nat}(h:k < a.length):a.getD k 0∈a:=by
 rw[g9,q1 h]
 exact u0l h
omit [KK] in
theorem getD_at {a:List Int}{k:Nat}(h:k < a.length):a.getD k 0=a[k]:=by
 rw[g9,q1 h]
 rfl
theorem zg1 (y:X.calm=true):vN X (.builtin "max") (λn H Q=>∃ (p:Addr) (a:List Int),n=[.ref p]/\(SqL X.K H p (a.map V.int)\/SqT X.K H p (a.map V.int))/\a≠[]/\Q (.int (zfn a)) H):=by
 intro o s σ H n U Q I r h
 obtain⟨p,a,rfl,M,f,q⟩:=h
 obtain⟨u,rfl,B⟩:=W3 r
 cases B
 refine call_max_walk (Zy I (I.ok.hd y) M λG b N F St T e W O g c=>?_)
 have C:=e.length
 rw[u8]at C
 have l:0 < a.length:=List.length_pos_iff.mpr f
 refine⟨G,N,F,_,_,St,λi j=>decide (a.getD j 0 < a.getD i 0),rfl,W,O,g,by omega,λi j S Y s Q E P k z=>?_,λv J w L D=>?_⟩
 .obtain⟨R,rfl⟩:=vM e P
  obtain⟨Z,rfl⟩:=vM e k
  exact PyProof.Rows.gt_int z
 .obtain⟨t,rfl⟩:=vM e L
  refine⟨.int (zfn a),H,c J w D,⟨t,?_⟩,q⟩
  have d:=zix (λi=>a.getD i 0) (b.length - 1)
  have K:argBest (λi j=>decide (a.getD j 0 < a.getD i 0)) (b.length - 1) < a.length:=by
   have:=(d 0 (o5 _)).2
   omega
  rw[zmb (m:=a.getD (argBest (λi j=>decide (a.getD j 0 < a.getD i 0)) (b.length - 1)) 0)]
  .exact getD_mem K
  .intro x A
   obtain⟨j,k,rfl⟩:=u0g A
   have:=(d j (by omega)).1
   rw[<-getD_at k]
   exact this
theorem zgT (y:X.calm=true):vN X (.builtin "min") (λn H Q=>∃ (p:Addr) (a:List Int),n=[.ref p]/\(SqL X.K H p (a.map V.int)\/SqT X.K H p (a.map V.int))/\a≠[]/\Q (.int (zgN a)) H):=by
 intro o s σ H n Y Q I r h
 obtain⟨p,a,rfl,N,f,q⟩:=h
 obtain⟨u,rfl,C⟩:=W3 r
 cases C
 refine call_min_walk (Zy I (I.ok.hd y) N λJ b O G St U e W P g c=>?_)
 have D:=e.length
 rw[u8]at D
 have l:0 < a.length:=List.length_pos_iff.mpr f
 refine⟨J,O,G,_,_,St,λi j=>decide (a.getD i 0 < a.getD j 0),rfl,W,P,g,by omega,λi j T Z s Q E R k z=>?_,λv K w M F=>?_⟩
 .obtain⟨S,rfl⟩:=vM e R
  obtain⟨t2,rfl⟩:=vM e k
  exact PyProof.Rows.lt_int z
 .obtain⟨t,rfl⟩:=vM e M
  refine⟨.int (zgN a),H,c K w F,⟨t,?_⟩,q⟩
  have d:=zix (λi=>- a.getD i 0) (b.length - 1)
  have B:(λi j=>decide (a.getD i 0 < a.getD j 0))=λi j=>decide (-a.getD j 0 < -a.getD i 0):=by
   funext i j
   congr 1
   apply propext
   constructor <;> intro h <;> omega
  rw[B]
  have L:argBest (λi j=>decide (-a.getD j 0 < -a.getD i 0)) (b.length - 1) < a.length:=by
   have:=(d 0 (o5 _)).2
   omega
  rw[zqu (m:=a.getD (argBest (λi j=>decide (-a.getD j 0 < -a.getD i 0)) (b.length - 1)) 0)]
  .exact getD_mem L
  .intro x A
   obtain⟨j,k,rfl⟩:=u0g A
   have:=(d j (by omega)).1
   rw[<-getD_at k]
   omega
def zjM:List D->Option (List Bool)
 | []=>some []
 | .bl b::ds=>(zjM ds).map (b::·)
 | _=>none
def zdn:List D->Option (List Int)
 | []=>some []
 | .int b::ds=>(zdn ds).map (b::·)
 | _=>none
omit [KK] in
theorem zdz:∀ {b:List D} {a:List Bool},zjM b=some a->b=a.map .bl
 | [],a,h=>by cases h;rfl
 | d::b,a,h=>by
  cases d <;> try cases h
  obtain⟨e,c,rfl⟩:=u9.mp h
  rw[zdz c]
  rfl
omit [KK] in
theorem zaC:∀ {b:List D} {a:List Int},zdn b=some a->b=a.map .int
 | [],a,h=>by cases h;rfl
 | d::b,a,h=>by
  cases d <;> try cases h
  obtain⟨e,c,rfl⟩:=u9.mp h
  rw[zaC c]
  rfl
omit [KK] in
theorem zeG (a:List Bool):zjM (a.map .bl)=some a:=by
 induction a with
 | nil=>rfl
 | cons b r c=>show(zjM (r.map .bl)).map (b::·)=_;rw[c];rfl
omit [KK] in
theorem YO (a:List Int):zdn (a.map .int)=some a:=by
 induction a with
 | nil=>rfl
 | cons b r c=>show(zdn (r.map .int)).map (b::·)=_;rw[c];rfl
theorem AtL.of_bls {H:Hp}:∀ {b:List Bool} {a:List V},AtL H (b.map D.bl) a->a=b.map V.bl
 | [],_,h=>h.nil_inv
 | n::r,_,h=>by
  obtain⟨x,e,rfl,c,d⟩:=AtL.cons_inv (by simpa using h)
  rw[c.bl_inv,AtL.of_bls d]
  rfl
def zof {α:Type}(a:List D->Option α)(g:α->Option D):List D->Option D
 | [d]=>((xA d).bind a).bind g
 | _=>none
theorem Vs {K:W.Frag}{F H:Hp}{i:List V}{j:List D}{z:D}{α:Type}{k:List D->Option α}{g:α->Option D}(s:yU F H)(o:AtL F j i)(e:zof k g j=some z) :
 ∃ p f a b,i=[.ref p]/\(SqL K H p a\/SqT K H p a)/\AtL F f a/\k f=some b/\g b=some z:=by
 unfold zof at e
 split at e
 .obtain⟨b,q,m⟩:=u4.mp e
  obtain⟨f,t,l⟩:=u4.mp q
  obtain⟨x,r,rfl,h,n⟩:=o.cons_inv
  cases n.nil_inv
  rename_i d
  cases d <;> cases t
  .obtain⟨p,a,rfl,c,bl⟩:=h.tup_inv
   exact⟨p,_,a,b,rfl,.inr (SqT.of (s _ _ c)),bl,l,m⟩
  .obtain⟨p,a,rfl,c,bl⟩:=h.lst_inv
   exact⟨p,_,a,b,rfl,.inl (SqL.of (s _ _ c)),bl,l,m⟩
 .cases e
def zqb:=zof zjM λa=>some (.bl (a.all id))
def zom:=zof zjM λa=>some (.bl (a.any id))
def zfX:=zof zdn λa=>some (.int a.sum)
def zku:=zof zdn λa=>if a=[]then none else some (.int (zfn a))
def znA:=zof zdn λa=>if a=[]then none else some (.int (zgN a))
theorem zm1 {K:W.Frag}:CaD (λc H Q=>∃ (p:Addr) (a:List Bool),c=[.ref p]/\(SqL K H p (a.map V.bl)\/SqT K H p (a.map V.bl))/\Q (.bl (a.all id)) H) zqb:=by
 intro F H h i z Q s d e q
 obtain⟨p,j,c,a,rfl,b,bl,f,g⟩:=Vs (K:=K) s d e
 cases g
 rw[zdz f]at bl
 rw[bl.of_bls]at b
 exact⟨p,a,rfl,b,q F H _ (.refl s) .bl⟩
theorem zd4 {K:W.Frag}:CaD (λc H Q=>∃ (p:Addr) (a:List Bool),c=[.ref p]/\(SqL K H p (a.map V.bl)\/SqT K H p (a.map V.bl))/\Q (.bl (a.any id)) H) zom:=by
 intro F H h i z Q s d e q
 obtain⟨p,j,c,a,rfl,b,bl,f,g⟩:=Vs (K:=K) s d e
 cases g
 rw[zdz f]at bl
 rw[bl.of_bls]at b
 exact⟨p,a,rfl,b,q F H _ (.refl s) .bl⟩
theorem zg6 {K:W.Frag}:CaD (λc H Q=>∃ (p:Addr) (a:List Int),c=[.ref p]/\(SqL K H p (a.map V.int)\/SqT K H p (a.map V.int))/\Q (.int a.sum) H) zfX:=by
 intro F H i j z Q s d e q
 obtain⟨p,k,c,f,rfl,b,bl,g,h⟩:=Vs (K:=K) s d e
 cases h
 rw[zaC g]at bl
 rw[bl.of_ints]at b
 exact⟨p,f,rfl,b,q F H _ (.refl s) .int⟩
theorem zjU {K:W.Frag}:CaD (λd H Q=>∃ (p:Addr) (a:List Int),d=[.ref p]/\(SqL K H p (a.map V.int)\/SqT K H p (a.map V.int))/\a≠[]/\Q (.int (zfn a)) H) zku:=by
 intro F H j k z Q s g e q
 obtain⟨p,l,d,h,rfl,c,bl,i,f⟩:=Vs (K:=K) s g e
 split at f <;> cases f
 rename_i b
 rw[zaC i]at bl
 rw[bl.of_ints]at c
 exact⟨p,h,rfl,c,b,q F H _ (.refl s) .int⟩
theorem zlu {K:W.Frag}:CaD (λd H Q=>∃ (p:Addr) (a:List Int),d=[.ref p]/\(SqL K H p (a.map V.int)\/SqT K H p (a.map V.int))/\a≠[]/\Q (.int (zgN a)) H) znA:=by
 intro F H j k z Q s g e q
 obtain⟨p,l,d,h,rfl,c,bl,i,f⟩:=Vs (K:=K) s g e
 split at f <;> cases f
 rename_i b
 rw[zaC i]at bl
 rw[bl.of_ints]at c
 exact⟨p,h,rfl,c,b,q F H _ (.refl s) .int⟩
end
end Dl
namespace Dl
open PySem L2
variable [KK]
section
variable {X:Cx}{tg a b c e:Expr}{pos:Pos}
def zipD:List D->List D->List D
 | x::xs,y::ys=>.tup [x,y]::zipD xs ys
 | _,_=>[]
def vi (f:Ev->Option (List D)):Ev->Option (List D):=fun ρ=>(f ρ).bind λc=>match c with
 | [d,e]=>(xA d).bind λa=>(xA e).bind λb=>if a.length<=b.length then some (zipD a b)else none
 | _=>none
def wg (g:List D->Option (List D))(f:Ev->Option (List D))(b:D->SE->Option SE)(h:SE->Ctl):SE->Ctl:=fun ρ=>match (f (visG ρ)).bind g with
 | some a=>zgV b h a ρ
 | none=>.no
theorem zkR {p c:Pos} {b:List Stmt} {f:Ev->Option (List D)} {n:D->SE->Option SE} {g:SE->Ctl} (I:PassesOwn (model X.prog X.w) X.A X.env X.xe) (e:X.calm=true) (m:Gl X "range") (J:X.mg "range"=none) (w:AD X [a] f) (y:BD X tg n) (B:SDs X b g)
 (l:starEach [a] X.env=[(false,eval a X.env)]:=by rfl) (v:∀ x,foldedSetIterable (.Call (.Name "range" p) [a] [] pos) X.env x=pure x:=by intro _;rfl):SD X (.For tg (.Call (.Name "range" p) [a] [] pos) b [] c) (wg v0 f n g):=by
 obtain⟨t,u,r⟩:=w
 obtain⟨s,A,L⟩:=y
 obtain⟨Q,K,o⟩:=B
 refine⟨_,zmj I e (zcd m J u l) A K v,λFb Hb F H ρ σ E i k=>?_⟩
 unfold wg at k
 cases h:(f (visG ρ)).bind v0 with
 | none=>rw[h]at k;exact k.elim
 | some R =>
  rw[h]at k
  obtain⟨M,N,d⟩:=u4.mp h
  refine r σ _ _ H M _ i.gh i.visG N λF1 H1 P G z=>?_
  have j:=i.grow (i.back G).1
  unfold v0 at d
  split at d
  .split at d <;> cases d
   rename_i e
   obtain⟨x,O,rfl,C,q⟩:=z.cons_inv
   cases q.nil_inv
   exact⟨_,by rw[C.int_inv],(xP.mp e).1,(xP.mp e).2,zlV (zij 0 _) L o j k⟩
  .cases d
end
def zgW (K:W.Frag):Sp:=λc H Q _=>∃ (a:Addr) (b:List Int),c=[.ref a]/\SqL K H a (b.map V.int)/\b.length<=63/\∀ H',Q (.bl true) H'
end Dl
namespace Dl
open PySem L2
theorem zqk {P:Program}{w:World}{K:W.Frag}{d:Str->Option Value}{b:Heap}{f:Addr}{e:FuncData}{ps:List Str}{k:Nat}{p:List D->Option D}(F:Yb P w K d b CX0 k f e ps (@spD ⟨K⟩ 1 p))(h:∀ c:List Int,c.length<=63->p [.scr c]=some (.bl true)) :
 Yb P w K d b CX0 k f e ps (zgW K):=by
 letI:KK:=⟨K⟩
 refine F.imp λm H Q E g=>?_
 obtain⟨a,c,rfl,l,j,q⟩:=g
 refine⟨[.scr c],.bl true,H,rfl,yU.refl _,.cons ?_ .nil,h c j,λF' H' v _ i=>?_⟩
 .unfold At
  exact⟨a,rfl,l⟩
 .rw[i.bl_inv]
  exact q H'
structure Def (K:W.Frag) (mg:Str->Option Value) (x:Str) (st:Stmt) (ps:List Str) (f:Addr) (fd:FuncData):Prop where
 fn:Fun K x x st f fd
 bd:Yc K fd ps []
 at_:mg x=some (.ref f)
theorem Def.kp {K:W.Frag}{b:Str->Option Value}{x:Str}{a:Stmt}{c:List Str}{f:Addr}{e:FuncData}(d:Def K b x a c f e):W.keepIn K (.ref f)=true:=d.fn.kp
inductive Ctl.w:Ctl->(SE->Prop)->(SE->Prop)->(SE->Prop)->(D->Prop)->Prop where
 | nx {ρ:SE} {n b k:SE->Prop} {r:D->Prop}:n ρ->Ctl.w (.nx ρ) n b k r
 | bk {ρ:SE} {n b k:SE->Prop} {r:D->Prop}:b ρ->Ctl.w (.bk ρ) n b k r
 | ct {ρ:SE} {n b k:SE->Prop} {r:D->Prop}:k ρ->Ctl.w (.ct ρ) n b k r
 | rt {d:D} {n b k:SE->Prop} {r:D->Prop}:r d->Ctl.w (.rt d) n b k r
section
variable {ρ:SE}{d:D}{n b k:SE->Prop}{r:D->Prop}
theorem Ctl.w.nxi (h:Ctl.w (.nx ρ) n b k r):n ρ:=by cases h;assumption
theorem Ctl.w.bki (h:Ctl.w (.bk ρ) n b k r):b ρ:=by cases h;assumption
theorem Ctl.w.cti (h:Ctl.w (.ct ρ) n b k r):k ρ:=by cases h;assumption
theorem Ctl.w.rti (h:Ctl.w (.rt d) n b k r):r d:=by cases h;assumption
theorem Ctl.w.noi (h:Ctl.w .no n b k r):False:=by cases h
end
abbrev noP:SE->Prop:=λ_=>False
section
variable {g h:SE->Ctl}{ρ ρ':SE}{n b k:SE->Prop}{r:D->Prop}
theorem yb (e:(g ρ).w (fun ρ'=>(h ρ').w n b k r) b k r):(zC g h ρ).w n b k r:=by
 unfold zC
 cases a:g ρ with
 | nx ρ'=>rw[a]at e;exact e.nxi
 | bk ρ'=>rw[a]at e;exact .bk e.bki
 | ct ρ'=>rw[a]at e;exact .ct e.cti
 | rt d=>rw[a]at e;exact .rt e.rti
 | no=>rw[a]at e;exact e.noi.elim
theorem zl (e:g ρ=.nx ρ')(q:(h ρ').w n b k r):(zC g h ρ).w n b k r:=yb (by rw[e];exact .nx q)
theorem Z9 (e:g ρ=.nx ρ')(q:n ρ'):(g ρ).w n b k r:=by rw[e];exact .nx q
theorem yt {d:D}(e:g ρ=.rt d)(q:r d):(g ρ).w n b k r:=by rw[e];exact .rt q
theorem zbD {t:Ev->Option Bool}{c:Bool}(e:t (visG ρ)=some c)(a:c=true->(g ρ).w n b k r)(d:c=false->(h ρ).w n b k r):(sIf t g h ρ).w n b k r:=by
 unfold sIf
 rw[e]
 cases c with
 | true=>exact a rfl
 | false=>exact d rfl
theorem zjN {i:Nat}(e:zqS ρ i=ρ')(q:(g ρ').w n b k r):(sFz i g ρ).w n b k r:=by
 unfold sFz
 rw[e]
 exact q
theorem zik {l:D->SE->Option SE}(I:Nat->SE->Prop):∀ (c:List D) (j:Nat) (ρ:SE),I j ρ ->
 (∀ i d ρ,c[i]?=some d->I (j+i) ρ->∃ f,l d ρ=some f/\(g f).w (I (j+i+1)) n (I (j+i+1)) r)->(∀ ρ,I (j+c.length) ρ->n ρ)->(zgV l g c ρ).w n b k r
 | [],j,ρ,h0,_,fin=>.nx (fin ρ h0)
 | d::c,j,ρ,h0,step,fin=>by
  obtain⟨f,p,a⟩:=step 0 d ρ rfl h0
  unfold zgV
  rw[p]
  dsimp only
  have next:∀ ρ',I (j+1) ρ'->(zgV l g c ρ').w n b k r:=fun ρ' q=>zik I c (j+1) ρ' q
   (λi m ρ o h=>by
    have:=step (i+1) m ρ (by simpa using o) (by rw[show j+(i+1)=j+1+i by omega];exact h)
    rwa[show j+(i+1)+1=j+1+i+1 by omega]at this)
   (fun ρ h=>fin ρ (by rw[g0,show j+(c.length+1)=j+1+c.length by omega];exact h))
  cases e:g f with
  | nx ρ'=>rw[e]at a;exact next ρ' a.nxi
  | ct ρ'=>rw[e]at a;exact next ρ' a.cti
  | bk ρ'=>rw[e]at a;exact .nx a.bki
  | rt m=>rw[e]at a;exact .rt a.rti
  | no=>rw[e]at a;exact a.noi.elim
theorem zcM {f:Ev->Option (List D)}{c:D->SE->Option SE}{ds:List D}(I:Nat->SE->Prop)(e:f (visF ρ)=some ds)(l:I 0 ρ)
 (step:∀ i d ρ,ds[i]?=some d->I i ρ->∃ h,c d ρ=some h/\(g h).w (I (i+1)) n (I (i+1)) r) (fin:∀ ρ,I ds.length ρ->n ρ):(vZ f c g ρ).w n b k r:=by
 unfold vZ
 rw[e]
 exact zik I ds 0 ρ l (λi d ρ j a=>by rw[m3]at a ⊢;exact step i d ρ j a) (fun ρ a=>fin ρ (by rw[m3]at a;exact a))
theorem zgZ {f:Ev->Option (List D)}{l:D->SE->Option SE}{m:List D->Option (List D)}{lo:Int}{c:Nat}(I:Nat->SE->Prop)(e:(f (visG ρ)).bind m=some (Wy lo c))(p:I 0 ρ)
 (step:∀ (i:Nat) ρ,i < c->I i ρ->∃ o,l (.int (lo+i)) ρ=some o/\(g o).w (I (i+1)) n (I (i+1)) r) (fin:∀ ρ,I c ρ->n ρ):(wg m f l g ρ).w n b k r:=by
 unfold wg
 rw[e]
 refine zik I (Wy lo c) 0 ρ p (λi d ρ a h=>?_) (fun ρ h=>fin ρ ?_)
 .rw[m3]at h ⊢
  unfold Wy at a
  rw[j1]at a
  by_cases j:i < c
  .rw[u1W j]at a
   cases a
   exact step i ρ j h
  .rw[g8 (by simpa using j)]at a
   cases a
 .rw[m3]at h
  rwa[show(Wy lo c).length=c by unfold Wy;simp]at h
theorem zmq {g f a:SE->Prop}{e:D->Prop}{c:Ctl}(q:c.w n b k r)(h:∀ ρ,n ρ->g ρ)(l:∀ ρ,b ρ->f ρ)(i:∀ ρ,k ρ->a ρ)(j:∀ d,r d->e d):c.w g f a e:=by
 cases q with
 | nx q=>exact .nx (h _ q)
 | bk q=>exact .bk (l _ q)
 | ct q=>exact .ct (i _ q)
 | rt q=>exact .rt (j _ q)
theorem W2 {t:Ev->Option Bool}(I:SE->Prop)(μ:SE->Nat)(step:∀ ρ,I ρ->∃ c,t (visG ρ)=some c/\(c=true->(g ρ).w (fun ρ'=>I ρ'/\μ ρ' < μ ρ) n (fun ρ'=>I ρ'/\μ ρ' < μ ρ) r)/\(c=false->n ρ)):∀ (d:Nat) (ρ:SE),I ρ->μ ρ < d->(w4 t g d ρ).w n b k r
 | 0,ρ,_,hf=>by omega
 | d+1,ρ,hI,hf=>by
  obtain⟨c,e,h,f⟩:=step ρ hI
  unfold w4
  rw[e]
  cases c with
  | false=>exact .nx (f rfl)
  | true =>
   have q:=h rfl
   dsimp only
   cases a:g ρ with
   | nx ρ'=>rw[a]at q;exact W2 I μ step d ρ' q.nxi.1 (by have:=q.nxi.2;omega)
   | ct ρ'=>rw[a]at q;exact W2 I μ step d ρ' q.cti.1 (by have:=q.cti.2;omega)
   | bk ρ'=>rw[a]at q;exact .nx q.bki
   | rt i=>rw[a]at q;exact .rt q.rti
   | no=>rw[a]at q;exact q.noi.elim
end
theorem yT {m:Nat}{g:SE->Ctl}{c:List D}{d:D}{ρ:SE}(e:c.map .v++List.replicate (m - c.length) .no=ρ)(q:(g ρ).w (λ_=>d=.non) noP noP (λb=>b=d)):fnD m g c=some d:=by
 unfold fnD
 rw[e]
 cases a:g ρ with
 | nx f=>rw[a]at q;rw[show d=.non from q.nxi]
 | rt b=>rw[a]at q;rw[show b=d from q.rti]
 | bk _=>rw[a]at q;exact q.bki.elim
 | ct _=>rw[a]at q;exact q.cti.elim
 | no=>rw[a]at q;exact q.noi.elim
theorem zh2 {m:Bool}{i:Nat}{f:Ev->Option D}{ρ:SE}{ds:List D}{d:D}(b:vEv m f ρ=some d)(e:ρ[i]?=some (.o ds))(c:ds.length<=1000):Yw m i f ρ=.nx (ρ.set i (.o (ds++[d]))):=by
 unfold Yw
 rw[b,e]
 show(match (if decide (ds.length < sizeLine)=true then some (ρ.set i (.o (ds++[d])))else none)with | some a=>Ctl.nx a | none=>Ctl.no)=_
 rw[t6 (q7 (YD c))]
theorem Zc {b:D->Option (List (Option D))}{t:Ev->Option Bool}{f:Ev->Option D}{ρ:Ev}{α:Type}(c:α->D)(y:α->D):∀ (a:List α),(∀ x∈a,∃ own,b (c x)=some own/\t (own++ρ)=some true/\f (own++ρ)=some (y x))->lcD b t f ρ (a.map c)=some (a.map y)
 | [],_=>rfl
 | x::a,h=>by
  obtain⟨own,e,d,g⟩:=h x r0
  show lcD b t f ρ (c x::a.map c)=_
  unfold lcD
  rw[e]
  simp only[j7,d,u2p,g,Zc c y a λz i=>h z (j8 _ i)]
  rfl
theorem vu {b:D->Option (List (Option D))}{t:Ev->Option Bool}{f:Ev->Option D}{ρ:Ev}{α:Type}(c:α->D)(p:α->Bool)(y:α->D):∀ (a:List α),(∀ x∈a,∃ own,b (c x)=some own/\t (own++ρ)=some (p x)/\(p x=true->f (own++ρ)=some (y x)))->lcD b t f ρ (a.map c)=some ((a.filter p).map y)
 | [],_=>rfl
 | x::a,h=>by
  obtain⟨own,g,k,i⟩:=h x r0
  have e:=vu c p y a λz j=>h z (j8 _ j)
  show lcD b t f ρ (c x::a.map c)=_
  unfold lcD
  rw[g]
  simp only[j7,k]
  cases d:p x with
  | false =>
   rw[t9 u7,e,List.filter_cons,t9 (by rw[d];exact u7)]
  | true =>
   rw[t6 rfl,i d,e,List.filter_cons,t6 d]
   rfl
mutual
def noS:D->Bool
 | .tup ds=>Ww ds
 | .lst ds=>Ww ds
 | .scr _=>false
 | _=>true
def Ww:List D->Bool
 | []=>true
 | d::ds=>noS d&&Ww ds
end
theorem vK:∀ {ds:List D} {i:Nat} {d:D},Ww ds=true->ds[i]?=some d->noS d=true
 | [],_,_,_,h=>by simp at h
 | d::ds,i,e,h,he=>by
  unfold Ww at h
  rw[j3]at h
  cases i with
  | zero=>simp at he;subst he;exact h.1
  | succ i=>exact vK h.2 (by simpa using he)
theorem x9 {n:Nat}(h:n<=1000):lim n=true:=by
 unfold lim
 exact q7 (f6 (YD h))
theorem Zj (a:Int)(n:Nat):(Wy a n).length=n:=by unfold Wy;simp
end Dl
namespace Dl
open PySem L2
abbrev Pr:=Int × Int
def prD (t:Pr):D:=.tup [.int t.1,.int t.2]
def prOf:D->Option Pr
 | .tup [.int a,.int b]=>some (a,b)
 | _=>none
def zgH:List D->Option (List Pr)
 | []=>some []
 | d::ds=>(prOf d).bind λt=>(zgH ds).map (t::·)
theorem zhQ (a:List Pr):zgH (a.map prD)=some a:=by
 induction a with
 | nil=>rfl
 | cons t a b =>
  show(prOf (prD t)).bind (λu=>(zgH (a.map prD)).map (u::·))=_
  rw[b]
  rfl
variable [KK]
end Dl
namespace Dl
open PySem L2
variable [KK]
section
variable {X:Cx}{a b:Expr}{pos:Pos}
theorem ZP {a:List Stmt}:SDs X a sNo:=⟨_,zjw,λ_ _ _ _ _ _ _ _ h=>h.elim⟩
end
end Dl
namespace Dl
open PySem L2
def zrp:D->Option Key
 | .int i=>some (.inl i)
 | .str x=>some (.inr x)
 | _=>none
def zfP:List D->Option (List Key)
 | []=>some []
 | d::ds=>(zrp d).bind λk=>(zfP ds).map (k::·)
def zjG:D->Option (List Key)
 | .tup a=>zfP a
 | _=>none
def zod (t:Bool)(d:D):Option (List Key):=if t=true then zjG d else (zrp d).map ([·])
def intQ:Int->Int->Bool
 | .ofNat a,.ofNat b=>Nat.beq a b
 | .negSucc a,.negSucc b=>Nat.beq a b
 | _,_=>false
theorem zeA {a b:Int}:intQ a b=true↔a=b:=by
 cases a with
 | ofNat a=>cases b with
  | ofNat b=>exact⟨λh=>(by rw[Nat.eq_of_beq_eq_true h]),λh=>(by cases h;exact Nat.beq_refl a)⟩
  | negSucc b=>exact⟨λh=>(by cases h),λh=>(by cases h)⟩
 | negSucc a=>cases b with
  | ofNat b=>exact⟨λh=>(by cases h),λh=>(by cases h)⟩
  | negSucc b=>exact⟨λh=>(by rw[Nat.eq_of_beq_eq_true h]),λh=>(by cases h;exact Nat.beq_refl a)⟩
def zkg:Key->Key->Bool
 | .inl i,.inl j=>intQ i j
 | .inr a,.inr b=>decide (a=b)
 | _,_=>false
def zqZ:List Key->List Key->Bool
 | [],[]=>true
 | a::r,b::s=>match zkg a b with
  | true=>zqZ r s
  | false=>false
 | _,_=>false
theorem zcy {a b:Key}:zkg a b=true↔a=b:=by
 cases a with
 | inl i=>cases b with
  | inl j=>exact⟨λh=>(by rw[zeA.mp h]),λh=>(by cases h;exact zeA.mpr rfl)⟩
  | inr b=>exact⟨λh=>(by cases h),λh=>(by cases h)⟩
 | inr i=>cases b with
  | inl j=>exact⟨λh=>(by cases h),λh=>(by cases h)⟩
  | inr b=>exact⟨λh=>(by rw[j2 h]),λh=>(by cases h;exact q7 rfl)⟩
theorem zeq {x y:List Key}:zqZ x y=true↔x=y:=by
 induction x generalizing y with
 | nil=>cases y with
  | nil=>exact⟨λ_=>rfl,λ_=>rfl⟩
  | cons b s=>exact⟨λh=>(by cases h),λh=>(by cases h)⟩
 | cons a r c=>cases y with
  | nil=>exact⟨λh=>(by cases h),λh=>(by cases h)⟩
  | cons b s =>
   show(match zkg a b with | true=>zqZ r s | false=>false)=true↔_
   cases h:zkg a b with
   | true=>rw[zcy.mp h];exact c.trans ⟨λh=>(by rw[h]),λh=>(by cases h;rfl)⟩
   | false=>exact⟨λh=>(by cases h),λe=>(by cases e;rw[zcy.mpr rfl]at h;cases h)⟩
def zjr (x y:List Key):Decidable (x=y):=match h:zqZ x y with
 | true=>.isTrue (zeq.mp h)
 | false=>.isFalse λe=>by rw[zeq.mpr e]at h;cases h
def Wk:List (List Key)->List D->List Key->Option D
 | k'::ks,v::vs,k=>@ite _ (k'=k) (zjr k' k) (some v) (Wk ks vs k)
 | _,_,_=>none
def zq2:List (List Key)->List D->List Key->D->List D
 | k'::ks,v::vs,k,d=>(@ite _ (k'=k) (zjr k' k) d v)::zq2 ks vs k d
 | _,_,_,_=>[]
def zfz (a:List (List Key))(b:List D)(k:List Key):List (List Key):=if (Wk a b k).isSome=true then a else a++[k]
def zgl (b:List (List Key))(a:List D)(k:List Key)(d:D):List D:=if (Wk b a k).isSome=true then zq2 b a k d else a++[d]
theorem W7 {a k:List Key}{c:List (List Key)}{v:D}{b:List D}:Wk (a::c) (v::b) k=if a=k then some v else Wk c b k:=by
 show @ite _ (a=k) (zjr a k) (some v) (Wk c b k)=_
 by_cases h:a=k
 .rw[t6 h,t6 h]
 .rw[t9 h,t9 h]
section
variable [KK]
theorem zdA {F:Hp}{d:D}{k:Key}{y:V}(h:zrp d=some k)(a:At F d y):y=kV k:=by
 cases d with
 | int i=>cases h;exact a.int_inv
 | str x=>cases h;exact a.str_inv
 | _=>cases h
theorem zfd {F:Hp}:∀ {b:List D} {e:List Key} {c:List V},zfP b=some e->AtL F b c->c=e.map kV
 | [],_,_,h,a=>by cases h;exact a.nil_inv
 | d::b,_,_,h,a=>by
  obtain⟨k,f,l⟩:=u4.mp h
  obtain⟨r,g,rfl⟩:=u9.mp l
  obtain⟨x,m,rfl,j,i⟩:=a.cons_inv
  rw[zdA f j,zfd g i]
  rfl
theorem zc9 {F:Hp}{d:D}{k:List Key}{y:V}(h:zjG d=some k)(a:At F d y):∃ b,y=.ref b/\F b=some (.tup (k.map kV)):=by
 cases d with
 | tup f =>
  obtain⟨b,g,rfl,c,e⟩:=a.tup_inv
  rw[zfd (show zfP f=some k from h) e]at c
  exact⟨b,rfl,c⟩
 | _=>cases h
section
variable {κ:Type}[DecidableEq κ](f:κ->List Key)(hf:∀ a b,f a=f b->a=b)
include hf
theorem za6 {F:Hp}{k:κ}:∀ {b:List (κ × V)} {c:List D},AtL F c (b.map (·.2)) ->
 (∀ d,Wk (b.map λp=>f p.1) c (f k)=some d->∃ x,zeo b k=some x/\At F d x)/\(Wk (b.map λp=>f p.1) c (f k)=none->zeo b k=none)
 | [],_,_=>⟨λd h=>(by cases h),λ_=>rfl⟩
 | p::b,[],a=>by cases a.nil_inv
 | p::b,v::c,a=>by
  obtain⟨x,r,e,i,g⟩:=a.cons_inv
  cases e
  have j:=za6 (k:=k) g
  by_cases h:p.1=k
  .rw[Wq h]
   have e:Wk ((p::b).map λp=>f p.1) (v::c) (f k)=some v:=by
    rw[r4,W7,t6 (by rw[h])]
   rw[e]
   exact⟨λd z=>(by cases z;exact⟨_,rfl,i⟩),λz=>(by cases z)⟩
  .rw[WF h]
   have e:Wk ((p::b).map λp=>f p.1) (v::c) (f k)=Wk (b.map λp=>f p.1) c (f k):=by
    rw[r4,W7,t9 (λz=>h (hf _ _ z))]
   rw[e]
   exact j
theorem zk9 {F:Hp}{k:κ}{b:List (κ × V)}{c:List D}(a:AtL F c (b.map (·.2))):(Wk (b.map λp=>f p.1) c (f k)).isSome=(zeo b k).isSome:=by
 obtain⟨g,i⟩:=za6 f hf (k:=k) a
 cases h:Wk (b.map λp=>f p.1) c (f k) with
 | none=>rw[i h];rfl
 | some d=>obtain⟨x,e,_⟩:=g d h;rw[e];rfl
theorem zie {F:Hp}{k:κ}{d:D}{y:V}(i:At F d y):∀ {b:List (κ × V)} {g:List D},AtL F g (b.map (·.2)) ->
 AtL F (zq2 (b.map λp=>f p.1) g (f k) d) ((b.map λc=>if c.1=k then (c.1,y)else c).map (·.2))
 | [],_,_=>by unfold zq2;exact .nil
 | p::b,[],a=>by cases a.nil_inv
 | p::b,v::g,a=>by
  obtain⟨x,r,e,m,j⟩:=a.cons_inv
  cases e
  have l:=zie (k:=k) i j
  rw[r4,r4]
  refine AtL.cons ?_ l
  by_cases h:p.1=k
  .rw[t6 h,t6 (by rw[h])];exact i
  .rw[t9 h,t9 (λz=>h (hf _ _ z))];exact m
theorem zi7 {F:Hp}{k:κ}{d:D}{y:V}(g:At F d y){b:List (κ × V)}{c:List D}(a:AtL F c (b.map (·.2))) :
 (zdM b k y).map (λp=>f p.1)=zfz (b.map λp=>f p.1) c (f k)/\AtL F (zgl (b.map λp=>f p.1) c (f k) d) ((zdM b k y).map (·.2)):=by
 unfold zdM zfz zgl
 rw[zk9 f hf a,zaZ]
 cases h:(zeo b k).isSome with
 | true =>
  rw[t6 rfl,t6 rfl,t6 rfl]
  refine⟨?_,zie f hf g a⟩
  rw[i1]
  refine u0Z λp _=>?_
  by_cases e:p.1=k
  .show f (if p.1=k then (p.1,y)else p).1=_;rw[t6 e]
  .show f (if p.1=k then (p.1,y)else p).1=_;rw[t9 e]
 | false =>
  rw[t9 u7,t9 u7,t9 u7,n9,n9]
  exact⟨rfl,a.append (.cons g .nil)⟩
end
theorem zhB (a b:Key)(h:[a]=[b]):a=b:=by cases h;rfl
theorem zlG (a b:List Key)(h:a=b):a=b:=h
theorem zhk {F H:Hp}{a:Addr}{z t:Bool}{g:List (List Key)}{j:List V}{h:List D}{i:D}{k:List Key}{y:V}(s:yU F H)(c:za9 F a z t g j)(l:AtL F h j)(f:zod t i=some k)(m:At F i y) :
 ∃ o,znE H a y o/\(∀ d,Wk g h k=some d->∃ x,o=some x/\At F d x)/\(Wk g h k=none->o=none):=by
 obtain⟨u,c,n⟩:=(c.mono s).rd
 unfold zbC at c
 unfold zod at f
 cases t with
 | true =>
  rw[t6 rfl]at c f
  obtain⟨e,rfl,rfl,rfl⟩:=c
  obtain⟨b,rfl,r⟩:=zc9 f m
  exact⟨_,.inr ⟨e,k,b,n,rfl,s _ _ r,rfl⟩,za6 (λk=>k) zlG l⟩
 | false =>
  rw[t9 u7]at c f
  obtain⟨e,rfl,rfl,rfl⟩:=c
  obtain⟨q,p,rfl⟩:=u9.mp f
  rw[zdA p m]
  exact⟨_,.inl ⟨e,q,n,rfl,rfl⟩,za6 (λk=>[k]) zhB l⟩
theorem zog {F H:Hp}{a:Addr}{o:HO}{t:Bool}{f:List (List Key)}{r:List V}{g:List D}{m d:D}{k:List Key}{y v:V}{G:Hp}(h:H a=some o)(e:zbC o t f r)(u:AtL F g r)(c:zod t m=some k)(w:At G m y)(s:yU G H)(n:At F d v)
 (p:f.length < sizeLine):∃ q,zlf H a y v (upd H a q)/\zfa F q (.m t (zfz f g k) (zgl f g k d)):=by
 unfold zbC at e
 unfold zod at c
 cases t with
 | true =>
  rw[t6 rfl]at e c
  obtain⟨l,rfl,rfl,rfl⟩:=e
  obtain⟨b,rfl,A⟩:=zc9 c w
  obtain⟨j,i⟩:=zi7 (λk=>k) zlG (k:=k) n u
  refine⟨_,zlf.t h (s _ _ A) (by simpa using p),_,?_,i⟩
  unfold zbC
  rw[t6 rfl]
  exact⟨_,rfl,j,rfl⟩
 | false =>
  rw[t9 u7]at e c
  obtain⟨l,rfl,rfl,rfl⟩:=e
  obtain⟨z,x,rfl⟩:=u9.mp c
  rw[zdA x w]
  obtain⟨j,i⟩:=zi7 (λk=>[k]) zhB (k:=z) n u
  refine⟨_,zlf.k h (by simpa using p),_,?_,i⟩
  unfold zbC
  rw[t9 u7]
  exact⟨_,rfl,j,rfl⟩
def zaF:D->D->Option D
 | .dct _ t ks vs,kd=>(zod t kd).bind λk=>Wk ks vs k
 | _,_=>none
def zmX (a:Bool):D->D->Option D
 | kd,.dct _ t ks vs=>(zod t kd).map λk=>.bl (a != (Wk ks vs k).isSome)
 | _,_=>none
section
variable {X:Cx}{a b c:Expr}{pos apos:Pos}
theorem zmY {k:Nat}{f h:Ev->Option D}(i:ww k X.A)(A:ED X a f)(I:ED X b h)(n:zr2 b):ED X (.Subscript a b pos) (zi zaF f h):=by
 obtain⟨T,m,M⟩:=A
 obtain⟨U,K,j⟩:=I
 refine⟨_,zna (ziv i) m K n,fun σ ρ F H z Q s g e q=>?_⟩
 obtain⟨x,O,e⟩:=u4.mp e
 obtain⟨y,P,e⟩:=u4.mp e
 refine M σ ρ F H x _ s g O λF1 H1 v c E=>?_
 refine j σ ρ F1 H1 y _ c.fh (g.mono c.ff) P λF2 H2 u d l=>?_
 cases x with
 | dct W t V R =>
  obtain⟨S,B,L⟩:=u4.mp e
  obtain⟨p,Y,rfl,r,N⟩:=(E.mono d.ff).dct_inv
  obtain⟨o,G,C,_⟩:=zhk d.fh r N B l
  obtain⟨w,rfl,J⟩:=C z L
  exact⟨p,w,rfl,G,q F2 H2 w (c.trans d) J⟩
 | _=>cases e
def zrn (b:Bool):R2:=λx y H Q=>∃ a o,y=.ref a/\znE H a x o/\Q (.bl (b != o.isSome)) H
theorem zqE {k:Nat}(c:ww k X.A):OpR X (compareOp .In) (zrn false):=by
 intro b s σ H x y v u Q I d e h
 obtain⟨a,o,rfl,g,q⟩:=h
 obtain rfl:u=Value.ref a:=e
 exact d_in (ziv c) I g d λf I3=>⟨.bl o.isSome,H,I3,rfl,by simpa using q⟩
theorem ziO {k:Nat}(c:ww k X.A):OpR X (compareOp .NotIn) (zrn true):=by
 intro b s σ H x y v u Q I d e h
 obtain⟨a,o,rfl,g,q⟩:=h
 obtain rfl:u=Value.ref a:=e
 exact zoi (ziv c) I g d λf I3=>⟨.bl (!o.isSome),H,I3,rfl,by simpa using q⟩
theorem zjl {a:Bool}:OpD (zrn a) (zmX a):=by
 intro F H x y d e z Q s l f h q
 cases e with
 | dct u t b c =>
  obtain⟨k,j,rfl⟩:=u9.mp h
  obtain⟨p,v,rfl,i,m⟩:=f.dct_inv
  obtain⟨o,r,n,g⟩:=zhk s i m j l
  refine⟨p,o,rfl,r,?_⟩
  have e:(Wk b c k).isSome=o.isSome:=by
   cases h:Wk b c k with
   | none=>rw[g h];rfl
   | some d=>obtain⟨w,rfl,_⟩:=n d h;rfl
  rw[<-e]
  exact q F H _ (.refl s) .bl
 | _=>cases h
end
section
variable {X:Cx}{a e ko:Expr}{pos pos':Pos}{st:Stmt}
def zoh (t:Bool)(i:Nat):SE->Ctl:=fun ρ=>.nx (ρ.set i (.m t [] []))
theorem zn0 {t:Bool}{i:Nat}{x:Str}(h:X.N.Nodup)(l:X.N[i]?=some x)(d:Loc X.env.scope x)(c:swapsWith (.Dict [] [] pos) (some (.Name x pos')) pos.line X.env=pure false:=by rfl)
 (j:X.fn x=true\/X.env.scope.names.lookup x=some .local:=by first | exact .inl rfl | exact .inr rfl | assumption) {e:Pos} (c:swapsWith (.Dict [] [] e) (some (.Name x pos')) pos.line X.env=pure false:=by rfl):SD X (.Assign [.Name x pos'] (.Dict [] [] e) pos) (zoh t i):=by
 have f:∀ (o:HO),zfa (λ_=>none) o (.m t [] [])->∀ (Fb Hb F H:Hp) (ρ:SE) (σ:St) (E:zce),Rl Fb Hb F H ρ σ->SOk Fb Hb E (zoh t i ρ)->∀ p,H p=none->E.nx (σ.set i (some (.ref p))) (upd H p o):=λo m Fb Hb F H ρ σ E a k p b=>by
  have g:=Gr.hide a.gr.fh b o
  refine k F _ _ ((a.grow g).setW (a.notbase b) (a.gr.fh.free b) zr (m.mono λ_ _ z=>by cases z) (a.notown b))
 cases t with
 | true =>
  refine⟨_,ZO h l d zlx c j,λFb Hb F H ρ σ E a k=>?_⟩
  refine λp b=>f (.dT []) ⟨[],?_,.nil⟩ Fb Hb F H ρ σ E a k p b
  unfold zbC
  rw[t6 rfl]
  exact⟨[],rfl,rfl,rfl⟩
 | false =>
  refine⟨_,ZO h l d zkV c j,λFb Hb F H ρ σ E a k=>?_⟩
  refine λp b=>f (.dK []) ⟨[],?_,.nil⟩ Fb Hb F H ρ σ E a k p b
  unfold zbC
  rw[t9 u7]
  exact⟨[],rfl,rfl,rfl⟩
def zoJ (ρ:SE)(i:Nat)(a d:D):Option SE:=match ρ[i]? with
 | some (.m t ks vs)=>(zod t a).bind λk=>if decide (ks.length < sizeLine)=true then some (ρ.set i (.m t (zfz ks vs k) (zgl ks vs k d)))else none
 | _=>none
def zgu (m:Bool)(i:Nat)(e c:Ev->Option D):SE->Ctl:=fun ρ=>match (vEv m c ρ).bind λd=>(e (visG ρ)).bind λb=>zoJ ρ i b d with
 | some a=>.nx a
 | none=>.no
theorem ziA {k:Nat}{m:Bool}{i:Nat}{u s:Ev->Option D}(I:ww k X.A)(R:ED X e s)(N:PE X a (zb4 i))(P:ED X ko u)(f:swapsWith e (some (.Subscript a ko pos')) pos.line X.env=pure false:=by rfl):SD X (.Assign [.Subscript a ko pos'] e pos) (zgu m i u s):=by
 obtain⟨t,p,r⟩:=R
 obtain⟨W,M,S⟩:=P
 refine⟨_,zmZ (ziv I) N M p f,λFb Hb F H ρ σ E C k=>?_⟩
 unfold zgu at k
 cases h:(vEv m s ρ).bind λd=>(u (visG ρ)).bind λy=>zoJ ρ i y d with
 | none=>rw[h]at k;exact k.elim
 | some ρ' =>
  rw[h]at k
  obtain⟨d,U,c⟩:=u4.mp h
  obtain⟨y,L,c⟩:=u4.mp c
  unfold zoJ at c
  split at c
  .rename_i tt B Z f
   obtain⟨kk,T,n⟩:=u4.mp c
   have A:decide (B.length < sizeLine)=true:=by
    cases hh:decide (B.length < sizeLine) with
    | true=>rfl
    | false=>rw[hh,t9 u7]at n;cases n
   rw[t6 A]at n
   cases n
   refine r.at C U λF' H' v g K=>?_
   have b:=C.grow g
   obtain⟨q,o,x,_⟩:=b.ows i _ f rfl
   refine⟨_,x,?_⟩
   refine S σ _ _ H' _ _ b.gh b.visG L λF3 H3 v3 G w=>?_
   obtain⟨z,_⟩:=b.back G
   have l:=b.grow z
   obtain⟨Y,o3,j,_,_,J,xs,V,O⟩:=l.ows i _ f rfl
   rw[x]at j
   cases j
   obtain⟨o',Q,hw⟩:=zog J V O T w G.fh (K.mono z.ff) (j2 A)
   exact⟨q,_,rfl,Q,k _ _ σ (l.mutW f rfl x hw)⟩
  .cases c
end
end
end Dl
namespace Dl
open PySem L2
variable [KK]
section
variable {X:Cx}
def rNeL:R2:=λx y H Q=>∃ F a b,yU F H/\At F (.lst a) x/\At F (.lst b) y/\okE 20 (.lst a)=true/\okE 20 (.lst b)=true/\Q (.bl (!eqN 20 (.lst a) (.lst b))) H
theorem zqc {k:Nat}(G:ww k X.A):OpR X (compareOp .NotEq) rNeL:=by
 intro D s σ H x y v u Q I l n h
 obtain⟨F,a,b,o,M,J,S,L,q⟩:=h
 have m:X.A.units+30 < cLine:=by have:=G.un;omega
 obtain⟨p,Y,rfl,K,B⟩:=M.lst_inv
 obtain⟨V,T,rfl,P,bl⟩:=J.lst_inv
 cases l
 cases n
 obtain⟨t,r,w,W⟩:=I.list (SqL.of (o _ _ K))
 obtain⟨i,z,g,R⟩:=I.list (SqL.of (o _ _ P))
 have d:t.toArray.size=a.length:=by rw[t5,<- r.length,B.length]
 have f:i.toArray.size=b.length:=by rw[t5,<- z.length,bl.length]
 have C:eqN 20 (.lst a) (.lst b)=((List.range (min a.length b.length)).all (λj=>eqN 19 (a.getD j .non) (b.getD j .non))&&a.length == b.length):=by
  show((List.zipWith (eqN 19) a b).all id&&a.length == b.length)=_
  rw[zbh]
 by_cases c:a.length=b.length
 .refine SeqAt.RcNeAt.lists (e:=λj=>eqN 19 (a.getD j .non) (b.getD j .non)) w.isList g.isList (by rw[d,f];exact c) (j9 (u0X _ 30) m) (λj A E=>?_) _ _ _ _ ⟨.bl _,H,I,rfl,?_⟩
  .obtain⟨U,O,l⟩:=B.nth r (j:=j) (by simpa using A)
   obtain⟨Z,N,n⟩:=bl.nth z (j:=j) (by simpa using E)
   exact zcb I o 19 (wH S (by rw[<-d];exact A)) (wH L (by rw[<-f];exact E)) O N (by simpa using l) (by simpa using n) (j9 (show X.A.units+20<=X.A.units+30 from u0y (by decide) _) m)
  .rw[d]
   rw[C,<- c,u21]at q
   simpa using q
 .refine SeqAt.RcNeAt.lists_lengths w.isList g.isList (by rw[d,f];simpa using c) (j9 (u0X _ 30) m) _ _ _ _ ⟨.bl _,H,I,rfl,?_⟩
  have:(a.length == b.length)=false:=by simpa using c
  rw[C,this,m9]at q
  exact q
end
def zlk:D->D->Option D
 | .lst ds,.lst es=>if (okE 20 (.lst ds)&&okE 20 (.lst es))=true then some (.bl (!eqN 20 (.lst ds) (.lst es)))else none
 | _,_=>none
theorem znX:OpD rNeL zlk:=by
 intro F H x y d e z Q s c f a q
 unfold zlk at a
 split at a
 .split at a <;> cases a
  rename_i b
  rw[j3]at b
  exact⟨F,_,_,s,c,f,b.1,b.2,q F H _ (.refl s) .bl⟩
 .cases a
end Dl
namespace L2
open PySem PySem.Spec PyProof.Rows
section
variable {prog:Program}{w:World}{A:Around}{E:Value->Shared->Prop}{s:Shared}{d it:Addr}{o:Obj}{es:Array DictEntry}{ep i:Nat}
theorem raw_iter {Q:Value->Shared->Prop}(e:(d == sysModules)=false)(b:s.heap.get? d=some o)(g:o.ExactDict)(c:o.data=.dict es ep)
 (f:Q (.ref s.heap.objs.size) { s with heap:=s.heap.push { cls:=.type "dict_keyiterator",data:=.fields #[.ref d,.int 0 0,.int es.size 0,.int ep 0] } }):wpAny (model prog w) A (pyIter (.ref d)) Q E s:=by
 have a:s.TypeIs (.ref d) "dict":=⟨o,b,g.1⟩
 refine u2F a PySem.F.slot_dict_iter (o7 PySem.F.slot_dict_iter a PySem.F.entry_dict_iter ?_ (PySem.F.args_dict_iter_1 _))
 unfold Builtin.«dict.__iter__»
 refine u0 ?_
 unfold Builtin.Dict.dictSlotNone
 refine u0 (wpAny_notOrdered_dict a ?_)
 show wpAny _ _ (pure (Value.ref d)) _ _ s
 refine u6 ?_
 show wpAny _ _ (Builtin.Dict.showsAll d>>=_) _ _ s
 unfold Builtin.Dict.showsAll
 rw[t9 (by rw[e];exact u7)]
 refine u0 (u6 (u0 (u1x b c (u0 (wpAny_dictEpoch b c ?_)))))
 refine u0 (n6 (u6 ⟨_,rfl,"dict_keyiterator",_,⟨_,q2 _ rfl,rfl⟩,p6.lookup,?_⟩))
 simpa [rawInt]using f
theorem raw_next {e:DictEntry}{Q:Option Value->Shared->Prop}(a:s.heap.IsKeyIter it d i es.size ep)(k:s.heap.get? d=some o)(l:o.data=.dict es ep)(n:es[i]?=some e)
 (m:∀ j,j.IsKeyIter it d (i+1) es.size ep->Heap.SameBut it s.heap j->Q (some e.key) { s with heap:=j }):wpAny (model prog w) A (pyNext (.ref it)) Q E s:=by
 obtain⟨p,f,h,b⟩:=id a
 unfold pyNext
 refine u0 (u0p (o0 (name:=Str.ofString "__next__") a.typeIs p6
  (o7 p6 a.typeIs u00 ?_ (u0U _))))
 refine u0 (u6 ?_)
 refine u0 ?_
 refine u0 ?_
 first | refine u0 (u0a a.typeIs (u6 ?_)) | refine u0 (u0w a.typeIs (u6 ?_))
 refine u0 (u2r f b ?_)
 have g:Builtin.Dict_items.ownsTuple "dict_keyiterator"=false:=by decide
 simp only[g,u0o,u1S]
 show wpAny _ _ (if (Value.ref d == Value.none)=true then _ else _) _ _ s
 rw[t9 (show ¬ ((Value.ref d == Value.none)=true)from u7)]
 refine u0 (u6 (u0 (u1x k l ?_)))
 rw[t9 (by simp)]
 refine u0 (u6 (u0 (wpAny_dictEpoch k l ?_)))
 rw[t9 (by simp)]
 refine u6 ?_
 simp only[show ¬ ((i:Int) < 0)from by omega,u1S,o4,n]
 refine u0 ?_
 first | refine u0 (u0a a.typeIs (u6 ?_)) | refine u0 (u0w a.typeIs (u6 ?_))
 refine u0 (wpAny_isOneOf_keyiter a.typeIs ?_)
 show wpAny _ _ (setField (.ref it) 1 (rawInt ((i:Int)+1))>>=_) _ _ s
 refine u0 (u2s f b (by simp) ?_)
 have c:(s.heap.update it (Obj.mapFields (·.setIfInBounds 1 (rawInt ((i:Int)+1))))).IsKeyIter it d (i+1) es.size ep :=
  ⟨_,k9 _ f (Obj.isFreed_of_fields (u1g b _)),(Obj.cls_mapFields ..).trans h,by rw[u1g b];simp[rawInt]⟩
 refine u0 (r6 ?_)
 refine u0 (wpAny_isOneOf_keyiter (s:={ s with heap:=s.heap.update it (Obj.mapFields (·.setIfInBounds 1 (rawInt ((i:Int)+1)))) }) c.typeIs ?_)
 show wpAny _ _ (pure e.key) _ _ _
 exact u6 (u6 ⟨_,rfl,u6 (m _ c (u0d ..))⟩)
theorem raw_end {Q:Option Value->Shared->Prop}(hh:A.handled=none)(c:s.heap.IsKeyIter it d i es.size ep)(h:s.heap.get? d=some o)(j:o.data=.dict es ep)(p:es.size<=i)
 (l:∀ k,Heap.ExtBut it s.heap k->Q none { s with heap:=k }):wpAny (model prog w) A (pyNext (.ref it)) Q E s:=by
 obtain⟨q,g,n,f⟩:=id c
 unfold pyNext
 refine u0 (u0p (o0 (name:=Str.ofString "__next__") c.typeIs p6
  (o7 p6 c.typeIs u00 ?_ (u0U _))))
 refine u0 (u6 ?_)
 refine u0 ?_
 refine u0 ?_
 first | refine u0 (u0a c.typeIs (u6 ?_)) | refine u0 (u0w c.typeIs (u6 ?_))
 refine u0 (u2r g f ?_)
 have e:Builtin.Dict_items.ownsTuple "dict_keyiterator"=false:=by decide
 simp only[e,u0o,u1S]
 show wpAny _ _ (if (Value.ref d == Value.none)=true then _ else _) _ _ s
 rw[t9 (show ¬ ((Value.ref d == Value.none)=true)from u7)]
 refine u0 (u6 (u0 (u1x h j ?_)))
 rw[t9 (by simp)]
 refine u0 (u6 (u0 (wpAny_dictEpoch h j ?_)))
 rw[t9 (by simp)]
 refine u6 ?_
 simp only[show ¬ ((i:Int) < 0)from by omega,u1S,o4,Array.getElem?_eq_none p]
 refine u0 ?_
 first | refine u0 (u0a c.typeIs (u6 ?_)) | refine u0 (u0w c.typeIs (u6 ?_))
 show wpAny _ _ (setField (.ref it) 0 .none>>=_) _ _ s
 refine u0 (u2s g f (by simp) ?_)
 show wpAny _ _ (newExc (.type "StopIteration") []>>=_) _ _ _
 refine u0 ?_
 simp only[newExc,newTuple]
 refine u0 (n6 ?_ (by size_fits))
 refine u0 (m:=firstArgMember _ _) (u0J (a:=Value.none) (by first | rfl | (simp only[firstArgMember];rfl)) ?_)
 refine n6 ?_ (by size_fits)
 simp only[raiseNew]
 refine u0 (wpAny_handled ?_)
 rw[show A.in1.handled=none from hh]
 refine u0 (u6 (wpAny_throw ?_))
 refine u0 (u0Y (T:="StopIteration") (b:=true) ⟨_,q2 _ rfl,rfl⟩ isSubtype_stop ?_)
 exact u6 (l _ (((u0d ..).extBut.push _).push _))
end
def zpz:HO->Nat
 | .dK a=>a.length
 | .dT a=>a.length
 | _=>0
def zdW (u:HO):Prop:=(∃ a,u=.dK a)\/∃ a,u=.dT a
def zpK (H:Hp)(u:HO)(i:Nat)(x:V):Prop:=match u with
 | .dK a=>∃ p,a[i]?=some p/\x=kV p.1
 | .dT a=>∃ p b,a[i]?=some p/\x=.ref b/\H b=some (.tup (p.1.map kV))
 | _=>False
theorem zqP {P:Program}{w:World}{k:Key}{v:Value}(h:(xu P w).is k v=true):xt (kV k) v:=by
 rcases yH h with ⟨i,t,rfl,rfl⟩ | ⟨x,t,rfl,rfl⟩
 .exact⟨t,rfl⟩
 .exact⟨t,rfl⟩
structure DObj (H:Hp) (a:Addr) (ob:Obj) (u:HO) (es:Array DictEntry) (ep:Nat):Prop where
 sys:(a == sysModules)=false
 exact_:ob.ExactDict
 data:ob.data=.dict es ep
 size:es.size=zpz u
theorem zed {P:Program}{w:World}{H:Hp}{h:Heap}{a:Addr}{F:Obj}{u:HO}(ok:yJ P w H h a (.frz F u))(O:zdW u):h.get? a=some F/\∃ c n,DObj H a F u c n/\∀ (i:Nat) (e:DictEntry),c[i]?=some e->∃ x,xt x e.key/\zpK H u i x:=by
 obtain⟨D,ok⟩:=ok
 rcases O with ⟨b,rfl⟩ | ⟨b,rfl⟩
 .obtain⟨_,d,s,E,o,c,n,C,ex,G,W,y,T⟩:=ok
  rw[D]at C
  cases C
  have I:c.size=s.length:=by rw[<-y.length];simp
  refine⟨D,c,n,⟨d,ex,G,by rw[I,<- E.length];rfl⟩,λi e z=>?_⟩
  have g:i < b.length:=by
   have:=(u0j.mp z).1
   rw[E.length];omega
  have L:i < s.length:=by rw[<-E.length];exact g
  have f:=y.get? (i:=i) (e:=e) (k:=s[i].1) (v:=s[i].2) (by simpa using z) (by simp[L])
  have R:b[i].1=s[i].1:=by
   have:=i6 (λl=>l[i]?) E.keys
   simp only[j1]at this
   rw[q1 g,q1 L]at this
   exact n8 this
  exact⟨kV b[i].1,by rw[R];exact zqP f.1,b[i],q1 g,rfl⟩
 .obtain⟨_,d,A,y,o,c,n,C,ex,G,z,T⟩:=ok
  rw[D]at C
  cases C
  have I:c.size=A.length:=by rw[<-r8,z,u8]
  have S:=u1Q y
  refine⟨D,c,n,⟨d,ex,G,by rw[I,<- S];rfl⟩,λi e B=>?_⟩
  have K:i < A.length:=by
   have:=(u0j.mp B).1
   omega
  have g:i < b.length:=by omega
  have U:e=entryOfKey (tupleKind (xu P w)) A[i]:=by
   have:c.toList[i]?=some e:=by simpa using B
   rw[z,j1,q1 K]at this
   exact(n8 this).symm
  have J:∀ {l:List (List Key × V)} {m:List (List Key × Addr × Value)},Paired (λp q=>p.1=q.1/\H q.2.1=some (.tup (p.1.map kV))/\xt p.2 q.2.2) l m->∀ (j:Nat) (f:j < l.length) (M:j < m.length),l[j].1=m[j].1/\H m[j].2.1=some (.tup (l[j].1.map kV)):=λ{l m} r=>by
   induction r with
   | nil=>intro j f;simp at f
   | cons h t N =>
    intro j f M
    cases j with
    | zero=>exact⟨h.1,h.2.1⟩
    | succ j=>exact N j (by simpa using f) (by simpa using M)
  obtain⟨_,Q⟩:=J y i g K
  subst U
  exact⟨.ref A[i].2.1,rfl,b[i],A[i].2.1,q1 g,rfl,Q⟩
def Itf (a:Addr)(b:Obj)(u:HO):It :=
 ⟨λi H=>H a=some (.frz b u)/\i < zpz u,λi H x H'=>H'=H/\zpK H u i x,λi H=>H a=some (.frz b u)/\zpz u<=i⟩
theorem zgD {P:Program}{w:World}{K:W.Frag}{tg:Expr}{a it:Addr}{ob:Obj}{u:HO}{es:Array DictEntry}{ep:Nat}(hu:zdW u)(hn:es.size=zpz u)(hd:ob.data=.dict es ep):zov P w K tg (Itf a ob u) [it] it (λi h=>h.IsKeyIter it a i es.size ep) where
 mem:=by simp
 obj:=λi h st b hb=>by
  have e:b=it:=by simpa using hb
  subst e
  obtain⟨o,e,c,d⟩:=st
  exact⟨o,e,λv z=>by rw[d]at z;cases z⟩
 keep:=λi h h' st k=>by
  obtain⟨o,e,r⟩:=st
  exact⟨o,k it (by simp) o e,r⟩
 item:=by
  intro X hP hw hK hc i pins s σ H E I hf st hg
  subst hP hw hK
  obtain⟨e1,hi⟩:=hg
  obtain⟨e0,es',ep',D,ky⟩:=zed (I.hok a _ e1) hu
  have e2:=D.data
  rw[hd]at e2
  cases e2
  obtain⟨f0,f1,f2,f3,f4,f5⟩:=hf it (by simp)
  have hlt:i < es.size:=by omega
  obtain⟨x,rx,kx⟩:=ky i es[i] (p7 hlt)
  refine raw_next st e0 hd (p7 hlt) λh' st' sb=>?_
  have I1:Inv X pins σ H { s with heap:=h' }:=I.turned (t':=s.toks) (λb o hb e=>(sb.2 b hb).trans e) f0 f1 f3 f4 f5
  obtain⟨o,e,c,d⟩:=id st'
  exact⟨_,rfl,zkL (s:={ s with heap:=h' }) e c d (by decide) ⟨x,H,I1,rx,⟨rfl,kx⟩,st',λb hb=>(hf b hb).1⟩⟩
 done:=by
  intro X hP hw hK hc i pins s σ H E I hf st hg
  subst hP hw hK
  obtain⟨e1,hi⟩:=hg
  obtain⟨e0,es',ep',D,ky⟩:=zed (I.hok a _ e1) hu
  obtain⟨f0,f1,f2,f3,f4,f5⟩:=hf it (by simp)
  exact raw_end (I.ok.hd hc) st e0 hd (by omega) λh' eb=>⟨rfl,I.turned (t':=s.toks) (λb o hb e=>eb b o hb e) f0 f1 f3 f4 f5⟩
 self:=λ_ _ _ _ _ st h=>wpAny_pyIter_keyiter st h
section
variable {X:Cx}{tg:Expr}
def zrP (c:TE):TI:=fun σ H R=>c σ H λx H1=>∃ a b u,x=.ref a/\H1 a=some (.frz b u)/\zdW u/\R (Itf a b u) H1
theorem zmE {l:Expr}{f:TE}(i:PE X l f):PI X tg l (zrP f):=by
 intro c s σ H R I h
 refine thn (i c s σ H _ I h) λv d hh9=>?_
 obtain⟨x,H1,I1,n,m⟩:=hh9
 obtain⟨a,r,u,e,k,g,q⟩:=m
 subst e
 cases n
 obtain⟨j,t,w,D,_⟩:=zed (I1.hok a _ k) g
 refine raw_iter D.sys j D.exact_ D.data ?_
 refine⟨d.heap.objs.size,[d.heap.objs.size],_,_,H1,rfl,I1.kept (t':=d.toks) λb o e=>u5 _ e,zgD g D.size D.data,⟨_,q2 _ rfl,rfl,rfl⟩,λb p=>?_,q⟩
 have e:b=d.heap.objs.size:=by simpa using p
 subst e
 exact I1.fpOk (t4 _) (I1.hok.fresh (t4 _))
theorem Inv.frz {a:List (Addr × Obj)}{σ:St}{H:Hp}{s:Shared}{p:Addr}{u:HO}(I:Inv X a σ H s)(e:H p=some u)(i:zdW u):∃ l,Inv X a σ (upd H p (.frz l u)) s:=by
 have ok:=I.hok p u e
 have k:Mut (H p):=by
  rw[e]
  rcases i with ⟨f,rfl⟩ | ⟨f,rfl⟩ <;> exact True.intro
 rcases i with ⟨f,rfl⟩ | ⟨f,rfl⟩
 .obtain⟨z,c,n,m,o,h,g,d,r⟩:=ok
  refine⟨o,I.write (h':=s.heap) (t':=s.toks) k (.inl rfl) (λb u _ e=>e) ⟨o,d⟩ ⟨d,z,c,n,m,o,h,g,d,r⟩⟩
 .obtain⟨z,c,t,q,o,h,g,d,r⟩:=ok
  refine⟨o,I.write (h':=s.heap) (t':=s.toks) k (.inl rfl) (λb u _ e=>e) ⟨o,d⟩ ⟨d,z,c,t,?_,o,h,g,d,r⟩⟩
  exact KT.keeps q λb v j=>by
   rw[zu (zop j e (λz=>nomatch z))]
   exact j
def tFrz (i:Nat)(t:TS):TS:=λE σ H=>∃ p u,σ[i]?=some (some (.ref p))/\H p=some u/\zdW u/\∀ a,t E σ (upd H p (.frz a u))
theorem znx {a:List Stmt}{t:TS}(i:Nat)(h:PSs X a t):PSs X a (tFrz i t):=by
 intro b s σ H E I q
 obtain⟨p,u,_,e,d,q⟩:=q
 obtain⟨c,I2⟩:=I.frz e d
 exact h b s σ _ E I2 (q c)
def zmh (z:Bool)(a c:TE):TE:=fun σ H Q=>∀ p,H p=none->a σ (upd H p (.dT [])) λx H1=>c σ H1 λy H2=>H2 p=some (.dT [])/\∃ b k,x=.ref b/\H2 b=some (.tup (k.map kV)) /\
 if z=true then ∀ d,Q (.ref p) (upd H2 p (.frz d (.dT [(k,y)])))else Q (.ref p) (upd H2 p (.dT [(k,y)]))
theorem zli {z:Bool}{k v:Expr}{j:Pos}{m n:TE}(F:X.A.units+1 < cLine)(P:PE X k m)(N:PE X v n):PE X (.Dict [some k] [v] j) (zmh z m n):=by
 intro d s σ H Q I q
 have A:=I.hok.fresh (t4 s.heap.objs.size)
 have I1:=I.laid (a:=s.heap.objs.size) (o:=.dT []) (h':=s.heap.push { cls:=.type "dict",data:=.dict #[] }) (t':=s.toks) (λ_ _ q=>u5 _ q) (t4 _) (ze5 s.heap I.big)
 refine wpAny_Dict_any (by rfl) rfl (by simp) (by simp) ?_
 refine pairTrees_cons_walk (thn (P d _ σ _ _ I1 (q _ A)) λu O ⟨x,H1,I1,C,L⟩=>thn (N d O σ H1 _ I1 L) λw2 R hh9=>?_)
 obtain⟨y,H2,I2,U,f⟩:=hh9
 obtain⟨e,b,h,ex,w,f⟩:=f
 subst ex
 obtain rfl:u=Value.ref b:=C
 refine pairTrees_nil_walk ?_
 unfold storeAll
 simp only[u2Y,u2k]
 obtain⟨zz,G,Z,i,B⟩:=zqn I2.hok e
 cases i
 refine u0 (u0 (wpAny_dictSet_heap (hsz:=o5 _) (show(tupleKind (xu X.prog X.w)).room X.A from u2w F) (zad I2.hok w) B λM g E=>u6 (u6 ?_)))
 have V:=g
 obtain⟨q,W,D,r,T,J,S,_,K⟩:=g
 have I3:=zdb (t':=R.toks+(tupleKind (xu X.prog X.w)).draws h) (ob:=.dT [(h,y)]) I2 (by rw[e];exact True.intro) E ⟨q,r⟩ ⟨by show 1<=sizeLine;decide,G,_,((show KT H2 [] []from .nil).put h w U).keeps λc Y t=>by
  rw[zu (zop t e (λz=>nomatch z))]
  exact t,q,W,D,r,T,J,S,K⟩
 cases z with
 | false=>exact⟨.ref s.heap.objs.size,_,I3,rfl,by rw[t9 u7]at f;exact f⟩
 | true =>
  rw[t6 rfl]at f
  obtain⟨l,I4⟩:=I3.frz (p:=s.heap.objs.size) (u:=.dT [(h,y)]) zr (.inr ⟨_,rfl⟩)
  rw[zdu]at I4
  exact⟨.ref s.heap.objs.size,_,I4,rfl,f l⟩
end
end L2
namespace Dl
open PySem L2
def k1D:Key->D
 | .inl i=>.int i
 | .inr x=>.str x
def ze9 (t:Bool)(k:List Key):D:=if t=true then .tup (k.map k1D)else match k with
 | [a]=>k1D a
 | _=>.non
def WP:D->Option (List D)
 | .dct true t a _=>some (a.map (ze9 t))
 | _=>none
section
variable [KK]
theorem zlO {F:Hp}(k:Key):At F (k1D k) (kV k):=by
 cases k with
 | inl i=>exact .int
 | inr x=>exact .str
theorem ziq {F:Hp}:∀ a:List Key,AtL F (a.map k1D) (a.map kV)
 | []=>.nil
 | k::a=>.cons (zlO k) (ziq a)
theorem zc7 {u:HO}{t:Bool}{b:List (List Key)}{c:List V}(h:zbC u t b c):zdW u/\zpz u=b.length:=by
 unfold zbC at h
 cases t with
 | true=>rw[t6 rfl]at h;obtain⟨a,rfl,rfl,_⟩:=h;exact⟨.inr ⟨_,rfl⟩,by rw[u8];rfl⟩
 | false=>rw[t9 u7]at h;obtain⟨a,rfl,rfl,_⟩:=h;exact⟨.inl ⟨_,rfl⟩,by rw[u8];rfl⟩
theorem Gr.see {F H:Hp}{b:Addr}{c:List V}(s:yU F H)(h:H b=some (.tup c)):∃ F',Gr F H F' H/\F' b=some (.tup c):=by
 cases e:F b with
 | some o =>
  have:=s _ _ e
  rw[h]at this
  cases this
  exact⟨F,.refl s,e⟩
 | none =>
  refine⟨upd F b (.tup c),⟨λp o z=>?_,λp o z=>?_,λp o f d=>⟨?_,d⟩⟩,zr⟩
  .rw[zu (zo z e)];exact z
  .by_cases a:p=b
   .subst a;rw[zr]at z;cases z;exact h
   .rw[zu a]at z;exact s p o z
  .by_cases a:p=b
   .subst a
    rw[h]at d
    cases d
    exact .inr ⟨⟨_,rfl⟩,zr⟩
   .exact .inl (by rw[zu a];exact f)
theorem zo4 {F:Hp}{a:Addr}{o:Obj}{u:HO}{t:Bool}{q:List (List Key)}{w:List V}(h:F a=some (.frz o u))(c:zbC u t q w):zoK (Itf a o u) F (q.map (ze9 t)):=by
 intro i F2 H2 v l
 have s:=l _ _ (v _ _ h)
 obtain⟨_,r⟩:=zc7 c
 refine⟨λz=>⟨s,by rw[r,z,u8];exact t4 _⟩,λd f=>?_⟩
 rw[j1]at f
 obtain⟨k,e,rfl⟩:=u9.mp f
 refine⟨⟨s,by rw[r];exact(q0.mp e).1⟩,λx H3 j=>?_⟩
 obtain⟨rfl,j⟩:=j
 unfold zbC at c
 cases t with
 | true =>
  rw[t6 rfl]at c
  obtain⟨n,rfl,rfl,_⟩:=c
  obtain⟨p,b,m,rfl,A⟩:=j
  rw[j1,m]at e
  cases e
  obtain⟨F3,g,y⟩:=Gr.see l A
  exact⟨F3,g,.tup y (ziq _)⟩
 | false =>
  rw[t9 u7]at c
  obtain⟨n,rfl,rfl,_⟩:=c
  obtain⟨p,m,rfl⟩:=j
  rw[j1,m]at e
  cases e
  exact⟨F2,.refl l,zlO _⟩
section
variable {X:Cx}{tg a b e k v:Expr}{pos pos':Pos}{sts:List Stmt}
def zjX (f:Ev->Option D):Ev->Option (List D):=fun ρ=>(f ρ).bind WP
theorem zgS {f:Ev->Option D}(k:ED X a f):ID X tg a (zjX f):=by
 obtain⟨t,p,r⟩:=k
 refine⟨_,zmE p,fun σ ρ F H o R s j e q=>?_⟩
 obtain⟨d,m,c⟩:=u4.mp e
 refine r σ ρ F H d _ s j m λF1 H1 v g l=>?_
 unfold WP at c
 split at c
 .cases c
  obtain⟨p,n,rfl,⟨u,h,b⟩,_⟩:=l.dct_inv
  rw[t6 rfl]at b
  obtain⟨i,b⟩:=b
  exact⟨p,i,u,rfl,g.fh _ _ b,(zc7 h).1,q F1 H1 _ g (zo4 b h)⟩
 .cases c
def zqU (i:Nat)(g:SE->Ctl):SE->Ctl:=fun ρ=>match ρ[i]? with
 | some (.m t ks vs)=>g (ρ.set i (.v (.dct true t ks vs)))
 | _=>.no
theorem Rl.fzM {Fb Hb F H:Hp}{ρ:SE}{σ:St}{i:Nat}{t:Bool}{C:List (List Key)}{n:List D}(r:Rl Fb Hb F H ρ σ)(h:ρ[i]?=some (.m t C n)) :
 ∃ p u,σ[i]?=some (some (.ref p))/\H p=some u/\zdW u/\∀ a,Rl Fb Hb (upd F p (.frz a u)) (upd H p (.frz a u)) (ρ.set i (.v (.dct true t C n))) σ:=by
 obtain⟨p,u,I,e2,V,Z,X,J,Y⟩:=r.ows i _ h rfl
 refine⟨p,u,I,Z,(zc7 J).1,λa=>?_⟩
 have O:i < ρ.length:=(q0.mp h).1
 have l:yU F (upd F p (.frz a u)):=λb o e=>by rw[zu (zo e V)];exact e
 have B:∀ {j:Nat} {s:Sl},(ρ.set i (.v (.dct true t C n)))[j]?=some s->s.isO=true->i≠j:=λ{j s} h c e=>by
  subst e
  rw[n0 O]at h
  cases h
  cases c
 refine⟨⟨r.gr.ff.trans l,λb o z=>?_,λb o Q K=>?_⟩,λj d z=>?_,λj s z c=>?_,λj k q s S A G N L T W=>?_,by simp[r.len]⟩
 .by_cases f:b=p
  .subst f;rw[zr]at z ⊢;exact z
  .rw[zu f]at z ⊢;exact r.gr.fh b o z
 .have f:b≠p:=zo K e2
  obtain⟨x,y⟩:=r.gr.kp b o Q K
  refine⟨?_,by rw[zu f];exact y⟩
  unfold Hid
  rw[zu f]
  exact x
 .by_cases g:i=j
  .subst g
   rw[n0 O]at z
   cases z
   refine⟨_,I,?_⟩
   unfold At
   exact⟨p,X,rfl,⟨u,J,by rw[t6 rfl];exact⟨a,zr⟩⟩,Y.mono l⟩
  .rw[j0 g]at z
   obtain⟨v,m,E⟩:=r.vals j d z
   exact⟨v,m,E.mono l⟩
 .have g:=B z c
  rw[j0 g]at z
  obtain⟨q,y,m,E,f3,R,f5⟩:=r.ows j s z c
  have M:q≠p:=λw=>g (r.dis i j p _ s h z rfl c I (by rw[<-w];exact m))
  exact⟨q,y,m,E,by rw[zu M];exact f3,by rw[zu M];exact R,f5.mono l⟩
 .have U:=B A N
  have P:=B G L
  rw[j0 U]at A
  rw[j0 P]at G
  exact r.dis j k q s S A G N L T W
theorem zdF {g:SE->Ctl}(i:Nat)(h:SDs X sts g):SDs X sts (zqU i g):=by
 obtain⟨t,p,r⟩:=h
 refine⟨_,znx i p,λFb Hb F H ρ σ E c k=>?_⟩
 unfold zqU at k
 split at k
 .rename_i n l m b
  obtain⟨q,u,e,j,f,d⟩:=c.fzM b
  exact⟨q,u,e,j,f,λa=>r Fb Hb _ _ _ σ E (d a) k⟩
 .exact k.elim
theorem zjz {z:Bool}{j n:TE}{l k:Ev->Option D}{σ:St}{ρ:Ev}{F H:Hp}{f d:D}{c:List Key}{Q:VK}(E:RE j l)(w:RE n k)(s:yU F H)(r:VAt F ρ σ)(I:l ρ=some f)(J:k ρ=some d)(B:zjG f=some c)
 (q:∀ F2 H2 p y,Gr F H F2 H2->H p=none->F2 p=none->H2 p=some (.dT [])->At F2 d y->if z=true then ∀ u,Q (.ref p) (upd H2 p (.frz u (.dT [(c,y)])))else Q (.ref p) (upd H2 p (.dT [(c,y)]))):zmh z j n σ H Q:=by
 intro p h
 have m:=Gr.hide s h (.dT [])
 refine E σ ρ F _ f _ m.fh r I λF1 H1 x g A=>?_
 refine w σ ρ F1 H1 d _ g.fh (r.mono g.ff) J λF2 H2 y i v=>?_
 have a:=g.trans i
 obtain⟨G,t⟩:=a.kl (o:=.dT []) (λ_ e=>by cases e) (s.free h) zr
 obtain⟨b,rfl,C⟩:=zc9 B A
 exact⟨t,b,c,rfl,i.fh _ _ (i.ff _ _ C),q F2 H2 p y (m.trans a) h G t v⟩
def zlq (i:Nat)(c b:Ev->Option D):SE->Ctl:=fun ρ=>match (c (visF ρ)).bind λa=>(b (visF ρ)).bind λd=>(zjG a).map λk=>Sl.m true [k] [d] with
 | some s=>.nx (ρ.set i s)
 | none=>.no
theorem znD {n i:Nat}{x:Str}{j f:Ev->Option D}(u:ww n X.A)(O:X.N.Nodup)(R:X.N[i]?=some x)(B:Loc X.env.scope x)(M:ED X k j)(L:ED X v f){q:Pos}
 (C:swapsWith (.Dict [some k] [v] q) (some (.Name x pos')) pos.line X.env=pure false:=by rfl)
 (Q:X.fn x=true\/X.env.scope.names.lookup x=some .local:=by first | exact .inl rfl | exact .inr rfl | assumption):SD X (.Assign [.Name x pos'] (.Dict [some k] [v] q) pos) (zlq i j f):=by
 obtain⟨U,K,N⟩:=M
 obtain⟨V,pv,A⟩:=L
 refine⟨_,ZO O R B (zli (z:=false) (ziv u) K pv) C Q,λFb Hb F H ρ σ E c a=>?_⟩
 unfold zlq at a
 cases h:(j (visF ρ)).bind λm=>(f (visF ρ)).bind λd=>(zjG m).map λk=>Sl.m true [k] [d] with
 | none=>rw[h]at a;exact a.elim
 | some s =>
  rw[h]at a
  obtain⟨m,P,e⟩:=u4.mp h
  obtain⟨d,S,e⟩:=u4.mp e
  obtain⟨G,I,rfl⟩:=u9.mp e
  refine zjz (z:=false) N A c.gr.fh c.visF P S I λF2 H2 p y g l t W J=>?_
  rw[t9 u7]
  have T:Gr F H F2 (upd H2 p (.dT [(G,y)])):=by
   refine⟨g.ff,λb o z=>?_,λb o w r=>?_⟩
   .rw[zu (zo z t)];exact g.fh b o z
   .rw[zu (zo r l)];exact g.kp b o w r
  refine a F2 _ _ ((c.grow T).setW (c.notbase l) t zr ⟨[y],?_,.cons J .nil⟩ (c.notown l))
  unfold zbC
  rw[t6 rfl]
  exact⟨_,rfl,rfl,rfl⟩
end
end
end Dl
namespace L2
open PySem PySem.Spec PyProof.Rows
def zgz (X:Cx)(b:Str)(M:List Str)(a:Scope)(c:List (Str × Addr))(s₀:Shared)(H₀:Hp)(ex:List Addr)(pn:List (Addr × Obj)):Cx :=
 { X with N:=[b]++M,s₀:=s₀,H₀:=H₀,env:=compEnvC a ((b,s₀.heap.objs.size+1)::c) s₀.heap.objs.size X.env,outer:=X.stack,stack:=X.stack,ex:=ex,fn:=λy=>y == b,pn:=pn,xe:=λ_ _=>False }
structure YS (X:Cx) (x0:Str) (M:List Str) (scope:Scope) (cl:List (Str × Addr)):Prop where
 clos:closureFor scope X.env=pure cl
 laid:∀ n,cellsFrom n scope.names cl=(x0,n)::cl
 push:∀ h,pushCells h scope.names=h.push { cls:=.type "cell",data:=.cell none }
 kind:scope.kind=.function
 names:∀ y∈scope.names,y.2=.local->scope.names.lookup y.1=some .local
 sub:∀ y c,cl.lookup y=some c->X.env.cells.lookup y=some c
 has:∀ y,((relabel scope X.env).names.lookup y=some .cell\/(relabel scope X.env).names.lookup y=some .free)->y=x0\/∃ c,cl.lookup y=some c
 mlen:M.length=X.N.length
 ne:∀ (i:Nat) y,M[i]?=some y->Vis (relabel scope X.env) y->y≠x0
 msk:∀ (i:Nat) y,M[i]?=some y->Vis (relabel scope X.env) y->X.N[i]?=some y
 vis:∀ (i:Nat) y,M[i]?=some y->Vis (relabel scope X.env) y->((relabel scope X.env).names.lookup y=some .cell\/(relabel scope X.env).names.lookup y=some .free)
 out:∀ (i:Nat) y,M[i]?=some y->Vis (relabel scope X.env) y->Vis X.env.scope y/\X.env.kindOf y≠some .local
theorem Zk (b:Str)(a:Addr)(c:List (Str × Addr))(y:Str):((b,a)::c).lookup y=if y=b then some a else c.lookup y:=by
 rw[List.lookup_cons]
 by_cases h:y=b
 .rw[t6 h,show(y == b)=true from u0u.mpr h]
 .rw[t9 h,show(y == b)=false from p3.mpr h]
theorem za8 {M:Model} {A:Around} {E:Value->Shared->Prop} {s:Shared} {a:Scope} {b:Addr} {f:List (Str × Addr)} {c:Str} {env:Env} {j:Str} {Q:Env->Shared->Prop} (d:∀ n,cellsFrom n a.names f=(j,n)::f) (e:∀ h,pushCells h a.names=h.push { cls:=.type "cell",data:=.cell none })
 (l:Q (newEnv a s.heap.objs.size b ((j,s.heap.objs.size+1)::f) c none .none (some env) builtinsNs) { s with heap:=(s.heap.push { cls:=.type "dict",data:=.dict #[] }).push { cls:=.type "cell",data:=.cell none } }) :
 wpAny M A (newFunctionEnv a b f [] c none .none (some env)) Q E s:=by
 simp only[newFunctionEnv,Option.isSome_some,u2p]
 refine u0 (wpAny_alloc ?_)
 refine u0 (wpAny_layCells _ (λk kind g=>by cases i:kind == NameKind.cell <;> simp[i]) _ _ _ _ ?_)
 rw[d,e,show({ s with heap:=s.heap.push { cls:=.type "dict",data:=.dict #[] } }:Shared).heap.objs.size=s.heap.objs.size+1 from s0 ..]
 simp only[u2k]
 exact u0 (u6 (u6 l))
theorem zkz {use:Option (Value->Sem Unit)}{Qf:Value->Shared->Prop}{X:Cx}{b6 tg A:Expr}{b0:List Expr}{w:Str}{M:List Str}{a:Scope}{B:List (Str × Addr)}{c4:Pos}{wi:TI}{g:TG}{tt:TT}{te:TE}
 (hc:X.calm=true) (S:YS X w M a B) (hi:PI X tg A wi)
 (e6:∀ (σ:St) (v:V) (H:Hp) (Q:St->Hp->Prop),g v (List.replicate 1 none++σ) H Q->g v (List.replicate 1 none++σ) H (fun σ2 H2=>Zr (List.replicate 1 none++σ) σ2/\Q σ2 H2))
 (hg:∀ s₀ H₀ ex pn,PG (zgz X w M a B s₀ H₀ ex pn) tg g) (ht:∀ s₀ H₀ ex pn,PIf (zgz X w M a B s₀ H₀ ex pn) b0 tt) (he:∀ s₀ H₀ ex pn,PE (zgz X w M a B s₀ H₀ ex pn) b6 te)
 (hs:∀ x,foldedSetIterable A X.env x=pure x:=by intro _;rfl) :
 ∀ (a0:Pos) (j:List (Addr × Obj)) (s:Shared) (σ:St) (H:Hp) (Q:VK),Inv X j σ H s->tLC wi 1 g tt te σ H Q ->
  (∀ (D C:Addr) (H':Hp) (O:Shared),Inv X j σ H' O->(∃ m,O.heap.Ns C m)->zc3 X j H' C->Q (.ref D) H'->compPost (model X.prog X.w) X.A X.xe use Qf (.ref D) C (.ok .next) O) ->
  wpAny (model X.prog X.w) X.A (comprehension (.ListComp b6 [⟨tg,A,b0,0⟩] a c4) a X.env a0 (newList []) false (eval A X.env) use) Qf X.xe s:=by
 intro a0 j s σ H Q I h fin
 refine u07 (use:=use) rfl hs S.clos S.kind S.names (thn (hi j s σ H _ I h) λv s1 l=>thn l λf4 t F=>?_)
 obtain⟨it,P,tn,J,H2,e,I2,T,b9,f2,q⟩:=F
 subst e
 have hD:H2 t.heap.objs.size=none:=I2.hok.fresh (t4 _)
 obtain⟨W,⟨m0,w0⟩,turn⟩:=q _ hD
 refine n6 (za8 S.laid S.push ?_)
 have I3:Inv X j σ (upd H2 t.heap.objs.size (.lst [])) { t with heap:=t.heap.push { cls:=.type "list",data:=.seq ([]:List Value).toArray } }:=by
  refine I2.laid (t':=t.toks) (λb u e=>u5 _ e) (t4 _) ?_
  exact⟨o5 _,[],0,.nil,q2 _ rfl⟩
 generalize c5:({ t with heap:=t.heap.push { cls:=.type "list",data:=.seq ([]:List Value).toArray } }:Shared)=s3 at I3 ⊢
 generalize a8:(s3.heap.push { cls:=.type "dict",data:=.dict #[] }).push { cls:=.type "cell",data:=.cell none }=h₁
 have c9:h₁.Ns s3.heap.objs.size λ_=>none:=by
  rw[<-a8]
  exact(Heap.Ns.new s3.heap (.type "dict")).keeps λb o e=>u5 _ e
 have R:h₁.IsCell (s3.heap.objs.size+1) none:=by
  rw[<-a8]
  refine⟨{ cls:=.type "cell",data:=.cell none },?_,rfl⟩
  rw[<-show(s3.heap.push { cls:=.type "dict",data:=.dict #[] }).objs.size=s3.heap.objs.size+1 from s0 ..]
  exact q2 _ rfl
 have G:∀ b∈P,b < t.heap.objs.size:=λb f=>by
  obtain⟨o,ho,_⟩:=T.obj _ _ b9 b f
  exact t3 ho
 have c8:s3.heap.objs.size=t.heap.objs.size+1:=by rw[<-c5];exact s0 ..
 have e0:∀ b o,t.heap.get? b=some o->s3.heap.get? b=some o:=λb o e=>by rw[<-c5];exact u5 _ e
 have E:∀ b o,s3.heap.get? b=some o->h₁.get? b=some o:=λb o e=>by rw[<-a8];exact u5 _ (u5 _ e)
 generalize d8:upd H2 t.heap.objs.size (.lst [])=H3 at I3 w0
 have c1:∀ b∈P,H3 b=none:=λb f=>by
  rw[<-d8,zu (q5 (G b f))]
  exact(f2 b f).1
 have c3:∀ b∈P,b∉frs X.stack:=λb f z=>by
  obtain⟨_,n1,n2,_⟩:=f2 b f
  rcases q4.mp (I3.stkSub b z)with e | e
  .exact n1 e
  .exact n2 e
 let Y:Cx:=zgz X w M a B s3 H3 P (X.pn++j)
 have c0:∀ y c,B.lookup y=some c->c≠s3.heap.objs.size+1:=λy c e z=>by
  obtain⟨v,o,ho,_⟩:=I3.cell y c (S.sub y c e)
  have:=t3 ho
  rw[z]at this
  exact absurd this (Nat.not_lt.mpr (u0h _))
 have OkY:Y.Ok:=by
  refine⟨I.ok.mod,S.kind,I.ok.glob,I.ok.blt,t4 _,?inj,?has,?cab,I.ok.hd,I.ok.frames,.inl rfl,?exf,
   λb o e=>I3.bs b o e,k8 I.ok.bsz I3.sz,?noex,c3,I3.stack,I3.stkFree⟩
  case inj =>
   intro x y c l F
   have l:((w,s3.heap.objs.size+1)::B).lookup x=some c:=l
   have F:((w,s3.heap.objs.size+1)::B).lookup y=some c:=F
   rw[Zk]at l F
   by_cases ex:x=w
   .by_cases ey:y=w
    .rw[ex,ey]
    .rw[t6 ex]at l
     rw[t9 ey]at F
     exact absurd (n8 l) (c0 y c F).symm
   .rw[t9 ex]at l
    by_cases ey:y=w
    .rw[t6 ey]at F
     exact absurd (n8 F) (c0 x c l).symm
    .rw[t9 ey]at F
     exact I.ok.inj x y c (S.sub x c l) (S.sub y c F)
  case has =>
   intro x hx
   show ∃ c,((w,s3.heap.objs.size+1)::B).lookup x=some c
   rw[Zk]
   rcases S.has x hx with e | ⟨c,e⟩
   .rw[t6 e];exact⟨_,rfl⟩
   .split
    .exact⟨_,rfl⟩
    .exact⟨c,e⟩
  case cab =>
   intro x c hf l
   have l:((w,s3.heap.objs.size+1)::B).lookup x=some c:=l
   rw[Zk,t6 (u0u.mp hf)]at l
   cases l
   exact u0h _
  case exf =>
   refine λb f=>⟨?_,λx c e z=>?_⟩
   .show b≠s3.heap.objs.size
    exact q5 (t8 (G b f) (by rw[c8];exact u0h _))
   .have e:((w,s3.heap.objs.size+1)::B).lookup x=some c:=e
    rw[Zk]at e
    split at e
    .cases e
     have l:=G b f
     rw[c8]at z
     rw[<-z]at l
     exact absurd l (Nat.not_lt.mpr (k8 (u0h _) (u0h _)))
    .exact(f2 b f).2.2.2.2.1 x c (S.sub x c e) z
  case noex =>
   intro b o e f
   rcases(f2 b f).2.2.2.1 with z | z
   .exact I.ok.noex b o e z
   .have l:=t3 e
    have F:=I.ok.bsz
    exact absurd (t8 l (k8 F z)) (l7 _)
 have I4:Inv Y [] (List.replicate 1 none++σ) H3 { s3 with heap:=h₁ }:=by
  refine⟨OkY,rfl,I3.bare,Un.kept E,⟨_,c9,λi y v e1 e2 e3=>?_⟩,λx c e=>?_,I3.hok.fresh (t4 _),λx c e=>?freeC,λp hp=>?_,I3.hok.kept E,?_⟩
  .have hi:¬ i < 1:=λf3=>by
    rw[m6 (by simpa using f3),l5]at e2
    split at e2 <;> cases e2
   have K:M[i - 1]?=some y:=by
    have e1:([w]++M)[i]?=some y:=e1
    rw[p0 (show 1<=i by omega)]at e1
    exact e1
   have e4:σ[i - 1]?=some (some v):=by rw[p0 (by simpa using m4 hi)]at e2;simpa using e2
   have d7:=S.msk _ y K e3
   obtain⟨ov,ok⟩:=S.out _ y K e3
   obtain⟨m,hn,hl⟩:=I3.loc
   obtain⟨u,ru,lk⟩:=hl _ y v d7 e4 ov
   refine⟨u,ru,?_⟩
   rcases lk with ⟨hk,_⟩ | ⟨_,c,e8,b5⟩
   .exact absurd hk ok
   .have kn:=S.vis _ y K e3
    obtain⟨c',d4⟩:=(S.has y kn).resolve_left (S.ne _ y K e3)
    have:=S.sub y c' d4
    rw[e8]at this
    cases this
    refine .inr ⟨kn,c,(show((w,s3.heap.objs.size+1)::B).lookup y=some c by rw[Zk,t9 (S.ne _ y K e3)];exact d4),?_⟩
    obtain⟨o,ho,hd⟩:=b5
    exact⟨o,E _ _ ho,hd⟩
  .have e:((w,s3.heap.objs.size+1)::B).lookup x=some c:=e
   rw[Zk]at e
   split at e
   .cases e
    exact⟨_,R⟩
   .obtain⟨v,o,ho,hd⟩:=I3.cell x c (S.sub x c e)
    exact⟨v,o,E _ _ ho,hd⟩
  .have e:((w,s3.heap.objs.size+1)::B).lookup x=some c:=e
   rw[Zk]at e
   split at e
   .cases e
    exact I3.hok.fresh (u0h _)
   .exact I3.freeC x c (S.sub x c e)
  .have b4:p∈X.pn++j:=by simpa [Y,zgz]using hp
   obtain⟨a1,a2,a3,a4,a5⟩:=I3.pin p b4
   refine⟨E _ _ a1,a2,q5 (t3 a1),λz=>?_,a5⟩
   rcases q4.mp (I3.stkSub p.1 z)with e | e
   .exact a3 e
   .exact a4 e
  .show(List.replicate 1 none++σ).length=([w]++M).length
   rw[j4,j4,i8,I.len,S.mlen]
   rfl
 have b7:∀ {H':Hp},(∀ b∈P,H' b=none)->∀ b∈P,zc3 Y [] H' b:=λ{H'} hn b f=>by
  refine⟨hn b f,(OkY.exf b f).1,c3 b f,.inl f,(OkY.exf b f).2,λp hp=>?_⟩
  have b4:p∈X.pn++j:=by simpa [Y,zgz]using hp
  exact(f2 b f).2.2.2.2.2 p b4
 have c2:tn 0 h₁:=T.keep _ _ _ b9 λb f o e=>E b o (e0 b o e)
 -- behind the N
 have d1:∀ (H':Hp) (O:Shared),Inv Y [] (List.replicate 1 none++σ) H' O->Q (.ref t.heap.objs.size) H'->compPost (model X.prog X.w) X.A X.xe use Qf (.ref t.heap.objs.size) s3.heap.objs.size (.ok .next) O:=λH' O J' q'=>by
  obtain⟨m,hn,_⟩:=J'.loc
  refine fin _ _ H' O (I3.call' (ch:=P) J'.os J'.base J'.hok J'.bare λb f=>?_) ⟨m,hn⟩ (I3.fpOk (t4 _) J'.free) q'
  obtain⟨_,n1,_,n3,n4,n5⟩:=f2 b f
  exact⟨n3,n1,n4,n5⟩
 have N:codeAny (model X.prog X.w) X.A (.compLoop (.ListComp b6 [⟨tg,A,b0,0⟩] a c4) 0 (.ref it) (.ref t.heap.objs.size) (compEnvC a ((w,s3.heap.objs.size+1)::B) s3.heap.objs.size X.env))
  (compPost (model X.prog X.w) X.A X.xe use Qf (.ref t.heap.objs.size) s3.heap.objs.size) { s3 with heap:=h₁ }:=by
  refine wK (λn O=>∃ i U H',Inv Y [] (List.replicate 1 none++σ) H' O/\tn i O.heap/\(∀ b∈P,H' b=none)/\W i n U H') ?_ m0 ⟨0,[],H3,I4,c2,c1,w0⟩
  rintro n s5 ⟨i,U,H5,I5,c6,b8,w5⟩
  rcases turn i n U H5 w5 with ⟨d0,qn⟩ | ⟨go,c7,step⟩
  .refine thn (T.done Y rfl rfl rfl hc i [] s5 _ H5 _ I5 (b7 b8) c6 d0) λr s6 hh9=>?_
   obtain⟨hr,I6⟩:=hh9
   subst hr
   exact d1 H5 s6 I6 qn
  .refine thn (T.item Y rfl rfl rfl hc i [] s5 _ H5 _ I5 (b7 b8) c6 go) λr s6 hh9=>?_
   obtain⟨u,hr,h6⟩:=hh9
   subst hr
   refine thn h6 λ_ s7 hh9=>?_
   obtain⟨x,H7,I7,r7,y7,a9,d9⟩:=hh9
   have I7':=I7.pinned (b7 d9) (T.obj _ _ a9)
   have g7:=e6 σ x H7 _ (step x H7 y7)
   refine thn (hg _ _ _ _ _ s7 _ H7 x u _ I7' r7 g7) λ_ s8 hh9=>?_
   obtain⟨σ8,H8,I8,a6,q8⟩:=hh9
   have again:∀ {σ9:St} {H9:Hp} {s9:Shared} {zs:List V},Inv Y ([]++XH P s7.heap) σ9 H9 s9->Zr (List.replicate 1 none++σ) σ9->(∃ m',m' < n/\W (i+1) m' zs H9) ->
    ∃ m,m < n/\∃ i U H',Inv Y [] (List.replicate 1 none++σ) H' s9/\tn i s9.heap/\(∀ b∈P,H' b=none)/\W i m U H':=λ{σ9 H9 s9 zs} I9 sub9 w9=>by
    obtain⟨m',hm,w9⟩:=w9
    refine⟨m',hm,i+1,zs,H9,(I9.sub sub9).unpinned,T.keep _ _ _ a9 λb f o e=>(I9.pin (b,o) (k7 _ (k7 _ (wm f e)))).1,λb f=>?_,w9⟩
    obtain⟨o,e,d⟩:=T.obj _ _ a9 b f
    exact(I9.pin (b,o) (k7 _ (k7 _ (wm f e)))).2.1
   refine thn (ht _ _ _ _ _ s8 σ8 H8 _ I8 q8) λb s9 hh9=>?_
   obtain⟨H9,I9,q9⟩:=hh9
   cases b with
   | false =>
    rw[t9 u7]at q9
    rw[t9 u7]
    exact again I9 a6 q9
   | true =>
    rw[t6 rfl]at q9
    rw[t6 rfl]
    refine thn (he _ _ _ _ _ s9 σ8 H9 _ I9 q9) λy Z hh9=>?_
    obtain⟨yv,H10,I10,e5,a7,e9⟩:=hh9
    obtain⟨e7,L,k,rv,f1⟩:U.length<=sizeLine/\∃ (L:List Value) (n:Nat),yZ U L/\Z.heap.get? t.heap.objs.size=some { cls:=.type "list",data:=.seq L.toArray n }:=I10.hok _ _ a7
    have d2:Z.heap.PlainList t.heap.objs.size L.toArray:=⟨k,f1⟩
    refine wpAny_list_append_plain (hsz:=by rw[t5,<- rv.length];exact e7) d2 λf0 d6 d5=>?_
    obtain⟨k',d3⟩:=d6
    have I11:Inv Y ([]++XH P s7.heap) σ8 (upd H10 t.heap.objs.size (.lst (U++[yv]))) { Z with heap:=f0 }:=by
     refine I10.write (x:=t.heap.objs.size) (e:=t.heap.objs.size) (t':=Z.toks) (by rw[a7];exact True.intro) (.inl rfl) (λb u f e=>(d5.2 b f).trans e) ⟨_,d3⟩ ?_
     refine⟨by rw[j4];show U.length+1<=sizeLine;exact c7,L++[y],k',rv.append (.cons e5 .nil),?_⟩
     rw[d3]
     simp
    exact again I11 a6 e9
 exact codeAny_compStart_list N (T.self _ 0 _ _ _ c2 N)
theorem zpn {X:Cx}{c k b:Expr}{d:List Expr}{i:Str}{M:List Str}{a:Scope}{j:List (Str × Addr)}{l:Pos}{o:TI}{g:TG}{r:TT}{p:TE}
 (E:X.calm=true) (S:YS X i M a j) (z:PI X k b o)
 (n:∀ (σ:St) (v:V) (H:Hp) (Q:St->Hp->Prop),g v (List.replicate 1 none++σ) H Q->g v (List.replicate 1 none++σ) H (λt H2=>Zr (List.replicate 1 none++σ) t/\Q t H2))
 (F:∀ s₀ H₀ ex pn,PG (zgz X i M a j s₀ H₀ ex pn) k g) (A:∀ s₀ H₀ ex pn,PIf (zgz X i M a j s₀ H₀ ex pn) d r) (y:∀ s₀ H₀ ex pn,PE (zgz X i M a j s₀ H₀ ex pn) c p)
 (w:∀ x,foldedSetIterable b X.env x=pure x:=by intro _;rfl) :
 PE X (.ListComp c [⟨k,b,d,0⟩] a l) (tLC o 1 g r p):=by
 intro e s σ H Q I h
 rw[eval_ListComp]
 refine zkz E S z n F A y w _ e s σ H Q I h λD C H' G I' ⟨m,B⟩ f q=>⟨m,B,λJ u=>⟨.ref D,_,I'.letGo f u,rfl,q⟩⟩
def zat (names a b:List (Str × NameKind))(c:Str)(N M d:List Str):Bool :=
 names.all (λy=>decide (y.2=.local->names.lookup y.1=some .local)) &&
 a.all (λy=>decide ((y.2=.cell\/y.2=.free)->y.1=c\/y.1∈d)) &&
 (M.length == N.length)&&(M.zip N).all (λp=>decide ((a.lookup p.1=some .local\/a.lookup p.1=some .cell\/a.lookup p.1=some .free)->p.1=p.2)) &&
 M.all (λy=>decide ((a.lookup y=some .local\/a.lookup y=some .cell\/a.lookup y=some .free) ->
  y≠c/\(a.lookup y=some .cell\/a.lookup y=some .free)/\(b.lookup y=some .local\/b.lookup y=some .cell\/b.lookup y=some .free)/\b.lookup y≠some .local))
theorem zlR {X:Cx}{x0:Str}{N M o:List Str}{a:Scope}{d:List (Str × Addr)}{t x:List (Str × NameKind)}(f:(relabel a X.env).names=t)(s:X.env.scope.names=x)(u:X.N=N)
 (k:closureFor a X.env=pure d) (g:∀ n,cellsFrom n a.names d=(x0,n)::d) (j:∀ h,pushCells h a.names=h.push { cls:=.type "cell",data:=.cell none }) (kind:a.kind=.function) (A:d.map Prod.fst=o) (b:zat a.names t x x0 N M o=true) (q:∀ p∈d,X.env.cells.lookup p.1=some p.2):YS X x0 M a d:=by
 unfold zat at b
 simp only[j3,m7,j6]at b
 obtain⟨⟨⟨⟨G,w⟩,l⟩,D⟩,r⟩:=b
 have l:M.length=N.length:=by simpa using l
 refine⟨k,g,j,kind,G,λy c h=>q (y,c) (f8 h),λy h=>?_,by rw[u];exact l,λi y e v=>?_,λi y e v=>?_,λi y e v=>?_,λi y e v=>?_⟩
 .rw[f]at h
  have m:y=x0\/y∈o:=by
   rcases h with h | h
   .exact w _ (f8 h) (.inl rfl)
   .exact w _ (f8 h) (.inr rfl)
  exact m.imp id λm=>vj (by rw[A];exact m)
 .unfold Vis at v
  rw[f]at v
  exact(r y (k6 e) v).1
 .unfold Vis at v
  rw[f]at v
  have F:=(q0.mp e).1
  have z:i < N.length:=by rw[<-l];exact F
  have C:(M.zip N)[i]?=some (y,N[i]):=by
   rw[u2l]
   exact⟨e,q1 z⟩
  have:=D _ (k6 C) v
  rw[u,q1 z]
  exact i6 some this.symm
 .unfold Vis at v
  rw[f]at v ⊢
  exact(r y (k6 e) v).2.1
 .unfold Vis at v
  rw[f]at v
  obtain⟨_,_,E,B⟩:=r y (k6 e) v
  refine⟨?_,?_⟩
  .unfold Vis;rw[s];exact E
  .show X.env.scope.names.lookup y≠_;rw[s];exact B
end L2
namespace Dl
open PySem L2
variable [KK]
theorem zi6 {X:Cx}{e h d c:Expr}{x0:Str}{M:List Str}{a:Scope}{f:List (Str × Addr)}{j:Pos}{n:Ev->Option (List D)}{b:D->Option (List (Option D))}{m:Ev->Option Bool}{l:Ev->Option D}{g:TG}
 (q:X.calm=true) (S:YS X x0 M a f) (y:ID X h d n)
 (k:∀ (σ:St) (v:V) (H:Hp) (Q:St->Hp->Prop),g v (List.replicate 1 none++σ) H Q->g v (List.replicate 1 none++σ) H (λo H2=>Zr (List.replicate 1 none++σ) o/\Q o H2))
 (i:RB 1 g b)
 (s:∀ s₀ H₀ ex pn,PG (zgz X x0 M a f s₀ H₀ ex pn) h g) (p:∀ s₀ H₀ ex pn,TD (zgz X x0 M a f s₀ H₀ ex pn) c m) (w:∀ s₀ H₀ ex pn,ED (zgz X x0 M a f s₀ H₀ ex pn) e l)
 (r:∀ x,foldedSetIterable d X.env x=pure x:=by intro _;rfl):FL X (.ListComp e [⟨h,d,[c],0⟩] a j) (fLC n b m l):=by
 obtain⟨z,u,t⟩:=y
 exact⟨_,zpn q S u k s (λ_ _ _ _=>zdE (p _ _ _ _).can) (λ_ _ _ _=>(w _ _ _ _).can) r,zkl t i zjm zet⟩
end Dl
namespace PySem
open Sem (wp)
namespace OwnRev
theorem lri_slot_hint:Slot "list_reverseiterator" "__length_hint__" "list_reverseiterator.__length_hint__" :=
 .of (owner:="list_reverseiterator") (n:="__length_hint__") (by rw[u13,u0I];kernel_rfl) (by decide +kernel) (by decide +kernel) (by decide +kernel)
  (by first | exact .inl (by decide +kernel) | exact .inr (by decide +kernel)) (by rw[u2q];kernel_rfl)
theorem lri_no_len:typeLookup (.type "list_reverseiterator") "__len__"=pure none:=by rw[u13,u0I];kernel_rfl
theorem lri_sub_self:isSubtype (.type "list_reverseiterator") (.type "list_reverseiterator")=pure true:=by rw[u2q];kernel_rfl
end OwnRev
section
variable {prog:Program}{w:World}{A:Around}{E:Value->Shared->Prop}{s:Shared}
theorem zbN {I l:Addr}{i:Int}{Q:Bool->Shared->Prop}(d:s.heap.IsRevIter I l i)(e:Q false s):wpAny (model prog w) A (Builtin.List.listLengthHint (.ref I)) Q E s:=by
 have a:=d.typeIs
 unfold Builtin.List.listLengthHint
 refine u0 (u14 a OwnRev.lri_no_len ?_)
 try dsimp only
 show wpAny _ _ (if false=true then _ else (if false=true then _ else _)) _ _ _
 rw[t9 u7,t9 u7]
 refine u0 (u14 a OwnRev.lri_slot_hint.lookup ?_)
 try dsimp only
 have c:splitId "list_reverseiterator.__length_hint__"=some ("list_reverseiterator","__length_hint__"):=by decide +kernel
 rw[c]
 try dsimp only
 refine u0 (u0Y (T:="list_reverseiterator") (b:=true) a OwnRev.lri_sub_self ?_)
 rw[t9 (by decide)]
 show wpAny _ _ (if true=true then _ else _) _ _ _
 rw[t6 rfl,t9 (by decide)]
 exact u6 e
theorem zb5 {I l:Addr}{items:Array Value}{Q:Value->Shared->Prop}(hh:A.handled=none)(R:s.heap.IsRevIter I l ((items.size:Int) - 1))(P:s.heap.IsList l items)(M:l≠I)(J:items.size<=sizeLine)
 (X:∀ (g:Heap) (G V:Nat),(∀ b o,b≠I->s.heap.get? b=some o->g.get? b=some o) ->
  g.get? s.heap.objs.size=some { cls:=.type "list",dict:=none,data:=.seq items.toList.reverse.toArray G,slots:=#[] }->Q (.ref s.heap.objs.size) { s with heap:=g,toks:=V }) :
 wpAny (model prog w) A (call (.type "list") [.ref I]) Q E s:=by
 have y:I < s.heap.objs.size:=by obtain⟨o,K,_⟩:=R;exact t3 K
 have n:l < s.heap.objs.size:=by obtain⟨o,K,_⟩:=P;exact t3 K
 have f:s.heap.objs.size≠I:=u03 y
 have B:s.heap.objs.size∉[I,l]:=λj=>by
  rcases q4.mp j with h | h
  .exact f h
  .exact u03 n (t7.mp h)
 have W:=Walks.listRev (prog:=prog) (w:=w) (A:=A.in1.in1) hh I l M items
 have t:∀ a:Array Value,ItemsOf (λi v=>items[items.size - 1 - i]?=some v) a items.size->a=items.toList.reverse.toArray:=λa z=>by
  apply Array.ext'
  apply u0L
  intro i
  by_cases U:i < items.size
  .have x:a[i]?=some (a[i]'(by rw[z.1];exact U)):=p7 _
   have O:=z.2 i _ x
   show a.toList[i]?=items.toList.reverse[i]?
   rw[List.getElem?_reverse (by simpa using U)]
   simp only[u0n,r8]
   rw[x,O]
  .rw[g8 (by simp[z.1];omega),g8 (by simp;omega)]
 refine callType_codes (Q₁:=λp T=>p=.ref s.heap.objs.size/\T={ s with heap:=s.heap.push { cls:=.type "list",data:=.seq #[] } }) F.called_list (F.typeCall_list_1 _) F.entry_list_init
  (code_list_new _ ⟨rfl,rfl⟩) λp T h₁=>?_
 obtain⟨rfl,rfl⟩:=h₁
 have u:(s.heap.push { cls:=.type "list",data:=.seq #[] }).get? s.heap.objs.size=some { cls:=.type "list",data:=.seq #[] }:=q2 _ rfl
 refine⟨⟨_,u,rfl⟩,F.args_list_init_2 _ _,?_⟩
 show wpAny _ A.in1.in1 (do let old<-Builtin.List.listItems (.ref s.heap.objs.size);Builtin.List.listUpdate (.ref s.heap.objs.size) (λ_=>#[]);letGo old.toList.reverse;Builtin.List.listExtendWith (.ref s.heap.objs.size) (.ref I) .none) _ _ _
 refine u0 ?_
 unfold Builtin.List.listItems
 refine u0 (wpAny_seqItems u rfl (u6 ?_))
 show wpAny _ A.in1.in1 (updateSeq s.heap.objs.size (λ_=>#[])>>=λ_=>letGo (#[]:Array Value).toList.reverse>>=λ_=>Builtin.List.listExtendWith (.ref s.heap.objs.size) (.ref I) .none) _ _ _
 refine u0 (u1m u rfl ?_)
 have D:=k9 (Obj.mapSeq (λ_=>(#[]:Array Value))) u rfl
 have d:∀ b o,b≠s.heap.objs.size->s.heap.get? b=some o->((s.heap.push { cls:=.type "list",data:=.seq #[] }).update s.heap.objs.size (Obj.mapSeq (λ_=>(#[]:Array Value)))).get? b=some o :=
  λb o L e=>(r9 _ _ (u0b L)).trans (u5 _ e)
 refine u0 (wpAny_letGo ?_)
 have c:=R.at (h':=(s.heap.push { cls:=.type "list",data:=.seq #[] }).update s.heap.objs.size (Obj.mapSeq (λ_=>(#[]:Array Value)))) λo e=>d I o (u0b f) e
 have C:((s.heap.push { cls:=.type "list",data:=.seq #[] }).update s.heap.objs.size (Obj.mapSeq (λ_=>(#[]:Array Value)))).IsList l items:=P.at λo e=>d l o (q5 n) e
 unfold Builtin.List.listExtendWith
 refine u0 (u0x c.typeIs ?_)
 have Z:Builtin.List.listSameRef (.ref s.heap.objs.size) (.ref I)=false:=by simp[Builtin.List.listSameRef,f]
 have h2:(Value.type "list_reverseiterator" == Value.type "list")=false:=by decide
 have h3:(Value.type "list_reverseiterator" == Value.type "tuple")=false:=by decide
 simp only[Z,h2,h3,u2I,u0o,u1S]
 refine u0 (wpAny_pyIter_revIter c ?_)
 refine u0 (r6 (zbN c ?_))
 show wpAny _ A.in1.in1 (if false=true then _ else _) _ _ _
 rw[t9 u7]
 refine u6 ⟨u0N u1U _,u1L W.toS J _ B _ items.size 0 _ #[] _ rfl (o5 _) ⟨o5 _,?_,C⟩ D (ItemsOf.nil _) λY S G j m k=>?_⟩
 .have:(items.size:Int) - 1 - ((0:Nat):Int)=(items.size:Int) - 1:=by omega
  rw[this]
  exact c
 .refine⟨rfl,?_⟩
  rw[t _ k]at m
  obtain⟨g,g',d',N,H⟩:=Y
  have x:g'=s.gens:=j.gens
  have O:d'=s.drawn:=j.drawn
  have e3:H=s.os:=j.os
  subst x O e3
  refine X g G N (λb o L q=>j.heap b o (λr=>?_) (d b o (q5 (t3 q)) q)) m
  rcases q4.mp r with h | h
  .exact q5 (t3 q) h
  .exact L (t7.mp h)
end
end PySem
namespace L2
open PySem PySem.Spec PyProof.Rows
def tLR (K:W.Frag)(c:TE):TE:=fun σ H Q=>c σ H λx H1=>∃ a b,x=.ref a/\SqL K H1 a b/\∀ l,H1 l=none->Q (.ref l) (upd H1 l (.lst b.reverse))
theorem zfk {X:Cx} {a:Expr} {G:TE} {O k i c:Pos} (J:X.calm=true) (w:Gl X "list") (n:X.mg "list"=none) (u:bootBuiltins "list"=some (.type "list")) (A:Gl X "reversed") (y:X.mg "reversed"=none) (hb2:bootBuiltins "reversed"=some (.type "reversed")) (L:PE X a G)
 (C:starEach [a] X.env=[(false,eval a X.env)]:=by rfl) (j:starEach [.Call (.Name "reversed" k) [a] [] c] X.env=[(false,eval (.Call (.Name "reversed" k) [a] [] c) X.env)]:=by rfl):PE X (.Call (.Name "list" O) [.Call (.Name "reversed" k) [a] [] c] [] i) (tLR X.K G):=by
 intro f s σ H Q I h
 refine Call_ (Y9 I w n u (g5 (Q:=EP X f σ Q) ?_ j rfl))
 rw[j]
 show wpAny _ _ (spliced ((false,eval (.Call (.Name "reversed" k) [a] [] c) X.env)::[])) _ _ _
 refine u0B ?_
 refine Call_ (Y9 I A y hb2 (g5 ?_ C rfl))
 rw[C]
 show wpAny _ _ (spliced ((false,eval a X.env)::[])) _ _ _
 refine u0B (thn (L f s σ H _ I h) λv m hh9=>?_)
 obtain⟨x,H1,I1,R,P⟩:=hh9
 obtain⟨t,U,rfl,K,q⟩:=P
 cases R
 obtain⟨d,B,p,D⟩:=I1.list K
 have g:d.toArray.size<=sizeLine:=by rw[t5,<- B.length];exact D
 have N:t < m.heap.objs.size:=by
  obtain⟨o,S,_⟩:=p.isList
  exact t3 S
 refine u0K ?_
 refine call_reversed_list p.isList ?_
 refine u0K ?_
 refine zb5 (I:=m.heap.objs.size) (l:=t) (items:=d.toArray) (I.ok.hd J) ⟨_,q2 _ rfl,rfl,rfl⟩ (p.isList.at λo e=>u5 _ e) (q5 N) g λF E z T M=>?_
 have r:F.get? (m.heap.push (revObj t (((d.toArray.size:Nat):Int) - 1))).objs.size=some { cls:=.type "list",dict:=none,data:=.seq d.reverse.toArray E,slots:=#[] }:=M
 refine⟨.ref _,_,I1.laid (t':=z) (a:=(m.heap.push (revObj t (((d.toArray.size:Nat):Int) - 1))).objs.size) (λb o e=>T b o (q5 (t3 e)) (u5 _ e)) ?_ (show yJ X.prog X.w _ F _ (.lst U.reverse) from⟨by rw[List.length_reverse];exact D,d.reverse,E,B.reverse,r⟩),rfl,q _ (I1.hok.fresh ?_)⟩
 all_goals exact f6 (by rw[Heap.push];simp)
end L2
namespace Dl
open PySem L2 PySem.Spec PyProof.Rows
variable [KK]{X:Cx}{e:Expr}
def revD:D->Option (List D)
 | .lst a=>some a.reverse
 | _=>none
def fRev (f:Ev->Option D):Ev->Option (List D):=fun ρ=>(f ρ).bind revD
theorem zgf {B i c a:Pos} {f:Ev->Option D} (r:X.calm=true) (j:Gl X "list") (g:X.mg "list"=none) (m:Gl X "reversed") (k:X.mg "reversed"=none) (y:ED X e f)
 (x:starEach [e] X.env=[(false,eval e X.env)]:=by rfl) (n:starEach [.Call (.Name "reversed" i) [e] [] a] X.env=[(false,eval (.Call (.Name "reversed" i) [e] [] a) X.env)]:=by rfl) :
 FL X (.Call (.Name "list" B) [.Call (.Name "reversed" i) [e] [] a] [] c) (fRev f):=by
 obtain⟨t,u,E⟩:=y
 refine⟨_,zfk r j g zbp m k zd6 u x n,fun σ ρ F H z Q s C e q=>?_⟩
 obtain⟨d,I,o⟩:=u4.mp e
 refine E σ ρ F H d _ s C I λF1 H1 v b A=>?_
 unfold revD at o
 split at o <;> cases o
 obtain⟨p,G,rfl,w,bl⟩:=A.lst_inv
 exact⟨p,G,rfl,SqL.of (b.fh _ _ w),λl h=>q _ _ _ _ (b.trans (Gr.hide b.fh h _)) (zbJ b h) (b.fh.free h) zr bl.reverse⟩
end Dl
namespace OwnSet
open PySem
def ksOf (m:Nat):List Nat:=(List.range 8).filter λi=>m.testBit i
def tabOf (led:Bool)(a:List Nat):SetTable:={ mask:=if a.length<=4 then 7 else 31,place:=a.toArray,dummies:=#[],finger:=0,led:=led,moves:=if a.length<=4 then 0 else 1,plain:=true }
def Y6 (led:Bool)(a:List Nat)(k:Nat):SetTable:={ tabOf led a with place:=(a.filter (· < k)++k::a.filter (k < ·)).toArray }
theorem zjY:∀ (m:_root_.Fin 256) (k:_root_.Fin 8),m.val.testBit k.val=false->ksOf (m.val ||| 1 <<< k.val)=(ksOf m.val).filter (· < k.val)++k.val::(ksOf m.val).filter (k.val < ·):=by decide +kernel
theorem zgc:∀ (m:_root_.Fin 256) (k:_root_.Fin 8),m.val.testBit k.val=false->∀ led:Bool,(tabOf led (ksOf m.val)).freeSlot (k.val:Int)=some (k.val,false):=by decide +kernel
theorem zjD:∀ (m:_root_.Fin 256) (k:_root_.Fin 8),m.val.testBit k.val=false->∀ led:Bool,(tabOf led (ksOf m.val)).put k.val=(Y6 led (ksOf m.val) k.val,((ksOf m.val).filter (· < k.val)).length):=by decide +kernel
theorem zak:∀ (m:_root_.Fin 256) (k:_root_.Fin 8),m.val.testBit k.val=false->∀ led:Bool,(Y6 led (ksOf m.val) k.val).fits ((ksOf m.val).length+1)=true/\(Y6 led (ksOf m.val) k.val).tooFull=decide ((ksOf m.val).length=4):=by decide +kernel
theorem zhd:∀ (m:_root_.Fin 256) (k:_root_.Fin 8),m.val.testBit k.val=false->∀ led:Bool,(ksOf m.val).length≠4->Y6 led (ksOf m.val) k.val=tabOf led (ksOf (m.val ||| 1 <<< k.val)):=by decide +kernel
theorem zdj:∀ (m:_root_.Fin 256),(ksOf m.val).length=5->∀ (k:_root_.Fin 8) (led:Bool),((ksOf m.val).contains k.val)=true->(Y6 led ((ksOf m.val).filter (·≠k.val)) k.val).relaid ((ksOf m.val).map λi:Nat=>(i:Int)).toArray (SetTable.grown 5)=some (tabOf led (ksOf m.val),#[0,1,2,3,4]):=by decide +kernel
theorem WN:∀ (m:_root_.Fin 256) (i:_root_.Fin 9),i.val<=(ksOf m.val).length->SetTable.below (ksOf m.val).toArray (if i.val=0 then 0 else (ksOf m.val).getD (i.val - 1) 0+1)=i.val:=by decide +kernel
theorem V5:∀ (m:_root_.Fin 256) (k:_root_.Fin 8),m.val.testBit k.val=false->ksOf m.val=(ksOf m.val).filter (· < k.val)++(ksOf m.val).filter (k.val < ·)/\(ksOf m.val).all (λj=>decide (j≠k.val))=true/\(ksOf m.val).length<=7:=by decide +kernel
def esL (b:List Nat)(a:Nat->Tok):List (Int × Value):=b.map λk:Nat=>((k:Int),Value.int (k:Int) (a k))
def vv (b:List Nat)(a:Nat->Tok):Array (Int × Value):=(esL b a).toArray
theorem yW (a:List Nat)(b:Nat->Tok):(vv a b).size=a.length:=by unfold vv esL;rw[t5,u8]
def xb (h:Heap) (a:Addr) (led:Bool) (m:Nat):Prop:=∃ (b:Nat) (c:Nat->Tok),h.get? a=some { cls:=.type "set",dict:=none,data:=.set (vv (ksOf m) c) b (tabOf led (ksOf m)),slots:=#[] }
theorem zaY {α:Type}(a:List α)(p:Nat)(x:α):SetTable.insertAt a.toArray p x=(a.take p++x::a.drop p).toArray:=by
 unfold SetTable.insertAt
 apply Array.ext'
 simp
 exact u1n (by rw[u0V];exact t4 _)
theorem zpo {m k:Nat}(n:m < 256)(i:k < 8)(o:m.testBit k=false)(a:Nat->Tok)(b:Tok) :
 SetTable.insertAt (vv (ksOf m) a) ((ksOf m).filter (· < k)).length ((k:Int),Value.int (k:Int) b)=vv (ksOf (m ||| 1 <<< k)) (λj=>if j=k then b else a j):=by
 obtain⟨g,f,_⟩:=V5 ⟨m,n⟩ ⟨k,i⟩ o
 have l:=zjY ⟨m,n⟩ ⟨k,i⟩ o
 simp only at g f l
 have e:∀ d:List Nat,(∀ j∈d,j≠k)->esL d (λj=>if j=k then b else a j)=esL d a:=λd h=>by
  unfold esL
  exact u0Z λj c=>by show((j:Int),Value.int (j:Int) (if j=k then b else a j))=_;rw[t9 (h j c)]
 have q:∀ j∈(ksOf m).filter (· < k),j≠k:=λj c=>j2 (m7.mp f j (p9.mp c).1)
 have r:∀ j∈(ksOf m).filter (k < ·),j≠k:=λj c=>j2 (m7.mp f j (p9.mp c).1)
 generalize (ksOf m).filter (· < k)=A at *
 generalize (ksOf m).filter (k < ·)=B at *
 unfold vv
 rw[zaY,l,g]
 congr 1
 have p:A.length=(esL A a).length:=by unfold esL;rw[u8]
 rw[show esL (A++B) a=esL A a++esL B a from n9,p,List.take_left,List.drop_left]
 rw[show esL (A++k::B) (λj=>if j=k then b else a j)=esL A (λj=>if j=k then b else a j)++((k:Int),Value.int (k:Int) (if k=k then b else a k))::esL B (λj=>if j=k then b else a j)from n9,e _ q,e _ r,t6 rfl]
theorem zaG:∀ (m:_root_.Fin 256) (k:_root_.Fin 8),m.val.testBit k.val=false->(ksOf (m.val ||| 1 <<< k.val)).length=(ksOf m.val).length+1/\(ksOf (m.val ||| 1 <<< k.val)).filter (·≠k.val)=ksOf m.val/\(ksOf (m.val ||| 1 <<< k.val)).contains k.val=true/\(m.val ||| 1 <<< k.val) < 256:=by decide +kernel
theorem YK:∀ k:_root_.Fin 8,hashInt (k.val:Int)=(k.val:Int):=by decide +kernel
theorem YL:∀ (m:_root_.Fin 256) (led:Bool),(tabOf led (ksOf m.val)).fits (ksOf m.val).length=true:=by decide +kernel
theorem zcQ {m k:Nat}(b:m < 256)(a:k < 8)(c:m.testBit k=false)(led:Bool)(e:Nat->Tok)(i:Tok) :
 layNew (tabOf led (ksOf m)) (vv (ksOf m) e) (k:Int) (.int (k:Int) i)=(vv (ksOf (m ||| 1 <<< k)) (λj=>if j=k then i else e j),Y6 led (ksOf m) k,false,false):=by
 have h:=zgc ⟨m,b⟩ ⟨k,a⟩ c led
 have g:=zjD ⟨m,b⟩ ⟨k,a⟩ c led
 have d:=(zak ⟨m,b⟩ ⟨k,a⟩ c led).1
 have f:=(zaG ⟨m,b⟩ ⟨k,a⟩ c).1
 simp only at h g d f
 unfold layNew
 rw[h]
 dsimp only
 rw[g]
 dsimp only
 rw[zpo b a c,yW,f]
 unfold SetTable.orStandIn
 rw[t6 d,d]
 rfl
theorem zkM {α:Type}(a b c d e:α):(#[0,1,2,3,4]:Array Nat).filterMap (λi=>(#[a,b,c,d,e]:Array α)[i]?)=#[a,b,c,d,e]:=by
 simp[Array.filterMap]
theorem ziP {m k:Nat}(t:m < 256)(j:k < 8)(v:m.testBit k=false)(s:(ksOf m).length=4)(led:Bool)(f:Nat->Tok) :
 relayAll (Y6 led (ksOf m) k) (vv (ksOf (m ||| 1 <<< k)) f) (SetTable.grown (vv (ksOf (m ||| 1 <<< k)) f).size)=(vv (ksOf (m ||| 1 <<< k)) f,tabOf led (ksOf (m ||| 1 <<< k)),false):=by
 obtain⟨l,o,n,h⟩:=zaG ⟨m,t⟩ ⟨k,j⟩ v
 simp only at l o n h
 have g:(ksOf (m ||| 1 <<< k)).length=5:=by rw[l,s]
 have r:=zdj ⟨m ||| 1 <<< k,h⟩ g ⟨k,j⟩ led n
 have p:=YL ⟨m ||| 1 <<< k,h⟩ led
 simp only at r p
 rw[o]at r
 have q:(vv (ksOf (m ||| 1 <<< k)) f).map (·.1)=((ksOf (m ||| 1 <<< k)).map λi:Nat=>(i:Int)).toArray:=by
  unfold vv esL
  rw[List.map_toArray,i1]
  rfl
 unfold relayAll
 rw[yW,g,q,r]
 dsimp only
 have u:(#[0,1,2,3,4]:Array Nat).filterMap (λi=>(vv (ksOf (m ||| 1 <<< k)) f)[i]?)=vv (ksOf (m ||| 1 <<< k)) f:=by
  generalize ksOf (m ||| 1 <<< k)=ks at g
  match ks,g with
  | [a,b,c,d,e],_=>exact zkM _ _ _ _ _
 rw[u,yW,p]
 exact t6 (by decide +kernel)
section
variable {prog:Program}{w:World}{A:Around}{E:Value->Shared->Prop}{s:Shared}
theorem vB (prog:Program)(w:World){m:Nat}(b:Nat->Tok):ElemsOf (intKind prog w) (vv (ksOf m) b).toList:=λe a=>by
 unfold vv esL at a
 obtain⟨k,c,rfl⟩:=f9.mp a
 have d:k < 8:=l0.mp (p9.mp c).1
 exact⟨⟨(k:Int),u25 _ _ _ _,(YK ⟨k,d⟩).symm⟩,rfl⟩
theorem zfI {m k:Nat}(b:Nat->Tok)(f:m.testBit k=false):(vv (ksOf m) b).toList.findIdx? (λe=>(intKind prog w).is (k:Int) e.2)=none:=by
 refine u2j.mpr λe c=>?_
 unfold vv esL at c
 obtain⟨j,d,rfl⟩:=f9.mp c
 show(Value.int (j:Int) (b j)).isInt (k:Int)=false
 have a:j≠k:=λe=>by
  have:=(p9.mp d).2
  rw[e,f]at this
  cases this
 simp only[Value.isInt]
 first | exact p3.mpr (λe=>a (Int.ofNat.inj e)) | exact j5 (λe=>a (Int.ofNat.inj e)) | (simp;omega)
theorem zqQ {a:Addr}{m k:Nat}{led:Bool}{d:Tok}{Q:Bool->Shared->Prop}(l:m < 256)(i:k < 8)(o:m.testBit k=false)(F:xb s.heap a led m)
 (h:∀ v,Heap.SameBut a s.heap v->xb v a led (m ||| 1 <<< k)->Q true { s with heap:=v }) :
 wpAny (model prog w) A (setAddHashed a (.int (k:Int) d) (k:Int)) Q E s:=by
 obtain⟨H,b,t⟩:=F
 have z:=YL ⟨m,l⟩ led
 simp only at z
 have D:(tabOf led (ksOf m)).fits (vv (ksOf m) b).size=true:=by rw[yW];exact z
 have B:=(V5 ⟨m,l⟩ ⟨k,i⟩ o).2.2
 simp only at B
 have y:(vv (ksOf m) b).size < scanBound:=by rw[yW];exact j9 B (by decide)
 have p:=zak ⟨m,l⟩ ⟨k,i⟩ o led
 have e:=zaG ⟨m,l⟩ ⟨k,i⟩ o
 simp only at p e
 have g:(vv (ksOf (m ||| 1 <<< k)) (λj=>if j=k then d else b j)).size<=sizeLine:=by
  rw[yW,e.1,u0r]
  omega
 have G:(k:Int)=(intKind prog w).hash (k:Int):=(YK ⟨k,i⟩).symm
 unfold setAddHashed setAddHashedIn
 refine r6 (u0 (u2G t rfl D ?_))
 dsimp only
 rw[byScan_of (knd:=intKind prog w) (x:=.int (k:Int) d) rfl y (vB prog w b)]
 simp only[↓reduceIte]
 unfold setAddByScan
 refine u0 ?_
 refine u0 (u08 ?_)
 have f:=λ(Q':ScanMet->Shared->Prop) (q:Q' .absent s)=>wpAny_setScan_of (knd:=intKind prog w) (A:=A) (E:=E) (adding:=true) (Q:=Q') (x:=.int (k:Int) d) (k:=(k:Int)) (u25 _ _ _ _) t rfl D (vB prog w b) (by rw[zfI b o];exact q)
 rw[<-G]at f
 refine u0 (f _ ?_)
 dsimp only
 rw[zcQ l i o]
 dsimp only
 refine u0 (u6 ?_)
 rw[show(Y6 led (ksOf m) k).plain=true from rfl]
 simp only[↓reduceIte]
 refine u0 ?_
 rw[hashByValue_scannable 8 (show(Value.int (k:Int) d).scannable=true from rfl)]
 refine u6 ?_
 rw[show plainKind (Value.int (k:Int) d)=true from rfl]
 simp only[↓reduceIte]
 refine u0 (wpAny_storeSet_of t rfl ?_ g)
 have c:=k9 (Obj.putSet (vv (ksOf (m ||| 1 <<< k)) (λj=>if j=k then d else b j)) (Y6 led (ksOf m) k)) t rfl
 have n:=u0d s.heap a (Obj.putSet (vv (ksOf (m ||| 1 <<< k)) (λj=>if j=k then d else b j)) (Y6 led (ksOf m) k))
 rw[p.2]
 by_cases r:(ksOf m).length=4
 .rw[q7 r]
  simp only[Bool.not_false,Bool.and_self,↓reduceIte]
  rw[ziP l i o r]
  dsimp only
  refine u0 (u6 ?_)
  refine u0 (wpAny_storeSet_of c rfl ?_ g)
  have u:=k9 (Obj.putSet (vv (ksOf (m ||| 1 <<< k)) (λj=>if j=k then d else b j)) (tabOf led (ksOf (m ||| 1 <<< k)))) c rfl
  refine u6 ?_
  dsimp only
  exact u6 (h _ (n.trans (u0d _ a _)) ⟨_,_,u⟩)
 .rw[j5 r]
  simp only[Bool.not_false,m9,u0o,↓reduceIte]
  refine u6 ?_
  dsimp only
  have C:=zhd ⟨m,l⟩ ⟨k,i⟩ o led r
  simp only at C
  rw[C]at c n ⊢
  exact u6 (h _ n ⟨_,_,c⟩)
end
theorem zgU:∀ (m:_root_.Fin 256) (k:_root_.Fin 8),m.val.testBit k.val=true->m.val ||| 1 <<< k.val=m.val/\k.val∈ksOf m.val:=by decide +kernel
theorem zrA:∀ (m:_root_.Fin 256) (k:_root_.Fin 8),m.val ||| 1 <<< k.val < 256:=by decide +kernel
theorem len_small:∀ m:_root_.Fin 256,(ksOf m.val).length<=8:=by decide +kernel
section
variable {prog:Program}{w:World}{A:Around}{E:Value->Shared->Prop}{s:Shared}
theorem znH {a:Addr}{m k:Nat}{led:Bool}{g:Tok}{Q:Bool->Shared->Prop}(f:m < 256)(l:k < 8)(z:m.testBit k=true)(u:xb s.heap a led m)(h:Q false s) :
 wpAny (model prog w) A (setAddHashed a (.int (k:Int) g) (k:Int)) Q E s:=by
 obtain⟨B,c,r⟩:=u
 have o:=YL ⟨m,f⟩ led
 have n:=len_small ⟨m,f⟩
 have d:=(zgU ⟨m,f⟩ ⟨k,l⟩ z).2
 simp only at o n d
 have p:(tabOf led (ksOf m)).fits (vv (ksOf m) c).size=true:=by rw[yW];exact o
 have i:(vv (ksOf m) c).size < scanBound:=by rw[yW];exact j9 n (by decide)
 have y:(k:Int)=(intKind prog w).hash (k:Int):=(YK ⟨k,l⟩).symm
 obtain⟨j,v⟩:∃ j,(vv (ksOf m) c).toList.findIdx? (λe=>(intKind prog w).is (k:Int) e.2)=some j:=by
  cases t:(vv (ksOf m) c).toList.findIdx? (λe=>(intKind prog w).is (k:Int) e.2) with
  | some j=>exact⟨j,rfl⟩
  | none =>
   have:=u2j.mp t ((k:Int),Value.int (k:Int) (c k)) (by unfold vv esL;exact f9.mpr ⟨k,d,rfl⟩)
   rw[u25]at this
   cases this
 unfold setAddHashed setAddHashedIn
 refine r6 (u0 (u2G r rfl p ?_))
 dsimp only
 rw[byScan_of (knd:=intKind prog w) (x:=.int (k:Int) g) rfl i (vB prog w c)]
 simp only[↓reduceIte]
 unfold setAddByScan
 refine u0 ?_
 refine u0 (u08 ?_)
 have b:=λ(Q':ScanMet->Shared->Prop) (q:Q' (.found (0+j)) s)=>wpAny_setScan_of (knd:=intKind prog w) (A:=A) (E:=E) (adding:=true) (Q:=Q') (x:=.int (k:Int) g) (k:=(k:Int)) (u25 _ _ _ _) r rfl p (vB prog w c) (by rw[v];exact q)
 rw[<-y]at b
 refine u0 (b _ ?_)
 dsimp only
 exact u6 (u6 h)
theorem zpw {a:Addr}{m k:Nat}{led:Bool}{l:Tok}{Q:Bool->Shared->Prop}(f:m < 256)(d:k < 8)(g:xb s.heap a led m)
 (h:∀ b c,Heap.SameBut a s.heap c->xb c a led (m ||| 1 <<< k)->Q b { s with heap:=c }) :
 wpAny (model prog w) A (setAddHashed a (.int (k:Int) l) (k:Int)) Q E s:=by
 cases i:m.testBit k with
 | false=>exact zqQ f d i g λc j S=>h true c j S
 | true =>
  have e:=(zgU ⟨m,f⟩ ⟨k,d⟩ i).1
  simp only at e
  exact znH f d i g (h false s.heap (Heap.SameBut.refl a s.heap) (e.symm ▸ g))
end
def bitsTo (a:Nat->Nat):Nat->Nat
 | 0=>0
 | i+1=>bitsTo a i ||| 1 <<< a i
theorem bitsTo_lt {a:Nat->Nat}(h:∀ i,a i < 8):∀ i,bitsTo a i < 256
 | 0=>(by decide:0 < 256)
 | i+1=>zrA ⟨bitsTo a i,bitsTo_lt h i⟩ ⟨a i,h i⟩
theorem xb.at {h h':Heap}{a:Addr}{led:Bool}{m:Nat}(x:xb h a led m)(k:∀ o,h.get? a=some o->h'.get? a=some o):xb h' a led m:=by
 obtain⟨c,b,e⟩:=x
 exact⟨c,b,k _ e⟩
section
variable {prog:Program}{w:World}{A:Around}{R:Result->Shared->Prop}{I:Addr}{fp wr:List Addr}{G:Array GenState->Array GenState->Prop}{n:Nat}{P:Nat->Value->Prop}{St:Nat->Shared->Prop}
theorem zoa (W:WalksS prog w A.in1 I fp wr G n P St)(S:Addr)(led:Bool)(g:S∉fp)(a:Nat->Nat)(H:∀ i,a i < 8)(l:∀ i v,P i v->∃ t,v=.int (a i:Int) t) :
 ∀ (k i:Nat) (s:Shared),n - i=k->i<=n->St i s->xb s.heap S led (bitsTo a i) ->
  (∀ c,Moved (S::wr) G s c->xb c.heap S led (bitsTo a n)->R (.ok (.ret .none)) c) ->
  codeAny (model prog w) A (.builtin "set.update.loop" ⟨[.ref S,.ref I],[]⟩) R s:=by
 have z:S∉wr:=λh=>g (W.sub _ h)
 have d:∀ b∈wr,b∈S::wr:=λb m=>j8 _ m
 intro k
 induction k with
 | zero =>
  intro i s M O f C J
  obtain rfl:i=n:=by omega
  refine i9 u0T ?_
  rw[i0 u0c _]
  show wpAny _ A.in1 (pyNext (.ref I)>>=_) _ _ s
  refine u0 (W.done s _ _ f λc p=>?_)
  show wpAny _ A.in1 (ret Value.none) _ _ c
  exact u6 (J c (p.mono d) (C.at λo e=>p.heap S o z e))
 | succ k K =>
  intro i s M O f C J
  have u:i < n:=by omega
  refine i9 u0T ?_
  rw[i0 u0c _]
  show wpAny _ A.in1 (pyNext (.ref I)>>=_) _ _ s
  refine u0 (W.item i s _ _ u f λv c L x p=>?_)
  obtain⟨t,rfl⟩:=l i v L
  have B:xb c.heap S led (bitsTo a i):=C.at λo e=>p.heap S o z e
  show wpAny _ A.in1 (holding [Value.int (a i:Int) t] (setAdd S (.int (a i:Int) t))>>=_) _ _ c
  refine u0 (r6 ?_)
  unfold setAdd
  refine r6 ?_
  have N:=λ(Q':Int->Shared->Prop) (q:Q' ((a i:Int)) { c with toks:=c.toks+1 })=>(intKind prog w).pyHash (A:=A.in1) (E:=λe c=>R (.error e) c) (s:=c) (k:=(a i:Int)) (v:=.int (a i:Int) t) (Q:=Q') (u25 _ _ _ _) (by show Q' (hashInt (a i:Int)) _;rw[YK ⟨a i,H i⟩];exact q)
  refine u0 (N _ ?_)
  refine zpw (s:={ c with toks:=c.toks+1 }) (bitsTo_lt H i) (H i) B λb T j D=>?_
  refine u6 ⟨u0N u0c _,K (i+1) _ (by omega) u (W.frame _ c _ _ x (u0h _) λb m o e=>?_) D λF y r=>?_⟩
  .rw[j.2 b (λh:b=S=>g (by rw[<-h];exact m))];exact e
  .refine J F (Moved.trans W.gtrans ((p.mono d).then_heap (u0h _) λb o m e=>?_) y) r
   rw[j.2 b (λh:b=S=>m (by rw[h];exact r0))];exact e
end
section
variable {prog:Program}{w:World}{A:Around}{E:Value->Shared->Prop}{s:Shared}
abbrev vo (w:World):Bool:=!w.params.followText "set-order"
theorem zdc (a:Value){Q1:Value->Shared->Prop}
 (h:Q1 (.ref s.heap.objs.size) { s with heap:=s.heap.push { cls:=.type "set",dict:=none,data:=.set #[] 0 (.fresh 0 0 (vo w)) } }) :
 codeAny (model prog w) A (.call (.builtin "set.__new__") ⟨[.type "set",a],[]⟩) (wants Q1 E) s:=by
 refine codeAny_of_tree ?_
 show wpAny _ A.in1 (do checkBuiltinCall "set.__new__" ⟨[.type "set",a],[]⟩;again (.builtin "set.__new__" ⟨[.type "set",a],[]⟩)) _ _ s
 refine u0 (u0J (F.newCall_set_1 a) (u6 ⟨u0N F.plain_set_new _,i9 F.entry_set_new ?_⟩))
 rw[i0 F.plain_set_new _]
 unfold Builtin.«set.__new__» Builtin.Frozenset.newClass
 have b:=sub_set_self
 obtain⟨e,g,d,c,os⟩:=s
 dsimp only
 wp_walk
 refine h9 (u6 ?_)
 dsimp only
 simp only[newObj]
 refine u0 (wpAny_alloc (u6 ?_))
 exact u6 h
end
theorem zdf (h:Heap) (led:Bool) {a:Addr} (e:h.get? a=some { cls:=.type "set",dict:=none,data:=.set #[] 0 (.fresh 0 0 led) }):xb h a led 0:=⟨0,λ_=>0,e⟩
section
variable {prog:Program}{w:World}{A:Around}{E:Value->Shared->Prop}{s:Shared}
theorem zbR {l a:Addr} {c:Array Value} {d:Nat->Nat} {led:Bool} {R:Result->Shared->Prop} (hh:A.handled=none) (C:s.heap.get? a=some { cls:=.type "set",dict:=none,data:=.set #[] 0 (.fresh 0 0 led) })
 (B:s.heap.IsList l c) (I:l≠a) (X:∀ i,d i < 8) (n:∀ (i:Nat) (v:Value),c[i]?=some v->∃ t,v=.int (d i:Int) t)
 (h:∀ (m:Heap) (S:Nat),xb m a led (bitsTo d c.size)->(∀ b o,b≠a->b < s.heap.objs.size->s.heap.get? b=some o->m.get? b=some o)->R (.ok (.ret .none)) { s with heap:=m,toks:=S }) :
 wpAny (model prog w) A.in1 (Builtin.«set.__init__» ⟨[.ref a,.ref l],[]⟩) (λfin g=>match fin with | .done f=>R (.ok f) g | .again O=>O.quiet=true/\codeAny (model prog w) A O R g) (λe g=>R (.error e) g) s:=by
 have hT:s.TypeIs (.ref a) "set":=⟨_,C,rfl⟩
 obtain⟨T,y,q,nl,k⟩:=id B
 obtain⟨P,H,u,r⟩:=T
 simp only at q k
 subst q k
 have N:=F.sub_list_set
 have Q:=F.sub_list_frozenset
 have Y:(Value.type "list" == Value.type "dict")=false:=by decide
 have G:l < s.heap.objs.size:=t3 y
 have L:a < s.heap.objs.size:=t3 C
 unfold Builtin.«set.__init__» noKeywords Builtin.Frozenset.updateFrom
 generalize D:pyIter=PI
 wp_walk
 subst D
 refine u2E B ?_
 refine u0 (wpAny_runValue ?_)
 have M:A.in1.in1.handled=none:=by simp[hh]
 refine zoa ((Walks.list M _ l (q5 G) c).toS) a led (λj=>?_) d X n c.size 0 _ rfl (o5 _) ⟨⟨_,q2 _ rfl,rfl,rfl⟩,B.push _⟩ (zdf _ led (u5 _ C)) λg j x=>?_
 .rcases q4.mp j with e | e
  .exact q5 L e
  .exact I (t7.mp e).symm
 .obtain⟨m,g',Z,J,E⟩:=g
  have eg:g'=s.gens:=j.gens
  have V:Z=s.drawn:=j.drawn
  have U:E=s.os:=j.os
  subst eg V U
  show wpAny _ _ _ _ _ _
  refine u6 ?_
  show wpAny _ _ (ret Value.none) _ _ _
  refine u6 (h m J x λb o W K e=>j.heap b o (λp=>?_) (u5 _ e))
  rcases q4.mp p with z | z
  .exact W z
  .exact q5 K (t7.mp z)
set_option maxHeartbeats 4000000 in
theorem own_call_set {l:Addr}{a:Array Value}{f:Nat->Nat}{Q:Value->Shared->Prop}(hh:A.handled=none)(y:s.heap.IsList l a)(N:∀ i,f i < 8)(m:∀ (i:Nat) (v:Value),a[i]?=some v->∃ t,v=.int (f i:Int) t)
 (h:∀ (d:Heap) (j:Nat),xb d s.heap.objs.size (vo w) (bitsTo f a.size)->(∀ b o,s.heap.get? b=some o->d.get? b=some o)->Q (.ref s.heap.objs.size) { s with heap:=d,toks:=j }) :
 wpAny (model prog w) A (call (.type "set") [.ref l]) Q E s:=by
 obtain⟨c,P,G⟩:=u0E.mro
 have q:=u0E.made
 have D:=u0E.sub
 refine u1w (codeAny_of_tree ?_)
 show wpAny _ _ (callAny (.type "set") _) _ _ _
 refine u6 ⟨u1a _ (by decide +kernel),i9 F.entry_type_call ?_⟩
 rw[Around.under_plain (weight_type_call_type "set" [.ref l] []) rfl]
 have T:=u0E.notType
 have U:=u0E.canCreate
 have J:=F.typeCall_set_1 (.ref l)
 repeat (any_goals (first | assumption | wp_step))
 refine u06 (zdc (.ref l) (E:=E) (Q1:=λn B=>n=.ref s.heap.objs.size/\B={ s with heap:=s.heap.push { cls:=.type "set",dict:=none,data:=.set #[] 0 (.fresh 0 0 (vo w)) } }) ⟨rfl,rfl⟩) λr B p=>?_
 cases r with
 | error e=>exact p
 | ok I =>
  cases I with
  | ret n =>
   obtain⟨rfl,rfl⟩:=p
   have z:(s.heap.push { cls:=.type "set",dict:=none,data:=.set #[] 0 (.fresh 0 0 (vo w)) }).get? s.heap.objs.size=some { cls:=.type "set",dict:=none,data:=.set #[] 0 (.fresh 0 0 (vo w)) }:=q2 _ rfl
   have L:Shared.TypeIs { s with heap:=s.heap.push { cls:=.type "set",dict:=none,data:=.set #[] 0 (.fresh 0 0 (vo w)) } } (.ref s.heap.objs.size) "set":=⟨_,z,rfl⟩
   have O:=u0E.init.lookup
   have H:=u0E.init.bind (.ref s.heap.objs.size)
   repeat (any_goals (first | assumption | wp_step))
   refine u06 (u0s (R:=wants (λr C=>r=.none/\∃ d j,C={ s with heap:=d,toks:=j }/\xb d s.heap.objs.size (vo w) (bitsTo f a.size)/\∀ b o,s.heap.get? b=some o->d.get? b=some o) E) u0E.init.plain F.entry_set_init (check_set_init_1 L ?_)) λM C g=>?_
   .have u:l < s.heap.objs.size:=by obtain⟨o,K,_⟩:=y;exact t3 K
    refine zbR (by simp[hh]) z (y.push _) (q5 u) N m λd j S k=>⟨rfl,d,j,rfl,S,λb o e=>k b o (q5 (t3 e)) ?_ (u5 _ e)⟩
    rw[s0]
    exact i4 (t3 e)
   .cases M with
    | error e=>exact g
    | ok x =>
     cases x with
     | ret r =>
      obtain⟨rfl,d,j,rfl,S,k⟩:=g
      repeat (any_goals (first | assumption | wp_step))
      exact h _ _ S k
     | _=>exact g.elim
  | _=>exact p.elim
end
theorem zeS:Manifest.owners.lookup (String.ofList ['r','o','t','a','r','e','t','i','_','t','e','s'].reverse)=some Manifest.sig_set_iterator:=by kernel_rfl
theorem Xd:Slot "set_iterator" "__next__" "set_iterator.__next__" :=
 .of (owner:="set_iterator") (n:="__next__") (by rw[u13,u0I];kernel_rfl) (by decide +kernel) (by decide +kernel) (by decide +kernel)
  (by first | exact .inl (by decide +kernel) | exact .inr (by decide +kernel)) (by rw[u2q];kernel_rfl)
theorem zhC:Slot "set_iterator" "__iter__" "set_iterator.__iter__" :=
 .of (owner:="set_iterator") (n:="__iter__") (by rw[u13,u0I];kernel_rfl) (by decide +kernel) (by decide +kernel) (by decide +kernel)
  (by first | exact .inl (by decide +kernel) | exact .inr (by decide +kernel)) (by rw[u2q];kernel_rfl)
theorem Z4:entryFor table "set_iterator.__next__"=some Builtin.«set_iterator.__next__»:=entryFor_of_tree (by kernel_rfl)
theorem zbm:entryFor table "set_iterator.__iter__"=some Builtin.«dict_keyiterator.__iter__» :=
 entryFor_alias (id':="dict_keyiterator.__iter__") (by kernel_rfl) (by first | rfl | decide +kernel | (unfold String.splitOn;simp +decide [String.splitOnAux])) (by decide +kernel) (by kernel_rfl)
theorem VN:entryFor table "set.__iter__"=some Builtin.«frozenset.__iter__» :=
 entryFor_alias (id':="frozenset.__iter__") (by kernel_rfl) (by first | rfl | decide +kernel | (unfold String.splitOn;simp +decide [String.splitOnAux])) (by decide +kernel) (by kernel_rfl)
theorem XU (a:Value):argsOk "set_iterator.__next__" ⟨[a],[]⟩:=by
 unfold argsOk;rw[signature?_of (id:="set_iterator.__next__") (n:=['_','_','t','x','e','n','_','_']) (o:=['r','o','t','a','r','e','t','i','_','t','e','s']) (by kernel_rfl) zeS];kernel_rfl
theorem zcV (a:Value):argsOk "set_iterator.__iter__" ⟨[a],[]⟩:=by
 unfold argsOk;rw[signature?_of (id:="set_iterator.__iter__") (n:=['_','_','r','e','t','i','_','_']) (o:=['r','o','t','a','r','e','t','i','_','t','e','s']) (by kernel_rfl) zeS];kernel_rfl
def xT (h:Heap) (a:Addr) (led:Bool) (m b:Nat) (c:Nat->Tok):Prop:=h.get? a=some { cls:=.type "set",dict:=none,data:=.set (vv (ksOf m) c) b (tabOf led (ksOf m)),slots:=#[] }
abbrev Xu (h:Heap) (I a:Addr) (b i n c:Nat):Prop:=h.get? I=some { cls:=.type "set_iterator",dict:=none,data:=.fields #[rawInt (b:Int),rawInt (i:Int),.ref a,rawInt (n:Int),rawInt (c:Int)],slots:=#[] }
theorem zae (c:Bool):¬ ((!true&&c)=true):=by cases c <;> decide
theorem zhO (b c:Bool):¬ ((!b&&(!true&&c))=true):=by cases b <;> cases c <;> decide
section
variable {prog:Program}{w:World}{A:Around}{E:Value->Shared->Prop}{s:Shared}
theorem xa {a:Addr}{m c:Nat}{led:Bool}{b:Nat->Tok}{Q:(Array (Int × Value) × Nat × SetTable)->Shared->Prop}(e:m < 256)(f:xT s.heap a led m c b)(h:Q (vv (ksOf m) b,c,tabOf led (ksOf m)) s):wpAny (model prog w) A (setState a) Q E s:=by
 have d:=YL ⟨m,e⟩ led
 simp only at d
 exact u2G f rfl (by rw[yW];exact d) h
theorem zcZ {a:Addr}{m d:Nat}{led:Bool}{f:Nat->Tok}{Q:Value->Shared->Prop}(c:m < 256)(b:xT s.heap a led m d f)
 (h:Q (.ref s.heap.objs.size) { s with heap:=s.heap.push { cls:=.type "set_iterator",data:=.fields #[rawInt ((0:Nat):Int),rawInt ((0:Nat):Int),.ref a,rawInt ((ksOf m).length:Int),rawInt (d:Int)] } }) :
 wpAny (model prog w) A (pyIter (.ref a)) Q E s:=by
 have e:s.TypeIs (.ref a) "set":=⟨_,b,rfl⟩
 refine u2F e F.slot_set_iter (o7 F.slot_set_iter e VN ?_ (F.args_set_iter_1 _))
 unfold Builtin.«frozenset.__iter__»
 refine u0 (u0J (a:=a) rfl ?_)
 unfold Builtin.Frozenset.sizeOf setEntries
 refine u0 (u0 (u0 (xa c b (u6 (u6 ?_)))))
 unfold setDrawn
 refine u0 (u0 (xa c b ?_))
 dsimp only
 unfold setsByText
 refine u0 (u0 (h9 (u6 ?_)))
 refine u6 ?_
 dsimp only
 split
 .rename_i g
  exact absurd g (zhO _ _)
 .refine u0 (u6 ?_)
  unfold setEpoch
  refine u0 (u0 (xa c b (u6 ?_)))
  dsimp only
  rw[yW]
  refine u0 (n6 (u6 ⟨_,rfl,"set_iterator",_,⟨_,q2 _ rfl,rfl⟩,Xd.lookup,?_⟩))
  exact h
def vO (w:World) (a:Addr) (m c:Nat) (b:Nat->Tok):Array (Int × Value):=if w.params.followText "set-order"=true then pickOrder (w.params.setOrder a c) (vv (ksOf m) b)else vv (ksOf m) b
def slotAt (w:World) (m i:Nat):Nat:=if w.params.followText "set-order"=true then 0 else if i=0 then 0 else (ksOf m).getD (i - 1) 0+1
theorem zd0 {a:Addr}{m g i:Nat}{f:Nat->Tok}{e:Int × Value}{Q:Option (Value × Nat)->Shared->Prop}(k:m < 256)(n:xT s.heap a (vo w) m g f)(l:i < (ksOf m).length)(c:(vO w a m g f)[i]?=some e)
 (h:Q (some (e.2,slotAt w m (i+1))) s):wpAny (model prog w) A (setNext a (slotAt w m i) i g) Q E s:=by
 unfold setNext
 refine u0 (xa k n ?_)
 dsimp only
 unfold setsByText
 refine u0 (u0 (h9 (u6 ?_)))
 dsimp only
 unfold vO at c
 unfold slotAt at h ⊢
 by_cases d:w.params.followText "set-order"=true
 .have b:(model prog w).w.params.followText "set-order"=true:=d
  rw[t6 d]at c h ⊢
  rw[t6 b]
  rw[t9 (by simp)]
  unfold setWalk
  refine u0 (u0 (xa k n ?_))
  dsimp only
  unfold setsByText
  refine u0 (u0 (h9 (u6 ?_)))
  dsimp only
  rw[t6 b]
  refine u0 (h9 (u6 ?_))
  refine u6 ?_
  show Q (((pickOrder (w.params.setOrder a g) (vv (ksOf m) f))[i]?).map λe=>(e.2,0)) s
  rw[c]
  exact h
 .have b:¬ (model prog w).w.params.followText "set-order"=true:=d
  rw[t9 d]at c h ⊢
  rw[t9 b]
  have o:=WN ⟨m,k⟩ ⟨i,t8 l (k8 (len_small ⟨m,k⟩) (by decide))⟩ (f6 l)
  simp only at o
  have q:vo w=true:=by unfold vo;rw[u1r.mpr d];rfl
  rw[q]
  split
  .rename_i p
   exact absurd p (zae _)
  .refine u0 (u0J (a:=()) rfl ?_)
   refine u6 ?_
   show Q (match (vv (ksOf m) f)[SetTable.below (ksOf m).toArray (if i=0 then 0 else (ksOf m).getD (i - 1) 0+1)]?,(ksOf m).toArray[SetTable.below (ksOf m).toArray (if i=0 then 0 else (ksOf m).getD (i - 1) 0+1)]? with | some (_,x),some j=>some (x,j+1) | _,_=>none) s
   rw[o,c,show(ksOf m).toArray[i]?=some ((ksOf m).getD i 0) by simp[l]]
   rw[t9 (Nat.succ_ne_zero i)]at h
   exact h
end
theorem zaq {α:Type}:∀ (l:List α) (i:Nat) (h:i < l.length),(l[i]::l.eraseIdx i).Perm l
 | x::l,0,_=>u0R _
 | x::l,i+1,h=>(List.Perm.swap x (l[i]'(u1o h)) (l.eraseIdx i)).trans (List.Perm.cons x (zaq l i (u1o h)))
theorem zm0 {α:Type}(next:Nat->Nat):∀ (a k:Nat) (left:List α) (b:Array α),left.length=a->(pickOrder.go next a k left b).toList.Perm (b.toList++left):=by
 intro a
 induction a with
 | zero =>
  intro k left b h
  rw[l6.mp h,o9]
  exact u0R _
 | succ f d =>
  intro k left b h
  have c:next k % left.length < left.length:=Nat.mod_lt _ (by rw[h];exact Nat.succ_pos f)
  unfold pickOrder.go
  rw[q1 c]
  dsimp only
  refine(d (k+1) _ _ (by rw[List.length_eraseIdx_of_lt c,h];rfl)).trans ?_
  rw[Array.toList_push,u2u]
  exact List.Perm.append_left _ (zaq _ _ c)
theorem zjt {α:Type}(next:Nat->Nat)(a:Array α):(pickOrder next a).toList.Perm a.toList:=by
 unfold pickOrder
 exact zm0 next a.size 0 a.toList #[] (by rw[r8])
theorem zbz (w:World)(a:Addr)(m c:Nat)(b:Nat->Tok):(vO w a m c b).toList.Perm (vv (ksOf m) b).toList:=by
 unfold vO
 split
 .exact zjt _ _
 .exact u0R _
theorem WG (w:World)(a:Addr)(m b:Nat)(c:Nat->Tok):(vO w a m b c).size=(ksOf m).length:=by
 rw[<-r8,(zbz w a m b c).length_eq,r8,yW]
section
variable {prog:Program}{w:World}{A:Around}{E:Value->Shared->Prop}{s:Shared}
theorem WY {a:Addr}{m g:Nat}{f:Nat->Tok}{Q:Option (Value × Nat)->Shared->Prop}(i:m < 256)(k:xT s.heap a (vo w) m g f)(h:Q none s):wpAny (model prog w) A (setNext a (slotAt w m (ksOf m).length) (ksOf m).length g) Q E s:=by
 have c:(vO w a m g f)[(ksOf m).length]?=none:=Array.getElem?_eq_none (by rw[WG];exact t4 _)
 unfold setNext
 refine u0 (xa i k ?_)
 dsimp only
 unfold setsByText
 refine u0 (u0 (h9 (u6 ?_)))
 dsimp only
 unfold vO at c
 unfold slotAt
 by_cases d:w.params.followText "set-order"=true
 .have b:(model prog w).w.params.followText "set-order"=true:=d
  rw[t6 d]at c ⊢
  rw[t6 b,t9 (by simp)]
  unfold setWalk
  refine u0 (u0 (xa i k ?_))
  dsimp only
  unfold setsByText
  refine u0 (u0 (h9 (u6 ?_)))
  dsimp only
  rw[t6 b]
  refine u0 (h9 (u6 ?_))
  refine u6 ?_
  show Q (((pickOrder (w.params.setOrder a g) (vv (ksOf m) f))[(ksOf m).length]?).map λe=>(e.2,0)) s
  rw[c]
  exact h
 .have b:¬ (model prog w).w.params.followText "set-order"=true:=d
  rw[t9 d]at c ⊢
  rw[t9 b]
  have l:=WN ⟨m,i⟩ ⟨(ksOf m).length,j9 (len_small ⟨m,i⟩) (by decide)⟩ (t4 _)
  simp only at l
  have o:vo w=true:=by unfold vo;rw[u1r.mpr d];rfl
  rw[o]
  split
  .rename_i n
   exact absurd n (zae _)
  .refine u0 (u0J (a:=()) rfl ?_)
   refine u6 ?_
   show Q (match (vv (ksOf m) f)[SetTable.below (ksOf m).toArray (if (ksOf m).length=0 then 0 else (ksOf m).getD ((ksOf m).length - 1) 0+1)]?,(ksOf m).toArray[SetTable.below (ksOf m).toArray (if (ksOf m).length=0 then 0 else (ksOf m).getD ((ksOf m).length - 1) 0+1)]? with | some (_,x),some j=>some (x,j+1) | _,_=>none) s
   rw[l,c]
   exact h
theorem zej {I a:Addr}{b i n d:Nat}{Q:Value->Shared->Prop}(e:Xu s.heap I a b i n d)(h:Q (.ref I) s):wpAny (model prog w) A (pyIter (.ref I)) Q E s:=by
 have c:s.TypeIs (.ref I) "set_iterator":=⟨_,e,rfl⟩
 refine u2F c zhC (o7 zhC c zbm ?_ (zcV _))
 show wpAny _ _ (ret (.ref I)) _ _ s
 exact u6 ⟨_,rfl,"set_iterator",_,c,Xd.lookup,h⟩
theorem zds {I a:Addr}{m b i:Nat}{k:Nat->Tok}{e:Int × Value}{Q:Option Value->Shared->Prop}(o:m < 256)(g:Xu s.heap I a (slotAt w m i) i (ksOf m).length b)(l:xT s.heap a (vo w) m b k)(t:i < (ksOf m).length)(q:(vO w a m b k)[i]?=some e)
 (p:∀ d,Xu d I a (slotAt w m (i+1)) (i+1) (ksOf m).length b->Heap.SameBut I s.heap d->Q (some e.2) { s with heap:=d }):wpAny (model prog w) A (pyNext (.ref I)) Q E s:=by
 have n:s.TypeIs (.ref I) "set_iterator":=⟨_,g,rfl⟩
 unfold pyNext
 refine u0 (u0p (o0 (name:=Str.ofString "__next__") n Xd (o7 Xd n Z4 ?_ (XU _))))
 unfold Builtin.«set_iterator.__next__»
 refine u0 (u0J (a:=(Value.ref I,[])) rfl ?_)
 try dsimp only
 refine u0 (u2r g rfl ?_)
 show wpAny _ _ (setEntries a>>=_) _ _ s
 unfold setEntries
 refine u0 (u0 (xa o l (u6 ?_)))
 dsimp only
 rw[yW,t9 (by simp)]
 show wpAny _ _ (setNext a ((slotAt w m i:Int)).toNat ((i:Int)).toNat ((b:Int)).toNat>>=_) _ _ s
 rw[o4,o4,o4]
 refine u0 (zd0 o l t q ?_)
 dsimp only
 refine u0 (u2i g (by simp) λu h c=>?_)
 refine u0 (u2i h (by simp) λr f j=>?_)
 exact u6 ⟨_,rfl,u6 (p r f (c.trans j))⟩
theorem zfV {I a:Addr}{m d:Nat}{j:Nat->Tok}{Q:Option Value->Shared->Prop}(hh:A.handled=none)(f:m < 256)(e:Xu s.heap I a (slotAt w m (ksOf m).length) (ksOf m).length (ksOf m).length d)(h:xT s.heap a (vo w) m d j)
 (k:∀ g,Heap.ExtBut I s.heap g->Q none { s with heap:=g }):wpAny (model prog w) A (pyNext (.ref I)) Q E s:=by
 have i:s.TypeIs (.ref I) "set_iterator":=⟨_,e,rfl⟩
 unfold pyNext
 refine u0 (u0p (o0 (name:=Str.ofString "__next__") i Xd (o7 Xd i Z4 ?_ (XU _))))
 unfold Builtin.«set_iterator.__next__»
 refine u0 (u0J (a:=(Value.ref I,[])) rfl ?_)
 try dsimp only
 refine u0 (u2r e rfl ?_)
 show wpAny _ _ (setEntries a>>=_) _ _ s
 unfold setEntries
 refine u0 (u0 (xa f h (u6 ?_)))
 dsimp only
 rw[yW,t9 (by simp)]
 show wpAny _ _ (setNext a ((slotAt w m (ksOf m).length:Int)).toNat (((ksOf m).length:Int)).toNat ((d:Int)).toNat>>=_) _ _ s
 rw[o4,o4,o4]
 refine u0 (WY f h ?_)
 dsimp only
 refine u0 (u2i e (by simp) λn l c=>?_)
 refine u0 ?_
 simp only[newExc,newTuple]
 refine u0 (n6 ?_ (by size_fits))
 refine u0 (m:=firstArgMember _ _) (u0J (a:=Value.none) (by first | rfl | (simp only[firstArgMember];rfl)) ?_)
 refine n6 ?_ (by size_fits)
 simp only[raiseNew]
 refine u0 (wpAny_handled ?_)
 first | rw[show A.in1.handled=none from hh] | rw[hh]
 refine u0 (u6 (wpAny_throw ?_))
 refine u0 (u0Y (T:="StopIteration") (b:=true) ⟨_,q2 _ rfl,rfl⟩ isSubtype_stop ?_)
 exact u6 (k _ ((c.extBut.push _).push _))
theorem xT.at {h h':Heap}{a:Addr}{led:Bool}{m c:Nat}{b:Nat->Tok}(x:xT h a led m c b)(k:∀ o,h.get? a=some o->h'.get? a=some o):xT h' a led m c b:=k _ x
theorem zco (hh:A.handled=none)(I a:Addr)(hne:a≠I){m ep:Nat}{tk:Nat->Tok}(hm:m < 256) :
 Walks prog w A I [I,a] [I] (ksOf m).length (λi v=>∃ e,(vO w a m ep tk)[i]?=some e/\v=e.2) (λi h=>i<=(ksOf m).length/\Xu h I a (slotAt w m i) i (ksOf m).length ep/\xT h a (vo w) m ep tk) where
 sub:=λb hb=>by simp at hb;simp[hb]
 frame:=λ_ _ _ x hk=>by
  obtain⟨h1,h2,h3⟩:=x
  exact⟨h1,hk I (by simp) _ h2,h3.at λo e=>hk a (by simp) o e⟩
 item:=λi s Q E hi x hQ=>by
  obtain⟨h1,h2,h3⟩:=x
  have hx:(vO w a m ep tk)[i]?=some ((vO w a m ep tk)[i]'(by rw[WG];exact hi)):=p7 _
  refine zds hm h2 h3 hi hx λh' he' hs'=>?_
  exact hQ _ h' s.toks ⟨_,hx,rfl⟩ ⟨hi,he',h3.at λo e=>(hs'.2 a hne).trans e⟩ λb o hb eo=>hs'.extBut b o (λh=>hb (by simp[h])) eo
 done:=λs Q E x hQ=>by
  obtain⟨h1,h2,h3⟩:=x
  exact zfV hh hm h2 h3 λh' he'=>hQ h' s.toks λb o hb eo=>he' b o (λh=>hb (by simp[h])) eo
 self:=λ_ _ _ _ x hQ=>zej x.2.1 hQ
theorem zbF {a:Addr}{m g:Nat}{led:Bool}{e:Nat->Tok}{Q:Bool->Shared->Prop}(h:xT s.heap a led m g e)(f:Q false s):wpAny (model prog w) A (Builtin.List.listLengthHint (.ref a)) Q E s:=by
 have d:s.TypeIs (.ref a) "set":=⟨_,h,rfl⟩
 unfold Builtin.List.listLengthHint
 refine u0 (u14 d F.slot_set_len.lookup ?_)
 try dsimp only
 have c:splitId "set.__len__"=some ("set","__len__"):=by decide +kernel
 rw[c]
 try dsimp only
 refine u0 (u0Y (T:="set") (b:=true) d sub_set_self ?_)
 rw[t9 (by decide)]
 show wpAny _ _ (if true=true then _ else _) _ _ _
 rw[t6 rfl]
 refine u0 (u0x d ?_)
 dsimp only
 exact u6 f
theorem Vi {a:Addr}{m c:Nat}{p:Nat->Tok}{Q:List Value->Shared->Prop}(hh:A.handled=none)(K:m < 256)(N:xT s.heap a (vo w) m c p)
 (R:∀ k,(∀ b o,s.heap.get? b=some o->k.heap.get? b=some o)->k.gens=s.gens->k.drawn=s.drawn->k.os=s.os->Q ((vO w a m c p).toList.map (·.2)) k):wpAny (model prog w) A (collect (.ref a)) Q E s:=by
 have D:a < s.heap.objs.size:=t3 N
 have v:s.heap.objs.size≠a:=u03 D
 have Y:(ksOf m).length<=sizeLine:=k8 (len_small ⟨m,K⟩) (by rw[u0r];decide)
 unfold collect
 refine u0 (wpAny_runValue (i9 F.entry_proto_collect ?_))
 rw[i0 F.plain_proto_collect _]
 show wpAny _ A.in1 (newList []>>=λl=>again (.builtin "list.__iadd__" ⟨[l,.ref a],[]⟩)) _ _ s
 refine u0 (n6 ?_)
 refine u6 ⟨u0N u1s _,i9 F.entry_list_iadd ?_⟩
 rw[i0 u1s _]
 have j:xT (s.heap.push { cls:=.type "list",data:=.seq ([]:List Value).toArray }) a (vo w) m c p:=u5 _ N
 have x:(s.heap.push { cls:=.type "list",data:=.seq ([]:List Value).toArray }).get? s.heap.objs.size=some { cls:=.type "list",data:=.seq ([]:List Value).toArray }:=q2 _ rfl
 generalize y:s.heap.push { cls:=.type "list",data:=.seq ([]:List Value).toArray }=h1 at j x ⊢
 have k1:∀ b o,s.heap.get? b=some o->h1.get? b=some o:=λb o e=>by rw[<-y];exact u5 _ e
 have q:h1.objs.size=s.heap.objs.size+1:=by rw[<-y];exact s0 ..
 show wpAny _ A.in1 (Builtin.List.listExtendWith (.ref s.heap.objs.size) (.ref a) (.ref s.heap.objs.size)) _ _ _
 unfold Builtin.List.listExtendWith
 refine u0 (u0x (T:="set") ⟨_,j,rfl⟩ ?_)
 have Z:Builtin.List.listSameRef (.ref s.heap.objs.size) (.ref a)=false:=by simp[Builtin.List.listSameRef,v]
 have V:(Value.type "set" == Value.type "list")=false:=by decide
 have g3:(Value.type "set" == Value.type "tuple")=false:=by decide
 simp only[Z,V,g3,u2I,u0o,u1S]
 refine u0 (zcZ K j ?_)
 have B:Xu (h1.push { cls:=.type "set_iterator",data:=.fields #[rawInt ((0:Nat):Int),rawInt ((0:Nat):Int),.ref a,rawInt ((ksOf m).length:Int),rawInt (c:Int)] }) h1.objs.size a 0 0 (ksOf m).length c:=q2 _ rfl
 have r:xT (h1.push { cls:=.type "set_iterator",data:=.fields #[rawInt ((0:Nat):Int),rawInt ((0:Nat):Int),.ref a,rawInt ((ksOf m).length:Int),rawInt (c:Int)] }) a (vo w) m c p:=u5 _ j
 have u:=u5 { cls:=.type "set_iterator",data:=.fields #[rawInt ((0:Nat):Int),rawInt ((0:Nat):Int),.ref a,rawInt ((ksOf m).length:Int),rawInt (c:Int)] } x
 generalize J:h1.push { cls:=.type "set_iterator",data:=.fields #[rawInt ((0:Nat):Int),rawInt ((0:Nat):Int),.ref a,rawInt ((ksOf m).length:Int),rawInt (c:Int)] }=h2 at B r u ⊢
 have U:∀ b o,h1.get? b=some o->h2.get? b=some o:=λb o e=>by rw[<-J];exact u5 _ e
 refine u0 (r6 (zbF r ?_))
 show wpAny _ A.in1 (if true=true then _ else _) _ _ _
 rw[t6 rfl]
 refine u0 (u08 (u0 ?_))
 show wpAny _ A.in1 (updateSeq s.heap.objs.size (·.push .none)>>=λ_=>updateSeq s.heap.objs.size (·.pop)) _ _ _
 refine u0 (u1m u rfl ?_)
 have C:=k9 (Obj.mapSeq (·.push Value.none)) u rfl
 refine u1m (hz:=by seq_fits) C rfl ?_
 have H:=k9 (Obj.mapSeq (·.pop)) C rfl
 have t:∀ b o,b≠s.heap.objs.size->h2.get? b=some o->((h2.update s.heap.objs.size (Obj.mapSeq (·.push Value.none))).update s.heap.objs.size (Obj.mapSeq (·.pop))).get? b=some o :=
  λb o P e=>(r9 _ _ (u0b P)).trans ((r9 _ _ (u0b P)).trans e)
 have n:h1.objs.size≠s.heap.objs.size:=by rw[q];exact Nat.succ_ne_self _
 have L:a≠h1.objs.size:=by rw[q];exact q5 (i4 D)
 have W:=zco (prog:=prog) (w:=w) (A:=A.in1) (ep:=c) (tk:=p) hh h1.objs.size a L K
 have G:slotAt w m 0=0:=by unfold slotAt;split <;> rfl
 refine u6 ⟨u0N u1U _,u1L W.toS Y _ (λf=>?_) _ (ksOf m).length 0 _ #[] _ rfl (o5 _) ⟨o5 _,by rw[G];exact t _ _ n B,r.at λo e=>t _ _ (u0b v) e⟩ H (ItemsOf.nil _) λk g c' h I d=>?_⟩
 .rcases q4.mp f with e | e
  .exact n e.symm
  .exact v (t7.mp e)
 .show wpAny _ A (load s.heap.objs.size>>=_) _ _ k
  refine u0 (wpAny_load I ?_)
  refine u6 ?_
  have e1:g.toList=(vO w a m c p).toList.map (·.2):=by
   apply u0L
   intro i
   by_cases M:i < (ksOf m).length
   .have O:g[i]?=some (g[i]'(by rw[d.1];exact M)):=p7 _
    obtain⟨e,X,S⟩:=d.2 i _ O
    rw[j1,u0n,u0n,O,X,S]
    rfl
   .rw[g8 (by rw[r8,d.1];exact m4 M),g8 (by rw[u8,r8,WG];exact m4 M)]
  rw[e1]
  refine R k (λb o e=>h.heap b o (λf=>?_) (t b o (q5 (t3 e)) (U b o (k1 b o e)))) h.gens h.drawn h.os
  rcases q4.mp f with z | z
  .exact q5 (t3 e) z
  .have:=t3 e
   rw[t7.mp z,q]at this
   exact absurd (u2w this) (l7 _)
end
end OwnSet
namespace OwnSet
open PySem PyProof.Rows
theorem ZR:∀ (l:List (Int × Value)),(∀ e∈l,∃ t,e.2=.int e.1 t)->PyProof.Rows.IntsAre (l.map (·.2)) (l.map (·.1))
 | [],_=>.nil
 | e::l,h=>by
  obtain⟨t,b⟩:=h e r0
  rw[r4,r4,b]
  exact .cons _ t (ZR l λx a=>h x (j8 _ a))
theorem ziU (m:Nat):((ksOf m).map λi:Nat=>(i:Int)).Pairwise (·<=·):=by
 rw[List.pairwise_map]
 exact((List.pairwise_lt_range (n:=8)).filter _).imp λh=>Int.ofNat_le.mpr (f6 h)
theorem zkA (w:World)(a:Addr)(m c:Nat)(b:Nat->Tok):PyProof.Rows.IntsAre ((vO w a m c b).toList.map (·.2)) ((vO w a m c b).toList.map (·.1))/\((vO w a m c b).toList.map (·.1)).Perm ((ksOf m).map λi:Nat=>(i:Int)):=by
 constructor
 .refine ZR _ λe d=>?_
  have:=(zbz w a m c b).mem_iff.mp d
  unfold vv esL at this
  obtain⟨k,_,rfl⟩:=f9.mp this
  exact⟨_,rfl⟩
 .have:=(zbz w a m c b).map (·.1)
  unfold vv esL at this
  rw[i1]at this
  exact this
section
variable {prog:Program}{w:World}{A:Around}{E:Value->Shared->Prop}{s:Shared}
theorem own_sorted_set {a:Addr}{m l:Nat}{j:Nat->Tok}{Q:Value->Shared->Prop}(hh:A.handled=none)(x:m < 256)(C:xT s.heap a (vo w) m l j)
 (h:∀ (d q:Heap) (u:Nat) (f:Array Value) (c:Nat),IntsAre f.toList ((ksOf m).map λi:Nat=>(i:Int))->(∀ b o,s.heap.get? b=some o->d.get? b=some o)->(∀ b o,d.get? b=some o->q.get? b=some o) ->
  q.get? d.objs.size=some { cls:=.type "list",dict:=none,data:=.seq f c,slots:=#[] }->Q (.ref d.objs.size) { s with heap:=q,toks:=u }) :
 wpAny (model prog w) A (call (.builtin "sorted") [.ref a]) Q E s:=by
 refine u0Q u2y u2o u2n (u2m _) ?_
 unfold Builtin.«sorted»
 refine u0 (m:=checkCount "sorted" 1 1 _) (u6 ?_)
 refine u0 (Vi hh x C λB k I U R=>?_)
 obtain⟨d,L,K,V,p⟩:=B
 have S:L=s.gens:=I
 have T:K=s.drawn:=U
 have G:p=s.os:=R
 subst S T G
 obtain⟨M,J⟩:=zkA w a m l j
 have n:((vO w a m l j).toList.map (·.2)).length < 64:=by
  rw[u8,r8,WG]
  exact j9 (len_small ⟨m,x⟩) (by decide)
 generalize (vO w a m l j).toList.map (·.2)=vs at *
 generalize (vO w a m l j).toList.map (·.1)=ns at *
 refine u0 (wpAny_newList ?_)
 have g:(d.push (PyProof.Rows.seqObj "list" vs.toArray 0)).get? d.objs.size=some (PyProof.Rows.seqObj "list" vs.toArray 0):=q2 _ rfl
 refine u0 (r6 (o7 u11 ⟨_,g,rfl⟩ u1R (PyProof.Rows.list_sort_tree g M n λf r D z P=>⟨_,rfl,?_⟩) (u10 _)))
 have H:r=(ksOf m).map λi:Nat=>(i:Int):=W.ksm_same (z.trans J) P (ziU m)
 subst H
 have N:d.objs.size < (d.push (PyProof.Rows.seqObj "list" vs.toArray 0)).objs.size:=t3 g
 have y:∀ b o,b≠d.objs.size->(d.push (PyProof.Rows.seqObj "list" vs.toArray 0)).get? b=some o->(PyProof.Rows.sortedHeap (d.push (PyProof.Rows.seqObj "list" vs.toArray 0)) d.objs.size vs f).get? b=some o:=λb o v e=>by
  unfold PyProof.Rows.sortedHeap
  exact(r9 _ _ (u0b v)).trans (u5 _ (u5 _ ((r9 _ _ (u0b v)).trans e)))
 have t:∃ c,(PyProof.Rows.sortedHeap (d.push (PyProof.Rows.seqObj "list" vs.toArray 0)) d.objs.size vs f).get? d.objs.size=some { cls:=.type "list",dict:=none,data:=.seq f c,slots:=#[] }:=by
  unfold PyProof.Rows.sortedHeap
  have O:=k9 (Obj.mapSeq λ_=>(#[]:Array Value)) g rfl
  have F:=u5 (PyProof.Rows.seqObj "list" #[] 0) (u5 (PyProof.Rows.seqObj "tuple" vs.toArray 0) O)
  exact⟨_,k9 (Obj.mapSeq λ_=>f) F rfl⟩
 obtain⟨c,t⟩:=t
 exact u6 ⟨_,rfl,h d _ _ f c D k (λb o e=>y b o (q5 (t3 e)) (u5 _ e)) t⟩
end
end OwnSet
namespace L2
open PySem PySem.Spec PyProof.Rows
def zrf (a:List Nat):List Nat:=OwnSet.ksOf (OwnSet.bitsTo (λi=>a.getD i 0) a.length)
def tSS (K:W.Frag)(c:TE):TE:=fun σ H Q=>c σ H λx H1=>∃ a b,x=.ref a/\SqL K H1 a ((b.map λk:Nat=>(k:Int)).map V.int)/\(∀ k∈b,k < 8)/\∀ l,H1 l=none->Q (.ref l) (upd H1 l (.lst (((zrf b).map λk:Nat=>(k:Int)).map V.int)))
theorem zf3 {X:Cx} {a:Expr} {M:TE} {p1 A p d:Pos} (N:X.calm=true) (D:Gl X "sorted") (B:X.mg "sorted"=none) (G:bootBuiltins "sorted"=some (.builtin "sorted")) (F:Gl X "set") (E:X.mg "set"=none) (hb2:bootBuiltins "set"=some (.type "set")) (ha:PE X a M)
 (L:starEach [a] X.env=[(false,eval a X.env)]:=by rfl) (z:starEach [.Call (.Name "set" A) [a] [] d] X.env=[(false,eval (.Call (.Name "set" A) [a] [] d) X.env)]:=by rfl):PE X (.Call (.Name "sorted" p1) [.Call (.Name "set" A) [a] [] d] [] p) (tSS X.K M):=by
 intro g s σ H Q I h
 refine Call_ (Y9 I D B G (u1B (Q:=EP X g σ Q) ?_ z rfl))
 rw[z]
 show wpAny _ _ (spliced ((false,eval (.Call (.Name "set" A) [a] [] d) X.env)::[])) _ _ _
 refine u0B ?_
 refine Call_ (Y9 I F E hb2 (g5 ?_ L rfl))
 rw[L]
 show wpAny _ _ (spliced ((false,eval a X.env)::[])) _ _ _
 refine u0B (thn (ha g s σ H _ I h) λv Z hh9=>?_)
 obtain⟨x,H1,I1,W,U⟩:=hh9
 obtain⟨t,f,rfl,hx,hk,q⟩:=U
 cases W
 obtain⟨l,K,S,hz⟩:=I1.list hx
 have j:l.toArray.size=f.length:=by rw[t5,<- K.length,u8,u8]
 have J:∀ i,f.getD i 0 < 8:=λi=>by
  by_cases r:i < f.length
  .rw[show f.getD i 0=f[i] by simp[r]];exact hk _ (u0l r)
  .rw[show f.getD i 0=0 by simp[m4 r]];decide
 have n:∀ (i:Nat) (v:Value),l.toArray[i]?=some v->∃ t,v=.int ((f.getD i 0:Nat):Int) t:=λi v Y=>by
  have y:l[i]?=some v:=by simpa using Y
  have r:i < f.length:=by have:=(q0.mp y).1;rw[t5]at j;omega
  obtain⟨u,O,ru⟩:=K.get (i:=i) (x:=V.int ((f.getD i 0:Nat):Int)) (by simp[r])
  rw[y]at O
  cases O
  obtain⟨t,e⟩:=ru
  exact⟨t,e⟩
 refine u0K ?_
 refine OwnSet.own_call_set (I.ok.hd N) S.isList J n λh2 a0 m T=>?_
 refine u0K ?_
 obtain⟨ep,tk,m⟩:=m
 refine OwnSet.own_sorted_set (I.ok.hd N) (OwnSet.bitsTo_lt J _) m λP h4 w C c R k3 k4 hL=>?_
 have I2:Inv X g σ H1 { Z with heap:=P,toks:=w }:=I1.kept λb u e=>k3 b u (T b u e)
 rw[j]at R
 have rl:=zcO R
 refine⟨.ref P.objs.size,_,I2.laid (t':=w) (λb o e=>k4 b o e) (t4 _) (show yJ X.prog X.w _ h4 _ (.lst (((zrf f).map λk:Nat=>(k:Int)).map V.int)) from⟨?_,C.toList,c,rl,by simpa using hL⟩),rfl,q _ (I2.hok.fresh (t4 _))⟩
 rw[u8,u8]
 exact k8 (OwnSet.len_small ⟨_,OwnSet.bitsTo_lt J f.length⟩) (by rw[u0r];decide)
end L2
namespace Dl
open PySem L2 PySem.Spec PyProof.Rows
variable [KK]{X:Cx}{e:Expr}
def zaK:List D->Option (List Nat)
 | []=>some []
 | .int i::ds=>if 0<=i/\i < 8 then (zaK ds).map (i.toNat::·)else none
 | _=>none
omit [KK] in
theorem zgo:∀ {a:List D} {e:List Nat},zaK a=some e->a=(e.map λk:Nat=>(k:Int)).map D.int/\∀ k∈e,k < 8:=by
 intro a
 induction a with
 | nil=>intro e h;cases h;exact⟨rfl,λk b=>by cases b⟩
 | cons d a j =>
  intro e h
  cases d with
  | int i =>
   unfold zaK at h
   by_cases c:0<=i/\i < 8
   .rw[t6 c]at h
    obtain⟨m,f,rfl⟩:=u9.mp h
    obtain⟨l,g⟩:=j f
    refine⟨?_,λk b=>?_⟩
    .rw[r4,r4,<- l,u0e c.1]
    .rcases q4.mp b with rfl | b
     .omega
     .exact g k b
   .rw[t9 c]at h;cases h
  | _=>cases h
def ssD:D->Option (List D)
 | .lst a=>(zaK a).map λb=>((zrf b).map λk:Nat=>(k:Int)).map D.int
 | _=>none
def fSS (f:Ev->Option D):Ev->Option (List D):=fun ρ=>(f ρ).bind ssD
theorem zfp {C j c a:Pos} {f:Ev->Option D} (r:X.calm=true) (k:Gl X "sorted") (h:X.mg "sorted"=none) (n:Gl X "set") (m:X.mg "set"=none) (A:ED X e f)
 (x:starEach [e] X.env=[(false,eval e X.env)]:=by rfl) (o:starEach [.Call (.Name "set" j) [e] [] a] X.env=[(false,eval (.Call (.Name "set" j) [e] [] a) X.env)]:=by rfl) :
 FL X (.Call (.Name "sorted" C) [.Call (.Name "set" j) [e] [] a] [] c) (fSS f):=by
 obtain⟨t,u,J⟩:=A
 refine⟨_,zf3 r k h Z2 n m zpq u x o,fun σ ρ F H z Q s G e q=>?_⟩
 obtain⟨d,L,g⟩:=u4.mp e
 refine J σ ρ F H d _ s G L λF1 H1 v b B=>?_
 unfold ssD at g
 split at g <;> try cases g
 rename_i N
 obtain⟨I,E,rfl⟩:=u9.mp g
 obtain⟨K,w⟩:=zgo E
 subst K
 obtain⟨p,M,rfl,y,bl⟩:=B.lst_inv
 have ex:=bl.of_ints
 subst ex
 exact⟨p,I,rfl,SqL.of (b.fh _ _ y),w,λl i=>q _ _ _ _ (b.trans (Gr.hide b.fh i _)) (zbJ b i) (b.fh.free i) zr (.ints _)⟩
end Dl
namespace L2
open PySem PySem.Spec PyProof.Rows
def KD {α:Type}:Sem α->Prop
 | .pure _=>True
 | .raise _=>True
 | .unsupported _=>True
 | .finish _=>True
 | .rule _ k=>KD (k ())
 | .at _ k=>KD (k ())
 | .load _ _ k=>∀ o,KD (k o)
 | .update _ _ f k=>(∀ o,(f o).dict=o.dict)/\KD (k ())
 | .loadIfAlive _ k=>∀ o,KD (k o)
 | .point _ k=>KD (k ())
 | .register _ _=>True
 | .alloc _ k=>∀ a,KD (k a)
 | .fresh k=>∀ t,KD (k t)
 | .ask k=>∀ x,KD (k x)
 | .handled _ k=>∀ x,KD (k x)
 | .stack k=>∀ x,KD (k x)
 | .thread k=>∀ n,KD (k n)
 | .choose _ _ _=>False
 | .os _ _ _=>False
 | .call _ _ _ _ _=>False
 | .newGen _ _=>False
 | .genState _ _=>False
 | .resume _ _ _ _=>False
 | .yield _ _ _ _=>False
 | .fork _ _=>False
 | .await _ _ _ _ _=>False
theorem znC {α β:Type}(f:α->Sem β)(i:∀ a,KD (f a)):∀ (m:Sem α),KD m->KD (m.bind f):=by
 intro m
 induction m with
 | pure a=>intro _;exact i a
 | raise e=>intro _;trivial
 | unsupported w=>intro _;trivial
 | finish e=>intro _;trivial
 | rule t k b=>intro h;exact b () h
 | «at» p k b=>intro h;exact b () h
 | load a p k b=>intro h o;exact b o (h o)
 | update a p g k b=>intro h;exact⟨h.1,b () h.2⟩
 | loadIfAlive a k b=>intro h o;exact b o (h o)
 | point l k b=>intro h;exact b () h
 | register a k b=>intro h;trivial
 | alloc o k b=>intro h a;exact b a (h a)
 | fresh k b=>intro h a;exact b a (h a)
 | ask k b=>intro h a;exact b a (h a)
 | handled o k b=>intro h a;exact b a (h a)
 | stack k b=>intro h a;exact b a (h a)
 | thread k b=>intro h a;exact b a (h a)
 | choose s n k b=>intro h;exact h.elim
 | os q l k b=>intro h;exact h.elim
 | call c h g l k b=>intro h;exact h.elim
 | newGen c k b=>intro h;exact h.elim
 | genState g k b=>intro h;exact h.elim
 | resume g r l k b=>intro h;exact h.elim
 | yield v g l k b=>intro h;exact h.elim
 | fork c k b=>intro h;exact h.elim
 | await a f d l k b=>intro h;exact h.elim
theorem yf {α β:Type}{m:Sem α}{f:α->Sem β}(b:KD m)(c:∀ a,KD (f a)):KD (m>>=f):=znC f c m b
def DK (h c:Heap):Prop:=∀ (b:Nat) (o:Obj),h.objs[b]?=some o->∃ a:Obj,c.objs[b]?=some a/\a.dict=o.dict
theorem DK.refl (h:Heap):DK h h:=λ_ o e=>⟨o,e,rfl⟩
theorem DK.trans {c f d:Heap}(a:DK c f)(b:DK f d):DK c d:=λp o e=>by
 obtain⟨h,i,g⟩:=a p o e
 obtain⟨l,j,k⟩:=b p h i
 exact⟨l,j,k.trans g⟩
theorem DK.push (h:Heap)(o:Obj):DK h (h.push o):=λb u e=>by
 refine⟨u,?_,rfl⟩
 obtain⟨a,l⟩:=h
 show(a.push o)[b]?=some u
 have c:b < a.size:=(u0j.mp e).1
 rw[Array.getElem?_push_lt c]
 exact(u0j.mp e).2 ▸ rfl
theorem DK.update (h:Heap)(a:Addr){f:Obj->Obj}(d:∀ o,(f o).dict=o.dict):DK h (h.update a f):=λb u e=>by
 obtain⟨c,l⟩:=h
 show ∃ g,(c.modify a f)[b]?=some g/\_
 rw[Array.getElem?_modify]
 have e:c[b]?=some u:=e
 split
 .rw[e];exact⟨f u,rfl,d u⟩
 .rw[e];exact⟨u,rfl,rfl⟩
theorem zgY {h:Heap}{b:Addr}{o:Obj}(e:h.get? b=some o):h.objs[b]?=some o:=by
 unfold Heap.get? at e
 split at e
 .cases e
 .exact e
theorem DK.of {h a:Heap}{b:Addr}{o f:Obj}(k:DK h a)(e:h.get? b=some o)(g:a.get? b=some f):f.dict=o.dict:=by
 obtain⟨i,c,d⟩:=k b o (zgY e)
 rw[zgY g]at c
 cases c
 exact d
theorem zrc {α:Type}(M:Model)(Γ:PySem.Ctx):∀ (m:Sem α) (Q:α->Pos->Shared->Prop) (E:Value->Pos->Shared->Prop) (p:Pos) (s b:Shared),KD m->DK b.heap s.heap->Sem.wp M Γ m Q E p s ->
 Sem.wp M Γ m (λa p j=>Q a p j/\DK b.heap j.heap) (λe p j=>E e p j/\DK b.heap j.heap) p s:=by
 intro m
 induction m with
 | pure a=>intro Q E p s b _ k h;exact⟨h,k⟩
 | raise e=>intro Q E p s b _ k h;exact⟨h,k⟩
 | unsupported w=>intro Q E p s b _ k h;exact h
 | finish e=>intro Q E p s b _ k h;exact h
 | rule t k i=>intro Q E p s b c d h;exact i () Q E p s b c d h
 | «at» p k i=>intro Q E p s b c d h;exact i () Q E _ s b c d h
 | load a p k i =>
  intro Q E p s b c d h
  obtain⟨o,e,h⟩:=h
  exact⟨o,e,i o Q E p s b (c o) d h⟩
 | update a p g k i =>
  intro Q E p s b c d h
  obtain⟨e,h⟩:=h
  exact⟨e,i () Q E p _ b c.2 (d.trans (.update s.heap a c.1)) h⟩
 | loadIfAlive a k i=>intro Q E p s b c d h;exact i _ Q E p s b (c _) d h
 | point l k i=>intro Q E p s b c d h;exact i () Q E p s b c d h
 | register a k i=>intro Q E p s b c d h;exact h
 | alloc o k i=>intro Q E p s b c d h;exact i _ Q E p _ b (c _) (d.trans (.push s.heap o)) h
 | fresh k i=>intro Q E p s b c d h;exact i _ Q E p _ b (c _) d h
 | ask k i=>intro Q E p s b c d h;exact i _ Q E p s b (c _) d h
 | handled o k i=>intro Q E p s b c d h;exact i _ Q E p s b (c _) d h
 | stack k i=>intro Q E p s b c d h;exact i _ Q E p s b (c _) d h
 | thread k i=>intro Q E p s b c d h;exact i _ Q E p s b (c _) d h
 | choose s n k i=>intro Q E p s b c;exact c.elim
 | os q l k i=>intro Q E p s b c;exact c.elim
 | call c h g l k i=>intro Q E p s b c;exact c.elim
 | newGen c k i=>intro Q E p s b c;exact c.elim
 | genState g k i=>intro Q E p s b c;exact c.elim
 | resume g r l k i=>intro Q E p s b c;exact c.elim
 | yield v g l k i=>intro Q E p s b c;exact c.elim
 | fork c k i=>intro Q E p s b c;exact c.elim
 | await a f d l k i=>intro Q E p s b c;exact c.elim
theorem zpT {α:Type}{M:Model}{A:Around}{t:Sem α}{Q:α->Shared->Prop}{E:Value->Shared->Prop}{s:Shared}(c:KD t)(h:wpAny M A t Q E s) :
 wpAny M A t (λa b=>Q a b/\DK s.heap b.heap) (λe b=>E e b/\DK s.heap b.heap) s:=fun Γ p d=>zrc M Γ t _ _ p s s c (.refl _) (h Γ p d)
theorem Xq {α:Type}{M:Model}{A:Around}{t:Sem α}{Q Q':α->Shared->Prop}{E:Value->Shared->Prop}{s:Shared}(c:KD t)(h:wpAny M A t Q E s)(k:∀ a b,Q a b->DK s.heap b.heap->Q' a b):wpAny M A t Q' E s :=
 o8 (zpT c h) (λa b x=>k a b x.1 x.2) λ_ _ x=>x.1
theorem zee (v:Value):KD (fieldsOf v):=by
 unfold fieldsOf
 split
 .refine yf (λ_=>trivial) λo=>?_
  split <;> trivial
 .trivial
theorem Ws (v:Value)(i:Nat):KD (field v i):=by
 unfold field
 refine yf (zee v) λa=>?_
 split <;> trivial
theorem VO (f:Array Value->Array Value)(o:Obj):(Obj.mapFields f o).dict=o.dict:=by
 obtain⟨c,d,x,s⟩:=o
 cases x <;> rfl
theorem Zi (v:Value)(i:Nat)(x:Value):KD (setField v i x):=by
 unfold setField
 split
 .unfold updateField
  refine yf (λ_=>trivial) λo=>?_
  split
  .split
   .exact⟨VO _,trivial⟩
   .trivial
  .trivial
 .trivial
theorem Yo (e:Value)(f:Option Addr):KD (setFlight e f):=by
 unfold setFlight
 refine yf (Ws e 1) λa=>?_
 split
 .exact Zi _ _ _
 .trivial
theorem zcW (ty:String)(b:List Value):KD (newFields ty b):=by
 have a:KD (newObjAsIs (Value.type ty) (Data.fields b.toArray)):=yf (λ_=>trivial) λ_=>trivial
 unfold newFields newObj
 show KD (if b.toArray.size > sizeLine+2 then _ else _)
 by_cases h:b.toArray.size > sizeLine+2
 .rw[t6 h]
  exact yf (show KD (unsupported (α:=Unit) _)from trivial) λ_=>a
 .rw[t9 h]
  exact a
theorem zdl (a b c d e:Value)(f:List Value):KD (EntryCells.newEntry a b c d e f):=zcW _ _
theorem zjP (f:Addr)(b:Bool):KD (entryPlaceOf f b):=by
 unfold entryPlaceOf
 refine yf (λ_=>trivial) λa=>?_
 split <;> trivial
theorem zcT:KD frameEnvs:=by
 unfold frameEnvs
 exact yf (λ_=>trivial) λ_=>trivial
theorem zkq:∀ l:List Env,KD (readyFrames l):=by
 intro l
 induction l with
 | nil=>trivial
 | cons env outer a =>
  unfold readyFrames
  split
  .refine yf (λ_=>trivial) λo=>?_
   split
   .trivial
   .refine yf ?_ λb=>yf ?_ λbk=>yf ⟨λo=>rfl,trivial⟩ λ_=>a
    .unfold behindIsImport
     split
     .trivial
     .split
      .trivial
      .exact yf (Ws _ _) λ_=>trivial
    .unfold keptBack
     split
     .split
      .trivial
      .unfold underTheClaimsCaller
       exact yf (λ_=>trivial) λ_=>trivial
     .trivial
  .trivial
theorem zgk (env:Env):KD (PySem.frameOf env):=by
 unfold PySem.frameOf
 refine yf zcT λl=>yf ?_ λo=>?_
 .unfold frameObject
  split
  .trivial
  .exact yf (zkq _) λ_=>trivial
 .split <;> trivial
theorem XR (e:Value)(env:Env):KD (noteFrame e env):=by
 unfold noteFrame
 split
 .rename_i f c
  refine yf (Ws e 1) λa=>?_
  have b:KD (do setField e 1 (<- EntryCells.newEntry a (<- PySem.frameOf env) .none (rawInt f) .none (<- entryPlaceOf f (a != .none)))):=yf (zgk env) λ_=>yf (zjP _ _) λ_=>yf (zdl _ _ _ _ _ _) λ_=>Zi _ _ _
  by_cases h:(a != Value.none)=true
  .dsimp only
   rw[t6 h]
   refine yf (Ws a 3) λx=>?_
   split
   .trivial
   .exact yf (Zi _ _ _) λ_=>b
  .dsimp only
   rw[t9 h]
   exact b
 .trivial
theorem Xy (env:Env)(e:Value):KD (leaving env e):=yf (XR e env) λ_=>Yo e none
end L2
namespace L2
open PySem PySem.Spec PyProof.Rows
open Sem (wp)
abbrev exH (h:Heap) (C:Addr) (a:List Value):Heap:=(h.push { cls:=.type "tuple",data:=.seq a.toArray }).push { cls:=.ref C,data:=.fields #[.ref h.objs.size,.none,.none,.none,.bool false,.none] }
theorem wT {h:Heap}{C:Addr}{us:List Value}{b:Addr}{o:Obj}(e:h.get? b=some o):(exH h C us).get? b=some o:=u5 _ (u5 _ e)
theorem zmm (h:Heap)(C:Addr)(a:List Value):(exH h C a).get? (h.objs.size+1)=some { cls:=.ref C,data:=.fields #[.ref h.objs.size,.none,.none,.none,.bool false,.none] }:=by heap_get
section
variable {prog:Program}{w:World}{A:Around}{E:Value->Shared->Prop}{h:Heap}{g:Array GenState}{d:Drawn}{t:Nat}{os:OsState}
 {nm q:Str} {C N fI:Addr} {bs bm:List Value} {hdct:Bool} {sn:List Str} {sub:List Value} {ab:Bool} {col:Option Bool} {dd:Option Addr} {k0 k1 k2 k3 k5:Option Value} {mN:Str->Option Value} {us:List Value} {oI:Obj}
theorem zf2 {R:Fin->Shared->Prop} (T:OwnTail h [.type "ValueError",.type "Exception",.type "BaseException",.type "object"] bm) (a:h.get? C=some (excClassObj nm q C N bs bm hdct sn sub ab col dd k0 k1 k2 k3 k5 "ValueError.__new__")) (s:h.Ns N mN) (y:mN "__init__"=some (.ref fI)) (x:h.get? fI=some oI) (m:oI.cls=.type "function")
 (k:wpAny (model prog w) A (call (.ref fI) (.ref (h.objs.size+1)::us)) (λr i=>r=.none/\R (.done (.ret (.ref (h.objs.size+1)))) i) E ⟨exH h C us,g,d,t,os⟩) (p:us.length<=sizeLine) :
 wpAny (model prog w) A (Builtin.«type.__call__» ⟨.ref C::us,[]⟩) R E ⟨h,g,d,t,os⟩:=by
 have FV:=i2
 repeat (first | with_reducible refine wpAny_madeBy_exc a ?_ | with_reducible refine u0O a ?_ | wp_step)
 refine codeAny_call_builtin_code (u1a _ FV.quiet) (wpAny_check_new_subU FV (by decide) T a (codeAny_exc_new_subU FV (by decide) FV T a ?_ p))
 show wpAny _ _ _ _ _ _
 have j:=wT (us:=us) (C:=C) a
 have n:=wT (us:=us) (C:=C) x
 have v:(exH h C us).Ns N mN:=let ⟨ob,ens,epo,e1,r1⟩:=s;⟨ob,ens,epo,wT e1,r1⟩
 have u:=T.keeps (h':=exH h C us) λb o e=>wT e
 have l:=zmm h C us
 have f:(Value.ref C::bm).contains (.ref C)=true:=by simp
 unfold isInstance
 repeat (first | (with_reducible refine wpAny_isSubtype_exc j ?_;rw[f]) | with_reducible refine u0O l ?_ | wp_step)
 show wpAny _ _ (typeLookup (.ref C) _) _ _ _
 refine wpAny_typeLookup_tail j v u FV.mroIs FV.init.lookup ?_
 rw[y]
 refine r6 (u0 ?_)
 unfold bindSpecial
 refine u0 (u0x (T:="function") ⟨_,n,m⟩ ?_)
 rw[t6 (by decide)]
 refine u6 (u0 (o8 k (λr i c=>?_) λ_ _ z=>z))
 obtain⟨rfl,c⟩:=c
 wp_walk
 exact c
theorem zji {R:Value->Shared->Prop} (T:OwnTail h [.type "ValueError",.type "Exception",.type "BaseException",.type "object"] bm) (a:h.get? C=some (excClassObj nm q C N bs bm hdct sn sub ab col dd k0 k1 k2 k3 k5 "ValueError.__new__")) (j:h.Ns N mN) (e:mN "__init__"=some (.ref fI)) (c:h.get? fI=some oI) (b:oI.cls=.type "function")
 (k:wpAny (model prog w) (A.under (.builtin "type.__call__" ⟨.ref C::us,[]⟩)) (call (.ref fI) (.ref (h.objs.size+1)::us)) (λr i=>r=.none/\R (.ref (h.objs.size+1)) i) E ⟨exH h C us,g,d,t,os⟩) (f:us.length<=sizeLine) :
 wpAny (model prog w) A (call (.ref C) us) R E ⟨h,g,d,t,os⟩:=by
 have m:=tc_lookup
 have n:=tc_bind (.ref C)
 have l:(⟨h,g,d,t,os⟩:Shared).TypeIs (.ref C) "type":=⟨_,a,rfl⟩
 refine u1w (codeAny_of_tree ?_)
 show wpAny _ _ (callAny (.ref C) _) _ _ _
 repeat (any_goals (first | with_reducible refine u0O a ?_ | assumption | wp_step))
 refine⟨rfl,codeAny_call_builtin_at (u1a _ (by decide +kernel)) entry_typeCall (wpAny_check_type_call_sub a (zf2 T a j e c b ?_ f))⟩
 exact k
end
theorem zfs {M:Model}{A:Around}{E:Value->Shared->Prop}{env:Env}{s:Shared}{x:Sem Value}{Q:Flow->Shared->Prop}{nm q:Str}{C N:Addr}{bs bm:List Value}{hdct:Bool}{sn:List Str}{sub:List Value}{ab:Bool}{col:Option Bool}{dd:Option Addr}{k0 k1 k2 k3 k5:Option Value}{newId:String}
 (i:bm.contains (.type "BaseException")=true) (hh:A.handled=none) (h:wpAny M A x (λv a=>∃ e t d f,v=.ref e/\a.heap.get? C=some (excClassObj nm q C N bs bm hdct sn sub ab col dd k0 k1 k2 k3 k5 newId) /\
  a.heap.get? e=some { cls:=.ref C,dict:=d,data:=.fields #[.ref t,.none,.none,.none,.bool false,.none],slots:=f }/\E (.ref e) a) E s):wpAny M A (raiseStmt env (some x) none) Q E s:=by
 have b:(Value.ref C::bm).contains (.type "BaseException")=true:=by rw[List.contains_cons,i,Bool.or_true]
 unfold raiseStmt
 refine u0 (o8 h (λv a z=>?_) λ_ _ z=>z)
 obtain⟨e,t,d,f,rfl,c,j,g⟩:=z
 obtain⟨m,n,k,l,os⟩:=a
 repeat (first | with_reducible refine u0O c ?_ | with_reducible refine u0O j ?_ | (with_reducible refine wpAny_isSubtype_exc c ?_;rw[b]) | wp_step)
 exact wpAny_raiseNew_none hh g
end L2
namespace L2
open PySem PySem.Spec PyProof.Rows
section
variable {prog:Program}{w:World}{A:Around}{E:Value->Shared->Prop}{s:Shared}{env:Env}
 {nm q:Str} {C N fI:Addr} {bs bm:List Value} {hdct:Bool} {sn:List Str} {sub:List Value} {ab:Bool} {col:Option Bool} {dd:Option Addr} {k0 k1 k2 k3 k5:Option Value} {mN:Str->Option Value} {oI:Obj}
theorem zfF {x:Str} {B c o:Pos} {args:List Expr} {Q:Flow->Shared->Prop} (J:bm.contains (.type "BaseException")=true) (hh:A.handled=none) (l:(backTo c (starEach args env)).any (·.1)=false) (O:mN "__init__"=some (.ref fI)) (G:oI.cls=.type "function")
 (h:wpAny (model prog w) A (eval (.Name x B) env) (λf F=>f=.ref C/\wpAny (model prog w) A (evalArgs (.ref C) true (backTo c (starEach args env)) []) (λa b=>a.kw=[]/\a.pos.length<=sizeLine /\
  b.heap.get? C=some (excClassObj nm q C N bs bm hdct sn sub ab col dd k0 k1 k2 k3 k5 "ValueError.__new__")/\b.heap.Ns N mN/\OwnTail b.heap [.type "ValueError",.type "Exception",.type "BaseException",.type "object"] bm/\b.heap.get? fI=some oI /\
  wpAny (model prog w) (A.under (.builtin "type.__call__" ⟨.ref C::a.pos,[]⟩)) (call (.ref fI) (.ref (b.heap.objs.size+1)::a.pos)) (λr e=>r=.none/\∃ t m n,e.heap.get? C=some (excClassObj nm q C N bs bm hdct sn sub ab col dd k0 k1 k2 k3 k5 "ValueError.__new__") /\
   e.heap.get? (b.heap.objs.size+1)=some { cls:=.ref C,dict:=m,data:=.fields #[.ref t,.none,.none,.none,.bool false,.none],slots:=n }/\E (.ref (b.heap.objs.size+1)) e) E { b with heap:=exH b.heap C a.pos }) E F) E s) :
 wpAny (model prog w) A (exec (.Raise (some (.Call (.Name x B) args [] c)) none o) env) Q E s:=by
 rw[arm_exec_Raise]
 refine u0 (u1l (zfs (C:=C) (nm:=nm) (q:=q) (N:=N) (bs:=bs) (bm:=bm) (hdct:=hdct) (sn:=sn) (sub:=sub) (ab:=ab) (col:=col) (dd:=dd) (k0:=k0) (k1:=k1) (k2:=k2) (k3:=k3) (k5:=k5) (newId:="ValueError.__new__") J hh (u0 (o8 (wpAny_Call_ofName (o8 h (λf F z=>?_) λ_ _ z=>z)) (λv e z=>u0 (u1l (u6 z))) λ_ _ z=>z))))
 obtain⟨rfl,z⟩:=z
 unfold callWith
 refine u0 (r6 (o8 z (λa b y=>u0 (u1l ?_)) λ_ _ z=>z))
 obtain⟨R,M⟩:=a
 obtain⟨j,i,D,L,I,K,k⟩:=y
 obtain rfl:M=[]:=j
 obtain⟨S,g,d,P,os⟩:=b
 simp only[l]
 refine u0 (wpAny_keeperOf_exc D (u0 (zji I D L O K G (o8 k (λr e y=>?_) λ_ _ z=>z) i)))
 obtain⟨rfl,t,m,n,p,u,H⟩:=y
 exact⟨rfl,u0 (r6 (wpAny_point (u6 ⟨_,t,m,n,rfl,p,u,H⟩)))⟩
end
def zpZ (K:W.Frag)(C f:Addr):Bool:=match K.lookup C with
 | some ⟨.type "type",_,.cls cd,sl⟩=>(match cd.mro,sl.toList with
  | .ref C'::bm,[_,_,_,_,some (.builtin n),_]=>(C' == C)&&(n == "ValueError.__new__"&&(!cd.hasDel&&(cd.hasDict&&(W.tailIn K [.type "ValueError",.type "Exception",.type "BaseException",.type "object"] bm&&(W.nsOkIn K cd.ns&&(W.nsIn K cd.ns "__init__" == some (some (.ref f))&&(match K.lookup f with | some of=>of.cls == .type "function" | none=>false)))))))
  | _,_=>false)
 | _=>false
theorem znz {K:W.Frag}{h:Heap}{N:Addr}{m:Str->Option Value}{n:Str}{v:Value}(X:K.In h)(G:h.Ns N m)(e:W.nsIn K N n=some (some v)):m n=some v:=by
 obtain⟨j,d,f,c,b,_,g⟩:=G
 unfold W.nsIn at e
 split at e
 .rename_i i
  have z:=(X _ _ i).symm.trans c
  cases z
  cases b
  split at e
  .rename_i k a
   cases e
   rw[<-g]
   unfold nsFind findBy
   rw[<-Array.find?_toList,a]
   rfl
  .split at e <;> cases e
 .cases e
theorem zjT {K:W.Frag}{h:Heap}{C f:Addr}(X:K.In h)(e:zpZ K C f=true) :
 ∃ k N v q y x d t g u i p j o r E m,h.get? C=some (excClassObj v q C N y k true x d t g u i p j o r "ValueError.__new__")/\h.Ns N E/\E "__init__"=some (.ref f)/\OwnTail h [.type "ValueError",.type "Exception",.type "BaseException",.type "object"] k/\h.get? f=some m/\m.cls=.type "function":=by
 unfold zpZ at e
 split at e
 .rename_i u J F I
  split at e
  .rename_i C' k i p j o n r D A
   simp only[j3,u0u,u2t]at e
   obtain⟨rfl,rfl,b,a,H,c,G,z⟩:=e
   obtain⟨v,y,O,B,M,P,x,d,t,g,L⟩:=J
   dsimp only at D b a c G
   subst D b a
   have w:F=#[i,p,j,o,some (.builtin "ValueError.__new__"),r]:=by
    obtain⟨l⟩:=F
    simp only at A
    rw[A]
   subst w
   split at z
   .rename_i m s
    exact⟨k,B,v,M,y,x,d,t,g,u,i,p,j,o,r,h.nsMap B,m,X _ _ I,.of_isNs (u2c X c),znz X (.of_isNs (u2c X c)) G,W.tail_of_in X H,X _ _ s,u0u.mp z⟩
   .cases z
  .cases e
 .cases e
end L2
namespace L2
open PySem PySem.Spec PyProof.Rows PySem.Builtin PySem.Builtin.ObjectAttr
abbrev veV:List Value:=[.type "ValueError",.type "Exception",.type "BaseException",.type "object"]
def zhj:List Value->Bool
 | .ref _::r=>zhj r
 | l=>l == veV
theorem zgM (a:Value):∀ {l:List Value},zhj l=true->refuseLoop a "__setattr__" l=pure ():=by
 intro l
 induction l with
 | nil=>intro e;cases e
 | cons v r b =>
  intro e
  cases v with
  | ref c=>rw[refuseLoop_ref];exact b e
  | _=>exact u0u.mp (show((_:List Value) == veV)=true from e) ▸ PySem.F.store_ValueError.passes a
theorem zif:∀ {l:List Value},zhj l=true->l.contains (.type "object")=true/\l.isEmpty=false:=by
 intro l
 induction l with
 | nil=>intro e;cases e
 | cons v r a =>
  intro e
  refine⟨?_,rfl⟩
  cases v with
  | ref c=>rw[List.contains_cons,(a e).1,Bool.or_true]
  | _=>rw[u0u.mp (show((_:List Value) == veV)=true from e)];decide +kernel
def zcv (K:W.Frag) (C:Addr):Bool:=(W.clsIn K C).any (λa=>zhj a.mro&&a.hasDict)&&W.findIn K (.ref C) "__setattr__" == some (some (.builtin "object.__setattr__"))&&W.findIn K (.ref C) "__getattribute__" == some (some (.builtin "BaseException.__getattribute__"))&&W.findIn K (.ref C) "__getattr__" == some none&&W.subIn K (.ref C) (.type "BaseException") == some true
structure v1 (K:W.Frag) (C:Addr):Prop where
 cls:∃ cd,W.clsIn K C=some cd/\zhj cd.mro=true/\cd.hasDict=true
 sa:W.findIn K (.ref C) "__setattr__"=some (some (.builtin "object.__setattr__"))
 ga:W.findIn K (.ref C) "__getattribute__"=some (some (.builtin "BaseException.__getattribute__"))
 gt:W.findIn K (.ref C) "__getattr__"=some none
 sb:W.subIn K (.ref C) (.type "BaseException")=some true
theorem v1.of {K:W.Frag}{C:Addr}(h:zcv K C=true):v1 K C:=by
 unfold zcv at h
 simp only[j3,u0u]at h
 obtain⟨b,e,a⟩:=W.any_some h.1.1.1.1
 rw[j3]at a
 exact⟨⟨b,e,a.1,a.2⟩,h.1.1.1.2,h.1.1.2,h.1.2,h.2⟩
section
variable {prog:Program}{w:World}{A:Around}{E:Value->Shared->Prop}{s:Shared}{K:W.Frag}{x C:Addr}{ox:Obj}{od:Option Obj}{name:Str}{v:Value}
theorem znL {a:Tok}{R:Result->Shared->Prop}(X:K.In s.heap)(I:PySem.W.InstAt s.heap x ox C od)(l:v1 K C)(o:W.findIn K (.ref C) name=some none)
 (h:wpAny (model prog w) A.in1 (storeInOwnDict (.ref x) (.ref C) (.str name a) name v false) (λfin b=>match fin with | .done f=>R (.ok f) b | .again k=>k.quiet=true/\codeAny (model prog w) A k R b) (λe b=>R (.error e) b) s) :
 codeAny (model prog w) A (.call (.builtin "object.__setattr__") ⟨[.ref x,.str name a,v],[]⟩) R s:=by
 have SO:=PySem.F.store_object
 obtain⟨m,i,j,_⟩:=l.cls
 obtain⟨g,c⟩:=zif j
 have d:PySem.W.Looks (model prog w) s.heap (isInstance (.ref x) (.type "object")) true:=I.type.andThen (W.looks_mroIn X (by unfold W.mroIn;rw[i,j7,t9 (by rw[c];decide),g]))
 refine u0s SO.slot.plain SO.entry (@W.check_slot (model prog w) _ _ s "object.__setattr__" "object" "__setattr__" (.ref x) [.str name a,v] [] _ SO.kind SO.split d (SO.args (.ref x) (.str name a) v) ?_)
 have n:PySem.W.Looks (model prog w) s.heap (mroOf (.ref C)) m.mro:=(W.looks_clsIn X i).andThen .now
 have p:PySem.W.Looks (model prog w) s.heap (storeTaker? none) none:=.now
 rw[W.osa_eq,refuse_eq]
 refine u0 (u0 (I.type.here (u0 (n.here ?_))))
 rw[zgM _ j]
 exact u6 (u0 (I.type.here (u0 ((u1K X o).here (u0 (p.here h))))))
theorem zm9 {Q:Unit->Shared->Prop}(X:K.In s.heap)(I:PySem.W.InstAt s.heap x ox C od)(a:v1 K C)(d:W.findIn K (.ref C) name=some none)
 (h:wpAny (model prog w) A.in1 (storeInOwnDict (.ref x) (.ref C) (.str name s.toks) name v false) (λfin b=>match fin with | .done (.ret _)=>Q () b | _=>False) E { s with toks:=s.toks+1 }) :
 wpAny (model prog w) A (setAttr (.ref x) name v) Q E s:=by
 refine W.set_plain X I a.sa (znL (s:={ s with toks:=s.toks+1 }) X I a d (o8 h (λfin b z=>?_) λ_ _ z=>z))
 cases fin with
 | again c=>exact z.elim
 | done f=>cases f <;> first | exact z | exact z.elim
theorem zf8 {M:Model} {a:Value} {Q:Unit->Shared->Prop} (X:K.In s.heap) (I:PySem.W.InstAt s.heap x ox C od) (d:W.subIn K (.ref C) (.type "BaseException")=some true) (e:Q () s):wpAny M A (checkBuiltinCall "BaseException.__getattribute__" ⟨[.ref x,a],[]⟩) Q E s:=by
 have c:builtinKind "BaseException.__getattribute__"=some .slot:=by decide +kernel
 have b:splitId "BaseException.__getattribute__"=some ("BaseException","__getattribute__"):=by decide +kernel
 have f:=PySem.F.args_bexc_ga (.ref x) a
 have L0:=I.type (M:=M)
 have L1:PySem.W.Looks M s.heap (isSubtype (.ref C) (.type "BaseException")) true:=W.looks_subIn X d
 simp only[checkBuiltinCall,c,b]
 refine u0 ?_
 unfold isInstance
 refine u0 (L0.here (L1.here ?_))
 repeat (first | assumption | wp_step)
theorem zkE {Q:Unit->Shared->Prop}(X:K.In s.heap)(i:s.heap.get? x=some ox)(d:ox.cls=.ref C)(a:PySem.W.notCls ox=true)(l:ox.dict=none)(z:v1 K C)(G:PySem.W.findIn K (.ref C) name=some none)
 (h:∀ g:Heap,g.get? x=some { ox with dict:=some s.heap.objs.size }->g.Ns1 s.heap.objs.size (λy=>if y=name then some v else none)->(∀ b o,b≠x->s.heap.get? b=some o->g.get? b=some o)->Q () { s with heap:=g,toks:=s.toks+2 }) :
 wpAny (model prog w) A (setAttr (.ref x) name v) Q E s:=by
 have I:PySem.W.InstAt s.heap x ox C none:=⟨i,d,a,by rw[l];trivial⟩
 refine zm9 X I z G ?_
 obtain⟨W,D,_,hh⟩:=z.cls
 have N:=PySem.W.looks_clsIn (M:=model prog w) X D
 unfold storeInOwnDict
 refine u0 (u6 ?_)
 have j:(Value.ref C == Value.type "module")=false:=rfl
 simp only[j]
 unfold ownDictForStores instanceDict
 refine u0 ?_
 refine u0 (wpAny_loadPart i ?_)
 obtain⟨U,H,f,r⟩:=ox
 dsimp only at d l
 subst d l
 dsimp only
 refine u0 (N.here (s:={ s with toks:=s.toks+1 }) ?_)
 rw[hh]
 rw[t9 (by decide),t9 (by simp[typeHasDict])]
 have O:∀ c,f≠.cls c:=λc e=>by rw[e]at a;cases a
 split
 .rename_i c;exact absurd rfl (O c)
 have u:(s.heap.push { cls:=.type "dict",data:=.dict #[] }).get? x=some ⟨.ref C,none,f,r⟩:=u5 _ i
 have B:x≠s.heap.objs.size:=q5 (t3 i)
 refine u0 (wpAny_alloc' (u0 (wpAny_update' u (u6 ?_))))
 generalize m:((s.heap.push { cls:=Value.type "dict",data:=Data.dict #[] }).update x λo=>{ cls:=o.cls,dict:=some s.heap.objs.size,data:=o.data,slots:=o.slots })=h1
 have F:h1.get? s.heap.objs.size=some { cls:=.type "dict",data:=.dict #[] }:=by rw[<-m];exact(Heap.get?_update_ne _ _ _ _ B.symm).trans (Heap.get?_push_at rfl rfl)
 have P:h1.Ns s.heap.objs.size (λ_=>none):=⟨_,#[],_,F,rfl,λe L=>absurd L (by simp),λ_=>rfl⟩
 show wpAny _ _ (storeInDict s.heap.objs.size (.str name s.toks) name v) _ _ _
 unfold storeInDict newKeyGuard
 refine u0 (u6 (u0 (wpAny_nsSet1 (Heap.Ns1.of_empty P) λg k t=>?_)))
 obtain⟨T,S,V,p,n,q⟩:=k.count (Within.cons name v Within.nil)
 refine u0 (wpAny_lookBehind p (by rw[n];exact pastItsLine_dict (k8 q (by rw[g0,u1X,u0r];omega))) (u6 (h g ?_ k λb o J e=>?_)))
 .refine(t.2 x B).trans ?_
  rw[<-m]
  refine k9 _ u ?_
  have R:=(Heap.get?_some_iff.mp i).2
  cases f <;> first | rfl | exact R
 .refine(t.2 b (q5 (t3 e))).trans ?_
  rw[<-m]
  exact(Heap.get?_update_ne _ _ _ _ J).trans (u5 _ e)
theorem znu {f:Str}{b:Bool}{Q:Value->Shared->Prop}(X:K.In s.heap)(I:PySem.W.InstAt s.heap x ox C od)(a:v1 K C)(k:W.findObj K C od f=some (.value v))(i:W.handedIn v=true)
 (h:Q v { s with toks:=s.toks+1 }):wpAny (model prog w) A (getAttr (.ref x) f b) Q E s:=by
 obtain⟨hh,g,d,t,os⟩:=s
 have L0:=I.type (M:=model prog w)
 have L1:=u1K (M:=model prog w) X a.ga
 have L2:=u1K (M:=model prog w) X a.gt
 have L3:=W.looks_find (M:=model prog w) X I k
 have j:=u12.ga.bind (.ref x)
 have c:(Value.builtin "BaseException.__getattribute__" == Value.builtin "object.__getattribute__")=false:=by decide +kernel
 have e:(b&&onTheHeap (Value.builtin "BaseException.__getattribute__"))=false:=by cases b <;> rfl
 unfold getAttr getAttrBy
 refine u0 (wpAny_mkText (r6 (u0 (L0.at (u0 (L1.at ?_))))))
 dsimp only
 rw[c,m9,t9 u7]
 unfold getAttrByItsOwn
 refine u0 ?_
 show wpAny _ _ (typeLookup (.ref C) "__getattr__") _ _ _
 refine L2.at (u0 (u0p (r6 ?_)))
 unfold callGetattribute
 rw[e,t9 u7]
 unfold boundAndCalled
 rw[j]
 refine u0 (u6 ?_)
 refine u1w (u0s u12.ga.plain PySem.F.entry_bexc_ga ?_)
 refine zf8 X I a.sb ?_
 refine u0 (u6 (u0 (u6 (u0 (L0.at (u0 (L3.at ?_)))))))
 refine u6 ?_
 show wpAny _ _ (handedOut v) _ _ _
 rw[W.handedOut_of i];exact u6 h
end
end L2
namespace L2
open PySem PySem.Spec PyProof.Rows
section
variable {P:Program}{w:World}{H H':Hp}{h h':Heap}{a:Addr}{o:HO}
theorem yJ.ex (x:yJ P w H h a o):∃ u,h.get? a=some u:=by
 cases o with
 | lst g=>obtain⟨_,_,_,_,e⟩:=x;exact⟨_,e⟩
 | tup g=>obtain⟨_,_,_,c,e,_⟩:=x;exact⟨_,e⟩
 | dK b=>obtain⟨_,_,_,_,o,_,_,e,_⟩:=x;exact⟨_,e⟩
 | dT b=>obtain⟨_,_,_,_,o,_,_,e,_⟩:=x;exact⟨_,e⟩
 | set S n=>obtain⟨o,_,_,_,e,_⟩:=x;exact⟨_,e⟩
 | ins C i d=>obtain⟨_,_,_,e,_⟩:=x;exact⟨_,e⟩
 | own y=>exact x
 | xd d=>obtain⟨_,⟨_,_,_,e,_⟩,_⟩:=x;exact⟨_,e⟩
 | rng j l=>obtain⟨_,_,_,e⟩:=x;exact⟨_,e⟩
 | frz c u=>obtain⟨e,_⟩:=x;exact⟨_,e⟩
 | tbl k=>exact⟨_,(show h.get? a=some _ from x)⟩
 | met f y=>exact⟨_,(show h.get? a=some _ from x)⟩
 | ext φ=>obtain⟨_,⟨_,e⟩,_⟩:=x;exact⟨_,e⟩
theorem HOk.stays (x:HOk P w H h)(k:∀ b u,H b≠none->h.get? b=some u->h'.get? b=some u):HOk P w H h':=λa o e =>
 (x a o e).stay (λb u c q=>k b u (by
  rcases c with rfl | c
  .rw[e];intro z;cases z
  .rw[c];intro z;cases z) q) (λ_ q=>q) λ_ _ q=>q
end
structure Cov (outer:List Env) (H:Hp) (h:Heap) (H':Hp) (h' B:Heap):Prop where
 old:∀ b o,h.get? b=some o->H b=none->b∉frs outer->B.get? b=some o
 there:∀ b o,h.get? b=some o->b∉frs outer->∃ o',B.get? b=some o'
 new:∀ b o,H' b≠none->h'.get? b=some o->B.get? b=some o
def Zv (h:Heap)(a:Addr)(c:Option Addr):Prop:=∃ b,h.get? a=some b/\b.dict=c
theorem Zv.stay {h c:Heap}{a:Addr}{f:Option Addr}(d:Zv h a f)(k:DK h c)(e:∃ i,c.get? a=some i):Zv c a f:=by
 obtain⟨i,j,l⟩:=d
 obtain⟨b,g⟩:=e
 exact⟨b,g,(k.of j g).trans l⟩
def Air (P:Program)(w:World):CXT:=λouter H s E e a =>
 ∃ (b C t:Addr) (c:Option Addr) (H':Hp) (B:Heap),e=.ref b/\a.os=s.os/\AllBare a.gens/\Un (frs outer) [] H H' s.heap a.heap/\HOk P w H' a.heap /\
  Heap.FlyingW B outer b (.ref C) (.ref t) a.heap/\Cov outer H s.heap H' a.heap B/\Zv a.heap b c/\E (.ref C) c H'
section
variable {X:Cx}{pins:List (Addr × Obj)}{σ:St}{H H':Hp}{s s':Shared}{E:XK}{e:Value}{M:Model}{E2:Value->Shared->Prop}
theorem Inv.airUn (l:X.ex=[])(I:Inv X pins σ H s){g B:Heap}(J:Inv X pins σ H' s')(f:Cov X.stack H s.heap H' s'.heap B)(j:B.StaysIn g)(p:g.FunFrames B X.outer)(x:s'.heap.UpToSlots g) :
 Un X.fs [] X.H₀ H' X.s₀.heap g/\HOk X.prog X.w H' g/\Cov X.outer X.H₀ X.s₀.heap H' g B:=by
 have r:∀ b o,X.s₀.heap.get? b=some o->b≠X.env.locals:=λb o e=>q5 (t8 (t3 e) I.ok.above)
 have h:∀ b o,X.s₀.heap.get? b=some o->b∉X.fs->b∉frs X.stack:=λb o e n z=>(q4.mp (I.stkSub b z)).elim (r b o e) n
 have nx:∀ b:Addr,b∉X.ex:=by rw[l];simp
 have c:Cov X.outer X.H₀ X.s₀.heap H' g B:=by
  refine⟨λb o e n a=>f.old b o (I.base.keep b o e n a (nx b)) (I.base.free b o e n (nx b)) (h b o e a),λb o e a=>?_,λb o a e=>?_⟩
  .obtain⟨i,k⟩:=I.base.there b o e (nx b)
   exact f.there b i k (h b o e a)
  .cases q:H' b with
   | none=>exact absurd q a
   | some u =>
    obtain⟨t,A⟩:=(J.hok b u q).ex
    have z:=f.new b t a A
    have v:=j b t z
    rw[e]at v
    cases v
    exact z
 refine⟨⟨λb o e n a _=>j b o (c.old b o e n a),λb o e n a _=>?_,λb o e n _=>J.base.free b o e n (nx b),λb o e _=>?_,J.base.tups,J.base.frzs,J.base.tbls⟩,J.hok.stays λb u a y=>j b u (f.new b u a y),c⟩
 .obtain⟨F,D⟩:=J.base.slot b o e n a (nx b)
  obtain⟨_,w,d,C⟩:=I.ok.funs.mem a
  rw[e]at d
  cases d
  obtain⟨m,E⟩:=x b _ D C
  exact⟨m,E⟩
 .by_cases a:b∈X.fs
  .obtain⟨_,w,d,_⟩:=p.mem a
   exact⟨w,d⟩
  .obtain⟨i,k⟩:=c.there b o e a
   exact⟨i,j b i k⟩
theorem zqL (h:X.stack=X.env::X.outer)(D:X.env.frame=some X.env.locals)(i:X.ex=[])(I:Inv X pins σ H s)(a:Air X.prog X.w X.stack H s E e s') :
 wpAny M X.A (leaving X.env e) (λ_ d=>Air X.prog X.w X.outer X.H₀ X.s₀ E e d) E2 s':=by
 obtain⟨o,C,t,w,H',B,rfl,os,c,y,l,n,m,p,r⟩:=a
 have J:Inv X pins σ H' s':=I.call' (ch:=[]) os y l c (λb z=>nomatch z)
 rw[h]at n
 refine Xq (Xy _ _) (wpAny_leaves_onW (Q:=λ_ d=>∃ g,d={ s' with heap:=g }/\Heap.FlyingW B X.outer o (.ref C) (.ref t) g/\s'.heap.UpToSlots g) (by rw[I.ok.frames,h]) D n λg f k=>⟨g,rfl,f,k⟩) ?_
 rintro _ _ ⟨g,rfl,f,k⟩ u
 obtain⟨x,A,v⟩:=I.airUn i J m f.1 f.2.2.1 k
 obtain⟨q,j,_⟩:=f.there
 exact⟨o,C,t,w,H',B,rfl,os.trans I.os,c,x,A,f,v,p.stay u ⟨q,j⟩,r⟩
end
theorem wo {P:Program}{w:World}{K:W.Frag}{g:Str->Option Value}{d:Heap}{N:List Str}{c:Str}{b:Scope}{f:Addr}{h:Value}{A:Around}{outer:List Env}{s:Shared}{H:Hp}{E:XK} :
 Yh (Air P w) (vX (Air P w) P w K g d N c b f h A outer s H E) E:=λi σ H1 k e j I a =>
 zqL (X:=vX (Air P w) P w K g d N c b f h A outer s H E) rfl rfl rfl I a
theorem zhL {P:Program}{w:World}{K:PySem.W.Frag}{x:Str->Option Value}{i:Heap}{N:List Str}{j:Str}{c:Scope}{f:Addr}{y:Value}{A:Around}{outer:List Env}{s:Shared}{H:Hp}{E:XK}
 {k:List (Addr × Obj)} {σ:St} {H1:Hp} {g:Shared} {l:Heap} {p C:Addr} {args:List Value}
 (I:Inv (vX (Air P w) P w K x i N j c f y A outer s H E) k σ H1 g) (F:Heap.MadeExcOf g.heap l p (.ref C) args) (T:E (.ref C) none H1) :
 (vX (Air P w) P w K x i N j c f y A outer s H E).xe (.ref p) { g with heap:=l }:=by
 let X:=vX (Air P w) P w K x i N j c f y A outer s H E
 have I:Inv X k σ H1 g:=I
 have d:∀ b o,g.heap.get? b=some o->l.get? b=some o:=F.keeps
 have O:∀ env∈X.stack,∀ a,env.frame=some a->a∈frs X.stack:=λenv Y a ha=>u1d.mpr ⟨env,Y,ha⟩
 have J:Inv X k σ H1 { g with heap:=l }:=by
  have:=I.un (t':=g.toks) (H':=H1) (h':=l) (Un.kept d) (I.hok.kept d)
  exact this
 show wpAny (model P w) X.A (leaving X.env (.ref p)) (λ_ m=>Air P w outer H s E (.ref p) m) _ { g with heap:=l }
 refine Xq (Xy _ _) (wpAny_leaves_madeW (Q:=λ_ m=>∃ n t,m={ g with heap:=n }/\Heap.FlyingW (PySem.W.hideAll g.heap (frs X.stack)) outer p (.ref C) (.ref t) n/\l.UpToSlots n) (base:=PySem.W.hideAll g.heap (frs X.stack)) (h:=g.heap) (L:=X.env.locals) (outer:=outer) (I.ok.frames) rfl (λb o q=>u2d _ q) (PySem.W.funFrames_hide I.stack O) F λn t r x2 x3 R=>⟨n,t,rfl,r,R⟩) ?_
 rintro _ _ ⟨n,t,rfl,r,R⟩ Z
 obtain⟨D,B,_⟩:=r.there
 have W:Zv n p none:=by
  obtain⟨U,M,_⟩:=F.there
  exact Zv.stay (h:=l) ⟨_,M,rfl⟩ Z ⟨D,B⟩
 have G:Cov X.stack H1 g.heap H1 l (PySem.W.hideAll g.heap (frs X.stack)):=by
  refine⟨λb o e _ v=>i5 _ e v,λb o e v=>⟨o,i5 _ e v⟩,λb o v e=>?_⟩
  cases q:H1 b with
  | none=>exact absurd q v
  | some u =>
   obtain⟨D,S⟩:=(I.hok b u q).ex
   have z:=d b D S
   rw[e]at z
   cases z
   exact i5 _ S λz=>v (I.stkFree b z)
 obtain⟨u1,V,u3⟩:=I.airUn (X:=X) rfl J G r.1 r.2.2.1 R
 exact⟨p,C,t,none,H1,_,rfl,I.os,I.bare,u1,V,r,u3,W,T⟩
abbrev bmV:List Value:=[.type "ValueError",.type "Exception",.type "BaseException",.type "object"]
structure XCls (K:W.Frag) (mg:Str->Option Value) (C:Addr) (x:Str):Prop where
 bound:mg x=some (.ref C)
 exc:W.excIn K C bmV "ValueError.__new__"=true
theorem zmL {K:W.Frag}{i:Heap}{C:Addr}{f:List Value}{a:String}(X:K.In i)(q:W.excIn K C f a=true) :
 ∃ m N u q x g w d s e t k p j o r A,i.get? C=some (excClassObj u q C N x m g w d s e t k p j o r a)/\i.Ns N A/\A "__init__"=none/\OwnTail i f m:=by
 unfold W.excIn at q
 split at q
 .rename_i t H B F
  split at q
  .rename_i C' m k p j o n r z y
   simp only[j3,u0u,u2t]at q
   obtain⟨⟨⟨⟨⟨rfl,rfl⟩,b⟩,D⟩,c⟩,h⟩:=q
   obtain⟨u,x,L,G,J,E,w,d,s,e,I⟩:=H
   dsimp only at z b c h
   subst z b
   have v:B=#[k,p,j,o,some (.builtin n),r]:=by
    obtain⟨l⟩:=B
    simp only at y
    rw[y]
   subst v
   exact⟨m,G,u,J,x,E,w,d,s,e,t,k,p,j,o,r,_,X _ _ F,.of_isNs (u2c X c),W.nsMap_none_of_in X c h,W.tail_of_in X D⟩
  .cases q
 .cases q
theorem zkv {P:Program}{w:World}{K:PySem.W.Frag}{k:Str->Option Value}{d:Heap}{N:List Str}{b:Str}{a:Scope}{f:Addr}{v:Value}{A:Around}{outer:List Env}{s:Shared}{H:Hp}{E:XK}{C:Addr}{x:Str}{S g l:Pos}
 (r:XCls K k C x) (Q:Gl (vX (Air P w) P w K k d N b a f v A outer s H E) x) (O:(x == ("__debug__":Str))=false:=by decide) :
 PS (vX (Air P w) P w K k d N b a f v A outer s H E) (.Raise (some (.Call (.Name x S) [] [] g)) none l) (λ_ _ H1=>E (.ref C) none H1):=by
 intro L X σ H1 D I h
 obtain⟨M,N',p,q,B,c,y,i,n,j,o,u,G,t,z,J,F,R,V,m,T⟩:=zmL I.ok.mod.kin r.exc
 refine wpAny_Raise_call_subU (C:=C) (nm:=p) (q:=q) (N:=N') (bs:=B) (bm:=M) (hdct:=c) (sn:=y) (sub:=i) (ab:=n) (col:=j) (dd:=o) (k0:=u) (k1:=G) (k2:=t) (k3:=z) (k5:=J)
  i2 (by decide) i2 (mN:=F) (T.hasType i2.hasBase) (I.ok.hd rfl) rfl m (Xa I Q r.bound ⟨rfl,?_⟩ O)
 exact evalArgs_empty ⟨rfl,o5 _,I.bk _ _ R,V.keeps I.bk,T.keeps I.bk,λW e U=>zhL I U h⟩
theorem zj4 {X:Cx}{a:List Expr}:PA X a (λ_ _ _=>False):=λ_ _ _ _ _ _ _ h=>h.elim
end L2
namespace Dl
open PySem L2
def pay (j:Nat):Option (List (Str × V)):=match j / 16 % 4 with
 | 0=>none
 | 1=>some [("at",.int ((j / 64:Nat) - 1))]
 | 2=>some [("row",.int ((j / 64:Nat) - 1))]
 | _=>some [("many",.int ((j / 64 / 1024:Nat):Int)),("most",.int ((j / 64 % 1024:Nat):Int))]
variable [KK]
section
variable (E:XK)(cl:Nat->Addr)
def EJ (j:Nat)(H:Hp):Prop:=match pay j with
 | none=>E (.ref (cl j)) none H
 | some b=>∀ a,H a=none->E (.ref (cl j)) (some a) (upd H a (.xd b))
def Wi (F H:Hp)(j:Nat):Prop:=∀ F' H',Gr F H F' H'->EJ E cl j H'
def RXE (t:TE)(a:Ev->Option Nat):Prop:=∀ (σ:St) (ρ:Ev) (F H:Hp) (j:Nat) (Q:VK),yU F H->VAt F ρ σ->a ρ=some j->Wi E cl F H j->t σ H Q
def RXA (t:TA)(a:Ev->Option Nat):Prop:=∀ (σ:St) (ρ:Ev) (F H:Hp) (j:Nat) (Q:List V->Hp->Prop),yU F H->VAt F ρ σ->a ρ=some j->Wi E cl F H j->t σ H Q
def RXS (t:TS)(a:SE->Option Nat):Prop:=∀ (Fb Hb F H:Hp) (ρ:SE) (σ:St) (D':zce) (j:Nat),Rl Fb Hb F H ρ σ->a ρ=some j->Wi E cl Fb Hb j->t D' σ H
def XE (X:Cx)(e:Expr)(a:Ev->Option Nat):Prop:=∃ t,PE X e t/\RXE E cl t a
def XA (X:Cx)(b:List Expr)(a:Ev->Option Nat):Prop:=∃ t,PA X b t/\RXA E cl t a
def XS (X:Cx)(b:Stmt)(a:SE->Option Nat):Prop:=∃ t,PS X b t/\RXS E cl t a
def XSs (X:Cx)(a:List Stmt)(b:SE->Option Nat):Prop:=∃ t,PSs X a t/\RXS E cl t b
end
section
variable {E:XK}{cl:Nat->Addr}{X:Cx}{a b c e:Expr}{es:List Expr}{st:Stmt}{sts:List Stmt}{pos pos':Pos}
theorem Wi.grow {F H F1 H1:Hp}{j:Nat}(w:Wi E cl F H j)(g:Gr F H F1 H1):Wi E cl F1 H1 j:=λF' H' a=>w F' H' (g.trans a)
theorem Wi.out {Fb Hb F H:Hp}{ρ:SE}{σ:St}{j:Nat}(w:Wi E cl Fb Hb j)(a:Rl Fb Hb F H ρ σ):Wi E cl (gOf ρ σ F H) H j:=λF' H' g=>w F' H' (a.out g)
def spX (cl:Nat->Addr)(m:Nat)(r:List D->Option Nat):Sp:=λb H _ E=>∃ a j F,a.length=m/\yU F H/\AtL F a b/\r a=some j/\Wi E cl F H j
def zL (m:Nat)(r:List D->Option Nat)(f:Ev->Option (List D)):Ev->Option Nat:=fun ρ=>(f ρ).bind λa=>if a.length=m then r a else none
theorem vg {x:Str}{k m:Nat}{f:Addr}{l:FuncData}{i:List Str}{r:List D->Option Nat}{C:Pos}{d:Ev->Option (List D)}(F:Yb X.prog X.w X.K X.mg X.base (Air X.prog X.w) k f l i (spX cl m r))(p:Yh (Air X.prog X.w) X E)(n:ww k X.A)(v:Gl X x)(G:X.mg x=some (.ref f))(B:W.keepIn X.K (.ref f)=true)(z:Yc X.K l i [])
 (q:AD X (e::es) d) (b:(x == ("__debug__":Str))=false:=by decide) (I:starEach (e::es) X.env=(false,eval e X.env)::starEach es X.env:=by rfl) (a:(backTo pos (starEach es X.env)).any (·.1)=false:=by rfl) :
 XE E cl X (.Call (.Name x C) (e::es) [] pos) (zL m r d):=by
 obtain⟨t,o,J⟩:=q
 refine⟨_,ziQ F n v G B z .nil p o b I a,fun σ ρ F0 H j Q s A e w=>?_⟩
 obtain⟨h,K,c⟩:=u4.mp e
 split at c <;> try cases c
 rename_i u
 refine J σ ρ F0 H h _ s A K λF1 H1 L g y=>?_
 exact⟨h,j,F1,u,g.fh,by rw[o9];exact y,c,w.grow g⟩
theorem za1 {b:Ev->Option Nat}(h:XE E cl X a b)(d:starEach (a::es) X.env=(false,eval a X.env)::starEach es X.env:=by rfl):XA E cl X (a::es) b:=by
 obtain⟨t,p,r⟩:=h
 exact⟨_,zA p zj4 d,fun σ ρ F H j Q s c e w=>r σ ρ F H j _ s c e w⟩
theorem VF {b:Ev->Option Nat}(h:XE E cl X e b)(c:swapsWith e none pos.line X.env=pure false:=by rfl):XS E cl X (.Expr e pos) (fun ρ=>b (visG ρ)):=by
 obtain⟨t,p,r⟩:=h
 exact⟨_,zbs p c,λFb Hb F H ρ σ D' j a e w=>r σ _ _ H j _ a.gh a.visG e (w.out a)⟩
theorem zam {b:Ev->Option Nat}(h:XE E cl X e b):XS E cl X (.Return (some e) pos) (fun ρ=>b (visG ρ)):=by
 obtain⟨t,p,r⟩:=h
 exact⟨_,zaw p,λFb Hb F H ρ σ D' j a e w=>r σ _ _ H j _ a.gh a.visG e (w.out a)⟩
noncomputable def xIf (t:Ev->Option Bool)(g h:SE->Option Nat):SE->Option Nat:=fun ρ=>match t (visG ρ) with
 | some true=>g ρ
 | some false=>h ρ
 | none=>none
theorem zdr {e f:List Stmt}{t:Ev->Option Bool}{g h:SE->Option Nat}(l:TD X c t)(n:XSs E cl X e g)(p:XSs E cl X f h):XS E cl X (.If c e f pos) (xIf t g h):=by
 obtain⟨v,s,o⟩:=l
 obtain⟨u,m,r⟩:=n
 obtain⟨x,q,i⟩:=p
 refine⟨_,zk6 s m q,λFb Hb F H ρ σ D' j b k w=>?_⟩
 unfold xIf at k
 cases h:t (visG ρ) with
 | none=>rw[h]at k;cases k
 | some d =>
  rw[h]at k
  refine o σ _ _ H d _ b.gh b.visG h λF' H' g=>?_
  have a:=b.grow (b.back g).1
  cases d with
  | true=>rw[t6 rfl];exact r Fb Hb _ H' ρ σ D' j a k w
  | false=>rw[t9 u7];exact i Fb Hb _ H' ρ σ D' j a k w
def xNo:SE->Option Nat:=λ_=>none
theorem yI {g:SE->Option Nat}(h:XS E cl X st g):XSs E cl X [st] g:=let ⟨_,p,r⟩:=h;⟨_,Zf p,r⟩
noncomputable def wG (c:SE->Option Nat)(g:SE->Ctl)(a:SE->Option Nat):SE->Option Nat:=fun ρ=>match c ρ with
 | some j=>some j
 | none=>match g ρ with
  | .nx b=>a b
  | _=>none
theorem zka {d i:SE->Option Nat}{g:SE->Ctl}(n:XS E cl X st d)(z:SD X st g)(o:XSs E cl X sts i):XSs E cl X (st::sts) (wG d g i):=by
 obtain⟨m,q,r⟩:=n
 obtain⟨B,p,t⟩:=z
 obtain⟨u,y,A⟩:=o
 have e:PS X st (λD σ H=>m D σ H\/B D σ H):=λa s σ H D I h=>h.elim (q a s σ H D I) (p a s σ H D I)
 refine⟨_,wP e y,λFb Hb F H ρ σ D' j l k w=>?_⟩
 unfold wG at k
 cases f:d ρ with
 | some C =>
  rw[f]at k
  cases k
  exact .inl (r Fb Hb F H ρ σ _ j l f w)
 | none =>
  rw[f]at k
  dsimp only at k
  cases b:g ρ with
  | nx v =>
   rw[b]at k
   refine .inr (t Fb Hb F H ρ σ _ l ?_)
   rw[b]
   exact λF' H' x c=>A Fb Hb F' H' v x D' j c k w
  | rt _=>rw[b]at k;cases k
  | bk _=>rw[b]at k;cases k
  | ct _=>rw[b]at k;cases k
  | no=>rw[b]at k;cases k
theorem W8 {g:SE->Option Nat}(h:XS E cl X st g):XSs E cl X (st::sts) g:=by
 obtain⟨t,p,r⟩:=h
 exact⟨_,wP p (λ_ _ _ _ _ _ h=>(h:False).elim),λFb Hb F H ρ σ D' j a k w=>r Fb Hb F H ρ σ _ j a k w⟩
end
def zi1 (j:Nat):SE->Option Nat:=λ_=>some j
theorem zeJ {P:Program}{w:World}{K:W.Frag}{g:Str->Option Value}{c:Heap}{N:List Str}{b:Str}{a:Scope}{f:Addr}{i:Value}{A:Around}{outer:List Env}{s:Shared}{H:Hp}{E:XK}{cl:Nat->Addr}{j:Nat}{x:Str}{p d h:Pos}
 (k:XCls K g (cl j) x) (o:Gl (vX (Air P w) P w K g c N b a f i A outer s H E) x) (m:(x == ("__debug__":Str))=false:=by decide) (l:pay j=none:=by rfl) :
 XS E cl (vX (Air P w) P w K g c N b a f i A outer s H E) (.Raise (some (.Call (.Name x p) [] [] d)) none h) (zi1 j) :=
 ⟨_,zkv k o m,λFb Hb F H ρ σ D' q n e w=>by
  cases e
  have z:=w F H n.gr
  unfold EJ at z
  rw[l]at z
  exact z⟩
noncomputable def fnX (n:Nat)(b:SE->Option Nat)(a:List D):Option Nat:=b (a.map .v++List.replicate (n - a.length) .no)
theorem Y0 {P:Program}{w:World}{K:W.Frag}{n:Str->Option Value}{g:Heap}{x b:Str}{i:Stmt}{f:Addr}{u:FuncData}{N ps:List Str}{k:Nat}{cl:Nat->Addr}{gx:SE->Option Nat}(Fu:Fun K x b i f u)(S:vJ N ps (zF i))
 (B:∀ (c:Value) (A:Around) (outer:List Env) (s:Shared) (H:Hp) (E:XK),ww k (A.deeper (PyProof.Rows.envOfC b (zF i) s.heap.objs.size f c))->XSs E cl (vX (Air P w) P w K n g N b (zF i) f c A outer s H E) (xQ i) gx) :
 Yb P w K n g (Air P w) (k+1) f u ps (spX cl ps.length (fnX N.length gx)):=by
 obtain⟨M,O,kV,y,L,J,c,ct,G,rfl,I,m⟩:=Fu.ex
 refine zpt I m S (λz H Q E h=>?_) λA outer s H z Q E v l=>?_
 .obtain⟨C,d,F,o,_,a,_⟩:=h
  rw[a.length];exact o
 .obtain⟨C,j,F,o,D,a,e,q⟩:=l
  obtain⟨t,p,r⟩:=B c A outer s H E v
  exact⟨t,p,r F H F H _ _ _ j (zeV D a) e q⟩
end Dl
namespace L2
open PySem PySem.Spec PyProof.Rows
section
variable {X:Cx}{pins:List (Addr × Obj)}{σ:St}{H H':Hp}{s s':Shared}{E:XK}{e:Value}{E2:Value->Shared->Prop}{B h3:Heap}
theorem Inv.caught (I:Inv X pins σ H s)(os:s'.os=s.os)(g:AllBare s'.gens)(f:Un (frs X.stack) [] H H' s.heap s'.heap)(l:HOk X.prog X.w H' s'.heap)(d:Cov X.stack H s.heap H' s'.heap B)
 (k:B.StaysIn h3) (j:h3.FunFrames B X.stack) (y:s'.heap.UpToSlots h3):Inv X pins σ H' { s' with heap:=h3 }:=by
 obtain⟨N,t,q,p,h⟩:=s'
 have F:h=s.os:=os
 subst F
 have nil:∀ b:Addr,b∉([]:List Addr):=λb z=>nomatch z
 show Inv X pins σ H' { s with heap:=h3,gens:=t,drawn:=q,toks:=p }
 refine I.step (s:=s) (g':=t) (d':=q) (t':=p) (ch:=[]) (λb z=>nomatch z) (λb o A c _ e n=>k b o (d.old b o e n λz=>(q4.mp (I.stkSub b z)).elim A c)) (λb o A c _ e n=>?_) (λb o _ e n=>f.free b o e n (nil b)) (λb o _ e=>?_) f.tups f.frzs f.tbls (λm J=>?_) (l.stays λb u c D=>k b u (d.new b u c D)) g
 .obtain⟨K,w⟩:=f.any e n (nil b)
  obtain⟨_,x,a,i⟩:=I.funs.mem c
  rw[e]at a
  cases a
  obtain⟨v,L⟩:=y b _ w i
  exact⟨v,L⟩
 .by_cases c:b∈frs X.stack
  .obtain⟨_,x,a,_⟩:=j.mem c
   exact⟨x,a⟩
  .obtain⟨h,E⟩:=d.there b o e c
   exact⟨h,k b h E⟩
 .obtain⟨o,M,C,G,i,r⟩:=J
  obtain⟨K,w⟩:=f.any G I.free (nil _)
  exact y.ns ⟨_,M,C,w,i,r⟩
theorem zfE {M:Model}(h:X.stack=X.env::X.outer)(hf:X.env.frame=some X.env.locals)(P:X.ex=[])(I:Inv X pins σ H s)(a:Air X.prog X.w X.stack H s E e s'){U:List ExceptHandler}{Q:Flow->Shared->Prop}
 (k:∀ (b C t:Addr) (x:Option Addr) (H':Hp) (B h3:Heap),E (.ref C) x H'->Zv h3 b x->H' b=none->(∀ i,X.s₀.heap.get? b=some i->False)->(∀ p∈X.pn++pins,p.1≠b)->Heap.FlyingW B X.stack b (.ref C) (.ref t) h3->(∀ w:Heap,B.StaysIn w->w.FunFrames B X.stack->h3.UpToSlots w->Inv X pins σ H' { s' with heap:=w }) ->
  e=.ref b->wpAny M X.A (handleBy (.ref b) X.env U) Q E2 { s' with heap:=h3 }) :
 wpAny M X.A (noteFrame e X.env) (λ_ s₂=>wpAny M X.A (setFlight e none) (λ_ s₃=>wpAny M X.A (handleBy e X.env U) Q E2 s₃) E2 s₂) E2 s':=by
 obtain⟨b,C,t,x,H',B,rfl,os,y,Z,o,D,l,di,V⟩:=a
 have K:X.A.frames=some (X.env::X.outer):=by rw[I.ok.frames,h]
 have v:=D
 rw[h]at v
 refine Xq (XR _ _) (wpAny_looks_onW (Q:=λ_ m=>∃ f,m={ s' with heap:=f }/\Heap.HeldW B (X.env::X.outer) b (.ref C) (.ref t) X.env.locals f/\s'.heap.UpToSlots f) K hf v λf c n=>⟨f,rfl,c,n⟩) ?_
 rintro _ _ ⟨f,rfl,c,n⟩ N
 refine Xq (Yo _ _) (wpAny_landsW (Q:=λ_ m=>∃ h3,m={ s' with heap:=h3 }/\Heap.FlyingW B (X.env::X.outer) b (.ref C) (.ref t) h3/\f.UpToSlots h3) (s:={ s' with heap:=f }) c λh3 d j=>⟨h3,rfl,d,j⟩) ?_
 rintro _ _ ⟨h3,rfl,d,j⟩ S
 have J:Zv h3 b x:=by
  obtain⟨G,R,_⟩:=d.there
  exact di.stay (DK.trans N S) ⟨G,R⟩
 rw[<-h]at d
 have A:B.get? b=none:=D.2.1
 have T:b∉frs X.stack:=λz=>by
  obtain⟨_,L,r,O⟩:=D.2.2.1.mem z
  obtain⟨oe,Y,_,_,_,he,_,W,_⟩:=D.2.2.2
  rw[he]at r
  cases r
  exact O Y W
 have g:∀ i,s.heap.get? b=some i->False:=λi z=>by
  obtain⟨L,F⟩:=l.there b i z T
  rw[A]at F
  cases F
 refine k b C t x H' B h3 V J ?_ (λi z=>?_) (λp hp z=>?_) d (λw b1 b2 b3=>I.caught os y Z o l b1 b2 ((n.trans j).trans b3)) rfl
 .cases q:H' b with
  | none=>rfl
  | some u =>
   obtain⟨G,ho⟩:=(o b u q).ex
   have z:=l.new b G (by rw[q];intro z;cases z) ho
   rw[A]at z
   cases z
 .obtain⟨L,F⟩:=I.base.there b i z (by rw[P];intro z;cases z)
  exact g L F
 .exact g p.2 (z ▸ (I.pin p hp).1)
end
abbrev Cx.held (X:Cx)(e:Value):Cx:={ X with A:=X.A.mark (some e),calm:=false }
section
variable {X:Cx}{pins:List (Addr × Obj)}{σ:St}{H H':Hp}{s s':Shared}{E:Value->Shared->Prop}{e:Value}{M:Model}{A:Around}
theorem Cx.Ok.held (ok:X.Ok)(e:Value):(X.held e).Ok :=
 ⟨ok.mod,ok.kind,ok.glob,ok.blt,ok.above,ok.inj,ok.has,ok.cab,(λz=>by cases z),ok.frames,ok.stk,ok.exf,ok.bs,ok.bsz,ok.noex,ok.exfs,ok.funs,ok.frf⟩
theorem Inv.held (I:Inv X pins σ H s)(e:Value):Inv (X.held e) pins σ H s:=⟨I.ok.held e,I.os,I.bare,I.base,I.loc,I.cell,I.free,I.freeC,I.pin,I.hok,I.len⟩
theorem Inv.unheld (ok:X.Ok)(I:Inv (X.held e) pins σ H s):Inv X pins σ H s:=⟨ok,I.os,I.bare,I.base,I.loc,I.cell,I.free,I.freeC,I.pin,I.hok,I.len⟩
theorem ZJ {i:Nat}{x:Str}{F:Pos}{Q:Unit->Shared->Prop}(I:Inv X pins σ H s)(hN:X.N.Nodup)(O:X.N[i]?=some x)(Z:X.env.scope.names.lookup x=some .local)
 (h:∀ s',Inv X pins (σ.set i none) H s'->Q () s'):wpAny M A (do bindName X.env x .none;unbindBehindTheSuite X.env x F) Q E s:=by
 obtain⟨m,K,T⟩:=id I.loc
 have r:(X.env.scope.kind == .class||(X.env.scope.kind == .module&&X.env.locals != X.env.globals))=false:=by rw[I.ok.kind];rfl
 have C:i < σ.length:=by rw[I.len];exact(q0.mp O).1
 have t:=I.cne
 refine wpAny_nameGoes_keeps Z K r λY v G g=>?_
 obtain⟨oL,_,_,V,_⟩:=id K
 have a:HOk X.prog X.w H Y:=λb P e=>by
  refine(I.hok b P e).stay (λc N w q=>(g.2 c ?_).trans q) (λ_ q=>q) λ_ _ q=>q
  rintro rfl
  rcases w with rfl | w
  .rw[I.free]at e;cases e
  .rw[I.free]at w;cases w
 have f:∀ b o,X.s₀.heap.get? b=some o->b≠X.env.locals:=λb o e=>q5 (t8 (t3 e) I.ok.above)
 refine h _ ⟨I.ok,I.os,I.bare,⟨λb o e n D u=>?_,λb o e n D u=>?_,I.base.free,λb o e u=>?_,I.base.tups,I.base.frzs,I.base.tbls⟩,⟨_,G,λj y S l B W=>?_⟩,λy c e=>?_,I.free,I.freeC,λp hp=>?_,a,by simpa using I.len⟩
 .exact(g.2 b (f b o e)).trans (I.base.keep b o e n D u)
 .obtain⟨sl,l⟩:=I.base.slot b o e n D u
  exact⟨sl,(g.2 b (f b o e)).trans l⟩
 .obtain⟨U,l⟩:=I.base.there b o e u
  exact⟨U,(g.2 b (f b o e)).trans l⟩
 .by_cases J:j=i
  .subst J
   rw[n0 C]at B
   cases B
  .rw[j0 (u0b J)]at B
   obtain⟨u',R,q⟩:=T j y S l B W
   refine⟨u',R,?_⟩
   rcases q with ⟨k,e⟩ | ⟨k,c,e,z⟩
   .refine .inl ⟨k,?_⟩
    have:y≠x:=λe=>J (zbu hN l (e ▸ O))
    simp[this,e]
   .exact .inr ⟨k,c,e,z.sameBut g (t y c e)⟩
 .obtain⟨N,z⟩:=I.cell y c e
  exact⟨N,z.sameBut g (t y c e)⟩
 .obtain⟨e,n,L,nf,d⟩:=I.pin p hp
  exact⟨(g.2 p.1 L).trans e,n,L,nf,d⟩
def zgC (a C:Addr)(c:Option Addr):HO:=.ext λh=>∃ b,h.get? a=some b/\b.cls=.ref C/\b.dict=c/\W.notCls b=true
theorem Inv.track {a:Addr}{o:HO}{A:Obj}{G:Array Value}(I:Inv X pins σ H s)(i:H a=none)(D:s.heap.get? a=some A)(B:A.data=.fields G)(N:∀ J,X.s₀.heap.get? a=some J->False)(M:∀ p∈X.pn++pins,p.1≠a)
 (y:yJ X.prog X.w (upd H a o) s.heap a o):Inv X pins σ (upd H a o) s:=by
 have w:X.env.locals≠a:=by
  rintro rfl
  obtain⟨m,⟨P,S,Q,j,h,_⟩,_⟩:=I.loc
  rw[D]at j
  cases j
  rw[B]at h
  cases h
 have t:∀ x c,X.env.cells.lookup x=some c->c≠a:=λx c e=>by
  rintro rfl
  obtain⟨v,R,k,l⟩:=I.cell x c e
  rw[D]at k
  cases k
  rw[B]at l
  cases l
 refine⟨I.ok,I.os,I.bare,⟨I.base.keep,I.base.slot,λb u e n F=>?_,I.base.there,λb E e=>?_,λb u v e=>?_,λb O e=>?_⟩,I.loc,I.cell,?_,λx c e=>?_,λp C=>?_,λb u e=>?_,I.len⟩
 .rw[zu (λz:b=a=>N u (z ▸ e))]
  exact I.base.free b u e n F
 .have f:=I.base.tups b E e
  rw[zu (zo f i)]
  exact f
 .have f:=I.base.frzs b u v e
  rw[zu (zo f i)]
  exact f
 .obtain⟨r,f⟩:=I.base.tbls b O e
  exact⟨r,by rw[zu (zo f i)];exact f⟩
 .rw[zu w]
  exact I.free
 .rw[zu (t x c e)]
  exact I.freeC x c e
 .obtain⟨e,n,K,L,d⟩:=I.pin p C
  exact⟨e,by rw[zu (M p C)];exact n,K,L,d⟩
 .by_cases c:b=a
  .subst c
   rw[zr]at e
   cases e
   exact y
  .rw[zu c]at e
   refine(I.hok b u e).stay (λ_ _ _ q=>q) (λc g=>?_) λc E g=>?_
   .rw[zu (zo g i)];exact g
   .rw[zu (zo g i)];exact g
end
abbrev Cx.pinned (X:Cx)(a:List (Addr × Obj)):Cx:={ X with pn:=X.pn++a }
section
variable {X:Cx}{pins ps:List (Addr × Obj)}{σ:St}{H H':Hp}{s s':Shared}
theorem Cx.Ok.pinned (ok:X.Ok)(ps:List (Addr × Obj)):(X.pinned ps).Ok :=
 ⟨ok.mod,ok.kind,ok.glob,ok.blt,ok.above,ok.inj,ok.has,ok.cab,ok.hd,ok.frames,ok.stk,ok.exf,ok.bs,ok.bsz,ok.noex,ok.exfs,ok.funs,ok.frf⟩
theorem Inv.pinAll (I:Inv X pins σ H s):Inv (X.pinned pins) [] σ H s:=⟨I.ok.pinned pins,I.os,I.bare,I.base,I.loc,I.cell,I.free,I.freeC,λp a=>I.pin p (by rw[o9]at a;exact a),I.hok,I.len⟩
theorem Inv.unpin (ok:X.Ok)(I:Inv (X.pinned pins) ps σ H s):Inv X pins σ H s:=⟨ok,I.os,I.bare,I.base,I.loc,I.cell,I.free,I.freeC,λp a=>I.pin p (u1H _ a),I.hok,I.len⟩
end
abbrev gone (i:Nat)(D:zce):zce:={ nx:=fun σ H=>D.nx (σ.set i none) H,rt:=D.rt,bk:=fun σ H=>D.bk (σ.set i none) H,ct:=fun σ H=>D.ct (σ.set i none) H }
def exW (K:W.Frag)(CS:Addr)(i n:Nat)(u:TS)(D:zce):XK:=λcls b H'=>∃ C,cls=.ref C/\W.exmOne K (.ref C) (.ref CS)=some true/\∀ (a:Addr) (σ:St),σ.length=n->H' a=none->u (gone i D) (σ.set i (some (.ref a))) (upd H' a (zgC a C b))
theorem zpC {Y:Cx}{CS:Addr}{x n:Str}{i:Nat}{m k:List Stmt}{b₀:Stmt}{a9 E np:Pos}{tb:XK->TS}{u:TS}(T:Y.stack=Y.env::Y.outer)(hf:Y.env.frame=some Y.env.locals)(a1:Y.ex=[])
 (J:Y.N.Nodup) (K:Y.N[i]?=some n) (y:Y.env.scope.names.lookup n=some .local) (hg:Gl Y x) (hm:Y.mg x=some (.ref CS))
 (r:∀ (ps:List (Addr × Obj)) (W:Value->Shared->Prop) (E0:XK),Yh (Air Y.prog Y.w) ((Y.pinned ps).wish W) E0->PSs ((Y.pinned ps).wish W) m (tb E0))
 (l:∀ d,PSs (Y.held (.ref d)).nox (b₀::k) u) (hd:(x == ("__debug__":Str))=false:=by decide) :
 PS Y.nox (.Try m [.ExceptHandler (some (.Name x np)) (some n) (b₀::k) E] [] [] a9) (λD σ H=>tb (exW Y.K CS i Y.N.length u D) D σ H):=by
 intro c s σ H D I h
 have ok:Y.Ok:=I.ok.unwish
 have IY:Inv Y c σ H s:=I.unwish
 refine wpAny_Try_except ?_
 refine o8 (r c _ (exW Y.K CS i Y.N.length u D) ?_ [] s σ H D (IY.pinAll.wish _) h) ?_ λe s₁ h=>h
 .intro V F H1 s1 e O I1 a
  have I1':Inv Y c F H1 s1:=I1.unwish.unpin ok
  refine zfE (X:=Y) T hf a1 I1' a λd C t od H' B N hE a3 z h0 a5 w p ee=>?_
  obtain⟨C',ec,R,hu⟩:=hE
  cases ec
  have I3:Inv Y c F H' { O with heap:=N }:=p N w.1 w.2.2.1 (.refl _)
  obtain⟨ob,a2,L⟩:=w.there
  have ty:PySem.W.Looks (model Y.prog Y.w) N (typeOf (.ref d)) (.ref C):=L ▸ (PySem.W.Looks.ld a2).andThen .now
  refine wpAny_handleBy_cons (codeAny_handlers_test (Xa (X:=Y.held (.ref d)) (I3.held (.ref d)) hg hm ?_ hd)) (by intro q;cases q)
  refine(PySem.W.exm_one (M:=model Y.prog Y.w) I3.kIn ty R).here ?_
  refine codeAny_handlers_suite_as ?_
  refine Xq (Yo _ _) (wpAny_setFlight_noneW (Q:=λ_ a0=>∃ g,a0={ O with heap:=g }/\B.StaysIn g/\g.FunFrames B Y.stack/\g.TracedW B d (.ref C) (.ref t)/\∀ b o,N.get? b=some o->(∀ vs,o.data≠.fields vs)->g.get? b=some o) (s:={ O with heap:=N }) w.1 w.2.2.1 w.2.2.2.at λg k1 Z k3 k4=>⟨g,rfl,k1,Z,k3,k4⟩) ?_
  rintro _ _ ⟨g,rfl,k1,Z,k3,k4⟩ a6
  have I4:Inv Y c F H' { O with heap:=g }:=p g k1 Z λb o hb hn=>⟨o.slots,k4 b o hb hn⟩
  obtain⟨S,vs,_,_,_,G,a7,P,_⟩:=k3
  obtain⟨b0,A,a8⟩:=a3.stay a6 ⟨S,G⟩
  rw[G]at A
  cases A
  have a4:PySem.W.notCls S=true:=by unfold PySem.W.notCls;rw[P]
  have I5:Inv Y c F (upd H' d (zgC d C od)) { O with heap:=g }:=I4.track z G P h0 a5 ⟨⟨S,G,a7.1,a8,a4⟩,⟨S,G⟩,λh1 h2 ⟨o1,e1,e2⟩ kk=>⟨o1,kk o1 e1,e2⟩⟩
  refine zaH (X:=Y.held (.ref d)) (v:=.ref d) (I5.held (.ref d)) J K (.inl y) rfl (λs6 I6=>?_) (.inr y)
  refine o8 (l d c s6 _ _ (gone i D) (I6.wish _) (hu d F I4.len z)) (λf s7 q=>?_) λx s7 q=>q.elim
  cases f with
  | ret uv =>
   obtain⟨v,j,H7,I7,U,q⟩:=q
   exact ZJ ((Inv.unheld (X:=Y) ok I7.unwish)) J K y λs8 I8=>⟨v,_,H7,I8.wish _,U,q⟩
  | next =>
   obtain⟨j,H7,I7,q⟩:=q
   exact ZJ ((Inv.unheld (X:=Y) ok I7.unwish)) J K y λs8 I8=>⟨_,H7,I8.wish _,q⟩
  | brk =>
   obtain⟨j,H7,I7,q⟩:=q
   exact ZJ ((Inv.unheld (X:=Y) ok I7.unwish)) J K y λs8 I8=>⟨_,H7,I8.wish _,q⟩
  | cont =>
   obtain⟨j,H7,I7,q⟩:=q
   exact ZJ ((Inv.unheld (X:=Y) ok I7.unwish)) J K y λs8 I8=>⟨_,H7,I8.wish _,q⟩
 .intro f s₁ q
  cases f with
  | ret uv =>
   obtain⟨v,j,H7,I7,U,q⟩:=q
   exact⟨v,j,H7,(Inv.unpin (X:=Y) ok I7.unwish).wish _,U,q⟩
  | next =>
   obtain⟨j,H7,I7,q⟩:=q
   exact u1k ⟨j,H7,(Inv.unpin (X:=Y) ok I7.unwish).wish _,q⟩
  | brk =>
   obtain⟨j,H7,I7,q⟩:=q
   exact⟨j,H7,(Inv.unpin (X:=Y) ok I7.unwish).wish _,q⟩
  | cont =>
   obtain⟨j,H7,I7,q⟩:=q
   exact⟨j,H7,(Inv.unpin (X:=Y) ok I7.unwish).wish _,q⟩
end L2
namespace L2
open PySem PySem.Spec PyProof.Rows PySem.W PySem.Calls PySem.Builtin PySem.Builtin.Getset_descriptor
section
variable {prog:Program}{w:World}{A:Around}{E:Value->Shared->Prop}{K:W.Frag}{h:Heap}{g:Array GenState}{d:Drawn}{t:Nat}{os:OsState}{a C:Addr}{o:Obj}
def Of (h:Heap)(a:Addr)(o:Obj)(C:Addr):Prop:=h.get? a=some o/\o.cls=.ref C
theorem Of.type {M:Model}(I:Of h a o C):Looks M h (typeOf (.ref a)) (.ref C):=I.2 ▸ (Looks.ld I.1).andThen .now
theorem zhT {M:Model} {b:Str} {x c:Value} (X:K.In h) (f:findIn K (.ref C) b=some (some x)) (e:specialIn K x "__get__"=some (some c)) (d:takesIn K x=some true):Looks M h (Builtin.ObjectAttr.find (.ref a) (.ref C) b) (.bind c x):=by
 have L1:=looks_findIn (M:=M) X f
 have L2:Looks M h (Builtin.ObjectAttr.getOf (some x)) (some c):=looks_specialIn X e
 have L3:=looks_takesIn (M:=M) X d
 exact L1.andThen (L2.andThen ((show Looks M h (Builtin.ObjectAttr.dataDescriptor? (some x) (some c)) (some (c,x))from L3.andThen .now).andThen (Looks.tag .now)))
theorem zmI {R:Result->Shared->Prop} {e:Value} (X:K.In h) (I:Of h a o C) (b:mroIn K C (.type "object")=some true) (c:R (.ok (.ret (.ref C))) ⟨h,g,d,t,os⟩) :
 codeAny (model prog w) A (.call (.builtin "getset_descriptor.__get__") ⟨[.builtin "object.__class__",.ref a,e],[]⟩) R ⟨h,g,d,t,os⟩:=by
 have L0:=I.type (M:=model prog w)
 have L1:=looks_mroIn (M:=model prog w) X b
 refine u0s KF.slot_gs.plain KF.entry_gs (KF.slot_gs.check _ _ _ _ _ _ _ _ KF.type_class (KF.args_gs _ _ _) ?_)
 unfold Builtin.«getset_descriptor.__get__» descrGet
 rw[dga_obj]
 refine u0 (u6 ?_)
 unfold descrGetter descrCheckInstance descrNameAndClass isInstance
 simp only[KF.owner_class]
 repeat lk
 refine⟨u1a _ (by decide +kernel),i9 KF.entry_class ?_⟩
 unfold Builtin.«object.__class__» shownTypeOf
 repeat lk
 exact c
theorem zh6 {e:Tok} {Q:Fin->Shared->Prop} (X:K.In h) (I:Of h a o C) (j:findIn K (.ref C) "__class__"=some (some (.builtin "object.__class__"))) (c:specialIn K (.builtin "object.__class__") "__get__"=some (some (.builtin "getset_descriptor.__get__"))) (b:takesIn K (.builtin "object.__class__")=some true) (i:mroIn K C (.type "object")=some true)
 (f:Q (.done (.ret (.ref C))) ⟨h,g,d,t,os⟩):wpAny (model prog w) A (Builtin.«object.__getattribute__» ⟨[.ref a,.str "__class__" e],[]⟩) Q E ⟨h,g,d,t,os⟩:=by
 have L0:=I.type (M:=model prog w)
 have L1:=zhT (M:=model prog w) (a:=a) X j c b
 refine u0 (u6 (u0 ?_))
 refine u6 (u0 (L0.at (u0 (L1.at ?_))))
 show wpAny _ _ (holding [.builtin "object.__class__"] (call (.builtin "getset_descriptor.__get__") [.builtin "object.__class__",.ref a,.ref C])>>=ret) _ _ _
 exact u0 (r6 (u1w (zmI X I i (u6 f))))
theorem zhI {M:Model} {b:Value} {Q:Unit->Shared->Prop} (X:K.In h) (I:Of h a o C) (f:subIn K (.ref C) (.type "BaseException")=some true) (i:Q () ⟨h,g,d,t,os⟩):wpAny M A (checkBuiltinCall "BaseException.__getattribute__" ⟨[.ref a,b],[]⟩) Q E ⟨h,g,d,t,os⟩:=by
 have e:builtinKind "BaseException.__getattribute__"=some .slot:=by decide +kernel
 have c:splitId "BaseException.__getattribute__"=some ("BaseException","__getattribute__"):=by decide +kernel
 have j:=F.args_bexc_ga (.ref a) b
 have L0:=I.type (M:=M)
 have L1:Looks M h (isSubtype (.ref C) (.type "BaseException")) true:=looks_subIn X f
 simp only[checkBuiltinCall,e,c]
 refine u0 ?_
 unfold isInstance
 refine u0 (L0.at (L1.at ?_))
 repeat (first | assumption | wp_step)
theorem zoU {f:Tok} {Q:Value->Shared->Prop} (X:K.In h) (I:Of h a o C) (b:findIn K (.ref C) "__getattribute__"=some (some (.builtin "BaseException.__getattribute__"))) (c:findIn K (.ref C) "__getattr__"=some none)
 (n:findIn K (.ref C) "__class__"=some (some (.builtin "object.__class__"))) (j:specialIn K (.builtin "object.__class__") "__get__"=some (some (.builtin "getset_descriptor.__get__"))) (i:takesIn K (.builtin "object.__class__")=some true) (l:mroIn K C (.type "object")=some true) (p:subIn K (.ref C) (.type "BaseException")=some true) (k:Q (.ref C) ⟨h,g,d,t,os⟩) :
 wpAny (model prog w) A (getAttrBy (.ref a) (.str "__class__" f) false) Q E ⟨h,g,d,t,os⟩:=by
 have L0:=I.type (M:=model prog w)
 have L1:=looks_findIn (M:=model prog w) X b
 have L2:=looks_findIn (M:=model prog w) X c
 have m:=F.attrBase_ValueError.ga.bind (.ref a)
 have e:(Value.builtin "BaseException.__getattribute__" == Value.builtin "object.__getattribute__")=false:=by decide +kernel
 unfold getAttrBy
 refine r6 (u0 (L0.at (u0 (L1.at ?_))))
 dsimp only
 rw[e,m9,t9 u7]
 unfold getAttrByItsOwn
 refine u0 ?_
 show wpAny _ _ (typeLookup (.ref C) "__getattr__") _ _ _
 refine L2.at (u0 (u0p (r6 ?_)))
 show wpAny _ _ (boundAndCalled (.builtin "BaseException.__getattribute__") (.ref a) (.str "__class__" f)) _ _ _
 unfold boundAndCalled
 rw[m]
 refine u0 (u6 ?_)
 refine u1w (u0s F.attrBase_ValueError.ga.plain F.entry_bexc_ga (zhI X I p (zh6 X I n j i l ?_)))
 exact handed_on rfl k
theorem zg4 {Q:Option Value->Shared->Prop} {s:Shared} (X:K.In s.heap) (I:Of s.heap a o C) (b:findIn K (.ref C) "__getattribute__"=some (some (.builtin "BaseException.__getattribute__"))) (c:findIn K (.ref C) "__getattr__"=some none)
 (j:findIn K (.ref C) "__class__"=some (some (.builtin "object.__class__"))) (f:specialIn K (.builtin "object.__class__") "__get__"=some (some (.builtin "getset_descriptor.__get__"))) (e:takesIn K (.builtin "object.__class__")=some true) (i:mroIn K C (.type "object")=some true) (k:subIn K (.ref C) (.type "BaseException")=some true)
 (h:Q (some (.ref C)) { s with toks:=s.toks+1 }):wpAny (model prog w) A (getAttr? (.ref a) "__class__") Q E s:=by
 obtain⟨hh,g,d,t,os⟩:=s
 unfold getAttr? getAttrBy?
 exact u0 (wpAny_mkText (u0 (u0p (zoU X I b c j f e i k (u6 h)))))
def wZ (K:W.Frag) (C:Addr):Bool:=(clsIn K C).isSome&&findIn K (.ref C) "__getattribute__" == some (some (.builtin "BaseException.__getattribute__"))&&findIn K (.ref C) "__getattr__" == some none&&findIn K (.ref C) "__class__" == some (some (.builtin "object.__class__"))
 && specialIn K (.builtin "object.__class__") "__get__" == some (some (.builtin "getset_descriptor.__get__"))&&takesIn K (.builtin "object.__class__") == some true&&mroIn K C (.type "object") == some true&&subIn K (.ref C) (.type "BaseException") == some true
theorem zle (q:wZ K C=true):KitX K (.ref a) (.ref C) (λh=>∃ o,Of h a o C):=by
 unfold wZ at q
 simp only[j3,u0u]at q
 obtain⟨⟨⟨⟨⟨⟨⟨c,j⟩,d⟩,u⟩,p⟩,m⟩,s⟩,x⟩:=q
 obtain⟨A,b⟩:=u04.mp c
 unfold clsIn at b
 refine⟨λ_ _ _ ⟨_,I⟩=>I.type,λ_ _ X _=>?_,λh r y w n D X i=>?_,λX ⟨_,I⟩ k=>zg4 X I j d u p m s x k⟩
 .split at b
  .rename_i v t f l g
   intro A' Q' E' B k q
   unfold isType loadHead
   exact u0 (wpAny_loadPart (k _ _ (X _ _ g)) (u6 q))
  .cases b
 .refine u1r.mpr λq=>?_
  have e:C=r:=Value.ref.inj (u0u.mp q)
  subst e
  split at b
  .rename_i v t f l g
   have z:=(X _ _ g).symm.trans i
   cases z
  .cases b
theorem VM {c:Value}{b:Bool}{s:Shared}{Q:Value->Shared->Prop}(q:wZ K C=true)(X:K.In s.heap)(I:∃ o,Of s.heap a o C)(e:kitOne K (.ref C) c=some b)(d:∀ f,Q (.bool b) { s with toks:=f }) :
 wpAny (model prog w) A (call (.builtin "isinstance") [.ref a,c]) Q E s:=kia_one (zle q) X I e (by intro z;cases z) d
end
end L2
namespace L2
open PySem PySem.Spec PyProof.Rows
section
variable {P:Program}{w:World}{K:W.Frag}{mg:Str->Option Value}{base:Heap}
def zh9 (P:Program)(w:World)(K:W.Frag)(mg:Str->Option Value)(base:Heap)(k:Nat)(f:Addr)(g:FuncData)(d:List Str)(c:Sp):Prop :=
 (∀ a H Q E,c a H Q E->a.length=d.length)/\∀ (A:Around) (outer:List Env) (s:Shared) (H:Hp) (args:Args) (b:List Value) (a:List V) (Q:VK) (E:XK) (e:Value),ww k A->zl7 P w K mg base A outer s H->BindsTo s g args (d.zip b)->yZ a b->c a H Q E ->
  codeAny (model P w) (A.mark (some e)) (.call (.ref f) args) (CR CX0 outer P w H s Q E) s
theorem znl {x c:Str}{j:Stmt}{f:Addr}{G:FuncData}{N ps:List Str}{k:Nat}{B:Sp}(F:Fun K x c j f G)(S:vJ N ps (zF j))(p:∀ g H Q E,B g H Q E->g.length=ps.length)
 (h:∀ (d:Value) (A:Around) (outer:List Env) (s:Shared) (H:Hp) (g:List V) (Q:VK) (E:XK) (l:Value),ww k (A.deeper (envOfC c (zF j) s.heap.objs.size f d))->B g H Q E ->
  ∃ t,PSs ((vX CX0 P w K mg base N c (zF j) f d A outer s H E).held l).nox (xQ j) t/\t { nx:=λ_ H'=>Q .non H',rt:=Q } (start N g) H):zh9 P w K mg base (k+1) f G ps B:=by
 obtain⟨oc,od,kV,L,pm,an,d,ct,a0,rfl,lk,C⟩:=F.ex
 refine⟨p,λA outer s H args us g Q E l z m Z r n=>?_⟩
 have KX:K.In s.heap:=m.mod.kin.keeps λb o e=>(m.bs b o e).1
 have lim:s.heap.NoLimit:=m.mod.nolimit.keeps λb o e=>(m.bs b o e).1
 refine codeAny_call_function (A:=A.mark (some l)) z.depth (KX _ _ lk) rfl S.co S.gen rfl (PySem.W.codeRec_of KX C) (Z _ _ _ _ ?_)
 refine wpAny_newFunctionEnv_cells S.kind (λy T=>?_) λenv U D x=>?_
 .rcases S.par y.1 (u1Y (a:=y.1) (b:=y.2) T).1 with q | q
  .exact .inl q
  .exact .inr ⟨q,u1q _ _ _ (.inl q)⟩
 subst U
 refine⟨lim.keeps x.toInCall.keep,codeAny_func ?_⟩
 obtain⟨t,W,O⟩:=h d A outer s H g Q E l (z.deeper _) n
 have I:Inv (vX CX0 P w K mg base N c (zF j) f d A outer s H E) [] (start N g) H D:=zbT S z.hd m (p _ _ _ _ n) r x
 refine o8 (W [] D (start N g) H _ ((I.held l).wish _) O) (λY X i=>?_) λe X i=>i.elim
 cases Y with
 | ret u =>
  obtain⟨v,R,H',J,M,q⟩:=i
  exact⟨v,H',J.os,J.bare,J.base,J.hok,M,q⟩
 | next =>
  obtain⟨R,H',J,q⟩:=i
  exact⟨V.non,H',J.os,J.bare,J.base,J.hok,rfl,q⟩
 | brk =>
  obtain⟨_,_,_,q⟩:=i
  exact False.elim q
 | cont =>
  obtain⟨_,_,_,q⟩:=i
  exact False.elim q
end
theorem ze4 {Y:Cx}{i:Value}{k:Nat}{f:Addr}{y:FuncData}{w:List Str}{g:Sp}{x:Str}{p b:Pos}{e:Expr}{d:List Expr}{t:TA}{E:XK}(F:zh9 Y.prog Y.w Y.K Y.mg Y.base k f y w g)(z:ww k Y.A)(B:Gl Y x)(J:Y.mg x=some (.ref f))(G:W.keepIn Y.K (.ref f)=true)(D:Yc Y.K y w [])(j:Y.Ok)
 (A:PA (Y.held i).nox (e::d) t) (o:(x == ("__debug__":Str))=false:=by decide) (K:starEach (e::d) Y.env=(false,eval e Y.env)::starEach d Y.env:=by rfl) (n:(backTo b (starEach d Y.env)).any (·.1)=false:=by rfl) :
 PE (Y.held i).nox (.Call (.Name x p) (e::d) [] b) (znI g [] E t):=by
 intro a s σ H Q I h
 refine u1j (Xa I B J ?_ o)
 refine u2b (h₀:=Y.base) I.ok.mod.kin G (thn (A b a s σ H _ I h) λl m ⟨v,H1,I1,r,q⟩=>⟨I1.kIn,?_⟩) K n
 have q:g (v++[]) H1 Q E:=q
 rw[o9]at q
 have I2:Inv Y a σ H1 m:=Inv.unheld (X:=Y) j I1.unwish
 refine u1w (u06 (F.2 Y.A Y.stack m H1 ⟨l,[]⟩ l v Q E i z I2.env0 ?_ r q) λr L c=>?_)
 .have:=D m l I2.kIn (by rw[o9,<- r.length];exact F.1 _ _ _ _ q)
  rwa[o9]at this
 .cases r with
  | error e=>exact False.elim c
  | ok C =>
   cases C with
   | ret u=>exact I1.after c
   | next=>exact False.elim c
   | brk=>exact False.elim c
   | cont=>exact False.elim c
end L2
namespace L2
open PySem PySem.Spec PyProof.Rows PySem.SeqAt
theorem zbd:∀ {c:List Bool} {a:List Value},yZ (c.map V.bl) a->a=c.map Value.bool
 | [],a,r=>by
  have:=r.length
  exact List.eq_nil_of_length_eq_zero (by rw[<-this];rfl)
 | b::c,a,r=>by
  cases r with
  | cons e d =>
   rw[zbd d]
   cases e
   rfl
theorem zem {A:Around}{s:Shared}{a:List Bool}{y:Value}(h:y∈(a.map Value.bool).toArray):EqAt A s y (.bool true) (isBoolOf true y):=by
 obtain⟨b,_,rfl⟩:=f9.mp (List.mem_toArray.mp h)
 exact EqAt.bool_bool b true
def zjq:V->List V->Hp->VK->Prop:=λx b H Q=>∃ (l:Addr) (a:List Bool),x=.ref l/\b=[.bl true]/\H l=some (.lst (a.map V.bl))/\Q (.int ((a.countP (· == true):Nat):Int)) H
theorem zg0 {X:Cx}:MtR X "list.count" zjq:=by
 intro f s σ H x A v z Q I k o h
 obtain⟨l,a,rfl,rfl,j,q⟩:=h
 cases k
 obtain⟨u,rfl,p⟩:=o.one
 cases p
 obtain⟨w,r,g,B⟩:=I.list (SqL.of (K:=X.K) j)
 have e:=zbd r
 subst e
 obtain⟨⟨cls,i,data,t⟩,d,b,n,c⟩:=g.isList
 simp only at b c
 subst b c
 refine u2D PySem.F.slot_list_count ⟨_,d,rfl⟩ PySem.F.entry_list_count (PySem.F.args_list_count_2 _ _) (list_countAt l (a.map Value.bool).toArray n i t (.bool true) (isBoolOf true)) ⟨d,λy m=>zem m,?_⟩
 refine⟨.int (((a.map Value.bool).toArray.toList.countP (isBoolOf true):Nat):Int),H,I.tok _,⟨_,rfl⟩,?_⟩
 rw[show(a.map Value.bool).toArray.toList=a.map Value.bool from rfl,List.countP_map]
 exact q
def zid:V->List V->Hp->VK->Prop:=λx b H Q=>∃ (l:Addr) (a:List Bool),x=.ref l/\b=[.bl true]/\H l=some (.lst (a.map V.bl))/\true∈a/\Q (.int ((a.idxOf true:Nat):Int)) H
theorem zha {X:Cx}:MtR X "list.index" zid:=by
 intro i s σ H x J v M Q I w z h
 obtain⟨l,a,rfl,rfl,t,E,q⟩:=h
 cases w
 obtain⟨u,rfl,A⟩:=z.one
 cases A
 obtain⟨G,r,k,B⟩:=I.list (SqL.of (K:=X.K) t)
 have e:=zbd r
 subst e
 obtain⟨⟨cls,o,data,F⟩,f,c,n,d⟩:=k.isList
 simp only at c d
 subst c d
 have j:a.idxOf true < a.length:=List.idxOf_lt_length_iff.mpr E
 have g:=WK
 have L:a.length<=sizeLine:=by simpa using B
 refine u2D PySem.F.slot_list_index ⟨_,f,rfl⟩ PySem.F.entry_list_index (PySem.F.args_list_index_2 _ _) (list_indexAt l (a.map Value.bool).toArray n o F (.bool true) (isBoolOf true) (a.idxOf true) (by simpa using j) (by omega) ?_ ?_) ⟨f,λy D=>zem D,⟨.int ((a.idxOf true:Nat):Int),H,I.tok _,⟨_,rfl⟩,q⟩⟩
 .simp only[List.getElem_toArray,u1F]
  rw[List.getElem_idxOf j]
  rfl
 .intro m C b
  simp only[List.getElem_toArray,u1F]
  exact List.not_of_lt_findIdx (p:=(· == true)) (xs:=a) b
end L2
namespace L2
open PySem PySem.Spec PyProof.Rows
def clsV:V->Option Value
 | .ref C=>some (.ref C)
 | .ty T=>some (.type T)
 | _=>none
def zqW (K:W.Frag):List V->Hp->VK->Prop:=λe H Q=>∃ (a C:Addr) (d:Option Addr) (v:V) (c:Value) (b:Bool),e=[.ref a,v]/\H a=some (zgC a C d)/\wZ K C=true/\clsV v=some c/\W.kitOne K (.ref C) c=some b/\Q (.bl b) H
theorem xq {X:Cx}:vN X (.builtin "isinstance") (zqW X.K):=by
 intro i s σ H y j Q I n h
 obtain⟨a,C,z,v,c,b,rfl,m,t,o,l,q⟩:=h
 obtain⟨f,e,rfl,g,d⟩:∃ f e,j=[f,e]/\xt (.ref a) f/\xt v e:=by
  cases n with
  | cons g r=>cases r with
   | cons d r=>cases r;exact⟨_,_,rfl,g,d⟩
 cases g
 have x:e=c:=by
  cases v <;> try cases o
  .cases d;rfl
  .cases d;rfl
 subst x
 obtain⟨⟨w,u,p,_⟩,_⟩:=I.hok a _ m
 exact VM t I.kIn ⟨w,u,p⟩ l λk=>⟨.bl b,H,I.tok k,rfl,q⟩
theorem zeu {K:W.Frag}{σ:St}{H:Hp}{a C:Addr}{d:Option Addr}{v:V}{c:Value}{b:Bool}{Q:VK}(h:σ[0]?=some (some (.ref a)))(f:H a=some (zgC a C d))(i:wZ K C=true)(g:clsV v=some c)(e:W.kitOne K (.ref C) c=some b)(q:Q (.bl b) H) :
 tCB (zqW K) (X7 (zb4 0) (X7 (tC v) zkk)) σ H Q:=⟨.ref a,h,⟨a,C,d,v,c,b,rfl,f,i,g,e,q⟩⟩
def zgi (n j:Nat):List Bool:=(List.range n).map λi=>i == j
def XN (K:W.Frag) (a:List Addr) (CS C:Addr) (j:Nat):Bool:=wZ K C&&(W.kitOne K (.ref C) (.type "ValueError") == some true)&&(W.exmOne K (.ref C) (.ref CS) == some true)&&(a.map (λc=>W.kitOne K (.ref C) (.ref c)) == (zgi a.length j).map some)
structure zfc (K:W.Frag) (cs:List Addr) (CS C:Addr) (j:Nat):Prop where
 look:wZ K C=true
 val:W.kitOne K (.ref C) (.type "ValueError")=some true
 exm:W.exmOne K (.ref C) (.ref CS)=some true
 hot:cs.map (λc=>W.kitOne K (.ref C) (.ref c))=(zgi cs.length j).map some
theorem zfc.of {K:W.Frag}{a:List Addr}{CS C:Addr}{j:Nat}(h:XN K a CS C j=true):zfc K a CS C j:=by
 unfold XN at h
 simp only[j3,u0u]at h
 exact⟨h.1.1.1,h.1.1.2,h.1.2,h.2⟩
section
variable {K:W.Frag}{σ:St}{H H0:Hp}{a C:Addr}{od:Option Addr}
def tIs (K:W.Frag):List Addr->TA
 | []=>zkk
 | c::r=>X7 (tCB (zqW K) (X7 (zb4 0) (X7 (tC (.ref c)) zkk))) (tIs K r)
theorem zl2 (j:σ[0]?=some (some (.ref a)))(g:H a=some (zgC a C od))(l:wZ K C=true):∀ (f:List Addr) (d:List Bool) (Q:List V->Hp->Prop),f.map (λc=>W.kitOne K (.ref C) (.ref c))=d.map some->Q (d.map V.bl) H->tIs K f σ H Q:=by
 intro f
 induction f with
 | nil =>
  intro d Q e q
  cases d with
  | nil=>exact q
  | cons b r=>cases e
 | cons c r i =>
  intro d Q e q
  cases d with
  | nil=>cases e
  | cons b d =>
   obtain⟨h,k⟩:=List.cons.inj e
   exact zeu j g l rfl h (i d _ k q)
structure KSt (H0:Hp) (a C:Addr) (od:Option Addr) (bs:List Bool) (σ:St) (H:Hp):Prop where
 same:yU H0 H
 len:σ.length=2
 e0:σ[0]?=some (some (.ref a))
 he:H a=some (zgC a C od)
 lst:∃ p,σ[1]?=some (some (.ref p))/\H p=some (.lst (bs.map V.bl))
theorem zgK {f:List Bool}{p:Addr}(s:yU H0 H)(h:σ.length=2)(g:σ[0]?=some (some (.ref a)))(d:H a=some (zgC a C od))(c:H p=none):KSt H0 a C od f (σ.set 1 (some (.ref p))) (upd H p (.lst (f.map V.bl))):=by
 refine⟨λb o e=>?_,by rw[u1c];exact h,?_,?_,p,?_,zr⟩
 .have:=s b o e
  rw[zu (zo this c)];exact this
 .rw[j0 (by decide)];exact g
 .rw[zu (zo d c)];exact d
 .rw[n0 (by omega)]
theorem zje {cs:List Addr}{bs:List Bool}{D:zce}(g:wZ K C=true)(e:cs.map (λc=>W.kitOne K (.ref C) (.ref c))=bs.map some)(j:bs.length<=sizeLine)(i:σ.length=2)(f:σ[0]?=some (some (.ref a)))(d:H a=some (zgC a C od))(k:∀ b H',KSt H a C od bs b H'->D.nx b H') :
 zoI (zpg (tIs K cs)) (VZ 1) D σ H :=
 zl2 f d g cs bs _ e ⟨by rw[u8];exact j,λp h=>k _ _ (zgK (.refl _) i f d h)⟩
theorem zaN {cs:List Addr}{d bs:List Bool}{D:zce}(j:wZ K C=true)(e:cs.map (λc=>W.kitOne K (.ref C) (.ref c))=bs.map some)(m:d.length+bs.length<=sizeLine)(S:KSt H0 a C od d σ H)(k:∀ g H',KSt H0 a C od (d++bs) g H'->D.nx g H') :
 zoI (tOp zrt (zb4 1) (zpg (tIs K cs))) (VZ 1) D σ H:=by
 obtain⟨p,l,h⟩:=S.lst
 refine⟨.ref p,l,zl2 S.e0 S.he j cs bs _ e ⟨by rw[u8];omega,λq f=>?_⟩⟩
 refine⟨p,q,d.map V.bl,bs.map V.bl,rfl,rfl,by rw[zu (zo h f)];exact h,zr,by rw[u8,u8];exact m,λr i=>?_⟩
 rw[<-n9]
 refine k _ _ (zgK (λb o e=>?_) S.len S.e0 ?_ i)
 .have:=S.same b o e
  rw[zu (zo this f)];exact this
 .rw[zu (zo S.he f)];exact S.he
theorem zg3:∀ j:Nat,j < 13->(zgi 13 j).countP (· == true)=1/\(zgi 13 j).idxOf true=j/\true∈zgi 13 j:=by decide +kernel
theorem zmT {j:Nat} {D:zce} {e:TS} (d:W.kitOne K (.ref C) (.type "ValueError")=some true) (g:wZ K C=true) (l:j < 13) (S:KSt H0 a C od (zgi 13 j) σ H) (k:D.rt (.int j) H) :
 zrx (zrz (tOr (tNot (tB (tCB (zqW K) (X7 (zb4 0) (X7 (tC (.ty "ValueError")) zkk))))) (zgj (tOp rNe (tBM K "list" zjq (zb4 1) (X7 (tC (.bl true)) zkk)) (tC (.int 1))))) e zoz) (zrs (tBM K "list" zid (zb4 1) (X7 (tC (.bl true)) zkk))) D σ H:=by
 obtain⟨f,i,h⟩:=zg3 j l
 obtain⟨p,c,b⟩:=S.lst
 refine zeu S.e0 S.he g rfl d ⟨true,rfl,?_⟩
 show(if (!true)=true then _ else _)
 rw[t9 (by decide)]
 refine⟨.ref p,c,.inl ⟨rfl,_,SqL.of b⟩,p,_,rfl,rfl,b,?_⟩
 rw[f]
 refine⟨rfl,false,by rw[zaV];rfl,?_⟩
 show(if false=true then _ else _)
 rw[t9 (by decide)]
 refine⟨.ref p,c,.inl ⟨rfl,_,SqL.of b⟩,p,_,rfl,rfl,b,h,?_⟩
 rw[i]
 exact k
end
def zjy (c:Nat->Addr)(ok:Nat->Prop):Sp:=λd H Q _=>∃ a j b,d=[.ref a]/\H a=some (zgC a (c j) b)/\ok j/\∀ H',yU H H'->Q (.int (j:Nat)) H'
def tXA (K:W.Frag)(d:TE)(f:Str):TE:=fun σ H Q=>d σ H λx H1=>∃ a C b c v,x=.ref a/\H1 a=some (zgC a C (some b))/\H1 b=some (.xd c)/\v1 K C/\V8 K C f/\c.lookup f=some v/\Q v H1
theorem zrS {X:Cx}{e:Expr}{j:TE}{f:Str}{d:Pos}(K:PE X e j)(D:attributeBase e f X.env (eval e X.env)=eval e X.env):PE X (.Attribute e f d) (tXA X.K j f):=by
 intro b s σ H Q I h
 refine zot D (thn (K b s σ H _ I h) λu E hh9=>?_)
 obtain⟨x,H1,I1,p,a,C,F,R,v,ex,B,z,g,n,l,q⟩:=hh9
 subst ex
 obtain rfl:u=Value.ref a:=p
 obtain⟨⟨N,w,M,y,G⟩,_⟩:=I1.hok a _ B
 obtain⟨A,m,k⟩:=I1.hok F _ z
 obtain⟨c,J,P⟩:=zbV m
 obtain⟨u,t,i⟩:=zf7.some_of (v:=v) (o:=A f) (by rw[<-l];exact k f)
 have II:PySem.W.InstAt E.heap a N C (some c):=⟨w,M,G,by rw[y];exact J⟩
 obtain⟨L,r,_,hh⟩:=g.cls
 have O:W.findObj X.K C (some c) f=some (.value u):=by
  unfold W.findObj
  rw[r,j7,show W.findIn X.K (.ref C) f=some none from n]
  show((W.ownOf L (some c) f).bind _)=_
  unfold W.ownOf
  rw[hh,t6 rfl]
  dsimp only
  rw[P,t]
  rfl
 exact znu I1.kIn II g O (zg8 i) ⟨v,H1,I1.tok _,i,q⟩
theorem PS.nox {X:Cx}{b:Stmt}{t:TS}(h:PS X.nox b t):PS X b t:=λa s σ H D I hw =>
 o8 (h a s σ H D (I.wish _) hw) (λ_ _ q=>q.unwish) λ_ _ z=>False.elim z
end L2
namespace Dl
open PySem L2
variable [KK]
theorem SD.nox {X:Cx}{a:Stmt}{g:SE->Ctl}(h:SD X.nox a g):SD X a g:=let ⟨t,p,r⟩:=h;⟨t,p.nox,r⟩
noncomputable def xEx (a:Ev->Option Nat):SE->Option Nat:=fun ρ=>a (visG ρ)
theorem ZH {E:XK}{cl:Nat->Addr}{X:Cx}{a:List Stmt}:XSs E cl X a xNo:=⟨λ_ _ _=>False,λ_ _ _ _ _ _ h=>h.elim,λ_ _ _ _ _ _ _ _ _ h _=>by cases h⟩
theorem Gr.more {F H H':Hp}(s:yU F H)(k:yU H H'):Gr F H F H':=⟨yU.refl _,s.trans k,λp o a b=>⟨.inl a,k p o b⟩⟩
def zm7 (a:SE->Option Nat)(g:SE->Ctl)(h:Nat->Option D):SE->Ctl:=fun ρ=>match a ρ with
 | some j=>match h j with
  | some d=>.rt d
  | none=>.no
 | none=>g ρ
def zax (H:Hp)(j:Nat)(b:Option Addr):Prop:=match pay j with
 | none=>b=none
 | some c=>∃ a,b=some a/\H a=some (.xd c)
theorem zax.mono {H H':Hp}{j:Nat}{a:Option Addr}(h:zax H j a)(s:yU H H'):zax H' j a:=by
 unfold zax at h ⊢
 cases e:pay j with
 | none=>rw[e]at h;exact h
 | some f=>rw[e]at h;obtain⟨b,c,d⟩:=h;exact⟨b,c,s _ _ d⟩
structure Est (cl:Nat->Addr) (i j:Nat) (σ:St) (H:Hp) (a:Addr) (od:Option Addr):Prop where
 sl:σ[i]?=some (some (.ref a))
 he:H a=some (zgC a (cl j) od)
 pa:zax H j od
theorem Est.mono {cl:Nat->Addr}{i j:Nat}{σ:St}{H H':Hp}{a:Addr}{b:Option Addr}(h:Est cl i j σ H a b)(s:yU H H'):Est cl i j σ H' a b:=⟨h.sl,s _ _ h.he,h.pa.mono s⟩
def RU (c:Nat->Addr)(i:Nat)(u:TS)(h:Nat->Option D):Prop:=∀ (j:Nat) (d:D) (σ:St) (H:Hp) (a:Addr) (b:Option Addr) (D':zce),h j=some d->Est c i j σ H a b->(∀ H' v,(∀ F,yU F H->∃ F',Gr F H F' H'/\At F' d v)->D'.rt v H')->u D' σ H
theorem zqx {Y:Cx}{CS:Addr}{x n:Str}{i:Nat}{a f:List Stmt}{T:Stmt}{S y np:Pos}{B:Nat->Addr}{g:SE->Ctl}{R:SE->Option Nat}{u:TS}{h:Nat->Option D}(G:Y.stack=Y.env::Y.outer)(hf:Y.env.frame=some Y.env.locals)(N:Y.ex=[])
 (hN:Y.N.Nodup) (U:Y.N[i]?=some n) (hk:Y.env.scope.names.lookup n=some .local) (hg:Gl Y x) (hm:Y.mg x=some (.ref CS))
 (Q:∀ (c:List (Addr × Obj)) (W:Value->Shared->Prop) (E0:XK),Yh (Air Y.prog Y.w) ((Y.pinned c).wish W) E0->XSs E0 B ((Y.pinned c).wish W) a R)
 (hb:∀ (c:List (Addr × Obj)) (W:Value->Shared->Prop),SDs ((Y.pinned c).wish W) a g)
 (z:∀ j d,h j=some d->PySem.W.exmOne Y.K (.ref (B j)) (.ref CS)=some true)
 (m:Y.Ok->∀ A,PSs (Y.held (.ref A)).nox (T::f) u) (hu:RU B i u h) (hd:(x == ("__debug__":Str))=false:=by decide) :
 SD Y.nox (.Try a [.ExceptHandler (some (.Name x np)) (some n) (T::f) y] [] [] S) (zm7 R g h):=by
 let M:XK->TS:=λE0 D σ H=>∀ (c:List (Addr × Obj)) (W:Value->Shared->Prop),Yh (Air Y.prog Y.w) ((Y.pinned c).wish W) E0->∃ t,PSs ((Y.pinned c).wish W) a t/\t D σ H
 refine⟨λD σ H=>M (exW Y.K CS i Y.N.length u D) D σ H,λl s σ H D I L=>?_,λFb Hb F H ρ σ D rl k=>?_⟩
 .refine zpC (tb:=M) G hf N hN U hk hg hm (λc W E0 J l s σ H D I L=>?_) (m I.ok.unwish) hd l s σ H D I L
  obtain⟨t,p,ht⟩:=L c W J
  exact p l s σ H D I ht
 .intro c W J
  unfold zm7 at k
  cases e:R ρ with
  | none =>
   rw[e]at k
   obtain⟨t,p,r⟩:=hb c W
   exact⟨t,p,r Fb Hb F H ρ σ D rl k⟩
  | some j =>
   rw[e]at k
   dsimp only at k
   cases E:h j with
   | none=>rw[E]at k;exact k.elim
   | some d =>
    rw[E]at k
    obtain⟨t,p,r⟩:=Q c W _ J
    refine⟨t,p,r Fb Hb F H ρ σ D j rl e λF' H' O=>?_⟩
    have X:∀ (C:Option Addr) (H0:Hp),yU H' H0->zax H0 j C->exW Y.K CS i Y.N.length u D (.ref (B j)) C H0:=λC H0 sm pa=>⟨_,rfl,z j d E,λA σ' hl hn=>by
     have P:i < σ'.length:=by
      rw[hl]
      exact(q0.mp U).1
     have w:yU H0 (upd H0 A (zgC A (B j) C)):=λb o q=>by rw[zu (zo q hn)];exact q
     refine hu j d _ _ A C _ E ⟨by rw[n0 P],zr,pa.mono w⟩ λH'' v av=>?_
     obtain⟨F2,g2,a2⟩:=av F' (O.fh.trans (sm.trans w))
     exact k F2 H'' v ((O.trans (Gr.more O.fh (sm.trans w))).trans g2) a2⟩
    unfold EJ
    cases V:pay j with
    | none=>exact X none H' (yU.refl _) (by unfold zax;rw[V])
    | some fs=>exact λZ K=>X (some Z) _ (λb o q=>by rw[zu (zo q K)];exact q) (by unfold zax;rw[V];exact⟨Z,rfl,zr⟩)
def SX (c:Nat->Addr)(i:Nat)(t:TE)(f:Nat->Option D):Prop:=∀ (j:Nat) (d:D) (σ:St) (H:Hp) (a:Addr) (b:Option Addr) (Q:VK),f j=some d->Est c i j σ H a b->(∀ H' v,yU H H'->(∀ F,At F d v)->Q v H')->t σ H Q
def SXA (e:Nat->Addr)(i:Nat)(t:TA)(f:Nat->Option (List D)):Prop:=∀ (j:Nat) (b:List D) (σ:St) (H:Hp) (a:Addr) (d:Option Addr) (Q:List V->Hp->Prop),f j=some b->Est e i j σ H a d->(∀ H' c,yU H H'->(∀ F,AtL F b c)->Q c H')->t σ H Q
section
variable {cl:Nat->Addr}{i:Nat}
def fK (a:List Nat):Nat->Option D:=λj=>if j % 16∈a then some (.int (j % 16:Nat))else none
theorem ze0 {f:List Nat}{E:XK}{ok:Nat->Prop}(b:∀ j,cl j=cl (j % 16))(c:∀ j,j∈f->ok j):SX cl i (znI (zjy cl ok) [] E (X7 (zb4 i) zkk)) (fK f):=by
 intro j d σ H a h Q e g k
 unfold fK at e
 split at e <;> try cases e
 rename_i m
 refine⟨.ref a,g.sl,a,j % 16,h,rfl,?_,c _ m,λH' l=>k H' _ l λF=>.int⟩
 rw[<-b j]
 exact g.he
theorem zqN {c:Int}:SX cl i (tC (.int c)) (λ_=>some (.int c)):=λj d σ H a b Q e f k=>by
 cases e
 exact k H _ (yU.refl _) λF=>.int
def fA (f:Str)(b:List Nat):Nat->Option D:=λj=>if j % 16∈b then (pay j).bind λa=>match a.lookup f with
 | some (.int n)=>some (.int n)
 | _=>none
 else none
theorem zm6 {K:W.Frag}{f:Str}{l:List Nat}(h:∀ j,j % 16∈l->v1 K (cl j)/\V8 K (cl j) f):SX cl i (tXA K (zb4 i) f) (fA f l):=by
 intro j d σ H a t Q e g k
 unfold fA at e
 split at e <;> try cases e
 rename_i o
 obtain⟨r,s,m⟩:=u4.mp e
 have c:=g.pa
 unfold zax at c
 rw[s]at c
 obtain⟨p,rfl,b⟩:=c
 split at m <;> cases m
 rename_i n q
 exact⟨.ref a,g.sl,a,_,p,r,.int n,rfl,g.he,b,(h j o).1,(h j o).2,q,k H _ (yU.refl _) λF=>.int⟩
theorem zjC:SXA cl i zkk (λ_=>some []):=λj d σ H a b Q e c k=>by
 cases e
 exact k H _ (yU.refl _) λF=>.nil
def zei (f:Nat->Option D)(g:Nat->Option (List D)):Nat->Option (List D):=λj=>(f j).bind λd=>(g j).bind λa=>some (d::a)
theorem zbv {t:TE}{u:TA}{f:Nat->Option D}{g:Nat->Option (List D)}(h:SX cl i t f)(o:SXA cl i u g):SXA cl i (X7 t u) (zei f g):=λj d σ H a c Q e l k=>by
 obtain⟨x,s,y⟩:=u4.mp e
 obtain⟨p,w,r⟩:=u4.mp y
 cases r
 exact h j x σ H a c _ s l λH1 v b q=>o j p σ H1 a c _ w (l.mono b) λH2 z n m=>k H2 _ (b.trans n) λF=>.cons (q F) (m F)
def zqA (f:Nat->Option (List D)):Nat->Option D:=λj=>(f j).bind λa=>if a.length<=1000 then some (.lst a)else none
theorem zlE {t:TA}{f:Nat->Option (List D)}(h:SXA cl i t f):RU cl i (zrs (zpg t)) (zqA f):=λj d σ H a o D' e u k=>by
 obtain⟨q,r,g⟩:=u4.mp e
 split at g <;> cases g
 rename_i l
 refine h j q σ H a o _ r u λH' v c b=>⟨?_,λp n=>k _ _ λF s=>?_⟩
 .rw[(b H).length]
  exact f6 (YD l)
 .have m:=s.trans c
  exact⟨_,(Gr.more s c).trans (Gr.alloc m n _),At.lst zr (b _)⟩
def zlp (f:Nat->Option D)(c:Int)(a b:Nat->Option D):Nat->Option D:=λj=>match f j with
 | some (.int n)=>if n=c then a j else b j
 | _=>none
theorem zro {t:TE}{f:Nat->Option D}{c:Int}{y u:TS}{r x:Nat->Option D}(h:SX cl i t f)(C:RU cl i y r)(A:RU cl i u x):RU cl i (zrx (zrz (zgj (tOp rEq t (tC (.int c)))) y zoz) u) (zlp f c r x):=λj d σ H a o D' e p k=>by
 unfold zlp at e
 split at e <;> try cases e
 rename_i n z
 refine h j _ σ H a o _ z p λH' v m B=>?_
 cases (B H).int_inv
 have b:∀ H2 w,(∀ F,yU F H'->∃ F',Gr F H' F' H2/\At F' d w)->D'.rt w H2:=λH2 w q=>k H2 w λF s=>by
  obtain⟨F',g,E⟩:=q F (s.trans m)
  exact⟨F',(Gr.more s m).trans g,E⟩
 refine⟨rfl,decide (n=c),by rw[zaV];rfl,?_⟩
 by_cases l:n=c
 .rw[t6 l]at e
  rw[t6 (by rw[q7 l])]
  exact C j d σ H' a o _ e (p.mono m) b
 .rw[t9 l]at e
  rw[t9 (by rw[j5 l];decide)]
  exact A j d σ H' a o _ e (p.mono m) b
end
end Dl
namespace L2
open PySem PySem.Spec PyProof.Rows
def zgB (a C t:Addr)(b:Option Addr):HO:=.ext λh=>∃ c,h.get? a=some { cls:=.ref C,dict:=b,data:=.fields #[.ref t,.none,.none,.none,.bool false,.none],slots:=c }
section
variable {X:Cx}{pins:List (Addr × Obj)}{σ:St}{H:Hp}{s:Shared}{h':Heap}{a C t dx:Addr}{f:Str}
theorem zgL {P:Program}{w:World}{H:Hp}{h:Heap}{b:Option Addr}{sl:Array (Option Value)}(e:h.get? a=some { cls:=.ref C,dict:=b,data:=.fields #[.ref t,.none,.none,.none,.bool false,.none],slots:=sl }):yJ P w H h a (zgB a C t b) :=
 ⟨⟨sl,e⟩,⟨_,e⟩,λd c ⟨sl,z⟩ k=>⟨sl,k _ z⟩⟩
theorem Inv.two {φ:Heap->Prop}{p m:HO}{y:Nat}(I:Inv X pins σ H s)(w:H a=some (.ext φ))(h:∀ o,H dx=some o->∃ l,o=.xd l)(x:∀ o,s.heap.get? dx=some o->H dx≠none)(B:a≠dx)(k:∀ b o,b≠a->b≠dx->s.heap.get? b=some o->h'.get? b=some o)
 (r:yJ X.prog X.w (upd (upd H dx m) a p) h' a p) (t:yJ X.prog X.w (upd (upd H dx m) a p) h' dx m):Inv X pins σ (upd (upd H dx m) a p) { s with heap:=h',toks:=y }:=by
 have d:∀ b u,H b=some u->(∀ ψ,u≠.ext ψ)->(∀ l,u≠.xd l)->upd (upd H dx m) a p b=some u:=λb u e r t=>by
  have i:b≠a:=λz=>by subst z;rw[w]at e;cases e;exact r _ rfl
  have j:b≠dx:=λz=>by subst z;obtain⟨l,rfl⟩:=h u e;exact t _ rfl
  rw[zu i,zu j];exact e
 have f:∀ b o,s.heap.get? b=some o->H b=none->b≠a/\b≠dx:=λb o e n=>⟨λz=>by(subst z;rw[w]at n;cases n),λz=>by(subst z;exact x o e n)⟩
 refine I.un ⟨λb o e n _ _=>k b o (f b o e n).1 (f b o e n).2 e,λb o e n _ _=>⟨o.slots,k b o (f b o e n).1 (f b o e n).2 e⟩,λb o e n _=>by rw[zu (f b o e n).1,zu (f b o e n).2];exact n,λb o e _=>?_,
  λb A e=>d b _ e (λ_ z=>by cases z) (λ_ z=>by cases z),λb o u e=>d b _ e (λ_ z=>by cases z) (λ_ z=>by cases z),λb C e=>⟨#[],by rw[Array.append_empty];exact d b _ e (λ_ z=>by cases z) (λ_ z=>by cases z)⟩⟩ λb u e=>?_
 .by_cases i:b=a
  .subst i;exact r.ex
  .by_cases j:b=dx
   .subst j;exact t.ex
   .exact⟨o,k b o i j e⟩
 .by_cases i:b=a
  .subst i;rw[zr]at e;cases e;exact r
  .rw[zu i]at e
   by_cases j:b=dx
   .subst j;rw[zr]at e;cases e;exact t
   .rw[zu j]at e
    refine(I.hok b u e).stay (λc v g q=>?_) (λc g=>d c _ g (λ_ z=>by cases z) λ_ z=>by cases z) λc A g=>d c _ g (λ_ z=>by cases z) λ_ z=>by cases z
    rcases g with rfl | g
    .exact k _ v i j q
    .refine k c v (λz=>?_) (λz=>?_) q
     .subst z;rw[w]at g;cases g
     .subst z;obtain⟨l,z⟩:=h _ g;cases z
theorem zrJ {A:Around}{E:Value->Shared->Prop}{y:V}{u:Value}{Q:Unit->Shared->Prop}(I:Inv X pins σ H s)(e:H a=some (zgB a C t none))(j:v1 X.K C)(n:V8 X.K C f)(p:xt y u)
 (h:∀ dx c,H dx=none->Inv X pins σ (upd (upd H dx (.xd [(f,y)])) a (zgB a C t (some dx))) c->Q () c):wpAny (model X.prog X.w) A (setAttr (.ref a) f u) Q E s:=by
 obtain⟨⟨i,d⟩,_⟩:=I.hok a _ e
 refine zkE I.kIn d rfl rfl rfl j n λh' r v l=>h s.heap.objs.size _ (I.hok.fresh (t4 _)) ?_
 have k:a≠s.heap.objs.size:=q5 (t3 d)
 refine I.two e (λo z=>by rw[I.hok.fresh (t4 _)]at z;cases z) (λo z=>absurd (t3 z) (l7 _)) k (λb o m _ z=>l b o m z) (zgL (sl:=i) r) ⟨_,v,λg=>?_⟩
 show zf7 (List.lookup g [(f,y)]) _
 by_cases q:g=f
 .subst q
  rw[t6 rfl]
  simp only[List.lookup,u0A]
  exact p
 .rw[t9 q]
  simp only[List.lookup,p3.mpr q]
  trivial
end
def sX1 (K:W.Frag)(d c:TE)(f:Str):TS:=λD σ H=>c σ H λy H1=>d σ H1 λx H2=>∃ a C t,x=.ref a/\H2 a=some (zgB a C t none)/\v1 K C/\V8 K C f/\∀ b,H2 b=none->D.nx σ (upd (upd H2 b (.xd [(f,y)])) a (zgB a C t (some b)))
section
variable {X:Cx}{o e value:Expr}{f:Str}{pos pos':Pos}{ta tv:TE}
theorem zrY (l:PE X o ta)(c:PE X value tv)(j:swapsWith value (some (.Attribute o f pos')) pos.line X.env=pure false):PS X (.Assign [.Attribute o f pos'] value pos) (sX1 X.K ta tv f):=by
 intro b s σ H D I h
 refine plainObj_wpAny_Assign_Attribute (thn (c b s σ H _ I h) λu d ⟨y,H1,I1,p,q⟩=>thn (l b d σ H1 _ I1 q) λv w hh9=>?_) j
 obtain⟨x,H2,I2,e,a,C,t,ex,r,i,n,m⟩:=hh9
 subst ex
 obtain rfl:v=Value.ref a:=e
 exact zrJ I2 r i n p λg z k I3=>⟨σ,_,I3,m g k⟩
end
def spI (K:W.Frag)(m:Nat)(d:List Str)(g:List V->List (Str × V)):Sp:=λe H Q _=>∃ a C t b,e=.ref a::b/\b.length=m/\H a=some (zgB a C t none)/\v1 K C/\(∀ f,f∈d->V8 K C f)/\∀ c,H c=none->Q .non (upd (upd H c (.xd (g b))) a (zgB a C t (some c)))
def gI1 (f:Str):List V->List (Str × V):=λa=>[(f,a.getD 0 .non)]
theorem znk {K:W.Frag}{m:Nat}{c:List Str}{g:List V->List (Str × V)}(b:List V)(H:Hp)(Q:VK)(E:XK)(h:spI K m c g b H Q E):b.length=m+1:=by
 obtain⟨a,C,t,e,rfl,d,_⟩:=h
 rw[g0,d]
theorem zmO {K:W.Frag} {f:Str} {c:List V} {H:Hp} {Q:VK} {E:XK} {rt:VK} (h:spI K 1 [f] (gI1 f) c H Q E):sX1 K (zb4 0) (zb4 1) f { nx:=λ_ H'=>Q .non H',rt:=rt } (start ["self",f] c) H:=by
 obtain⟨a,C,t,d,rfl,b,k,i,e,q⟩:=h
 obtain⟨y,rfl⟩:∃ y,d=[y]:=by
  cases d with
  | nil=>cases b
  | cons y r=>cases r with
   | nil=>exact⟨y,rfl⟩
   | cons _ _=>cases b
 exact⟨y,rfl,.ref a,rfl,a,C,t,rfl,k,i,e f (t7.mpr rfl),λg j=>q g j⟩
section
variable {X:Cx}{pins:List (Addr × Obj)}{σ:St}{H:Hp}{s:Shared}{ea dx:Addr}{φ:Heap->Prop}
theorem Inv.untrack {H':Hp}(I:Inv X pins σ H s)(h:H ea=some (.ext φ))(l:H' ea=none)(g:∀ b,b≠ea->H' b=H b):Inv X pins σ H' s:=by
 have no:∀ b,H b=none->H' b=none:=λb e=>by
  have:b≠ea:=λz=>by(subst z;rw[h]at e;cases e)
  rw[g b this];exact e
 have a:∀ b u,H b=some u->(∀ ψ,u≠.ext ψ)->H' b=some u:=λb u e n=>by
  have:b≠ea:=λz=>by(subst z;rw[h]at e;cases e;exact n _ rfl)
  rw[g b this];exact e
 refine⟨I.ok,I.os,I.bare,⟨I.base.keep,I.base.slot,λb o e n k=>no b (I.base.free b o e n k),I.base.there,λb i e=>a b _ (I.base.tups b i e) (λ_ z=>by cases z),λb o u e=>a b _ (I.base.frzs b o u e) (λ_ z=>by cases z),λb t e=>?_⟩,I.loc,I.cell,no _ I.free,λx c e=>no _ (I.freeC x c e),λp j=>?_,λb u e=>?_,I.len⟩
 .obtain⟨d,z⟩:=I.base.tbls b t e
  exact⟨d,a b _ z λ_ y=>by cases y⟩
 .obtain⟨e,n,r⟩:=I.pin p j
  exact⟨e,no _ n,r⟩
 .have m:b≠ea:=λz=>by(subst z;rw[l]at e;cases e)
  rw[g b m]at e
  exact(I.hok b u e).stay (λ_ _ _ q=>q) (λc f=>a c _ f λ_ z=>by cases z) λc i f=>a c _ f λ_ z=>by cases z
end
structure zoV (K:W.Frag) (mg:Str->Option Value) (C:Addr) (x:Str) (f:Addr) (ns:List Str):Prop where
 bound:mg x=some (.ref C)
 exc:zpZ K C f=true
 attr:zcv K C=true
 no:∀ n,n∈ns->W.findIn K (.ref C) n=some none
theorem zhv {P:Program}{w:World}{K:PySem.W.Frag}{S:Str->Option Value}{i:Heap}{N:List Str}{j:Str}{d:Scope}{f:Addr}{Y:Value}{A:Around}{outer:List Env}{s:Shared}{H:Hp}{E:XK}{C fI:Addr}{fd:FuncData}{x:Str}{np G c3:Pos}{ns ps:List Str}{m k:Nat}{g:List V->List (Str × V)}{e:Expr}{es:List Expr}{t:TA}
 (hc:zoV K S C x fI ns) (F:Yb P w K S i CX0 k fI fd ps (spI K m ns g)) (O:Yc K fd ps []) (hr:ww (k+1) (vX (Air P w) P w K S i N j d f Y A outer s H E).A) (hg:Gl (vX (Air P w) P w K S i N j d f Y A outer s H E) x) (ha:PA (vX (Air P w) P w K S i N j d f Y A outer s H E) (e::es) t) (hd:(x == ("__debug__":Str))=false:=by decide)
 (a7:starEach (e::es) (vX (Air P w) P w K S i N j d f Y A outer s H E).env=(false,eval e (vX (Air P w) P w K S i N j d f Y A outer s H E).env)::starEach es (vX (Air P w) P w K S i N j d f Y A outer s H E).env:=by rfl) (c0:(backTo G (starEach es (vX (Air P w) P w K S i N j d f Y A outer s H E).env)).any (·.1)=false:=by rfl) :
 PS (vX (Air P w) P w K S i N j d f Y A outer s H E) (.Raise (some (.Call (.Name x np) (e::es) [] G)) none c3) (λ_ σ H0=>t σ H0 λU H1=>U.length=m/\m<=1000/\∀ p,H1 p=none->E (.ref C) (some p) (upd H1 p (.xd (g U)))):=by
 let X:=vX (Air P w) P w K S i N j d f Y A outer s H E
 intro l s1 σ H0 D I h
 have I:Inv X l σ H0 s1:=I
 obtain⟨bm,NN,nm,q,bs,sn,b0,ab,a6,dd,k0,k1,k2,k3,k5,mN,oI,hC,hN,hi,T,hf,c1⟩:=zjT I.ok.mod.kin hc.exc
 refine zfF (C:=C) (nm:=nm) (q:=q) (N:=NN) (bs:=bs) (bm:=bm) (hdct:=true) (sn:=sn) (sub:=b0) (ab:=ab) (col:=a6) (dd:=dd) (k0:=k0) (k1:=k1) (k2:=k2) (k3:=k3) (k5:=k5) (mN:=mN) (fI:=fI) (oI:=oI) (T.hasType i2.hasBase) (I.ok.hd rfl) (by rw[a7];show((false||(backTo G (starEach es _)).any (·.1)))=false;rw[c0];rfl) hi c1 (Xa I hg hc.bound ⟨rfl,?_⟩ hd)
 have hs:=ha G l s1 σ H0 _ I h
 rw[a7]at hs ⊢
 refine PySem.Calls.evalArgs_plain (o8 hs (λW c z=>?_) λ_ _ z=>z)
 obtain⟨U,H1,I2,r,hl,hm,hE⟩:=z
 have I2:Inv X l σ H1 c:=I2
 have b7:W.length<=sizeLine:=by rw[<-r.length,hl];exact f6 (YD hm)
 refine⟨rfl,b7,I2.bk _ _ hC,hN.keeps I2.bk,T.keeps I2.bk,I2.bk _ _ hf,?_⟩
 have I3:Inv X l σ (upd H1 (c.heap.objs.size+1) (zgB (c.heap.objs.size+1) C c.heap.objs.size none)) { c with heap:=exH c.heap C W }:=I2.laid (t':=c.toks) (λb o z=>wT z) (u0h _) (zgL (zmm _ _ _))
 have b4:H1 (c.heap.objs.size+1)=none:=I2.hok.fresh (u0h _)
 let R:VK:=λv H'=>v=.non/\∃ p,upd H1 (c.heap.objs.size+1) (zgB (c.heap.objs.size+1) C c.heap.objs.size none) p=none/\H'=upd (upd (upd H1 (c.heap.objs.size+1) (zgB (c.heap.objs.size+1) C c.heap.objs.size none)) p (.xd (g U))) (c.heap.objs.size+1) (zgB (c.heap.objs.size+1) C c.heap.objs.size (some p))
 have a8:spI K m ns g (.ref (c.heap.objs.size+1)::U) (upd H1 (c.heap.objs.size+1) (zgB (c.heap.objs.size+1) C c.heap.objs.size none)) R E0:=⟨_,C,_,U,rfl,hl,zr,.of hc.attr,hc.no,λp J=>⟨rfl,p,J,rfl⟩⟩
 have r3:yZ (V.ref (c.heap.objs.size+1)::U) (Value.ref (c.heap.objs.size+1)::W):=.cons rfl r
 have c4:(Value.ref (c.heap.objs.size+1)::W++[]).length=ps.length:=by rw[o9,<- r3.length];exact F.len _ _ _ _ a8
 have bd:=O { c with heap:=exH c.heap C W } (Value.ref (c.heap.objs.size+1)::W) I3.kIn c4
 rw[o9]at bd
 refine u1w (u06 (F.run _ X.stack _ _ ⟨Value.ref (c.heap.objs.size+1)::W,[]⟩ _ _ R E0 (hr.make C W []) (I3.env0.make C W []) bd r3 a8) λres Z z=>?_)
 cases res with
 | error e=>exact z.elim
 | ok fl =>
  cases fl with
  | next=>exact False.elim z
  | brk=>exact False.elim z
  | cont=>exact False.elim z
  | ret u =>
   obtain⟨v,H4,b8,a0,a5,a9,rv,rfl,p,J,rfl⟩:=id z
   have J4:Inv X l σ _ Z:=I3.call' (ch:=[]) b8 a5 a9 a0 (λb z=>nomatch z)
   obtain rfl:u=Value.none:=rv
   have a1:c.heap.objs.size+1≠p:=λz=>by(subst z;rw[zr]at J;cases J)
   have b5:H1 p=none:=by rw[zu a1.symm]at J;exact J
   have J5:Inv X l σ (upd H1 p (.xd (g U))) Z:=J4.untrack (ea:=c.heap.objs.size+1) zr (by rw[zu a1];exact b4) λb O=>by
    rw[zu O]
    unfold upd
    by_cases M:b=p
    .rw[t6 M,t6 M]
    .rw[t9 M,t9 M,t9 O]
   obtain⟨⟨sl,a3⟩,_⟩:=J4.hok _ _ zr
   refine⟨rfl,_,some p,sl,J4.bk _ _ hC,a3,?_⟩
   show wpAny (model P w) X.A (leaving X.env (.ref (c.heap.objs.size+1))) (λ_ a2=>Air P w outer H s E (.ref (c.heap.objs.size+1)) a2) _ Z
   let B:=PySem.W.hideAll Z.heap ((c.heap.objs.size+1)::frs X.stack)
   have c2:∀ env∈X.stack,∀ a,env.frame=some a->a∈(c.heap.objs.size+1)::frs X.stack:=λenv he a ha=>.tail _ (u1d.mpr ⟨env,he,ha⟩)
   refine Xq (Xy _ _) (wpAny_leaving_firstW (Q:=λ_ a2=>∃ M,a2={ Z with heap:=M }/\Heap.LeftW B (X.env::outer) (c.heap.objs.size+1) (.ref C) (.ref c.heap.objs.size) Z.heap M) (base:=B) (L:=X.env.locals) (outer:=outer) (J4.ok.frames) (PySem.W.funFrames_hide J4.stack c2) rfl a3 (λb o q=>u2d _ q) (u1J _ (.head _)) rfl rfl rfl λM y=>⟨M,rfl,y⟩) ?_
   rintro _ _ ⟨M,rfl,y1,⟨_,_,y2⟩,y3,y4⟩ dk
   have x1:Heap.FlyingW B outer (c.heap.objs.size+1) (.ref C) (.ref c.heap.objs.size) M:=⟨y1,u1J _ (.head _),y2,y3⟩
   have a4:∀ b,b∉frs X.stack->b≠c.heap.objs.size+1->b∉(c.heap.objs.size+1)::frs X.stack:=λb h1 M z=>(q4.mp z).elim M h1
   have b9:Cov X.stack H1 c.heap (upd H1 p (.xd (g U))) Z.heap B:=by
    refine⟨λb o e n O=>?_,λb o e O=>?_,λb o O e=>?_⟩
    .have ne:b≠c.heap.objs.size+1:=q5 (i4 (t3 e))
     exact i5 _ (a5.keep b o (wT e) (by rw[zu ne];exact n) O (by simp)) (a4 b O ne)
    .have ne:b≠c.heap.objs.size+1:=q5 (i4 (t3 e))
     obtain⟨o',e'⟩:=a5.there b o (wT e) (by simp)
     exact⟨o',i5 _ e' (a4 b O ne)⟩
    .refine i5 _ e (a4 b (λz=>O (J5.stkFree b z)) λz=>?_)
     subst z
     exact O (by rw[zu a1];exact b4)
   obtain⟨u1,u2,u3⟩:=I2.airUn (X:=X) rfl J5 b9 x1.1 x1.2.2.1 y4
   obtain⟨ob,b6,_⟩:=x1.there
   exact⟨_,C,_,some p,_,B,rfl,J5.os,J5.bare,u1,u2,x1,u3,Zv.stay (h:=Z.heap) ⟨_,a3,rfl⟩ dk ⟨ob,b6⟩,hE p b5⟩
end L2
namespace Dl
open PySem L2
variable [KK]
def xRI (a:List D->Option Nat)(b:Ev->Option (List D)):SE->Option Nat:=fun ρ=>(b (visG ρ)).bind a
def zra (c a:Nat):List D->Option Nat
 | [.int i]=>if -1<=i then some (c+16*a+64*(i+1).toNat)else none
 | _=>none
def zqe (d:Nat->Addr)(C:Addr)(m:Nat)(g:List V->List (Str × V))(a:List D->Option Nat):Prop:=∀ b j,a b=some j->d j=C/\b.length=m/\∀ F c,AtL F b c->pay j=some (g c)
theorem znt {cl:Nat->Addr} {c:Nat} (b:∀ j,cl j=cl (j % 16)) (k:c < 16):zqe cl (cl c) 1 (gI1 "at") (zra c 1):=by
 intro m j e
 unfold zra at e
 split at e <;> try cases e
 rename_i i
 split at e <;> cases e
 rename_i n
 refine⟨by rw[b (c+16*1+64*(i+1).toNat)];congr 1;omega,rfl,λF l a=>?_⟩
 obtain⟨v,r,rfl,f,d⟩:=a.cons_inv
 cases f.int_inv
 cases d.nil_inv
 have g:(c+16*1+64*(i+1).toNat) / 16 % 4=1:=by omega
 have h:(((c+16*1+64*(i+1).toNat) / 64:Nat):Int) - 1=i:=by omega
 unfold pay
 rw[g]
 show some [(_,V.int _)]=_
 rw[h]
 rfl
theorem ziS {P:Program}{w:World}{K:PySem.W.Frag}{h:Str->Option Value}{c:Heap}{N:List Str}{d:Str}{b:Scope}{f:Addr}{i:Value}{A:Around}{outer:List Env}{s:Shared}{H:Hp}{E:XK}{cl:Nat->Addr}{C B:Addr}{M:FuncData}{x:Str}{Y l v:Pos}{I L:List Str}{m k:Nat}{g:List V->List (Str × V)}{e:Expr}{o:List Expr}{n:List D->Option Nat}{G:Ev->Option (List D)}
 (Q:zoV K h C x B I) (F:Yb P w K h c CX0 k B M L (spI K m I g)) (hb:Yc K M L []) (u:zqe cl C m g n) (O:ww (k+1) (vX (Air P w) P w K h c N d b f i A outer s H E).A) (X:Gl (vX (Air P w) P w K h c N d b f i A outer s H E) x) (U:AD (vX (Air P w) P w K h c N d b f i A outer s H E) (e::o) G) (hm:m<=1000:=by decide) (T:(x == ("__debug__":Str))=false:=by decide)
 (y:starEach (e::o) (vX (Air P w) P w K h c N d b f i A outer s H E).env=(false,eval e (vX (Air P w) P w K h c N d b f i A outer s H E).env)::starEach o (vX (Air P w) P w K h c N d b f i A outer s H E).env:=by rfl) (q:(backTo l (starEach o (vX (Air P w) P w K h c N d b f i A outer s H E).env)).any (·.1)=false:=by rfl) :
 XS E cl (vX (Air P w) P w K h c N d b f i A outer s H E) (.Raise (some (.Call (.Name x Y) (e::o) [] l)) none v) (xRI n G):=by
 obtain⟨t,R,ra⟩:=U
 refine⟨_,zhv Q F hb O X R T y q,λFb Hb F H ρ σ D' j r e w=>?_⟩
 obtain⟨J,e1,e2⟩:=u4.mp e
 obtain⟨ec,el,S⟩:=u J j e2
 refine ra σ _ _ H J _ r.gh r.visG e1 λF' H' W Z a=>⟨by rw[a.length];exact el,hm,λdx p=>?_⟩
 have z:=w F' H' (r.out Z)
 unfold EJ at z
 rw[S F' W a,ec]at z
 exact z dx p
def zdU (b:D->SE->Option SE)(c:SE->Option Nat)(g:SE->Ctl):List D->SE->Option Nat
 | [],_=>none
 | d::ds,ρ=>match b d ρ with
  | none=>none
  | some e=>match c e with
   | some j=>some j
   | none=>match g e with
    | .nx a=>zdU b c g ds a
    | .ct a=>zdU b c g ds a
    | _=>none
end Dl
namespace L2
open PySem PySem.Spec PyProof.Rows
def zpX (s:Stmt)(k:Nat):Stmt:=match s with
 | .ClassDef _ _ _ a _ _ _ _ _ _ _=>a.getD k s
 | _=>s
def zrN (K:W.Frag)(C:Addr)(a:List Str):Bool:=a.all λn=>W.findIn K (.ref C) n == some none
theorem zjx {K:W.Frag}{C:Addr}{a:List Str}(h:zrN K C a=true):∀ n,n∈a->W.findIn K (.ref C) n=some none:=λn b=>u0u.mp (m7.mp h n b)
end L2
namespace Dl
open PySem L2
def znn (a:List Nat)(h:Nat->Option D):Nat->Option D:=λj=>if j % 16∈a then h j else none
theorem znm {a:List Nat}{h:Nat->Option D}{j:Nat}{d:D}(e:znn a h j=some d):j % 16∈a:=by
 unfold znn at e
 split at e
 .assumption
 .cases e
theorem zoS {b:Nat->Addr}{i:Nat}{f:List Nat}{u:TS}{h:Nat->Option D}[KK](r:RU b i u h):RU b i u (znn f h):=λj d σ H a c D' e g k=>by
 unfold znn at e
 split at e
 .exact r j d σ H a c D' e g k
 .cases e
end Dl
namespace Dl
open PySem L2
variable [KK]
section
variable {E:XK}{cl:Nat->Addr}{X:Cx}{a b:Expr}{pos:Pos}
theorem zrF {c:Ev->Option Nat}{f:Ev->Option D}(h:XE E cl X a c)(k:ED X b f)(g:VC b):XE E cl X (.Subscript a b pos) c:=by
 obtain⟨t,p,r⟩:=h
 obtain⟨u,i,_⟩:=k
 exact⟨_,zjZ zma p i g,fun σ ρ F H j Q s d e w=>r σ ρ F H j _ s d e w⟩
end
end Dl
namespace PySem
open Sem (wp)
theorem zb1 {b:Program}{w:World}{d:Addr}(f:(d == sysModules)=false) :
 MeetsIn b w (Builtin.«dict.__len__» ⟨[.ref d],[]⟩) (λ_ R s=>∃ o c e,s.heap.get? d=some o/\o.data=.dict c e/\R (.ok (.ret (.int c.size s.toks))) { s with toks:=s.toks+1 }) :=
 .of_wp λA R s ⟨o,c,e,g,a,h⟩=>by
  show wpAny _ _ (dictSize d>>=_) _ _ s;unfold dictSize;refine u0 (u0 (u1x g a (u6 ?_)))
  show wpAny _ _ (Builtin.Dict.pendingCount d>>=_) _ _ s;refine u0 (wpAny_pendingCount_other f (wpAny_ret_mkInt ?_))
  simpa using h
theorem zaE {c:Program} {w:World} {A:Around} {E:Value->Shared->Prop} {s:Shared} {d:Addr} {o:Obj} {a:Array DictEntry} {e:Nat} {Q:Value->Shared->Prop} (i:(d == sysModules)=false) (f:s.heap.get? d=some o) (g:o.cls=.type "dict") (b:o.data=.dict a e) (j:(a.size:Int) < 2 ^ 63)
 (h:Q (.int a.size (s.toks+1)) { s with toks:=s.toks+1+1 }):wpAny (model c w) A (call (.builtin "len") [.ref d]) Q E s:=by
 have ty:s.TypeIs (.ref d) "dict":=⟨o,f,g⟩
 refine u0Q kind_len plain_len entry_len (args_len1 _) ?_
 unfold Builtin.«len»
 refine u0 (m:=oneArg "len" _) (u6 (u0 (m:=callSpecial? (.ref d) (Str.ofString "__len__")) (o0 (name:=Str.ofString "__len__") ty F.slot_dict_len (call_meetsIn F.slot_dict_len ty F.entry_dict_len (F.args_dict_len_1 _) (zb1 i) ⟨o,a,e,f,b,?_⟩))))
 show wpAny _ _ _ _ _ { s with toks:=s.toks+1 };refine u0 (r6 (u6 (u0 (wpAny_letGo ?_))))
 show wpAny _ _ (if ((a.size:Nat):Int) < 0 then _ else _) _ _ _;rw[t9 (by omega)]
 show wpAny _ _ (if ((a.size:Nat):Int) >= 2 ^ 63 then _ else _) _ _ _;rw[t9 (by omega)]
 exact u0 (wpAny_mkInt (u6 ⟨_,rfl,h⟩))
end PySem
namespace L2
open PySem PySem.Spec PyProof.Rows
def zp8:List V->Hp->VK->Prop:=λc H Q=>∃ (a:Addr) (b:List (List Key × V)),c=[.ref a]/\Rd H a (.dT b)/\Q (.int b.length) H
theorem zh1 {X:Cx}:vN X (.builtin "len") zp8:=by
 intro d s σ H w t Q I r h
 obtain⟨a,c,rfl,e,q⟩:=h
 obtain⟨u,rfl,k⟩:=W3 r
 cases k
 obtain⟨y,g,x,m,o,p,v,j,f,b,i,_⟩:=zfm I.hok e
 have l:p.size=c.length:=(size_of_entries i).trans m.length.symm
 have n:=WK
 refine zaE g j f.1 b (by omega) ⟨.int c.length,H,I.tok _,⟨_,by rw[l]⟩,q⟩
end L2
namespace Dl
open PySem L2
variable [KK]
section
variable {X:Cx}{e de:Expr}{p pos kp:Pos}
def zn3:List D->Option D
 | [.dct _ true ks _]=>some (.int ks.length)
 | _=>none
theorem zjQ:CaD zp8 zn3:=by
 intro F H l n z Q s k e q
 unfold zn3 at e
 split at e <;> cases e
 obtain⟨x,r,rfl,d,i⟩:=k.cons_inv
 cases i.nil_inv
 unfold At at d
 obtain⟨a,m,rfl,⟨u,j,c⟩,_⟩:=d
 obtain⟨b,rfl,h,_⟩:=j
 have g:Rd H a (.dT b):=by
  split at c
  .obtain⟨f,c⟩:=c
   exact .inr ⟨f,s _ _ c⟩
  .exact .inl (s _ _ c)
 exact⟨a,b,rfl,g,by rw[show(b.length:Int)=((b.map (·.1)).length:Nat) by rw[u8],h];exact q F H _ (.refl s) .int⟩
end
end Dl
namespace OwnDk
open PySem
section
variable {prog:Program}{w:World}{A:Around}{E:Value->Shared->Prop}{s:Shared}
theorem zcH (hh:A.handled=none)(I a:Addr)(hne:a≠I){ob:Obj}{es:Array DictEntry}{ep:Nat}(hd:ob.data=.dict es ep) :
 Walks prog w A I [I,a] [I] es.size (λi v=>∃ e,es[i]?=some e/\v=e.key) (λi h=>h.IsKeyIter I a i es.size ep/\h.get? a=some ob) where
 sub:=λb hb=>by simp at hb;simp[hb]
 frame:=λ_ _ _ x hk=>⟨x.1.at λo e=>hk I (by simp) o e,hk a (by simp) _ x.2⟩
 item:=λi s Q E hi x hQ=>by
  have hx:es[i]?=some (es[i]'hi):=p7 _
  refine L2.raw_next x.1 x.2 hd hx λh' he' hs'=>?_
  exact hQ _ h' s.toks ⟨_,hx,rfl⟩ ⟨he',(hs'.2 a hne).trans x.2⟩ λb o hb eo=>hs'.extBut b o (λh=>hb (by simp[h])) eo
 done:=λs Q E x hQ=>L2.raw_end hh x.1 x.2 hd (t4 _) λh' he'=>hQ h' s.toks λb o hb eo=>he' b o (λh=>hb (by simp[h])) eo
 self:=λ_ _ _ _ x hQ=>wpAny_pyIter_keyiter x.1 hQ
theorem Wg {a:Addr}{v:Obj}{g:Array DictEntry}{u:Nat}{Q:List Value->Shared->Prop}(hh:A.handled=none)(S:(a == sysModules)=false)(N:s.heap.get? a=some v)(H:v.ExactDict)(M:v.data=.dict g u)(Z:g.size<=sizeLine)
 (R:∀ k,(∀ b o,s.heap.get? b=some o->k.heap.get? b=some o)->k.gens=s.gens->k.drawn=s.drawn->k.os=s.os->Q (g.toList.map (·.key)) k):wpAny (model prog w) A (collect (.ref a)) Q E s:=by
 have D:a < s.heap.objs.size:=t3 N
 have t:s.heap.objs.size≠a:=u03 D
 unfold collect
 refine u0 (wpAny_runValue (i9 F.entry_proto_collect ?_))
 rw[i0 F.plain_proto_collect _]
 show wpAny _ A.in1 (newList []>>=λl=>again (.builtin "list.__iadd__" ⟨[l,.ref a],[]⟩)) _ _ s
 refine u0 (n6 ?_)
 refine u6 ⟨u0N u1s _,i9 F.entry_list_iadd ?_⟩
 rw[i0 u1s _]
 have j:(s.heap.push { cls:=.type "list",data:=.seq ([]:List Value).toArray }).get? a=some v:=u5 _ N
 have x:(s.heap.push { cls:=.type "list",data:=.seq ([]:List Value).toArray }).get? s.heap.objs.size=some { cls:=.type "list",data:=.seq ([]:List Value).toArray }:=q2 _ rfl
 generalize y:s.heap.push { cls:=.type "list",data:=.seq ([]:List Value).toArray }=h1 at j x ⊢
 have k1:∀ b o,s.heap.get? b=some o->h1.get? b=some o:=λb o e=>by rw[<-y];exact u5 _ e
 have n:h1.objs.size=s.heap.objs.size+1:=by rw[<-y];exact s0 ..
 show wpAny _ A.in1 (Builtin.List.listExtendWith (.ref s.heap.objs.size) (.ref a) (.ref s.heap.objs.size)) _ _ _
 unfold Builtin.List.listExtendWith
 refine u0 (u0x (T:="dict") ⟨_,j,H.1⟩ ?_)
 have g1:Builtin.List.listSameRef (.ref s.heap.objs.size) (.ref a)=false:=by simp[Builtin.List.listSameRef,t]
 have X:(Value.type "dict" == Value.type "list")=false:=by decide
 have g3:(Value.type "dict" == Value.type "tuple")=false:=by decide
 simp only[g1,X,g3,u2I,u0o,u1S]
 refine u0 (L2.raw_iter S j H M ?_)
 have B:(h1.push { cls:=.type "dict_keyiterator",data:=.fields #[.ref a,.int 0 0,.int g.size 0,.int u 0] }).IsKeyIter h1.objs.size a 0 g.size u:=⟨_,q2 _ rfl,rfl,rfl⟩
 have p:(h1.push { cls:=.type "dict_keyiterator",data:=.fields #[.ref a,.int 0 0,.int g.size 0,.int u 0] }).get? a=some v:=u5 _ j
 have r:=u5 { cls:=.type "dict_keyiterator",data:=.fields #[.ref a,.int 0 0,.int g.size 0,.int u 0] } x
 generalize J:h1.push { cls:=.type "dict_keyiterator",data:=.fields #[.ref a,.int 0 0,.int g.size 0,.int u 0] }=h2 at B p r ⊢
 have V:∀ b o,h1.get? b=some o->h2.get? b=some o:=λb o e=>by rw[<-J];exact u5 _ e
 refine u0 (r6 (PySem.W.kdl_hint_dict ⟨_,p,H.1⟩ ?_))
 show wpAny _ A.in1 (if true=true then _ else _) _ _ _
 rw[t6 rfl]
 refine u0 (u08 (u0 ?_))
 show wpAny _ A.in1 (updateSeq s.heap.objs.size (·.push .none)>>=λ_=>updateSeq s.heap.objs.size (·.pop)) _ _ _
 refine u0 (u1m r rfl ?_)
 have C:=k9 (Obj.mapSeq (·.push Value.none)) r rfl
 refine u1m (hz:=by seq_fits) C rfl ?_
 have G:=k9 (Obj.mapSeq (·.pop)) C rfl
 have q:∀ b o,b≠s.heap.objs.size->h2.get? b=some o->((h2.update s.heap.objs.size (Obj.mapSeq (·.push Value.none))).update s.heap.objs.size (Obj.mapSeq (·.pop))).get? b=some o :=
  λb o P e=>(r9 _ _ (u0b P)).trans ((r9 _ _ (u0b P)).trans e)
 have m:h1.objs.size≠s.heap.objs.size:=by rw[n];exact Nat.succ_ne_self _
 have K:a≠h1.objs.size:=by rw[n];exact q5 (i4 D)
 have W:=zcH (prog:=prog) (w:=w) (A:=A.in1) hh h1.objs.size a K M
 refine u6 ⟨u0N u1U _,u1L W.toS Z _ (λd=>?_) _ g.size 0 _ #[] _ rfl (o5 _) ⟨B.at λo e=>q _ _ m e,q _ _ (u0b t) p⟩ G (ItemsOf.nil _) λk f c' h I c=>?_⟩
 .rcases q4.mp d with e | e
  .exact m e.symm
  .exact t (t7.mp e)
 .show wpAny _ A (load s.heap.objs.size>>=_) _ _ k
  refine u0 (wpAny_load I ?_)
  refine u6 ?_
  have e1:f.toList=g.toList.map (·.key):=by
   apply u0L
   intro i
   by_cases L:i < g.size
   .have O:f[i]?=some (f[i]'(by rw[c.1];exact L)):=p7 _
    obtain⟨e,Y,U⟩:=c.2 i _ O
    rw[j1,u0n,u0n,O,Y,U]
    rfl
   .rw[g8 (by rw[r8,c.1];exact m4 L),g8 (by rw[u8,r8];exact m4 L)]
  rw[e1]
  refine R k (λb o e=>h.heap b o (λd=>?_) (q b o (q5 (t3 e)) (V b o (k1 b o e)))) h.gens h.drawn h.os
  rcases q4.mp d with z | z
  .exact q5 (t3 e) z
  .have:=t3 e
   rw[t7.mp z,n]at this
   exact absurd (u2w this) (l7 _)
theorem own_sorted_dict {a:Addr}{r:Obj}{l:Array DictEntry}{L:Nat}{Q:Value->Shared->Prop}(hh:A.handled=none)(M:(a == sysModules)=false)(P:s.heap.get? a=some r)(J:r.ExactDict)(O:r.data=.dict l L)(g:l.size < 64)(F:∀ v∈l.toList.map (·.key),∃ t,OwnSortT.TT s.heap v t)
 (h:∀ (f y:Heap) (B:Nat) (d:Array Value) (c:Nat),d.toList.Perm (l.toList.map (·.key))->OwnSortT.Rise s.heap d.toList->(∀ b o,s.heap.get? b=some o->f.get? b=some o)->(∀ b o,f.get? b=some o->y.get? b=some o) ->
  y.get? f.objs.size=some { cls:=.type "list",dict:=none,data:=.seq d c,slots:=#[] }->Q (.ref f.objs.size) { s with heap:=y,toks:=B }) :
 wpAny (model prog w) A (call (.builtin "sorted") [.ref a]) Q E s:=by
 refine u0Q u2y u2o u2n (u2m _) ?_
 unfold Builtin.«sorted»
 refine u0 (m:=checkCount "sorted" 1 1 _) (u6 (u0 (Wg hh M P J O (k8 (f6 g) (by rw[u0r];decide)) λR k X g2 g3=>?_)))
 obtain⟨f,Z,Y,H,x⟩:=R
 have e1:Z=s.gens:=X
 have e2:Y=s.drawn:=g2
 have V:x=s.os:=g3
 subst e1 e2 V
 have g:(l.toList.map (·.key)).length < 64:=by rw[u8,r8];exact g
 generalize l.toList.map (·.key)=vs at *
 refine u0 (wpAny_newList ?_)
 have j:(f.push (PyProof.Rows.seqObj "list" vs.toArray 0)).get? f.objs.size=some (PyProof.Rows.seqObj "list" vs.toArray 0):=q2 _ rfl
 have G:∀ b o,s.heap.get? b=some o->(f.push (PyProof.Rows.seqObj "list" vs.toArray 0)).get? b=some o:=λb o e=>u5 _ (k b o e)
 refine u0 (r6 (o7 u11 ⟨_,j,rfl⟩ u1R (OwnSortT.ownT_list_sort j (λv q=>let ⟨t,u⟩:=F v q;⟨t,u.keep G⟩) g λd C T=>⟨_,rfl,?_⟩) (u10 _)))
 have p:OwnSortT.Rise s.heap d.toList:=by
  obtain⟨N,W,S,K⟩:=T
  refine⟨N,W,λi v t q u=>?_,K⟩
  obtain⟨t0,n⟩:=F v (C.mem_iff.mp (k6 q))
  rw[(S i v t q u).uniq (n.keep G)]
  exact n
 have I:∀ b o,b≠f.objs.size->(f.push (PyProof.Rows.seqObj "list" vs.toArray 0)).get? b=some o->(PyProof.Rows.sortedHeap (f.push (PyProof.Rows.seqObj "list" vs.toArray 0)) f.objs.size vs d).get? b=some o:=λb o D e=>by
  unfold PyProof.Rows.sortedHeap
  exact(r9 _ _ (u0b D)).trans (u5 _ (u5 _ ((r9 _ _ (u0b D)).trans e)))
 have z:∃ c,(PyProof.Rows.sortedHeap (f.push (PyProof.Rows.seqObj "list" vs.toArray 0)) f.objs.size vs d).get? f.objs.size=some { cls:=.type "list",dict:=none,data:=.seq d c,slots:=#[] }:=by
  unfold PyProof.Rows.sortedHeap
  have u1:=k9 (Obj.mapSeq λ_=>(#[]:Array Value)) j rfl
  have U:=u5 (PyProof.Rows.seqObj "list" #[] 0) (u5 (PyProof.Rows.seqObj "tuple" vs.toArray 0) u1)
  exact⟨_,k9 (Obj.mapSeq λ_=>d) U rfl⟩
 obtain⟨c,z⟩:=z
 exact u6 ⟨_,rfl,h f _ _ d c C p k (λb o e=>I b o (q5 (t3 e)) (u5 _ e)) z⟩
end
end OwnDk
namespace Dl
open PySem L2
def zfC:List Key->Option (List Int)
 | []=>some []
 | .inl i::r=>(zfC r).map (i::·)
 | _=>none
def zb2:List (List Key)->Option (List (List Int))
 | []=>some []
 | k::ks=>match zfC k with
  | some (i::t)=>(zb2 ks).map ((i::t)::·)
  | _=>none
theorem zj8:∀ {k:List Key} {t:List Int},zfC k=some t->k=t.map Sum.inl:=by
 intro k
 induction k with
 | nil=>intro t h;cases h;rfl
 | cons a k b =>
  intro t h
  cases a with
  | inl i =>
   obtain⟨r,e,rfl⟩:=u9.mp h
   rw[b e]
   rfl
  | inr x=>cases h
theorem zkC:∀ {a:List (List Key)} {b:List (List Int)},zb2 a=some b->a=b.map (λt=>t.map Sum.inl)/\∀ t∈b,t≠[]:=by
 intro a
 induction a with
 | nil=>intro b h;cases h;exact⟨rfl,λt h=>by cases h⟩
 | cons k a f =>
  intro b h
  unfold zb2 at h
  split at h
  .rename_i i t e
   obtain⟨r,j,rfl⟩:=u9.mp h
   obtain⟨d,g⟩:=f j
   refine⟨by rw[d,zj8 e];rfl,λu c=>?_⟩
   rcases q4.mp c with rfl | c
   .exact List.cons_ne_nil _ _
   .exact g u c
  .cases h
def zoL (t:List Int):List (List Int)->List (List Int)
 | []=>[t]
 | u::us=>if HT.lexLt u t=true then u::zoL t us else t::u::us
def Ye:List (List Int)->List (List Int)
 | []=>[]
 | t::ts=>zoL t (Ye ts)
theorem zcu (t:List Int):∀ a:List (List Int),(zoL t a).Perm (t::a):=by
 intro a
 induction a with
 | nil=>exact u0R _
 | cons u a b =>
  unfold zoL
  split
  .exact(b.cons u).trans (List.Perm.swap _ _ _)
  .exact u0R _
theorem Vb:∀ a:List (List Int),(Ye a).Perm a:=by
 intro a
 induction a with
 | nil=>exact u0R _
 | cons t a b=>exact(zcu t _).trans (b.cons t)
theorem zgF (t:List Int):∀ f:List (List Int),f.Pairwise (λa b=>HT.lexLt b a=false)->(zoL t f).Pairwise λa b=>HT.lexLt b a=false:=by
 intro f
 induction f with
 | nil=>intro _;exact List.pairwise_singleton _ _
 | cons u f g =>
  intro h
  rw[h7]at h
  unfold zoL
  by_cases c:HT.lexLt u t=true
  .rw[t6 c]
   refine h7.mpr ⟨λv d=>?_,g h.2⟩
   rcases q4.mp ((zcu t f).mem_iff.mp d)with rfl | d
   .cases e:HT.lexLt v u with
    | false=>rfl
    | true =>
     have:=OwnSortT.lex_trans _ _ _ c e
     rw[OwnSortT.lex_irr]at this
     cases this
   .exact h.1 v d
  .rw[t9 c]
   have c:HT.lexLt u t=false:=by cases e:HT.lexLt u t with
    | false=>rfl
    | true=>exact absurd e c
   refine h7.mpr ⟨λv d=>?_,h7.mpr h⟩
   rcases q4.mp d with rfl | d
   .exact c
   .cases e:HT.lexLt v t with
    | false=>rfl
    | true =>
     rcases OwnSortT.lex_neg v u t e with z | z
     .rw[h.1 v d]at z;cases z
     .rw[c]at z;cases z
theorem zeh:∀ c:List (List Int),(Ye c).Pairwise λa b=>HT.lexLt b a=false:=by
 intro c
 induction c with
 | nil=>exact List.Pairwise.nil
 | cons t c d=>exact zgF t _ d
theorem zdY {c d:List (List Int)}(p:d.Perm c)(h:d.Pairwise λa b=>HT.lexLt b a=false):d=Ye c :=
 List.Perm.eq_of_pairwise (le:=λa b=>HT.lexLt b a=false) (λa b _ _ e f=>OwnSortT.lex_total _ _ f e) h (zeh c) (p.trans (Vb c).symm)
def zqY (t:List Int):D:=.tup (t.map .int)
def zi3:List D->Option (List D)
 | [.dct _ true ks _]=>if ks.length < 64 then (zb2 ks).map λa=>(Ye a).map zqY else none
 | _=>none
variable [KK]
section
variable {X:Cx}{e:Expr}{pos:Pos}
theorem Gr.seeL {H:Hp}:∀ {F:Hp} (d:List (Addr × List V)),yU F H->(∀ b∈d,H b.1=some (.tup b.2))->∃ F',Gr F H F' H/\∀ b∈d,F' b.1=some (.tup b.2):=by
 intro F d
 induction d generalizing F with
 | nil=>intro s _;exact⟨F,.refl s,λb h=>by cases h⟩
 | cons b d g =>
  intro s h
  obtain⟨F1,e,i⟩:=Gr.see s (h b r0)
  obtain⟨F2,f,j⟩:=g e.fh λc a=>h c (j8 _ a)
  refine⟨F2,e.trans f,λc a=>?_⟩
  rcases q4.mp a with rfl | a
  .exact f.ff _ _ i
  .exact j c a
theorem XW (P:X.calm=true):vN X (.builtin "sorted") (λC H Q=>∃ F a z ks ys x,C=[.ref a]/\yU F H/\za9 F a z true ks ys/\ks.length < 64/\zb2 ks=some x/\∀ l zs F',H l=none->Gr F H F' H->AtL F' ((Ye x).map zqY) zs->Q (.ref l) (upd H l (.lst zs))):=by
 intro a4 s σ H C Y Q I r h
 obtain⟨F,a,z,ks,ys,x,rfl,sm,N,a7,hk,q⟩:=h
 obtain⟨u,rfl,ru⟩:=W3 r
 cases ru
 obtain⟨rfl,Z⟩:=zkC hk
 rw[u8]at a7
 obtain⟨u,hu,hz⟩:=N.mono sm
 unfold zbC at hu
 rw[t6 rfl]at hu
 obtain⟨G,rfl,a1,-⟩:=hu
 have ok:yJ X.prog X.w H s.heap a (.dT G):=by
  cases z with
  | true=>rw[t6 rfl]at hz;obtain⟨ob,e⟩:=hz;exact(show yJ X.prog X.w H s.heap a (.frz ob (.dT G))from I.hok a _ e).2
  | false=>rw[t9 u7]at hz;exact I.hok a _ hz
 obtain⟨_,b0,C,pr,o,es,ep,e1,ex,dt,he,nd⟩:=ok
 have hp:=u1Q pr
 have b7:G.length=x.length:=by have:=i6 List.length a1;rw[u8,u8]at this;exact this
 have D:es.toList.map (·.key)=C.map λq=>Value.ref q.2.1:=by rw[he,i1];rfl
 have a8:es.size < 64:=by rw[<-r8,he,u8];omega
 have a9:∀ {l:List (List Key × V)} {m:List (List Key × Addr × Value)},Paired (λp q=>p.1=q.1/\H q.2.1=some (.tup (p.1.map kV))/\xt p.2 q.2.2) l m->∀ (j:Nat) (k:j < l.length) (E:j < m.length),l[j].1=m[j].1/\H m[j].2.1=some (.tup (l[j].1.map kV)):=λ{l m} r=>by
  induction r with
  | nil=>intro j k;simp at k
  | cons h t M =>
   intro j k E
   cases j with
   | zero=>exact⟨h.1,h.2.1⟩
   | succ j=>exact M j (by simpa using k) (by simpa using E)
 have a2:∀ (j:Nat) (k:j < x.length) (E:j < C.length),H C[j].2.1=some (.tup (x[j].map V.int)):=λj k E=>by
  have h3:j < G.length:=by omega
  obtain⟨-,r2⟩:=a9 pr j h3 E
  have T:G[j].1=x[j].map Sum.inl:=by
   have:=i6 (λl=>l[j]?) a1
   simp only[j1]at this
   rw[q1 h3,q1 k]at this
   exact n8 this
  rw[r2,T,i1]
  rfl
 have L:∀ {v:Value},v∈(C.map λq=>Value.ref q.2.1)->∃ b t,v=.ref b/\t∈x/\H b=some (.tup (t.map V.int))/\OwnSortT.TT s.heap v t:=λ{v} hv=>by
  obtain⟨j,hj,rfl⟩:=u0g hv
  rw[u8]at hj
  have R:j < x.length:=by omega
  have J:=a2 j R hj
  rw[u1F]
  obtain⟨Y,ru,⟨o,ho,S,n,N⟩,_⟩:=I.tuple (SqT.of J)
  exact⟨C[j].2.1,x[j],rfl,u0l R,J,C[j].2.1,o,n,Y,rfl,ho,S,N,YI ru,Z _ (u0l R)⟩
 refine OwnDk.own_sorted_dict (I.ok.hd P) b0 e1 ex dt a8 (λv hv=>by rw[D]at hv;obtain⟨b,t,-,-,-,O⟩:=L hv;exact⟨t,O⟩) λk h' tk W c pm ri k1 k2 hL=>?_
 rw[D]at pm
 obtain⟨Y,l1,l2,l3⟩:=ri
 have a0:∀ (y:List Value) (f:List (List Int)),y.length=f.length->(∀ w∈y,w∈C.map λq=>Value.ref q.2.1)->(∀ (i:Nat) v t,y[i]?=some v->f[i]?=some t->OwnSortT.TT s.heap v t)->∃ A:List (Addr × List Int),A.map (·.2)=f/\yZ (A.map λb=>V.ref b.1) y/\∀ b∈A,H b.1=some (.tup (b.2.map V.int)):=by
  intro y
  induction y with
  | nil =>
   intro f K _ _
   cases f with
   | nil=>exact⟨[],rfl,.nil,λb h=>by cases h⟩
   | cons _ _=>simp at K
  | cons w y M =>
   intro f K hm O
   cases f with
   | nil=>simp at K
   | cons t f =>
    obtain⟨A,U,z1,z2⟩:=M f (by simpa using K) (λw' b5=>hm w' (j8 _ b5)) (λi v t k E=>O (i+1) v t (by simpa using k) (by simpa using E))
    obtain⟨a,t',rfl,_,ha,a6⟩:=L (hm w r0)
    have et:t'=t:=a6.uniq (O 0 _ t rfl rfl)
    subst et
    exact⟨(a,t')::A,by rw[r4,U],.cons rfl z1,λb J=>by
     rcases q4.mp J with rfl | J
     .exact ha
     .exact z2 b J⟩
 obtain⟨A,U,z1,z2⟩:=a0 W.toList Y l1 (λw hw=>pm.mem_iff.mp hw) l2
 have B:Y.Perm x:=by
  have kv:∀ (y:List Value) (f:List (List Int)),y.length=f.length->(∀ (i:Nat) v t,y[i]?=some v->f[i]?=some t->OwnSortT.TT s.heap v t)->f=y.map λv=>(OwnSortT.keyTT s.heap v).getD []:=by
   intro y
   induction y with
   | nil=>intro f K _;cases f with
    | nil=>rfl
    | cons _ _=>simp at K
   | cons w y M =>
    intro f K O
    cases f with
    | nil=>simp at K
    | cons t f =>
     rw[r4,OwnSortT.keyTT_of (O 0 w t rfl rfl),<- M f (by simpa using K) λi v t k E=>O (i+1) v t (by simpa using k) (by simpa using E)]
     rfl
  rw[kv _ _ l1 l2,kv (C.map λq=>Value.ref q.2.1) x (by rw[u8];omega) λi v t k E=>?_]
  .exact pm.map _
  .obtain⟨hi,e2⟩:=q0.mp k
   obtain⟨a3,T⟩:=q0.mp E
   rw[u8]at hi
   have J:=a2 i a3 hi
   rw[T]at J
   obtain⟨b6,b4,⟨o,ho,S,n,N⟩,_⟩:=I.tuple (SqT.of J)
   exact⟨C[i].2.1,o,n,b6,by rw[<-e2,u1F],ho,S,N,YI b4,Z t (by rw[<-T];exact u0l a3)⟩
 have T:=zdY B l3
 subst T
 obtain⟨F',g,hF⟩:=Gr.seeL (A.map λb=>(b.1,b.2.map V.int)) sm λb J=>by
  obtain⟨c,P,rfl⟩:=f9.mp J
  exact z2 c P
 have az:AtL F' ((Ye x).map zqY) (A.map λb=>V.ref b.1):=by
  rw[<-U]
  clear U z1 pm l1 l2
  induction A with
  | nil=>exact .nil
  | cons b A M=>exact .cons (.tup (hF (b.1,b.2.map V.int) (f9.mpr ⟨b,r0,rfl⟩)) (.ints _)) (M (λc P=>z2 c (j8 _ P)) (λc P=>by
   obtain⟨d,N,rfl⟩:=f9.mp P
   exact hF _ (f9.mpr ⟨d,j8 _ N,rfl⟩)))
 have I2:Inv X a4 σ H { s with heap:=k,toks:=tk }:=I.kept λb u e=>k1 b u e
 have a5:(A.map λb=>V.ref b.1).length<=sizeLine:=by
  have hh:A.length=(Ye x).length:=by rw[<-U,u8]
  rw[u8,hh,(Vb x).length_eq,u0r]
  omega
 exact⟨.ref k.objs.size,_,I2.laid (t':=tk) (λb o e=>k2 b o e) (t4 _) (show yJ X.prog X.w _ h' _ (.lst (A.map λb=>V.ref b.1)) from⟨a5,W.toList,c,z1,by simpa using hL⟩),rfl,q _ _ F' (I2.hok.fresh (t4 _)) g az⟩
theorem zfK {p:Pos} {f:Ev->Option (List D)} (k:X.calm=true) (d:Gl X "sorted") (G:X.mg "sorted"=none) (u:AD X [e] f)
 (I:starEach [e] X.env=(false,eval e X.env)::starEach [] X.env:=by rfl) (h:(backTo pos (starEach [] X.env)).any (·.1)=false:=by rfl):FL X (.Call (.Name "sorted" p) [e] [] pos) (fFn zi3 f):=by
 obtain⟨t,m,K⟩:=u
 refine⟨_,yj (XW k) d G Z2 m (by decide) (by decide) I h,fun σ ρ F H z Q s C e q=>?_⟩
 obtain⟨M,N,O⟩:=u4.mp e
 refine K σ ρ F H M _ s C N λF1 H1 R i w=>?_
 have a:=O
 unfold zi3 at a
 split at a
 .rename_i L E P
  split at a <;> try cases a
  rename_i y
  obtain⟨o,A,rfl⟩:=u9.mp a
  obtain⟨x,r,rfl,B,j⟩:=w.cons_inv
  cases j.nil_inv
  obtain⟨p,v,rfl,n,bl⟩:=B.dct_inv
  refine⟨F1,p,L,E,v,o,rfl,i.fh,n,(by omega),A,λl zs F' c g J=>?_⟩
  have b:=i.trans g
  exact q _ _ _ _ (b.trans (Gr.hide b.fh c _)) (zbJ b c) (b.fh.free c) zr J
 .cases a
def ze2:List D->Option (List D)
 | [.dct _ true ks _]=>if ks.length < 64 then (zb2 ks).map λa=>(Ye a).map zqY else none
 | _=>none
theorem zfq {p:Pos} {f:Ev->Option (List D)} (m:X.calm=true) (h:Gl X "sorted") (G:X.mg "sorted"=none) (v:AD X [e] f)
 (I:starEach [e] X.env=(false,eval e X.env)::starEach [] X.env:=by rfl) (i:(backTo pos (starEach [] X.env)).any (·.1)=false:=by rfl):FL X (.Call (.Name "sorted" p) [e] [] pos) (fFn ze2 f):=by
 obtain⟨t,n,K⟩:=v
 refine⟨_,yj (XW m) h G Z2 n (by decide) (by decide) I i,fun σ ρ F H z Q s C e q=>?_⟩
 obtain⟨M,N,O⟩:=u4.mp e
 refine K σ ρ F H M _ s C N λF1 H1 R j y=>?_
 have a:=O
 unfold ze2 at a
 split at a
 .rename_i L E P
  split at a <;> try cases a
  rename_i d
  obtain⟨u,A,rfl⟩:=u9.mp a
  obtain⟨x,r,rfl,B,k⟩:=y.cons_inv
  cases k.nil_inv
  obtain⟨p,w,rfl,o,bl⟩:=B.dct_inv
  refine⟨F1,p,L,E,w,u,rfl,j.fh,o,d,A,λl zs F' c g J=>?_⟩
  have b:=j.trans g
  exact q _ _ _ _ (b.trans (Gr.hide b.fh c _)) (zbJ b c) (b.fh.free c) zr J
 .cases a
end
end Dl
namespace Dl
open PySem L2
def b3:D->Option (List (Option D))
 | .tup [x,y,z]=>some [some x,some y,some z]
 | _=>none
end Dl
namespace Dl
open PySem L2
variable [KK]
section
variable {E:XK}{cl:Nat->Addr}{X:Cx}{a b e:Expr}{es:List Expr}{pos:Pos}
theorem zkJ {x:Str} {id:String} {p:Pos} {c:Ev->Option Nat} (i:Gl X x) (m:X.mg x=none) (k:bootBuiltins x=some (.builtin id)) (g:XA E cl X (e::es) c) (d:x≠"__name__":=by decide) (b:(x == ("__debug__":Str))=false:=by decide)
 (n:starEach (e::es) X.env=(false,eval e X.env)::starEach es X.env:=by rfl) (a:(backTo pos (starEach es X.env)).any (·.1)=false:=by rfl):XE E cl X (.Call (.Name x p) (e::es) [] pos) c:=by
 obtain⟨t,f,o⟩:=g
 exact⟨_,yj (r:=λ_ _ _=>False) (λ_ _ _ _ _ _ _ _ _ h=>h.elim) i m k f d b n a,fun σ ρ F0 H j Q s l e w=>o σ ρ F0 H j _ s l e w⟩
theorem zqq {d:CmpOp}{c:Ev->Option Nat}{f:Ev->Option D}(h:XE E cl X a c)(l:ED X b f)(i:behindInMarks d b=false):XE E cl X (.Compare a [d] [b] pos) c:=by
 obtain⟨t,p,r⟩:=h
 obtain⟨u,k,_⟩:=l
 exact⟨_,zhu (r:=λ_ _ _ _=>False) (λ_ _ _ _ _ _ _ _ _ _ _ _ h=>h.elim) p k i,fun σ ρ F H j Q s g e w=>r σ ρ F H j _ s g e w⟩
end
end Dl
namespace Dl
open PySem L2
variable [KK]
theorem edv {X:Cx} (i:Nat) {x:Str} {b:Pos} (e:X.N[i]?=some x:=by rfl) (c:Vis X.env.scope x:=by first | exact Or.inl rfl | exact Or.inr (Or.inl rfl) | exact Or.inr (Or.inr rfl)) (d:(x == ("__debug__":Str))=false:=by decide)
 (a:(x == ("__classdict__":Str))=false:=by decide):ED X (.Name x b) (zb i):=zpY i (pv i e c d a)
theorem yg {X:Cx}{x:Str}{j k m:Nat}{f:Addr}{l:FuncData}{i:List Str}{t:Stmt}{p:List D->Option D}{e:Expr}{b:List Expr}{o a:Pos}{h:Ev->Option (List D)}(F:Yb X.prog X.w X.K X.mg X.base CX0 j f l i (spD m p))(n:ww k X.A)(s:Gl X x)(d:Def X.K X.mg x t i f l)
 (r:AD X (e::b) h) (u:j<=k:=by decide) (g:(x == ("__debug__":Str))=false:=by decide) (q:starEach (e::b) X.env=(false,eval e X.env)::starEach b X.env:=by rfl) (c:(backTo a (starEach b X.env)).any (·.1)=false:=by rfl) :
 ED X (.Call (.Name x o) (e::b) [] a) (zd m p h):=znf (F.mono u) n s d.at_ d.kp d.bd r g q c
end Dl
namespace Dl
open PySem L2
variable [KK]
section
variable {E:XK}{cl:Nat->Addr}
theorem zpf {X:Cx}{f b:Expr}{o:List Comprehension}{n:Expr}{g:List Expr}{L M:List Str}{a:Scope}{c:List (Str × Addr)}{i:Pos}{k:Ev->Option Nat}(S:xV X L M a c)(h:XE E cl X b k)
 (l:∀ x,foldedSetIterable b X.env x=pure x:=by intro _;rfl):XE E cl X (.ListComp f (⟨n,b,g,0⟩::o) a i) k:=by
 obtain⟨t,p,r⟩:=h
 refine⟨fun σ H _=>t σ H λ_ _=>False,λd s σ H Q I h=>?_,fun σ ρ F H j Q s m e w=>r σ ρ F H j _ s m e w⟩
 rw[eval_ListComp]
 exact u07 (use:=none) rfl l S.clos S.kind S.names (thn (p d s σ H _ I h) λv q ⟨_,_,_,_,z⟩=>z.elim)
end
end Dl
namespace Mz
open PySem Dl
abbrev Tie:=Int × Int
def ltP (s t:Tie):Prop:=s.1 < t.1\/(s.1=t.1/\s.2 < t.2)
instance (s t:Tie):Decidable (ltP s t):=by unfold ltP;infer_instance
theorem zhM {a b c:Tie}(h:ltP a b)(k:ltP b c):ltP a c:=by
 unfold ltP at *
 omega
def zp (t:Tie):D:=.tup [.int t.1,.int t.2]
theorem zcB {s t:Tie}(h:zp s=zp t):s=t:=by
 unfold zp at h
 injection h with h
 injection h with h1 h2
 injection h2 with h2 _
 injection h1 with h1
 injection h2 with h2
 exact u3c h1 h2
theorem we:∀ {s t:List Tie},s.map zp=t.map zp->s=t
 | [],[],_=>rfl
 | [],_::_,h=>by cases h
 | _::_,[],h=>by cases h
 | a::s,b::t,h=>by
  rw[r4,r4]at h
  injection h with h1 h2
  rw[zcB h1,we h2]
def zM (a:Int)(b:List Tie):D:=.tup [.int a,.tup (b.map zp)]
structure yh (many:Int) (ties:List Tie):Prop where
 lo:1<=many
 hi:many<=8
 rng:∀ t∈ties,0<=t.1/\t.1 < t.2/\t.2 < many
 srt:ties.Pairwise ltP
def leP (s t:Tie):Bool:=if s.1=t.1 then (if s.2=t.2 then true else decide (s.2<=t.2))else decide (s.1<=t.1)
theorem zb6 {s t:Tie}:leP s t=false↔ltP t s:=by
 unfold leP ltP
 by_cases h:s.1=t.1
 .rw[t6 h]
  by_cases k:s.2=t.2
  .rw[t6 k];simp;omega
  .rw[t9 k,l9];omega
 .rw[t9 h,l9];omega
def Za:D->Option Tie
 | .tup [.int a,.int b]=>some (a,b)
 | _=>none
theorem Yv (t:Tie):Za (zp t)=some t:=rfl
theorem W4 {d:D}{t:Tie}(h:Za d=some t):d=zp t:=by
 unfold Za at h
 split at h
 .cases h;rfl
 .cases h
def inR (m a:Int):Bool:=decide (0<=a)&&decide (a<=m - 1)
def wF (m:Int)(d:D):Bool:=match Za d with
 | some t=>inR m t.1&&inR m t.2&&!decide (t.1=t.2)
 | none=>false
def zcs (p:Option Tie)(t:Tie):Bool:=match p with
 | some q=>!leP t q
 | none=>true
def y9 (m:Int):Option Tie->List D->Bool
 | _,[]=>true
 | p,d::r=>match Za d with
  | some t=>wF m d&&!decide (t.2 < t.1)&&zcs p t&&y9 m (some t) r
  | none=>false
def YF (m:Int):D->Bool
 | .tup a=>y9 m none a
 | _=>false
def xy:D->Bool
 | .tup [.int m,t]=>decide (1<=m)&&decide (m<=8)&&YF m t
 | _=>false
theorem XY (m:Int):∀ (i:List D) (p:Option Tie),y9 m p i=true↔∃ l:List Tie,i=l.map zp/\(∀ t∈l,0<=t.1/\t.1 < t.2/\t.2 < m)/\(∀ q,p=some q->∀ t∈l,ltP q t)/\l.Pairwise ltP:=by
 intro i
 induction i with
 | nil =>
  intro p
  refine⟨λ_=>⟨[],rfl,by simp,by simp,.nil⟩,λ_=>rfl⟩
 | cons d r w =>
  intro p
  unfold y9
  cases e:Za d with
  | none =>
   refine Iff.intro (λh=>nomatch h) (λhh=>?_)
   obtain⟨l,h,_⟩:=hh
   cases l with
   | nil=>cases h
   | cons t s =>
    rw[r4]at h
    injection h with j _
    rw[j,Yv]at e
    cases e
  | some t =>
   have x:=W4 e
   subst x
   simp only[wF,Yv,j3,u2t,l9,inR,j6]
   rw[w (some t)]
   constructor
   .rintro⟨⟨⟨⟨⟨j,o⟩,A⟩,z⟩,y⟩,l,rfl,c,f,g⟩
    refine⟨t::l,rfl,?_,?_,h7.mpr ⟨f t rfl,g⟩⟩
    .intro u a
     rcases q4.mp a with rfl | a
     .omega
     .exact c u a
    .rintro q rfl u a
     have b:ltP q t:=zb6.mp (by simpa [zcs]using y)
     rcases q4.mp a with rfl | a
     .exact b
     .exact zhM b (f t rfl u a)
   .rintro⟨l,h,c,f,g⟩
    cases l with
    | nil=>cases h
    | cons u s =>
     rw[r4]at h
     injection h with j o
     have a:=zcB j
     subst a
     have B:=c t (by simp)
     refine⟨⟨⟨⟨⟨by omega,by omega⟩,by omega⟩,by omega⟩,?_⟩,s,o,λv k=>c v (by simp[k]),λq n v k=>?_,(h7.mp g).2⟩
     .cases p with
      | none=>rfl
      | some q =>
       have:=zb6.mpr (f q rfl t (by simp))
       simp[zcs,this]
     .cases n
      exact(h7.mp g).1 v k
theorem yX (d:D):xy d=true↔∃ m a,d=zM m a/\yh m a:=by
 constructor
 .intro h
  unfold xy at h
  split at h
  .rename_i m t
   simp only[j3,j6]at h
   obtain⟨⟨e,g⟩,b⟩:=h
   unfold YF at b
   split at b
   .rename_i f
    obtain⟨l,rfl,c,_,i⟩:=(XY m f none).mp b
    exact⟨m,l,rfl,e,g,c,i⟩
   .cases b
  .cases h
 .rintro⟨m,a,rfl,w⟩
  unfold zM xy YF
  simp only[j3,j6]
  exact⟨⟨w.lo,w.hi⟩,(XY m _ none).mpr ⟨a,rfl,w.rng,by simp,w.srt⟩⟩
theorem zc4 {d:D}(h:∀ m a,d=zM m a->¬ yh m a):xy d=false:=by
 cases e:xy d with
 | false=>rfl
 | true =>
  obtain⟨m,a,rfl,w⟩:=(yX d).mp e
  exact absurd w (h m a rfl)
def wL (n:Nat):List Tie:=(List.range n).flatMap λa=>(List.range (n - (a+1))).map λ(j:Nat)=>((a:Int),(a:Int)+1+(j:Int))
theorem VE:∀ n:Nat,n<=8->(wL n).Pairwise ltP/\(∀ t∈wL n,0<=t.1/\t.1 < t.2/\t.2 < (n:Int))/\(wL n).length<=28:=by
 have h:∀ n:_root_.Fin 9,(wL n.val).Pairwise ltP/\(∀ t∈wL n.val,0<=t.1/\t.1 < t.2/\t.2 < (n.val:Int))/\(wL n.val).length<=28:=by decide +kernel
 exact λn a=>h ⟨n,by omega⟩
end Mz
namespace Mz
open Dl
def zdQ (i j:Nat):List Tie:=(List.range j).map λ(k:Nat)=>((i:Int),(i:Int)+1+(k:Int))
def wq (n i:Nat):List Tie:=(List.range i).flatMap λa=>zdQ a (n - (a+1))
theorem zi2 (n:Nat):wL n=wq n n:=rfl
theorem X2 (n i:Nat):wq n (i+1)=wq n i++zdQ i (n - (i+1)):=by
 unfold wq
 rw[u20,List.flatMap_append]
 simp
theorem XJ (i j:Nat):(zdQ i j).length=j:=by unfold zdQ;simp
theorem zft (n:Nat)(b:n<=8):∀ i:Nat,(wq n i).length<=8*i:=by
 intro i
 induction i with
 | zero=>simp[wq]
 | succ i a =>
  rw[X2,j4,XJ]
  omega
def zc6 (c k:Int):Int :=
 let a:=(c % 2147483647+977*k+1)*48271 % 2147483647
 let b:=a*a % 2147483629
 (b+40692*(k+3))*69621 % 2147483647 / 8
def adj (c:List Tie)(a b:Int):Prop:=(a,b)∈c\/(b,a)∈c
inductive YU (ts:List Tie) (p:Int):Nat->Int->Prop
 | zero:YU ts p 0 p
 | step {k:Nat} {a b:Int}:YU ts p k a->adj ts a b->YU ts p (k+1) b
theorem adj.rng {m:Int}{c:List Tie}{a b:Int}(ok:yh m c)(h:adj c a b):(0<=a/\a < m)/\0<=b/\b < m:=by
 rcases h with h | h <;> (have:=ok.rng _ h;simp only at this;omega)
theorem YU.rng {m:Int}{a:List Tie}{p v:Int}{k:Nat}(ok:yh m a)(b:0<=p/\p < m)(h:YU a p k v):0<=v/\v < m:=by
 cases h with
 | zero=>exact b
 | step _ h=>exact(h.rng ok).2
theorem YU.inv {b:List Tie}{p v:Int}{k:Nat}(h:YU b p (k+1) v):∃ a,YU b p k a/\adj b a v:=by
 cases h with
 | step d c=>exact⟨_,d,c⟩
theorem zm2 {P:Nat->Prop}:∀ k,P k->∃ j,P j/\∀ i,P i->j<=i:=by
 intro k
 induction k using Nat.strongRecOn with
 | _ k b =>
  intro h
  by_cases c:∃ i,i < k/\P i
  .obtain⟨i,a,d⟩:=c
   exact b i a d
  .exact⟨k,h,λi a=>m4 λz=>c ⟨i,z,a⟩⟩
def Within (a:List Tie)(p:Int)(k:Nat)(v:Int):Prop:=∃ j,j<=k/\YU a p j v
open Classical in
noncomputable def wiB (a:List Tie)(p:Int)(k v:Nat):Bool:=decide (Within a p k (v:Int))
noncomputable def cnt (a:List Tie)(p:Int)(n k:Nat):Nat:=(List.range n).countP (wiB a p k)
def Far (a:List Tie)(p v:Int)(k:Nat):Prop:=YU a p k v/\∀ i,YU a p i v->k<=i
theorem Far.uniq {a:List Tie}{p v:Int}{k j:Nat}(h:Far a p v k)(b:Far a p v j):k=j:=u1f (h.2 _ b.1) (b.2 _ h.1)
theorem zlK {a:List Tie}{p v:Int}{k:Nat}(h:YU a p k v):∃ j,Far a p v j:=zm2 k h
open Classical in
noncomputable def zkY (a:List Tie)(p v:Int):Option Int:=if h:∃ k,Far a p v k then some (h.choose:Int)else none
theorem zjp {a:List Tie}{p v:Int}{k:Nat}(h:Far a p v k):zkY a p v=some (k:Int):=by
 unfold zkY
 have b:∃ k,Far a p v k:=⟨k,h⟩
 rw[dif_pos b,b.choose_spec.uniq h]
theorem zgP {a:List Tie}{p v:Int}(h:∀ k,¬ YU a p k v):zkY a p v=none:=by
 unfold zkY
 rw[dif_neg]
 rintro⟨k,b⟩
 exact h k b.1
theorem zfY (a:List Tie)(p v:Int):(∃ k:Nat,zkY a p v=some (k:Int)/\Far a p v k)\/(zkY a p v=none/\∀ k,¬ YU a p k v):=by
 by_cases h:∃ k,YU a p k v
 .obtain⟨k,b⟩:=h
  obtain⟨j,c⟩:=zlK b
  exact .inl ⟨j,zjp c,c⟩
 .have:∀ k,¬ YU a p k v:=λk b=>h ⟨k,b⟩
  exact .inr ⟨zgP this,this⟩
noncomputable def zjO (m:Int)(ts:List Tie)(p:Int):List (Option Int):=(List.range m.toNat).map λv:Nat=>zkY ts p v
def vz:Option Int->D
 | none=>.non
 | some k=>.int k
def oAt (a:List (Option Int))(i:Int):Option Int:=(a[i.toNat]?).getD none
theorem zlW {n:Nat}{i:Int}(a:0<=i)(b:i < n):L2.ixN n i=some i.toNat:=by
 unfold L2.ixN
 rw[t6 a,t6 b]
theorem zgJ {α:Type}{a:List α}{i:Int}{x:α}(b:0<=i)(h:a[i.toNat]?=some x):L2.atI a i=some x:=by
 have:=(q0.mp h).1
 unfold L2.atI
 rw[zlW b (by omega)]
 exact h
theorem zqs {m:Bool}{i:Nat}{c b:Ev->Option D}{ρ:SE}{a:List D}{d:D}{k:Int}(f:vEv m b ρ=some d)(n:c (visG ρ)=some (.int k))(g:ρ[i]?=some (.o a))(h:0<=k)(l:k < a.length) :
 Y7 m i c b ρ=.nx (ρ.set i (.o (a.set k.toNat d))):=by
 unfold Y7
 rw[f,n,g]
 show(match ((L2.ixN a.length k).map λj=>ρ.set i (Sl.o (a.set j d)))with | some e=>Ctl.nx e | none=>Ctl.no)=_
 rw[zlW h l]
 rfl
theorem zmM {a:List (Option Int)}{i:Int}(b:0<=i)(c:i < a.length):L2.atI (a.map vz) i=some (vz (oAt a i)):=by
 refine zgJ b ?_
 unfold oAt
 rw[j1,q1 (by omega)]
 rfl
theorem zdZ {a:List (Option Int)}{i j:Int}{x:Option Int}(b:0<=i)(d:i < a.length)(e:0<=j):oAt (a.set i.toNat x) j=if j=i then x else oAt a j:=by
 unfold oAt
 rw[m8]
 by_cases c:j=i
 .subst c
  rw[t6 rfl,t6 rfl,t6 (by omega)]
  rfl
 .rw[t9 (by omega),t9 c]
theorem zmJ {a b:List (Option Int)}(d:a.length=b.length)(h:∀ i:Int,0<=i->i < a.length->oAt a i=oAt b i):a=b:=by
 refine u0L λi=>?_
 by_cases c:i < a.length
 .have:=h (i:Int) (by omega) (by omega)
  unfold oAt at this
  rw[o4,q1 c,q1 (by omega)]at this
  rw[q1 c,q1 (by omega)]
  exact i6 some this
 .rw[g8 (by omega),g8 (by omega)]
theorem VB (m:Int)(a:List Tie)(p:Int):(zjO m a p).length=m.toNat:=by unfold zjO;simp
theorem zly {m:Int}{a:List Tie}{p v:Int}(b:0<=v)(c:v < m):oAt (zjO m a p) v=zkY a p v:=by
 unfold oAt zjO
 rw[j1,u1W (by omega)]
 show zkY a p ((v.toNat:Nat):Int)=_
 rw[u0e b]
theorem zh0:∀ {ns:List Int} {k:Nat} {x:Int} (h:k < ns.length),(ns.set k x).sum=ns.sum - ns[k]+x
 | [],_,_,h=>by simp at h
 | n::ns,0,x,_=>by simp;omega
 | n::ns,k+1,x,h=>by
  have:=zh0 (ns:=ns) (k:=k) (x:=x) (by simpa using h)
  simp only[List.set_cons_succ,u1P,List.getElem_cons_succ,this]
  omega
theorem znM {d:D}{n:Int}(a:0<=n)(b:n<=1000):zlA (.lst [d]) (.int n)=some (List.replicate n.toNat d):=by
 show(if -(2 ^ 63)<=n/\n < 2 ^ 63/\lim (1*n.toNat)=true then _ else none)=_
 rw[t6 ⟨by omega,by omega,x9 (by omega)⟩,List.flatten_replicate_singleton]
theorem zlb {m:Bool}{i:Nat}{e c:Ev->Option D}{ρ:SE}{n b h:SE->Prop}{r:D->Prop}(a:List D)(d:D)(k:Int)(j:vEv m c ρ=some d)(g:e (visG ρ)=some (.int k))(l:ρ[i]?=some (.o a))(f:0<=k)(o:k < a.length)(q:n (ρ.set i (.o (a.set k.toNat d)))) :
 (Y7 m i e c ρ).w n b h r:=Z9 (zqs j g l f o) q
theorem zkH {α:Type}(a:List α)(b c:Option Int):(WB a b c).length<=a.length:=by
 unfold WB
 rw[u0m,u0V]
 omega
theorem zjV {a b:List D}(h:a.length+b.length<=1000):wS (.lst a) (.lst b)=some (.lst (a++b)):=by
 show(if lim (a.length+b.length)=true then _ else none)=_
 rw[t6 (x9 h)]
theorem zac:∀ {ns:List Int},(∀ x∈ns,0<=x)->0<=ns.sum
 | [],_=>by simp
 | n::ns,h=>by
  have:=zac (ns:=ns) λx a=>h x (j8 _ a)
  have:=h n r0
  rw[u1P]
  omega
theorem zal:∀ {a:List Int} {y:Int},(∀ x∈a,0<=x)->y∈a->y<=a.sum
 | [],_,_,h=>by simp at h
 | n::a,y,h,b=>by
  have c:∀ x∈a,0<=x:=λx d=>h x (j8 _ d)
  have:=zac c
  have:=h n r0
  rw[u1P]
  rcases q4.mp b with rfl | b
  .omega
  .have:=zal c b
   omega
theorem yr {m:Bool}{i:Nat}{f:Ev->Option D}{ρ ρ':SE}{d:D}(h:vEv m f ρ=some d)(a:ρ.set i (.v d)=ρ':=by rfl):xo m i f ρ=.nx ρ':=by
 unfold xo
 rw[h,<- a]
theorem zf {f:Ev->Option D}{ρ:SE}{d:D}(h:f (visG ρ)=some d):yu f ρ=.nx ρ:=by
 unfold yu
 rw[h]
theorem zG {f:Ev->Option D}{ρ:SE}{d:D}(h:f (visG ρ)=some d):zO f ρ=.rt d:=by
 unfold zO
 rw[h]
theorem znP {i:Nat}{f:Ev->Option (List D)}{ρ a:SE}{ds:List D}(h:f (visF ρ)=some ds)(b:ρ.set i (.o ds)=a:=by rfl):Ya i f ρ=.nx a:=by
 unfold Ya
 rw[h,<- b]
theorem zqt {o:Option (List D)}{a:List D}(h:o=some a):o.map D.lst=some (.lst a):=by rw[h];rfl
theorem yM {a b:Int}:neD (.int a) (.int b)=some (.bl (!decide (a=b))):=rfl
theorem zev {a m x:Int}(h:0 < m)(b:a % m=x):0<=x/\x < m:=by
 subst b
 exact⟨l4 _ (by omega),m5 _ h⟩
theorem ze7 {α:Type}{a:List α}{x m:Int}(b:0<=x)(h:x < m)(c:a.length=m.toNat):x < (a.length:Int):=by omega
theorem ziz {α:Type}{f:α->D}{a:List α}{x m:Int}(b:0<=x)(h:x < m)(c:a.length=m.toNat):x < ((a.map f).length:Int):=by rw[u8];omega
theorem zmA {fs:List (Option Int)}{i m:Int}(a:0<=i)(h:i < m)(b:fs.length=m.toNat):L2.atI (fs.map vz) i=some (vz (oAt fs i)):=zmM a (ze7 a h b)
theorem zr3 {d:D}{m:Int}(a:1<=m)(b:m<=8):zlA (.lst [d]) (.int m)=some (List.replicate m.toNat d):=znM (by omega) (by omega)
theorem z6 {a b:Int}:xg (.int a) (.int b)=some (.bl (decide (a=b))):=rfl
theorem yK {a b:Bool}:xg (.bl a) (.bl b)=some (.bl (decide (a=b))):=rfl
theorem z7 {a b:PySem.Str}:xg (.str a) (.str b)=some (.bl (decide (a=b))):=rfl
theorem z5 {a b:Int}:wS (.int a) (.int b)=some (.int (a+b)):=rfl
section
variable {ρ:Ev}{f g h:Ev->Option D}{a:Ev->Option (List D)}{t u:Ev->Option Bool}{d e x y z:D}{ds es:List D}{b c:Bool}
theorem Zt:zc ρ=some []:=rfl
theorem zW (c:f ρ=some d)(b:a ρ=some ds):za f a ρ=some (d::ds):=by unfold za;rw[c,b];rfl
theorem zt {n:Nat}{p:List D->Option D}(c:a ρ=some ds)(b:p ds=some d)(e:ds.length=n:=by rfl):zd n p a ρ=some d:=by
 unfold zd
 rw[c,j7,t6 e,b]
theorem yl {k:D->D->Option D}(b:f ρ=some x)(a:g ρ=some y)(c:k x y=some z):zi k f g ρ=some z:=by unfold zi;rw[b,a];exact c
theorem zeN (b:a ρ=some ds):yA a ρ=some (.lst ds):=by unfold yA;rw[b];rfl
theorem zpy {k:List D->Option D}(c:a ρ=some ds)(b:k ds=some d):eFn k a ρ=some d:=by unfold eFn;rw[c];exact b
theorem zoN {k:List D->Option (List D)}(c:a ρ=some ds)(b:k ds=some es):fFn k a ρ=some es:=by unfold fFn;rw[c];exact b
theorem ziL (c:a ρ=some ds)(b:ds.length<=1000):zQ a ρ=some ds:=by unfold zQ;rw[c,j7,t6 (x9 b)]
theorem zmf (c:a ρ=some ds)(b:ds.length<=1000):yY a ρ=some (.tup ds):=by unfold yY;rw[c,j7,t6 (x9 b)]
theorem zph (b:f ρ=some d)(a:xA d=some ds):iOf f ρ=some ds:=by unfold iOf;rw[b];exact a
theorem Xc (a:f ρ=some (.bl b)):tOf f ρ=some b:=by unfold tOf;rw[a];rfl
theorem zav (a:t ρ=some b):yR t ρ=some (!b):=by unfold yR;rw[a];rfl
theorem zrj (d:t ρ=some b)(a:u ρ=some c):Zp t u ρ=some (b||c):=by unfold Zp;rw[d,a];cases b <;> rfl
theorem zio (a:t ρ=some false):xj t u ρ=some false:=by unfold xj;rw[a];rfl
theorem zhX (b:t ρ=some true)(a:u ρ=some c):xj t u ρ=some c:=by unfold xj;rw[b];exact a
end
end Mz
namespace Dl
open PySem L2
def tFs (a:List Addr):TA:=λ_ H Q=>Q (a.map V.ref) H
def tSel (X:Cx)(E:XK)(d:TE)(t:TA):TE:=fun σ H Q=>d σ H λv H1=>∃ (CX:CXT) (k:Nat) (f:Addr) (b:FuncData) (a:List Str) (c:Sp),v=.ref f/\Yb X.prog X.w X.K X.mg X.base CX k f b a c/\ww k X.A/\W.keepIn X.K (.ref f)=true/\Yc X.K b a []/\Yh CX X E/\t σ H1 λe H2=>c e H2 Q E
section
variable {X:Cx}{ce e:Expr}{es:List Expr}{pos:Pos}{E:XK}{tc:TE}{t:TA}
theorem zeQ (i:PE X ce tc)(l:PA X (e::es) t)(b:eval (.Call ce (e::es) [] pos) X.env=(do callWith pos (<- eval ce X.env) [] (backTo pos (starEach (e::es) X.env)) (backToKw pos (keywordEach [] X.env))))
 (x:starEach (e::es) X.env=(false,eval e X.env)::starEach es X.env) (d:(backTo pos (starEach es X.env)).any (·.1)=false):PE X (.Call ce (e::es) [] pos) (tSel X E tc t):=by
 intro a s σ H Q I h
 rw[b]
 refine u0 (thn (i a s σ H _ I h) λu p hh=>?_)
 obtain⟨v,H1,I1,r,CX,k,f,D,C,y,rfl,F,g,w,n,j,q⟩:=hh
 cases r
 refine u2b (h₀:=X.base) I1.ok.mod.kin w (thn (l pos a p σ H1 _ I1 q) λA B c=>?_) x d
 obtain⟨z,H2,I2,o,m⟩:=c
 exact⟨I2.kIn,zmz F g n .nil j I2 o (by rw[o9];exact m)⟩
theorem zhy:PA X [] (tFs []):=yG
theorem vI {x:Str} {p:Pos} {f:Addr} {a:List Addr} (c:X.mg x=some (.ref f)) (h:PA X es (tFs a)) (b:Gl X x:=by rfl) (e:(x == ("__debug__":Str))=false:=by decide)
 (d:starEach (.Name x p::es) X.env=(false,eval (.Name x p) X.env)::starEach es X.env:=by rfl):PA X (.Name x p::es) (tFs (f::a)):=zA (xn (v:=.ref f) b c rfl e) h d
variable [KK]
def zr9 (m:Nat)(d:List (List D->Option D))(c:Ev->Option D)(b:Ev->Option (List D)):Ev->Option D:=fun ρ=>((c ρ).bind asI).bind λi=>if 0<=i then (d[i.toNat]?).bind λp=>(b ρ).bind λa=>if a.length=m then p a else none else none
def xSel (m:Nat)(d:List (List D->Option Nat))(c:Ev->Option D)(b:Ev->Option (List D)):Ev->Option Nat:=fun ρ=>((c ρ).bind asI).bind λi=>if 0<=i then (d[i.toNat]?).bind λp=>(b ρ).bind λa=>if a.length=m then p a else none else none
inductive zgh (X:Cx) (m:Nat):List Addr->List (List D->Option D)->Prop where
 | nil:zgh X m [] []
 | cons {k j:Nat} {f:Addr} {fd:FuncData} {ps:List Str} {p:List D->Option D} {fs:List Addr} {qs:List (List D->Option D)}:Yb X.prog X.w X.K X.mg X.base CX0 j f fd ps (spD m p)->ww k X.A->W.keepIn X.K (.ref f)=true->Yc X.K fd ps []->j<=k->zgh X m fs qs->zgh X m (f::fs) (p::qs)
theorem zgh.at {m:Nat}{b:List Addr}{a:List (List D->Option D)}(h:zgh X m b a):∀ {i:Nat} {p:List D->Option D},a[i]?=some p->∃ (f:Addr) (k:Nat) (c:FuncData) (ps:List Str),b[i]?=some f/\Yb X.prog X.w X.K X.mg X.base CX0 k f c ps (spD m p)/\ww k X.A/\W.keepIn X.K (.ref f)=true/\Yc X.K c ps []:=by
 induction h with
 | nil=>intro i p e;cases e
 | cons F d g l n t j =>
  intro i p e
  cases i with
  | zero=>cases e;exact⟨_,_,_,_,rfl,F.mono n,d,g,l⟩
  | succ i=>exact j e
theorem zhY {m:Nat}{ls:List Expr}{a:List Addr}{b:Expr}{p1 p2:Pos}{k:Ev->Option D}{h:TE}(n:RE h k)(y:a.length<=1000){σ:St}{ρ:Ev}{F H:Hp}{Q:VK}(s:yU F H)(t:VAt F ρ σ){i:Nat}{f:Addr}(x:k ρ=some (.int i))(r:a[i]?=some f)
 (q:∀ F' H',Gr F H F' H'->Q (.ref f) H'):tOp (rIx X.K) (zpg (tFs a)) h σ H Q:=by
 refine⟨by rw[u8,u0r];omega,λp g=>?_⟩
 have j:Gr F H F (upd H p (.lst (a.map V.ref))):=Gr.hide s g _
 refine n σ ρ F _ _ _ j.fh t x λF' H' v l o=>?_
 have c:F p=none:=by
  cases e:F p with
  | none=>rfl
  | some u=>rw[s _ _ e]at g;cases g
 obtain⟨A,w⟩:=l.kl (λB z=>by cases z) c zr
 have d:=o.int_inv
 subst d
 exact .inl ⟨p,_,_,_,rfl,rfl,SqL.of w,zdp (by rw[j1,r];rfl),q _ _ (j.trans l)⟩
theorem zmp {m:Nat}{a:List Expr}{o:List Addr}{B:List (List D->Option D)}{b:Expr}{h c:Pos}{J:Ev->Option D}{A:Ev->Option (List D)}(n:PA X a (tFs o))(P:zgh X m o B)(T:ED X b J)(ha:AD X (e::es) A)(z:o.length<=1000:=by exact Nat.le_of_ble_eq_true rfl)(M:VC b:=by exact λ_ _=>rfl)
 (l:eval (.Call (.Subscript (.List a h) b c) (e::es) [] pos) X.env=(do callWith pos (<- eval (.Subscript (.List a h) b c) X.env) [] (backTo pos (starEach (e::es) X.env)) (backToKw pos (keywordEach [] X.env))):=by rfl)
 (R:starEach (e::es) X.env=(false,eval e X.env)::starEach es X.env:=by rfl) (u:(backTo pos (starEach es X.env)).any (·.1)=false:=by rfl):ED X (.Call (.Subscript (.List a h) b c) (e::es) [] pos) (zr9 m B J A):=by
 obtain⟨tb,pb,U⟩:=T
 obtain⟨ta,W,S⟩:=ha
 refine⟨_,zeQ (E:=E0) (zjZ zgG (ZM n) pb M) W l R u,fun σ ρ F H d Q s G e q=>?_⟩
 obtain⟨i,r,t⟩:=u4.mp e
 obtain⟨C,Z,r⟩:=u4.mp r
 split at t <;> try cases t
 rename_i h0
 obtain⟨p,Y,N⟩:=u4.mp t
 obtain⟨I,ed,y⟩:=u4.mp N
 split at y <;> try cases y
 rename_i n
 have x:C=.int i:=by cases C <;> cases r <;> rfl
 subst x
 obtain⟨k,rfl⟩:=u1b h0
 obtain⟨f,j,fd,ps,O,Fo,L,hk,hb⟩:=P.at Y
 refine zhY (X:=X) (ls:=a) (b:=b) (m:=m) (p1:=h) (p2:=c) U z s G Z O λF1 H1 w=>⟨CX0,j,f,fd,ps,_,rfl,Fo,L,hk,hb,zpN,?_⟩
 refine S σ ρ F1 H1 I _ w.fh (G.mono w.ff) ed λF2 H2 vs K V=>?_
 exact⟨I,d,F2,n,K.fh,V,y,λF' H' v g av=>q _ _ _ ((w.trans K).trans g) av⟩
inductive zoM (E:XK) (cl:Nat->Addr) (X:Cx) (m:Nat):List Addr->List (List D->Option Nat)->Prop where
 | nil:zoM E cl X m [] []
 | cons {k j:Nat} {f:Addr} {fd:FuncData} {ps:List Str} {p:List D->Option Nat} {fs:List Addr} {qs:List (List D->Option Nat)}:Yb X.prog X.w X.K X.mg X.base (Air X.prog X.w) j f fd ps (spX cl m p)->ww k X.A->W.keepIn X.K (.ref f)=true->Yc X.K fd ps []->j<=k->zoM E cl X m fs qs->zoM E cl X m (f::fs) (p::qs)
theorem zoM.at {b:Nat->Addr}{m:Nat}{c:List Addr}{a:List (List D->Option Nat)}(h:zoM E b X m c a):∀ {i:Nat} {p:List D->Option Nat},a[i]?=some p->∃ (f:Addr) (k:Nat) (d:FuncData) (ps:List Str),c[i]?=some f/\Yb X.prog X.w X.K X.mg X.base (Air X.prog X.w) k f d ps (spX b m p)/\ww k X.A/\W.keepIn X.K (.ref f)=true/\Yc X.K d ps []:=by
 induction h with
 | nil=>intro i p e;cases e
 | cons F g j o n t l =>
  intro i p e
  cases i with
  | zero=>cases e;exact⟨_,_,_,_,rfl,F.mono n,g,j,o⟩
  | succ i=>exact l e
theorem zqI {C:Nat->Addr}{m:Nat}{a:List Expr}{n:List Addr}{z:List (List D->Option Nat)}{b:Expr}{g c:Pos}{I:Ev->Option D}{y:Ev->Option (List D)}(Y:Yh (Air X.prog X.w) X E)(l:PA X a (tFs n))(O:zoM E C X m n z)(S:ED X b I)(ha:AD X (e::es) y)(x:n.length<=1000:=by exact Nat.le_of_ble_eq_true rfl)(L:VC b:=by exact λ_ _=>rfl)
 (h:eval (.Call (.Subscript (.List a g) b c) (e::es) [] pos) X.env=(do callWith pos (<- eval (.Subscript (.List a g) b c) X.env) [] (backTo pos (starEach (e::es) X.env)) (backToKw pos (keywordEach [] X.env))):=by rfl)
 (P:starEach (e::es) X.env=(false,eval e X.env)::starEach es X.env:=by rfl) (r:(backTo pos (starEach es X.env)).any (·.1)=false:=by rfl):XE E C X (.Call (.Subscript (.List a g) b c) (e::es) [] pos) (xSel m z I y):=by
 obtain⟨tb,pb,T⟩:=S
 obtain⟨ta,V,R⟩:=ha
 refine⟨_,zeQ (E:=E) (zjZ zgG (ZM l) pb L) V h P r,fun σ ρ F H d Q s B e w=>?_⟩
 obtain⟨i,o,q⟩:=u4.mp e
 obtain⟨A,Z,o⟩:=u4.mp o
 split at q <;> try cases q
 rename_i h0
 obtain⟨p,W,M⟩:=u4.mp q
 obtain⟨G,ed,v⟩:=u4.mp M
 split at v <;> try cases v
 rename_i l
 have u:A=.int i:=by cases A <;> cases o <;> rfl
 subst u
 obtain⟨k,rfl⟩:=u1b h0
 obtain⟨f,j,fd,ps,N,Fo,K,hk,hb⟩:=O.at W
 refine zhY (X:=X) (ls:=a) (b:=b) (m:=m) (p1:=g) (p2:=c) T x s B Z N λF1 H1 t=>⟨_,j,f,fd,ps,_,rfl,Fo,K,hk,hb,Y,?_⟩
 refine R σ ρ F1 H1 G _ t.fh (B.mono t.ff) ed λF2 H2 vs J U=>?_
 exact⟨G,d,F2,l,J.fh,U,v,w.grow (t.trans J)⟩
end
theorem zpV [KK]{E:XK}{cl:Nat->Addr}{X:Cx}{a b:Expr}{pos:Pos}{rest:List Expr}{fx:Ev->Option Nat}{g:Ev->Option D}(h:XE E cl X a fx)(hb:ED X (.BoolOp .And (b::rest) pos) g):XE E cl X (.BoolOp .And (a::b::rest) pos) fx:=by
 obtain⟨t,p,r⟩:=h
 obtain⟨u,d,_⟩:=hb
 exact⟨_,zlH p d,fun σ ρ F H j Q s c e w=>r σ ρ F H j _ s c e w⟩
structure Row where
 x:Str
 ps:List Str
 ex:List Str
 st:Stmt
abbrev Row.N (r:Row):List Str:=r.ps++r.ex
def Row.scB (r:Row):Bool:=decide ((zF r.st).kind=.function/\(zF r.st).isCoroutine=false/\(zF r.st).isGenerator=false/\r.N.Nodup/\(∀ x∈r.ps,(zF r.st).names.lookup x=some .local\/(zF r.st).names.lookup x=some .cell)/\∀ y∈(zF r.st).names,y.2≠.free)
theorem Row.sc {r:Row}(h:r.scB=true):vJ r.N r.ps (zF r.st):=by
 obtain⟨a,b,c,d,e,f⟩:=j2 h
 exact⟨a,b,c,d,List.take_left' rfl,e,f⟩
theorem zfh {α:Type}{p:α->Prop}{l:List α}{d:α}(h:∀ x∈l,p x)(a:p d)(i:Nat):p (l.getD i d):=by
 rw[g9]
 cases e:l[i]? with
 | none=>exact a
 | some y=>exact h y (k6 e)
def Dx (K:W.Frag)(b:Str->Option Value)(d:List (Str × Addr))(r:Row):Prop:=∃ f a,Def K b r.x r.st r.ps f a/\∀ c,d.lookup r.x=some c->a.code=.ref c
structure KR (b:Bool):Prop where
 h:b=true
structure UR {α:Type} (a b:α):Prop where
 h:a=b
theorem nd_b {l:List Str}(h:decide l.Nodup=true):l.Nodup:=j2 h
section
variable [KK]{X:Cx}{x:Str}{elt iter c:Expr}{tp:Pos}{scope:Scope}{cl:List (Str × Addr)}{pos:Pos}{fi:Ev->Option (List D)}{ft:Ev->Option Bool}{fe:Ev->Option D}{rn dn:List (Str × NameKind)}{cn N:List Str}
theorem zrD (l:KR (decide (x::X.N).Nodup))(b:X.calm=true)(o:ID X (.Name x tp) iter fi)(d:(relabel scope X.env).names=rn)(k:X.env.scope.names=dn)(e:X.N=N)(g:UR (closureFor scope X.env) (pure cl))(f:scope.kind=.function)(m:cl.map Prod.fst=cn)(n:KR (YH scope.names rn dn N X.N cn))(h:∀ p∈cl,X.env.cells.lookup p.1=some p.2)
 (a:∀ s₀ H₀ ex pn,Loc (Wc X [x] X.N scope cl s₀ H₀ ex pn).env.scope x/\(Wc X [x] X.N scope cl s₀ H₀ ex pn).env.scope.names.lookup x=some .local) (j:∀ s₀ H₀ ex pn,ED (Wc X [x] X.N scope cl s₀ H₀ ex pn) elt fe)
 (c:∀ x,foldedSetIterable iter X.env x=pure x):FL X (.ListComp elt [⟨.Name x tp,iter,[],0⟩] scope pos) (fLC fi b1 yw fe) :=
 zcP (L:=[x]) (M:=X.N) b (ZV d k e g.h f m n.h h) o gs1 rb1 (λ_ _ _ _=>xR (i:=0) (nd_b l.h) rfl (a _ _ _ _).1 (.inr (a _ _ _ _).2)) j c
theorem zrM (n:KR (decide (x::X.N).Nodup))(d:X.calm=true)(r:ID X (.Name x tp) iter fi)(f:(relabel scope X.env).names=rn)(m:X.env.scope.names=dn)(g:X.N=N)(j:UR (closureFor scope X.env) (pure cl))(h:scope.kind=.function)(o:cl.map Prod.fst=cn)(q:KR (YH scope.names rn dn N X.N cn))(k:∀ p∈cl,X.env.cells.lookup p.1=some p.2)
 (a:∀ s₀ H₀ ex pn,Loc (Wc X [x] X.N scope cl s₀ H₀ ex pn).env.scope x/\(Wc X [x] X.N scope cl s₀ H₀ ex pn).env.scope.names.lookup x=some .local) (b:∀ s₀ H₀ ex pn,TD (Wc X [x] X.N scope cl s₀ H₀ ex pn) c ft) (l:∀ s₀ H₀ ex pn,ED (Wc X [x] X.N scope cl s₀ H₀ ex pn) elt fe)
 (e:∀ x,foldedSetIterable iter X.env x=pure x):FL X (.ListComp elt [⟨.Name x tp,iter,[c],0⟩] scope pos) (fLC fi b1 ft fe) :=
 zmD (L:=[x]) (M:=X.N) d (ZV f m g j.h h o q.h k) r gs1 rb1 (λ_ _ _ _=>xR (i:=0) (nd_b n.h) rfl (a _ _ _ _).1 (.inr (a _ _ _ _).2)) b l e
end
theorem td_b [KK]{X:Cx}{op:BoolOp}{es:List Expr}{pos:Pos}{f:Ev->Option Bool}(h:WD X (.BoolOp op es pos) f):TD X (.BoolOp op es pos) f:=td_w h
theorem zj6 [KK]{X:Cx}{P:Program}{w:World}{K:W.Frag}{mg:Str->Option Value}{base:Heap}{x:Str}{j k m:Nat}{f:Addr}{fd:FuncData}{ps:List Str}{st:Stmt}{p:List D->Option D}{e:Expr}{es:List Expr}{pp pos:Pos}{fa:Ev->Option (List D)}(F:Yb P w K mg base CX0 j f fd ps (spD m p))(hr:ww k X.A)(hj:j<=k)(d:Def K mg x st ps f fd)(hX:X.prog=P/\X.w=w/\X.K=K/\X.mg=mg/\X.base=base)(hg:Gl X x)
 (ha:AD X (e::es) fa) (hdb:(x == ("__debug__":Str))=false) (he:starEach (e::es) X.env=(false,eval e X.env)::starEach es X.env) (hpl:(backTo pos (starEach es X.env)).any (·.1)=false) :
 ED X (.Call (.Name x pp) (e::es) [] pos) (zd m p fa):=by
 obtain⟨rfl,rfl,rfl,rfl,rfl⟩:=hX
 exact yg F hr hg d ha hj hdb he hpl
theorem Dx_cons {K:W.Frag}{a:Str->Option Value}{b:List (Str × Addr)}{r:Row}{c:List Row}(h:Dx K a b r)(t:∀ r∈c,Dx K a b r):∀ d∈r::c,Dx K a b d:=List.forall_mem_cons.mpr ⟨h,t⟩
theorem Z_cons {K:W.Frag}{x:Str}{l:List Str}(h:W.nsIn K mainGlobals x=some none)(t:∀ y∈l,W.nsIn K mainGlobals y=some none):∀ y∈x::l,W.nsIn K mainGlobals y=some none:=List.forall_mem_cons.mpr ⟨h,t⟩
theorem mkX {K:W.Frag}{h:Heap}{s:Str->Option Value}{g:List (Str × Addr)}{x:Str}{d:Stmt}{q ex:List Str}{f:Addr}{v kV t m i ct:Value}{u j:Option Addr}{w:Array (Option Value)}(X:K.In h)(G:h.Ns mainGlobals s)(a:W.nsIn K mainGlobals x=some (some (.ref f)))
 (l:K.lookup f=some ⟨v,u,.func (W.fnOf x x (vT d) (xQ d) (zF d) .none kV t m j i ct),w⟩) (c:W.codeIn K i x=true) (k:W.keepIn K (.ref f)=true)
 (b:∀ (kV o m:Value) (j:Option Addr) (p ct:Value) (n:List Value),n.length=q.length->bindArgs (W.fnOf x x (vT d) (xQ d) (zF d) .none kV o m j p ct) ⟨n,[]⟩=pure (q.zip n)) (e:g.lookup x=none\/∃ c,g.lookup x=some c/\i=.ref c):Dx K s g ⟨x,q,ex,d⟩ :=
 ⟨f,W.fnOf x x (vT d) (xQ d) (zF d) .none kV t m j i ct,⟨ziw l c k,(ziw l c k).binds b,f7 X G a⟩,λc h=>by
  rcases e with e | ⟨y,e,r⟩
  .rw[show g.lookup x=none from e]at h;cases h
  .rw[show g.lookup x=some y from e]at h;cases h;exact r⟩
theorem zg2 {K:W.Frag}{x q y:Str}{c:Stmt}{f:Addr}{g:FuncData}{s:Shared}{v:Value}(F:Fun K x q c f g)(h:∀ (kV a e:Value) (d:Option Addr) (b ct:Value),bindArgs (W.fnOf x q (vT c) (xQ c) (zF c) .none kV a e d b ct) ⟨[v],[]⟩=pure [(y,v)]):BindsTo s g ⟨[v],[]⟩ [(y,v)]:=by
 obtain⟨k,j,kV,a,e,d,b,ct,i,rfl,_,_⟩:=F.ex
 exact .of_eq (h _ _ _ _ _ _)
section
variable [KK]{E:XK}{cl:Nat->Addr}{X:Cx}{e:Expr}{es:List Expr}{st:Stmt}{sts:List Stmt}{pos:Pos}{fx:Ev->Option Nat}
theorem zoe {b a:SE->Option Nat}{g:SE->Ctl}(c:XS E cl X st b)(d:SD X.nox st g)(e:XSs E cl X sts a):XSs E cl X (st::sts) (wG b g a):=zka c (SD.nox d) e
theorem xs_e (h:XE E cl X e fx)(a:swapsWith e none pos.line X.env=pure false):XS E cl X (.Expr e pos) (xEx fx):=VF h a
theorem xs_r (h:XE E cl X e fx):XS E cl X (.Return (some e) pos) (xEx fx):=zam h
theorem zkX {P:Program}{w:World}{K:W.Frag}{c:Str->Option Value}{a:Heap}{x:Str}{j k m:Nat}{f:Addr}{l:FuncData}{i:List Str}{st:Stmt}{r:List D->Option Nat}{o:Pos}{h:Ev->Option (List D)}(F:Yb P w K c a (Air P w) j f l i (spX cl m r))(p:Yh (Air X.prog X.w) X E)(n:ww k X.A)(t:j<=k)(d:Def K c x st i f l)(v:X.prog=P/\X.w=w/\X.K=K/\X.mg=c/\X.base=a)(u:Gl X x)
 (s:AD X (e::es) h) (g:(x == ("__debug__":Str))=false) (q:starEach (e::es) X.env=(false,eval e X.env)::starEach es X.env) (b:(backTo pos (starEach es X.env)).any (·.1)=false):XE E cl X (.Call (.Name x o) (e::es) [] pos) (zL m r h):=by
 obtain⟨rfl,rfl,rfl,rfl,rfl⟩:=v
 exact vg (F.mono t) p n u d.at_ d.kp d.bd s g q b
end
end Dl
namespace Mz
open PySem L2 Dl
def top (i:Nat):Stmt:=PySem.Challenge.pw_twoforone_k06_refused_of_webs.main.body.getD i (.Pass ⟨0,0,0,0⟩)
def zmW:List Row:=[⟨"is_whole",["thing"],[],top 18⟩,
 ⟨"is_whole_within",["thing","least","most"],[],top 19⟩,
 ⟨"must_be_within",["thing","least","most"],[],top 20⟩,
 ⟨"must_be_at_most",["many","most"],[],top 21⟩,
 ⟨"is_place_count",["thing"],[],top 22⟩,
 ⟨"is_place",["many","thing"],[],top 23⟩,
 ⟨"are_counts",["many","thing"],[],top 24⟩,
 ⟨"is_pair",["many","thing"],[],top 26⟩,
 ⟨"are_ties",["many","thing"],["at","tie"],top 27⟩,
 ⟨"is_web",["thing"],[],top 28⟩,
 ⟨"must_be_web",["thing"],[],top 29⟩,
 ⟨"must_be_place",["web","thing"],[],top 30⟩,
 ⟨"tie_between",["one","other"],[],top 31⟩,
 ⟨"neighbours",["web","place"],[],top 32⟩,
 ⟨"ties_away",["web","start"],["away","rim","further","place","other"],top 33⟩,
 ⟨"tied_to",["web","place"],[],top 34⟩,
 ⟨"far",["web","one","other"],[],top 35⟩,
 ⟨"pieces",["web"],["found","start","away","piece"],top 36⟩,
 ⟨"is_joined",["web"],[],top 37⟩,
 ⟨"is_tree",["web"],[],top 38⟩,
 ⟨"are_stones",["web","thing"],[],top 40⟩,
 ⟨"is_heap",["web","thing"],[],top 41⟩,
 ⟨"must_be_heap",["web","thing"],[],top 42⟩,
 ⟨"is_step",["web","thing"],[],top 43⟩,
 ⟨"all_steps",["web"],["found","place"],top 44⟩,
 ⟨"steps_from",["web","heap"],[],top 45⟩,
 ⟨"stepped",["heap","step"],["stones"],top 46⟩,
 ⟨"walk",["web","heap","thing"],["heaps","now","at","step"],top 47⟩,
 ⟨"walked",["web","heap","steps"],["told","wrong"],top 48⟩,
 ⟨"steps_wrong",["web","heap","thing"],[],top 49⟩,
 ⟨"brings",["web","heap","place","many","thing"],["told","last"],top 50⟩,
 ⟨"heaps_behind",["web","heap"],["steps","found","rim","further","now","step","then"],top 53⟩,
 ⟨"most_at",["web","heap","place"],[],top 54⟩,
 ⟨"steps_to",["found","heap"],["steps","now"],top 55⟩,
 ⟨"must_be_asked",["web","heap","place","many"],[],top 56⟩,
 ⟨"reach",["web","heap","place","many"],["found","other"],top 57⟩,
 ⟨"reached",["web","heap"],["found"],top 58⟩,
 ⟨"is_closed",["web","held"],["steps","heap","step"],top 59⟩,
 ⟨"closed_holds",["web","heap","place","many","thing"],["held","other"],top 60⟩,
 ⟨"closed_for",["web","heap","place","many"],["found"],top 61⟩,
 ⟨"must_be_counted",["web"],[],top 65⟩,
 ⟨"must_be_wanted",["web","place","m"],[],top 66⟩,
 ⟨"grown",["heap"],["last"],top 67⟩,
 ⟨"leads_to",["heap","steps","level"],["step"],top 68⟩,
 ⟨"level_above",["level","steps","place","m"],["above","heap","more"],top 69⟩,
 ⟨"failing_levels",["web","place","m","most"],["steps","levels","level"],top 70⟩,
 ⟨"fails",["web","place","m","stones"],["levels"],top 71⟩,
 ⟨"all_failing",["web","place","m"],[],top 72⟩,
 ⟨"need",["web","place","m"],[],top 73⟩,
 ⟨"worst",["web","place","m"],[],top 74⟩,
 ⟨"need_all",["web","m"],["needs","greatest"],top 75⟩,
 ⟨"fail_many",["web","place","m"],[],top 76⟩,
 ⟨"is_tally_row",["web","thing"],[],top 79⟩,
 ⟨"are_tally_rows",["web","thing"],["at","row"],top 80⟩,
 ⟨"is_tally",["web","thing"],[],top 81⟩,
 ⟨"must_be_tally",["web","thing"],[],top 82⟩,
 ⟨"tally_from",["times"],[],top 83⟩,
 ⟨"tally_of",["web","steps"],["times","at","step"],top 84⟩,
 ⟨"left",["heap","tally"],["stones","row"],top 85⟩,
 ⟨"left_by",["web","heap","tally"],[],top 86⟩,
 ⟨"led_on",["places","steps"],[],top 87⟩,
 ⟨"ring_of",["steps"],["places","kept","way","onward"],top 88⟩,
 ⟨"ring_in",["web","tally"],[],top 89⟩,
 ⟨"steps_round",["ring"],[],top 90⟩,
 ⟨"leaned",["web","tally"],["times","row","ring","steps","fewest","step"],top 91⟩,
 ⟨"in_order",["web","heap","tally"],["steps","rows","ends","row"],top 92⟩,
 ⟨"_law_kinds",["e"],["found"],top 94⟩,
 ⟨"_law_pairs",["many"],["found","a"],top 95⟩,
 ⟨"_law_stir",["cell","k"],["number"],top 96⟩,
 ⟨"_law_web_by",["many","cell"],["ties","k","tie"],top 97⟩,
 ⟨"_law_heap_by",["many","cell","most"],["left_v","heap","digits","k","stones"],top 98⟩,
 ⟨"_law_no_web",["web","number"],["many","ties","some"],top 99⟩,
 ⟨"_law_no_heap",["heap","number"],["some"],top 100⟩,
 ⟨"_law_no_place",["many","number"],[],top 101⟩,
 ⟨"_law_of_web",["way","web"],[],top 102⟩,
 ⟨"_law_of_heap",["way","web","heap"],[],top 103⟩,
 ⟨"_law_of_both",["way","web","heap","place"],[],top 104⟩,
 ⟨"_law_of_place",["way","web","place"],[],top 105⟩,
 ⟨"_law_came",["way","web","heap","place"],["e"],top 106⟩,
 ⟨"law",["script"],["cell","many","web","heap","way","bad","no_heap","no_place"],top 107⟩]
def Rw (i:Nat):Row:=zmW.getD i ⟨"law",["script"],["cell","many","web","heap","way","bad","no_heap","no_place"],top 107⟩
theorem sc (i:Nat):vJ (Rw i).N (Rw i).ps (zF (Rw i).st):=Row.sc (zfh (p:=λr:Row=>r.scB=true) (by decide +kernel) (by decide +kernel) i)
abbrev YN:Stmt:=zpX (top 11) 0
theorem zhE:vJ ["self","at"] ["self","at"] (zF YN):=⟨rfl,rfl,rfl,by decide +kernel,rfl,by decide +kernel,by decide +kernel⟩
structure Adr where
 f:Nat->Addr
 e:Nat->FuncData
 t_MOST_PLACES:Tok
 t_MOST_STONES:Tok
 t_MOST_SEARCHED:Tok
 x_NoWeb:Addr
 x_NoKind:Addr
 x_NoHeap:Addr
 x_NoPlace:Addr
 x_NoNumber:Addr
 x_NoTally:Addr
 x_NotTree:Addr
 x_NotJoined:Addr
 x_NoWeights:Addr
 x_NoRow:Addr
 x_NoSteps:Addr
 x_NoText:Addr
 x_TooGreat:Addr
 x_StoneError:Addr
 i_NoWeb:Addr
 j_NoWeb:FuncData
def zoC (a:Adr):List Addr:=[a.x_NoWeb,a.x_NoKind,a.x_NoHeap,a.x_NoPlace,a.x_NoNumber,a.x_NoTally,a.x_NotTree,a.x_NotJoined,a.x_NoWeights,a.x_NoRow,a.x_NoSteps,a.x_NoText,a.x_TooGreat]
def clT (a:Adr)(j:Nat):Addr:=(zoC a).getD (j % 16) 0
theorem zpb (a:Adr)(j:Nat):clT a j=clT a (j % 16):=by unfold clT;rw[Nat.mod_mod]
def zs:List Str:=["ValueError","all","any","bool","enumerate","int","isinstance","len","list","max","min","range","reversed","set","sorted","sum","tuple"]
structure Txt (P:Program) (w:World) (K:W.Frag) (mg:Str->Option Value) (base:Heap) (ad:Adr):Prop where
 d:∀ i,Def K mg (Rw i).x (Rw i).st (Rw i).ps (ad.f i) (ad.e i)
 z:∀ x∈zs,mg x=none
 g_MOST_PLACES:mg "MOST_PLACES"=some (Value.int 8 ad.t_MOST_PLACES)
 g_MOST_STONES:mg "MOST_STONES"=some (Value.int 300 ad.t_MOST_STONES)
 g_MOST_SEARCHED:mg "MOST_SEARCHED"=some (Value.int 12 ad.t_MOST_SEARCHED)
 g_NoWeb:mg "NoWeb"=some (Value.ref ad.x_NoWeb)
 g_NoKind:mg "NoKind"=some (Value.ref ad.x_NoKind)
 g_NoHeap:mg "NoHeap"=some (Value.ref ad.x_NoHeap)
 g_NoPlace:mg "NoPlace"=some (Value.ref ad.x_NoPlace)
 g_NoNumber:mg "NoNumber"=some (Value.ref ad.x_NoNumber)
 g_NoTally:mg "NoTally"=some (Value.ref ad.x_NoTally)
 g_NotTree:mg "NotTree"=some (Value.ref ad.x_NotTree)
 g_NotJoined:mg "NotJoined"=some (Value.ref ad.x_NotJoined)
 g_NoWeights:mg "NoWeights"=some (Value.ref ad.x_NoWeights)
 g_NoRow:mg "NoRow"=some (Value.ref ad.x_NoRow)
 g_NoSteps:mg "NoSteps"=some (Value.ref ad.x_NoSteps)
 g_NoText:mg "NoText"=some (Value.ref ad.x_NoText)
 g_TooGreat:mg "TooGreat"=some (Value.ref ad.x_TooGreat)
 g_StoneError:mg "StoneError"=some (Value.ref ad.x_StoneError)
 c_NoHeap:W.excIn K ad.x_NoHeap bmV "ValueError.__new__"=true
 c_NoPlace:W.excIn K ad.x_NoPlace bmV "ValueError.__new__"=true
 y_NoHeap:XN K (zoC ad) ad.x_StoneError ad.x_NoHeap 2=true
 y_NoPlace:XN K (zoC ad) ad.x_StoneError ad.x_NoPlace 3=true
 y_NoWeb:XN K (zoC ad) ad.x_StoneError ad.x_NoWeb 0=true
 fi_NoWeb:Fun K "__init__" "NoWeb.__init__" YN ad.i_NoWeb ad.j_NoWeb
 bi_NoWeb:Yc K ad.j_NoWeb ["self","at"] []
 ei_NoWeb:zpZ K ad.x_NoWeb ad.i_NoWeb=true
 ea_NoWeb:zcv K ad.x_NoWeb=true
 na_NoWeb:zrN K ad.x_NoWeb ["at"]=true
theorem zrO:(["step","web","heap","steps","found","rim","further","now","·step","then"]:List Str).Nodup:=by decide +kernel
theorem zre:(["place","web","heap","found"]:List Str).Nodup:=by decide +kernel
theorem zrL:(["other","place","web","heap","found"]:List Str).Nodup:=by decide +kernel
theorem zo8:(["place","places","steps"]:List Str).Nodup:=by decide +kernel
theorem zp1:(["step","place","places","steps"]:List Str).Nodup:=by decide +kernel
theorem zgQ:(["row","web","heap","tally","steps","rows","ends","·row"]:List Str).Nodup:=by decide +kernel
theorem Txt.at {P:Program}{w:World}{K:W.Frag}{c:Str->Option Value}{a:Heap}{b:Adr}(T:Txt P w K c a b){i:Nat}{x:Str}(h:(Rw i).x=x):Def K c x (Rw i).st (Rw i).ps (b.f i) (b.e i):=h ▸ T.d i
abbrev Txt.Pr {P:Program}{w:World}{K:W.Frag}{c:Str->Option Value}{a:Heap}{b:Adr}(_:Txt P w K c a b)(i k n:Nat)(p:List D->Option D):Prop:=Yb P w K c a CX0 k (b.f i) (b.e i) (Rw i).ps (@spD ⟨K⟩ n p)
theorem Txt.go {P:Program}{w:World}{K:W.Frag}{d:Str->Option Value}{a:Heap}{c:Adr}(T:Txt P w K d a c){i k:Nat}{g:SE->Ctl}(h:∀ (b:Value) (A:Around) (outer:List Env) (s:Shared) (H:Hp) (E:XK),ww k (A.deeper (PyProof.Rows.envOfC (Rw i).x (zF (Rw i).st) s.heap.objs.size (c.f i) b))->@SDs ⟨K⟩ (vX CX0 P w K d a (Rw i).N (Rw i).x (zF (Rw i).st) (c.f i) b A outer s H E).nox (xQ (Rw i).st) g):T.Pr i (k+1) (Rw i).ps.length (fnD (Rw i).N.length g) :=
 letI:KK:=⟨K⟩
 Vz (N:=(Rw i).N) (ps:=(Rw i).ps) (T.d i).fn (sc i) (g:=g) h
abbrev Txt.Px {P:Program}{w:World}{K:W.Frag}{c:Str->Option Value}{a:Heap}{b:Adr}(_:Txt P w K c a b)(i k n:Nat)(p:List D->Option Nat):Prop:=Yb P w K c a (Air P w) k (b.f i) (b.e i) (Rw i).ps (@spX ⟨K⟩ (clT b) n p)
theorem Txt.gx {P:Program}{w:World}{K:W.Frag}{d:Str->Option Value}{a:Heap}{c:Adr}(T:Txt P w K d a c){i k:Nat}{gx:SE->Option Nat}(h:∀ (b:Value) (A:Around) (outer:List Env) (s:Shared) (H:Hp) (E:XK),ww k (A.deeper (PyProof.Rows.envOfC (Rw i).x (zF (Rw i).st) s.heap.objs.size (c.f i) b))->@XSs ⟨K⟩ E (clT c) (vX (Air P w) P w K d a (Rw i).N (Rw i).x (zF (Rw i).st) (c.f i) b A outer s H E) (xQ (Rw i).st) gx):T.Px i (k+1) (Rw i).ps.length (fnX (Rw i).N.length gx) :=
 letI:KK:=⟨K⟩
 Y0 (cl:=clT c) (N:=(Rw i).N) (ps:=(Rw i).ps) (T.d i).fn (sc i) (gx:=gx) h
local macro_rules|`(tactic|walk_at "c")=>`(tactic|first
 |rfl
 |assumption
 |decide
 |exact (sc _).nd
 |exact ⟨rfl,rfl,rfl,rfl,rfl⟩
 |exact Or.inl rfl
 |exact Or.inr rfl
 |exact Or.inr (Or.inl rfl)
 |exact Or.inr (Or.inr rfl)
 |exact Txt.at ‹_› rfl
 |exact Txt.z ‹_› _ (by decide)
 |exact xY _
 |exact u0H
 |exact wo
 |exact fun _=>rfl
 |exact fun _ _=>rfl
 |exact ⟨Or.inl rfl,rfl⟩
 |omega
 |exact wk
 |exact all_cons rfl wk
 |exact all_cons rfl (all_cons rfl wk)
 |exact all_cons rfl (all_cons rfl (all_cons rfl wk))
 |exact Vm (v:=.ty "bool") rfl (Txt.z ‹_› _ (by decide)) zhx rfl
 |exact Vm (v:=.ty "int") rfl (Txt.z ‹_› _ (by decide)) zmv rfl
 |exact Vm (v:=.ty "list") rfl (Txt.z ‹_› _ (by decide)) zbp rfl
 |exact Vm (v:=.ty "tuple") rfl (Txt.z ‹_› _ (by decide)) zfb rfl
 |exact zfU l8 u2z u2B zcm ‹_› ‹_›
 |exact zfU l8 u2A u2C zb3 ‹_› ‹_›
 |exact ww.units0 ‹_›
 |with_unfolding_all rfl
 |kernel_rfl)
local macro_rules|`(tactic|walk_at "s")=>`(tactic|repeat' first
 |((with_reducible show @Eq _ _ _);first|rfl|exact Txt.z ‹_› _ (by decide)|assumption|exact zpk|exact ziG|exact zhx|exact zbG|exact zmv|exact zag|exact zbp|exact zpd|exact zlQ|exact zig|exact zfb|decide|exact xY _|with_unfolding_all rfl|kernel_rfl)
 |((with_reducible show ED _ _ _);first|(with_reducible first|apply edv|exact zZ zX|apply ZZ|apply zlX|apply zpi|exact zrI zn2|apply zpm|exact zjI ziC|apply X3|apply zlP|apply zir|apply zih|apply zmK|apply zjk|apply zaX|exact zp7 zpE|apply zqO|apply zmY|apply zqF|apply zqB|apply zp3|(apply zj6;· assumption)|apply Xi)|apply y8 vd zaT|apply y8 (zbZ ?_) zg6|apply zim zaB zjF|apply ZU znv yc|exact zZ (xn (v:=.int 300) rfl (Txt.g_MOST_STONES ‹_›) ⟨_,rfl⟩)|exact zZ (xn (v:=.int 12) rfl (Txt.g_MOST_SEARCHED ‹_›) ⟨_,rfl⟩)|apply ZU (zeW ?_) zbn|apply y8 (zhe ?_) zj7|apply ZU znq zmB|apply ZU zhp yc|apply ZU (zqE ?_) zjl|apply y8 (zhH ?_) zm1|apply y8 (zh5 ?_) zkZ|apply y8 (zg1 ?_) zjU|apply y8 (Vy ?_) zd4|apply y8 zh1 zjQ|refine zkp zhp zhp yc yc ?_ ?_ ?_ (fun a b c=>zlo zhp zhp a b c)|exact zZ (xn (v:=.int 8) rfl (Txt.g_MOST_PLACES ‹_›) ⟨_,rfl⟩))
 |((with_reducible show AD _ _ _);first|(with_reducible first|apply zn|exact zN))
 |((with_reducible show SDs _ _ _);first|(with_reducible first|apply ze3|apply zdF|apply zT|apply yy|exact zay|apply ze3|apply zdF|apply ZP))
 |((with_reducible show SD _ _ _);first|(with_reducible first|apply V6|apply zdt|apply wW|apply X0|apply zh7|apply zmi|apply zmk|apply zqr|apply ziA|apply zn0|apply zqC|apply zeT|apply zkR|apply zbe|apply zew))
 |((with_reducible show XSs _ _ _ _ _);first|(with_reducible first|apply ZH|apply zoe|apply yI|apply W8))
 |((with_reducible show FL _ _ _);first|(with_reducible first|apply zah|apply zhZ|apply zmg|apply zfK|apply zfq|apply zgf|apply zfp|apply zrD|apply zrM))
 |((with_reducible show PG _ _ _);first|(with_reducible first|apply xR))
 |((with_reducible show WD _ _ _);first|(with_reducible first|apply zpS|apply zmc|apply zo1|apply zno))
 |((with_reducible show BD _ _ _);first|(with_reducible first|apply zbA|apply zpa))
 |((with_reducible show XS _ _ _ _ _);first|(with_reducible first|apply zdr|apply xs_e|apply xs_r))
 |((with_reducible show ID _ _ _ _);first|(with_reducible first|apply Y4|apply zcl|apply zi4|apply zoA|apply zgS))
 |((with_reducible show TD _ _ _);first|(with_reducible first|apply zeZ|apply td_b)|apply xp (zeW ?_) zbn|apply xp zld yc|apply xp We yc|apply xp (zqc ?_) znX|apply xp znq zmB|apply xp znv yc|apply xp zbH zan|apply xp (zp0 ?_) znr|refine zkO We We yc yc ?_ ?_ ?_ (fun a b c=>zkn We We a b c)|apply xp (ziW ?_) ziE|apply xp zpG zny|with_reducible apply V4)
 |((with_reducible show OD _ _ _);first|(with_reducible first|apply zdi|apply zdv))
 |((with_reducible show BDs _ _ _);first|(with_reducible first|apply zk3|apply zoc))
 |((with_reducible show PE _ _ _);first|(with_reducible first|apply pv))
 |((with_reducible show XE _ _ _ _ _);first|(with_reducible first|(apply zkX;· assumption)))
 |((with_reducible apply KR.mk);kernel_rfl)
 |((with_reducible apply UR.mk);with_unfolding_all rfl)
 |with_reducible intro s₀ H₀ ex pn
 |walk_at "c")
local macro_rules|`(tactic|walk_at "p")=>`(tactic|(letI:KK:=⟨‹W.Frag›⟩;refine Txt.go ‹_› fun _ _ _ _ _ _ hr=>?_;apply zT <;> walk_at "s"))
local macro_rules|`(tactic|walk_at "q")=>`(tactic|(letI:KK:=⟨‹W.Frag›⟩;refine Txt.go ‹_› fun _ _ _ _ _ _ hr=>?_;apply yy <;> walk_at "s"))
local macro_rules|`(tactic|walk_at "x")=>`(tactic|(letI:KK:=⟨‹W.Frag›⟩;refine Txt.gx ‹_› fun _ _ _ _ _ _ hr=>?_;(first|apply zoe|apply yI|apply W8) <;> walk_at "s"))
def ZG:D->Bool
 | .int _=>true
 | _=>false
def ya (d:D)(b a:Int):Bool:=match d with
 | .int i=>decide (b<=i)&&decide (i<=a)
 | _=>false
section
variable {P:Program}{w:World}{K:W.Frag}{mg:Str->Option Value}{base:Heap}{ad:Adr}
def yz:List D->Option D
 | [d]=>if noS d=true then some (.bl (ZG d))else none
 | _=>none
abbrev zgs :=zO (v9 (eUn (xS .int) (zb 0)) (W0 (eUn (xS .bool) (zb 0))))
def zfw:=fnD 1 zgs
theorem zoE {α:Type}{b:List α}(h:b.length=1):∃ a,b=[a]:=by match b,h with | [a],_=>exact⟨a,rfl⟩
theorem zfj {α:Type}{c:List α}(h:c.length=2):∃ a b,c=[a,b]:=by match c,h with | [a,b],_=>exact⟨a,b,rfl⟩
theorem len3 {α:Type}{d:List α}(h:d.length=3):∃ a b c,d=[a,b,c]:=by match d,h with | [a,b,c],_=>exact⟨a,b,c,rfl⟩
theorem ifS {c:Bool}{x y:D}(h:(if c=true then some x else none)=some y):c=true/\x=y:=by
 split at h
 .cases h
  exact⟨by assumption,rfl⟩
 .cases h
theorem zdP:∀ b d,b.length=1->yz b=some d->zfw b=some d:=by
 intro b d e h
 obtain⟨a,rfl⟩:=zoE e
 obtain⟨c,rfl⟩:=ifS h
 cases a <;> first | rfl | cases c
theorem WJ (T:Txt P w K mg base ad):T.Pr 0 1 1 yz:=by
 letI:KK:=⟨K⟩
 refine wh ?_ zdP
 walk_at "q"
abbrev wn :=zO (v9 (zd 1 yz (za (zb 0) zc)) (yC leD leD (zb 1) (zb 0) (zb 2)))
def vy:=fnD 3 wn
def zS:List D->Option D
 | [d,.int lo,.int hi]=>if noS d=true then some (.bl (ya d lo hi))else none
 | _=>none
theorem za5 {a:D}{b d:Int}(f:noS a=true)(hw:ZG a=false):vy [a,.int b,.int d]=some (.bl false):=by
 have e:yz [a]=some (.bl false):=by
  show(if noS a=true then some (D.bl (ZG a))else none)=_
  rw[t6 f,hw]
 refine yT (ρ:=[.v a,.v (.int b),.v (.int d)]) rfl ?_
 unfold wn
 refine yt (zG ?_) rfl
 show(((yz [a]).bind asB).bind λc=>if c=true then _ else some (D.bl false))=_
 rw[e]
 rfl
theorem ZK:∀ g d,g.length=3->zS g=some d->vy g=some d:=by
 intro g d k h
 obtain⟨a,b,c,rfl⟩:=len3 k
 cases b <;> try cases h
 cases c <;> try cases h
 rename_i f j
 obtain⟨e,rfl⟩:=ifS h
 cases a with
 | scr _=>cases e
 | int i =>
  refine yT (ρ:=[.v (.int i),.v (.int f),.v (.int j)]) rfl ?_
  unfold wn
  refine yt (zG ?_) rfl
  show(if decide (f<=i)=true then some (D.bl (decide (i<=j)))else some (.bl false))=some (.bl (decide (f<=i)&&decide (i<=j)))
  cases decide (f<=i) <;> rfl
 | tup l=>exact za5 e rfl
 | lst l=>exact za5 e rfl
 | dct z t m n=>exact za5 e rfl
 | non=>rfl
 | bl _=>rfl
 | str _=>rfl
theorem wb (T:Txt P w K mg base ad):T.Pr 1 2 3 zS:=by
 letI:KK:=⟨K⟩
 have G_is_whole:=WJ T
 refine wh ?_ ZK
 walk_at "q"
abbrev vW :=zO (zd 3 zS (za (zb 0) (za (eC (.int 1)) (za (eC (.int 8)) zc))))
def wD:=fnD 1 vW
def xl:List D->Option D
 | [d]=>if noS d=true then some (.bl (ya d 1 8))else none
 | _=>none
theorem Xn:∀ b d,b.length=1->xl b=some d->wD b=some d:=by
 intro b d f h
 obtain⟨a,rfl⟩:=zoE f
 have e:wD [a]=zS [a,.int 1,.int 8]:=by
  cases c:zS [a,.int 1,.int 8] <;> simp[wD,vW,fnD,zC,zO,vl,sIf,xo,yu,sNo,zB,Wr,Ya,Yw,Wn,Y7,vEv,visF,visG,Sl.f,Sl.g,zb,eC,zi,v9,eOr,W0,eIf,eUn,Y8,yY,yA,zQ,za,zc,zd,eFn,fFn,tOf,xj,Zp,yR,asB,asI,z5,vD,v8,xf,xI,Zs,wz,ltD,leD,gtD,geD,XO,z6,yK,z7,yM,XC,z0,ixD,YR,xS,isT,eSl,xE,xD,yC,xA,iOf,vZ,wg,Zq,v0,ZD,y6,vi,fLC,yw,yS,wc,yF,Z8,xH,Xp,b1,b2,c]
 rw[e]
 exact h
theorem Xv (T:Txt P w K mg base ad):T.Pr 4 3 1 xl:=by
 letI:KK:=⟨K⟩
 have G_is_whole_within:=wb T
 refine wh ?_ Xn
 walk_at "q"
abbrev zar :=zO (zd 3 zS (za (zb 1) (za (eC (.int 0)) (za (zi vD (zb 0) (eC (.int 1))) zc))))
def Xw:=fnD 2 zar
def yB:List D->Option D
 | [.int m,d]=>if noS d=true then some (.bl (ya d 0 (m - 1)))else none
 | _=>none
theorem zdD:∀ c d,c.length=2->yB c=some d->Xw c=some d:=by
 intro c d g h
 obtain⟨a,b,rfl⟩:=zfj g
 cases a <;> try cases h
 rename_i m
 have e:Xw [.int m,b]=zS [b,.int 0,.int (m - 1)]:=by
  cases f:zS [b,.int 0,.int (m - 1)] <;> simp[Xw,zar,fnD,zC,zO,vl,sIf,xo,yu,sNo,zB,Wr,Ya,Yw,Wn,Y7,vEv,visF,visG,Sl.f,Sl.g,zb,eC,zi,v9,eOr,W0,eIf,eUn,Y8,yY,yA,zQ,za,zc,zd,eFn,fFn,tOf,xj,Zp,yR,asB,asI,z5,vD,v8,xf,xI,Zs,wz,ltD,leD,gtD,geD,XO,z6,yK,z7,yM,XC,z0,ixD,YR,xS,isT,eSl,xE,xD,yC,xA,iOf,vZ,wg,Zq,v0,ZD,y6,vi,fLC,yw,yS,wc,yF,Z8,xH,Xp,b1,b2,f]
 rw[e]
 exact h
theorem Zh (T:Txt P w K mg base ad):T.Pr 5 3 2 yB:=by
 letI:KK:=⟨K⟩
 have G_is_whole_within:=wb T
 refine wh ?_ zdD
 walk_at "q"
theorem Ze {m i:Int}:ya (.int i) 0 (m - 1)=inR m i:=rfl
theorem znS {d:D}{a b:Int}(h:∀ i,d≠.int i):ya d a b=false:=by
 cases d <;> first | rfl | exact absurd rfl (h _)
theorem zcD {d:D}{a b:Int}(h:ya d a b=true):∃ i,d=.int i:=by
 cases d with
 | int i=>exact⟨i,rfl⟩
 | _=>cases h
abbrev zc1 :=zC (sIf (Zp (yR (tOf (eUn (xS .tuple) (zb 1)))) (tOf (zi neD (eFn YR (za (zb 1) zc)) (eC (.int 2))))) (zO (eC (.bl false))) zB)
  (zO (v9 (zd 2 yB (za (zb 0) (za (zi ixD (zb 1) (eC (.int 0))) zc))) (v9 (zd 2 yB (za (zb 0) (za (zi ixD (zb 1) (eC (.int 1))) zc))) (zi neD (zi ixD (zb 1) (eC (.int 0))) (zi ixD (zb 1) (eC (.int 1)))))))
def zja:=fnD 2 zc1
def wX:List D->Option D
 | [.int m,d]=>if noS d=true then some (.bl (wF m d))else none
 | _=>none
theorem zkW {m:Int}{x y:D}(h:ya x 0 (m - 1)=false):wF m (.tup [x,y])=false:=by
 cases x with
 | int i =>
  cases y with
  | int j =>
   show(inR m i&&inR m j&&!decide (i=j))=false
   rw[show inR m i=false from h]
   rfl
  | _=>rfl
 | _=>rfl
theorem zki {m:Int}{x y:D}(h:ya y 0 (m - 1)=false):wF m (.tup [x,y])=false:=by
 cases x with
 | int i =>
  cases y with
  | int j =>
   show(inR m i&&inR m j&&!decide (i=j))=false
   rw[show inR m j=false from h,m9]
   rfl
  | _=>rfl
 | _=>rfl
theorem zfL:∀ g d,g.length=2->wX g=some d->zja g=some d:=by
 intro g d f h
 obtain⟨a,b,rfl⟩:=zfj f
 cases a <;> try cases h
 rename_i m
 obtain⟨l,rfl⟩:=ifS h
 clear h
 cases b with
 | tup k =>
  refine yT (ρ:=[.v (.int m),.v (.tup k)]) rfl ?_
  unfold zc1
  by_cases f:k.length=2
  .obtain⟨x,y,rfl⟩:=zfj f
   have s:noS x=true:=vK (ds:=[x,y]) (i:=0) l rfl
   have r:noS y=true:=vK (ds:=[x,y]) (i:=1) l rfl
   have u:yB [.int m,x]=some (.bl (ya x 0 (m - 1))):=by
    show(if noS x=true then some (D.bl (ya x 0 (m - 1)))else none)=_
    rw[t6 s]
   have v:yB [.int m,y]=some (.bl (ya y 0 (m - 1))):=by
    show(if noS y=true then some (D.bl (ya y 0 (m - 1)))else none)=_
    rw[t6 r]
   refine zl (ρ':=[.v (.int m),.v (.tup [x,y])]) rfl (yt (zG ?_) rfl)
   show(((yB [.int m,x]).bind asB).bind λc=>if c=true then (((yB [.int m,y]).bind asB).bind λc=>if c=true then neD x y else some (D.bl false))else some (D.bl false))=_
   rw[u,v]
   cases p:ya x 0 (m - 1) with
   | false=>rw[zkW p];rfl
   | true =>
    cases o:ya y 0 (m - 1) with
    | false=>rw[zki o];rfl
    | true =>
     obtain⟨i,rfl⟩:=zcD p
     obtain⟨j,rfl⟩:=zcD o
     show some (D.bl (!decide (i=j)))=some (.bl (inR m i&&inR m j&&!decide (i=j)))
     rw[show inR m i=true from p,show inR m j=true from o]
     rfl
  .have e:wF m (.tup k)=false:=by
    unfold wF Za
    split
    .rename_i t q
     split at q
     .rename_i n
      injection n with n
      rw[n]at f
      exact absurd rfl f
     .cases q
    .rfl
   rw[e]
   refine yb (zbD (c:=true) ?_ (λ_=>yt rfl rfl) λz=>by cases z)
   show some (!decide ((k.length:Int)=2))=_
   rw[j5 (show ¬ (k.length:Int)=2 from λh=>f (Int.ofNat.inj h))]
   rfl
 | scr _=>cases l
 | _=>rfl
theorem zgv (T:Txt P w K mg base ad):T.Pr 7 4 2 wX:=by
 letI:KK:=⟨K⟩
 have G_is_place:=Zh T
 refine wh ?_ zfL
 walk_at "p"
def zcI (ds:List D):Nat->Option Tie
 | 0=>none
 | k+1=>(ds[k]?).bind Za
abbrev XD :=zC (sIf (Zp (yR (tOf (zd 2 wX (za (zb 0) (za (zb 3) zc))))) (tOf (zi gtD (zi ixD (zb 3) (eC (.int 0))) (zi ixD (zb 3) (eC (.int 1)))))) (zO (eC (.bl false))) zB)
  (sIf (xj (tOf (zi gtD (zb 2) (eC (.int 0)))) (tOf (zi leT (zb 3) (zi ixD (zb 1) (zi vD (zb 2) (eC (.int 1))))))) (zO (eC (.bl false))) zB)
abbrev Xf :=zC (sIf (yR (tOf (eUn (xS .tuple) (zb 1)))) (zO (eC (.bl false))) zB)
  (zC (vZ (y6 (za (zb 1) zc)) (Z8 2 (xH (yF 2) (xH (yF 3) Xp))) XD)
  (zO (eC (.bl true))))
def zga:=fnD 4 Xf
def vq:List D->Option D
 | [.int m,d]=>if noS d=true then some (.bl (YF m d))else none
 | _=>none
theorem VI {m:Int}{d:D}(h:wF m d=true):∃ t,d=zp t:=by
 unfold wF at h
 split at h
 .rename_i t a
  exact⟨t,W4 a⟩
 .cases h
theorem zea:∀ x d,x.length=2->vq x=some d->zga x=some d:=by
 intro x d I h
 obtain⟨a,b,rfl⟩:=zfj I
 cases a <;> try cases h
 rename_i m
 obtain⟨G,rfl⟩:=ifS h
 clear h I
 cases b with
 | scr _=>cases G
 | tup f =>
  refine yT (g:=Xf) rfl ?_
  unfold Xf
  refine zl rfl ?_
  refine yb (zcM (ds:=VW 0 f) (λi ρ=>∃ E C,ρ=[.v (.int m),.v (.tup f),E,C]/\y9 m none f=y9 m (zcI f i) (f.drop i)/\∀ k,i=k+1->∃ p,f[k]?=some (zp p)) rfl
   ⟨.no,.no,rfl,rfl,λk e=>by cases e⟩ ?_ ?_)
  .rintro i d ρ H ⟨E,C,rfl,A,J⟩
   rw[Z5]at H
   obtain⟨r,n,rfl⟩:=u9.mp H
   rw[m3]
   refine⟨_,rfl,?_⟩
   have o:f.drop i=r::f.drop (i+1):=by
    obtain⟨K,M⟩:=q0.mp n
    rw[u0q K,M]
   have v:noS r=true:=vK G n
   unfold XD
   cases l:wF m r with
   | false =>
    have F:wX [.int m,r]=some (.bl false):=by
     show(if noS r=true then some (D.bl (wF m r))else none)=_
     rw[t6 v,l]
    refine yb (zbD (c:=true) (show(((wX [.int m,r]).bind asB).map (!·)).bind (λc=>if c=true then some true else _)=_ by rw[F];rfl) (λ_=>yt rfl ?_) (λz=>by cases z))
    have e:y9 m none f=false:=by
     rw[A,o]
     unfold y9
     split
     .rw[l];rfl
     .rfl
    show D.bl false=.bl (y9 m none f)
    rw[e]
   | true =>
    obtain⟨t,rfl⟩:=VI l
    have F:wX [.int m,zp t]=some (.bl true):=by
     show(if noS (zp t)=true then some (D.bl (wF m (zp t)))else none)=_
     rw[t6 v,l]
    have step:y9 m none f=(!decide (t.2 < t.1)&&zcs (zcI f i) t&&y9 m (some t) (f.drop (i+1))):=by
     rw[A,o]
     conv=>lhs;unfold y9
     rw[Yv,l]
     rfl
    have q:zcI f (i+1)=some t:=by
     show(f[i]?).bind Za=some t
     rw[n]
     rfl
    refine yb (zbD (c:=decide (t.2 < t.1)) (show(((wX [.int m,zp t]).bind asB).map (!·)).bind (λc=>if c=true then some true else some (decide (t.2 < t.1)))=_ by rw[F];rfl) (λc=>yt rfl ?_) (λc=>Z9 rfl ?_))
    .show D.bl false=.bl (y9 m none f)
     rw[step,c]
     rfl
    .cases i with
     | zero =>
      refine zbD (c:=false) rfl (λz=>by cases z) (λ_=>Z9 rfl ?_)
      refine⟨_,_,rfl,?_,λk e=>?_⟩
      .rw[q,step,c]
       rfl
      .cases e
       exact⟨t,n⟩
     | succ j =>
      obtain⟨p,u⟩:=J j rfl
      have s:zcI f (j+1)=some p:=by
       show(f[j]?).bind Za=some p
       rw[u]
       rfl
      rw[s]at step
      have L:atI f ((((j+1:Nat):Int)) - 1)=some (zp p):=by
       rw[show(((j+1:Nat):Int)) - 1=(j:Nat)from Int.add_sub_cancel (j:Int) 1]
       exact zdp u
      have w:zcs (some p) t=!leP t p:=rfl
      refine zbD (c:=leP t p) ?_ (λB=>yt rfl ?_) (λB=>Z9 rfl ?_)
      .have z:decide ((0:Int) < ((j+1:Nat):Int))=true:=q7 (Int.natCast_pos.mpr (Nat.succ_pos j))
       show((some (decide ((0:Int) < ((j+1:Nat):Int)))).bind λc=>if c=true then (((atI f (((j+1:Nat):Int) - 1)).bind λy=>leT (zp t) y).bind asB)else some false)=_
       rw[z,L]
       rfl
      .show D.bl false=.bl (y9 m none f)
       rw[step,w,B,c]
       rfl
      .refine⟨_,_,rfl,?_,λN e=>?_⟩
       .rw[q,step,w,B,c]
        rfl
       .cases e
        exact⟨t,n⟩
  .rintro ρ ⟨E,C,rfl,A,J⟩
   refine yt rfl ?_
   show D.bl true=.bl (y9 m none f)
   rw[A,Yk,u1E]
   cases zcI f f.length <;> rfl
 | _=>rfl
theorem zdI (T:Txt P w K mg base ad):T.Pr 8 5 2 vq:=by
 letI:KK:=⟨K⟩
 have G_is_pair:=zgv T
 refine wh ?_ zea
 walk_at "p"
abbrev Wp :=zC (sIf (Zp (yR (tOf (eUn (xS .tuple) (zb 0)))) (tOf (zi neD (eFn YR (za (zb 0) zc)) (eC (.int 2))))) (zO (eC (.bl false))) zB)
  (zO (v9 (zd 1 xl (za (zi ixD (zb 0) (eC (.int 0))) zc)) (zd 2 vq (za (zi ixD (zb 0) (eC (.int 0))) (za (zi ixD (zb 0) (eC (.int 1))) zc)))))
def Wx:=fnD 1 Wp
def vR:List D->Option D
 | [d]=>if noS d=true then some (.bl (xy d))else none
 | _=>none
theorem zhG {x y:D}:xy (.tup [x,y])=(ya x 1 8&&match x with | .int m=>YF m y | _=>false):=by
 cases x <;> rfl
theorem zjn:∀ c d,c.length=1->vR c=some d->Wx c=some d:=by
 intro c d b h
 obtain⟨a,rfl⟩:=zoE b
 obtain⟨g,rfl⟩:=ifS h
 clear h b
 cases a with
 | scr _=>cases g
 | tup k =>
  by_cases b:k.length=2
  .obtain⟨x,y,rfl⟩:=zfj b
   have q:noS x=true:=vK (ds:=[x,y]) (i:=0) g rfl
   have o:noS y=true:=vK (ds:=[x,y]) (i:=1) g rfl
   have f:xl [x]=some (.bl (ya x 1 8)):=by simp[xl,q]
   rw[zhG]
   by_cases l:∃ i,x=.int i
   .obtain⟨i,rfl⟩:=l
    have s:vq [.int i,y]=some (.bl (YF i y)):=by simp[vq,o]
    cases p:ya (.int i) 1 8 <;> rw[p]at f <;> simp[Wx,Wp,fnD,zC,zO,vl,sIf,xo,yu,sNo,zB,Wr,Ya,Yw,Wn,Y7,vEv,visF,visG,Sl.f,Sl.g,zb,eC,zi,v9,eOr,W0,eIf,eUn,Y8,yY,yA,zQ,za,zc,zd,eFn,fFn,tOf,xj,Zp,yR,asB,asI,z5,vD,v8,xf,xI,Zs,wz,ltD,leD,gtD,geD,XO,z6,yK,z7,yM,XC,z0,ixD,YR,xS,isT,eSl,xE,xD,yC,xA,iOf,vZ,wg,Zq,v0,ZD,y6,vi,fLC,yw,yS,wc,yF,Z8,xH,Xp,b1,b2,f,s,atI,ixN]
   .have r:ya x 1 8=false:=znS λj t=>l ⟨j,t⟩
    rw[r]at f ⊢
    simp[Wx,Wp,fnD,zC,zO,vl,sIf,xo,yu,sNo,zB,Wr,Ya,Yw,Wn,Y7,vEv,visF,visG,Sl.f,Sl.g,zb,eC,zi,v9,eOr,W0,eIf,eUn,Y8,yY,yA,zQ,za,zc,zd,eFn,fFn,tOf,xj,Zp,yR,asB,asI,z5,vD,v8,xf,xI,Zs,wz,ltD,leD,gtD,geD,XO,z6,yK,z7,yM,XC,z0,ixD,YR,xS,isT,eSl,xE,xD,yC,xA,iOf,vZ,wg,Zq,v0,ZD,y6,vi,fLC,yw,yS,wc,yF,Z8,xH,Xp,b1,b2,f,atI,ixN]
  .have e:xy (.tup k)=false:=zc4 λm n h _=>by
    unfold zM at h
    injection h with h
    rw[h]at b
    exact b rfl
   rw[e]
   have:¬ (k.length:Int)=2:=by omega
   simp[Wx,Wp,fnD,zC,zO,vl,sIf,xo,yu,sNo,zB,Wr,Ya,Yw,Wn,Y7,vEv,visF,visG,Sl.f,Sl.g,zb,eC,zi,v9,eOr,W0,eIf,eUn,Y8,yY,yA,zQ,za,zc,zd,eFn,fFn,tOf,xj,Zp,yR,asB,asI,z5,vD,v8,xf,xI,Zs,wz,ltD,leD,gtD,geD,XO,z6,yK,z7,yM,XC,z0,ixD,YR,xS,isT,eSl,xE,xD,yC,xA,iOf,vZ,wg,Zq,v0,ZD,y6,vi,fLC,yw,yS,wc,yF,Z8,xH,Xp,b1,b2,this]
 | _=>rfl
theorem zcU (T:Txt P w K mg base ad):T.Pr 9 6 1 vR:=by
 letI:KK:=⟨K⟩
 have G_is_place_count:=Xv T
 have G_are_ties:=zdI T
 refine wh ?_ zjn
 walk_at "p"
theorem zhc (m:Int)(a:List Tie):noS (zM m a)=true:=by
 have:∀ a:List Tie,Ww (a.map zp)=true:=by
  intro a
  induction a with
  | nil=>rfl
  | cons t a b=>show(noS (zp t)&&Ww (a.map zp))=true;rw[b];rfl
 show(noS (.int m)&&(noS (.tup (a.map zp))&&true))=true
 rw[show noS (.tup (a.map zp))=Ww (a.map zp)from rfl,this a]
 rfl
abbrev Z7 :=sIf (yR (tOf (zd 1 vR (za (zb 0) zc)))) sNo zB
def Zu:=fnD 1 Z7
def zh:List D->Option D
 | [d]=>if xy d=true then some .non else none
 | _=>none
theorem VU:∀ b d,b.length=1->zh b=some d->Zu b=some d:=by
 intro b d f h
 obtain⟨a,rfl⟩:=zoE f
 obtain⟨hw,rfl⟩:=ifS h
 obtain⟨m,c,rfl,_⟩:=(yX a).mp hw
 have e:vR [zM m c]=some (.bl true):=by simp[vR,zhc m c,hw]
 simp[Zu,Z7,fnD,zC,zO,vl,sIf,xo,yu,sNo,zB,Wr,Ya,Yw,Wn,Y7,vEv,visF,visG,Sl.f,Sl.g,zb,eC,zi,v9,eOr,W0,eIf,eUn,Y8,yY,yA,zQ,za,zc,zd,eFn,fFn,tOf,xj,Zp,yR,asB,asI,z5,vD,v8,xf,xI,Zs,wz,ltD,leD,gtD,geD,XO,z6,yK,z7,yM,XC,z0,ixD,YR,xS,isT,eSl,xE,xD,yC,xA,iOf,vZ,wg,Zq,v0,ZD,y6,vi,fLC,yw,yS,wc,yF,Z8,xH,Xp,b1,b2,e]
theorem zk (T:Txt P w K mg base ad):T.Pr 10 7 1 zh:=by
 letI:KK:=⟨K⟩
 have G_is_web:=zcU T
 refine wh ?_ VU
 walk_at "q"
def xx:D->Bool
 | .int i=>decide (0<=i)
 | _=>false
def zoH:D->Int
 | .int i=>i
 | _=>0
def xF (m:Int):D->Bool
 | .tup a=>decide ((a.length:Int)=m)&&a.all xx
 | _=>false
theorem zkm {α:Type}(f:α->Bool)(l:List α):zqb [.lst (l.map λx=>.bl (f x))]=some (.bl (l.all f)):=by
 have:zjM (l.map λx=>D.bl (f x))=some (l.map f):=by
  have:=zeG (l.map f)
  rwa[i1]at this
 show((zjM (l.map λx=>D.bl (f x))).bind λa=>some (D.bl (a.all id)))=_
 rw[this]
 show some (D.bl ((l.map f).all id))=_
 rw[u1A]
 rfl
theorem Vf {a:List D}(h:a.all xx=true):∃ b:List Int,a=b.map .int/\∀ n∈b,0<=n:=by
 induction a with
 | nil=>exact⟨[],rfl,by simp⟩
 | cons d a f =>
  rw[u1N,j3]at h
  obtain⟨b,rfl,e⟩:=f h.2
  cases d with
  | int i=>exact⟨i::b,rfl,λn c=>by
   rcases q4.mp c with rfl | c
   .exact j2 h.1
   .exact e n c⟩
  | _=>exact absurd h.1 u7
theorem zhw {a:List Int}(h:∀ n∈a,0<=n):(a.map D.int).all xx=true:=by
 rw[u1A,m7]
 exact λn b=>q7 (h n b)
theorem zia (a:List Int):zfX [.tup (a.map .int)]=some (.int a.sum):=by
 show((zdn (a.map .int)).bind λa=>some (D.int a.sum))=_
 rw[YO]
 rfl
abbrev vb :=zC (sIf (Zp (yR (tOf (eUn (xS .tuple) (zb 1)))) (tOf (zi neD (eFn YR (za (zb 1) zc)) (zb 0)))) (zO (eC (.bl false))) zB)
  (zO (eFn zqb (za (yA (fLC (iOf (zb 1)) b1 yw (v9 (zd 1 yz (za (zb 0) zc)) (zi geD (zb 0) (eC (.int 0)))))) zc)))
def XM:=fnD 2 vb
def wA:List D->Option D
 | [.int m,d]=>if (noS d&&decide (m<=1000))=true then some (.bl (xF m d))else none
 | _=>none
theorem zpR {d:D}(a:noS d=true):((yz [d]).bind asB).bind (λc=>if c=true then geD d (.int 0)else some (.bl false))=some (.bl (xx d)):=by
 cases d with
 | scr _=>cases a
 | tup _=>simp[yz,a,ZG,asB,xx]
 | lst _=>simp[yz,a,ZG,asB,xx]
 | _=>rfl
theorem zbl:∀ n d,n.length=2->wA n=some d->XM n=some d:=by
 intro n d k h
 obtain⟨a,b,rfl⟩:=zfj k
 cases a <;> try cases h
 rename_i m
 obtain⟨l,rfl⟩:=ifS h
 clear h k
 rw[j3,j6]at l
 obtain⟨l,q⟩:=l
 cases b with
 | scr _=>cases l
 | tup g =>
  by_cases k:(g.length:Int)=m
  .have e:fLC (iOf (zb 1)) b1 yw (v9 (zd 1 yz (za (zb 0) zc)) (zi geD (zb 0) (eC (.int 0)))) [some (.int m),some (.tup g)]=some (g.map λd=>.bl (xx d)):=by
    unfold fLC
    show(if lim g.length=true then _ else none)=_
    rw[t6 (x9 (by omega))]
    have:=Zc (b:=b1) (t:=yw) (f:=v9 (zd 1 yz (za (zb 0) zc)) (zi geD (zb 0) (eC (.int 0)))) (ρ:=[some (.int m),some (.tup g)]) id (λd=>.bl (xx d)) g
     (λd o=>⟨[some d],rfl,rfl,zpR (by obtain⟨j,p,rfl⟩:=u0g o;exact vK (i:=j) l (by simp[p]))⟩)
    rwa[List.map_id]at this
   show fnD 2 vb _=_
   refine yT rfl ?_
   unfold vb
   refine yb (zbD (c:=false) (by simp[fnD,zC,zO,vl,sIf,xo,yu,sNo,zB,Wr,Ya,Yw,Wn,Y7,vEv,visF,visG,Sl.f,Sl.g,zb,eC,zi,v9,eOr,W0,eIf,eUn,Y8,yY,yA,zQ,za,zc,zd,eFn,fFn,tOf,xj,Zp,yR,asB,asI,z5,vD,v8,xf,xI,Zs,wz,ltD,leD,gtD,geD,XO,z6,yK,z7,yM,XC,z0,ixD,YR,xS,isT,eSl,xE,xD,yC,xA,iOf,vZ,wg,Zq,v0,ZD,y6,vi,fLC,yw,yS,wc,yF,Z8,xH,Xp,b1,b2,k]) (λz=>by cases z) λ_=>Z9 rfl (yt (d:=.bl (g.all xx)) ?_ ?_))
   .show(match (((fLC (iOf (zb 1)) b1 yw (v9 (zd 1 yz (za (zb 0) zc)) (zi geD (zb 0) (eC (.int 0)))) [some (.int m),some (.tup g)]).map D.lst).bind λd=>(some []:Option (List D)).map (d::·)).bind zqb with | some d=>Ctl.rt d | none=>Ctl.no)=_
    rw[e]
    show(match zqb [.lst (g.map λd=>.bl (xx d))]with | some d=>Ctl.rt d | none=>Ctl.no)=_
    rw[zkm]
   .show D.bl (g.all xx)=.bl (decide ((g.length:Int)=m)&&g.all xx)
    rw[q7 k,Bool.true_and]
  .have e:xF m (.tup g)=false:=by
    show(decide ((g.length:Int)=m)&&g.all xx)=false
    rw[j5 k,Bool.false_and]
   rw[e]
   simp[XM,vb,fnD,zC,zO,vl,sIf,xo,yu,sNo,zB,Wr,Ya,Yw,Wn,Y7,vEv,visF,visG,Sl.f,Sl.g,zb,eC,zi,v9,eOr,W0,eIf,eUn,Y8,yY,yA,zQ,za,zc,zd,eFn,fFn,tOf,xj,Zp,yR,asB,asI,z5,vD,v8,xf,xI,Zs,wz,ltD,leD,gtD,geD,XO,z6,yK,z7,yM,XC,z0,ixD,YR,xS,isT,eSl,xE,xD,yC,xA,iOf,vZ,wg,Zq,v0,ZD,y6,vi,fLC,yw,yS,wc,yF,Z8,xH,Xp,b1,b2,k]
 | _=>rfl
theorem zaL (T:Txt P w K mg base ad):T.Pr 6 2 2 wA:=by
 letI:KK:=⟨K⟩
 have G_is_whole:=WJ T
 refine wh ?_ zbl
 walk_at "p"
def xc (m:Int):D->Bool
 | .tup a=>xF m (.tup a)&&decide ((a.map zoH).sum<=300)
 | _=>false
theorem vt (a:List Int):(a.map D.int).map zoH=a:=by rw[i1];exact(u0Z λ_ _=>rfl).trans (List.map_id _)
abbrev Yx :=zO (v9 (zd 2 wA (za (zi ixD (zb 0) (eC (.int 0))) (za (zb 1) zc))) (zi leD (eFn zfX (za (zb 1) zc)) (eC (.int 300))))
def YE:=fnD 2 Yx
def yE:List D->Option D
 | [.tup [.int m,_],d]=>if (noS d&&decide (m<=1000))=true then some (.bl (xc m d))else none
 | _=>none
theorem zbx:∀ g d,g.length=2->yE g=some d->YE g=some d:=by
 intro g d n h
 obtain⟨a,b,rfl⟩:=zfj n
 unfold yE at h
 split at h
 .rename_i m t q e
  injection e with e1 e2
  injection e2 with e2 _
  subst e1 e2
  obtain⟨k,rfl⟩:=ifS h
  have f:wA [.int m,b]=some (.bl (xF m b)):=by simp only[wA];rw[t6 k]
  cases c:xF m b with
  | false =>
   rw[c]at f
   have j:xc m b=false:=by
    cases b <;> try rfl
    show(xF m _&&_)=false
    rw[c]
    rfl
   rw[j]
   simp[YE,Yx,fnD,zC,zO,vl,sIf,xo,yu,sNo,zB,Wr,Ya,Yw,Wn,Y7,vEv,visF,visG,Sl.f,Sl.g,zb,eC,zi,v9,eOr,W0,eIf,eUn,Y8,yY,yA,zQ,za,zc,zd,eFn,fFn,tOf,xj,Zp,yR,asB,asI,z5,vD,v8,xf,xI,Zs,wz,ltD,leD,gtD,geD,XO,z6,yK,z7,yM,XC,z0,ixD,YR,xS,isT,eSl,xE,xD,yC,xA,iOf,vZ,wg,Zq,v0,ZD,y6,vi,fLC,yw,yS,wc,yF,Z8,xH,Xp,b1,b2,f,atI,ixN]
  | true =>
   rw[c]at f
   cases b with
   | tup p =>
    have l:p.all xx=true:=by
     unfold xF at c
     rw[j3]at c
     exact c.2
    obtain⟨i,rfl,o⟩:=Vf l
    have j:xc m (.tup (i.map .int))=decide (i.sum<=300):=by
     show(xF m _&&decide (((i.map D.int).map zoH).sum<=300))=_
     rw[c,vt,Bool.true_and]
    rw[j]
    simp[YE,Yx,fnD,zC,zO,vl,sIf,xo,yu,sNo,zB,Wr,Ya,Yw,Wn,Y7,vEv,visF,visG,Sl.f,Sl.g,zb,eC,zi,v9,eOr,W0,eIf,eUn,Y8,yY,yA,zQ,za,zc,zd,eFn,fFn,tOf,xj,Zp,yR,asB,asI,z5,vD,v8,xf,xI,Zs,wz,ltD,leD,gtD,geD,XO,z6,yK,z7,yM,XC,z0,ixD,YR,xS,isT,eSl,xE,xD,yC,xA,iOf,vZ,wg,Zq,v0,ZD,y6,vi,fLC,yw,yS,wc,yF,Z8,xH,Xp,b1,b2,f,zia,atI,ixN]
   | _=>cases c
 .cases h
theorem vE (T:Txt P w K mg base ad):T.Pr 20 3 2 yE:=by
 letI:KK:=⟨K⟩
 have G_are_counts:=zaL T
 refine wh ?_ zbx
 walk_at "q"
theorem zbr {m:Int}{a:List Tie}(h:yh m a):v0 [.int m]=some (Wy 0 m.toNat):=by
 have:=h.lo
 have:=h.hi
 show(if zlz m=true then some (Wy 0 m.toNat)else none)=_
 rw[t6 (xP.mpr ⟨by omega,by omega⟩)]
abbrev Y1 :=sIf (yR (tOf (zd 2 yE (za (zb 0) (za (zb 1) zc))))) sNo zB
def Y5:=fnD 2 Y1
def zD:List D->Option D
 | [.tup [.int m,_],d]=>if (noS d&&decide (m<=1000)&&xc m d)=true then some .non else none
 | _=>none
theorem WW:∀ c d,c.length=2->zD c=some d->Y5 c=some d:=by
 intro c d i h
 obtain⟨a,b,rfl⟩:=zfj i
 unfold zD at h
 split at h
 .rename_i m t j e
  injection e with e1 e2
  injection e2 with e2 _
  subst e1 e2
  obtain⟨f,rfl⟩:=ifS h
  rw[j3]at f
  have g:yE [.tup [.int m,t],b]=some (.bl true):=by simp only[yE];rw[t6 f.1,f.2]
  simp[Y5,Y1,fnD,zC,zO,vl,sIf,xo,yu,sNo,zB,Wr,Ya,Yw,Wn,Y7,vEv,visF,visG,Sl.f,Sl.g,zb,eC,zi,v9,eOr,W0,eIf,eUn,Y8,yY,yA,zQ,za,zc,zd,eFn,fFn,tOf,xj,Zp,yR,asB,asI,z5,vD,v8,xf,xI,Zs,wz,ltD,leD,gtD,geD,XO,z6,yK,z7,yM,XC,z0,ixD,YR,xS,isT,eSl,xE,xD,yC,xA,iOf,vZ,wg,Zq,v0,ZD,y6,vi,fLC,yw,yS,wc,yF,Z8,xH,Xp,b1,b2,g]
 .cases h
theorem zJ (T:Txt P w K mg base ad):T.Pr 22 4 2 zD:=by
 letI:KK:=⟨K⟩
 have G_are_stones:=vE T
 refine wh ?_ WW
 walk_at "q"
theorem Vq {m:Int}{a:List Tie}(h:yh m a):decide (m<=1000)=true:=q7 (by have:=h.hi;omega)
def zaz:D->Int
 | .tup [.int m,_]=>m
 | _=>0
def zcS:D->List Tie
 | .tup [_,.tup l]=>(zgH l).getD []
 | _=>[]
theorem xW (m:Int)(a:List Tie):zaz (zM m a)=m:=rfl
theorem zho (a:List Tie):a.map zp=a.map prD:=rfl
theorem wy (m:Int)(a:List Tie):zcS (zM m a)=a:=by
 show(zgH (a.map zp)).getD []=a
 rw[zho,zhQ]
 rfl
def zkD (a b:Int):Tie:=(if b < a then b else a,if b > a then b else a)
abbrev Yu :=sIf (yR (tOf (zd 2 yB (za (zi ixD (zb 0) (eC (.int 0))) (za (zb 1) zc))))) sNo zB
def Yl:=fnD 2 Yu
def zI:List D->Option D
 | [.tup [.int m,_],.int p]=>if (decide (0<=p)&&decide (p<=m - 1))=true then some .non else none
 | _=>none
theorem Wh:∀ c d,c.length=2->zI c=some d->Yl c=some d:=by
 intro c d j h
 obtain⟨a,b,rfl⟩:=zfj j
 unfold zI at h
 split at h
 .rename_i m t f e
  injection e with e1 e2
  injection e2 with e2 _
  subst e1 e2
  obtain⟨g,rfl⟩:=ifS h
  have i:yB [.int m,.int f]=some (.bl true):=by
   show(if noS (.int f)=true then some (D.bl (ya (.int f) 0 (m - 1)))else none)=_
   rw[t6 (show noS (.int f)=true from rfl),Ze]
   unfold inR
   rw[g]
  simp[Yl,Yu,fnD,zC,zO,vl,sIf,xo,yu,sNo,zB,Wr,Ya,Yw,Wn,Y7,vEv,visF,visG,Sl.f,Sl.g,zb,eC,zi,v9,eOr,W0,eIf,eUn,Y8,yY,yA,zQ,za,zc,zd,eFn,fFn,tOf,xj,Zp,yR,asB,asI,z5,vD,v8,xf,xI,Zs,wz,ltD,leD,gtD,geD,XO,z6,yK,z7,yM,XC,z0,ixD,YR,xS,isT,eSl,xE,xD,yC,xA,iOf,vZ,wg,Zq,v0,ZD,y6,vi,fLC,yw,yS,wc,yF,Z8,xH,Xp,b1,b2,i,atI,ixN]
 .cases h
theorem yd (T:Txt P w K mg base ad):T.Pr 11 4 2 zI:=by
 letI:KK:=⟨K⟩
 have G_is_place:=Zh T
 refine wh ?_ Wh
 walk_at "q"
theorem xC {m:Int}{ts:List Tie}{p:Int}(a:0<=p/\p < m):zI [zM m ts,.int p]=some .non:=by
 show(if (decide (0<=p)&&decide (p<=m - 1))=true then some D.non else none)=_
 rw[q7 a.1,q7 (by omega)]
 rfl
abbrev zaQ :=zO (yY (za (eFn zlc (za (zb 0) (za (zb 1) zc))) (za (eFn zqh (za (zb 0) (za (zb 1) zc))) zc)))
def zaI:=fnD 2 zaQ
def wa:List D->Option D
 | [.int a,.int b]=>some (zp (zkD a b))
 | _=>none
theorem VP:∀ c d,c.length=2->wa c=some d->zaI c=some d:=by
 intro c d e h
 obtain⟨a,b,rfl⟩:=zfj e
 cases a <;> try cases h
 cases b <;> try cases h
 rfl
theorem VX (T:Txt P w K mg base ad):T.Pr 12 1 2 wa:=by
 letI:KK:=⟨K⟩
 refine wh ?_ VP
 walk_at "q"
theorem zgX (a:List Tie):(a.map zp).all (okE 20)=true:=by
 rw[u1A,m7]
 exact λt _=>rfl
theorem zeO (s t:Tie):eqN 20 (zp s) (zp t)=decide (s=t):=by
 have:eqN 20 (zp s) (zp t)=((s.1 == t.1)&&((s.2 == t.2)&&true)&&true):=rfl
 rw[this,u2H,u2H]
 by_cases h:s=t
 .subst h
  simp
 .rw[j5 h,Bool.and_eq_false_iff]
  by_cases a:s.1=t.1
  .exact .inr (p3.mpr λb=>h (u3c a b))
  .exact .inl (p3.mpr a)
theorem zkP (t:Tie)(a:List Tie):inD (zp t) (.tup (a.map zp))=some (.bl (decide (t∈a))):=by
 show(zne (zp t) (a.map zp)).map D.bl=_
 unfold zne
 rw[t6 ⟨rfl,zgX a⟩]
 show some (D.bl ((a.map zp).any λe=>eqN 20 e (zp t)))=_
 rw[List.any_map]
 congr 2
 rw[u09,List.any_eq_true,j6]
 constructor
 .rintro⟨s,b,h⟩
  have h:eqN 20 (zp s) (zp t)=true:=h
  rw[zeO,j6]at h
  subst h
  exact b
 .exact λh=>⟨t,h,by show eqN 20 (zp t) (zp t)=true;rw[zeO];exact q7 rfl⟩
def nbN (m:Int)(a:List Tie)(p:Int):List Nat:=(List.range m.toNat).filter λk:Nat=>decide (zkD p k∈a)
def Wt (k:Nat):D:=.int ((0:Int)+(k:Int))
abbrev XI :=zO (yA (fLC (Zq v0 (za (zi ixD (zb 0) (eC (.int 0))) zc)) b1 (tOf (zi inD (zd 2 wa (za (zb 2) (za (zb 0) zc))) (zi ixD (zb 1) (eC (.int 1))))) (zb 0)))
def zcg:=fnD 2 XI
def zV:List D->Option D
 | [w,.int p]=>if xy w=true then some (.lst ((nbN (zaz w) (zcS w) p).map Wt))else none
 | _=>none
theorem zby:∀ f d,f.length=2->zV f=some d->zcg f=some d:=by
 intro f d i h
 obtain⟨a,b,rfl⟩:=zfj i
 cases b <;> try cases h
 rename_i p
 obtain⟨hw,rfl⟩:=ifS h
 obtain⟨m,g,rfl,ok⟩:=(yX a).mp hw
 rw[xW,wy]
 refine yT rfl ?_
 unfold XI
 refine yt (d:=.lst ((nbN m g p).map Wt)) ?_ rfl
 have e:fLC (Zq v0 (za (zi ixD (zb 0) (eC (.int 0))) zc)) b1 (tOf (zi inD (zd 2 wa (za (zb 2) (za (zb 0) zc))) (zi ixD (zb 1) (eC (.int 1))))) (zb 0) [some (zM m g),some (.int p)]=some ((nbN m g p).map Wt):=by
  unfold fLC
  show((v0 [.int m]).bind λf=>if lim f.length=true then _ else none)=_
  rw[zbr ok]
  show(if lim (Wy 0 m.toNat).length=true then _ else none)=_
  rw[t6 (x9 (by rw[Zj];have:=ok.hi;omega))]
  refine vu (c:=Wt) (p:=λk=>decide (zkD p k∈g)) (y:=Wt) (List.range m.toNat) λk j=>⟨[some (Wt k)],rfl,?_,λ_=>rfl⟩
  show((inD (zp (zkD p (0+(k:Int)))) (.tup (g.map zp))).bind asB)=_
  rw[u1z,zkP]
  rfl
 show(match ((fLC (Zq v0 (za (zi ixD (zb 0) (eC (.int 0))) zc)) b1 (tOf (zi inD (zd 2 wa (za (zb 2) (za (zb 0) zc))) (zi ixD (zb 1) (eC (.int 1))))) (zb 0) [some (zM m g),some (.int p)]).map D.lst)with | some d=>Ctl.rt d | none=>Ctl.no)=_
 rw[e]
 rfl
theorem vH (T:Txt P w K mg base ad):T.Pr 13 2 2 zV:=by
 letI:KK:=⟨K⟩
 have G_tie_between:=VX T
 refine wh ?_ zby
 walk_at "q"
def wl (m:Int)(a:List Tie)(i:Nat):List Tie:=(List.range i).flatMap λk:Nat=>(nbN m a k).map λo:Nat=>((0:Int)+(k:Int),(0:Int)+(o:Int))
def yx (m:Int)(a:List Tie):List Tie:=wl m a m.toNat
theorem XL (m:Int)(a:List Tie)(i:Nat):wl m a (i+1)=wl m a i++(nbN m a i).map λo:Nat=>((0:Int)+(i:Int),(0:Int)+(o:Int)):=by
 unfold wl
 rw[u20,List.flatMap_append]
 simp
theorem Xh {m:Int}{a:List Tie}{p:Int}(h:yh m a):(nbN m a p).length<=8:=by
 refine k8 (List.length_filter_le _ _) ?_
 rw[List.length_range]
 have:=h.hi
 omega
theorem ve {m:Int}{a:List Tie}(h:yh m a)(i:Nat):(wl m a i).length<=8*i:=by
 induction i with
 | zero=>simp[wl]
 | succ i b =>
  rw[XL,j4,u8]
  have:=Xh (p:=(i:Int)) h
  omega
abbrev ZA :=Wn 1 (yA (fLC (iOf (zd 2 zV (za (zb 0) (za (zb 2) zc)))) b1 yw (yY (za (zb 3) (za (zb 0) zc)))))
abbrev W5 :=zC (Ya 1 (zQ zc))
  (zC (wg v0 (za (zi ixD (zb 0) (eC (.int 0))) zc) (yF 2) ZA)
  (sFz 1 (zO (zb 1))))
def zdL:=fnD 3 W5
def yL:List D->Option D
 | [w]=>if xy w=true then some (.lst ((yx (zaz w) (zcS w)).map zp))else none
 | _=>none
theorem zbP:∀ f d,f.length=1->yL f=some d->zdL f=some d:=by
 intro f d j h
 obtain⟨a,rfl⟩:=zoE j
 obtain⟨hw,rfl⟩:=ifS h
 obtain⟨m,b,rfl,ok⟩:=(yX a).mp hw
 rw[xW,wy]
 refine yT rfl ?_
 unfold W5
 refine zl rfl ?_
 refine yb (zgZ (lo:=0) (c:=m.toNat) (λi ρ=>∃ k,ρ=[.v (zM m b),.o ((wl m b i).map zp),k]) (zbr ok) ⟨.no,rfl⟩ ?_ ?_)
 .rintro i ρ n ⟨k,rfl⟩
  refine⟨_,rfl,?_⟩
  unfold ZA
  refine Z9 (ρ':=[.v (zM m b),.o ((wl m b (i+1)).map zp),.v (.int (0+(i:Int)))]) ?_ ⟨_,rfl⟩
  have e:fLC (iOf (zd 2 zV (za (zb 0) (za (zb 2) zc)))) b1 yw (yY (za (zb 3) (za (zb 0) zc))) [some (zM m b),none,some (.int (0+(i:Int)))]=some (((nbN m b i).map λo:Nat=>((0:Int)+(i:Int),(0:Int)+(o:Int))).map zp):=by
   unfold fLC
   have l:zV [zM m b,.int (0+(i:Int))]=some (.lst ((nbN m b i).map Wt)):=by
    simp only[zV]
    rw[t6 hw,xW,wy,u1z]
   show((zV [zM m b,.int (0+(i:Int))]).bind xA).bind _=_
   rw[l]
   show(if lim ((nbN m b i).map Wt).length=true then _ else none)=_
   rw[t6 (x9 (by rw[u8];have:=Xh (p:=(i:Int)) ok;omega)),i1]
   refine Zc Wt _ (nbN m b i) λo _=>⟨[some (Wt o)],rfl,rfl,?_⟩
   rfl
  have j:lim (((wl m b i).map zp).length+(((nbN m b i).map λo:Nat=>((0:Int)+(i:Int),(0:Int)+(o:Int))).map zp).length)=true:=by
   refine x9 ?_
   simp only[u8]
   have:=ve ok i
   have:=Xh (p:=(i:Int)) ok
   have:=ok.hi
   omega
  show(match (((fLC (iOf (zd 2 zV (za (zb 0) (za (zb 2) zc)))) b1 yw (yY (za (zb 3) (za (zb 0) zc))) [some (zM m b),none,some (.int (0+(i:Int)))]).map D.lst).bind λd=>match (some (Sl.o ((wl m b i).map zp))),d with
   | some (.o f),.lst es=>if lim (f.length+es.length)=true then some ([.v (zM m b),.o (f++es),.v (.int (0+(i:Int)))]:SE)else none
   | _,_=>none)with | some g=>Ctl.nx g | none=>Ctl.no)=_
  rw[e]
  show(match (if lim (((wl m b i).map zp).length+(((nbN m b i).map λo:Nat=>((0:Int)+(i:Int),(0:Int)+(o:Int))).map zp).length)=true then some ([.v (zM m b),.o ((wl m b i).map zp++((nbN m b i).map λo:Nat=>((0:Int)+(i:Int),(0:Int)+(o:Int))).map zp),.v (.int (0+(i:Int)))]:SE)else none)with | some g=>Ctl.nx g | none=>Ctl.no)=_
  rw[t6 j,XL,n9]
 .rintro ρ ⟨k,rfl⟩
  exact zjN rfl (yt rfl rfl)
theorem XX (T:Txt P w K mg base ad):T.Pr 24 3 1 yL:=by
 letI:KK:=⟨K⟩
 have G_neighbours:=vH T
 refine wh ?_ zbP
 walk_at "p"
theorem znV {m:Int}{d:D}(h:xc m d=true):∃ a:List Int,d=.tup (a.map .int)/\(a.length:Int)=m/\(∀ n∈a,0<=n)/\a.sum<=300:=by
 cases d with
 | tup g =>
  unfold xc xF at h
  rw[j3,j3,j6,j6]at h
  obtain⟨⟨b,f⟩,c⟩:=h
  obtain⟨a,rfl,e⟩:=Vf f
  rw[vt]at c
  exact⟨a,rfl,by rw[u8]at b;exact b,e,c⟩
 | _=>cases h
theorem Xb {m:Int}{a:List Int}(d:(a.length:Int)=m)(c:∀ n∈a,0<=n)(b:a.sum<=300):xc m (.tup (a.map .int))=true:=by
 unfold xc xF
 rw[j3,j3,j6,j6,vt,u8]
 exact⟨⟨d,zhw c⟩,b⟩
theorem WE (a:List Int):noS (.tup (a.map .int))=true:=by
 show Ww (a.map .int)=true
 induction a with
 | nil=>rfl
 | cons n a b=>show(noS (.int n)&&Ww (a.map .int))=true;rw[b];rfl
def vAt (a:List Int)(i:Int):Int:=a.getD i.toNat 0
theorem wQ {ns:List Int}{i:Int}(c:0<=i)(b:i < ns.length):atI (ns.map D.int) i=some (.int (vAt ns i)):=by
 unfold vAt
 obtain⟨k,a⟩:∃ k:Nat,i=k:=⟨i.toNat,by omega⟩
 subst a
 refine zdp ?_
 rw[o4,j1,q1 (by omega),g9,q1 (by omega)]
 rfl
theorem Xz {m:Int}{d:List Tie}{s:Tie}:s∈yx m d↔(0<=s.1/\s.1 < m)/\(0<=s.2/\s.2 < m)/\zkD s.1 s.2∈d:=by
 unfold yx wl nbN
 rw[u2O]
 constructor
 .rintro⟨k,b,h⟩
  obtain⟨o,a,rfl⟩:=f9.mp h
  rw[p9,l0,j6]at a
  rw[l0]at b
  simp only[u1z]
  exact⟨⟨by(clear h a b;omega),by(clear h a;omega)⟩,⟨by(clear h a b;omega),by omega⟩,a.2⟩
 .rintro⟨⟨e,c⟩,⟨b1,b2⟩,h⟩
  refine⟨s.1.toNat,l0.mpr (by(clear b2 b1 h;omega)),f9.mpr ⟨s.2.toNat,?_,?_⟩⟩
  .rw[p9,l0,j6]
   refine⟨by omega,?_⟩
   rw[show((s.1.toNat:Nat):Int)=s.1 by(clear b2 b1 h c;omega),show((s.2.toNat:Nat):Int)=s.2 by omega]
   exact h
  .exact u3c (by show(0:Int)+(s.1.toNat:Int)=s.1;(clear b2 b1 h c;omega)) (by show(0:Int)+(s.2.toNat:Int)=s.2;omega)
def zq0 (m:Int)(a:List Tie)(b:List Int):List Tie:=(yx m a).filter λs=>decide (2<=vAt b s.1)
abbrev XV :=zC (yu (zd 1 zh (za (zb 0) zc)))
  (zC (yu (zd 2 zD (za (zb 0) (za (zb 1) zc))))
  (zO (yA (fLC (iOf (zd 1 yL (za (zb 0) zc))) b1 (tOf (zi geD (zi ixD (zb 2) (zi ixD (zb 0) (eC (.int 0)))) (eC (.int 2)))) (zb 0)))))
def zcY:=fnD 2 XV
def xU:List D->Option D
 | [w,.tup hs]=>if (xy w&&xc (zaz w) (.tup hs))=true then some (.lst ((zq0 (zaz w) (zcS w) (hs.map zoH)).map zp))else none
 | _=>none
theorem za3:∀ i d,i.length=2->xU i=some d->zcY i=some d:=by
 intro i d o h
 obtain⟨a,b,rfl⟩:=zfj o
 cases b <;> try cases h
 rename_i k
 obtain⟨j,rfl⟩:=ifS h
 rw[j3]at j
 obtain⟨hw,hh⟩:=j
 obtain⟨m,f,rfl,ok⟩:=(yX a).mp hw
 rw[xW]at hh
 rw[xW,wy]
 obtain⟨g,e,l,u,n⟩:=znV hh
 injection e with e
 subst e
 rw[vt]
 have r:zh [zM m f]=some .non:=by simp[zh,hw]
 have w:zD [zM m f,.tup (g.map .int)]=some .non:=by
  show(if (noS (.tup (g.map .int))&&decide (m<=1000)&&xc m (.tup (g.map .int)))=true then some D.non else none)=_
  rw[t6 (by rw[WE,Vq ok,hh];rfl)]
 have t:yL [zM m f]=some (.lst ((yx m f).map zp)):=by
  show(if xy (zM m f)=true then some (D.lst ((yx (zaz (zM m f)) (zcS (zM m f))).map zp))else none)=_
  rw[t6 hw,xW,wy]
 refine yT (ρ:=[.v (zM m f),.v (.tup (g.map .int))]) rfl ?_
 unfold XV
 refine zl (ρ':=[.v (zM m f),.v (.tup (g.map .int))]) (by simp[fnD,zC,zO,vl,sIf,xo,yu,sNo,zB,Wr,Ya,Yw,Wn,Y7,vEv,visF,visG,Sl.f,Sl.g,zb,eC,zi,v9,eOr,W0,eIf,eUn,Y8,yY,yA,zQ,za,zc,zd,eFn,fFn,tOf,xj,Zp,yR,asB,asI,z5,vD,v8,xf,xI,Zs,wz,ltD,leD,gtD,geD,XO,z6,yK,z7,yM,XC,z0,ixD,YR,xS,isT,eSl,xE,xD,yC,xA,iOf,vZ,wg,Zq,v0,ZD,y6,vi,fLC,yw,yS,wc,yF,Z8,xH,Xp,b1,b2,r]) (zl (ρ':=[.v (zM m f),.v (.tup (g.map .int))]) (by simp[fnD,zC,zO,vl,sIf,xo,yu,sNo,zB,Wr,Ya,Yw,Wn,Y7,vEv,visF,visG,Sl.f,Sl.g,zb,eC,zi,v9,eOr,W0,eIf,eUn,Y8,yY,yA,zQ,za,zc,zd,eFn,fFn,tOf,xj,Zp,yR,asB,asI,z5,vD,v8,xf,xI,Zs,wz,ltD,leD,gtD,geD,XO,z6,yK,z7,yM,XC,z0,ixD,YR,xS,isT,eSl,xE,xD,yC,xA,iOf,vZ,wg,Zq,v0,ZD,y6,vi,fLC,yw,yS,wc,yF,Z8,xH,Xp,b1,b2,w]) ?_)
 refine yt (d:=.lst ((zq0 m f g).map zp)) ?_ rfl
 have e:fLC (iOf (zd 1 yL (za (zb 0) zc))) b1 (tOf (zi geD (zi ixD (zb 2) (zi ixD (zb 0) (eC (.int 0)))) (eC (.int 2)))) (zb 0) [some (zM m f),some (.tup (g.map .int))]=some ((zq0 m f g).map zp):=by
  unfold fLC
  show((yL [zM m f]).bind xA).bind _=_
  rw[t]
  show(if lim ((yx m f).map zp).length=true then _ else none)=_
  rw[t6 (x9 (by rw[u8];have:=ve ok m.toNat;unfold yx;have:=ok.hi;omega))]
  refine vu (c:=zp) (p:=λs=>decide (2<=vAt g s.1)) (y:=zp) (yx m f) λs k=>⟨[some (zp s)],rfl,?_,λ_=>rfl⟩
  obtain⟨⟨q,z⟩,_⟩:=Xz.mp k
  have v:=wQ (ns:=g) q (by omega)
  show((((atI (g.map D.int) s.1).bind λx=>geD x (.int 2))).bind asB)=_
  rw[v]
  rfl
 show(match ((fLC (iOf (zd 1 yL (za (zb 0) zc))) b1 (tOf (zi geD (zi ixD (zb 2) (zi ixD (zb 0) (eC (.int 0)))) (eC (.int 2)))) (zb 0) [some (zM m f),some (.tup (g.map .int))]).map D.lst)with | some d=>Ctl.rt d | none=>Ctl.no)=_
 rw[e]
 rfl
theorem Z1 (T:Txt P w K mg base ad):T.Pr 25 8 2 xU:=by
 letI:KK:=⟨K⟩
 have G_must_be_web:=zk T
 have G_must_be_heap:=zJ T
 have G_all_steps:=XX T
 refine wh ?_ za3
 walk_at "p"
end
theorem ziF {m:Nat}{g:SE->Ctl}{ds:List D}{R:D->Prop}{ρ:SE}(e:ds.map .v++List.replicate (m - ds.length) .no=ρ)(q:(g ρ).w (λ_=>R .non) noP noP R):∃ d,fnD m g ds=some d/\R d:=by
 unfold fnD
 rw[e]
 cases a:g ρ with
 | nx b=>rw[a]at q;exact⟨_,rfl,q.nxi⟩
 | rt c=>rw[a]at q;exact⟨_,rfl,q.rti⟩
 | bk _=>rw[a]at q;exact q.bki.elim
 | ct _=>rw[a]at q;exact q.cti.elim
 | no=>rw[a]at q;exact q.noi.elim
section
variable {P:Program}{w:World}{K:W.Frag}{mg:Str->Option Value}{base:Heap}{ad:Adr}
abbrev WI :=zC (xo false 2 (zi xI (zi v8 (zi wS (zi wS (zi xI (zb 0) (eC (.int 2147483647))) (zi v8 (eC (.int 977)) (zb 1))) (eC (.int 1))) (eC (.int 48271))) (eC (.int 2147483647))))
  (zC (xo false 2 (zi xI (zi v8 (zb 2) (zb 2)) (eC (.int 2147483629))))
  (zC (xo false 2 (zi xI (zi v8 (zi wS (zb 2) (zi v8 (eC (.int 40692)) (zi wS (zb 1) (eC (.int 3))))) (eC (.int 69621))) (eC (.int 2147483647))))
  (zO (zi xf (zb 2) (eC (.int 8))))))
def zek:=fnD 3 WI
def zY:List D->Option D
 | [.int c,.int k]=>some (.int (zc6 c k))
 | _=>none
theorem zdg {i j:Int}(b:-(2 ^ 64) < i)(a:i < 2 ^ 64):VG i j=true:=q7 (.inl ⟨b,a⟩)
theorem zju {i j:Int}(b:-(2 ^ 64) < j)(a:j < 2 ^ 64):VG i j=true:=q7 (.inr ⟨b,a⟩)
theorem Vk {i j:Int}(h:VG i j=true):v8 (.int i) (.int j)=some (.int (i*j)):=by
 show(if VG i j=true then _ else none)=_
 rw[t6 h]
theorem x5 {i j:Int}(h:0 < j):xI (.int i) (.int j)=some (.int (i % j)):=by
 show(if decide (0 < j)=true then _ else none)=_
 rw[t6 (q7 h)]
theorem ZC {i j:Int}(h:0 < j)(a:j < 1606938044258990275541962092341162602522202993782792835301376):xf (.int i) (.int j)=some (.int (i / j)):=by
 show(if decide (0 < j/\j < 1606938044258990275541962092341162602522202993782792835301376)=true then _ else none)=_
 rw[t6 (q7 ⟨h,a⟩)]
theorem zbK:∀ e d,e.length=2->zY e=some d->zek e=some d:=by
 intro e d p h
 obtain⟨a,b,rfl⟩:=zfj p
 cases a <;> try cases h
 cases b <;> try cases h
 rename_i c k
 have l:=l4 ((c % 2147483647+977*k+1)*48271) (show(2147483647:Int)≠0 by decide)
 have j:=m5 ((c % 2147483647+977*k+1)*48271) (show(0:Int) < 2147483647 by decide)
 have n:VG 977 k=true:=zdg (by decide) (by decide)
 have q:VG (c % 2147483647+977*k+1) 48271=true:=zju (by decide) (by decide)
 obtain⟨x,g⟩:∃ x,(c % 2147483647+977*k+1)*48271 % 2147483647=x:=⟨_,rfl⟩
 rw[g]at l j
 have r:VG x x=true:=zdg (Int.lt_of_lt_of_le (by decide) l) (Int.lt_trans j (by decide))
 have s:VG 40692 (k+3)=true:=zdg (by decide) (by decide)
 have o:∀ x,VG x 69621=true:=λx=>zju (by decide) (by decide)
 obtain⟨y,i⟩:∃ y,x*x % 2147483629=y:=⟨_,rfl⟩
 obtain⟨z,m⟩:∃ z,(y+40692*(k+3))*69621 % 2147483647=z:=⟨_,rfl⟩
 have f:zc6 c k=z / 8:=by
  show((((c % 2147483647+977*k+1)*48271 % 2147483647)*((c % 2147483647+977*k+1)*48271 % 2147483647) % 2147483629+40692*(k+3))*69621 % 2147483647 / 8)=_
  rw[g,i,m]
 rw[f]
 refine yT (ρ:=[.v (.int c),.v (.int k),.no]) rfl ?_
 unfold WI
 refine zl (ρ':=[.v (.int c),.v (.int k),.v (.int x)]) (yr ?_) ?_
 .show(((((xI (.int c) (.int 2147483647)).bind λa=>(v8 (.int 977) (.int k)).bind λb=>wS a b).bind λa=>wS a (.int 1)).bind λa=>v8 a (.int 48271)).bind λa=>xI a (.int 2147483647))=_
  rw[x5 (by decide),Vk n]
  show((v8 (.int (c % 2147483647+977*k+1)) (.int 48271)).bind λa=>xI a (.int 2147483647))=_
  rw[Vk q,<- g]
  exact x5 (by decide)
 refine zl (ρ':=[.v (.int c),.v (.int k),.v (.int y)]) (yr ?_) ?_
 .show((v8 (.int x) (.int x)).bind λa=>xI a (.int 2147483629))=_
  rw[Vk r,<- i]
  exact x5 (by decide)
 refine zl (ρ':=[.v (.int c),.v (.int k),.v (.int z)]) (yr ?_) ?_
 .show((((v8 (.int 40692) (.int (k+3))).bind λb=>wS (.int y) b).bind λa=>v8 a (.int 69621)).bind λa=>xI a (.int 2147483647))=_
  rw[Vk s]
  show((v8 (.int (y+40692*(k+3))) (.int 69621)).bind λa=>xI a (.int 2147483647))=_
  rw[Vk (o _),<- m]
  exact x5 (by decide)
 exact yt (zG (show xf (.int z) (.int 8)=_ from ZC (by decide) (by decide))) rfl
theorem Yr (T:Txt P w K mg base ad):T.Pr 68 1 2 zY:=by
 letI:KK:=⟨K⟩
 refine wh ?_ zbK
 walk_at "p"
theorem zfG {i j:Int}(d:0<=i)(c:i<=1000)(a:0<=j)(b:j<=60):ZD [.int i,.int j]=some (Wy i (j - i).toNat):=by
 show(if zlz i=true/\zlz j=true then some (Wy i (j - i).toNat)else none)=_
 rw[t6 ⟨xP.mpr ⟨by(clear b a c;omega),by(clear b a;omega)⟩,xP.mpr ⟨by omega,by omega⟩⟩]
theorem zaf {j:Int}(b:0<=j)(a:j<=1000000):v0 [.int j]=some (Wy 0 j.toNat):=by
 show(if zlz j=true then some (Wy 0 j.toNat)else none)=_
 rw[t6 (xP.mpr ⟨by omega,by omega⟩)]
abbrev Zb :=xo false 1 (zi wS (zb 1) (yA (fLC (Zq ZD (za (zi wS (zb 2) (eC (.int 1))) (za (zb 0) zc))) b1 yw (yY (za (zb 3) (za (zb 0) zc))))))
abbrev X5 :=zC (xo false 1 (yA (zQ zc)))
  (zC (wg v0 (za (zb 0) zc) (yF 2) Zb)
  (zO (zb 1)))
def zcX:=fnD 3 X5
def wv:List D->Option D
 | [.int n]=>if decide (0<=n/\n<=8)=true then some (.lst ((wL n.toNat).map zp))else none
 | _=>none
theorem zba:∀ b d,b.length=1->wv b=some d->zcX b=some d:=by
 intro b d p h
 obtain⟨a,rfl⟩:=zoE p
 cases a <;> try cases h
 rename_i n
 obtain⟨f,rfl⟩:=ifS h
 have f:0<=n/\n<=8:=j2 f
 clear h p
 obtain⟨k,g⟩:∃ k:Nat,n.toNat=k:=⟨_,rfl⟩
 have l:k<=8:=by omega
 have t:n=(k:Int):=by omega
 rw[g]
 have q:v0 [.int n]=some (Wy 0 k):=by rw[zaf f.1 (by omega),g]
 clear g
 refine yT (ρ:=[.v (.int n),.no,.no]) rfl ?_
 unfold X5
 have r:xo false 1 (yA (zQ zc)) [.v (.int n),.no,.no]=.nx [.v (.int n),.v (.lst []),.no]:=rfl
 refine zl r (yb (zgZ (lo:=0) (c:=k) (λi ρ=>∃ m,ρ=[.v (.int n),.v (.lst ((wq k i).map zp)),m]) q ⟨.no,rfl⟩ ?_ ?_))
 .rintro i ρ v ⟨m,rfl⟩
  refine⟨_,rfl,?_⟩
  obtain⟨x,o⟩:∃ x:Int,(0:Int)+(i:Int)=x:=⟨_,rfl⟩
  rw[o]
  unfold Zb
  refine Z9 (ρ':=[.v (.int n),.v (.lst ((wq k (i+1)).map zp)),.v (.int x)]) (yr (d:=.lst ((wq k (i+1)).map zp)) ?_) ⟨_,rfl⟩
  have e:fLC (Zq ZD (za (zi wS (zb 2) (eC (.int 1))) (za (zb 0) zc))) b1 yw (yY (za (zb 3) (za (zb 0) zc))) [some (.int n),some (.lst ((wq k i).map zp)),some (.int x)]=some ((zdQ i (k - (i+1))).map zp):=by
   have s:ZD [.int (x+1),.int n]=some (Wy (x+1) (k - (i+1))):=by
    rw[zfG (by omega) (by omega) (by omega) (by omega)]
    have u:(n - (x+1)).toNat=k - (i+1):=by omega
    rw[u]
   unfold fLC
   show(ZD [.int (x+1),.int n]).bind _=_
   rw[s]
   show(if lim (Wy (x+1) (k - (i+1))).length=true then _ else none)=_
   rw[t6 (x9 (by rw[Zj];omega))]
   unfold zdQ
   rw[i1]
   refine Zc (λj:Nat=>D.int (x+1+(j:Int))) _ (List.range (k - (i+1))) λj _=>⟨[some (.int (x+1+(j:Int)))],rfl,rfl,?_⟩
   show some (D.tup [.int x,.int (x+1+(j:Int))])=some (D.tup [.int (i:Int),.int ((i:Int)+1+(j:Int))])
   rw[<-o,u1z]
  show(((fLC (Zq ZD (za (zi wS (zb 2) (eC (.int 1))) (za (zb 0) zc))) b1 yw (yY (za (zb 3) (za (zb 0) zc))) [some (.int n),some (.lst ((wq k i).map zp)),some (.int x)]).map D.lst).bind λy=>wS (.lst ((wq k i).map zp)) y)=_
  rw[e]
  show wS (.lst ((wq k i).map zp)) (.lst ((zdQ i (k - (i+1))).map zp))=_
  rw[zjV (by rw[u8,u8,XJ];have:=zft k l i;omega),X2,n9]
 .rintro ρ ⟨m,rfl⟩
  refine yt rfl ?_
  rw[zi2]
theorem zaM (T:Txt P w K mg base ad):T.Pr 67 1 1 wv:=by
 letI:KK:=⟨K⟩
 refine wh ?_ zba
 walk_at "p"
abbrev wY :=zC (sIf (xj (tOf (zi xg (zi xI (zb 1) (eC (.int 2))) (eC (.int 0)))) (tOf (zi xg (zi xI (zi zoF (zi xf (zb 1) (eC (.int 2))) (zb 3)) (eC (.int 2))) (eC (.int 1))))) (Yw false 2 (zb 4)) zB)
  (sIf (xj (tOf (zi xg (zi xI (zb 1) (eC (.int 2))) (eC (.int 1)))) (tOf (zi ltD (zi xI (zd 2 zY (za (zb 1) (za (zb 3) zc))) (eC (.int 5))) (zi wS (eC (.int 2)) (zi xI (zi xf (zb 1) (eC (.int 2))) (eC (.int 2))))))) (Yw false 2 (zb 4)) zB)
abbrev vQ :=zC (Ya 2 (zQ zc))
  (zC (vZ (y6 (za (zd 1 wv (za (zb 0) zc)) zc)) (Z8 2 (xH (yF 3) (xH (yF 4) Xp))) wY)
  (sFz 2 (zO (yY (za (zb 0) (za (eFn yS (za (zb 2) zc)) zc))))))
def vP:=fnD 5 vQ
theorem znN {a k:Int}(h:0<=k):zoF (.int a) (.int k)=some (.int (a / 2 ^ k.toNat)):=by
 show(if decide (0<=k)=true then some (D.int (a / 2 ^ k.toNat))else none)=_
 rw[t6 (q7 h)]
theorem zqd {ρ:Ev}{c x:Int}(j:ρ[1]?=some (some (.int c)))(l:ρ[3]?=some (some (.int x)))(i:0<=x) :
 (∃ b,xj (tOf (zi xg (zi xI (zb 1) (eC (.int 2))) (eC (.int 0)))) (tOf (zi xg (zi xI (zi zoF (zi xf (zb 1) (eC (.int 2))) (zb 3)) (eC (.int 2))) (eC (.int 1)))) ρ=some (decide (c % 2=0)&&b)) /\
 ∃ b,xj (tOf (zi xg (zi xI (zb 1) (eC (.int 2))) (eC (.int 1)))) (tOf (zi ltD (zi xI (zd 2 zY (za (zb 1) (za (zb 3) zc))) (eC (.int 5))) (zi wS (eC (.int 2)) (zi xI (zi xf (zb 1) (eC (.int 2))) (eC (.int 2)))))) ρ=some (decide (c % 2=1)&&b):=by
 have d:zb 1 ρ=some (.int c):=by unfold zb;rw[j];rfl
 have h:zb 3 ρ=some (.int x):=by unfold zb;rw[l];rfl
 have f:xf (.int c) (.int 2)=some (.int (c / 2)):=ZC (by decide) (by decide)
 have g:∀ k:Int,tOf (zi xg (zi xI (zb 1) (eC (.int 2))) (eC (.int k))) ρ=some (decide (c % 2=k)):=λk=>by
  show(((zb 1 ρ).bind λa=>xI a (.int 2)).bind λy=>xg y (.int k)).bind asB=_
  rw[d,j7,x5 (by decide)]
  rfl
 constructor
 .refine⟨decide (c / 2 / 2 ^ x.toNat % 2=1),?_⟩
  have e:tOf (zi xg (zi xI (zi zoF (zi xf (zb 1) (eC (.int 2))) (zb 3)) (eC (.int 2))) (eC (.int 1))) ρ=some (decide (c / 2 / 2 ^ x.toNat % 2=1)):=by
   show(((((zb 1 ρ).bind λa=>xf a (.int 2)).bind λa=>(zb 3 ρ).bind λb=>zoF a b).bind λa=>xI a (.int 2)).bind λy=>xg y (.int 1)).bind asB=_
   rw[d,h,j7,f,j7,j7,znN i,j7,x5 (by decide)]
   rfl
  unfold xj
  rw[g,j7,e]
  cases decide (c % 2=0) <;> rfl
 .refine⟨decide (zc6 c x % 5 < 2+c / 2 % 2),?_⟩
  have m:zd 2 zY (za (zb 1) (za (zb 3) zc)) ρ=some (.int (zc6 c x)):=by
   unfold zd za
   rw[d,h]
   rfl
  have e:tOf (zi ltD (zi xI (zd 2 zY (za (zb 1) (za (zb 3) zc))) (eC (.int 5))) (zi wS (eC (.int 2)) (zi xI (zi xf (zb 1) (eC (.int 2))) (eC (.int 2))))) ρ=some (decide (zc6 c x % 5 < 2+c / 2 % 2)):=by
   show((((zd 2 zY (za (zb 1) (za (zb 3) zc)) ρ).bind λa=>xI a (.int 5)).bind λa=>((((zb 1 ρ).bind λa=>xf a (.int 2)).bind λa=>xI a (.int 2)).bind λy=>wS (.int 2) y).bind λb=>ltD a b)).bind asB=_
   rw[m,d,j7,j7,x5 (by decide),f,j7,j7,x5 (by decide)]
   rfl
  unfold xj
  rw[g,j7,e]
  cases decide (c % 2=1) <;> rfl
theorem zr1 {n c x:Int}{a:List Tie}{t:Tie}{N B C:SE->Prop}{R:D->Prop}(e:0<=x)(j:(a.map zp).length<=1000)
 (r:N [.v (.int n),.v (.int c),.o (a.map zp),.v (.int x),.v (zp t)]) (b:N [.v (.int n),.v (.int c),.o ((a++[t]).map zp),.v (.int x),.v (zp t)]) :
 (wY [.v (.int n),.v (.int c),.o (a.map zp),.v (.int x),.v (zp t)]).w N B C R:=by
 rw[n9]at b
 unfold wY
 obtain⟨⟨b1,p⟩,b2,s⟩:=zqd (ρ:=visG [.v (.int n),.v (.int c),.o (a.map zp),.v (.int x),.v (zp t)]) (c:=c) (x:=x) rfl rfl e
 obtain⟨_,b3,q⟩:=zqd (ρ:=visG [.v (.int n),.v (.int c),.o (a.map zp++[zp t]),.v (.int x),.v (zp t)]) (c:=c) (x:=x) rfl rfl e
 have g:=zh2 (m:=false) (i:=2) (f:=zb 4) (ρ:=[.v (.int n),.v (.int c),.o (a.map zp),.v (.int x),.v (zp t)]) (ds:=a.map zp) (d:=zp t) rfl rfl j
 refine yb (zbD p (λk=>Z9 g ?_) (λ_=>Z9 rfl (zbD s (λ_=>Z9 g b) (λ_=>Z9 rfl r))))
 refine zbD q (λo=>?_) (λ_=>Z9 rfl b)
 have h:c % 2=0:=j2 (Bool.and_eq_true_iff.mp k).1
 have l:c % 2=1:=j2 (Bool.and_eq_true_iff.mp o).1
 exact absurd (h.symm.trans l) (by decide)
theorem zi5 {n c:Int}(w:1<=n)(u:n<=8):∃ a,vP [.int n,.int c]=some (zM n a)/\a.Sublist (wL n.toNat):=by
 have k:=ziF (m:=5) (g:=vQ) (ds:=[.int n,.int c]) (R:=λd=>∃ a:List Tie,d=zM n a/\a.Sublist (wL n.toNat)) rfl ?_
 .obtain⟨d,e,a,rfl,f⟩:=k
  exact⟨a,e,f⟩
 unfold vQ
 refine zl rfl ?_
 have s:wv [.int n]=some (.lst ((wL n.toNat).map zp)):=by
  show(if decide (0<=n/\n<=8)=true then some (D.lst ((wL n.toNat).map zp))else none)=_
  rw[t6 (q7 ⟨by omega,by omega⟩)]
 have r:=(VE n.toNat (by omega)).2.2
 refine yb (zcM (ds:=VW 0 ((wL n.toNat).map zp)) (λi ρ=>∃ a l j,ρ=[.v (.int n),.v (.int c),.o (a.map zp),l,j]/\a.Sublist ((wL n.toNat).take i)) ?_ ⟨[],.no,.no,rfl,List.nil_sublist _⟩ ?_ ?_)
 .show((wv [.int n]).bind λd=>(some []:Option (List D)).map (d::·)).bind _=_
  rw[s]
  rfl
 .rintro i d ρ q ⟨a,l,j,rfl,f⟩
  rw[Z5]at q
  obtain⟨v,h,rfl⟩:=u9.mp q
  rw[j1]at h
  obtain⟨t,o,rfl⟩:=u9.mp h
  rw[m3]
  have b:(wL n.toNat).take (i+1)=(wL n.toNat).take i++[t]:=by rw[u0S,o];rfl
  have p:a.length<=28:=k8 f.length_le (k8 (List.length_take_le _ _) (by have:=(q0.mp o).1;omega))
  refine⟨_,rfl,zr1 (Int.natCast_nonneg i) (by rw[u8];omega) ⟨a,_,_,rfl,?_⟩ ⟨a++[t],_,_,rfl,?_⟩⟩
  .rw[b];exact f.trans (List.sublist_append_left _ _)
  .rw[b];exact f.append (List.Sublist.refl _)
 .rintro ρ ⟨a,l,j,rfl,f⟩
  exact zjN rfl (yt rfl ⟨a,rfl,f.trans (List.take_sublist _ _)⟩)
theorem VQ (T:Txt P w K mg base ad):T.Pr 69 2 2 vP:=by
 have G__law_pairs:=zaM T
 have G__law_stir:=Yr T
 walk_at "p"
theorem zhh {m:Int}{b:List Tie}{a:Int}{k:Nat}(ok:yh m b):k∈nbN m b a↔adj b a (k:Int):=by
 unfold nbN
 rw[p9,j6,l0]
 unfold zkD adj
 constructor
 .rintro⟨_,h⟩
  by_cases c:(k:Int) < a
  .rw[t6 c,t9 (by omega)]at h;exact .inr h
  .rw[t9 c]at h
   by_cases d:(k:Int) > a
   .rw[t6 d]at h;exact .inl h
   .rw[t9 d]at h
    have:a=(k:Int):=by omega
    rw[<-this]
    exact .inl h
 .rintro(h | h)
  .have:=ok.rng _ h
   simp only at this
   rw[t9 (by omega),t6 (by omega)]
   exact⟨by omega,h⟩
  .have:=ok.rng _ h
   simp only at this
   rw[t6 (by omega),t9 (by omega)]
   exact⟨by omega,h⟩
structure Vr (m:Int) (ts:List Tie) (p:Int) (L:Nat) (fs:List (Option Int)) (rim:List Int):Prop where
 len:fs.length=m.toNat
 sound:∀ v k,0<=v->v < m->oAt fs v=some k->∃ j:Nat,k=(j:Int)/\j<=L/\Far ts p v j
 full:∀ v (j:Nat),j<=L->Far ts p v j->oAt fs v=some (j:Int)
 rim:∀ v,v∈rim↔Far ts p v L
structure VY (m:Int) (ts:List Tie) (p:Int) (L:Nat) (fs:List (Option Int)) (fu:List Int) (S:Int->Prop):Prop where
 len:fs.length=m.toNat
 sound:∀ v k,0<=v->v < m->oAt fs v=some k->(∃ j:Nat,k=(j:Int)/\j<=L/\Far ts p v j)\/v∈fu
 full:∀ v (j:Nat),j<=L->Far ts p v j->oAt fs v=some (j:Int)
 fur:∀ v∈fu,Far ts p v (L+1)/\oAt fs v=some ((L+1:Nat):Int)
 done:∀ v,S v->oAt fs v≠none
theorem Vr.mid {m:Int}{c:List Tie}{p:Int}{L:Nat}{d:List (Option Int)}{b:List Int}(h:Vr m c p L d b){S:Int->Prop}(f:∀ v,¬ S v):VY m c p L d [] S :=
 ⟨h.len,λv k g i e=>.inl (h.sound v k g i e),h.full,λv a=>(by cases a),λv a=>absurd a (f v)⟩
theorem VY.imp {m:Int}{c:List Tie}{p:Int}{L:Nat}{a:List (Option Int)}{b:List Int}{S S':Int->Prop}(h:VY m c p L a b S)(d:∀ v,S' v->S v\/oAt a v≠none):VY m c p L a b S' :=
 ⟨h.len,h.sound,h.full,h.fur,λv e=>(d v e).elim (h.done v) id⟩
theorem VY.add {m:Int}{o:List Tie}{p:Int}{L:Nat}{l:List (Option Int)}{A:List Int}{S:Int->Prop}{a b:Int}(ok:yh m o)(h:VY m o p L l A S)(D:Far o p a L)(q:adj o a b)(n:oAt l b=none){x:Int}(C:x=((L+1:Nat):Int)) :
 VY m o p L (l.set b.toNat (some x)) (A++[b]) (λv=>S v\/v=b):=by
 subst C
 obtain⟨_,s,b1⟩:=q.rng ok
 have w:=h.len
 have F:=ze7 s b1 w
 have I:Far o p b (L+1):=⟨.step D.1 q,λi r=>by
  obtain⟨j,t⟩:=zlK r
  by_cases c:j<=L
  .rw[h.full b j c t]at n;cases n
  .have:=t.2 _ r;omega⟩
 have f:∀ v,0<=v->oAt (l.set b.toNat (some ((L+1:Nat):Int))) v=if v=b then some ((L+1:Nat):Int)else oAt l v:=λv g=>zdZ s F g
 have H:∀ v,oAt l v≠none->oAt (l.set b.toNat (some ((L+1:Nat):Int))) v≠none:=λv d=>by
  by_cases g:0<=v
  .rw[f v g]
   split
   .intro z;cases z
   .exact d
  .unfold oAt at d ⊢
   rw[m8]
   split
   .split
    .intro z;cases z
    .rename_i K J
     omega
   .exact d
 refine⟨by rw[u1c];exact w,λv k g E e=>?_,λv j t d=>?_,λv d=>?_,λv d=>?_⟩
 .rw[f v g]at e
  by_cases c:v=b
  .exact .inr (by rw[c];simp)
  .rw[t9 c]at e
   exact(h.sound v k g E e).imp id λz=>n7.mpr (.inl z)
 .have e:=h.full v j t d
  have:v≠b:=λz=>by rw[z,n]at e;cases e
  by_cases g:0<=v
  .rw[f v g,t9 this];exact e
  .unfold oAt at e ⊢
   rw[m8]
   split
   .rename_i c
    have B:v.toNat=0:=by omega
    rw[B]at c e
    unfold oAt at n
    rw[c]at n
    rw[n]at e
    cases e
   .exact e
 .rcases n7.mp d with d | d
  .obtain⟨y,G⟩:=h.fur v d
   refine⟨y,?_⟩
   have g:0<=v:=by
    obtain⟨M,_,u⟩:=y.1.inv
    exact(u.rng ok).2.1
   rw[f v g]
   split
   .rfl
   .exact G
  .cases t7.mp d
   exact⟨I,by rw[f _ s,t6 rfl]⟩
 .rcases d with d | rfl
  .exact H v (h.done v d)
  .rw[f _ s,t6 rfl]
   intro z;cases z
theorem VY.end {m:Int}{f:List Tie}{p:Int}{L:Nat}{q:List (Option Int)}{s:List Int}{S:Int->Prop}(ok:yh m f)(h:VY m f p L q s S)(z:∀ a b,Far f p a L->adj f a b->S b):Vr m f p (L+1) q s:=by
 have l:∀ v,Far f p v (L+1)->v∈s:=λv d=>by
  obtain⟨a,C,g⟩:=d.1.inv
  have o:Far f p a L:=⟨C,λi r=>by have:=d.2 _ (.step r g);omega⟩
  have w:=(g.rng ok).2
  have u:=h.done v (z a v o g)
  cases e:oAt q v with
  | none=>exact absurd e u
  | some k =>
   rcases h.sound v k w.1 w.2 e with ⟨j,_,y,n⟩ | t
   .have:=n.uniq d;omega
   .exact t
 refine⟨h.len,λv k A B e=>?_,λv j y d=>?_,λv=>⟨λd=>(h.fur v d).1,l v⟩⟩
 .rcases h.sound v k A B e with ⟨j,D,y,n⟩ | t
  .exact⟨j,D,by omega,n⟩
  .obtain⟨n,x⟩:=h.fur v t
   rw[e]at x
   cases x
   exact⟨L+1,rfl,t4 _,n⟩
 .by_cases c:j<=L
  .exact h.full v j c d
  .obtain rfl:j=L+1:=by omega
   exact(h.fur v (l v d)).2
theorem zgb {e:List Tie}{p:Int}(L:Nat):∀ (k:Nat) (v:Int),Far e p v k->L<=k->∃ u,Far e p u L:=by
 intro k
 induction k with
 | zero=>intro v b f;exact⟨v,by rwa[show L=0 by omega]⟩
 | succ k g =>
  intro v b f
  by_cases c:L=k+1
  .exact⟨v,by rwa[c]⟩
  .obtain⟨a,h,d⟩:=b.1.inv
   exact g a ⟨h,λi r=>by have:=b.2 _ (.step r d);omega⟩ (by omega)
theorem Vr.end {m:Int}{b:List Tie}{p:Int}{L:Nat}{d:List (Option Int)}(h:Vr m b p L d []):d=zjO m b p:=by
 refine zmJ (by rw[h.len,VB]) λv g o=>?_
 have f:v < m:=by have:=h.len;omega
 rw[zly g f]
 rcases zfY b p v with ⟨k,e,a⟩ | ⟨e,a⟩
 .rw[e]
  by_cases c:k<=L
  .exact h.full v k c a
  .obtain⟨u,i⟩:=zgb L k v a (by omega)
   have:=(h.rim u).mpr i
   cases this
 .rw[e]
  cases n:oAt d v with
  | none=>rfl
  | some k =>
   obtain⟨j,_,_,l⟩:=h.sound v k g f n
   exact absurd l.1 (a j)
theorem Vr.start {m:Int}{b:List Tie}{p:Int}(a:0<=p/\p < m):Vr m b p 0 ((List.replicate m.toNat none).set p.toNat (some 0)) [p]:=by
 have d:p < ((List.replicate m.toNat (none:Option Int)).length:Int):=by rw[i8];omega
 have i:∀ v,oAt (List.replicate m.toNat (none:Option Int)) v=none:=λv=>by
  unfold oAt
  rw[l5]
  split <;> rfl
 have g:∀ v,Far b p v 0->v=p:=λv h=>by
  have:=h.1
  cases this
  rfl
 have f:Far b p p 0:=⟨.zero,λ_ _=>o5 _⟩
 refine⟨by simp,λv k n o e=>?_,λv j q l=>?_,λv=>⟨λh=>?_,λh=>?_⟩⟩
 .rw[zdZ a.1 d n,i]at e
  by_cases c:v=p
  .rw[t6 c]at e;cases e
   exact⟨0,rfl,t4 _,by rw[c];exact f⟩
  .rw[t9 c]at e;cases e
 .obtain rfl:j=0:=by omega
  cases g v l
  rw[zdZ a.1 d a.1,t6 rfl]
  rfl
 .cases t7.mp h
  exact f
 .rw[g v h]
  exact t7.mpr rfl
def zbE (a:List (Option Int)):Nat:=a.countP Option.isNone
theorem zeX:∀ {fs:List (Option Int)} {k:Nat} {x:Int},k < fs.length->fs[k]?=some none->zbE (fs.set k (some x))+1=zbE fs
 | [],k,x,h,_=>by simp at h
 | f::fs,0,x,_,h=>by
  have h:some f=some none:=h
  cases h
  simp[zbE]
 | f::fs,k+1,x,h,h2=>by
  have a:=zeX (fs:=fs) (k:=k) (x:=x) (by simpa using h) (by simpa using h2)
  unfold zbE at a ⊢
  rw[List.set_cons_succ,List.countP_cons,List.countP_cons]
  omega
def zrb:D->Bool
 | .non=>true
 | _=>false
theorem zj9 (a:List (Option Int)):(a.map vz).countP zrb=zbE a:=by
 unfold zbE
 rw[List.countP_map]
 congr 1
 funext o
 cases o <;> rfl
abbrev vC :=sIf (tOf (zi XC (zi ixD (zb 2) (zb 6)) (eC .non))) (zC (Y7 true 2 (zb 6) (zi wS (zi ixD (zb 2) (zb 5)) (eC (.int 1))))
  (Yw false 4 (zb 6))) zB
abbrev vF :=vZ (iOf (zd 2 zV (za (zb 0) (za (zb 5) zc)))) (yF 6) vC
abbrev vA :=zC (Ya 4 (zQ zc))
  (zC (vZ (iOf (zb 3)) (yF 5) vF)
  (sFz 4 (xo false 3 (zb 4))))
abbrev Vt :=zC (Ya 2 (zrW zlA (yA (zQ (za (eC .non) zc))) (zi ixD (zb 0) (eC (.int 0)))))
  (zC (Y7 false 2 (zb 1) (eC (.int 0)))
  (zC (xo false 3 (yA (zQ (za (zb 1) zc))))
  (zC (w4 (tOf (zi gtD (eFn YR (za (zb 3) zc)) (eC (.int 0)))) vA 1000)
  (sFz 2 (zO (zb 2))))))
def Zl:=fnD 7 Vt
def muA:SE->Nat
 | [_,_,.o ds,.v (.lst rs),_,_,_]=>2*ds.countP zrb+(if rs.isEmpty=true then 0 else 1)
 | _=>0
theorem ziX (a b e g f:Sl)(c:List (Option Int))(d:List D):muA [a,b,.o (c.map vz),.v (.lst d),e,g,f]=2*zbE c+(if d.isEmpty=true then 0 else 1):=by
 show 2*(c.map vz).countP zrb+_=_
 rw[zj9]
theorem zry {W i:D}{p a x L:Int}{b:List (Option Int)}{e:List Int}{N B C:SE->Prop}{R:D->Prop}(g:0<=x)(j:x < ((b.map vz).length:Int))(ex:L2.atI (b.map vz) x=some (vz (oAt b x)))(l:L2.atI (b.map vz) a=some (.int L))(h:(e.map D.int).length<=1000)
 (m:oAt b x=none->N [.v W,.v (.int p),.o ((b.set x.toNat (some (L+1))).map vz),.v i,.o ((e++[x]).map .int),.v (.int a),.v (.int x)])
 (k:oAt b x≠none->N [.v W,.v (.int p),.o (b.map vz),.v i,.o (e.map .int),.v (.int a),.v (.int x)]) :
 (vC [.v W,.v (.int p),.o (b.map vz),.v i,.o (e.map .int),.v (.int a),.v (.int x)]).w N B C R:=by
 unfold vC
 cases f:oAt b x with
 | none =>
  rw[f]at ex
  refine zbD (c:=true) (by show(((L2.atI (b.map vz) x).bind λd=>XC d .non).bind asB)=_;rw[ex];rfl) (λ_=>?_) (λz=>by cases z)
  refine yb (zlb (b.map vz) (.int (L+1)) x ?_ rfl rfl g j ?_)
  .show((((L2.atI (b.map vz) a).bind λx=>wS x (.int 1))).bind λd=>if noL d=true then some d else none)=_
   rw[l]
   rfl
  have q:=m f
  rw[n9,u2Z]at q
  exact Z9 (zh2 (ds:=e.map .int) (d:=.int x) rfl rfl h) q
 | some n =>
  rw[f]at ex
  refine zbD (c:=false) (by show(((L2.atI (b.map vz) x).bind λd=>XC d .non).bind asB)=_;rw[ex];rfl) (λz=>by cases z) (λ_=>Z9 rfl (k λz=>?_))
  rw[f]at z
  cases z
structure V2 (m:Int) (ts:List Tie) (p:Int) (L c:Nat) (S:Int->Prop) (gs:List (Option Int)) (fu:List Int):Prop where
 mid:VY m ts p L gs fu S
 cnt:fu.length+zbE gs=c
theorem V2.imp {m:Int}{d:List Tie}{p:Int}{L c:Nat}{S S':Int->Prop}{a:List (Option Int)}{b:List Int}(h:V2 m d p L c S a b)(k:∀ v,S' v->S v\/oAt a v≠none):V2 m d p L c S' a b:=⟨h.mid.imp k,h.cnt⟩
theorem V2.put {m:Int}{d:List Tie}{p a x:Int}{L c:Nat}{S S':Int->Prop}{b:List (Option Int)}{g:List Int}(ok:yh m d)(h:V2 m d p L c S b g)(n:Far d p a L)(j:adj d a x)(o:0<=x/\x < m)(f:oAt b x=none)(k:∀ v,S' v->S v\/v=x):V2 m d p L c S' (b.set x.toNat (some ((L:Int)+1))) (g++[x]):=by
 have q:=h.mid.len
 have e:x.toNat < b.length:=by omega
 have l:b[x.toNat]?=some none:=by
  unfold oAt at f
  rw[q1 e]at f ⊢
  exact i6 some f
 have:=zeX (fs:=b) (k:=x.toNat) (x:=(L:Int)+1) e l
 refine⟨(h.mid.add ok n j f rfl).imp λv i=>.inl ((k v i).imp id id),?_⟩
 rw[j4,List.length_singleton,<- h.cnt]
 omega
theorem zrq {m:Int}{f:List Tie}{p a:Int}{H:D}{L c i:Nat}{n:List Int}{g:List (Option Int)}{l:List Int}{x:Sl}{N B C:SE->Prop}{R:D->Prop}(ok:yh m f)(P:0<=p/\p < m)(S:c<=1000)(y:Far f p a L)(K:n[i]?=some a)
 (h:V2 m f p L c (λv=>∃ a∈n.take i,adj f a v) g l)
 (q:∀ g l x,V2 m f p L c (λv=>∃ a∈n.take (i+1),adj f a v) g l->N [.v (zM m f),.v (.int p),.o (g.map vz),.v H,.o (l.map .int),.v (.int a),x]) :
 (vF [.v (zM m f),.v (.int p),.o (g.map vz),.v H,.o (l.map .int),.v (.int a),x]).w N B C R:=by
 have u:=y.1.rng ok P
 unfold vF
 refine zcM (ds:=(nbN m f a).map Wt) (λj ρ=>∃ (g:List (Option Int)) (l:List Int) (x:Sl),ρ=[.v (zM m f),.v (.int p),.o (g.map vz),.v H,.o (l.map .int),.v (.int a),x]/\V2 m f p L c (λv=>(∃ a∈n.take i,adj f a v)\/∃ k∈(nbN m f a).take j,v=(k:Int)) g l) ?_ ⟨g,l,_,rfl,h.imp (λv s=>.inl (s.elim id λz=>by obtain⟨k,G,_⟩:=z;cases G))⟩ ?_ ?_
 .have Q:zV [zM m f,.int a]=some (.lst ((nbN m f a).map Wt)):=by
   show(if xy (zM m f)=true then some (D.lst ((nbN (zaz (zM m f)) (zcS (zM m f)) a).map Wt))else none)=_
   rw[t6 ((yX _).mpr ⟨_,_,rfl,ok⟩),xW,wy]
  show(zV [zM m f,.int a]).bind xA=_
  rw[Q]
  rfl
 .rintro j d ρ M ⟨g,l,x,rfl,w⟩
  rw[j1]at M
  obtain⟨k,G,rfl⟩:=u9.mp M
  have t:adj f a (k:Int):=(zhh ok).mp (k6 G)
  have r:(nbN m f a).take (j+1)=(nbN m f a).take j++[k]:=by rw[u0S,G];rfl
  have o:=(t.rng ok).2
  have J:=w.mid.len
  have O:=zmA (fs:=g) (i:=a) u.1 u.2 J
  rw[w.mid.full a L (t4 _) y]at O
  have step:∀ v,((∃ a∈n.take i,adj f a v)\/∃ k∈(nbN m f a).take (j+1),v=(k:Int))->((∃ a∈n.take i,adj f a v)\/∃ k∈(nbN m f a).take j,v=(k:Int))\/v=(k:Int):=λv s=>by
   rcases s with s | ⟨q,F,e⟩
   .exact .inl (.inl s)
   .rw[r]at F
    rcases n7.mp F with F | F
    .exact .inl (.inr ⟨q,F,e⟩)
    .cases t7.mp F
     exact .inr e
  refine⟨[.v (zM m f),.v (.int p),.o (g.map vz),.v H,.o (l.map .int),.v (.int a),.v (.int (k:Int))],by unfold Wt;rw[u1z];rfl,?_⟩
  refine zry o.1 (ziz o.1 o.2 J) (zmA o.1 o.2 J) O (by rw[u8];have:=w.cnt;omega) (λI=>?_) (λI=>?_)
  .exact⟨_,_,_,rfl,w.put ok y t o I step⟩
  .exact⟨g,l,_,rfl,w.imp λv s=>(step v s).imp id λe=>by rw[e];exact I⟩
 .rintro ρ ⟨g,l,x,rfl,w⟩
  rw[u8,u0z]at w
  refine q g l x (w.imp λv s=>.inl ?_)
  obtain⟨b,E,A⟩:=s
  rw[u0S,K]at E
  rcases n7.mp E with E | E
  .exact .inl ⟨b,E,A⟩
  .cases t7.mp E
   obtain⟨k,rfl⟩:=u1b (A.rng ok).2.1
   exact .inr ⟨k,(zhh ok).mpr A,rfl⟩
theorem zr0 {m:Int}{g:List Tie}{p:Int}{L:Nat}{c:List Int}{l:List (Option Int)}{s k j:Sl}{N B C:SE->Prop}{R:D->Prop}(ok:yh m g)(x:0<=p/\p < m)(r:Vr m g p L l c)
 (q:∀ f e s k j,Vr m g p (L+1) f e->e.length+zbE f=zbE l->N [.v (zM m g),.v (.int p),.o (f.map vz),.v (.lst (e.map .int)),s,k,j]) :
 (vA [.v (zM m g),.v (.int p),.o (l.map vz),.v (.lst (c.map .int)),s,k,j]).w N B C R:=by
 have w:zbE l<=1000:=k8 List.countP_le_length (by rw[r.len];have:=ok.hi;omega)
 unfold vA
 refine zl (ρ':=[.v (zM m g),.v (.int p),.o (l.map vz),.v (.lst (c.map .int)),.o (([]:List Int).map .int),k,j]) rfl ?_
 refine yb (zcM (ds:=c.map .int) (λi ρ=>∃ (f:List (Option Int)) (e:List Int) (k j:Sl),ρ=[.v (zM m g),.v (.int p),.o (f.map vz),.v (.lst (c.map .int)),.o (e.map .int),k,j]/\V2 m g p L (zbE l) (λv=>∃ a∈c.take i,adj g a v) f e) rfl ⟨l,[],_,_,rfl,r.mid (λv z=>by obtain⟨a,n,_⟩:=z;cases n),m3 _⟩ ?_ ?_)
 .rintro i d ρ u ⟨f,e,k,j,rfl,o⟩
  rw[j1]at u
  obtain⟨a,n,rfl⟩:=u9.mp u
  exact⟨[.v (zM m g),.v (.int p),.o (f.map vz),.v (.lst (c.map .int)),.o (e.map .int),.v (.int a),j],rfl,zrq ok x w ((r.rim a).mp (k6 n)) n o λf e j h=>⟨f,e,_,_,rfl,h⟩⟩
 .rintro ρ ⟨f,e,k,j,rfl,o⟩
  rw[u8,u0z]at o
  refine zjN (ρ':=[.v (zM m g),.v (.int p),.o (f.map vz),.v (.lst (c.map .int)),.v (.lst (e.map .int)),k,j]) rfl ?_
  exact Z9 (ρ':=[.v (zM m g),.v (.int p),.o (f.map vz),.v (.lst (e.map .int)),.v (.lst (e.map .int)),k,j]) rfl (q f e _ _ _ (o.mid.end ok λa b n t=>⟨a,(r.rim a).mpr n,t⟩) o.cnt)
theorem zbU {m:Int}{ts:List Tie}{p:Int}(ok:yh m ts)(n:0<=p/\p < m):Zl [zM m ts,.int p]=some (.lst ((zjO m ts p).map vz)):=by
 have k:=ok.lo
 have l:=ok.hi
 refine yT (ρ:=[.v (zM m ts),.v (.int p),.no,.no,.no,.no,.no]) rfl ?_
 unfold Vt
 refine zl (ρ':=[.v (zM m ts),.v (.int p),.o ((List.replicate m.toNat none).map vz),.no,.no,.no,.no]) ?_ ?_
 .have e:=zr3 (d:=.non) k l
  refine znP (ds:=(List.replicate m.toNat none).map vz) ?_
  rw[List.map_replicate]
  exact e
 refine yb (zlb _ (.int 0) p rfl rfl rfl n.1 (by rw[u8,i8];omega) ?_)
 rw[show((List.replicate m.toNat (none:Option Int)).map vz).set p.toNat (.int 0)=((List.replicate m.toNat none).set p.toNat (some 0)).map vz by rw[u2Z];rfl]
 refine zl (ρ':=[.v (zM m ts),.v (.int p),.o (((List.replicate m.toNat none).set p.toNat (some 0)).map vz),.v (.lst ([p].map .int)),.no,.no,.no]) rfl ?_
 refine yb (W2 (fun ρ=>∃ (L:Nat) (o:List (Option Int)) (a:List Int) (c g i:Sl),ρ=[.v (zM m ts),.v (.int p),.o (o.map vz),.v (.lst (a.map .int)),c,g,i]/\Vr m ts p L o a) muA ?_ 1000 _ ⟨0,_,[p],_,_,_,rfl,Vr.start n⟩ ?_)
 .rintro ρ ⟨L,o,a,c,g,i,rfl,q⟩
  refine⟨decide ((0:Int) < ((a.map D.int).length:Int)),rfl,λz=>?_,λz=>?_⟩
  .refine zr0 ok n q λb j c g i h r=>⟨⟨L+1,b,j,_,_,_,rfl,h⟩,?_⟩
   rw[ziX,ziX,<- r]
   cases a with
   | nil=>cases z
   | cons _ _ =>
    cases j with
    | nil=>show 2*zbE b+0 < 2*(0+zbE b)+1;omega
    | cons f j=>show 2*zbE b+1 < 2*((j.length+1)+zbE b)+1;omega
  .cases a with
   | cons _ _ =>
    have:=u2g z
    rw[r4,g0]at this
    omega
   | nil =>
    rw[q.end]
    exact zjN (ρ':=[.v (zM m ts),.v (.int p),.v (.lst ((zjO m ts p).map vz)),.v (.lst []),c,g,i]) rfl (yt rfl rfl)
 .rw[ziX]
  have:zbE ((List.replicate m.toNat (none:Option Int)).set p.toNat (some 0))<=_:=List.countP_le_length
  rw[u1c,i8]at this
  show 2*zbE _+1 < 1000
  omega
theorem zbW (T:Txt P w K mg base ad):T.Pr 14 3 2 Zl:=by
 have G_neighbours:=vH T
 walk_at "p"
theorem zhg {α:Type}(a:List α):WB a (some 1) none=a.drop 1:=by
 unfold WB
 rw[HT.sIx_none]
 have:HT.sIx a.length 0 (some 1)=min 1 a.length:=HT.sIx_nat a.length 0 1
 rw[this]
 cases a with
 | nil=>simp
 | cons x a=>simp
theorem X6 {α:Type}(a:List α):WB a none (some (-1))=a.take (a.length - 1):=by
 unfold WB
 rw[HT.sIx_none]
 have:HT.sIx a.length a.length (some (-1))=a.length - 1:=by
  show(if (-1:Int) < 0 then ((-1:Int)+(a.length:Int)).toNat else min (-1:Int).toNat a.length)=_
  rw[t6 (by decide)]
  omega
 rw[this]
 simp
theorem zpO {α:Type}(a:List α)(k:Nat):WB a none (some (k:Int))=a.take k:=by
 unfold WB
 rw[HT.sIx_none,HT.sIx_nat]
 by_cases h:k<=a.length
 .rw[u0G h];simp
 .rw[Nat.min_eq_right (by omega)]
  simp
  rw[u1n (by omega)]
theorem XG {m:Int}{a:List D}(h:(a.length:Int)≠m):xc m (.tup a)=false:=by
 show(decide ((a.length:Int)=m)&&_&&_)=false
 rw[j5 h]
 rfl
theorem XQ {m:Int}{a:List D}{d:D}(h:d∈a)(b:xx d=false):xc m (.tup a)=false:=by
 have:a.all xx=false:=by
  rw[u1r]
  intro z
  rw[m7.mp z d h]at b
  cases b
 show(decide ((a.length:Int)=m)&&a.all xx&&_)=false
 rw[this,m9]
 rfl
theorem zfQ {ns:List Int}(h:∀ n∈ns,0<=n):0<=ns.sum:=by
 induction ns with
 | nil=>simp
 | cons n ns a =>
  rw[u1P]
  have:=h n (by simp)
  have:=a λx b=>h x (by simp[b])
  omega
theorem xw:∀ {a b:List D},Ww a=true->Ww b=true->Ww (a++b)=true
 | [],b,_,h=>h
 | d::a,b,h1,h2=>by
  unfold Ww at h1
  rw[j3]at h1
  show(noS d&&Ww (a++b))=true
  rw[h1.1,xw h1.2 h2]
  rfl
abbrev YX :=zC (xo false 2 (yA (zQ (za (yA (fFn wc (za (zb 0) zc))) (za (eSl slD (zb 0) (xD (eC (.int 1))) xE) (za (zi wS (zb 0) (yY (za (eC (.int 0)) zc))) (za (zi wS (eSl slD (zb 0) xE (xD (eUn Y8 (eC (.int 1))))) (yY (za (eUn Y8 (eC (.int 1))) zc))) (za (zi wS (eSl slD (zb 0) xE (xD (eUn Y8 (eC (.int 1))))) (yY (za (eC (.bl true)) zc))) (za (eC .non) (za (eC (.str "0")) (za (zi wS (eSl slD (zb 0) xE (xD (eUn Y8 (eC (.int 1))))) (yY (za (eC (.int 301)) zc))) zc)))))))))))
  (zO (zi ixD (zb 2) (zi xI (zb 1) (eC (.int 8)))))
def wt:=fnD 3 YX
theorem zfu {m:Int}{a:List Int}{t:Int}(E:(a.length:Int)=m)(G:1<=m)(B:m<=8)(i:∀ n∈a,0<=n):∃ d,wt [.tup (a.map .int),.int t]=some d/\noS d=true/\xc m d=false:=by
 have j:a.length<=8:=by omega
 have f:∀ k:List Int,Ww (k.map D.int)=true:=λk=>WE k
 have z:∀ (x:D),lim ((WB (a.map D.int) none (some (-1))).length+[x].length)=true:=λx=>x9 (by rw[X6,u0m,u8];simp;omega)
 have w:lim ((a.map D.int).length+[D.int 0].length)=true:=x9 (by rw[u8];simp;omega)
 have v:lim (((a.map D.int).take (a.length - 1)).length+1)=true:=x9 (by rw[u0m,u8];omega)
 have h:lim ((a.map D.int).length+1)=true:=w
 have u:WB (a.map D.int) none (some (-1))=(a.map D.int).take (a.length - 1):=by rw[X6,u8]
 have b:∀ d,atI [.lst (a.map .int),.tup ((a.map D.int).drop 1),.tup (a.map D.int++[.int 0]),.tup ((a.map D.int).take (a.length - 1)++[.int (-1)]),.tup ((a.map D.int).take (a.length - 1)++[.bl true]),.non,.str "0",.tup ((a.map D.int).take (a.length - 1)++[.int 301])] (t % 8)=some d->wt [.tup (a.map .int),.int t]=some d:=λd l=>by
  refine yT (ρ:=[.v (.tup (a.map .int)),.v (.int t),.no]) rfl ?_
  unfold YX
  generalize a.map D.int=A at *
  refine zl (ρ':=[.v (.tup A),.v (.int t),.v (.lst [.lst A,.tup (A.drop 1),.tup (A++[.int 0]),.tup (A.take (a.length - 1)++[.int (-1)]),.tup (A.take (a.length - 1)++[.bl true]),.non,.str "0",.tup (A.take (a.length - 1)++[.int 301])])]) ?_ (yt (d:=d) ?_ rfl)
  .have p:∀ x:D,wS (.tup (A.take (a.length - 1))) (.tup [x])=some (.tup (A.take (a.length - 1)++[x])):=λx=>by
    show(if lim ((A.take (a.length - 1)).length+1)=true then _ else none)=_
    rw[t6 v]
   have r:wS (.tup A) (.tup [.int 0])=some (.tup (A++[.int 0])):=by
    show(if lim (A.length+1)=true then _ else none)=_
    rw[t6 h]
   have s:slD (.tup A) (some 1) none=some (.tup (A.drop 1)):=by show some (D.tup (WB A (some 1) none))=_;rw[zhg]
   have q:slD (.tup A) none (some (-1))=some (.tup (A.take (a.length - 1))):=by show some (D.tup (WB A none (some (-1))))=_;rw[u]
   simp[xo,vEv,visF,Sl.f,yA,zQ,za,zc,zi,eSl,xE,xD,zb,eC,eUn,Y8,asI,yY,fFn,wc,x9,p,r,s,q]
  .simp only[List.drop_one]at l
   simp[zO,visG,Sl.g,zi,zb,eC,xI,Zs,ixD,l]
 have C:0<=t % 8:=l4 _ (by decide)
 have F:t % 8 < 8:=m5 _ (by decide)
 have g:(a.map D.int).take (a.length - 1)=(a.take (a.length - 1)).map D.int:=by rw[List.map_take]
 have e:t % 8=0\/t % 8=1\/t % 8=2\/t % 8=3\/t % 8=4\/t % 8=5\/t % 8=6\/t % 8=7:=by omega
 rcases e with c | c | c | c | c | c | c | c
 .exact⟨.lst (a.map .int),b _ (by rw[c];rfl),f a,rfl⟩
 .refine⟨.tup ((a.map D.int).drop 1),b _ (by rw[c];rfl),?_,XG ?_⟩
  .rw[<-List.map_drop];exact f _
  .rw[u0V,u8];omega
 .refine⟨.tup (a.map D.int++[.int 0]),b _ (by rw[c];rfl),xw (f a) rfl,XG ?_⟩
  rw[j4,u8];simp;omega
 .exact⟨_,b _ (by rw[c];rfl),by rw[g];exact xw (f _) rfl,XQ (d:=.int (-1)) (by simp) rfl⟩
 .exact⟨_,b _ (by rw[c];rfl),by rw[g];exact xw (f _) rfl,XQ (d:=.bl true) (by simp) rfl⟩
 .exact⟨_,b _ (by rw[c];rfl),rfl,rfl⟩
 .exact⟨_,b _ (by rw[c];rfl),rfl,rfl⟩
 .refine⟨_,b _ (by rw[c];rfl),by rw[g];exact xw (f _) rfl,?_⟩
  rw[g]
  have y:(a.take (a.length - 1)).map D.int++[D.int 301]=(a.take (a.length - 1)++[301]).map D.int:=by simp
  rw[y]
  show(_&&decide ((((a.take (a.length - 1)++[301]).map D.int).map zoH).sum<=300))=false
  rw[vt,u1Z]
  have:=zfQ (ns:=a.take (a.length - 1)) λn o=>i n (List.mem_of_mem_take o)
  rw[j5 (by simp;omega),m9]
theorem Vj (T:Txt P w K mg base ad):T.Pr 72 1 2 wt:=by
 walk_at "p"
theorem zhs (T:Txt P w K mg base ad):Yb P w K mg base CX0 1 ad.i_NoWeb ad.j_NoWeb ["self","at"] (spI K 1 ["at"] (gI1 "at")):=by
 refine T.fi_NoWeb.ok zhE (λb H Q E h=>znk b H Q E h) λc A outer s H b Q E d a=>?_
 exact⟨_,(Zf (zrY (pv 0) (pv 1) rfl)),(zmO a)⟩
abbrev yP :=xIf (yR (tOf (zd 1 vR (za (zb 0) zc)))) (xRI (zra 0 1) (za (eUn Y8 (eC (.int 1))) zc)) xNo
def zv:=fnX 1 yP
theorem zx (T:Txt P w K mg base ad):T.Px 10 7 1 zv:=by
 letI:KK:=⟨K⟩
 have G_is_web:=zcU T
 refine Y0 (cl:=clT ad) (N:=(Rw 10).N) (ps:=(Rw 10).ps) (T.d 10).fn (sc 10) (gx:=yP) λb A outer s H E a=>?_
 unfold yP
 exact(yI (zdr (zeZ (V4 (yg G_is_web a rfl (T.d 9) (zn (edv 0) zN)))) (yI (ziS (cl:=clT ad) ⟨T.g_NoWeb,T.ei_NoWeb,T.ea_NoWeb,zjx T.na_NoWeb⟩ (zhs T) T.bi_NoWeb (znt (zpb ad) (show 0 < 16 by decide)) (a.mono (by decide)) rfl (zn (zjk (zZ zX)) zN))) ZH))
abbrev yp :=xIf (yR (tOf (zd 2 yE (za (zb 0) (za (zb 1) zc))))) (zi1 2) xNo
def zK:=fnX 2 yp
theorem zU (T:Txt P w K mg base ad):T.Px 22 4 2 zK:=by
 letI:KK:=⟨K⟩
 have G_are_stones:=vE T
 refine Y0 (cl:=clT ad) (N:=(Rw 22).N) (ps:=(Rw 22).ps) (T.d 22).fn (sc 22) (gx:=yp) λb A outer s H E a=>?_
 unfold yp
 exact(yI (zdr (zeZ (V4 (yg G_are_stones a rfl (T.d 20) (zn (edv 0) (zn (edv 1) zN))))) (yI (zeJ (cl:=clT ad) (j:=2) ⟨T.g_NoHeap,T.c_NoHeap⟩ rfl)) ZH))
abbrev ye :=xIf (yR (tOf (zd 2 yB (za (zi ixD (zb 0) (eC (.int 0))) (za (zb 1) zc))))) (zi1 3) xNo
def zP:=fnX 2 ye
theorem yo (T:Txt P w K mg base ad):T.Px 11 4 2 zP:=by
 letI:KK:=⟨K⟩
 have G_is_place:=Zh T
 refine Y0 (cl:=clT ad) (N:=(Rw 11).N) (ps:=(Rw 11).ps) (T.d 11).fn (sc 11) (gx:=ye) λb A outer s H E a=>?_
 unfold ye
 exact(yI (zdr (zeZ (V4 (yg G_is_place a rfl (T.d 5) (zn (ZZ (edv 0) (zZ zX) (λ_ _=>rfl)) (zn (edv 1) zN))))) (yI (zeJ (cl:=clT ad) (j:=3) ⟨T.g_NoPlace,T.c_NoPlace⟩ rfl)) ZH))
abbrev v7 :=zC (xo false 7 (zi xI (zd 2 zY (za (zb 1) (za (zi wS (eC (.int 60)) (zb 6)) zc))) (zi wS (zb 3) (eC (.int 1)))))
  (zC (sIf (tOf (zi xg (zi xI (zb 1) (eC (.int 2))) (eC (.int 0)))) (zC (xo false 7 (eFn zlc (za (zb 3) (za (zi xI (zb 5) (zi wS (zb 2) (eC (.int 1)))) zc))))
  (xo false 5 (zi xf (zb 5) (zi wS (zb 2) (eC (.int 1)))))) zB)
  (zC (Yw false 4 (zb 7))
  (xo false 3 (zi vD (zb 3) (zb 7)))))
abbrev vf :=zC (xo false 3 (zb 2))
  (zC (Ya 4 (zQ zc))
  (zC (xo false 5 (zi xf (zb 1) (eC (.int 2))))
  (zC (wg v0 (za (zb 0) zc) (yF 6) v7)
  (sFz 4 (zO (eFn yS (za (zb 4) zc)))))))
def vh:=fnD 8 vf
theorem zfr {n c mo:Int}(M:0<=n)(P:n<=8)(E:0<=mo)(Q:mo<=1000):∃ a:List Int,vh [.int n,.int c,.int mo]=some (.tup (a.map .int))/\(a.length:Int)=n/\(∀ x∈a,0<=x)/\a.sum<=mo:=by
 have C:=ziF (m:=8) (g:=vf) (ds:=[.int n,.int c,.int mo]) (R:=λd=>∃ a:List Int,d=.tup (a.map .int)/\(a.length:Int)=n/\(∀ x∈a,0<=x)/\a.sum<=mo) (ρ:=[.v (.int n),.v (.int c),.v (.int mo),.no,.no,.no,.no,.no]) rfl ?_
 .obtain⟨d,e,a,rfl,h⟩:=C
  exact⟨a,e,h⟩
 unfold vf
 refine zl rfl (zl (ρ':=[.v (.int n),.v (.int c),.v (.int mo),.v (.int mo),.o [],.no,.no,.no]) (by simp[fnD,zC,zO,vl,sIf,xo,yu,sNo,zB,Wr,Ya,Yw,Wn,Y7,vEv,visF,visG,Sl.f,Sl.g,zb,eC,zi,v9,eOr,W0,eIf,eUn,Y8,yY,yA,zQ,za,zc,zd,eFn,fFn,tOf,xj,Zp,yR,asB,asI,z5,vD,v8,xf,xI,Zs,wz,ltD,leD,gtD,geD,XO,z6,yK,z7,yM,XC,z0,ixD,YR,xS,isT,eSl,xE,xD,yC,xA,iOf,vZ,wg,Zq,v0,ZD,y6,vi,fLC,yw,yS,wc,yF,Z8,xH,Xp,b1,b2,x9]) (zl (ρ':=[.v (.int n),.v (.int c),.v (.int mo),.v (.int mo),.o [],.v (.int (c / 2)),.no,.no]) (by simp[fnD,zC,zO,vl,sIf,xo,yu,sNo,zB,Wr,Ya,Yw,Wn,Y7,vEv,visF,visG,Sl.f,Sl.g,zb,eC,zi,v9,eOr,W0,eIf,eUn,Y8,yY,yA,zQ,za,zc,zd,eFn,fFn,tOf,xj,Zp,yR,asB,asI,z5,vD,v8,xf,xI,Zs,wz,ltD,leD,gtD,geD,XO,z6,yK,z7,yM,XC,z0,ixD,YR,xS,isT,eSl,xE,xD,yC,xA,iOf,vZ,wg,Zq,v0,ZD,y6,vi,fLC,yw,yS,wc,yF,Z8,xH,Xp,b1,b2]) ?_))
 refine yb (zgZ (lo:=0) (c:=n.toNat) (λi ρ=>∃ (b f:Int) (a:List Int) (p o:Sl),ρ=[.v (.int n),.v (.int c),.v (.int mo),.v (.int b),.o (a.map .int),.v (.int f),p,o]/\a.length=i/\(∀ x∈a,0<=x)/\0<=b/\a.sum+b=mo) (zaf M (by omega)) ⟨mo,c / 2,[],.no,.no,rfl,rfl,by simp,E,by simp⟩ ?_ ?_)
 .rintro i ρ S ⟨b,f,a,p,o,rfl,G,q,A,H⟩
  obtain⟨x,I⟩:∃ x:Int,(0:Int)+(i:Int)=x:=⟨_,rfl⟩
  rw[I]
  refine⟨_,rfl,?_⟩
  unfold v7
  obtain⟨r,u⟩:∃ r:Int,zc6 c (60+x)=r:=⟨_,rfl⟩
  have w:0<=r % (b+1):=l4 _ (by omega)
  have K:r % (b+1) < b+1:=m5 _ (by omega)
  have N:zY [.int c,.int (60+x)]=some (.int r):=by rw[<-u];rfl
  have J:decide ((a.map D.int).length < sizeLine)=true:=q7 (YD (by rw[u8];omega))
  have fin:∀ (k j:Int),0<=k->k<=b->(zC (Yw false 4 (zb 7)) (xo false 3 (zi vD (zb 3) (zb 7))) [.v (.int n),.v (.int c),.v (.int mo),.v (.int b),.o (a.map .int),.v (.int j),.v (.int x),.v (.int k)]).w
   (fun ρ=>∃ (b f:Int) (a:List Int) (p o:Sl),ρ=[.v (.int n),.v (.int c),.v (.int mo),.v (.int b),.o (a.map .int),.v (.int f),p,o]/\a.length=i+1/\(∀ x∈a,0<=x)/\0<=b/\a.sum+b=mo)
   (λl=>(sFz 4 (zO (eFn yS (za (zb 4) zc))) l).w (λ_=>∃ a:List Int,D.non=.tup (a.map .int)/\(a.length:Int)=n/\(∀ x∈a,0<=x)/\a.sum<=mo) noP noP λd=>∃ a:List Int,d=.tup (a.map .int)/\(a.length:Int)=n/\(∀ x∈a,0<=x)/\a.sum<=mo)
   (fun ρ=>∃ (b f:Int) (a:List Int) (p o:Sl),ρ=[.v (.int n),.v (.int c),.v (.int mo),.v (.int b),.o (a.map .int),.v (.int f),p,o]/\a.length=i+1/\(∀ x∈a,0<=x)/\0<=b/\a.sum+b=mo)
   (λd=>∃ a:List Int,d=.tup (a.map .int)/\(a.length:Int)=n/\(∀ x∈a,0<=x)/\a.sum<=mo):=λk j L T=>by
   refine zl (ρ':=[.v (.int n),.v (.int c),.v (.int mo),.v (.int b),.o ((a++[k]).map .int),.v (.int j),.v (.int x),.v (.int k)]) ?_ (Z9 rfl ⟨b - k,j,a++[k],_,_,rfl,?_,?_,by omega,?_⟩)
   .show(match (if decide ((a.map D.int).length < sizeLine)=true then some ([.v (.int n),.v (.int c),.v (.int mo),.v (.int b),.o (a.map .int++[.int k]),.v (.int j),.v (.int x),.v (.int k)]:SE)else none)with | some l=>Ctl.nx l | none=>Ctl.no)=_
    rw[t6 J,n9]
    rfl
   .rw[j4,G];rfl
   .intro y s
    rcases n7.mp s with s | s
    .exact q y s
    .rw[t7.mp s];exact L
   .rw[u1Z]
    simp
    omega
  have v:(0:Int) < b+1:=by omega
  refine zl (ρ':=[.v (.int n),.v (.int c),.v (.int mo),.v (.int b),.o (a.map .int),.v (.int f),.v (.int x),.v (.int (r % (b+1)))]) (by simp[fnD,zC,zO,vl,sIf,xo,yu,sNo,zB,Wr,Ya,Yw,Wn,Y7,vEv,visF,visG,Sl.f,Sl.g,zb,eC,zi,v9,eOr,W0,eIf,eUn,Y8,yY,yA,zQ,za,zc,zd,eFn,fFn,tOf,xj,Zp,yR,asB,asI,z5,vD,v8,xf,xI,Zs,wz,ltD,leD,gtD,geD,XO,z6,yK,z7,yM,XC,z0,ixD,YR,xS,isT,eSl,xE,xD,yC,xA,iOf,vZ,wg,Zq,v0,ZD,y6,vi,fLC,yw,yS,wc,yF,Z8,xH,Xp,b1,b2,N,v]) ?_
  by_cases F:c % 2=0
  .have t:(0:Int) < mo+1:=by omega
   have B:mo+1 < 1606938044258990275541962092341162602522202993782792835301376:=by omega
   refine yb (zbD (c:=true) (by simp[fnD,zC,zO,vl,sIf,xo,yu,sNo,zB,Wr,Ya,Yw,Wn,Y7,vEv,visF,visG,Sl.f,Sl.g,zb,eC,zi,v9,eOr,W0,eIf,eUn,Y8,yY,yA,zQ,za,zc,zd,eFn,fFn,tOf,xj,Zp,yR,asB,asI,z5,vD,v8,xf,xI,Zs,wz,ltD,leD,gtD,geD,XO,z6,yK,z7,yM,XC,z0,ixD,YR,xS,isT,eSl,xE,xD,yC,xA,iOf,vZ,wg,Zq,v0,ZD,y6,vi,fLC,yw,yS,wc,yF,Z8,xH,Xp,b1,b2,F]) (λ_=>?_) (λz=>by cases z))
   refine zl (ρ':=[.v (.int n),.v (.int c),.v (.int mo),.v (.int b),.o (a.map .int),.v (.int f),.v (.int x),.v (.int (if f % (mo+1) < b then f % (mo+1)else b))]) (by simp[fnD,zC,zO,vl,sIf,xo,yu,sNo,zB,Wr,Ya,Yw,Wn,Y7,vEv,visF,visG,Sl.f,Sl.g,zb,eC,zi,v9,eOr,W0,eIf,eUn,Y8,yY,yA,zQ,za,zc,zd,eFn,fFn,tOf,xj,Zp,yR,asB,asI,z5,vD,v8,xf,xI,Zs,wz,ltD,leD,gtD,geD,XO,z6,yK,z7,yM,XC,z0,ixD,YR,xS,isT,eSl,xE,xD,yC,xA,iOf,vZ,wg,Zq,v0,ZD,y6,vi,fLC,yw,yS,wc,yF,Z8,xH,Xp,b1,b2,t,zlc]) (Z9 (ρ':=[.v (.int n),.v (.int c),.v (.int mo),.v (.int b),.o (a.map .int),.v (.int (f / (mo+1))),.v (.int x),.v (.int (if f % (mo+1) < b then f % (mo+1)else b))]) (by simp[fnD,zC,zO,vl,sIf,xo,yu,sNo,zB,Wr,Ya,Yw,Wn,Y7,vEv,visF,visG,Sl.f,Sl.g,zb,eC,zi,v9,eOr,W0,eIf,eUn,Y8,yY,yA,zQ,za,zc,zd,eFn,fFn,tOf,xj,Zp,yR,asB,asI,z5,vD,v8,xf,xI,Zs,wz,ltD,leD,gtD,geD,XO,z6,yK,z7,yM,XC,z0,ixD,YR,xS,isT,eSl,xE,xD,yC,xA,iOf,vZ,wg,Zq,v0,ZD,y6,vi,fLC,yw,yS,wc,yF,Z8,xH,Xp,b1,b2,t,B]) ?_)
   have O:0<=f % (mo+1):=l4 _ (by omega)
   exact fin _ _ (by split <;> omega) (by split <;> omega)
  .refine yb (zbD (c:=false) (by simp[fnD,zC,zO,vl,sIf,xo,yu,sNo,zB,Wr,Ya,Yw,Wn,Y7,vEv,visF,visG,Sl.f,Sl.g,zb,eC,zi,v9,eOr,W0,eIf,eUn,Y8,yY,yA,zQ,za,zc,zd,eFn,fFn,tOf,xj,Zp,yR,asB,asI,z5,vD,v8,xf,xI,Zs,wz,ltD,leD,gtD,geD,XO,z6,yK,z7,yM,XC,z0,ixD,YR,xS,isT,eSl,xE,xD,yC,xA,iOf,vZ,wg,Zq,v0,ZD,y6,vi,fLC,yw,yS,wc,yF,Z8,xH,Xp,b1,b2,F]) (λz=>by cases z) (λ_=>Z9 rfl ?_))
   exact fin _ _ w (by omega)
 .rintro ρ ⟨b,f,a,p,o,rfl,G,q,A,H⟩
  refine zjN rfl (yt rfl ⟨a,rfl,by omega,q,by omega⟩)
theorem WS (T:Txt P w K mg base ad):T.Pr 70 2 3 vh:=by
 have G__law_stir:=Yr T
 walk_at "p"
theorem z4 {a b:SE->Option Nat}{g:SE->Ctl}{ρ:SE}{j:Nat}(e:a ρ=some j):wG a g b ρ=some j:=by
 unfold wG
 rw[e]
theorem z9 {b c:SE->Option Nat}{g:SE->Ctl}{ρ a:SE}{j:Nat}(e:b ρ=none)(f:g ρ=.nx a)(d:c a=some j):wG b g c ρ=some j:=by
 unfold wG
 rw[e,f]
 exact d
theorem zR {a:SE->Option Nat}{g:SE->Ctl}{h:Nat->Option D}{ρ:SE}{j:Nat}{d:D}(e:a ρ=some j)(b:h j=some d):zm7 a g h ρ=.rt d:=by
 unfold zm7
 rw[e]
 show(match h j with | some d=>Ctl.rt d | none=>.no)=_
 rw[b]
theorem zqV {b:D->SE->Option SE}{f:SE->Option Nat}{g:SE->Ctl}{j:Nat}(I:Nat->SE->Prop):∀ (i n:Nat) (a:List D) (ρ:SE),I n ρ->i < a.length ->
 (∀ k d ρ,k < i->a[k]?=some d->I (n+k) ρ->∃ c e,b d ρ=some c/\f c=none/\g c=.nx e/\I (n+k+1) e)->(∀ d ρ,a[i]?=some d->I (n+i) ρ->∃ c,b d ρ=some c/\f c=some j)->zdU b f g a ρ=some j:=by
 intro i
 induction i with
 | zero =>
  intro n a ρ p m _ h
  cases a with
  | nil=>cases m
  | cons d a =>
   obtain⟨c,q,r⟩:=h d ρ rfl p
   unfold zdU
   rw[q]
   show(match f c with | some j=>some j | none=>_)=_
   rw[r]
 | succ i t =>
  intro n a ρ p m step h
  cases a with
  | nil=>cases m
  | cons d a =>
   obtain⟨c,e,q,r,v,u⟩:=step 0 d ρ (Nat.succ_pos _) rfl p
   unfold zdU
   rw[q]
   show(match f c with | some j=>some j | none=>_)=_
   rw[r]
   show(match g c with | .nx e=>zdU b f g a e | .ct e=>zdU b f g a e | _=>none)=_
   rw[v]
   refine t (n+1) a e u (u1o m) (λk d ρ s o l=>?_) λd ρ o l=>?_
   .rw[show n+1+k=n+(k+1) by omega]at l ⊢
    exact step (k+1) d ρ (Nat.succ_lt_succ s) o l
   .rw[show n+1+i=n+(i+1) by omega]at l
    exact h d ρ o l
theorem yi {t:Ev->Option Bool}{g h:SE->Option Nat}{ρ:SE}{j:Nat}(e:t (visG ρ)=some true)(a:g ρ=some j):xIf t g h ρ=some j:=by
 unfold xIf
 rw[e]
 exact a
theorem zE {t:Ev->Option Bool}{g h:SE->Option Nat}{ρ:SE}{r:Option Nat}(e:t (visG ρ)=some false)(a:h ρ=r):xIf t g h ρ=r:=by
 unfold xIf
 rw[e]
 exact a
theorem yO {b c:SE->Option Nat}{g:SE->Ctl}{ρ a:SE}(e:b ρ=none)(f:g ρ=.nx a)(d:c a=none):wG b g c ρ=none:=by
 unfold wG
 rw[e,f]
 exact d
theorem WO {t:Ev->Option Bool}{g:SE->Ctl}{ρ:SE}(e:t (visG ρ)=some false):sIf t g zB ρ=.nx ρ:=by
 unfold sIf
 rw[e]
 rfl
theorem zbk:∀ (N:Nat) (l:List Nat),l.Nodup->(∀ x∈l,x < N)->l.length<=N
 | 0,l,_,h=>by
  cases l with
  | nil=>exact t4 _
  | cons a r=>exact absurd (h a (.head _)) (Nat.not_lt_zero _)
 | N+1,l,hn,h=>by
  by_cases c:N∈l
  .have f:=zbk N (l.erase N) (hn.erase N) λx b=>by
    have d:=(hn.mem_erase_iff).mp b
    exact u0C (g4 (h x d.2)) d.1
   rw[u2v c]at f
   omega
  .exact Nat.le_succ_of_le (zbk N l hn λx b=>u0C (g4 (h x b)) λe=>c (e ▸ b))
def code (B:Nat):List Int->Nat
 | []=>0
 | v::r=>v.toNat+B*code B r
theorem zjo {B:Nat}:∀ {x:List Int},(∀ v∈x,0<=v/\v < (B:Int))->code B x < B ^ x.length
 | [],_=>Nat.one_pos
 | v::r,h=>by
  have b:=zjo (x:=r) λw hw=>h w (.tail _ hw)
  have d:=h v (.head _)
  show v.toNat+B*code B r < B ^ (r.length+1)
  have c:v.toNat < B:=by omega
  have a:B*(code B r+1)<=B*B ^ r.length:=Nat.mul_le_mul_left B b
  rw[Nat.mul_succ]at a
  rw[Nat.pow_succ,Nat.mul_comm (B ^ r.length) B]
  exact t8 (by rw[Nat.add_comm];exact Nat.add_lt_add_left c _) a
theorem zeF {B:Nat}:∀ {x y:List Int},x.length=y.length->(∀ v∈x,0<=v/\v < (B:Int))->(∀ v∈y,0<=v/\v < (B:Int))->code B x=code B y->x=y
 | [],[],_,_,_,_=>rfl
 | [],_::_,h,_,_,_=>by cases h
 | _::_,[],h,_,_,_=>by cases h
 | v::r,w::q,hl,hx,hy,e=>by
  have f:=hx v (.head _)
  have g:=hy w (.head _)
  have e:v.toNat+B*code B r=w.toNat+B*code B q:=e
  have b:0 < B:=by omega
  have c:v.toNat=w.toNat:=by
   have:=i6 (· % B) e
   simp only[Nat.add_mul_mod_self_left]at this
   rwa[Nat.mod_eq_of_lt (by omega),Nat.mod_eq_of_lt (by omega)]at this
  have d:code B r=code B q:=by
   rw[c]at e
   exact Nat.eq_of_mul_eq_mul_left b (Nat.add_left_cancel e)
  rw[zeF (by simpa using hl) (λz a=>hx z (.tail _ a)) (λz a=>hy z (.tail _ a)) d]
  congr 1
  omega
theorem zk5 {B m:Nat}{l:List (List Int)}(c:l.Nodup)(h:∀ x∈l,x.length=m/\∀ v∈x,0<=v/\v < (B:Int)):l.length<=B ^ m:=by
 have f:=zbk (B ^ m) (l.map (code B)) ?_ ?_
 .rwa[u8]at f
 .unfold List.Nodup at c ⊢
  rw[List.pairwise_map]
  refine List.Pairwise.imp_of_mem (λ{a b} ha hb hab e=>hab ?_) c
  exact zeF (by rw[(h a ha).1,(h b hb).1]) (h a ha).2 (h b hb).2 e
 .intro x g
  obtain⟨y,d,rfl⟩:=f9.mp g
  have:=zjo (h y d).2
  rwa[(h y d).1]at this
abbrev Hl:=List Int
def hD (h:Hl):D:=.tup (h.map .int)
def hK (h:Hl):List Key:=h.map Sum.inl
theorem zmC:∀ {a b:Hl},hK a=hK b->a=b
 | [],[],_=>rfl
 | [],_::_,h=>by cases h
 | _::_,[],h=>by cases h
 | a::r,b::q,h=>by
  injection h with h1 h2
  injection h1 with h1
  rw[h1,zmC h2]
theorem Vh (h:Hl):zjG (hD h)=some (hK h):=by
 show zfP (h.map .int)=some (h.map Sum.inl)
 induction h with
 | nil=>rfl
 | cons a r b =>
  show(some (Sum.inl a)).bind (λk=>(zfP (r.map .int)).map (k::·))=_
  rw[b]
  rfl
theorem zjK (h:Hl):ze9 true (hK h)=hD h:=by
 show D.tup ((h.map Sum.inl).map k1D)=_
 rw[i1]
 rfl
def zcp (h:Hl)(i x:Int):Hl:=h.set i.toNat x
def moved (h:Hl)(s:Tie):Hl:=zcp (zcp h s.1 (vAt h s.1 - 2)) s.2 (vAt (zcp h s.1 (vAt h s.1 - 2)) s.2+1)
theorem Wv (h:Hl)(i x:Int):(zcp h i x).length=h.length:=by unfold zcp;exact u1c
theorem ziV (h:Hl)(s:Tie):(moved h s).length=h.length:=by unfold moved;rw[Wv,Wv]
theorem zk0 {h:Hl}{i j x:Int}(a:0<=i)(b:i < h.length)(c:0<=j):vAt (zcp h i x) j=if j=i then x else vAt h j:=by
 unfold vAt zcp
 rw[g9,m8,g9]
 by_cases e:j=i
 .subst e
  rw[t6 rfl,t6 (by omega),t6 rfl]
  rfl
 .rw[t9 (by omega),t9 e]
theorem zfg {h:Hl}{i x:Int}(a:0<=i)(b:i < h.length):(zcp h i x).sum=h.sum - vAt h i+x:=by
 unfold zcp
 rw[zh0 (h:=by omega)]
 unfold vAt
 rw[Dl.getD_at (by omega)]
theorem zes {h:Hl}{i x v:Int}(a:v∈zcp h i x):v=x\/v∈h:=by
 unfold zcp at a
 rcases List.mem_or_eq_of_mem_set a with e | e
 .exact .inr e
 .exact .inl e
structure YA (n:Nat) (s:Tie):Prop where
 a0:0<=s.1
 a1:s.1 < (n:Int)
 b0:0<=s.2
 b1:s.2 < (n:Int)
 ne:s.1≠s.2
theorem YC {h:Hl}{s:Tie}(a:YA h.length s):(moved h s).sum=h.sum - 1:=by
 unfold moved
 rw[zfg a.b0 (by rw[Wv];exact a.b1),zfg a.a0 a.a1]
 omega
theorem zns {h:Hl}{i:Int}(b:0<=i)(a:i < h.length):vAt h i∈h:=by
 unfold vAt
 exact Dl.getD_mem (by omega)
theorem zkd {h:Hl}{s:Tie}(b:YA h.length s)(c:∀ v∈h,0<=v)(d:2<=vAt h s.1):∀ v∈moved h s,0<=v:=by
 intro v a
 unfold moved at a
 have e:vAt (zcp h s.1 (vAt h s.1 - 2)) s.2=vAt h s.2:=by
  rw[zk0 b.a0 b.a1 b.b0,t9 (λe=>b.ne e.symm)]
 rcases zes a with rfl | a
 .rw[e]
  have:=c _ (zns b.b0 b.b1)
  omega
 .rcases zes a with rfl | a
  .omega
  .exact c v a
abbrev zct :=zC (Ya 2 (fFn wc (za (zb 0) zc)))
  (zC (Y7 true 2 (zi ixD (zb 1) (eC (.int 0))) (zi vD (zi ixD (zb 2) (zi ixD (zb 1) (eC (.int 0)))) (eC (.int 2))))
  (zC (Y7 true 2 (zi ixD (zb 1) (eC (.int 1))) (zi wS (zi ixD (zb 2) (zi ixD (zb 1) (eC (.int 1)))) (eC (.int 1))))
  (sFz 2 (zO (eFn yS (za (zb 2) zc))))))
def ZE:=fnD 3 zct
theorem zf4 {h:Hl}{s:Tie}(m:YA h.length s):ZE [hD h,zp s]=some (hD (moved h s)):=by
 obtain⟨a,b⟩:=s
 obtain⟨f,e,i,b1,k⟩:=m
 dsimp only at f e i b1 k
 refine yT (ρ:=[.v (hD h),.v (zp (a,b)),.no]) rfl ?_
 unfold zct
 refine zl (ρ':=[.v (hD h),.v (zp (a,b)),.o (h.map .int)]) rfl ?_
 have l:=wQ (ns:=h) f e
 obtain⟨g,c⟩:∃ g,zcp h a (vAt h a - 2)=g:=⟨_,rfl⟩
 have j:g.length=h.length:=by rw[<-c,Wv]
 have o:=wQ (ns:=g) i (by rw[j];exact b1)
 have n:moved h (a,b)=zcp g b (vAt g b+1):=by unfold moved;rw[c]
 rw[n]
 refine yb (zlb (h.map .int) (.int (vAt h a - 2)) a ?_ rfl rfl f (by rw[u8];exact e) ?_)
 .show(Option.bind ((atI (h.map D.int) a).bind λx=>vD x (.int 2)) λd=>if noL d=true then some d else none)=_
  rw[l]
  rfl
 rw[show(h.map D.int).set a.toNat (.int (vAt h a - 2))=g.map .int by rw[<-c];unfold zcp;rw[u2Z]]
 refine yb (zlb (g.map .int) (.int (vAt g b+1)) b ?_ rfl rfl i (by rw[u8,j];exact b1) ?_)
 .show(Option.bind ((atI (g.map D.int) b).bind λx=>wS x (.int 1)) λd=>if noL d=true then some d else none)=_
  rw[o]
  rfl
 rw[show(g.map D.int).set b.toNat (.int (vAt g b+1))=(zcp g b (vAt g b+1)).map .int by unfold zcp;rw[u2Z]]
 exact zjN rfl (yt rfl rfl)
theorem zab (T:Txt P w K mg base ad):T.Pr 26 1 2 ZE:=by
 walk_at "p"
inductive Beh (ss:List Tie) (h0:Hl):Hl->Prop
 | zero:Beh ss h0 h0
 | step {g:Hl} {s:Tie}:Beh ss h0 g->s∈ss->2<=vAt g s.1->Beh ss h0 (moved g s)
abbrev Fd:=List (Hl × Option (Hl × Tie))
def zjW:Option (Hl × Tie)->D
 | none=>.non
 | some p=>.tup [hD p.1,zp p.2]
def fdK (f:Fd):List (List Key):=f.map λe=>hK e.1
def fdV (f:Fd):List D:=f.map λe=>zjW e.2
def V1:Fd->Hl->Option (Option (Hl × Tie))
 | [],_=>none
 | e::f,g=>if e.1=g then some e.2 else V1 f g
theorem zbc (g:Hl):∀ f:Fd,Wk (fdK f) (fdV f) (hK g)=(V1 f g).map zjW
 | []=>rfl
 | e::f=>by
  refine W7.trans ?_
  show(if hK e.1=hK g then some (zjW e.2)else Wk (fdK f) (fdV f) (hK g))=(if e.1=g then some e.2 else V1 f g).map zjW
  by_cases h:e.1=g
  .rw[t6 h,t6 (by rw[h])];rfl
  .rw[t9 h,t9 (λz=>h (zmC z)),zbc g f]
def InF (f:Fd)(g:Hl):Prop:=(V1 f g).isSome=true
theorem xh {g:Hl}:∀ {f:Fd},InF f g↔∃ e∈f,e.1=g
 | []=>⟨λh=>(by cases h),λ⟨_,h,_⟩=>(by cases h)⟩
 | e::f=>by
  have c:=xh (g:=g) (f:=f)
  unfold InF at c ⊢
  show(if e.1=g then some e.2 else V1 f g).isSome=true↔_
  by_cases h:e.1=g
  .rw[t6 h]
   exact⟨λ_=>⟨e,.head _,h⟩,λ_=>rfl⟩
  .rw[t9 h,c]
   constructor
   .rintro⟨x,a,b⟩
    exact⟨x,.tail _ a,b⟩
   .rintro⟨x,a,b⟩
    rcases q4.mp a with rfl | a
    .exact absurd b h
    .exact⟨x,a,b⟩
theorem zeM {e:Hl × Option (Hl × Tie)}{g:Hl}:∀ {f:Fd},V1 (f++[e]) g=if (V1 f g).isSome=true then V1 f g else if e.1=g then some e.2 else none
 | []=>rfl
 | x::f=>by
  have a:=zeM (e:=e) (g:=g) (f:=f)
  show(if x.1=g then some x.2 else V1 (f++[e]) g)=if (if x.1=g then some x.2 else V1 f g).isSome=true then (if x.1=g then some x.2 else V1 f g)else _
  by_cases h:x.1=g
  .rw[t6 h,t6 h];rfl
  .rw[t9 h,t9 h,a]
theorem InF.app {f:Fd}{g:Hl}(h:InF f g)(e:Hl × Option (Hl × Tie)):InF (f++[e]) g:=by
 obtain⟨x,a,b⟩:=xh.mp h
 exact xh.mpr ⟨x,n7.mpr (.inl a),b⟩
theorem zhi (f:Fd)(e:Hl × Option (Hl × Tie)):InF (f++[e]) e.1:=xh.mpr ⟨e,n7.mpr (.inr (.head _)),rfl⟩
theorem zd9 {f:Fd}{e:Hl × Option (Hl × Tie)}{g:Hl}(h:InF (f++[e]) g):InF f g\/g=e.1:=by
 obtain⟨x,a,b⟩:=xh.mp h
 rcases n7.mp a with a | a
 .exact .inl (xh.mpr ⟨x,a,b⟩)
 .cases t7.mp a
  exact .inr b.symm
structure zcF (ss:List Tie) (h0:Hl) (f:Fd):Prop where
 nd:(f.map (·.1)).Nodup
 beh:∀ e∈f,Beh ss h0 e.1
 prv:∀ e∈f,(e.2=none/\e.1=h0)\/∃ p s,e.2=some (p,s)/\s∈ss/\2<=vAt p s.1/\e.1=moved p s/\InF f p
 root:V1 f h0=some none
theorem zcF.start (c:List Tie)(a:Hl):zcF c a [(a,none)]:=by
 refine⟨by simp,λe b=>?_,λe b=>?_,?_⟩
 .cases t7.mp b;exact .zero
 .cases t7.mp b;exact .inl ⟨rfl,rfl⟩
 .show(if a=a then _ else _)=_
  rw[t6 rfl]
theorem zcF.add {g:List Tie}{l p:Hl}{f:Fd}{s:Tie}(h:zcF g l f)(i:InF f p)(j:s∈g)(k:2<=vAt p s.1)(m:¬ InF f (moved p s)):zcF g l (f++[(moved p s,some (p,s))]):=by
 refine⟨?_,λe c=>?_,λe c=>?_,?_⟩
 .rw[n9]
  refine List.nodup_append.mpr ⟨h.nd,by simp,λa r b y e=>?_⟩
  cases t7.mp y
  obtain⟨x,d,c⟩:=f9.mp r
  exact m (xh.mpr ⟨x,d,c.trans e⟩)
 .rcases n7.mp c with c | c
  .exact h.beh e c
  .cases t7.mp c
   obtain⟨x,d,rfl⟩:=xh.mp i
   exact .step (h.beh x d) j k
 .rcases n7.mp c with c | c
  .rcases h.prv e c with z | ⟨q,t,o,w,n,u,v⟩
   .exact .inl z
   .exact .inr ⟨q,t,o,w,n,u,v.app _⟩
  .cases t7.mp c
   exact .inr ⟨p,s,rfl,j,k,rfl,i.app _⟩
 .rw[zeM,h.root]
  rfl
structure HOk (n:Nat) (S:Int) (g:Hl):Prop where
 len:g.length=n
 nn:∀ v∈g,0<=v
 sum:g.sum<=S
theorem Beh.ok {n:Nat}{f:List Tie}{c g:Hl}(i:∀ s∈f,YA n s)(h:HOk n c.sum c)(b:Beh f c g):HOk n c.sum g:=by
 induction b with
 | zero=>exact h
 | step b d j a =>
  have e:=i _ d
  rw[<-a.len]at e
  refine⟨by rw[ziV];exact a.len,zkd e a.nn j,?_⟩
  rw[YC e]
  have:=a.sum
  omega
theorem zcF.count {n:Nat}{d:List Tie}{a:Hl}{f:Fd}(j:∀ s∈d,YA n s)(h:HOk n a.sum a)(ok:zcF d a f):f.length<=(a.sum.toNat+1) ^ n:=by
 have e:=zk5 (B:=a.sum.toNat+1) (m:=n) ok.nd λx i=>by
  obtain⟨y,g,rfl⟩:=f9.mp i
  have b:=(ok.beh y g).ok j h
  refine⟨b.len,λv c=>⟨b.nn v c,?_⟩⟩
  have l:=zal b.nn c
  have k:=b.sum
  omega
 rwa[u8]at e
def zoW (a:List Tie)(f:Fd)(g:Hl):Prop:=∀ s∈a,2<=vAt g s.1->InF f (moved g s)
structure VH (ss:List Tie) (h0:Hl) (L:Int) (f:Fd) (fu todo:List Hl):Prop where
 ok:zcF ss h0 f
 fur:∀ g∈fu,InF f g/\g.sum=L - 1
 rim:∀ g∈todo,InF f g/\g.sum=L
 all:∀ g,InF f g->zoW ss f g\/g∈todo\/g∈fu
 len:fu.length < f.length
theorem VH.start (c:List Tie)(b:Hl):VH c b b.sum [(b,none)] [] [b]:=by
 refine⟨zcF.start c b,λg a=>(by cases a),λg a=>?_,λg a=>.inr (.inl ?_),Nat.one_pos⟩
 .cases t7.mp a
  exact⟨xh.mpr ⟨_,.head _,rfl⟩,rfl⟩
 .obtain⟨x,d,rfl⟩:=xh.mp a
  cases t7.mp d
  exact .head _
theorem VH.add {n:Nat}{d:List Tie}{c p:Hl}{L:Int}{f:Fd}{o b:List Hl}{s:Tie}(m:∀ s∈d,YA n s)(i:HOk n c.sum c)(h:VH d c L f o b)(k:InF f p)(u:p.sum=L)(l:s∈d)(v:2<=vAt p s.1)(r:¬ InF f (moved p s)) :
 VH d c L (f++[(moved p s,some (p,s))]) (o++[moved p s]) b:=by
 refine⟨h.ok.add k l v r,λg a=>?_,λg a=>⟨(h.rim g a).1.app _,(h.rim g a).2⟩,λg a=>?_,by rw[j4,j4];exact Nat.succ_lt_succ h.len⟩
 .rcases n7.mp a with a | a
  .exact⟨(h.fur g a).1.app _,(h.fur g a).2⟩
  .cases t7.mp a
   obtain⟨x,w,rfl⟩:=xh.mp k
   have e:=m s l
   rw[<-((h.ok.beh x w).ok m i).len]at e
   exact⟨zhi f (moved x.1 s,some (x.1,s)),by rw[YC e,u]⟩
 .rcases zd9 a with a | rfl
  .rcases h.all g a with z | z | z
   .exact .inl λt q j=>(z t q j).app _
   .exact .inr (.inl z)
   .exact .inr (.inr (n7.mpr (.inl z)))
  .exact .inr (.inr (n7.mpr (.inr (.head _))))
theorem VH.done {c:List Tie}{d p:Hl}{L:Int}{f:Fd}{e a:List Hl}(h:VH c d L f e (p::a))(i:zoW c f p):VH c d L f e a:=by
 refine⟨h.ok,h.fur,λg b=>h.rim g (.tail _ b),λg b=>?_,h.len⟩
 rcases h.all g b with z | z | z
 .exact .inl z
 .rcases q4.mp z with rfl | z
  .exact .inl i
  .exact .inr (.inl z)
 .exact .inr (.inr z)
theorem VH.turn {d:List Tie}{c:Hl}{L:Int}{f:Fd}{b:List Hl}(h:VH d c L f b []):VH d c (L - 1) f [] b:=by
 refine⟨h.ok,λg a=>(by cases a),h.fur,λg a=>?_,j9 (o5 _) h.len⟩
 rcases h.all g a with z | z | z
 .exact .inl z
 .cases z
 .exact .inr (.inl z)
structure znb (ss:List Tie) (h0:Hl) (f:Fd):Prop where
 ok:zcF ss h0 f
 iff:∀ g,InF f g↔Beh ss h0 g
theorem VH.fin {d:List Tie}{c:Hl}{L:Int}{f:Fd}(h:VH d c L f [] []):znb d c f:=by
 refine⟨h.ok,λg=>⟨λa=>?_,λa=>?_⟩⟩
 .obtain⟨x,i,rfl⟩:=xh.mp a
  exact h.ok.beh x i
 .induction a with
  | zero=>unfold InF;rw[h.ok.root];rfl
  | step b j k e =>
   rcases h.all _ e with z | z | z
   .exact z _ j k
   .cases z
   .cases z
theorem znp {m:Bool}{i:Nat}{f:Ev->Option D}{ρ a:SE}{ds:List D}{d:D}(b:vEv m f ρ=some d)(g:ρ[i]?=some (.o ds))(c:ds.length < sizeLine)(e:ρ.set i (.o (ds++[d]))=a):Yw m i f ρ=.nx a:=by
 unfold Yw
 rw[b,g]
 show(match (if decide (ds.length < sizeLine)=true then some (ρ.set i (.o (ds++[d])))else none)with | some a=>Ctl.nx a | none=>Ctl.no)=_
 rw[t6 (q7 c),e]
theorem zlD {m:Bool}{i:Nat}{c b:Ev->Option D}{ρ a:SE}{f:Fd}{g:Hl}{o:Option (Hl × Tie)}(n:vEv m b ρ=some (zjW o))(h:c (visG ρ)=some (hD g))(p:ρ[i]?=some (.m true (fdK f) (fdV f)))(d:(V1 f g).isSome=false)(q:f.length < sizeLine)
 (l:ρ.set i (.m true (fdK (f++[(g,o)])) (fdV (f++[(g,o)])))=a):zgu m i c b ρ=.nx a:=by
 have e:zoJ ρ i (hD g) (zjW o)=some a:=by
  unfold zoJ
  rw[p]
  show(zjG (hD g)).bind (λk=>if decide ((fdK f).length < sizeLine)=true then some (ρ.set i (.m true (zfz (fdK f) (fdV f) k) (zgl (fdK f) (fdV f) k (zjW o))))else none)=_
  have j:(Wk (fdK f) (fdV f) (hK g)).isSome=false:=by rw[zbc,u0M];exact d
  rw[Vh,j7,t6 (q7 (by unfold fdK;rw[u8];exact q))]
  unfold zfz zgl
  rw[j,t9 u7,t9 u7,<- l]
  unfold fdK fdV
  rw[n9,n9]
  rfl
 unfold zgu
 rw[n,h]
 show(match zoJ ρ i (hD g) (zjW o)with | some a=>Ctl.nx a | none=>Ctl.no)=_
 rw[e]
theorem zp5 {f:Fd}{g:Hl}{z:Bool}:zmX true (hD g) (.dct z true (fdK f) (fdV f))=some (.bl (!(V1 f g).isSome)):=by
 show(zjG (hD g)).map (λk=>D.bl (true != (Wk (fdK f) (fdV f) k).isSome))=_
 rw[Vh]
 show some (D.bl (true != (Wk (fdK f) (fdV f) (hK g)).isSome))=_
 rw[zbc,u0M]
 cases (V1 f g).isSome <;> rfl
theorem vw {m:Int}{b:List Tie}(ok:yh m b):∀ s∈yx m b,YA m.toNat s:=λs g=>by
 obtain⟨⟨d,h⟩,⟨f,b1⟩,c⟩:=Xz.mp g
 refine⟨d,by omega,f,by omega,λe=>?_⟩
 have a:=(ok.rng _ c).2.1
 rw[show zkD s.1 s.2=(s.2,s.2) by unfold zkD;rw[e,t9 (Int.lt_irrefl _)]]at a
 exact absurd a (Int.lt_irrefl _)
theorem zcF.each {m:Int}{b:List Tie}{a:Hl}{f:Fd}(ok:yh m b)(g:(a.length:Int)=m)(c:∀ v∈a,0<=v)(h:zcF (yx m b) a f):∀ e∈f,HOk m.toNat a.sum e.1:=λe d=>(h.beh e d).ok (vw ok) ⟨by omega,c,h8 _⟩
theorem zcF.small {m:Int}{b:List Tie}{a:Hl}{f:Fd}(ok:yh m b)(e:(a.length:Int)=m)(c:∀ v∈a,0<=v)(d:(a.sum.toNat+1) ^ m.toNat < sizeLine)(h:zcF (yx m b) a f):f.length < sizeLine:=j9 (h.count (vw ok) ⟨by omega,c,h8 _⟩) d
abbrev xM :=zC (xo false 8 (zd 2 ZE (za (zb 6) (za (zb 7) zc))))
  (sIf (tOf (zi (zmX true) (zb 8) (zb 3))) (zC (zgu false 3 (zb 8) (yY (za (zb 6) (za (zb 7) zc))))
  (Yw false 5 (zb 8))) zB)
abbrev xL :=vZ (iOf (yA (fLC (iOf (zb 2)) b1 (tOf (zi geD (zi ixD (zb 7) (zi ixD (zb 0) (eC (.int 0)))) (eC (.int 2)))) (zb 0)))) (yF 7) xM
abbrev xi :=zC (Ya 5 (zQ zc))
  (zC (vZ (iOf (zb 4)) (yF 6) xL)
  (sFz 5 (xo false 4 (zb 5))))
abbrev xG :=zC (xo false 2 (zd 1 yL (za (zb 0) zc)))
  (zC (zlq 3 (zb 1) (eC .non))
  (zC (xo false 4 (yA (zQ (za (zb 1) zc))))
  (zC (w4 (tOf (zi gtD (eFn YR (za (zb 4) zc)) (eC (.int 0)))) xi 20)
  (zqU 3 (zO (zb 3))))))
def z8:=fnD 9 xG
section
variable {N B C:SE->Prop}{R:D->Prop}{W:D}{rm:D}{h0:Hl}{ss:List Tie}{n:Nat}{L:Int}
abbrev hSt (W:D)(h0:Hl)(ss:List Tie)(f:Fd)(rm:D)(d:List Hl)(b c a:Sl):SE:=[.v W,.v (hD h0),.v (.lst (ss.map zp)),.m true (fdK f) (fdV f),.v rm,.o (d.map hD),b,c,a]
theorem zq6 {a:Hl}{s:Tie}{f:Fd}{b:List Hl}{i:Sl}(k:YA a.length s)(m:f.length < sizeLine)(h:b.length < sizeLine)
 (l:InF f (moved a s)->N (hSt W h0 ss f rm b (.v (hD a)) (.v (zp s)) (.v (hD (moved a s)))))
 (j:¬ InF f (moved a s)->N (hSt W h0 ss (f++[(moved a s,some (a,s))]) rm (b++[moved a s]) (.v (hD a)) (.v (zp s)) (.v (hD (moved a s))))) :
 (xM (hSt W h0 ss f rm b (.v (hD a)) (.v (zp s)) i)).w N B C R:=by
 unfold xM
 refine zl (yr (d:=hD (moved a s)) (zf4 k)) ?_
 refine zbD (c:=!(V1 f (moved a s)).isSome) ?_ (λe=>?_) (λe=>?_)
 .show((zmX true (hD (moved a s)) (.dct false true (fdK f) (fdV f))).bind asB)=_
  rw[zp5]
  rfl
 .have e:(V1 f (moved a s)).isSome=false:=by simpa using e
  refine zl (zlD (f:=f) (g:=moved a s) (o:=some (a,s)) rfl rfl rfl e m rfl) ?_
  refine Z9 (znp (ds:=b.map hD) (d:=hD (moved a s)) rfl rfl (by rw[u8];exact h) rfl) ?_
  have q:=j (λz=>by unfold InF at z;rw[e]at z;cases z)
  rw[hSt,n9]at q
  exact q
 .have e:(V1 f (moved a s)).isSome=true:=by simpa using e
  exact Z9 rfl (l e)
def zqM (ss:List Tie)(a:Hl):List Tie:=ss.filter λs=>decide (2<=vAt a s.1)
theorem zrm {a:Hl}{f:Fd}{b rest:List Hl}{k c:Sl}(z:∀ s∈ss,YA n s)(I:ss.length<=1000)(u:HOk n h0.sum h0)(N:(h0.sum.toNat+1) ^ n < sizeLine)(h:VH ss h0 L f b (a::rest)) :
 (xL (hSt W h0 ss f rm b (.v (hD a)) k c)).w (λP=>∃ r A S k c,P=hSt W h0 ss r rm A S k c/\VH ss h0 L r A rest) B C R:=by
 unfold xL
 have w:=h.rim a (.head _)
 have y:a.length=n:=by
  obtain⟨x,O,rfl⟩:=xh.mp w.1
  exact((h.ok.beh x O).ok z u).len
 refine zcM (ds:=(zqM ss a).map zp) (λj ρ=>∃ f b k c,ρ=hSt W h0 ss f rm b (.v (hD a)) k c/\VH ss h0 L f b (a::rest)/\∀ s∈(zqM ss a).take j,InF f (moved a s)) ?_ ⟨f,b,k,c,rfl,h,λs m=>(by rw[List.take_zero]at m;cases m)⟩ ?_ ?_
 .have e:fLC (iOf (zb 2)) b1 (tOf (zi geD (zi ixD (zb 7) (zi ixD (zb 0) (eC (.int 0)))) (eC (.int 2)))) (zb 0) (visF (hSt W h0 ss f rm b (.v (hD a)) k c))=some ((zqM ss a).map zp):=by
   unfold fLC
   show(if lim (ss.map zp).length=true then _ else none)=_
   rw[t6 (x9 (by rw[u8];exact I))]
   refine vu zp (λs=>decide (2<=vAt a s.1)) zp ss λs m=>⟨[some (zp s)],rfl,?_,λ_=>rfl⟩
   have F:=z s m
   show(Option.bind ((atI (a.map D.int) s.1).bind λx=>geD x (.int 2)) asB)=_
   rw[wQ F.a0 (by rw[y];exact F.a1)]
   rfl
  show((fLC _ _ _ _ _).map D.lst).bind xA=_
  rw[e]
  rfl
 .rintro i d ρ M ⟨f,b,k,c,rfl,o,G⟩
  rw[j1]at M
  obtain⟨s,m,rfl⟩:=u9.mp M
  have E:s∈zqM ss a:=k6 m
  have v:=p9.mp E
  have J:2<=vAt a s.1:=j2 v.2
  refine⟨hSt W h0 ss f rm b (.v (hD a)) (.v (zp s)) c,rfl,?_⟩
  have F:=z s v.1
  rw[<-y]at F
  have p:=j9 (o.ok.count z u) N
  have l:∀ r:Fd,(∀ g,InF f g->InF r g)->InF r (moved a s)->∀ t∈(zqM ss a).take (i+1),InF r (moved a t):=λr Q K t l=>by
   rw[List.take_add_one,m]at l
   rcases n7.mp l with l | l
   .exact Q _ (G t l)
   .cases t7.mp l
    exact K
  refine zq6 F p (Nat.lt_trans o.len p) (λq=>⟨f,b,_,_,rfl,o,l f (λg H=>H) q⟩) λq=>⟨_,_,_,_,rfl,o.add z u (o.rim a (.head _)).1 (o.rim a (.head _)).2 v.1 J q,l _ (λg H=>H.app _) (zhi f (moved a s,some (a,s)))⟩
 .rintro ρ ⟨f,b,k,c,rfl,o,G⟩
  rw[u8,u0z]at G
  exact⟨f,b,_,k,c,rfl,o.done λs m J=>G s (p9.mpr ⟨m,q7 J⟩)⟩
abbrev hWt (W:D)(h0:Hl)(ss:List Tie)(f:Fd)(a:List Hl)(c d e b:Sl):SE:=[.v W,.v (hD h0),.v (.lst (ss.map zp)),.m true (fdK f) (fdV f),.v (.lst (a.map hD)),c,d,e,b]
theorem zq5 {f:Fd}{a:List Hl}{r e c b:Sl}(x:∀ s∈ss,YA n s)(q:ss.length<=1000)(o:HOk n h0.sum h0)(v:(h0.sum.toNat+1) ^ n < sizeLine)(h:VH ss h0 L f [] a) :
 (xi (hWt W h0 ss f a r e c b)).w (λm=>∃ u j r e c b,m=hWt W h0 ss u j r e c b/\VH ss h0 (L - 1) u [] j) B C R:=by
 unfold xi
 refine zl (ρ':=hSt W h0 ss f (.lst (a.map hD)) [] e c b) rfl ?_
 refine yb (zcM (ds:=a.map hD) (λi ρ=>∃ f g e c b,ρ=hSt W h0 ss f (.lst (a.map hD)) g e c b/\VH ss h0 L f g (a.drop i)) rfl ⟨f,[],e,c,b,rfl,h⟩ ?_ ?_)
 .rintro i d ρ t ⟨f,g,e,c,b,rfl,l⟩
  rw[j1]at t
  obtain⟨p,k,rfl⟩:=u9.mp t
  refine⟨hSt W h0 ss f (.lst (a.map hD)) g (.v (hD p)) c b,rfl,?_⟩
  obtain⟨y,w⟩:=q0.mp k
  rw[u0q y,w]at l
  exact zrm x q o v l
 .rintro ρ ⟨f,g,e,c,b,rfl,l⟩
  rw[u8,u1E]at l
  refine zjN (ρ':=[.v W,.v (hD h0),.v (.lst (ss.map zp)),.m true (fdK f) (fdV f),.v (.lst (a.map hD)),.v (.lst (g.map hD)),e,c,b]) rfl ?_
  exact Z9 (ρ':=hWt W h0 ss f g (.v (.lst (g.map hD))) e c b) rfl ⟨f,g,_,_,_,_,rfl,l.turn⟩
def znj:SE->Nat
 | [_,_,_,_,.v (.lst (.tup ds::_)),_,_,_,_]=>(((zdn ds).getD []).sum+1).toNat
 | _=>0
theorem Xj {f:Fd}{g:Hl}{a:List Hl}{c d e b:Sl}:znj (hWt W h0 ss f (g::a) c d e b)=(g.sum+1).toNat:=by
 show(((zdn (g.map .int)).getD []).sum+1).toNat=_
 rw[YO]
 rfl
theorem zch {f:Fd}{d b c a:Sl}:znj (hWt W h0 ss f [] d b c a)=0:=rfl
theorem zrV {f:Fd}{a:List Hl}{i k j e:Sl}(u:∀ s∈ss,YA n s)(r:ss.length<=1000)(o:HOk n h0.sum h0)(v:(h0.sum.toNat+1) ^ n < sizeLine)(D:h0.sum<=18)(h:VH ss h0 h0.sum f [] a) :
 (w4 (tOf (zi gtD (eFn YR (za (zb 4) zc)) (eC (.int 0)))) xi 20 (hWt W h0 ss f a i k j e)).w (λz=>∃ p i k j e,z=hWt W h0 ss p [] i k j e/\znb ss h0 p) B C R:=by
 have t:∀ {f:Fd} {g:Hl},zcF ss h0 f->InF f g->0<=g.sum/\g.sum<=h0.sum:=λ{f g} ok m=>by
  obtain⟨x,w,rfl⟩:=xh.mp m
  have b:=(ok.beh x w).ok u o
  exact⟨zac b.nn,b.sum⟩
 refine W2 (fun ρ=>∃ L f a i k j e,ρ=hWt W h0 ss f a i k j e/\VH ss h0 L f [] a) znj ?_ 20 _ ⟨_,f,a,i,k,j,e,rfl,h⟩ ?_
 .rintro ρ ⟨L,f,a,i,k,j,e,rfl,q⟩
  refine⟨decide ((0:Int) < ((a.map hD).length:Int)),rfl,λc=>?_,λc=>?_⟩
  .cases a with
   | nil=>cases c
   | cons g a =>
    have m:=q.rim g (.head _)
    refine zmq (zq5 u r o v q) ?_ (λ_ h=>h) (λ_ h=>h) (λ_ h=>h)
    .rintro ρ ⟨p,d,i,k,j,e,rfl,l⟩
     refine⟨⟨_,p,d,i,k,j,e,rfl,l⟩,?_⟩
     rw[Xj,m.2]
     have y:=(t q.ok m.1).1
     rw[m.2]at y
     cases d with
     | nil=>rw[zch];omega
     | cons A d =>
      rw[Xj,(l.rim A (.head _)).2]
      omega
  .cases a with
   | nil=>exact⟨f,i,k,j,e,rfl,q.fin⟩
   | cons g a =>
    exfalso
    have:=u2g c
    rw[r4,g0]at this
    omega
 .cases a with
  | nil=>rw[zch];decide
  | cons g a =>
   rw[Xj]
   have:=(t h.ok (h.rim g (.head _)).1).2
   omega
end
theorem x8 {m:Int}{b:List Tie}{a:Hl}(ok:yh m b)(r:(a.length:Int)=m)(n:∀ v∈a,0<=v)(l:a.sum<=18)(o:(a.sum.toNat+1) ^ m.toNat < sizeLine) :
 ∃ f,z8 [zM m b,hD a]=some (.dct true true (fdK f) (fdV f))/\znb (yx m b) a f:=by
 have p:=vw ok
 have i:(yx m b).length<=1000:=by
  have w:=ve ok m.toNat
  have:=ok.hi
  unfold yx
  omega
 have c:HOk m.toNat a.sum a:=⟨by omega,n,h8 _⟩
 have hw:=(yX (zM m b)).mpr ⟨m,b,rfl,ok⟩
 have q:yL [zM m b]=some (.lst ((yx m b).map zp)):=by
  simp only[yL]
  rw[t6 hw,xW,wy]
 obtain⟨d,e,f,rfl,j⟩:=ziF (m:=9) (g:=xG) (ds:=[zM m b,hD a]) (R:=λd=>∃ f,d=.dct true true (fdK f) (fdV f)/\znb (yx m b) a f) rfl (by
  unfold xG
  refine zl (yr (d:=.lst ((yx m b).map zp)) q) ?_
  refine zl (ρ':=[.v (zM m b),.v (hD a),.v (.lst ((yx m b).map zp)),.m true (fdK [(a,none)]) (fdV [(a,none)]),.no,.no,.no,.no,.no]) ?_ ?_
  .unfold zlq
   show(match ((zjG (hD a)).map λk=>Sl.m true [k] [D.non])with | some s=>Ctl.nx _ | none=>Ctl.no)=_
   rw[Vh]
   rfl
  refine zl (ρ':=hWt (zM m b) a (yx m b) [(a,none)] [a] .no .no .no .no) rfl ?_
  refine yb (zmq (zrV p i c o l (VH.start (yx m b) a)) ?_ (λ_ h=>h) (λ_ h=>h) (λ_ h=>h))
  rintro ρ ⟨f,t,x,y,u,rfl,j⟩
  exact yt (d:=.dct true true (fdK f) (fdV f)) rfl ⟨f,rfl,j⟩)
 exact⟨f,e,j⟩
theorem wf (T:Txt P w K mg base ad):T.Pr 31 4 2 z8:=by
 letI:KK:=⟨K⟩
 have G_all_steps:=XX T
 have G_stepped:=zab T
 refine Vz (N:=(Rw 31).N) (ps:=(Rw 31).ps) (T.d 31).fn (sc 31) (g:=xG) λd A outer s H E c=>?_
 unfold xG xi xL xM
 exact(zT (X0 (m:=false) (i:=2) (sc 31).nd rfl (Or.inl rfl) (yg G_all_steps c rfl (T.d 24) (zn (edv 0) zN)))
  (zT (znD (i:=3) c (sc 31).nd rfl (Or.inl rfl) (edv 1) (zjI ziC))
  (zT (X0 (m:=false) (i:=4) (sc 31).nd rfl (Or.inl rfl) (Xi (zah (zn (edv 1) zN))))
  (zT (zbe 20 u0H (xp zld yc (xY _) (y8 vd zaT rfl (T.z "len" (by decide)) zag (zn (edv 4) zN)) (zZ zX)) (zT (zh7 (i:=5) (sc 31).nd rfl (Or.inl rfl) (zah zN))
  (zT (zeT u0H rfl (Y4 (edv 4)) (zbA (xR (i:=6) (sc 31).nd rfl (Or.inr rfl))) (yy (zeT u0H rfl (Y4 (Xi (zmD (L:=["step"]) (M:=["web","heap","steps","found","rim","further","now","·step","then"]) rfl (ZV (by rfl) (by rfl) (by rfl) (by with_unfolding_all rfl) (by rfl) (by rfl) (by kernel_rfl) (all_cons rfl wk)) (Y4 (edv 2)) gs1 rb1 (λ_ _ _ _=>(xR (i:=0) zrO rfl (Or.inl rfl) (.inr rfl))) (λ_ _ _ _=>(xp znv yc (xY _) (ZZ (edv 7) (ZZ (edv 0) (zZ zX) (λ_ _=>rfl)) (λ_ _=>rfl)) (zZ zX))) (λ_ _ _ _=>(edv 0))))) (zbA (xR (i:=7) (sc 31).nd rfl (Or.inl rfl))) (zT (X0 (m:=false) (i:=8) (sc 31).nd rfl (Or.inl rfl) (yg G_stepped c rfl (T.d 26) (zn (edv 6) (zn (edv 7) zN))))
  (yy (zdt (xp (ziO c) zjl (by with_unfolding_all rfl) (edv 8) (edv 3)) (zT (ziA (m:=false) c (zlX (zn (edv 6) (zn (edv 7) zN))) (pv 3) (edv 8))
  (yy (zmi (m:=false) (pv 5) (edv 8) (λa b=>zfU l8 u2z u2B zcm a b)))) zay))))))
  (ze3 5 (yy (X0 (m:=false) (i:=4) (sc 31).nd rfl (Or.inl rfl) (edv 5)))))))
  (zdF 3 (yy (V6 (edv 3))))))))
theorem zey {α:Type}(f:α->Bool)(l:List α):zom [.lst (l.map λx=>.bl (f x))]=some (.bl (l.any f)):=by
 have:zjM (l.map λx=>D.bl (f x))=some (l.map f):=by
  have:=zeG (l.map f)
  rwa[i1]at this
 show((zjM (l.map λx=>D.bl (f x))).bind λa=>some (D.bl (a.any id)))=_
 rw[this]
 show some (D.bl ((l.map f).any id))=_
 rw[List.any_map]
 rfl
theorem Zz (a:List Int):zfX [.tup (a.map .int)]=some (.int a.sum):=by
 show((zdn (a.map .int)).bind λa=>some (D.int a.sum))=_
 rw[YO]
 rfl
theorem WA {m:Nat}{p:List D->Option D}{f:Ev->Option (List D)}{ρ:Ev}{ds:List D}(h:f ρ=some ds)(a:ds.length=m):zd m p f ρ=p ds:=by
 unfold zd
 rw[h,j7,t6 a]
theorem Zw (f:Fd):WP (.dct true true (fdK f) (fdV f))=some (f.map λe=>hD e.1):=by
 show some ((fdK f).map (ze9 true))=_
 unfold fdK
 rw[i1]
 congr 1
 exact u0Z λe _=>zjK e.1
abbrev vr :=sIf (tOf (zi gtD (zb 0) (zb 1))) sNo zB
def yn:=fnD 2 vr
theorem w6 {a b:Int}(h:a<=b):yn [.int a,.int b]=some .non:=by
 refine yT (ρ:=[.v (.int a),.v (.int b)]) rfl ?_
 unfold vr
 refine zbD (c:=false) ?_ (λz=>by cases z) (λ_=>Z9 rfl rfl)
 show some (decide (b < a))=_
 rw[j5 (Int.not_lt.mpr h)]
theorem xr (T:Txt P w K mg base ad):T.Pr 3 1 2 yn:=by
 walk_at "q"
theorem xB {m:Int}{ts:List Tie}(ok:yh m ts):zh [zM m ts]=some .non:=by
 have hw:xy (zM m ts)=true:=(yX _).mpr ⟨_,_,rfl,ok⟩
 simp only[zh]
 rw[t6 hw]
theorem xK {m:Int}{ts:List Tie}{h:Hl}(ok:yh m ts)(c:(h.length:Int)=m)(b:∀ v∈h,0<=v)(a:h.sum<=300):zD [zM m ts,hD h]=some .non:=by
 show(if (noS (.tup (h.map .int))&&decide (m<=1000)&&xc m (.tup (h.map .int)))=true then some D.non else none)=_
 rw[WE,Vq ok,Xb c b a]
 rfl
def zr6 (f:Fd)(p:Int):Bool:=f.any λe=>decide (0 < vAt e.1 p)
abbrev Z3 :=zC (yu (zd 1 zh (za (zb 0) zc)))
  (zC (yu (zd 2 zD (za (zb 0) (za (zb 1) zc))))
  (zC (yu (zd 2 yn (za (eFn zfX (za (zb 1) zc)) (za (eC (.int 12)) zc))))
  (zC (xo false 2 (zd 2 z8 (za (zb 0) (za (zb 1) zc))))
  (zO (yA (fLC (Zq v0 (za (zi ixD (zb 0) (eC (.int 0))) zc)) b1 (tOf (eFn zom (za (yA (fLC (zjX (zb 3)) b1 yw (zi gtD (zi ixD (zb 0) (zb 1)) (eC (.int 0))))) zc))) (zb 0)))))))
def ZF:=fnD 3 Z3
theorem zfB {m:Int}{b:List Tie}{a:Hl}(ok:yh m b)(h:(a.length:Int)=m)(g:∀ v∈a,0<=v)(q:a.sum<=12)(o:(a.sum.toNat+1) ^ m.toNat < sizeLine) :
 ∃ f,ZF [zM m b,hD a]=some (.lst (((List.range m.toNat).filter λk:Nat=>zr6 f (k:Int)).map Wt))/\znb (yx m b) a f:=by
 obtain⟨f,e,n⟩:=x8 ok h g (by omega) o
 refine⟨f,?_,n⟩
 have l:=n.ok.small ok h g o
 have j:=n.ok.each ok h g
 refine yT (ρ:=[.v (zM m b),.v (hD a),.no]) rfl ?_
 unfold Z3
 refine zl (zf (xB ok)) ?_
 refine zl (zf (xK ok h g (by omega))) ?_
 refine zl (zf (d:=.non) ?_) ?_
 .refine(WA (ds:=[.int a.sum,.int 12]) ?_ rfl).trans (w6 q)
  show(zfX [.tup (a.map .int)]).bind (λd=>(some [D.int 12]).map (d::·))=_
  rw[Zz]
  rfl
 refine zl (yr (d:=.dct true true (fdK f) (fdV f)) e) ?_
 refine yt (zG (d:=.lst (((List.range m.toNat).filter λk:Nat=>zr6 f (k:Int)).map Wt)) (zqt ?_)) rfl
 unfold fLC
 show((v0 [.int m]).bind λi=>if lim i.length=true then _ else none)=_
 rw[zbr ok]
 show(if lim (Wy 0 m.toNat).length=true then _ else none)=_
 rw[t6 (x9 (by rw[Zj];have:=ok.hi;omega))]
 refine vu (c:=Wt) (p:=λk=>zr6 f (k:Int)) (y:=Wt) (List.range m.toNat) λk r=>⟨[some (Wt k)],rfl,?_,λ_=>rfl⟩
 have t:fLC (zjX (zb 3)) b1 yw (zi gtD (zi ixD (zb 0) (zb 1)) (eC (.int 0))) [some (Wt k),some (zM m b),some (hD a),some (.dct true true (fdK f) (fdV f))]=some (f.map λe=>.bl (decide (0 < vAt e.1 (k:Int)))):=by
  unfold fLC
  show((WP (.dct true true (fdK f) (fdV f))).bind λi=>if lim i.length=true then _ else none)=_
  rw[Zw,j7,t6 (show lim (f.map λe=>hD e.1).length=true from q7 (by rw[u8];exact f6 l))]
  refine Zc (λe:Hl × Option (Hl × Tie)=>hD e.1) _ f λe s=>⟨[some (hD e.1)],rfl,rfl,?_⟩
  have u:=(j e s).len
  rw[l0]at r
  show((atI (e.1.map D.int) (0+(k:Int))).bind λx=>gtD x (.int 0))=_
  rw[u1z,wQ (by omega) (by omega)]
  rfl
 show(Option.bind (Option.bind ((Option.map D.lst (fLC (zjX (zb 3)) b1 yw (zi gtD (zi ixD (zb 0) (zb 1)) (eC (.int 0))) [some (Wt k),some (zM m b),some (hD a),some (.dct true true (fdK f) (fdV f))])).bind λd=>some [d]) zom) asB)=_
 rw[t]
 show(Option.bind (zom [.lst (f.map λe=>.bl (decide (0 < vAt e.1 (k:Int))))]) asB)=_
 rw[zey]
 rfl
theorem zf9 (T:Txt P w K mg base ad):T.Pr 36 8 2 ZF:=by
 letI:KK:=⟨K⟩
 have G_must_be_at_most:=xr T
 have G_must_be_web:=zk T
 have G_must_be_heap:=zJ T
 have G_heaps_behind:=wf T
 refine Vz (N:=(Rw 36).N) (ps:=(Rw 36).ps) (T.d 36).fn (sc 36) (g:=Z3) λb A outer s H E a=>?_
 unfold Z3
 exact(zT (wW (yg G_must_be_web a rfl (T.d 10) (zn (edv 0) zN)))
  (zT (wW (yg G_must_be_heap a rfl (T.d 22) (zn (edv 0) (zn (edv 1) zN))))
  (zT (wW (yg G_must_be_at_most a rfl (T.d 3) (zn (y8 (zbZ rfl) zg6 rfl (T.z "sum" (by decide)) zig (zn (edv 1) zN)) (zn (zZ (xn (v:=.int 12) rfl T.g_MOST_SEARCHED ⟨_,rfl⟩)) zN))))
  (zT (X0 (m:=false) (i:=2) (sc 36).nd rfl (Or.inr rfl) (yg G_heaps_behind a rfl (T.d 31) (zn (edv 0) (zn (edv 1) zN))))
  (yy (V6 (Xi (zi6 (x0:="place") (M:=["web","heap","found"]) rfl (zlR (by rfl) (by rfl) (by rfl) (by with_unfolding_all rfl) (λ_=>rfl) (λ_=>rfl) (by rfl) (by rfl) (by kernel_rfl) (all_cons rfl wk)) (zcl rfl (T.z "range" (by decide)) (zn (ZZ (edv 0) (zZ zX) (λ_ _=>rfl)) zN)) gs1 rb1 (λ_ _ _ _=>(xR (i:=0) zre rfl (Or.inr rfl) (.inl rfl))) (λ_ _ _ _=>(V4 (y8 (Vy rfl) zd4 rfl (T.z "any" (by decide)) ziG (zn (Xi (zcP (L:=["other"]) (M:=["place","web","heap","found"]) rfl (ZV (by rfl) (by rfl) (by rfl) (by with_unfolding_all rfl) (by rfl) (by rfl) (by kernel_rfl) (all_cons rfl wk)) (zgS (edv 3)) gs1 rb1 (λ_ _ _ _=>(xR (i:=0) zrL rfl (Or.inl rfl) (.inr rfl))) (λ_ _ _ _=>(ZU zld yc (xY _) (ZZ (edv 0) (edv 1) (λ_ _=>rfl)) (zZ zX))))) zN)))) (λ_ _ _ _=>(edv 0))))))))))
def Pth (_:List Tie)(_:Hl)(_:List Tie)(_:Hl):Prop:=True
theorem Pth.nil (a:List Tie)(h:Hl):Pth a h [] h:=trivial
theorem Pth.cons {a:List Tie}{p g:Hl}{s:Tie}{b:List Tie}(_:Pth a (moved p s) b g)(_:zkD s.1 s.2∈a)(_:2<=vAt p s.1):Pth a p (s::b) g:=trivial
abbrev v6 :=sIf (yR (tOf (zd 3 zS (za (zb 0) (za (zb 1) (za (zb 2) zc)))))) sNo zB
def xN:=fnD 3 v6
theorem zbX {x a b:Int}(d:a<=x)(e:x<=b):xN [.int x,.int a,.int b]=some .non:=by
 refine yT (ρ:=[.v (.int x),.v (.int a),.v (.int b)]) rfl ?_
 unfold v6
 refine zbD (c:=false) ?_ (λz=>by cases z) (λ_=>Z9 rfl rfl)
 show(((if noS (.int x)=true then some (D.bl (ya (.int x) a b))else none).bind asB).map λc=>!c)=_
 rw[t6 (show noS (.int x)=true from rfl)]
 show some (!(decide (a<=x)&&decide (x<=b)))=_
 rw[q7 d,q7 e]
 rfl
theorem vx (T:Txt P w K mg base ad):T.Pr 2 3 3 xN:=by
 have G_is_whole_within:=wb T
 walk_at "q"
abbrev Yf :=zC (yu (zd 1 zh (za (zb 0) zc)))
  (zC (yu (zd 2 zD (za (zb 0) (za (zb 1) zc))))
  (zC (yu (zd 2 zI (za (zb 0) (za (zb 2) zc))))
  (yu (zd 3 xN (za (zb 3) (za (eC (.int 1)) (za (eC (.int 300)) zc)))))))
def xz:=fnD 4 Yf
theorem zaA {m:Int}{a:List Tie}{h:Hl}{p n:Int}(ok:yh m a)(g:(h.length:Int)=m)(d:∀ v∈h,0<=v)(b:h.sum<=300)(f:0<=p/\p < m)(e:1<=n)(c:n<=300):xz [zM m a,hD h,.int p,.int n]=some .non:=by
 refine yT (ρ:=[.v (zM m a),.v (hD h),.v (.int p),.v (.int n)]) rfl ?_
 unfold Yf
 refine zl (zf (xB ok)) ?_
 refine zl (zf (xK ok g d b)) ?_
 refine zl (zf (xC (ts:=a) f)) ?_
 exact Z9 (zf (zbX e c)) rfl
theorem wI (T:Txt P w K mg base ad):T.Pr 34 8 4 xz:=by
 have G_must_be_within:=vx T
 have G_must_be_web:=zk T
 have G_must_be_place:=yd T
 have G_must_be_heap:=zJ T
 walk_at "p"
theorem za4 {g:Hl}{o:Option (Hl × Tie)}:∀ {f:Fd},V1 f g=some o->(g,o)∈f
 | [],h=>by cases h
 | e::f,h=>by
  unfold V1 at h
  by_cases c:e.1=g
  .rw[t6 c]at h
   cases h
   subst c
   exact r0
  .rw[t9 c]at h
   exact j8 _ (za4 h)
theorem zni {f:Fd}{g:Hl}{o:Option (Hl × Tie)}(h:V1 f g=some o):zaF (.dct true true (fdK f) (fdV f)) (hD g)=some (zjW o):=by
 show((zjG (hD g)).bind λk=>Wk (fdK f) (fdV f) k)=_
 rw[Vh,j7,zbc,h]
 rfl
abbrev XZ :=zC (Yw false 2 (zi ixD (zi zaF (zb 0) (zb 3)) (eC (.int 1))))
  (xo false 3 (zi ixD (zi zaF (zb 0) (zb 3)) (eC (.int 0))))
abbrev Xx :=zC (Ya 2 (zQ zc))
  (zC (xo false 3 (zb 1))
  (zC (w4 (tOf (zi z0 (zi zaF (zb 0) (zb 3)) (eC .non))) XZ 20)
  (sFz 2 (zO (yA (fRev (zb 2)))))))
def Xl:=fnD 4 Xx
abbrev stS (f:Fd)(g:Hl)(b:List Tie)(a:Hl):SE:=[.v (.dct true true (fdK f) (fdV f)),.v (hD g),.o (b.map zp),.v (hD a)]
def stMu (S:Int):SE->Nat
 | [_,_,_,.v (.tup ds)]=>(S - ((zdn ds).getD []).sum).toNat
 | _=>0
theorem zdw {S:Int}{f:Fd}{g a:Hl}{b:List Tie}:stMu S (stS f g b a)=(S - a.sum).toNat:=by
 show(S - ((zdn (a.map .int)).getD []).sum).toNat=_
 rw[YO]
 rfl
theorem zde {m:Int}{k:List Tie}{i g:Hl}{f:Fd}(ok:yh m k)(M:(i.length:Int)=m)(D:∀ v∈i,0<=v)(L:i.sum<=12)(w:znb (yx m k) i f)(t:InF f g) :
 ∃ b:List Tie,Xl [.dct true true (fdK f) (fdV f),hD g]=some (.lst (b.map zp))/\Pth k i b g/\b.length<=12:=by
 have y:=vw ok
 have r:∀ {x:Hl},InF f x->HOk m.toNat i.sum x:=λ{x} hx=>((w.iff x).mp hx).ok y ⟨by omega,D,h8 _⟩
 obtain⟨d,e,b,rfl,h⟩:=ziF (m:=4) (g:=Xx) (ds:=[.dct true true (fdK f) (fdV f),hD g]) (R:=λd=>∃ b:List Tie,d=.lst (b.map zp)/\Pth k i b g/\b.length<=12) (ρ:=[.v (.dct true true (fdK f) (fdV f)),.v (hD g),.no,.no]) rfl (by
  unfold Xx
  refine zl (ρ':=[.v (.dct true true (fdK f) (fdV f)),.v (hD g),.o (([]:List Tie).map zp),.no]) rfl ?_
  refine zl (ρ':=stS f g [] g) rfl ?_
  refine yb (W2 (fun ρ=>∃ (b:List Tie) (a:Hl),ρ=stS f g b a/\InF f a/\(b.length:Int)<=a.sum/\Pth k a b.reverse g) (stMu (i.sum+1)) ?_ 20 _ ⟨[],g,rfl,t,zac (r t).nn,Pth.nil k g⟩ ?_)
  .rintro ρ ⟨b,a,rfl,j,E,h⟩
   have B:=r j
   obtain⟨o,u⟩:=u04.mp j
   have q:=zni u
   cases o with
   | none =>
    refine⟨false,?_,(λc=>by cases c),λ_=>?_⟩
    .show(((zaF (.dct true true (fdK f) (fdV f)) (hD a))).bind λx=>z0 x .non).bind asB=_
     rw[q]
     rfl
    .refine zjN (ρ':=[.v (.dct true true (fdK f) (fdV f)),.v (hD g),.v (.lst (b.map zp)),.v (hD a)]) rfl (yt (d:=.lst (b.map zp).reverse) rfl ⟨b.reverse,by rw[List.map_reverse],?_,?_⟩)
     .rcases w.ok.prv _ (za4 u)with ⟨_,z⟩ | ⟨J,F,z,_⟩
      .have z:a=i:=z
       rw[<-z];exact h
      .cases z
     .rw[List.length_reverse];have:=B.sum;omega
   | some K =>
    obtain⟨p,s⟩:=K
    refine⟨true,?_,λ_=>?_,(λc=>by cases c)⟩
    .show(((zaF (.dct true true (fdK f) (fdV f)) (hD a))).bind λx=>z0 x .non).bind asB=_
     rw[q]
     rfl
    .rcases w.ok.prv _ (za4 u)with ⟨z,_⟩ | ⟨J,F,z,A,H,n,C⟩
     .cases z
     .cases z
      have l:=r C
      have G:a.sum=p.sum - 1:=by
       rw[show a=moved p s from n,YC (by rw[l.len];exact y s A)]
      have I:=B.sum
      unfold XZ
      refine zl (zh2 (ds:=b.map zp) (d:=zp s) ?_ rfl (by rw[u8];omega)) ?_
      .show(((zaF (.dct true true (fdK f) (fdV f)) (hD a))).bind λx=>ixD x (.int 1))=_
       rw[q]
       rfl
      .refine Z9 (ρ':=stS f g (b++[s]) p) ?_ ⟨⟨b++[s],p,rfl,C,by rw[j4];simp;omega,?_⟩,?_⟩
       .refine yr (d:=hD p) ?_ (by rw[show stS f g (b++[s]) p=[.v (.dct true true (fdK f) (fdV f)),.v (hD g),.o ((b++[s]).map zp),.v (hD p)]from rfl,n9];rfl)
        show(((zaF (.dct true true (fdK f) (fdV f)) (hD a))).bind λx=>ixD x (.int 0))=_
        rw[q]
        rfl
       .rw[List.reverse_append]
        have n:a=moved p s:=n
        rw[n]at h
        exact h.cons (Xz.mp A).2.2 H
       .rw[zdw,zdw]
        have:=l.sum
        omega
  .rw[zdw]
   have:=zac (r t).nn
   omega)
 exact⟨b,e,h⟩
theorem zdN (T:Txt P w K mg base ad):T.Pr 33 1 2 Xl:=by
 walk_at "p"
abbrev zbM :=sIf (tOf (zi geD (zi ixD (zb 5) (zb 2)) (zb 3))) (zO (zd 2 Xl (za (zb 4) (za (zb 5) zc)))) zB
abbrev zc8 :=zC (yu (zd 4 xz (za (zb 0) (za (zb 1) (za (zb 2) (za (zb 3) zc))))))
  (zC (yu (zd 2 yn (za (eFn zfX (za (zb 1) zc)) (za (eC (.int 12)) zc))))
  (zC (xo false 4 (zd 2 z8 (za (zb 0) (za (zb 1) zc))))
  (zC (vZ (zjX (zb 4)) (yF 5) zbM)
  (zO (eC .non)))))
def Vw:=fnD 6 zc8
theorem zf0 {m:Int}{b:List Tie}{a:Hl}{p n:Int}(ok:yh m b)(q:(a.length:Int)=m)(l:∀ v∈a,0<=v)(k:a.sum<=12)(C:(a.sum.toNat+1) ^ m.toNat < sizeLine)(B:0<=p/\p < m)(G:1<=n)(F:n<=300) :
 ∃ d,Vw [zM m b,hD a,.int p,.int n]=some d/\((∃ (j:List Tie) (g:Hl),d=.lst (j.map zp)/\Beh (yx m b) a g/\n<=vAt g p/\Pth b a j g/\j.length<=12)\/(d=.non/\∀ g,Beh (yx m b) a g->¬ n<=vAt g p)):=by
 obtain⟨f,e,r⟩:=x8 ok q l (u02 k (by decide)) C
 have z:=r.ok.each ok q l
 refine ziF (m:=6) (g:=zc8) (ds:=[zM m b,hD a,.int p,.int n]) (ρ:=[.v (zM m b),.v (hD a),.v (.int p),.v (.int n),.no,.no]) rfl ?_
 unfold zc8
 refine zl (zf (zaA ok q l (u02 k (by decide)) B G F)) ?_
 refine zl (zf (d:=.non) ?_) ?_
 .refine(WA (ds:=[.int a.sum,.int 12]) ?_ rfl).trans (w6 k)
  show(zfX [.tup (a.map .int)]).bind (λd=>(some [D.int 12]).map (d::·))=_
  rw[Zz]
  rfl
 refine zl (yr (d:=.dct true true (fdK f) (fdV f)) e) ?_
 refine yb (zcM (ds:=f.map λe:Hl × Option (Hl × Tie)=>hD e.1) (λi ρ=>∃ u,ρ=[.v (zM m b),.v (hD a),.v (.int p),.v (.int n),.v (.dct true true (fdK f) (fdV f)),u]/\∀ e∈f.take i,¬ n<=vAt e.1 p) (show WP _=_ from Zw f) ⟨_,rfl,λe h=>by cases h⟩ ?_ ?_)
 .rintro i d ρ A ⟨u,rfl,s⟩
  rw[j1]at A
  obtain⟨x,o,rfl⟩:=u9.mp A
  have w:x∈f:=k6 o
  refine⟨[.v (zM m b),.v (hD a),.v (.int p),.v (.int n),.v (.dct true true (fdK f) (fdV f)),.v (hD x.1)],rfl,?_⟩
  unfold zbM
  have I:=(z x w).len
  refine zbD (c:=decide (n<=vAt x.1 p)) ?_ (λc=>?_) (λc=>?_)
  .show((atI (x.1.map D.int) p).bind λy=>geD y (.int n)).bind asB=_
   rw[wQ B.1 (by omega)]
   rfl
  .obtain⟨j,H,t⟩:=zde ok q l k r (xh.mpr ⟨x,w,rfl⟩)
   exact yt (zG (d:=.lst (j.map zp)) H) (.inl ⟨j,x.1,rfl,r.ok.beh x w,j2 c,t⟩)
  .refine Z9 rfl ⟨_,rfl,λe h=>?_⟩
   rw[u0S,o]at h
   rcases n7.mp h with h | h
   .exact s e h
   .cases t7.mp h
    exact u2g c
 .rintro ρ ⟨u,rfl,s⟩
  refine yt (d:=.non) rfl (.inr ⟨rfl,λg E=>?_⟩)
  obtain⟨x,o,rfl⟩:=xh.mp ((r.iff g).mpr E)
  rw[u8,u0z]at s
  exact s x o
theorem zfi (T:Txt P w K mg base ad):T.Pr 35 9 4 Vw:=by
 have G_must_be_at_most:=xr T
 have G_heaps_behind:=wf T
 have G_steps_to:=zdN T
 have G_must_be_asked:=wI T
 walk_at "p"
theorem znT:∀ {a:List Int},a≠[]->zfn a∈a/\∀ x∈a,x<=zfn a:=by
 intro a h
 obtain⟨M,f,d⟩:∃ M∈a,∀ x∈a,x<=M:=by
  induction a with
  | nil=>exact absurd rfl h
  | cons n a i =>
   by_cases c:a=[]
   .subst c
    exact⟨n,t7.mpr rfl,λx b=>by rw[t7.mp b];exact h8 _⟩
   .obtain⟨M,f,d⟩:=i c
    rcases Int.le_total n M with g | g
    .exact⟨M,j8 _ f,λx b=>(q4.mp b).elim (λe=>e ▸ g) (d x)⟩
    .exact⟨n,r0,λx b=>(q4.mp b).elim (λe=>e ▸ h8 _) λb=>u02 (d x b) g⟩
 rw[zmb f d]
 exact⟨f,d⟩
theorem zkS {a:List Int}(h:a≠[]):zku [.lst (a.map .int)]=some (.int (zfn a)):=by
 show(zdn (a.map .int)).bind (λa=>if a=[]then none else some (D.int (zfn a)))=_
 rw[YO]
 show(if a=[]then none else some (D.int (zfn a)))=_
 rw[t9 h]
abbrev zcz :=zC (yu (zd 1 zh (za (zb 0) zc)))
  (zC (yu (zd 2 zD (za (zb 0) (za (zb 1) zc))))
  (zC (yu (zd 2 zI (za (zb 0) (za (zb 2) zc))))
  (zC (yu (zd 2 yn (za (eFn zfX (za (zb 1) zc)) (za (eC (.int 12)) zc))))
  (zO (eFn zku (za (yA (fLC (zjX (zd 2 z8 (za (zb 0) (za (zb 1) zc)))) b1 yw (zi ixD (zb 0) (zb 3)))) zc))))))
def Yy:=fnD 3 zcz
theorem zfx {m:Int}{b:List Tie}{a:Hl}{p:Int}(ok:yh m b)(k:(a.length:Int)=m)(j:∀ v∈a,0<=v)(l:a.sum<=12)(q:(a.sum.toNat+1) ^ m.toNat < sizeLine)(r:0<=p/\p < m) :
 ∃ M,Yy [zM m b,hD a,.int p]=some (.int M)/\(∃ g,Beh (yx m b) a g/\vAt g p=M)/\∀ g,Beh (yx m b) a g->vAt g p<=M:=by
 obtain⟨f,e,i⟩:=x8 ok k j (u02 l (by decide)) q
 have o:=i.ok.small ok k j q
 have n:=i.ok.each ok k j
 have h:(f.map λe=>vAt e.1 p)≠[]:=λz=>by
  have:=(i.iff a).mpr .zero
  rw[List.map_eq_nil_iff.mp z]at this
  cases this
 obtain⟨t,w⟩:=znT h
 refine⟨zfn (f.map λe=>vAt e.1 p),?_,?_,λg u=>?_⟩
 .refine yT (ρ:=[.v (zM m b),.v (hD a),.v (.int p)]) rfl ?_
  unfold zcz
  refine zl (zf (xB ok)) ?_
  refine zl (zf (xK ok k j (u02 l (by decide)))) ?_
  refine zl (zf (xC (ts:=b) r)) ?_
  refine zl (zf (d:=.non) ?_) ?_
  .refine(WA (ds:=[.int a.sum,.int 12]) ?_ rfl).trans (w6 l)
   show(zfX [.tup (a.map .int)]).bind (λd=>(some [D.int 12]).map (d::·))=_
   rw[Zz]
   rfl
  refine yt (zG (d:=.int (zfn (f.map λe=>vAt e.1 p))) ?_) rfl
  have y:fLC (zjX (zd 2 z8 (za (zb 0) (za (zb 1) zc)))) b1 yw (zi ixD (zb 0) (zb 3)) [some (zM m b),some (hD a),some (.int p)]=some ((f.map λe=>vAt e.1 p).map .int):=by
   unfold fLC
   show(((z8 [zM m b,hD a]).bind WP).bind λs=>if lim s.length=true then _ else none)=_
   rw[e,j7,Zw,j7,t6 (show lim (f.map λe=>hD e.1).length=true from q7 (by rw[u8];exact f6 o)),i1]
   refine Zc (λe:Hl × Option (Hl × Tie)=>hD e.1) _ f λe c=>⟨[some (hD e.1)],rfl,rfl,?_⟩
   have A:=(n e c).len
   show atI (e.1.map D.int) p=_
   rw[wQ r.1 (by omega)]
   rfl
  show(((fLC (zjX (zd 2 z8 (za (zb 0) (za (zb 1) zc)))) b1 yw (zi ixD (zb 0) (zb 3)) [some (zM m b),some (hD a),some (.int p)]).map D.lst).bind λd=>(some []).map (d::·)).bind zku=_
  rw[y]
  exact zkS h
 .obtain⟨e,c,x⟩:=f9.mp t
  exact⟨e.1,i.ok.beh e c,x⟩
 .obtain⟨e,c,rfl⟩:=xh.mp ((i.iff g).mpr u)
  exact w _ (f9.mpr ⟨e,c,rfl⟩)
theorem zai (T:Txt P w K mg base ad):T.Pr 32 8 3 Yy:=by
 have G_must_be_at_most:=xr T
 have G_must_be_web:=zk T
 have G_must_be_place:=yd T
 have G_must_be_heap:=zJ T
 have G_heaps_behind:=wf T
 walk_at "p"
abbrev Zd :=
 sNo
def Zn:=fnD 5 Zd
theorem zcK (T:Txt P w K mg base ad):T.Pr 37 1 2 Zn:=by
 letI:KK:=⟨K⟩
 refine Vz (N:=(Rw 37).N) (ps:=(Rw 37).ps) (T.d 37).fn (sc 37) (g:=Zd) λa A outer s H E b=>?_
 unfold Zd
 exact ZP
abbrev X8 :=zC (sIf (Zp (yR (tOf (zd 2 yE (za (zb 0) (za (zb 6) zc))))) (tOf (zi geD (zi ixD (zb 6) (zb 2)) (zb 3)))) (zO (eC (.bl false))) zB)
  (zgu false 5 (zb 6) (eC (.bl true)))
abbrev YZ :=zC (yu (zd 4 xz (za (zb 0) (za (zb 1) (za (zb 2) (za (zb 3) zc))))))
  (zC (sIf (yR (tOf (eUn (xS .list) (zb 4)))) (zO (eC (.bl false))) zB)
  (zC (zoh true 5)
  (zC (vZ (iOf (zb 4)) (yF 6) X8)
  (zqU 5 (zO (v9 (zi (zmX false) (zb 1) (zb 5)) (zd 2 Zn (za (zb 0) (za (zb 5) zc)))))))))
def xJ:=fnD 7 YZ
theorem Yn (T:Txt P w K mg base ad):T.Pr 38 9 5 xJ:=by
 have G_are_stones:=vE T
 have G_must_be_asked:=wI T
 have G_is_closed:=zcK T
 walk_at "p"
theorem zhn {l k:List Hl}(f:l.Nodup)(c:∀ x∈l,x∈k):l.length<=k.length:=by
 induction l generalizing k with
 | nil=>exact o5 _
 | cons a l j =>
  have d:=c a (.head _)
  obtain⟨g,h⟩:=u1e.mp f
  have i:=j h (k:=k.erase a) λx b=>(List.mem_erase_of_ne (λe:x=a=>g (by rw[<-e];exact b))).mpr (c x (.tail _ b))
  rw[u2v d]at i
  have:=List.length_pos_of_mem d
  rw[g0]
  omega
def hp2:Nat->Nat->List Hl
 | 0,_=>[[]]
 | n+1,k=>(List.range (k+1)).flatMap λx=>(hp2 n (k - x)).map λg=>(x:Int)::g
theorem ziI:∀ {n k:Nat} {g:Hl},g.length=n->(∀ v∈g,0<=v)->g.sum<=(k:Int)->g∈hp2 n k
 | 0,k,g,hl,_,_=>by rw[l6.mp hl];exact t7.mpr rfl
 | n+1,k,[],hl,_,_=>by cases hl
 | n+1,k,x::g,hl,hn,hs=>by
  have b:=hn x (.head _)
  have c:=zac λv a=>hn v (.tail _ a)
  rw[u1P]at hs
  refine u2O.mpr ⟨x.toNat,l0.mpr (by omega),f9.mpr ⟨g,ziI (by simpa using hl) (λv a=>hn v (.tail _ a)) (by omega),by rw[u0e b]⟩⟩
theorem zmQ:∀ n:_root_.Fin 9,(hp2 n.val 2).length<=45:=by decide +kernel
def zi0 (h:Hl):List Hl:=((List.range 8).filter λa:Nat=>decide (2<=vAt h (a:Int))).flatMap λa:Nat=>(List.range 8).map λb:Nat=>moved h ((a:Int),(b:Int))
theorem zoY {f:Nat->List Hl}(b:∀ a,(f a).length=8):∀ l:List Nat,(l.flatMap f).length=8*l.length
 | []=>rfl
 | a::l=>by rw[List.flatMap_cons,j4,b,zoY b l,g0];omega
theorem zoB {h:Hl}(d:∀ v∈h,0<=v)(N:Nat):2*((((List.range N).filter λa:Nat=>decide (2<=vAt h (a:Int))).length:Nat):Int)<=(h.take N).sum:=by
 induction N with
 | zero=>exact h8 _
 | succ N g =>
  rw[u20,List.filter_append,j4,u0S,u1Z]
  have e:vAt h (N:Int)=(h[N]?).getD 0:=by
   show h.getD (N:Int).toNat 0=_
   rw[o4,g9]
  cases c:h[N]? with
  | none =>
   rw[c]at e
   rw[List.filter_cons_of_neg (by rw[e];decide)]
   exact u02 g (Int.le_of_eq (by show _=_+(0:Int);omega))
  | some v =>
   rw[c]at e
   have i:=d v (k6 c)
   have e:vAt h (N:Int)=v:=e
   have f:(Option.some v).toList.sum=v:=by show v+0=v;omega
   rw[f]
   by_cases b:2<=v
   .rw[List.filter_cons_of_pos (by rw[e];exact q7 b)]
    show 2*((_+1:Nat):Int)<=_
    omega
   .rw[List.filter_cons_of_neg (by rw[e,j5 b];exact u7)]
    show 2*((_+0:Nat):Int)<=_
    omega
theorem few {m:Int}{C:List Tie}{d:Hl}{f:Fd}(ok:yh m C)(P:(d.length:Int)=m)(B:∀ v∈d,0<=v)(R:d.sum<=4)(h:zcF (yx m C) d f):f.length < 64:=by
 have l:=vw ok
 have g:HOk m.toNat d.sum d:=⟨by omega,B,h8 _⟩
 have G:=ok.hi
 have A:∀ x∈f.map (·.1),x∈d::(zi0 d++hp2 m.toNat 2):=by
  intro x I
  obtain⟨e,E,rfl⟩:=f9.mp I
  rcases h.prv e E with ⟨_,z⟩ | ⟨p,s,_,J,n,z,O⟩
  .rw[z];exact r0
  .refine j8 _ (n7.mpr ?_)
   obtain⟨r,k,rfl⟩:=xh.mp O
   have u:=(h.beh r k).ok l g
   have j:=(h.beh e E).ok l g
   have b:=l s J
   by_cases c:r.1=d
   .left
    rw[c]at n
    rw[z,c]
    have D:=b.a0
    have Q:=b.a1
    have H:=b.b0
    have b1:=b.b1
    refine u2O.mpr ⟨s.1.toNat,p9.mpr ⟨l0.mpr (by omega),?_⟩,f9.mpr ⟨s.2.toNat,l0.mpr (by omega),?_⟩⟩
    .rw[u0e D];exact q7 n
    .rw[u0e D,u0e H]
   .right
    have M:r.1.sum<=3:=by
     rcases h.prv r k with ⟨_,w⟩ | ⟨q,t,_,F,_,w,N⟩
     .exact absurd w c
     .obtain⟨K,y,rfl⟩:=xh.mp N
      have o:=(h.beh K y).ok l g
      have i:=l t F
      rw[<-o.len]at i
      rw[w,YC i]
      have:=o.sum
      omega
    refine ziI j.len j.nn ?_
    rw[<-u.len]at b
    rw[z,YC b]
    show _<=(2:Int)
    omega
 have L:=zhn h.nd A
 have n:=zmQ ⟨m.toNat,by omega⟩
 have M:(zi0 d).length<=16:=by
  unfold zi0
  rw[zoY λa=>by rw[u8,List.length_range]]
  have t:=zoB B 8
  have S:(d.take 8).sum<=d.sum:=by rw[u1n (by omega)];exact h8 _
  omega
 rw[u8,g0,j4]at L
 have n:(hp2 m.toNat 2).length<=45:=n
 omega
theorem zfe:∀ g:Hl,zfC (hK g)=some g
 | []=>rfl
 | x::g=>by
  show(zfC (hK g)).map (x::·)=_
  rw[zfe g]
  rfl
theorem zeH:∀ f:Fd,(∀ e∈f,e.1≠[])->zb2 (fdK f)=some (f.map (·.1))
 | [],_=>rfl
 | e::f,h=>by
  have b:=zeH f λx c=>h x (.tail _ c)
  show(match zfC (hK e.1)with | some (i::t)=>(zb2 (fdK f)).map ((i::t)::·) | _=>none)=_
  rw[zfe,b]
  cases a:e.1 with
  | nil=>exact absurd a (h e (.head _))
  | cons i t=>show some ((i::t)::f.map (·.1))=some (e.1::f.map (·.1));rw[a]
abbrev X4 :=zC (yu (zd 4 xz (za (zb 0) (za (zb 1) (za (zb 2) (za (zb 3) zc))))))
  (zC (yu (zd 2 yn (za (eFn zfX (za (zb 1) zc)) (za (eC (.int 12)) zc))))
  (zC (xo false 4 (zd 2 z8 (za (zb 0) (za (zb 1) zc))))
  (zC (sIf (tOf (eFn zom (za (yA (fLC (zjX (zb 4)) b1 yw (zi geD (zi ixD (zb 0) (zb 3)) (zb 4)))) zc))) (zO (eC .non)) zB)
  (zO (yA (fFn ze2 (za (zb 4) zc)))))))
def w1:=fnD 5 X4
theorem zbB {m:Int}{h:List Tie}{a:Hl}{p n:Int}(ok:yh m h)(j:(a.length:Int)=m)(b:∀ v∈a,0<=v)(u:a.sum<=12)(g:(a.sum.toNat+1) ^ m.toNat < sizeLine)(B:∀ f,zcF (yx m h) a f->f.length < 64)(t:0<=p/\p < m)(F:1<=n)(E:n<=300) :
 ∃ f,znb (yx m h) a f/\w1 [zM m h,hD a,.int p,.int n]=some (if (f.any λe=>decide (n<=vAt e.1 p))=true then .non else .lst ((Ye (f.map (·.1))).map hD)):=by
 have w:=ok.lo
 have A:=vw ok
 have l:HOk m.toNat a.sum a:=⟨by omega,b,h8 _⟩
 obtain⟨f,e,i⟩:=x8 ok j b (by omega) g
 refine⟨f,i,?_⟩
 have s:=i.ok.small ok j b g
 have r:=i.ok.each ok j b
 have q:∀ e∈f,e.1≠[]:=λe o z=>by
  have:=((i.ok.beh e o).ok A l).len
  rw[z]at this
  have C:0=m.toNat:=this
  omega
 refine yT (ρ:=[.v (zM m h),.v (hD a),.v (.int p),.v (.int n),.no]) rfl ?_
 unfold X4
 refine zl (zf (zaA ok j b (by omega) t F E)) ?_
 refine zl (zf (d:=.non) ?_) ?_
 .refine(WA (ds:=[.int a.sum,.int 12]) ?_ rfl).trans (w6 u)
  show(zfX [.tup (a.map .int)]).bind (λd=>(some [D.int 12]).map (d::·))=_
  rw[Zz]
  rfl
 refine zl (yr (d:=.dct true true (fdK f) (fdV f)) e) ?_
 refine yb (zbD (c:=f.any λe=>decide (n<=vAt e.1 p)) ?_ (λc=>?_) (λc=>Z9 rfl ?_))
 .refine Xc (zpy (ds:=[.lst (f.map λe=>.bl (decide (n<=vAt e.1 p)))]) (zW (zeN ?_) Zt) (zey _ f))
  unfold fLC
  show((WP (.dct true true (fdK f) (fdV f))).bind λk=>if lim k.length=true then _ else none)=_
  rw[Zw,j7,t6 (show lim (f.map λe=>hD e.1).length=true from q7 (by rw[u8];exact f6 s))]
  refine Zc (λe:Hl × Option (Hl × Tie)=>hD e.1) _ f λe o=>⟨[some (hD e.1)],rfl,rfl,?_⟩
  have H:=(r e o).len
  exact yl (x:=.int (vAt e.1 p)) (y:=.int n) (yl (x:=hD e.1) (y:=.int p) rfl rfl (wQ t.1 (by omega))) rfl rfl
 .rw[t6 c]
  exact yt rfl rfl
 .rw[t9 (by rw[c];exact u7)]
  have G:ze2 [.dct true true (fdK f) (fdV f)]=some ((Ye (f.map (·.1))).map hD):=by
   show(if (fdK f).length < 64 then _ else none)=_
   rw[t6 (by unfold fdK;rw[u8];exact B f i.ok),zeH f q]
   rfl
  exact yt (zG (zeN (zoN (ds:=[_]) rfl G))) rfl
theorem za7 (T:Txt P w K mg base ad):T.Pr 39 9 4 w1:=by
 have G_must_be_at_most:=xr T
 have G_heaps_behind:=wf T
 have G_must_be_asked:=wI T
 walk_at "p"
abbrev zgp :=wG (xEx (zL 1 zv (za (zb 0) zc))) (yu (zd 1 zh (za (zb 0) zc)))
  (xEx (zL 2 zK (za (zb 0) (za (zb 1) zc))))
def YG:=fnX 3 zgp
theorem zd1 (T:Txt P w K mg base ad):T.Px 36 8 2 YG:=by
 have G_must_be_web:=zk T
 have X_must_be_web:=zx T
 have X_must_be_heap:=zU T
 walk_at "x"
abbrev Wf :=wG (xEx (zL 1 zv (za (zb 0) zc))) (yu (zd 1 zh (za (zb 0) zc)))
  (wG (xEx (zL 2 zK (za (zb 0) (za (zb 1) zc)))) (yu (zd 2 zD (za (zb 0) (za (zb 1) zc))))
  (xEx (zL 2 zP (za (zb 0) (za (zb 2) zc)))))
def xO:=fnX 4 Wf
theorem wj (T:Txt P w K mg base ad):T.Px 34 8 4 xO:=by
 have G_must_be_web:=zk T
 have X_must_be_web:=zx T
 have X_must_be_place:=yo T
 have G_must_be_heap:=zJ T
 have X_must_be_heap:=zU T
 walk_at "x"
abbrev zkF :=xEx (zL 4 xO (za (zb 0) (za (zb 1) (za (zb 2) (za (zb 3) zc)))))
def WC:=fnX 6 zkF
theorem zhR (T:Txt P w K mg base ad):T.Px 35 9 4 WC:=by
 have X_must_be_asked:=wj T
 walk_at "x"
abbrev zgd :=wG (xEx (zL 1 zv (za (zb 0) zc))) (yu (zd 1 zh (za (zb 0) zc)))
  (wG (xEx (zL 2 zK (za (zb 0) (za (zb 1) zc)))) (yu (zd 2 zD (za (zb 0) (za (zb 1) zc))))
  (xEx (zL 2 zP (za (zb 0) (za (zb 2) zc)))))
def YQ:=fnX 3 zgd
theorem zd7 (T:Txt P w K mg base ad):T.Px 32 8 3 YQ:=by
 have G_must_be_web:=zk T
 have X_must_be_web:=zx T
 have X_must_be_place:=yo T
 have G_must_be_heap:=zJ T
 have X_must_be_heap:=zU T
 walk_at "x"
abbrev WV :=xEx (zL 4 xO (za (zb 0) (za (zb 1) (za (zb 2) (za (zb 3) zc)))))
def x6:=fnX 7 WV
theorem Wd (T:Txt P w K mg base ad):T.Px 38 9 5 x6:=by
 have X_must_be_asked:=wj T
 walk_at "x"
abbrev zaW :=xEx (zL 4 xO (za (zb 0) (za (zb 1) (za (zb 2) (za (zb 3) zc)))))
def wO:=fnX 5 zaW
theorem VJ (T:Txt P w K mg base ad):T.Px 39 9 4 wO:=by
 have X_must_be_asked:=wj T
 walk_at "x"
abbrev zbg :=wG (xEx (zL 1 zv (za (zb 0) zc))) (yu (zd 1 zh (za (zb 0) zc)))
  (xEx (zL 2 zK (za (zb 0) (za (zb 1) zc))))
def wN:=fnX 2 zbg
theorem VR (T:Txt P w K mg base ad):T.Px 25 8 2 wN:=by
 have G_must_be_web:=zk T
 have X_must_be_web:=zx T
 have X_must_be_heap:=zU T
 walk_at "x"
abbrev zbY :=zC (yu (zd 1 zh (za (zb 0) zc)))
  (zC (yu (zd 2 zI (za (zb 0) (za (zb 1) zc))))
  (zO (zd 2 zV (za (zb 0) (za (zb 1) zc)))))
def Yg:=fnD 2 zbY
theorem V3 (T:Txt P w K mg base ad):T.Pr 15 8 2 Yg:=by
 have G_must_be_web:=zk T
 have G_must_be_place:=yd T
 have G_neighbours:=vH T
 walk_at "p"
abbrev zgq :=wG (xEx (zL 1 zv (za (zb 0) zc))) (yu (zd 1 zh (za (zb 0) zc)))
  (xEx (zL 2 zP (za (zb 0) (za (zb 1) zc))))
def YT:=fnX 2 zgq
theorem zdT (T:Txt P w K mg base ad):T.Px 15 8 2 YT:=by
 have G_must_be_web:=zk T
 have X_must_be_web:=zx T
 have X_must_be_place:=yo T
 walk_at "x"
abbrev zpW :=zC (yu (zd 1 zh (za (zb 0) zc)))
  (zC (yu (zd 2 zI (za (zb 0) (za (zb 1) zc))))
  (zC (yu (zd 2 zI (za (zb 0) (za (zb 2) zc))))
  (zO (zi ixD (zd 2 Zl (za (zb 0) (za (zb 1) zc))) (zb 2)))))
def zcw:=fnD 3 zpW
theorem zl0 (T:Txt P w K mg base ad):T.Pr 16 8 3 zcw:=by
 have G_must_be_web:=zk T
 have G_must_be_place:=yd T
 have G_ties_away:=zbW T
 walk_at "p"
abbrev zpQ :=wG (xEx (zL 1 zv (za (zb 0) zc))) (yu (zd 1 zh (za (zb 0) zc)))
  (wG (xEx (zL 2 zP (za (zb 0) (za (zb 1) zc)))) (yu (zd 2 zI (za (zb 0) (za (zb 1) zc))))
  (xEx (zL 2 zP (za (zb 0) (za (zb 2) zc)))))
def WX:=fnX 3 zpQ
theorem zok (T:Txt P w K mg base ad):T.Px 16 8 3 WX:=by
 have G_must_be_web:=zk T
 have X_must_be_web:=zx T
 have G_must_be_place:=yd T
 have X_must_be_place:=yo T
 walk_at "x"
abbrev zk4 :=zC (yu (zd 1 zh (za (zb 0) zc)))
  sNo
def Wo:=fnD 5 zk4
theorem W6 (T:Txt P w K mg base ad):T.Pr 17 8 1 Wo:=by
 have G_must_be_web:=zk T
 walk_at "p"
abbrev zi8 :=xEx (zL 1 zv (za (zb 0) zc))
def Z0:=fnX 5 zi8
theorem zau (T:Txt P w K mg base ad):T.Px 17 8 1 Z0:=by
 have X_must_be_web:=zx T
 walk_at "x"
abbrev zdO :=zO (zi xg (eFn YR (za (zd 1 Wo (za (zb 0) zc)) zc)) (eC (.int 1)))
def vL:=fnD 1 zdO
theorem Yt (T:Txt P w K mg base ad):T.Pr 18 9 1 vL:=by
 have G_pieces:=W6 T
 walk_at "q"
abbrev Ys :=xEx (zL 1 Z0 (za (zb 0) zc))
def w8:=fnX 1 Ys
theorem ZY (T:Txt P w K mg base ad):T.Px 18 9 1 w8:=by
 letI:KK:=⟨K⟩
 have X_pieces:=zau T
 refine Y0 (cl:=clT ad) (N:=(Rw 18).N) (ps:=(Rw 18).ps) (T.d 18).fn (sc 18) (gx:=Ys) λb A outer s H E a=>?_
 unfold Ys
 exact(yI (zam (zqq (zkJ rfl (T.z "len" (by decide)) zag (za1 (vg (X_pieces.mono (by decide)) wo a rfl (T.d 17).at_ (T.d 17).kp (T.d 17).bd (zn (edv 0) zN)))) (zZ zX) (xY _))))
abbrev zi9 :=zO (v9 (zd 1 vL (za (zb 0) zc)) (zi xg (eFn YR (za (zi ixD (zb 0) (eC (.int 1))) zc)) (zi vD (zi ixD (zb 0) (eC (.int 0))) (eC (.int 1)))))
def Vd:=fnD 1 zi9
theorem V7 (T:Txt P w K mg base ad):T.Pr 19 10 1 Vd:=by
 have G_is_joined:=Yt T
 walk_at "q"
abbrev Xm :=xEx (zL 1 w8 (za (zb 0) zc))
def Xe:=fnX 1 Xm
theorem zdJ (T:Txt P w K mg base ad):T.Px 19 10 1 Xe:=by
 letI:KK:=⟨K⟩
 have X_is_joined:=ZY T
 refine Y0 (cl:=clT ad) (N:=(Rw 19).N) (ps:=(Rw 19).ps) (T.d 19).fn (sc 19) (gx:=Xm) λb A outer s H E a=>?_
 unfold Xm
 exact(yI (zam (zpV (vg (X_is_joined.mono (by decide)) wo a rfl (T.d 18).at_ (T.d 18).kp (T.d 18).bd (zn (edv 0) zN)) (zih (ZU (zeW a) zbn (xY _) (y8 vd zaT rfl (T.z "len" (by decide)) zag (zn (ZZ (edv 0) (zZ zX) (λ_ _=>rfl)) zN)) (X3 (ZZ (edv 0) (zZ zX) (λ_ _=>rfl)) (zZ zX)))))))
abbrev zil :=zC (yu (zd 1 zh (za (zb 0) zc)))
  sNo
def WU:=fnD 2 zil
theorem zaa (T:Txt P w K mg base ad):T.Pr 21 8 2 WU:=by
 have G_must_be_web:=zk T
 walk_at "p"
abbrev zfM :=xEx (zL 1 zv (za (zb 0) zc))
def Xo:=fnX 2 zfM
theorem zdm (T:Txt P w K mg base ad):T.Px 21 8 2 Xo:=by
 have X_must_be_web:=zx T
 walk_at "x"
abbrev Vc :=
 sNo
def zbQ:=fnD 2 Vc
theorem zfD (T:Txt P w K mg base ad):T.Pr 23 1 2 zbQ:=by
 letI:KK:=⟨K⟩
 refine Vz (N:=(Rw 23).N) (ps:=(Rw 23).ps) (T.d 23).fn (sc 23) (g:=Vc) λa A outer s H E b=>?_
 unfold Vc
 exact ZP
abbrev zkw :=zC (sIf (yR (tOf (zd 2 zbQ (za (zb 0) (za (zb 6) zc))))) (zO (yY (za (zb 3) (za (yY (za (eC (.str "form")) (za (zb 5) zc))) zc)))) zB)
  (zC (sIf (tOf (zi ltD (zi ixD (zb 4) (zi ixD (zb 6) (eC (.int 0)))) (eC (.int 2)))) (zO (yY (za (zb 3) (za (yY (za (eC (.str "bare")) (za (zb 5) zc))) zc)))) zB)
  (zC (xo false 4 (zd 2 ZE (za (zb 4) (za (zb 6) zc))))
  (Yw false 3 (zb 4))))
abbrev zo7 :=zC (sIf (yR (tOf (eUn (xS .list) (zb 2)))) (zO (yY (za (yA (zQ zc)) (za (yY (za (eC (.str "list")) (za (eC (.int 0)) zc))) zc)))) zB)
  (zC (Ya 3 (zQ zc))
  (zC (xo false 4 (zb 1))
  (zC (vZ (y6 (za (zb 2) zc)) (Z8 2 (xH (yF 5) (xH (yF 6) Xp))) zkw)
  (sFz 3 (zO (yY (za (zb 3) (za (eC .non) zc))))))))
def zbI:=fnD 7 zo7
theorem zdS (T:Txt P w K mg base ad):T.Pr 27 2 3 zbI:=by
 have G_is_step:=zfD T
 have G_stepped:=zab T
 walk_at "p"
abbrev ze1 :=zC (yu (zd 1 zh (za (zb 0) zc)))
  (zC (yu (zd 2 zD (za (zb 0) (za (zb 1) zc))))
  (zC (xo false 3 (zd 3 zbI (za (zb 0) (za (zb 1) (za (zb 2) zc)))))
  (zC (xo false 4 (zi ixD (zb 3) (eC (.int 1))))
  (zC (sIf (tOf (zi z0 (zb 4) (eC .non))) sNo zB)
  (zO (zi ixD (zb 3) (eC (.int 0))))))))
def ZB:=fnD 5 ze1
theorem zc0 (T:Txt P w K mg base ad):T.Pr 28 8 3 ZB:=by
 have G_must_be_web:=zk T
 have G_must_be_heap:=zJ T
 have G_walk:=zdS T
 walk_at "p"
abbrev ziB :=wG (xEx (zL 1 zv (za (zb 0) zc))) (yu (zd 1 zh (za (zb 0) zc)))
  (xEx (zL 2 zK (za (zb 0) (za (zb 1) zc))))
def ZS:=fnX 5 ziB
theorem zfA (T:Txt P w K mg base ad):T.Px 28 8 3 ZS:=by
 have G_must_be_web:=zk T
 have X_must_be_web:=zx T
 have X_must_be_heap:=zU T
 walk_at "x"
abbrev ZX :=zC (yu (zd 1 zh (za (zb 0) zc)))
  (zC (yu (zd 2 zD (za (zb 0) (za (zb 1) zc))))
  (zO (zi ixD (zd 3 zbI (za (zb 0) (za (zb 1) (za (zb 2) zc)))) (eC (.int 1)))))
def xX:=fnD 3 ZX
theorem YY (T:Txt P w K mg base ad):T.Pr 29 8 3 xX:=by
 have G_must_be_web:=zk T
 have G_must_be_heap:=zJ T
 have G_walk:=zdS T
 walk_at "p"
abbrev VT :=wG (xEx (zL 1 zv (za (zb 0) zc))) (yu (zd 1 zh (za (zb 0) zc)))
  (xEx (zL 2 zK (za (zb 0) (za (zb 1) zc))))
def ws:=fnX 3 VT
theorem Vx (T:Txt P w K mg base ad):T.Px 29 8 3 ws:=by
 have G_must_be_web:=zk T
 have X_must_be_web:=zx T
 have X_must_be_heap:=zU T
 walk_at "x"
abbrev zer :=zC (yu (zd 1 zh (za (zb 0) zc)))
  (zC (yu (zd 2 zD (za (zb 0) (za (zb 1) zc))))
  (zC (yu (zd 2 zI (za (zb 0) (za (zb 2) zc))))
  (zC (yu (zd 3 xN (za (zb 3) (za (eC (.int 1)) (za (eC (.int 300)) zc)))))
  (zC (xo false 5 (zd 3 zbI (za (zb 0) (za (zb 1) (za (zb 4) zc)))))
  (zC (sIf (tOf (zi z0 (zi ixD (zb 5) (eC (.int 1))) (eC .non))) (zO (eC (.bl false))) zB)
  (zC (xo false 6 (zi ixD (zi wS (yA (zQ (za (zb 1) zc))) (zi ixD (zb 5) (eC (.int 0)))) (eUn Y8 (eC (.int 1)))))
  (zO (zi geD (zi ixD (zb 6) (zb 2)) (zb 3)))))))))
def ZI:=fnD 7 zer
theorem zcC (T:Txt P w K mg base ad):T.Pr 30 8 5 ZI:=by
 have G_must_be_within:=vx T
 have G_must_be_web:=zk T
 have G_must_be_place:=yd T
 have G_must_be_heap:=zJ T
 have G_walk:=zdS T
 walk_at "p"
abbrev zjE :=wG (xEx (zL 1 zv (za (zb 0) zc))) (yu (zd 1 zh (za (zb 0) zc)))
  (wG (xEx (zL 2 zK (za (zb 0) (za (zb 1) zc)))) (yu (zd 2 zD (za (zb 0) (za (zb 1) zc))))
  (xEx (zL 2 zP (za (zb 0) (za (zb 2) zc)))))
def ZW:=fnX 7 zjE
theorem zgx (T:Txt P w K mg base ad):T.Px 30 8 5 ZW:=by
 have G_must_be_web:=zk T
 have X_must_be_web:=zx T
 have X_must_be_place:=yo T
 have G_must_be_heap:=zJ T
 have X_must_be_heap:=zU T
 walk_at "x"
abbrev X9 :=zC (yu (zd 1 zh (za (zb 0) zc)))
  (zC (yu (zd 2 zI (za (zb 0) (za (zb 1) zc))))
  sNo)
def wC:=fnD 3 X9
theorem vn (T:Txt P w K mg base ad):T.Pr 41 8 3 wC:=by
 have G_must_be_web:=zk T
 have G_must_be_place:=yd T
 walk_at "p"
abbrev Xs :=wG (xEx (zL 1 zv (za (zb 0) zc))) (yu (zd 1 zh (za (zb 0) zc)))
  (xEx (zL 2 zP (za (zb 0) (za (zb 1) zc))))
def yV:=fnX 3 Xs
theorem vc (T:Txt P w K mg base ad):T.Px 41 8 3 yV:=by
 have G_must_be_web:=zk T
 have X_must_be_web:=zx T
 have X_must_be_place:=yo T
 walk_at "x"
abbrev znG :=zC (yu (zd 3 wC (za (zb 0) (za (zb 1) (za (zb 2) zc)))))
  sNo
def zdH:=fnD 5 znG
theorem ze6 (T:Txt P w K mg base ad):T.Pr 46 9 4 zdH:=by
 have G_must_be_wanted:=vn T
 walk_at "p"
abbrev zkc :=xEx (zL 3 yV (za (zb 0) (za (zb 1) (za (zb 2) zc))))
def zbo:=fnX 5 zkc
theorem ziy (T:Txt P w K mg base ad):T.Px 46 9 4 zbo:=by
 have X_must_be_wanted:=vc T
 walk_at "x"
abbrev zbq :=zC (yu (zd 3 wC (za (zb 0) (za (zb 1) (za (zb 2) zc)))))
  sNo
def wR:=fnD 3 zbq
theorem vk (T:Txt P w K mg base ad):T.Pr 47 9 3 wR:=by
 have G_must_be_wanted:=vn T
 walk_at "p"
abbrev VV :=xEx (zL 3 yV (za (zb 0) (za (zb 1) (za (zb 2) zc))))
def wu:=fnX 3 VV
theorem wU (T:Txt P w K mg base ad):T.Px 47 9 3 wu:=by
 have X_must_be_wanted:=vc T
 walk_at "x"
abbrev zqw :=zO (eFn YR (za (zd 3 wR (za (zb 0) (za (zb 1) (za (zb 2) zc)))) zc))
def zg9:=fnD 3 zqw
theorem ziH (T:Txt P w K mg base ad):T.Pr 48 10 3 zg9:=by
 have G_all_failing:=vk T
 walk_at "q"
abbrev zdX :=xEx (zL 3 wu (za (zb 0) (za (zb 1) (za (zb 2) zc))))
def zef:=fnX 3 zdX
theorem zko (T:Txt P w K mg base ad):T.Px 48 10 3 zef:=by
 letI:KK:=⟨K⟩
 have X_all_failing:=wU T
 refine Y0 (cl:=clT ad) (N:=(Rw 48).N) (ps:=(Rw 48).ps) (T.d 48).fn (sc 48) (gx:=zdX) λb A outer s H E a=>?_
 unfold zdX
 exact(yI (zam (zkJ rfl (T.z "len" (by decide)) zag (za1 (vg (X_all_failing.mono (by decide)) wo a rfl (T.d 47).at_ (T.d 47).kp (T.d 47).bd (zn (edv 0) (zn (edv 1) (zn (edv 2) zN))))))))
abbrev zm4 :=zO (yA (fFn zi3 (za (zi ixD (zd 3 wR (za (zb 0) (za (zb 1) (za (zb 2) zc)))) (eUn Y8 (eC (.int 1)))) zc)))
def zdk:=fnD 3 zm4
theorem zeI (T:Txt P w K mg base ad):T.Pr 49 10 3 zdk:=by
 have G_all_failing:=vk T
 walk_at "q"
abbrev zaP :=xEx (zL 3 wu (za (zb 0) (za (zb 1) (za (zb 2) zc))))
def za2:=fnX 3 zaP
theorem zhl (T:Txt P w K mg base ad):T.Px 49 10 3 za2:=by
 letI:KK:=⟨K⟩
 have X_all_failing:=wU T
 refine Y0 (cl:=clT ad) (N:=(Rw 49).N) (ps:=(Rw 49).ps) (T.d 49).fn (sc 49) (gx:=zaP) λb A outer s H E a=>?_
 unfold zaP
 exact(yI (zam (zkJ rfl (T.z "sorted" (by decide)) Z2 (za1 (zrF (vg (X_all_failing.mono (by decide)) wo a rfl (T.d 47).at_ (T.d 47).kp (T.d 47).bd (zn (edv 0) (zn (edv 1) (zn (edv 2) zN)))) (zjk (zZ zX)) (λ_ _=>rfl))))))
abbrev zfT :=zC (yu (zd 1 zh (za (zb 0) zc)))
  sNo
def zap:=fnD 4 zfT
theorem zdB (T:Txt P w K mg base ad):T.Pr 50 8 2 zap:=by
 have G_must_be_web:=zk T
 walk_at "p"
abbrev zdK :=xEx (zL 1 zv (za (zb 0) zc))
def Zg:=fnX 4 zdK
theorem zcr (T:Txt P w K mg base ad):T.Px 50 8 2 Zg:=by
 have X_must_be_web:=zx T
 walk_at "x"
abbrev zdx :=zO (eFn zfX (za (yA (fLC (iOf (zd 3 wR (za (zb 0) (za (zb 1) (za (zb 2) zc))))) b1 yw (eFn zn3 (za (zb 0) zc)))) zc))
def W9:=fnD 3 zdx
theorem zb0 (T:Txt P w K mg base ad):T.Pr 51 10 3 W9:=by
 have G_all_failing:=vk T
 walk_at "q"
abbrev Yj :=xEx (zL 3 wu (za (zb 0) (za (zb 1) (za (zb 2) zc))))
def Ym:=fnX 3 Yj
theorem zaJ (T:Txt P w K mg base ad):T.Px 51 10 3 Ym:=by
 letI:KK:=⟨K⟩
 have X_all_failing:=wU T
 refine Y0 (cl:=clT ad) (N:=(Rw 51).N) (ps:=(Rw 51).ps) (T.d 51).fn (sc 51) (gx:=Yj) λb A outer s H E a=>?_
 unfold Yj
 exact(yI (zam (zkJ rfl (T.z "sum" (by decide)) zig (za1 (zpf (L:=["level"]) (M:=["web","place","m"]) (ZV (by rfl) (by rfl) (by rfl) (by with_unfolding_all rfl) (by rfl) (by rfl) (by kernel_rfl) wk) (vg (X_all_failing.mono (by decide)) wo a rfl (T.d 47).at_ (T.d 47).kp (T.d 47).bd (zn (edv 0) (zn (edv 1) (zn (edv 2) zN)))))))))
abbrev vm :=
 sNo
def Y2:=fnD 2 vm
theorem WQ (T:Txt P w K mg base ad):T.Pr 52 1 2 Y2:=by
 letI:KK:=⟨K⟩
 refine Vz (N:=(Rw 52).N) (ps:=(Rw 52).ps) (T.d 52).fn (sc 52) (g:=vm) λa A outer s H E b=>?_
 unfold vm
 exact ZP
abbrev ZL :=zC (sIf (yR (tOf (zd 2 Y2 (za (zb 0) (za (zb 3) zc))))) (zO (eC (.bl false))) zB)
  (sIf (xj (tOf (zi gtD (zb 2) (eC (.int 0)))) (tOf (zi leT (eSl slD (zb 3) xE (xD (eC (.int 2)))) (eSl slD (zi ixD (zb 1) (zi vD (zb 2) (eC (.int 1)))) xE (xD (eC (.int 2))))))) (zO (eC (.bl false))) zB)
abbrev Wb :=zC (sIf (yR (tOf (eUn (xS .tuple) (zb 1)))) (zO (eC (.bl false))) zB)
  (zC (vZ (y6 (za (zb 1) zc)) (Z8 2 (xH (yF 2) (xH (yF 3) Xp))) ZL)
  (zO (eC (.bl true))))
def vY:=fnD 4 Wb
theorem Xr (T:Txt P w K mg base ad):T.Pr 53 2 2 vY:=by
 have G_is_tally_row:=WQ T
 walk_at "p"
abbrev zgy :=zC (yu (zd 1 zh (za (zb 0) zc)))
  sNo
def XB:=fnD 2 zgy
theorem VD (T:Txt P w K mg base ad):T.Pr 54 8 2 XB:=by
 have G_must_be_web:=zk T
 walk_at "p"
abbrev zdy :=xEx (zL 1 zv (za (zb 0) zc))
def Zo:=fnX 2 zdy
theorem zb8 (T:Txt P w K mg base ad):T.Px 54 8 2 Zo:=by
 have X_must_be_web:=zx T
 walk_at "x"
abbrev Vg :=sIf (yR (tOf (zd 2 vY (za (zb 0) (za (zb 1) zc))))) sNo zB
def x4:=fnD 2 Vg
theorem vV (T:Txt P w K mg base ad):T.Pr 55 3 2 x4:=by
 have G_are_tally_rows:=Xr T
 walk_at "q"
abbrev zfy :=zC (yu (zd 1 zh (za (zb 0) zc)))
  sNo
def Xt:=fnD 5 zfy
theorem WT (T:Txt P w K mg base ad):T.Pr 57 8 2 Xt:=by
 have G_must_be_web:=zk T
 walk_at "p"
abbrev zc2 :=xEx (zL 1 zv (za (zb 0) zc))
def Zm:=fnX 5 zc2
theorem zcL (T:Txt P w K mg base ad):T.Px 57 8 2 Zm:=by
 have X_must_be_web:=zx T
 walk_at "x"
abbrev zlg :=zC (Y7 true 2 (zi ixD (zb 3) (eC (.int 0))) (zi vD (zi ixD (zb 2) (zi ixD (zb 3) (eC (.int 0)))) (zi v8 (eC (.int 2)) (zi ixD (zb 3) (eC (.int 2))))))
  (Y7 true 2 (zi ixD (zb 3) (eC (.int 1))) (zi wS (zi ixD (zb 2) (zi ixD (zb 3) (eC (.int 1)))) (zi ixD (zb 3) (eC (.int 2)))))
abbrev zl1 :=zC (Ya 2 (fFn wc (za (zb 0) zc)))
  (zC (vZ (iOf (zb 1)) (yF 3) zlg)
  (sFz 2 (zO (eFn yS (za (zb 2) zc)))))
def zeE:=fnD 4 zl1
theorem zh4 (T:Txt P w K mg base ad):T.Pr 58 1 2 zeE:=by
 walk_at "p"
abbrev zbS :=zC (yu (zd 1 zh (za (zb 0) zc)))
  (zC (yu (zd 2 zD (za (zb 0) (za (zb 1) zc))))
  (zC (yu (zd 2 x4 (za (zb 0) (za (zb 2) zc))))
  (zO (zd 2 zeE (za (zb 1) (za (zb 2) zc))))))
def Yd:=fnD 3 zbS
theorem zao (T:Txt P w K mg base ad):T.Pr 59 8 3 Yd:=by
 have G_must_be_web:=zk T
 have G_must_be_heap:=zJ T
 have G_must_be_tally:=vV T
 have G_left:=zh4 T
 walk_at "p"
abbrev zgr :=wG (xEx (zL 1 zv (za (zb 0) zc))) (yu (zd 1 zh (za (zb 0) zc)))
  (xEx (zL 2 zK (za (zb 0) (za (zb 1) zc))))
def YJ:=fnX 3 zgr
theorem zdG (T:Txt P w K mg base ad):T.Px 59 8 3 YJ:=by
 have G_must_be_web:=zk T
 have X_must_be_web:=zx T
 have X_must_be_heap:=zU T
 walk_at "x"
abbrev za0 :=zO (yA (fLC (iOf (zb 0)) b1 (tOf (eFn zom (za (yA (fLC (iOf (zb 2)) b1 yw (v9 (zi xg (zi ixD (zb 0) (eC (.int 0))) (zb 1)) (zi inD (zi ixD (zb 0) (eC (.int 1))) (zb 2))))) zc))) (zb 0)))
def zaO:=fnD 2 za0
theorem zis (T:Txt P w K mg base ad):T.Pr 60 1 2 zaO:=by
 letI:KK:=⟨K⟩
 refine Vz (N:=(Rw 60).N) (ps:=(Rw 60).ps) (T.d 60).fn (sc 60) (g:=za0) λb A outer s H E a=>?_
 unfold za0
 exact(yy (V6 (Xi (zi6 (x0:="place") (M:=["places","steps"]) rfl (zlR (by rfl) (by rfl) (by rfl) (by with_unfolding_all rfl) (λ_=>rfl) (λ_=>rfl) (by rfl) (by rfl) (by kernel_rfl) (all_cons rfl (all_cons rfl wk))) (Y4 (edv 0)) gs1 rb1 (λ_ _ _ _=>(xR (i:=0) zo8 rfl (Or.inr rfl) (.inl rfl))) (λ_ _ _ _=>(V4 (y8 (Vy rfl) zd4 rfl (T.z "any" (by decide)) ziG (zn (Xi (zcP (L:=["step"]) (M:=["place","places","steps"]) rfl (ZV (by rfl) (by rfl) (by rfl) (by with_unfolding_all rfl) (by rfl) (by rfl) (by kernel_rfl) (all_cons rfl (all_cons rfl wk))) (Y4 (edv 2)) gs1 rb1 (λ_ _ _ _=>(xR (i:=0) zp1 rfl (Or.inl rfl) (.inr rfl))) (λ_ _ _ _=>(zlP (ZU (zeW a) zbn (xY _) (ZZ (edv 0) (zZ zX) (λ_ _=>rfl)) (edv 1)) (zih (ZU (ziW a) ziE (by with_unfolding_all rfl) (ZZ (edv 0) (zZ zX) (λ_ _=>rfl)) (edv 2))))))) zN)))) (λ_ _ _ _=>(edv 0))))))
abbrev zc5 :=zC (xo false 1 (zb 2))
  (xo false 2 (zd 2 zaO (za (zb 1) (za (zb 0) zc))))
abbrev zjL :=zC (xo false 1 (yA (fSS (yA (fLC (iOf (zb 0)) b1 yw (zi ixD (zb 0) (eC (.int 0))))))))
  (zC (xo false 2 (zd 2 zaO (za (zb 1) (za (zb 0) zc))))
  (zC (w4 (tOf (zi zlk (zb 2) (zb 1))) zc5 1)
  (zC (sIf (tOf (zi xg (eFn YR (za (zb 1) zc)) (eC (.int 0)))) (zO (eC .non)) zB)
  sNo)))
def Ve:=fnD 5 zjL
theorem zge (T:Txt P w K mg base ad):T.Pr 61 2 1 Ve:=by
 have G_led_on:=zis T
 walk_at "p"
abbrev zjd :=zC (yu (zd 1 zh (za (zb 0) zc)))
  sNo
def Vv:=fnD 2 zjd
theorem V9 (T:Txt P w K mg base ad):T.Pr 62 8 2 Vv:=by
 have G_must_be_web:=zk T
 walk_at "p"
abbrev zfH :=xEx (zL 1 zv (za (zb 0) zc))
def Xk:=fnX 2 zfH
theorem zdo (T:Txt P w K mg base ad):T.Px 62 8 2 Xk:=by
 have X_must_be_web:=zx T
 walk_at "x"
abbrev zkU :=zC (yu (zd 1 zh (za (zb 0) zc)))
  sNo
def zbj:=fnD 8 zkU
theorem zcn (T:Txt P w K mg base ad):T.Pr 64 8 2 zbj:=by
 have G_must_be_web:=zk T
 walk_at "p"
abbrev zhD :=xEx (zL 1 zv (za (zb 0) zc))
def Va:=fnX 8 zhD
theorem zfS (T:Txt P w K mg base ad):T.Px 64 8 2 Va:=by
 have X_must_be_web:=zx T
 walk_at "x"
abbrev X1 :=sIf (tOf (zi zl5 (zi ixD (zb 6) (eC (.int 0))) (zb 5))) (Wn 3 (yA (zrW zlA (yA (zQ (za (eSl slD (zb 6) xE (xD (eC (.int 2)))) zc))) (zi ixD (zb 6) (eC (.int 2)))))) zB
abbrev XT :=zC (xo false 5 (yA (fLC (iOf (zb 4)) b1 yw (zi ixD (zb 0) (eC (.int 1))))))
  (zC (vZ (iOf (zb 4)) (yF 6) X1)
  (xo false 4 (yA (fLC (iOf (zb 4)) b1 (tOf (zi inD (zi ixD (zb 0) (eC (.int 0))) (zb 6))) (zb 0)))))
abbrev YM :=zC (yu (zd 1 zh (za (zb 0) zc)))
  (zC (yu (zd 2 zD (za (zb 0) (za (zb 1) zc))))
  (zC (yu (zd 2 x4 (za (zb 0) (za (zb 2) zc))))
  (zC (sIf (Zp (tOf (zi z0 (zd 1 Ve (za (yA (fLC (iOf (zb 2)) b1 yw (eSl slD (zb 0) xE (xD (eC (.int 2)))))) zc)) (eC .non))) (tOf (zi ltD (eFn znA (za (zd 2 zeE (za (zb 1) (za (zb 2) zc))) zc)) (eC (.int 0))))) sNo zB)
  (zC (Ya 3 (zQ zc))
  (zC (xo false 4 (yA (fFn wc (za (zb 2) zc))))
  (zC (w4 (tOf (zi gtD (eFn YR (za (zb 4) zc)) (eC (.int 0)))) XT 1)
  (sFz 3 (zO (zb 3)))))))))
def vp:=fnD 7 YM
theorem Vo (T:Txt P w K mg base ad):T.Pr 65 8 3 vp:=by
 letI:KK:=⟨K⟩
 have G_must_be_web:=zk T
 have G_must_be_heap:=zJ T
 have G_must_be_tally:=vV T
 have G_left:=zh4 T
 have G_ring_of:=zge T
 refine Vz (N:=(Rw 65).N) (ps:=(Rw 65).ps) (T.d 65).fn (sc 65) (g:=YM) λd A outer s H E c=>?_
 unfold YM XT X1
 exact(zT (wW (yg G_must_be_web c rfl (T.d 10) (zn (edv 0) zN)))
  (zT (wW (yg G_must_be_heap c rfl (T.d 22) (zn (edv 0) (zn (edv 1) zN))))
  (zT (wW (yg G_must_be_tally c rfl (T.d 55) (zn (edv 0) (zn (edv 2) zN))))
  (zT (zdt (td_w (zpS (xp zbH zan (xY _) (yg G_ring_of c rfl (T.d 61) (zn (Xi (zcP (L:=["row"]) (M:=["web","heap","tally","steps","rows","ends","·row"]) rfl (ZV (by rfl) (by rfl) (by rfl) (by with_unfolding_all rfl) (by rfl) (by rfl) (by kernel_rfl) wk) (Y4 (edv 2)) gs1 rb1 (λ_ _ _ _=>(xR (i:=0) zgQ rfl (Or.inl rfl) (.inr rfl))) (λ_ _ _ _=>(zaX (edv 0) zdv (zdi (zZ zX)))))) zN)) (zjI ziC)) (zmc (xp We yc (xY _) (y8 (zgT rfl) zlu rfl (T.z "min" (by decide)) zlQ (zn (yg G_left c rfl (T.d 58) (zn (edv 1) (zn (edv 2) zN))) zN)) (zZ zX))))) (yy zew) zay)
  (zT (zh7 (i:=3) (sc 65).nd rfl (Or.inl rfl) (zah zN))
  (zT (X0 (m:=false) (i:=4) (sc 65).nd rfl (Or.inl rfl) (Xi (zhZ rfl (T.z "list" (by decide)) (zn (edv 2) zN))))
  (zT (zbe 1 u0H (xp zld yc (xY _) (y8 vd zaT rfl (T.z "len" (by decide)) zag (zn (edv 4) zN)) (zZ zX)) (zT (X0 (m:=false) (i:=5) (sc 65).nd rfl (Or.inr rfl) (Xi (zcP (L:=["row"]) (M:=["web","heap","tally","steps","rows","ends","·row"]) rfl (ZV (by rfl) (by rfl) (by rfl) (by with_unfolding_all rfl) (by rfl) (by rfl) (by kernel_rfl) wk) (Y4 (edv 4)) gs1 rb1 (λ_ _ _ _=>(xR (i:=0) zgQ rfl (Or.inl rfl) (.inr rfl))) (λ_ _ _ _=>(ZZ (edv 0) (zZ zX) (λ_ _=>rfl))))))
  (zT (zeT u0H rfl (Y4 (edv 4)) (zbA (xR (i:=6) (sc 65).nd rfl (Or.inl rfl))) (yy (zdt (xp (ziY c) ziT (by with_unfolding_all rfl) (ZZ (edv 6) (zZ zX) (λ_ _=>rfl)) (edv 5)) (yy (zmk (pv 3) (Xi (zmg (Xi (zah (zn (zaX (edv 6) zdv (zdi (zZ zX))) zN))) (ZZ (edv 6) (zZ zX) (λ_ _=>rfl)))) (λa b=>zfU l8 u2A u2C zb3 a b))) zay)))
  (yy (znF (m:=false) (i:=4) (zm8 (L:=["row"]) (M:=["web","heap","tally","steps","rows","ends","·row"]) (sc 65).nd rfl (Or.inl rfl) rfl (ZV (by rfl) (by rfl) (by rfl) (by with_unfolding_all rfl) (by rfl) (by rfl) (by kernel_rfl) (all_cons rfl wk)) (Y4 (edv 4)) gs1 rb1 (λ_ _ _ _=>(xR (i:=0) zgQ rfl (Or.inl rfl) (.inr rfl))) (λ_ _ _ _=>(xp (ziW c) ziE (by with_unfolding_all rfl) (ZZ (edv 0) (zZ zX) (λ_ _=>rfl)) (edv 6))) (λ_ _ _ _=>(edv 0))))))))
  (ze3 3 (yy (V6 (edv 3)))))))))))
abbrev zeb :=wG (xEx (zL 1 zv (za (zb 0) zc))) (yu (zd 1 zh (za (zb 0) zc)))
  (xEx (zL 2 zK (za (zb 0) (za (zb 1) zc))))
def vS:=fnX 7 zeb
theorem zcN (T:Txt P w K mg base ad):T.Px 65 8 3 vS:=by
 have G_must_be_web:=zk T
 have X_must_be_web:=zx T
 have X_must_be_heap:=zU T
 walk_at "x"
abbrev ZN :=zC (Wr false (zb 0) (Z8 2 (xH (yF 2) (xH (yF 3) Xp))))
  (zC (xo false 4 (yA (zQ (za (yA (zQ (za (zb 2) (za (zb 3) zc)))) (za (eC .non) (za (yY (za (eC (.int 9)) (za (yY zc) zc))) (za (yY (za (eC (.int 0)) (za (yY zc) zc))) (za (yY (za (zb 2) (za (yA (fFn wc (za (zb 3) zc))) zc))) (za (yY (za (zb 2) (za (zi wS (zb 3) (yY (za (yY (za (zi vD (zb 2) (eC (.int 1))) (za (zb 2) zc))) zc))) zc))) (za (yY (za (eC (.bl true)) (za (yY zc) zc))) zc))))))))))
  (zC (xo false 4 (zi wS (zb 4) (yA (zQ (za (yY (za (zb 2) (za (zb 3) (za (eC (.int 0)) zc)))) (za (yY (za (zb 2) zc)) (za (eC (.str "web")) (za (yY (za (zb 2) (za (zi wS (zb 3) (eSl slD (zi wS (zb 3) (yY (za (yY (za (eC (.int 0)) (za (eC (.int 0)) zc))) zc))) xE (xD (eC (.int 1))))) zc))) (za (yY (za (zb 2) (za (yY (za (yY (za (eC (.int 1)) (za (eC (.int 0)) zc))) zc)) zc))) (za (eC (.int 7)) zc))))))))))
  (zO (zi ixD (zb 4) (zi xI (zb 1) (eC (.int 13)))))))
def vG:=fnD 5 ZN
theorem V0 (T:Txt P w K mg base ad):T.Pr 71 1 2 vG:=by
 walk_at "p"
abbrev Yz :=zO (zi ixD (yA (zQ (za (eUn Y8 (eC (.int 1))) (za (zb 0) (za (eC (.bl true)) (za (eC .non) (za (eC (.str "0")) (za (yY (za (eC (.int 0)) zc)) (za (zi powD (eC (.int 10)) (eC (.int 30))) (za (eC (.bl false)) zc)))))))))) (zi xI (zb 1) (eC (.int 8))))
def wd:=fnD 2 Yz
theorem Wj (T:Txt P w K mg base ad):T.Pr 73 1 2 wd:=by
 walk_at "q"
abbrev vU :=zC (sIf (tOf (zi ltD (zb 0) (eC (.int 3)))) (zO (zr9 1 [vL,Vd,Wo] (zb 0) (za (zb 1) zc))) zB)
  (zC (sIf (tOf (zi xg (zb 0) (eC (.int 3)))) (zO (zd 2 WU (za (zb 1) (za (yY zc) zc)))) zB)
  (zC (sIf (tOf (zi xg (zb 0) (eC (.int 4)))) (zO (zd 2 XB (za (zb 1) (za (yY zc) zc)))) zB)
  (zC (sIf (tOf (zi xg (zb 0) (eC (.int 5)))) (zO (zd 2 Xt (za (zb 1) (za (yA (zQ zc)) zc)))) zB)
  (zC (sIf (tOf (zi xg (zb 0) (eC (.int 6)))) (zO (zd 2 Vv (za (zb 1) (za (yY zc) zc)))) zB)
  (zC (sIf (tOf (zi xg (zb 0) (eC (.int 7)))) (zO (zd 2 zbj (za (zb 1) (za (yY zc) zc)))) zB)
  (zO (zd 2 zap (za (zb 1) (za (eC (.int 1)) zc)))))))))
def ZT:=fnD 2 vU
theorem VS (T:Txt P w K mg base ad):T.Pr 74 11 2 ZT:=by
 letI:KK:=⟨K⟩
 have G_pieces:=W6 T
 have G_is_joined:=Yt T
 have G_is_tree:=V7 T
 have G_is_heap:=zaa T
 have G_need_all:=zdB T
 have G_is_tally:=VD T
 have G_tally_of:=WT T
 have G_ring_in:=V9 T
 have G_leaned:=zcn T
 refine Vz (N:=(Rw 74).N) (ps:=(Rw 74).ps) (T.d 74).fn (sc 74) (g:=vU) λb A outer s H E a=>?_
 unfold vU
 apply zT <;> walk_at "s"
 all_goals first | exact(zmp (vI (T.d 18).at_ (vI (T.d 19).at_ (vI (T.d 17).at_ zhy))) (.cons G_is_joined a (T.d 18).kp (T.d 18).bd (by decide) (.cons G_is_tree a (T.d 19).kp (T.d 19).bd (by decide) (.cons G_pieces a (T.d 17).kp (T.d 17).bd (by decide) .nil))) (edv 0) (zn (edv 1) zN))
abbrev zy :=wG (xIf (tOf (zi ltD (zb 0) (eC (.int 3)))) (xEx (xSel 1 [w8,Xe,Z0] (zb 0) (za (zb 1) zc))) xNo) (sIf (tOf (zi ltD (zb 0) (eC (.int 3)))) (zO (zr9 1 [vL,Vd,Wo] (zb 0) (za (zb 1) zc))) zB)
  (wG (xIf (tOf (zi xg (zb 0) (eC (.int 3)))) (xEx (zL 2 Xo (za (zb 1) (za (yY zc) zc)))) xNo) (sIf (tOf (zi xg (zb 0) (eC (.int 3)))) (zO (zd 2 WU (za (zb 1) (za (yY zc) zc)))) zB)
  (wG (xIf (tOf (zi xg (zb 0) (eC (.int 4)))) (xEx (zL 2 Zo (za (zb 1) (za (yY zc) zc)))) xNo) (sIf (tOf (zi xg (zb 0) (eC (.int 4)))) (zO (zd 2 XB (za (zb 1) (za (yY zc) zc)))) zB)
  (wG (xIf (tOf (zi xg (zb 0) (eC (.int 5)))) (xEx (zL 2 Zm (za (zb 1) (za (yA (zQ zc)) zc)))) xNo) (sIf (tOf (zi xg (zb 0) (eC (.int 5)))) (zO (zd 2 Xt (za (zb 1) (za (yA (zQ zc)) zc)))) zB)
  (wG (xIf (tOf (zi xg (zb 0) (eC (.int 6)))) (xEx (zL 2 Xk (za (zb 1) (za (yY zc) zc)))) xNo) (sIf (tOf (zi xg (zb 0) (eC (.int 6)))) (zO (zd 2 Vv (za (zb 1) (za (yY zc) zc)))) zB)
  (wG (xIf (tOf (zi xg (zb 0) (eC (.int 7)))) (xEx (zL 2 Va (za (zb 1) (za (yY zc) zc)))) xNo) (sIf (tOf (zi xg (zb 0) (eC (.int 7)))) (zO (zd 2 zbj (za (zb 1) (za (yY zc) zc)))) zB)
  (xEx (zL 2 Zg (za (zb 1) (za (eC (.int 1)) zc)))))))))
def Y3:=fnX 2 zy
theorem WL (T:Txt P w K mg base ad):T.Px 74 11 2 Y3:=by
 letI:KK:=⟨K⟩
 have G_pieces:=W6 T
 have X_pieces:=zau T
 have G_is_joined:=Yt T
 have X_is_joined:=ZY T
 have G_is_tree:=V7 T
 have X_is_tree:=zdJ T
 have G_is_heap:=zaa T
 have X_is_heap:=zdm T
 have X_need_all:=zcr T
 have G_is_tally:=VD T
 have X_is_tally:=zb8 T
 have G_tally_of:=WT T
 have X_tally_of:=zcL T
 have G_ring_in:=V9 T
 have X_ring_in:=zdo T
 have G_leaned:=zcn T
 have X_leaned:=zfS T
 refine Y0 (cl:=clT ad) (N:=(Rw 74).N) (ps:=(Rw 74).ps) (T.d 74).fn (sc 74) (gx:=zy) λb A outer s H E a=>?_
 (first | apply zoe | apply yI | apply W8) <;> walk_at "s"
 all_goals first | exact(zqI wo (vI (T.d 18).at_ (vI (T.d 19).at_ (vI (T.d 17).at_ zhy))) (.cons X_is_joined a (T.d 18).kp (T.d 18).bd (by decide) (.cons X_is_tree a (T.d 19).kp (T.d 19).bd (by decide) (.cons X_pieces a (T.d 17).kp (T.d 17).bd (by decide) .nil))) (edv 0) (zn (edv 1) zN)) | exact(zmp (vI (T.d 18).at_ (vI (T.d 19).at_ (vI (T.d 17).at_ zhy))) (.cons G_is_joined a (T.d 18).kp (T.d 18).bd (by decide) (.cons G_is_tree a (T.d 19).kp (T.d 19).bd (by decide) (.cons G_pieces a (T.d 17).kp (T.d 17).bd (by decide) .nil))) (edv 0) (zn (edv 1) zN))
abbrev yQ :=zC (sIf (tOf (zi xg (zb 0) (eC (.int 0)))) (zO (zd 2 xU (za (zb 1) (za (zb 2) zc)))) zB)
  (zC (sIf (tOf (zi xg (zb 0) (eC (.int 1)))) (zO (zd 3 ZB (za (zb 1) (za (zb 2) (za (yA (zQ zc)) zc))))) zB)
  (zC (sIf (tOf (zi xg (zb 0) (eC (.int 2)))) (zO (zd 3 xX (za (zb 1) (za (zb 2) (za (yA (zQ zc)) zc))))) zB)
  (zC (sIf (tOf (zi xg (zb 0) (eC (.int 3)))) (zO (zd 3 Yd (za (zb 1) (za (zb 2) (za (yY zc) zc))))) zB)
  (zC (sIf (tOf (zi xg (zb 0) (eC (.int 4)))) (zO (zd 3 vp (za (zb 1) (za (zb 2) (za (yY zc) zc))))) zB)
  (zO (zd 2 ZF (za (zb 1) (za (zb 2) zc))))))))
def ym:=fnD 3 yQ
theorem WZ (T:Txt P w K mg base ad):T.Pr 75 9 3 ym:=by
 have G_steps_from:=Z1 T
 have G_walked:=zc0 T
 have G_steps_wrong:=YY T
 have G_reached:=zf9 T
 have G_left_by:=zao T
 have G_in_order:=Vo T
 walk_at "p"
abbrev zm :=wG (xIf (tOf (zi xg (zb 0) (eC (.int 0)))) (xEx (zL 2 wN (za (zb 1) (za (zb 2) zc)))) xNo) (sIf (tOf (zi xg (zb 0) (eC (.int 0)))) (zO (zd 2 xU (za (zb 1) (za (zb 2) zc)))) zB)
  (wG (xIf (tOf (zi xg (zb 0) (eC (.int 1)))) (xEx (zL 3 ZS (za (zb 1) (za (zb 2) (za (yA (zQ zc)) zc))))) xNo) (sIf (tOf (zi xg (zb 0) (eC (.int 1)))) (zO (zd 3 ZB (za (zb 1) (za (zb 2) (za (yA (zQ zc)) zc))))) zB)
  (wG (xIf (tOf (zi xg (zb 0) (eC (.int 2)))) (xEx (zL 3 ws (za (zb 1) (za (zb 2) (za (yA (zQ zc)) zc))))) xNo) (sIf (tOf (zi xg (zb 0) (eC (.int 2)))) (zO (zd 3 xX (za (zb 1) (za (zb 2) (za (yA (zQ zc)) zc))))) zB)
  (wG (xIf (tOf (zi xg (zb 0) (eC (.int 3)))) (xEx (zL 3 YJ (za (zb 1) (za (zb 2) (za (yY zc) zc))))) xNo) (sIf (tOf (zi xg (zb 0) (eC (.int 3)))) (zO (zd 3 Yd (za (zb 1) (za (zb 2) (za (yY zc) zc))))) zB)
  (wG (xIf (tOf (zi xg (zb 0) (eC (.int 4)))) (xEx (zL 3 vS (za (zb 1) (za (zb 2) (za (yY zc) zc))))) xNo) (sIf (tOf (zi xg (zb 0) (eC (.int 4)))) (zO (zd 3 vp (za (zb 1) (za (zb 2) (za (yY zc) zc))))) zB)
  (xEx (zL 2 YG (za (zb 1) (za (zb 2) zc))))))))
def Yq:=fnX 3 zm
theorem Wm (T:Txt P w K mg base ad):T.Px 75 9 3 Yq:=by
 have G_steps_from:=Z1 T
 have X_steps_from:=VR T
 have G_walked:=zc0 T
 have X_walked:=zfA T
 have G_steps_wrong:=YY T
 have X_steps_wrong:=Vx T
 have X_reached:=zd1 T
 have G_left_by:=zao T
 have X_left_by:=zdG T
 have G_in_order:=Vo T
 have X_in_order:=zcN T
 walk_at "x"
abbrev xm :=zC (sIf (tOf (zi xg (zb 0) (eC (.int 0)))) (zO (zd 5 ZI (za (zb 1) (za (zb 2) (za (zb 3) (za (eC (.int 1)) (za (yA (zQ zc)) zc))))))) zB)
  (zC (sIf (tOf (zi xg (zb 0) (eC (.int 1)))) (zO (zd 3 Yy (za (zb 1) (za (zb 2) (za (zb 3) zc))))) zB)
  (zC (sIf (tOf (zi xg (zb 0) (eC (.int 2)))) (zO (zd 4 Vw (za (zb 1) (za (zb 2) (za (zb 3) (za (eC (.int 1)) zc)))))) zB)
  (zC (sIf (tOf (zi xg (zb 0) (eC (.int 3)))) (zO (zd 5 xJ (za (zb 1) (za (zb 2) (za (zb 3) (za (eC (.int 1)) (za (yA (zQ zc)) zc))))))) zB)
  (zO (zd 4 w1 (za (zb 1) (za (zb 2) (za (zb 3) (za (eC (.int 1)) zc)))))))))
def yN:=fnD 4 xm
theorem WM (T:Txt P w K mg base ad):T.Pr 76 10 4 yN:=by
 have G_brings:=zcC T
 have G_most_at:=zai T
 have G_reach:=zfi T
 have G_closed_holds:=Yn T
 have G_closed_for:=za7 T
 walk_at "p"
abbrev zw :=wG (xIf (tOf (zi xg (zb 0) (eC (.int 0)))) (xEx (zL 5 ZW (za (zb 1) (za (zb 2) (za (zb 3) (za (eC (.int 1)) (za (yA (zQ zc)) zc))))))) xNo) (sIf (tOf (zi xg (zb 0) (eC (.int 0)))) (zO (zd 5 ZI (za (zb 1) (za (zb 2) (za (zb 3) (za (eC (.int 1)) (za (yA (zQ zc)) zc))))))) zB)
  (wG (xIf (tOf (zi xg (zb 0) (eC (.int 1)))) (xEx (zL 3 YQ (za (zb 1) (za (zb 2) (za (zb 3) zc))))) xNo) (sIf (tOf (zi xg (zb 0) (eC (.int 1)))) (zO (zd 3 Yy (za (zb 1) (za (zb 2) (za (zb 3) zc))))) zB)
  (wG (xIf (tOf (zi xg (zb 0) (eC (.int 2)))) (xEx (zL 4 WC (za (zb 1) (za (zb 2) (za (zb 3) (za (eC (.int 1)) zc)))))) xNo) (sIf (tOf (zi xg (zb 0) (eC (.int 2)))) (zO (zd 4 Vw (za (zb 1) (za (zb 2) (za (zb 3) (za (eC (.int 1)) zc)))))) zB)
  (wG (xIf (tOf (zi xg (zb 0) (eC (.int 3)))) (xEx (zL 5 x6 (za (zb 1) (za (zb 2) (za (zb 3) (za (eC (.int 1)) (za (yA (zQ zc)) zc))))))) xNo) (sIf (tOf (zi xg (zb 0) (eC (.int 3)))) (zO (zd 5 xJ (za (zb 1) (za (zb 2) (za (zb 3) (za (eC (.int 1)) (za (yA (zQ zc)) zc))))))) zB)
  (xEx (zL 4 wO (za (zb 1) (za (zb 2) (za (zb 3) (za (eC (.int 1)) zc)))))))))
def Yi:=fnX 4 zw
theorem Wl (T:Txt P w K mg base ad):T.Px 76 10 4 Yi:=by
 have G_brings:=zcC T
 have X_brings:=zgx T
 have G_most_at:=zai T
 have X_most_at:=zd7 T
 have G_reach:=zfi T
 have X_reach:=zhR T
 have G_closed_holds:=Yn T
 have X_closed_holds:=Wd T
 have X_closed_for:=VJ T
 walk_at "x"
abbrev xZ :=zC (sIf (tOf (zi xg (zb 0) (eC (.int 0)))) (zO (zd 2 Yg (za (zb 1) (za (zb 2) zc)))) zB)
  (zC (sIf (tOf (zi xg (zb 0) (eC (.int 1)))) (zO (zd 3 zcw (za (zb 1) (za (eC (.int 0)) (za (zb 2) zc))))) zB)
  (zC (sIf (tOf (zi xg (zb 0) (eC (.int 2)))) (zO (zd 3 zcw (za (zb 1) (za (zb 2) (za (eC (.int 0)) zc))))) zB)
  (zC (sIf (tOf (zi xg (zb 0) (eC (.int 3)))) (zO (zd 4 zdH (za (zb 1) (za (zb 2) (za (eC (.int 1)) (za (eC (.int 0)) zc)))))) zB)
  (zC (sIf (tOf (zi xg (zb 0) (eC (.int 4)))) (zO (zd 3 zg9 (za (zb 1) (za (zb 2) (za (eC (.int 1)) zc))))) zB)
  (zC (sIf (tOf (zi xg (zb 0) (eC (.int 5)))) (zO (zd 3 zdk (za (zb 1) (za (zb 2) (za (eC (.int 1)) zc))))) zB)
  (zO (zd 3 W9 (za (zb 1) (za (zb 2) (za (eC (.int 1)) zc))))))))))
def xv:=fnD 3 xZ
theorem Wa (T:Txt P w K mg base ad):T.Pr 77 11 3 xv:=by
 have G_tied_to:=V3 T
 have G_far:=zl0 T
 have G_fails:=ze6 T
 have G_need:=ziH T
 have G_worst:=zeI T
 have G_fail_many:=zb0 T
 walk_at "p"
abbrev zq :=wG (xIf (tOf (zi xg (zb 0) (eC (.int 0)))) (xEx (zL 2 YT (za (zb 1) (za (zb 2) zc)))) xNo) (sIf (tOf (zi xg (zb 0) (eC (.int 0)))) (zO (zd 2 Yg (za (zb 1) (za (zb 2) zc)))) zB)
  (wG (xIf (tOf (zi xg (zb 0) (eC (.int 1)))) (xEx (zL 3 WX (za (zb 1) (za (eC (.int 0)) (za (zb 2) zc))))) xNo) (sIf (tOf (zi xg (zb 0) (eC (.int 1)))) (zO (zd 3 zcw (za (zb 1) (za (eC (.int 0)) (za (zb 2) zc))))) zB)
  (wG (xIf (tOf (zi xg (zb 0) (eC (.int 2)))) (xEx (zL 3 WX (za (zb 1) (za (zb 2) (za (eC (.int 0)) zc))))) xNo) (sIf (tOf (zi xg (zb 0) (eC (.int 2)))) (zO (zd 3 zcw (za (zb 1) (za (zb 2) (za (eC (.int 0)) zc))))) zB)
  (wG (xIf (tOf (zi xg (zb 0) (eC (.int 3)))) (xEx (zL 4 zbo (za (zb 1) (za (zb 2) (za (eC (.int 1)) (za (eC (.int 0)) zc)))))) xNo) (sIf (tOf (zi xg (zb 0) (eC (.int 3)))) (zO (zd 4 zdH (za (zb 1) (za (zb 2) (za (eC (.int 1)) (za (eC (.int 0)) zc)))))) zB)
  (wG (xIf (tOf (zi xg (zb 0) (eC (.int 4)))) (xEx (zL 3 zef (za (zb 1) (za (zb 2) (za (eC (.int 1)) zc))))) xNo) (sIf (tOf (zi xg (zb 0) (eC (.int 4)))) (zO (zd 3 zg9 (za (zb 1) (za (zb 2) (za (eC (.int 1)) zc))))) zB)
  (wG (xIf (tOf (zi xg (zb 0) (eC (.int 5)))) (xEx (zL 3 za2 (za (zb 1) (za (zb 2) (za (eC (.int 1)) zc))))) xNo) (sIf (tOf (zi xg (zb 0) (eC (.int 5)))) (zO (zd 3 zdk (za (zb 1) (za (zb 2) (za (eC (.int 1)) zc))))) zB)
  (xEx (zL 3 Ym (za (zb 1) (za (zb 2) (za (eC (.int 1)) zc))))))))))
def v2:=fnX 3 zq
theorem Xg (T:Txt P w K mg base ad):T.Px 77 11 3 v2:=by
 have G_tied_to:=V3 T
 have X_tied_to:=zdT T
 have G_far:=zl0 T
 have X_far:=zok T
 have G_fails:=ze6 T
 have X_fails:=ziy T
 have G_need:=ziH T
 have X_need:=zko T
 have G_worst:=zeI T
 have X_worst:=zhl T
 have X_fail_many:=zaJ T
 walk_at "x"
theorem zbt:bootBuiltins "ValueError"=some (.type "ValueError"):=by decide +kernel
theorem zkQ {n:Nat}(h:n<=13):n<=sizeLine:=by rw[u0r];omega
theorem VL (T:Txt P w K mg base ad):zh9 P w K mg base 1 (ad.f 66) (ad.e 66) (Rw 66).ps (zjy (clT ad) (λj=>j < 13/\zfc K (zoC ad) ad.x_StoneError (clT ad j) j)):=by
 letI:KK:=⟨K⟩
 refine znl (N:=(Rw 66).N) (ps:=(Rw 66).ps) (T.d 66).fn (sc 66) (λe H Q E h=>by obtain⟨a,j,f,rfl,_⟩:=h;rfl) λg A outer s H e Q E p m c=>?_
 obtain⟨a,j,f,rfl,d,⟨k,b⟩,q⟩:=c
 refine⟨_,(wP (ZO (i:=1) (sc 66).nd rfl (Or.inl rfl) (ZM (zA (yj xq rfl (T.z "isinstance" (by decide)) zH (zA (pv 0) (zA (xn (v:=.ref ad.x_NoWeb) rfl T.g_NoWeb rfl) yG))) (zA (yj xq rfl (T.z "isinstance" (by decide)) zH (zA (pv 0) (zA (xn (v:=.ref ad.x_NoKind) rfl T.g_NoKind rfl) yG))) (zA (yj xq rfl (T.z "isinstance" (by decide)) zH (zA (pv 0) (zA (xn (v:=.ref ad.x_NoHeap) rfl T.g_NoHeap rfl) yG))) (zA (yj xq rfl (T.z "isinstance" (by decide)) zH (zA (pv 0) (zA (xn (v:=.ref ad.x_NoPlace) rfl T.g_NoPlace rfl) yG))) yG))))))
  (wP (ZO (i:=1) (sc 66).nd rfl (Or.inl rfl) (zhF ze8 (pv 1) (ZM (zA (yj xq rfl (T.z "isinstance" (by decide)) zH (zA (pv 0) (zA (xn (v:=.ref ad.x_NoNumber) rfl T.g_NoNumber rfl) yG))) (zA (yj xq rfl (T.z "isinstance" (by decide)) zH (zA (pv 0) (zA (xn (v:=.ref ad.x_NoTally) rfl T.g_NoTally rfl) yG))) (zA (yj xq rfl (T.z "isinstance" (by decide)) zH (zA (pv 0) (zA (xn (v:=.ref ad.x_NotTree) rfl T.g_NotTree rfl) yG))) (zA (yj xq rfl (T.z "isinstance" (by decide)) zH (zA (pv 0) (zA (xn (v:=.ref ad.x_NotJoined) rfl T.g_NotJoined rfl) yG))) yG)))))))
  (wP (ZO (i:=1) (sc 66).nd rfl (Or.inl rfl) (zhF ze8 (pv 1) (ZM (zA (yj xq rfl (T.z "isinstance" (by decide)) zH (zA (pv 0) (zA (xn (v:=.ref ad.x_NoWeights) rfl T.g_NoWeights rfl) yG))) (zA (yj xq rfl (T.z "isinstance" (by decide)) zH (zA (pv 0) (zA (xn (v:=.ref ad.x_NoRow) rfl T.g_NoRow rfl) yG))) (zA (yj xq rfl (T.z "isinstance" (by decide)) zH (zA (pv 0) (zA (xn (v:=.ref ad.x_NoSteps) rfl T.g_NoSteps rfl) yG))) (zA (yj xq rfl (T.z "isinstance" (by decide)) zH (zA (pv 0) (zA (xn (v:=.ref ad.x_NoText) rfl T.g_NoText rfl) yG))) yG)))))))
  (wP (ZO (i:=1) (sc 66).nd rfl (Or.inl rfl) (zhF ze8 (pv 1) (ZM (zA (yj xq rfl (T.z "isinstance" (by decide)) zH (zA (pv 0) (zA (xn (v:=.ref ad.x_TooGreat) rfl T.g_TooGreat rfl) yG))) yG))))
  (wP (zk6 (PW.pt (zqG (zl3 (zlZ (yj xq rfl (T.z "isinstance" (by decide)) zH (zA (pv 0) (zA (Vm (v:=.ty "ValueError") rfl (T.z "ValueError" (by decide)) zbt rfl) yG))))) (zlF (zdd znq (zfU l8 PySem.F.slot_list_count PySem.F.type_list_count zg0 (pv 1) (zA zn2 yG)) zX (xY _))))) (Zf (zaw (zpF zme zX))) zdR) (Zf (zaw (zfU l8 PySem.F.slot_list_index PySem.F.type_list_index zha (pv 1) (zA zn2 yG))))))))),?_⟩
 refine zje (cs:=[ad.x_NoWeb,ad.x_NoKind,ad.x_NoHeap,ad.x_NoPlace]) (bs:=[0 == j,1 == j,2 == j,3 == j]) b.look (i6 (λl=>(l.drop 0).take 4) b.hot) (zkQ (n:=4) (by decide)) rfl rfl d λr H1 S1=>?_
 refine zaN (cs:=[ad.x_NoNumber,ad.x_NoTally,ad.x_NotTree,ad.x_NotJoined]) (bs:=[4 == j,5 == j,6 == j,7 == j]) b.look (i6 (λl=>(l.drop 4).take 4) b.hot) (by exact zkQ (n:=8) (by decide)) S1 λu H2 S2=>?_
 refine zaN (cs:=[ad.x_NoWeights,ad.x_NoRow,ad.x_NoSteps,ad.x_NoText]) (bs:=[8 == j,9 == j,10 == j,11 == j]) b.look (i6 (λl=>(l.drop 8).take 4) b.hot) (by exact zkQ (n:=12) (by decide)) S2 λt H3 S3=>?_
 refine zaN (cs:=[ad.x_TooGreat]) (bs:=[12 == j]) b.look (i6 (λl=>(l.drop 12).take 1) b.hot) (by exact zkQ (n:=13) (by decide)) S3 λo H4 S4=>?_
 exact zmT b.val b.look k S4 (q _ S4.same)
abbrev zj :=zC (zm7 (xIf (tOf (zi ltD (zb 0) (eC (.int 9)))) (xEx (zL 2 Y3 (za (zb 0) (za (zb 1) zc)))) (xIf (tOf (zi ltD (zb 0) (eC (.int 15)))) (xEx (zL 3 Yq (za (zi vD (zb 0) (eC (.int 9))) (za (zb 1) (za (zb 2) zc))))) (xIf (tOf (zi ltD (zb 0) (eC (.int 20)))) (xEx (zL 4 Yi (za (zi vD (zb 0) (eC (.int 15))) (za (zb 1) (za (zb 2) (za (zb 3) zc)))))) (xEx (zL 3 v2 (za (zi vD (zb 0) (eC (.int 20))) (za (zb 1) (za (zb 3) zc)))))))) (sIf (tOf (zi ltD (zb 0) (eC (.int 9)))) (yu (zd 2 ZT (za (zb 0) (za (zb 1) zc)))) (sIf (tOf (zi ltD (zb 0) (eC (.int 15)))) (yu (zd 3 ym (za (zi vD (zb 0) (eC (.int 9))) (za (zb 1) (za (zb 2) zc))))) (sIf (tOf (zi ltD (zb 0) (eC (.int 20)))) (yu (zd 4 yN (za (zi vD (zb 0) (eC (.int 15))) (za (zb 1) (za (zb 2) (za (zb 3) zc)))))) (yu (zd 3 xv (za (zi vD (zb 0) (eC (.int 20))) (za (zb 1) (za (zb 3) zc)))))))) (znn [2,3,0] (zlp (fK [2,3,0]) 0 (zqA (zei (λ_=>some (.int 0)) (zei (fA "at" [0]) (λ_=>some [])))) (zqA (zei (fK [2,3,0]) (λ_=>some []))))))
  (zO (yA (zQ zc)))
def ze:=fnD 5 zj
def zgA (m:Int)(A:List D):List D :=
 [.lst [.int m,.tup A],.non,.tup [.int 9,.tup []],.tup [.int 0,.tup []],.tup [.int m,.lst A],.tup [.int m,.tup (A++[zp (m - 1,m)])],.tup [.bl true,.tup []],
  .tup [.int m,.tup A,.int 0],.tup [.int m],.str "web",.tup [.int m,.tup (A++(A++[zp (0,0)]).take 1)],.tup [.int m,.tup [zp (1,0)]],.int 7]
theorem zow {m:Int}{g:List Tie}(hw:yh m g):∀ d∈zgA m (g.map zp),xy d=false:=by
 have b:∀ (t:Tie) (l:List D),(∀ a:List Tie,l=a.map zp->¬ yh m a)->xy (.tup [.int m,.tup l])=false:=λt l h=>zc4 λn a e c=>by
  unfold zM at e
  injection e with e
  injection e with e1 e2
  injection e1 with e1
  injection e2 with e2 _
  injection e2 with e2
  subst e1
  exact h a e2 c
 intro d i
 unfold zgA at i
 simp only[q4,u0W,or_false]at i
 rcases i with rfl | rfl | rfl | rfl | rfl | rfl | rfl | rfl | rfl | rfl | rfl | rfl | rfl
 .rfl
 .rfl
 .rfl
 .rfl
 .exact zc4 λn a e _=>by
   unfold zM at e
   injection e with e
   injection e with e1 e2
   injection e2 with e2 _
   cases e2
 .refine b (0,0) _ λa e c=>?_
  have f:a=g++[(m - 1,m)]:=we (by rw[<-e,n9];rfl)
  have:=c.rng (m - 1,m) (by rw[f];simp)
  have j:m < m:=this.2.2
  omega
 .rfl
 .rfl
 .rfl
 .rfl
 .refine b (0,0) _ λa e c=>?_
  cases g with
  | nil =>
   have f:a=[(0,0)]:=we (by rw[<-e];rfl)
   have:=c.rng (0,0) (by rw[f];simp)
   have j:(0:Int) < 0:=this.2.1
   omega
  | cons t r =>
   have f:a=(t::r)++[t]:=we (by rw[<-e];simp)
   have:=c.srt
   rw[f]at this
   have k:=(List.pairwise_append.mp this).2.2 t (by simp) t (by simp)
   unfold ltP at k
   omega
 .refine b (0,0) _ λa e c=>?_
  have f:a=[(1,0)]:=we (by rw[<-e];rfl)
  have:=c.rng (1,0) (by rw[f];simp)
  have j:(1:Int) < 0:=this.2.1
  omega
 .rfl
theorem zci:∀ {a:List D} {k:Nat},Ww a=true->Ww (a.take k)=true
 | [],k,_=>by rw[List.take_nil];rfl
 | d::a,0,_=>rfl
 | d::a,k+1,h=>by
  unfold Ww at h
  rw[j3]at h
  show(noS d&&Ww (a.take k))=true
  rw[h.1,zci h.2]
  rfl
theorem zks {m:Int}{A:List D}(a:Ww A=true):∀ d∈zgA m A,noS d=true:=by
 intro d b
 unfold zgA at b
 simp only[q4,u0W,or_false]at b
 have c:noS (.tup A)=true:=a
 have e:noS (.lst A)=true:=a
 rcases b with rfl | rfl | rfl | rfl | rfl | rfl | rfl | rfl | rfl | rfl | rfl | rfl | rfl
 .show(noS (.int m)&&(noS (.tup A)&&true))=true;rw[c];rfl
 .rfl
 .rfl
 .rfl
 .show(noS (.int m)&&(noS (.lst A)&&true))=true;rw[e];rfl
 .have:noS (.tup (A++[zp (m - 1,m)]))=true:=xw a rfl
  show(noS (.int m)&&(noS (.tup _)&&true))=true;rw[this];rfl
 .rfl
 .show(noS (.int m)&&(noS (.tup A)&&(noS (.int 0)&&true)))=true;rw[c];rfl
 .rfl
 .rfl
 .have:noS (.tup (A++(A++[zp (0,0)]).take 1))=true:=xw a (zci (xw a rfl))
  show(noS (.int m)&&(noS (.tup _)&&true))=true;rw[this];rfl
 .rfl
 .rfl
theorem sv {f:Ev->Option D}{ρ:SE}{d:D}(h:f (visF ρ)=some d):vEv false f ρ=some d:=h
theorem zg {t:Ev->Option Bool}{a c:SE->Option Nat}{b:SE->Ctl}{ρ:SE}(e:t (visG ρ)=some false):wG (xIf t a xNo) (sIf t b zB) c ρ=c ρ:=by
 unfold wG xIf sIf
 rw[e]
 rfl
theorem yq {t:Ev->Option Bool}{a b:SE->Option Nat}{g:SE->Ctl}{ρ:SE}{j:Nat}(e:t (visG ρ)=some true)(h:a ρ=some j):wG (xIf t a xNo) g b ρ=some j:=z4 (yi e h)
theorem Yp {t:Ev->Option Bool}{g h:SE->Option Nat}{ρ:SE}{r:Option Nat}(e:t (visG ρ)=some true)(a:g ρ=r):xIf t g h ρ=r:=by
 unfold xIf
 rw[e]
 exact a
theorem wJ {t:Ev->Option Bool}{a c:SE->Option Nat}{b:SE->Ctl}{ρ:SE}{d:D}(e:t (visG ρ)=some true)(h:a ρ=none)(g:b ρ=.rt d):wG (xIf t a xNo) (sIf t b zB) c ρ=none:=by
 unfold wG xIf sIf
 rw[e]
 show(match a ρ with | some j=>some j | none=>match b ρ with | .nx f=>c f | _=>none)=_
 rw[h,g]
theorem z3 {t:Ev->Option Bool}{b g:SE->Ctl}{ρ:SE}(e:t (visG ρ)=some false):zC (sIf t b zB) g ρ=g ρ:=by
 unfold zC sIf
 rw[e]
 rfl
theorem wE {t:Ev->Option Bool}{b g:SE->Ctl}{ρ:SE}{d:D}(e:t (visG ρ)=some true)(h:b ρ=.rt d):zC (sIf t b zB) g ρ=.rt d:=by
 unfold zC sIf
 rw[e]
 show(match b ρ with | .nx a=>g a | .rt d=>.rt d | .bk a=>.bk a | .ct a=>.ct a | .no=>.no)=_
 rw[h]
theorem wV {t:Ev->Option Bool}{g h:SE->Ctl}{ρ:SE}{c:Ctl}(e:t (visG ρ)=some true)(a:g ρ=c):sIf t g h ρ=c:=by
 unfold sIf
 rw[e]
 exact a
theorem xk {t:Ev->Option Bool}{g h:SE->Ctl}{ρ:SE}{c:Ctl}(e:t (visG ρ)=some false)(a:h ρ=c):sIf t g h ρ=c:=by
 unfold sIf
 rw[e]
 exact a
theorem yD {a:SE->Option Nat}{g:SE->Ctl}{h:Nat->Option D}{ρ:SE}{c:Ctl}(e:a ρ=none)(b:g ρ=c):zm7 a g h ρ=c:=by
 unfold zm7
 rw[e]
 exact b
section
variable {m:Int}{ts:List Tie}{d:D}{b:Bool}
theorem zeD (a:noS d=true):vR [d]=some (.bl (xy d)):=by
 show(if noS d=true then some (D.bl (xy d))else none)=_
 rw[t6 a]
theorem zrZ (a:noS d=true)(hw:xy d=false):zv [d]=some 16:=by
 have e:=zeD a
 rw[hw]at e
 show yP [.v d]=_
 unfold yP
 exact yi (zav (b:=false) (Xc (zt (ds:=[d]) rfl e))) rfl
theorem znh (ok:yh m ts):zv [zM m ts]=none:=by
 have e:=zeD (zhc m ts)
 rw[(yX _).mpr ⟨_,_,rfl,ok⟩]at e
 show yP [.v (zM m ts)]=_
 unfold yP
 exact zE (zav (b:=true) (Xc (zt (ds:=[zM m ts]) rfl e))) rfl
theorem zeK (ok:yh m ts)(a:noS d=true)(hh:xc m d=b):yE [zM m ts,d]=some (.bl b):=by
 show(if (noS d&&decide (m<=1000))=true then some (D.bl (xc m d))else none)=_
 rw[a,Vq ok,hh]
 rfl
theorem zqD (ok:yh m ts)(a:noS d=true)(hh:xc m d=false):zK [zM m ts,d]=some 2:=by
 show yp [.v (zM m ts),.v d]=_
 unfold yp
 exact yi (zav (b:=false) (Xc (zt (ds:=[zM m ts,d]) rfl (zeK ok a hh)))) rfl
theorem zlS (ok:yh m ts){h:Hl}(d:(h.length:Int)=m)(a:∀ v∈h,0<=v)(c:h.sum<=300):zK [zM m ts,hD h]=none:=by
 show yp [.v (zM m ts),.v (hD h)]=_
 unfold yp
 exact zE (zav (b:=true) (Xc (zt (ds:=[zM m ts,hD h]) rfl (zeK ok (WE h) (Xb d a c))))) rfl
theorem zhN (c:noS d=true)(a:ya d 0 (m - 1)=b):yB [.int m,d]=some (.bl b):=by
 show(if noS d=true then some (D.bl (ya d 0 (m - 1)))else none)=_
 rw[t6 c,a]
theorem zmV (c:noS d=true)(a:ya d 0 (m - 1)=false):zP [zM m ts,d]=some 3:=by
 show ye [.v (zM m ts),.v d]=_
 unfold ye
 exact yi (zav (b:=false) (Xc (zt (ds:=[.int m,d]) rfl (zhN c a)))) rfl
theorem zec {p:Int}(a:0<=p/\p < m):zP [zM m ts,.int p]=none:=by
 show ye [.v (zM m ts),.v (.int p)]=_
 unfold ye
 refine zE (zav (b:=true) (Xc (zt (ds:=[.int m,.int p]) rfl (zhN rfl ?_)))) rfl
 rw[Ze]
 unfold inR
 rw[q7 a.1,q7 (show p<=m - 1 by omega)]
 rfl
end
def hh:Nat->Option D:=(znn [2,3,0] (zlp (fK [2,3,0]) 0 (zqA (zei (λ_=>some (.int 0)) (zei (fA "at" [0]) (λ_=>some [])))) (zqA (zei (fK [2,3,0]) (λ_=>some [])))))
section
variable {W H p:D}{j:Nat}{r b:D}
theorem zrX (h:w8 [W]=some j)(a:hh j=some r):ze [.int 0,W,H,p]=some r:=by
 have e:zy [.v (.int 0),.v W]=some j:=by
  unfold zy
  exact(yq rfl h)
 refine yT (ρ:=[.v (.int 0),.v W,.v H,.v p,.no]) rfl ?_
 unfold zj
 exact yb (yt (zR (j:=j) (d:=r) (yi rfl e) a) rfl)
theorem zq4 (h:Xe [W]=some j)(a:hh j=some r):ze [.int 1,W,H,p]=some r:=by
 have e:zy [.v (.int 1),.v W]=some j:=by
  unfold zy
  exact(yq rfl h)
 refine yT (ρ:=[.v (.int 1),.v W,.v H,.v p,.no]) rfl ?_
 unfold zj
 exact yb (yt (zR (j:=j) (d:=r) (yi rfl e) a) rfl)
theorem zri (h:Z0 [W]=some j)(a:hh j=some r):ze [.int 2,W,H,p]=some r:=by
 have e:zy [.v (.int 2),.v W]=some j:=by
  unfold zy
  exact(yq rfl h)
 refine yT (ρ:=[.v (.int 2),.v W,.v H,.v p,.no]) rfl ?_
 unfold zj
 exact yb (yt (zR (j:=j) (d:=r) (yi rfl e) a) rfl)
theorem zrH (h:Xo [W,.tup []]=some j)(a:hh j=some r):ze [.int 3,W,H,p]=some r:=by
 have e:zy [.v (.int 3),.v W]=some j:=by
  unfold zy
  exact((zg rfl).trans (yq rfl h))
 refine yT (ρ:=[.v (.int 3),.v W,.v H,.v p,.no]) rfl ?_
 unfold zj
 exact yb (yt (zR (j:=j) (d:=r) (yi rfl e) a) rfl)
theorem zrd (h:Zo [W,.tup []]=some j)(a:hh j=some r):ze [.int 4,W,H,p]=some r:=by
 have e:zy [.v (.int 4),.v W]=some j:=by
  unfold zy
  exact((zg rfl).trans ((zg rfl).trans (yq rfl h)))
 refine yT (ρ:=[.v (.int 4),.v W,.v H,.v p,.no]) rfl ?_
 unfold zj
 exact yb (yt (zR (j:=j) (d:=r) (yi rfl e) a) rfl)
theorem zrl (h:Zm [W,.lst []]=some j)(a:hh j=some r):ze [.int 5,W,H,p]=some r:=by
 have e:zy [.v (.int 5),.v W]=some j:=by
  unfold zy
  exact((zg rfl).trans ((zg rfl).trans ((zg rfl).trans (yq rfl h))))
 refine yT (ρ:=[.v (.int 5),.v W,.v H,.v p,.no]) rfl ?_
 unfold zj
 exact yb (yt (zR (j:=j) (d:=r) (yi rfl e) a) rfl)
theorem zr8 (h:Xk [W,.tup []]=some j)(a:hh j=some r):ze [.int 6,W,H,p]=some r:=by
 have e:zy [.v (.int 6),.v W]=some j:=by
  unfold zy
  exact((zg rfl).trans ((zg rfl).trans ((zg rfl).trans ((zg rfl).trans (yq rfl h)))))
 refine yT (ρ:=[.v (.int 6),.v W,.v H,.v p,.no]) rfl ?_
 unfold zj
 exact yb (yt (zR (j:=j) (d:=r) (yi rfl e) a) rfl)
theorem zrw (h:Va [W,.tup []]=some j)(a:hh j=some r):ze [.int 7,W,H,p]=some r:=by
 have e:zy [.v (.int 7),.v W]=some j:=by
  unfold zy
  exact((zg rfl).trans ((zg rfl).trans ((zg rfl).trans ((zg rfl).trans ((zg rfl).trans (yq rfl h))))))
 refine yT (ρ:=[.v (.int 7),.v W,.v H,.v p,.no]) rfl ?_
 unfold zj
 exact yb (yt (zR (j:=j) (d:=r) (yi rfl e) a) rfl)
theorem zrE (h:Zg [W,.int 1]=some j)(a:hh j=some r):ze [.int 8,W,H,p]=some r:=by
 have e:zy [.v (.int 8),.v W]=some j:=by
  unfold zy
  exact((zg rfl).trans ((zg rfl).trans ((zg rfl).trans ((zg rfl).trans ((zg rfl).trans ((zg rfl).trans h))))))
 refine yT (ρ:=[.v (.int 8),.v W,.v H,.v p,.no]) rfl ?_
 unfold zj
 exact yb (yt (zR (j:=j) (d:=r) (yi rfl e) a) rfl)
theorem zo6 (h:wN [W,H]=some j)(a:hh j=some r):ze [.int 9,W,H,p]=some r:=by
 have e:zm [.v (.int 0),.v W,.v H]=some j:=by
  unfold zm
  exact(yq rfl h)
 refine yT (ρ:=[.v (.int 9),.v W,.v H,.v p,.no]) rfl ?_
 unfold zj
 exact yb (yt (zR (j:=j) (d:=r) (zE rfl (yi rfl e)) a) rfl)
theorem zpL (h:wN [W,H]=none)(a:xU [W,H]=some b):ze [.int 9,W,H,p]=some (.lst []):=by
 have e:zm [.v (.int 0),.v W,.v H]=none:=by
  unfold zm
  exact(wJ rfl h (zG (zt (ds:=[W,H]) rfl a)))
 have c:ym [.int 0,W,H]=some b:=by
  refine yT (ρ:=[.v (.int 0),.v W,.v H]) rfl ?_
  unfold yQ
  exact yt (wE rfl (zG (zt (ds:=[W,H]) rfl a))) rfl
 refine yT (ρ:=[.v (.int 9),.v W,.v H,.v p,.no]) rfl ?_
 unfold zj
 exact zl (ρ':=[.v (.int 9),.v W,.v H,.v p,.no]) (yD (zE rfl (Yp rfl e)) (xk rfl (wV rfl (zf (d:=b) (zt (ds:=[.int 0,W,H]) rfl c))))) (yt rfl rfl)
theorem zlI (h:ZS [W,H,.lst []]=some j)(a:hh j=some r):ze [.int 10,W,H,p]=some r:=by
 have e:zm [.v (.int 1),.v W,.v H]=some j:=by
  unfold zm
  exact((zg rfl).trans (yq rfl h))
 refine yT (ρ:=[.v (.int 10),.v W,.v H,.v p,.no]) rfl ?_
 unfold zj
 exact yb (yt (zR (j:=j) (d:=r) (zE rfl (yi rfl e)) a) rfl)
theorem zox (h:ZS [W,H,.lst []]=none)(a:ZB [W,H,.lst []]=some b):ze [.int 10,W,H,p]=some (.lst []):=by
 have e:zm [.v (.int 1),.v W,.v H]=none:=by
  unfold zm
  exact((zg rfl).trans (wJ rfl h (zG (zt (ds:=[W,H,.lst []]) rfl a))))
 have c:ym [.int 1,W,H]=some b:=by
  refine yT (ρ:=[.v (.int 1),.v W,.v H]) rfl ?_
  unfold yQ
  exact yt ((z3 rfl).trans (wE rfl (zG (zt (ds:=[W,H,.lst []]) rfl a)))) rfl
 refine yT (ρ:=[.v (.int 10),.v W,.v H,.v p,.no]) rfl ?_
 unfold zj
 exact zl (ρ':=[.v (.int 10),.v W,.v H,.v p,.no]) (yD (zE rfl (Yp rfl e)) (xk rfl (wV rfl (zf (d:=b) (zt (ds:=[.int 1,W,H]) rfl c))))) (yt rfl rfl)
theorem zlJ (h:ws [W,H,.lst []]=some j)(a:hh j=some r):ze [.int 11,W,H,p]=some r:=by
 have e:zm [.v (.int 2),.v W,.v H]=some j:=by
  unfold zm
  exact((zg rfl).trans ((zg rfl).trans (yq rfl h)))
 refine yT (ρ:=[.v (.int 11),.v W,.v H,.v p,.no]) rfl ?_
 unfold zj
 exact yb (yt (zR (j:=j) (d:=r) (zE rfl (yi rfl e)) a) rfl)
theorem znQ (h:ws [W,H,.lst []]=none)(a:xX [W,H,.lst []]=some b):ze [.int 11,W,H,p]=some (.lst []):=by
 have e:zm [.v (.int 2),.v W,.v H]=none:=by
  unfold zm
  exact((zg rfl).trans ((zg rfl).trans (wJ rfl h (zG (zt (ds:=[W,H,.lst []]) rfl a)))))
 have c:ym [.int 2,W,H]=some b:=by
  refine yT (ρ:=[.v (.int 2),.v W,.v H]) rfl ?_
  unfold yQ
  exact yt ((z3 rfl).trans ((z3 rfl).trans (wE rfl (zG (zt (ds:=[W,H,.lst []]) rfl a))))) rfl
 refine yT (ρ:=[.v (.int 11),.v W,.v H,.v p,.no]) rfl ?_
 unfold zj
 exact zl (ρ':=[.v (.int 11),.v W,.v H,.v p,.no]) (yD (zE rfl (Yp rfl e)) (xk rfl (wV rfl (zf (d:=b) (zt (ds:=[.int 2,W,H]) rfl c))))) (yt rfl rfl)
theorem zl9 (h:YJ [W,H,.tup []]=some j)(a:hh j=some r):ze [.int 12,W,H,p]=some r:=by
 have e:zm [.v (.int 3),.v W,.v H]=some j:=by
  unfold zm
  exact((zg rfl).trans ((zg rfl).trans ((zg rfl).trans (yq rfl h))))
 refine yT (ρ:=[.v (.int 12),.v W,.v H,.v p,.no]) rfl ?_
 unfold zj
 exact yb (yt (zR (j:=j) (d:=r) (zE rfl (yi rfl e)) a) rfl)
theorem zou (h:YJ [W,H,.tup []]=none)(a:Yd [W,H,.tup []]=some b):ze [.int 12,W,H,p]=some (.lst []):=by
 have e:zm [.v (.int 3),.v W,.v H]=none:=by
  unfold zm
  exact((zg rfl).trans ((zg rfl).trans ((zg rfl).trans (wJ rfl h (zG (zt (ds:=[W,H,.tup []]) rfl a))))))
 have c:ym [.int 3,W,H]=some b:=by
  refine yT (ρ:=[.v (.int 3),.v W,.v H]) rfl ?_
  unfold yQ
  exact yt ((z3 rfl).trans ((z3 rfl).trans ((z3 rfl).trans (wE rfl (zG (zt (ds:=[W,H,.tup []]) rfl a)))))) rfl
 refine yT (ρ:=[.v (.int 12),.v W,.v H,.v p,.no]) rfl ?_
 unfold zj
 exact zl (ρ':=[.v (.int 12),.v W,.v H,.v p,.no]) (yD (zE rfl (Yp rfl e)) (xk rfl (wV rfl (zf (d:=b) (zt (ds:=[.int 3,W,H]) rfl c))))) (yt rfl rfl)
theorem zlL (h:vS [W,H,.tup []]=some j)(a:hh j=some r):ze [.int 13,W,H,p]=some r:=by
 have e:zm [.v (.int 4),.v W,.v H]=some j:=by
  unfold zm
  exact((zg rfl).trans ((zg rfl).trans ((zg rfl).trans ((zg rfl).trans (yq rfl h)))))
 refine yT (ρ:=[.v (.int 13),.v W,.v H,.v p,.no]) rfl ?_
 unfold zj
 exact yb (yt (zR (j:=j) (d:=r) (zE rfl (yi rfl e)) a) rfl)
theorem zmG (h:vS [W,H,.tup []]=none)(a:vp [W,H,.tup []]=some b):ze [.int 13,W,H,p]=some (.lst []):=by
 have e:zm [.v (.int 4),.v W,.v H]=none:=by
  unfold zm
  exact((zg rfl).trans ((zg rfl).trans ((zg rfl).trans ((zg rfl).trans (wJ rfl h (zG (zt (ds:=[W,H,.tup []]) rfl a)))))))
 have c:ym [.int 4,W,H]=some b:=by
  refine yT (ρ:=[.v (.int 4),.v W,.v H]) rfl ?_
  unfold yQ
  exact yt ((z3 rfl).trans ((z3 rfl).trans ((z3 rfl).trans ((z3 rfl).trans (wE rfl (zG (zt (ds:=[W,H,.tup []]) rfl a))))))) rfl
 refine yT (ρ:=[.v (.int 13),.v W,.v H,.v p,.no]) rfl ?_
 unfold zj
 exact zl (ρ':=[.v (.int 13),.v W,.v H,.v p,.no]) (yD (zE rfl (Yp rfl e)) (xk rfl (wV rfl (zf (d:=b) (zt (ds:=[.int 4,W,H]) rfl c))))) (yt rfl rfl)
theorem zmo (h:YG [W,H]=some j)(a:hh j=some r):ze [.int 14,W,H,p]=some r:=by
 have e:zm [.v (.int 5),.v W,.v H]=some j:=by
  unfold zm
  exact((zg rfl).trans ((zg rfl).trans ((zg rfl).trans ((zg rfl).trans ((zg rfl).trans h)))))
 refine yT (ρ:=[.v (.int 14),.v W,.v H,.v p,.no]) rfl ?_
 unfold zj
 exact yb (yt (zR (j:=j) (d:=r) (zE rfl (yi rfl e)) a) rfl)
theorem zm5 (h:YG [W,H]=none)(c:ZF [W,H]=some b):ze [.int 14,W,H,p]=some (.lst []):=by
 have e:zm [.v (.int 5),.v W,.v H]=none:=by
  unfold zm
  exact((zg rfl).trans ((zg rfl).trans ((zg rfl).trans ((zg rfl).trans ((zg rfl).trans h)))))
 have a:ym [.int 5,W,H]=some b:=by
  refine yT (ρ:=[.v (.int 5),.v W,.v H]) rfl ?_
  unfold yQ
  exact yt ((z3 rfl).trans ((z3 rfl).trans ((z3 rfl).trans ((z3 rfl).trans ((z3 rfl).trans (zG (zt (ds:=[W,H]) rfl c))))))) rfl
 refine yT (ρ:=[.v (.int 14),.v W,.v H,.v p,.no]) rfl ?_
 unfold zj
 exact zl (ρ':=[.v (.int 14),.v W,.v H,.v p,.no]) (yD (zE rfl (Yp rfl e)) (xk rfl (wV rfl (zf (d:=b) (zt (ds:=[.int 5,W,H]) rfl a))))) (yt rfl rfl)
theorem zhP (h:ZW [W,H,p,.int 1,.lst []]=some j)(a:hh j=some r):ze [.int 15,W,H,p]=some r:=by
 have e:zw [.v (.int 0),.v W,.v H,.v p]=some j:=by
  unfold zw
  exact(yq rfl h)
 refine yT (ρ:=[.v (.int 15),.v W,.v H,.v p,.no]) rfl ?_
 unfold zj
 exact yb (yt (zR (j:=j) (d:=r) (zE rfl (zE rfl (yi rfl e))) a) rfl)
theorem zn7 (h:ZW [W,H,p,.int 1,.lst []]=none)(a:ZI [W,H,p,.int 1,.lst []]=some b):ze [.int 15,W,H,p]=some (.lst []):=by
 have e:zw [.v (.int 0),.v W,.v H,.v p]=none:=by
  unfold zw
  exact(wJ rfl h (zG (zt (ds:=[W,H,p,.int 1,.lst []]) rfl a)))
 have c:yN [.int 0,W,H,p]=some b:=by
  refine yT (ρ:=[.v (.int 0),.v W,.v H,.v p]) rfl ?_
  unfold xm
  exact yt (wE rfl (zG (zt (ds:=[W,H,p,.int 1,.lst []]) rfl a))) rfl
 refine yT (ρ:=[.v (.int 15),.v W,.v H,.v p,.no]) rfl ?_
 unfold zj
 exact zl (ρ':=[.v (.int 15),.v W,.v H,.v p,.no]) (yD (zE rfl (zE rfl (Yp rfl e))) (xk rfl (xk rfl (wV rfl (zf (d:=b) (zt (ds:=[.int 0,W,H,p]) rfl c)))))) (yt rfl rfl)
theorem zjf (h:YQ [W,H,p]=some j)(a:hh j=some r):ze [.int 16,W,H,p]=some r:=by
 have e:zw [.v (.int 1),.v W,.v H,.v p]=some j:=by
  unfold zw
  exact((zg rfl).trans (yq rfl h))
 refine yT (ρ:=[.v (.int 16),.v W,.v H,.v p,.no]) rfl ?_
 unfold zj
 exact yb (yt (zR (j:=j) (d:=r) (zE rfl (zE rfl (yi rfl e))) a) rfl)
theorem zn1 (h:YQ [W,H,p]=none)(a:Yy [W,H,p]=some b):ze [.int 16,W,H,p]=some (.lst []):=by
 have e:zw [.v (.int 1),.v W,.v H,.v p]=none:=by
  unfold zw
  exact((zg rfl).trans (wJ rfl h (zG (zt (ds:=[W,H,p]) rfl a))))
 have c:yN [.int 1,W,H,p]=some b:=by
  refine yT (ρ:=[.v (.int 1),.v W,.v H,.v p]) rfl ?_
  unfold xm
  exact yt ((z3 rfl).trans (wE rfl (zG (zt (ds:=[W,H,p]) rfl a)))) rfl
 refine yT (ρ:=[.v (.int 16),.v W,.v H,.v p,.no]) rfl ?_
 unfold zj
 exact zl (ρ':=[.v (.int 16),.v W,.v H,.v p,.no]) (yD (zE rfl (zE rfl (Yp rfl e))) (xk rfl (xk rfl (wV rfl (zf (d:=b) (zt (ds:=[.int 1,W,H,p]) rfl c)))))) (yt rfl rfl)
theorem ziN (h:WC [W,H,p,.int 1]=some j)(a:hh j=some r):ze [.int 17,W,H,p]=some r:=by
 have e:zw [.v (.int 2),.v W,.v H,.v p]=some j:=by
  unfold zw
  exact((zg rfl).trans ((zg rfl).trans (yq rfl h)))
 refine yT (ρ:=[.v (.int 17),.v W,.v H,.v p,.no]) rfl ?_
 unfold zj
 exact yb (yt (zR (j:=j) (d:=r) (zE rfl (zE rfl (yi rfl e))) a) rfl)
theorem zos (h:WC [W,H,p,.int 1]=none)(a:Vw [W,H,p,.int 1]=some b):ze [.int 17,W,H,p]=some (.lst []):=by
 have e:zw [.v (.int 2),.v W,.v H,.v p]=none:=by
  unfold zw
  exact((zg rfl).trans ((zg rfl).trans (wJ rfl h (zG (zt (ds:=[W,H,p,.int 1]) rfl a)))))
 have c:yN [.int 2,W,H,p]=some b:=by
  refine yT (ρ:=[.v (.int 2),.v W,.v H,.v p]) rfl ?_
  unfold xm
  exact yt ((z3 rfl).trans ((z3 rfl).trans (wE rfl (zG (zt (ds:=[W,H,p,.int 1]) rfl a))))) rfl
 refine yT (ρ:=[.v (.int 17),.v W,.v H,.v p,.no]) rfl ?_
 unfold zj
 exact zl (ρ':=[.v (.int 17),.v W,.v H,.v p,.no]) (yD (zE rfl (zE rfl (Yp rfl e))) (xk rfl (xk rfl (wV rfl (zf (d:=b) (zt (ds:=[.int 2,W,H,p]) rfl c)))))) (yt rfl rfl)
theorem zhm (h:x6 [W,H,p,.int 1,.lst []]=some j)(a:hh j=some r):ze [.int 18,W,H,p]=some r:=by
 have e:zw [.v (.int 3),.v W,.v H,.v p]=some j:=by
  unfold zw
  exact((zg rfl).trans ((zg rfl).trans ((zg rfl).trans (yq rfl h))))
 refine yT (ρ:=[.v (.int 18),.v W,.v H,.v p,.no]) rfl ?_
 unfold zj
 exact yb (yt (zR (j:=j) (d:=r) (zE rfl (zE rfl (yi rfl e))) a) rfl)
theorem zor (h:x6 [W,H,p,.int 1,.lst []]=none)(a:xJ [W,H,p,.int 1,.lst []]=some b):ze [.int 18,W,H,p]=some (.lst []):=by
 have e:zw [.v (.int 3),.v W,.v H,.v p]=none:=by
  unfold zw
  exact((zg rfl).trans ((zg rfl).trans ((zg rfl).trans (wJ rfl h (zG (zt (ds:=[W,H,p,.int 1,.lst []]) rfl a))))))
 have c:yN [.int 3,W,H,p]=some b:=by
  refine yT (ρ:=[.v (.int 3),.v W,.v H,.v p]) rfl ?_
  unfold xm
  exact yt ((z3 rfl).trans ((z3 rfl).trans ((z3 rfl).trans (wE rfl (zG (zt (ds:=[W,H,p,.int 1,.lst []]) rfl a)))))) rfl
 refine yT (ρ:=[.v (.int 18),.v W,.v H,.v p,.no]) rfl ?_
 unfold zj
 exact zl (ρ':=[.v (.int 18),.v W,.v H,.v p,.no]) (yD (zE rfl (zE rfl (Yp rfl e))) (xk rfl (xk rfl (wV rfl (zf (d:=b) (zt (ds:=[.int 3,W,H,p]) rfl c)))))) (yt rfl rfl)
theorem ziK (h:wO [W,H,p,.int 1]=some j)(a:hh j=some r):ze [.int 19,W,H,p]=some r:=by
 have e:zw [.v (.int 4),.v W,.v H,.v p]=some j:=by
  unfold zw
  exact((zg rfl).trans ((zg rfl).trans ((zg rfl).trans ((zg rfl).trans h))))
 refine yT (ρ:=[.v (.int 19),.v W,.v H,.v p,.no]) rfl ?_
 unfold zj
 exact yb (yt (zR (j:=j) (d:=r) (zE rfl (zE rfl (yi rfl e))) a) rfl)
theorem zoy (h:wO [W,H,p,.int 1]=none)(c:w1 [W,H,p,.int 1]=some b):ze [.int 19,W,H,p]=some (.lst []):=by
 have e:zw [.v (.int 4),.v W,.v H,.v p]=none:=by
  unfold zw
  exact((zg rfl).trans ((zg rfl).trans ((zg rfl).trans ((zg rfl).trans h))))
 have a:yN [.int 4,W,H,p]=some b:=by
  refine yT (ρ:=[.v (.int 4),.v W,.v H,.v p]) rfl ?_
  unfold xm
  exact yt ((z3 rfl).trans ((z3 rfl).trans ((z3 rfl).trans ((z3 rfl).trans (zG (zt (ds:=[W,H,p,.int 1]) rfl c)))))) rfl
 refine yT (ρ:=[.v (.int 19),.v W,.v H,.v p,.no]) rfl ?_
 unfold zj
 exact zl (ρ':=[.v (.int 19),.v W,.v H,.v p,.no]) (yD (zE rfl (zE rfl (Yp rfl e))) (xk rfl (xk rfl (wV rfl (zf (d:=b) (zt (ds:=[.int 4,W,H,p]) rfl a)))))) (yt rfl rfl)
theorem zlM (h:YT [W,p]=some j)(a:hh j=some r):ze [.int 20,W,H,p]=some r:=by
 have e:zq [.v (.int 0),.v W,.v p]=some j:=by
  unfold zq
  exact(yq rfl h)
 refine yT (ρ:=[.v (.int 20),.v W,.v H,.v p,.no]) rfl ?_
 unfold zj
 exact yb (yt (zR (j:=j) (d:=r) (zE rfl (zE rfl (zE rfl e))) a) rfl)
theorem zoj (h:YT [W,p]=none)(a:Yg [W,p]=some b):ze [.int 20,W,H,p]=some (.lst []):=by
 have e:zq [.v (.int 0),.v W,.v p]=none:=by
  unfold zq
  exact(wJ rfl h (zG (zt (ds:=[W,p]) rfl a)))
 have c:xv [.int 0,W,p]=some b:=by
  refine yT (ρ:=[.v (.int 0),.v W,.v p]) rfl ?_
  unfold xZ
  exact yt (wE rfl (zG (zt (ds:=[W,p]) rfl a))) rfl
 refine yT (ρ:=[.v (.int 20),.v W,.v H,.v p,.no]) rfl ?_
 unfold zj
 exact zl (ρ':=[.v (.int 20),.v W,.v H,.v p,.no]) (yD (zE rfl (zE rfl (zE rfl e))) (xk rfl (xk rfl (xk rfl (zf (d:=b) (zt (ds:=[.int 0,W,p]) rfl c)))))) (yt rfl rfl)
theorem zmt (h:WX [W,.int 0,p]=some j)(a:hh j=some r):ze [.int 21,W,H,p]=some r:=by
 have e:zq [.v (.int 1),.v W,.v p]=some j:=by
  unfold zq
  exact((zg rfl).trans (yq rfl h))
 refine yT (ρ:=[.v (.int 21),.v W,.v H,.v p,.no]) rfl ?_
 unfold zj
 exact yb (yt (zR (j:=j) (d:=r) (zE rfl (zE rfl (zE rfl e))) a) rfl)
theorem zol (h:WX [W,.int 0,p]=none)(a:zcw [W,.int 0,p]=some b):ze [.int 21,W,H,p]=some (.lst []):=by
 have e:zq [.v (.int 1),.v W,.v p]=none:=by
  unfold zq
  exact((zg rfl).trans (wJ rfl h (zG (zt (ds:=[W,.int 0,p]) rfl a))))
 have c:xv [.int 1,W,p]=some b:=by
  refine yT (ρ:=[.v (.int 1),.v W,.v p]) rfl ?_
  unfold xZ
  exact yt ((z3 rfl).trans (wE rfl (zG (zt (ds:=[W,.int 0,p]) rfl a)))) rfl
 refine yT (ρ:=[.v (.int 21),.v W,.v H,.v p,.no]) rfl ?_
 unfold zj
 exact zl (ρ':=[.v (.int 21),.v W,.v H,.v p,.no]) (yD (zE rfl (zE rfl (zE rfl e))) (xk rfl (xk rfl (xk rfl (zf (d:=b) (zt (ds:=[.int 1,W,p]) rfl c)))))) (yt rfl rfl)
theorem zlN (h:WX [W,p,.int 0]=some j)(a:hh j=some r):ze [.int 22,W,H,p]=some r:=by
 have e:zq [.v (.int 2),.v W,.v p]=some j:=by
  unfold zq
  exact((zg rfl).trans ((zg rfl).trans (yq rfl h)))
 refine yT (ρ:=[.v (.int 22),.v W,.v H,.v p,.no]) rfl ?_
 unfold zj
 exact yb (yt (zR (j:=j) (d:=r) (zE rfl (zE rfl (zE rfl e))) a) rfl)
theorem znw (h:WX [W,p,.int 0]=none)(a:zcw [W,p,.int 0]=some b):ze [.int 22,W,H,p]=some (.lst []):=by
 have e:zq [.v (.int 2),.v W,.v p]=none:=by
  unfold zq
  exact((zg rfl).trans ((zg rfl).trans (wJ rfl h (zG (zt (ds:=[W,p,.int 0]) rfl a)))))
 have c:xv [.int 2,W,p]=some b:=by
  refine yT (ρ:=[.v (.int 2),.v W,.v p]) rfl ?_
  unfold xZ
  exact yt ((z3 rfl).trans ((z3 rfl).trans (wE rfl (zG (zt (ds:=[W,p,.int 0]) rfl a))))) rfl
 refine yT (ρ:=[.v (.int 22),.v W,.v H,.v p,.no]) rfl ?_
 unfold zj
 exact zl (ρ':=[.v (.int 22),.v W,.v H,.v p,.no]) (yD (zE rfl (zE rfl (zE rfl e))) (xk rfl (xk rfl (xk rfl (zf (d:=b) (zt (ds:=[.int 2,W,p]) rfl c)))))) (yt rfl rfl)
theorem zlU (h:zbo [W,p,.int 1,.int 0]=some j)(a:hh j=some r):ze [.int 23,W,H,p]=some r:=by
 have e:zq [.v (.int 3),.v W,.v p]=some j:=by
  unfold zq
  exact((zg rfl).trans ((zg rfl).trans ((zg rfl).trans (yq rfl h))))
 refine yT (ρ:=[.v (.int 23),.v W,.v H,.v p,.no]) rfl ?_
 unfold zj
 exact yb (yt (zR (j:=j) (d:=r) (zE rfl (zE rfl (zE rfl e))) a) rfl)
theorem zl8 (h:zef [W,p,.int 1]=some j)(a:hh j=some r):ze [.int 24,W,H,p]=some r:=by
 have e:zq [.v (.int 4),.v W,.v p]=some j:=by
  unfold zq
  exact((zg rfl).trans ((zg rfl).trans ((zg rfl).trans ((zg rfl).trans (yq rfl h)))))
 refine yT (ρ:=[.v (.int 24),.v W,.v H,.v p,.no]) rfl ?_
 unfold zj
 exact yb (yt (zR (j:=j) (d:=r) (zE rfl (zE rfl (zE rfl e))) a) rfl)
theorem zmr (h:za2 [W,p,.int 1]=some j)(a:hh j=some r):ze [.int 25,W,H,p]=some r:=by
 have e:zq [.v (.int 5),.v W,.v p]=some j:=by
  unfold zq
  exact((zg rfl).trans ((zg rfl).trans ((zg rfl).trans ((zg rfl).trans ((zg rfl).trans (yq rfl h))))))
 refine yT (ρ:=[.v (.int 25),.v W,.v H,.v p,.no]) rfl ?_
 unfold zj
 exact yb (yt (zR (j:=j) (d:=r) (zE rfl (zE rfl (zE rfl e))) a) rfl)
theorem zl6 (h:Ym [W,p,.int 1]=some j)(a:hh j=some r):ze [.int 26,W,H,p]=some r:=by
 have e:zq [.v (.int 6),.v W,.v p]=some j:=by
  unfold zq
  exact((zg rfl).trans ((zg rfl).trans ((zg rfl).trans ((zg rfl).trans ((zg rfl).trans ((zg rfl).trans h))))))
 refine yT (ρ:=[.v (.int 26),.v W,.v H,.v p,.no]) rfl ?_
 unfold zj
 exact yb (yt (zR (j:=j) (d:=r) (zE rfl (zE rfl (zE rfl e))) a) rfl)
end
theorem zcR (T:Txt P w K mg base ad):T.Pr 78 12 4 ze:=by
 letI:KK:=⟨K⟩
 have H_kinds:=VL T
 have c:∀ j,j∈[2,3,0]->j < 13/\zfc K (zoC ad) ad.x_StoneError (clT ad j) j:=by
  intro j f
  simp only[q4,u0W,or_false]at f
  rcases f with rfl | rfl | rfl
  .exact⟨by decide,.of T.y_NoHeap⟩
  .exact⟨by decide,.of T.y_NoPlace⟩
  .exact⟨by decide,.of T.y_NoWeb⟩
 have l:∀ (h:Nat->Option D) j d,znn [2,3,0] h j=some d->PySem.W.exmOne K (.ref (clT ad j)) (.ref ad.x_StoneError)=some true:=λh j d e=>by rw[zpb ad j];exact(c _ (znm e)).2.exm
 have b:∀ j,j % 16∈[0]->v1 K (clT ad j)/\V8 K (clT ad j) "at":=by
  intro j f
  rw[zpb ad j]
  generalize j % 16=m at f ⊢
  simp only[q4,u0W,or_false]at f
  rcases f with rfl
  .exact⟨.of T.ea_NoWeb,zjx T.na_NoWeb _ (by decide)⟩
 have G__law_of_web:=VS T
 have X__law_of_web:=WL T
 have G__law_of_heap:=WZ T
 have X__law_of_heap:=Wm T
 have G__law_of_both:=WM T
 have X__law_of_both:=Wl T
 have G__law_of_place:=Wa T
 have X__law_of_place:=Xg T
 refine Vz (N:=(Rw 78).N) (ps:=(Rw 78).ps) (T.d 78).fn (sc 78) (g:=zj) λo A outer s H E a=>?_
 unfold zj
 exact(zT (zqx (i:=4) rfl rfl rfl (sc 78).nd rfl rfl rfl T.g_StoneError (λn W E0 k=>(yI (zdr (xp We yc (xY _) (edv 0) (zZ zX)) (yI (VF (vg (X__law_of_web.mono (by decide)) k a rfl (T.d 74).at_ (T.d 74).kp (T.d 74).bd (zn (edv 0) (zn (edv 1) zN))))) (yI (zdr (xp We yc (xY _) (edv 0) (zZ zX)) (yI (VF (vg (X__law_of_heap.mono (by decide)) k a rfl (T.d 75).at_ (T.d 75).kp (T.d 75).bd (zn (X3 (edv 0) (zZ zX)) (zn (edv 1) (zn (edv 2) zN)))))) (yI (zdr (xp We yc (xY _) (edv 0) (zZ zX)) (yI (VF (vg (X__law_of_both.mono (by decide)) k a rfl (T.d 76).at_ (T.d 76).kp (T.d 76).bd (zn (X3 (edv 0) (zZ zX)) (zn (edv 1) (zn (edv 2) (zn (edv 3) zN))))))) (yI (VF (vg (X__law_of_place.mono (by decide)) k a rfl (T.d 77).at_ (T.d 77).kp (T.d 77).bd (zn (X3 (edv 0) (zZ zX)) (zn (edv 1) (zn (edv 3) zN))))))))))))) (λn W=>(yy (zdt (xp We yc (xY _) (edv 0) (zZ zX)) (yy (wW (yg G__law_of_web a rfl (T.d 74) (zn (edv 0) (zn (edv 1) zN))))) (yy (zdt (xp We yc (xY _) (edv 0) (zZ zX)) (yy (wW (yg G__law_of_heap a rfl (T.d 75) (zn (X3 (edv 0) (zZ zX)) (zn (edv 1) (zn (edv 2) zN)))))) (yy (zdt (xp We yc (xY _) (edv 0) (zZ zX)) (yy (wW (yg G__law_of_both a rfl (T.d 76) (zn (X3 (edv 0) (zZ zX)) (zn (edv 1) (zn (edv 2) (zn (edv 3) zN))))))) (yy (wW (yg G__law_of_place a rfl (T.d 77) (zn (X3 (edv 0) (zZ zX)) (zn (edv 1) (zn (edv 3) zN))))))))))))) (l _) (λok p=>(wP (zk6 (zdd zqJ (ze4 (E:=λ_ _ _=>False) H_kinds (a.mono (by decide)) rfl (T.d 66).at_ (T.d 66).kp (T.d 66).bd ok (zA (pv 4) yG)) zX (xY _)) (Zf (zaw (ZM (zA zX (zA (zrS (pv 4) rfl) yG))))) zdR) (Zf (zaw (ZM (zA (ze4 (E:=λ_ _ _=>False) H_kinds (a.mono (by decide)) rfl (T.d 66).at_ (T.d 66).kp (T.d 66).bd ok (zA (pv 4) yG)) yG)))))) (zoS (zro (ze0 (ok:=_) (zpb ad) c) (zlE (zbv zqN (zbv (zm6 b) zjC))) (zlE (zbv (ze0 (ok:=_) (zpb ad) c) zjC)))))
  (yy (V6 (Xi (zah zN)))))
abbrev zbi :=zC (xo false 2 (zi wS (eC (.int 1)) (zi xI (zi xf (zb 1) (eC (.int 64))) (eC (.int 8)))))
  (zC (xo false 3 (zd 2 vP (za (zb 2) (za (zi xf (zb 1) (eC (.int 512))) zc))))
  (zC (xo false 4 (zd 3 vh (za (zb 2) (za (zb 1) (za (eC (.int 4)) zc)))))
  (zC (xo false 5 (zi xI (zd 2 zY (za (zb 1) (za (eC (.int 1)) zc))) (eC (.int 27))))
  (zC (xo false 6 (zd 2 vG (za (zb 3) (za (zd 2 zY (za (zb 1) (za (eC (.int 2)) zc))) zc))))
  (zC (xo false 7 (zd 2 wt (za (zb 4) (za (zd 2 zY (za (zb 1) (za (eC (.int 3)) zc))) zc))))
  (zC (xo false 8 (zd 2 wd (za (zb 2) (za (zd 2 zY (za (zb 1) (za (eC (.int 4)) zc))) zc))))
  (zC (sIf (tOf (zi zlk (zd 4 ze (za (zb 5) (za (zb 6) (za (zi ixD (yA (zQ (za (zb 4) (za (zb 7) zc)))) (zi xI (zb 1) (eC (.int 2)))) (za (zi ixD (yA (zQ (za (eC (.int 0)) (za (zb 8) zc)))) (zi xI (zi xf (zb 1) (eC (.int 2))) (eC (.int 2)))) zc))))) (yA (zQ (za (eC (.int 0)) (za (eUn Y8 (eC (.int 1))) zc)))))) (zO (eC (.bl false))) zB)
  (zC (sIf (xj (tOf (yC ltD ltD (eC (.int 8)) (zb 5) (eC (.int 20)))) (tOf (zi zlk (zd 4 ze (za (zb 5) (za (zb 3) (za (zb 7) (za (zi ixD (yA (zQ (za (eC (.int 0)) (za (zb 8) zc)))) (zi xI (zb 1) (eC (.int 2)))) zc))))) (yA (zQ (za (eC (.int 2)) zc)))))) (zO (eC (.bl false))) zB)
  (zC (sIf (xj (tOf (zi gtD (zb 5) (eC (.int 14)))) (tOf (zi zlk (zd 4 ze (za (zb 5) (za (zb 3) (za (zb 4) (za (zb 8) zc))))) (yA (zQ (za (eC (.int 3)) zc)))))) (zO (eC (.bl false))) zB)
  (sIf (xj (tOf (yC ltD ltD (eC (.int 8)) (zb 5) (eC (.int 23)))) (tOf (zi zlk (zd 4 ze (za (zb 5) (za (zb 3) (za (zb 4) (za (zi vD (zb 2) (eC (.int 1))) zc))))) (yA (zQ zc))))) (zO (eC (.bl false))) zB))))))))))
abbrev zlr :=zC (vZ (iOf (zi wS (eSl slD (zb 0) xE (xD (eC (.int 20)))) (yA (zQ (za (eC (.int 0)) (za (eC (.int 1)) (za (eC (.int 2)) (za (eC (.int 3)) zc)))))))) (yF 1) zbi)
  (zO (eC (.bl true)))
def zqf:=fnD 9 zlr
theorem zj3 {W H p:D}(h:zv [W]=some 16){k:Int}(d:0<=k)(e:k < 27):ze [.int k,W,H,p]=some (.lst [.int 0,.int (-1)]):=by
 have c:k=0\/k=1\/k=2\/k=3\/k=4\/k=5\/k=6\/k=7\/k=8\/k=9\/k=10\/k=11\/k=12\/k=13\/k=14\/k=15\/k=16\/k=17\/k=18\/k=19\/k=20\/k=21\/k=22\/k=23\/k=24\/k=25\/k=26:=by omega
 have w:∀ a b,yV [W,a,b]=some 16:=λa b=>z4 h
 rcases c with rfl | rfl | rfl | rfl | rfl | rfl | rfl | rfl | rfl | rfl | rfl | rfl | rfl | rfl | rfl | rfl | rfl | rfl | rfl | rfl | rfl | rfl | rfl | rfl | rfl | rfl | rfl
 .exact zrX h rfl
 .exact zq4 h rfl
 .exact zri h rfl
 .exact zrH h rfl
 .exact zrd h rfl
 .exact zrl h rfl
 .exact zr8 h rfl
 .exact zrw h rfl
 .exact zrE h rfl
 .exact zo6 (z4 h) rfl
 .exact zlI (z4 h) rfl
 .exact zlJ (z4 h) rfl
 .exact zl9 (z4 h) rfl
 .exact zlL (z4 h) rfl
 .exact zmo (z4 h) rfl
 .exact zhP (z4 h) rfl
 .exact zjf (z4 h) rfl
 .exact ziN (z4 h) rfl
 .exact zhm (z4 h) rfl
 .exact ziK (z4 h) rfl
 .exact zlM (z4 h) rfl
 .exact zmt (z4 h) rfl
 .exact zlN (z4 h) rfl
 .exact zlU (w _ _) rfl
 .exact zl8 (w _ _) rfl
 .exact zmr (w _ _) rfl
 .exact zl6 (w _ _) rfl
section
variable {m:Int}{ts:List Tie}{h:Hl}
theorem zjB {H p:D}(ok:yh m ts)(h:noS H=true)(hh:xc m H=false){k:Int}(j:8 < k)(i:k < 20):ze [.int k,zM m ts,H,p]=some (.lst [.int 2]):=by
 have c:k=9\/k=10\/k=11\/k=12\/k=13\/k=14\/k=15\/k=16\/k=17\/k=18\/k=19:=by omega
 have b:=znh ok
 have f:=xB ok
 have e:=zqD ok h hh
 have z:∀ {a:SE->Option Nat} {g:SE->Ctl} {ρ:SE},visG ρ=visG ρ->True:=λ_=>trivial
 rcases c with rfl | rfl | rfl | rfl | rfl | rfl | rfl | rfl | rfl | rfl | rfl
 .exact zo6 (z9 b (zf (d:=.non) f) e) rfl
 .exact zlI (z9 b (zf (d:=.non) f) e) rfl
 .exact zlJ (z9 b (zf (d:=.non) f) e) rfl
 .exact zl9 (z9 b (zf (d:=.non) f) e) rfl
 .exact zlL (z9 b (zf (d:=.non) f) e) rfl
 .exact zmo (z9 b (zf (d:=.non) f) e) rfl
 .exact zhP (z9 b (zf (d:=.non) f) (z4 e)) rfl
 .exact zjf (z9 b (zf (d:=.non) f) (z4 e)) rfl
 .exact ziN (z9 b (zf (d:=.non) f) (z4 e)) rfl
 .exact zhm (z9 b (zf (d:=.non) f) (z4 e)) rfl
 .exact ziK (z9 b (zf (d:=.non) f) (z4 e)) rfl
theorem zgm {d:D}(ok:yh m ts)(n:(h.length:Int)=m)(j:∀ v∈h,0<=v)(l:h.sum<=300)(o:noS d=true)(r:ya d 0 (m - 1)=false){k:Int}(t:14 < k)(u:k < 27):ze [.int k,zM m ts,hD h,d]=some (.lst [.int 3]):=by
 have c:k=15\/k=16\/k=17\/k=18\/k=19\/k=20\/k=21\/k=22\/k=23\/k=24\/k=25\/k=26:=by omega
 have e:=znh ok
 have f:=xB ok
 have i:=zlS ok n j l
 have g:=xK ok n j l
 have a:=zmV (ts:=ts) o r
 have s:=zec (m:=m) (ts:=ts) (p:=0) ⟨by decide,by have:=ok.lo;omega⟩
 have q:=xC (m:=m) (ts:=ts) (p:=0) ⟨by decide,by have:=ok.lo;omega⟩
 have w:∀ b,yV [zM m ts,d,b]=some 3:=λb=>z9 e (zf (d:=.non) f) a
 rcases c with rfl | rfl | rfl | rfl | rfl | rfl | rfl | rfl | rfl | rfl | rfl | rfl
 .exact zhP (z9 e (zf (d:=.non) f) (z9 i (zf (d:=.non) g) a)) rfl
 .exact zjf (z9 e (zf (d:=.non) f) (z9 i (zf (d:=.non) g) a)) rfl
 .exact ziN (z9 e (zf (d:=.non) f) (z9 i (zf (d:=.non) g) a)) rfl
 .exact zhm (z9 e (zf (d:=.non) f) (z9 i (zf (d:=.non) g) a)) rfl
 .exact ziK (z9 e (zf (d:=.non) f) (z9 i (zf (d:=.non) g) a)) rfl
 .exact zlM (z9 e (zf (d:=.non) f) a) rfl
 .exact zmt (z9 e (zf (d:=.non) f) (z9 s (zf (d:=.non) q) a)) rfl
 .exact zlN (z9 e (zf (d:=.non) f) (z4 a)) rfl
 .exact zlU (w _) rfl
 .exact zl8 (w _) rfl
 .exact zmr (w _) rfl
 .exact zl6 (w _) rfl
variable {p:Int}
theorem zaR {W H:D}:zbI [W,H,.lst []]=some (.tup [.lst [],.non]):=rfl
theorem zhf (ok:yh m ts)(c:(h.length:Int)=m)(a:∀ v∈h,0<=v)(b:h.sum<=300):ZB [zM m ts,hD h,.lst []]=some (.lst []):=by
 refine yT (ρ:=[.v (zM m ts),.v (hD h),.v (.lst []),.no,.no]) rfl ?_
 unfold ze1
 refine zl (zf (d:=.non) (xB ok)) (zl (zf (d:=.non) (xK ok c a b)) ?_)
 refine zl (yr (d:=.tup [.lst [],.non]) (sv (zt (ds:=[zM m ts,hD h,.lst []]) rfl zaR))) ?_
 exact zl (yr (d:=.non) (sv rfl)) (zl (WO rfl) (yt rfl rfl))
theorem zj2 (ok:yh m ts)(c:(h.length:Int)=m)(a:∀ v∈h,0<=v)(b:h.sum<=300):xX [zM m ts,hD h,.lst []]=some .non:=by
 refine yT (ρ:=[.v (zM m ts),.v (hD h),.v (.lst [])]) rfl ?_
 unfold ZX
 exact zl (zf (d:=.non) (xB ok)) (zl (zf (d:=.non) (xK ok c a b)) (yt (zG (d:=.non) (yl (x:=.tup [.lst [],.non]) (y:=.int 1) (zt (ds:=[zM m ts,hD h,.lst []]) rfl zaR) rfl rfl)) rfl))
theorem zcG {W:D}:x4 [W,.tup []]=some .non:=rfl
theorem zeL (h:Hl)(a:h.length<=1000):zeE [hD h,.tup []]=some (hD h):=by
 refine yT (ρ:=[.v (hD h),.v (.tup []),.no,.no]) rfl ?_
 unfold zl1
 refine zl (ρ':=[.v (hD h),.v (.tup []),.o (h.map .int),.no]) rfl ?_
 exact zl (ρ':=[.v (hD h),.v (.tup []),.o (h.map .int),.no]) rfl (zjN (ρ':=[.v (hD h),.v (.tup []),.v (.lst (h.map .int)),.no]) rfl (yt rfl rfl))
theorem zfR (ok:yh m ts)(c:(h.length:Int)=m)(a:∀ v∈h,0<=v)(b:h.sum<=300):Yd [zM m ts,hD h,.tup []]=some (hD h):=by
 have:=ok.hi
 refine yT (ρ:=[.v (zM m ts),.v (hD h),.v (.tup [])]) rfl ?_
 unfold zbS
 exact zl (zf (d:=.non) (xB ok)) (zl (zf (d:=.non) (xK ok c a b)) (zl (zf (d:=.non) (zt (ds:=[zM m ts,.tup []]) rfl zcG)) (yt (zG (d:=hD h) (zt (ds:=[hD h,.tup []]) rfl (zeL h (by omega)))) rfl)))
theorem zln:Ve [.lst []]=some .non:=by kernel_rfl
theorem zj0 {b:List Int}(h:b≠[]):zgN b∈b:=by
 unfold zgN
 cases e:b.min? with
 | none=>exact absurd (List.min?_eq_none_iff.mp e) h
 | some a=>exact(List.min?_eq_some_iff.mp e).1
theorem zpe {ns:List Int}(h:ns≠[])(a:∀ x∈ns,0<=x):∃ M,znA [hD ns]=some (.int M)/\0<=M:=by
 refine⟨zgN ns,?_,?_⟩
 .show(zdn (ns.map .int)).bind (λns=>if ns=[]then none else some (D.int (zgN ns)))=_
  rw[YO]
  show(if ns=[]then none else some (D.int (zgN ns)))=_
  rw[t9 h]
 .exact a _ (zj0 h)
theorem zkI (ok:yh m ts)(e:(h.length:Int)=m)(a:∀ v∈h,0<=v)(f:h.sum<=300):vp [zM m ts,hD h,.tup []]=some (.lst []):=by
 have g:=ok.lo
 have i:=ok.hi
 obtain⟨M,j,k⟩:=zpe (ns:=h) (λz=>by rw[z]at e;have:(0:Int)=m:=e;omega) a
 refine yT (ρ:=[.v (zM m ts),.v (hD h),.v (.tup []),.no,.no,.no,.no]) rfl ?_
 unfold YM
 refine zl (zf (d:=.non) (xB ok)) (zl (zf (d:=.non) (xK ok e a f)) (zl (zf (d:=.non) (zt (ds:=[zM m ts,.tup []]) rfl zcG)) ?_))
 refine zl (WO (zrj (b:=false) (c:=false) (Xc (yl (x:=.non) (y:=.non) (zt (ds:=[.lst []]) rfl zln) rfl rfl)) (Xc (yl (x:=.int M) (y:=.int 0) (zpy (ds:=[hD h]) (zW (zt (ds:=[hD h,.tup []]) rfl (zeL h (by omega))) Zt) j) rfl (by show some (D.bl (decide (M < 0)))=_;rw[j5 (by omega)]))))) ?_
 refine zl (ρ':=[.v (zM m ts),.v (hD h),.v (.tup []),.o [],.no,.no,.no]) rfl ?_
 refine zl (ρ':=[.v (zM m ts),.v (hD h),.v (.tup []),.o [],.v (.lst []),.no,.no]) rfl ?_
 refine zl (ρ':=[.v (zM m ts),.v (hD h),.v (.tup []),.o [],.v (.lst []),.no,.no]) rfl ?_
 exact zjN (ρ':=[.v (zM m ts),.v (hD h),.v (.tup []),.v (.lst []),.v (.lst []),.no,.no]) rfl (yt rfl rfl)
theorem zgE (ok:yh m ts)(e:(h.length:Int)=m)(a:∀ v∈h,0<=v)(c:h.sum<=300)(b:0<=p/\p < m):ZI [zM m ts,hD h,.int p,.int 1,.lst []]=some (.bl (decide (1<=vAt h p))):=by
 refine yT (ρ:=[.v (zM m ts),.v (hD h),.v (.int p),.v (.int 1),.v (.lst []),.no,.no]) rfl ?_
 unfold zer
 refine zl (zf (d:=.non) (xB ok)) (zl (zf (d:=.non) (xK ok e a c)) (zl (zf (d:=.non) (xC (ts:=ts) b)) (zl (zf (d:=.non) (zt (ds:=[.int 1,.int 1,.int 300]) rfl (zbX (by decide) (by decide)))) ?_)))
 refine zl (yr (d:=.tup [.lst [],.non]) (sv (zt (ds:=[zM m ts,hD h,.lst []]) rfl zaR))) ?_
 refine zl (WO rfl) (zl (yr (d:=hD h) (sv rfl)) ?_)
 exact yt (zG (yl (x:=.int (vAt h p)) (y:=.int 1) (yl (x:=hD h) (y:=.int p) rfl rfl (wQ b.1 (by omega))) rfl rfl)) rfl
theorem zlv (ok:yh m ts)(f:(h.length:Int)=m)(a:∀ v∈h,0<=v)(b:h.sum<=300)(c:0<=p/\p < m):xJ [zM m ts,hD h,.int p,.int 1,.lst []]=some (.bl false):=by
 refine yT (ρ:=[.v (zM m ts),.v (hD h),.v (.int p),.v (.int 1),.v (.lst []),.no,.no]) rfl ?_
 unfold YZ
 refine zl (zf (d:=.non) (zaA ok f a b c (by decide) (by decide))) ?_
 refine zl (ρ':=[.v (zM m ts),.v (hD h),.v (.int p),.v (.int 1),.v (.lst []),.no,.no]) rfl ?_
 refine zl (ρ':=[.v (zM m ts),.v (hD h),.v (.int p),.v (.int 1),.v (.lst []),.m true [] [],.no]) rfl ?_
 refine zl (ρ':=[.v (zM m ts),.v (hD h),.v (.int p),.v (.int 1),.v (.lst []),.m true [] [],.no]) rfl ?_
 refine yt (d:=.bl false) ?_ rfl
 show zO (v9 (zi (zmX false) (zb 1) (zb 5)) (zd 2 Zn (za (zb 0) (za (zb 5) zc)))) [.v (zM m ts),.v (hD h),.v (.int p),.v (.int 1),.v (.lst []),.v (.dct true true [] []),.no]=_
 refine zG ?_
 have e:zi (zmX false) (zb 1) (zb 5) (visG [.v (zM m ts),.v (hD h),.v (.int p),.v (.int 1),.v (.lst []),.v (.dct true true [] []),.no])=some (.bl false):=by
  refine yl (x:=hD h) (y:=.dct true true [] []) rfl rfl ?_
  show(zjG (hD h)).map _=_
  rw[Vh]
  rfl
 unfold v9
 rw[e]
 rfl
theorem nb_q (ok:yh m ts):zV [zM m ts,.int p]=some (.lst ((nbN m ts p).map Wt)):=by
 show(if xy (zM m ts)=true then some (D.lst ((nbN (zaz (zM m ts)) (zcS (zM m ts)) p).map Wt))else none)=_
 rw[t6 ((yX _).mpr ⟨_,_,rfl,ok⟩),xW,wy]
theorem zmH (ok:yh m ts)(a:0<=p/\p < m):Yg [zM m ts,.int p]=some (.lst ((nbN m ts p).map Wt)):=by
 refine yT (ρ:=[.v (zM m ts),.v (.int p)]) rfl ?_
 unfold zbY
 exact zl (zf (d:=.non) (xB ok)) (zl (zf (d:=.non) (xC (ts:=ts) a)) (yt (zG (zt (ds:=[zM m ts,.int p]) rfl (nb_q ok))) rfl))
theorem zlT {q:Int}(ok:yh m ts)(b:0<=p/\p < m)(a:0<=q/\q < m):∃ d,zcw [zM m ts,.int p,.int q]=some d:=by
 have e:((zjO m ts p).map vz).length=m.toNat:=by rw[u8,VB]
 obtain⟨d,c⟩:∃ d,((zjO m ts p).map vz)[q.toNat]?=some d:=⟨_,q1 (by omega)⟩
 refine⟨d,yT (ρ:=[.v (zM m ts),.v (.int p),.v (.int q)]) rfl ?_⟩
 unfold zpW
 exact zl (zf (d:=.non) (xB ok)) (zl (zf (d:=.non) (xC (ts:=ts) b)) (zl (zf (d:=.non) (xC (ts:=ts) a)) (yt (zG (yl (x:=.lst ((zjO m ts p).map vz)) (y:=.int q) (zt (ds:=[zM m ts,.int p]) rfl (zbU ok b)) rfl (zgJ a.1 c))) rfl)))
theorem zk7 (ok:yh m ts)(c:(h.length:Int)=m)(a:∀ v∈h,0<=v)(b:h.sum<=300):xU [zM m ts,hD h]=some (.lst ((zq0 (zaz (zM m ts)) (zcS (zM m ts)) ((h.map D.int).map zoH)).map zp)):=by
 show(if (xy (zM m ts)&&xc m (.tup (h.map .int)))=true then _ else none)=_
 rw[(yX _).mpr ⟨_,_,rfl,ok⟩,Xb c a b]
 rfl
theorem zhA (ok:yh m ts)(g:(h.length:Int)=m)(a:∀ v∈h,0<=v)(z:h.sum<=4){k:Int}(C:8 < k)(D:k < 23):ze [.int k,zM m ts,hD h,.int (m - 1)]=some (.lst []):=by
 have c:k=9\/k=10\/k=11\/k=12\/k=13\/k=14\/k=15\/k=16\/k=17\/k=18\/k=19\/k=20\/k=21\/k=22:=by omega
 have w:=ok.lo
 have x:=ok.hi
 have p:h.sum<=300:=by omega
 have q:h.sum<=12:=by omega
 have b:(h.sum.toNat+1) ^ m.toNat < sizeLine:=j9 (k8 (Nat.pow_le_pow_left (show h.sum.toNat+1<=5 by omega) _) (Nat.pow_le_pow_right (by decide) (show m.toNat<=8 by omega))) (by decide)
 have o:0<=m - 1/\m - 1 < m:=by omega
 have t:(0:Int)<=0/\0 < m:=by omega
 have i:=znh ok
 have j:=xB ok
 have l:=zlS ok g a p
 have s:=xK ok g a p
 have r:=zec (ts:=ts) o
 have u:=zec (ts:=ts) t
 have y:=xC (ts:=ts) t
 have A:=xC (ts:=ts) o
 rcases c with rfl | rfl | rfl | rfl | rfl | rfl | rfl | rfl | rfl | rfl | rfl | rfl | rfl | rfl
 .exact zpL (yO i (zf (d:=.non) j) l) (zk7 ok g a p)
 .exact zox (yO i (zf (d:=.non) j) l) (zhf ok g a p)
 .exact znQ (yO i (zf (d:=.non) j) l) (zj2 ok g a p)
 .exact zou (yO i (zf (d:=.non) j) l) (zfR ok g a p)
 .exact zmG (yO i (zf (d:=.non) j) l) (zkI ok g a p)
 .obtain⟨f,e,_⟩:=zfB ok g a q b
  exact zm5 (yO i (zf (d:=.non) j) l) e
 .exact zn7 (yO i (zf (d:=.non) j) (yO l (zf (d:=.non) s) r)) (zgE ok g a p o)
 .obtain⟨M,e,_⟩:=zfx ok g a q b o
  exact zn1 (yO i (zf (d:=.non) j) (yO l (zf (d:=.non) s) r)) e
 .obtain⟨d,e,_⟩:=zf0 ok g a q b o (n:=1) (by decide) (by decide)
  exact zos (yO i (zf (d:=.non) j) (yO l (zf (d:=.non) s) r)) e
 .exact zor (yO i (zf (d:=.non) j) (yO l (zf (d:=.non) s) r)) (zlv ok g a p o)
 .obtain⟨f,_,e⟩:=zbB ok g a q b (λf B=>t8 (few ok g a z B) (show 64<=64 by decide)) o (n:=1) (by decide) (by decide)
  exact zoy (yO i (zf (d:=.non) j) (yO l (zf (d:=.non) s) r)) e
 .exact zoj (yO i (zf (d:=.non) j) r) (zmH ok o)
 .obtain⟨d,e⟩:=zlT ok t o
  exact zol (yO i (zf (d:=.non) j) (yO u (zf (d:=.non) y) r)) e
 .obtain⟨d,e⟩:=zlT ok o t
  exact znw (yO i (zf (d:=.non) j) (yO r (zf (d:=.non) A) u)) e
end
theorem zoX {ds:List D}{i:Int}(b:0<=i)(h:i < (ds.length:Int)):∃ d,d∈ds/\ixD (.lst ds) (.int i)=some d:=by
 have a:i.toNat < ds.length:=by omega
 exact⟨ds[i.toNat],u0l a,zgJ b (q1 a)⟩
theorem zit {m t:Int}{a:List Tie}(ok:yh m a)(c:a.length<=28):∃ d,vG [zM m a,.int t]=some d/\noS d=true/\xy d=false:=by
 have f:Ww (a.map zp)=true:=by
  have:∀ a:List Tie,Ww (a.map zp)=true:=λa=>by
   induction a with
   | nil=>rfl
   | cons t a h=>show(noS (zp t)&&Ww (a.map zp))=true;rw[h];rfl
  exact this a
 have j:(a.map zp).length<=28:=by rw[u8];exact c
 obtain⟨d,e,g⟩:=zoX (ds:=zgA m (a.map zp)) (i:=t % 13) (l4 _ (by decide)) (m5 _ (by decide))
 refine⟨d,?_,zks f d e,zow ok d e⟩
 clear e f
 unfold zM
 generalize a.map zp=A at *
 have b:∀ (B:List D),B.length<=1->wS (.tup A) (.tup B)=some (.tup (A++B)):=λB k=>by
  show(if lim (A.length+B.length)=true then _ else none)=_
  rw[t6 (x9 (by omega))]
 refine yT (ρ:=[.v (.tup [.int m,.tup A]),.v (.int t),.no,.no,.no]) rfl ?_
 unfold ZN
 refine zl (ρ':=[.v (.tup [.int m,.tup A]),.v (.int t),.v (.int m),.v (.tup A),.no]) rfl ?_
 refine zl (yr (d:=.lst ((zgA m A).take 7)) (sv (zeN (ziL (ds:=(zgA m A).take 7) ?_ (by show 7<=1000;decide))))) ?_
 .refine zW rfl (zW rfl (zW rfl (zW rfl (zW rfl (zW ?_ (zW rfl Zt))))))
  exact zmf (zW rfl (zW (yl (x:=.tup A) (y:=.tup [zp (m - 1,m)]) rfl rfl (b _ (by show 1<=1;decide))) Zt)) (by show 2<=1000;decide)
 refine zl (yr (d:=.lst (zgA m A)) (sv (yl (x:=.lst ((zgA m A).take 7)) (y:=.lst ((zgA m A).drop 7)) rfl (zeN (ziL (ds:=(zgA m A).drop 7) ?_ (by show 6<=1000;decide))) rfl))) ?_
 .refine zW rfl (zW rfl (zW rfl (zW ?_ (zW rfl (zW rfl Zt)))))
  refine zmf (zW rfl (zW (yl (x:=.tup A) (y:=.tup ((A++[zp (0,0)]).take 1)) rfl ?_ (b _ (by rw[u0m];omega))) Zt)) (by show 2<=1000;decide)
  show(wS (.tup A) (.tup [zp (0,0)])).bind (λd=>slD d none (some 1))=_
  rw[b _ (by show 1<=1;decide)]
  show some (D.tup (WB (A++[zp (0,0)]) none (some ((1:Nat):Int))))=_
  rw[zpO]
 exact yt (zG (yl (x:=.lst (zgA m A)) (y:=.int (t % 13)) rfl (yl (x:=.int t) (y:=.int 13) rfl rfl (x5 (by decide))) g)) rfl
theorem zda {m t:Int}(h:1<=m)(g:m<=8):∃ d,wd [.int m,.int t]=some d/\noS d=true/\ya d 0 (m - 1)=false:=by
 obtain⟨d,c,f⟩:=zoX (ds:=[D.int (-1),.int m,.bl true,.non,.str "0",.tup [.int 0],.int (10 ^ 30),.bl false]) (i:=t % 8) (l4 _ (by decide)) (m5 _ (by decide))
 have e:wd [.int m,.int t]=some d:=by
  refine yT (ρ:=[.v (.int m),.v (.int t)]) rfl ?_
  unfold Yz
  exact yt (zG (yl (x:=.lst [D.int (-1),.int m,.bl true,.non,.str "0",.tup [.int 0],.int (10 ^ 30),.bl false]) (y:=.int (t % 8)) (by kernel_rfl) (yl (x:=.int t) (y:=.int 8) rfl rfl (x5 (by decide))) f)) rfl
 have b:∀ i:Int,i < 0\/m<=i->ya (.int i) 0 (m - 1)=false:=λi a=>by
  rw[Ze]
  unfold inR
  rcases a with a | a
  .rw[j5 (by omega)];rfl
  .rw[j5 (show ¬ i<=m - 1 by omega),m9]
 simp only[q4,u0W,or_false]at c
 rcases c with rfl | rfl | rfl | rfl | rfl | rfl | rfl | rfl
 .exact⟨_,e,rfl,b _ (.inl (by decide))⟩
 .exact⟨_,e,rfl,b _ (.inr (h8 _))⟩
 .exact⟨_,e,rfl,rfl⟩
 .exact⟨_,e,rfl,rfl⟩
 .exact⟨_,e,rfl,rfl⟩
 .exact⟨_,e,rfl,rfl⟩
 .exact⟨_,e,rfl,b _ (.inr (u02 g (by decide)))⟩
 .exact⟨_,e,rfl,rfl⟩
theorem zn6 {ρ:Ev}{c k m:Int}(h:ρ[1]?=some (some (.int c)))(a:0 < m):zi xI (zd 2 zY (za (zb 1) (za (eC (.int k)) zc))) (eC (.int m)) ρ=some (.int (zc6 c k % m)):=by
 refine yl (x:=.int (zc6 c k)) (y:=.int m) (zt (ds:=[.int c,.int k]) (zW (by unfold zb;rw[h];rfl) rfl) rfl) rfl (x5 a)
theorem ev_m {c m:Int}{ρ:Ev}(h:ρ[1]?=some (some (.int c)))(a:0 < m):zi xI (zb 1) (eC (.int m)) ρ=some (.int (c % m)):=yl (x:=.int c) (y:=.int m) (by unfold zb;rw[h];rfl) rfl (x5 a)
theorem zkK {a k c:Int}{ρ:Ev}{f:Ev->Option D}(h:f ρ=some (.int k)):tOf (yC ltD ltD (eC (.int a)) f (eC (.int c))) ρ=some (decide (a < k)&&decide (k < c)):=by
 show((f ρ).bind λy=>((ltD (.int a) y).bind asB).bind λb=>if b=true then ltD y (.int c)else some (.bl false)).bind asB=_
 rw[h]
 show((some (decide (a < k))).bind λb=>if b=true then some (D.bl (decide (k < c)))else some (.bl false)).bind asB=_
 cases decide (a < k) <;> rfl
theorem zo5 {V:List Int}{c:Int}{U T J O o6 S P:Sl}{N B C:SE->Prop}{R:D->Prop}(q:∀ U T J O o6 S P,N [.v (.scr V),.v (.int c),U,T,J,O,o6,S,P]):(zbi [.v (.scr V),.v (.int c),U,T,J,O,o6,S,P]).w N B C R:=by
 unfold zbi
 obtain⟨y,X⟩:∃ y:Int,c / 64 % 8=y:=⟨_,rfl⟩
 obtain⟨y0,y1⟩:=zev (by decide) X
 obtain⟨m,hm⟩:∃ m:Int,1+y=m:=⟨_,rfl⟩
 have b:1<=m/\m<=8:=by omega
 obtain⟨l,ew,e⟩:=zi5 (n:=m) (c:=c / 512) b.1 b.2
 have I:l.length<=28:=k8 e.length_le (VE m.toNat (by omega)).2.2
 have ok:yh m l:=by
  obtain⟨p1,p2,_⟩:=VE m.toNat (by omega)
  exact⟨b.1,b.2,λt ht=>by have:=p2 t (e.subset ht);omega,p1.sublist e⟩
 obtain⟨p,eh,L,w,A⟩:=zfr (n:=m) (c:=c) (mo:=4) (by omega) (by omega) (by decide) (by decide)
 obtain⟨k,W⟩:∃ k:Int,zc6 c 1 % 27=k:=⟨_,rfl⟩
 obtain⟨k0,k1⟩:=zev (by decide) W
 obtain⟨v,o,Q,hb2⟩:=zit (t:=zc6 c 2) ok I
 obtain⟨E,G,a2,M⟩:=zfu (t:=zc6 c 3) L b.1 b.2 w
 obtain⟨u,F,H,hp2⟩:=zda (m:=m) (t:=zc6 c 4) b.1 b.2
 obtain⟨x1,_,Z⟩:=zoX (ds:=[hD p,E]) (i:=c % 2) (l4 _ (by decide)) (m5 _ (by decide))
 obtain⟨x2,_,a1⟩:=zoX (ds:=[.int 0,u]) (i:=c / 2 % 2) (l4 _ (by decide)) (m5 _ (by decide))
 obtain⟨x3,_,a0⟩:=zoX (ds:=[.int 0,u]) (i:=c % 2) (l4 _ (by decide)) (m5 _ (by decide))
 refine zl (yr (d:=.int m) (sv (yl (x:=.int 1) (y:=.int y) rfl (yl (x:=.int (c / 64)) (y:=.int 8) (yl (x:=.int c) (y:=.int 64) rfl rfl (ZC (by decide) (by decide))) rfl (by rw[x5 (by decide),X])) (by rw[z5,hm])))) ?_
 refine zl (yr (d:=zM m l) (sv (zt (ds:=[.int m,.int (c / 512)]) (zW rfl (zW (yl (x:=.int c) (y:=.int 512) rfl rfl (ZC (by decide) (by decide))) Zt)) ew))) ?_
 refine zl (yr (d:=hD p) (sv (zt (ds:=[.int m,.int c,.int 4]) rfl eh))) ?_
 refine zl (yr (d:=.int k) (sv (by rw[<-W];exact zn6 rfl (by decide)))) ?_
 refine zl (yr (d:=v) (sv (zt (ds:=[zM m l,.int (zc6 c 2)]) rfl o))) ?_
 refine zl (yr (d:=E) (sv (zt (ds:=[hD p,.int (zc6 c 3)]) rfl G))) ?_
 refine zl (yr (d:=u) (sv (zt (ds:=[.int m,.int (zc6 c 4)]) rfl F))) ?_
 clear X hm ew eh W o G F
 refine zl (WO (Xc (yl (x:=.lst [.int 0,.int (-1)]) (y:=.lst [.int 0,.int (-1)]) (zt (ds:=[.int k,v,x1,x2]) (zW rfl (zW rfl (zW (yl (x:=.lst [hD p,E]) (y:=.int (c % 2)) rfl (ev_m rfl (by decide)) Z) (zW (yl (x:=.lst [.int 0,u]) (y:=.int (c / 2 % 2)) rfl (yl (x:=.int (c / 2)) (y:=.int 2) (yl (x:=.int c) (y:=.int 2) rfl rfl (ZC (by decide) (by decide))) rfl (x5 (by decide))) a1) Zt)))) (zj3 (zrZ Q hb2) k0 k1)) rfl rfl))) ?_
 have t1:∀ {f g:Ev->Option D} {r:List D} {ρ:Ev} {s z:Int},zb 5 ρ=some (.int k)->(s < k->k < z->f ρ=some (.lst r))->g ρ=some (.lst r)->zlk (.lst r) (.lst r)=some (.bl false)->xj (tOf (yC ltD ltD (eC (.int s)) (zb 5) (eC (.int z)))) (tOf (zi zlk f g)) ρ=some false:=by
  intro f g r ρ s z v5 hf hg Y
  have j:=zkK (a:=s) (c:=z) v5
  by_cases h:s < k/\k < z
  .rw[q7 h.1,q7 h.2]at j
   exact zhX j (Xc (yl (x:=.lst r) (y:=.lst r) (hf h.1 h.2) hg Y))
  .have:(decide (s < k)&&decide (k < z))=false:=by
    rw[Bool.and_eq_false_iff]
    by_cases c2:s < k
    .exact .inr (j5 λc3=>h ⟨c2,c3⟩)
    .exact .inl (j5 c2)
   rw[this]at j
   exact zio j
 refine zl (WO (t1 (r:=[.int 2]) rfl (λK k3=>zt (ds:=[.int k,zM m l,E,x3]) (zW rfl (zW rfl (zW rfl (zW (yl (x:=.lst [.int 0,u]) (y:=.int (c % 2)) rfl (ev_m rfl (by decide)) a0) Zt)))) (zjB ok a2 M K k3)) rfl rfl)) ?_
 refine zl (WO ?_) ?_
 .have j:tOf (zi gtD (zb 5) (eC (.int 14))) (visG [.v (.scr V),.v (.int c),.v (.int m),.v (zM m l),.v (hD p),.v (.int k),.v v,.v E,.v u])=some (decide (14 < k)):=Xc (yl (x:=.int k) (y:=.int 14) rfl rfl rfl)
  by_cases h:14 < k
  .rw[q7 h]at j
   exact zhX j (Xc (yl (x:=.lst [.int 3]) (y:=.lst [.int 3]) (zt (ds:=[.int k,zM m l,hD p,u]) rfl (zgm ok L w (by omega) H hp2 h k1)) rfl rfl))
  .rw[j5 h]at j
   exact zio j
 exact Z9 (WO (t1 (r:=[]) rfl (λK k3=>zt (ds:=[.int k,zM m l,hD p,.int (m - 1)]) rfl (zhA ok L w A K k3)) rfl rfl)) (q _ _ _ _ _ _ _)
theorem zob {a b:List D}(h:a.length+b.length<=1000):wS (.lst a) (.lst b)=some (.lst (a++b)):=by
 show(if lim (a.length+b.length)=true then _ else none)=_
 rw[t6 (x9 h)]
theorem zkT (a:List Int)(h:a.length<=63):zqf [.scr a]=some (.bl true):=by
 refine yT (ρ:=[.v (.scr a),.no,.no,.no,.no,.no,.no,.no,.no]) rfl ?_
 unfold zlr
 obtain⟨b,c⟩:∃ b:List Int,(WB a none (some 20))++[0,1,2,3]=b:=⟨_,rfl⟩
 have p:((WB a none (some 20)).map D.int).length+4<=1000:=by rw[u8];have:=zkH a none (some 20);omega
 refine yb (zcM (ds:=b.map .int) (λi ρ=>∃ j n m e f k l g,ρ=[.v (.scr a),j,n,m,e,f,k,l,g]) ?_ ⟨_,_,_,_,_,_,_,_,rfl⟩ ?_ ?_)
 .refine zph (d:=.lst (b.map .int)) (yl (x:=.lst ((WB a none (some 20)).map D.int)) (y:=.lst [.int 0,.int 1,.int 2,.int 3]) rfl rfl ?_) rfl
  rw[zob p,<- c,n9]
  rfl
 .rintro i d ρ o ⟨j,n,m,e,f,k,l,g,rfl⟩
  rw[j1]at o
  obtain⟨z,q,rfl⟩:=u9.mp o
  exact⟨_,rfl,zo5 λ_ _ _ _ _ _ _=>⟨_,_,_,_,_,_,_,_,rfl⟩⟩
 .rintro ρ ⟨j,n,m,e,f,k,l,g,rfl⟩
  exact yt rfl rfl
theorem zo9 (T:Txt P w K mg base ad):Yb P w K mg base CX0 40 (ad.f 79) (ad.e 79) (Rw 79).ps (zgW K):=by
 letI:KK:=⟨K⟩
 have G__law_stir:=Yr T
 have G__law_web_by:=VQ T
 have G__law_heap_by:=WS T
 have G__law_no_web:=V0 T
 have G__law_no_heap:=Vj T
 have G__law_no_place:=Wj T
 have G__law_came:=zcR T
 refine(zqk (p:=zqf) (Vz (N:=(Rw 79).N) (ps:=(Rw 79).ps) (T.d 79).fn (sc 79) (g:=zlr) λa A outer s H E b=>?_) zkT).mono (j:=13) (by decide)
 unfold zlr zbi
 apply zT <;> walk_at "s"
end
theorem all_mk {l:W.OpenLaw} {w:World} {K:W.Frag} {h:Heap} {mg:Str->Option Value} {fa:Addr} (X:K.In h) (G:h.Ns mainGlobals mg) (hfa:mg "law"=some (.ref fa)) {tk0:Tok} {tk1:Tok} {tk2:Tok}
 (D:∀ r∈zmW,Dx K mg ([]:List (Str × Addr)) r) (Z:∀ x∈zs,W.nsIn K mainGlobals x=some none)
 (gg0:W.nsIn K mainGlobals "MOST_PLACES"=some (some (.int 8 tk0)))
 (gg1:W.nsIn K mainGlobals "MOST_STONES"=some (some (.int 300 tk1)))
 (gg2:W.nsIn K mainGlobals "MOST_SEARCHED"=some (some (.int 12 tk2)))
 {xx0 xx1 xx2 xx3 xx4 xx5 xx6 xx7 xx8 xx9 xx10 xx11 xx12 xx13:Addr}
 (xa0:W.nsIn K mainGlobals "NoWeb"=some (some (.ref xx0)))
 (xa1:W.nsIn K mainGlobals "NoKind"=some (some (.ref xx1)))
 (xa2:W.nsIn K mainGlobals "NoHeap"=some (some (.ref xx2)))
 (xa3:W.nsIn K mainGlobals "NoPlace"=some (some (.ref xx3)))
 (xa4:W.nsIn K mainGlobals "NoNumber"=some (some (.ref xx4)))
 (xa5:W.nsIn K mainGlobals "NoTally"=some (some (.ref xx5)))
 (xa6:W.nsIn K mainGlobals "NotTree"=some (some (.ref xx6)))
 (xa7:W.nsIn K mainGlobals "NotJoined"=some (some (.ref xx7)))
 (xa8:W.nsIn K mainGlobals "NoWeights"=some (some (.ref xx8)))
 (xa9:W.nsIn K mainGlobals "NoRow"=some (some (.ref xx9)))
 (xa10:W.nsIn K mainGlobals "NoSteps"=some (some (.ref xx10)))
 (xa11:W.nsIn K mainGlobals "NoText"=some (some (.ref xx11)))
 (xa12:W.nsIn K mainGlobals "TooGreat"=some (some (.ref xx12)))
 (xa13:W.nsIn K mainGlobals "StoneError"=some (some (.ref xx13)))
 (xc2:XN K [xx0,xx1,xx2,xx3,xx4,xx5,xx6,xx7,xx8,xx9,xx10,xx11,xx12] xx13 xx2 2=true)
 (xb2:W.excIn K xx2 bmV "ValueError.__new__"=true)
 (xc3:XN K [xx0,xx1,xx2,xx3,xx4,xx5,xx6,xx7,xx8,xx9,xx10,xx11,xx12] xx13 xx3 3=true)
 (xb3:W.excIn K xx3 bmV "ValueError.__new__"=true)
 (xc0:XN K [xx0,xx1,xx2,xx3,xx4,xx5,xx6,xx7,xx8,xx9,xx10,xx11,xx12] xx13 xx0 0=true)
 {yi0:Addr} {yod0 yan0:Option Addr} {ysl0:Array (Option Value)} {yoc0 ykV0 ydc0 ypm0 ycd0 yct0:Value}
 (ya0:W.findIn K (.ref xx0) "__init__"=some (some (.ref yi0))) (yl0:K.lookup yi0=some ⟨yoc0,yod0,.func (W.fnOf "__init__" "NoWeb.__init__" (vT YN) (xQ YN) (zF YN) .none ykV0 ydc0 ypm0 yan0 ycd0 yct0),ysl0⟩) (yc0:W.codeIn K ycd0 "NoWeb.__init__"=true) (yk0:W.keepIn K (.ref yi0)=true)
 (ye0:zpZ K xx0 yi0=true) (yf0:zcv K xx0=true) (yg0:zrN K xx0 ["at"]=true)
 : ∃ fd:FuncData,(∀ (s:Shared) (v:Value),BindsTo s fd ⟨[v],[]⟩ [("script",v)])/\∀ base:Heap,K.In base->base.Ns mainGlobals mg->Yb l.prog w K mg base CX0 40 fa fd ["script"] (zgW K):=by
 have D':∀ i,Dx K mg ([]:List (Str × Addr)) (Rw i):=zfh D (D _ (k6 (i:=79) rfl))
 have e:=hfa.symm.trans (D' 79).choose_spec.choose_spec.1.at_
 cases e
 have FY0:=ziw (st:=YN) yl0 yc0 yk0
 have T:∀ base:Heap,Txt l.prog w K mg base ⟨λi=>(D' i).choose,λi=>(D' i).choose_spec.choose,tk0,tk1,tk2,xx0,xx1,xx2,xx3,xx4,xx5,xx6,xx7,xx8,xx9,xx10,xx11,xx12,xx13,_,_⟩:=λbase=>⟨λi=>(D' i).choose_spec.choose_spec.1,λx hx=>W.mg_none_of X G (Z x hx)
,
 f7 X G gg0,
 f7 X G gg1,
 f7 X G gg2,
 f7 X G xa0,
 f7 X G xa1,
 f7 X G xa2,
 f7 X G xa3,
 f7 X G xa4,
 f7 X G xa5,
 f7 X G xa6,
 f7 X G xa7,
 f7 X G xa8,
 f7 X G xa9,
 f7 X G xa10,
 f7 X G xa11,
 f7 X G xa12,
 f7 X G xa13,
 xb2,
 xb3,
 xc2,
 xc3,
 xc0,
 FY0,
 FY0.binds (ps:=["self","at"]) (λ_ _ _ _ _ _ us hl=>by repeat' first | rfl | (exfalso;revert hl;simp;done) | (rcases us with _ | ⟨_,us⟩)),
 ye0,
 yf0,
 yg0⟩
 exact⟨_,λs v=>zg2 (D' 79).choose_spec.choose_spec.1.fn λ_ _ _ _ _ _=>rfl,λbase _ _=>zo9 (T base)⟩
theorem walk {l:W.OpenLaw}{q:Program}{loose:List Str}{XP:(Str->Option Value)->Heap->Prop}{YP:World->Heap->Prop}{d:DefRec}{K:Params->W.Frag}(hn:l.most=some 63)(hdf:d.params.defaults=[])
 (hY:∀ (w:World) (h:Heap),YP w h->(K w.params).In h)
 (F:∀ (w:World) (mg:Str->Option Value) (fa:Addr) (h:Heap),(K w.params).In h->h.Ns mainGlobals mg->mg d.name=some (.ref fa) ->
  ∃ fd:FuncData,(∀ (s:Shared) (u:Value),BindsTo s fd ⟨[u],[]⟩ [("script",u)])/\∀ base:Heap,(K w.params).In base->base.Ns mainGlobals mg->Yb l.prog w (K w.params) mg base CX0 40 fa fd ["script"] (zgW (K w.params))) :
 PySem.W.WalkO q loose XP YP l.row.toRowW d [] (λf vs=>PySem.call f vs) :=
 L2.walk_of (n:=63) (k:=40) (x:="script") (CX:=λ_=>CX0) (sp:=λw=>zgW (K w.params)) hn (by decide) hdf ⟨rfl,by decide,by decide⟩ hY F (λ_ _ a ns hl _ hS=>⟨a,ns,rfl,hS,hl,λ_=>rfl⟩) λ_ _ _ _ _ z=>z
end Mz
open PySem PySem.W PyProof.Rows
namespace PySem.W.Fast
theorem tw2469480009668218607:True:=⟨⟩
theorem tw3176595691510602715:True:=⟨⟩
theorem tw10447201775775075031:True:=⟨⟩
theorem tw8557625778832753113:True:=⟨⟩
theorem tw12818068964171772044:True:=⟨⟩
theorem tw10512551848288771763:True:=⟨⟩
theorem tw17872697730598364741:True:=⟨⟩
theorem tw3937256529437647537:True:=⟨⟩
theorem tw11367266336498109090:True:=⟨⟩
theorem tw3740171923081924969:True:=⟨⟩
theorem tw537250732095000707:True:=⟨⟩
theorem tw15864436860899323381:True:=⟨⟩
theorem tw15790682479486577762:True:=⟨⟩
theorem tw7718129138682236315:True:=⟨⟩
theorem tw14760502808593832877:True:=⟨⟩
theorem tw12567280273639419962:True:=⟨⟩
theorem tw7705136500583496958:True:=⟨⟩
theorem tw10231288943958246489:True:=⟨⟩
theorem tw9254515106434073270:True:=⟨⟩
theorem tw11014825572387173572:True:=⟨⟩
theorem tw6007284387957044552:True:=⟨⟩
theorem tw1692767695632414979:True:=⟨⟩
theorem tw2946958755564942641:True:=⟨⟩
theorem tw1004720403473968521:True:=⟨⟩
theorem tw10957608651381363810:True:=⟨⟩
theorem tw14671903986036887317:True:=⟨⟩
theorem tw16016607116037691612:True:=⟨⟩
theorem tw15548435428623385678:True:=⟨⟩
theorem tw344691906125962846:True:=⟨⟩
theorem tw17408398676919936110:True:=⟨⟩
theorem tw10535630460383230272:True:=⟨⟩
theorem tw2638591335320577261:True:=⟨⟩
theorem tw10333404778487439407:True:=⟨⟩
theorem tw10587311519156932882:True:=⟨⟩
theorem tw5695626777254182517:True:=⟨⟩
theorem tw6428283552544967047:True:=⟨⟩
theorem tw14308075367243526383:True:=⟨⟩
theorem tw16668979379166971092:True:=⟨⟩
theorem tw9567614137760533642:True:=⟨⟩
theorem tw126605864971032141:True:=⟨⟩
theorem tw16733308608415722988:True:=⟨⟩
theorem tw17095943214319060156:True:=⟨⟩
theorem tw15321637346156184146:True:=⟨⟩
theorem tw5613539259525897802:True:=⟨⟩
theorem tw14068851023828364994:True:=⟨⟩
theorem tw5274257738479548788:True:=⟨⟩
theorem tw11603401576671979590:True:=⟨⟩
theorem tw5268747145190798957:True:=⟨⟩
theorem tw12712240762230490215:True:=⟨⟩
theorem tw17612147161454245381:True:=⟨⟩
theorem tw17495413273801973942:True:=⟨⟩
theorem tw17944149614375801868:True:=⟨⟩
theorem tw6244992348704955217:True:=⟨⟩
theorem tw2591115456089835705:True:=⟨⟩
theorem tw8751588884410752112:True:=⟨⟩
theorem tw753937066380490903:True:=⟨⟩
theorem tw3626353423636612411:True:=⟨⟩
theorem tw14665882100672986742:True:=⟨⟩
theorem tw4415462105637670100:True:=⟨⟩
theorem tw2693734345553244371:True:=⟨⟩
theorem tw17783623772830975614:True:=⟨⟩
theorem tw10705595915366224430:True:=⟨⟩
theorem tw16161297367621916765:True:=⟨⟩
theorem tw12890845537306717196:True:=⟨⟩
theorem tw2072728185975911443:True:=⟨⟩
theorem tw15504509337792624096:True:=⟨⟩
theorem tw11392394473367148295:True:=⟨⟩
theorem tw9608715372027594109:True:=⟨⟩
theorem tw17136984047859604972:True:=⟨⟩
theorem tw5910105866845141551:True:=⟨⟩
theorem tw3784492291284735763:True:=⟨⟩
theorem tw7088579118520805533:True:=⟨⟩
theorem tw8208279820253818459:True:=⟨⟩
theorem tw2385514988383182094:True:=⟨⟩
theorem tw10029692401015515743:True:=⟨⟩
theorem tw11829454369321243857:True:=⟨⟩
theorem tw17218552859775810550:True:=⟨⟩
theorem tw4625241538337266651:True:=⟨⟩
theorem tw4678368235225367662:True:=⟨⟩
theorem tw8324446751992011846:True:=⟨⟩
theorem tw2133728607911602220:True:=⟨⟩
theorem tw6138036981560818490:True:=⟨⟩
theorem tw15486062749558764557:True:=⟨⟩
theorem tw14359249832483521511:True:=⟨⟩
theorem tw6636821941789684749:True:=⟨⟩
theorem tw12694505589725646784:True:=⟨⟩
theorem tw4803357847223595506:True:=⟨⟩
theorem tw5966582221699347611:True:=⟨⟩
theorem tw10683053150493962804:True:=⟨⟩
theorem tw4977110679671279325:True:=⟨⟩
theorem tw15097094447792687179:True:=⟨⟩
theorem tw16930082408191057068:True:=⟨⟩
theorem tw9467476046357572852:True:=⟨⟩
theorem tw15523586196313077138:True:=⟨⟩
theorem tw4215708106208852757:True:=⟨⟩
theorem tw12348188461549167675:True:=⟨⟩
theorem tw7345621689488181125:True:=⟨⟩
theorem tw3367238253950394669:True:=⟨⟩
theorem tw2390504554885039830:True:=⟨⟩
theorem tw8121721194655676588:True:=⟨⟩
theorem tw10684583510537089661:True:=⟨⟩
theorem tw6281603602573080827:True:=⟨⟩
theorem tw10599868712146232960:True:=⟨⟩
theorem tw3714371857528039954:True:=⟨⟩
theorem tw6911813222900860911:True:=⟨⟩
theorem tw8132948024195049867:True:=⟨⟩
theorem tw14236038421813471234:True:=⟨⟩
theorem tw10057383038354435115:True:=⟨⟩
theorem tw11034908413516087534:True:=⟨⟩
theorem tw11141325491160022842:True:=⟨⟩
theorem tw1728131680177330773:True:=⟨⟩
theorem tw4341777433435723464:True:=⟨⟩
theorem tw17410574986066685840:True:=⟨⟩
theorem tw16701944381825766272:True:=⟨⟩
theorem tw9608661820737618737:True:=⟨⟩
theorem tw7437682798697282817:True:=⟨⟩
theorem tw822985942161940622:True:=⟨⟩
theorem tw13027429346772208281:True:=⟨⟩
end PySem.W.Fast
set_option maxRecDepth 100000 in
set_option maxHeartbeats 0 in
theorem PySem.Challenge.cw_twoforone_k06_refused_of_webs_holds : PySem.Challenge.rw_twoforone_k06_refused_of_webs.Holds := by
  w_on;o_law;k_head;(case hw=>w_witness2)
  k_fill
  refine Mz.walk (l:=PySem.Challenge.rw_twoforone_k06_refused_of_webs) rfl rfl (fun w h Y=>PySem.W.kIn_of Y) ?F
  case F =>
    intro w mg fa h KX G hmg
    refine' Mz.all_mk KX G hmg ?D ?Z ?gg0 ?gg1 ?gg2 ?xa0 ?xa1 ?xa2 ?xa3 ?xa4 ?xa5 ?xa6 ?xa7 ?xa8 ?xa9 ?xa10 ?xa11 ?xa12 ?xa13 ?xc2 ?xb2 ?xc3 ?xb3 ?xc0 ?ya0 ?yl0 ?yc0 ?yk0 ?ye0 ?yf0 ?yg0
    case D =>
      repeat
        refine' Dl.Dx_cons (Dl.mkX KX G ?_ ?_ ?_ ?_ ?_ ?_) ?_
        any_goals k_is
        · intro _ _ _ _ _ _ us hl
          repeat' first | rfl | (exfalso;revert hl;simp;done) | (rcases us with _ | ⟨_,us⟩)
        · first | exact .inl rfl | exact .inr ⟨_,rfl,rfl⟩
      exact fun _ h=>nomatch h
    case Z =>
      repeat
        refine' Dl.Z_cons ?_ ?_
        · k_is
      exact fun _ h=>nomatch h
    case gg0 | gg1 | gg2 | xa0 | xa1 | xa2 | xa3 | xa4 | xa5 | xa6 | xa7 | xa8 | xa9 | xa10 | xa11 | xa12 | xa13=>k_is
    case xc2 | xb2 | xc3 | xb3 | xc0=>kernel_rfl
    case ya0 | yl0 | yc0 | yk0=>k_is
    case ye0 | yf0 | yg0=>kernel_rfl
