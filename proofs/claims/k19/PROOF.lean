import PyProof.Rows.All
import Wide.All
import OpenK.AllK
import Wide.FinOn
import Lean
import PyProof.EqAt
import PyProof.EqKinds
import PyProof.TupleCall
import PyProof.NeKinds
import PySem.Challenge.RW_twoforone_k19_whole_rows_and_tallies
set_option Elab.async false
set_option linter.all false
set_option maxRecDepth 100000
set_option maxHeartbeats 4000000
def u03:=@PySem.Around.under_plainId
def u0U:=@Array.getElem?_eq_getElem
def u26:=@Array.getElem?_eq_some_iff
def u1X:=@Array.getElem?_toList
def i9:=@Array.length_toList
def u27:=@Array.perm_iff_toList_perm
def g0:=@Bool.and_eq_true
def u16:=@Bool.and_false
def u3E:=@Bool.and_true
def u1n:=@Bool.eq_iff_iff
def u1S:=@Bool.false_eq_true
def u9:=@Bool.false_ne_true
def u3u:=@Bool.not_eq_true'
def u2R:=@Bool.or_eq_true
def u17:=@PySem.Calls.call_function_entry
def u1T:=@PySem.Calls.spliced_cons
def u2r:=@PySem.Calls.spliced_nil
def u1Y:=@PySem.F.called_set
def u2s:=@PySem.F.plain_list_iadd
def u1u:=@PySem.F.slot_tuple_iterator_next
def u2T:=@PySem.F.slot_zip_next
def u1o:=@PySem.Heap.SameBut.update
def u4:=@PySem.Heap.get?_push_of_some
def j6:=@PySem.Heap.get?_push_size
def u0e:=@PySem.Heap.get?_update_other
def u0b:=@PySem.Heap.get?_update_self
def q5:=@PySem.Heap.lt_size
def u0A:=@PySem.Heap.size_push
def u3b:=@Int.add_zero
def u3c:=@Int.emod_lt_of_pos
def u2U:=@Int.emod_nonneg
def u29:=@Int.fdiv_eq_ediv_of_nonneg
def u1p:=@Int.le_refl
def u1Z:=@Int.mul_add
def u09:=@Int.natCast_add
def u00:=@Int.natCast_nonneg
def u3F:=@Int.ofNat.inj
def u0f:=@Int.toNat_natCast
def u2t:=@PyProof.Rows.KeyOrd.kle_of_klt
def u1q:=@PyProof.Rows.KeyOrd.kle_refl
def u2G:=@PyProof.Rows.KeyOrd.kle_trans
def u2g:=@List.Perm.eq_of_pairwise
def u1y:=@List.Perm.refl
def u2j:=@List.all_cons
def u0s:=@List.all_eq_true
def u1w:=@List.all_map
def u2M:=@List.any_cons
def u3L:=@List.any_eq_true
def u30:=@List.any_map
def u1j:=@List.append_assoc
def u0l:=@List.append_nil
def u0V:=@List.drop_eq_getElem_cons
def u1M:=@List.drop_length
def u4a:=@List.drop_zero
def u2B:=@List.eq_nil_iff_forall_not_mem
def u2H:=@List.ext_getElem
def u14:=@List.ext_getElem?
def u2V:=@List.filterMap_cons
def u3d:=@List.filter_append
def u2a:=@List.filter_cons
def u0O:=@List.filter_cons_of_neg
def u0t:=@List.filter_cons_of_pos
def u31:=@List.filter_nil
def u10:=@List.find?_cons
def u1z:=@List.findIdx?_eq_none_iff
def u2k:=@List.findIdx?_eq_some_iff_getElem
def u2W:=@List.flatMap_append
def u1C:=@List.flatten_cons
def u2u:=@List.foldl_append
def u2X:=@List.forIn_cons
def u2z:=@List.forIn_nil
def u0r:=@List.getD_eq_getElem?_getD
def u0i:=@List.getElem?_append_left
def u0d:=@List.getElem?_append_right
def u1U:=@List.getElem?_drop
def t9:=@List.getElem?_eq_getElem
def u0B:=@List.getElem?_eq_none
def t6:=@List.getElem?_eq_some_iff
def j5:=@List.getElem?_map
def u2d:=@List.getElem?_range
def u1g:=@List.getElem?_replicate
def u1k:=@List.getElem?_set
def d8:=@List.getElem?_set_ne
def u0x:=@List.getElem?_set_self
def u3v:=@List.getElem?_take_of_lt
def u1A:=@List.getElem?_zip_eq_some
def u05:=@List.getElem_mem
def u0G:=@List.getElem_of_mem
def u3m:=@List.getLast?_eq_getElem?
def j8:=@List.length_append
def i6:=@List.length_cons
def u0n:=@List.length_drop
def u01:=@List.length_eq_zero_iff
def u1x:=@List.length_filter_le
def u6:=@List.length_map
def u32:=@List.length_nil
def u2e:=@List.length_pos_iff
def u1D:=@List.length_range
def u1a:=@List.length_replicate
def u1E:=@List.length_set
def u11:=@List.length_singleton
def u1d:=@List.length_take
def p9:=@List.map_append
def u0v:=@List.map_congr_left
def p7:=@List.map_cons
def u2Y:=@List.map_id
def i4:=@List.map_map
def u33:=@List.map_set
def u0H:=@List.mem_append
def u04:=@List.mem_append_left
def b6:=@List.mem_append_right
def j9:=@List.mem_cons
def r8:=@List.mem_cons_of_mem
def d6:=@List.mem_cons_self
def p8:=@List.mem_filter
def u3M:=@List.mem_flatMap
def u2J:=@List.mem_iff_getElem
def b9:=@List.mem_map
def u0o:=@List.mem_map_of_mem
def d9:=@List.mem_of_getElem?
def u1O:=@List.mem_range
def d5:=@List.mem_singleton
def u2Z:=@List.mergeSort_perm
def u2C:=@List.min?_eq_some_iff
def u2v:=@List.nodup_append
def u0y:=@List.nodup_cons
def u1B:=@List.nodup_nil
def u0c:=@List.not_mem_nil
def u34:=@List.of_mem_zip
def u1b:=@List.pairwise_cons
def u3n:=@List.pairwise_iff_getElem
def u1l:=@List.pairwise_map
def u2l:=@List.pairwise_mergeSort
def u06:=@List.replicate_succ
def t7:=@List.size_toArray
def u20:=@List.sum_append
def u1h:=@List.sum_cons
def u1F:=@List.take_add_one
def u0W:=@List.take_length
def u1R:=@List.take_of_length_le
def u3w:=@List.take_sublist
def u4b:=@List.take_succ
def u3N:=@List.zipIdx_cons
def u3e:=@List.zip_cons_cons
def u1J:=@Nat.add_le_add_left
def u0L:=@Nat.le_add_right
def u21:=@Nat.le_antisymm
def u0S:=@Nat.le_of_lt
def u0P:=@Nat.le_of_lt_succ
def u0M:=@Nat.le_of_not_lt
def t5:=@Nat.le_refl
def u15:=@Nat.le_sub_one_of_lt
def u1r:=@Nat.le_succ
def p6:=@Nat.le_trans
def u0Q:=@Nat.lt_irrefl
def u0a:=@Nat.lt_of_le_of_lt
def u2m:=@Nat.lt_of_le_of_ne
def r6:=@Nat.lt_of_lt_of_le
def u3x:=@Nat.lt_of_succ_lt
def u07:=@Nat.lt_succ_of_lt
def u2b:=@Nat.lt_succ_self
def u1G:=@Nat.min_eq_left
def u3O:=@Nat.min_eq_right
def u3P:=@Nat.min_le_right
def u35:=@Nat.min_self
def u12:=@Nat.ne_of_gt
def o0:=@Nat.ne_of_lt
def u2K:=@Nat.sub_le_sub_right
def u1N:=@Nat.succ_le_succ
def u0m:=@Nat.zero_add
def u0I:=@Nat.zero_le
def u3y:=@Nat.zero_lt_of_lt
def u0R:=@Ne.symm
def u2n:=@PySem.Obj.data_mapFields
def u5:=@Option.bind_eq_some_iff
def i7:=@Option.bind_some
def u0Y:=@Option.isSome_iff_exists
def u8:=@Option.map_eq_some_iff
def i8:=@Option.some.inj
def u2N:=@PySem.Paired.length
def i5:=@PySem.PassesOwn.never
def u2A:=@Prod.ext
def u18:=@PyProof.Rows.F.entry_set_update_loop
def u1i:=@PyProof.Rows.F.plain_set_update_loop
def u22:=@PyProof.Rows.args_list_sort
def u3o:=@PyProof.Rows.args_sorted1
def u2D:=@PyProof.Rows.callWith_builtin1
def u0J:=@PyProof.Rows.callWith_type1
def u2O:=@PyProof.Rows.entry_list_sort
def u3p:=@PyProof.Rows.entry_sorted
def u3z:=@PyProof.Rows.kind_sorted
def u3q:=@PyProof.Rows.plain_sorted
def u23:=@PyProof.Rows.slot_list_sort
def u0z:=@PyProof.Rows.slot_tuple_getitem
def u19:=@PySem.F.args_dict_keyiterator_next_1
def u2h:=@PySem.F.args_tuple_add_2
def u2f:=@PySem.F.entry_dict_keyiterator_next
def u2o:=@PySem.F.entry_tuple_add
def u0j:=@PySem.F.plainAttrs_list
def u2E:=@PySem.F.slot_dict_get
def u0F:=@PySem.F.slot_dict_keyiterator_next
def u0p:=@PySem.F.slot_list_append
def u2q:=@PySem.F.slot_tuple_add
def u0q:=@PySem.F.type_list_append
def u0E:=@PySem.W.kia_one
def u2w:=@PySem.W.kitx_dict
def e9:=@PySem.W.mg_none_of
def u2P:=@PySem.W.mg_of
def u0w:=@PySem.mem_of_lookup
def u3f:=@PySem.SeqAt.EqAt.int_int
def u3g:=@PySem.SeqAt.EqAt.of_refs
def u0K:=@beq_eq_false_iff_ne
def u2Q:=@beq_iff_eq
def u0N:=@beq_self_eq_true
def u38:=@PySem.call_meets
def u1s:=@PySem.codeAny_builtin
def u3h:=@PySem.codeAny_mono
def u1c:=@congrArg
def g9:=@decide_eq_false
def u0u:=@decide_eq_false_iff_not
def j7:=@decide_eq_true
def r9:=@decide_eq_true_eq
def u3i:=@if_false
def j4:=@if_neg
def t4:=@if_pos
def u2I:=@if_true
def u39:=@PySem.intKind_is
def u3r:=@PySem.isSubtype_stop
def u2x:=@not_false_eq_true
def u4c:=@not_or
def u1V:=@of_decide_eq_false
def d7:=@of_decide_eq_true
def u1W:=@or_false
def u3j:=@PyProof.Rows.pairsOf_size
def u2p:=@PySem.plainId_quiet
def u1K:=@PySem.sizeLine_eq
def u3k:=@PySem.tupleKind_room_in1
def u3l:=@PySem.wpAny_Call_Name_kw
def u1e:=@PySem.wpAny_askSetting
def u1L:=@PySem.wpAny_attempt
def u0:=@PySem.wpAny_bind
def u0k:=@PySem.wpAny_callSpecial?_slot
def u0h:=@PySem.wpAny_call_entry
def u3B:=@PySem.wpAny_dictEntries
def u24:=@PySem.wpAny_execs_nil
def u0X:=@PySem.wpAny_field
def u3s:=@PySem.wpAny_fieldsOf
def u0C:=@PySem.wpAny_holding
def u2c:=@PySem.wpAny_isInstance
def u1t:=@PySem.wpAny_loadPart'
def u1v:=@PySem.wpAny_mono
def u3K:=@PySem.wpAny_newList
def u0g:=@PySem.wpAny_newObj_type
def u13:=@PySem.wpAny_of_eq
def u1H:=@PySem.wpAny_passesOwn
def u7:=@PySem.wpAny_pure
def u2y:=@PySem.wpAny_pyIter_enum
def u1m:=@PySem.wpAny_pyIter_list
def u3C:=@PySem.wpAny_pyIter_slot
def u0T:=@PySem.wpAny_pyIter_tuple
def u1P:=@PySem.wpAny_rule
def u1Q:=@PySem.wpAny_seqItems
def u3t:=@PySem.wpAny_setField
def u02:=@PySem.wpAny_setField_rec
def u3D:=@PySem.wpAny_setState_of
def u0Z:=@PySem.wpAny_truthy_bool
def u1f:=@PySem.wpAny_typeNameOfWhole_keyiter
def u1I:=@PySem.wpAny_typeNameOf_keyiter
def u2i:=@PySem.wpAny_typeOf
def u25:=@PySem.wpAny_updateSeq
def u0D:=@PyProof.Rows.wpS_bind
def u2F:=@PyProof.Rows.wpS_forRange
def u08:=@PyProof.Rows.wpS_pure
namespace L2
open PySem PySem.Spec PyProof.Rows
abbrev Key:=Sum Int Str
def zfU:Key->Value->Bool
 | .inl k,v=>Value.isInt k v
 | .inr x,v=>Value.isStrOf x v
def keyH (w:World):Key->Int
 | .inl k=>hashInt k
 | .inr x=>hashStr w x
theorem yE:∀ {k:Key} {v:Value},zfU k v=true->(∃ i t,k=Sum.inl i/\v=Value.int i t)\/(∃ x t,k=Sum.inr x/\v=Value.str x t)
 | .inl i,v,h=>by
  obtain⟨t,e⟩:=Value.isInt_shape (k:=i) (v:=v) h
  exact .inl ⟨i,t,rfl,e⟩
 | .inr x,v,h=>by
  obtain⟨t,e⟩:=Value.isStrOf_shape (x:=x) (v:=v) h
  exact .inr ⟨x,t,rfl,e⟩
theorem ziQ (i:Int)(t:Tok):zfU (.inl i) (.int i t)=true:=by simp[zfU,Value.isInt]
theorem ziK (x:Str)(t:Tok):zfU (.inr x) (.str x t)=true:=by simp[zfU,Value.isStrOf]
theorem zny (a b:Int):decide ((Sum.inl a:Key)=Sum.inl b)=(a == b):=by
 by_cases e:a=b
 .subst e;simp
 .have h:¬ (Sum.inl a:Key)=Sum.inl b:=λq=>e (Sum.inl.inj q)
  rw[g9 h]
  exact(u0K.mpr e).symm
theorem zoz (a b:Str):decide ((Sum.inr a:Key)=Sum.inr b)=decide (a=b):=by
 by_cases e:a=b
 .subst e;simp
 .have h:¬ (Sum.inr a:Key)=Sum.inr b:=λq=>e (Sum.inr.inj q)
  rw[g9 h,g9 e]
theorem znu (a:Int)(b:Str):decide ((Sum.inl a:Key)=Sum.inr b)=false:=g9 (λq=>nomatch q)
theorem znp (a:Str)(b:Int):decide ((Sum.inr a:Key)=Sum.inl b)=false:=g9 (λq=>nomatch q)
def xj (prog:Program)(w:World):PySem.KeyKind prog w Key where
 is:=zfU
 hash:=keyH w
 inj:=λv a b ha hb=>by
  rcases yE ha with ⟨i,t,rfl,rfl⟩ | ⟨x,t,rfl,rfl⟩
  .rcases yE hb with ⟨j,u,rfl,e⟩ | ⟨y,u,rfl,e⟩
   .injection e with e1 _;rw[e1]
   .exact nomatch e
  .rcases yE hb with ⟨j,u,rfl,e⟩ | ⟨y,u,rfl,e⟩
   .exact nomatch e
   .injection e with e1 _;rw[e1]
 byValue:=λk v h=>by
  rcases yE h with ⟨i,t,rfl,rfl⟩ | ⟨x,t,rfl,rfl⟩ <;> rfl
 pyHash:=λhv h=>by
  rcases yE hv with ⟨i,t,rfl,rfl⟩ | ⟨x,t,rfl,rfl⟩
  .exact wpAny_pyHash_int h
  .exact wpAny_pyHash_str h
 eqBool:=λhu hv h=>by
  rcases yE hu with ⟨i,t,rfl,rfl⟩ | ⟨x,t,rfl,rfl⟩
  .rcases yE hv with ⟨j,u,rfl,rfl⟩ | ⟨y,u,rfl,rfl⟩
   .rw[zny]at h;exact wpAny_eqBool_int h
   .rw[znu]at h;exact SeqAt.EqAt.int_str i t y u _ _ _ _ h
  .rcases yE hv with ⟨j,u,rfl,rfl⟩ | ⟨y,u,rfl,rfl⟩
   .rw[znp]at h;exact SeqAt.EqAt.str_int x t j u _ _ _ _ h
   .rw[zoz]at h;exact wpAny_eqBool_str h
 «strs»:=λk x t v h=>by
  rcases yE h with ⟨i,u,rfl,e⟩ | ⟨y,u,rfl,e⟩
  .exact nomatch e
  .injection e with e1 _
   subst e1
   cases v <;> rfl
theorem zd5 (prog:Program)(w:World)(i:Int)(t:Tok):(xj prog w).is (.inl i) (.int i t)=true:=ziQ i t
theorem zdp (prog:Program)(w:World)(x:Str)(t:Tok):(xj prog w).is (.inr x) (.str x t)=true:=ziK x t
inductive V where
 | non | bl (b:Bool) | int (i:Int) | str (x:Str) | byt (b:Array UInt8) | flt (b:UInt64) | ref (a:Addr) | ty (n:String)
 deriving DecidableEq
def yZ:V->Value->Prop
 | .non,u=>u=Value.none
 | .bl b,u=>u=Value.bool b
 | .int i,u=>∃ t,u=Value.int i t
 | .str x,u=>∃ t,u=Value.str x t
 | .byt b,u=>∃ t,u=Value.bytes b t
 | .flt b,u=>∃ t,u=Value.float b t
 | .ref a,u=>u=Value.ref a
 | .ty n,u=>u=Value.type n
abbrev yM:List V->List Value->Prop:=Paired yZ
theorem yM.length {xs:List V}{us:List Value}(r:yM xs us):xs.length=us.length:=u2N r
theorem yM.get:∀ {xs:List V} {us:List Value} {i:Nat} {x:V},yM xs us->xs[i]?=some x->∃ u,us[i]?=some u/\yZ x u
 | _,_,_,_,.nil,e=>by simp at e
 | _,_,0,_,.cons r _,e=>by simp at e;subst e;exact⟨_,rfl,r⟩
 | _,_,i+1,x,.cons _ t,e=>by
  obtain⟨u,h1,h2⟩:=yM.get (i:=i) (x:=x) t (by simpa using e)
  exact⟨u,by simpa using h1,h2⟩
theorem yM.set {x:V}{u:Value}(r:yZ x u):∀ {xs:List V} {us:List Value} (i:Nat),yM xs us->yM (xs.set i x) (us.set i u)
 | _,_,_,.nil=>.nil
 | _,_,0,.cons _ t=>.cons r t
 | _,_,i+1,.cons q t=>.cons q (yM.set r i t)
theorem yM.append:∀ {xs ys:List V} {us ws:List Value},yM xs us->yM ys ws->yM (xs++ys) (us++ws):=by
 intro xs ys us ws h s
 induction h with
 | nil=>exact s
 | cons r t ih=>exact .cons r ih
theorem yM.take:∀ {xs:List V} {us:List Value} (n:Nat),yM xs us->yM (xs.take n) (us.take n)
 | _,_,0,_=>.nil
 | _,_,_+1,.nil=>.nil
 | _,_,n+1,.cons r t=>.cons r (yM.take n t)
theorem yM.drop:∀ {xs:List V} {us:List Value} (n:Nat),yM xs us->yM (xs.drop n) (us.drop n)
 | _,_,0,r=>r
 | _,_,_+1,.nil=>.nil
 | _,_,n+1,.cons _ t=>yM.drop n t
def zfD:Option V->Option Value->Prop
 | some v,some u=>yZ v u
 | none,none=>True
 | _,_=>False
def KV {κ:Type}:List (κ × V)->List (κ × Value)->Prop:=Paired λ(p:κ × V) (q:κ × Value)=>p.1=q.1/\yZ p.2 q.2
def kV:Key->V
 | .inl i=>.int i
 | .inr x=>.str x
inductive HO where
 | lst (xs:List V)
 | tup (xs:List V)
 | dK (kvs:List (Key × V)) | dT (kvs:List (List Key × V))
 | set (S:Int->Bool) (n:Nat)
 | ins (C dx:Addr) (fs:List (Str × V))
 | own (x:Addr)
 | xd (fs:List (Str × V))
 | met (f x:Addr)
 | rng (lo hi:Int)
 | frz (o:Obj) (u:HO)
 | tbl (ps:Array Value)
 | ext (φ:Heap->Prop)
abbrev Hp:=Addr->Option HO
def upd (H:Hp)(a:Addr)(o:HO):Hp:=λb=>if b=a then some o else H b
theorem zt {H:Hp}{a:Addr}{o:HO}:upd H a o a=some o:=by unfold upd;rw[t4 rfl]
theorem zq {H:Hp}{a b:Addr}{o:HO}(h:b≠a):upd H a o b=H b:=by unfold upd;rw[j4 h]
theorem zgO {H:Hp}{a:Addr}{o u:HO}:upd (upd H a o) a u=upd H a u:=by
 funext b;unfold upd;split <;> rfl
theorem zne {H:Hp}{a b:Addr}{o u:HO}(h:H a=some o)(h':H b=some u)(d:o≠u):a≠b:=by
 intro e;subst e;rw[h]at h';exact d (i8 h')
theorem zr {H:Hp}{a b:Addr}{o:HO}(h:H a=some o)(h':H b=none):a≠b:=by
 intro e;subst e;rw[h]at h';cases h'
section
variable (P:Program)(w:World)
def yY (H:Hp)(h:Heap)(a:Addr):HO->Prop
 | .lst xs=>xs.length<=sizeLine/\∃ (its:List Value) (n:Nat),yM xs its/\h.get? a=some { cls:=.type "list",data:=.seq its.toArray n }
 | .tup xs=>xs.length<=sizeLine/\∃ its:List Value,yM xs its/\IsTup h a its.toArray
 | .dK kvs=>kvs.length<=sizeLine/\(a == sysModules)=false/\∃ vs,KV kvs vs/\h.DictOf (xj P w) a vs
 | .dT kvs=>kvs.length<=sizeLine/\(a == sysModules)=false/\∃ xs:List (List Key × Addr × Value),
  Paired (λ(p:List Key × V) (q:List Key × Addr × Value)=>p.1=q.1/\H q.2.1=some (.tup (p.1.map kV))/\yZ p.2 q.2.2) kvs xs /\
  ∃ o es ep,h.get? a=some o/\o.ExactDict/\o.data=.dict es ep/\es.toList=xs.map (entryOfKey (tupleKind (xj P w)))/\(xs.map (·.1)).Nodup
 | .set S n=>h.SetOf (intKind P w) a S n
 | .ins C dx fs=>H dx=some (.own a)/\fs.length<=1000/\dx≠a/\h.get? a=some (W.instObj C dx) /\
  ∃ mA,h.Ns1 dx mA/\(∀ f,zfD (fs.lookup f) (mA f))/\PySem.Within mA (fs.map (·.1))
 | .own _=>∃ o,h.get? a=some o
 | .xd fs=>∃ mA,h.Ns1 a mA/\∀ f,zfD (fs.lookup f) (mA f)
 | .rng lo hi=>∃ t u v,h.get? a=some { cls:=.type "range",data:=.fields #[.int lo t,.int hi u,.int 1 v] }
 | .frz o u=>h.get? a=some o/\yY H h a u
 | .tbl ps=>h.get? a=some { cls:=.none,data:=.fields ps }
 | .met f x=>h.get? a=some (W.methodObj (.ref f) (.ref x))
 | .ext φ=>φ h/\(∃ o,h.get? a=some o)/\∀ h1 h2:Heap,φ h1->(∀ o,h1.get? a=some o->h2.get? a=some o)->φ h2
def HOk (H:Hp)(h:Heap):Prop:=∀ a o,H a=some o->yY P w H h a o
end
section
variable {P:Program}{w:World}{H H':Hp}{h h':Heap}{a:Addr}{o:HO}
theorem yY.lt (x:yY P w H h a o):a < h.objs.size:=by
 cases o with
 | lst xs=>obtain⟨_,_,_,_,e⟩:=x;exact q5 e
 | tup xs=>obtain⟨_,_,_,p⟩:=x;exact p.lt
 | dK kvs=>obtain⟨_,_,_,_,o,_,_,e,_⟩:=x;exact q5 e
 | dT kvs=>obtain⟨_,_,_,_,o,_,_,e,_⟩:=x;exact q5 e
 | set S n=>obtain⟨o,_,_,_,e,_⟩:=x;exact q5 e
 | ins C dx fs=>obtain⟨_,_,_,e,_⟩:=x;exact q5 e
 | own y=>obtain⟨_,e⟩:=x;exact q5 e
 | xd fs=>obtain⟨_,⟨_,_,_,e,_⟩,_⟩:=x;exact q5 e
 | rng lo hi=>obtain⟨_,_,_,e⟩:=x;exact q5 e
 | frz ob u=>obtain⟨e,_⟩:=x;exact q5 e
 | tbl ps=>exact q5 (show h.get? a=some _ from x)
 | met f y=>exact q5 (show h.get? a=some _ from x)
 | ext φ=>obtain⟨_,⟨_,e⟩,_⟩:=x;exact q5 e
theorem Paired.mapP {α β:Type}{F G:α->β->Prop}:∀ {l₁:List α} {l₂:List β},Paired F l₁ l₂->(∀ a b,F a b->G a b)->Paired G l₁ l₂:=by
 intro l1 l2 h f
 induction h with
 | nil=>exact .nil
 | cons r t ih=>exact .cons (f _ _ r) ih
theorem yY.stay (x:yY P w H h a o)(k:∀ b u,(b=a\/H b=some (.own a))->h.get? b=some u->h'.get? b=some u)
 (ho:∀ b,H b=some (.own a)->H' b=some (.own a)) (ht:∀ b xs,H b=some (.tup xs)->H' b=some (.tup xs)):yY P w H' h' a o:=by
 induction o with
 | lst xs=>obtain⟨z,its,n,r,e⟩:=x;exact⟨z,its,n,r,k _ _ (.inl rfl) e⟩
 | tup xs=>obtain⟨z,its,r,ob,e,c⟩:=x;exact⟨z,its,r,ob,k _ _ (.inl rfl) e,c⟩
 | dK kvs=>obtain⟨z,y,vs,r,ob,es,ep,e,c⟩:=x;exact⟨z,y,vs,r,ob,es,ep,k _ _ (.inl rfl) e,c⟩
 | dT kvs =>
  obtain⟨z,y,xs,r,ob,es,ep,e,c⟩:=x
  exact⟨z,y,xs,Paired.mapP r λp q z=>⟨z.1,ht _ _ z.2.1,z.2.2⟩,ob,es,ep,k _ _ (.inl rfl) e,c⟩
 | set S n=>obtain⟨ob,es,ep,t,e,c⟩:=x;exact⟨ob,es,ep,t,k _ _ (.inl rfl) e,c⟩
 | ins C dx fs =>
  obtain⟨d,z,ne,e,mA,⟨od,es,ep,e2,c⟩,r⟩:=x
  exact⟨ho _ d,z,ne,k _ _ (.inl rfl) e,mA,⟨od,es,ep,k _ _ (.inr d) e2,c⟩,r⟩
 | own y=>obtain⟨ob,e⟩:=x;exact⟨ob,k _ _ (.inl rfl) e⟩
 | xd fs=>obtain⟨mA,⟨od,es,ep,e,c⟩,r⟩:=x;exact⟨mA,⟨od,es,ep,k _ _ (.inl rfl) e,c⟩,r⟩
 | rng lo hi=>obtain⟨t,u,v,e⟩:=x;exact⟨t,u,v,k _ _ (.inl rfl) e⟩
 | frz ob u ih=>obtain⟨e,q⟩:=x;exact⟨k _ _ (.inl rfl) e,ih q⟩
 | tbl ps =>
  have e:h.get? a=some { cls:=.none,data:=.fields ps }:=x
  show h'.get? a=some { cls:=.none,data:=.fields ps }
  exact k a _ (.inl rfl) e
 | met f y =>
  have e:h.get? a=some (W.methodObj (.ref f) (.ref y)):=x
  show h'.get? a=some (W.methodObj (.ref f) (.ref y))
  exact k a _ (.inl rfl) e
 | ext φ=>obtain⟨p,⟨o,e⟩,st⟩:=x;exact⟨st _ _ p λo q=>k _ _ (.inl rfl) q,⟨o,k _ _ (.inl rfl) e⟩,st⟩
theorem HOk.lt (x:HOk P w H h)(e:H a=some o):a < h.objs.size:=(x a o e).lt
theorem HOk.fresh (x:HOk P w H h)(e:h.objs.size<=a):H a=none:=by
 cases q:H a with
 | none=>rfl
 | some u=>exact absurd (r6 (x.lt q) e) (u0Q _)
theorem HOk.kept (x:HOk P w H h)(k:∀ b u,h.get? b=some u->h'.get? b=some u):HOk P w H h':=λa o e =>
 (x a o e).stay (λb u _ q=>k b u q) (λ_ q=>q) λ_ _ q=>q
theorem HOk.laid (x:HOk P w H h)(k:∀ b u,h.get? b=some u->h'.get? b=some u)(hp:h.objs.size<=a)(new:yY P w (upd H a o) h' a o):HOk P w (upd H a o) h':=λb u e=>by
 have hn:=x.fresh hp
 by_cases hb:b=a
 .subst hb;rw[zt]at e;cases e;exact new
 .rw[zq hb]at e
  exact(x b u e).stay (λc v _ q=>k c v q) (λc q=>by rw[zq (zr q hn)];exact q) λc xs q=>by rw[zq (zr q hn)];exact q
end
def Rd (H:Hp)(a:Addr)(u:HO):Prop:=H a=some u\/∃ o,H a=some (.frz o u)
theorem Rd.ok {P:Program}{w:World}{H:Hp}{h:Heap}{a:Addr}{u:HO}(r:Rd H a u)(x:HOk P w H h):yY P w H h a u:=by
 rcases r with r | ⟨o,r⟩
 .exact x a u r
 .obtain⟨_,q⟩:=x a _ r
  exact q
def Mut:Option HO->Prop
 | some (.lst _)=>True
 | some (.dK _)=>True
 | some (.dT _)=>True
 | some (.set _ _)=>True
 | some (.ins _ _ _)=>True
 | some (.ext _)=>True
 | _=>False
section
variable {P:Program}{w:World}{H:Hp}{h h':Heap}{x e:Addr}{o':HO}
theorem HOk.write (ok:HOk P w H h)(mu:Mut (H x))(he:e=x\/H e=some (.own x))(k:∀ b u,b≠e->h.get? b=some u->h'.get? b=some u)(heo:∃ u,h'.get? e=some u)
 (new:yY P w (upd H x o') h' x o'):HOk P w (upd H x o') h':=λb u q=>by
 have nown:∀ c y,H c=some (.own y)->c≠x:=λc y r z=>by subst z;rw[r]at mu;exact mu
 have ntup:∀ c xs,H c=some (.tup xs)->c≠x:=λc xs r z=>by subst z;rw[r]at mu;exact mu
 by_cases hb:b=x
 .subst hb;rw[zt]at q;cases q;exact new
 .rw[zq hb]at q
  by_cases hbe:b=e
  .have q':H b=some (.own x):=by
    rcases he with z | z
    .exact absurd (hbe.trans z) hb
    .rw[hbe];exact z
   rw[q]at q';cases q'
   obtain⟨v,hv⟩:=heo
   exact⟨v,by rw[hbe];exact hv⟩
  .refine(ok b u q).stay (λc v hc r=>k c v ?_ r) (λc r=>by rw[zq (nown c b r)];exact r) λc xs r=>by rw[zq (ntup c xs r)];exact r
   rcases hc with rfl | hc
   .exact hbe
   .rintro rfl
    rcases he with z | z
    .exact nown c b hc z
    .rw[hc]at z;cases z;exact hb rfl
end
structure Un (fs ex:List Addr) (H H':Hp) (h h':Heap):Prop where
 keep:∀ b o,h.get? b=some o->H b=none->b∉fs->b∉ex->h'.get? b=some o
 slot:∀ b o,h.get? b=some o->H b=none->b∈fs->b∉ex->∃ sl,h'.get? b=some { o with slots:=sl }
 free:∀ b o,h.get? b=some o->H b=none->b∉ex->H' b=none
 there:∀ b o,h.get? b=some o->b∉ex->∃ o',h'.get? b=some o'
 tups:∀ b xs,H b=some (.tup xs)->H' b=some (.tup xs)
 frzs:∀ b o u,H b=some (.frz o u)->H' b=some (.frz o u)
 tbls:∀ b ps,H b=some (.tbl ps)->∃ more,H' b=some (.tbl (ps++more))
section
variable {fs fs' ex ex':List Addr}{H H1 H2:Hp}{h h1 h2 h':Heap}{a x e:Addr}{o:HO}
theorem Un.any (u:Un fs ex H H1 h h1){b:Addr}{ob:Obj}(q:h.get? b=some ob)(n:H b=none)(hx:b∉ex):∃ sl,h1.get? b=some { ob with slots:=sl }:=by
 by_cases hb:b∈fs
 .exact u.slot b ob q n hb hx
 .exact⟨ob.slots,u.keep b ob q n hb hx⟩
theorem Un.kept (k:∀ b u,h.get? b=some u->h'.get? b=some u):Un fs ex H H h h' :=
 ⟨λb ob q _ _ _=>k b ob q,λb ob q _ _ _=>⟨ob.slots,k b ob q⟩,λ_ _ _ n _=>n,λb ob q _=>⟨ob,k b ob q⟩,λ_ _ q=>q,λ_ _ _ q=>q,λ_ ps q=>⟨#[],by rw[q];simp⟩⟩
theorem Un.refl:Un fs ex H H h h:=Un.kept λ_ _ q=>q
theorem Un.laid (k:∀ b u,h.get? b=some u->h'.get? b=some u)(hp:h.objs.size<=a)(hn:H a=none):Un fs ex H (upd H a o) h h' where
 keep:=λb u q _ _ _=>k b u q
 slot:=λb u q _ _ _=>⟨u.slots,k b u q⟩
 free:=λb u q n _=>by rw[zq (o0 (r6 (q5 q) hp))];exact n
 there:=λb u q _=>⟨u,k b u q⟩
 tups:=λb xs q=>by rw[zq (zr q hn)];exact q
 frzs:=λb u xs q=>by rw[zq (zr q hn)];exact q
 tbls:=λb ps q=>⟨#[],by rw[zq (zr q hn),q];simp⟩
theorem Un.write (mu:Mut (H x))(he:e=x\/H e=some (.own x))(k:∀ b u,b≠e->h.get? b=some u->h'.get? b=some u)(heo:∃ u,h'.get? e=some u):Un fs ex H (upd H x o) h h':=by
 have hx:∀ b,H b=none->b≠x:=λb n z=>by subst z;rw[n]at mu;exact mu
 have hb:∀ b,H b=none->b≠e:=λb n z=>by
  subst z
  rcases he with r | r
  .exact hx b n r
  .rw[n]at r;cases r
 have hm:∀ b u,H b=some u->¬ Mut (some u)->b≠x:=λb u q nm z=>by subst z;rw[q]at mu;exact nm mu
 refine⟨λb u q n _ _=>k b u (hb b n) q,λb u q n _ _=>⟨u.slots,k b u (hb b n) q⟩,λb u q n _=>by rw[zq (hx b n)];exact n,λb u q _=>?_,
  λb xs q=>by rw[zq (hm b _ q λz=>z)];exact q,λb u xs q=>by rw[zq (hm b _ q λz=>z)];exact q,λb ps q=>⟨#[],by rw[zq (hm b _ q λz=>z),q];simp⟩⟩
 by_cases hbe:b=e
 .subst hbe;exact heo
 .exact⟨u,k b u hbe q⟩
end
def trk (h:Heap)(H:Hp):List Addr:=(List.range h.objs.size).filter λa=>(H a).isSome
def zj2 (h:Heap)(H:Hp):Heap:=W.hideAll h (trk h H)
theorem zgK (h:Heap)(H:Hp):(zj2 h H).objs.size=h.objs.size:=W.hideAll_size _ _
theorem zkk {h:Heap}{H:Hp}{b:Addr}{o:Obj}(e:h.get? b=some o)(n:H b=none):(zj2 h H).get? b=some o :=
 W.hideAll_get _ e λhm=>by
  have q:(H b).isSome=true:=(p8.mp hm).2
  rw[n]at q;simp at q
theorem zle {h:Heap}{H:Hp}{b:Addr}{o:Obj}(e:(zj2 h H).get? b=some o):h.get? b=some o/\H b=none:=by
 have e':h.get? b=some o:=W.of_hideAll (trk h H) e
 refine⟨e',?_⟩
 cases q:H b with
 | none=>rfl
 | some x =>
  have hm:b∈trk h H:=p8.mpr ⟨u1O.mpr (q5 e'),by simp[q]⟩
  have z:(zj2 h H).get? b=none:=W.hideAll_none (trk h H) hm
  rw[z]at e;cases e
def zmo (g h:Heap)(L:Addr):List (Addr × Obj):=(List.range h.objs.size).filterMap λa=>if a=L\/(g.get? a).isSome=true then none else (h.get? a).map λo=>(a,o)
def rest (g h:Heap)(L d:Addr):List (Addr × Obj):=(zmo g h L).filter λp=>decide (p.1≠d)
structure Mod (K:W.Frag) (mg:Str->Option Value) (base:Heap):Prop where
 kin:K.In base
 glob:base.Ns mainGlobals mg
 blt:∃ mb,base.Ns builtinsNs mb/\∀ x:Str,x≠"__name__"->mb x=bootBuiltins x
 nolimit:base.NoLimit
structure Cx where
 prog:Program
 w:World
 K:W.Frag
 mg:Str->Option Value
 base:Heap
 A:Around
 N:List Str
 s₀:Shared
 H₀:Hp
 env:Env
 outer:List Env
 stack:List Env
 ex:List Addr
 fn:Str->Bool
 calm:Bool
 pn:List (Addr × Obj)
 xe:Value->Shared->Prop
def frs (l:List Env):List Addr:=l.filterMap (·.frame)
abbrev Cx.fs (X:Cx):List Addr:=frs X.outer
def Vis (sc:Scope)(x:Str):Prop:=sc.names.lookup x=some .local\/sc.names.lookup x=some .cell\/sc.names.lookup x=some .free
def Loc (sc:Scope)(x:Str):Prop:=sc.names.lookup x=some .local\/sc.names.lookup x=some .cell
def Look (env:Env)(h:Heap)(m:Str->Option Value)(x:Str)(u:Value):Prop :=
 (env.kindOf x=some .local/\m x=some u)\/((env.kindOf x=some .cell\/env.kindOf x=some .free)/\∃ c,env.cells.lookup x=some c/\h.IsCell c (some u))
structure Cx.Ok (X:Cx):Prop where
 mod:Mod X.K X.mg X.base
 kind:X.env.scope.kind=.function
 glob:X.env.globals=mainGlobals
 blt:X.env.builtins=builtinsNs
 above:X.s₀.heap.objs.size<=X.env.locals
 inj:∀ x y c,X.env.cells.lookup x=some c->X.env.cells.lookup y=some c->x=y
 has:∀ x,(X.env.kindOf x=some .cell\/X.env.kindOf x=some .free)->∃ c,X.env.cells.lookup x=some c
 cab:∀ x c,X.fn x=true->X.env.cells.lookup x=some c->X.s₀.heap.objs.size<=c
 hd:X.calm=true->X.A.handled=none
 frames:X.A.frames=some X.stack
 stk:X.stack=X.outer\/(X.stack=X.env::X.outer/\X.env.frame=some X.env.locals)
 exf:∀ b∈X.ex,b≠X.env.locals/\∀ x c,X.env.cells.lookup x=some c->c≠b
 bs:∀ b o,X.base.get? b=some o->X.s₀.heap.get? b=some o/\X.H₀ b=none
 bsz:X.base.objs.size<=X.s₀.heap.objs.size
 noex:∀ b o,X.base.get? b=some o->b∉X.ex
 exfs:∀ b∈X.ex,b∉X.fs
 funs:X.s₀.heap.FunFrames X.base X.outer
 frf:∀ b∈X.fs,X.H₀ b=none
structure Inv (X:Cx) (pins:List (Addr × Obj)) (σ:List (Option V)) (H:Hp) (s:Shared):Prop where
 ok:X.Ok
 os:s.os=X.s₀.os
 bare:AllBare s.gens
 base:Un X.fs X.ex X.H₀ H X.s₀.heap s.heap
 loc:∃ m,s.heap.Ns X.env.locals m/\∀ (i:Nat) (x:Str) (v:V),X.N[i]?=some x->σ[i]?=some (some v)->Vis X.env.scope x->∃ u,yZ v u/\Look X.env s.heap m x u
 cell:∀ x c,X.env.cells.lookup x=some c->∃ v,s.heap.IsCell c v
 free:H X.env.locals=none
 freeC:∀ x c,X.env.cells.lookup x=some c->H c=none
 pin:∀ p∈X.pn++pins,s.heap.get? p.1=some p.2/\H p.1=none/\p.1≠X.env.locals/\p.1∉X.fs/\∀ v,p.2.data≠.cell v
 hok:HOk X.prog X.w H s.heap
 len:σ.length=X.N.length
section
variable {X:Cx}{pins:List (Addr × Obj)}{σ:List (Option V)}{H H':Hp}{s:Shared}{h':Heap}
theorem Cx.Ok.nofr (ok:X.Ok){b:Addr}{o:Obj}(e:X.base.get? b=some o):b∉X.fs:=λhb=>by
 have:=(ok.funs.mem hb).1
 rw[e]at this;cases this
theorem Inv.bs (I:Inv X pins σ H s):∀ b o,X.base.get? b=some o->s.heap.get? b=some o/\H b=none:=λb o e =>
 ⟨I.base.keep b o (I.ok.bs b o e).1 (I.ok.bs b o e).2 (I.ok.nofr e) (I.ok.noex b o e),I.base.free b o (I.ok.bs b o e).1 (I.ok.bs b o e).2 (I.ok.noex b o e)⟩
theorem Inv.bk (I:Inv X pins σ H s):∀ b o,X.base.get? b=some o->s.heap.get? b=some o:=λb o e=>(I.bs b o e).1
theorem Inv.mod (I:Inv X pins σ H s):Mod X.K X.mg X.base:=I.ok.mod
theorem Inv.kIn (I:Inv X pins σ H s):X.K.In s.heap:=I.ok.mod.kin.keeps I.bk
theorem Inv.fr (I:Inv X pins σ H s):∃ m,Fr X.base X.env.locals s.heap m :=
 let ⟨m,hn,_⟩:=I.loc
 ⟨m,hn,I.bk,p6 I.ok.bsz I.ok.above⟩
theorem Inv.lt (I:Inv X pins σ H s):X.env.locals < s.heap.objs.size:=let ⟨_,hn,_⟩:=I.loc;hn.lt
theorem Inv.sz (I:Inv X pins σ H s):X.s₀.heap.objs.size<=s.heap.objs.size:=p6 I.ok.above (u0S I.lt)
theorem Inv.nofs (I:Inv X pins σ H s){a:Addr}(h:s.heap.objs.size<=a):a∉X.fs:=λhb=>by
 obtain⟨_,o,ho,_⟩:=I.ok.funs.mem hb
 exact absurd (r6 (q5 ho) (p6 I.sz h)) (u0Q _)
theorem Inv.cne (I:Inv X pins σ H s):∀ x c,X.env.cells.lookup x=some c->c≠X.env.locals:=λx c e z=>by
 obtain⟨v,o,ho,hd⟩:=I.cell x c e
 obtain⟨m,⟨o',es,ep,ho',hd',_⟩,_⟩:=I.loc
 rw[z,ho']at ho;cases ho;rw[hd']at hd;cases hd
theorem Inv.funs (I:Inv X pins σ H s):s.heap.FunFrames X.base X.outer:=by
 have all:∀ (l:List Env),(∀ b∈frs l,b∈X.fs)->X.s₀.heap.FunFrames X.base l->s.heap.FunFrames X.base l:=by
  intro l
  induction l with
  | nil=>intro _ _;trivial
  | cons env r ih =>
   intro hs hl
   obtain⟨hk,⟨L,o,hf,hn,ho,hd⟩,hr⟩:=hl
   have hL:L∈X.fs:=hs L (by unfold frs;rw[u2V,hf];exact d6)
   obtain⟨sl,e⟩:=I.base.slot L o ho (I.ok.frf L hL) hL λz=>I.ok.exfs L z hL
   exact⟨hk,⟨L,_,hf,hn,e,hd⟩,ih (λb hb=>hs b (by unfold frs;rw[u2V,hf];exact r8 _ hb)) hr⟩
 exact all X.outer (λ_ hb=>hb) I.ok.funs
theorem Inv.stack (I:Inv X pins σ H s):s.heap.FunFrames X.base X.stack:=by
 rcases I.ok.stk with e | ⟨e,hf⟩
 .rw[e];exact I.funs
 .rw[e]
  obtain⟨m,hn,_⟩:=I.loc
  refine .cons (by rw[I.ok.kind];decide) hf hn ?_ I.funs
  exact Heap.get?_none_of_le (p6 I.ok.bsz I.ok.above)
theorem Inv.stkSub (I:Inv X pins σ H s):∀ b∈frs X.stack,b∈X.env.locals::X.fs:=λb hb=>by
 rcases I.ok.stk with e | ⟨e,hf⟩
 .rw[e]at hb;exact r8 _ hb
 .rw[e]at hb
  unfold frs at hb
  rw[u2V,hf]at hb
  exact hb
theorem Inv.stkFree (I:Inv X pins σ H s):∀ b∈frs X.stack,H b=none:=λb hb=>by
 rcases j9.mp (I.stkSub b hb)with e | hb
 .rw[e];exact I.free
 .obtain⟨_,o,ho,_⟩:=I.ok.funs.mem hb
  exact I.base.free b o ho (I.ok.frf b hb) λz=>I.ok.exfs b z hb
theorem Inv.step {g':Array GenState}{t':Nat}{d':Drawn}{ch:List Addr}(I:Inv X pins σ H s)
 (hch:∀ b∈ch,(b∈X.ex\/X.s₀.heap.objs.size<=b)/\b≠X.env.locals/\(∀ x c,X.env.cells.lookup x=some c->c≠b)/\∀ p∈X.pn++pins,p.1≠b)
 (keep:∀ b o,b≠X.env.locals->b∉X.fs->b∉ch->s.heap.get? b=some o->H b=none->h'.get? b=some o)
 (slot:∀ b o,b≠X.env.locals->b∈X.fs->b∉ch->s.heap.get? b=some o->H b=none->∃ sl,h'.get? b=some { o with slots:=sl }) (free:∀ b o,b∉ch->s.heap.get? b=some o->H b=none->H' b=none)
 (there:∀ b o,b∉ch->s.heap.get? b=some o->∃ o',h'.get? b=some o')
 (tups:∀ b xs,H b=some (.tup xs)->H' b=some (.tup xs)) (frzs:∀ b o u,H b=some (.frz o u)->H' b=some (.frz o u)) (tbls:∀ b ps,H b=some (.tbl ps)->∃ more,H' b=some (.tbl (ps++more)))
 (ns:∀ m,s.heap.Ns X.env.locals m->h'.Ns X.env.locals m) (hok:HOk X.prog X.w H' h') (hg:AllBare g') :
 Inv X pins σ H' { s with heap:=h',gens:=g',drawn:=d',toks:=t' }:=by
 have neL:∀ b o,X.s₀.heap.get? b=some o->b≠X.env.locals:=λb o e=>o0 (r6 (q5 e) I.ok.above)
 have neC:∀ b o,X.s₀.heap.get? b=some o->b∉X.ex->b∉ch:=λb o e hx hb=>by
  rcases(hch b hb).1 with z | z
  .exact hx z
  .exact absurd (r6 (q5 e) z) (u0Q _)
 have cellK:∀ x c,X.env.cells.lookup x=some c->∀ v,s.heap.IsCell c v->h'.IsCell c v:=λx c e v ⟨o,ho,hd⟩=>by
  have nch:c∉ch:=λz=>(hch c z).2.2.1 x c e rfl
  by_cases hc:c∈X.fs
  .obtain⟨sl,q⟩:=slot c o (I.cne x c e) hc nch ho (I.freeC x c e)
   exact⟨_,q,hd⟩
  .exact⟨o,keep c o (I.cne x c e) hc nch ho (I.freeC x c e),hd⟩
 refine⟨I.ok,I.os,hg,⟨λb o e n hb hx=>?_,λb o e n hb hx=>?_,λb o e n hx=>?_,λb o e hx=>?_,λb xs e=>tups b xs (I.base.tups b xs e),λb o xs e=>frzs b o xs (I.base.frzs b o xs e),λb ps e=>?_⟩,?_,λx c e=>?_,?_,λx c e=>?_,λp hp=>?_,hok,I.len⟩
 .exact keep b o (neL b o e) hb (neC b o e hx) (I.base.keep b o e n hb hx) (I.base.free b o e n hx)
 .obtain⟨sl,e1⟩:=I.base.slot b o e n hb hx
  obtain⟨sl',e2⟩:=slot b _ (neL b o e) hb (neC b o e hx) e1 (I.base.free b o e n hx)
  exact⟨sl',e2⟩
 .obtain⟨o',e1⟩:=I.base.there b o e hx
  exact free b o' (neC b o e hx) e1 (I.base.free b o e n hx)
 .obtain⟨o',e1⟩:=I.base.there b o e hx
  exact there b o' (neC b o e hx) e1
 .obtain⟨m1,e1⟩:=I.base.tbls b ps e
  obtain⟨m2,e2⟩:=tbls b _ e1
  exact⟨m1++m2,by rw[e2,Array.append_assoc]⟩
 .obtain⟨m,hn,hl⟩:=I.loc
  refine⟨m,ns m hn,λi x v e1 e2 e3=>?_⟩
  obtain⟨u,r,l⟩:=hl i x v e1 e2 e3
  refine⟨u,r,?_⟩
  rcases l with l | ⟨k,c,e,z⟩
  .exact .inl l
  .exact .inr ⟨k,c,e,cellK x c e _ z⟩
 .obtain⟨v,z⟩:=I.cell x c e
  exact⟨v,cellK x c e v z⟩
 .obtain⟨m,⟨o,_,_,ho,_⟩,_⟩:=I.loc
  exact free _ o (λz=>(hch _ z).2.1 rfl) ho I.free
 .obtain⟨v,o,ho,hd⟩:=I.cell x c e
  exact free c o (λz=>(hch c z).2.2.1 x c e rfl) ho (I.freeC x c e)
 .obtain⟨e,n,ne,nf,d⟩:=I.pin p hp
  have nch:p.1∉ch:=λz=>(hch p.1 z).2.2.2 p hp rfl
  exact⟨keep p.1 p.2 ne nf nch e n,free p.1 p.2 nch e n,ne,nf,d⟩
theorem Inv.un {t':Nat}(I:Inv X pins σ H s)(u:Un X.fs [] H H' s.heap h')(hok:HOk X.prog X.w H' h'):Inv X pins σ H' { s with heap:=h',toks:=t' }:=by
 obtain⟨m,⟨o,es,ep,ho,r⟩,_⟩:=id I.loc
 obtain⟨sl,hL⟩:=u.any ho I.free (by simp)
 exact I.step (g':=s.gens) (d':=s.drawn) (ch:=[]) (λ_ z=>nomatch z) (λb o _ hb _ e n=>u.keep b o e n hb (by simp)) (λb o _ hb _ e n=>u.slot b o e n hb (by simp)) (λb o _ e n=>u.free b o e n (by simp)) (λb o _ e=>u.there b o e (by simp)) u.tups u.frzs u.tbls (λm' hm=>by
  obtain⟨o',es',ep',ho',r'⟩:=hm
  rw[ho]at ho';cases ho'
  exact⟨_,es',ep',hL,r'⟩) hok I.bare
theorem Inv.call {g':Array GenState}{t':Nat}{d':Drawn}{ch:List Addr}(I:Inv X pins σ H s)(u:Un (frs X.stack) ch H H' s.heap h')(hok:HOk X.prog X.w H' h')(hg:AllBare g')
 (hch:∀ b∈ch,(b∈X.ex\/X.s₀.heap.objs.size<=b)/\b≠X.env.locals/\(∀ x c,X.env.cells.lookup x=some c->c≠b)/\∀ p∈X.pn++pins,p.1≠b) :
 Inv X pins σ H' { s with heap:=h',gens:=g',drawn:=d',toks:=t' }:=by
 obtain⟨m,⟨o,es,ep,ho,r⟩,_⟩:=id I.loc
 obtain⟨sl,hL⟩:=u.any ho I.free λz=>(hch _ z).2.1 rfl
 exact I.step (ch:=ch) hch (λb o hL hb hc e n=>u.keep b o e n (λz=>(j9.mp (I.stkSub b z)).elim hL hb) hc) (λb o _ _ hc e n=>u.any e n hc) (λb o hc e n=>u.free b o e n hc) (λb o hc e=>u.there b o e hc) u.tups u.frzs u.tbls (λm' hm=>by
  obtain⟨o',es',ep',ho',r'⟩:=hm
  rw[ho]at ho';cases ho'
  exact⟨_,es',ep',hL,r'⟩) hok hg
theorem Inv.turned {t':Nat}{it:Addr}(I:Inv X pins σ H s)(k:∀ b o,b≠it->s.heap.get? b=some o->h'.get? b=some o)(hn:H it=none)(hL:it≠X.env.locals)
 (h1:it∈X.ex\/X.s₀.heap.objs.size<=it) (h2:∀ x c,X.env.cells.lookup x=some c->c≠it) (h3:∀ p∈X.pn++pins,p.1≠it):Inv X pins σ H { s with heap:=h',toks:=t' }:=by
 have nit:∀ b u,H b=some u->b≠it:=λb u e z=>by rw[z,hn]at e;cases e
 refine I.step (g':=s.gens) (d':=s.drawn) (ch:=[it]) (λb hb=>?_) (λb o _ _ hc e _=>k b o (λz=>hc (by simp[z])) e) (λb o _ _ hc e _=>⟨o.slots,k b o (λz=>hc (by simp[z])) e⟩) (λ_ _ _ _ n=>n)
  (λb o hc e=>⟨o,k b o (λz=>hc (by simp[z])) e⟩) (λ_ _ e=>e) (λ_ _ _ e=>e) (λb ps e=>⟨#[],by rw[e];simp⟩) (λm hm=>?_) (λb u e=>?_) I.bare
 .have e:b=it:=by simpa using hb
  subst e
  exact⟨h1,hL,h2,h3⟩
 .obtain⟨o,es,ep,ho,r⟩:=hm
  exact⟨o,es,ep,k _ o (u0R hL) ho,r⟩
 .refine(I.hok b u e).stay (λc v hc q=>k c v ?_ q) (λ_ q=>q) λ_ _ q=>q
  rcases hc with z | z
  .rw[z];exact nit b u e
  .exact nit c _ z
theorem Inv.tok (I:Inv X pins σ H s)(t:Nat):Inv X pins σ H { s with toks:=t }:=I.un (h':=s.heap) (t':=t) Un.refl I.hok
theorem Inv.kept {t':Nat}(I:Inv X pins σ H s)(k:∀ b u,s.heap.get? b=some u->h'.get? b=some u):Inv X pins σ H { s with heap:=h',toks:=t' }:=I.un (Un.kept k) (I.hok.kept k)
theorem Inv.laid {a:Addr}{o:HO}{t':Nat}(I:Inv X pins σ H s)(k:∀ b u,s.heap.get? b=some u->h'.get? b=some u)(hp:s.heap.objs.size<=a)(new:yY X.prog X.w (upd H a o) h' a o) :
 Inv X pins σ (upd H a o) { s with heap:=h',toks:=t' }:=I.un (Un.laid k hp (I.hok.fresh hp)) (I.hok.laid k hp new)
theorem Inv.write {x e:Addr}{o:HO}{t':Nat}(I:Inv X pins σ H s)(mu:Mut (H x))(he:e=x\/H e=some (.own x))(k:∀ b u,b≠e->s.heap.get? b=some u->h'.get? b=some u)(heo:∃ u,h'.get? e=some u)
 (new:yY X.prog X.w (upd H x o) h' x o):Inv X pins σ (upd H x o) { s with heap:=h',toks:=t' }:=I.un (Un.write mu he k heo) (I.hok.write mu he k heo new)
theorem Inv.weak {σ':List (Option V)}(I:Inv X pins σ H s)(hl:σ'.length=σ.length)(w:∀ (i:Nat) v,σ'[i]?=some (some v)->σ[i]?=some (some v)):Inv X pins σ' H s :=
 ⟨I.ok,I.os,I.bare,I.base,let ⟨m,hn,hl'⟩:=I.loc;⟨m,hn,λi x v e1 e2 e3=>hl' i x v e1 (w i v e2) e3⟩,I.cell,I.free,I.freeC,I.pin,I.hok,hl.trans I.len⟩
theorem Inv.pins_of {pins':List (Addr × Obj)}(I:Inv X pins σ H s)(h:∀ p∈pins',s.heap.get? p.1=some p.2/\H p.1=none/\p.1≠X.env.locals/\p.1∉X.fs/\∀ v,p.2.data≠.cell v):Inv X pins' σ H s :=
 ⟨I.ok,I.os,I.bare,I.base,I.loc,I.cell,I.free,I.freeC,λp hp=>(u0H.mp hp).elim (λz=>I.pin p (u04 _ z)) (h p),I.hok,I.len⟩
theorem ze5 {N:List Str}(hN:N.Nodup){i j:Nat}{x:Str}(a:N[i]?=some x)(b:N[j]?=some x):i=j:=by
 obtain⟨h1,e1⟩:=t6.mp a
 obtain⟨h2,e2⟩:=t6.mp b
 exact(List.getElem_inj hN).mp (e1.trans e2.symm)
theorem zgg {M:Model}{A:Around}{E:Value->Shared->Prop}{i:Nat}{x:Str}{v:V}{u:Value}{Q:Unit->Shared->Prop}(I:Inv X pins σ H s)(hN:X.N.Nodup)(hi:X.N[i]?=some x)(hx:Loc X.env.scope x)(r:yZ v u)
 (h:∀ s',Inv X pins (σ.set i (some v)) H s'->(∃ a,Heap.SameBut a s.heap s'.heap/\(a=X.env.locals\/X.env.cells.lookup x=some a))->Q () s') (hf:X.fn x=true\/X.env.scope.names.lookup x=some .local:=by first | exact .inl rfl | exact .inr rfl | assumption):wpAny M A (storeName X.env x u) Q E s:=by
 obtain⟨m,hn,hl⟩:=id I.loc
 have hcls:(X.env.scope.kind == .class||(X.env.scope.kind == .module&&X.env.locals != X.env.globals))=false:=by rw[I.ok.kind];rfl
 have hiσ:i < σ.length:=by rw[I.len];exact(t6.mp hi).1
 have cne:=I.cne
 have tracked:∀ {a:Addr} {h':Heap},(∃ o,s.heap.get? a=some o/\H a=none)->Heap.SameBut a s.heap h'->HOk X.prog X.w H h':=λ{a h'} ha hs b ob e=>by
  obtain⟨_,_,hfree⟩:=ha
  refine(I.hok b ob e).stay (λc w' hc q=>(hs.2 c ?_).trans q) (λ_ q=>q) λ_ _ q=>q
  rintro rfl
  rcases hc with rfl | hc
  .rw[hfree]at e;cases e
  .rw[hfree]at hc;cases hc
 rcases hx with hk | hk
 .refine wpAny_storeName_local hk hn (λh' hn' hs=>?_) hcls
  obtain⟨oL,_,_,hoL,_⟩:=id hn
  refine h _ ⟨I.ok,I.os,I.bare,⟨λb o e n hb hx=>?_,λb o e n hb hx=>?_,I.base.free,λb o e hx=>?_,I.base.tups,I.base.frzs,I.base.tbls⟩,⟨_,hn',λj y v' e1 e2 e3=>?_⟩,λy c e=>?_,I.free,I.freeC,λp hp=>?_,tracked ⟨oL,hoL,I.free⟩ hs,by simpa using I.len⟩ ⟨_,hs,.inl rfl⟩
  .exact(hs.2 b (o0 (r6 (q5 e) I.ok.above))).trans (I.base.keep b o e n hb hx)
  .obtain⟨sl,e1⟩:=I.base.slot b o e n hb hx
   exact⟨sl,(hs.2 b (o0 (r6 (q5 e) I.ok.above))).trans e1⟩
  .obtain⟨o',e1⟩:=I.base.there b o e hx
   exact⟨o',(hs.2 b (o0 (r6 (q5 e) I.ok.above))).trans e1⟩
  .by_cases hj:j=i
   .subst hj
    rw[hi]at e1;cases e1
    rw[u0x hiσ]at e2
    cases e2
    exact⟨u,r,.inl ⟨hk,by simp⟩⟩
   .rw[d8 (u0R hj)]at e2
    obtain⟨u',r',q⟩:=hl j y v' e1 e2 e3
    refine⟨u',r',?_⟩
    rcases q with ⟨k,e⟩ | ⟨k,c,e,z⟩
    .refine .inl ⟨k,?_⟩
     have:y≠x:=λe=>hj (ze5 hN e1 (e ▸ hi))
     simp[this,e]
    .exact .inr ⟨k,c,e,z.sameBut hs (cne y c e)⟩
  .obtain⟨w',z⟩:=I.cell y c e
   exact⟨w',z.sameBut hs (cne y c e)⟩
  .obtain⟨e,n,ne,nf,d⟩:=I.pin p hp
   exact⟨(hs.2 p.1 ne).trans e,n,ne,nf,d⟩
 .have hfn:X.fn x=true:=by
   rcases hf with z | z
   .exact z
   .rw[z]at hk;cases hk
  obtain⟨c,hc⟩:=I.ok.has x (.inl hk)
  obtain⟨w',z⟩:=I.cell x c hc
  refine wpAny_storeName_cell I.ok.kind hk hc z (λh' hc' hs=>?_)
  obtain⟨oc,hoc,hocd⟩:=id z
  refine h { s with heap:=h' } ⟨I.ok,I.os,I.bare,⟨λb o e n hb hx=>?_,λb o e n hb hx=>?_,I.base.free,λb o e hx=>?_,I.base.tups,I.base.frzs,I.base.tbls⟩,⟨m,hn.sameBut hs (u0R (cne x c hc)),λj y v' e1 e2 e3=>?_⟩,λy c' e=>?_,I.free,I.freeC,λp hp=>?_,tracked ⟨oc,hoc,I.freeC x c hc⟩ hs,by simpa using I.len⟩ ⟨c,hs,.inr hc⟩
  .exact(hs.2 b (o0 (r6 (q5 e) (I.ok.cab x c hfn hc)))).trans (I.base.keep b o e n hb hx)
  .obtain⟨sl,e1⟩:=I.base.slot b o e n hb hx
   exact⟨sl,(hs.2 b (o0 (r6 (q5 e) (I.ok.cab x c hfn hc)))).trans e1⟩
  .obtain⟨o',e1⟩:=I.base.there b o e hx
   exact⟨o',(hs.2 b (o0 (r6 (q5 e) (I.ok.cab x c hfn hc)))).trans e1⟩
  .by_cases hj:j=i
   .subst hj
    rw[hi]at e1;cases e1
    rw[u0x hiσ]at e2
    cases e2
    exact⟨u,r,.inr ⟨.inl hk,c,hc,hc'⟩⟩
   .rw[d8 (u0R hj)]at e2
    obtain⟨u',r',q⟩:=hl j y v' e1 e2 e3
    refine⟨u',r',?_⟩
    rcases q with q | ⟨k,c',e,z'⟩
    .exact .inl q
    .refine .inr ⟨k,c',e,z'.sameBut hs ?_⟩
     rintro rfl
     exact hj (ze5 hN e1 (I.ok.inj _ _ _ e hc ▸ hi))
  .by_cases hcc:c'=c
   .subst hcc;exact⟨_,hc'⟩
   .obtain⟨w2,z2⟩:=I.cell y c' e
    exact⟨w2,z2.sameBut hs hcc⟩
  .obtain⟨e,n,ne,nf,d⟩:=I.pin p hp
   refine⟨(hs.2 p.1 ?_).trans e,n,ne,nf,d⟩
   intro q
   rw[q,hoc]at e
   have q':oc=p.2:=i8 e
   exact d w' (by rw[<-q'];exact hocd)
theorem zez {M:Model}{A:Around}{E:Value->Shared->Prop}{i:Nat}{x:Str}{v:V}{u:Value}{Q:Unit->Shared->Prop}(I:Inv X pins σ H s)(hN:X.N.Nodup)(hi:X.N[i]?=some x)(hx:Loc X.env.scope x)(r:yZ v u)
 (h:∀ s',Inv X pins (σ.set i (some v)) H s'->Q () s') (hf:X.fn x=true\/X.env.scope.names.lookup x=some .local:=by first | exact .inl rfl | exact .inr rfl | assumption):wpAny M A (storeName X.env x u) Q E s :=
 zgg I hN hi hx r (λs' I' _=>h s' I') hf
theorem Inv.call' {s':Shared}{ch:List Addr}(I:Inv X pins σ H s)(ho:s'.os=s.os)(u:Un (frs X.stack) ch H H' s.heap s'.heap)(hok:HOk X.prog X.w H' s'.heap)(hg:AllBare s'.gens)
 (hch:∀ b∈ch,(b∈X.ex\/X.s₀.heap.objs.size<=b)/\b≠X.env.locals/\(∀ x c,X.env.cells.lookup x=some c->c≠b)/\∀ p∈X.pn++pins,p.1≠b):Inv X pins σ H' s':=by
 obtain⟨h',g',d',t',o'⟩:=s'
 have e:o'=s.os:=ho
 subst e
 exact I.call (g':=g') (t':=t') (d':=d') u hok hg hch
end
abbrev XK:=Value->Option Addr->Hp->Prop
abbrev St:=List (Option V)
abbrev VK:=V->Hp->Prop
abbrev TE:=St->Hp->VK->Prop
abbrev TT:=St->Hp->(Bool->Hp->Prop)->Prop
abbrev TA:=St->Hp->(List V->Hp->Prop)->Prop
structure ziU where
 nx:St->Hp->Prop
 rt:VK
 bk:St->Hp->Prop:=λ_ _=>False
 ct:St->Hp->Prop:=λ_ _=>False
abbrev TS:=ziU->St->Hp->Prop
def EP (X:Cx)(pins:List (Addr × Obj))(σ:St)(Q:VK)(u:Value)(s':Shared):Prop:=∃ v H',Inv X pins σ H' s'/\yZ v u/\Q v H'
def TP (X:Cx)(pins:List (Addr × Obj))(σ:St)(Q:Bool->Hp->Prop)(b:Bool)(s':Shared):Prop:=∃ H',Inv X pins σ H' s'/\Q b H'
def AP (X:Cx)(pins:List (Addr × Obj))(σ:St)(Q:List V->Hp->Prop)(us:List Value)(s':Shared):Prop:=∃ vs H',Inv X pins σ H' s'/\yM vs us/\Q vs H'
def SP (X:Cx)(pins:List (Addr × Obj))(D:ziU)(f:Flow)(s':Shared):Prop :=
 match f with
 | .next=>∃ σ' H',Inv X pins σ' H' s'/\D.nx σ' H'
 | .brk=>∃ σ' H',Inv X pins σ' H' s'/\D.bk σ' H'
 | .cont=>∃ σ' H',Inv X pins σ' H' s'/\D.ct σ' H'
 | .ret u=>∃ v σ' H',Inv X pins σ' H' s'/\yZ v u/\D.rt v H'
def PE (X:Cx)(e:Expr)(t:TE):Prop :=
 ∀ (pins:List (Addr × Obj)) (s:Shared) (σ:St) (H:Hp) (Q:VK),Inv X pins σ H s->t σ H Q->wpAny (model X.prog X.w) X.A (eval e X.env) (EP X pins σ Q) X.xe s
def PT (X:Cx)(e:Expr)(t:TT):Prop :=
 ∀ (pins:List (Addr × Obj)) (s:Shared) (σ:St) (H:Hp) (Q:Bool->Hp->Prop),Inv X pins σ H s->t σ H Q->wpAny (model X.prog X.w) X.A (isTrue e X.env (eval e X.env)) (TP X pins σ Q) X.xe s
def PW (X:Cx)(e:Expr)(t:TT):Prop :=
 ∀ (whole:Sem Value) (pins:List (Addr × Obj)) (s:Shared) (σ:St) (H:Hp) (Q:Bool->Hp->Prop),Inv X pins σ H s->t σ H Q->wpAny (model X.prog X.w) X.A (isTrue e X.env whole) (TP X pins σ Q) X.xe s
theorem PW.pt {X:Cx}{e:Expr}{t:TT}(h:PW X e t):PT X e t:=h _
def PA (X:Cx)(es:List Expr)(t:TA):Prop :=
 ∀ (pos:Pos) (pins:List (Addr × Obj)) (s:Shared) (σ:St) (H:Hp) (Q:List V->Hp->Prop),Inv X pins σ H s->t σ H Q->wpAny (model X.prog X.w) X.A (spliced (backTo pos (starEach es X.env))) (AP X pins σ Q) X.xe s
def PS (X:Cx)(st:Stmt)(t:TS):Prop :=
 ∀ (pins:List (Addr × Obj)) (s:Shared) (σ:St) (H:Hp) (D:ziU),Inv X pins σ H s->t D σ H->wpAny (model X.prog X.w) X.A (exec st X.env) (SP X pins D) X.xe s
def PSs (X:Cx)(st:List Stmt)(t:TS):Prop :=
 ∀ (pins:List (Addr × Obj)) (s:Shared) (σ:St) (H:Hp) (D:ziU),Inv X pins σ H s->t D σ H->wpAny (model X.prog X.w) X.A (execs st X.env) (SP X pins D) X.xe s
theorem thn {α:Type}{t:Sem α}{Q Q':α->Shared->Prop}{M:Model}{A:Around}{E:Value->Shared->Prop}{s:Shared}(h:wpAny M A t Q E s)(hQ:∀ a s,Q a s->Q' a s):wpAny M A t Q' E s:=u1v h hQ λ_ _ x=>x
section
variable {X:Cx}
theorem bin {a b:Expr}{ta tb:TE}(ha:PE X a ta)(hb:PE X b tb){pins:List (Addr × Obj)}{s:Shared}{σ:St}{H:Hp}{R:V->V->Hp->Prop}(I:Inv X pins σ H s)(h:ta σ H λx H1=>tb σ H1 λy H2=>R x y H2)
 {α:Type} {Q:α->Shared->Prop} {f:Value->Value->Sem α}
 (hf:∀ v u s2 x y H2,Inv X pins σ H2 s2->yZ x v->yZ y u->R x y H2->wpAny (model X.prog X.w) X.A (f v u) Q X.xe s2) :
 wpAny (model X.prog X.w) X.A (eval a X.env) (λv s₁=>wpAny (model X.prog X.w) X.A (eval b X.env) (λu s₂=>wpAny (model X.prog X.w) X.A (f v u) Q X.xe s₂) X.xe s₁) X.xe s:=by
 refine thn (ha pins s σ H _ I h) λv s1 hh9=>?_
 obtain⟨x,H1,I1,r1,q1⟩:=hh9
 refine thn (hb pins s1 σ H1 _ I1 q1) λu s2 hh9=>?_
 obtain⟨y,H2,I2,r2,q2⟩:=hh9
 exact hf v u s2 x y H2 I2 r1 r2 q2
def zkQ (i:Nat):TE:=fun σ H Q=>∃ v,σ[i]?=some (some v)/\Q v H
def tC (v:V):TE:=λ_ H Q=>Q v H
theorem znR {i:Nat} {x:Str} {pos:Pos} (hN:X.N[i]?=some x) (hv:Vis X.env.scope x) (hd:(x == ("__debug__":Str))=false:=by decide) (hcd:(x == ("__classdict__":Str))=false:=by decide):PE X (.Name x pos) (zkQ i):=by
 intro pins s σ H Q I h
 obtain⟨v,e,h⟩:=h
 obtain⟨m,hn,hl⟩:=I.loc
 obtain⟨u,r,l⟩:=hl i x v hN e hv
 have fin:EP X pins σ Q u s:=⟨v,H,I,r,h⟩
 rcases l with ⟨hk,hm⟩ | ⟨hk,c,hc,hcell⟩
 .exact wpAny_Name (wpAny_loadName_local I.ok.kind hk hn hm fin) hd
 .rcases hk with hk | hk
  .exact wpAny_Name (wpAny_loadName_cell I.ok.kind hk hc hcell fin) hd
  .exact wpAny_Name (wpAny_loadName_free I.ok.kind hk hc hcell fin hcd) hd
theorem zi {i j pos}:PE X (.Constant (.int i) j pos) (tC (.int i)):=λ_ _ _ H _ I h=>wpAny_Constant_int ⟨.int i,H,I.tok _,⟨_,rfl⟩,h⟩
theorem vf {b j pos}:PE X (.Constant (.bool b) j pos) (tC (.bl b)):=λ_ _ _ H _ I h=>Constant_bool ⟨.bl b,H,I,rfl,h⟩
theorem X2 {j pos}:PE X (.Constant .none j pos) (tC .non):=λ_ _ _ H _ I h=>Constant_none ⟨.non,H,I,rfl,h⟩
theorem za6 {x j pos}:PE X (.Constant (.str x) j pos) (tC (.str x)):=λ_ _ _ H _ I h=>Calls.Constant_str ⟨.str x,H,I.tok _,⟨_,rfl⟩,h⟩
def Gl (X:Cx)(x:Str):Prop:=X.env.kindOf x=some .globalImplicit
theorem zgp {E:Value->Shared->Prop}{pins:List (Addr × Obj)}{s:Shared}{σ:St}{H:Hp}{x:Str}{u:Value}{pos:Pos}{Q:Value->Shared->Prop}(I:Inv X pins σ H s)(hg:Gl X x)(hm:X.mg x=some u)(h:Q u s)
 (hd:(x == ("__debug__":Str))=false:=by decide):wpAny (model X.prog X.w) X.A (eval (.Name x pos) X.env) Q E s :=
 Calls.Name_function_global I.ok.kind hg (Calls.loadGlobal_global (by rw[I.ok.glob];exact I.mod.glob.keeps I.bk) hm h) hd
theorem XM {E:Value->Shared->Prop}{pins:List (Addr × Obj)}{s:Shared}{σ:St}{H:Hp}{x:Str}{u:Value}{pos:Pos}{Q:Value->Shared->Prop}(I:Inv X pins σ H s)(hg:Gl X x)(hm:X.mg x=none)(hv:bootBuiltins x=some u)(h:Q u s)
 (hn:x≠"__name__":=by decide) (hd:(x == ("__debug__":Str))=false:=by decide):wpAny (model X.prog X.w) X.A (eval (.Name x pos) X.env) Q E s:=by
 obtain⟨mb,h1,h2⟩:=I.mod.blt
 exact Calls.Name_function_global I.ok.kind hg (Calls.loadGlobal_builtin (by rw[I.ok.glob];exact I.mod.glob.keeps I.bk) hm (by rw[I.ok.blt];exact h1.keeps I.bk) ((h2 x hn).trans hv) h) hd
theorem zb4 {x:Str} {v:V} {u:Value} {pos:Pos} (hg:Gl X x) (hm:X.mg x=some u) (r:yZ v u) (hd:(x == ("__debug__":Str))=false:=by decide):PE X (.Name x pos) (tC v) :=
 λ_ _ _ H _ I h=>zgp I hg hm ⟨v,H,I,r,h⟩ hd
theorem yl {x:Str} {v:V} {u:Value} {pos:Pos} (hg:Gl X x) (hm:X.mg x=none) (hv:bootBuiltins x=some u) (r:yZ v u) (hn:x≠"__name__":=by decide) (hd:(x == ("__debug__":Str))=false:=by decide):PE X (.Name x pos) (tC v) :=
 λ_ _ _ H _ I h=>XM I hg hm hv ⟨v,H,I,r,h⟩ hn hd
variable {a b:Expr}{ta tb:TE}{pos:Pos}
def PC (X:Cx)(op:CmpOp)(a b:Expr)(t:TE):Prop :=
 ∀ (pins:List (Addr × Obj)) (s:Shared) (σ:St) (H:Hp) (Q:VK),Inv X pins σ H s->t σ H Q ->
  wpAny (model X.prog X.w) X.A (eval a X.env) (λv s₁=>wpAny (model X.prog X.w) X.A (eval b X.env) (λu s₂=>wpAny (model X.prog X.w) X.A (compareOp op v u) (EP X pins σ Q) X.xe s₂) X.xe s₁) X.xe s
theorem zjg (b:Expr){op:CmpOp}(h:op≠.In)(h2:op≠.NotIn):behindInMarks op b=false:=by
 have e1:(op == CmpOp.In)=false:=by cases op <;> first | rfl | exact absurd rfl h
 have e2:(op == CmpOp.NotIn)=false:=by cases op <;> first | rfl | exact absurd rfl h2
 cases b <;> simp[behindInMarks,e1,e2]
def tB (t:TE):TT:=fun σ H Q=>t σ H λx H1=>∃ c,x=.bl c/\Q c H1
theorem pt_cmp {op:CmpOp}{t:TE}(h:PC X op a b t)(h1:behindInMarks op b=false:=by first | exact zjg _ (by decide) (by decide) | rfl):PT X (.Compare a [op] [b] pos) (tB t):=by
 intro pins s σ H Q I hw
 refine wpAny_isTrue_Compare1 (thn (h pins s σ H _ I hw) λv s1 h1=>thn h1 λu s2 h2=>thn h2 λc s3 hh9=>?_) h1
 obtain⟨x,H1,I1,r1,q1⟩:=hh9
 obtain⟨d,rfl,q⟩:=q1
 cases r1
 exact u0Z ⟨H1,I1,q⟩
theorem zoo {e:Expr}{t:TE}(h:PE X e t)(he:∀ whole,isTrue e X.env whole=(do let v<-whole;standAt e.pos;holding [v] (truthy v)):=by intro _;rfl):PT X e (tB t):=by
 intro pins s σ H Q I hw
 refine isTrue_plain (thn (h pins s σ H _ I hw) λv s1 hh9=>?_) (he _)
 obtain⟨x,H1,I1,r1,q1⟩:=hh9
 obtain⟨d,rfl,q⟩:=q1
 cases r1
 exact u0Z ⟨H1,I1,q⟩
variable {tA tB':TT}{rest:List Expr}
def tAnd (t u:TT):TT:=fun σ H Q=>t σ H λc H1=>if c=true then u σ H1 Q else Q false H1
def tOr (t u:TT):TT:=fun σ H Q=>t σ H λc H1=>if c=true then Q true H1 else u σ H1 Q
def tNot (t:TT):TT:=fun σ H Q=>t σ H λc H1=>Q (!c) H1
theorem zl5 (ha:PT X a tA):PW X (.BoolOp .And [a] pos) tA:=by
 intro wh pins s σ H Q I h
 refine isTrue_and (thn (ha pins s σ H Q I h) λc s1 e=>?_)
 cases c with
 | true=>exact isTrue_and_nil e
 | false=>exact e
theorem znQ (ha:PT X a tA):PW X (.BoolOp .Or [a] pos) tA:=by
 intro wh pins s σ H Q I h
 refine isTrue_or (thn (ha pins s σ H Q I h) λc s1 e=>?_)
 cases c with
 | false=>exact isTrue_or_nil e
 | true=>exact e
theorem zoM (ha:PT X a tA)(hb:PW X (.BoolOp .And (b::rest) pos) tB'):PW X (.BoolOp .And (a::b::rest) pos) (tAnd tA tB'):=by
 intro wh pins s σ H Q I h
 refine isTrue_and (thn (ha pins s σ H _ I h) λc s1 hh9=>?_)
 obtain⟨H1,I1,q1⟩:=hh9
 cases c with
 | true=>exact hb wh pins s1 σ H1 Q I1 q1
 | false=>exact⟨H1,I1,q1⟩
theorem zpn (ha:PT X a tA)(hb:PW X (.BoolOp .Or (b::rest) pos) tB'):PW X (.BoolOp .Or (a::b::rest) pos) (tOr tA tB'):=by
 intro wh pins s σ H Q I h
 refine isTrue_or (thn (ha pins s σ H _ I h) λc s1 hh9=>?_)
 obtain⟨H1,I1,q1⟩:=hh9
 cases c with
 | true=>exact⟨H1,I1,q1⟩
 | false=>exact hb wh pins s1 σ H1 Q I1 q1
theorem znq (ha:PT X a tA):PT X (.UnaryOp .Not a pos) (tNot tA):=by
 intro pins s σ H Q I h
 exact isTrue_not (ha pins s σ H (λc H1=>Q (!c) H1) I h)
def zpq (ta tb:TE):TE:=fun σ H Q=>ta σ H λx H1=>∃ c,x=.bl c/\if c=true then tb σ H1 Q else Q (.bl false) H1
def zo8 (ta:TE):TE:=fun σ H Q=>ta σ H λx H1=>∃ c,x=.bl c/\Q (.bl (!c)) H1
theorem zon {op}{t:TE}(h:PE X a t):PE X (.BoolOp op [a] pos) t:=λpins s σ H Q I hw=>BoolOp_one (h pins s σ H Q I hw)
theorem znn (ha:PE X a ta)(hb:PE X (.BoolOp .And (b::rest) pos) tb):PE X (.BoolOp .And (a::b::rest) pos) (zpq ta tb):=by
 intro pins s σ H Q I h
 refine BoolOp_and (thn (ha pins s σ H _ I h) λv s1 hh9=>?_)
 obtain⟨x,H1,I1,r1,q1⟩:=hh9
 obtain⟨c,rfl,q1⟩:=q1
 cases r1
 refine u0Z ?_
 cases c with
 | true=>exact hb pins s1 σ H1 Q I1 q1
 | false=>exact⟨.bl false,H1,I1,rfl,q1⟩
theorem zn4 (ha:PE X a ta):PE X (.UnaryOp .Not a pos) (zo8 ta):=by
 intro pins s σ H Q I h
 refine UnaryOp_ (thn (ha pins s σ H _ I h) λv s1 hh9=>?_)
 obtain⟨x,H1,I1,r1,q1⟩:=hh9
 obtain⟨c,rfl,q1⟩:=q1
 cases r1
 exact not_of (u0Z ⟨.bl (!c),H1,I1,rfl,q1⟩)
end
def SqL (K:W.Frag)(H:Hp)(a:Addr)(xs:List V):Prop :=
 Rd H a (.lst xs) \/
  ∃ (o:Obj) (its:Array Value) (n:Nat),K.lookup a=some o/\o.cls=.type "list"/\o.dict=none/\o.data=.seq its n/\its.size<=sizeLine/\yM xs its.toList
def SqT (K:W.Frag)(H:Hp)(a:Addr)(xs:List V):Prop :=
 Rd H a (.tup xs) \/
  ∃ (o:Obj) (its:Array Value) (n:Nat),K.lookup a=some o/\o.cls=.type "tuple"/\o.data=.seq its n/\its.size<=sizeLine/\yM xs its.toList
def absV:Value->Option V
 | .none=>some .non
 | .bool b=>some (.bl b)
 | .int i _=>some (.int i)
 | .str x _=>some (.str x)
 | .bytes b _=>some (.byt b)
 | .float b _=>some (.flt b)
 | .ref a=>some (.ref a)
 | .type n=>some (.ty n)
 | _=>none
theorem yZ.abs {x:V}{u:Value}(r:yZ x u):absV u=some x:=by
 cases x with
 | non=>cases r;rfl
 | bl _=>cases r;rfl
 | int _=>obtain⟨t,rfl⟩:=r;rfl
 | str _=>obtain⟨t,rfl⟩:=r;rfl
 | byt _=>obtain⟨t,rfl⟩:=r;rfl
 | flt _=>obtain⟨t,rfl⟩:=r;rfl
 | ref _=>cases r;rfl
 | ty _=>cases r;rfl
theorem yZ.inj {x y:V}{u:Value}(r:yZ x u)(q:yZ y u):x=y:=i8 (r.abs.symm.trans q.abs)
theorem yM.inj:∀ {xs ys:List V} {us:List Value},yM xs us->yM ys us->xs=ys:=by
 intro xs ys us h
 induction h generalizing ys with
 | nil=>intro h2;cases h2;rfl
 | cons r t ih=>intro h2;cases h2 with | cons r' t'=>rw[r.inj r',ih t']
section
variable {X:Cx}{pins:List (Addr × Obj)}{σ:St}{H:Hp}{s:Shared}{a:Addr}{xs ys:List V}
theorem SqL.of {K:W.Frag}(h:H a=some (.lst xs)):SqL K H a xs:=.inl (.inl h)
theorem SqT.of {K:W.Frag}(h:H a=some (.tup xs)):SqT K H a xs:=.inl (.inl h)
theorem Inv.list (I:Inv X pins σ H s)(h:SqL X.K H a xs):∃ its:List Value,yM xs its/\PlainL s.heap a its.toArray/\xs.length<=sizeLine:=by
 rcases h with h | ⟨o,its,n,hk,hc,hd,hs,hz,r⟩
 .obtain⟨z,its,n,r,e⟩:=h.ok I.hok
  exact⟨its,r,⟨_,n,e,rfl,rfl,rfl⟩,z⟩
 .refine⟨its.toList,r,⟨o,n,I.kIn a o hk,hc,hd,by simpa using hs⟩,?_⟩
  have e:=r.length
  simp only[i9]at e
  omega
theorem Inv.tuple (I:Inv X pins σ H s)(h:SqT X.K H a xs):∃ its:List Value,yM xs its/\IsTup s.heap a its.toArray/\xs.length<=sizeLine:=by
 rcases h with h | ⟨o,its,n,hk,hc,hs,hz,r⟩
 .obtain⟨z,its,r,p⟩:=h.ok I.hok
  exact⟨its,r,p,z⟩
 .refine⟨its.toList,r,⟨o,I.kIn a o hk,hc,n,by simpa using hs⟩,?_⟩
  have e:=r.length
  simp only[i9]at e
  omega
theorem Inv.list_inj (I:Inv X pins σ H s)(h:SqL X.K H a xs)(h':SqL X.K H a ys):xs=ys:=by
 obtain⟨its,r,⟨o,n,e,_,_,d⟩,_⟩:=I.list h
 obtain⟨its',r',⟨o',n',e',_,_,d'⟩,_⟩:=I.list h'
 rw[e]at e';cases e'
 rw[d]at d'
 injection d' with d1 _
 have:its=its':=by simpa using u1c Array.toList d1
 subst this
 exact r.inj r'
theorem Inv.tuple_inj (I:Inv X pins σ H s)(h:SqT X.K H a xs)(h':SqT X.K H a ys):xs=ys:=by
 obtain⟨its,r,⟨o,e,_,n,d⟩,_⟩:=I.tuple h
 obtain⟨its',r',⟨o',e',_,n',d'⟩,_⟩:=I.tuple h'
 rw[e]at e';cases e'
 rw[d]at d'
 injection d' with d1 _
 have:its=its':=by simpa using u1c Array.toList d1
 subst this
 exact r.inj r'
end
abbrev Cx.wish (X:Cx)(E:Value->Shared->Prop):Cx:={ X with xe:=E }
abbrev Cx.nox (X:Cx):Cx:=X.wish λ_ _=>False
theorem Cx.Ok.wish {X:Cx}(ok:X.Ok)(E:Value->Shared->Prop):(X.wish E).Ok :=
 ⟨ok.mod,ok.kind,ok.glob,ok.blt,ok.above,ok.inj,ok.has,ok.cab,ok.hd,ok.frames,ok.stk,ok.exf,ok.bs,ok.bsz,ok.noex,ok.exfs,ok.funs,ok.frf⟩
theorem Cx.Ok.unwish {X:Cx}{E:Value->Shared->Prop}(ok:(X.wish E).Ok):X.Ok :=
 ⟨ok.mod,ok.kind,ok.glob,ok.blt,ok.above,ok.inj,ok.has,ok.cab,ok.hd,ok.frames,ok.stk,ok.exf,ok.bs,ok.bsz,ok.noex,ok.exfs,ok.funs,ok.frf⟩
section
variable {X:Cx}{pins:List (Addr × Obj)}{σ:St}{H:Hp}{s:Shared}{E:Value->Shared->Prop}
theorem Inv.wish (I:Inv X pins σ H s)(E:Value->Shared->Prop):Inv (X.wish E) pins σ H s:=⟨I.ok.wish E,I.os,I.bare,I.base,I.loc,I.cell,I.free,I.freeC,I.pin,I.hok,I.len⟩
theorem Inv.unwish (I:Inv (X.wish E) pins σ H s):Inv X pins σ H s:=⟨I.ok.unwish,I.os,I.bare,I.base,I.loc,I.cell,I.free,I.freeC,I.pin,I.hok,I.len⟩
theorem SP.unwish {D:ziU}{f:Flow}{s':Shared}(h:SP (X.wish E) pins D f s'):SP X pins D f s':=by
 cases f with
 | next=>obtain⟨σ',H',I,q⟩:=h;exact⟨σ',H',I.unwish,q⟩
 | brk=>obtain⟨σ',H',I,q⟩:=h;exact⟨σ',H',I.unwish,q⟩
 | cont=>obtain⟨σ',H',I,q⟩:=h;exact⟨σ',H',I.unwish,q⟩
 | ret u=>obtain⟨v,σ',H',I,r,q⟩:=h;exact⟨v,σ',H',I.unwish,r,q⟩
theorem PSs.nox {st:List Stmt}{t:TS}(h:PSs X.nox st t):PSs X st t:=λpins s σ H D I hw =>
 u1v (h pins s σ H D (I.wish _) hw) (λ_ _ q=>q.unwish) λ_ _ z=>False.elim z
end
section
variable {X:Cx}{st:Stmt}{rest:List Stmt}{t u:TS}{e:Expr}{te:TE}{pos:Pos}
def zpF:TS:=λD σ H=>D.nx σ H
def tSeq (t u:TS):TS:=λD σ H=>t { D with nx:=u D } σ H
theorem zl6:PSs X [] zpF:=λ_ _ σ H _ I h=>u24 ⟨σ,H,I,h⟩
theorem zex (h1:PS X st t)(h2:PSs X rest u):PSs X (st::rest) (tSeq t u):=by
 intro pins s σ H D I h
 refine wpAny_execs_cons (thn (h1 pins s σ H { D with nx:=u D } I h) λf s1 q=>?_)
 cases f with
 | next =>
  obtain⟨σ',H',I',q⟩:=q
  exact h2 pins s1 σ' H' D I' q
 | ret v=>exact q
 | brk=>exact q
 | cont=>exact q
theorem zgV (h1:PS X st t):PSs X [st] t:=by
 intro pins s σ H D I h
 refine wpAny_execs_cons (thn (h1 pins s σ H D I h) λf s1 q=>?_)
 cases f with
 | next=>exact u24 q
 | ret v=>exact q
 | brk=>exact q
 | cont=>exact q
theorem Inv.quiet {pins:List (Addr × Obj)}{σ:St}{H:Hp}{s:Shared}(I:Inv X pins σ H s):interactive X.env=false:=by simp[interactive,I.ok.kind]
def zpe (te:TE):TS:=λD σ H=>te σ H λ_ H1=>D.nx σ H1
theorem zeg (he:PE X e te)(hs:swapsWith e none pos.line X.env=pure false:=by rfl):PS X (.Expr e pos) (zpe te):=by
 intro pins s σ H D I h
 exact wpAny_Expr_any (thn (he pins s σ H _ I h) λv s1 ⟨x,H1,I1,r1,q1⟩=>⟨σ,H1,I1,q1⟩) I.quiet hs
def tRet (te:TE):TS:=λD σ H=>te σ H D.rt
theorem zkX (he:PE X e te):PS X (.Return (some e) pos) (tRet te):=by
 intro pins s σ H D I h
 exact wpAny_Return_some (thn (he pins s σ H _ I h) λv s1 ⟨x,H1,I1,r1,q1⟩=>⟨x,σ,H1,I1,r1,q1⟩)
def tIfS (c:TT)(t u:TS):TS:=λD σ H=>c σ H λb H1=>if b=true then t D σ H1 else u D σ H1
theorem zpl {c:Expr}{a b:List Stmt}{tc:TT}(hc:PT X c tc)(ha:PSs X a t)(hb:PSs X b u):PS X (.If c a b pos) (tIfS tc t u):=by
 intro pins s σ H D I h
 refine wpAny_If (thn (hc pins s σ H _ I h) λd s1 hh9=>?_)
 obtain⟨H1,I1,q1⟩:=hh9
 cases d with
 | true=>exact ha pins s1 σ H1 D I1 q1
 | false=>exact hb pins s1 σ H1 D I1 q1
def zm9:TS:=λ_ _ _=>False
theorem zj4:PS X st zm9:=λ_ _ _ _ _ _ h=>h.elim
end
abbrev TG:=V->St->Hp->(St->Hp->Prop)->Prop
abbrev TGs:=List V->St->Hp->(St->Hp->Prop)->Prop
def PG (X:Cx)(target:Expr)(t:TG):Prop :=
 ∀ (pins:List (Addr × Obj)) (s:Shared) (σ:St) (H:Hp) (v:V) (u:Value) (Q:St->Hp->Prop),Inv X pins σ H s->yZ v u->t v σ H Q ->
  wpAny (model X.prog X.w) X.A (assign target X.env u) (λ_ s'=>∃ σ' H',Inv X pins σ' H' s'/\Q σ' H') X.xe s
def PGs (X:Cx)(ts:List Expr)(t:TGs):Prop :=
 ∀ (pins:List (Addr × Obj)) (s:Shared) (σ:St) (H:Hp) (vs:List V) (us:List Value) (Q:St->Hp->Prop),Inv X pins σ H s->yM vs us->t vs σ H Q ->
  wpAny (model X.prog X.w) X.A (assignInOrder ((assignEach ts X.env).map (·.2)) us) (λ_ s'=>∃ σ' H',Inv X pins σ' H' s'/\Q σ' H') X.xe s
abbrev zph:=V->V->V->Hp->(Hp->Prop)->Prop
def PSet (X:Cx)(t:zph):Prop :=
 ∀ (pins:List (Addr × Obj)) (s:Shared) (σ:St) (H:Hp) (o i v:V) (ov iv u:Value) (Q:Hp->Prop),Inv X pins σ H s->yZ o ov->yZ i iv->yZ v u->t o i v H Q ->
  wpAny (model X.prog X.w) X.A (setItem ov iv u) (λ_ s'=>∃ H',Inv X pins σ H' s'/\Q H') X.xe s
section
variable {X:Cx}{pos:Pos}
def Xa (i:Nat):TG:=λv σ H Q=>Q (σ.set i (some v)) H
theorem zx {i:Nat}{x:Str}(hN:X.N.Nodup)(hi:X.N[i]?=some x)(hx:Loc X.env.scope x)(hf:X.fn x=true\/X.env.scope.names.lookup x=some .local:=by first | exact .inl rfl | exact .inr rfl | assumption):PG X (.Name x pos) (Xa i):=by
 intro pins s σ H v u Q I r h
 exact wpAny_assign_Name (zez I hN hi hx r (λs' I'=>⟨_,H,I',h⟩) hf)
def zo1:TGs:=λvs σ H Q=>vs=[]/\Q σ H
def zdf (t:TG)(u:TGs):TGs:=λvs σ H Q=>∃ v r,vs=v::r/\t v σ H fun σ' H'=>u r σ' H' Q
theorem zbk:PGs X [] zo1:=by
 intro pins s σ H vs us Q I r h
 obtain⟨e,h⟩:=h
 subst e
 cases r
 exact assignInOrder_nil ⟨σ,H,I,h⟩
theorem YK {e:Expr}{es:List Expr}{t:TG}{u:TGs}(h1:PG X e t)(h2:PGs X es u)
 (hs:(assignEach (e::es) X.env).map (·.2)=assign e X.env::(assignEach es X.env).map (·.2):=by rfl):PGs X (e::es) (zdf t u):=by
 intro pins s σ H vs us Q I r h
 obtain⟨v,vr,e1,h⟩:=h
 subst e1
 cases r with
 | cons r rr =>
  rw[hs]
  refine assignInOrder_cons (thn (h1 pins s σ H _ _ _ I r h) λ_ s1 hh9=>?_)
  obtain⟨σ1,H1,I1,q1⟩:=hh9
  exact h2 pins s1 σ1 H1 _ _ Q I1 rr q1
def zo3 (K:W.Frag)(n:Nat)(t:TGs):TG:=λv σ H Q=>∃ a xs,v=.ref a/\SqT K H a xs/\xs.length=n/\t xs σ H Q
theorem zey {es:List Expr}{k:Nat}{t:TGs}{n:Nat}(hc:X.calm=true)(h:PGs X es t)
 (hn:(assignEach es X.env).length=n:=by rfl) (hst:(assignEach es X.env).findIdx? (·.1)=none:=by rfl):PG X (.Tuple es k pos) (zo3 X.K n t):=by
 intro pins s σ H v u Q I r hw
 obtain⟨a,xs,e1,hq,hl,hw⟩:=hw
 subst e1
 cases r
 obtain⟨its,rv,ht,hz⟩:=I.tuple hq
 refine assign_Tuple_tuple (I.ok.hd hc) ht (by simp[hn,<- hl,rv.length]) hst λh' hx=>?_
 have I1:Inv X pins σ H { s with heap:=h' }:=I.kept (t':=s.toks) λb o e=>hx b o (o0 (q5 e)) e
 exact h pins _ σ H xs _ Q I1 (by simpa using rv) hw
def gSub (to ti:TE)(t:zph):TG:=λv σ H Q=>to σ H λo H1=>ti σ H1 λi H2=>t o i v H2 λH3=>Q σ H3
theorem znj {o i:Expr}{to ti:TE}{t:zph}(ho:PE X o to)(hi:PE X i ti)(hs:PSet X t)
 (ha:∀ v,assign (.Subscript o i pos) X.env v=(do
  let ov<-holding [v] (eval o X.env)
  let iv<-holding [v,ov] (eval i X.env)
  standAt pos
  holding [v,ov,iv] (setItem ov iv v)
  release [v,ov,iv] []):=by intro _;rfl):PG X (.Subscript o i pos) (gSub to ti t):=by
 intro pins s σ H v u Q I r h
 rw[ha]
 refine u0 (u0C (thn (ho pins s σ H _ I h) λov s1 hh9=>?_))
 obtain⟨x,H1,I1,r1,q1⟩:=hh9
 refine u0 (u0C (thn (hi pins s1 σ H1 _ I1 q1) λiv s2 hh9=>?_))
 obtain⟨y,H2,I2,r2,q2⟩:=hh9
 refine u0 (wpAny_standAt (u0 (u0C (thn (hs pins s2 σ H2 x y v ov iv u _ I2 r1 r2 r q2) λ_ s3 hh9=>?_))))
 obtain⟨H3,I3,q3⟩:=hh9
 exact wpAny_release ⟨σ,H3,I3,q3⟩
def zmV (te:TE)(g:TG):TS:=λD σ H=>te σ H λx H1=>g x σ H1 D.nx
theorem zmZ {tg e:Expr}{te:TE}{g:TG}(he:PE X e te)(hg:PG X tg g)(hs:swapsWithSole [tg] e pos.line X.env=pure false:=by rfl)(hw:swappedStores [tg] e X.env=pure none:=by rfl)
 (h1:(assignEach [tg] X.env).map (·.2)=[assign tg X.env]:=by rfl):PS X (.Assign [tg] e pos) (zmV te g):=by
 intro pins s σ H D I h
 refine wpAny_Assign_stores (thn (he pins s σ H _ I h) λv s1 hh9=>?_) hs hw
 obtain⟨x,H1,I1,r1,q1⟩:=hh9
 rw[h1]
 exact thn (hg pins s1 σ H1 x v _ I1 r1 q1) λ_ s2 q=>q
theorem zcB {i:Nat}{x:Str}{e:Expr}{te:TE}{pos':Pos}(hN:X.N.Nodup)(hi:X.N[i]?=some x)(hx:Loc X.env.scope x)(he:PE X e te)(hs:swapsWith e (some (.Name x pos')) pos.line X.env=pure false:=by rfl)(hf:X.fn x=true\/X.env.scope.names.lookup x=some .local:=by first | exact .inl rfl | exact .inr rfl | assumption) :
 PS X (.Assign [.Name x pos'] e pos) (zmV te (Xa i)):=by
 intro pins s σ H D I h
 refine wpAny_Assign_Name (thn (he pins s σ H _ I h) λv s1 hh9=>?_) hs
 obtain⟨y,H1,I1,r1,q1⟩:=hh9
 exact zez I1 hN hi hx r1 (λs2 I2=>⟨_,H1,I2,q1⟩) hf
def znX (c:TT)(tb:TS):TS:=λD σ H=>∃ W:Nat->St->Hp->Prop,(∃ m,W m σ H)/\∀ m σ H,W m σ H ->
 c σ H λb H1=>if b=true then ∃ N:St->Hp->Prop,(∀ σ' H',N σ' H'->∃ m',m' < m/\W m' σ' H')/\tb { D with nx:=N,ct:=N,bk:=D.nx } σ H1 else D.nx σ H1
theorem zi0 {c:Expr}{body:List Stmt}{tc:TT}{tb:TS}(hp:PassesOwn (model X.prog X.w) X.A X.env X.xe)(hc:PT X c tc)(hb:PSs X body tb):PS X (.While c body [] pos) (znX tc tb):=by
 intro pins s σ H D I h
 obtain⟨W,⟨m0,w0⟩,turn⟩:=h
 refine wpAny_While (codeAny_whileLoop (λn s'=>∃ σ' H',Inv X pins σ' H' s'/\W n σ' H') ?_ m0 ⟨σ,H,I,w0⟩)
 rintro n s1 ⟨σ1,H1,I1,w1⟩
 refine u1H hp (thn (hc pins s1 σ1 H1 _ I1 (turn n σ1 H1 w1)) λb s2 hh9=>?_)
 obtain⟨H2,I2,q2⟩:=hh9
 cases b with
 | true =>
  obtain⟨N,hN,q2⟩:=q2
  rw[t4 rfl]
  refine u1H hp (thn (hb pins s2 σ1 H2 _ I2 q2) λf s3 q3=>?_)
  cases f with
  | next =>
   obtain⟨σ3,H3,I3,n3⟩:=q3
   obtain⟨m',hm,w3⟩:=hN σ3 H3 n3
   exact⟨m',hm,σ3,H3,I3,w3⟩
  | cont =>
   obtain⟨σ3,H3,I3,n3⟩:=q3
   obtain⟨m',hm,w3⟩:=hN σ3 H3 n3
   exact⟨m',hm,σ3,H3,I3,w3⟩
  | brk=>exact q3
  | ret v=>exact q3
 | false =>
  rw[j4 u9]
  exact u24 ⟨σ1,H2,I2,q2⟩
end
structure It where
 go:Nat->Hp->Prop
 yld:Nat->Hp->V->Hp->Prop
 stop:Nat->Hp->Prop
def zc9 (X:Cx)(pins:List (Addr × Obj))(H:Hp)(b:Addr):Prop :=
 H b=none/\b≠X.env.locals/\b∉X.fs/\(b∈X.ex\/X.s₀.heap.objs.size<=b)/\(∀ x c,X.env.cells.lookup x=some c->c≠b)/\∀ p∈X.pn++pins,p.1≠b
theorem Inv.fpOk {X:Cx}{pins:List (Addr × Obj)}{σ:St}{H H':Hp}{s:Shared}{b:Addr}(I:Inv X pins σ H s)(hb:s.heap.objs.size<=b)(hn:H' b=none):zc9 X pins H' b:=by
 refine⟨hn,u12 (r6 I.lt hb),I.nofs hb,.inr (p6 I.sz hb),λx c e z=>?_,λp hp z=>?_⟩
 .obtain⟨v,q⟩:=I.cell x c e
  exact absurd (r6 q.lt (by rw[z];exact hb)) (u0Q _)
 .exact absurd (r6 (q5 (I.pin p hp).1) (by rw[z];exact hb)) (u0Q _)
structure zkD (P:Program) (w:World) (K:W.Frag) (tg:Expr) (J:It) (fp:List Addr) (it:Addr) (tn:Nat->Heap->Prop):Prop where
 mem:it∈fp
 obj:∀ i h,tn i h->∀ b∈fp,∃ o,h.get? b=some o/\∀ v,o.data≠.cell v
 keep:∀ i h h',tn i h->(∀ b∈fp,∀ o,h.get? b=some o->h'.get? b=some o)->tn i h'
 item:∀ (X:Cx),X.prog=P->X.w=w->X.K=K->X.calm=true->∀ (i:Nat) (pins:List (Addr × Obj)) (s:Shared) (σ:St) (H:Hp) (E:Value->Shared->Prop),Inv X pins σ H s->(∀ b∈fp,zc9 X pins H b)->tn i s.heap->J.go i H ->
  wpAny (model P w) X.A (pyNext (.ref it)) (λr s1=>∃ u,r=some u /\
   wpAny (model P w) X.A (letOwnedTupleGo tg (.ref it) u) (λ_ s2=>∃ x H',Inv X pins σ H' s2/\yZ x u/\J.yld i H x H'/\tn (i+1) s2.heap/\∀ b∈fp,H' b=none) E s1) E s
 done:∀ (X:Cx),X.prog=P->X.w=w->X.K=K->X.calm=true->∀ (i:Nat) (pins:List (Addr × Obj)) (s:Shared) (σ:St) (H:Hp) (E:Value->Shared->Prop),Inv X pins σ H s->(∀ b∈fp,zc9 X pins H b)->tn i s.heap->J.stop i H ->
  wpAny (model P w) X.A (pyNext (.ref it)) (λr s1=>r=none/\Inv X pins σ H s1) E s
 self:∀ (A:Around) (i:Nat) (s:Shared) (Q:Value->Shared->Prop) (E:Value->Shared->Prop),tn i s.heap->Q (.ref it) s->wpAny (model P w) A (pyIter (.ref it)) Q E s
abbrev TI:=St->Hp->(It->Hp->Prop)->Prop
def PIE (X:Cx)(pins:List (Addr × Obj))(σ:St)(tg:Expr)(R:It->Hp->Prop)(itv:Value)(s2:Shared):Prop :=
 ∃ (it:Addr) (fp:List Addr) (tn:Nat->Heap->Prop) (J:It) (H':Hp),itv=.ref it/\Inv X pins σ H' s2/\zkD X.prog X.w X.K tg J fp it tn/\tn 0 s2.heap/\(∀ b∈fp,zc9 X pins H' b)/\R J H'
def PI (X:Cx)(tg iter:Expr)(wi:TI):Prop :=
 ∀ (pins:List (Addr × Obj)) (s:Shared) (σ:St) (H:Hp) (R:It->Hp->Prop),Inv X pins σ H s->wi σ H R ->
  wpAny (model X.prog X.w) X.A (eval iter X.env) (λv s1=>wpAny (model X.prog X.w) X.A (pyIter v) (PIE X pins σ tg R) X.xe s1) X.xe s
theorem zi4 {M:Model}{A:Around}{E:Value→Shared→Prop}{s:Shared}{tg:Expr}{it:Addr}{u:Value}{o:Obj}{n:String}{vs:Array Value}{Q:Unit→Shared→Prop}(ho:s.heap.get? it=some o)(hc:o.cls=.type n)(hd:o.data=.fields vs)
    (hn:["enumerate","zip","dict_itemiterator","dict_reverseitemiterator","odict_iterator","itertools.zip_longest","itertools.pairwise"].contains n=false) (hQ:Q () s):wpAny M A (letOwnedTupleGo tg (.ref it) u) Q E s:=by
  unfold letOwnedTupleGo
  cases tg <;> first
    | exact u7 hQ
    | (cases u <;> first
        | exact u7 hQ
        | (refine u0 (wpAny_load ho ?_)
           rw [hc,hd]
           show wpAny M A (if (["enumerate","zip","dict_itemiterator","dict_reverseitemiterator","odict_iterator","itertools.zip_longest","itertools.pairwise"].contains n&&vs[0]? == some (rawInt _))=true then _ else _) Q E s
           rw [j4 (by intro h;rw [hn,Bool.false_and] at h;cases h)]
           exact u7 hQ))
def Itl (K:W.Frag)(a:Addr):It :=
 ⟨λi H=>∃ xs x,SqL K H a xs/\xs[i]?=some x,λi H x H'=>H'=H/\∀ xs,SqL K H a xs->xs[i]?=some x,λi H=>∃ xs,SqL K H a xs/\xs.length<=i⟩
def Itt (K:W.Frag)(a:Addr):It :=
 ⟨λi H=>∃ xs x,SqT K H a xs/\xs[i]?=some x,λi H x H'=>H'=H/\∀ xs,SqT K H a xs->xs[i]?=some x,λi H=>∃ xs,SqT K H a xs/\xs.length<=i⟩
def Itr (lo:Int)(n:Nat):It:=⟨λi _=>i < n,λi H x H'=>H'=H/\x=.int (lo+i),λi _=>n<=i⟩
theorem zgX {P:Program}{w:World}{K:W.Frag}{tg:Expr}(a it:Addr):zkD P w K tg (Itl K a) [it] it (λi h=>h.IsListIter it a i) where
 mem:=by simp
 obj:=λi h st b hb=>by
  have e:b=it:=by simpa using hb
  subst e
  obtain⟨o,e,c,d⟩:=st
  exact⟨o,e,λv z=>by rw[d]at z;cases z⟩
 keep:=λi h h' st k=>st.at λo e=>k it (by simp) o e
 item:=by
  intro X hP hw hK hc i pins s σ H E I hf st hg
  subst hP hw hK
  obtain⟨xs,x,hq,hx⟩:=hg
  obtain⟨its,rv,p,hz⟩:=I.list hq
  obtain⟨u,hu,ru⟩:=rv.get hx
  obtain⟨f0,f1,f2,f3,f4,f5⟩:=hf it (by simp)
  refine wpAny_pyNext_list_item st p.isList (x:=u) (by simpa using hu) λh' st' sb=>?_
  have I1:Inv X pins σ H { s with heap:=h' }:=I.turned (t':=s.toks) (λb o hb e=>(sb.2 b hb).trans e) f0 f1 f3 f4 f5
  obtain⟨o,e,c,d⟩:=id st'
  exact⟨u,rfl,zi4 (s:={ s with heap:=h' }) e c d (by decide) ⟨x,H,I1,ru,⟨rfl,λys hy=>by rw[I.list_inj hy hq];exact hx⟩,st',λb hb=>(hf b hb).1⟩⟩
 done:=by
  intro X hP hw hK hc i pins s σ H E I hf st hg
  subst hP hw hK
  obtain⟨xs,hq,hx⟩:=hg
  obtain⟨its,rv,p,hz⟩:=I.list hq
  obtain⟨f0,f1,f2,f3,f4,f5⟩:=hf it (by simp)
  have hl:=rv.length
  exact wpAny_pyNext_list_end (I.ok.hd hc) st p.isList (by simp;omega) λh' eb=>⟨rfl,I.turned (t':=s.toks) (λb o hb e=>eb b o hb e) f0 f1 f3 f4 f5⟩
 self:=λ_ _ _ _ _ st h=>wpAny_pyIter_listiter st h
theorem zfx {P:Program}{w:World}{K:W.Frag}{tg:Expr}(a it:Addr):zkD P w K tg (Itt K a) [it] it (λi h=>h.IsTupleIter it a i) where
 mem:=by simp
 obj:=λi h st b hb=>by
  have e:b=it:=by simpa using hb
  subst e
  obtain⟨o,e,c,d⟩:=st
  exact⟨o,e,λv z=>by rw[d]at z;cases z⟩
 keep:=λi h h' st k=>st.at λo e=>k it (by simp) o e
 item:=by
  intro X hP hw hK hc i pins s σ H E I hf st hg
  subst hP hw hK
  obtain⟨xs,x,hq,hx⟩:=hg
  obtain⟨its,rv,p,hz⟩:=I.tuple hq
  obtain⟨u,hu,ru⟩:=rv.get hx
  obtain⟨f0,f1,f2,f3,f4,f5⟩:=hf it (by simp)
  refine wpAny_pyNext_tuple_item st (show s.heap.IsTuple a its.toArray from p) (x:=u) (by simpa using hu) λh' st' sb=>?_
  have I1:Inv X pins σ H { s with heap:=h' }:=I.turned (t':=s.toks) (λb o hb e=>(sb.2 b hb).trans e) f0 f1 f3 f4 f5
  obtain⟨o,e,c,d⟩:=id st'
  exact⟨u,rfl,zi4 (s:={ s with heap:=h' }) e c d (by decide) ⟨x,H,I1,ru,⟨rfl,λys hy=>by rw[I.tuple_inj hy hq];exact hx⟩,st',λb hb=>(hf b hb).1⟩⟩
 done:=by
  intro X hP hw hK hc i pins s σ H E I hf st hg
  subst hP hw hK
  obtain⟨xs,hq,hx⟩:=hg
  obtain⟨its,rv,p,hz⟩:=I.tuple hq
  obtain⟨f0,f1,f2,f3,f4,f5⟩:=hf it (by simp)
  have hl:=rv.length
  exact wpAny_pyNext_tuple_end (I.ok.hd hc) st (show s.heap.IsTuple a its.toArray from p) (by simp;omega) λh' eb=>⟨rfl,I.turned (t':=s.toks) (λb o hb e=>eb b o hb e) f0 f1 f3 f4 f5⟩
 self:=λ_ _ _ _ _ st h=>wpAny_pyIter_tupleiter st h
theorem zf0 {P:Program}{w:World}{K:PySem.W.Frag}{tg:Expr}(it:Addr)(lo:Int)(n:Nat):zkD P w K tg (Itr lo n) [it] it (λi h=>IsRangeIter h it (lo+(i:Nat)*1) ((n:Int) - (i:Nat)) 1) where
 mem:=by simp
 obj:=λi h st b hb=>by
  have e:b=it:=by simpa using hb
  subst e
  exact⟨_,st,λv z=>by
   have z':Data.fields _=Data.cell v:=z
   cases z'⟩
 keep:=λi h h' st k=>k it (by simp) _ st
 item:=by
  intro X hP hw hK hc i pins s σ H E I hf st hg
  subst hP hw hK
  obtain⟨f0,f1,f2,f3,f4,f5⟩:=hf it (by simp)
  have W:=Walks.range (prog:=X.prog) (w:=X.w) (I.ok.hd hc) it lo 1 n
  refine W.item i s _ _ hg st λv h' tk hv st' kk=>?_
  obtain⟨t,rfl⟩:=hv
  have I1:Inv X pins σ H { s with heap:=h',toks:=tk }:=I.turned (λb o hb e=>kk b o (by simpa using hb) e) f0 f1 f3 f4 f5
  refine⟨_,rfl,zi4 (s:={ s with heap:=h',toks:=tk }) (n:="range_iterator") st' rfl rfl (by decide) ⟨.int (lo+i),H,I1,⟨t,?_⟩,⟨rfl,rfl⟩,st',λb hb=>(hf b hb).1⟩⟩
  rw[Int.mul_one]
 done:=by
  intro X hP hw hK hc i pins s σ H E I hf st hg
  subst hP hw hK
  obtain⟨f0,f1,f2,f3,f4,f5⟩:=hf it (by simp)
  exact wpAny_pyNext_range_end (I.ok.hd hc) st (by have:n<=i:=hg;omega) λh' eb=>⟨rfl,I.turned (t':=s.toks) (λb o hb e=>eb b o hb e) f0 f1 f3 f4 f5⟩
 self:=λ_ _ _ _ _ st h=>wpAny_pyIter_rangeiter st h
section
variable {X:Cx}{tg:Expr}
theorem zeY {pins:List (Addr × Obj)}{σ:St}{H:Hp}{s:Shared}{R:It->Hp->Prop}{E:Value->Shared->Prop}{lo hi:Int}{t u v:Tok}{tk:Nat}(I:Inv X pins σ H s)(h1:-(2 ^ 62)<=lo)(h2:lo < 2 ^ 62)(h3:-(2 ^ 62)<=hi)(h4:hi < 2 ^ 62)
 (q:R (Itr lo (hi - lo).toNat) H):wpAny (model X.prog X.w) X.A (pyIter (.ref s.heap.objs.size)) (PIE X pins σ tg R) E { s with heap:=s.heap.push { cls:=.type "range",data:=.fields #[.int lo t,.int hi u,.int 1 v] },toks:=tk }:=by
 refine wpAny_pyIter_range (IsRange.new ..) (small_one h1 h2 h3 h4) ?_
 have I1:Inv X pins σ H { s with heap:=s.heap.push { cls:=.type "range",data:=.fields #[.int lo t,.int hi u,.int 1 v] },toks:=tk }:=I.kept λb o e=>u4 _ e
 refine⟨(s.heap.push { cls:=.type "range",data:=.fields #[.int lo t,.int hi u,.int 1 v] }).objs.size,[(s.heap.push { cls:=.type "range",data:=.fields #[.int lo t,.int hi u,.int 1 v] }).objs.size],_,_,H,rfl,
  I1.kept (t':=tk) λb o e=>u4 _ e,zf0 _ lo (hi - lo).toNat,?_,λb hb=>?_,q⟩
 .have e1:lo+((0:Nat):Int)*1=lo:=by simp
  have e2:(((hi - lo).toNat:Nat):Int) - ((0:Nat):Int)=Builtin.Range.rangeSize lo hi 1:=by rw[rangeSize_one];split <;> omega
  show IsRangeIter _ _ (lo+((0:Nat):Int)*1) ((((hi - lo).toNat:Nat):Int) - ((0:Nat):Int)) 1
  rw[e1,e2]
  exact j6 _ rfl
 .have e:b=(s.heap.push { cls:=.type "range",data:=.fields #[.int lo t,.int hi u,.int 1 v] }).objs.size:=by simpa using hb
  subst e
  exact I1.fpOk (t5 _) (I1.hok.fresh (t5 _))
def zpi (ta:TA):TI:=fun σ H R=>ta σ H λvs H1=>∃ j:Int,vs=[.int j]/\-(2 ^ 62)<=j/\j < 2 ^ 62/\R (Itr 0 j.toNat) H1
def zpt (ta:TA):TI:=fun σ H R=>ta σ H λvs H1=>∃ i j:Int,vs=[.int i,.int j]/\(-(2 ^ 62)<=i/\i < 2 ^ 62/\-(2 ^ 62)<=j/\j < 2 ^ 62)/\R (Itr i (j - i).toNat) H1
theorem zgA {a:Expr} {ta:TA} {p pos:Pos} (hg:Gl X "range") (hm:X.mg "range"=none) (ha:PA X [a] ta) (hs:starEach [a] X.env=[(false,eval a X.env)]:=by rfl):PI X tg (.Call (.Name "range" p) [a] [] pos) (zpi ta):=by
 intro pins s σ H R I h
 refine Call_ (XM I hg hm boot_range (u0J (thn (ha pos pins s σ H _ I h) λus s1 hh9=>?_) hs rfl))
 obtain⟨vs,H1,I1,r1,q1⟩:=hh9
 obtain⟨j,e,q1,q2,q⟩:=q1
 subst e
 cases r1 with
 | cons r rr =>
  cases rr
  obtain⟨t,rfl⟩:=r
  exact call_range_1 (zeY I1 (by omega) (by omega) q1 q2 (by simpa using q))
theorem zco {a b:Expr} {ta:TA} {p pos:Pos} (hg:Gl X "range") (hm:X.mg "range"=none) (ha:PA X [a,b] ta) (hs:starEach [a,b] X.env=[(false,eval a X.env),(false,eval b X.env)]:=by rfl) (hs2:starEach [b] X.env=[(false,eval b X.env)]:=by rfl) :
 PI X tg (.Call (.Name "range" p) [a,b] [] pos) (zpt ta):=by
 intro pins s σ H R I h
 refine Call_ (XM I hg hm boot_range (u0J (thn (ha pos pins s σ H _ I h) λus s1 hh9=>?_) (by rw[hs,hs2]) (by rw[hs2];rfl)))
 obtain⟨vs,H1,I1,r1,q1⟩:=hh9
 obtain⟨i,j,e,⟨q1,q2,q3,q4⟩,q⟩:=q1
 subst e
 cases r1 with
 | cons r rr =>
  cases rr with
  | cons r' rr =>
   cases rr
   obtain⟨t,rfl⟩:=r
   obtain⟨t',rfl⟩:=r'
   exact call_range_2 (zeY I1 q1 q2 q3 q4 q)
def tFor (wi:TI)(g:TG)(tb:TS):TS:=λD σ H=>wi σ H λJ H1=>∃ W:Nat->Nat->St->Hp->Prop,(∃ m,W 0 m σ H1)/\∀ i m σ H,W i m σ H ->
 (J.stop i H/\D.nx σ H)\/(J.go i H/\∃ N:St->Hp->Prop,(∀ σ' H',N σ' H'->∃ m',m' < m/\W (i+1) m' σ' H')/\∀ x H',J.yld i H x H'->g x σ H' fun σ2 H2=>tb { D with nx:=N,ct:=N,bk:=D.nx } σ2 H2)
def WM (fp:List Addr)(h:Heap):List (Addr × Obj):=fp.filterMap λb=>(h.get? b).map λo=>(b,o)
theorem wl {fp:List Addr}{h:Heap}{b:Addr}{o:Obj}(hb:b∈fp)(e:h.get? b=some o):(b,o)∈WM fp h:=List.mem_filterMap.mpr ⟨b,hb,by rw[e];rfl⟩
theorem zgs {fp:List Addr}{h:Heap}{p:Addr × Obj}(hp:p∈WM fp h):p.1∈fp/\h.get? p.1=some p.2:=by
 obtain⟨b,hb,e⟩:=List.mem_filterMap.mp hp
 cases q:h.get? b with
 | none=>rw[q]at e;cases e
 | some o =>
  rw[q]at e
  have e':(b,o)=p:=i8 e
  subst e'
  exact⟨hb,q⟩
theorem Inv.pinned {pins:List (Addr × Obj)}{σ:St}{H:Hp}{s:Shared}{fp:List Addr}(I:Inv X pins σ H s)(hf:∀ b∈fp,zc9 X pins H b)(ho:∀ b∈fp,∃ o,s.heap.get? b=some o/\∀ v,o.data≠.cell v):Inv X (pins++WM fp s.heap) σ H s :=
 I.pins_of λp hp=>(u0H.mp hp).elim (λz=>I.pin p (b6 _ z)) λz=>by
  obtain⟨hb,e⟩:=zgs z
  obtain⟨f0,f1,f2,_⟩:=hf p.1 hb
  obtain⟨o,e',d⟩:=ho p.1 hb
  rw[e]at e';cases e'
  exact⟨e,f0,f1,f2,d⟩
theorem Inv.unpinned {pins pl:List (Addr × Obj)}{σ:St}{H:Hp}{s:Shared}(I:Inv X (pins++pl) σ H s):Inv X pins σ H s:=I.pins_of λp hp=>I.pin p (b6 _ (u04 _ hp))
theorem zhk {iter:Expr}{body:List Stmt}{wi:TI}{g:TG}{tb:TS}{pos:Pos}(hp:PassesOwn (model X.prog X.w) X.A X.env X.xe)(hc:X.calm=true)(hi:PI X tg iter wi)(hg:PG X tg g)(hb:PSs X body tb)
 (hs:∀ x,foldedSetIterable iter X.env x=pure x:=by intro _;rfl):PS X (.For tg iter body [] pos) (tFor wi g tb):=by
 intro pins s σ H D I h
 refine wpAny_For (thn (hi pins s σ H _ I h) λv s1 h1=>thn h1 λitv s2 h2=>?_) hs
 obtain⟨it,fp,tn,J,H2,e,I2,T,st2,f2,W,⟨m0,w0⟩,turn⟩:=h2
 subst e
 -- what stays true of the iterator's objects through the loop
 have stat:∀ {H':Hp},(∀ b∈fp,H' b=none)->∀ b∈fp,zc9 X pins H' b:=λhn b hb=>⟨hn b hb,(f2 b hb).2⟩
 refine codeAny_forLoop_any (λn s'=>∃ i σ' H',Inv X pins σ' H' s'/\tn i s'.heap/\(∀ b∈fp,H' b=none)/\W i n σ' H') ?_ m0 ⟨0,σ,H2,I2,st2,λb hb=>(f2 b hb).1,w0⟩
 rintro n s3 ⟨i,σ3,H3,I3,st3,fr3,w3⟩
 rcases turn i n σ3 H3 w3 with ⟨stop,qn⟩ | ⟨go,N,hN,step⟩
 .refine u1H hp (thn (T.done X rfl rfl rfl hc i pins s3 σ3 H3 X.xe I3 (stat fr3) st3 stop) λr s4 hh9=>?_)
  obtain⟨hr,I4⟩:=hh9
  subst hr
  exact u24 ⟨σ3,H3,I4,qn⟩
 .refine u1H hp (thn (T.item X rfl rfl rfl hc i pins s3 σ3 H3 X.xe I3 (stat fr3) st3 go) λr s4 hh9=>?_)
  obtain⟨u,hr,h4⟩:=hh9
  subst hr
  refine u1H hp (thn h4 λ_ s5 hh9=>?_)
  obtain⟨x,H5,I5,r5,y5,st5,fr5⟩:=hh9
  have I5':=I5.pinned (stat fr5) (T.obj _ _ st5)
  refine u1H hp (thn (hg _ s5 σ3 H5 x u _ I5' r5 (step x H5 y5)) λ_ s6 hh9=>?_)
  obtain⟨σ6,H6,I6,q6⟩:=hh9
  refine u1H hp (thn (hb _ s6 σ6 H6 _ I6 q6) λf s7 q7=>?_)
  have again:∀ {σ7:St} {H7:Hp},Inv X (pins++WM fp s5.heap) σ7 H7 s7->N σ7 H7->∃ m,m < n/\∃ i σ' H',Inv X pins σ' H' s7/\tn i s7.heap/\(∀ b∈fp,H' b=none)/\W i m σ' H':=λ{σ7 H7} I7 n7=>by
   obtain⟨m',hm,w7⟩:=hN σ7 H7 n7
   refine⟨m',hm,i+1,σ7,H7,I7.unpinned,T.keep _ _ _ st5 λb hb o e=>(I7.pin (b,o) (b6 _ (b6 _ (wl hb e)))).1,λb hb=>?_,w7⟩
   obtain⟨o,e,d⟩:=T.obj _ _ st5 b hb
   exact(I7.pin (b,o) (b6 _ (b6 _ (wl hb e)))).2.1
  cases f with
  | next=>obtain⟨σ7,H7,I7,n7⟩:=q7;exact again I7 n7
  | cont=>obtain⟨σ7,H7,I7,n7⟩:=q7;exact again I7 n7
  | brk=>obtain⟨σ7,H7,I7,q7⟩:=q7;exact⟨σ7,H7,I7.unpinned,q7⟩
  | ret v=>obtain⟨x7,σ7,H7,I7,r7,q7⟩:=q7;exact⟨x7,σ7,H7,I7.unpinned,r7,q7⟩
end
abbrev R2:=V->V->Hp->VK->Prop
def OpR (X:Cx)(f:Value->Value->Sem Value)(r:R2):Prop :=
 ∀ (pins:List (Addr × Obj)) (s:Shared) (σ:St) (H:Hp) (x y:V) (v u:Value) (Q:VK),Inv X pins σ H s->yZ x v->yZ y u->r x y H Q ->
  wpAny (model X.prog X.w) X.A (f v u) (EP X pins σ Q) X.xe s
def UnR (X:Cx)(f:Value->Sem Value)(r:V->Hp->VK->Prop):Prop :=
 ∀ (pins:List (Addr × Obj)) (s:Shared) (σ:St) (H:Hp) (x:V) (v:Value) (Q:VK),Inv X pins σ H s->yZ x v->r x H Q ->
  wpAny (model X.prog X.w) X.A (f v) (EP X pins σ Q) X.xe s
def Y2 (X:Cx)(f:Value)(r:List V->Hp->VK->Prop):Prop :=
 ∀ (pins:List (Addr × Obj)) (s:Shared) (σ:St) (H:Hp) (xs:List V) (us:List Value) (Q:VK),Inv X pins σ H s->yM xs us->r xs H Q ->
  wpAny (model X.prog X.w) X.A (call f us) (EP X pins σ Q) X.xe s
def tOp (r:R2)(ta tb:TE):TE:=fun σ H Q=>ta σ H λx H1=>tb σ H1 λy H2=>r x y H2 Q
def tUn (r:V->Hp->VK->Prop)(ta:TE):TE:=fun σ H Q=>ta σ H λx H1=>r x H1 Q
def rI (C:Int->Int->Prop)(g:Int->Int->V):R2:=λx y H Q=>∃ i j,x=.int i/\y=.int j/\C i j/\Q (g i j) H
def rI0 (g:Int->Int->V):R2:=λx y H Q=>∃ i j,x=.int i/\y=.int j/\Q (g i j) H
def rU (g:Int->V):V->Hp->VK->Prop:=λx H Q=>∃ i,x=.int i/\Q (g i) H
section
variable {X:Cx}{a b c:Expr}{ta tb tc:TE}{pos:Pos}
theorem zpo (ha:PE X a ta)(hb:PE X b tb){pins:List (Addr × Obj)}{s:Shared}{σ:St}{H:Hp}{R:V->V->Hp->Prop}(I:Inv X pins σ H s)
 (h:ta σ H λx H1=>tb σ H1 λy H2=>R x y H2) {Q:Value->Shared->Prop} {f:Value->Value->Sem Value}
 (hf:∀ v u s2 x y H2,Inv X pins σ H2 s2->yZ x v->yZ y u->R x y H2->wpAny (model X.prog X.w) X.A (f v u) Q X.xe s2) :
 wpAny (model X.prog X.w) X.A (eval a X.env) (λv s₁=>wpAny (model X.prog X.w) X.A (eval b X.env) (λu s₂=>wpAny (model X.prog X.w) X.A (f v u) Q X.xe s₂) X.xe s₁) X.xe s:=by
 refine thn (ha pins s σ H _ I h) λv s1 hh9=>?_
 obtain⟨x,H1,I1,r1,q1⟩:=hh9
 refine thn (hb pins s1 σ H1 _ I1 q1) λu s2 hh9=>?_
 obtain⟨y,H2,I2,r2,q2⟩:=hh9
 exact hf v u s2 x y H2 I2 r1 r2 q2
theorem zpc {op:Operator}{r:R2}(ho:OpR X (binaryOp op) r)(ha:PE X a ta)(hb:PE X b tb):PE X (.BinOp a op b pos) (tOp r ta tb):=by
 intro pins s σ H Q I h
 exact wpAny_BinOp (zpo ha hb I h λv u s2 x y H2 I2 rx ry q=>ho pins s2 σ H2 x y v u Q I2 rx ry q)
theorem zpM {op:UnaryOp}{r:V->Hp->VK->Prop}(ho:UnR X (unaryOp op) r)(ha:PE X a ta):PE X (.UnaryOp op a pos) (tUn r ta):=by
 intro pins s σ H Q I h
 exact UnaryOp_ (thn (ha pins s σ H _ I h) λv s1 ⟨x,H1,I1,r1,q1⟩=>ho pins s1 σ H1 x v Q I1 r1 q1)
theorem opI {f:Value->Value->Sem Value}{C:Int->Int->Prop}{g:Int->Int->Int}
 (rule:∀ (i j:Int) (t u:Tok) (s:Shared) (Q:Value->Shared->Prop) (E:Value->Shared->Prop),C i j->Q (.int (g i j) s.toks) { s with toks:=s.toks+1 }->wpAny (model X.prog X.w) X.A (f (.int i t) (.int j u)) Q E s) :
 OpR X f (rI C λi j=>.int (g i j)):=by
 intro pins s σ H x y v u Q I rx ry h
 obtain⟨i,j,rfl,rfl,hc,q⟩:=h
 obtain⟨t,rfl⟩:=rx
 obtain⟨t',rfl⟩:=ry
 exact rule i j t t' s _ _ hc ⟨.int (g i j),H,I.tok _,⟨_,rfl⟩,q⟩
theorem opI0 {f:Value->Value->Sem Value}{g:Int->Int->Int}
 (rule:∀ (i j:Int) (t u:Tok) (s:Shared) (Q:Value->Shared->Prop) (E:Value->Shared->Prop),Q (.int (g i j) s.toks) { s with toks:=s.toks+1 }->wpAny (model X.prog X.w) X.A (f (.int i t) (.int j u)) Q E s) :
 OpR X f (rI0 λi j=>.int (g i j)):=by
 intro pins s σ H x y v u Q I rx ry h
 obtain⟨i,j,rfl,rfl,q⟩:=h
 obtain⟨t,rfl⟩:=rx
 obtain⟨t',rfl⟩:=ry
 exact rule i j t t' s _ _ ⟨.int (g i j),H,I.tok _,⟨_,rfl⟩,q⟩
theorem zo5 {f:Value->Value->Sem Value}{g:Int->Int->Bool}
 (rule:∀ (i j:Int) (t u:Tok) (s:Shared) (Q:Value->Shared->Prop) (E:Value->Shared->Prop),Q (.bool (g i j)) s->wpAny (model X.prog X.w) X.A (f (.int i t) (.int j u)) Q E s) :
 OpR X f (rI0 λi j=>.bl (g i j)):=by
 intro pins s σ H x y v u Q I rx ry h
 obtain⟨i,j,rfl,rfl,q⟩:=h
 obtain⟨t,rfl⟩:=rx
 obtain⟨t',rfl⟩:=ry
 exact rule i j t t' s _ _ ⟨.bl (g i j),H,I,rfl,q⟩
def zp3 (i j:Int):Prop:=(-(2 ^ 64) < i/\i < 2 ^ 64)\/(-(2 ^ 64) < j/\j < 2 ^ 64)
theorem zp3.ok {i j:Int}(h:zp3 i j):IntMulOk i j:=by
 rcases h with ⟨h1,h2⟩ | ⟨h1,h2⟩
 .exact .of_left (intBits_le_64 h1 h2)
 .exact .of_right (intBits_le_64 h1 h2)
theorem zfl (k:Nat):(0:Int)<=2 ^ k:=by
 rw[two_pow_cast]
 exact u00 _
theorem zoI:OpR X (binaryOp .Add) (rI0 λi j=>.int (i+j)):=opI0 λ_ _ _ _ _ _ _ q=>add_int q
theorem zm7:OpR X (binaryOp .Sub) (rI0 λi j=>.int (i - j)):=opI0 λ_ _ _ _ _ _ _ q=>sub_int q
theorem zoO:OpR X (binaryOp .Mult) (rI zp3 λi j=>.int (i*j)):=opI λ_ _ _ _ _ _ _ hc q=>mul_int q hc.ok
theorem znJ:OpR X (binaryOp .Mod) (rI (λ_ j=>0 < j) λi j=>.int (i % j)):=opI λi j _ _ _ _ _ hc q=>by
 have h1:(0:Int) < j:=hc
 exact mod_int' (by omega) (by rw[Int.fmod_eq_emod_of_nonneg i (by omega)];exact q)
theorem znS:OpR X (binaryOp .RShift) (rI (λ_ j=>0<=j) λi j=>.int (i / 2 ^ j.toNat)):=opI λi j _ _ _ _ _ hc q =>
 rshift_int hc (by rw[u29 i (zfl _)];exact q)
theorem unI {f:Value->Sem Value}{g:Int->Int}
 (rule:∀ (i:Int) (t:Tok) (s:Shared) (Q:Value->Shared->Prop) (E:Value->Shared->Prop),Q (.int (g i) s.toks) { s with toks:=s.toks+1 }->wpAny (model X.prog X.w) X.A (f (.int i t)) Q E s) :
 UnR X f (rU λi=>.int (g i)):=by
 intro pins s σ H x v Q I rx h
 obtain⟨i,rfl,q⟩:=h
 obtain⟨t,rfl⟩:=rx
 exact rule i t s _ _ ⟨.int (g i),H,I.tok _,⟨_,rfl⟩,q⟩
theorem znV:UnR X (unaryOp .USub) (rU λi=>.int (-i)):=unI λ_ _ _ _ _ q=>neg_int q
end
def scal:V->V->Bool
 | .non,.non=>true | .non,.int _=>true | .int _,.non=>true | .non,.bl _=>true | .bl _,.non=>true | .non,.str _=>true | .str _,.non=>true
 | .int _,.int _=>true | .bl _,.bl _=>true | .str _,.str _=>true | .byt _,.byt _=>true
 | .int _,.str _=>true | .str _,.int _=>true | .bl _,.str _=>true | .str _,.bl _=>true
 | _,_=>false
def rEq:R2:=λx y H Q=>scal x y=true/\Q (.bl (decide (x=y))) H
def rNe:R2:=λx y H Q=>scal x y=true/\Q (.bl (!decide (x=y))) H
theorem zh5 {i j:Int}:decide (V.int i=V.int j)=(i == j):=by
 rw[u1n]
 simp
theorem zk9 {i j:Bool}:decide (V.bl i=V.bl j)=(i == j):=by
 rw[u1n]
 simp
theorem zgr {i j:Str}:decide (V.str i=V.str j)=(i == j):=by
 rw[u1n]
 simp
theorem zii {i j:Array UInt8}:decide (V.byt i=V.byt j)=(i.toList == j.toList):=by
 rw[u1n]
 cases i
 cases j
 simp
section
variable {X:Cx}{a b c:Expr}{ta tb tc:TE}{pos:Pos}
theorem yp {pins:List (Addr × Obj)}{σ:St}{H:Hp}{s:Shared}{Q:VK}{k k':Bool}(I:Inv X pins σ H s)(q:Q (.bl k) H)(e:k=k'):EP X pins σ Q (.bool k') s:=by
 subst e
 exact⟨.bl k,H,I,rfl,q⟩
theorem zpg:OpR X (compareOp .Eq) rEq:=by
 intro pins s σ H x y v u Q I rx ry h
 obtain⟨hs,q⟩:=h
 cases x with
 | non =>
  cases rx
  cases y with
  | non=>cases ry;exact PySem.EqNone.eq_none_none (yp I q (by simp))
  | bl j=>cases ry;exact PySem.EqNone.eq_none_bool (yp I q (by simp))
  | int j=>obtain⟨t',rfl⟩:=ry;exact PySem.EqNone.eq_none_int (yp I q (by simp))
  | str j=>obtain⟨t',rfl⟩:=ry;exact PySem.EqNone.eq_none_str (yp I q (by simp))
  | _=>exact absurd (show false=true from hs) u9
 | bl i =>
  cases rx
  cases y with
  | non=>cases ry;exact PySem.EqNone.eq_bool_none (yp I q (by simp))
  | bl j=>cases ry;exact eq_bool (yp I q zk9)
  | str j=>obtain⟨t',rfl⟩:=ry;exact PySem.EqMixed.eq_bool_str (yp I q (by simp))
  | _=>exact absurd (show false=true from hs) u9
 | int i =>
  obtain⟨t,rfl⟩:=rx
  cases y with
  | non=>cases ry;exact PySem.EqNone.eq_int_none (yp I q (by simp))
  | int j=>obtain⟨t',rfl⟩:=ry;exact eq_int (yp I q zh5)
  | str j=>obtain⟨t',rfl⟩:=ry;exact PySem.EqMixed.eq_int_str (yp I q (by simp))
  | _=>exact absurd (show false=true from hs) u9
 | str i =>
  obtain⟨t,rfl⟩:=rx
  cases y with
  | non=>cases ry;exact PySem.EqNone.eq_str_none (yp I q (by simp))
  | bl j=>cases ry;exact PySem.EqMixed.eq_str_bool (yp I q (by simp))
  | int j=>obtain⟨t',rfl⟩:=ry;exact PySem.EqMixed.eq_str_int (yp I q (by simp))
  | str j=>obtain⟨t',rfl⟩:=ry;exact eq_str (yp I q zgr)
  | _=>exact absurd (show false=true from hs) u9
 | byt i =>
  obtain⟨t,rfl⟩:=rx
  cases y with
  | byt j=>obtain⟨t',rfl⟩:=ry;exact W.eq_bytes (yp I q zii)
  | _=>exact absurd (show false=true from hs) u9
 | _=>cases y <;> exact absurd (show false=true from hs) u9
theorem zbz:OpR X (compareOp .NotEq) rNe:=by
 intro pins s σ H x y v u Q I rx ry h
 obtain⟨hs,q⟩:=h
 cases x with
 | non =>
  cases rx
  cases y with
  | non=>cases ry;exact PySem.EqNone.ne_none_none (yp I q (by simp))
  | bl j=>cases ry;exact PySem.EqNone.ne_none_bool (yp I q (by simp))
  | int j=>obtain⟨t',rfl⟩:=ry;exact PySem.EqNone.ne_none_int (yp I q (by simp))
  | str j=>obtain⟨t',rfl⟩:=ry;exact PySem.EqNone.ne_none_str (yp I q (by simp))
  | _=>exact absurd (show false=true from hs) u9
 | bl i =>
  cases rx
  cases y with
  | non=>cases ry;exact PySem.EqNone.ne_bool_none (yp I q (by simp))
  | bl j=>cases ry;exact ne_bool (yp I q (u1c not zk9))
  | str j=>obtain⟨t',rfl⟩:=ry;exact PySem.EqMixed.ne_bool_str (yp I q (by simp))
  | _=>exact absurd (show false=true from hs) u9
 | int i =>
  obtain⟨t,rfl⟩:=rx
  cases y with
  | non=>cases ry;exact PySem.EqNone.ne_int_none (yp I q (by simp))
  | int j=>obtain⟨t',rfl⟩:=ry;exact ne_int (yp I q (u1c not zh5))
  | str j=>obtain⟨t',rfl⟩:=ry;exact PySem.EqMixed.ne_int_str (yp I q (by simp))
  | _=>exact absurd (show false=true from hs) u9
 | str i =>
  obtain⟨t,rfl⟩:=rx
  cases y with
  | non=>cases ry;exact PySem.EqNone.ne_str_none (yp I q (by simp))
  | bl j=>cases ry;exact PySem.EqMixed.ne_str_bool (yp I q (by simp))
  | int j=>obtain⟨t',rfl⟩:=ry;exact PySem.EqMixed.ne_str_int (yp I q (by simp))
  | str j=>obtain⟨t',rfl⟩:=ry;exact ne_str (yp I q (u1c not zgr))
  | _=>exact absurd (show false=true from hs) u9
 | byt i =>
  obtain⟨t,rfl⟩:=rx
  cases y with
  | byt j=>obtain⟨t',rfl⟩:=ry;exact W.ne_bytes (yp I q (u1c not zii))
  | _=>exact absurd (show false=true from hs) u9
 | _=>cases y <;> exact absurd (show false=true from hs) u9
theorem zgw:OpR X (compareOp .Lt) (rI0 λi j=>.bl (decide (i < j))):=zo5 λ_ _ _ _ _ _ _ q=>lt_int q
theorem zgL:OpR X (compareOp .LtE) (rI0 λi j=>.bl (decide (i<=j))):=zo5 λ_ _ _ _ _ _ _ q=>le_int q
theorem zaG:OpR X (compareOp .Gt) (rI0 λi j=>.bl (decide (j < i))):=zo5 λ_ _ _ _ _ _ _ q=>gt_int q
theorem zoB:OpR X (compareOp .GtE) (rI0 λi j=>.bl (decide (j<=i))):=zo5 λ_ _ _ _ _ _ _ q=>ge_int q
theorem zoH:OpR X (compareOp .Is) (λx y H Q=>y=.non/\Q (.bl (decide (x=.non))) H):=by
 intro pins s σ H x y v u Q I rx ry h
 obtain⟨rfl,q⟩:=h
 cases ry
 refine is_none_gen (yp I q ?_)
 cases x <;> first
  | (cases rx;rfl)
  | (obtain⟨t,rfl⟩:=rx;rfl)
theorem zmB:OpR X (compareOp .IsNot) (λx y H Q=>y=.non/\Q (.bl (!decide (x=.non))) H):=by
 intro pins s σ H x y v u Q I rx ry h
 obtain⟨rfl,q⟩:=h
 cases ry
 refine isnot_none_gen (yp I q ?_)
 cases x <;> first
  | (cases rx;rfl)
  | (obtain⟨t,rfl⟩:=rx;rfl)
theorem OpR.or {f:Value->Value->Sem Value}{r r':R2}(h:OpR X f r)(h':OpR X f r'):OpR X f (λx y H Q=>r x y H Q\/r' x y H Q):=by
 intro pins s σ H x y v u Q I rx ry q
 rcases q with q | q
 .exact h pins s σ H x y v u Q I rx ry q
 .exact h' pins s σ H x y v u Q I rx ry q
theorem zG (b:Expr){op:CmpOp}(h:op≠.In:=by decide)(h2:op≠.NotIn:=by decide):behindInMarks op b=false:=by
 have e1:(op == CmpOp.In)=false:=by cases op <;> first | rfl | exact absurd rfl h
 have e2:(op == CmpOp.NotIn)=false:=by cases op <;> first | rfl | exact absurd rfl h2
 cases b <;> simp[behindInMarks,e1,e2]
theorem zmH {op:CmpOp}{r:R2}(ho:OpR X (compareOp op) r)(ha:PE X a ta)(hb:PE X b tb)(hm:behindInMarks op b=false):PE X (.Compare a [op] [b] pos) (tOp r ta tb):=by
 intro pins s σ H Q I h
 exact wpAny_Compare1 (zpo ha hb I h λv u s2 x y H2 I2 rx ry q=>ho pins s2 σ H2 x y v u Q I2 rx ry q) hm
def zoC (t:TE):TT:=fun σ H Q=>t σ H λx H'=>∃ k,x=.bl k/\Q k H'
theorem zlI {op:CmpOp}{r:R2}(ho:OpR X (compareOp op) r)(ha:PE X a ta)(hb:PE X b tb)(hm:behindInMarks op b=false):PT X (.Compare a [op] [b] pos) (zoC (tOp r ta tb)):=by
 intro pins s σ H Q I h
 refine wpAny_isTrue_Compare1 (thn (ha pins s σ H _ I h) λv s1 ⟨x,H1,I1,r1,q1⟩=>thn (hb pins s1 σ H1 _ I1 q1) λu s2 ⟨y,H2,I2,r2,q2⟩ =>
  thn (ho pins s2 σ H2 x y v u _ I2 r1 r2 q2) λc s3 ⟨z,H3,I3,r3,k,e,q3⟩=>?_) hm
 subst e
 cases r3
 exact u0Z ⟨H3,I3,q3⟩
def ziJ (r r':R2)(ta tb tc:TE):TE:=fun σ H Q=>ta σ H λx H1=>tb σ H1 λy H2=>r x y H2 λz H3=>∃ k,z=.bl k /\
 (if k=true then tc σ H3 λw' H4=>r' y w' H4 Q else Q (.bl false) H3)
theorem zky {op op':CmpOp}{r r':R2}(ho:OpR X (compareOp op) r)(ho':OpR X (compareOp op') r')(ha:PE X a ta)(hb:PE X b tb)(hc:PE X c tc)
 (hm:lastMarks [op,op'] [b,c]=false:=by with_unfolding_all rfl):PE X (.Compare a [op,op'] [b,c] pos) (ziJ r r' ta tb tc):=by
 intro pins s σ H Q I h
 refine Compare_chain (thn (ha pins s σ H _ I h) λv s1 ⟨x,H1,I1,r1,q1⟩=>chain_link (thn (hb pins s1 σ H1 _ I1 q1) λu s2 ⟨y,H2,I2,r2,q2⟩ =>
  thn (ho pins s2 σ H2 x y v u _ I2 r1 r2 q2) λd s3 ⟨z,H3,I3,r3,k,e,q3⟩=>?_)) hm
 subst e
 cases r3
 refine u0Z ?_
 cases k with
 | false=>exact ite_ff ⟨.bl false,H3,I3,rfl,q3⟩
 | true=>exact ite_tt (chain_last (thn (hc pins s3 σ H3 _ I3 q3) λw' s4 ⟨z',H4,I4,r4,q4⟩=>ho' pins s4 σ H4 y z' u w' Q I4 r2 r4 q4))
theorem zcu:(sizeLine:Nat) < 2 ^ 63:=by rw[u1K];decide
theorem zfA:OpR X (binaryOp .Add) (λx y H Q=>∃ i j,x=.str i/\y=.str j/\i.length+j.length<=sizeLine/\Q (.str (i++j)) H):=by
 intro pins s σ H x y v u Q I rx ry h
 obtain⟨i,j,rfl,rfl,hz,q⟩:=h
 obtain⟨t,rfl⟩:=rx
 obtain⟨t',rfl⟩:=ry
 exact add_str (λt' tk=>⟨.str (i++j),H,I.tok _,⟨_,rfl⟩,q⟩) hz
theorem WW {x:V}{us:List Value}(r:yM [x] us):∃ u,us=[u]/\yZ x u:=by
 cases r with
 | cons r1 r2=>cases r2;exact⟨_,rfl,r1⟩
theorem zfY {x y:V}{us:List Value}(r:yM [x,y] us):∃ u w',us=[u,w']/\yZ x u/\yZ y w':=by
 cases r with
 | cons r1 r2 =>
  cases r2 with
  | cons r3 r4=>cases r4;exact⟨_,_,rfl,r1,r3⟩
theorem zgJ (hc:X.calm=true):Y2 X (.builtin "max") (λxs H Q=>∃ i j,xs=[.int i,.int j]/\Q (.int (if j > i then j else i)) H):=by
 intro pins s σ H xs us Q I r h
 obtain⟨i,j,rfl,q⟩:=h
 obtain⟨u,w',rfl,⟨t,rfl⟩,⟨t',rfl⟩⟩:=zfY r
 refine max_two_ints (I.ok.hd hc) λh' tk k=>⟨_,H,I.kept k,?_,q⟩
 by_cases hj:j > i
 .rw[t4 hj,t4 hj];exact⟨_,rfl⟩
 .rw[j4 hj,j4 hj];exact⟨_,rfl⟩
theorem zb7 (hc:X.calm=true):Y2 X (.builtin "min") (λxs H Q=>∃ i j,xs=[.int i,.int j]/\Q (.int (if j < i then j else i)) H):=by
 intro pins s σ H xs us Q I r h
 obtain⟨i,j,rfl,q⟩:=h
 obtain⟨u,w',rfl,⟨t,rfl⟩,⟨t',rfl⟩⟩:=zfY r
 refine min_two_ints (I.ok.hd hc) λh' tk k=>⟨_,H,I.kept k,?_,q⟩
 by_cases hj:j < i
 .rw[t4 hj,t4 hj];exact⟨_,rfl⟩
 .rw[j4 hj,j4 hj];exact⟨_,rfl⟩
end
structure zpj (h:Heap) (x dx C:Addr) (mA:Str->Option Value):Prop where
 obj:h.get? x=some (W.instObj C dx)
 ns:h.Ns1 dx mA
 ne:dx≠x
theorem zgb {h:Heap}{dx:Addr}{mA:Str->Option Value}(n:h.Ns1 dx mA):∃ od,h.get? dx=some od/\∀ name,W.lookIn name od=some (mA name):=by
 obtain⟨o,es,ep,ho,hd,hk,_,hm⟩:=n
 refine⟨o,ho,λname=>?_⟩
 have e:=hm name
 unfold nsFind findBy at e
 rw[<-Array.find?_toList]at e
 unfold W.lookIn
 rw[hd]
 dsimp only
 split
 .rename_i y q
  rw[q]at e
  exact u1c some e
 .rename_i q
  rw[q]at e
  have a:es.toList.any (·.refKey)=false:=by
   rw[List.any_eq_false]
   intro y hy
   obtain⟨z,t,hkey⟩:=hk y (Array.mem_toList_iff.mp hy)
   simp[DictEntry.refKey,hkey]
  have a':¬ es.toList.any (·.refKey)=true:=by rw[a];exact u9
  rw[j4 a']
  exact u1c some e
theorem zpj.look {h:Heap}{x dx C:Addr}{mA:Str->Option Value}(I:zpj h x dx C mA):∃ od,PySem.W.InstAt h x (W.instObj C dx) C (some od)/\∀ name,W.lookIn name od=some (mA name) :=
 let ⟨od,ho,hl⟩:=zgb I.ns
 ⟨od,⟨I.obj,rfl,rfl,ho⟩,hl⟩
theorem zfD.some_of {v:V}{o:Option Value}(r:zfD (some v) o):∃ u,o=some u/\yZ v u:=by
 cases o with
 | none=>exact(show False from r).elim
 | some u=>exact⟨u,rfl,r⟩
section
variable {P:Program}{w:World}{H H':Hp}{h h':Heap}{a C dx:Addr}{fs fs':List (Str × V)}
theorem zlQ (hok:HOk P w H h)(e:H a=some (.ins C dx fs)):∃ mA,zpj h a dx C mA/\(∀ f,zfD (fs.lookup f) (mA f))/\PySem.Within mA (fs.map (·.1))/\fs.length<=1000/\H dx=some (.own a):=by
 obtain⟨d,z,ne,ob,mA,n,r,q⟩:=(show yY P w H h a (.ins C dx fs)from hok a _ e)
 exact⟨mA,⟨ob,n,ne⟩,r,q,z,d⟩
end
structure Cls (K:W.Frag) (C:Addr):Prop where
 pg:W.plainGet K C Str.empty=true
 hd:W.hasDictIn K C=true
 po:W.plainOver K C=true
 sa:W.findIn K (.ref C) "__setattr__"=some (some (.builtin "object.__setattr__"))
theorem Cls.get {K:W.Frag}{C:Addr}(c:Cls K C)(f:Str):W.plainGet K C f=true:=c.pg
section
variable {X:Cx}{pins:List (Addr × Obj)}{σ:St}{H:Hp}{s:Shared}{A:Around}{E:Value->Shared->Prop}{Q:Value->Shared->Prop}{c:Value}{b:Bool}
inductive zei (K:W.Frag) (H:Hp):V->Value->Prop where
 | non:zei K H .non (.type "NoneType")
 | bl (x:Bool):zei K H (.bl x) (.type "bool")
 | int (i:Int):zei K H (.int i) (.type "int")
 | str (x:Str):zei K H (.str x) (.type "str")
 | flt (x:UInt64):zei K H (.flt x) (.type "float")
 | lst {a:Addr} {xs:List V} (e:H a=some (.lst xs)):zei K H (.ref a) (.type "list")
 | frz {a:Addr} {o:Obj} {xs:List V} (e:H a=some (.frz o (.lst xs))):zei K H (.ref a) (.type "list")
 | tup {a:Addr} {xs:List V} (e:H a=some (.tup xs)):zei K H (.ref a) (.type "tuple")
 | dK {a:Addr} {kvs:List (Key × V)} (e:H a=some (.dK kvs)):zei K H (.ref a) (.type "dict")
 | dT {a:Addr} {kvs:List (List Key × V)} (e:H a=some (.dT kvs)):zei K H (.ref a) (.type "dict")
 | ins {a C dx:Addr} {fs:List (Str × V)} (e:H a=some (.ins C dx fs)) (cl:Cls K C) (ha:W.findIn K (.ref C) "__class__"=some (some (.builtin "object.__class__")))
  (hn:W.specialIn K (.builtin "object.__class__") "__get__"=some (some (.builtin "getset_descriptor.__get__"))) (htk:W.takesIn K (.builtin "object.__class__")=some true)
  (hm:W.mroIn K C (.type "object")=some true):zei K H (.ref a) (.ref C)
theorem zh3 {x:V}{u t:Value}(I:Inv X pins σ H s)(rx:yZ x u)(ty:zei X.K H x t)(e:W.kitOne X.K t c=some b)(h:∀ tk,Q (.bool b) { s with toks:=tk }) :
 wpAny (model X.prog X.w) A (call (.builtin "isinstance") [u,c]) Q E s:=by
 cases ty with
 | non=>cases (show u=Value.none from rx);exact u0E W.kitx_none I.kIn True.intro e (λz=>nomatch z) h
 | bl y=>cases (show u=Value.bool y from rx);exact u0E W.kitx_bool I.kIn True.intro e (λz=>nomatch z) h
 | int i=>obtain⟨t,q⟩:=(show ∃ t,u=Value.int i t from rx);cases q;exact u0E W.kitx_int I.kIn True.intro e (λz=>nomatch z) h
 | str y=>obtain⟨t,q⟩:=(show ∃ t,u=Value.str y t from rx);cases q;exact u0E W.kitx_str I.kIn True.intro e (λz=>nomatch z) h
 | flt y=>obtain⟨t,q⟩:=(show ∃ t,u=Value.float y t from rx);cases q;exact u0E W.kitx_float I.kIn True.intro e (λz=>nomatch z) h
 | @lst a xs ea =>
  cases (show u=Value.ref a from rx)
  obtain⟨_,_,n,_,h1⟩:=(show yY X.prog X.w H s.heap a (.lst xs)from I.hok a _ ea)
  exact u0E W.kitx_list I.kIn ⟨_,h1,rfl⟩ e (λz=>nomatch z) h
 | @frz a ob xs ea =>
  cases (show u=Value.ref a from rx)
  obtain⟨_,_,_,n,_,h1⟩:=(show yY X.prog X.w H s.heap a (.frz ob (.lst xs))from I.hok a _ ea)
  exact u0E W.kitx_list I.kIn ⟨_,h1,rfl⟩ e (λz=>nomatch z) h
 | @tup a xs ea =>
  cases (show u=Value.ref a from rx)
  obtain⟨_,_,_,p⟩:=(show yY X.prog X.w H s.heap a (.tup xs)from I.hok a _ ea)
  obtain⟨o,h1,h2,_⟩:=p
  exact u0E W.kitx_tuple I.kIn ⟨o,h1,h2⟩ e (λz=>nomatch z) h
 | @dK a kvs ea =>
  cases (show u=Value.ref a from rx)
  obtain⟨_,_,vs,_,p⟩:=(show yY X.prog X.w H s.heap a (.dK kvs)from I.hok a _ ea)
  obtain⟨o,es,ep,h1,h2,_⟩:=p
  exact u0E u2w I.kIn ⟨o,h1,h2.1⟩ e (λz=>nomatch z) h
 | @dT a kvs ea =>
  cases (show u=Value.ref a from rx)
  obtain⟨_,_,xs,_,o,es,ep,h1,h2,_⟩:=(show yY X.prog X.w H s.heap a (.dT kvs)from I.hok a _ ea)
  exact u0E u2w I.kIn ⟨o,h1,h2.1⟩ e (λz=>nomatch z) h
 | @ins a C dx fs ea cl ha hn htk hm =>
  cases (show u=Value.ref a from rx)
  obtain⟨mA,O,_⟩:=zlQ I.hok ea
  obtain⟨od,J,_⟩:=O.look
  exact u0E (W.kitx_own (cl.get _) cl.hd ha hn htk hm) I.kIn J e (λz=>nomatch z) h
end
structure Zv (k:Nat) (A:Around):Prop where
 hd:A.handled=none
 dp:A.depth+3*k+5 < recursionLimit
 un:A.units+16*k+200 < cLine
theorem Zv.mono {j k:Nat}{A:Around}(r:Zv k A)(h:j<=k):Zv j A:=⟨r.hd,by have:=r.dp;omega,by have:=r.un;omega⟩
theorem Zv.deeper {k:Nat}{A:Around}(r:Zv (k+1) A)(env:Env):Zv k (A.deeper env) :=
 ⟨r.hd,by have:=r.dp;show A.depth+1+3*k+5 < _;omega,by have:=r.un;show A.units+3+16*k+200 < _;omega⟩
theorem Zv.depth {k:Nat}{A:Around}(r:Zv k A):A.depth < recursionLimit:=by have:=r.dp;omega
theorem Zv.units {k:Nat}{A:Around}(r:Zv k A):A.units+64 < cLine:=by have:=r.un;omega
theorem Zv.units0 {k:Nat}{A:Around}(r:Zv k A):A.units < cLine:=by have:=r.un;omega
def tNil:TA:=λ_ H Q=>Q [] H
def zpx (ta:TE)(tr:TA):TA:=fun σ H Q=>ta σ H λx H1=>tr σ H1 λxs H2=>Q (x::xs) H2
section
variable {X:Cx}{e:Expr}{es:List Expr}{te:TE}{t:TA}{pos:Pos}
theorem zer:PA X [] tNil:=λ_ _ _ _ H Q I h=>u2r ⟨[],H,I,.nil,h⟩
theorem Vt (ha:PE X e te)(hr:PA X es t)(hs:starEach (e::es) X.env=(false,eval e X.env)::starEach es X.env:=by rfl):PA X (e::es) (zpx te t):=by
 intro pos pins s σ H Q I h
 rw[hs]
 show wpAny _ _ (spliced ((false,eval e X.env)::backTo pos (starEach es X.env))) _ _ s
 refine u1T (thn (ha pins s σ H _ I h) λu s1 hh9=>?_)
 obtain⟨x,H1,I1,r1,q1⟩:=hh9
 exact thn (hr pos pins s1 σ H1 _ I1 q1) λus s2 ⟨xs,H2,I2,r2,q2⟩=>⟨x::xs,H2,I2,.cons r1 r2,q2⟩
def tTup (t:TA):TE:=fun σ H Q=>t σ H λxs H1=>xs.length<=sizeLine/\∀ p,H1 p=none->Q (.ref p) (upd H1 p (.tup xs))
def tLst (t:TA):TE:=fun σ H Q=>t σ H λxs H1=>xs.length<=sizeLine/\∀ p,H1 p=none->Q (.ref p) (upd H1 p (.lst xs))
theorem zng {x1}(h:PA X es t):PE X (.Tuple es x1 pos) (tTup t):=by
 intro pins s σ H Q I hq
 refine wpAny_Tuple_spliced (thn (h pos pins s σ H _ I hq) λus s1 ⟨xs,H1,I1,r,z,q⟩=>⟨by rw[<-r.length];exact z,?_⟩)
 have hf:H1 s1.heap.objs.size=none:=I1.hok.fresh (t5 _)
 refine⟨.ref s1.heap.objs.size,upd H1 s1.heap.objs.size (.tup xs),I1.laid (t':=s1.toks) (λb u e=>u4 _ e) (t5 _) ?_,rfl,q _ hf⟩
 exact⟨z,us,r,⟨_,j6 _ rfl,rfl,_,rfl⟩⟩
theorem zoJ (h:PA X es t):PE X (.List es pos) (tLst t):=by
 intro pins s σ H Q I hq
 refine wpAny_List_spliced (thn (h pos pins s σ H _ I hq) λus s1 ⟨xs,H1,I1,r,z,q⟩=>⟨by rw[<-r.length];exact z,?_⟩)
 have hf:H1 s1.heap.objs.size=none:=I1.hok.fresh (t5 _)
 refine⟨.ref s1.heap.objs.size,upd H1 s1.heap.objs.size (.lst xs),I1.laid (t':=s1.toks) (λb u e=>u4 _ e) (t5 _) ?_,rfl,q _ hf⟩
 exact⟨z,us,0,r,j6 _ rfl⟩
end
abbrev Sp:=List V->Hp->VK->XK->Prop
abbrev CXT:=List Env->Hp->Shared->XK->Value->Shared->Prop
structure zoV (P:Program) (w:World) (K:W.Frag) (mg:Str->Option Value) (base:Heap) (A:Around) (outer:List Env) (s:Shared) (H:Hp):Prop where
 frames:A.frames=some outer
 mod:Mod K mg base
 bs:∀ b o,base.get? b=some o->s.heap.get? b=some o/\H b=none
 bsz:base.objs.size<=s.heap.objs.size
 funs:s.heap.FunFrames base outer
 frf:∀ b∈frs outer,H b=none
 hok:HOk P w H s.heap
 bare:AllBare s.gens
def CE (outer:List Env)(P:Program)(w:World)(H:Hp)(s:Shared)(Q:VK)(u:Value)(s':Shared):Prop :=
 ∃ v H',s'.os=s.os/\AllBare s'.gens/\Un (frs outer) [] H H' s.heap s'.heap/\HOk P w H' s'.heap/\yZ v u/\Q v H'
def CR (CX:CXT)(outer:List Env)(P:Program)(w:World)(H:Hp)(s:Shared)(Q:VK)(E:XK)(r:Result)(s':Shared):Prop :=
 match r with
 | .ok (.ret u)=>CE outer P w H s Q u s'
 | .ok _=>False
 | .error e=>CX outer H s E e s'
structure xc (P:Program) (w:World) (K:W.Frag) (mg:Str->Option Value) (base:Heap) (CX:CXT) (k:Nat) (f:Addr) (fd:FuncData) (ps:List Str) (sp:Sp):Prop where
 len:∀ vs H Q E,sp vs H Q E->vs.length=ps.length
 run:∀ (A:Around) (outer:List Env) (s:Shared) (H:Hp) (args:Args) (us:List Value) (vs:List V) (Q:VK) (E:XK),Zv k A->zoV P w K mg base A outer s H->BindsTo s fd args (ps.zip us)->yM vs us->sp vs H Q E ->
  codeAny (model P w) A (.call (.ref f) args) (CR CX outer P w H s Q E) s
theorem xc.mono {P:Program}{w:World}{K:W.Frag}{mg:Str->Option Value}{base:Heap}{CX:CXT}{j k:Nat}{f:Addr}{fd:FuncData}{ps:List Str}{sp:Sp}(F:xc P w K mg base CX j f fd ps sp)(h:j<=k) :
 xc P w K mg base CX k f fd ps sp:=⟨F.len,λA outer s H args us vs Q E hr=>F.run A outer s H args us vs Q E (hr.mono h)⟩
theorem xc.imp {P:Program}{w:World}{K:W.Frag}{mg:Str->Option Value}{base:Heap}{CX:CXT}{k:Nat}{f:Addr}{fd:FuncData}{ps:List Str}{sp sp':Sp}(F:xc P w K mg base CX k f fd ps sp)
 (h:∀ vs H Q E,sp' vs H Q E->sp vs H Q E):xc P w K mg base CX k f fd ps sp' :=
 ⟨λvs H Q E q=>F.len vs H Q E (h _ _ _ _ q),λA outer s H args us vs Q E hr he hb hv hs=>F.run A outer s H args us vs Q E hr he hb hv (h _ _ _ _ hs)⟩
section
variable {X:Cx}{pins:List (Addr × Obj)}{σ:St}{H:Hp}{s s':Shared}
theorem Inv.env0 (I:Inv X pins σ H s):zoV X.prog X.w X.K X.mg X.base X.A X.stack s H :=
 ⟨I.ok.frames,I.ok.mod,I.bs,p6 I.ok.bsz I.sz,I.stack,I.stkFree,I.hok,I.bare⟩
theorem Inv.after {Q:VK}{u:Value}(I:Inv X pins σ H s)(h:CE X.stack X.prog X.w H s Q u s'):EP X pins σ Q u s':=by
 obtain⟨v,H',os,bare,un,hok,r,q⟩:=h
 obtain⟨hh,g,d,t,os'⟩:=s'
 obtain rfl:os'=s.os:=os
 exact⟨v,H',I.call (h':=hh) (g':=g) (d':=d) (t':=t) (ch:=[]) un hok bare (λb z=>absurd z (by simp)),r,q⟩
end
def zp1 (sp:Sp)(dvs:List V)(E:XK)(t:TA):TE:=fun σ H Q=>t σ H λvs H1=>sp (vs++dvs) H1 Q E
def zd2 (K:W.Frag)(fd:FuncData)(ps:List Str)(ds:List Value):Prop :=
 ∀ (s:Shared) (us:List Value),K.In s.heap->(us++ds).length=ps.length->BindsTo s fd ⟨us,[]⟩ (ps.zip (us++ds))
theorem zd2.all {K:W.Frag}{fd:FuncData}{ps:List Str}(h:∀ us:List Value,us.length=ps.length->bindArgs fd ⟨us,[]⟩=pure (ps.zip us)):zd2 K fd ps []:=λs us _ hl=>by
 rw[u0l]at hl ⊢
 exact .of_eq (h us hl)
def zhn (CX:CXT)(X:Cx)(E:XK):Prop:=∀ (pins:List (Addr × Obj)) (σ:St) (H:Hp) (s:Shared) (e:Value) (s':Shared),Inv X pins σ H s->CX X.stack H s E e s'->X.xe e s'
section
variable {X:Cx}{CX:CXT}{k:Nat}{f C:Addr}{fd:FuncData}{ps:List Str}{sp:Sp}{dvs:List V}{ds:List Value}{E:XK}{x m:Str}{p pos apos:Pos}{e o:Expr}{es:List Expr}{ta:TE}{t:TA}
theorem znx {pins:List (Addr × Obj)}{σ:St}{H:Hp}{s:Shared}{Q:VK}{us:List Value}{vs:List V}(F:xc X.prog X.w X.K X.mg X.base CX k f fd ps sp)(hr:Zv k X.A)(hb:zd2 X.K fd ps ds)(hd:yM dvs ds)(hx:zhn CX X E)
 (I:Inv X pins σ H s) (r:yM vs us) (h:sp (vs++dvs) H Q E):wpAny (model X.prog X.w) X.A (call (.ref f) us) (EP X pins σ Q) X.xe s:=by
 have r2:yM (vs++dvs) (us++ds):=r.append hd
 have hl:(us++ds).length=ps.length:=by rw[<-r2.length];exact F.len _ _ _ _ h
 refine wpAny_call (u3h (F.run X.A X.stack s H ⟨us,[]⟩ (us++ds) (vs++dvs) Q E hr I.env0 (hb s us I.kIn hl) r2 h) λr s' hq=>?_)
 cases r with
 | error e=>exact hx pins σ H s e s' I hq
 | ok fl =>
  cases fl with
  | ret u=>exact I.after hq
  | next=>exact False.elim hq
  | brk=>exact False.elim hq
  | cont=>exact False.elim hq
theorem zlO (F:xc X.prog X.w X.K X.mg X.base CX k f fd ps sp)(hr:Zv k X.A)(hg:Gl X x)(hm:X.mg x=some (.ref f))(hk:W.keepIn X.K (.ref f)=true)(hb:zd2 X.K fd ps ds)(hd:yM dvs ds)(hx:zhn CX X E)
 (ha:PA X (e::es) t) (hdb:(x == ("__debug__":Str))=false:=by decide) (he:starEach (e::es) X.env=(false,eval e X.env)::starEach es X.env:=by rfl) (hpl:(backTo pos (starEach es X.env)).any (·.1)=false:=by rfl) :
 PE X (.Call (.Name x p) (e::es) [] pos) (zp1 sp dvs E t):=by
 intro pins s σ H Q I h
 refine u3l (zgp I hg hm ?_ hdb)
 refine W.callWith_K (h₀:=X.base) I.ok.mod.kin hk (thn (ha pos pins s σ H _ I h) λus s1 ⟨vs,H1,I1,r,q⟩=>⟨I1.kIn,?_⟩) he hpl
 exact znx F hr hb hd hx I1 r q
end
structure zw (N P:List Str) (sc:Scope):Prop where
 kind:sc.kind=.function
 co:sc.isCoroutine=false
 gen:sc.isGenerator=false
 nd:N.Nodup
 pre:N.take P.length=P
 par:∀ x∈P,sc.names.lookup x=some .local\/sc.names.lookup x=some .cell
 nofree:∀ y∈sc.names,y.2≠.free
theorem zce {kindOf:Str->Option NameKind}{x:Str}:∀ {binds:List (Str × Value)} {m:Str->Option Value},(∀ v,(x,v)∉binds)->bindL kindOf binds m x=m x
 | [],_,_=>rfl
 | (n,v)::r,m,h=>by
  unfold bindL
  rw[zce λw hw=>h w (r8 _ hw)]
  split
  .have:x≠n:=by rintro rfl;exact h v d6
   simp[this]
  .rfl
theorem zcR {kindOf:Str->Option NameKind}{x:Str}:∀ {binds:List (Str × Value)} {m:Str->Option Value},(∀ v,(x,v)∉binds)->bindC kindOf binds m x=m x
 | [],_,_=>rfl
 | (n,v)::r,m,h=>by
  unfold bindC
  rw[zcR λw hw=>h w (r8 _ hw)]
  split
  .rfl
  .have:x≠n:=by rintro rfl;exact h v d6
   simp[this]
theorem zcV {kindOf:Str->Option NameKind}{x:Str}{v:Value}:∀ {P:List Str} {vs:List Value} {i:Nat} {m:Str->Option Value},P.Nodup->P[i]?=some x->vs[i]?=some v->kindOf x=some .local ->
 bindL kindOf (P.zip vs) m x=some v
 | [],_,_,_,_,h,_,_=>by simp at h
 | _::_,[],_,_,_,_,h,_=>by simp at h
 | p::P,w::vs,0,m,nd,h1,h2,hk=>by
  simp at h1 h2;subst h1;subst h2
  show bindL kindOf ((p,w)::P.zip vs) m p=_
  unfold bindL
  rw[zce λv hv=>(u0y.mp nd).1 (u34 hv).1,t4 hk]
  simp
 | p::P,w::vs,i+1,m,nd,h1,h2,hk=>by
  show bindL kindOf ((p,w)::P.zip vs) m x=_
  unfold bindL
  exact zcV (i:=i) (u0y.mp nd).2 (by simpa using h1) (by simpa using h2) hk
theorem zcW {kindOf:Str->Option NameKind}{x:Str}{v:Value}:∀ {P:List Str} {vs:List Value} {i:Nat} {m:Str->Option Value},P.Nodup->P[i]?=some x->vs[i]?=some v->kindOf x≠some .local ->
 bindC kindOf (P.zip vs) m x=some v
 | [],_,_,_,_,h,_,_=>by simp at h
 | _::_,[],_,_,_,_,h,_=>by simp at h
 | p::P,w::vs,0,m,nd,h1,h2,hk=>by
  simp at h1 h2;subst h1;subst h2
  show bindC kindOf ((p,w)::P.zip vs) m p=_
  unfold bindC
  rw[zcR λv hv=>(u0y.mp nd).1 (u34 hv).1,j4 hk]
  simp
 | p::P,w::vs,i+1,m,nd,h1,h2,hk=>by
  show bindC kindOf ((p,w)::P.zip vs) m x=_
  unfold bindC
  exact zcW (i:=i) (u0y.mp nd).2 (by simpa using h1) (by simpa using h2) hk
def start (N:List Str)(vs:List V):St:=vs.map some++List.replicate (N.length - vs.length) none
def zju (CX:CXT)(P:Program)(w:World)(K:W.Frag)(mg:Str->Option Value)(base:Heap)(N:List Str)(qual:Str)(scope:Scope)(f:Addr)(cd:Value)(A:Around)(outer:List Env)(s:Shared)(H:Hp)(E:XK):Cx where
 prog:=P
 w:=w
 K:=K
 mg:=mg
 base:=base
 A:=A.deeper (envOfC qual scope s.heap.objs.size f cd)
 N:=N
 s₀:=s
 H₀:=H
 env:=envOfC qual scope s.heap.objs.size f cd
 outer:=outer
 stack:=envOfC qual scope s.heap.objs.size f cd::outer
 ex:=[]
 calm:=true
 fn:=λ_=>true
 pn:=[]
 xe:=λe s'=>wpAny (model P w) (A.deeper (envOfC qual scope s.heap.objs.size f cd)) (leaving (envOfC qual scope s.heap.objs.size f cd) e) (λ_ s''=>CX outer H s E e s'') (λe' s''=>CX outer H s E e' s'') s'
theorem zeq {sc:Scope}{n:Nat}{x:Str}(h:sc.names.lookup x=some .cell):∃ c,(cellsFrom n sc.names []).lookup x=some c:=by
 have q:=W.cellsFrom_some sc.names n [] (.inl h)
 exact u0Y.mp q
theorem zgk {CX:CXT}{P:Program}{w:World}{K:W.Frag}{mg:Str->Option Value}{base:Heap}{N ps:List Str}{qual:Str}{scope:Scope}{f:Addr}{cd:Value}{A:Around}{outer:List Env}{s s1:Shared}{H:Hp}{E:XK}{us:List Value}{vs:List V}
 (S:zw N ps scope) (hd:A.handled=none) (e0:zoV P w K mg base A outer s H) (hl:vs.length=ps.length) (r:yM vs us)
 (x:InCallC s s.heap.objs.size (bindL (envOfC qual scope s.heap.objs.size f cd).kindOf (ps.zip us) λ_=>none) (cellsFrom (s.heap.objs.size+1) scope.names []) (bindC (envOfC qual scope s.heap.objs.size f cd).kindOf (ps.zip us) λ_=>none) s1) :
 Inv (zju CX P w K mg base N qual scope f cd A outer s H E) [] (start N vs) H s1:=by
 have hpl:ps.length<=N.length:=by have:=u1c List.length S.pre;rw[u1d]at this;omega
 obtain⟨h1,tk,rfl,hk⟩:=x.done
 have noA:∀ b:Addr,b∉(zju CX P w K mg base N qual scope f cd A outer s H E).ex:=λb z=>absurd (show b∈([]:List Addr)from z) (by simp)
 refine⟨⟨e0.mod,S.kind,rfl,rfl,t5 _,λy z c h1 h2=>?_,λy hy=>?_,λy c _ h=>?_,λ_=>hd,Around.frames_deeper e0.frames,.inr ⟨rfl,rfl⟩,λb z=>absurd z (noA b),e0.bs,e0.bsz,λb _ _=>noA b,λb z=>absurd z (noA b),e0.funs,e0.frf⟩,
  rfl,e0.bare,Un.kept hk,⟨_,x.toInCall.ns,λi y v h1 h2 h3=>?_⟩,λy c h=>⟨_,x.cell y c h⟩,e0.hok.fresh (t5 _),λy c h=>?_,λp hp=>absurd (show p∈([]:List (Addr × Obj))from hp) (by simp),e0.hok.kept hk,?_⟩
 .exact name_of_addr x.apart (u0w h1) (u0w h2)
 .have hy:scope.names.lookup y=some .cell\/scope.names.lookup y=some .free:=hy
  rcases hy with hy | hy
  .exact zeq hy
  .exact absurd rfl (S.nofree _ (u0w hy))
 .exact u0S (x.above y c (u0w h))
 .have hi:i < vs.length:=by
   unfold start at h2
   by_cases hi:i < vs.length
   .exact hi
   .rw[u0d (by simpa using hi)]at h2
    rw[u1g]at h2
    split at h2 <;> cases h2
  have ha:vs[i]?=some v:=by
   unfold start at h2
   rw[u0i (by simpa using hi),j5]at h2
   cases e:vs[i]? with
   | none=>rw[e]at h2;cases h2
   | some a=>rw[e]at h2;cases h2;rfl
  obtain⟨u,hu,rv⟩:=r.get ha
  have hp:ps[i]?=some y:=by
   rw[<-S.pre,u3v (by omega)];exact h1
  have ndP:ps.Nodup:=by rw[<-S.pre];exact S.nd.sublist (u3w _ _)
  refine⟨u,rv,?_⟩
  rcases S.par y (d9 hp)with k | k
  .exact .inl ⟨k,zcV ndP hp hu k⟩
  .obtain⟨c,e⟩:=zeq (n:=s.heap.objs.size+1) k
   refine .inr ⟨.inl k,c,e,?_⟩
   have q:=x.cell y c e
   rw[zcW ndP hp hu (by show scope.names.lookup y≠_;rw[k];decide)]at q
   exact q
 .exact e0.hok.fresh (u0S (x.above y c (u0w h)))
 .unfold start
  show _=N.length
  rw[j8,u6,u1a]
  omega
theorem zpX {CX:CXT}{P:Program}{w:World}{K:W.Frag}{mg:Str->Option Value}{base:Heap}{k:Nat}{f:Addr}{name qual:Str}{params:Arguments}{body:List Stmt}{scope:Scope}{dV kV doc pm cdv ct oc:Value}{an od:Option Addr}
 {osl:Array (Option Value)} {N ps:List Str} {sp:Sp} (lk:K.lookup f=some ⟨oc,od,.func (W.fnOf name qual params body scope dV kV doc pm an cdv ct),osl⟩) (hcd:W.codeIn K cdv qual=true) (S:zw N ps scope)
 (len:∀ vs H Q E,sp vs H Q E->vs.length=ps.length)
 (hbody:∀ (A:Around) (outer:List Env) (s:Shared) (H:Hp) (vs:List V) (Q:VK) (E:XK),Zv k (A.deeper (envOfC qual scope s.heap.objs.size f cdv))->sp vs H Q E ->
  ∃ t,PSs (zju CX P w K mg base N qual scope f cdv A outer s H E) body t/\t { nx:=λ_ H'=>Q .non H',rt:=Q } (start N vs) H) :
 xc P w K mg base CX (k+1) f (W.fnOf name qual params body scope dV kV doc pm an cdv ct) ps sp:=by
 refine⟨len,λA outer s H args us vs Q E hr e0 hb r hsp=>?_⟩
 have hl:=len _ _ _ _ hsp
 have KX:K.In s.heap:=e0.mod.kin.keeps λb o e=>(e0.bs b o e).1
 have lim:s.heap.NoLimit:=e0.mod.nolimit.keeps λb o e=>(e0.bs b o e).1
 have hkind:∀ y∈ps.zip us,scope.names.lookup y.1=some .local\/(scope.names.lookup y.1=some .cell/\((cellsFrom (s.heap.objs.size+1) scope.names []).lookup y.1).isSome=true):=λ⟨n,v⟩ hy=>by
  rcases S.par n (u34 hy).1 with q | q
  .exact .inl q
  .exact .inr ⟨q,W.cellsFrom_some _ _ _ (.inl q)⟩
 refine codeAny_call_function hr.depth (KX _ _ lk) rfl S.co S.gen rfl (W.codeRec_of KX hcd) (hb _ _ _ _ ?_)
 refine wpAny_newFunctionEnv_cells S.kind hkind λenv he s1 x=>?_
 subst he
 refine⟨lim.keeps x.toInCall.keep,codeAny_func ?_⟩
 obtain⟨t,ht,hq⟩:=hbody A outer s H vs Q E (hr.deeper _) hsp
 have I:Inv (zju CX P w K mg base N qual scope f cdv A outer s H E) [] (start N vs) H s1:=zgk S hr.hd e0 hl r x
 refine u1v (ht [] s1 (start N vs) H _ I hq) (λfl s' hs=>?_) λe s' hs=>hs
 have fin:∀ {σ':St} {H':Hp} {v:V} {u:Value},Inv (zju CX P w K mg base N qual scope f cdv A outer s H E) [] σ' H' s'->yZ v u->Q v H'->CE outer P w H s Q u s' :=
  λ{σ' H' v u} J rv q=>⟨v,H',J.os,J.bare,J.base,J.hok,rv,q⟩
 cases fl with
 | ret u =>
  obtain⟨v,σ',H',J,rv,q⟩:=hs
  exact fin J rv q
 | next =>
  obtain⟨σ',H',J,q⟩:=hs
  exact fin (v:=V.non) (u:=Value.none) J rfl q
 | brk =>
  obtain⟨_,_,_,q⟩:=hs
  exact False.elim q
 | cont =>
  obtain⟨_,_,_,q⟩:=hs
  exact False.elim q
section
variable {X:Cx}{x:Str}{p pos:Pos}{e:Expr}{es:List Expr}{t:TA}{id T:String}{r:List V->Hp->VK->Prop}
def tCB (r:List V->Hp->VK->Prop)(t:TA):TE:=fun σ H Q=>t σ H λvs H1=>r vs H1 Q
theorem Vk (hc:Y2 X (.builtin id) r) (hg:Gl X x) (hm:X.mg x=none) (hv:bootBuiltins x=some (.builtin id)) (ha:PA X (e::es) t) (hn:x≠"__name__":=by decide) (hdb:(x == ("__debug__":Str))=false:=by decide)
 (he:starEach (e::es) X.env=(false,eval e X.env)::starEach es X.env:=by rfl) (hpl:(backTo pos (starEach es X.env)).any (·.1)=false:=by rfl):PE X (.Call (.Name x p) (e::es) [] pos) (tCB r t):=by
 intro pins s σ H Q I h
 refine u3l (XM I hg hm hv ?_ hn hdb)
 exact u2D (thn (ha pos pins s σ H _ I h) λus s1 ⟨vs,H1,I1,r1,q1⟩=>hc pins s1 σ H1 vs us Q I1 r1 q1) he hpl
theorem VI (hc:Y2 X (.type T) r) (hg:Gl X x) (hm:X.mg x=none) (hv:bootBuiltins x=some (.type T)) (ha:PA X (e::es) t) (hn:x≠"__name__":=by decide) (hdb:(x == ("__debug__":Str))=false:=by decide)
 (he:starEach (e::es) X.env=(false,eval e X.env)::starEach es X.env:=by rfl) (hpl:(backTo pos (starEach es X.env)).any (·.1)=false:=by rfl):PE X (.Call (.Name x p) (e::es) [] pos) (tCB r t):=by
 intro pins s σ H Q I h
 refine u3l (XM I hg hm hv ?_ hn hdb)
 exact u0J (thn (ha pos pins s σ H _ I h) λus s1 ⟨vs,H1,I1,r1,q1⟩=>hc pins s1 σ H1 vs us Q I1 r1 q1) he hpl
end
end L2
namespace HT
open PySem PyProof.Rows
def lexLt:List Int->List Int->Bool
 | [],[]=>false
 | [],_::_=>true
 | _::_,[]=>false
 | x::xs,y::ys=>if x=y then lexLt xs ys else decide (x < y)
theorem lexLt_cons (x y:Int)(xs ys:List Int):lexLt (x::xs) (y::ys)=if x=y then lexLt xs ys else decide (x < y):=rfl
theorem zj7 (A:Around)(s:Shared)(a:Int)(t:Tok)(c:Int)(u:Tok):∃ e,SeqAt.EqAt A s (.int a t) (.int c u) e/\(e=true↔a=c) :=
 ⟨(a == c),u3f a t c u,by simp⟩
section
variable {prog:Program}{w:World}{A:Around}{E:Value->Shared->Prop}{s:Shared}
theorem cat_tup {t b:Addr}{vs ws:List Value}{Q:Value->Shared->Prop}(ht:IsTup s.heap t vs.toArray)(hb:IsTup s.heap b ws.toArray)(hv:vs≠[])
 (h1:ws=[]->Q (.ref t) s) (h2:ws≠[]->Q (.ref s.heap.objs.size) { s with heap:=s.heap.push { cls:=.type "tuple",data:=.seq (vs++ws).toArray } })
 (hsz:vs.length+ws.length<=sizeLine):wpAny (model prog w) A (binaryOp .Add (.ref t) (.ref b)) Q E s:=by
 obtain⟨⟨cls,dd,data,sl⟩,ho,hc,n,hd⟩:=id ht
 obtain⟨⟨cls2,dd2,data2,sl2⟩,ho2,hc2,n2,hd2⟩:=id hb
 simp only at hc hd hc2 hd2
 subst hc hd hc2 hd2
 have e:vs.toArray++ws.toArray=(vs++ws).toArray:=by simp
 by_cases hw:ws=[]
 .exact concat_meets ⟨_,ho,rfl⟩ ⟨_,ho2,rfl⟩ noFill_tuple_add seq_tuple_add u2q u2o (u2h _ _)
   (tuple_addW1 t b vs.toArray ws.toArray n n2 dd dd2 sl sl2 (by simpa using hv) (by simp[hw])) ⟨ho,ho2,h1 hw⟩
 .refine concat_meets ⟨_,ho,rfl⟩ ⟨_,ho2,rfl⟩ noFill_tuple_add seq_tuple_add u2q u2o (u2h _ _)
   (tuple_addW2 t b vs.toArray ws.toArray n n2 dd dd2 sl sl2 (by simpa using hv) (by simpa using hw) (by rw[t7,t7];exact hsz)) ⟨ho,ho2,?_⟩
  rw[e]
  exact h2 hw
def sIx (n d:Nat):Option Int->Nat
 | none=>d
 | some v=>if v < 0 then (v+(n:Int)).toNat else min v.toNat n
theorem sIx_none (n d:Nat):sIx n d none=d:=rfl
theorem sIx_nat (n d k:Nat):sIx n d (some (k:Int))=min k n:=by
 show(if (k:Int) < 0 then ((k:Int)+(n:Int)).toNat else min (k:Int).toNat n)=min k n
 rw[j4 (by omega),u0f]
theorem znh (n d:Nat)(hd:d<=n)(o:Option Int):sIx n d o<=n:=by
 cases o with
 | none=>exact hd
 | some v =>
  show(if v < 0 then (v+(n:Int)).toNat else min v.toNat n)<=n
  by_cases hv:v < 0
  .rw[t4 hv];omega
  .rw[j4 hv];exact u3P _ _
theorem zia (v:Int)(n d:Nat):(if v < 0 then max (v+(n:Int)) 0 else min v (n:Int))=((sIx n d (some v):Nat):Int):=by
 show(if v < 0 then max (v+(n:Int)) 0 else min v (n:Int))=(((if v < 0 then (v+(n:Int)).toNat else min v.toNat n):Nat):Int)
 by_cases hv:v < 0
 .simp only[t4 hv];omega
 .simp only[j4 hv];omega
theorem zfJ (lo hi:Option Int)(n:Nat):Builtin.Slice.sliceAdjust lo hi 1 (n:Int)=(((sIx n 0 lo:Nat):Int),((sIx n n hi:Nat):Int)):=by
 have h1:¬ ((1:Int) < 0):=by omega
 unfold Builtin.Slice.sliceAdjust
 simp only[h1,u3i]
 refine u2A ?_ ?_
 .cases lo with
  | none=>rfl
  | some v=>exact zia v n 0
 .cases hi with
  | none=>rfl
  | some v=>exact zia v n n
theorem zfu (i j:Nat):Builtin.Slice.slicePlaces (i:Int) (j:Int) 1=j - i:=by
 unfold Builtin.Slice.slicePlaces
 have h1:(1:Int) > 0:=by omega
 simp only[h1,u2I,Int.ediv_one]
 split <;> omega
theorem zba {v:Value}{o:Option Int}{Q:Option Int->Shared->Prop}(p:IsPart v o)(h:Q o s):wpAny (model prog w) A (Builtin.Slice.slicePartIndex v) Q E s:=by
 cases p with
 | none=>exact slicePart_none h
 | int i t=>exact slicePart_int h
theorem Zi {sl:Addr}{vl vu:Value}{lo hi:Option Int}{n:Nat}{Q:Int × Int × Nat->Shared->Prop}(hs:s.heap.IsSliceOf sl vl vu .none)(pl:IsPart vl lo)(pu:IsPart vu hi)
 (h:Q (((sIx n 0 lo:Nat):Int),1,sIx n n hi - sIx n 0 lo) s):wpAny (model prog w) A (Builtin.Slice.sliceApplied (.ref sl) (pure (n:Int))) Q E s:=by
 obtain⟨os,hos,hcs,hds⟩:=id hs
 unfold Builtin.Slice.sliceApplied Builtin.Slice.sliceFields
 refine u0 (u0 (u0X hos hds (x:=vl) rfl (u0 (u0X hos hds (x:=vu) rfl (u0 (u0X hos hds (x:=.none) rfl (u7 ?_)))))))
 refine u0 (slicePart_none ?_)
 show wpAny _ _ (if ((1:Int) == 0)=true then _ else _) _ _ s
 rw[j4 (by decide)]
 refine u0 (zba pl (u0 (zba pu (u0 (u7 ?_)))))
 show wpAny _ _ (match Builtin.Slice.sliceAdjust lo hi 1 (n:Int)with | (lo,hi)=>pure (lo,(1:Int),Builtin.Slice.slicePlaces lo hi 1)) _ _ s
 rw[zfJ lo hi n]
 show wpAny _ _ (pure (((sIx n 0 lo:Nat):Int),(1:Int),Builtin.Slice.slicePlaces ((sIx n 0 lo:Nat):Int) ((sIx n n hi:Nat):Int) 1)) _ _ s
 rw[zfu]
 exact u7 h
theorem zjG (xs:Array Value)(i k:Nat):((List.range k).filterMap λ(m:Nat)=>xs[((i:Int)+(m:Int)*1).toNat]?).toArray=((xs.toList.drop i).take k).toArray:=by
 have e:(λ(m:Nat)=>xs[((i:Int)+(m:Int)*1).toNat]?)=λm=>xs[i+m]?:=by
  funext m
  have:((i:Int)+(m:Int)*1).toNat=i+m:=by omega
  rw[this]
 rw[e]
 have:=pick_run xs i k
 rw[List.filterMap_map]at this
 have e2:((λx=>xs[x]?) ∘ λx=>i+x)=λm=>xs[i+m]?:=rfl
 rw[e2]at this
 rw[this]
theorem getItem_tuple_cut {t sl:Addr}{items:Array Value}{vl vu:Value}{lo hi:Option Int}{Q:Value->Shared->Prop}(ht:IsTup s.heap t items)(hs:s.heap.IsSliceOf sl vl vu .none)(pl:IsPart vl lo)(pu:IsPart vu hi)
 (hw:¬ (sIx items.size 0 lo=0/\sIx items.size items.size hi=items.size))
 (h:Q (.ref s.heap.objs.size) { s with heap:=s.heap.push { cls:=.type "tuple",data:=.seq ((items.toList.drop (sIx items.size 0 lo)).take (sIx items.size items.size hi - sIx items.size 0 lo)).toArray } })
 (hsz:items.size<=sizeLine):wpAny (model prog w) A (getItem (.ref t) (.ref sl)) Q E s:=by
 have htake:sizeOk (.seq ((items.toList.drop (sIx items.size 0 lo)).take (sIx items.size items.size hi - sIx items.size 0 lo)).toArray):=by
  show((items.toList.drop (sIx items.size 0 lo)).take (sIx items.size items.size hi - sIx items.size 0 lo)).toArray.size<=sizeLine
  rw[t7,u1d,u0n,i9]
  omega
 have hj:sIx items.size items.size hi<=items.size:=znh _ _ (t5 _) hi
 obtain⟨os,hos,hcs,hds⟩:=id hs
 have hTs:s.TypeIs (.ref sl) "slice":=⟨os,hos,hcs⟩
 unfold getItem
 try with_reducible refine u0C ?_
 first | refine u0 (u7 ?_) | skip
 refine u0 (wpAny_sequenceKey ht.typeIs (by decide) ?_)
 refine u0 (u0k (name:=Str.ofString "__getitem__") ht.typeIs u0z
  (u0h u0z ht.typeIs entry_tuple_getitem ?_ (args_tuple_getitem _ _)))
 show wpAny _ _ (Builtin.Tuple.tupleItemsOf (.ref t)>>=_) _ _ s
 refine u0 (tupleItemsOf_ ht ?_)
 refine u0 (u2i hTs ?_)
 rw[t4 (by decide)]
 refine u0 (Zi hs pl pu ?_)
 have hno:¬ ((((sIx items.size 0 lo:Nat):Int) == 0&&(1:Int) == 1&&(sIx items.size items.size hi - sIx items.size 0 lo) == items.size)=true):=by
  intro q
  rw[g0,g0]at q
  have q1:((sIx items.size 0 lo:Nat):Int)=0:=eq_of_beq q.1.1
  have q2:sIx items.size items.size hi - sIx items.size 0 lo=items.size:=eq_of_beq q.2
  exact hw ⟨by omega,by omega⟩
 show wpAny _ _ (if (((sIx items.size 0 lo:Nat):Int) == 0&&(1:Int) == 1&&(sIx items.size items.size hi - sIx items.size 0 lo) == items.size)=true then _ else _) _ _ s
 rw[j4 hno,zjG]
 first
  | exact u0 (m:=Builtin.Tuple.tupleExact _) (u0g (u7 ⟨_,rfl,u7 h⟩) htake)
  | exact u0 (m:=Builtin.Tuple.tupleExact _) (u0g (u0 (u7 (u7 ⟨_,rfl,u7 h⟩))) htake)
  | exact u0 (u0 (m:=Builtin.Tuple.tupleExact _) (u0g (u7 (u7 ⟨_,rfl,u7 h⟩)) htake))
  | exact u0 (u0 (m:=Builtin.Tuple.tupleExact _) (u0g (u7 ⟨_,rfl,u7 h⟩) htake))
end
end HT
namespace L2
open PySem PySem.Spec PyProof.Rows
abbrev TO:=St->Hp->(Option Int->Hp->Prop)->Prop
def PO (X:Cx)(e:Option Expr)(t:TO):Prop :=
 ∀ (pins:List (Addr × Obj)) (s:Shared) (σ:St) (H:Hp) (Q:Option Int->Hp->Prop),Inv X pins σ H s->t σ H Q ->
  wpAny (model X.prog X.w) X.A (evalPart e X.env) (λu s'=>∃ o H',Inv X pins σ H' s'/\IsPart u o/\Q o H') X.xe s
def zlz:TO:=λ_ H Q=>Q none H
def zpu (t:TE):TO:=fun σ H Q=>t σ H λx H1=>∃ i,x=.int i/\Q (some i) H1
theorem YJ {ns:List Int}:∀ {us:List Value},yM (ns.map V.int) us->IntsAre us ns:=by
 induction ns with
 | nil=>intro us r;rw[List.map_nil]at r;cases r;exact .nil
 | cons n ns ih =>
  intro us r
  rw[p7]at r
  cases r with
  | cons r1 r2 =>
   obtain⟨t,e⟩:=r1
   subst e
   exact .cons n t (ih r2)
section
variable {X:Cx}{e:Expr}{te:TE}{lo hi:Option Expr}{tl th:TO}{pos p2:Pos}
theorem zmy:PO X none zlz:=by
 intro pins s σ H Q I h
 rw[evalPart_none]
 exact u7 ⟨none,H,I,.none,h⟩
theorem zlL (h:PE X e te):PO X (some e) (zpu te):=by
 intro pins s σ H Q I hw
 rw[evalPart_some]
 refine thn (h pins s σ H _ I hw) λu s1 hh9=>?_
 obtain⟨x,H1,I1,r1,q1⟩:=hh9
 obtain⟨i,rfl,q⟩:=q1
 obtain⟨t,rfl⟩:=r1
 exact⟨some i,H1,I1,.int i t,q⟩
def SlR (X:Cx)(r:V->Option Int->Option Int->Hp->VK->Prop):Prop :=
 ∀ (pins:List (Addr × Obj)) (s:Shared) (σ:St) (H:Hp) (x:V) (v vl vu:Value) (lo hi:Option Int) (sl:Addr) (Q:VK),Inv X pins σ H s->yZ x v->s.heap.IsSliceOf sl vl vu .none->IsPart vl lo->IsPart vu hi->r x lo hi H Q ->
  ∃ T id,typeLookup (.type T) "__getitem__"=pure (some (.builtin id))/\s.TypeIs v T/\wpAny (model X.prog X.w) X.A (getItem v (.ref sl)) (EP X pins σ Q) X.xe s
theorem SlR.or {r r':V->Option Int->Option Int->Hp->VK->Prop}(h:SlR X r)(h':SlR X r'):SlR X (λx lo hi H Q=>r x lo hi H Q\/r' x lo hi H Q):=by
 intro pins s σ H x v vl vu lo hi sl Q I rx hs pl pu q
 rcases q with q | q
 .exact h pins s σ H x v vl vu lo hi sl Q I rx hs pl pu q
 .exact h' pins s σ H x v vl vu lo hi sl Q I rx hs pl pu q
def tSl (r:V->Option Int->Option Int->Hp->VK->Prop)(te:TE)(tl th:TO):TE:=fun σ H Q=>te σ H λx H1=>tl σ H1 λl H2=>th σ H2 λu H3=>r x l u H3 Q
theorem zjK {r:V->Option Int->Option Int->Hp->VK->Prop}(hr:SlR X r)(he:PE X e te)(hl:PO X lo tl)(hu:PO X hi th):PE X (.Subscript e (.Slice lo hi none p2) pos) (tSl r te tl th):=by
 intro pins s σ H Q I h
 refine Subscript_ (thn (he pins s σ H _ I h) λv s1 hh9=>?_)
 obtain⟨x,H1,I1,r1,q1⟩:=hh9
 refine wpAny_Slice (thn (hl pins s1 σ H1 _ I1 q1) λvl s2 ⟨l,H2,I2,pl,q2⟩=>thn (hu pins s2 σ H2 _ I2 q2) λvu s3 hh9=>?_)
 obtain⟨u,H3,I3,pu,q3⟩:=hh9
 rw[evalPart_none]
 refine u7 ?_
 have I4:Inv X pins σ H3 { s3 with heap:=s3.heap.push { cls:=.type "slice",data:=.fields #[vl,vu,.none] } }:=I3.kept (t':=s3.toks) λb ob q=>u4 _ q
 obtain⟨T,id,hT,ht,hg⟩:=hr pins { s3 with heap:=s3.heap.push { cls:=.type "slice",data:=.fields #[vl,vu,.none] } } σ H3 x v vl vu l u s3.heap.objs.size Q I4 r1 (Heap.IsSliceOf.new ..) pl pu q3
 show wpAny (model X.prog X.w) X.A (subscriptTail e (.Slice lo hi none p2) v (.ref s3.heap.objs.size)) (EP X pins σ Q) X.xe { s3 with heap:=s3.heap.push { cls:=.type "slice",data:=.fields #[vl,vu,.none] } }
 exact tail_any (ops:=[.ref s3.heap.objs.size,v]) ht hT hg (by with_unfolding_all rfl)
def zdm (xs:List V)(lo hi:Option Int):List V:=(xs.drop (HT.sIx xs.length 0 lo)).take (HT.sIx xs.length xs.length hi - HT.sIx xs.length 0 lo)
theorem V7 (xs:List V)(lo hi:Option Int):(zdm xs lo hi).length<=xs.length:=by
 unfold zdm
 rw[u1d,u0n]
 omega
def rSlT (K:W.Frag):V->Option Int->Option Int->Hp->VK->Prop:=λx lo hi H Q=>∃ a xs,x=.ref a/\SqT K H a xs /\
 ¬ (HT.sIx xs.length 0 lo=0/\HT.sIx xs.length xs.length hi=xs.length)/\∀ p,H p=none->Q (.ref p) (upd H p (.tup (zdm xs lo hi)))
theorem znC:SlR X (rSlT X.K):=by
 intro pins s σ H x v vl vu lo hi sl Q I rx hs pl pu h
 obtain⟨a,xs,rfl,hx,hw,q⟩:=h
 cases rx
 obtain⟨its,r,ht,hz⟩:=I.tuple hx
 have hlen:its.toArray.size=xs.length:=by rw[t7];exact r.length.symm
 refine⟨"tuple",_,u0z.lookup,ht.typeIs,?_⟩
 refine HT.getItem_tuple_cut ht hs pl pu (by rw[hlen];exact hw) ?_ (by rw[hlen];exact hz)
 rw[hlen]
 refine⟨.ref s.heap.objs.size,_,I.laid (t':=s.toks) (o:=.tup (zdm xs lo hi)) (λb ob q=>u4 _ q) (t5 _) ?_,rfl,q _ (I.hok.fresh (t5 _))⟩
 exact⟨p6 (V7 xs lo hi) hz,_,(r.drop (HT.sIx xs.length 0 lo)).take (HT.sIx xs.length xs.length hi - HT.sIx xs.length 0 lo),IsTup.new _ _⟩
def zpT (K:W.Frag):R2:=λx y H Q=>∃ a b xs ys,x=.ref a/\y=.ref b/\SqT K H a xs/\SqT K H b ys/\xs≠[]/\xs.length+ys.length<=sizeLine /\
 (ys=[]->Q (.ref a) H)/\(ys≠[]->∀ p,H p=none->Q (.ref p) (upd H p (.tup (xs++ys))))
theorem yM.nil_iff {xs:List V}{us:List Value}(r:yM xs us):us=[]↔xs=[]:=by
 cases r with
 | nil=>simp
 | cons _ _=>simp
theorem zl9:OpR X (binaryOp .Add) (zpT X.K):=by
 intro pins s σ H x y v u Q I rx ry h
 obtain⟨a,b,xs,ys,rfl,rfl,ha,hb,hx,hz,q1,q2⟩:=h
 cases rx
 cases ry
 obtain⟨its,r1,p1,_⟩:=I.tuple ha
 obtain⟨its2,r2,p2,_⟩:=I.tuple hb
 refine HT.cat_tup p1 p2 (λz=>hx (r1.nil_iff.mp z)) (λz=>⟨.ref a,H,I,rfl,q1 (r2.nil_iff.mp z)⟩) (λz=>?_) (by rw[<-r1.length,<- r2.length];exact hz)
 refine⟨.ref s.heap.objs.size,_,I.laid (t':=s.toks) (o:=.tup (xs++ys)) (λb ob q=>u4 _ q) (t5 _) ?_,rfl,q2 (λw=>z (r2.nil_iff.mpr w)) _ (I.hok.fresh (t5 _))⟩
 exact⟨by rw[j8];exact hz,_,r1.append r2,IsTup.new _ _⟩
end
def ixN (n:Nat)(i:Int):Option Nat:=if 0<=i then (if i < n then some i.toNat else none)else if -(n:Int)<=i then some (i+n).toNat else none
def atI {α:Type}(xs:List α)(i:Int):Option α:=(ixN xs.length i).bind λj=>xs[j]?
theorem zgU {n:Nat}{i:Int}{j:Nat}(h:ixN n i=some j):seqIndex? i n=some j/\j < n/\-(n:Int)<=i/\i < n:=by
 unfold ixN at h
 by_cases h0:0<=i
 .rw[t4 h0]at h
  by_cases h1:i < n
  .rw[t4 h1]at h
   have e:i.toNat=j:=i8 h
   exact⟨by rw[seqIndex_of h0 h1,e],by omega,by omega,h1⟩
  .rw[j4 h1]at h;cases h
 .rw[j4 h0]at h
  by_cases h1:-(n:Int)<=i
  .rw[t4 h1]at h
   have e:(i+n).toNat=j:=i8 h
   exact⟨by rw[seqIndex_neg (by omega) h1,e],by omega,h1,by omega⟩
  .rw[j4 h1]at h;cases h
theorem zdk {α:Type}{xs:List α}{i:Int}{v:α}(h:atI xs i=some v):∃ j,seqIndex? i xs.length=some j/\xs[j]?=some v/\j < xs.length/\-(xs.length:Int)<=i/\i < xs.length:=by
 unfold atI at h
 cases e:ixN xs.length i with
 | none=>rw[e]at h;cases h
 | some j =>
  rw[e]at h
  obtain⟨h1,h2,h3,h4⟩:=zgU e
  exact⟨j,h1,h,h2,h3,h4⟩
theorem zhZ {α:Type}{xs:List α}{j:Nat}{v:α}(h:xs[j]?=some v):atI xs (j:Int)=some v:=by
 have hj:j < xs.length:=(t6.mp h).1
 have e:ixN xs.length (j:Int)=some j:=by
  unfold ixN
  rw[t4 (by omega),t4 (by omega)];simp
 unfold atI;rw[e];exact h
def zij (b:Expr):Prop:=∀ o i,subscripted b false o i=operate [o,i] (getItem o i)
def IxR (X:Cx)(r:R2):Prop :=
 ∀ (value slice:Expr) (pins:List (Addr × Obj)) (s:Shared) (σ:St) (H:Hp) (x y:V) (v u:Value) (Q:VK),Inv X pins σ H s->yZ x v->yZ y u->r x y H Q ->
  subscripted slice false v u=operate [v,u] (getItem v u)->wpAny (model X.prog X.w) X.A (subscriptTail value slice v u) (EP X pins σ Q) X.xe s
def MtR (X:Cx)(id:String)(r:V->List V->Hp->VK->Prop):Prop :=
 ∀ (pins:List (Addr × Obj)) (s:Shared) (σ:St) (H:Hp) (x:V) (xs:List V) (v:Value) (us:List Value) (Q:VK),Inv X pins σ H s->yZ x v->yM xs us->r x xs H Q ->
  wpAny (model X.prog X.w) X.A (call (.builtin id) (v::us)) (EP X pins σ Q) X.xe s
section
variable {X:Cx}{a b:Expr}{ta tb:TE}{pos:Pos}
theorem IxR.or {r r':R2}(h:IxR X r)(h':IxR X r'):IxR X (λx y H Q=>r x y H Q\/r' x y H Q):=by
 intro value slice pins s σ H x y v u Q I rx ry q hs
 rcases q with q | q
 .exact h value slice pins s σ H x y v u Q I rx ry q hs
 .exact h' value slice pins s σ H x y v u Q I rx ry q hs
theorem zpQ {r:R2}(hr:IxR X r)(ha:PE X a ta)(hb:PE X b tb)(hs:zij b):PE X (.Subscript a b pos) (tOp r ta tb):=by
 intro pins s σ H Q I h
 exact Subscript_ (zpo ha hb I h λv u s2 x y H2 I2 rx ry q=>hr a b pins s2 σ H2 x y v u Q I2 rx ry q (hs _ _))
def rIxL (K:W.Frag):R2:=λx y H Q=>∃ p xs i v,x=.ref p/\y=.int i/\SqL K H p xs/\atI xs i=some v/\Q v H
def rIxT (K:W.Frag):R2:=λx y H Q=>∃ p xs i v,x=.ref p/\y=.int i/\SqT K H p xs/\atI xs i=some v/\Q v H
def rIxS:R2:=λx y H Q=>∃ z i c,x=.str z/\y=.int i/\z.length<=sizeLine/\atI z.cps.toList i=some c/\Q (.str ⟨#[c]⟩) H
theorem zlv:IxR X (rIxL X.K):=by
 intro value slice pins s σ H x y v u Q I rx ry h hs
 obtain⟨p,xs,i,z,rfl,rfl,hq,he,q⟩:=h
 cases rx
 obtain⟨t,rfl⟩:=ry
 obtain⟨its,r,pl,hz⟩:=I.list hq
 obtain⟨j,h1,h2,h3,h4,h5⟩:=zdk he
 obtain⟨w,ew,rw'⟩:=r.get h2
 have hl:=r.length
 have hn:=zcu
 have fin:EP X pins σ Q w s:=⟨z,H,I,rw',q⟩
 by_cases h0:0<=i
 .have hj:i.toNat=j:=by
   rw[seqIndex_of h0 h5]at h1
   exact i8 h1
  exact item_listR pl.isList h0 (by omega) (by rw[hj];simpa using ew) fin hs
 .have hj:(i+(its.toArray.size:Int)).toNat=j:=by
   rw[seqIndex_neg (by omega) h4]at h1
   rw[t7,<- hl]
   exact i8 h1
  exact subscriptTail_builtinR (x:=w) pl.isList.typeIs slot_list_getitem.lookup
   (wpAny_getItem_list_neg (Q:=λr s'=>r=w/\EP X pins σ Q r s') pl.isList (by omega) (by rw[t7] <;> omega) (by omega) (by rw[hj];simpa using ew) ⟨rfl,fin⟩) hs
theorem zm1:IxR X (rIxT X.K):=by
 intro value slice pins s σ H x y v u Q I rx ry h hs
 obtain⟨p,xs,i,z,rfl,rfl,hq,he,q⟩:=h
 cases rx
 obtain⟨t,rfl⟩:=ry
 obtain⟨its,r,pl,hz⟩:=I.tuple hq
 obtain⟨j,h1,h2,h3,h4,h5⟩:=zdk he
 obtain⟨w,ew,rw'⟩:=r.get h2
 have hl:=r.length
 have hn:=zcu
 have fin:EP X pins σ Q w s:=⟨z,H,I,rw',q⟩
 exact subscriptTail_builtinR (x:=w) pl.typeIs slot_tuple_getitem.lookup
  (getItem_tuple (j:=j) (Q:=λr s'=>r=w/\EP X pins σ Q r s') pl (by omega) (by omega) (by rw[t7,<- hl];exact h1) (by simpa using ew) ⟨rfl,fin⟩) hs
theorem zm0:IxR X rIxS:=by
 intro value slice pins s σ H x y v u Q I rx ry h hs
 obtain⟨z,i,c,rfl,rfl,hz,he,q⟩:=h
 obtain⟨t,rfl⟩:=rx
 obtain⟨t',rfl⟩:=ry
 obtain⟨j,h1,h2,h3,h4,h5⟩:=zdk he
 have hl:z.cps.toList.length=z.length:=by simp[Str.length]
 rw[hl]at h1 h4 h5
 have hn:=zcu
 exact tail_any (typeIs_str s z t) slot_str_getitem.lookup (getItem_str (c:=c) (by
  have e1:decide (i < -(2 ^ 63:Int))=false:=g9 (by omega)
  have e2:decide (i >= 2 ^ 63)=false:=g9 (by omega)
  rw[e1,e2,Bool.or_false]) (by rw[h1];simpa using h2) ⟨.str ⟨#[c]⟩,H,I.tok _,⟨_,rfl⟩,q⟩) hs
def rIx (K:W.Frag):R2:=λx y H Q=>rIxL K x y H Q\/rIxT K x y H Q\/rIxS x y H Q
theorem zoD:IxR X (rIx X.K):=zlv.or (zm1.or zm0)
theorem zfB (its:List Value) (n j:Nat) (u:Value):Obj.mapSeq (·.setIfInBounds j u) { cls:=.type "list",data:=.seq its.toArray n }={ cls:=.type "list",data:=.seq (its.set j u).toArray n }:=by
 simp[Obj.mapSeq]
theorem Inv.lst {pins:List (Addr × Obj)}{σ:St}{H:Hp}{s:Shared}{p:Addr}{xs:List V}(I:Inv X pins σ H s)(h:H p=some (.lst xs)) :
 ∃ (its:List Value) (n:Nat),yM xs its/\s.heap.get? p=some { cls:=.type "list",data:=.seq its.toArray n }/\xs.length<=sizeLine:=by
 obtain⟨z,its,n,r,e⟩:=I.hok p _ h
 exact⟨its,n,r,e,z⟩
theorem Inv.lstUpd {pins:List (Addr × Obj)}{σ:St}{H:Hp}{s:Shared}{p:Addr}{xs ys:List V}{its its':List Value}{n n':Nat}{f:Obj->Obj}(I:Inv X pins σ H s)(h:H p=some (.lst xs))
 (ho:s.heap.get? p=some { cls:=.type "list",data:=.seq its.toArray n }) (hf:f { cls:=.type "list",data:=.seq its.toArray n }={ cls:=.type "list",data:=.seq its'.toArray n' }) (r:yM ys its') (hz:ys.length<=sizeLine) (t:Nat) :
 Inv X pins σ (upd H p (.lst ys)) { s with heap:=s.heap.update p f,toks:=t }:=by
 have e:(s.heap.update p f).get? p=some { cls:=.type "list",data:=.seq its'.toArray n' }:=by
  rw[u0b f ho (by rw[hf] <;> rfl),hf]
 refine I.write (x:=p) (e:=p) (by rw[h];trivial) (.inl rfl) (λb u hb q=>(u0e _ _ (u0R hb)).trans q) ⟨_,e⟩ ?_
 exact⟨hz,its',n',r,e⟩
def zpO:V->V->V->Hp->(Hp->Prop)->Prop:=λo i v H Q=>∃ p xs k j,o=.ref p/\i=.int k/\H p=some (.lst xs)/\ixN xs.length k=some j/\Q (upd H p (.lst (xs.set j v)))
theorem zja:PSet X zpO:=by
 intro pins s σ H o i v ov iv u Q I ro ri rv h
 obtain⟨p,xs,k,j,rfl,rfl,hp,hj,q⟩:=h
 cases ro
 obtain⟨t,rfl⟩:=ri
 obtain⟨its,n,r,ho,hz⟩:=I.lst hp
 obtain⟨h1,h2,h3,h4⟩:=zgU hj
 have hl:=r.length
 have hn:=zcu
 have I':Inv X pins σ (upd H p (.lst (xs.set j v))) { s with heap:=s.heap.update p (Obj.mapSeq (·.setIfInBounds j u)) } :=
  I.lstUpd hp ho (zfB its n j u) (r.set rv j) (by rw[u1E];exact hz) s.toks
 by_cases h0:0<=k
 .have hk:k.toNat=j:=by
   rw[seqIndex_of h0 h4]at h1
   exact i8 h1
  exact W.ki_setAt ho h0 (by omega) (by rw[t7,<- hl];exact h4) (by rw[hk];exact⟨_,I',q⟩)
 .have hk:(k+(its.toArray.size:Int)).toNat=j:=by
   rw[seqIndex_neg (by omega) h3]at h1
   rw[t7,<- hl]
   exact i8 h1
  exact W.ki_setBack ho (by omega) (by rw[t7,<- hl];exact h3) (by omega) (by rw[hk];exact⟨_,I',q⟩)
theorem zcx (lo hi:Option Int)(n:Nat):(sliceBounds lo hi none n).1=((HT.sIx n 0 lo:Nat):Int)/\(sliceBounds lo hi none n).2.1=((HT.sIx n n hi:Nat):Int)/\(sliceBounds lo hi none n).2.2=1:=by
 refine⟨?_,?_,rfl⟩
 .cases lo with
  | none=>simp[sliceBounds,HT.sIx]
  | some i =>
   simp only[sliceBounds,HT.sIx,Option.getD_none,show(1:Int) > 0 by decide,u2I]
   by_cases h:i < 0
   .simp only[h,u2I] <;> omega
   .simp only[h,u3i] <;> omega
 .cases hi with
  | none=>simp[sliceBounds,HT.sIx]
  | some i =>
   simp only[sliceBounds,HT.sIx,Option.getD_none,show(1:Int) > 0 by decide,u2I]
   by_cases h:i < 0
   .simp only[h,u2I] <;> omega
   .simp only[h,u3i] <;> omega
theorem zbq (its:List Value)(lo hi:Option Int):slicePick its.toArray lo hi none=((its.drop (HT.sIx its.length 0 lo)).take (HT.sIx its.length its.length hi - HT.sIx its.length 0 lo)).toArray:=by
 obtain⟨h1,h2,h3⟩:=zcx lo hi its.toArray.size
 unfold slicePick
 rw[h1,h2,h3]
 simp only[sliceRange_one,pick_run,t7] <;> rfl
def rSlL (K:W.Frag):V->Option Int->Option Int->Hp->VK->Prop:=λx lo hi H Q=>∃ a xs,x=.ref a/\SqL K H a xs/\∀ p,H p=none->Q (.ref p) (upd H p (.lst (zdm xs lo hi)))
theorem zlB:SlR X (rSlL X.K):=by
 intro pins s σ H x v vl vu lo hi sl Q I rx hs pl pu h
 obtain⟨a,xs,rfl,hx,q⟩:=h
 cases rx
 obtain⟨its,r,ht,hz⟩:=I.list hx
 have hlen:=r.length
 refine⟨"list",_,slot_list_getitem.lookup,ht.isList.typeIs,?_⟩
 refine wpAny_getItem_list_slice ht.isList hs pl pu .none (by simp) ?_ (by rw[t7] <;> omega)
 rw[zbq,<- hlen]
 refine⟨.ref s.heap.objs.size,_,I.laid (t':=s.toks) (o:=.lst (zdm xs lo hi)) (λb ob q=>u4 _ q) (t5 _) ?_,rfl,q _ (I.hok.fresh (t5 _))⟩
 exact⟨p6 (V7 xs lo hi) hz,_,0,(r.drop (HT.sIx xs.length 0 lo)).take (HT.sIx xs.length xs.length hi - HT.sIx xs.length 0 lo),j6 _ rfl⟩
def zfm:V->Bool
 | .non=>true
 | .bl _=>true
 | .int _=>true
 | .str _=>true
 | _=>false
def eqV:V->V->Bool
 | .non,.non=>true
 | .bl a,.bl b=>a == b
 | .bl a,.int b=>(if a then 1 else 0) == b
 | .int a,.bl b=>a == (if b then 1 else 0)
 | .int a,.int b=>a == b
 | .str a,.str b=>a == b
 | _,_=>false
theorem zgD {A:Around}{s:Shared}{y x:V}{u v:Value}(ry:yZ y u)(rx:yZ x v)(fy:zfm y=true)(fx:zfm x=true):SeqAt.EqAt A s u v (eqV y x):=by
 cases y with
 | non =>
  cases ry
  cases x with
  | non=>cases rx;exact SeqAt.EqAt.same _
  | bl b=>cases rx;exact SeqAt.EqAt.none_bool b
  | int b=>obtain⟨t,rfl⟩:=rx;exact SeqAt.EqAt.none_int b t
  | str b=>obtain⟨t,rfl⟩:=rx;exact SeqAt.EqAt.none_str b t
  | _=>exact absurd (show false=true from fx) u9
 | bl a =>
  cases ry
  cases x with
  | non=>cases rx;exact SeqAt.EqAt.bool_none a
  | bl b=>cases rx;exact SeqAt.EqAt.bool_bool a b
  | int b=>obtain⟨t,rfl⟩:=rx;exact SeqAt.EqAt.bool_int a b t
  | str b=>obtain⟨t,rfl⟩:=rx;exact SeqAt.EqAt.bool_str a b t
  | _=>exact absurd (show false=true from fx) u9
 | int a =>
  obtain⟨t',rfl⟩:=ry
  cases x with
  | non=>cases rx;exact SeqAt.EqAt.int_none a t'
  | bl b=>cases rx;exact SeqAt.EqAt.int_bool a t' b
  | int b=>obtain⟨t,rfl⟩:=rx;exact u3f a t' b t
  | str b=>obtain⟨t,rfl⟩:=rx;exact SeqAt.EqAt.int_str a t' b t
  | _=>exact absurd (show false=true from fx) u9
 | str a =>
  obtain⟨t',rfl⟩:=ry
  cases x with
  | non=>cases rx;exact SeqAt.EqAt.str_none a t'
  | bl b=>cases rx;exact SeqAt.EqAt.str_bool a t' b
  | int b=>obtain⟨t,rfl⟩:=rx;exact SeqAt.EqAt.str_int a t' b t
  | str b=>obtain⟨t,rfl⟩:=rx;exact SeqAt.EqAt.str_str a t' b t
  | _=>exact absurd (show false=true from fx) u9
 | _=>exact absurd (show false=true from fy) u9
def eqU (x:V)(u:Value):Bool:=match u with
 | .none=>eqV .non x
 | .bool b=>eqV (.bl b) x
 | .int i _=>eqV (.int i) x
 | .str z _=>eqV (.str z) x
 | _=>false
theorem znO {x y:V}{u:Value}(r:yZ y u)(f:zfm y=true):eqU x u=eqV y x:=by
 cases y with
 | non=>cases r;rfl
 | bl b=>cases r;rfl
 | int i=>obtain⟨t,rfl⟩:=r;rfl
 | str z=>obtain⟨t,rfl⟩:=r;rfl
 | _=>exact absurd (show false=true from f) u9
theorem zbi {A:Around}{s:Shared}{x:V}{v:Value}(rx:yZ x v)(fx:zfm x=true):∀ {xs:List V} {us:List Value},yM xs us->xs.all zfm=true->∀ u∈us,SeqAt.EqAt A s u v (eqU x u)
 | _,_,.nil,_=>λu hu=>by cases hu
 | y::xs,u::us,.cons r t,f=>λu' hu=>by
  rw[u2j,g0]at f
  rcases j9.mp hu with rfl | hu
  .rw[znO r f.1];exact zgD r rx f.1 fx
  .exact zbi rx fx t f.2 u' hu
theorem zQ:Y2 X (.builtin "len") (λxs H Q=>∃ p ys,xs=[.ref p]/\(SqL X.K H p ys\/SqT X.K H p ys)/\Q (.int ys.length) H):=by
 intro pins s σ H xs us Q I r h
 obtain⟨p,ys,rfl,hq,q⟩:=h
 obtain⟨u,rfl,rx⟩:=WW r
 cases rx
 have hn:=zcu
 rcases hq with hq | hq
 .obtain⟨its,r',pl,hz⟩:=I.list hq
  have hlen:=r'.length
  exact Calls.call_len_list pl.isList (by simp only[t7] <;> omega) ⟨.int ys.length,H,I.tok _,⟨s.toks+1,by rw[t7,hlen]⟩,q⟩
 .obtain⟨its,r',pl,hz⟩:=I.tuple hq
  have hlen:=r'.length
  exact len_tuple pl (by simp only[t7] <;> omega) ⟨.int ys.length,H,I.tok _,⟨s.toks+1,by rw[t7,hlen]⟩,q⟩
theorem zcc:Y2 X (.type "list") (λxs H Q=>∃ p ys,xs=[.ref p]/\(SqL X.K H p ys\/SqT X.K H p ys)/\∀ l,H l=none->Q (.ref l) (upd H l (.lst ys))):=by
 intro pins s σ H xs us Q I r h
 obtain⟨p,ys,rfl,hq,q⟩:=h
 obtain⟨u,rfl,rx⟩:=WW r
 cases rx
 have fin:∀ (its:List Value),yM ys its->ys.length<=sizeLine->∀ (h':Heap) (c':Nat),(∀ b o',s.heap.get? b=some o'->h'.get? b=some o') ->
  h'.get? s.heap.objs.size=some { cls:=.type "list",dict:=none,data:=.seq its.toArray c',slots:=#[] }->EP X pins σ Q (.ref s.heap.objs.size) { s with heap:=h' }:=λits r' hz h' c' kp e =>
  ⟨.ref s.heap.objs.size,_,I.laid (t':=s.toks) kp (t5 _) (show yY X.prog X.w _ h' _ (.lst ys) from⟨hz,its,c',r',e⟩),rfl,q _ (I.hok.fresh (t5 _))⟩
 rcases hq with hq | hq
 .obtain⟨its,r',pl,hz⟩:=I.list hq
  have hlen:=r'.length
  obtain⟨o,ho,hc,n,hd⟩:=pl.isList
  exact call_list_seq p (.inl rfl) ho hc hd (λh' c' kp e=>fin its r' hz h' c' kp e) (by simp only[t7] <;> omega)
 .obtain⟨its,r',pl,hz⟩:=I.tuple hq
  have hlen:=r'.length
  obtain⟨o,ho,hc,n,hd⟩:=pl
  exact call_list_seq p (.inr rfl) ho hc hd (λh' c' kp e=>fin its r' hz h' c' kp e) (by simp only[t7] <;> omega)
theorem yC:Y2 X (.type "tuple") (λxs H Q=>∃ p ys,xs=[.ref p]/\((SqL X.K H p ys/\∀ l,H l=none->Q (.ref l) (upd H l (.tup ys)))\/(SqT X.K H p ys/\Q (.ref p) H))):=by
 intro pins s σ H xs us Q I r h
 obtain⟨p,ys,rfl,h⟩:=h
 obtain⟨u,rfl,rx⟩:=WW r
 cases rx
 rcases h with ⟨hq,q⟩ | ⟨hq,q⟩
 .obtain⟨its,r',pl,hz⟩:=I.list hq
  have hlen:=r'.length
  refine call_tuple_list pl.isList (λh' kp=>?_) (by simp only[t7] <;> omega)
  have I1:Inv X pins σ H { s with heap:=h' }:=I.kept (t':=s.toks) kp
  have I2:Inv X pins σ (upd H h'.objs.size (.tup ys)) { s with heap:=h'.push { cls:=.type "tuple",data:=.seq its.toArray } } :=
   I1.laid (t':=s.toks) (λb o e=>u4 _ e) (t5 _) (show yY X.prog X.w _ _ _ (.tup ys) from⟨hz,its,r',IsTup.new _ _⟩)
  exact⟨.ref h'.objs.size,_,I2,rfl,q _ (I1.hok.fresh (t5 _))⟩
 .obtain⟨its,r',pl,hz⟩:=I.tuple hq
  exact call_tuple_same pl ⟨.ref p,H,I,rfl,q⟩
def tyV (K:W.Frag)(T:String)(x:V)(H:Hp):Prop:=match x with
 | .str _=>T="str"
 | .int _=>T="int"
 | .ref p=>(T="list"/\∃ xs,SqL K H p xs)\/(T="tuple"/\∃ o,K.lookup p=some o/\o.cls=.type "tuple"/\o.dict=none) \/
  (T="dict"/\((∃ kvs,H p=some (.dK kvs))\/∃ kvs,H p=some (.dT kvs)))\/(T="set"/\∃ S n,H p=some (.set S n))
 | _=>False
theorem zoU {pins:List (Addr × Obj)}{σ:St}{H:Hp}{s:Shared}{T:String}{x:V}{v:Value}(I:Inv X pins σ H s)(r:yZ x v)(ty:tyV X.K T x H) :
 s.TypeIs v T/\∀ a,v=.ref a->∃ ob,s.heap.get? a=some ob/\ob.dict=none:=by
 cases x with
 | str z =>
  obtain⟨t,rfl⟩:=r
  cases (show T="str" from ty)
  exact⟨typeIs_str s z t,λ_ e=>nomatch e⟩
 | int i =>
  obtain⟨t,rfl⟩:=r
  cases (show T="int" from ty)
  exact⟨typeIs_int s i t,λ_ e=>nomatch e⟩
 | ref p =>
  cases r
  rcases ty with ⟨rfl,xs,hq⟩ | ⟨rfl,o,hk,hc,hd⟩ | ⟨rfl,hk⟩ | ⟨rfl,S,n,hk⟩
  .obtain⟨its,_,pl,_⟩:=I.list hq
   refine⟨pl.isList.typeIs,λa e=>?_⟩
   cases e
   obtain⟨o,n,e,c,hd,_⟩:=pl
   exact⟨o,e,hd⟩
  .refine⟨⟨o,I.kIn p o hk,hc⟩,λa e=>?_⟩
   cases e
   exact⟨o,I.kIn _ o hk,hd⟩
  .have z:∃ o,s.heap.get? p=some o/\o.ExactDict:=by
    rcases hk with ⟨kvs,hk⟩ | ⟨kvs,hk⟩
    .obtain⟨_,_,_,_,o,_,_,e,ex,_⟩:=I.hok p _ hk
     exact⟨o,e,ex⟩
    .obtain⟨_,_,_,_,o,_,_,e,ex,_⟩:=I.hok p _ hk
     exact⟨o,e,ex⟩
   obtain⟨o,e,ex⟩:=z
   refine⟨⟨o,e,ex.1⟩,λa e2=>?_⟩
   cases e2
   exact⟨o,e,ex.2.1⟩
  .obtain⟨o,_,_,_,e,ex,_⟩:=I.hok p _ hk
   refine⟨⟨o,e,ex.1⟩,λa e2=>?_⟩
   cases e2
   exact⟨o,e,ex.2.1⟩
 | _=>exact False.elim ty
def tBM (K:W.Frag)(T:String)(r:V->List V->Hp->VK->Prop)(to:TE)(t:TA):TE:=fun σ H Q=>to σ H λx H1=>tyV K T x H1/\t σ H1 λxs H2=>r x xs H2 Q
variable {o e:Expr}{es:List Expr}{to:TE}{t:TA}{name:Str}{apos cpos:Pos}{T id:String}{r:V->List V->Hp->VK->Prop}
theorem V1 (pa:PlainAttrs T) (slot:Slot T name id) (hty:typeOf (.builtin id)=pure (.type "method_descriptor")) (hm:MtR X id r) (ho:PE X o to) (ha:PA X (e::es) t)
 (hbase:attributeBase o name X.env (eval o X.env)=eval o X.env:=by rfl)
 (hfew:((backTo cpos (starEach (e::es) X.env)).all (λx=>!x.1)&&(backToKw cpos (keywordEach [] X.env)).all (λx=>x.1.isSome)
  && decide ((e::es).length+([]:List Keyword).length+(if ([]:List Keyword).isEmpty then 0 else 1) < 30))=true:=by rfl)
 (hline:(apos.endLine == cpos.line)=true:=by rfl) (hs:starEach (e::es) X.env=(false,eval e X.env)::starEach es X.env:=by rfl) (hplain:(backTo cpos (starEach es X.env)).any (·.1)=false:=by rfl) :
 PE X (.Call (.Attribute o name apos) (e::es) [] cpos) (tBM X.K T r to t):=by
 intro pins s σ H Q I h
 refine wpAny_Call_method_late hbase hfew hline rfl (thn (ho pins s σ H _ I h) λv s1 hh9=>?_)
 obtain⟨x,H1,I1,r1,ty,q1⟩:=hh9
 obtain⟨h1,h2⟩:=zoU I1 r1 ty
 refine⟨T,id,pa,slot,hty,h1,h2,?_⟩
 have hA:=ha cpos pins s1 σ H1 _ I1 q1
 rw[hs]at hA ⊢
 refine Calls.callWith_builtin (by show(false||(backTo cpos (starEach es X.env)).any (·.1))=false;rw[hplain] <;> rfl) (Calls.evalArgs_plain ?_)
 exact thn hA λus s2 ⟨vs,H2,I2,r2,q2⟩=>hm pins s2 σ H2 x vs v us Q I2 r1 r2 q2
/- xs.append(e),list.index on a module's tuple .. are MtR zoA of 06m -/
end
def MtM (X:Cx)(id:String)(r:V->List V->Hp->VK->Prop):Prop :=
 ∀ (pins:List (Addr × Obj)) (s:Shared) (σ:St) (H:Hp) (x:V) (xs:List V) (v:Value) (us:List Value) (Q:VK),Inv X pins σ H s->yZ x v->yM xs us->r x xs H Q ->
  wpAny (model X.prog X.w) X.A (call (.builtin id) (v::us)) (EP X pins σ Q) X.xe s
theorem yM.one:∀ {x:V} {us:List Value},yM [x] us->∃ u,us=[u]/\yZ x u:=by
 intro x us h
 cases h with | cons r t=>cases t;exact⟨_,rfl,r⟩
theorem yM.rep {xs:List V}{us:List Value}(h:yM xs us):∀ k:Nat,yM (List.replicate k xs).flatten (List.replicate k us).flatten
 | 0=>.nil
 | k+1=>by
  rw[u06,u06,u1C,u1C]
  exact yM.append h (yM.rep h k)
theorem zct (its:List Value):∀ (k:Nat) (acc:List Value),
 List.foldl (λx1 x2=>x1++x2) acc.toArray (List.replicate k its.toArray)=(acc++(List.replicate k its).flatten).toArray
 | 0,acc=>by simp
 | k+1,acc=>by
  have e:acc.toArray++its.toArray=(acc++its).toArray:=by simp
  have e2:(acc++its)++(List.replicate k its).flatten=acc++(List.replicate (k+1) its).flatten:=by
   rw[u06,u1C,u1j]
  rw[<-e2,<- zct its k (acc++its),<- e,u06,List.foldl_cons]
section
variable {X:Cx}{pins:List (Addr × Obj)}{σ:St}{H:Hp}{s:Shared}{l b:Addr}{xs ys zs:List V}
theorem Inv.lset {its its':List Value}{n:Nat}{f:Array Value->Array Value}{t':Nat}(I:Inv X pins σ H s)(hH:H l=some (.lst xs))
 (e:s.heap.get? l=some { cls:=.type "list",data:=.seq its.toArray n }) (hf:f its.toArray=its'.toArray) (hv:yM ys its') (hz:ys.length<=sizeLine) :
 Inv X pins σ (upd H l (.lst ys)) { s with heap:=s.heap.update l (Obj.mapSeq f),toks:=t' }:=by
 have q:=PySem.IsL.update e f
 rw[hf]at q
 refine I.write (x:=l) (e:=l) (by rw[hH];exact trivial) (.inl rfl) (λb' u hb hu=>(u0e s.heap (Obj.mapSeq f) (u0R hb)).trans hu) ⟨_,q⟩ ?_
 exact⟨hz,its',_,hv,q⟩
theorem Inv.lnew {its:List Value}{t':Nat}(I:Inv X pins σ H s)(hv:yM ys its)(hz:ys.length<=sizeLine) :
 Inv X pins σ (upd H s.heap.objs.size (.lst ys)) { s with heap:=s.heap.push { cls:=.type "list",data:=.seq its.toArray },toks:=t' } :=
 I.laid (λ_ _ q=>u4 _ q) (t5 _) ⟨hz,its,0,hv,j6 _ rfl⟩
theorem Inv.fresh (I:Inv X pins σ H s):H s.heap.objs.size=none:=I.hok.fresh (t5 _)
theorem Inv.lstM (I:Inv X pins σ H s) (hH:H l=some (.lst xs)):xs.length<=sizeLine/\∃ (its:List Value) (n:Nat),yM xs its/\xs.length=its.length/\s.heap.get? l=some { cls:=.type "list",data:=.seq its.toArray n }:=by
 obtain⟨z,its,n,r,e⟩:=I.hok l _ hH
 exact⟨z,its,n,r,r.length,e⟩
theorem zeL {n:Nat}(h:n<=sizeLine):Builtin.List.listTooLong n=false:=by
 unfold Builtin.List.listTooLong
 exact g9 (by omega)
end
section
variable {X:Cx}
def zhv:V->List V->Hp->VK->Prop:=λx vs H Q=>∃ l xs y,x=.ref l/\vs=[y]/\H l=some (.lst xs)/\xs.length < sizeLine/\Q .non (upd H l (.lst (xs++[y])))
theorem wc:MtM X "list.append" zhv:=by
 intro pins s σ H x vs v us Q I rx rv h
 obtain⟨l,xs,y,rfl,rfl,hH,hz,q⟩:=h
 cases rx
 obtain⟨u,rfl,ru⟩:=rv.one
 obtain⟨z,its,n,r,hl,e⟩:=I.lstM hH
 refine u38 F.slot_list_append ⟨_,e,rfl⟩ F.entry_list_append (F.args_list_append_2 _ _) (PySem.list_append l its.toArray n u (by rw[t7];omega)) ⟨e,?_⟩
 refine⟨.non,_,I.lset (its':=its++[u]) hH e (by simp) (r.append (.cons ru .nil)) ?_,rfl,q⟩
 rw[j8,u11]
 omega
def zhK:V->List V->Hp->VK->Prop:=λx vs H Q=>∃ l b xs zs,x=.ref l/\vs=[.ref b]/\H l=some (.lst xs)/\H b=some (.lst zs)/\xs.length+zs.length<=sizeLine/\Q .non (upd H l (.lst (xs++zs)))
theorem zgf:MtM X "list.extend" zhK:=by
 intro pins s σ H x vs v us Q I rx rv h
 obtain⟨l,b,xs,zs,rfl,rfl,hH,hB,hz,q⟩:=h
 cases rx
 obtain⟨u,rfl,ru⟩:=rv.one
 cases ru
 obtain⟨z,its,n,r,hl,e⟩:=I.lstM hH
 obtain⟨z2,its2,n2,r2,hl2,e2⟩:=I.lstM hB
 have hsz:its.toArray.size+its2.toArray.size<=sizeLine:=by rw[t7,t7];omega
 have hlong:¬ (!its.toArray.isEmpty&&Builtin.List.listTooLong (its.toArray.size+its2.toArray.size))=true:=by
  rw[zeL hsz,u16]
  exact u9
 refine u38 F.slot_list_extend ⟨_,e,rfl⟩ F.entry_list_extend (F.args_list_extend_2 _ _)
  (AutoSeq1.list_extend_list_list_0 l its.toArray n b its2.toArray n2 hlong (by rw[t7];omega) (by omega)) ⟨e,e2,?_⟩
 refine⟨.non,_,I.lset (its':=its++its2) hH e (by simp) (r.append r2) ?_,rfl,q⟩
 rw[j8]
 omega
def rCat:R2:=λx y H Q=>∃ l b xs zs,x=.ref l/\y=.ref b/\H l=some (.lst xs)/\H b=some (.lst zs)/\xs.length+zs.length<=sizeLine/\∀ p,H p=none->Q (.ref p) (upd H p (.lst (xs++zs)))
theorem zn9:OpR X (binaryOp .Add) rCat:=by
 intro pins s σ H x y v u Q I rx ry h
 obtain⟨l,b,xs,zs,rfl,rfl,hH,hB,hz,q⟩:=h
 cases rx
 cases ry
 obtain⟨z,its,n,r,hl,e⟩:=I.lstM hH
 obtain⟨z2,its2,n2,r2,hl2,e2⟩:=I.lstM hB
 refine PySem.P.add_list e e2 ?_ (by rw[t7,t7];omega)
 have ea:its.toArray++its2.toArray=(its++its2).toArray:=by simp
 rw[ea]
 exact⟨.ref _,_,I.lnew (t':=s.toks) (r.append r2) (by rw[j8];omega),rfl,q _ I.fresh⟩
def rRep:R2:=λx y H Q=>∃ l k xs,x=.ref l/\y=.int k/\H l=some (.lst xs)/\-(2 ^ 63)<=k/\k < 2 ^ 63/\xs.length*k.toNat<=sizeLine /\
 ∀ p,H p=none->Q (.ref p) (upd H p (.lst (List.replicate k.toNat xs).flatten))
theorem zlu {α:Type}(xs:List α)(k:Nat):(List.replicate k xs).flatten.length=k*xs.length:=by
 induction k with
 | zero=>simp
 | succ k ih=>rw[u06,u1C,j8,ih,Nat.succ_mul,Nat.add_comm]
theorem znc:OpR X (binaryOp .Mult) rRep:=by
 intro pins s σ H x y v u Q I rx ry h
 obtain⟨l,k,xs,rfl,rfl,hH,h1,h2,hz,q⟩:=h
 cases rx
 obtain⟨t,rfl⟩:=ry
 obtain⟨z,its,n,r,hl,e⟩:=I.lstM hH
 have hlen:its.toArray.size*k.toNat<=sizeLine:=by rw[t7,<- hl];exact hz
 have hcap:¬ its.toArray.size*k.toNat > (2 ^ 63 - 1) / 8:=by
  have:(sizeLine:Nat)<=(2 ^ 63 - 1) / 8:=by decide
  omega
 have hfit:¬ (!Builtin.List.listFitsIndex k)=true:=by
  rw[fitsIndex_both h1 h2]
  exact u9
 have hlong:¬ Builtin.List.listTooLong (its.toArray.size*k.toNat)=true:=by
  rw[zeL hlen]
  exact u9
 have hnew:List.foldl (λx1 x2=>x1++x2) #[] (List.replicate (if its.toArray.isEmpty=true then 0 else k.toNat) its.toArray)=(List.replicate k.toNat its).flatten.toArray:=by
  have f0:∀ m:Nat,List.foldl (λx1 x2=>x1++x2) #[] (List.replicate m its.toArray)=(List.replicate m its).flatten.toArray:=λm=>by
   have:=zct its m []
   rw[List.nil_append]at this
   exact this
  rw[f0]
  cases its with
  | nil=>simp
  | cons a r'=>rw[j4 (by simp)]
 refine wpAny_binaryOp_repeat_ref (T:="list") (U:="int") (by decide) ⟨_,e,rfl⟩ (λs'=>typeIs_int s' k t) noFill_list_mul F.fills_int_mul F.slot_int_rmul repeat_list F.slot_int_index.lookup
  (u38 F.slot_int_rmul (typeIs_int s k t) F.entry_int_rmul (F.args_int_rmul_2 _ _) (int___rmul___int_list k t l its.toArray n)
   ⟨e,rfl,⟨_,e,rfl⟩,u38 F.slot_list_mul ⟨_,e,rfl⟩ F.entry_list_mul (F.args_list_mul_2 _ _) (AutoListH.list___mul___list_int_3 l its.toArray n k t hfit hcap hlong) ⟨e,?_⟩⟩)
 rw[hnew]
 exact⟨.ref _,_,I.lnew (t':=s.toks) (r.rep k.toNat) (by rw[zlu,Nat.mul_comm];exact hz),rfl,q _ I.fresh⟩
end
end L2
namespace Att
open PySem PySem.W PySem.Calls PyProof.Rows
theorem V6 {P:Params}{h:Heap}:∀ (ns:List Int) (vs:List Value),WellAll P h vs (ns.map WData.int)->IntsAre vs ns:=by
 intro ns
 induction ns with
 | nil =>
  intro vs w
  rw[List.map_nil]at w
  cases w
  exact .nil
 | cons n ns ih =>
  intro vs w
  rw[p7]at w
  cases w with
  | cons a b =>
   cases a
   exact .cons _ _ (ih _ b)
theorem zg9 {l:OpenLaw}{n:Nat}(hn:l.most=some n){P:Params}{h:Heap}{args:List WData}{vals:List Value}
 (hpre:l.row.toRowW.claim.pre args=true) (hwl:WellAll P h vals args) :
 ∃ a vs ns,vals=[Value.ref a]/\args=[WData.list (ns.map WData.int)]/\h.get? a=some { cls:=.type "list",data:=.seq vs.toArray }/\IntsAre vs ns/\ns.length<=n:=by
 have hsh:WShape.hasAll [] args [.list .int]=true:=(pre_splitW hpre).1
 have hc:l.pre.holds [] { args:=args }=true:=(pre_splitW hpre).2
 obtain⟨d,r,rfl,h1,h2⟩:=hasAllW_cons hsh
 obtain rfl:=hasAllW_nil h2
 obtain⟨xs,rfl,h3⟩:=hasW_list h1
 obtain⟨ns,rfl⟩:=items_int h3
 have hlen:ns.length<=n:=by
  unfold OpenLaw.pre at hc
  have h4:(WTm.not (.lt (.lit (.int (n:Int))) (.len (.arg 0)))).holds [] { args:=[.list (ns.map .int)] }=true:=by
   have h4:=(holds_andW hc).1
   rw[hn]at h4
   exact h4
  have h5:=condW_of h4 (w_not (w_lt w_lit (w_len_list (w_arg rfl))))
  rw[u6]at h5
  refine u0M λq=>?_
  have q':(n:Int) < ((ns.length:Nat):Int):=by omega
  first
   | (rw[j7 q']at h5;exact absurd h5 (by decide))
   | (simp at h5;omega)
 cases hwl with
 | cons w1 w2 =>
  cases w2
  cases w1 with
  | list ho hall=>exact⟨_,_,ns,rfl,rfl,ho,V6 ns _ hall,hlen⟩
theorem zin (l:OpenLaw)(args:List WData):l.row.toRowW.claim.post args (.bool true) args=true :=
 postW_of (r:=l.row.toRowW) (X:=(true == true))
  (show WShape.has [] (.bool true) .bool=true by first | rfl | decide | simp[WShape.has,WShape.arms,WShape.armsAll])
  (show(WTm.eq .res (.lit (.bool true))).value [] { args:=args,res:=some (.bool true),after:=args }=some (.bool (true == true))from w_eq_bool (w_res rfl) w_lit) rfl
theorem attach_call {l:OpenLaw}{n:Nat}{q:Program}{loose:List Str}{XP:(Str->Option Value)->Heap->Prop}{YP:World->Heap->Prop}{d:DefRec}
 (hn:l.most=some n) (hdf:d.params.defaults=[])
 (call:∀ (w:World) (s₀ s₁:Shared) (mg mb:Str->Option Value) (fa:Addr) (o:Obj) (pm cd doc:Value) (a:Addr) (vs:List Value) (ns:List Int),
  Ground q loose [] XP w s₀ mg mb s₁.heap->YP w s₁.heap ->
  s₁.heap.get? fa=some o->o.data=.func (docDef d.name d.params d.body d.scope pm cd doc)->s₁.heap.CodeRec cd d.name->mg d.name=some (.ref fa) ->
  s₁.heap.get? a=some { cls:=.type "list",data:=.seq vs.toArray }->IntsAre vs ns->ns.length<=n->s₁.gens=#[] ->
  codeAny (model l.prog w) callerA (.call (.ref fa) ⟨[.ref a],[]⟩) (λr s'=>r=.ok (.ret (.bool true))/\OldK s₁.heap s'.heap/\s'.os=s₁.os/\AllBare s'.gens) s₁) :
 WalkO q loose XP YP l.row.toRowW d [] (λf vs=>PySem.call f vs):=by
 intro w s₀ s₁ mg mb G Y fa o pm cd doc dV kV ho hd hcd hD hmg hg args vals as hpre hlay hrd hwl hlo
 obtain rfl:dV=.none:=Dflts.none hD hdf
 obtain rfl:kV=.none:=Dflts.noKw hD
 obtain⟨a,vs,ns,rfl,rfl,hobj,hints,hlen⟩:=zg9 hn hpre hwl
 refine enter_call (u3h (call w s₀ s₁ mg mb fa o pm cd doc a vs ns G Y ho (fd_plain hd) hcd hmg hobj hints hlen hg) λr s' hq=>?_)
 obtain⟨rfl,h2,h3,h4⟩:=hq
 exact⟨.inl ⟨.bool true,.bool true,[],rfl,λ_=>rfl,.bool true,zin l _,λ_=>⟨List.Pairwise.nil,λ_ hm=>(nomatch hm)⟩⟩,h2,h3,h4⟩
section
variable {prog:Program}{w:World}{A:Around}{E:Value->Shared->Prop}{s:Shared}{K:Frag}
def ledger (h:Heap)(L d:Addr):List (Addr × Obj):=(List.range h.objs.size).filterMap λa=>if a=L\/a=d then none else (h.get? a).map λo=>(a,o)
end
end Att
namespace L2
open PySem PySem.Spec PyProof.Rows
theorem zal:∀ {vs:List Value} {ns:List Int},IntsAre vs ns->yM (ns.map V.int) vs:=by
 intro vs ns h
 induction h with
 | nil=>exact .nil
 | cons n t h ih=>exact .cons ⟨t,rfl⟩ ih
def zpW (H:Hp):Prop:=∀ b,H b=none\/∃ o xs,H b=some (.frz o (.lst xs))
theorem zjY {P:Program}{w:World}{K:W.Frag}{mg mb:Str->Option Value}{CX:CXT}{k:Nat}{fa a:Addr}{fd:FuncData}{x:Str}{sp:Sp}{s₁:Shared}{vs:List Value}{ns:List Int}
 (KX:K.In s₁.heap) (hns:s₁.heap.Ns mainGlobals mg) (hb:s₁.heap.Ns builtinsNs mb) (hbb:∀ x:Str,x≠"__name__"->mb x=bootBuiltins x) (hlim:s₁.heap.NoLimit) (hg:s₁.gens=#[])
 (ha:s₁.heap.get? a=some { cls:=.type "list",data:=.seq vs.toArray }) (hi:IntsAre vs ns) (hl:ns.length<=sizeLine) (hr:Zv k callerA)
 (F:∀ base:Heap,K.In base->base.Ns mainGlobals mg->xc P w K mg base CX k fa fd [x] sp) (hbind:∀ (s:Shared) (u:Value),BindsTo s fd ⟨[u],[]⟩ [(x,u)])
 (hsp:∀ H:Hp,zpW H->SqL K H a (ns.map V.int)->sp [.ref a] H (λv _=>v=.bl true) λ_ _ _=>False)
 (hCX:∀ H e s',CX [] H s₁ (λ_ _ _=>False) e s'->False) :
 codeAny (model P w) callerA (.call (.ref fa) ⟨[.ref a],[]⟩) (λr s'=>r=.ok (.ret (.bool true))/\OldK s₁.heap s'.heap/\s'.os=s₁.os/\AllBare s'.gens) s₁:=by
 have rv:=zal hi
 have lenV:=hi.length
 -- from an abstract heap in which nothing but the script may be tracked
 have core:∀ H:Hp,zpW H->SqL K H a (ns.map V.int)->HOk P w H s₁.heap->(∀ b,H b≠none->b=a)->(H a≠none->K.lookup a=none) ->
  codeAny (model P w) callerA (.call (.ref fa) ⟨[.ref a],[]⟩) (λr s'=>r=.ok (.ret (.bool true))/\OldK s₁.heap s'.heap/\s'.os=s₁.os/\AllBare s'.gens) s₁:=by
  intro H hO hS hok hA hK
  have base_of:∀ {b:Addr} {o:Obj},s₁.heap.get? b=some o->H b=none->(zj2 s₁.heap H).get? b=some o:=λe n=>zkk e n
  have noA:∀ {b:Addr} {o:Obj} {es:Array DictEntry} {ep:Nat},s₁.heap.get? b=some o->o.data=.dict es ep->H b=none:=λ{b o es ep} e d=>by
   cases q:H b with
   | none=>rfl
   | some u =>
    have e':b=a:=hA b (by rw[q];simp)
    subst e'
    rw[ha]at e;cases e
    have d':Data.seq vs.toArray _=Data.dict es ep:=d
    cases d'
  have nsK:∀ {b:Addr} {m:Str->Option Value},s₁.heap.Ns b m->(zj2 s₁.heap H).Ns b m:=λ{b m} ⟨o,es,ep,e,d,r⟩=>⟨o,es,ep,base_of e (noA e d),d,r⟩
  have hKb:K.In (zj2 s₁.heap H):=λb o e=>base_of (KX b o e) (by
   cases q:H b with
   | none=>rfl
   | some u =>
    have e':b=a:=hA b (by rw[q];simp)
    subst e'
    rw[hK (by rw[q];simp)]at e;cases e)
  have hM:Mod K mg (zj2 s₁.heap H):=⟨hKb,nsK hns,⟨mb,nsK hb,hbb⟩,let ⟨mc,h1,h2⟩:=hlim;⟨mc,nsK h1,h2⟩⟩
  have e0:zoV P w K mg (zj2 s₁.heap H) callerA [] s₁ H:=⟨rfl,hM,λb o e=>zle e,Nat.le_of_eq (zgK _ _),trivial,λb hb=>absurd (show b∈([]:List Addr)from hb) (by simp),hok,.of_eq hg⟩
  refine u3h ((F _ hKb (nsK hns)).run callerA [] s₁ H ⟨[.ref a],[]⟩ [.ref a] [.ref a] _ _ hr e0 (hbind s₁ (.ref a)) (.cons rfl .nil) (hsp H hO hS)) λr s' h=>?_
  cases r with
  | error e=>exact(hCX H e s' h).elim
  | ok fl =>
   cases fl with
   | next=>exact False.elim h
   | brk=>exact False.elim h
   | cont=>exact False.elim h
   | ret u =>
    obtain⟨v,H',os,bare,un,hok',r',q⟩:=h
    have q':v=.bl true:=q
    subst q'
    obtain rfl:u=Value.bool true:=r'
    refine⟨rfl,OldK.of_keep λb o e=>?_,os,bare⟩
    cases q:H b with
    | none=>exact un.keep b o e q (by intro z;exact absurd (show b∈([]:List Addr)from z) (by simp)) (by simp)
    | some u =>
     rcases hO b with z | ⟨ob,xs,z⟩
     .rw[q]at z;cases z
     .have z2:=un.frzs b ob _ z
      obtain⟨e1,_⟩:=hok b _ z
      obtain⟨e2,_⟩:=hok' b _ z2
      rw[e]at e1;cases e1
      exact e2
 cases hk:K.lookup a with
 | some o =>
  -- the script is one of the module's own objects
  have e:=KX a o hk
  rw[ha]at e
  cases e
  refine core (λ_=>none) (λ_=>.inl rfl) (.inr ⟨_,vs.toArray,_,hk,rfl,rfl,rfl,by rw[t7,lenV];exact hl,by simpa using rv⟩) (λb u z=>by have z':(none:Option HO)=some u:=z;cases z') (λb z=>absurd rfl z) λz=>absurd rfl z
 | none =>
  refine core (λb=>if b=a then some (.frz { cls:=.type "list",data:=.seq vs.toArray } (.lst (ns.map V.int)))else none) (λb=>?_) (.inl (.inr ⟨{ cls:=.type "list",data:=.seq vs.toArray },t4 rfl⟩)) (λb u z=>?_) (λb z=>?_) λ_=>hk
  .by_cases hb:b=a
   .exact .inr ⟨_,_,t4 hb⟩
   .exact .inl (j4 hb)
  .by_cases hb:b=a
   .have z':=(t4 hb).symm.trans z
    cases z'
    subst hb
    exact⟨ha,by rw[u6];exact hl,vs,_,rv,ha⟩
   .have z':=(j4 hb).symm.trans z
    cases z'
  .by_cases hb:b=a
   .exact hb
   .exact absurd (j4 hb) z
theorem walk_of {l:W.OpenLaw}{n k:Nat}{q:Program}{loose:List Str}{XP:(Str->Option Value)->Heap->Prop}{YP:World->Heap->Prop}{d:DefRec}{K:Params->W.Frag}{CX:World->CXT}{sp:World->Sp}{x:Str}
 (hn:l.most=some n) (hn2:n<=sizeLine) (hdf:d.params.defaults=[]) (hr:Zv k callerA)
 (hY:∀ (w:World) (h:Heap),YP w h->(K w.params).In h)
 (F:∀ (w:World) (mg:Str->Option Value) (fa:Addr) (h:Heap),(K w.params).In h->h.Ns mainGlobals mg->mg d.name=some (.ref fa) ->
  ∃ fd:FuncData,(∀ (s:Shared) (u:Value),BindsTo s fd ⟨[u],[]⟩ [(x,u)]) /\
   ∀ base:Heap,(K w.params).In base->base.Ns mainGlobals mg->xc l.prog w (K w.params) mg base (CX w) k fa fd [x] (sp w))
 (hsp:∀ (w:World) (H:Hp) (a:Addr) (ns:List Int),ns.length<=n->zpW H->SqL (K w.params) H a (ns.map V.int)->sp w [.ref a] H (λv _=>v=.bl true) λ_ _ _=>False)
 (hCX:∀ (w:World) (H:Hp) (s:Shared) (e:Value) (s':Shared),CX w [] H s (λ_ _ _=>False) e s'->False) :
 PySem.W.WalkO q loose XP YP l.row.toRowW d [] (λf vs=>PySem.call f vs):=by
 refine Att.attach_call hn hdf λw s₀ s₁ mg mb fa o pm cd doc a vs ns G Y ho hd hcd hmg hobj hints hlen hg=>?_
 have KX:=hY w _ Y
 obtain⟨fd,hb,hF⟩:=F w mg fa _ KX G.T.g hmg
 exact zjY KX G.T.g G.T.b G.T.builtins G.T.nolimit hg hobj hints (p6 hlen hn2) hr hF hb (λH hO hS=>hsp w H a ns hlen hO hS) λH e s'=>hCX w H s₁ e s'
def Xn (s:Stmt):Arguments:=match s with
 | .FunctionDef _ a _ _ _ _ _ _ _ _=>a
 | _=>{ posonlyargs:=[],args:=[],vararg:=none,kwonlyargs:=[],kw_defaults:=[],kwarg:=none,defaults:=[] }
def vL (s:Stmt):List Stmt:=match s with
 | .FunctionDef _ _ b _ _ _ _ _ _ _=>b
 | _=>[]
def zm (s:Stmt):Scope:=match s with
 | .FunctionDef _ _ _ _ _ _ sc _ _ _=>sc
 | _=>{ kind:=.function,names:=[],isGenerator:=false,isCoroutine:=false }
abbrev CX0:CXT:=λ_ _ _ _ _ _=>False
abbrev E0:XK:=λ_ _ _=>False
theorem zpv {X:Cx}:zhn CX0 X E0:=λ_ _ _ _ _ _ _ h=>h.elim
structure Fun (K:W.Frag) (x qual:Str) (st:Stmt) (f:Addr) (fd:FuncData):Prop where
 ex:∃ (oc:Value) (od:Option Addr) (kV doc pm:Value) (an:Option Addr) (cdv ct:Value) (osl:Array (Option Value)),
  fd=W.fnOf x qual (Xn st) (vL st) (zm st) .none kV doc pm an cdv ct/\K.lookup f=some ⟨oc,od,.func fd,osl⟩/\W.codeIn K cdv qual=true
 kp:W.keepIn K (.ref f)=true
section
variable {P:Program}{w:World}{K:W.Frag}{mg:Str->Option Value}{base:Heap}
theorem Fun.ok {x qual:Str}{st:Stmt}{f:Addr}{fd:FuncData}{N ps:List Str}{k:Nat}{sp:Sp}(F:Fun K x qual st f fd)(S:zw N ps (zm st))(len:∀ vs H Q E,sp vs H Q E->vs.length=ps.length)
 (hbody:∀ (cdv:Value) (A:Around) (outer:List Env) (s:Shared) (H:Hp) (vs:List V) (Q:VK) (E:XK),Zv k (A.deeper (envOfC qual (zm st) s.heap.objs.size f cdv))->sp vs H Q E ->
  ∃ t,PSs (zju CX0 P w K mg base N qual (zm st) f cdv A outer s H E).nox (vL st) t/\t { nx:=λ_ H'=>Q .non H',rt:=Q } (start N vs) H):xc P w K mg base CX0 (k+1) f fd ps sp:=by
 obtain⟨oc,od,kV,doc,pm,an,cdv,ct,osl,rfl,lk,hcd⟩:=F.ex
 refine zpX lk hcd S len λA outer s H vs Q E hr hsp=>?_
 obtain⟨t,h,q⟩:=hbody cdv A outer s H vs Q E hr hsp
 exact⟨t,h.nox,q⟩
theorem Fun.binds {x qual:Str}{st:Stmt}{f:Addr}{fd:FuncData}{ps:List Str}(F:Fun K x qual st f fd)
 (h:∀ (kV doc pm:Value) (an:Option Addr) (cdv ct:Value) (us:List Value),us.length=ps.length->bindArgs (W.fnOf x qual (Xn st) (vL st) (zm st) .none kV doc pm an cdv ct) ⟨us,[]⟩=pure (ps.zip us)):zd2 K fd ps []:=by
 obtain⟨oc,od,kV,doc,pm,an,cdv,ct,osl,rfl,lk,hcd⟩:=F.ex
 exact .all (h kV doc pm an cdv ct)
theorem zkL {x qual:Str}{st:Stmt}{f:Addr}{oc:Value}{od an:Option Addr}{osl:Array (Option Value)}{kV doc pm cdv ct:Value}(l:K.lookup f=some ⟨oc,od,.func (W.fnOf x qual (Xn st) (vL st) (zm st) .none kV doc pm an cdv ct),osl⟩)
 (c:W.codeIn K cdv qual=true) (k:W.keepIn K (.ref f)=true):Fun K x qual st f (W.fnOf x qual (Xn st) (vL st) (zm st) .none kV doc pm an cdv ct):=⟨⟨oc,od,kV,doc,pm,an,cdv,ct,osl,rfl,l,c⟩,k⟩
end
theorem zlW {A:Around}{k:Nat}(hr:Zv k A):A.units+1 < cLine:=u0a (u1J (by decide:1<=64) _) hr.units
theorem XS {n:Nat}(h:n<=1000):n < sizeLine:=u0a h (by decide)
section
variable {X:Cx}
theorem pv (i:Nat) {x:Str} {pos:Pos} (hN:X.N[i]?=some x:=by rfl) (hv:Vis X.env.scope x:=by first | exact Or.inl rfl | exact Or.inr (Or.inl rfl) | exact Or.inr (Or.inr rfl)) (hd:(x == ("__debug__":Str))=false:=by decide)
 (hcd:(x == ("__classdict__":Str))=false:=by decide):PE X (.Name x pos) (zkQ i):=znR hN hv hd hcd
end
def xa (H H':Hp):Prop:=∀ b o,H b=some o->H' b=some o
theorem xa.refl (H:Hp):xa H H:=λ_ _ h=>h
theorem xa.trans {H H1 H2:Hp}(a:xa H H1)(b:xa H1 H2):xa H H2:=λc o h=>b c o (a c o h)
theorem xa.free {H H':Hp}(e:xa H H'){l:Addr}(h:H' l=Option.none):H l=Option.none:=by
 cases q:H l with
 | none=>rfl
 | some o =>
  rw[e l o q]at h
  cases h
theorem xa.seq {K:W.Frag}{H H':Hp}{a:Addr}{xs:List V}(e:xa H H')(h:SqL K H a xs):SqL K H' a xs:=by
 rcases h with (h | ⟨o,h⟩) | h
 .exact .inl (.inl (e _ _ h))
 .exact .inl (.inr ⟨o,e _ _ h⟩)
 .exact .inr h
section
variable {κ:Type}[DecidableEq κ]
def zew (kvs:List (κ × V))(k:κ):Option V:=(kvs.find? λkv=>decide (kv.1=k)).map (·.2)
def zdq (kvs:List (κ × V))(k:κ)(v:V):List (κ × V) :=
 if (kvs.any λkv=>decide (kv.1=k))=true then kvs.map (λkv=>if kv.1=k then (kv.1,v)else kv)else kvs++[(k,v)]
theorem W5 {p:κ × V}{r:List (κ × V)}{k:κ}(e:p.1=k):zew (p::r) k=some p.2:=by simp[zew,u10,e]
theorem Vl {p:κ × V}{r:List (κ × V)}{k:κ}(e:¬ p.1=k):zew (p::r) k=zew r k:=by simp[zew,u10,e]
theorem zbN (k:κ):∀ kvs:List (κ × V),(kvs.any λkv=>decide (kv.1=k))=(zew kvs k).isSome
 | []=>rfl
 | p::r=>by
  rw[u2M]
  by_cases e:p.1=k
  .simp only[W5 e,j7 e,Bool.true_or,Option.isSome_some]
  .rw[Vl e,g9 e,Bool.false_or];exact zbN k r
theorem Vw (kvs:List (κ × V))(k:κ)(v:V):(zdq kvs k v).length<=kvs.length+1:=by
 unfold zdq
 split
 .rw[u6];omega
 .rw[j8,i6,u32];omega
theorem zfD.isSome_eq {o:Option V}{u:Option Value}(r:zfD o u):o.isSome=u.isSome:=by
 cases o with
 | none=>cases u with
  | none=>rfl
  | some _=>exact(show False from r).elim
 | some _=>cases u with
  | none=>exact(show False from r).elim
  | some _=>rfl
theorem zfD.getD {o:Option V}{u:Option Value}{d:V}{d':Value}(r:zfD o u)(rd:yZ d d'):yZ (o.getD d) (u.getD d'):=by
 cases o with
 | none=>cases u with
  | none=>exact rd
  | some _=>exact(show False from r).elim
 | some _=>cases u with
  | none=>exact(show False from r).elim
  | some _=>exact r
theorem KV.val {kvs:List (κ × V)}{vs:List (κ × Value)}(r:KV kvs vs)(k:κ):zfD (zew kvs k) (valueAt vs k):=by
 unfold KV at r
 induction r with
 | nil=>exact True.intro
 | @cons p q ps qs h t ih =>
  obtain⟨h1,h2⟩:=h
  by_cases e:p.1=k
  .have e':q.1=k:=h1.symm.trans e
   have b:valueAt (q::qs) k=some q.2:=by simp[valueAt,u10,e']
   rw[W5 e,b];exact h2
  .have e':¬ q.1=k:=λz=>e (h1.trans z)
   have b:valueAt (q::qs) k=valueAt qs k:=by simp[valueAt,u10,e']
   rw[Vl e,b];exact ih
theorem KV.any {kvs:List (κ × V)}{vs:List (κ × Value)}(r:KV kvs vs)(k:κ):(kvs.any λkv=>decide (kv.1=k))=vs.any λkv=>decide (kv.1=k):=by
 unfold KV at r
 induction r with
 | nil=>rfl
 | cons h t ih=>rw[u2M,u2M,ih,h.1]
theorem KV.repl {kvs:List (κ × V)}{vs:List (κ × Value)}(r:KV kvs vs)(k:κ){y:V}{u:Value}(ry:yZ y u) :
 KV (kvs.map λkv=>if kv.1=k then (kv.1,y)else kv) (vs.map λkv=>if kv.1=k then (kv.1,u)else kv):=by
 unfold KV at r ⊢
 induction r with
 | nil=>exact .nil
 | @cons p q ps qs h t ih =>
  rw[p7,p7]
  refine .cons ?_ ih
  obtain⟨h1,h2⟩:=h
  by_cases e:p.1=k
  .rw[t4 e,t4 (h1.symm.trans e)];exact⟨h1,ry⟩
  .rw[j4 e,j4 (λz=>e (h1.trans z))];exact⟨h1,h2⟩
theorem KV.put {kvs:List (κ × V)}{vs:List (κ × Value)}(r:KV kvs vs)(k:κ){y:V}{u:Value}(ry:yZ y u):KV (zdq kvs k y) (stored vs k u):=by
 unfold zdq stored
 rw[r.any k]
 by_cases e:(vs.any λkv=>decide (kv.1=k))=true
 .rw[t4 e,t4 e];exact r.repl k ry
 .rw[j4 e,j4 e];exact Paired.snoc r ⟨rfl,ry⟩
theorem KV.keys {kvs:List (κ × V)}{vs:List (κ × Value)}(r:KV kvs vs):kvs.map (·.1)=vs.map (·.1):=by
 unfold KV at r
 induction r with
 | nil=>rfl
 | cons h t ih=>rw[p7,p7,ih,h.1]
theorem KV.length {kvs:List (κ × V)}{vs:List (κ × Value)}(r:KV kvs vs):kvs.length=vs.length:=u2N r
end
theorem zjP {P:Program}{w:World}{k:Key}{u:Value}(r:yZ (kV k) u):(xj P w).is k u=true:=by
 cases k with
 | inl i=>obtain⟨t,e⟩:=(show ∃ t,u=Value.int i t from r);subst e;exact zd5 P w i t
 | inr x=>obtain⟨t,e⟩:=(show ∃ t,u=Value.str x t from r);subst e;exact zdp P w x t
theorem zcZ {P:Program}{w:World}:∀ {ks:List Key} {us:List Value},yM (ks.map kV) us->ItemsAre (xj P w) ks us
 | [],_,r=>by rw[List.map_nil]at r;cases r;exact .nil
 | k::ks,_,r=>by
  rw[p7]at r
  cases r with
  | cons h t=>exact .cons (zjP h) (zcZ t)
abbrev KT (H:Hp):List (List Key × V)->List (List Key × Addr × Value)->Prop:=Paired λp q=>p.1=q.1/\H q.2.1=some (.tup (p.1.map kV))/\yZ p.2 q.2.2
theorem KT.val {H:Hp}{kvs:List (List Key × V)}{xs:List (List Key × Addr × Value)}(r:KT H kvs xs)(k:List Key):zfD (zew kvs k) ((atKey xs k).map (·.2)):=by
 induction r with
 | nil=>exact True.intro
 | @cons p q ps qs h t ih =>
  obtain⟨h1,_,h2⟩:=h
  by_cases e:p.1=k
  .have e':q.1=k:=h1.symm.trans e
   have b:atKey (q::qs) k=some q.2:=by simp[atKey,u10,e']
   rw[W5 e,b];exact h2
  .have e':¬ q.1=k:=λz=>e (h1.trans z)
   have b:atKey (q::qs) k=atKey qs k:=by simp[atKey,u10,e']
   rw[Vl e,b];exact ih
theorem KT.repl {H:Hp}{kvs:List (List Key × V)}{xs:List (List Key × Addr × Value)}(r:KT H kvs xs)(k:List Key){y:V}{u:Value}(ry:yZ y u) :
 KT H (kvs.map λkv=>if kv.1=k then (kv.1,y)else kv) (xs.map (putAt k u)):=by
 induction r with
 | nil=>exact .nil
 | @cons p q ps qs h t ih =>
  rw[p7,p7]
  refine .cons ?_ ih
  obtain⟨h1,h2,h3⟩:=h
  unfold putAt
  by_cases e:p.1=k
  .rw[t4 e,t4 (h1.symm.trans e)];exact⟨h1,h2,ry⟩
  .rw[j4 e,j4 (λz=>e (h1.trans z))];exact⟨h1,h2,h3⟩
theorem KT.put {H:Hp}{kvs:List (List Key × V)}{xs:List (List Key × Addr × Value)}(r:KT H kvs xs)(k:List Key){b:Addr}{y:V}{u:Value}(hb:H b=some (.tup (k.map kV)))(ry:yZ y u) :
 KT H (zdq kvs k y) (storedH xs k b u):=by
 have e:(kvs.any λkv=>decide (kv.1=k))=(atKey xs k).isSome:=by
  rw[zbN,(r.val k).isSome_eq,Option.isSome_map]
 unfold zdq storedH
 rw[e]
 by_cases q:(atKey xs k).isSome=true
 .rw[t4 q,t4 q];exact r.repl k ry
 .rw[j4 q,j4 q];exact Paired.snoc r ⟨rfl,hb,ry⟩
theorem KT.keeps {H H':Hp}{kvs:List (List Key × V)}{xs:List (List Key × Addr × Value)}(r:KT H kvs xs)(ht:∀ b ys,H b=some (.tup ys)->H' b=some (.tup ys)):KT H' kvs xs :=
 Paired.mapP r λ_ _ z=>⟨z.1,ht _ _ z.2.1,z.2.2⟩
section
variable {P:Program}{w:World}{H:Hp}{h:Heap}{a:Addr}
theorem znM {u:HO}(ok:HOk P w H h)(e:Rd H a u):yY P w H h a u:=e.ok ok
theorem ziF {kvs:List (Key × V)}(ok:HOk P w H h)(e:Rd H a (.dK kvs)):kvs.length<=sizeLine/\(a == sysModules)=false/\∃ vs,KV kvs vs/\h.DictOf (xj P w) a vs :=
 show yY P w H h a (.dK kvs)from znM ok e
theorem zpU {kvs:List (Key × V)}(ok:HOk P w H h)(e:H a=some (.dK kvs)):kvs.length<=sizeLine/\(a == sysModules)=false/\∃ vs,KV kvs vs/\h.DictOf (xj P w) a vs:=ziF ok (.inl e)
theorem ze0 {ks:List Key}(ok:HOk P w H h)(e:H a=some (.tup (ks.map kV))):(tupleKind (xj P w)).is h ks a:=by
 obtain⟨_,its,r,o,h1,h2,n,h3⟩:=(show yY P w H h a (.tup (ks.map kV))from ok a _ e)
 exact⟨o,its.toArray,n,h1,h2,h3,by simpa using zcZ r⟩
theorem zgo {kvs:List (List Key × V)}(ok:HOk P w H h)(e:Rd H a (.dT kvs)):kvs.length<=sizeLine/\(a == sysModules)=false /\
 ∃ xs,KT H kvs xs/\h.DictOfH (tupleKind (xj P w)) a xs:=by
 obtain⟨z,y,xs,r,o,es,ep,h1,h2,h3,h4,h5⟩:=(show yY P w H h a (.dT kvs)from znM ok e)
 refine⟨z,y,xs,r,o,es,ep,h1,h2,h3,h4,λx hx=>?_,h5⟩
 have all:∀ {l:List (List Key × V)} {m:List (List Key × Addr × Value)},KT H l m->∀ x∈m,(tupleKind (xj P w)).is h x.1 x.2.1:=by
  intro l m q
  induction q with
  | nil=>intro x hx;exact nomatch hx
  | @cons p q ps qs hq t ih =>
   intro x hx
   rcases j9.mp hx with e | hx
   .subst e
    exact ze0 ok (by rw[<-hq.1];exact hq.2.1)
   .exact ih x hx
 exact all r x hx
theorem zpS {kvs:List (List Key × V)}(ok:HOk P w H h)(e:H a=some (.dT kvs)):kvs.length<=sizeLine/\(a == sysModules)=false /\
 ∃ xs,KT H kvs xs/\h.DictOfH (tupleKind (xj P w)) a xs:=zgo ok (.inl e)
end
def zmT (H:Hp)(a:Addr)(y:V)(r:Option V):Prop :=
 (∃ kvs k,Rd H a (.dK kvs)/\y=kV k/\r=zew kvs k)\/∃ kvs k b,Rd H a (.dT kvs)/\y=.ref b/\H b=some (.tup (k.map kV))/\r=zew kvs k
def zje (H:Hp)(a:Addr)(y v:V)(H':Hp):Prop :=
 (∃ kvs k,H a=some (.dK kvs)/\y=kV k/\kvs.length < sizeLine/\H'=upd H a (.dK (zdq kvs k v))) \/
 ∃ kvs k b,H a=some (.dT kvs)/\y=.ref b/\H b=some (.tup (k.map kV))/\kvs.length < sizeLine/\H'=upd H a (.dT (zdq kvs k v))
theorem zje.k {H:Hp}{a:Addr}{kvs:List (Key × V)}{k:Key}{v:V}(e:H a=some (.dK kvs))(hl:kvs.length < sizeLine):zje H a (kV k) v (upd H a (.dK (zdq kvs k v))):=.inl ⟨kvs,k,e,rfl,hl,rfl⟩
theorem zje.t {H:Hp}{a b:Addr}{kvs:List (List Key × V)}{k:List Key}{v:V}(e:H a=some (.dT kvs))(eb:H b=some (.tup (k.map kV)))(hl:kvs.length < sizeLine) :
 zje H a (.ref b) v (upd H a (.dT (zdq kvs k v))):=.inr ⟨kvs,k,b,e,rfl,eb,hl,rfl⟩
section
variable {X:Cx}{pins:List (Addr × Obj)}{σ:St}{H:Hp}{s:Shared}{a:Addr}{y v:V}{u r:Value}{o:Option V}{A:Around}{E:Value->Shared->Prop}
theorem Inv.big (I:Inv X pins σ H s):sysModules < s.heap.objs.size:=by
 have h:mainGlobals < s.heap.objs.size:=(I.mod.glob.keeps I.bk).lt
 exact Nat.lt_trans (by decide) h
theorem ziu {Q:Value->Shared->Prop}(hu:A.units+1 < cLine)(I:Inv X pins σ H s)(g:zmT H a y (some v))(ry:yZ y u)(h:∀ w' s',Inv X pins σ H s'->yZ v w'->Q w' s') :
 wpAny (model X.prog X.w) A (getItem (.ref a) u) Q E s:=by
 rcases g with ⟨kvs,k,e,ey,l⟩ | ⟨kvs,k,b,e,ey,eb,l⟩
 .subst ey
  obtain⟨z,hd,vs,rel,dd⟩:=ziF I.hok e
  obtain⟨w',hw,rw'⟩:=zfD.some_of (v:=v) (o:=valueAt vs k) (by rw[l];exact rel.val k)
  exact wpAny_getItem_of (zjP ry) dd.mapOf hw (h w' _ (I.tok _) rw')
 .subst ey
  cases (show u=Value.ref b from ry)
  obtain⟨z,hd,xs,rel,dd⟩:=zgo I.hok e
  obtain⟨w',hw,rw'⟩:=zfD.some_of (v:=v) (o:=(atKey xs k).map (·.2)) (by rw[l];exact rel.val k)
  obtain⟨p,hp,hp2⟩:=u8.mp hw
  refine wpAny_getItem_heap (u3k hu) (ze0 I.hok eb) dd hp ?_
  rw[hp2]
  exact h w' _ (I.tok _) rw'
theorem ziI {h':Heap}{t':Nat}{ob:HO}(I:Inv X pins σ H s)(mu:Mut (H a))(hs:Heap.SameBut a s.heap h')(he:∃ q,h'.get? a=some q)(new:yY X.prog X.w (upd H a ob) h' a ob) :
 Inv X pins σ (upd H a ob) { s with heap:=h',toks:=t' } :=
 I.write (x:=a) (e:=a) mu (.inl rfl) (λb q hb z=>(hs.2 b hb).trans z) he new
theorem zni {P:Program}{w:World}{H':Hp}{h':Heap}{kvs:List (Key × V)}{vs:List (Key × Value)}(z:kvs.length<=sizeLine)(hd:(a == sysModules)=false)(rel:KV kvs vs)(dd:h'.DictOf (xj P w) a vs) :
 yY P w H' h' a (.dK kvs):=⟨z,hd,vs,rel,dd⟩
theorem zid {H':Hp}{Q:Unit->Shared->Prop}(hu:A.units+1 < cLine)(I:Inv X pins σ H s)(g:zje H a y v H')(ry:yZ y u)(rv:yZ v r)(h:∀ s',Inv X pins σ H' s'->Q () s') :
 wpAny (model X.prog X.w) A (setItem (.ref a) u r) Q E s:=by
 rcases g with ⟨kvs,k,e,ey,l,eH⟩ | ⟨kvs,k,b,e,ey,eb,l,eH⟩
 .subst ey eH
  obtain⟨z,hd,vs,rel,dd⟩:=zpU I.hok e
  have hz:vs.length<=sizeLine:=by rw[<-rel.length];exact z
  have hl:(zdq kvs k v).length<=sizeLine:=by have:=Vw kvs k v;omega
  refine wpAny_setItem_pairs (hsz:=hz) (zjP ry) dd λh' dd' hs=>h _ ?_
  have he:∃ q,h'.get? a=some q:=let ⟨q,_,_,hq,_⟩:=dd';⟨q,hq⟩
  exact ziI I (by rw[e];exact True.intro) hs he (zni hl hd (rel.put k rv) dd')
 .subst ey eH
  cases (show u=Value.ref b from ry)
  obtain⟨z,hd,xs,rel,dd⟩:=zpS I.hok e
  have hz:xs.length<=sizeLine:=by rw[<-u2N rel];exact z
  have hl:(zdq kvs k v).length<=sizeLine:=by have:=Vw kvs k v;omega
  refine wpAny_setItem_heap (hsz:=hz) (u3k hu) (ze0 I.hok eb) dd λh' dd' hs=>h _ ?_
  obtain⟨q,es,ep,hq,h2,h3,h4,_,h5⟩:=dd'
  refine ziI I (by rw[e];exact True.intro) hs ⟨q,hq⟩ ⟨hl,hd,_,(rel.put k eb rv).keeps λc ys ec=>?_,q,es,ep,hq,h2,h3,h4,h5⟩
  rw[zq (zne ec e (λz=>nomatch z))]
  exact ec
end
def zo6 (i:Expr):Prop:=∀ ov iv,subscripted i false ov iv=operate [ov,iv] (getItem ov iv)
theorem zlK {prog:Program}{w:World}{A:Around}{E:Value->Shared->Prop}{s:Shared}{env:Env}{value slice:Expr}{pos:Pos}{T id:String}{Q:Value->Shared->Prop}
 (hl:typeLookup (.type T) "__getitem__"=pure (some (.builtin id))) (hs:zo6 slice)
 (h:wpAny (model prog w) A (eval value env) (λo s₁=>wpAny (model prog w) A (eval slice env) (λi s₂=>s₂.TypeIs o T/\wpAny (model prog w) A (getItem o i) Q E s₂) E s₁) E s) :
 wpAny (model prog w) A (eval (.Subscript value slice pos) env) Q E s:=by
 refine Subscript_ (u1v h (λo s₁ h₁=>u1v h₁ (λi s₂ h₂=>?_) λ_ _ x=>x) λ_ _ x=>x)
 obtain⟨hT,h₂⟩:=h₂
 unfold subscriptTail
 refine u0 ?_
 rw[getitemInPython_of_ne hT.not_modules]
 refine u0 (wpAny_specialOf hT hl ?_)
 have fin:wpAny (model prog w) A (subscripted slice false o i) (λr s₃=>wpAny (model prog w) A (letTemporaryGo value o r>>=λ_=>pure r) Q E s₃) E s₂:=by
  rw[hs o i]
  exact wpAny_operating (u1v h₂ (λr s₃ h₃=>u0 (wpAny_letTemporaryGo (u7 h₃))) λ_ _ x=>x)
 first
  | exact u7 (u0 fin)
  | exact u0 (u7 (u0 fin))
  | exact u0 fin
theorem zdD {X:Cx} {pins:List (Addr × Obj)} {σ:St} {H:Hp} {s:Shared} {a:Addr} {y:V} {o:Option V} (I:Inv X pins σ H s) (g:zmT H a y o):s.TypeIs (.ref a) "dict":=by
 rcases g with ⟨kvs,k,e,_,_⟩ | ⟨kvs,k,b,e,_,_,_⟩
 .obtain⟨_,_,vs,_,dd⟩:=ziF I.hok e
  exact dd.typeIs
 .obtain⟨_,_,xs,_,dd⟩:=zgo I.hok e
  exact dd.typeIs
def zpI (td ty:TE):TE:=fun σ H Q=>td σ H λx H1=>ty σ H1 λy H2=>∃ a v,x=.ref a/\zmT H2 a y (some v)/\Q v H2
def zpf (td ty tv:TE):TS:=λD σ H=>tv σ H λv H1=>td σ H1 λx H2=>ty σ H2 λy H3=>∃ a H4,x=.ref a/\zje H3 a y v H4/\D.nx σ H4
section
variable {X:Cx}{o i e value:Expr}{pos pos' tpos:Pos}{td ty tv:TE}
theorem zlG (hu:X.A.units+1 < cLine)(ho:PE X o td)(hi:PE X i ty)(hs:zo6 i):PE X (.Subscript o i pos) (zpI td ty):=by
 intro pins s σ H Q I h
 refine zlK PySem.F.slot_dict_getitem.lookup hs (thn (ho pins s σ H _ I h) λu s1 ⟨x,H1,I1,rx,q1⟩=>thn (hi pins s1 σ H1 _ I1 q1) λiv s2 hh9=>?_)
 obtain⟨y,H2,I2,ry,a,v,ex,g,q2⟩:=hh9
 subst ex
 obtain rfl:u=Value.ref a:=rx
 exact⟨zdD I2 g,ziu hu I2 g ry λw' s3 I3 rw'=>⟨v,H2,I3,rw',q2⟩⟩
theorem zlf (hu:X.A.units+1 < cLine)(ho:PE X o td)(hi:PE X i ty)(hv:PE X value tv)(hs:swapsWith value (some (.Subscript o i pos')) pos.line X.env=pure false) :
 PS X (.Assign [.Subscript o i pos'] value pos) (zpf td ty tv):=by
 intro pins s σ H D I h
 refine wpAny_Assign_Subscript (thn (hv pins s σ H _ I h) λr s1 ⟨v,H1,I1,rv,q1⟩=>thn (ho pins s1 σ H1 _ I1 q1) λu s2 ⟨x,H2,I2,rx,q2⟩=>thn (hi pins s2 σ H2 _ I2 q2) λiv s3 hh9=>?_) hs
 obtain⟨y,H3,I3,ry,a,H4,ex,g,q3⟩:=hh9
 subst ex
 obtain rfl:u=Value.ref a:=rx
 exact zid hu I3 g ry rv λs4 I4=>⟨σ,H4,I4,q3⟩
end
theorem zkl {P:Program} {w:World} {H:Hp} (h:Heap) (hb:sysModules < h.objs.size):yY P w H (h.push { cls:=.type "dict",data:=.dict #[] }) h.objs.size (.dK []) :=
 ⟨u0I _,u0K.mpr (u0R (o0 hb)),[],.nil,Heap.DictOf.new h⟩
theorem zjR {P:Program} {w:World} {H:Hp} (h:Heap) (hb:sysModules < h.objs.size):yY P w H (h.push { cls:=.type "dict",data:=.dict #[] }) h.objs.size (.dT []) :=
 ⟨u0I _,u0K.mpr (u0R (o0 hb)),[],.nil,_,#[],0,j6 _ rfl,⟨rfl,rfl,rfl⟩,rfl,rfl,u1B⟩
def znw:TE:=λ_ H Q=>∀ p,H p=none->Q (.ref p) (upd H p (.dK []))
def zor:TE:=λ_ H Q=>∀ p,H p=none->Q (.ref p) (upd H p (.dT []))
section
variable {X:Cx}{pos:Pos}
theorem zj0:PE X (.Dict [] [] pos) znw:=λpins s σ H Q I h =>
 wpAny_Dict_empty ⟨.ref s.heap.objs.size,_,I.laid (a:=s.heap.objs.size) (o:=.dK []) (t':=s.toks) (λ_ _ q=>u4 _ q) (t5 _) (zkl s.heap I.big),rfl,h _ (I.hok.fresh (t5 _))⟩
theorem zkp:PE X (.Dict [] [] pos) zor:=λpins s σ H Q I h =>
 wpAny_Dict_empty ⟨.ref s.heap.objs.size,_,I.laid (a:=s.heap.objs.size) (o:=.dT []) (t':=s.toks) (λ_ _ q=>u4 _ q) (t5 _) (zjR s.heap I.big),rfl,h _ (I.hok.fresh (t5 _))⟩
end
structure M2 (X:Cx) (o:Expr) (m:Str) (apos:Pos) (e f:Expr) (cpos:Pos):Prop where
 base:attributeBase o m X.env (eval o X.env)=eval o X.env
 few:((backTo cpos (starEach [e,f] X.env)).all (λx=>!x.1)&&(backToKw cpos (keywordEach [] X.env)).all (λx=>x.1.isSome)
  && decide (([e,f]:List Expr).length+([]:List Keyword).length+(if ([]:List Keyword).isEmpty then 0 else 1) < 30))=true
 line:(apos.endLine == cpos.line)=true
 trees:backTo cpos (starEach [e,f] X.env)=[(false,eval e X.env),(false,eval f X.env)]
def IsD (H:Hp)(a:Addr):Prop:=(∃ kvs,Rd H a (.dK kvs))\/∃ kvs,Rd H a (.dT kvs)
theorem zm2 {X:Cx}{pins:List (Addr × Obj)}{σ:St}{H:Hp}{s:Shared}{a:Addr}(I:Inv X pins σ H s)(d:IsD H a) :
 s.TypeIs (.ref a) "dict"/\(∀ b,Value.ref a=.ref b->∃ ob,s.heap.get? b=some ob/\ob.dict=none)/\(a == sysModules)=false:=by
 rcases d with ⟨kvs,e⟩ | ⟨kvs,e⟩
 .obtain⟨_,hd,vs,_,dd⟩:=ziF I.hok e
  refine⟨dd.typeIs,λb q=>?_,hd⟩
  cases q
  obtain⟨ob,_,_,h1,h2,_⟩:=dd
  exact⟨ob,h1,h2.2.1⟩
 .obtain⟨_,hd,xs,_,dd⟩:=zgo I.hok e
  refine⟨dd.typeIs,λb q=>?_,hd⟩
  cases q
  obtain⟨ob,_,_,h1,h2,_⟩:=dd
  exact⟨ob,h1,h2.2.1⟩
section
variable {X:Cx}{pins:List (Addr × Obj)}{σ:St}{H:Hp}{s:Shared}{a:Addr}{y d:V}{u r:Value}{o:Option V}{A:Around}{E:Value->Shared->Prop}
theorem zns {Q:Value->Shared->Prop}(hu:A.units+1 < cLine)(I:Inv X pins σ H s)(g:zmT H a y o)(ry:yZ y u)(rd:yZ d r)(h:∀ w' s',Inv X pins σ H s'->yZ (o.getD d) w'->Q w' s') :
 wpAny (model X.prog X.w) A (call (.builtin "dict.get") [.ref a,u,r]) Q E s:=by
 rcases g with ⟨kvs,k,e,ey,l⟩ | ⟨kvs,k,b,e,ey,eb,l⟩
 .subst ey
  obtain⟨z,hd,vs,rel,dd⟩:=ziF I.hok e
  refine call_meetsIn u2E dd.typeIs PySem.F.entry_dict_get (PySem.F.args_dict_get_3 _ _ _) (meets_dict_get_default (xj X.prog X.w) a (zjP ry) hd r) ⟨_,dd.mapOf,h _ _ (I.tok _) ?_⟩
  rw[l]
  exact(rel.val k).getD rd
 .subst ey
  cases (show u=Value.ref b from ry)
  obtain⟨z,hd,xs,rel,dd⟩:=zgo I.hok e
  refine call_meetsIn u2E dd.typeIs PySem.F.entry_dict_get (PySem.F.args_dict_get_3 _ _ _) (meetsH_dict_get_default (tupleKind (xj X.prog X.w)) a b hd r) ⟨u3k hu,k,xs,ze0 I.hok eb,dd,h _ _ (I.tok _) ?_⟩
  rw[l]
  exact(rel.val k).getD rd
end
def zm3 (td ty tx:TE):TE:=fun σ H Q=>td σ H λx H1=>∃ a,x=.ref a/\IsD H1 a/\ty σ H1 λy H2=>tx σ H2 λz H3=>∃ o,zmT H3 a y o/\Q (o.getD z) H3
section
variable {X:Cx}{o e f:Expr}{apos cpos:Pos}{td ty tx:TE}
theorem zjy (hu:X.A.units+1 < cLine) (ho:PE X o td) (he:PE X e ty) (hf:PE X f tx) (m:M2 X o "get" apos e f cpos):PE X (.Call (.Attribute o "get" apos) [e,f] [] cpos) (zm3 td ty tx):=by
 intro pins s σ H Q I h
 refine wpAny_Call_method m.base m.few m.line PySem.F.plainAttrs_dict u2E PySem.F.type_dict_get (thn (ho pins s σ H _ I h) λu s1 hh9=>?_)
 obtain⟨x,H1,I1,rx,a,ex,d,q1⟩:=hh9
 subst ex
 obtain rfl:u=Value.ref a:=rx
 obtain⟨t1,t2,_⟩:=zm2 I1 d
 refine⟨t1,t2,?_⟩
 rw[m.trees]
 refine Calls.callWith_builtin rfl (Calls.evalArgs_plain (u1T (thn (he pins s1 σ H1 _ I1 q1) λiv s2 ⟨y,H2,I2,ry,q2⟩ =>
  u1T (thn (hf pins s2 σ H2 _ I2 q2) λfv s3 ⟨z,H3,I3,rz,ov,g,q3⟩=>u2r ?_))))
 exact zns hu I3 g ry rz λw' s4 I4 rw'=>⟨_,H3,I4,rw',q3⟩
end
theorem zdH {X:Cx}:Y2 X (.builtin "isinstance") (λxs H Q=>∃ x n t b,xs=[x,.ty n]/\zei X.K H x t/\W.kitOne X.K t (.type n)=some b/\Q (.bl b) H):=by
 intro pins s σ H xs us Q I r h
 obtain⟨x,n,t,b,rfl,ty,e,q⟩:=h
 obtain⟨u,w',rfl,rx,rt⟩:=zfY r
 cases (show w'=Value.type n from rt)
 exact zh3 I rx ty e λtk=>⟨.bl b,H,I.tok _,rfl,q⟩
theorem zkw {X:Cx}:OpR X (compareOp .Is) (λx y H Q=>∃ i j,x=.bl i/\y=.bl j/\Q (.bl (i == j)) H):=by
 intro pins s σ H x y v u Q I rx ry h
 obtain⟨i,j,rfl,rfl,q⟩:=h
 cases rx
 cases ry
 refine wpAny_is_plain (by rfl) ⟨.bl (i == j),H,I,?_,q⟩
 cases i <;> cases j <;> rfl
theorem zdM {X:Cx}:OpR X (compareOp .IsNot) (λx y H Q=>∃ i j,x=.bl i/\y=.bl j/\Q (.bl (!(i == j))) H):=by
 intro pins s σ H x y v u Q I rx ry h
 obtain⟨i,j,rfl,rfl,q⟩:=h
 cases rx
 cases ry
 refine wpAny_isNot_plain (by rfl) ⟨.bl (!(i == j)),H,I,?_,q⟩
 cases i <;> cases j <;> rfl
def zk4 (K:W.Frag):R2:=λx y H Q=>∃ a b xs ys,x=.ref a/\y=.ref b/\SqT K H a xs/\SqT K H b ys/\xs.length+ys.length<=sizeLine /\
 (xs=[]->Q (.ref b) H)/\(xs≠[]->ys=[]->Q (.ref a) H)/\(xs≠[]->ys≠[]->∀ p,H p=none->Q (.ref p) (upd H p (.tup (xs++ys))))
theorem zkx {X:Cx}:OpR X (binaryOp .Add) (zk4 X.K):=by
 intro pins s σ H x y v u Q I rx ry h
 obtain⟨a,b,xs,ys,rfl,rfl,ha,hb,hz,q0,q1,q2⟩:=h
 by_cases hx:xs=[]
 .subst hx
  cases rx
  cases ry
  obtain⟨its,r,p,_⟩:=I.tuple ha
  obtain⟨its',r',p',_⟩:=I.tuple hb
  cases r
  obtain⟨⟨cls,dd,data,sl⟩,ho,hc,n,hd⟩:=id p
  obtain⟨⟨cls2,dd2,data2,sl2⟩,ho2,hc2,n2,hd2⟩:=id p'
  simp only at hc hd hc2 hd2
  subst hc hd hc2 hd2
  exact concat_meets ⟨_,ho,rfl⟩ ⟨_,ho2,rfl⟩ noFill_tuple_add seq_tuple_add u2q u2o (u2h _ _)
   (tuple_addW0 a b #[] its'.toArray n n2 dd dd2 sl sl2 rfl) ⟨ho,ho2,⟨.ref b,H,I,rfl,q0 rfl⟩⟩
 .refine zl9 pins s σ H (.ref a) (.ref b) v u Q I rx ry ⟨a,b,xs,ys,rfl,rfl,ha,hb,hx,hz,?_⟩
  exact⟨λe=>q1 hx e,λe=>q2 hx e⟩
inductive Z1:St->St->Prop where
 | nil:Z1 [] []
 | non {a:Option V} {s t:St}:Z1 s t->Z1 (none::s) (a::t)
 | same {a:Option V} {s t:St}:Z1 s t->Z1 (a::s) (a::t)
theorem Z1.refl:∀ s:St,Z1 s s
 | []=>.nil
 | _::r=>.same (Z1.refl r)
theorem Z1.length {s t:St}(h:Z1 s t):s.length=t.length:=by
 induction h with
 | nil=>rfl
 | non _ ih=>simp[ih]
 | same _ ih=>simp[ih]
theorem Z1.get {s t:St}(h:Z1 s t):∀ (i:Nat) (v:V),s[i]?=some (some v)->t[i]?=some (some v):=by
 induction h with
 | nil=>intro i v e;exact e
 | non _ ih =>
  intro i v e
  cases i with
  | zero=>simp at e
  | succ i=>simpa using ih i v (by simpa using e)
 | same _ ih =>
  intro i v e
  cases i with
  | zero=>simpa using e
  | succ i=>simpa using ih i v (by simpa using e)
theorem Z1.set {n:Nat}{v:V}:∀ {s t:St},Z1 s t->s[n]?=some none->Z1 s (t.set n (some v))
 | _,_,.nil,_=>.nil
 | _,_,.non (a:=a) h,e=>by
  cases n with
  | zero=>exact .non h
  | succ n=>exact .non (Z1.set h (by simpa using e))
 | _,_,.same (a:=a) h,e=>by
  cases n with
  | zero =>
   have e':a=none:=by simpa using e
   subst e'
   exact .non h
  | succ n=>exact .same (Z1.set h (by simpa using e))
theorem Inv.sub {X:Cx}{pins:List (Addr × Obj)}{σ σ':St}{H:Hp}{s:Shared}(I:Inv X pins σ H s)(h:Z1 σ' σ):Inv X pins σ' H s:=I.weak h.length h.get
def PIf (X:Cx)(ifs:List Expr)(t:TT):Prop :=
 ∀ (pins:List (Addr × Obj)) (s:Shared) (σ:St) (H:Hp) (Q:Bool->Hp->Prop),Inv X pins σ H s->t σ H Q ->
  wpAny (model X.prog X.w) X.A (forIn ifs true λc r=>if r=true then do let ok<-isTrue c X.env (eval c X.env);pure (ForInStep.yield ok)else pure (ForInStep.yield r)) (TP X pins σ Q) X.xe s
def tYes:TT:=λ_ H Q=>Q true H
theorem zgN {X:Cx}:PIf X [] tYes:=by
 intro pins s σ H Q I h
 rw[u2z]
 exact u7 ⟨H,I,h⟩
theorem zee {X:Cx}{c:Expr}{t:TT}(hc:PT X c t):PIf X [c] t:=by
 intro pins s σ H Q I h
 rw[u2X]
 refine u0 ?_
 rw[t4 rfl]
 refine u0 (thn (hc pins s σ H Q I h) λb s1 q=>u7 ?_)
 show wpAny _ _ (forIn [] b _) _ _ _
 rw[u2z]
 exact u7 q
section
variable {prog:Program}{w:World}{A:Around}{R:Result->Shared->Prop}{s:Shared}
theorem vt {elt target iter:Expr}{ifs:List Expr}{scope:Scope}{pos:Pos}{it acc:Value}{env:Env}(I:Nat->Shared->Prop)
 (turn:∀ n s,I n s->wpAny (model prog w) A (pyNext it) (λr s₁=>match r with
  | none=>R (.ok .next) s₁
  | some v=>wpAny (model prog w) A (letOwnedTupleGo target it v) (λ_ s₁'=>wpAny (model prog w) A (assign target env v) (λ_ s₂ =>
   wpAny (model prog w) A (forIn ifs true λc r=>if r=true then do let ok<-isTrue c env (eval c env);pure (ForInStep.yield ok)else pure (ForInStep.yield r)) (λok s₃ =>
    if ok=true then wpAny (model prog w) A (eval elt env) (λx s₄ =>
     wpAny (model prog w) A (call (.builtin "list.append") [acc,x]) (λ_ s₅=>∃ m,m < n/\I m s₅) (λ_ _=>False) s₄) (λ_ _=>False) s₃
    else ∃ m,m < n/\I m s₃) (λ_ _=>False) s₂) (λ_ _=>False) s₁') (λ_ _=>False) s₁) (λ_ _=>False) s)
 (n:Nat) (h:I n s) :
 codeAny (model prog w) A (.compLoop (.ListComp elt [⟨target,iter,ifs,0⟩] scope pos) 0 it acc env) R s:=by
 refine codeAny_loop rfl I (λn s hI=>?_) n h
 show wpAny _ A ((compTurn (.ListComp elt [⟨target,iter,ifs,0⟩] scope pos) 0 it acc env).onRaise (λx=>do noteFrame x env;theTreesLotGoes x)) _ _ s
 refine wpAny_noted ?_
 rw[compTurn_list]
 refine u0 (wpAny_standAt (u0 (u1v (turn n s hI) (λr s₁ h₁=>?_) λ_ _ h'=>h'.elim)))
 cases r with
 | none=>exact u7 h₁
 | some v =>
  refine u0 (u1v h₁ (λ_ s₁' h₁'=>?_) λ_ _ h'=>h'.elim)
  refine u0 (u1v h₁' (λ_ s₂ h₂=>u0 (u1v h₂ (λok s₃ h₃=>?_) λ_ _ h'=>h'.elim)) λ_ _ h'=>h'.elim)
  cases ok with
  | false=>exact u7 ⟨rfl,h₃⟩
  | true =>
   exact u0 (u0 (u1v h₃ (λx s₄ h₄=>u0 (u1v h₄ (λ_ s₅ h₅=>u7 (u7 ⟨rfl,h₅⟩)) λ_ _ h'=>h'.elim)) λ_ _ h'=>h'.elim))
end
def tLC (wi:TI)(n:Nat)(g:TG)(tt:TT)(te:TE):TE:=fun σ H Q=>wi σ H λJ H1=>∀ D,H1 D=none->∃ W:Nat->Nat->List V->Hp->Prop,(∃ m,W 0 m [] (upd H1 D (.lst []))) /\
 ∀ i m ys H2,W i m ys H2->(J.stop i H2/\Q (.ref D) H2)\/(J.go i H2/\ys.length < sizeLine/\∀ x H3,J.yld i H2 x H3->g x (List.replicate n none++σ) H3 fun σ2 H4=>tt σ2 H4 λb H5 =>
  if b=true then te σ2 H5 λy H6=>H6 D=some (.lst ys)/\∃ m',m' < m/\W (i+1) m' (ys++[y]) (upd H6 D (.lst (ys++[y])))else ∃ m',m' < m/\W (i+1) m' ys H5)
theorem Yh {α:Type}:∀ {l:List (Str × α)} {y:Str},y∈l.map Prod.fst->∃ c,l.lookup y=some c
 | [],_,h=>by simp at h
 | (k,v)::r,y,h=>by
  by_cases e:y=k
  .exact⟨v,by simp[List.lookup,e]⟩
  .obtain⟨c,hc⟩:=Yh (l:=r) (y:=y) (by simpa [e]using h)
   have hb:(y == k)=false:=u0K.mpr e
   exact⟨c,by simp only[List.lookup,hb];exact hc⟩
theorem xb {α:Type}{P:α->Prop}:∀ p∈([]:List α),P p:=λ_ h=>nomatch h
theorem all_cons {α:Type}{P:α->Prop}{a:α}{l:List α}(h:P a)(t:∀ p∈l,P p):∀ p∈a::l,P p:=λp hp=>by
 rcases j9.mp hp with e | hp
 .rw[e];exact h
 .exact t p hp
theorem gs1 (σ:St)(v:V)(H:Hp)(Q:St->Hp->Prop)(h:Xa 0 v (List.replicate 1 none++σ) H Q):Xa 0 v (List.replicate 1 none++σ) H (fun σ2 H2=>Z1 (List.replicate 1 none++σ) σ2/\Q σ2 H2):=⟨.set (.refl _) rfl,h⟩
theorem gs2 {K:W.Frag}(σ:St)(v:V)(H:Hp)(Q:St->Hp->Prop)(h:zo3 K 2 (zdf (Xa 0) (zdf (Xa 1) zo1)) v (List.replicate 2 none++σ) H Q) :
 zo3 K 2 (zdf (Xa 0) (zdf (Xa 1) zo1)) v (List.replicate 2 none++σ) H (fun σ2 H2=>Z1 (List.replicate 2 none++σ) σ2/\Q σ2 H2):=by
 obtain⟨a,xs,e,hq,hl,x,r,e1,y,r2,e2,e3,q⟩:=h
 exact⟨a,xs,e,hq,hl,x,r,e1,y,r2,e2,e3,.set (.set (.refl _) rfl) rfl,q⟩
def zaW (X:Cx)(L M:List Str)(scope:Scope)(cl:List (Str × Addr))(s₀:Shared)(H₀:Hp)(ex:List Addr)(pn:List (Addr × Obj)):Cx :=
 { X with N:=L++M,s₀:=s₀,H₀:=H₀,env:=compEnvC scope cl s₀.heap.objs.size X.env,outer:=X.stack,stack:=X.stack,ex:=ex,fn:=λ_=>false,pn:=pn,xe:=λ_ _=>False }
structure xI (X:Cx) (L M:List Str) (scope:Scope) (cl:List (Str × Addr)):Prop where
 clos:closureFor scope X.env=pure cl
 cell:∀ y∈scope.names,y.2≠.cell
 kind:scope.kind=.function
 names:∀ y∈scope.names,y.2=.local->scope.names.lookup y.1=some .local
 sub:∀ y c,cl.lookup y=some c->X.env.cells.lookup y=some c
 has:∀ y,((relabel scope X.env).names.lookup y=some .cell\/(relabel scope X.env).names.lookup y=some .free)->∃ c,cl.lookup y=some c
 mlen:M.length=X.N.length
 msk:∀ (i:Nat) y,M[i]?=some y->Vis (relabel scope X.env) y->X.N[i]?=some y
 vis:∀ (i:Nat) y,M[i]?=some y->Vis (relabel scope X.env) y->((relabel scope X.env).names.lookup y=some .cell\/(relabel scope X.env).names.lookup y=some .free)
 out:∀ (i:Nat) y,M[i]?=some y->Vis (relabel scope X.env) y->Vis X.env.scope y/\X.env.kindOf y≠some .local
theorem Inv.letGo {X:Cx}{pins:List (Addr × Obj)}{σ:St}{H:Hp}{s:Shared}{C:Addr}{h':Heap}(I:Inv X pins σ H s)(f:zc9 X pins H C)(sb:Heap.SameBut C s.heap h'):Inv X pins σ H { s with heap:=h' }:=by
 obtain⟨f0,f1,f2,f3,f4,f5⟩:=f
 have ne:∀ b,b∉[C]->b≠C:=λb hb z=>hb (by rw[z];exact d5.mpr rfl)
 refine I.call' (s':={ s with heap:=h' }) (ch:=[C]) rfl ⟨λb o e _ _ hx=>(sb.2 b (ne b hx)).trans e,λb o e _ _ hx=>⟨o.slots,(sb.2 b (ne b hx)).trans e⟩,λ_ _ _ n _=>n,λb o e hx=>⟨o,(sb.2 b (ne b hx)).trans e⟩,λ_ _ q=>q,λ_ _ _ q=>q,λ_ ps q=>⟨#[],by rw[q];simp⟩⟩ ?_ I.bare λb hb=>?_
 .intro b ob e
  refine(I.hok b ob e).stay (λc v hc q=>(sb.2 c ?_).trans q) (λ_ q=>q) λ_ _ q=>q
  rintro rfl
  rcases hc with z | z
  .rw[<-z,f0]at e;cases e
  .rw[f0]at z;cases z
 .rw[d5.mp hb]
  exact⟨f3,f1,f4,f5⟩
theorem zhB {use:Option (Value->Sem Unit)}{Qf:Value->Shared->Prop}{X:Cx}{elt tg iter:Expr}{ifs:List Expr}{L M:List Str}{scope:Scope}{cl:List (Str × Addr)}{pos:Pos}{wi:TI}{g:TG}{tt:TT}{te:TE}
 (hc:X.calm=true) (S:xI X L M scope cl) (hi:PI X tg iter wi)
 (hgS:∀ (σ:St) (v:V) (H:Hp) (Q:St->Hp->Prop),g v (List.replicate L.length none++σ) H Q->g v (List.replicate L.length none++σ) H (fun σ2 H2=>Z1 (List.replicate L.length none++σ) σ2/\Q σ2 H2))
 (hg:∀ s₀ H₀ ex pn,PG (zaW X L M scope cl s₀ H₀ ex pn) tg g) (ht:∀ s₀ H₀ ex pn,PIf (zaW X L M scope cl s₀ H₀ ex pn) ifs tt) (he:∀ s₀ H₀ ex pn,PE (zaW X L M scope cl s₀ H₀ ex pn) elt te)
 (hs:∀ x,foldedSetIterable iter X.env x=pure x:=by intro _;rfl) :
 ∀ (pos':Pos) (pins:List (Addr × Obj)) (s:Shared) (σ:St) (H:Hp) (Q:VK),Inv X pins σ H s->tLC wi L.length g tt te σ H Q ->
  (∀ (D C:Addr) (H':Hp) (s':Shared),Inv X pins σ H' s'->(∃ m,s'.heap.Ns C m)->zc9 X pins H' C->Q (.ref D) H'->compPost (model X.prog X.w) X.A X.xe use Qf (.ref D) C (.ok .next) s') ->
  wpAny (model X.prog X.w) X.A (comprehension (.ListComp elt [⟨tg,iter,ifs,0⟩] scope pos) scope X.env pos' (newList []) false (eval iter X.env) use) Qf X.xe s:=by
 intro pos' pins s σ H Q I h fin
 refine wpAny_comprehension_free (use:=use) rfl hs S.clos S.kind S.names (thn (hi pins s σ H _ I h) λv s1 h1=>thn h1 λitv s2 h2=>?_)
 obtain⟨it,fp,tn,J,H2,e,I2,T,st2,f2,q⟩:=h2
 subst e
 have hD:H2 s2.heap.objs.size=none:=I2.hok.fresh (t5 _)
 obtain⟨W,⟨m0,w0⟩,turn⟩:=q _ hD
 refine u0g (wpAny_newFunctionEnv S.cell (by intro y hy;simp at hy) (λh₁ hns₁ hsb₁=>?_) S.kind)
 have I3:Inv X pins σ (upd H2 s2.heap.objs.size (.lst [])) { s2 with heap:=s2.heap.push { cls:=.type "list",data:=.seq ([]:List Value).toArray } }:=by
  refine I2.laid (t':=s2.toks) (λb u e=>u4 _ e) (t5 _) ?_
  exact⟨u0I _,[],0,.nil,j6 _ rfl⟩
 generalize hs3:({ s2 with heap:=s2.heap.push { cls:=.type "list",data:=.seq ([]:List Value).toArray } }:Shared)=s3 at I3 hns₁ hsb₁ ⊢
 have hobj:∀ b∈fp,b < s2.heap.objs.size:=λb hb=>by
  obtain⟨o,ho,_⟩:=T.obj _ _ st2 b hb
  exact q5 ho
 have hz3:s3.heap.objs.size=s2.heap.objs.size+1:=by rw[<-hs3];exact u0A ..
 have k23:∀ b o,s2.heap.get? b=some o->s3.heap.get? b=some o:=λb o e=>by rw[<-hs3];exact u4 _ e
 have k34:∀ b o,s3.heap.get? b=some o->h₁.get? b=some o:=λb o e=>(hsb₁.2 b (o0 (q5 e))).trans (u4 _ e)
 generalize hH3:upd H2 s2.heap.objs.size (.lst [])=H3 at I3 w0
 have hfp3:∀ b∈fp,H3 b=none:=λb hb=>by
  rw[<-hH3,zq (o0 (hobj b hb))]
  exact(f2 b hb).1
 have nfs:∀ b∈fp,b∉frs X.stack:=λb hb z=>by
  obtain⟨_,n1,n2,_⟩:=f2 b hb
  rcases j9.mp (I3.stkSub b z)with e | e
  .exact n1 e
  .exact n2 e
 let Y:Cx:=zaW X L M scope cl s3 H3 fp (X.pn++pins)
 have OkY:Y.Ok:=by
  refine⟨I.ok.mod,S.kind,I.ok.glob,I.ok.blt,t5 _,λx y c h1 h2=>I.ok.inj x y c (S.sub x c h1) (S.sub y c h2),λx hx=>S.has x hx,(λx c h _=>absurd h u9),I.ok.hd,I.ok.frames,.inl rfl,λb hb=>⟨?_,λx c e z=>?_⟩,
   λb o e=>I3.bs b o e,p6 I.ok.bsz I3.sz,λb o e hb=>?_,nfs,I3.stack,I3.stkFree⟩
  .show b≠s3.heap.objs.size
   exact o0 (r6 (hobj b hb) (by rw[hz3];exact u1r _))
  .exact(f2 b hb).2.2.2.2.1 x c (S.sub x c e) z
  .rcases(f2 b hb).2.2.2.1 with z | z
   .exact I.ok.noex b o e z
   .have h1:=q5 e
    have h2:=I.ok.bsz
    exact absurd (r6 h1 (p6 h2 z)) (u0Q _)
 have I4:Inv Y [] (List.replicate L.length none++σ) H3 { s3 with heap:=h₁,toks:=s3.toks+([]:List (Str × Value)).length }:=by
  refine⟨OkY,rfl,I3.bare,Un.kept k34,⟨_,hns₁,λi y v e1 e2 e3=>?_⟩,λx c e=>?_,I3.hok.fresh (t5 _),λx c e=>I3.freeC x c (S.sub x c e),λp hp=>?_,I3.hok.kept k34,?_⟩
  .have hi:¬ i < L.length:=λhlt=>by
    rw[u0i (by simpa using hlt),u1g]at e2
    split at e2 <;> cases e2
   have e0':M[i - L.length]?=some y:=by
    have e1:(L++M)[i]?=some y:=e1
    rw[u0d (by omega)]at e1
    exact e1
   have e2':σ[i - L.length]?=some (some v):=by rw[u0d (by simpa using u0M hi)]at e2;simpa using e2
   have e1':=S.msk _ y e0' e3
   obtain⟨ov,ok⟩:=S.out _ y e0' e3
   obtain⟨m,hn,hl⟩:=I3.loc
   obtain⟨u,ru,lk⟩:=hl _ y v e1' e2' ov
   refine⟨u,ru,?_⟩
   rcases lk with ⟨hk,_⟩ | ⟨_,c,hc',hcell⟩
   .exact absurd hk ok
   .have kn:=S.vis _ y e0' e3
    obtain⟨c',hc2⟩:=S.has y kn
    have:=S.sub y c' hc2
    rw[hc']at this
    cases this
    refine .inr ⟨kn,c,hc2,?_⟩
    obtain⟨o,ho,hd⟩:=hcell
    exact⟨o,k34 _ _ ho,hd⟩
  .obtain⟨v,o,ho,hd⟩:=I3.cell x c (S.sub x c e)
   exact⟨v,o,k34 _ _ ho,hd⟩
  .have hp':p∈X.pn++pins:=u0l (X.pn++pins) ▸ hp
   obtain⟨a1,a2,a3,a4,a5⟩:=I3.pin p hp'
   refine⟨k34 _ _ a1,a2,o0 (q5 a1),λz=>?_,a5⟩
   rcases j9.mp (I3.stkSub p.1 z)with e | e
   .exact a3 e
   .exact a4 e
  .show(List.replicate L.length none++σ).length=(L++M).length
   rw[j8,j8,u1a,I.len,S.mlen]
 have fpY:∀ {H':Hp},(∀ b∈fp,H' b=none)->∀ b∈fp,zc9 Y [] H' b:=λ{H'} hn b hb=>by
  refine⟨hn b hb,(OkY.exf b hb).1,nfs b hb,.inl hb,(OkY.exf b hb).2,λp hp=>?_⟩
  have hp':p∈X.pn++pins:=u0l (X.pn++pins) ▸ hp
  exact(f2 b hb).2.2.2.2.2 p hp'
 have st4:tn 0 h₁:=T.keep _ _ _ st2 λb hb o e=>k34 b o (k23 b o e)
 -- behind the loop
 have back:∀ (H':Hp) (s':Shared),Inv Y [] (List.replicate L.length none++σ) H' s'->Q (.ref s2.heap.objs.size) H'->compPost (model X.prog X.w) X.A X.xe use Qf (.ref s2.heap.objs.size) s3.heap.objs.size (.ok .next) s':=λH' s' J' q'=>by
  obtain⟨m,hn,_⟩:=J'.loc
  refine fin _ _ H' s' (I3.call' (ch:=fp) J'.os J'.base J'.hok J'.bare λb hb=>?_) ⟨m,hn⟩ (I3.fpOk (t5 _) J'.free) q'
  obtain⟨_,n1,_,n3,n4,n5⟩:=f2 b hb
  exact⟨n3,n1,n4,n5⟩
 have loop:codeAny (model X.prog X.w) X.A (.compLoop (.ListComp elt [⟨tg,iter,ifs,0⟩] scope pos) 0 (.ref it) (.ref s2.heap.objs.size) (compEnvC scope cl s3.heap.objs.size X.env))
  (compPost (model X.prog X.w) X.A X.xe use Qf (.ref s2.heap.objs.size) s3.heap.objs.size) { s3 with heap:=h₁,toks:=s3.toks+([]:List (Str × Value)).length }:=by
  refine vt (λn s'=>∃ i ys H',Inv Y [] (List.replicate L.length none++σ) H' s'/\tn i s'.heap/\(∀ b∈fp,H' b=none)/\W i n ys H') ?_ m0 ⟨0,[],H3,I4,st4,hfp3,w0⟩
  rintro n s5 ⟨i,ys,H5,I5,st5,fr5,w5⟩
  rcases turn i n ys H5 w5 with ⟨stop,qn⟩ | ⟨go,hlen,step⟩
  .refine thn (T.done Y rfl rfl rfl hc i [] s5 _ H5 _ I5 (fpY fr5) st5 stop) λr s6 hh9=>?_
   obtain⟨hr,I6⟩:=hh9
   subst hr
   exact back H5 s6 I6 qn
  .refine thn (T.item Y rfl rfl rfl hc i [] s5 _ H5 _ I5 (fpY fr5) st5 go) λr s6 hh9=>?_
   obtain⟨u,hr,h6⟩:=hh9
   subst hr
   refine thn h6 λ_ s7 hh9=>?_
   obtain⟨x,H7,I7,r7,y7,st7,fr7⟩:=hh9
   have I7':=I7.pinned (fpY fr7) (T.obj _ _ st7)
   have g7:=hgS σ x H7 _ (step x H7 y7)
   refine thn (hg _ _ _ _ _ s7 _ H7 x u _ I7' r7 g7) λ_ s8 hh9=>?_
   obtain⟨σ8,H8,I8,sub8,q8⟩:=hh9
   have again:∀ {σ9:St} {H9:Hp} {s9:Shared} {zs:List V},Inv Y ([]++WM fp s7.heap) σ9 H9 s9->Z1 (List.replicate L.length none++σ) σ9->(∃ m',m' < n/\W (i+1) m' zs H9) ->
    ∃ m,m < n/\∃ i ys H',Inv Y [] (List.replicate L.length none++σ) H' s9/\tn i s9.heap/\(∀ b∈fp,H' b=none)/\W i m ys H':=λ{σ9 H9 s9 zs} I9 sub9 w9=>by
    obtain⟨m',hm,w9⟩:=w9
    refine⟨m',hm,i+1,zs,H9,(I9.sub sub9).unpinned,T.keep _ _ _ st7 λb hb o e=>(I9.pin (b,o) (b6 _ (b6 _ (wl hb e)))).1,λb hb=>?_,w9⟩
    obtain⟨o,e,d⟩:=T.obj _ _ st7 b hb
    exact(I9.pin (b,o) (b6 _ (b6 _ (wl hb e)))).2.1
   refine thn (ht _ _ _ _ _ s8 σ8 H8 _ I8 q8) λb s9 hh9=>?_
   obtain⟨H9,I9,q9⟩:=hh9
   cases b with
   | false =>
    rw[j4 u9]at q9
    rw[j4 u9]
    exact again I9 sub8 q9
   | true =>
    rw[t4 rfl]at q9
    rw[t4 rfl]
    refine thn (he _ _ _ _ _ s9 σ8 H9 _ I9 q9) λy s10 hh9=>?_
    obtain⟨yv,H10,I10,r10,hD10,w10⟩:=hh9
    obtain⟨z10,its,k,rv,e10⟩:ys.length<=sizeLine/\∃ (its:List Value) (n:Nat),yM ys its/\s10.heap.get? s2.heap.objs.size=some { cls:=.type "list",data:=.seq its.toArray n }:=I10.hok _ _ hD10
    have hl10:s10.heap.PlainList s2.heap.objs.size its.toArray:=⟨k,e10⟩
    refine wpAny_list_append_plain (hsz:=by rw[t7,<- rv.length];exact z10) hl10 λh11 hl11 sb11=>?_
    obtain⟨k',e11⟩:=hl11
    have I11:Inv Y ([]++WM fp s7.heap) σ8 (upd H10 s2.heap.objs.size (.lst (ys++[yv]))) { s10 with heap:=h11 }:=by
     refine I10.write (x:=s2.heap.objs.size) (e:=s2.heap.objs.size) (t':=s10.toks) (by rw[hD10];exact True.intro) (.inl rfl) (λb u hb e=>(sb11.2 b hb).trans e) ⟨_,e11⟩ ?_
     refine⟨by rw[j8];show ys.length+1<=sizeLine;exact hlen,its++[y],k',rv.append (.cons r10 .nil),?_⟩
     rw[e11]
     simp
    exact again I11 sub8 w10
 exact codeAny_compStart_list loop (T.self _ 0 _ _ _ st4 loop)
theorem zkO {X:Cx}{elt tg iter:Expr}{ifs:List Expr}{L M:List Str}{scope:Scope}{cl:List (Str × Addr)}{pos:Pos}{wi:TI}{g:TG}{tt:TT}{te:TE}
 (hc:X.calm=true) (S:xI X L M scope cl) (hi:PI X tg iter wi)
 (hgS:∀ (σ:St) (v:V) (H:Hp) (Q:St->Hp->Prop),g v (List.replicate L.length none++σ) H Q->g v (List.replicate L.length none++σ) H (fun σ2 H2=>Z1 (List.replicate L.length none++σ) σ2/\Q σ2 H2))
 (hg:∀ s₀ H₀ ex pn,PG (zaW X L M scope cl s₀ H₀ ex pn) tg g) (ht:∀ s₀ H₀ ex pn,PIf (zaW X L M scope cl s₀ H₀ ex pn) ifs tt) (he:∀ s₀ H₀ ex pn,PE (zaW X L M scope cl s₀ H₀ ex pn) elt te)
 (hs:∀ x,foldedSetIterable iter X.env x=pure x:=by intro _;rfl) :
 PE X (.ListComp elt [⟨tg,iter,ifs,0⟩] scope pos) (tLC wi L.length g tt te):=by
 intro pins s σ H Q I h
 rw[eval_ListComp]
 refine zhB hc S hi hgS hg ht he hs _ pins s σ H Q I h λD C H' s' I' ⟨m,hn⟩ f q=>⟨m,hn,λh' sb=>⟨.ref D,_,I'.letGo f sb,rfl,q⟩⟩
theorem zk6 {i:Nat}{x:Str}{px spos:Pos}{X:Cx}{elt tg iter:Expr}{ifs:List Expr}{L M:List Str}{scope:Scope}{cl:List (Str × Addr)}{pos:Pos}{wi:TI}{g:TG}{tt:TT}{te:TE}
 (hN:X.N.Nodup) (hi':X.N[i]?=some x) (hx:Loc X.env.scope x) (hc:X.calm=true) (S:xI X L M scope cl) (hi:PI X tg iter wi)
 (hgS:∀ (σ:St) (v:V) (H:Hp) (Q:St->Hp->Prop),g v (List.replicate L.length none++σ) H Q->g v (List.replicate L.length none++σ) H (fun σ2 H2=>Z1 (List.replicate L.length none++σ) σ2/\Q σ2 H2))
 (hg:∀ s₀ H₀ ex pn,PG (zaW X L M scope cl s₀ H₀ ex pn) tg g) (ht:∀ s₀ H₀ ex pn,PIf (zaW X L M scope cl s₀ H₀ ex pn) ifs tt) (he:∀ s₀ H₀ ex pn,PE (zaW X L M scope cl s₀ H₀ ex pn) elt te)
 (hs:∀ x,foldedSetIterable iter X.env x=pure x:=by intro _;rfl)
 (hsw:swapsWith (.ListComp elt [⟨tg,iter,ifs,0⟩] scope pos) (some (.Name x px)) spos.line X.env=pure true:=by rfl)
 (hf:X.fn x=true\/X.env.scope.names.lookup x=some .local:=by first | exact .inl rfl | exact .inr rfl | assumption) :
 PS X (.Assign [.Name x px] (.ListComp elt [⟨tg,iter,ifs,0⟩] scope pos) spos) (zmV (tLC wi L.length g tt te) (Xa i)):=by
 intro pins s σ H D I h
 rw[exec_Assign_Name_used _ _ _ _ hsw]
 refine u0 (wpAny_standAt (u0 ?_))
 show wpAny _ X.A (do let _<-comprehension (.ListComp elt [⟨tg,iter,ifs,0⟩] scope pos) scope X.env _ (newList []) false (eval iter X.env) (some (assign (.Name x px) X.env))) _ _ s
 refine u0 (thn (zhB (use:=some (assign (.Name x px) X.env)) (Qf:=λ_ s'=>SP X pins D .next s') hc S hi hgS hg ht he hs _ pins s σ H _ I h λD' C H' s' I' ⟨m,hn⟩ f q=>?_) λ_ s' hq=>u7 (u7 hq))
 have hob:∀ b∈[C],∃ o,s'.heap.get? b=some o/\∀ v,o.data≠.cell v:=λb hb=>by
  rw[d5.mp hb]
  obtain⟨o,es,ep,e,d,_⟩:=hn
  exact⟨o,e,λv z=>by rw[z]at d;cases d⟩
 have I2:=I'.pinned (fp:=[C]) (λb hb=>by rw[d5.mp hb];exact f) hob
 refine thn (zx (pos:=px) hN hi' hx hf _ s' σ H' (.ref D') (.ref D') _ I2 rfl q) λ_ s2 hh9=>?_
 obtain⟨σ2,H2,I3,q3⟩:=hh9
 obtain⟨o,es,ep,e,d⟩:=hn
 have pn:=I3.pin (C,o) (b6 _ (b6 _ (wl (d5.mpr rfl) e)))
 exact⟨m,⟨o,es,ep,pn.1,d⟩,λh' sb=>⟨σ2,H2,I3.unpinned.letGo ⟨pn.2.1,f.2⟩ sb,q3⟩⟩
def zaJ (names rn dn:List (Str × NameKind))(N M cn:List Str):Bool :=
 names.all (λy=>decide (y.2≠.cell))&&names.all (λy=>decide (y.2=.local->names.lookup y.1=some .local)) &&
 rn.all (λy=>decide ((y.2=.cell\/y.2=.free)->y.1∈cn)) &&
 (M.length == N.length)&&(M.zip N).all (λp=>decide ((rn.lookup p.1=some .local\/rn.lookup p.1=some .cell\/rn.lookup p.1=some .free)->p.1=p.2)) &&
 M.all (λy=>decide ((rn.lookup y=some .local\/rn.lookup y=some .cell\/rn.lookup y=some .free) ->
  (rn.lookup y=some .cell\/rn.lookup y=some .free)/\(dn.lookup y=some .local\/dn.lookup y=some .cell\/dn.lookup y=some .free)/\dn.lookup y≠some .local))
theorem wU {X:Cx}{L N M cn:List Str}{scope:Scope}{cl:List (Str × Addr)}{rn dn:List (Str × NameKind)}(hr:(relabel scope X.env).names=rn)(hd:X.env.scope.names=dn)(hN:X.N=N)
 (clos:closureFor scope X.env=pure cl) (kind:scope.kind=.function) (hc:cl.map Prod.fst=cn) (good:zaJ scope.names rn dn N M cn=true) (sub:∀ p∈cl,X.env.cells.lookup p.1=some p.2):xI X L M scope cl:=by
 unfold zaJ at good
 simp only[g0,u0s,r9]at good
 obtain⟨⟨⟨⟨⟨g1,g2⟩,g3⟩,g5⟩,g6⟩,g4⟩:=good
 have g5:M.length=N.length:=by simpa using g5
 refine⟨clos,g1,kind,g2,λy c h=>sub (y,c) (u0w h),λy h=>?_,by rw[hN];exact g5,λi y e v=>?_,λi y e v=>?_,λi y e v=>?_⟩
 .rw[hr]at h
  have hy:y∈cn:=by
   rcases h with h | h
   .exact g3 _ (u0w h) (.inl rfl)
   .exact g3 _ (u0w h) (.inr rfl)
  exact Yh (by rw[hc];exact hy)
 .unfold Vis at v
  rw[hr]at v
  have hi:=(t6.mp e).1
  have hj:i < N.length:=by rw[<-g5];exact hi
  have hz:(M.zip N)[i]?=some (y,N[i]):=by
   rw[u1A]
   exact⟨e,t9 hj⟩
  have:=g6 _ (d9 hz) v
  rw[hN,t9 hj]
  exact u1c some this.symm
 .unfold Vis at v
  rw[hr]at v ⊢
  exact(g4 y (d9 e) v).1
 .unfold Vis at v
  rw[hr]at v
  obtain⟨_,k1,k2⟩:=g4 y (d9 e) v
  refine⟨?_,?_⟩
  .unfold Vis;rw[hd];exact k1
  .show X.env.scope.names.lookup y≠_;rw[hd];exact k2
end L2
namespace PySem
open Sem (wp)
open AutoSeq1 (wpAny_loadPart')
section
variable {prog:Program}{w:World}{A:Around}{E:Value->Shared->Prop}{s:Shared}
theorem ZJ {it l:Addr}{i:Nat}{items}{x:Value}{Q:Value->Shared->Prop}(hit:s.heap.IsTupleIter it l i)
 (hl:s.heap.IsTuple l items) (hx:items[i]?=some x)
 (hQ:∀ h',h'.IsTupleIter it l (i+1)->Heap.SameBut it s.heap h'->Q x { s with heap:=h' }) :
 wpAny (model prog w) A (Builtin.SmallTypes.nextOf (.ref it)) Q E s:=by
 obtain⟨o,ho,hc,hd⟩:=id hit
 obtain⟨ol,hol,_,nl,hdl⟩:=hl
 unfold Builtin.SmallTypes.nextOf
 refine u0 (u0k (name:=Str.ofString "__next__") hit.typeIs u1u
  (u0h u1u hit.typeIs F.entry_tuple_iterator_next ?_ (F.args_tuple_iterator_next_1 _)))
 show wpAny _ _ (field (.ref it) 0>>=_) _ _ s
 refine u0 (u0X ho hd (x:=.ref l) rfl ?_)
 show wpAny _ _ (if (Value.ref l == Value.none)=true then _ else _) _ _ s
 rw[j4 (show ¬ ((Value.ref l == Value.none)=true)from u9)]
 show wpAny _ _ (field (.ref it) 1>>=_) _ _ s
 refine u0 (u0X ho hd (x:=.int i 0) rfl ?_)
 show wpAny _ _ (seqItems? (.ref l)>>=_) _ _ s
 refine u0 (u1Q hol hdl ?_)
 simp only[u0f,hx]
 refine u0 (u3t ho hd (by simp) (u7 ⟨x,rfl,u7 (hQ _ ?_ (u1o ..))⟩))
 exact⟨_,u0b _ ho (Obj.isFreed_of_fields (u2n hd _)),(Obj.cls_mapFields ..).trans hc,by
  rw[u2n hd];simp[rawInt]⟩
theorem vq {it l:Addr}{i:Nat}{items}{Q:Value->Shared->Prop}(hh:A.handled=none)
 (hit:s.heap.IsTupleIter it l i) (hl:s.heap.IsTuple l items) (hx:items[i]?=none)
 (hE:∀ h' e,Heap.ExtBut it s.heap h'->(∃ o,h'.get? e=some o/\o.cls=.type "StopIteration")->E (.ref e) { s with heap:=h' }) :
 wpAny (model prog w) A (Builtin.SmallTypes.nextOf (.ref it)) Q E s:=by
 obtain⟨o,ho,hc,hd⟩:=id hit
 obtain⟨ol,hol,_,nl,hdl⟩:=hl
 unfold Builtin.SmallTypes.nextOf
 refine u0 (u0k (name:=Str.ofString "__next__") hit.typeIs u1u
  (u0h u1u hit.typeIs F.entry_tuple_iterator_next ?_ (F.args_tuple_iterator_next_1 _)))
 show wpAny _ _ (field (.ref it) 0>>=_) _ _ s
 refine u0 (u0X ho hd (x:=.ref l) rfl ?_)
 show wpAny _ _ (if (Value.ref l == Value.none)=true then _ else _) _ _ s
 rw[j4 (show ¬ ((Value.ref l == Value.none)=true)from u9)]
 show wpAny _ _ (field (.ref it) 1>>=_) _ _ s
 refine u0 (u0X ho hd (x:=.int i 0) rfl ?_)
 show wpAny _ _ (seqItems? (.ref l)>>=_) _ _ s
 refine u0 (u1Q hol hdl ?_)
 simp only[u0f,hx]
 refine u0 (u1P (u0 (u3t ho hd (by simp) ?_)))
 show wpAny _ _ (newExc (.type "StopIteration") []>>=_) _ _ _
 refine u0 ?_
 simp only[newExc,newTuple]
 refine u0 (u0g ?_ (by size_fits))
 refine u0 (m:=firstArgMember _ _) (u13 (a:=Value.none) (by first | rfl | (simp only[firstArgMember];rfl)) ?_)
 refine u0g ?_ (by size_fits)
 simp only[raiseNew]
 refine u0 (wpAny_handled ?_)
 first | rw[show A.in1.handled=none from hh] | rw[hh]
 refine u0 (u7 (wpAny_throw ?_))
 exact hE _ _ (((u1o ..).extBut.push _).push _) ⟨_,j6 _ rfl,rfl⟩
end
theorem Z0 {prog:Program}{w:World}{A:Around}{E:Value->Shared->Prop}{s:Shared}{e it l:Addr}{i:Nat}{items:Array Value}{old:Value}{Q:Option Value->Shared->Prop}(hh:A.handled=none)
 (he:IsEnum s.heap e it i old) (hit:s.heap.IsTupleIter it l i) (hl:s.heap.IsTuple l items) (hx:items[i]?=none)
 (hQ:∀ h',Heap.ExtBut it s.heap h'->Q none { s with heap:=h' }):wpAny (model prog w) A (pyNext (.ref e)) Q E s:=by
 have hT:s.TypeIs (.ref e) "enumerate":=⟨_,he,rfl⟩
 unfold pyNext
 refine u0 (u1L (u0k (name:=Str.ofString "__next__") hT F.slot_enumerate_next
  (u0h F.slot_enumerate_next hT F.entry_enumerate_next ?_ (F.args_enumerate_next_1 _))))
 show wpAny _ _ (field (.ref e) 2>>=_) _ _ _
 refine u0 (u0X he rfl (x:=.ref it) rfl ?_)
 refine u0 (vq hh hit hl hx λh' x he' hx'=>?_)
 obtain⟨o,ho,hc⟩:=hx'
 refine u0 (u2c (T:="StopIteration") (b:=true) ⟨o,ho,hc⟩ u3r ?_)
 exact u7 (hQ _ he')
theorem Zn {prog:Program}{w:World}{A:Around}(hh:A.handled=none)(it l:Addr)(hne:l≠it)(items:Array Value) :
 Draws prog w A it [it,l] items.size (λi v=>items[i]?=some v) (λi h=>h.IsTupleIter it l i/\h.IsTuple l items) where
 live:=λ_ _ st=>let ⟨o,ho,_⟩:=st.1;⟨o,ho⟩
 frame:=λ_ _ _ st hk=>by
  obtain⟨⟨o,ho,r⟩,⟨o2,ho2,r2⟩⟩:=st
  exact⟨⟨o,hk it (by simp) o ho,r⟩,⟨o2,hk l (by simp) o2 ho2,r2⟩⟩
 item:=λi s Q E hi st hQ=>by
  refine ZJ st.1 st.2 (x:=items[i]) (by simp[hi]) λh' hit' hs'=>?_
  exact hQ _ h' s.toks (by simp[hi]) ⟨hit',st.2.extBut hs'.extBut hne⟩ hs'
 done:=λs Q E st hE=>vq hh st.1 st.2 (by simp) hE
theorem XL (l:Addr)(items:Array Value)(n:Nat)(dd:Option Addr)(sl:Array (Option Value)) :
 Meets (Builtin.«enumerate.__new__» ⟨[.type "enumerate",.ref l],[]⟩) (λ_ R s=>s.heap.get? l=some { cls:=.type "tuple",dict:=dd,data:=.seq items n,slots:=sl } /\
  R (.ok (.ret (.ref (s.heap.push { cls:=.type "tuple_iterator",data:=.fields #[.ref l,.int 0 0] }).objs.size)))
   { s with heap:=(s.heap.push { cls:=.type "tuple_iterator",data:=.fields #[.ref l,.int 0 0] }).push { cls:=.type "enumerate",data:=.fields #[.none,.bool false,.ref s.heap.objs.size,rawInt 0,.none,.none] } }) :=
 .of_wp λprog w A R s h=>by
  obtain⟨hp,g,d,tk,os⟩:=s;obtain⟨hl,h⟩:=h
  have hsub:=sub_enumerate
  have hL:Heap.IsTuple (Shared.heap ⟨hp,g,d,tk,os⟩) l items:=⟨_,hl,rfl,n,rfl⟩
  wp_walk using u1t hl
  refine wpAny_stack_any λst=>u7 ?_
  split
  .rename_i c _ _ _ _ _
   cases (c == Value.type "enumerate")
   .wp_walk using u1t hl,u0T hL
    exact⟨_,rfl,h⟩
   .wp_walk using u1t hl,u0T hL
    exact⟨_,rfl,h⟩
  .wp_walk using u1t hl,u0T hL
   exact⟨_,rfl,h⟩
section
variable {prog:Program}{w:World}{A:Around}{E:Value->Shared->Prop}{s:Shared}
theorem ZX {l:Addr}{items:Array Value}{Q:Value->Shared->Prop}
 (hl:s.heap.IsTuple l items)
 (h:∀ h',IsEnum h' (s.heap.objs.size+1) s.heap.objs.size 0 .none->h'.IsTupleIter s.heap.objs.size l 0->h'.objs.size=s.heap.objs.size+2 ->
  (∀ b o,s.heap.get? b=some o->h'.get? b=some o)->Q (.ref (s.heap.objs.size+1)) { s with heap:=h' }) :
 wpAny (model prog w) A (call (.type "enumerate") [.ref l]) Q E s:=by
 obtain⟨⟨cls,dd,data,sl⟩,ho,hc,n,hd⟩:=hl
 simp only at hc hd
 subst hc hd
 refine callType_new F.called_enumerate (by decide) (F.typeCall_enumerate_1 _) (F.newCall_enumerate_1 _) (λobj=>F.args_object_init_2 obj _) F.entry_enumerate_new
  (XL l items n dd sl) ⟨ho,?_⟩
 have hz:(s.heap.push { cls:=.type "tuple_iterator",data:=.fields #[.ref l,.int 0 0] }).objs.size=s.heap.objs.size+1:=u0A ..
 show _/\_
 rw[hz]
 have he:IsEnum ((s.heap.push { cls:=.type "tuple_iterator",data:=.fields #[.ref l,.int 0 0] }).push
  { cls:=.type "enumerate",data:=.fields #[.none,.bool false,.ref s.heap.objs.size,rawInt 0,.none,.none] }) (s.heap.objs.size+1) s.heap.objs.size 0 .none:=by
  have:=j6 (s.heap.push { cls:=.type "tuple_iterator",data:=.fields #[.ref l,.int 0 0] })
   (o:={ cls:=.type "enumerate",data:=.fields #[.none,.bool false,.ref s.heap.objs.size,rawInt 0,.none,.none] }) rfl
  rw[hz]at this;exact this
 refine⟨⟨_,he,rfl⟩,h _ he ⟨_,u4 _ (j6 _ rfl),rfl,rfl⟩ (by rw[u0A,hz]) λb o x=>u4 _ (u4 _ x)⟩
end
end PySem
namespace L2
open PySem PySem.Spec PyProof.Rows
section
variable {X:Cx}{pins:List (Addr × Obj)}{σ:St}{H:Hp}{s:Shared}{h':Heap}
theorem Inv.grown {ch:List Addr}{T:Addr}{o:HO}{t':Nat}(I:Inv X pins σ H s)(hch:∀ b∈ch,zc9 X pins H b)(hT:s.heap.objs.size<=T)(k:∀ b u,b∉ch->s.heap.get? b=some u->h'.get? b=some u)
 (new:yY X.prog X.w (upd H T o) h' T o):Inv X pins σ (upd H T o) { s with heap:=h',toks:=t' }:=by
 have hn:H T=none:=I.hok.fresh hT
 have neT:∀ b u,s.heap.get? b=some u->b≠T:=λb u e=>o0 (r6 (q5 e) hT)
 have nch:∀ b u,H b=some u->b∉ch:=λb u e z=>by rw[(hch b z).1]at e;cases e
 refine I.step (g':=s.gens) (d':=s.drawn) (ch:=ch) (λb hb=>?_) (λb u _ _ hc e _=>k b u hc e) (λb u _ _ hc e _=>⟨u.slots,k b u hc e⟩) (λb u _ e n=>by rw[zq (neT b u e)];exact n)
  (λb u hc e=>⟨u,k b u hc e⟩) (λb xs e=>by rw[zq (zr e hn)];exact e) (λb u xs e=>by rw[zq (zr e hn)];exact e) (λb ps e=>⟨#[],by rw[zq (zr e hn),e];simp⟩) (λm hm=>?_) (λb u e=>?_) I.bare
 .obtain⟨_,n1,_,n3,n4,n5⟩:=hch b hb
  exact⟨n3,n1,n4,n5⟩
 .obtain⟨ob,es,ep,ho,r⟩:=hm
  exact⟨ob,es,ep,k _ ob (λz=>(hch _ z).2.1 rfl) ho,r⟩
 .by_cases hb:b=T
  .subst hb;rw[zt]at e;cases e;exact new
  .rw[zq hb]at e
   refine(I.hok b u e).stay (λc v hc q=>k c v ?_ q) (λc q=>by rw[zq (zr q hn)];exact q) λc xs q=>by rw[zq (zr q hn)];exact q
   rcases hc with z | z
   .rw[z];exact nch b u e
   .exact nch c _ z
theorem Inv.turnedN {ch:List Addr}{t':Nat}(I:Inv X pins σ H s)(hch:∀ b∈ch,zc9 X pins H b)(k:∀ b u,b∉ch->s.heap.get? b=some u->h'.get? b=some u):Inv X pins σ H { s with heap:=h',toks:=t' }:=by
 have nch:∀ b u,H b=some u->b∉ch:=λb u e z=>by rw[(hch b z).1]at e;cases e
 refine I.step (g':=s.gens) (d':=s.drawn) (ch:=ch) (λb hb=>?_) (λb u _ _ hc e _=>k b u hc e) (λb u _ _ hc e _=>⟨u.slots,k b u hc e⟩) (λb u _ e n=>n)
  (λb u hc e=>⟨u,k b u hc e⟩) (λb xs e=>e) (λb u xs e=>e) (λb ps e=>⟨#[],by rw[e];simp⟩) (λm hm=>?_) (λb u e=>?_) I.bare
 .obtain⟨_,n1,_,n3,n4,n5⟩:=hch b hb
  exact⟨n3,n1,n4,n5⟩
 .obtain⟨ob,es,ep,ho,r⟩:=hm
  exact⟨ob,es,ep,k _ ob (λz=>(hch _ z).2.1 rfl) ho,r⟩
 .refine(I.hok b u e).stay (λc v hc q=>k c v ?_ q) (λc q=>q) λc xs q=>q
  rcases hc with z | z
  .rw[z];exact nch b u e
  .exact nch c _ z
end
def Iel (K:W.Frag)(a:Addr):It :=
 ⟨λi H=>∃ xs x,SqL K H a xs/\xs[i]?=some x,λi H v H'=>∃ T x,v=.ref T/\H T=none/\H'=upd H T (.tup [.int i,x])/\∀ xs,SqL K H a xs->xs[i]?=some x,λi H=>∃ xs,SqL K H a xs/\xs.length<=i⟩
def Iet (K:W.Frag)(a:Addr):It :=
 ⟨λi H=>∃ xs x,SqT K H a xs/\xs[i]?=some x,λi H v H'=>∃ T x,v=.ref T/\H T=none/\H'=upd H T (.tup [.int i,x])/\∀ xs,SqT K H a xs->xs[i]?=some x,λi H=>∃ xs,SqT K H a xs/\xs.length<=i⟩
theorem zfe {P:Program}{w:World}{K:W.Frag}{es:List Expr}{k:Nat}{tp:Pos}(a e it:Addr)(hne:e≠it) :
 zkD P w K (.Tuple es k tp) (Iel K a) [e,it] e (λi h=>(∃ old,IsEnum h e it i old)/\h.IsListIter it a i) where
 mem:=by simp
 obj:=λi h st b hb=>by
  obtain⟨⟨old,he⟩,o,ho,_,hd⟩:=st
  rcases j9.mp hb with rfl | hb
  .exact⟨_,he,λv z=>by cases z⟩
  .rw[d5.mp hb]
   exact⟨o,ho,λv z=>by rw[hd]at z;cases z⟩
 keep:=λi h h' st kk=>by
  obtain⟨⟨old,he⟩,hit⟩:=st
  exact⟨⟨old,kk e (by simp) _ he⟩,hit.at λo q=>kk it (by simp) o q⟩
 item:=by
  intro X hP hw hK hc i pins s σ H E I hf st hg
  subst hP hw hK
  obtain⟨⟨old,he⟩,hit⟩:=st
  obtain⟨xs,x,hq,hx⟩:=hg
  obtain⟨its,rv,p,hz⟩:=I.list hq
  obtain⟨u,hu,ru⟩:=rv.get hx
  refine wpAny_pyNext_enum_item he hit p.isList (x:=u) (by simpa using hu) hne λh1 ho1 hit1 hT1 hz1 hk1=>?_
  refine⟨_,rfl,wpAny_letOwnedTupleGo_enum ho1 λh2 he2 hs2=>?_⟩
  have hfr:H s.heap.objs.size=none:=I.hok.fresh (t5 _)
  have neE:s.heap.objs.size≠e:=u12 (q5 he)
  have hT2:h2.get? s.heap.objs.size=some { cls:=.type "tuple",data:=.seq #[.int i s.toks,u] }:=(hs2.2 _ neE).trans hT1
  refine⟨.ref s.heap.objs.size,upd H s.heap.objs.size (.tup [.int i,x]),?_,rfl,⟨_,x,rfl,hfr,rfl,λys hy=>by rw[I.list_inj hy hq];exact hx⟩,⟨⟨_,by simpa using he2⟩,hit1.at λo q=>(hs2.2 it (u0R hne)).trans q⟩,λb hb=>?_⟩
  .refine I.grown (ch:=[e,it]) hf (t5 _) (λb v hb q=>?_) ?_
   .have n1:b≠e:=λz=>hb (by simp[z])
    have n2:b≠it:=λz=>hb (by simp[z])
    exact(hs2.2 b n1).trans (hk1 b v n1 n2 q)
   .exact⟨by show 2<=sizeLine;decide,[.int i s.toks,u],.cons ⟨_,rfl⟩ (.cons ru .nil),⟨_,hT2,rfl,0,rfl⟩⟩
  .obtain⟨o,hb2,_⟩:∃ o,s.heap.get? b=some o/\True:=by
    rcases j9.mp hb with rfl | hb
    .exact⟨_,he,trivial⟩
    .rw[d5.mp hb]
     obtain⟨o,ho,_⟩:=hit
     exact⟨o,ho,trivial⟩
   rw[zq (o0 (q5 hb2))]
   exact(hf b hb).1
 done:=by
  intro X hP hw hK hc i pins s σ H E I hf st hg
  subst hP hw hK
  obtain⟨⟨old,he⟩,hit⟩:=st
  obtain⟨xs,hq,hx⟩:=hg
  obtain⟨its,rv,p,hz⟩:=I.list hq
  have hl:=rv.length
  exact wpAny_pyNext_enum_end (I.ok.hd hc) he hit p.isList (by simp;omega) λh1 hx1=>⟨rfl,I.turnedN (ch:=[e,it]) (t':=s.toks) hf λb v hb q=>hx1 b v (λz=>hb (by simp[z])) q⟩
 self:=λ_ _ _ _ _ st h=>u2y st.1.choose_spec h
theorem zf2 {P:Program}{w:World}{K:W.Frag}{es:List Expr}{k:Nat}{tp:Pos}(a e it:Addr)(hne:e≠it)(hai:a≠it)(hae:a≠e) :
 zkD P w K (.Tuple es k tp) (Iet K a) [e,it] e (λi h=>(∃ old,IsEnum h e it i old)/\h.IsTupleIter it a i) where
 mem:=by simp
 obj:=λi h st b hb=>by
  obtain⟨⟨old,he⟩,o,ho,_,hd⟩:=st
  rcases j9.mp hb with rfl | hb
  .exact⟨_,he,λv z=>by cases z⟩
  .rw[d5.mp hb]
   exact⟨o,ho,λv z=>by rw[hd]at z;cases z⟩
 keep:=λi h h' st kk=>by
  obtain⟨⟨old,he⟩,o,ho,r⟩:=st
  exact⟨⟨old,kk e (by simp) _ he⟩,o,kk it (by simp) o ho,r⟩
 item:=by
  intro X hP hw hK hc i pins s σ H E I hf st hg
  subst hP hw hK
  obtain⟨⟨old,he⟩,hit⟩:=st
  obtain⟨xs,x,hq,hx⟩:=hg
  obtain⟨its,rv,p,hz⟩:=I.tuple hq
  obtain⟨u,hu,ru⟩:=rv.get hx
  have p':s.heap.IsTuple a its.toArray:=p
  have D:=Zn (prog:=X.prog) (w:=X.w) (A:=X.A.in1) (I.ok.hd hc) it a hai its.toArray
  have hlt:i < its.toArray.size:=by
   obtain⟨h1,_⟩:=t6.mp hu
   simpa using h1
  refine wpAny_pyNext_enum_itemD D he ⟨hit,p'⟩ hlt hne (by simp[hne,u0R hae]) λu' h1 tk hP1 ho1 hit1 hT1 hz1 hk1=>?_
  have eu:u'=u:=by
   have:its[i]?=some u':=by simpa using hP1
   rw[hu]at this
   exact(i8 this).symm
  subst eu
  refine⟨_,rfl,wpAny_letOwnedTupleGo_enum ho1 λh2 he2 hs2=>?_⟩
  have hfr:H s.heap.objs.size=none:=I.hok.fresh (t5 _)
  have neE:s.heap.objs.size≠e:=u12 (q5 he)
  have hT2:h2.get? s.heap.objs.size=some { cls:=.type "tuple",data:=.seq #[.int i tk,u'] }:=(hs2.2 _ neE).trans hT1
  refine⟨.ref s.heap.objs.size,upd H s.heap.objs.size (.tup [.int i,x]),?_,rfl,⟨_,x,rfl,hfr,rfl,λys hy=>by rw[I.tuple_inj hy hq];exact hx⟩,⟨⟨_,by simpa using he2⟩,?_⟩,λb hb=>?_⟩
  .refine I.grown (ch:=[e,it]) hf (t5 _) (λb v hb q=>?_) ?_
   .have n1:b≠e:=λz=>hb (by simp[z])
    have n2:b≠it:=λz=>hb (by simp[z])
    exact(hs2.2 b n1).trans (hk1 b v n1 n2 q)
   .exact⟨by show 2<=sizeLine;decide,[.int i tk,u'],.cons ⟨_,rfl⟩ (.cons ru .nil),⟨_,hT2,rfl,0,rfl⟩⟩
  .obtain⟨o,ho,r⟩:=hit1.1
   exact⟨o,(hs2.2 it (u0R hne)).trans ho,r⟩
  .obtain⟨o,hb2,_⟩:∃ o,s.heap.get? b=some o/\True:=by
    rcases j9.mp hb with rfl | hb
    .exact⟨_,he,trivial⟩
    .rw[d5.mp hb]
     obtain⟨o,ho,_⟩:=hit
     exact⟨o,ho,trivial⟩
   rw[zq (o0 (q5 hb2))]
   exact(hf b hb).1
 done:=by
  intro X hP hw hK hc i pins s σ H E I hf st hg
  subst hP hw hK
  obtain⟨⟨old,he⟩,hit⟩:=st
  obtain⟨xs,hq,hx⟩:=hg
  obtain⟨its,rv,p,hz⟩:=I.tuple hq
  have hl:=rv.length
  have p':s.heap.IsTuple a its.toArray:=p
  exact Z0 (I.ok.hd hc) he hit p' (by simp;omega) λh1 hx1=>⟨rfl,I.turnedN (ch:=[e,it]) (t':=s.toks) hf λb v hb q=>hx1 b v (λz=>hb (by simp[z])) q⟩
 self:=λ_ _ _ _ _ st h=>u2y st.1.choose_spec h
def zpN (K:W.Frag)(ta:TA):TI:=fun σ H R=>ta σ H λvs H1=>∃ a,vs=[.ref a]/\((∃ xs,H1 a=some (.lst xs)/\R (Iel K a) H1)\/(∃ xs,SqT K H1 a xs/\R (Iet K a) H1))
theorem zmF {X:Cx} {es:List Expr} {k:Nat} {tp:Pos} {a:Expr} {ta:TA} {p pos:Pos} (hg:Gl X "enumerate") (hm:X.mg "enumerate"=none) (hb:bootBuiltins "enumerate"=some (.type "enumerate")) (ha:PA X [a] ta)
 (hs:starEach [a] X.env=[(false,eval a X.env)]:=by rfl):PI X (.Tuple es k tp) (.Call (.Name "enumerate" p) [a] [] pos) (zpN X.K ta):=by
 intro pins s σ H R I h
 refine Call_ (XM I hg hm hb (u0J (thn (ha pos pins s σ H _ I h) λus s1 hh9=>?_) hs rfl))
 obtain⟨vs,H1,I1,r1,q1⟩:=hh9
 obtain⟨l,e,q⟩:=q1
 subst e
 obtain⟨u,rfl,ru⟩:=WW r1
 cases ru
 have hn:∀ b,s1.heap.objs.size<=b->zc9 X pins H1 b:=λb hb=>I1.fpOk hb (I1.hok.fresh hb)
 have hne:s1.heap.objs.size+1≠s1.heap.objs.size:=by omega
 have hfp:∀ b∈[s1.heap.objs.size+1,s1.heap.objs.size],zc9 X pins H1 b:=λb hb=>by
  rcases j9.mp hb with rfl | hb
  .exact hn _ (u1r _)
  .rw[d5.mp hb];exact hn _ (t5 _)
 rcases q with ⟨xs,hx,q⟩ | ⟨xs,hx,q⟩
 .obtain⟨_,its,n,_,e⟩:xs.length<=sizeLine/\∃ (its:List Value) (n:Nat),yM xs its/\s1.heap.get? l=some { cls:=.type "list",data:=.seq its.toArray n }:=I1.hok _ _ hx
  refine call_enumerate_1 e λh2 he hit hz hk=>u2y he ?_
  exact⟨_,_,_,_,H1,rfl,I1.kept (t':=s1.toks) hk,zfe l _ _ hne,⟨⟨_,he⟩,hit⟩,hfp,q⟩
 .obtain⟨its,_,p1,_⟩:=I1.tuple hx
  have lt:l < s1.heap.objs.size:=by
   obtain⟨o,ho,_⟩:=p1
   exact q5 ho
  refine ZX (show s1.heap.IsTuple l its.toArray from p1) λh2 he hit hz hk=>u2y he ?_
  exact⟨_,_,_,_,H1,rfl,I1.kept (t':=s1.toks) hk,zf2 l _ _ hne (o0 lt) (o0 (u07 lt)),⟨⟨_,he⟩,hit⟩,hfp,q⟩
end L2
namespace HT
open PySem PyProof.Rows
def lexLe:List Int->List Int->Bool
 | [],_=>true
 | _::_,[]=>false
 | x::xs,y::ys=>if x=y then lexLe xs ys else decide (x<=y)
theorem zfN (x y:Int)(xs ys:List Int):lexLe (x::xs) (y::ys)=if x=y then lexLe xs ys else decide (x<=y):=rfl
theorem zjm (A:Around)(s:Shared)(a:Int)(t:Tok)(c:Int)(u:Tok)(prog:Program)(w:World)(E:Value->Shared->Prop)(Q:Value->Shared->Prop)(h:Q (.bool (decide (a<=c))) s) :
 wpAny (model prog w) A (richCompare .LtE (.int a t) (.int c u)) Q E s :=
 (PyProof.Rows.le_int h:wpAny (model prog w) A (compareOp .LtE (.int a t) (.int c u)) Q E s)
section
open PySem.SeqAt
open PySem.AutoSeq1 (wpAny_loadPart')
open PySem.MeetsSeq PySem.MeetsSeq2 PySem.MeetsSeq3
theorem zbH (l b:Addr)(items items2:Array Value)(n n2:Nat)(dd dd2:Option Addr)(sl sl2:Array (Option Value))(ns ms:List Int)(hi:IntsAre items.toList ns)(hj:IntsAre items2.toList ms) :
 Meets (Builtin.«tuple.__le__» ⟨[.ref l,.ref b],[]⟩)
  (λ_ R s=>s.heap.get? l=some { cls:=.type "tuple",dict:=dd,data:=.seq items n,slots:=sl }/\s.heap.get? b=some { cls:=.type "tuple",dict:=dd2,data:=.seq items2 n2,slots:=sl2 } /\
   R (.ok (.ret (.bool (lexLe ns ms)))) s) :=
 .of_wp λprog w A R s h=>by
  obtain⟨hp,g,d,tk,os⟩:=s;obtain⟨hl,hb,h⟩:=h
  have f2:=AutoSeq1.sub_tuple_tuple
  have z1:items.size=ns.length:=by rw[<-hi.length];simp
  have z2:items2.size=ms.length:=by rw[<-hj.length];simp
  wp_walk using u1t hl,u1t hb,wpAny_forIn_list _ (λrest b s'=>b.1=none/\s'=⟨hp,g,d,tk,os⟩/\∃ (vs ws:List Value) (ns' ms':List Int),rest=vs.zip ws /\
   IntsAre vs ns'/\IntsAre ws ms'/\ns'.length+items2.size=ms'.length+items.size/\R (.ok (.ret (.bool (lexLe ns' ms')))) ⟨hp,g,d,tk,os⟩) _
  case turn =>
   rintro⟨y,x⟩ rest b s' ⟨hb',rfl,vs,ws,ns',ms',hz,hvi,hwi,hlen,hR⟩
   cases hvi with
   | nil=>rw[List.zip_nil_left]at hz;cases hz
   | cons a t hvi' =>
    cases hwi with
    | nil=>rw[List.zip_nil_right]at hz;cases hz
    | cons c u hwi' =>
     rw[u3e]at hz
     injection hz with hyx hrest
     injection hyx with hy hx
     subst hy hx
     rw[zfN]at hR
     simp only[i6]at hlen
     obtain⟨e,he,hiff⟩:=zj7 A.in1 ⟨hp,g,d,tk,os⟩ a t c u
     refine u0 (he prog w _ _ ?_)
     cases e with
     | true =>
      rw[t4 (hiff.mp rfl)]at hR
      wp_walk
      exact⟨rfl,rfl,_,_,_,_,hrest,hvi',hwi',by omega,hR⟩
     | false =>
      rw[j4 (λq=>absurd (hiff.mpr q) u9)]at hR
      have hri:=zjm A.in1 ⟨hp,g,d,tk,os⟩ a t c u prog w
      wp_walk using hri
      exact⟨_,rfl,by simpa using hR⟩
  case fin =>
   rintro⟨b1,b2⟩ s' ⟨hb',rfl,vs,ws,ns',ms',hz,hvi,hwi,hlen,hR⟩
   simp only at hb'
   subst hb'
   have hv:lexLe ns' ms'=decide (items.size<=items2.size):=by
    cases hvi with
    | nil =>
     simp only[u32]at hlen
     show true=_
     exact(j7 (by omega)).symm
    | cons a t hv =>
     cases hwi with
     | nil =>
      simp only[u32,i6]at hlen
      show false=_
      exact(g9 (by omega)).symm
     | cons c u hw =>
      rw[u3e]at hz
      cases hz
   rw[hv]at hR
   wp_walk
   exact⟨_,rfl,by simpa [Builtin.Tuple.tupleCompareSizes]using hR⟩
  case h =>
   exact⟨rfl,rfl,items.toList,items2.toList,ns,ms,rfl,hi,hj,by omega,h⟩
end
section
variable {prog:Program}{w:World}{A:Around}{E:Value->Shared->Prop}{s:Shared}
theorem le_tupInts {l b:Addr}{items items2:Array Value}{ns ms:List Int}{Q:Value->Shared->Prop}(hl:IsTup s.heap l items)(hb:IsTup s.heap b items2)(hi:IntsAre items.toList ns)(hj:IntsAre items2.toList ms)
 (hu:A.units < cLine) (h:Q (.bool (lexLe ns ms)) s):wpAny (model prog w) A (compareOp .LtE (.ref l) (.ref b)) Q E s:=by
 obtain⟨⟨cls,dd,data,sl⟩,ho,hc,n,hd⟩:=id hl
 obtain⟨⟨cls2,dd2,data2,sl2⟩,ho2,hc2,n2,hd2⟩:=id hb
 simp only at hc hd hc2 hd2
 subst hc hd hc2 hd2
 exact richCompare_meets_room (op:=.LtE) ⟨_,ho,rfl⟩ ⟨_,ho2,rfl⟩ PySem.F.slot_tuple_le PySem.F.entry_tuple_le (PySem.F.args_tuple_le_2 _ _) (zbH l b items items2 n n2 dd dd2 sl sl2 ns ms hi hj)
  ⟨ho,ho2,show Value.bool (lexLe ns ms)≠Value.notImplemented/\Q (.bool (lexLe ns ms)) s from⟨(λx=>nomatch x),h⟩⟩ hu
end
end HT
namespace L2
open PySem PySem.Spec PyProof.Rows
def rLeT (K:W.Frag):R2:=λx y H Q=>∃ a b ns ms,x=.ref a/\y=.ref b/\SqT K H a (ns.map V.int)/\SqT K H b (ms.map V.int)/\Q (.bl (HT.lexLe ns ms)) H
theorem zkP {X:Cx}(hu:X.A.units < cLine):OpR X (compareOp .LtE) (rLeT X.K):=by
 intro pins s σ H x y v u Q I rx ry h
 obtain⟨a,b,ns,ms,rfl,rfl,ha,hb,q⟩:=h
 cases rx
 cases ry
 obtain⟨its,r1,p1,_⟩:=I.tuple ha
 obtain⟨its2,r2,p2,_⟩:=I.tuple hb
 have i1:IntsAre its.toArray.toList ns:=YJ r1
 have i2:IntsAre its2.toArray.toList ms:=YJ r2
 exact HT.le_tupInts p1 p2 i1 i2 hu ⟨.bl (HT.lexLe ns ms),H,I,rfl,q⟩
end L2
namespace HT
open PySem PyProof.Rows
section
variable {prog:Program}{w:World}{A:Around}{E:Value->Shared->Prop}{s:Shared}
theorem own_getItem_whole {t sl:Addr}{items:Array Value}{vl vu:Value}{lo hi:Option Int}{Q:Value->Shared->Prop}(ht:IsTup s.heap t items)(hs:s.heap.IsSliceOf sl vl vu .none)(pl:IsPart vl lo)(pu:IsPart vu hi)
 (hw:sIx items.size 0 lo=0/\sIx items.size items.size hi=items.size) (h:Q (.ref t) s):wpAny (model prog w) A (getItem (.ref t) (.ref sl)) Q E s:=by
 obtain⟨os,hos,hcs,hds⟩:=id hs
 have hTs:s.TypeIs (.ref sl) "slice":=⟨os,hos,hcs⟩
 unfold getItem
 try with_reducible refine u0C ?_
 first | refine u0 (u7 ?_) | skip
 refine u0 (wpAny_sequenceKey ht.typeIs (by decide) ?_)
 refine u0 (u0k (name:=Str.ofString "__getitem__") ht.typeIs u0z
  (u0h u0z ht.typeIs entry_tuple_getitem ?_ (args_tuple_getitem _ _)))
 show wpAny _ _ (Builtin.Tuple.tupleItemsOf (.ref t)>>=_) _ _ s
 refine u0 (tupleItemsOf_ ht ?_)
 refine u0 (u2i hTs ?_)
 rw[t4 (by decide)]
 refine u0 (Zi hs pl pu ?_)
 have hyes:(((sIx items.size 0 lo:Nat):Int) == 0&&(1:Int) == 1&&(sIx items.size items.size hi - sIx items.size 0 lo) == items.size)=true:=by
  rw[hw.1,hw.2]
  simp
 show wpAny _ _ (if (((sIx items.size 0 lo:Nat):Int) == 0&&(1:Int) == 1&&(sIx items.size items.size hi - sIx items.size 0 lo) == items.size)=true then _ else _) _ _ s
 rw[t4 hyes]
 refine u0 (m:=Builtin.Tuple.tupleIsExact (.ref t)) ?_
 unfold Builtin.Tuple.tupleIsExact
 refine u0 (u2i ht.typeIs (u7 ?_))
 rw[t4 (by decide)]
 refine u0 (u1P ?_)
 first
  | exact u7 ⟨_,rfl,u7 h⟩
  | exact u0 (u7 (u7 ⟨_,rfl,u7 h⟩))
end
end HT
namespace PySem
open Sem (wp)
theorem x5 {prog:Program}{w:World}{A:Around}{it a:Addr}{fp:List Addr}{n k:Nat}{P:Nat->Value->Prop}{St:Nat->Heap->Prop}(D:Draws prog w A it fp n P St){h h':Heap}(st:St k h)(sb:Heap.SameBut a h h')(na:a∉fp):St k h' :=
 D.frame _ _ _ st λb hb o e=>(sb.2 b λz=>na (z ▸ hb)).trans e
structure zj6 (z TI TO i1 i2:Addr) (fp1 fp2:List Addr):Prop where
 nd:[z,TI,TO,i1,i2].Nodup
 z1:z∉fp1
 z2:z∉fp2
 o1:TO∉fp1
 o2:TO∉fp2
 i12:i1∉fp2
 i21:i2∉fp1
section
variable {prog:Program}{w:World}{A:Around}{E:Value->Shared->Prop}{s:Shared}{z TI TO i1 i2:Addr}{fp1 fp2:List Addr}{n1 n2 k1 k2:Nat}{P1 P2:Nat->Value->Prop}{St1 St2:Nat->Heap->Prop}{a b:Value}
theorem zc7 {Q:Value->Shared->Prop}(D1:Draws prog w A i1 fp1 n1 P1 St1)(D2:Draws prog w A i2 fp2 n2 P2 St2)(ap:zj6 z TI TO i1 i2 fp1 fp2)
 (hz:IsZip s.heap z TI TO .none) (hTI:IsPair s.heap TI (.ref i1) (.ref i2)) (hTO:IsPair s.heap TO a b) (h1:St1 k1 s.heap) (h2:St2 k2 s.heap) (l1:k1 < n1) (l2:k2 < n2)
 (hQ:∀ x y h' tk,P1 k1 x->P2 k2 y->IsZip h' z TI TO (rawInt s.heap.objs.size)->IsPair h' TO x y->St1 (k1+1) h'->St2 (k2+1) h'->IsPair h' s.heap.objs.size x y ->
  (∀ c o,c∉[z,TO,i1,i2]->s.heap.get? c=some o->h'.get? c=some o)->Q (.ref s.heap.objs.size) { s with heap:=h',toks:=tk }) :
 wpAny (model prog w) A (Builtin.«zip.__next__» ⟨[.ref z],[]⟩) (λfin s'=>∃ v,fin=.done (.ret v)/\Q v s') E s:=by
 obtain⟨nd,az1,az2,ao1,ao2,a12,a21⟩:=ap
 simp only[u0y,j9,u0c,u1W,u4c,u2x,u1B,and_true]at nd
 obtain⟨⟨n1',n2',n3',n4'⟩,⟨n5,n6,n7⟩,⟨n8,n9⟩,n10⟩:=nd
 show wpAny _ _ (field (.ref z) 2>>=_) _ _ _
 refine u0 (u0X hz rfl (x:=.bool false) rfl ?_)
 show wpAny _ _ (field (.ref z) 3>>=_) _ _ _
 refine u0 (u0X hz rfl (x:=.ref TI) rfl (u0 (u1Q hTI rfl ?_)))
 show wpAny _ _ (Builtin.SmallTypes.ownedTupleIsFree (.ref z)>>=_) _ _ _
 refine u0 ?_
 unfold Builtin.SmallTypes.ownedTupleIsFree
 refine u0 (u0X hz rfl (x:=.none) rfl (u7 ?_))
 simp only[u2I]
 refine u0 (u1P (u0 (u0X hz rfl (x:=.ref TO) rfl (u0 (u02 hz (by simp) λg1 z1 b1=>?_)))))
 refine u0 ?_
 simp only[u3N,List.zipIdx_nil,u2X,u2z]
 refine u0 (u0 (wpAny_onRaise ?_))
 show wpAny _ _ (Builtin.SmallTypes.nextOf (.ref i1)>>=_) _ _ _
 refine u0 (D1.item k1 _ _ _ l1 (x5 D1 h1 b1 az1) λx g2 tk2 px st2 b2=>u7 ?_)
 have o2:IsPair g2 TO a b:=(b2.2 TO n8).trans ((b1.2 TO (u0R n2')).trans hTO)
 refine u0 (u1Q o2 rfl (u0 (wpAny_updateSeq_pair o2 λg3 o3 b3=>?_)))
 refine u0 (wpAny_letGo (u7 ?_))
 refine u0 (u0 (wpAny_onRaise ?_))
 show wpAny _ _ (Builtin.SmallTypes.nextOf (.ref i2)>>=_) _ _ _
 have s23:St2 k2 g3:=x5 D2 (x5 D2 (x5 D2 h2 b1 az2) b2 a12) b3 ao2
 refine u0 (D2.item k2 _ _ _ l2 s23 λy g4 tk4 py st4 b4=>u7 ?_)
 have o4:IsPair g4 TO x b:=(b4.2 TO n9).trans o3
 refine u0 (u1Q o4 rfl (u0 (wpAny_updateSeq_pair o4 λg5 o5 b5=>?_)))
 replace o5:IsPair g5 TO x y:=o5
 refine u0 (wpAny_letGo (u7 (u7 ?_)))
 refine u0 (u1Q o5 rfl ?_)
 show wpAny _ _ (newTuple [x,y]>>=_) _ _ _
 refine u0 (wpAny_newTuple ?_)
 have hsz:g5.objs.size=s.heap.objs.size:=by rw[b5.1,b4.1,b3.1,b2.1,b1.1]
 have z5:IsZip g5 z TI TO .ellipsis:=(b5.2 z n2').trans ((b4.2 z n4').trans ((b3.2 z n2').trans ((b2.2 z n3').trans z1)))
 have zlt:z < g5.objs.size:=q5 z5
 show wpAny _ _ (Builtin.SmallTypes.ownedTupleHandOut (.ref z) (.ref g5.objs.size)>>=_) _ _ _
 refine u0 ?_
 unfold Builtin.SmallTypes.ownedTupleHandOut
 have z6:IsZip (g5.push { cls:=.type "tuple",data:=.seq #[x,y] }) z TI TO .ellipsis:=u4 _ z5
 refine u0 (u02 z6 (by simp) λg7 z7 b7=>?_)
 refine u02 z7 (by simp) λg8 z8 b8=>?_
 have up:∀ c o,c≠z->g5.get? c=some o->g8.get? c=some o:=λc o n e=>(b8.2 c n).trans ((b7.2 c n).trans (u4 _ e))
 have t8:IsPair g8 g5.objs.size x y:=(b8.2 _ (u12 zlt)).trans ((b7.2 _ (u12 zlt)).trans (j6 _ rfl))
 have e8:IsZip g8 z TI TO (rawInt g5.objs.size):=z8
 rw[hsz]at e8 t8
 refine u7 ⟨_,rfl,?_⟩
 show Q (.ref g5.objs.size) _
 rw[hsz]
 have f1:St1 (k1+1) g5:=x5 D1 (x5 D1 (x5 D1 st2 b3 ao1) b4 a21) b5 ao1
 have f2:St2 (k2+1) g5:=x5 D2 st4 b5 ao2
 refine hQ x y g8 _ px py e8 (up _ _ (u0R n2') o5) (D1.frame _ _ _ f1 λc hc o e=>up c o (λq=>az1 (q ▸ hc)) e) (D2.frame _ _ _ f2 λc hc o e=>up c o (λq=>az2 (q ▸ hc)) e) t8 λc o hc e=>?_
 simp only[j9,u0c,u1W,u4c]at hc
 obtain⟨c1,c2,c3,c4⟩:=hc
 exact up c o c1 ((b5.2 c c2).trans ((b4.2 c c4).trans ((b3.2 c c2).trans ((b2.2 c c3).trans ((b1.2 c c1).trans e)))))
theorem zdC {Q:Fin->Shared->Prop}(D1:Draws prog w A i1 fp1 n1 P1 St1)(az1:z∉fp1)(nz:i1≠z)
 (hz:IsZip s.heap z TI TO .none) (hTI:IsPair s.heap TI (.ref i1) (.ref i2)) (h1:St1 n1 s.heap)
 (hE:∀ h' e,(∀ c o,c≠z->c≠i1->s.heap.get? c=some o->h'.get? c=some o)->(∃ o,h'.get? e=some o/\o.cls=.type "StopIteration")->E (.ref e) { s with heap:=h' }) :
 wpAny (model prog w) A (Builtin.«zip.__next__» ⟨[.ref z],[]⟩) Q E s:=by
 show wpAny _ _ (field (.ref z) 2>>=_) _ _ _
 refine u0 (u0X hz rfl (x:=.bool false) rfl ?_)
 show wpAny _ _ (field (.ref z) 3>>=_) _ _ _
 refine u0 (u0X hz rfl (x:=.ref TI) rfl (u0 (u1Q hTI rfl ?_)))
 show wpAny _ _ (Builtin.SmallTypes.ownedTupleIsFree (.ref z)>>=_) _ _ _
 refine u0 ?_
 unfold Builtin.SmallTypes.ownedTupleIsFree
 refine u0 (u0X hz rfl (x:=.none) rfl (u7 ?_))
 simp only[u2I]
 refine u0 (u1P (u0 (u0X hz rfl (x:=.ref TO) rfl (u0 (u02 hz (by simp) λg1 z1 b1=>?_)))))
 refine u0 ?_
 simp only[u3N,List.zipIdx_nil,u2X,u2z]
 refine u0 (u0 (wpAny_onRaise ?_))
 show wpAny _ _ (Builtin.SmallTypes.nextOf (.ref i1)>>=_) _ _ _
 refine u0 (D1.done _ _ _ (x5 D1 h1 b1 az1) λg2 e b2 he=>?_)
 obtain⟨oe,hoe,hce⟩:=he
 have z2:IsZip g2 z TI TO .ellipsis:=b2 _ _ (u0R nz) z1
 have nez:e≠z:=λq=>by subst q;rw[z2]at hoe;cases hoe;simp at hce
 exact u02 z2 (by simp) λg3 _ b3=>hE g3 e (λc o c1 c2 q=>(b3.2 c c1).trans (b2 c o c2 ((b1.2 c c1).trans q))) ⟨oe,(b3.2 e nez).trans hoe,hce⟩
end
def zbe (b:Bool)(h:Heap)(it l:Addr)(k:Nat):Prop:=if b=true then h.IsListIter it l k else h.IsTupleIter it l k
def zfq (b:Bool)(h:Heap)(l:Addr)(items:Array Value):Prop:=if b=true then h.IsList l items else h.IsTuple l items
theorem zah {prog:Program}{w:World}{A:Around}(hh:A.handled=none)(b:Bool)(it l:Addr)(hne:l≠it)(items:Array Value) :
 Draws prog w A it [it,l] items.size (λi v=>items[i]?=some v) (λi h=>zbe b h it l i/\zfq b h l items):=by
 cases b with
 | true=>exact Draws.list hh it l hne items
 | false=>exact Zn hh it l hne items
def zil (b:Bool) (l:Addr):Obj:={ cls:=.type (if b=true then "list_iterator" else "tuple_iterator"),data:=.fields #[.ref l,.int 0 0] }
abbrev zpA (h:Heap)(b1:Bool)(l1:Addr):Heap:=h.push (zil b1 l1)
abbrev zpB (h:Heap)(b1 b2:Bool)(l1 l2:Addr):Heap:=(zpA h b1 l1).push (zil b2 l2)
abbrev zpC (h:Heap) (b1 b2:Bool) (l1 l2:Addr):Heap:=(zpB h b1 b2 l1 l2).push (Obj.mk (.type "tuple") none (.seq #[.ref h.objs.size,.ref (zpA h b1 l1).objs.size]) #[])
abbrev zpD (h:Heap) (b1 b2:Bool) (l1 l2:Addr):Heap:=(zpC h b1 b2 l1 l2).push (Obj.mk (.type "tuple") none (.seq #[.none,.none]) #[])
abbrev zpE (h:Heap) (b1 b2:Bool) (l1 l2:Addr):Heap:=(zpD h b1 b2 l1 l2).push (Obj.mk (.type "zip") none (.fields #[.none,.bool false,.bool false,.ref (zpB h b1 b2 l1 l2).objs.size,.ref (zpC h b1 b2 l1 l2).objs.size]) #[])
theorem zdn (b1 b2:Bool)(l1 l2:Addr)(xs ys:Array Value) :
 Meets (Builtin.«zip.__new__» ⟨[.type "zip",.ref l1,.ref l2],[]⟩) (λ_ R s=>zfq b1 s.heap l1 xs/\zfq b2 s.heap l2 ys /\
  R (.ok (.ret (.ref (zpD s.heap b1 b2 l1 l2).objs.size))) { s with heap:=zpE s.heap b1 b2 l1 l2 }) :=
 .of_wp λprog w A R s h=>by
  obtain⟨hp,g,d,tk,os⟩:=s;obtain⟨hl1,hl2,h⟩:=h
  have hsub:=sub_zip
  cases b1 with
  | true =>
   have hL1:Heap.IsList (Shared.heap ⟨hp,g,d,tk,os⟩) l1 xs:=hl1
   cases b2 with
   | true =>
    have hL2:Heap.IsList (Shared.heap ⟨hp.push { cls:=.type "list_iterator",data:=.fields #[.ref l1,.int 0 0] },g,d,tk,os⟩) l2 ys:=Heap.IsList.push hl2 _
    wp_walk using u1m hL1,u1m hL2
    exact⟨_,rfl,h⟩
   | false =>
    have hL2:Heap.IsTuple (Shared.heap ⟨hp.push { cls:=.type "list_iterator",data:=.fields #[.ref l1,.int 0 0] },g,d,tk,os⟩) l2 ys:=Heap.IsTuple.push hl2 _
    wp_walk using u1m hL1,u0T hL2
    exact⟨_,rfl,h⟩
  | false =>
   have hL1:Heap.IsTuple (Shared.heap ⟨hp,g,d,tk,os⟩) l1 xs:=hl1
   cases b2 with
   | true =>
    have hL2:Heap.IsList (Shared.heap ⟨hp.push { cls:=.type "tuple_iterator",data:=.fields #[.ref l1,.int 0 0] },g,d,tk,os⟩) l2 ys:=Heap.IsList.push hl2 _
    wp_walk using u0T hL1,u1m hL2
    exact⟨_,rfl,h⟩
   | false =>
    have hL2:Heap.IsTuple (Shared.heap ⟨hp.push { cls:=.type "tuple_iterator",data:=.fields #[.ref l1,.int 0 0] },g,d,tk,os⟩) l2 ys:=Heap.IsTuple.push hl2 _
    wp_walk using u0T hL1,u0T hL2
    exact⟨_,rfl,h⟩
end PySem
namespace PySem
section
variable {prog:Program}{w:World}{A:Around}{E:Value->Shared->Prop}{s:Shared}
theorem zc1 {b1 b2:Bool}{l1 l2:Addr}{xs ys:Array Value}{Q:Value->Shared->Prop}(hl1:zfq b1 s.heap l1 xs)(hl2:zfq b2 s.heap l2 ys)
 (h:∀ h',IsZip h' (s.heap.objs.size+4) (s.heap.objs.size+2) (s.heap.objs.size+3) .none->IsPair h' (s.heap.objs.size+2) (.ref s.heap.objs.size) (.ref (s.heap.objs.size+1)) ->
  IsPair h' (s.heap.objs.size+3) .none .none->zbe b1 h' s.heap.objs.size l1 0->zbe b2 h' (s.heap.objs.size+1) l2 0 ->
  (∀ c o,s.heap.get? c=some o->h'.get? c=some o)->Q (.ref (s.heap.objs.size+4)) { s with heap:=h' }) :
 wpAny (model prog w) A (call (.type "zip") [.ref l1,.ref l2]) Q E s:=by
 refine callType_new F.called_zip (by decide) (F.typeCall_zip_2 _ _) (F.newCall_zip_2 _ _) (λobj=>F.args_object_init_3 obj _ _) F.entry_zip_new
  (zdn b1 b2 l1 l2 xs ys) ⟨hl1,hl2,?_⟩
 have z1:(zpA s.heap b1 l1).objs.size=s.heap.objs.size+1:=u0A ..
 have z2:(zpB s.heap b1 b2 l1 l2).objs.size=s.heap.objs.size+2:=by rw[u0A,z1]
 have z3:(zpC s.heap b1 b2 l1 l2).objs.size=s.heap.objs.size+3:=by rw[u0A,z2]
 have z4:(zpD s.heap b1 b2 l1 l2).objs.size=s.heap.objs.size+4:=by rw[u0A,z3]
 have g5:(zpE s.heap b1 b2 l1 l2).get? (zpD s.heap b1 b2 l1 l2).objs.size=some _:=j6 _ rfl
 have g4:(zpE s.heap b1 b2 l1 l2).get? (zpC s.heap b1 b2 l1 l2).objs.size=some _:=u4 _ (j6 _ rfl)
 have g3:(zpE s.heap b1 b2 l1 l2).get? (zpB s.heap b1 b2 l1 l2).objs.size=some _:=u4 _ (u4 _ (j6 _ rfl))
 have g2:(zpE s.heap b1 b2 l1 l2).get? (zpA s.heap b1 l1).objs.size=some (zil b2 l2):=u4 _ (u4 _ (u4 _ (j6 _ rfl)))
 have g1:(zpE s.heap b1 b2 l1 l2).get? s.heap.objs.size=some (zil b1 l1):=u4 _ (u4 _ (u4 _ (u4 _ (j6 _ rfl))))
 show _/\_
 rw[z2,z3,z4]at g5
 rw[z1,z2]at g3
 rw[z3]at g4
 rw[z1]at g2
 rw[z4]
 have it0:∀ {b:Bool} {l c:Addr},(zpE s.heap b1 b2 l1 l2).get? c=some (zil b l)->zbe b (zpE s.heap b1 b2 l1 l2) c l 0:=λ{b l c} e=>by
  cases b
  .exact⟨_,e,rfl,rfl⟩
  .exact⟨_,e,rfl,rfl⟩
 exact⟨⟨_,g5,rfl⟩,h _ g5 g3 g4 (it0 g1) (it0 g2) λc o x =>
  u4 _ (u4 _ (u4 _ (u4 _ (u4 _ x))))⟩
variable {z TI TO i1 i2:Addr}{fp1 fp2:List Addr}{n1 n2 k1 k2:Nat}{P1 P2:Nat->Value->Prop}{St1 St2:Nat->Heap->Prop}{a b:Value}
theorem Xd {Q:Option Value->Shared->Prop}(D1:Draws prog w A.in1 i1 fp1 n1 P1 St1)(D2:Draws prog w A.in1 i2 fp2 n2 P2 St2)(ap:zj6 z TI TO i1 i2 fp1 fp2)
 (hz:IsZip s.heap z TI TO .none) (hTI:IsPair s.heap TI (.ref i1) (.ref i2)) (hTO:IsPair s.heap TO a b) (h1:St1 k1 s.heap) (h2:St2 k2 s.heap) (l1:k1 < n1) (l2:k2 < n2)
 (hQ:∀ x y h' tk,P1 k1 x->P2 k2 y->IsZip h' z TI TO (rawInt s.heap.objs.size)->IsPair h' TO x y->St1 (k1+1) h'->St2 (k2+1) h'->IsPair h' s.heap.objs.size x y ->
  (∀ c o,c∉[z,TO,i1,i2]->s.heap.get? c=some o->h'.get? c=some o)->Q (some (.ref s.heap.objs.size)) { s with heap:=h',toks:=tk }) :
 wpAny (model prog w) A (pyNext (.ref z)) Q E s:=by
 have hT:s.TypeIs (.ref z) "zip":=⟨_,hz,rfl⟩
 unfold pyNext
 exact u0 (u1L (u0k (name:=Str.ofString "__next__") hT u2T
  (u0h u2T hT F.entry_zip_next
   (zc7 D1 D2 ap hz hTI hTO h1 h2 l1 l2 λx y h' tk a1 a2 a3 a4 a5 a6 a7 a8=>u7 (hQ x y h' tk a1 a2 a3 a4 a5 a6 a7 a8)) (F.args_zip_next_1 _))))
theorem XC {Q:Option Value->Shared->Prop}(D1:Draws prog w A.in1 i1 fp1 n1 P1 St1)(az1:z∉fp1)(nz:i1≠z)
 (hz:IsZip s.heap z TI TO .none) (hTI:IsPair s.heap TI (.ref i1) (.ref i2)) (h1:St1 n1 s.heap)
 (hQ:∀ h',(∀ c o,c≠z->c≠i1->s.heap.get? c=some o->h'.get? c=some o)->Q none { s with heap:=h' }):wpAny (model prog w) A (pyNext (.ref z)) Q E s:=by
 have hT:s.TypeIs (.ref z) "zip":=⟨_,hz,rfl⟩
 unfold pyNext
 refine u0 (u1L (u0k (name:=Str.ofString "__next__") hT u2T
  (u0h u2T hT F.entry_zip_next (zdC D1 az1 nz hz hTI h1 λh' e hk he=>?_) (F.args_zip_next_1 _))))
 obtain⟨o,ho,hc⟩:=he
 refine u0 (u2c (T:="StopIteration") (b:=true) ⟨o,ho,hc⟩ u3r ?_)
 exact u7 (hQ _ hk)
end
end PySem
namespace L2
open PySem PySem.Spec PyProof.Rows
def Sq (b:Bool)(K:W.Frag)(H:Hp)(a:Addr)(xs:List V):Prop:=if b=true then SqL K H a xs else SqT K H a xs
theorem Inv.sq {X:Cx}{pins:List (Addr × Obj)}{σ:St}{H:Hp}{s:Shared}{a:Addr}{xs:List V}{b:Bool}(I:Inv X pins σ H s)(h:Sq b X.K H a xs):∃ its:List Value,yM xs its/\zfq b s.heap a its.toArray/\a < s.heap.objs.size:=by
 cases b with
 | true =>
  obtain⟨its,r,p,_⟩:=I.list (show SqL X.K H a xs from h)
  exact⟨its,r,p.isList,by obtain⟨o,n,ho,_⟩:=p;exact q5 ho⟩
 | false =>
  obtain⟨its,r,p,_⟩:=I.tuple (show SqT X.K H a xs from h)
  exact⟨its,r,p,by obtain⟨o,ho,_⟩:=p;exact q5 ho⟩
theorem Inv.sq_inj {X:Cx}{pins:List (Addr × Obj)}{σ:St}{H:Hp}{s:Shared}{a:Addr}{xs ys:List V}{b:Bool}(I:Inv X pins σ H s)(h:Sq b X.K H a xs)(h':Sq b X.K H a ys):xs=ys:=by
 cases b with
 | true=>exact I.list_inj h h'
 | false=>exact I.tuple_inj h h'
def Izp (K:W.Frag)(b1 b2:Bool)(l1 l2:Addr):It :=
 ⟨λi H=>∃ xs ys x y,Sq b1 K H l1 xs/\Sq b2 K H l2 ys/\xs[i]?=some x/\ys[i]?=some y,
  λi H v H'=>∃ T x y,v=.ref T/\H T=none/\H'=upd H T (.tup [x,y])/\(∀ xs,Sq b1 K H l1 xs->xs[i]?=some x)/\(∀ ys,Sq b2 K H l2 ys->ys[i]?=some y),
  λi H=>∃ xs,Sq b1 K H l1 xs/\i=xs.length⟩
theorem X3 {b:Bool}{h:Heap}{it l:Addr}{k:Nat}(x:zbe b h it l k):∃ o,h.get? it=some o/\∀ v,o.data≠.cell v:=by
 cases b
 .obtain⟨o,ho,_,hd⟩:=x
  exact⟨o,ho,λv z=>by rw[hd]at z;cases z⟩
 .obtain⟨o,ho,_,hd⟩:=x
  exact⟨o,ho,λv z=>by rw[hd]at z;cases z⟩
theorem Vq {b:Bool}{h h':Heap}{it l:Addr}{k:Nat}(x:zbe b h it l k)(e:∀ o,h.get? it=some o->h'.get? it=some o):zbe b h' it l k:=by
 cases b
 .obtain⟨o,ho,r⟩:=x
  exact⟨o,e o ho,r⟩
 .obtain⟨o,ho,r⟩:=x
  exact⟨o,e o ho,r⟩
theorem zkv {P:Program}{w:World}{K:W.Frag}{es:List Expr}{k:Nat}{tp:Pos}(b1 b2:Bool)(l1 l2 z TI TO i1 i2:Addr)(ap:zj6 z TI TO i1 i2 [i1,l1] [i2,l2])(n1:l1≠i1)(n2:l2≠i2) :
 zkD P w K (.Tuple es k tp) (Izp K b1 b2 l1 l2) [z,TI,TO,i1,i2] z (λi h=>IsZip h z TI TO .none/\IsPair h TI (.ref i1) (.ref i2)/\(∃ a b,IsPair h TO a b)/\zbe b1 h i1 l1 i/\zbe b2 h i2 l2 i) where
 mem:=by simp
 obj:=λi h st b hb=>by
  obtain⟨hz,hTI,⟨a,c,hTO⟩,h1,h2⟩:=st
  simp only[j9,u0c,u1W]at hb
  rcases hb with rfl | rfl | rfl | rfl | rfl
  .exact⟨_,hz,λv z=>by cases z⟩
  .exact⟨_,hTI,λv z=>by cases z⟩
  .exact⟨_,hTO,λv z=>by cases z⟩
  .exact X3 h1
  .exact X3 h2
 keep:=λi h h' st kk=>by
  obtain⟨hz,hTI,⟨a,c,hTO⟩,h1,h2⟩:=st
  exact⟨kk z (by simp) _ hz,kk TI (by simp) _ hTI,⟨a,c,kk TO (by simp) _ hTO⟩,Vq h1 λo q=>kk i1 (by simp) o q,Vq h2 λo q=>kk i2 (by simp) o q⟩
 item:=by
  intro X hP hw hK hc i pins s σ H E I hf st hg
  subst hP hw hK
  obtain⟨hz,hTI,⟨a,c,hTO⟩,h1,h2⟩:=st
  obtain⟨xs,ys,x,y,hq1,hq2,hx,hy⟩:=hg
  obtain⟨its,rv,p,_⟩:=I.sq hq1
  obtain⟨its2,rv2,p2,_⟩:=I.sq hq2
  obtain⟨u,hu,ru⟩:=rv.get hx
  obtain⟨u2,hu2,ru2⟩:=rv2.get hy
  have hl1:i < its.toArray.size:=by simpa using (t6.mp hu).1
  have hl2:i < its2.toArray.size:=by simpa using (t6.mp hu2).1
  have hh:X.A.in1.handled=none:=I.ok.hd hc
  refine Xd (zah hh b1 i1 l1 n1 its.toArray) (zah hh b2 i2 l2 n2 its2.toArray) ap hz hTI hTO ⟨h1,p⟩ ⟨h2,p2⟩ hl1 hl2 λv1 v2 h' tk e1 e2 hz' hTO' s1 s2 hT' hk=>?_
  have eu:v1=u:=by
   have:its[i]?=some v1:=by simpa using e1
   rw[hu]at this
   exact(i8 this).symm
  have eu2:v2=u2:=by
   have:its2[i]?=some v2:=by simpa using e2
   rw[hu2]at this
   exact(i8 this).symm
  subst eu eu2
  obtain⟨nd,az1,az2,ao1,ao2,a12,a21⟩:=ap
  simp only[u0y,j9,u0c,u1W,u4c,u2x,u1B,and_true]at nd
  obtain⟨⟨m1,m2,m3,m4⟩,⟨m5,m6,m7⟩,⟨m8,m9⟩,m10⟩:=nd
  refine⟨_,rfl,wpAny_letOwnedTupleGo_zip hz' λh2' hz2 hs2=>?_⟩
  have hfr:H s.heap.objs.size=none:=I.hok.fresh (t5 _)
  have neZ:s.heap.objs.size≠z:=u12 (q5 hz)
  have hT2:IsPair h2' s.heap.objs.size v1 v2:=(hs2.2 _ neZ).trans hT'
  have hTI':IsPair h' TI (.ref i1) (.ref i2):=hk TI _ (by simp[u0R m1,m5,m6,m7]) hTI
  have lt:∀ b∈[z,TI,TO,i1,i2],b < s.heap.objs.size:=λb hb=>by
   simp only[j9,u0c,u1W]at hb
   rcases hb with rfl | rfl | rfl | rfl | rfl
   .exact q5 hz
   .exact q5 hTI
   .exact q5 hTO
   .obtain⟨o,ho,_⟩:=X3 h1;exact q5 ho
   .obtain⟨o,ho,_⟩:=X3 h2;exact q5 ho
  refine⟨.ref s.heap.objs.size,upd H s.heap.objs.size (.tup [x,y]),?_,rfl,⟨_,x,y,rfl,hfr,rfl,λzs hz=>by rw[I.sq_inj hz hq1];exact hx,λzs hz=>by rw[I.sq_inj hz hq2];exact hy⟩,
   ⟨hz2,(hs2.2 TI (u0R m1)).trans hTI',⟨_,_,(hs2.2 TO (u0R m2)).trans hTO'⟩,Vq s1.1 λo q=>(hs2.2 i1 (u0R m3)).trans q,Vq s2.1 λo q=>(hs2.2 i2 (u0R m4)).trans q⟩,λb hb=>?_⟩
  .refine I.grown (ch:=[z,TI,TO,i1,i2]) hf (t5 _) (λb v hb q=>?_) ?_
   .have nb:b≠z:=λw=>hb (by simp[w])
    refine(hs2.2 b nb).trans (hk b v (λw=>hb ?_) q)
    simp only[j9,u0c,u1W]at w ⊢
    rcases w with w | w | w | w
    .exact .inl w
    .exact .inr (.inr (.inl w))
    .exact .inr (.inr (.inr (.inl w)))
    .exact .inr (.inr (.inr (.inr w)))
   .exact⟨by show 2<=sizeLine;decide,[v1,v2],.cons ru (.cons ru2 .nil),⟨_,hT2,rfl,0,rfl⟩⟩
  .rw[zq (o0 (lt b hb))]
   exact(hf b hb).1
 done:=by
  intro X hP hw hK hc i pins s σ H E I hf st hg
  subst hP hw hK
  obtain⟨hz,hTI,⟨a,c,hTO⟩,h1,h2⟩:=st
  obtain⟨xs,hq,rfl⟩:=hg
  obtain⟨its,rv,p,_⟩:=I.sq hq
  have hl:=rv.length
  have hh:X.A.in1.handled=none:=I.ok.hd hc
  have D:=zah (prog:=X.prog) (w:=X.w) hh b1 i1 l1 n1 its.toArray
  refine XC D ap.z1 ?_ hz hTI ⟨by rw[t7,<- hl];exact h1,p⟩ λh' hk=>⟨rfl,I.turnedN (ch:=[z,TI,TO,i1,i2]) (t':=s.toks) hf λb v hb q=>hk b v (λw=>hb (by simp[w])) (λw=>hb (by simp[w])) q⟩
  have nd:=ap.nd
  simp only[u0y,j9,u0c,u1W,u4c,u2x,u1B,and_true]at nd
  exact u0R nd.1.2.2.1
 self:=λ_ _ _ _ _ st h=>wpAny_pyIter_zip st.1 h
def iZip (K:W.Frag)(ta:TA):TI:=fun σ H R=>ta σ H λvs H1=>∃ b1 b2 l1 l2 xs ys,vs=[.ref l1,.ref l2]/\Sq b1 K H1 l1 xs/\Sq b2 K H1 l2 ys/\R (Izp K b1 b2 l1 l2) H1
theorem zmX {X:Cx} {es:List Expr} {k:Nat} {tp:Pos} {a b:Expr} {ta:TA} {p pos:Pos} (hg:Gl X "zip") (hm:X.mg "zip"=none) (hb:bootBuiltins "zip"=some (.type "zip")) (ha:PA X [a,b] ta)
 (hs:starEach [a,b] X.env=[(false,eval a X.env),(false,eval b X.env)]:=by rfl) (hs2:starEach [b] X.env=[(false,eval b X.env)]:=by rfl):PI X (.Tuple es k tp) (.Call (.Name "zip" p) [a,b] [] pos) (iZip X.K ta):=by
 intro pins s σ H R I h
 refine Call_ (XM I hg hm hb (u0J (thn (ha pos pins s σ H _ I h) λus s1 hh9=>?_) (by rw[hs,hs2]) (by rw[hs2];rfl)))
 obtain⟨vs,H1,I1,r1,q1⟩:=hh9
 obtain⟨b1,b2,l1,l2,xs,ys,e,hq1,hq2,q⟩:=q1
 subst e
 obtain⟨u,u2,rfl,ru,ru2⟩:=zfY r1
 cases ru
 cases ru2
 obtain⟨its,rv,p1,lt1⟩:=I1.sq hq1
 obtain⟨its2,rv2,p2,lt2⟩:=I1.sq hq2
 refine zc1 p1 p2 λh2 hz hTI hTO hi1 hi2 hk=>wpAny_pyIter_zip hz ?_
 have hn:∀ b,s1.heap.objs.size<=b->zc9 X pins H1 b:=λb hb=>I1.fpOk hb (I1.hok.fresh hb)
 have ap:zj6 (s1.heap.objs.size+4) (s1.heap.objs.size+2) (s1.heap.objs.size+3) s1.heap.objs.size (s1.heap.objs.size+1) [s1.heap.objs.size,l1] [s1.heap.objs.size+1,l2]:=by
  have q1:l1≠s1.heap.objs.size:=o0 lt1
  have q2:∀ j:Nat,s1.heap.objs.size+j≠l1:=λj e=>u0Q _ (r6 (by rw[<-e]at lt1;exact lt1) (u0L _ _))
  have q3:∀ j:Nat,s1.heap.objs.size+j≠l2:=λj e=>u0Q _ (r6 (by rw[<-e]at lt2;exact lt2) (u0L _ _))
  have ne:∀ i j:Nat,i≠j->s1.heap.objs.size+i≠s1.heap.objs.size+j:=λi j h e=>h (Nat.add_left_cancel e)
  have n0:∀ i:Nat,i≠0->s1.heap.objs.size+i≠s1.heap.objs.size:=λi h e=>h (Nat.add_left_cancel (n:=s1.heap.objs.size) (m:=i) (k:=0) e)
  refine⟨?_,?_,?_,?_,?_,?_,?_⟩
  .simp only[u0y,j9,u0c,u1W,u4c,u2x,u1B,and_true]
   exact⟨⟨ne 4 2 (by decide),ne 4 3 (by decide),n0 4 (by decide),ne 4 1 (by decide)⟩,⟨ne 2 3 (by decide),n0 2 (by decide),ne 2 1 (by decide)⟩,⟨n0 3 (by decide),ne 3 1 (by decide)⟩,u0R (n0 1 (by decide))⟩
  .simp only[j9,u0c,u1W,u4c];exact⟨n0 4 (by decide),q2 4⟩
  .simp only[j9,u0c,u1W,u4c];exact⟨ne 4 1 (by decide),q3 4⟩
  .simp only[j9,u0c,u1W,u4c];exact⟨n0 3 (by decide),q2 3⟩
  .simp only[j9,u0c,u1W,u4c];exact⟨ne 3 1 (by decide),q3 3⟩
  .simp only[j9,u0c,u1W,u4c];exact⟨u0R (n0 1 (by decide)),q3 0⟩
  .simp only[j9,u0c,u1W,u4c];exact⟨n0 1 (by decide),q2 1⟩
 refine⟨_,_,_,_,H1,rfl,I1.kept (t':=s1.toks) hk,zkv b1 b2 l1 l2 _ _ _ _ _ ap (o0 lt1) (o0 (u07 lt2)),⟨hz,hTI,⟨_,_,hTO⟩,hi1,hi2⟩,λb hb=>?_,q⟩
 simp only[j9,u0c,u1W]at hb
 rcases hb with rfl | rfl | rfl | rfl | rfl
 .exact hn _ (u0L _ _)
 .exact hn _ (u0L _ _)
 .exact hn _ (u0L _ _)
 .exact hn _ (t5 _)
 .exact hn _ (u0L _ _)
end L2
namespace OwnSort
open PySem PyProof.Rows
section pure
variable {κ:KeyKind}{xs:Array Keyed}
theorem up1 {x:Nat}(hs:SortedToK κ xs x)(hx:1<=x)(h:κ.kle (KK κ xs (x - 1)) (KK κ xs x)):SortedToK κ xs (x+1):=λi j hij hj=>by
 by_cases c:j < x
 .exact hs i j hij c
 .obtain rfl:j=x:=by omega
  by_cases d:i=j
  .rw[d];exact u1q _
  .exact u2G (hs i (j - 1) (by omega) (by omega)) h
theorem zjh {x:Nat}(hs:NonIncK κ xs x)(hx:1<=x)(h:κ.kle (KK κ xs x) (KK κ xs (x - 1))):NonIncK κ xs (x+1):=λi j hij hj=>by
 by_cases c:j < x
 .exact hs i j hij c
 .obtain rfl:j=x:=by omega
  by_cases d:i=j
  .rw[d];exact u1q _
  .exact u2G h (hs i (j - 1) (by omega) (by omega))
theorem zaa {ys:Array Keyed}{n:Nat}(e:∀ i,KK κ ys i=KK κ xs i)(h:NonIncK κ xs n):NonIncK κ ys n:=λi j hij hj=>by rw[e,e];exact h i j hij hj
theorem turned {n:Nat}(hn:n<=xs.size)(h:NonIncK κ xs n):SortedToK κ (mirror xs 0 n ((n - 0) / 2)) n:=λi j hij hj=>by
 rw[KK_mirror hn,KK_mirror hn,t4 ⟨by omega,by omega⟩,t4 ⟨by omega,by omega⟩]
 exact h _ _ (by omega) (by omega)
theorem zfO:SortedToK κ xs 1:=λi j hij hj=>by
 obtain rfl:i=j:=by omega
 exact u1q _
theorem zfE:NonIncK κ xs 1:=λi j hij hj=>by
 obtain rfl:i=j:=by omega
 exact u1q _
end pure
structure SB (k:SortKind) (a₀:Array Keyed) (st:SortSt):Prop where
 pm:(arrOf st).Perm a₀
 kd:kindOf st=k
 fl:failedOf st=none
 pd:pendingOf st=#[]
theorem SB.sz {k:SortKind}{a₀:Array Keyed}{st:SortSt}(B:SB k a₀ st):(arrOf st).size=a₀.size:=B.pm.size_eq
theorem SB.put {k:SortKind}{a₀ xs:Array Keyed}{st:SortSt}(B:SB k a₀ st)(p:xs.Perm (arrOf st)):SB k a₀ (setArr st xs):=⟨p.trans B.pm,B.kd,B.fl,B.pd⟩
section
variable {prog:Program}{w:World}{A:Around}{E:Value->Shared->Prop}{s:Shared}{a₀:Array Keyed}{κ:KeyKind}{k:SortKind}{st:SortSt}
def LtOk (prog:Program)(w:World)(A:Around)(E:Value->Shared->Prop)(s:Shared)(a₀:Array Keyed)(κ:KeyKind)(k:SortKind):Prop :=
 ∀ (st:SortSt) (i j:Nat) (Q:Option Bool->SortSt->Prop),SB k a₀ st->i < a₀.size->j < a₀.size->Q (some (κ.blt (KK κ (arrOf st) i) (KK κ (arrOf st) j))) st->wpS (model prog w) A E s (ltAt' i j) Q st
theorem zg3 {a n:Nat}{Q:AscSt->SortSt->Prop}(L:LtOk prog w A E s a₀ κ k)(hn:n<=a₀.size)(ha:1<=a)(han:a<=n)(B:SB k a₀ st)(hs:SortedToK κ (arrOf st) a)
 (h:∀ m,a<=m->m<=n->SortedToK κ (arrOf st) m->(m=n\/κ.klt (KK κ (arrOf st) m) (KK κ (arrOf st) (m - 1)))->Q (none,m) st):wpS (model prog w) A E s (ascLoop a n) Q st:=by
 unfold ascLoop
 refine u2F (I:=λx c t=>(t=st/\c=(none,x))/\SortedToK κ (arrOf st) x) (λx c t h1 h2 hI=>?_) (λc t hI=>?_) ⟨⟨rfl,rfl⟩,hs⟩
 .obtain⟨⟨rfl,rfl⟩,hx⟩:=hI
  refine u0D (L _ x (x - 1) _ B (by omega) (by omega) ?_)
  cases c:κ.blt (KK κ (arrOf t) x) (KK κ (arrOf t) (x - 1)) with
  | true=>exact u08 (h x h1 (by omega) hx (.inr c))
  | false=>exact u08 ⟨⟨rfl,rfl⟩,up1 hx (by omega) c⟩
 .obtain⟨⟨rfl,rfl⟩,hx⟩:=hI
  have e:max a n=n:=by omega
  rw[e]at hx ⊢
  exact h n han (t5 _) hx (.inl rfl)
theorem zep {n m:Nat}{Q:Option Nat->SortSt->Prop}(L:LtOk prog w A E s a₀ κ k)(hm:m<=a₀.size)(h1:1<=n)(hnm:n<=m)(B:SB k a₀ st)(hs:NonIncK κ (arrOf st) n)
 (h:∀ r t,SB k a₀ t->1<=r->r<=m->SortedToK κ (arrOf t) r->Q (some r) t):wpS (model prog w) A E s (tail3 n m) Q st:=by
 unfold tail3
 have B':=B.put (mirror_perm (arrOf st) 0 n ((n - 0) / 2))
 exact u0D (wpS_reverse (u0D (zg3 L hm h1 hnm B' (turned (by rw[B.sz];omega) hs) λr g1 g2 g3 _=>u08 (h r _ B' (by omega) g2 g3))))
theorem zjI {n m:Nat}{Q:DescSt->SortSt->Prop}(L:LtOk prog w A E s a₀ κ k)(hm:m<=a₀.size)(h1:1<=n)(hnm:n<=m)(B:SB k a₀ st)(hs:NonIncK κ (arrOf st) n)
 (h:∀ r q t,SB k a₀ t->n<=r->r<=m->NonIncK κ (arrOf t) r->q+1<=r->(∀ i,r - (q+1)<=i->i < r->KK κ (arrOf t) i=KK κ (arrOf t) (r - 1))->Q (none,r,q) t):wpS (model prog w) A E s (descLoop n m) Q st:=by
 unfold descLoop
 refine u2F (I:=λx c t=>∃ q,c=(none,x,q)/\SB k a₀ t/\NonIncK κ (arrOf t) x/\q+1<=x/\∀ i,x - (q+1)<=i->i < x->KK κ (arrOf t) i=KK κ (arrOf t) (x - 1))
  (λx c t g1 g2 hI=>?_) (λc t hI=>?_) ⟨0,rfl,B,hs,h1,λi c1 c2=>by rw[show i=n - 1 from u21 (u15 c2) c1]⟩
 .obtain⟨q,rfl,B1,ni,hq,he⟩:=hI
  have hxs:x < a₀.size:=r6 g2 hm
  have hxs1:x - 1 < a₀.size:=u0a (Nat.sub_le _ _) hxs
  have hx1:1<=x:=p6 h1 g1
  have hz:x<=(arrOf t).size:=by rw[B1.sz];exact u0S hxs
  refine u0D (L _ x (x - 1) _ B1 hxs hxs1 ?_)
  cases c:κ.blt (KK κ (arrOf t) x) (KK κ (arrOf t) (x - 1)) with
  | true =>
   have d:=zjh ni hx1 (u2t c)
   by_cases hq0:q > 0
   .show wpS _ _ _ _ (if q > 0 then _ else _) _ _
    rw[t4 hq0]
    exact u0D (wpS_reverse (u08 ⟨0,rfl,B1.put (mirror_perm _ _ _ _),zaa (KK_mirror_equal hz he) d,u1N (u0I _),λi c1 c2=>by rw[show i=x+1 - 1 from u21 (u0P c2) c1]⟩))
   .show wpS _ _ _ _ (if q > 0 then _ else _) _ _
    rw[j4 hq0]
    exact u08 ⟨0,rfl,B1,d,u1N (u0I _),λi c1 c2=>by rw[show i=x+1 - 1 from u21 (u0P c2) c1]⟩
  | false =>
   refine u0D (L _ (x - 1) x _ B1 hxs1 hxs ?_)
   cases c2:κ.blt (KK κ (arrOf t) (x - 1)) (KK κ (arrOf t) x) with
   | true=>exact u08 (h x q t B1 g1 (u0S g2) ni hq he)
   | false =>
    have same:KK κ (arrOf t) x=KK κ (arrOf t) (x - 1):=KeyOrd.kle_antisymm c2 c
    refine u08 ⟨q+1,rfl,B1,zjh ni hx1 c2,u1N hq,λi d1 d2=>?_⟩
    show KK κ (arrOf t) i=KK κ (arrOf t) x
    by_cases di:i=x
    .rw[di]
    .rw[same];exact he i (by omega) (by omega)
 .obtain⟨q,rfl,B1,ni,hq,he⟩:=hI
  have e:max n m=m:=Nat.max_eq_right hnm
  rw[e]at ni hq he ⊢
  exact h m q t B1 hnm (t5 _) ni hq he
theorem WI {n m:Nat}{Q:Option Nat->SortSt->Prop}(L:LtOk prog w A E s a₀ κ k)(hm:m<=a₀.size)(hnm:n+1<=m)(B:SB k a₀ st)(hs:NonIncK κ (arrOf st) (n+1))
 (h:∀ r t,SB k a₀ t->1<=r->r<=m->SortedToK κ (arrOf t) r->Q (some r) t):wpS (model prog w) A E s (descPart n m) Q st:=by
 unfold descPart
 refine u0D (wpS_lift (u1P ⟨rfl,u0D (zjI L hm (by omega) hnm B hs λr q t B1 r1 r2 ni hq he=>?_)⟩))
 have hz:r<=(arrOf t).size:=by rw[B1.sz];omega
 by_cases hq0:q > 0
 .show wpS _ _ _ _ (if q > 0 then _ else _) _ _
  rw[t4 hq0]
  exact u0D (wpS_reverse (zep (n:=r) L hm (by omega) r2 (B1.put (mirror_perm _ _ _ _)) (zaa (KK_mirror_equal hz he) ni) h))
 .show wpS _ _ _ _ (if q > 0 then _ else _) _ _
  rw[j4 hq0]
  exact zep (n:=r) L hm (by omega) r2 B1 ni h
theorem zlR {m:Nat}{Q:Option Nat->SortSt->Prop}(L:LtOk prog w A E s a₀ κ k)(hm:m<=a₀.size)(h1:1<=m)(B:SB k a₀ st)
 (h:∀ r t,SB k a₀ t->1<=r->r<=m->SortedToK κ (arrOf t) r->Q (some r) t):wpS (model prog w) A E s (countRun' 0 m) Q st:=by
 rw[countRun0_eq]
 refine u0D (zg3 L hm (t5 1) h1 B zfO λn n1 n2 sn or=>?_)
 show wpS _ _ _ _ (if (n == m)=true then _ else if n > 1 then _ else _) _ _
 by_cases e:n=m
 .rw[t4 (by rw[e];exact u0N m)]
  exact u08 (h n st B n1 n2 sn)
 .rw[j4 (λz=>e (eq_of_beq z))]
  have lt:=or.resolve_left e
  by_cases g:n > 1
  .rw[t4 g]
   refine u0D (L _ 0 (n - 1) _ B (by omega) (by omega) ?_)
   cases c:κ.blt (KK κ (arrOf st) 0) (KK κ (arrOf st) (n - 1)) with
   | true=>exact u08 (h n st B n1 n2 sn)
   | false =>
    have hz:n<=(arrOf st).size:=by rw[B.sz];omega
    have eq:∀ i,0<=i->i < n->KK κ (arrOf st) i=KK κ (arrOf st) (n - 1):=λi _ hi =>
     KeyOrd.kle_antisymm (sn i (n - 1) (by omega) (by omega)) (u2G c (sn 0 i (by omega) hi))
    have ni:NonIncK κ (arrOf st) n:=λi j _ hj=>by rw[eq i (by omega) (by omega),eq j (by omega) hj];exact u1q _
    exact u0D (wpS_reverse (WI L hm (by omega) (B.put (mirror_perm _ _ _ _)) (zaa (KK_mirror_equal hz eq) (zjh ni (by omega) (u2t lt))) h))
  .rw[j4 g]
   obtain rfl:n=1:=by omega
   exact WI L hm (by omega) B (zjh zfE (t5 1) (u2t lt)) h
theorem znH {l u md:Nat}(h:(l+u) / 2=md)(c:¬ l >= u):l<=md/\md < u:=by
 have c':l < u:=Nat.lt_of_not_le c
 rw[<-h]
 exact⟨(Nat.le_div_iff_mul_le (by decide)).mpr (by rw[Nat.mul_two];exact u1J (u0S c') l),(Nat.div_lt_iff_lt_mul (by decide)).mpr (by rw[Nat.mul_two];exact Nat.add_lt_add_right c' u)⟩
theorem zps {l u md x y:Nat}(m1:l<=md)(m2:md < u)(e3:u - l<=x - y):md - l<=x - (y+1) :=
 p6 (u15 (Nat.sub_lt_sub_right m1 m2)) (u2K e3 1)
theorem zpL {l u md x y:Nat}(m1:l<=md)(e3:u - l<=x - y):u - (md+1)<=x - (y+1) :=
 p6 (Nat.sub_le_sub_left (u1N m1) u) (u2K e3 1)
theorem zov (r n:Nat):min (max (max r 1) n) n=n:=u3O (Nat.le_max_right _ _)
theorem znG {r n:Nat}(r0:¬ r=0)(hr:r<=n):min (max r 1) n=r:=by
 rw[Nat.max_eq_left (Nat.pos_of_ne_zero r0),u1G hr]
theorem znr {i j r n:Nat}(hr:r=0)(hij:i<=j)(hj:j < min (max r 1) n):i=j:=by
 subst hr
 have h0:j=0:=Nat.lt_one_iff.mp (r6 hj (Nat.min_le_left _ _))
 subst h0
 exact Nat.le_zero.mp hij
theorem zlr {n r:Nat}{Q:Bool->SortSt->Prop}(L:LtOk prog w A E s a₀ κ k)(hn:n<=a₀.size)(hr:r<=n)(B:SB k a₀ st)(hs:SortedToK κ (arrOf st) r)
 (h:∀ t,SB k a₀ t->SortedToK κ (arrOf t) n->Q true t):wpS (model prog w) A E s (binarySort' 0 n r) Q st:=by
 rw[binarySort'_eq]
 refine u0D (wpS_mono (u2F (I:=λx c t=>(c=(none,())/\SB k a₀ t)/\SortedToK κ (arrOf t) (min x n)) (Q:=λc t=>(c=(none,())/\SB k a₀ t)/\SortedToK κ (arrOf t) n)
  (λx c t g1 g2 hI=>?_) (λc t hI=>?_) ⟨⟨rfl,B⟩,?_⟩) λc t hI=>?_)
 .obtain⟨⟨rfl,B1⟩,sx⟩:=hI
  rw[u1G (u0S g2)]at sx
  have hx:x < a₀.size:=r6 g2 hn
  refine u0D (wpS_mono (u2F
   (I:=λy c t'=>t'=t/\∃ l u,c=(none,l,u)/\(l<=u/\u<=x/\u - l<=x - y)/\(∀ i,i < l->κ.kle (KK κ (arrOf t) i) (KK κ (arrOf t) x))/\∀ i,u<=i->i < x->κ.klt (KK κ (arrOf t) x) (KK κ (arrOf t) i))
   (Q:=λc t'=>t'=t/\∃ l u,c=(none,l,u)/\l<=x/\(∀ i,i < l->κ.kle (KK κ (arrOf t) i) (KK κ (arrOf t) x))/\∀ i,l<=i->i < x->κ.klt (KK κ (arrOf t) x) (KK κ (arrOf t) i))
   (λy c t' y1 y2 hJ=>?_) (λc t' hJ=>?_) ⟨rfl,0,x,rfl,⟨u0I _,t5 _,t5 _⟩,λi hi=>absurd hi (Nat.not_lt_zero _),λi i1 i2=>absurd (u0a i1 i2) (u0Q _)⟩) λc t' hJ=>?_)
  .obtain⟨rfl,l,u,rfl,⟨e1,e2,e3⟩,lo,up⟩:=hJ
   show wpS _ _ _ _ (if l >= u then _ else _) _ _
   by_cases c1:l >= u
   .rw[t4 c1]
    obtain rfl:l=u:=u21 e1 c1
    exact u08 ⟨rfl,l,l,rfl,e2,lo,up⟩
   .rw[j4 c1]
    generalize hmd:(l+u) / 2=md
    obtain⟨m1,m2⟩:=znH hmd c1
    clear hmd c1 e1
    refine u0D (L _ (0+x) (0+md) _ B1 (by rw[u0m];exact hx) (by rw[u0m];exact r6 m2 (p6 e2 (u0S hx))) ?_)
    rw[u0m,u0m]
    cases c2:κ.blt (KK κ (arrOf t') x) (KK κ (arrOf t') md) with
    | true=>exact u08 ⟨rfl,l,md,rfl,⟨m1,p6 (u0S m2) e2,zps m1 m2 e3⟩,lo,λi i1 i2=>KeyOrd.klt_of_klt_of_kle c2 (sx _ _ i1 i2)⟩
    | false=>exact u08 ⟨rfl,md+1,u,rfl,⟨m2,e2,zpL m1 e3⟩,λi i1=>u2G (sx i md (u0P i1) (r6 m2 e2)) c2,up⟩
  .obtain⟨rfl,l,u,rfl,⟨e1,e2,e3⟩,lo,up⟩:=hJ
   obtain rfl:l=u:=by omega
   exact⟨rfl,l,l,rfl,e2,lo,up⟩
  .obtain⟨rfl,l,u,rfl,e2,lo,up⟩:=hJ
   show wpS _ _ _ _ (do moveDown' (0+x) (0+l);pure (ForInStep.yield (none,()))) _ _
   rw[moveDown'_eq,u0m,u0m]
   refine u0D (wpS_modify (u08 ⟨⟨rfl,B1.put (bubble_perm _ _ _)⟩,?_⟩))
   have hz:x < (arrOf t').size:=by rw[B1.sz];exact hx
   rw[u1G (Nat.succ_le_of_lt g2)]
   show SortedToK κ (bubble (arrOf t') x (x - l)) (x+1)
   intro i j hij hj
   rw[KK_bubble hz (Nat.sub_le _ _),KK_bubble hz (Nat.sub_le _ _),Nat.sub_sub_self e2]
   by_cases i1:i=l
   .rw[t4 i1]
    by_cases j1:j=l
    .rw[t4 j1];exact u1q _
    .have lj:l < j:=u2m (by rw[<-i1];exact hij) (λe=>j1 e.symm)
     rw[j4 j1,t4 ⟨lj,u0P hj⟩];exact u2t (up _ (u15 lj) (r6 (Nat.sub_lt (u3y lj) Nat.one_pos) (u0P hj)))
   .rw[j4 i1]
    by_cases i2:l < i/\i<=x
    .have lj:=r6 i2.1 hij
     rw[t4 i2,j4 (λe=>absurd lj (by rw[e];exact u0Q _)),t4 ⟨lj,u0P hj⟩];exact sx _ _ (u2K hij 1) (r6 (Nat.sub_lt (u3y lj) Nat.one_pos) (u0P hj))
    .rw[j4 i2]
     have i3:i < l:=u2m (u0M λh=>i2 ⟨h,p6 hij (u0P hj)⟩) i1
     clear i2 i1
     by_cases j1:j=l
     .rw[t4 j1];exact lo i i3
     .rw[j4 j1]
      by_cases j2:l < j/\j<=x
      .rw[t4 j2];exact sx _ _ (u15 (Nat.lt_trans i3 j2.1)) (r6 (Nat.sub_lt (u3y j2.1) Nat.one_pos) (u0P hj))
      .rw[j4 j2];exact sx _ _ hij (r6 (u2m (u0M λh=>j2 ⟨h,u0P hj⟩) j1) e2)
 .obtain⟨⟨e1,B1⟩,sx⟩:=hI
  rw[zov]at sx
  exact⟨⟨e1,B1⟩,sx⟩
 .by_cases r0:r=0
  .intro i j hij hj
   obtain rfl:i=j:=znr r0 hij hj
   exact u1q _
  .rw[znG r0 hr];exact hs
 .obtain⟨⟨rfl,B1⟩,sx⟩:=hI
  exact u08 (h t B1 sx)
theorem own_runs {Q:Unit->SortSt->Prop}(L:LtOk prog w A E s a₀ κ k)(B:SB k a₀ st)(h2:2<=a₀.size)(h64:a₀.size < 64)
 (h:∀ t,(arrOf t).Perm a₀->failedOf t=none->SortedToK κ (arrOf t) a₀.size->Q () t):wpS (model prog w) A E s sortRuns' Q st:=by
 rw[sortRuns'_eq]
 have mr:minRun' a₀.size a₀.size 0=a₀.size:=by
  cases e:a₀.size with
  | zero=>omega
  | succ f=>rw[minRun'_succ,t4 (by omega),Nat.add_zero]
 refine u0D (wpS_get ?_)
 simp only[B.sz,mr]
 let Dn:SortSt->Prop:=λt=>(arrOf t).Perm a₀/\failedOf t=none/\pendingOf t=#[(0,a₀.size,0)]/\SortedToK κ (arrOf t) a₀.size
 have fin:∀ t,SB k a₀ t->SortedToK κ (arrOf t) a₀.size->Dn (setPending t ((pendingOf t).push (0,a₀.size,0))):=λt B1 sx=>⟨B1.pm,B1.fl,by show(pendingOf t).push _=_;rw[B1.pd];rfl,sx⟩
 refine u0D (wpS_mono (u2F (I:=λx c t=>(x=0/\c=(none,0)/\SB k a₀ t)\/(1<=x/\c=(none,a₀.size)/\Dn t)) (Q:=λc t=>c=(none,a₀.size)/\Dn t)
  (λx c t g1 g2 hI=>?_) (λc t hI=>?_) (.inl ⟨rfl,rfl,B⟩)) λc t hI=>?_)
 .rcases hI with ⟨rfl,rfl,B1⟩ | ⟨_,rfl,D1⟩
  .show wpS _ _ _ _ (if 0 >= a₀.size then _ else _) _ _
   rw[j4 (by omega)]
   simp only[Nat.sub_zero,u35,u0m]
   refine u0D (zlR L (t5 _) (by omega) B1 λr t2 B2 r1 r2 s2=>?_)
   show wpS _ _ _ _ (if r < a₀.size then _ else _) _ _
   by_cases c1:r < a₀.size
   .rw[t4 c1]
    refine u0D (wpS_lift (u1P ⟨rfl,u0D (zlr L (t5 _) r2 B2 s2 λt3 B3 s3=>?_)⟩))
    refine u0D (wpS_get ?_)
    rw[show(pendingOf t3).back?=none by rw[B3.pd];rfl]
    exact u0D (wpS_modify (u08 (.inr ⟨by omega,rfl,fin t3 B3 s3⟩)))
   .rw[j4 c1]
    obtain rfl:r=a₀.size:=by omega
    refine u0D (wpS_get ?_)
    rw[show(pendingOf t2).back?=none by rw[B2.pd];rfl]
    exact u0D (wpS_modify (u08 (.inr ⟨by omega,rfl,fin t2 B2 s2⟩)))
  .show wpS _ _ _ _ (if a₀.size >= a₀.size then _ else _) _ _
   rw[t4 (t5 _)]
   exact u08 ⟨rfl,D1⟩
 .rcases hI with ⟨z,_,_⟩ | ⟨_,e,D1⟩
  .omega
  .exact⟨e,D1⟩
 .obtain⟨rfl,d1,d2,d3,d4⟩:=hI
  refine u0D (wpS_mono (u2F (I:=λ_ c t'=>t'=t/\c=(none,())) (Q:=λc t'=>t'=t/\c=(none,())) (λx c t' _ _ hI=>?_) (λ_ _ z=>z) ⟨rfl,rfl⟩) λc t' hI=>?_)
  .obtain⟨rfl,rfl⟩:=hI
   refine u0D (wpS_get ?_)
   rw[t4 (by rw[d3];exact t5 1)]
   exact u08 ⟨rfl,rfl⟩
  .obtain⟨rfl,rfl⟩:=hI
   exact u08 (h _ d1 d2 d4)
end
abbrev Pr:=Int × Int
def bltP (s t:Pr):Bool:=decide (s.1 < t.1\/(s.1=t.1/\s.2 < t.2))
def TP (h:Heap) (v:Value) (t:Pr):Prop:=∃ a o n tx ty,v=.ref a/\h.get? a=some o/\o.cls=.type "tuple"/\o.data=.seq #[.int t.1 tx,.int t.2 ty] n
theorem TP.uniq {h:Heap}{v:Value}{s t:Pr}(x:TP h v s)(y:TP h v t):s=t:=by
 obtain⟨a,o,n,tx,ty,rfl,e1,_,d1⟩:=x
 obtain⟨b,o2,n2,ux,uy,e,e2,_,d2⟩:=y
 cases e
 rw[e1]at e2
 cases e2
 rw[d1]at d2
 injection d2 with d2 _
 have:=u1c Array.toList d2
 simp at this
 exact u2A this.1.1 this.2.1
theorem TP.keep {h h':Heap}{v:Value}{t:Pr}(x:TP h v t)(k:∀ b o,h.get? b=some o->h'.get? b=some o):TP h' v t:=by
 obtain⟨a,o,n,tx,ty,e,e1,r⟩:=x
 exact⟨a,o,n,tx,ty,e,k _ _ e1,r⟩
open Classical in
noncomputable def keyP (h:Heap)(v:Value):Option Pr:=if x:∃ t,TP h v t then some x.choose else none
theorem keyP_of {h:Heap}{v:Value}{t:Pr}(x:TP h v t):keyP h v=some t:=by
 unfold keyP
 have y:∃ t,TP h v t:=⟨t,x⟩
 rw[dif_pos y,y.choose_spec.uniq x]
@[reducible] noncomputable def kindP (h:Heap):KeyKind where
 α:=Pr
 blt:=bltP
 irrefl a:=by unfold bltP;exact g9 (by omega)
 trans a b c h1 h2:=by unfold bltP at *;rw[r9]at *;omega
 negTrans a b c h:=by unfold bltP at *;rw[r9]at *;rw[r9];omega
 total a b h1 h2:=by
  unfold bltP at *
  rw[u0u]at *
  exact u2A (by omega) (by omega)
 keyOf:=keyP h
 dflt:=(0,0)
theorem zhl (b:Bool)(x y:Value):keyLt' (tuples' b) x y=(do
 let xs<-Builtin.List.listItems x
 let ys<-Builtin.List.listItems y
 for ((p,q),i)in (xs.toList.zip ys.toList).zipIdx do
  if !(<- eqBool p q)then return<-oneLt' (b&&i == 0) p q
 return xs.size < ys.size):=rfl
theorem zgE (v:Value):firstOfTuple' v=(do
 if (<- typeOf v) != .type "tuple" then return none
 return (<- Builtin.List.listItems v)[0]?):=rfl
section
variable {prog:Program}{w:World}{A:Around}{E:Value->Shared->Prop}{s:Shared}
theorem lt0 {a b:Int}{t u:Tok}{Q:Bool->Shared->Prop}(h:Q (decide (a < b)) s):wpAny (model prog w) A (oneLt' false (.int a t) (.int b u)) Q E s:=by
 rw[oneLt'_eq]
 rw[j4 u9]
 exact u0 (PyProof.Rows.lt_int (u0Z h))
theorem zel:∀ {fs:List Value},(∀ f∈fs,∃ i t,f=.int i t)->fs.mapM typeOf=pure (fs.map λ_=>Value.type "int")
 | [],_=>by simp
 | f::fs,h=>by
  obtain⟨i,t,rfl⟩:=h f d6
  rw[List.mapM_cons,zel λg hg=>h g (r8 _ hg),show typeOf (.int i t)=pure (.type "int")from rfl]
  simp
end
end OwnSort
namespace OwnTim
open PySem PyProof.Rows
def ky (κ:KeyKind)(x:Keyed):κ.α:=(κ.keyOf x.1).getD κ.dflt
def LtE (prog:Program)(w:World)(A:Around)(E:Value->Shared->Prop)(s:Shared)(κ:KeyKind)(k:SortKind)(D:Keyed->Prop):Prop :=
 ∀ (st:SortSt) (x y:Keyed) (Q:Option Bool->SortSt->Prop),kindOf st=k->D x->D y->Q (some (κ.blt (ky κ x) (ky κ y))) st->wpS (model prog w) A E s (lt' x y) Q st
section
variable {prog:Program}{w:World}{A:Around}{E:Value->Shared->Prop}{s:Shared}{a₀:Array Keyed}{κ:KeyKind}{k:SortKind}{st:SortSt}
theorem zoj {xs:Array Keyed}{i:Nat}{x:Keyed}(h:xs[i]?=some x):KK κ xs i=ky κ x:=by
 unfold KK
 rw[h]
 rfl
theorem zmc (L:LtE prog w A E s κ k (·∈a₀.toList)):OwnSort.LtOk prog w A E s a₀ κ k:=by
 intro st i j Q S hi hj q
 have look:∀ {i},i < a₀.size->∃ x,(arrOf st)[i]?=some x/\x∈a₀.toList:=λ{i} hi=>by
  have hi':i < (arrOf st).size:=by rw[S.sz];exact hi
  exact⟨(arrOf st)[i],getElem?_pos _ i hi',(u27.mp S.pm).mem_iff.mp (by simp)⟩
 obtain⟨x,e1,m1⟩:=look hi
 obtain⟨y,e2,m2⟩:=look hj
 rw[zoj e1,zoj e2]at q
 rw[ltAt'_eq]
 refine u0D (wpS_get ?_)
 show wpS _ _ _ _ (elem' (arrOf st) i>>=λx=>elem' (arrOf st) j>>=λy=>lt' x y) Q st
 rw[elem'_eq,elem'_eq,e1,e2]
 exact u0D (u08 (u0D (u08 (L _ _ _ _ S.kd m1 m2 q))))
theorem own_runsE {Q:Unit->SortSt->Prop}(L:LtE prog w A E s κ k (·∈a₀.toList))(pm:(arrOf st).Perm a₀)(kd:kindOf st=k)(fl:failedOf st=none)(pd:pendingOf st=#[])
 (h:∀ t,(arrOf t).Perm a₀->failedOf t=none->SortedToK κ (arrOf t) a₀.size->Q () t) (h2:2<=a₀.size) (h64:a₀.size < 64):wpS (model prog w) A E s sortRuns' Q st:=OwnSort.own_runs (zmc L) ⟨pm,kd,fl,pd⟩ h2 h64 h
end
end OwnTim
namespace OwnSortT
open PySem PyProof.Rows OwnSort
theorem lex_irr:∀ a:List Int,HT.lexLt a a=false:=by
 intro a
 induction a with
 | nil=>rfl
 | cons x xs ih=>rw[HT.lexLt_cons,t4 rfl,ih]
theorem lex_trans:∀ a b c:List Int,HT.lexLt a b=true->HT.lexLt b c=true->HT.lexLt a c=true:=by
 intro a
 induction a with
 | nil =>
  intro b c h1 h2
  cases c with
  | nil=>cases b <;> cases h2
  | cons _ _=>rfl
 | cons x xs ih =>
  intro b c h1 h2
  cases b with
  | nil=>cases h1
  | cons y ys=>cases c with
   | nil=>cases h2
   | cons z zs =>
    rw[HT.lexLt_cons]at h1 h2 ⊢
    by_cases e1:x=y
    .rw[t4 e1]at h1
     by_cases e2:y=z
     .rw[t4 e2]at h2;rw[t4 (e1.trans e2)];exact ih _ _ h1 h2
     .rw[j4 e2,r9]at h2;rw[j4 (by omega),r9];omega
    .rw[j4 e1,r9]at h1
     by_cases e2:y=z
     .rw[j4 (by omega),r9];omega
     .rw[j4 e2,r9]at h2;rw[j4 (by omega),r9];omega
theorem lex_total:∀ a b:List Int,HT.lexLt a b=false->HT.lexLt b a=false->a=b:=by
 intro a
 induction a with
 | nil =>
  intro b h1 h2
  cases b with
  | nil=>rfl
  | cons _ _=>cases h1
 | cons x xs ih =>
  intro b h1 h2
  cases b with
  | nil=>cases h2
  | cons y ys =>
   rw[HT.lexLt_cons]at h1 h2
   by_cases e:x=y
   .rw[t4 e]at h1;rw[t4 e.symm]at h2;rw[e,ih _ h1 h2]
   .rw[j4 e,u0u]at h1;rw[j4 (u0R e),u0u]at h2;omega
theorem lex_neg (a b c:List Int)(h:HT.lexLt a c=true):HT.lexLt a b=true\/HT.lexLt b c=true:=by
 cases h1:HT.lexLt a b with
 | true=>exact .inl rfl
 | false =>
  refine .inr ?_
  cases h2:HT.lexLt b a with
  | true=>exact lex_trans _ _ _ h2 h
  | false=>rw[<-lex_total _ _ h1 h2];exact h
def TT (h:Heap) (v:Value) (t:List Int):Prop:=∃ a o n its,v=.ref a/\h.get? a=some o/\o.cls=.type "tuple"/\o.data=.seq its.toArray n/\IntsAre its t/\t≠[]
theorem zhI:∀ {vs:List Value} {ns ms:List Int},IntsAre vs ns->IntsAre vs ms->ns=ms:=by
 intro vs ns ms h
 induction h generalizing ms with
 | nil=>intro h2;cases h2;rfl
 | cons n t h ih=>intro h2;cases h2 with | cons n' t' h'=>rw[ih h']
theorem TT.uniq {h:Heap}{v:Value}{s t:List Int}(x:TT h v s)(y:TT h v t):s=t:=by
 obtain⟨a,o,n,its,rfl,e1,_,d1,i1,_⟩:=x
 obtain⟨b,p,m,its',e,e2,_,d2,i2,_⟩:=y
 cases e
 rw[e1]at e2
 cases e2
 rw[d1]at d2
 have e3:its.toArray=its'.toArray:=by injection d2
 cases List.toArray_inj e3
 exact zhI i1 i2
theorem TT.keep {h h':Heap}{v:Value}{t:List Int}(x:TT h v t)(k:∀ b o,h.get? b=some o->h'.get? b=some o):TT h' v t:=by
 obtain⟨a,o,n,its,e,e1,r⟩:=x
 exact⟨a,o,n,its,e,k _ _ e1,r⟩
theorem TT.keepT {h h':Heap} {v:Value} {t:List Int} (x:TT h v t) (k:∀ b o,o.cls=.type "tuple"->h.get? b=some o->h'.get? b=some o):TT h' v t:=by
 obtain⟨a,o,n,its,e,e1,c,r⟩:=x
 exact⟨a,o,n,its,e,k _ _ c e1,c,r⟩
open Classical in
noncomputable def keyTT (h:Heap)(v:Value):Option (List Int):=if x:∃ t,TT h v t then some x.choose else none
theorem keyTT_of {h:Heap}{v:Value}{t:List Int}(x:TT h v t):keyTT h v=some t:=by
 unfold keyTT
 have y:∃ t,TT h v t:=⟨t,x⟩
 rw[dif_pos y,y.choose_spec.uniq x]
@[reducible] noncomputable def zeu (h:Heap):KeyKind where
 α:=List Int
 blt:=HT.lexLt
 irrefl:=lex_irr
 trans:=lex_trans
 negTrans:=lex_neg
 total:=lex_total
 keyOf:=keyTT h
 dflt:=[]
section
variable {prog:Program}{w:World}{A:Around}{E:Value->Shared->Prop}{s:Shared}
def zmO (d:Bool):List Int->List Int->Bool
 | x::xs,y::ys=>if x=y then zmO d xs ys else decide (x < y)
 | _,_=>d
theorem zlD:∀ a b:List Int,zmO (decide (a.length < b.length)) a b=HT.lexLt a b:=by
 intro a
 induction a with
 | nil=>intro b;cases b with
  | nil=>rfl
  | cons _ _=>rfl
 | cons x xs ih=>intro b;cases b with
  | nil=>rfl
  | cons y ys =>
   rw[HT.lexLt_cons,<- ih ys]
   show(if x=y then zmO (decide (xs.length+1 < ys.length+1)) xs ys else decide (x < y))=_
   rw[show decide (xs.length+1 < ys.length+1)=decide (xs.length < ys.length) by congr 1;apply propext;omega]
def zgx (x:(Value × Value) × Nat)(_:Option Bool × Unit):Sem (ForInStep (Option Bool × Unit)):=do
 let b<-eqBool x.1.1 x.1.2
 if (!b)=true then do
  let c<-oneLt' (true&&x.2 == 0) x.1.1 x.1.2
  pure (ForInStep.done (some c,()))
 else pure (ForInStep.yield (none,()))
theorem zjf {d:Bool}:∀ {xs:List Value} {ns:List Int} {ys:List Value} {ms:List Int} {k:Nat} {Q:Option Bool × Unit->Shared->Prop},IntsAre xs ns->IntsAre ys ms->(∀ r:Option Bool × Unit,r.1.getD d=zmO d ns ms->Q r s) ->
 wpAny (model prog w) A (forIn ((xs.zip ys).zipIdx k) ((none,()):Option Bool × Unit) zgx) Q E s:=by
 intro xs ns ys ms k Q h1
 induction h1 generalizing ys ms k with
 | nil=>intro h2 q;exact u7 (q (none,()) rfl)
 | cons x t h1 ih =>
  intro h2 q
  cases h2 with
  | nil=>exact u7 (q (none,()) rfl)
  | cons y u h2 =>
   rw[u3e,u3N,u2X]
   refine u0 (u0 (u3f x t y u prog w E _ ?_))
   by_cases c:x=y
   .rw[show(x == y)=true by rw[c];exact u0N _]
    refine u7 (ih h2 λr hr=>q r (hr.trans ?_))
    show _=(if x=y then zmO d _ _ else decide (x < y))
    rw[t4 c]
   .rw[show(x == y)=false by simpa using c]
    have q0:Q (some (decide (x < y)),()) s:=q _ (by
     show decide (x < y)=(if x=y then zmO d _ _ else decide (x < y))
     rw[j4 c])
    cases k with
    | zero=>exact u0 (oneLt_int (u7 (u7 q0)))
    | succ k=>exact u0 (lt0 (u7 (u7 q0)))
theorem zmC {x y:Value}{a b:List Int}{Q:Bool->Shared->Prop}(hx:TT s.heap x a)(hy:TT s.heap y b)(h:Q (HT.lexLt a b) s):wpAny (model prog w) A (keyLt' (tuples' true) x y) Q E s:=by
 obtain⟨p,o,n,xs,rfl,e1,_,d1,i1,_⟩:=hx
 obtain⟨q,o2,n2,ys,rfl,e2,_,d2,i2,_⟩:=hy
 rw[zhl]
 refine u0 (listItems_at e1 d1 (u0 (listItems_at e2 d2 ?_)))
 show wpAny _ _ (forIn ((xs.zip ys).zipIdx 0) ((none,()):Option Bool × Unit) zgx>>=_) _ _ _
 refine u0 (zjf (d:=decide (xs.length < ys.length)) i1 i2 λr hr=>?_)
 have e:Q (r.1.getD (decide (xs.length < ys.length))) s:=by
  rw[hr,i1.length,i2.length,zlD];exact h
 obtain⟨r1,u⟩:=r
 cases r1 with
 | none=>exact u7 e
 | some v=>exact u7 e
theorem zjq {vs:List Value}(hT:∀ v∈vs,∃ t,TT s.heap v t):OwnTim.LtE prog w A E s (zeu s.heap) (tuples' true) (·∈(pairsOf vs).toList):=by
 intro st x y Q hk hx hy h
 have look:∀ {x:Keyed},x∈(pairsOf vs).toList->∃ t,TT s.heap x.1 t/\OwnTim.ky (zeu s.heap) x=t:=λ{x} hm=>by
  rw[pairsOf_toList]at hm
  obtain⟨t,ht⟩:=hT _ (mem_zip_self hm).2
  refine⟨t,ht,?_⟩
  unfold OwnTim.ky
  show(keyTT s.heap x.1).getD _=t
  rw[keyTT_of ht]
  rfl
 obtain⟨a,ta,ka⟩:=look hx
 obtain⟨b,tb,kb⟩:=look hy
 rw[ka,kb]at h
 rw[lt'_eq]
 refine u0D (wpS_get ?_)
 rw[hk]
 exact u0D (wpS_lift (u1L (zmC ta tb ⟨rfl,u08 h⟩)))
theorem za2:∀ {vs:List Value} {Q:List (Option Value)->Shared->Prop},(∀ v∈vs,∃ t,TT s.heap v t)->(∀ fs:List Value,fs.length=vs.length->(∀ f∈fs,∃ i t,f=.int i t)->Q (fs.map some) s)->wpAny (model prog w) A (vs.mapM firstOfTuple') Q E s
 | [],Q,_,h=>by rw[List.mapM_nil];exact u7 (h [] rfl (by simp))
 | v::vs,Q,hT,h=>by
  obtain⟨t,a,o,n,its,rfl,e1,c1,d1,hi,hne⟩:=hT v d6
  obtain⟨z,zs,i0,tk,rfl,rfl⟩:∃ z zs i0 tk,its=z::zs/\z=.int i0 tk:=by
   cases hi with
   | nil=>exact absurd rfl hne
   | cons i0 tk hi=>exact⟨_,_,_,_,rfl,rfl⟩
  rw[List.mapM_cons,zgE]
  refine u0 (u0 (u2i (T:="tuple") ⟨o,e1,c1⟩ ?_))
  rw[j4 (by simp)]
  refine u0 (listItems_at e1 d1 (u7 (u0 (za2 (λu hu=>hT u (r8 _ hu)) λfs hl hf=>u7 ?_))))
  exact h (.int i0 tk::fs) (by simp[hl]) λf hf'=>by
   rcases j9.mp hf' with rfl | hf'
   .exact⟨_,_,rfl⟩
   .exact hf f hf'
theorem ziN {v₁:Value}{vs:List Value}{Q:SortKind->Shared->Prop}(hT:∀ v∈v₁::vs,∃ t,TT s.heap v t)(h:Q (tuples' true) s):wpAny (model prog w) A (keyKind' (v₁::vs).toArray) Q E s:=by
 rw[keyKind'_eq,List.mapM_toArray,<- bind_pure_comp,bind_assoc]
 refine u0 (za2 hT λfs hl hf=>u0 (u7 ?_))
 cases fs with
 | nil=>simp at hl
 | cons f fs =>
  rw[t4 (by simp)]
  have ef:((f::fs).map some).toArray.filterMap id=(f::fs).toArray:=by simp
  refine u0 (u1P ?_)
  rw[ef,oneTypeOnly'_eq,List.mapM_toArray,zel hf]
  simp only[map_pure,pure_bind]
  rw[show(List.map (λ_=>Value.type "int") (f::fs)).toArray[0]?=some (Value.type "int") by simp]
  have al:((List.map (λ_=>Value.type "int") (f::fs)).toArray.all λx=>x == Value.type "int")=true:=by
   simp only[List.all_toArray,u1w,u0s]
   intro _ _
   rfl
  simp only[al,u2I,pure_bind,Option.any_some]
  rw[show(Value.type "int" != Value.type "tuple")=true by decide +kernel]
  exact u7 h
end
def Rise (h:Heap)(out:List Value):Prop:=∃ ts:List (List Int),out.length=ts.length/\(∀ (i:Nat) (v:Value) (t:(List Int)),out[i]?=some v->ts[i]?=some t->TT h v t)/\ts.Pairwise λa b=>HT.lexLt b a=false
theorem zh0 {h h':Heap}{vs:List Value}{xs:Array Keyed}(hT:∀ v∈vs,∃ t,TT h v t)(hk:∀ v t,TT h v t->TT h' v t)(pm:xs.Perm (pairsOf vs))(hs:SortedToK (zeu h') xs (pairsOf vs).size):(xs.map (·.2)).toList.Perm vs/\Rise h (xs.map (·.2)).toList:=by
 have hl:xs.toList.Perm (vs.zip vs):=by rw[<-pairsOf_toList];exact u27.mp pm
 have hm:∀ p∈xs.toList,p.1=p.2/\p.1∈vs:=λp hp=>mem_zip_self (hl.mem_iff.mp hp)
 have e2:(xs.map (·.2)).toList=xs.toList.map (·.2):=by simp
 rw[e2]
 refine⟨?_,xs.toList.map λp=>(keyTT h' p.1).getD ([]:List Int),by simp,λi v t hv ht=>?_,?_⟩
 .have:=hl.map (·.2)
  rwa[show(vs.zip vs).map (·.2)=vs from List.map_snd_zip (t5 _)]at this
 .rw[j5]at hv ht
  cases hx:xs.toList[i]? with
  | none=>rw[hx]at hv;cases hv
  | some p =>
   rw[hx]at hv ht
   cases hv
   cases ht
   obtain⟨q1,q2⟩:=hm p (d9 hx)
   obtain⟨t,ht⟩:=hT _ q2
   show TT h p.2 ((keyTT h' p.1).getD ([]:List Int))
   rw[keyTT_of (hk _ _ ht),<- q1]
   exact ht
 .rw[u3n]
  intro i j hi hj hij
  have hi':i < xs.size:=by simpa using hi
  have hj':j < xs.size:=by simpa using hj
  have:=hs i j (u0S hij) (by rw[<-pm.size_eq];exact hj')
  unfold KK at this
  rw[getElem?_pos xs i hi',getElem?_pos xs j hj']at this
  have this:HT.lexLt ((keyTT h' xs[j].1).getD ([]:List Int)) ((keyTT h' xs[i].1).getD ([]:List Int))=false:=this
  simpa using this
section
variable {prog:Program}{w:World}{A:Around}{E:Value->Shared->Prop}{s:Shared}
theorem ownT_list_sort {a:Addr} {vs:List Value} {n:Nat} {P:Fin->Shared->Prop} (ho:s.heap.get? a=some (seqObj "list" vs.toArray n)) (hT:∀ v∈vs,∃ t,TT s.heap v t) (h64:vs.length < 64)
 (h:∀ out:Array Value,out.toList.Perm vs->Rise s.heap out.toList->P (.done (.ret .none)) { s with heap:=sortedHeap s.heap a vs out }):wpAny (model prog w) A (Builtin.«list.sort» ⟨[.ref a],[]⟩) P E s:=by
 have la:a < s.heap.objs.size:=q5 ho
 have zl:vs.toArray.size=vs.length:=t7
 obtain⟨e1,o1⟩:∃ e1,(s.heap.update a (Obj.mapSeq λ_=>#[])).get? a=some (seqObj "list" #[] e1):=⟨_,get?_update_seq ho (λ_=>#[])⟩
 have o6:(((s.heap.update a (Obj.mapSeq λ_=>#[])).push (seqObj "tuple" vs.toArray 0)).push (seqObj "list" #[] 0)).get? a=some (seqObj "list" #[] e1):=u4 _ (u4 _ o1)
 have up:∀ b o,o.cls=.type "tuple"->s.heap.get? b=some o->(((s.heap.update a (Obj.mapSeq λ_=>#[])).push (seqObj "tuple" vs.toArray 0)).push (seqObj "list" #[] 0)).get? b=some o:=λb o c e=>by
  refine u4 _ (u4 _ ((u0e _ _ λz=>?_).trans e))
  subst z
  rw[ho]at e
  cases e
  exact absurd (show Value.type "list"=Value.type "tuple" from c) (by decide +kernel)
 have hT6:∀ v∈vs,∃ t,TT (((s.heap.update a (Obj.mapSeq λ_=>#[])).push (seqObj "tuple" vs.toArray 0)).push (seqObj "list" #[] 0)) v t:=λv hv=>let ⟨t,ht⟩:=hT v hv;⟨t,ht.keepT up⟩
 rw[list_sort_plain]
 refine u0 (listItems_at ho rfl (u0 (listUpdate_at ho rfl (u0 (seqEpoch_at o1 rfl (u0 (wpAny_newTuple (u0 (u3K (u0C ?_))))))))))
 show wpAny (model prog w) A _ P E { s with heap:=((s.heap.update a (Obj.mapSeq λ_=>#[])).push (seqObj "tuple" vs.toArray 0)).push (seqObj "list" #[] 0) }
 by_cases c2:vs.toArray.size < 2
 .rw[t4 c2,t4 c2]
  refine u0 (u7 ?_)
  dsimp only
  rw[StateT.run_pure]
  refine u0 (u7 ?_)
  obtain⟨r1,r2⟩:=zh0 (xs:=pairsOf vs) hT (λv t ht=>ht) (Array.Perm.refl _) (λi j hij hj=>by
   obtain rfl:i=j:=by rw[u3j]at hj;omega
   exact u1q _)
  refine u0 (seqEpoch_at o6 rfl (u0 (listUpdate_at o6 rfl ?_ (hsz2:=by rw[Array.size_map];show(pairsOf vs).size<=_;rw[u3j,u1K];omega))))
  rw[show(e1 != e1)=false by simp]
  exact u7 (h _ r1 r2)
 .rw[j4 c2,j4 c2]
  cases vs with
  | nil=>simp at c2
  | cons v₁ rest =>
   refine u0 (ziN hT6 ?_)
   refine u0 (u1v (OwnTim.own_runsE (st:=SortSt.mk' (tuples' true) ((v₁::rest).toArray.zip (v₁::rest).toArray) #[] 7 none) (Q:=λ_ t=>(arrOf t).Perm (pairsOf (v₁::rest))/\failedOf t=none/\SortedToK (zeu _) (arrOf t) (pairsOf (v₁::rest)).size)
    (zjq hT6) (Array.Perm.refl _) rfl rfl rfl (λt p1 p2 p3=>⟨p1,p2,p3⟩) (by rw[u3j];rw[t7]at c2;omega) (by rw[u3j];exact h64)) ?_ λ_ _ e=>e)
   rintro⟨⟨⟩,t⟩ s' ⟨rfl,p1,p2,p3⟩
   obtain⟨r1,r2⟩:=zh0 hT (λv t ht=>ht.keepT up) p1 p3
   refine u0 (seqEpoch_at o6 rfl (u0 (listUpdate_at o6 rfl ?_ (hsz2:=by rw[Array.size_map];show(arrOf t).size<=_;rw[p1.size_eq,u3j,u1K];omega))))
   rw[p2,show(e1 != e1)=false by simp]
   exact u7 (h _ r1 r2)
theorem ownT_sorted {l:Addr}{vs:List Value}{Q:Value->Shared->Prop}(hl:s.heap.IsList l vs.toArray)(hT:∀ v∈vs,∃ t,TT s.heap v t)(h64:vs.length < 64)
 (h:∀ out:Array Value,out.toList.Perm vs->Rise s.heap out.toList->Q (.ref (s.heap.objs.size+1)) { s with heap:=sortedAll s.heap vs out }):wpAny (model prog w) A (call (.builtin "sorted") [.ref l]) Q E s:=by
 have z1:((s.heap.push (seqObj "list" #[] 0)).update s.heap.objs.size (Obj.mapSeq (·++vs.toArray))).objs.size=s.heap.objs.size+1:=(Heap.size_update ..).trans (size_push' _ _)
 have oL:(((s.heap.push (seqObj "list" #[] 0)).update s.heap.objs.size (Obj.mapSeq (·++vs.toArray))).push (seqObj "list" vs.toArray 0)).get? (s.heap.objs.size+1)=some (seqObj "list" vs.toArray 0):=z1 ▸ j6 _ rfl
 have up:∀ b o,s.heap.get? b=some o->(((s.heap.push (seqObj "list" #[] 0)).update s.heap.objs.size (Obj.mapSeq (·++vs.toArray))).push (seqObj "list" vs.toArray 0)).get? b=some o:=λb o e =>
  u4 _ ((u0e _ _ λz=>by subst z;exact absurd (q5 e) (u0Q _)).trans (u4 _ e))
 refine u17 kind_sorted plain_sorted entry_sorted (args_sorted1 _) ?_
 unfold Builtin.«sorted»
 refine u0 (m:=checkCount "sorted" 1 1 _) (u7 (u0 (collect_list hl (u0 (u3K ?_)))))
 show wpAny _ _ _ _ _ (Shared.mk (((s.heap.push (seqObj "list" #[] 0)).update s.heap.objs.size (Obj.mapSeq (·++vs.toArray))).push (seqObj "list" vs.toArray 0)) s.gens s.drawn s.toks s.os)
 rw[z1]
 refine u0 (u0C (u0h slot_list_sort ⟨_,oL,rfl⟩ entry_list_sort (ownT_list_sort oL (λv hv=>let ⟨t,ht⟩:=hT v hv;⟨t,ht.keep up⟩) h64 λout p1 p2=>⟨_,rfl,u7 ⟨_,rfl,h out p1 ?_⟩⟩) (args_list_sort _)))
 obtain⟨ts,q1,q2,q3⟩:=p2
 refine⟨ts,q1,λi v t hv ht=>?_,q3⟩
 obtain⟨t0,ht0⟩:=hT v (p1.mem_iff.mp (d9 hv))
 rw[(q2 i v t hv ht).uniq (ht0.keep up)]
 exact ht0
end
end OwnSortT
namespace OwnSort
open PySem PyProof.Rows
def Rise (h:Heap)(out:List Value):Prop:=∃ ts:List Pr,out.length=ts.length/\(∀ (i:Nat) (v:Value) (t:Pr),out[i]?=some v->ts[i]?=some t->TP h v t)/\ts.Pairwise λa b=>bltP b a=false
theorem TP.tt {h:Heap}{v:Value}{t:Pr}(x:TP h v t):OwnSortT.TT h v [t.1,t.2]:=by
 obtain⟨a,o,n,tx,ty,e1,e2,e3,e4⟩:=x
 exact⟨a,o,n,[.int t.1 tx,.int t.2 ty],e1,e2,e3,e4,.cons _ _ (.cons _ _ .nil),List.cons_ne_nil _ _⟩
theorem zku (a b:Pr):HT.lexLt [a.1,a.2] [b.1,b.2]=bltP a b:=by
 rw[HT.lexLt_cons,HT.lexLt_cons]
 unfold bltP
 by_cases c:a.1=b.1
 .rw[t4 c]
  by_cases c2:a.2=b.2
  .rw[t4 c2,g9 (by omega)];rfl
  .rw[j4 c2,decide_eq_decide];omega
 .rw[j4 c,decide_eq_decide];omega
theorem ziw {h:Heap}{vs out:List Value}(hT:∀ v∈vs,∃ t,TP h v t)(pm:out.Perm vs)(r:OwnSortT.Rise h out):Rise h out:=by
 obtain⟨ts,l1,l2,l3⟩:=r
 have key:∀ (i:Nat) (v:Value) (t:List Int),out[i]?=some v->ts[i]?=some t->∃ p:Pr,TP h v p/\t=[p.1,p.2]:=λi v t h1 h2=>by
  obtain⟨p,hp⟩:=hT v (pm.mem_iff.mp (d9 h1))
  exact⟨p,hp,OwnSortT.TT.uniq (l2 i v t h1 h2) hp.tt⟩
 have ex:∀ t∈ts,∃ p:Pr,t=[p.1,p.2]:=λt ht=>by
  obtain⟨i,hi,rfl⟩:=u0G ht
  obtain⟨p,_,e⟩:=key i out[i] ts[i] (t9 (by omega)) (t9 hi)
  exact⟨p,e⟩
 refine⟨ts.map λt=>(t.getD 0 0,t.getD 1 0),by rw[u6,l1],λi v t h1 h2=>?_,?_⟩
 .rw[j5]at h2
  obtain⟨u,hu,rfl⟩:=u8.mp h2
  obtain⟨p,hp,rfl⟩:=key i v u h1 hu
  exact hp
 .rw[u1l]
  refine l3.imp_of_mem λ{a b} ha hb hab=>?_
  obtain⟨p,rfl⟩:=ex a ha
  obtain⟨q,rfl⟩:=ex b hb
  rw[zku]at hab
  exact hab
section
variable {prog:Program}{w:World}{A:Around}{E:Value->Shared->Prop}{s:Shared}
theorem own_sorted {l:Addr}{vs:List Value}{Q:Value->Shared->Prop}(hl:s.heap.IsList l vs.toArray)(hT:∀ v∈vs,∃ t,TP s.heap v t)(h64:vs.length < 64)
 (h:∀ out:Array Value,out.toList.Perm vs->Rise s.heap out.toList->Q (.ref (s.heap.objs.size+1)) { s with heap:=sortedAll s.heap vs out }):wpAny (model prog w) A (call (.builtin "sorted") [.ref l]) Q E s :=
 OwnSortT.ownT_sorted hl (λv hv=>(hT v hv).imp' (λt=>[t.1,t.2]) λ_ ht=>ht.tt) (by omega) λout p r=>h out p (ziw hT p r)
end
end OwnSort
namespace Dl
open PySem L2
class KK where
 K:W.Frag
inductive D where
 | non | bl (b:Bool) | int (i:Int) | str (x:Str) | tup (ds:List D) | lst (ds:List D) | scr (ns:List Int)
  | dct (z t:Bool) (ks:List (List Key)) (vs:List D)
 deriving Inhabited
section
variable [KK]
def zas (o:HO)(t:Bool)(ks:List (List Key))(xs:List V):Prop :=
 if t=true then ∃ kvs,o=.dT kvs/\kvs.map (·.1)=ks/\kvs.map (·.2)=xs else ∃ kvs:List (Key × V),o=.dK kvs/\kvs.map (λp=>[p.1])=ks/\kvs.map (·.2)=xs
def zaI (H:Hp)(a:Addr)(z t:Bool)(ks:List (List Key))(xs:List V):Prop :=
 ∃ u,zas u t ks xs/\if z=true then ∃ ob,H a=some (.frz ob u)else H a=some u
theorem zaI.mono {H H':Hp}{a:Addr}{z t:Bool}{ks:List (List Key)}{xs:List V}(s:xa H H')(h:zaI H a z t ks xs):zaI H' a z t ks xs:=by
 obtain⟨u,h1,h2⟩:=h
 refine⟨u,h1,?_⟩
 cases z with
 | true =>
  rw[t4 rfl]at h2 ⊢
  obtain⟨ob,h2⟩:=h2
  exact⟨ob,s _ _ h2⟩
 | false =>
  rw[j4 u9]at h2 ⊢
  exact s _ _ h2
theorem zaI.rd {H:Hp}{a:Addr}{z t:Bool}{ks:List (List Key)}{xs:List V}(h:zaI H a z t ks xs):∃ u,zas u t ks xs/\Rd H a u:=by
 obtain⟨u,h1,h2⟩:=h
 refine⟨u,h1,?_⟩
 cases z with
 | true =>
  rw[t4 rfl]at h2
  obtain⟨ob,h2⟩:=h2
  exact .inr ⟨ob,h2⟩
 | false =>
  rw[j4 u9]at h2
  exact .inl h2
mutual
def At (H:Hp):D->V->Prop
 | .non,v=>v=.non
 | .bl b,v=>v=.bl b
 | .int i,v=>v=.int i
 | .str x,v=>v=.str x
 | .tup ds,v=>∃ a xs,v=.ref a/\H a=some (.tup xs)/\AtL H ds xs
 | .lst ds,v=>∃ a xs,v=.ref a/\H a=some (.lst xs)/\AtL H ds xs
 | .scr ns,v=>∃ a,v=.ref a/\SqL KK.K H a (ns.map V.int)
 | .dct z t ks vs,v=>∃ a xs,v=.ref a/\zaI H a z t ks xs/\AtL H vs xs
def AtL (H:Hp):List D->List V->Prop
 | [],xs=>xs=[]
 | d::ds,xs=>∃ x r,xs=x::r/\At H d x/\AtL H ds r
end
mutual
theorem At.mono {H H':Hp}(s:xa H H'):∀ {d:D} {v:V},At H d v->At H' d v
 | .non,_,h=>by unfold At at h ⊢;exact h
 | .bl _,_,h=>by unfold At at h ⊢;exact h
 | .int _,_,h=>by unfold At at h ⊢;exact h
 | .str _,_,h=>by unfold At at h ⊢;exact h
 | .tup ds,_,h=>by
  unfold At at h ⊢
  obtain⟨a,xs,e,hx,hl⟩:=h
  exact⟨a,xs,e,s _ _ hx,AtL.mono s hl⟩
 | .lst ds,_,h=>by
  unfold At at h ⊢
  obtain⟨a,xs,e,hx,hl⟩:=h
  exact⟨a,xs,e,s _ _ hx,AtL.mono s hl⟩
 | .scr ns,_,h=>by
  unfold At at h ⊢
  obtain⟨a,e,hx⟩:=h
  exact⟨a,e,s.seq hx⟩
 | .dct z t ks vs,_,h=>by
  unfold At at h ⊢
  obtain⟨a,xs,e,hx,hl⟩:=h
  exact⟨a,xs,e,hx.mono s,AtL.mono s hl⟩
theorem AtL.mono {H H':Hp}(s:xa H H'):∀ {ds:List D} {xs:List V},AtL H ds xs->AtL H' ds xs
 | [],_,h=>by unfold AtL at h ⊢;exact h
 | d::ds,_,h=>by
  unfold AtL at h ⊢
  obtain⟨x,r,e,h1,h2⟩:=h
  exact⟨x,r,e,At.mono s h1,AtL.mono s h2⟩
end
mutual
def noL:D->Bool
 | .tup ds=>zjs ds
 | .lst _=>false
 | .scr _=>false
 | .dct _ _ _ _=>false
 | _=>true
def zjs:List D->Bool
 | []=>true
 | d::ds=>noL d&&zjs ds
end
mutual
theorem At.flat {G F:Hp}(h:∀ q xs,G q=some (.tup xs)->F q=some (.tup xs)):∀ {d:D} {v:V},noL d=true->At G d v->At F d v
 | .non,_,_,a=>by unfold At at a ⊢;exact a
 | .bl _,_,_,a=>by unfold At at a ⊢;exact a
 | .int _,_,_,a=>by unfold At at a ⊢;exact a
 | .str _,_,_,a=>by unfold At at a ⊢;exact a
 | .tup ds,_,n,a=>by
  unfold At at a ⊢
  unfold noL at n
  obtain⟨p,xs,e,hx,hl⟩:=a
  exact⟨p,xs,e,h _ _ hx,AtL.flat h n hl⟩
 | .lst ds,_,n,_=>by unfold noL at n;cases n
 | .scr ds,_,n,_=>by unfold noL at n;cases n
 | .dct _ _ _ _,_,n,_=>by unfold noL at n;cases n
theorem AtL.flat {G F:Hp}(h:∀ q xs,G q=some (.tup xs)->F q=some (.tup xs)):∀ {ds:List D} {xs:List V},zjs ds=true->AtL G ds xs->AtL F ds xs
 | [],_,_,a=>by unfold AtL at a ⊢;exact a
 | d::ds,_,n,a=>by
  unfold AtL at a ⊢
  unfold zjs at n
  rw[g0]at n
  obtain⟨x,r,e,h1,h2⟩:=a
  exact⟨x,r,e,At.flat h n.1 h1,AtL.flat h n.2 h2⟩
end
section
variable {H H':Hp}{d:D}{ds es:List D}{v x:V}{xs ys:List V}
theorem At.int {i:Int}:At H (.int i) (.int i):=by unfold At;rfl
theorem At.bl {b:Bool}:At H (.bl b) (.bl b):=by unfold At;rfl
theorem At.non:At H .non .non:=by unfold At;rfl
theorem At.str {y:Str}:At H (.str y) (.str y):=by unfold At;rfl
theorem At.tup {a:Addr}(h:H a=some (.tup xs))(hl:AtL H ds xs):At H (.tup ds) (.ref a):=by unfold At;exact⟨a,xs,rfl,h,hl⟩
theorem At.lst {a:Addr}(h:H a=some (.lst xs))(hl:AtL H ds xs):At H (.lst ds) (.ref a):=by unfold At;exact⟨a,xs,rfl,h,hl⟩
theorem AtL.nil:AtL H [] []:=by unfold AtL;rfl
theorem AtL.cons (h:At H d x)(hl:AtL H ds xs):AtL H (d::ds) (x::xs):=by unfold AtL;exact⟨x,xs,rfl,h,hl⟩
theorem At.int_inv {i:Int}(h:At H (.int i) v):v=.int i:=by unfold At at h;exact h
theorem At.bl_inv {b:Bool}(h:At H (.bl b) v):v=.bl b:=by unfold At at h;exact h
theorem At.non_inv (h:At H .non v):v=.non:=by unfold At at h;exact h
theorem At.str_inv {y:Str}(h:At H (.str y) v):v=.str y:=by unfold At at h;exact h
theorem At.tup_inv (h:At H (.tup ds) v):∃ a xs,v=.ref a/\H a=some (.tup xs)/\AtL H ds xs:=by unfold At at h;exact h
theorem At.lst_inv (h:At H (.lst ds) v):∃ a xs,v=.ref a/\H a=some (.lst xs)/\AtL H ds xs:=by unfold At at h;exact h
theorem At.scr_inv {ns:List Int}(h:At H (.scr ns) v):∃ a,v=.ref a/\SqL KK.K H a (ns.map V.int):=by unfold At at h;exact h
theorem At.dct_inv {z t:Bool}{ks:List (List Key)}{vs:List D}(h:At H (.dct z t ks vs) v):∃ a xs,v=.ref a/\zaI H a z t ks xs/\AtL H vs xs:=by unfold At at h;exact h
theorem AtL.nil_inv (h:AtL H [] xs):xs=[]:=by unfold AtL at h;exact h
theorem AtL.cons_inv (h:AtL H (d::ds) xs):∃ x r,xs=x::r/\At H d x/\AtL H ds r:=by unfold AtL at h;exact h
theorem AtL.length:∀ {ds:List D} {xs:List V},AtL H ds xs->xs.length=ds.length
 | [],_,h=>by rw[h.nil_inv];rfl
 | _::_,_,h=>by
  obtain⟨x,r,rfl,_,h2⟩:=h.cons_inv
  rw[i6,i6,AtL.length h2]
theorem AtL.get:∀ {ds:List D} {xs:List V} {i:Nat} {d:D},AtL H ds xs->ds[i]?=some d->∃ x,xs[i]?=some x/\At H d x
 | [],_,_,_,_,e=>by simp at e
 | _::_,_,i,_,h,e=>by
  obtain⟨x,r,rfl,h1,h2⟩:=h.cons_inv
  cases i with
  | zero =>
   simp at e
   subst e
   exact⟨x,rfl,h1⟩
  | succ i =>
   obtain⟨y,hy,ha⟩:=AtL.get (i:=i) h2 (by simpa using e)
   exact⟨y,by simpa using hy,ha⟩
theorem AtL.append:∀ {ds es:List D} {xs ys:List V},AtL H ds xs->AtL H es ys->AtL H (ds++es) (xs++ys)
 | [],_,_,_,h,k=>by rw[h.nil_inv];exact k
 | _::_,_,_,_,h,k=>by
  obtain⟨x,r,rfl,h1,h2⟩:=h.cons_inv
  exact .cons h1 (AtL.append h2 k)
theorem AtL.snoc (h:AtL H ds xs)(k:At H d v):AtL H (ds++[d]) (xs++[v]):=h.append (.cons k .nil)
theorem AtL.take:∀ (n:Nat) {ds:List D} {xs:List V},AtL H ds xs->AtL H (ds.take n) (xs.take n)
 | 0,_,_,_=>by simpa using AtL.nil
 | n+1,[],_,h=>by rw[h.nil_inv];simpa using AtL.nil
 | n+1,_::_,_,h=>by
  obtain⟨x,r,rfl,h1,h2⟩:=h.cons_inv
  rw[List.take_succ_cons,List.take_succ_cons]
  exact .cons h1 (AtL.take n h2)
theorem AtL.drop:∀ (n:Nat) {ds:List D} {xs:List V},AtL H ds xs->AtL H (ds.drop n) (xs.drop n)
 | 0,_,_,h=>h
 | n+1,[],_,h=>by rw[h.nil_inv];simpa using AtL.nil
 | n+1,_::_,_,h=>by
  obtain⟨x,r,rfl,h1,h2⟩:=h.cons_inv
  rw[List.drop_succ_cons,List.drop_succ_cons]
  exact AtL.drop n h2
theorem AtL.set:∀ (n:Nat) {ds:List D} {xs:List V},AtL H ds xs->At H d v->AtL H (ds.set n d) (xs.set n v)
 | _,[],_,h,_=>by rw[h.nil_inv];simpa using AtL.nil
 | 0,_::_,_,h,k=>by
  obtain⟨x,r,rfl,h1,h2⟩:=h.cons_inv
  exact .cons k h2
 | n+1,_::_,_,h,k=>by
  obtain⟨x,r,rfl,h1,h2⟩:=h.cons_inv
  exact .cons h1 (AtL.set n h2 k)
theorem AtL.rep (h:AtL H ds xs):∀ k:Nat,AtL H (List.replicate k ds).flatten (List.replicate k xs).flatten
 | 0=>.nil
 | k+1=>by
  rw[u06,u06,u1C,u1C]
  exact h.append (AtL.rep h k)
theorem AtL.ints (ns:List Int):AtL H (ns.map D.int) (ns.map V.int):=by
 induction ns with
 | nil=>exact .nil
 | cons n r ih=>exact .cons .int ih
theorem AtL.of_ints:∀ {ns:List Int} {xs:List V},AtL H (ns.map D.int) xs->xs=ns.map V.int
 | [],_,h=>h.nil_inv
 | n::r,_,h=>by
  obtain⟨x,r',rfl,h1,h2⟩:=AtL.cons_inv (by simpa using h)
  rw[h1.int_inv,AtL.of_ints h2]
  rfl
end
def tyN:D->String
 | .non=>"NoneType" | .bl _=>"bool" | .int _=>"int" | .str _=>"str" | .tup _=>"tuple" | .lst _=>"list" | .scr _=>"list" | .dct _ _ _ _=>"dict"
def Hid (F':Hp)(p:Addr)(o:HO):Prop:=F' p=none\/((∃ xs,o=.tup xs)/\F' p=some o)
def Keep (F H F' H':Hp):Prop:=∀ p o,F p=none->H p=some o->Hid F' p o/\H' p=some o
structure Gr (F H F' H':Hp):Prop where
 ff:xa F F'
 fh:xa F' H'
 kp:Keep F H F' H'
theorem Gr.refl {F H:Hp}(s:xa F H):Gr F H F H:=⟨xa.refl _,s,λ_ _ a b=>⟨.inl a,b⟩⟩
theorem Gr.trans {F H F1 H1 F2 H2:Hp}(a:Gr F H F1 H1)(b:Gr F1 H1 F2 H2):Gr F H F2 H2 :=
 ⟨a.ff.trans b.ff,b.fh,λp o e1 e2=>by
  obtain⟨x,y⟩:=a.kp p o e1 e2
  rcases x with x | ⟨x1,x2⟩
  .exact b.kp p o x y
  .exact⟨.inr ⟨x1,b.ff _ _ x2⟩,b.fh _ _ (b.ff _ _ x2)⟩⟩
theorem Gr.kl {F H F' H':Hp}{p:Addr}{o:HO}(g:Gr F H F' H')(n:∀ xs,o≠.tup xs)(e1:F p=none)(e2:H p=some o):F' p=none/\H' p=some o:=by
 obtain⟨x,y⟩:=g.kp p o e1 e2
 rcases x with x | ⟨⟨xs,x1⟩,_⟩
 .exact⟨x,y⟩
 .exact absurd x1 (n xs)
theorem Gr.alloc {F H:Hp}{p:Addr}(s:xa F H)(h:H p=none)(o:HO):Gr F H (upd F p o) (upd H p o):=by
 have hF:F p=none:=s.free h
 refine⟨λb u q=>?_,λb u q=>?_,λb u q r=>?_⟩
 .rw[zq (zr q hF)];exact q
 .by_cases e:b=p
  .subst e;rw[zt]at q ⊢;exact q
  .rw[zq e]at q ⊢;exact s b u q
 .have e:b≠p:=zr r h
  rw[zq e];exact⟨.inl (by rw[zq e];exact q),r⟩
theorem Gr.hide {F H:Hp}{p:Addr}(s:xa F H)(h:H p=none)(o:HO):Gr F H F (upd H p o):=by
 refine⟨xa.refl _,λb u q=>?_,λb u q r=>?_⟩
 .rw[zq (zr (s b u q) h)];exact s b u q
 .have e:b≠p:=zr r h
  rw[zq e];exact⟨.inl q,r⟩
theorem Gr.show {F H:Hp}{p:Addr}{o:HO}{F0 H0:Hp}(g:Gr F0 H0 F H)(h0:H0 p=none)(hF:F p=none)(h:H p=some o):Gr F0 H0 (upd F p o) H:=by
 refine⟨λb u q=>?_,λb u q=>?_,λb u q r=>?_⟩
 .have:=g.ff b u q
  rw[zq (zr this hF)];exact this
 .by_cases e:b=p
  .subst e;rw[zt]at q;rw[<-q];exact h
  .rw[zq e]at q;exact g.fh b u q
 .have e:b≠p:=zr r h0
  obtain⟨x,y⟩:=g.kp b u q r
  refine⟨?_,y⟩
  unfold Hid
  rw[zq e]
  exact x
abbrev Ev:=List (Option D)
def VAt (F:Hp)(ρ:Ev)(σ:St):Prop:=∀ (i:Nat) (d:D),ρ[i]?=some (some d)->∃ v,σ[i]?=some (some v)/\At F d v
theorem VAt.mono {F F':Hp}{ρ:Ev}{σ:St}(h:VAt F ρ σ)(s:xa F F'):VAt F' ρ σ:=λi d e=>let ⟨v,e1,a⟩:=h i d e;⟨v,e1,a.mono s⟩
def RE (t:TE)(f:Ev->Option D):Prop :=
 ∀ (σ:St) (ρ:Ev) (F H:Hp) (d:D) (Q:VK),xa F H->VAt F ρ σ->f ρ=some d->(∀ F' H' v,Gr F H F' H'->At F' d v->Q v H')->t σ H Q
def RT (t:TT)(f:Ev->Option Bool):Prop :=
 ∀ (σ:St) (ρ:Ev) (F H:Hp) (b:Bool) (Q:Bool->Hp->Prop),xa F H->VAt F ρ σ->f ρ=some b->(∀ F' H',Gr F H F' H'->Q b H')->t σ H Q
def RA (t:TA)(f:Ev->Option (List D)):Prop :=
 ∀ (σ:St) (ρ:Ev) (F H:Hp) (ds:List D) (Q:List V->Hp->Prop),xa F H->VAt F ρ σ->f ρ=some ds->(∀ F' H' vs,Gr F H F' H'->AtL F' ds vs->Q vs H')->t σ H Q
def RF (t:TE)(f:Ev->Option (List D)):Prop :=
 ∀ (σ:St) (ρ:Ev) (F H:Hp) (ds:List D) (Q:VK),xa F H->VAt F ρ σ->f ρ=some ds->(∀ F' H' p xs,Gr F H F' H'->H p=none->F' p=none->H' p=some (.lst xs)->AtL F' ds xs->Q (.ref p) H')->t σ H Q
def ED (X:Cx)(e:Expr)(f:Ev->Option D):Prop:=∃ t,PE X e t/\RE t f
def TD (X:Cx)(e:Expr)(f:Ev->Option Bool):Prop:=∃ t,PT X e t/\RT t f
def WD (X:Cx)(e:Expr)(f:Ev->Option Bool):Prop:=∃ t,PW X e t/\RT t f
def AD (X:Cx)(es:List Expr)(f:Ev->Option (List D)):Prop:=∃ t,PA X es t/\RA t f
def FL (X:Cx)(e:Expr)(f:Ev->Option (List D)):Prop:=∃ t,PE X e t/\RF t f
section
variable {X:Cx}{a b c:Expr}{pos:Pos}
def yx (f:Ev->Option (List D)):Ev->Option D:=fun ρ=>(f ρ).map .lst
theorem wf {f:Ev->Option (List D)}(h:FL X a f):ED X a (yx f):=by
 obtain⟨t,ht,r⟩:=h
 refine⟨t,ht,fun σ ρ F H d Q s va e q=>?_⟩
 obtain⟨ds,e1,rfl⟩:=u8.mp e
 refine r σ ρ F H ds Q s va e1 λF' H' p xs g h0 hF hH hx=>?_
 have g2:=g.show h0 hF hH
 exact q _ _ _ g2 (At.lst zt (hx.mono (λb u e=>by rw[zq (zr e hF)];exact e)))
def zd (i:Nat):Ev->Option D:=fun ρ=>(ρ[i]?).getD none
theorem znZ (i:Nat)(h:PE X a (zkQ i)):ED X a (zd i):=by
 refine⟨_,h,fun σ ρ F H d Q s va e q=>?_⟩
 have e':ρ[i]?=some (some d):=by
  unfold zd at e
  cases h:ρ[i]? with
  | none=>rw[h]at e;cases e
  | some x=>rw[h]at e;cases x with
   | none=>cases e
   | some y=>cases e;rfl
 obtain⟨v,e1,a1⟩:=va i d e'
 exact⟨v,e1,q _ _ _ (.refl s) a1⟩
def eC (d:D):Ev->Option D:=λ_=>some d
theorem zh {i:Int}(h:PE X a (tC (.int i))):ED X a (eC (.int i)):=⟨_,h,λ_ _ _ _ _ _ s _ e q=>by cases e;exact q _ _ _ (.refl s) .int⟩
theorem wZ {i:Bool}(h:PE X a (tC (.bl i))):ED X a (eC (.bl i)):=⟨_,h,λ_ _ _ _ _ _ s _ e q=>by cases e;exact q _ _ _ (.refl s) .bl⟩
theorem zaP {i:Str}(h:PE X a (tC (.str i))):ED X a (eC (.str i)):=⟨_,h,λ_ _ _ _ _ _ s _ e q=>by cases e;exact q _ _ _ (.refl s) .str⟩
theorem XH (h:PE X a (tC .non)):ED X a (eC .non):=⟨_,h,λ_ _ _ _ _ _ s _ e q=>by cases e;exact q _ _ _ (.refl s) .non⟩
def OpD (r:R2)(g:D->D->Option D):Prop :=
 ∀ (F H:Hp) (x y:V) (d e z:D) (Q:VK),xa F H->At F d x->At F e y->g d e=some z->(∀ F' H' v,Gr F H F' H'->At F' z v->Q v H')->r x y H Q
def zk (g:D->D->Option D)(f h:Ev->Option D):Ev->Option D:=fun ρ=>(f ρ).bind λx=>(h ρ).bind λy=>g x y
theorem zjF {r:R2}{g:D->D->Option D}{ta tb:TE}{f h:Ev->Option D}(hg:OpD r g)(ra:RE ta f)(rb:RE tb h):RE (tOp r ta tb) (zk g f h):=by
 intro σ ρ F H z Q s va e q
 obtain⟨x,e1,e⟩:=u5.mp e
 obtain⟨y,e2,e⟩:=u5.mp e
 refine ra σ ρ F H x _ s va e1 λF1 H1 v g1 a1=>?_
 refine rb σ ρ F1 H1 y _ g1.fh (va.mono g1.ff) e2 λF2 H2 u g2 a2=>?_
 exact hg F2 H2 v u x y z Q g2.fh (a1.mono g2.ff) a2 e λF3 H3 w g3 a3=>q F3 H3 w ((g1.trans g2).trans g3) a3
theorem zaX {op:Operator}{r:R2}{g:D->D->Option D}{f h:Ev->Option D}(ho:OpR X (binaryOp op) r)(hg:OpD r g)(ha:ED X a f)(hb:ED X b h):ED X (.BinOp a op b pos) (zk g f h) :=
 let ⟨_,pa,ra⟩:=ha
 let ⟨_,pb,rb⟩:=hb
 ⟨_,zpc ho pa pb,zjF hg ra rb⟩
theorem Yt {op:CmpOp}{r:R2}{g:D->D->Option D}{f h:Ev->Option D}(ho:OpR X (compareOp op) r)(hg:OpD r g)(hm:behindInMarks op b=false)(ha:ED X a f)(hb:ED X b h):ED X (.Compare a [op] [b] pos) (zk g f h) :=
 let ⟨_,pa,ra⟩:=ha
 let ⟨_,pb,rb⟩:=hb
 ⟨_,zmH ho pa pb hm,zjF hg ra rb⟩
def asB:D->Option Bool
 | .bl b=>some b
 | _=>none
theorem Vn {d:D}{b:Bool}(h:asB d=some b):d=.bl b:=by
 cases d <;> first | (cases h;rfl) | cases h
def tOf (f:Ev->Option D):Ev->Option Bool:=fun ρ=>(f ρ).bind asB
theorem zoq {t:TE}{f:Ev->Option D}(r:RE t f):RT (zoC t) (tOf f):=by
 intro σ ρ F H b Q s va e q
 obtain⟨x,e1,e⟩:=u5.mp e
 cases Vn e
 exact r σ ρ F H _ _ s va e1 λF1 H1 v g1 a1=>⟨b,a1.bl_inv,q F1 H1 g1⟩
theorem zN {op:CmpOp}{r:R2}{g:D->D->Option D}{f h:Ev->Option D}(ho:OpR X (compareOp op) r)(hg:OpD r g)(hm:behindInMarks op b=false)(ha:ED X a f)(hb:ED X b h):TD X (.Compare a [op] [b] pos) (tOf (zk g f h)) :=
 let ⟨_,pa,ra⟩:=ha
 let ⟨_,pb,rb⟩:=hb
 ⟨_,zlI ho pa pb hm,zoq (zjF hg ra rb)⟩
theorem yA {f:Ev->Option D}(ha:ED X a f)(he:∀ whole,isTrue a X.env whole=(do let v<-whole;standAt a.pos;holding [v] (truthy v)):=by intro _;rfl):TD X a (tOf f) :=
 let ⟨_,pa,ra⟩:=ha
 ⟨_,zoo pa he,zoq ra⟩
def yg (f g:Ev->Option Bool):Ev->Option Bool:=fun ρ=>(f ρ).bind λc=>if c=true then g ρ else some false
def wm (f g:Ev->Option Bool):Ev->Option Bool:=fun ρ=>(f ρ).bind λc=>if c=true then some true else g ρ
def zS (f:Ev->Option Bool):Ev->Option Bool:=fun ρ=>(f ρ).map (!·)
theorem Wm {f:Ev->Option Bool}(ha:TD X a f):WD X (.BoolOp .And [a] pos) f:=let ⟨_,pa,ra⟩:=ha;⟨_,zl5 pa,ra⟩
theorem XV {f:Ev->Option Bool}(ha:TD X a f):WD X (.BoolOp .Or [a] pos) f:=let ⟨_,pa,ra⟩:=ha;⟨_,znQ pa,ra⟩
theorem za9 {rest:List Expr}{f g:Ev->Option Bool}(ha:TD X a f)(hb:WD X (.BoolOp .And (b::rest) pos) g):WD X (.BoolOp .And (a::b::rest) pos) (yg f g):=by
 obtain⟨ta,pa,ra⟩:=ha
 obtain⟨tb,pb,rb⟩:=hb
 refine⟨_,zoM pa pb,fun σ ρ F H z Q s va e q=>?_⟩
 obtain⟨x,e1,e⟩:=u5.mp e
 refine ra σ ρ F H x _ s va e1 λF1 H1 g1=>?_
 cases x with
 | true =>
  rw[t4 rfl]at e ⊢
  exact rb σ ρ F1 H1 z Q g1.fh (va.mono g1.ff) e λF2 H2 g2=>q F2 H2 (g1.trans g2)
 | false =>
  rw[j4 u9]at e ⊢
  cases e
  exact q F1 H1 g1
theorem V5 {rest:List Expr}{f g:Ev->Option Bool}(ha:TD X a f)(hb:WD X (.BoolOp .Or (b::rest) pos) g):WD X (.BoolOp .Or (a::b::rest) pos) (wm f g):=by
 obtain⟨ta,pa,ra⟩:=ha
 obtain⟨tb,pb,rb⟩:=hb
 refine⟨_,zpn pa pb,fun σ ρ F H z Q s va e q=>?_⟩
 obtain⟨x,e1,e⟩:=u5.mp e
 refine ra σ ρ F H x _ s va e1 λF1 H1 g1=>?_
 cases x with
 | false =>
  rw[j4 u9]at e ⊢
  exact rb σ ρ F1 H1 z Q g1.fh (va.mono g1.ff) e λF2 H2 g2=>q F2 H2 (g1.trans g2)
 | true =>
  rw[t4 rfl]at e ⊢
  cases e
  exact q F1 H1 g1
theorem zdI {f:Ev->Option Bool}(h:WD X a f):TD X a f:=let ⟨_,p,r⟩:=h;⟨_,p.pt,r⟩
theorem xi {f:Ev->Option Bool}(ha:TD X a f):TD X (.UnaryOp .Not a pos) (zS f):=by
 obtain⟨ta,pa,ra⟩:=ha
 refine⟨_,znq pa,fun σ ρ F H z Q s va e q=>?_⟩
 obtain⟨x,e1,rfl⟩:=u8.mp e
 exact ra σ ρ F H x _ s va e1 λF1 H1 g1=>q F1 H1 g1
def x9 (f g:Ev->Option D):Ev->Option D:=fun ρ=>((f ρ).bind asB).bind λc=>if c=true then g ρ else some (.bl false)
def eOr (f g:Ev->Option D):Ev->Option D:=fun ρ=>((f ρ).bind asB).bind λc=>if c=true then some (.bl true)else g ρ
def Ys (f:Ev->Option D):Ev->Option D:=fun ρ=>((f ρ).bind asB).map λc=>.bl (!c)
theorem YC {op}{f:Ev->Option D}(ha:ED X a f):ED X (.BoolOp op [a] pos) f:=let ⟨_,pa,ra⟩:=ha;⟨_,zon pa,ra⟩
theorem vM {rest:List Expr}{f g:Ev->Option D}(ha:ED X a f)(hb:ED X (.BoolOp .And (b::rest) pos) g):ED X (.BoolOp .And (a::b::rest) pos) (x9 f g):=by
 obtain⟨ta,pa,ra⟩:=ha
 obtain⟨tb,pb,rb⟩:=hb
 refine⟨_,znn pa pb,fun σ ρ F H z Q s va e q=>?_⟩
 obtain⟨x,e1,e⟩:=u5.mp e
 obtain⟨y,e1,e2⟩:=u5.mp e1
 cases Vn e2
 refine ra σ ρ F H _ _ s va e1 λF1 H1 v g1 a1=>⟨x,a1.bl_inv,?_⟩
 cases x with
 | true =>
  rw[t4 rfl]at e ⊢
  exact rb σ ρ F1 H1 z Q g1.fh (va.mono g1.ff) e λF2 H2 w g2 a2=>q F2 H2 w (g1.trans g2) a2
 | false =>
  rw[j4 u9]at e ⊢
  cases e
  exact q F1 H1 _ g1 .bl
theorem zg4 {f:Ev->Option D}(ha:ED X a f):ED X (.UnaryOp .Not a pos) (Ys f):=by
 obtain⟨ta,pa,ra⟩:=ha
 refine⟨_,zn4 pa,fun σ ρ F H z Q s va e q=>?_⟩
 obtain⟨x,e1,rfl⟩:=u8.mp e
 obtain⟨y,e1,e2⟩:=u5.mp e1
 cases Vn e2
 exact ra σ ρ F H _ _ s va e1 λF1 H1 v g1 a1=>⟨x,a1.bl_inv,q F1 H1 _ g1 .bl⟩
def eIf (t:Ev->Option Bool)(f g:Ev->Option D):Ev->Option D:=fun ρ=>(t ρ).bind λc=>if c=true then f ρ else g ρ
def eUn (g:D->Option D)(f:Ev->Option D):Ev->Option D:=fun ρ=>(f ρ).bind g
def Yf:D->Option D
 | .int i=>some (.int (-i))
 | _=>none
theorem zk3 {f:Ev->Option D}(ha:ED X a f):ED X (.UnaryOp .USub a pos) (eUn Yf f):=by
 obtain⟨ta,pa,ra⟩:=ha
 refine⟨_,zpM znV pa,fun σ ρ F H z Q s va e q=>?_⟩
 obtain⟨x,e1,e⟩:=u5.mp e
 cases x <;> try cases e
 exact ra σ ρ F H _ _ s va e1 λF1 H1 v g1 a1=>⟨_,a1.int_inv,q F1 H1 _ g1 .int⟩
def zo:Ev->Option (List D):=λ_=>some []
def zb (f:Ev->Option D)(g:Ev->Option (List D)):Ev->Option (List D):=fun ρ=>(f ρ).bind λd=>(g ρ).map (d::·)
theorem zf:AD X [] zo:=⟨_,zer,λ_ _ _ _ _ _ s _ e q=>by cases e;exact q _ _ _ (.refl s) .nil⟩
theorem za {e:Expr}{es:List Expr}{f:Ev->Option D}{g:Ev->Option (List D)}(ha:ED X e f)(hr:AD X es g)(hs:starEach (e::es) X.env=(false,eval e X.env)::starEach es X.env:=by rfl):AD X (e::es) (zb f g):=by
 obtain⟨ta,pa,ra⟩:=ha
 obtain⟨tb,pb,rb⟩:=hr
 refine⟨_,Vt pa pb hs,fun σ ρ F H z Q s va e q=>?_⟩
 obtain⟨x,e1,e⟩:=u5.mp e
 obtain⟨ds,e2,rfl⟩:=u8.mp e
 refine ra σ ρ F H x _ s va e1 λF1 H1 v g1 a1=>?_
 exact rb σ ρ F1 H1 ds _ g1.fh (va.mono g1.ff) e2 λF2 H2 w g2 a2=>q F2 H2 _ (g1.trans g2) (.cons (a1.mono g2.ff) a2)
def lim (n:Nat):Bool:=decide (n<=sizeLine)
def xt (g:Ev->Option (List D)):Ev->Option D:=fun ρ=>(g ρ).bind λds=>if lim ds.length=true then some (.tup ds)else none
def yc (g:Ev->Option (List D)):Ev->Option (List D):=fun ρ=>(g ρ).bind λds=>if lim ds.length=true then some ds else none
theorem xr {es:List Expr}{x1}{g:Ev->Option (List D)}(h:AD X es g):ED X (.Tuple es x1 pos) (xt g):=by
 obtain⟨ta,pa,ra⟩:=h
 refine⟨_,zng pa,fun σ ρ F H z Q s va e q=>?_⟩
 obtain⟨ds,e1,e⟩:=u5.mp e
 split at e <;> cases e
 rename_i hl
 refine ra σ ρ F H ds _ s va e1 λF1 H1 vs g1 a1=>⟨by rw[a1.length];exact d7 hl,λp hp=>?_⟩
 have g2:=Gr.alloc g1.fh hp (.tup vs)
 exact q _ _ _ (g1.trans g2) (.tup zt (a1.mono g2.ff))
theorem v6 {es:List Expr}{g:Ev->Option (List D)}(h:AD X es g):FL X (.List es pos) (yc g):=by
 obtain⟨ta,pa,ra⟩:=h
 refine⟨_,zoJ pa,fun σ ρ F H z Q s va e q=>?_⟩
 obtain⟨ds,e1,e⟩:=u5.mp e
 split at e <;> cases e
 rename_i hl
 refine ra σ ρ F H _ _ s va e1 λF1 H1 vs g1 a1=>⟨by rw[a1.length];exact d7 hl,λp hp=>?_⟩
 have g2:=Gr.hide g1.fh hp (.lst vs)
 have h0:H p=none:=by
  cases e:H p with
  | none=>rfl
  | some o =>
   cases e2:F p with
   | none=>rw[(g1.kp p o e2 e).2]at hp;cases hp
   | some u=>rw[g1.fh _ _ (g1.ff _ _ e2)]at hp;cases hp
 exact q _ _ _ _ (g1.trans g2) h0 (g1.fh.free hp) zt a1
end
end
end Dl
namespace Dl
open PySem L2
variable [KK]
inductive Sl where
 | no | v (d:D) | o (ds:List D) | m (t:Bool) (ks:List (List Key)) (vs:List D)
 deriving Inhabited
abbrev SE:=List Sl
def Sl.f:Sl->Option D
 | .v d=>some d
 | _=>none
def Sl.g:Sl->Option D
 | .v d=>some d
 | .o ds=>some (.lst ds)
 | .m t ks vs=>some (.dct false t ks vs)
 | .no=>none
def Sl.isO:Sl->Bool
 | .o _=>true
 | .m _ _ _=>true
 | _=>false
def visF (ρ:SE):Ev:=ρ.map Sl.f
def visG (ρ:SE):Ev:=ρ.map Sl.g
def zeR (F:Hp)(o:HO):Sl->Prop
 | .o ds=>∃ xs,o=.lst xs/\AtL F ds xs
 | .m t ks ds=>∃ xs,zas o t ks xs/\AtL F ds xs
 | _=>False
theorem zeR.mono {F F':Hp}{o:HO}{s:Sl}(h:zeR F o s)(k:xa F F'):zeR F' o s:=by
 cases s with
 | no=>exact h
 | v d=>exact h
 | o ds=>obtain⟨xs,e,a⟩:=h;exact⟨xs,e,a.mono k⟩
 | m t ks ds=>obtain⟨xs,e,a⟩:=h;exact⟨xs,e,a.mono k⟩
theorem zeR.isO {F:Hp}{o:HO}{s:Sl}(h:zeR F o s):s.isO=true:=by
 cases s with
 | no=>exact h.elim
 | v d=>exact h.elim
 | o ds=>rfl
 | m t ks ds=>rfl
theorem zeR.ntup {F:Hp}{o:HO}{s:Sl}(h:zeR F o s)(xs:List V):o≠.tup xs:=by
 cases s with
 | no=>exact h.elim
 | v d=>exact h.elim
 | o ds=>obtain⟨ys,rfl,_⟩:=h;intro e;cases e
 | m t ks ds =>
  obtain⟨ys,e,_⟩:=h
  unfold zas at e
  split at e
  .obtain⟨kvs,rfl,_⟩:=e;intro e;cases e
  .obtain⟨kvs,rfl,_⟩:=e;intro e;cases e
theorem zeR.at {F G:Hp}{o:HO}{s:Sl}{d:D}{p:Addr}(h:zeR F o s)(e:s.g=some d)(hp:G p=some o)(k:xa F G):At G d (.ref p):=by
 cases s with
 | no=>exact h.elim
 | v d=>exact h.elim
 | o ds =>
  cases e
  obtain⟨xs,rfl,a⟩:=h
  exact .lst hp (a.mono k)
 | m t ks ds =>
  cases e
  obtain⟨xs,e,a⟩:=h
  unfold At
  exact⟨p,xs,rfl,⟨o,e,hp⟩,a.mono k⟩
structure Rl (Fb Hb F H:Hp) (ρ:SE) (σ:St):Prop where
 gr:Gr Fb Hb F H
 vals:∀ (i:Nat) (d:D),ρ[i]?=some (.v d)->∃ v,σ[i]?=some (some v)/\At F d v
 ows:∀ (i:Nat) (s:Sl),ρ[i]?=some s->s.isO=true->∃ p o,σ[i]?=some (some (.ref p))/\Hb p=none/\F p=none/\H p=some o/\zeR F o s
 dis:∀ (i j:Nat) (p:Addr) (s t:Sl),ρ[i]?=some s->ρ[j]?=some t->s.isO=true->t.isO=true->σ[i]?=some (some (.ref p))->σ[j]?=some (some (.ref p))->i=j
 len:ρ.length=σ.length
section
variable {Fb Hb F H F' H':Hp}{ρ ρ':SE}{σ σ':St}
theorem Rl.owns (r:Rl Fb Hb F H ρ σ)(i:Nat)(ds:List D)(e:ρ[i]?=some (.o ds)):∃ p xs,σ[i]?=some (some (.ref p))/\Hb p=none/\F p=none/\H p=some (.lst xs)/\AtL F ds xs:=by
 obtain⟨p,o,e1,e2,e3,e4,xs,rfl,a⟩:=r.ows i _ e rfl
 exact⟨p,xs,e1,e2,e3,e4,a⟩
theorem Rl.grow (r:Rl Fb Hb F H ρ σ)(g:Gr F H F' H'):Rl Fb Hb F' H' ρ σ:=by
 refine⟨r.gr.trans g,λi d e=>?_,λi s e h=>?_,r.dis,r.len⟩
 .obtain⟨v,e1,a⟩:=r.vals i d e
  exact⟨v,e1,a.mono g.ff⟩
 .obtain⟨p,o,e1,e2,e3,e4,a⟩:=r.ows i s e h
  obtain⟨k1,k2⟩:=g.kl a.ntup e3 e4
  exact⟨p,o,e1,e2,k1,k2,a.mono g.ff⟩
theorem Rl.visF (r:Rl Fb Hb F H ρ σ):VAt F (visF ρ) σ:=λi d e=>by
 unfold Dl.visF at e
 rw[j5]at e
 cases h:ρ[i]? with
 | none=>rw[h]at e;cases e
 | some x =>
  rw[h]at e
  cases x with
  | no=>cases e
  | v d' =>
   cases e
   exact r.vals i d h
  | o ds=>cases e
  | m t ks ds=>cases e
def Own (ρ:SE)(σ:St)(p:Addr):Prop:=∃ (i:Nat) (s:Sl),ρ[i]?=some s/\s.isO=true/\σ[i]?=some (some (.ref p))
open Classical in
noncomputable def gOf (ρ:SE)(σ:St)(F H:Hp):Hp:=λp=>if Own ρ σ p then H p else F p
open Classical in
noncomputable def fOf (ρ:SE)(σ:St)(G:Hp):Hp:=λp=>if Own ρ σ p then none else G p
theorem Rl.own (r:Rl Fb Hb F H ρ σ){p:Addr}(h:Own ρ σ p):Hb p=none/\F p=none/\∃ o,H p=some o/\∀ xs,o≠.tup xs:=by
 obtain⟨i,s,e1,e2,e3⟩:=h
 obtain⟨q,o,e4,e5,e6,e7,a⟩:=r.ows i s e1 e2
 rw[e3]at e4
 cases e4
 exact⟨e5,e6,o,e7,a.ntup⟩
theorem Rl.notown (r:Rl Fb Hb F H ρ σ){q:Addr}(h:H q=none)(j:Nat)(s:Sl)(e1:ρ[j]?=some s)(e2:s.isO=true):σ[j]?≠some (some (.ref q)):=λe=>by
 obtain⟨p,o,f1,_,_,f4,_⟩:=r.ows j s e1 e2
 rw[e]at f1
 cases f1
 rw[h]at f4
 cases f4
theorem Rl.notbase (r:Rl Fb Hb F H ρ σ){q:Addr}(h:H q=none):Hb q=none:=by
 cases z:Hb q with
 | none=>rfl
 | some o =>
  cases z2:Fb q with
  | none=>rw[(r.gr.kp q o z2 z).2]at h;cases h
  | some u=>rw[r.gr.fh _ _ (r.gr.ff _ _ z2)]at h;cases h
theorem Rl.fg (r:Rl Fb Hb F H ρ σ):xa F (gOf ρ σ F H):=λp o e=>by
 unfold gOf
 split
 .exact r.gr.fh p o e
 .exact e
theorem Rl.gh (r:Rl Fb Hb F H ρ σ):xa (gOf ρ σ F H) H:=λp o e=>by
 unfold gOf at e
 split at e
 .exact e
 .exact r.gr.fh p o e
theorem Rl.visG (r:Rl Fb Hb F H ρ σ):VAt (gOf ρ σ F H) (visG ρ) σ:=λi d e=>by
 unfold Dl.visG at e
 rw[j5]at e
 cases h:ρ[i]? with
 | none=>rw[h]at e;cases e
 | some x =>
  rw[h]at e
  have e:x.g=some d:=i8 e
  have own:x.isO=true->∃ v,σ[i]?=some (some v)/\At (gOf ρ σ F H) d v:=λhx=>by
   obtain⟨p,o,e1,e2,e3,e4,a⟩:=r.ows i x h hx
   refine⟨_,e1,a.at e ?_ r.fg⟩
   unfold gOf
   rw[t4 ⟨i,x,h,hx,e1⟩]
   exact e4
  cases x with
  | no=>cases e
  | v d' =>
   cases e
   obtain⟨v,e1,a⟩:=r.vals i d h
   exact⟨v,e1,a.mono r.fg⟩
  | o ds=>exact own rfl
  | m t ks ds=>exact own rfl
theorem Rl.back {G':Hp}(r:Rl Fb Hb F H ρ σ)(g:Gr (gOf ρ σ F H) H G' H'):Gr F H (fOf ρ σ G') H'/\∀ q xs,G' q=some (.tup xs)->fOf ρ σ G' q=some (.tup xs):=by
 refine⟨⟨λp o e=>?_,λp o e=>?_,λp o e1 e2=>?_⟩,λq xs e=>?_⟩
 .unfold fOf
  rw[j4 (λh=>by rw[(r.own h).2.1]at e;cases e)]
  exact g.ff p o (r.fg p o e)
 .unfold fOf at e
  split at e
  .cases e
  .exact g.fh p o e
 .by_cases h:Own ρ σ p
  .refine⟨.inl (by unfold fOf;rw[t4 h]),g.fh p o (g.ff p o ?_)⟩
   unfold gOf
   rw[t4 h]
   exact e2
  .obtain⟨x,y⟩:=g.kp p o (by unfold gOf;rw[j4 h];exact e1) e2
   refine⟨?_,y⟩
   unfold Hid fOf
   rw[j4 h]
   exact x
 .unfold fOf
  rw[j4 (λh=>?_)]
  .exact e
  .obtain⟨_,_,o,e2,n⟩:=r.own h
   have:G' q=some o:=g.ff q _ (by unfold gOf;rw[t4 h];exact e2)
   rw[this]at e
   cases e
   exact n xs rfl
theorem Rl.out {G':Hp}(r:Rl Fb Hb F H ρ σ)(g:Gr (gOf ρ σ F H) H G' H'):Gr Fb Hb G' H':=by
 refine⟨λp o e=>g.ff p o (r.fg p o (r.gr.ff p o e)),g.fh,λp o e1 e2=>?_⟩
 obtain⟨k1,k2⟩:=r.gr.kp p o e1 e2
 have e3:gOf ρ σ F H p=F p:=by
  unfold gOf
  rw[j4 (λh=>by rw[(r.own h).1]at e2;cases e2)]
 rcases k1 with k1 | ⟨k1,k3⟩
 .exact g.kp p o (by rw[e3];exact k1) k2
 .have:=g.ff p o (by rw[e3];exact k3)
  exact⟨.inr ⟨k1,this⟩,g.fh _ _ this⟩
theorem Rl.set (r:Rl Fb Hb F H ρ σ){i:Nat}{d:D}{v:V}(a:At F d v):Rl Fb Hb F H (ρ.set i (.v d)) (σ.set i (some v)):=by
 have nj:∀ {j:Nat} {s:Sl},(ρ.set i (.v d))[j]?=some s->s.isO=true->i≠j:=λ{j s} h ho e=>by
  subst e
  rw[u1k]at h
  simp only[u2I]at h
  split at h <;> cases h
  cases ho
 refine⟨r.gr,λj e h=>?_,λj s h ho=>?_,λj k p s t h1 h2 o1 o2 h3 h4=>?_,by simp[r.len]⟩
 .by_cases hj:i=j
  .subst hj
   rw[u1k]at h
   simp only[u2I]at h
   split at h
   .rename_i hl
    cases h
    refine⟨v,?_,a⟩
    rw[u1k]
    simp[<-r.len,hl]
   .cases h
  .rw[d8 hj]at h ⊢
   exact r.vals j e h
 .have hj:=nj h ho
  rw[d8 hj]at h ⊢
  exact r.ows j s h ho
 .have a1:=nj h1 o1
  have a2:=nj h2 o2
  rw[d8 a1]at h1 h3
  rw[d8 a2]at h2 h4
  exact r.dis j k p s t h1 h2 o1 o2 h3 h4
theorem Rl.setW (r:Rl Fb Hb F H ρ σ){i:Nat}{w:Sl}{p:Addr}{o:HO}(h0:Hb p=none)(hF:F p=none)(hH:H p=some o)(a:zeR F o w)
 (nw:∀ (j:Nat) (s:Sl),ρ[j]?=some s->s.isO=true->σ[j]?≠some (some (.ref p))):Rl Fb Hb F H (ρ.set i w) (σ.set i (some (.ref p))):=by
 have at_i:∀ {s:Sl},(ρ.set i w)[i]?=some s->i < ρ.length/\s=w:=λ{s} h=>by
  rw[u1k]at h
  simp only[u2I]at h
  split at h
  .rename_i hl
   cases h
   exact⟨hl,rfl⟩
  .cases h
 have st_i:i < ρ.length->(σ.set i (some (V.ref p)))[i]?=some (some (.ref p)):=λhl=>by
  rw[u1k]
  simp[<-r.len,hl]
 refine⟨r.gr,λj e h=>?_,λj s h ho=>?_,λj k q s t h1 h2 o1 o2 h3 h4=>?_,by simp[r.len]⟩
 .by_cases hj:i=j
  .subst hj
   have e:=(at_i h).2
   have:=a.isO
   rw[<-e]at this
   cases this
  .rw[d8 hj]at h ⊢
   exact r.vals j e h
 .by_cases hj:i=j
  .subst hj
   obtain⟨hl,e⟩:=at_i h
   subst e
   exact⟨p,o,st_i hl,h0,hF,hH,a⟩
  .rw[d8 hj]at h ⊢
   exact r.ows j s h ho
 .by_cases hj:i=j
  .subst hj
   by_cases hk:i=k
   .exact hk
   .obtain⟨hl,_⟩:=at_i h1
    rw[st_i hl]at h3
    cases h3
    rw[d8 hk]at h2 h4
    exact absurd h4 (nw k t h2 o2)
  .by_cases hk:i=k
   .subst hk
    obtain⟨hl,_⟩:=at_i h2
    rw[st_i hl]at h4
    cases h4
    rw[d8 hj]at h1 h3
    exact absurd h3 (nw j s h1 o1)
   .rw[d8 hj]at h1 h3
    rw[d8 hk]at h2 h4
    exact r.dis j k q s t h1 h2 o1 o2 h3 h4
theorem Rl.setO (r:Rl Fb Hb F H ρ σ){i:Nat}{ds:List D}{p:Addr}{xs:List V}(h0:Hb p=none)(hF:F p=none)(hH:H p=some (.lst xs))(a:AtL F ds xs)
 (nw:∀ (j:Nat) (s:Sl),ρ[j]?=some s->s.isO=true->σ[j]?≠some (some (.ref p))):Rl Fb Hb F H (ρ.set i (.o ds)) (σ.set i (some (.ref p))):=r.setW h0 hF hH ⟨xs,rfl,a⟩ nw
theorem Rl.mutW (r:Rl Fb Hb F H ρ σ){i:Nat}{w w':Sl}{p:Addr}{o':HO}(e:ρ[i]?=some w)(hw:w.isO=true)(e1:σ[i]?=some (some (.ref p)))(a:zeR F o' w'):Rl Fb Hb F (upd H p o') (ρ.set i w') σ:=by
 obtain⟨q,o,e2,h0,hF,hH,_⟩:=r.ows i w e hw
 rw[e1]at e2
 cases e2
 have hi:i < ρ.length:=(t6.mp e).1
 have neP:∀ {j:Nat} {s:Sl} {q:Addr},i≠j->ρ[j]?=some s->s.isO=true->σ[j]?=some (some (.ref q))->q≠p:=λ{j s q} hne h1 ho h2 z=>by
  subst z
  exact hne (r.dis i j q w s e h1 hw ho e1 h2)
 refine⟨⟨r.gr.ff,λb o z=>?_,λb o z1 z2=>?_⟩,λj d h=>?_,λj s h ho=>?_,λj k q s t h1 h2 o1 o2 h3 h4=>?_,by simp[r.len]⟩
 .rw[zq (zr z hF)]
  exact r.gr.fh b o z
 .rw[zq (zr z2 h0)]
  exact r.gr.kp b o z1 z2
 .by_cases hj:i=j
  .subst hj
   rw[u0x hi]at h
   cases h
   exact(Bool.noConfusion a.isO)
  .rw[d8 hj]at h
   exact r.vals j d h
 .by_cases hj:i=j
  .subst hj
   rw[u0x hi]at h
   cases h
   exact⟨p,o',e1,h0,hF,zt,a⟩
  .rw[d8 hj]at h
   obtain⟨q,z,f1,f2,f3,f4,f5⟩:=r.ows j s h ho
   refine⟨q,z,f1,f2,f3,?_,f5⟩
   rw[zq (neP hj h ho f1)]
   exact f4
 .have back:∀ {j:Nat} {s:Sl},(ρ.set i w')[j]?=some s->s.isO=true->∃ s',ρ[j]?=some s'/\s'.isO=true:=λ{j s} h ho=>by
   by_cases hj:i=j
   .subst hj;exact⟨w,e,hw⟩
   .rw[d8 hj]at h;exact⟨s,h,ho⟩
  obtain⟨f1,g1,g1'⟩:=back h1 o1
  obtain⟨f2,g2,g2'⟩:=back h2 o2
  exact r.dis j k q f1 f2 g1 g2 g1' g2' h3 h4
theorem Rl.mutate (r:Rl Fb Hb F H ρ σ){i:Nat}{ds es:List D}{p:Addr}{ys:List V}(e:ρ[i]?=some (.o ds))(e1:σ[i]?=some (some (.ref p)))(a:AtL F es ys):Rl Fb Hb F (upd H p (.lst ys)) (ρ.set i (.o es)) σ :=
 r.mutW e rfl e1 ⟨ys,rfl,a⟩
def Sl.fz:Sl->Sl
 | .o ds=>.v (.lst ds)
 | .m t ks vs=>.v (.dct false t ks vs)
 | s=>s
def znz (ρ:SE)(i:Nat):SE:=ρ.set i ((ρ[i]?).getD .no).fz
theorem Rl.freeze (r:Rl Fb Hb F H ρ σ)(i:Nat):∃ F',Rl Fb Hb F' H (znz ρ i) σ:=by
 unfold znz
 cases h:ρ[i]? with
 | none =>
  refine⟨F,?_⟩
  rw[List.set_eq_of_length_le (List.getElem?_eq_none_iff.mp h)]
  exact r
 | some s =>
  have hi:i < ρ.length:=(t6.mp h).1
  have same:s.fz=s->∃ F',Rl Fb Hb F' H (ρ.set i ((some s).getD .no).fz) σ:=λe=>by
   refine⟨F,?_⟩
   show Rl Fb Hb F H (ρ.set i s.fz) σ
   rw[e]
   have:ρ.set i s=ρ:=by
    apply u14
    intro j
    by_cases hj:i=j
    .subst hj;rw[u0x hi,h]
    .rw[d8 hj]
   rw[this]
   exact r
  have give:∀ d,s.isO=true->s.g=some d->s.fz=.v d->∃ F',Rl Fb Hb F' H (ρ.set i ((some s).getD .no).fz) σ:=λd ho hg hz=>by
   obtain⟨p,o,e1,e2,e3,e4,a⟩:=r.ows i s h ho
   have sF:xa F (upd F p o):=λb u e=>by rw[zq (zr e e3)];exact e
   show ∃ F',Rl Fb Hb F' H (ρ.set i s.fz) σ
   rw[hz]
   have nj:∀ {j:Nat} {t:Sl},(ρ.set i (.v d))[j]?=some t->t.isO=true->i≠j:=λ{j t} h ht e=>by
    subst e
    rw[u0x hi]at h
    cases h
    cases ht
   refine⟨upd F p o,r.gr.show e2 e3 e4,λj e z=>?_,λj t z ht=>?_,λj k q t u h1 h2 o1 o2 h3 h4=>?_,by simp[r.len]⟩
   .by_cases hj:i=j
    .subst hj
     rw[u0x hi]at z
     cases z
     exact⟨_,e1,a.at hg zt sF⟩
    .rw[d8 hj]at z
     obtain⟨v,f1,f2⟩:=r.vals j e z
     exact⟨v,f1,f2.mono sF⟩
   .have hj:=nj z ht
    rw[d8 hj]at z
    obtain⟨q,y,f1,f2,f3,f4,f5⟩:=r.ows j t z ht
    refine⟨q,y,f1,f2,?_,f4,f5.mono sF⟩
    rw[zq (λw=>hj (r.dis i j p s t h z ho ht e1 (by rw[<-w];exact f1)))]
    exact f3
   .have a1:=nj h1 o1
    have a2:=nj h2 o2
    rw[d8 a1]at h1
    rw[d8 a2]at h2
    exact r.dis j k q t u h1 h2 o1 o2 h3 h4
  cases s with
  | no=>exact same rfl
  | v d=>exact same rfl
  | o ds=>exact give _ rfl rfl rfl
  | m t ks ds=>exact give _ rfl rfl rfl
end
inductive Ctl where
 | nx (ρ:SE) | rt (d:D) | bk (ρ:SE) | ct (ρ:SE) | no
 deriving Inhabited
def SOk (Fb Hb:Hp)(E:ziU):Ctl->Prop
 | .nx ρ=>∀ F H σ,Rl Fb Hb F H ρ σ->E.nx σ H
 | .bk ρ=>∀ F H σ,Rl Fb Hb F H ρ σ->E.bk σ H
 | .ct ρ=>∀ F H σ,Rl Fb Hb F H ρ σ->E.ct σ H
 | .rt d=>∀ F H v,Gr Fb Hb F H->At F d v->E.rt v H
 | .no=>False
def RS (t:TS)(g:SE->Ctl):Prop:=∀ (Fb Hb F H:Hp) (ρ:SE) (σ:St) (E:ziU),Rl Fb Hb F H ρ σ->SOk Fb Hb E (g ρ)->t E σ H
def SD (X:Cx)(st:Stmt)(g:SE->Ctl):Prop:=∃ t,PS X st t/\RS t g
def SDs (X:Cx)(sts:List Stmt)(g:SE->Ctl):Prop:=∃ t,PSs X sts t/\RS t g
section
variable {X:Cx}{st:Stmt}{sts:List Stmt}{a b c e:Expr}{pos pos':Pos}
def zF:SE->Ctl:=.nx
def zE (g h:SE->Ctl):SE->Ctl:=fun ρ=>match g ρ with
 | .nx ρ'=>h ρ'
 | .rt d=>.rt d
 | .bk ρ'=>.bk ρ'
 | .ct ρ'=>.ct ρ'
 | .no=>.no
theorem zD:SDs X [] zF:=⟨_,zl6,λ_ _ F H ρ σ E r h=>h F H σ r⟩
theorem ze {g h:SE->Ctl}(h1:SD X st g)(h2:SDs X sts h):SDs X (st::sts) (zE g h):=by
 obtain⟨t,p,r⟩:=h1
 obtain⟨u,p2,r2⟩:=h2
 refine⟨_,zex p p2,λFb Hb F H ρ σ E rl k=>?_⟩
 refine r Fb Hb F H ρ σ { E with nx:=u E } rl ?_
 unfold zE at k
 cases e:g ρ with
 | nx ρ' =>
  rw[e]at k
  exact λF' H' σ' rl'=>r2 Fb Hb F' H' ρ' σ' E rl' k
 | rt d=>rw[e]at k;exact k
 | bk d=>rw[e]at k;exact k
 | ct d=>rw[e]at k;exact k
 | no=>rw[e]at k;exact k
theorem zg {g:SE->Ctl}(h1:SD X st g):SDs X [st] g:=let ⟨_,p,r⟩:=h1;⟨_,zgV p,r⟩
def sFz (i:Nat)(g:SE->Ctl):SE->Ctl:=fun ρ=>g (znz ρ i)
theorem Xw {g:SE->Ctl}(i:Nat)(h:SDs X sts g):SDs X sts (sFz i g):=by
 obtain⟨t,p,r⟩:=h
 refine⟨_,p,λFb Hb F H ρ σ E rl k=>?_⟩
 obtain⟨F',rl'⟩:=rl.freeze i
 exact r Fb Hb F' H _ σ E rl' k
def sNo:SE->Ctl:=λ_=>.no
theorem v7:SD X st sNo:=⟨_,zj4,λ_ _ _ _ _ _ _ _ h=>h.elim⟩
def yd (f:Ev->Option D):SE->Ctl:=fun ρ=>match f (visG ρ) with
 | some d=>.rt d
 | none=>.no
theorem zu {f:Ev->Option D}(h:ED X e f):SD X (.Return (some e) pos) (yd f):=by
 obtain⟨t,p,r⟩:=h
 refine⟨_,zkX p,λFb Hb F H ρ σ E rl k=>?_⟩
 unfold yd at k
 cases h:f (visG ρ) with
 | none=>rw[h]at k;exact k.elim
 | some d =>
  rw[h]at k
  exact r σ _ _ H d _ rl.gh rl.visG h λF' H' v g av=>k F' H' v (rl.out g) av
def yX:SE->Ctl:=λ_=>.rt .non
def vEv (m:Bool)(f:Ev->Option D)(ρ:SE):Option D:=if m=true then (f (visG ρ)).bind λd=>if noL d=true then some d else none else f (visF ρ)
theorem RE.at {Fb Hb F H:Hp}{ρ:SE}{σ:St}{m:Bool}{f:Ev->Option D}{t:TE}{d:D}{Q:VK}(r:RE t f)(rl:Rl Fb Hb F H ρ σ)(h:vEv m f ρ=some d)(q:∀ F' H' v,Gr F H F' H'->At F' d v->Q v H'):t σ H Q:=by
 unfold vEv at h
 cases m with
 | false =>
  rw[j4 u9]at h
  exact r σ _ _ H d _ rl.gr.fh rl.visF h q
 | true =>
  rw[t4 rfl]at h
  obtain⟨d',h1,h2⟩:=u5.mp h
  split at h2 <;> cases h2
  rename_i hn
  refine r σ _ _ H d _ rl.gh rl.visG h1 λF' H' v g av=>?_
  obtain⟨g2,fl⟩:=rl.back g
  exact q _ H' v g2 (av.flat fl hn)
def yw (m:Bool)(i:Nat)(f:Ev->Option D):SE->Ctl:=fun ρ=>match vEv m f ρ with
 | some d=>.nx (ρ.set i (.v d))
 | none=>.no
theorem zZ {m:Bool}{i:Nat}{x:Str}{f:Ev->Option D}(hN:X.N.Nodup)(hi:X.N[i]?=some x)(hx:Loc X.env.scope x)(he:ED X e f)(hs:swapsWith e (some (.Name x pos')) pos.line X.env=pure false:=by rfl)
 (hf:X.fn x=true\/X.env.scope.names.lookup x=some .local:=by first | exact .inl rfl | exact .inr rfl | assumption):SD X (.Assign [.Name x pos'] e pos) (yw m i f):=by
 obtain⟨t,p,r⟩:=he
 refine⟨_,zcB hN hi hx p hs hf,λFb Hb F H ρ σ E rl k=>?_⟩
 unfold yw at k
 cases h:vEv m f ρ with
 | none=>rw[h]at k;exact k.elim
 | some d =>
  rw[h]at k
  exact r.at rl h λF' H' v g av=>k F' H' _ ((rl.grow g).set av)
def xH (f:Ev->Option D):SE->Ctl:=fun ρ=>match f (visG ρ) with
 | some _=>.nx ρ
 | none=>.no
theorem wq {f:Ev->Option D}(he:ED X e f)(hs:swapsWith e none pos.line X.env=pure false:=by rfl):SD X (.Expr e pos) (xH f):=by
 obtain⟨t,p,r⟩:=he
 refine⟨_,zeg p hs,λFb Hb F H ρ σ E rl k=>?_⟩
 unfold xH at k
 cases h:f (visG ρ) with
 | none=>rw[h]at k;exact k.elim
 | some d =>
  rw[h]at k
  exact r σ _ _ H d _ rl.gh rl.visG h λF' H' v g av=>k _ H' σ (rl.grow (rl.back g).1)
def wo (i:Nat)(f:Ev->Option (List D)):SE->Ctl:=fun ρ=>match f (visF ρ) with
 | some ds=>.nx (ρ.set i (.o ds))
 | none=>.no
theorem Zp {i:Nat}{x:Str}{f:Ev->Option (List D)}(hN:X.N.Nodup)(hi:X.N[i]?=some x)(hx:Loc X.env.scope x)(he:FL X e f)(hs:swapsWith e (some (.Name x pos')) pos.line X.env=pure false:=by rfl)
 (hf:X.fn x=true\/X.env.scope.names.lookup x=some .local:=by first | exact .inl rfl | exact .inr rfl | assumption):SD X (.Assign [.Name x pos'] e pos) (wo i f):=by
 obtain⟨t,p,r⟩:=he
 refine⟨_,zcB hN hi hx p hs hf,λFb Hb F H ρ σ E rl k=>?_⟩
 unfold wo at k
 cases h:f (visF ρ) with
 | none=>rw[h]at k;exact k.elim
 | some ds =>
  rw[h]at k
  refine r σ _ _ H ds _ rl.gr.fh rl.visF h λF' H' q xs g h0 hF hH hx=>?_
  have rl2:=rl.grow g
  exact k F' H' _ (rl2.setO (rl.notbase h0) hF hH hx (rl.notown h0))
def sIf (t:Ev->Option Bool)(g h:SE->Ctl):SE->Ctl:=fun ρ=>match t (visG ρ) with
 | some true=>g ρ
 | some false=>h ρ
 | none=>.no
theorem yr {as bs:List Stmt}{t:Ev->Option Bool}{g h:SE->Ctl}(hc:TD X c t)(ha:SDs X as g)(hb:SDs X bs h):SD X (.If c as bs pos) (sIf t g h):=by
 obtain⟨tc,pc,rc⟩:=hc
 obtain⟨ta,pa,ra⟩:=ha
 obtain⟨tb,pb,rb⟩:=hb
 refine⟨_,zpl pc pa pb,λFb Hb F H ρ σ E rl k=>?_⟩
 unfold sIf at k
 cases h:t (visG ρ) with
 | none=>rw[h]at k;exact k.elim
 | some d =>
  rw[h]at k
  refine rc σ _ _ H d _ rl.gh rl.visG h λF' H' g=>?_
  have rl2:=rl.grow (rl.back g).1
  cases d with
  | true=>rw[t4 rfl];exact ra Fb Hb _ H' ρ σ E rl2 k
  | false=>rw[j4 u9];exact rb Fb Hb _ H' ρ σ E rl2 k
def v5 (t:Ev->Option Bool)(g:SE->Ctl):Nat->SE->Ctl
 | 0,_=>.no
 | n+1,ρ=>match t (visG ρ) with
  | some true=>match g ρ with
   | .nx ρ'=>v5 t g n ρ'
   | .ct ρ'=>v5 t g n ρ'
   | .bk ρ'=>.nx ρ'
   | .rt d=>.rt d
   | .no=>.no
  | some false=>.nx ρ
  | none=>.no
theorem W9 {as:List Stmt}{t:Ev->Option Bool}{g:SE->Ctl}(n:Nat)(hp:PassesOwn (model X.prog X.w) X.A X.env X.xe)(hc:TD X c t)(ha:SDs X as g):SD X (.While c as [] pos) (v5 t g n):=by
 obtain⟨tc,pc,rc⟩:=hc
 obtain⟨ta,pa,ra⟩:=ha
 refine⟨_,zi0 hp pc pa,λFb Hb F H ρ σ E rl k=>?_⟩
 refine⟨λm σ H=>∃ F ρ,Rl Fb Hb F H ρ σ/\SOk Fb Hb E (v5 t g m ρ),⟨n,F,ρ,rl,k⟩,?_⟩
 rintro m σ H ⟨F,ρ,rl,k⟩
 cases m with
 | zero=>exact k.elim
 | succ m =>
  unfold v5 at k
  cases h:t (visG ρ) with
  | none=>rw[h]at k;exact k.elim
  | some d =>
   rw[h]at k
   refine rc σ _ _ H d _ rl.gh rl.visG h λF' H' gr=>?_
   have rl2:=rl.grow (rl.back gr).1
   cases d with
   | false=>rw[j4 u9];exact k _ H' σ rl2
   | true =>
    rw[t4 rfl]
    refine⟨fun σ H=>∃ F ρ,Rl Fb Hb F H ρ σ/\SOk Fb Hb E (v5 t g m ρ),fun σ' H' w=>⟨m,u2b m,w⟩,?_⟩
    refine ra Fb Hb _ H' ρ σ _ rl2 ?_
    dsimp only at k
    cases hg:g ρ with
    | nx ρ'=>rw[hg]at k;exact λF2 H2 σ2 r2=>⟨F2,ρ',r2,k⟩
    | ct ρ'=>rw[hg]at k;exact λF2 H2 σ2 r2=>⟨F2,ρ',r2,k⟩
    | bk ρ'=>rw[hg]at k;exact k
    | rt d=>rw[hg]at k;exact k
    | no=>rw[hg]at k;exact k.elim
def RG (t:TG)(b:D->SE->Option SE):Prop:=∀ (Fb Hb F H:Hp) (ρ ρ':SE) (σ:St) (d:D) (v:V) (Q:St->Hp->Prop),Rl Fb Hb F H ρ σ->At F d v->b d ρ=some ρ'->(∀ σ',Rl Fb Hb F H ρ' σ'->Q σ' H)->t v σ H Q
def RGs (t:TGs)(b:List D->SE->Option SE):Prop:=∀ (Fb Hb F H:Hp) (ρ ρ':SE) (σ:St) (ds:List D) (vs:List V) (Q:St->Hp->Prop),Rl Fb Hb F H ρ σ->AtL F ds vs->b ds ρ=some ρ'->(∀ σ',Rl Fb Hb F H ρ' σ'->Q σ' H)->t vs σ H Q
def BD (X:Cx)(tg:Expr)(b:D->SE->Option SE):Prop:=∃ t,PG X tg t/\RG t b
def BDs (X:Cx)(tgs:List Expr)(b:List D->SE->Option SE):Prop:=∃ t,PGs X tgs t/\RGs t b
def zP (i:Nat):D->SE->Option SE:=λd ρ=>some (ρ.set i (.v d))
theorem ya {i:Nat}(h:PG X a (Xa i)):BD X a (zP i):=by
 refine⟨_,h,λFb Hb F H ρ ρ' σ d v Q rl av e q=>?_⟩
 cases e
 exact q _ (rl.set av)
def vH:List D->SE->Option SE
 | [],ρ=>some ρ
 | _,_=>none
def ye (b:D->SE->Option SE)(c:List D->SE->Option SE):List D->SE->Option SE
 | d::ds,ρ=>(b d ρ).bind (c ds)
 | [],_=>none
theorem YX:BDs X [] vH:=by
 refine⟨_,zbk,λFb Hb F H ρ ρ' σ ds vs Q rl av e q=>?_⟩
 cases ds with
 | nil=>cases e;exact⟨av.nil_inv,q _ rl⟩
 | cons _ _=>cases e
theorem yu {es:List Expr}{b:D->SE->Option SE}{c:List D->SE->Option SE}(h1:BD X e b)(h2:BDs X es c)
 (hs:(assignEach (e::es) X.env).map (·.2)=assign e X.env::(assignEach es X.env).map (·.2):=by rfl):BDs X (e::es) (ye b c):=by
 obtain⟨t,p,r⟩:=h1
 obtain⟨u,p2,r2⟩:=h2
 refine⟨_,YK p p2 hs,λFb Hb F H ρ ρ' σ ds vs Q rl av e q=>?_⟩
 cases ds with
 | nil=>cases e
 | cons d ds =>
  obtain⟨x,xs,rfl,a1,a2⟩:=av.cons_inv
  obtain⟨ρ1,e1,e2⟩:=u5.mp e
  exact⟨x,xs,rfl,r Fb Hb F H ρ ρ1 σ d x _ rl a1 e1 fun σ1 rl1=>r2 Fb Hb F H ρ1 ρ' σ1 ds xs Q rl1 a2 e2 q⟩
def vD (n:Nat)(c:List D->SE->Option SE):D->SE->Option SE
 | .tup ds,ρ=>if ds.length=n then c ds ρ else none
 | _,_=>none
theorem XF {es:List Expr}{k:Nat}{n:Nat}{c:List D->SE->Option SE}(hc:X.calm=true)(h:BDs X es c)
 (hn:(assignEach es X.env).length=n:=by rfl) (hst:(assignEach es X.env).findIdx? (·.1)=none:=by rfl):BD X (.Tuple es k pos) (vD n c):=by
 obtain⟨t,p,r⟩:=h
 refine⟨_,zey hc p hn hst,λFb Hb F H ρ ρ' σ d v Q rl av e q=>?_⟩
 cases d with
 | tup ds =>
  unfold vD at e
  dsimp only at e
  split at e
  .rename_i hl
   obtain⟨a,xs,rfl,hx,al⟩:=av.tup_inv
   exact⟨a,xs,rfl,SqT.of (rl.gr.fh _ _ hx),by rw[al.length];exact hl,r Fb Hb F H ρ ρ' σ ds xs Q rl al e q⟩
  .cases e
 | _=>cases e
def Zh (m:Bool)(f:Ev->Option D)(b:D->SE->Option SE):SE->Ctl:=fun ρ=>match (vEv m f ρ).bind λd=>b d ρ with
 | some ρ'=>.nx ρ'
 | none=>.no
def vb (m:Bool)(i:Nat)(fk fe:Ev->Option D):SE->Ctl:=fun ρ=>match (vEv m fe ρ).bind λd=>(fk (visG ρ)).bind λk=>match ρ[i]?,k with
 | some (.o ds),.int k=>(ixN ds.length k).map λj=>ρ.set i (.o (ds.set j d))
 | _,_=>none with
 | some ρ'=>.nx ρ'
 | none=>.no
theorem za7 {m:Bool}{i:Nat}{ko:Expr}{fk fe:Ev->Option D}(he:ED X e fe)(ho:PE X a (zkQ i))(hk:ED X ko fk)(hs:swapsWithSole [.Subscript a ko pos'] e pos.line X.env=pure false:=by rfl)(hw:swappedStores [.Subscript a ko pos'] e X.env=pure none:=by rfl)
 (h1:(assignEach [.Subscript a ko pos'] X.env).map (·.2)=[assign (.Subscript a ko pos') X.env]:=by rfl)
 (ha:∀ v,assign (.Subscript a ko pos') X.env v=(do
  let ov<-holding [v] (eval a X.env)
  let iv<-holding [v,ov] (eval ko X.env)
  standAt pos'
  holding [v,ov,iv] (setItem ov iv v)
  release [v,ov,iv] []):=by intro _;rfl):SD X (.Assign [.Subscript a ko pos'] e pos) (vb m i fk fe):=by
 obtain⟨t,p,r⟩:=he
 obtain⟨tk,pk,rk⟩:=hk
 refine⟨_,zmZ p (znj ho pk zja ha) hs hw h1,λFb Hb F H ρ σ E rl k=>?_⟩
 unfold vb at k
 cases h:(vEv m fe ρ).bind λd=>(fk (visG ρ)).bind λk=>match ρ[i]?,k with
  | some (.o ds),.int k=>(ixN ds.length k).map λj=>ρ.set i (.o (ds.set j d))
  | _,_=>none with
 | none=>rw[h]at k;exact k.elim
 | some ρ' =>
  rw[h]at k
  obtain⟨d,e1,e2⟩:=u5.mp h
  obtain⟨kd,e3,e2⟩:=u5.mp e2
  cases hs:ρ[i]? with
  | none=>rw[hs]at e2;cases e2
  | some sl =>
   rw[hs]at e2
   cases sl with
   | no=>cases e2
   | v _=>cases e2
   | m _ _ _=>cases e2
   | o ds =>
    cases kd with
    | int kk =>
     obtain⟨j,e4,rfl⟩:=u8.mp e2
     refine r.at rl e1 λF' H' v g av=>?_
     have rl2:=rl.grow g
     obtain⟨q,xs,f1,_⟩:=rl2.owns i ds hs
     refine⟨_,f1,?_⟩
     refine rk σ _ _ H' _ _ rl2.gh rl2.visG e3 λF3 H3 v3 g3 av3=>?_
     obtain⟨gb,_⟩:=rl2.back g3
     have rl3:=rl2.grow gb
     obtain⟨q3,xs3,f1',_,_,f4,f5⟩:=rl3.owns i ds hs
     rw[f1]at f1'
     cases f1'
     refine⟨q,xs3,kk,j,rfl,av3.int_inv,f4,by rw[f5.length];exact e4,?_⟩
     exact k _ _ σ (rl3.mutate hs f1 (f5.set j (av.mono gb.ff)))
    | _=>cases e2
end
end Dl
namespace L2
open PySem PySem.Spec PyProof.Rows
section
variable {X:Cx}{tg:Expr}
def iSeq (K:W.Frag)(tl:TE):TI:=fun σ H R=>tl σ H λx H1=>(∃ a,x=.ref a/\(∃ xs,SqL K H1 a xs)/\R (Itl K a) H1)\/(∃ a,x=.ref a/\(∃ xs,SqT K H1 a xs)/\R (Itt K a) H1)
theorem zoS {l:Expr}{tl:TE}(hl:PE X l tl):PI X tg l (iSeq X.K tl):=by
 intro pins s σ H R I h
 refine thn (hl pins s σ H _ I h) λv s1 hh9=>?_
 obtain⟨x,H1,I1,r1,q1⟩:=hh9
 rcases q1 with ⟨a,e,⟨xs,hq⟩,q⟩ | ⟨a,e,⟨xs,hq⟩,q⟩
 .subst e
  cases r1
  obtain⟨its,rv,p,hz⟩:=I1.list hq
  refine u1m p.isList ?_
  refine⟨s1.heap.objs.size,[s1.heap.objs.size],_,_,H1,rfl,I1.kept (t':=s1.toks) λb o e=>u4 _ e,zgX a _,⟨_,j6 _ rfl,rfl,rfl⟩,λb hb=>?_,q⟩
  have e:b=s1.heap.objs.size:=by simpa using hb
  subst e
  exact I1.fpOk (t5 _) (I1.hok.fresh (t5 _))
 .subst e
  cases r1
  obtain⟨its,rv,p,hz⟩:=I1.tuple hq
  refine u0T (show s1.heap.IsTuple a its.toArray from p) ?_
  refine⟨s1.heap.objs.size,[s1.heap.objs.size],_,_,H1,rfl,I1.kept (t':=s1.toks) λb o e=>u4 _ e,zfx a _,⟨_,j6 _ rfl,rfl,rfl⟩,λb hb=>?_,q⟩
  have e:b=s1.heap.objs.size:=by simpa using hb
  subst e
  exact I1.fpOk (t5 _) (I1.hok.fresh (t5 _))
end
end L2
namespace Dl
open PySem L2
variable [KK]
def zmQ (J:It)(F:Hp)(ds:List D):Prop:=∀ (i:Nat) (F2 H2:Hp),xa F F2->xa F2 H2->(i=ds.length->J.stop i H2) /\
 ∀ d,ds[i]?=some d->J.go i H2/\∀ x H3,J.yld i H2 x H3->∃ F3,Gr F2 H2 F3 H3/\At F3 d x
def RI (wi:TI)(f:Ev->Option (List D)):Prop :=
 ∀ (σ:St) (ρ:Ev) (F H:Hp) (ds:List D) (R:It->Hp->Prop),xa F H->VAt F ρ σ->f ρ=some ds->(∀ F' H' J,Gr F H F' H'->zmQ J F' ds->R J H')->wi σ H R
def ID (X:Cx)(tg iter:Expr)(f:Ev->Option (List D)):Prop:=∃ wi,PI X tg iter wi/\RI wi f
def yo:D->Option (List D)
 | .lst ds=>some ds
 | .tup ds=>some ds
 | _=>none
section
variable {X:Cx}{tg a b c e:Expr}{pos:Pos}
theorem znU {K:W.Frag}{F:Hp}{p:Addr}{xs:List V}{ds:List D}(h:F p=some (.lst xs))(al:AtL F ds xs):zmQ (Itl K p) F ds:=by
 intro i F2 H2 s1 s2
 have q:SqL K H2 p xs:=SqL.of (s2 _ _ (s1 _ _ h))
 refine⟨λhl=>⟨xs,q,by rw[al.length,hl];exact t5 _⟩,λd hd=>?_⟩
 obtain⟨x,hx,ax⟩:=al.get hd
 refine⟨⟨xs,x,q,hx⟩,λy H3 hy=>?_⟩
 obtain⟨rfl,hy⟩:=hy
 have:=hy xs q
 rw[hx]at this
 cases this
 exact⟨F2,.refl s2,ax.mono s1⟩
theorem zou {K:W.Frag}{F:Hp}{p:Addr}{xs:List V}{ds:List D}(h:F p=some (.tup xs))(al:AtL F ds xs):zmQ (Itt K p) F ds:=by
 intro i F2 H2 s1 s2
 have q:SqT K H2 p xs:=SqT.of (s2 _ _ (s1 _ _ h))
 refine⟨λhl=>⟨xs,q,by rw[al.length,hl];exact t5 _⟩,λd hd=>?_⟩
 obtain⟨x,hx,ax⟩:=al.get hd
 refine⟨⟨xs,x,q,hx⟩,λy H3 hy=>?_⟩
 obtain⟨rfl,hy⟩:=hy
 have:=hy xs q
 rw[hx]at this
 cases this
 exact⟨F2,.refl s2,ax.mono s1⟩
def iOf (f:Ev->Option D):Ev->Option (List D):=fun ρ=>(f ρ).bind yo
theorem xo {f:Ev->Option D}(ha:ED X a f):ID X tg a (iOf f):=by
 obtain⟨t,p,r⟩:=ha
 refine⟨_,zoS p,fun σ ρ F H ds R s va e q=>?_⟩
 obtain⟨d,e1,e2⟩:=u5.mp e
 refine r σ ρ F H d _ s va e1 λF1 H1 v g1 a1=>?_
 cases d <;> try cases e2
 .obtain⟨p,xs,rfl,hx,al⟩:=a1.tup_inv
  exact .inr ⟨p,rfl,⟨xs,SqT.of (g1.fh _ _ hx)⟩,q F1 H1 _ g1 (zou hx al)⟩
 .obtain⟨p,xs,rfl,hx,al⟩:=a1.lst_inv
  exact .inl ⟨p,rfl,⟨xs,SqL.of (g1.fh _ _ hx)⟩,q F1 H1 _ g1 (znU hx al)⟩
def W4 (lo:Int)(n:Nat):List D:=(List.range n).map λk:Nat=>.int (lo+k)
theorem zhW {F:Hp}(lo:Int)(n:Nat):zmQ (Itr lo n) F (W4 lo n):=by
 intro i F2 H2 s1 s2
 have hlen:(W4 lo n).length=n:=by unfold W4;simp
 refine⟨λhl=>by rw[hlen]at hl;rw[hl];exact t5 _,λd hd=>?_⟩
 have hi:i < n:=by
  have:=(t6.mp hd).1
  omega
 refine⟨hi,λy H3 hy=>?_⟩
 obtain⟨rfl,rfl⟩:=hy
 refine⟨F2,.refl s2,?_⟩
 unfold W4 at hd
 rw[j5,u2d hi]at hd
 cases hd
 exact .int
@[irreducible] def ziV (j:Int):Bool:=decide (-(2 ^ 62)<=j/\j < 2 ^ 62)
omit [KK] in
theorem yW {j:Int}:ziV j=true↔-(2 ^ 62)<=j/\j < 2 ^ 62:=by unfold ziV;exact decide_eq_true_iff
def vo:List D->Option (List D)
 | [.int j]=>if ziV j=true then some (W4 0 j.toNat)else none
 | _=>none
def wX:List D->Option (List D)
 | [.int i,.int j]=>if ziV i=true/\ziV j=true then some (W4 i (j - i).toNat)else none
 | _=>none
def Yr (g:List D->Option (List D))(f:Ev->Option (List D)):Ev->Option (List D):=fun ρ=>(f ρ).bind g
theorem ziv {p:Pos} {f:Ev->Option (List D)} (hg:Gl X "range") (hm:X.mg "range"=none) (ha:AD X [a,b] f) (hs:starEach [a,b] X.env=[(false,eval a X.env),(false,eval b X.env)]:=by rfl) (hs2:starEach [b] X.env=[(false,eval b X.env)]:=by rfl) :
 ID X tg (.Call (.Name "range" p) [a,b] [] pos) (Yr wX f):=by
 obtain⟨t,pa,r⟩:=ha
 refine⟨_,zco hg hm pa hs hs2,fun σ ρ F H ds R s va e q=>?_⟩
 obtain⟨d,e1,e2⟩:=u5.mp e
 refine r σ ρ F H d _ s va e1 λF1 H1 v g1 a1=>?_
 unfold wX at e2
 split at e2
 .split at e2
  .cases e2
   rename_i hc
   obtain⟨x,r',rfl,ax,ar⟩:=a1.cons_inv
   obtain⟨y,r',rfl,ay,ar⟩:=ar.cons_inv
   cases ar.nil_inv
   exact⟨_,_,by rw[ax.int_inv,ay.int_inv],⟨(yW.mp hc.1).1,(yW.mp hc.1).2,(yW.mp hc.2).1,(yW.mp hc.2).2⟩,q F1 H1 _ g1 (zhW _ _)⟩
  .cases e2
 .cases e2
def Zu (n:Nat):List D->List D
 | []=>[]
 | d::ds=>.tup [.int n,d]::Zu (n+1) ds
omit [KK] in
theorem xx (ds:List D):∀ (n i:Nat),(Zu n ds)[i]?=(ds[i]?).map λd=>.tup [.int ((n+i:Nat):Int),d]:=by
 induction ds with
 | nil=>intro n i;simp[Zu]
 | cons d ds ih =>
  intro n i
  cases i with
  | zero=>simp[Zu]
  | succ i =>
   show(Zu (n+1) ds)[i]?=(ds[i]?).map _
   rw[ih]
   have:n+1+i=n+(i+1):=by omega
   rw[this]
omit [KK] in
theorem xL (ds:List D):∀ n,(Zu n ds).length=ds.length:=by
 induction ds with
 | nil=>intro n;rfl
 | cons d ds ih=>intro n;simp[Zu,ih]
def zM (f:Ev->Option (List D)):Ev->Option (List D):=fun ρ=>(f ρ).bind λas=>match as with
 | [d]=>(yo d).map (Zu 0)
 | _=>none
theorem ZE {es:List Expr} {k:Nat} {tp p:Pos} {f:Ev->Option (List D)} (hg:Gl X "enumerate") (hm:X.mg "enumerate"=none) (hb:bootBuiltins "enumerate"=some (.type "enumerate")) (ha:AD X [a] f)
 (hs:starEach [a] X.env=[(false,eval a X.env)]:=by rfl):ID X (.Tuple es k tp) (.Call (.Name "enumerate" p) [a] [] pos) (zM f):=by
 obtain⟨t,pa,r⟩:=ha
 refine⟨_,zmF hg hm hb pa hs,fun σ ρ F H ds R s va e q=>?_⟩
 obtain⟨as,e1,e2⟩:=u5.mp e
 refine r σ ρ F H as _ s va e1 λF1 H1 v g1 a1=>?_
 split at e2
 .obtain⟨x,r',rfl,ax,ar⟩:=a1.cons_inv
  cases ar.nil_inv
  obtain⟨es,e3,rfl⟩:=u8.mp e2
  rename_i d
  cases d <;> try cases e3
  .obtain⟨p,xs,rfl,hx,al⟩:=ax.tup_inv
   refine⟨p,rfl,.inr ⟨xs,SqT.of (g1.fh _ _ hx),q F1 H1 _ g1 λi F2 H2 s1 s2=>?_⟩⟩
   have qq:SqT X.K H2 p xs:=SqT.of (s2 _ _ (s1 _ _ hx))
   refine⟨λhl=>⟨xs,qq,by rw[al.length,hl,xL];exact t5 _⟩,λd hd=>?_⟩
   rw[xx]at hd
   obtain⟨d',hd',rfl⟩:=u8.mp hd
   obtain⟨x,hxi,ax⟩:=al.get hd'
   refine⟨⟨xs,x,qq,hxi⟩,λy H3 hy=>?_⟩
   obtain⟨T,y,rfl,hT,rfl,hy⟩:=hy
   have:=hy xs qq
   rw[hxi]at this
   cases this
   have g3:=Gr.alloc s2 hT (.tup [.int i,x])
   exact⟨_,g3,.tup zt (.cons (by rw[u0m];exact .int) (.cons (ax.mono (s1.trans g3.ff)) .nil))⟩
  .obtain⟨p,xs,rfl,hx,al⟩:=ax.lst_inv
   refine⟨p,rfl,.inl ⟨xs,g1.fh _ _ hx,q F1 H1 _ g1 λi F2 H2 s1 s2=>?_⟩⟩
   have qq:SqL X.K H2 p xs:=SqL.of (s2 _ _ (s1 _ _ hx))
   refine⟨λhl=>⟨xs,qq,by rw[al.length,hl,xL];exact t5 _⟩,λd hd=>?_⟩
   rw[xx]at hd
   obtain⟨d',hd',rfl⟩:=u8.mp hd
   obtain⟨x,hxi,ax⟩:=al.get hd'
   refine⟨⟨xs,x,qq,hxi⟩,λy H3 hy=>?_⟩
   obtain⟨T,y,rfl,hT,rfl,hy⟩:=hy
   have:=hy xs qq
   rw[hxi]at this
   cases this
   have g3:=Gr.alloc s2 hT (.tup [.int i,x])
   exact⟨_,g3,.tup zt (.cons (by rw[u0m];exact .int) (.cons (ax.mono (s1.trans g3.ff)) .nil))⟩
 .cases e2
def hb2 (F1 Hb:Hp):Hp:=λp=>match F1 p with
 | some o=>some o
 | none=>Hb p
theorem W6 {F1 Hb:Hp}{p:Addr}(h:F1 p=none):hb2 F1 Hb p=Hb p:=by unfold hb2;rw[h]
theorem ziY {F1 Hb:Hp}{p:Addr}{o:HO}(h:F1 p=some o):hb2 F1 Hb p=some o:=by unfold hb2;rw[h]
theorem Gr.up {Fb Hb F1 H1 F H:Hp}(g1:Gr Fb Hb F1 H1)(g:Gr F1 (hb2 F1 Hb) F H):Gr Fb Hb F H:=by
 refine⟨g1.ff.trans g.ff,g.fh,λp o e1 e2=>?_⟩
 rcases(g1.kp p o e1 e2).1 with n | ⟨n1,n2⟩
 .exact g.kp p o n (by rw[W6 n];exact e2)
 .exact⟨.inr ⟨n1,g.ff _ _ n2⟩,g.fh _ _ (g.ff _ _ n2)⟩
theorem Gr.dn {Fb Hb F1 F H:Hp}(g:Gr Fb Hb F H)(s1:xa Fb F1)(s:xa F1 F):Gr F1 (hb2 F1 Hb) F H:=by
 refine⟨s,g.fh,λp o e1 e2=>?_⟩
 rw[W6 e1]at e2
 exact g.kp p o (s1.free e1) e2
theorem Rl.up {Fb Hb F1 H1 F H:Hp}{ρ:SE}{σ:St}(g1:Gr Fb Hb F1 H1)(r:Rl F1 (hb2 F1 Hb) F H ρ σ):Rl Fb Hb F H ρ σ:=by
 refine⟨g1.up r.gr,r.vals,λi s e ho=>?_,r.dis,r.len⟩
 obtain⟨p,o,e1,e2,e3⟩:=r.ows i s e ho
 refine⟨p,o,e1,?_,e3⟩
 cases h:F1 p with
 | none=>rw[W6 h]at e2;exact e2
 | some o=>rw[ziY h]at e2;cases e2
theorem Rl.dn {Fb Hb F1 F H:Hp}{ρ:SE}{σ:St}(r:Rl Fb Hb F H ρ σ)(s1:xa Fb F1)(s:xa F1 F):Rl F1 (hb2 F1 Hb) F H ρ σ:=by
 refine⟨r.gr.dn s1 s,r.vals,λi t e ho=>?_,r.dis,r.len⟩
 obtain⟨p,o,e1,e2,e3,e4⟩:=r.ows i t e ho
 refine⟨p,o,e1,?_,e3,e4⟩
 rw[W6 (s.free e3)]
 exact e2
def zgP (b:D->SE->Option SE)(g:SE->Ctl):List D->SE->Ctl
 | [],ρ=>.nx ρ
 | d::ds,ρ=>match b d ρ with
  | none=>.no
  | some ρ1=>match g ρ1 with
   | .nx ρ'=>zgP b g ds ρ'
   | .ct ρ'=>zgP b g ds ρ'
   | .bk ρ'=>.nx ρ'
   | .rt d=>.rt d
   | .no=>.no
def wg (f:Ev->Option (List D))(b:D->SE->Option SE)(g:SE->Ctl):SE->Ctl:=fun ρ=>match f (visF ρ) with
 | some ds=>zgP b g ds ρ
 | none=>.no
theorem zgG {Fb Hb F1 H1:Hp}{ρ:SE}{σ:St}{E:ziU}{J:It}{g:TG}{tb:TS}{ds:List D}{b:D->SE->Option SE}{gb:SE->Ctl}(hit:zmQ J F1 ds)(rg:RG g b)(rb:RS tb gb)(rl0:Rl Fb Hb F1 H1 ρ σ)(k:SOk Fb Hb E (zgP b gb ds ρ)) :
 ∃ W:Nat->Nat->St->Hp->Prop,(∃ m,W 0 m σ H1)/\∀ i m σ H,W i m σ H ->
  (J.stop i H/\E.nx σ H)\/(J.go i H/\∃ N:St->Hp->Prop,(∀ σ' H',N σ' H'->∃ m',m' < m/\W (i+1) m' σ' H')/\∀ x H',J.yld i H x H'->g x σ H' fun σ2 H2=>tb { E with nx:=N,ct:=N,bk:=E.nx } σ2 H2):=by
 refine⟨λi m σ H=>m=ds.length - i/\i<=ds.length/\∃ F ρ,xa F1 F/\Rl Fb Hb F H ρ σ/\SOk Fb Hb E (zgP b gb (ds.drop i) ρ),⟨ds.length,by simp,u0I _,F1,ρ,xa.refl _,rl0,k⟩,?_⟩
 rintro i m σ H ⟨rfl,hi,F,ρ,s1,rl,k⟩
 obtain⟨stop,go⟩:=hit i F H s1 rl.gr.fh
 by_cases hlt:i < ds.length
 .have hd:ds.drop i=ds[i]::ds.drop (i+1):=u0V hlt
  rw[hd]at k
  unfold zgP at k
  obtain⟨g1,g2⟩:=go ds[i] (by simp[hlt])
  refine .inr ⟨g1,fun σ H=>∃ F ρ,xa F1 F/\Rl Fb Hb F H ρ σ/\SOk Fb Hb E (zgP b gb (ds.drop (i+1)) ρ),fun σ' H' w=>⟨ds.length - (i+1),by omega,rfl,hlt,w⟩,λx H' hy=>?_⟩
  obtain⟨F3,g3,a3⟩:=g2 x H' hy
  cases hb:b ds[i] ρ with
  | none=>rw[hb]at k;exact k.elim
  | some ρ1 =>
   rw[hb]at k
   dsimp only at k
   refine rg Fb Hb F3 H' ρ ρ1 σ _ x _ (rl.grow g3) a3 hb fun σ2 rl2=>?_
   have s3:=s1.trans g3.ff
   refine rb F1 (hb2 F1 Hb) F3 H' ρ1 σ2 _ (rl2.dn rl0.gr.ff s3) ?_
   cases hg:gb ρ1 with
   | nx ρ'=>rw[hg]at k;exact λF4 H4 σ4 r4=>⟨F4,ρ',r4.gr.ff,r4.up rl0.gr,k⟩
   | ct ρ'=>rw[hg]at k;exact λF4 H4 σ4 r4=>⟨F4,ρ',r4.gr.ff,r4.up rl0.gr,k⟩
   | bk ρ'=>rw[hg]at k;exact λF4 H4 σ4 r4=>k F4 H4 σ4 (r4.up rl0.gr)
   | rt d=>rw[hg]at k;exact λF4 H4 v g4 a4=>k F4 H4 v (rl0.gr.up g4) a4
   | no=>rw[hg]at k;exact k.elim
 .have e:i=ds.length:=by omega
  subst e
  rw[u1M]at k
  exact .inl ⟨stop rfl,k F H σ rl⟩
theorem vP {iter:Expr}{body:List Stmt}{f:Ev->Option (List D)}{b:D->SE->Option SE}{g:SE->Ctl}(hp:PassesOwn (model X.prog X.w) X.A X.env X.xe)(hc:X.calm=true)(hi:ID X tg iter f)(hg:BD X tg b)(hb:SDs X body g)
 (hs:∀ x,foldedSetIterable iter X.env x=pure x:=by intro _;rfl):SD X (.For tg iter body [] pos) (wg f b g):=by
 obtain⟨wi,pi,ri⟩:=hi
 obtain⟨tg',pg,rg⟩:=hg
 obtain⟨tb,pb,rb⟩:=hb
 refine⟨_,zhk hp hc pi pg pb hs,λFb Hb F H ρ σ E rl k=>?_⟩
 unfold wg at k
 cases h:f (visF ρ) with
 | none=>rw[h]at k;exact k.elim
 | some ds =>
  rw[h]at k
  exact ri σ _ _ H ds _ rl.gr.fh rl.visF h λF1 H1 J g1 ok=>zgG ok rg rb (rl.grow g1) k
end
def lcD (b:D->Option (List (Option D)))(t:Ev->Option Bool)(f:Ev->Option D)(ρ:Ev):List D->Option (List D)
 | []=>some []
 | d::ds=>(b d).bind λown=>(t (own++ρ)).bind λc=>if c=true then (f (own++ρ)).bind λy=>(lcD b t f ρ ds).map (y::·)else lcD b t f ρ ds
def fLC (i:Ev->Option (List D))(b:D->Option (List (Option D)))(t:Ev->Option Bool)(f:Ev->Option D):Ev->Option (List D):=fun ρ=>(i ρ).bind λds=>if lim ds.length=true then lcD b t f ρ ds else none
def b1:D->Option (List (Option D)):=λd=>some [some d]
def b2:D->Option (List (Option D))
 | .tup [x,y]=>some [some x,some y]
 | _=>none
def RB (n:Nat)(t:TG)(b:D->Option (List (Option D))):Prop:=∀ (σ:St) (ρ:Ev) (F H:Hp) (d:D) (v:V) (own:List (Option D)) (Q:St->Hp->Prop),xa F H->VAt F ρ σ->At F d v->b d=some own->(∀ σ',VAt F (own++ρ) σ'->Q σ' H)->t v (List.replicate n none++σ) H Q
def zR:Ev->Option Bool:=λ_=>some true
theorem zkT:RT tYes zR:=λ_ _ _ _ _ _ s _ e q=>by cases e;exact q _ _ (.refl s)
theorem ziB {wi:TI}{n:Nat}{g:TG}{tt:TT}{te:TE}{fi:Ev->Option (List D)}{b:D->Option (List (Option D))}{ft:Ev->Option Bool}{fe:Ev->Option D}(ri:RI wi fi)(rg:RB n g b)(rt:RT tt ft)(re:RE te fe) :
 RF (tLC wi n g tt te) (fLC fi b ft fe):=by
 intro σ ρ F H out Q s va e q
 obtain⟨ds,e1,e2⟩:=u5.mp e
 split at e2 <;> try cases e2
 rename_i hlim
 have hlim:ds.length<=sizeLine:=d7 hlim
 refine ri σ ρ F H ds _ s va e1 λF1 H1 J g1 ok=>?_
 intro P hP
 have hF1:F1 P=none:=g1.fh.free hP
 have hH0:H P=none:=by
  cases e:H P with
  | none=>rfl
  | some o =>
   cases e2:F P with
   | none=>rw[(g1.kp P o e2 e).2]at hP;cases hP
   | some u=>rw[g1.fh _ _ (g1.ff _ _ e2)]at hP;cases hP
 refine⟨λi m ys H2=>m=ds.length - i/\i<=ds.length/\∃ F2 done,Gr F1 H1 F2 H2/\Gr F1 (upd H1 P (.lst [])) F2 (upd H2 P (.lst []))/\F2 P=none/\H2 P=some (.lst ys)/\AtL F2 done ys/\done.length<=i/\∃ more,lcD b ft fe ρ (ds.drop i)=some more/\done++more=out,⟨ds.length,by simp,u0I _,F1,[],Gr.hide g1.fh hP _,?_,hF1,zt,.nil,u0I _,out,e2,rfl⟩,?_⟩
 .rw[zgO]
  exact .refl λb u z=>by rw[zq (zr z hF1)];exact g1.fh b u z
 rintro i m ys H2 ⟨rfl,hi,F2,done,g2,g2',hF2,hH2,al,hdl,more,hm,hout⟩
 obtain⟨stop,go⟩:=ok i F2 H2 g2.ff g2.fh
 by_cases hlt:i < ds.length
 .have hd:ds.drop i=ds[i]::ds.drop (i+1):=u0V hlt
  rw[hd]at hm
  unfold lcD at hm
  obtain⟨own,hb,hm⟩:=u5.mp hm
  obtain⟨cb,hc,hm⟩:=u5.mp hm
  obtain⟨k1,k2⟩:=go ds[i] (by simp[hlt])
  refine .inr ⟨k1,by rw[al.length];omega,λx H3 hy=>?_⟩
  obtain⟨F3,g3,a3⟩:=k2 x H3 hy
  refine rg σ ρ F3 H3 ds[i] x own _ g3.fh (va.mono (g1.ff.trans (g2.ff.trans g3.ff))) a3 hb fun σ4 va4=>?_
  refine rt σ4 _ F3 H3 cb _ g3.fh va4 hc λF5 H5 g5=>?_
  have g35:=g3.trans g5
  obtain⟨n5,h5⟩:=g35.kl (λ_ e=>by cases e) hF2 hH2
  have keep2:∀ {F6 H6:Hp} {o:HO},Gr F2 H2 F6 H6->F6 P=none->Gr F1 (upd H1 P (.lst [])) F6 (upd (upd H6 P o) P (.lst [])):=λ{F6 H6 o} g6 n6=>by
   rw[zgO]
   refine⟨g2.ff.trans g6.ff,λb u z=>?_,λb u z1 z2=>?_⟩
   .rw[zq (zr z n6)];exact g6.fh b u z
   .by_cases hbP:b=P
    .subst hbP
     rw[zt]at z2 ⊢
     exact⟨.inl n6,z2⟩
    .rw[zq hbP]at z2 ⊢
     exact(g2.trans g6).kp b u z1 z2
  have keep1:∀ {F6 H6:Hp} {o:HO},Gr F2 H2 F6 H6->F6 P=none->Gr F1 H1 F6 (upd H6 P o):=λ{F6 H6 o} g6 n6=>by
   refine⟨g2.ff.trans g6.ff,λb u z=>?_,λb u z1 z2=>?_⟩
   .rw[zq (zr z n6)];exact g6.fh b u z
   .rw[zq (zr z2 hP)]
    exact(g2.trans g6).kp b u z1 z2
  cases cb with
  | false =>
   rw[j4 u9]at hm ⊢
   have ups:H5=upd H5 P (.lst ys):=by
    funext b
    by_cases hbP:b=P
    .subst hbP;rw[zt];exact h5
    .rw[zq hbP]
   refine⟨ds.length - (i+1),by omega,rfl,hlt,F5,done,?_,?_,n5,h5,al.mono g35.ff,by omega,more,hm,hout⟩
   .rw[ups];exact keep1 g35 n5
   .have:=keep2 (o:=.lst ys) g35 n5
    rw[<-ups]at this
    exact this
  | true =>
   rw[t4 rfl]at hm ⊢
   obtain⟨y,hy,hm⟩:=u5.mp hm
   obtain⟨rest,hm',rfl⟩:=u8.mp hm
   refine re σ4 _ F5 H5 y _ g5.fh (va4.mono g5.ff) hy λF6 H6 v g6 a6=>?_
   have g36:=g35.trans g6
   obtain⟨n6,h6⟩:=g36.kl (λ_ e=>by cases e) hF2 hH2
   refine⟨h6,ds.length - (i+1),by omega,rfl,hlt,F6,done++[y],keep1 g36 n6,keep2 g36 n6,n6,zt,(al.mono g36.ff).snoc a6,by rw[j8];simp;omega,rest,hm',by rw[<-hout,u1j];rfl⟩
 .have e:i=ds.length:=by omega
  subst e
  rw[u1M]at hm
  cases hm
  rw[u0l]at hout
  subst hout
  exact .inl ⟨stop rfl,q F2 H2 P ys (g1.trans g2) hH0 hF2 hH2 al⟩
theorem rb1:RB 1 (Xa 0) b1:=by
 intro σ ρ F H d v own Q s va av e q
 cases e
 refine q _ λi d' h=>?_
 cases i with
 | zero=>cases h;exact⟨v,rfl,av⟩
 | succ i=>exact va i d' h
theorem rb2 {K:W.Frag}:RB 2 (zo3 K 2 (zdf (Xa 0) (zdf (Xa 1) zo1))) b2:=by
 intro σ ρ F H d v own Q s va av e q
 unfold b2 at e
 split at e <;> cases e
 obtain⟨p,xs,rfl,hx,al⟩:=av.tup_inv
 obtain⟨x,r,rfl,ax,al⟩:=al.cons_inv
 obtain⟨y,r,rfl,ay,al⟩:=al.cons_inv
 cases al.nil_inv
 refine⟨p,_,rfl,SqT.of (s _ _ hx),rfl,x,_,rfl,y,_,rfl,rfl,?_⟩
 refine q _ λi d' h=>?_
 match i,h with
 | 0,h=>cases h;exact⟨x,rfl,ax⟩
 | 1,h=>cases h;exact⟨y,rfl,ay⟩
 | i+2,h=>exact va i d' h
def tCan (f:Ev->Option D):TE:=fun σ H Q=>∃ ρ F d,xa F H/\VAt F ρ σ/\f ρ=some d/\∀ F' H' v,Gr F H F' H'->At F' d v->Q v H'
def zox (f:Ev->Option Bool):TT:=fun σ H Q=>∃ ρ F d,xa F H/\VAt F ρ σ/\f ρ=some d/\∀ F' H',Gr F H F' H'->Q d H'
theorem ED.can {X:Cx}{e:Expr}{f:Ev->Option D}(h:ED X e f):PE X e (tCan f):=by
 obtain⟨t,p,r⟩:=h
 rintro pins s σ H Q I ⟨ρ,F,d,h1,h2,h3,h4⟩
 exact p pins s σ H Q I (r σ ρ F H d Q h1 h2 h3 h4)
theorem TD.can {X:Cx}{e:Expr}{f:Ev->Option Bool}(h:TD X e f):PT X e (zox f):=by
 obtain⟨t,p,r⟩:=h
 rintro pins s σ H Q I ⟨ρ,F,d,h1,h2,h3,h4⟩
 exact p pins s σ H Q I (r σ ρ F H d Q h1 h2 h3 h4)
theorem zcE {f:Ev->Option D}:RE (tCan f) f:=λ_ ρ F _ d _ h1 h2 h3 h4=>⟨ρ,F,d,h1,h2,h3,h4⟩
theorem zhq {f:Ev->Option Bool}:RT (zox f) f:=λ_ ρ F _ d _ h1 h2 h3 h4=>⟨ρ,F,d,h1,h2,h3,h4⟩
theorem Z3 {X:Cx}{elt tg iter:Expr}{L M:List Str}{scope:Scope}{cl:List (Str × Addr)}{pos:Pos}{fi:Ev->Option (List D)}{b:D->Option (List (Option D))}{fe:Ev->Option D}{g:TG}
 (hc:X.calm=true) (S:xI X L M scope cl) (hi:ID X tg iter fi)
 (hgS:∀ (σ:St) (v:V) (H:Hp) (Q:St->Hp->Prop),g v (List.replicate L.length none++σ) H Q->g v (List.replicate L.length none++σ) H (fun σ2 H2=>Z1 (List.replicate L.length none++σ) σ2/\Q σ2 H2))
 (hrb:RB L.length g b)
 (hg:∀ s₀ H₀ ex pn,PG (zaW X L M scope cl s₀ H₀ ex pn) tg g) (he:∀ s₀ H₀ ex pn,ED (zaW X L M scope cl s₀ H₀ ex pn) elt fe)
 (hs:∀ x,foldedSetIterable iter X.env x=pure x:=by intro _;rfl):FL X (.ListComp elt [⟨tg,iter,[],0⟩] scope pos) (fLC fi b zR fe):=by
 obtain⟨wi,pi,ri⟩:=hi
 exact⟨_,zkO hc S pi hgS hg (λ_ _ _ _=>zgN) (λ_ _ _ _=>(he _ _ _ _).can) hs,ziB ri hrb zkT zcE⟩
theorem zhA {X:Cx}{elt tg iter c:Expr}{L M:List Str}{scope:Scope}{cl:List (Str × Addr)}{pos:Pos}{fi:Ev->Option (List D)}{b:D->Option (List (Option D))}{ft:Ev->Option Bool}{fe:Ev->Option D}{g:TG}
 (hc:X.calm=true) (S:xI X L M scope cl) (hi:ID X tg iter fi)
 (hgS:∀ (σ:St) (v:V) (H:Hp) (Q:St->Hp->Prop),g v (List.replicate L.length none++σ) H Q->g v (List.replicate L.length none++σ) H (fun σ2 H2=>Z1 (List.replicate L.length none++σ) σ2/\Q σ2 H2))
 (hrb:RB L.length g b)
 (hg:∀ s₀ H₀ ex pn,PG (zaW X L M scope cl s₀ H₀ ex pn) tg g) (ht:∀ s₀ H₀ ex pn,TD (zaW X L M scope cl s₀ H₀ ex pn) c ft) (he:∀ s₀ H₀ ex pn,ED (zaW X L M scope cl s₀ H₀ ex pn) elt fe)
 (hs:∀ x,foldedSetIterable iter X.env x=pure x:=by intro _;rfl):FL X (.ListComp elt [⟨tg,iter,[c],0⟩] scope pos) (fLC fi b ft fe):=by
 obtain⟨wi,pi,ri⟩:=hi
 exact⟨_,zkO hc S pi hgS hg (λ_ _ _ _=>zee (ht _ _ _ _).can) (λ_ _ _ _=>(he _ _ _ _).can) hs,ziB ri hrb zhq zcE⟩
theorem zoy {t:TE}{f:Ev->Option (List D)}(r:RF t f):RE t (yx f):=by
 intro σ ρ F H d Q s va e q
 obtain⟨ds,e1,rfl⟩:=u8.mp e
 refine r σ ρ F H ds Q s va e1 λF' H' p xs g h0 hF hH hx=>?_
 have g2:=g.show h0 hF hH
 exact q _ _ _ g2 (At.lst zt (hx.mono (λb u e=>by rw[zq (zr e hF)];exact e)))
def FLS (X:Cx)(i:Nat)(st:Stmt)(f:Ev->Option (List D)):Prop:=∃ t,PS X st (zmV t (Xa i))/\RF t f
theorem zdt {m:Bool}{i:Nat}{st:Stmt}{f:Ev->Option (List D)}(he:FLS X i st f):SD X st (yw m i (yx f)):=by
 obtain⟨t,p,r⟩:=he
 refine⟨_,p,λFb Hb F H ρ σ E rl k=>?_⟩
 unfold yw at k
 cases h:vEv m (yx f) ρ with
 | none=>rw[h]at k;exact k.elim
 | some d =>
  rw[h]at k
  exact(zoy r).at rl h λF' H' v g av=>k F' H' _ ((rl.grow g).set av)
theorem zmh {i:Nat}{x:Str}{px spos:Pos}{X:Cx}{elt tg iter:Expr}{L M:List Str}{scope:Scope}{cl:List (Str × Addr)}{pos:Pos}{fi:Ev->Option (List D)}{b:D->Option (List (Option D))}{fe:Ev->Option D}{g:TG}
 (hN:X.N.Nodup) (hi':X.N[i]?=some x) (hx:Loc X.env.scope x) (hc:X.calm=true) (S:xI X L M scope cl) (hi:ID X tg iter fi)
 (hgS:∀ (σ:St) (v:V) (H:Hp) (Q:St->Hp->Prop),g v (List.replicate L.length none++σ) H Q->g v (List.replicate L.length none++σ) H (fun σ2 H2=>Z1 (List.replicate L.length none++σ) σ2/\Q σ2 H2))
 (hrb:RB L.length g b)
 (hg:∀ s₀ H₀ ex pn,PG (zaW X L M scope cl s₀ H₀ ex pn) tg g) (he:∀ s₀ H₀ ex pn,ED (zaW X L M scope cl s₀ H₀ ex pn) elt fe)
 (hs:∀ x,foldedSetIterable iter X.env x=pure x:=by intro _;rfl)
 (hsw:swapsWith (.ListComp elt [⟨tg,iter,[],0⟩] scope pos) (some (.Name x px)) spos.line X.env=pure true:=by rfl)
 (hf:X.fn x=true\/X.env.scope.names.lookup x=some .local:=by first | exact .inl rfl | exact .inr rfl | assumption):FLS X i (.Assign [.Name x px] (.ListComp elt [⟨tg,iter,[],0⟩] scope pos) spos) (fLC fi b zR fe):=by
 obtain⟨wi,pi,ri⟩:=hi
 exact⟨_,zk6 hN hi' hx hc S pi hgS hg (λ_ _ _ _=>zgN) (λ_ _ _ _=>(he _ _ _ _).can) hs hsw hf,ziB ri hrb zkT zcE⟩
theorem zdc {i:Nat}{x:Str}{px spos:Pos}{X:Cx}{elt tg iter c:Expr}{L M:List Str}{scope:Scope}{cl:List (Str × Addr)}{pos:Pos}{fi:Ev->Option (List D)}{b:D->Option (List (Option D))}{ft:Ev->Option Bool}{fe:Ev->Option D}{g:TG}
 (hN:X.N.Nodup) (hi':X.N[i]?=some x) (hx:Loc X.env.scope x) (hc:X.calm=true) (S:xI X L M scope cl) (hi:ID X tg iter fi)
 (hgS:∀ (σ:St) (v:V) (H:Hp) (Q:St->Hp->Prop),g v (List.replicate L.length none++σ) H Q->g v (List.replicate L.length none++σ) H (fun σ2 H2=>Z1 (List.replicate L.length none++σ) σ2/\Q σ2 H2))
 (hrb:RB L.length g b)
 (hg:∀ s₀ H₀ ex pn,PG (zaW X L M scope cl s₀ H₀ ex pn) tg g) (ht:∀ s₀ H₀ ex pn,TD (zaW X L M scope cl s₀ H₀ ex pn) c ft) (he:∀ s₀ H₀ ex pn,ED (zaW X L M scope cl s₀ H₀ ex pn) elt fe)
 (hs:∀ x,foldedSetIterable iter X.env x=pure x:=by intro _;rfl)
 (hsw:swapsWith (.ListComp elt [⟨tg,iter,[c],0⟩] scope pos) (some (.Name x px)) spos.line X.env=pure true:=by rfl)
 (hf:X.fn x=true\/X.env.scope.names.lookup x=some .local:=by first | exact .inl rfl | exact .inr rfl | assumption):FLS X i (.Assign [.Name x px] (.ListComp elt [⟨tg,iter,[c],0⟩] scope pos) spos) (fLC fi b ft fe):=by
 obtain⟨wi,pi,ri⟩:=hi
 exact⟨_,zk6 hN hi' hx hc S pi hgS hg (λ_ _ _ _=>zee (ht _ _ _ _).can) (λ_ _ _ _=>(he _ _ _ _).can) hs hsw hf,ziB ri hrb zhq zcE⟩
def fnD (n:Nat)(g:SE->Ctl)(ds:List D):Option D:=match g (ds.map .v++List.replicate (n - ds.length) .no) with
 | .rt d=>some d
 | .nx _=>some .non
 | _=>none
def spD (m:Nat)(p:List D->Option D):Sp:=λvs H Q _=>∃ ds d F,ds.length=m/\xa F H/\AtL F ds vs/\p ds=some d/\∀ F' H' v,Gr F H F' H'->At F' d v->Q v H'
theorem zeP {F H:Hp}{N:List Str}{ds:List D}{vs:List V}(s:xa F H)(a:AtL F ds vs):Rl F H F H (ds.map .v++List.replicate (N.length - ds.length) .no) (L2.start N vs):=by
 have hl:=a.length
 have noO:∀ (i:Nat) (t:Sl),(ds.map Sl.v++List.replicate (N.length - ds.length) Sl.no)[i]?=some t->t.isO=true->False:=λi t h ho=>by
  by_cases hi:i < ds.length
  .rw[u0i (by simpa using hi),j5]at h
   cases e:ds[i]? with
   | none=>rw[e]at h;cases h
   | some d=>rw[e]at h;cases h;cases ho
  .rw[u0d (by simpa using hi),u1g]at h
   split at h <;> cases h
   cases ho
 refine⟨.refl s,λi d h=>?_,λi t h ho=>(noO i t h ho).elim,λi j p t u h _ ho=>(noO i t h ho).elim,?_⟩
 .by_cases hi:i < ds.length
  .rw[u0i (by simpa using hi),j5]at h
   cases e:ds[i]? with
   | none=>rw[e]at h;cases h
   | some d' =>
    rw[e]at h
    cases h
    obtain⟨x,hx,ax⟩:=a.get e
    refine⟨x,?_,ax⟩
    unfold L2.start
    rw[u0i (by simpa [hl]using hi),j5,hx]
    rfl
  .rw[u0d (by simpa using hi),u1g]at h
   split at h <;> cases h
 .unfold L2.start
  simp[hl]
theorem yz {P:Program}{w:World}{K:W.Frag}{mg:Str->Option Value}{base:Heap}{x qual:Str}{st:Stmt}{f:Addr}{fd:FuncData}{N ps:List Str}{k:Nat}{g:SE->Ctl}(Fu:Fun K x qual st f fd)(S:zw N ps (zm st))
 (hb:∀ (cdv:Value) (A:Around) (outer:List Env) (s:Shared) (H:Hp) (E:XK),Zv k (A.deeper (PyProof.Rows.envOfC qual (zm st) s.heap.objs.size f cdv))->SDs (zju CX0 P w K mg base N qual (zm st) f cdv A outer s H E).nox (vL st) g) :
 xc P w K mg base CX0 (k+1) f fd ps (spD ps.length (fnD N.length g)):=by
 refine Fu.ok S (λvs H Q E h=>?_) λcdv A outer s H vs Q E hr h=>?_
 .obtain⟨ds,d,F,hl,_,a,_⟩:=h
  rw[a.length];exact hl
 .obtain⟨ds,d,F,hl,sm,a,e,q⟩:=h
  obtain⟨t,p,r⟩:=hb cdv A outer s H E hr
  refine⟨t,p,r F H F H _ _ _ (zeP sm a) ?_⟩
  unfold fnD at e
  cases hg:g (ds.map .v++List.replicate (N.length - ds.length) .no) with
  | rt d'=>rw[hg]at e;cases e;exact λF' H' v g av=>q F' H' v g av
  | nx ρ=>rw[hg]at e;cases e;exact λF' H' σ rl=>q F' H' _ rl.gr .non
  | bk ρ=>rw[hg]at e;cases e
  | ct ρ=>rw[hg]at e;cases e
  | no=>rw[hg]at e;cases e
theorem vO {P:Program}{w:World}{K:W.Frag}{mg:Str->Option Value}{base:Heap}{f:Addr}{fd:FuncData}{ps:List Str}{k m:Nat}{p q:List D->Option D}(F:xc P w K mg base CX0 k f fd ps (spD m p))(h:∀ ds d,ds.length=m->q ds=some d->p ds=some d):xc P w K mg base CX0 k f fd ps (spD m q) :=
 F.imp λvs H Q E ⟨ds,d,F',h1,h2,h3,h4,h5⟩=>⟨ds,d,F',h1,h2,h3,h ds d h1 h4,h5⟩
def zn (m:Nat)(p:List D->Option D)(f:Ev->Option (List D)):Ev->Option D:=fun ρ=>(f ρ).bind λds=>if ds.length=m then p ds else none
theorem zih {X:Cx}{x:Str}{k m:Nat}{f:Addr}{fd:FuncData}{ps:List Str}{p:List D->Option D}{e:Expr}{es:List Expr}{pp pos:Pos}{fa:Ev->Option (List D)}(F:xc X.prog X.w X.K X.mg X.base CX0 k f fd ps (spD m p))(hr:Zv k X.A)(hg:Gl X x)(hm:X.mg x=some (.ref f))(hk:W.keepIn X.K (.ref f)=true)(hb:zd2 X.K fd ps [])
 (ha:AD X (e::es) fa) (hdb:(x == ("__debug__":Str))=false:=by decide) (he:starEach (e::es) X.env=(false,eval e X.env)::starEach es X.env:=by rfl) (hpl:(backTo pos (starEach es X.env)).any (·.1)=false:=by rfl) :
 ED X (.Call (.Name x pp) (e::es) [] pos) (zn m p fa):=by
 obtain⟨t,pa,r⟩:=ha
 refine⟨_,zlO F hr hg hm hk hb .nil zpv pa hdb he hpl,fun σ ρ F0 H d Q s va e q=>?_⟩
 obtain⟨ds,e1,e2⟩:=u5.mp e
 split at e2 <;> try cases e2
 rename_i hl
 refine r σ ρ F0 H ds _ s va e1 λF1 H1 vs g1 a1=>?_
 refine⟨ds,d,F1,hl,g1.fh,by rw[u0l];exact a1,e2,λF' H' v g av=>q F' H' v (g1.trans g) av⟩
end Dl
namespace Dl
open PySem L2
variable [KK]
section
variable {X:Cx}{a b c e:Expr}{pos:Pos}
theorem zb0:bootBuiltins "isinstance"=some (.builtin "isinstance"):=by decide +kernel
theorem v9:bootBuiltins "len"=some (.builtin "len"):=by decide +kernel
theorem zcb:bootBuiltins "min"=some (.builtin "min"):=by decide +kernel
theorem zkC:bootBuiltins "max"=some (.builtin "max"):=by decide +kernel
theorem zaf:bootBuiltins "sorted"=some (.builtin "sorted"):=by decide +kernel
theorem zn2:bootBuiltins "sum"=some (.builtin "sum"):=by decide +kernel
theorem zk2:bootBuiltins "all"=some (.builtin "all"):=by decide +kernel
theorem znl:bootBuiltins "any"=some (.builtin "any"):=by decide +kernel
theorem zek:bootBuiltins "int"=some (.type "int"):=by decide +kernel
theorem VP:bootBuiltins "bool"=some (.type "bool"):=by decide +kernel
theorem yB:bootBuiltins "tuple"=some (.type "tuple"):=by decide +kernel
theorem Xb:bootBuiltins "list"=some (.type "list"):=by decide +kernel
theorem zkF:bootBuiltins "str"=some (.type "str"):=by decide +kernel
theorem yP:bootBuiltins "enumerate"=some (.type "enumerate"):=by decide +kernel
theorem zow:bootBuiltins "zip"=some (.type "zip"):=by decide +kernel
theorem zmW:bootBuiltins "set"=some (.type "set"):=by decide +kernel
def vY (C:Int->Int->Bool)(g:Int->Int->Int):D->D->Option D
 | .int i,.int j=>if C i j=true then some (.int (g i j))else none
 | _,_=>none
def yG (g:Int->Int->Int):D->D->Option D
 | .int i,.int j=>some (.int (g i j))
 | _,_=>none
def Yd (g:Int->Int->Bool):D->D->Option D
 | .int i,.int j=>some (.bl (g i j))
 | _,_=>none
theorem Vg {C:Int->Int->Prop}{Cb:Int->Int->Bool}{g:Int->Int->Int}(h:∀ i j,Cb i j=true->C i j):OpD (rI C λi j=>.int (g i j)) (vY Cb g):=by
 intro F H x y d e z Q s ax ay ez q
 cases d <;> try cases ez
 cases e <;> try cases ez
 unfold vY at ez
 dsimp only at ez
 split at ez <;> cases ez
 rename_i hc
 exact⟨_,_,ax.int_inv,ay.int_inv,h _ _ hc,q F H _ (.refl s) .int⟩
theorem zcy {g:Int->Int->Int}:OpD (rI0 λi j=>.int (g i j)) (yG g):=by
 intro F H x y d e z Q s ax ay ez q
 cases d <;> try cases ez
 cases e <;> try cases ez
 exact⟨_,_,ax.int_inv,ay.int_inv,q F H _ (.refl s) .int⟩
theorem yk {g:Int->Int->Bool}:OpD (rI0 λi j=>.bl (g i j)) (Yd g):=by
 intro F H x y d e z Q s ax ay ez q
 cases d <;> try cases ez
 cases e <;> try cases ez
 exact⟨_,_,ax.int_inv,ay.int_inv,q F H _ (.refl s) .bl⟩
theorem zc0 {r r':R2}{g g':D->D->Option D}(h:OpD r g)(h':OpD r' g'):OpD (λx y H Q=>r x y H Q\/r' x y H Q) (λd e=>(g d e).or (g' d e)):=by
 intro F H x y d e z Q s ax ay ez q
 dsimp only at ez
 cases hg:g d e with
 | some z'=>rw[hg]at ez;cases ez;exact .inl (h F H x y d e z Q s ax ay hg q)
 | none=>rw[hg]at ez;exact .inr (h' F H x y d e z Q s ax ay ez q)
def zm4:D->D->Option D
 | .tup a,.tup b=>if lim (a.length+b.length)=true then some (.tup (a++b))else none
 | _,_=>none
def zlg:D->D->Option (List D)
 | .lst a,.lst b=>if lim (a.length+b.length)=true then some (a++b)else none
 | _,_=>none
def ziS (d e:D):Option D:=(zlg d e).map .lst
def zoF:D->D->Option D
 | .str a,.str b=>if lim (a.length+b.length)=true then some (.str (a++b))else none
 | _,_=>none
theorem zi5 {K:W.Frag}:OpD (zk4 K) zm4:=by
 intro F H x y d e z Q s ax ay ez q
 cases d <;> try cases ez
 cases e <;> try cases ez
 unfold zm4 at ez
 dsimp only at ez
 split at ez <;> cases ez
 rename_i hl
 obtain⟨p,xs,rfl,hx,al⟩:=ax.tup_inv
 obtain⟨p2,ys,rfl,hy,bl⟩:=ay.tup_inv
 refine⟨p,p2,xs,ys,rfl,rfl,SqT.of (s _ _ hx),SqT.of (s _ _ hy),by rw[al.length,bl.length];exact d7 hl,λe1=>?_,λ_ e2=>?_,λ_ _ r hr=>?_⟩
 .subst e1
  have:(_:List D)=[]:=u01.mp al.length.symm
  subst this
  exact q F H _ (.refl s) (.tup hy bl)
 .subst e2
  have:(_:List D)=[]:=u01.mp bl.length.symm
  subst this
  rw[u0l]at q
  exact q F H _ (.refl s) (.tup hx al)
 .have g:=Gr.alloc s hr (.tup (xs++ys))
  exact q _ _ _ g (.tup zt ((al.append bl).mono g.ff))
theorem zjd:OpD rCat ziS:=by
 intro F H x y d e z Q s ax ay ez q
 cases d <;> try cases ez
 cases e <;> try cases ez
 unfold ziS zlg at ez
 dsimp only at ez
 split at ez <;> cases ez
 rename_i hl
 obtain⟨p,xs,rfl,hx,al⟩:=ax.lst_inv
 obtain⟨p2,ys,rfl,hy,bl⟩:=ay.lst_inv
 refine⟨p,p2,xs,ys,rfl,rfl,s _ _ hx,s _ _ hy,by rw[al.length,bl.length];exact d7 hl,λr hr=>?_⟩
 have g:=Gr.alloc s hr (.lst (xs++ys))
 exact q _ _ _ g (.lst zt ((al.append bl).mono g.ff))
theorem zkb:OpD (λx y H Q=>∃ i j,x=.str i/\y=.str j/\i.length+j.length<=sizeLine/\Q (.str (i++j)) H) zoF:=by
 intro F H x y d e z Q s ax ay ez q
 cases d <;> try cases ez
 cases e <;> try cases ez
 unfold zoF at ez
 dsimp only at ez
 split at ez <;> cases ez
 rename_i hl
 exact⟨_,_,ax.str_inv,ay.str_inv,d7 hl,q F H _ (.refl s) .str⟩
def Yc:D->D->Option D
 | .int i,.int j=>some (.int (i+j))
 | .tup a,.tup b=>if lim (a.length+b.length)=true then some (.tup (a++b))else none
 | .lst a,.lst b=>if lim (a.length+b.length)=true then some (.lst (a++b))else none
 | .str a,.str b=>if lim (a.length+b.length)=true then some (.str (a++b))else none
 | _,_=>none
theorem zdY {r:R2}{g g':D->D->Option D}(h:OpD r g)(k:∀ d e z,g' d e=some z->g d e=some z):OpD r g':=λF H x y d e z Q s ax ay ez q=>h F H x y d e z Q s ax ay (k d e z ez) q
theorem xq {f h:Ev->Option D}(ha:ED X a f)(hb:ED X b h):ED X (.BinOp a .Add b pos) (zk Yc f h) :=
 zaX (((zoI.or zkx).or zn9).or zfA) (zdY (zc0 (zc0 (zc0 (zcy (g:=λi j=>i+j)) zi5) zjd) zkb) λd e z h=>by
  cases d <;> try cases h
  all_goals cases e <;> try cases h
  .rfl
  .unfold Yc at h;dsimp only at h;split at h <;> cases h;rename_i hl;simp[yG,zm4,hl,ziS,zlg,zoF]
  .unfold Yc at h;dsimp only at h;split at h <;> cases h;rename_i hl;simp[yG,zm4,hl,ziS,zlg,zoF]
  .unfold Yc at h;dsimp only at h;split at h <;> cases h;rename_i hl;simp[yG,zm4,hl,ziS,zlg,zoF]) ha hb
theorem zdo {F H F1 H1:Hp}{p:Addr}(g1:Gr F H F1 H1)(hp:H1 p=none):H p=none:=by
 cases e:H p with
 | none=>rfl
 | some o =>
  cases e2:F p with
  | none=>rw[(g1.kp p o e2 e).2]at hp;cases hp
  | some u=>rw[g1.fh _ _ (g1.ff _ _ e2)]at hp;cases hp
def zam (i j:Int):Bool:=decide ((-(2 ^ 64) < i/\i < 2 ^ 64)\/(-(2 ^ 64) < j/\j < 2 ^ 64))
def wK:D->D->Option (List D)
 | .lst a,.int k=>if -(2 ^ 63)<=k/\k < 2 ^ 63/\lim (a.length*k.toNat)=true then some (List.replicate k.toNat a).flatten else none
 | _,_=>none
def zjC (d e:D):Option D:=(wK d e).map .lst
def wd:D->D->Option D
 | .int i,.int j=>if zam i j=true then some (.int (i*j))else none
 | .lst a,.int k=>if -(2 ^ 63)<=k/\k < 2 ^ 63/\lim (a.length*k.toNat)=true then some (.lst (List.replicate k.toNat a).flatten)else none
 | _,_=>none
theorem zjt:OpD rRep zjC:=by
 intro F H x y d e z Q s ax ay ez q
 cases d <;> try cases ez
 cases e <;> try cases ez
 unfold zjC wK at ez
 dsimp only at ez
 split at ez <;> cases ez
 rename_i hl
 obtain⟨p,xs,rfl,hx,al⟩:=ax.lst_inv
 refine⟨p,_,xs,rfl,ay.int_inv,s _ _ hx,hl.1,hl.2.1,by rw[al.length];exact d7 hl.2.2,λr hr=>?_⟩
 rename_i ds k
 have g:=Gr.alloc s hr (.lst (List.replicate k.toNat xs).flatten)
 exact q _ _ _ g (.lst zt ((al.rep _).mono g.ff))
theorem WP {f h:Ev->Option D}(ha:ED X a f)(hb:ED X b h):ED X (.BinOp a .Mult b pos) (zk wd f h) :=
 zaX (zoO.or znc) (zdY (zc0 (Vg (Cb:=zam) (g:=λi j=>i*j) λi j h=>by have h':=d7 (show decide ((-(2 ^ 64) < i/\i < 2 ^ 64)\/(-(2 ^ 64) < j/\j < 2 ^ 64))=true from h);exact h') zjt) λd e z h=>by
  cases d <;> try cases h
  all_goals cases e <;> try cases h
  .unfold wd at h;dsimp only at h;split at h <;> cases h;rename_i hl;simp[vY,hl]
  .unfold wd at h;dsimp only at h;split at h <;> cases h;rename_i hl;show(zjC _ _)=_;unfold zjC wK;dsimp only;rw[t4 hl];rfl) ha hb
def vg:=yG λi j=>i - j
def yh:=vY (λ_ j=>decide (0 < j/\j < 1606938044258990275541962092341162602522202993782792835301376)) λi j=>i / j
def yO:=vY (λ_ j=>decide (0 < j)) λi j=>i % j
def zmJ:=vY (λ_ j=>decide (0<=j)) λi j=>i / 2 ^ j.toNat
theorem WL {f h:Ev->Option D}(ha:ED X a f)(hb:ED X b h):ED X (.BinOp a .Sub b pos) (zk vg f h):=zaX zm7 zcy ha hb
theorem zjL:OpR X (binaryOp .FloorDiv) (rI (λ_ j=>0 < j/\j < 1606938044258990275541962092341162602522202993782792835301376) λi j=>.int (i / j)):=opI λi j _ _ _ _ _ hc q=>by
 have h1:(0:Int) < j:=hc.1
 have h2:j < 1606938044258990275541962092341162602522202993782792835301376:=hc.2
 refine PyProof.Rows.floordiv_int (by omega) (by rw[u29 i (by omega)];exact q) (.inl (PyProof.noPylong_of_log2 ?_))
 have h0:j.natAbs≠0:=by omega
 have h3:j.natAbs < 1606938044258990275541962092341162602522202993782792835301376:=by omega
 have h4:j.natAbs.log2 < 200:=(Nat.log2_lt h0).mpr h3
 omega
theorem Z9 {f h:Ev->Option D}(ha:ED X a f)(hb:ED X b h):ED X (.BinOp a .FloorDiv b pos) (zk yh f h):=zaX zjL (Vg λ_ _ h=>by have h':=d7 h;exact h') ha hb
theorem wj {f h:Ev->Option D}(ha:ED X a f)(hb:ED X b h):ED X (.BinOp a .Mod b pos) (zk yO f h):=zaX znJ (Vg λ_ _ h=>by have h':=d7 h;exact h') ha hb
theorem znW {f h:Ev->Option D}(ha:ED X a f)(hb:ED X b h):ED X (.BinOp a .RShift b pos) (zk zmJ f h):=zaX znS (Vg λ_ _ h=>by have h':=d7 h;exact h') ha hb
def ltD:=Yd λi j=>decide (i < j)
def leD:=Yd λi j=>decide (i<=j)
def gtD:=Yd λi j=>decide (j < i)
def geD:=Yd λi j=>decide (j<=i)
def eqS:D->D->Option Bool
 | .non,.non=>some true
 | .int i,.int j=>some (decide (i=j))
 | .bl i,.bl j=>some (decide (i=j))
 | .str i,.str j=>some (decide (i=j))
 | .non,.int _=>some false | .int _,.non=>some false | .non,.bl _=>some false | .bl _,.non=>some false | .non,.str _=>some false | .str _,.non=>some false
 | .int _,.str _=>some false | .str _,.int _=>some false | .bl _,.str _=>some false | .str _,.bl _=>some false
 | _,_=>none
def eqD (d e:D):Option D:=(eqS d e).map .bl
def neD (d e:D):Option D:=(eqS d e).map λc=>.bl (!c)
theorem zkV:OpD rEq eqD:=by
 intro F H x y d e z Q s ax ay ez q
 obtain⟨c,e1,rfl⟩:=u8.mp ez
 cases d <;> cases e <;> try cases e1
 .cases ax.non_inv;cases ay.non_inv;exact⟨rfl,q F H _ (.refl s) .bl⟩
 .cases ax.non_inv;cases ay.bl_inv;exact⟨rfl,q F H _ (.refl s) .bl⟩
 .cases ax.non_inv;cases ay.int_inv;exact⟨rfl,q F H _ (.refl s) .bl⟩
 .cases ax.non_inv;cases ay.str_inv;exact⟨rfl,q F H _ (.refl s) .bl⟩
 .cases ax.bl_inv;cases ay.non_inv;exact⟨rfl,q F H _ (.refl s) .bl⟩
 .cases ax.bl_inv;cases ay.bl_inv;refine⟨rfl,?_⟩;rw[show ∀ i j:Bool,decide (V.bl i=V.bl j)=decide (i=j)from λi j=>by simp];exact q F H _ (.refl s) .bl
 .cases ax.bl_inv;cases ay.str_inv;exact⟨rfl,q F H _ (.refl s) .bl⟩
 .cases ax.int_inv;cases ay.non_inv;exact⟨rfl,q F H _ (.refl s) .bl⟩
 .cases ax.int_inv;cases ay.int_inv;refine⟨rfl,?_⟩;rw[show ∀ i j:Int,decide (V.int i=V.int j)=decide (i=j)from λi j=>by simp];exact q F H _ (.refl s) .bl
 .cases ax.int_inv;cases ay.str_inv;exact⟨rfl,q F H _ (.refl s) .bl⟩
 .cases ax.str_inv;cases ay.non_inv;exact⟨rfl,q F H _ (.refl s) .bl⟩
 .cases ax.str_inv;cases ay.bl_inv;exact⟨rfl,q F H _ (.refl s) .bl⟩
 .cases ax.str_inv;cases ay.int_inv;exact⟨rfl,q F H _ (.refl s) .bl⟩
 .cases ax.str_inv;cases ay.str_inv;refine⟨rfl,?_⟩;rw[show ∀ i j:Str,decide (V.str i=V.str j)=decide (i=j)from λi j=>by simp];exact q F H _ (.refl s) .bl
theorem Xx:OpD rNe neD:=by
 intro F H x y d e z Q s ax ay ez q
 obtain⟨c,e1,rfl⟩:=u8.mp ez
 have:=zkV F H x y d e (.bl c) (λv H'=>∃ b,v=.bl b/\Q (.bl (!b)) H') s ax ay (by unfold eqD;rw[e1];rfl) λF' H' v g av=>⟨c,av.bl_inv,q F' H' _ g .bl⟩
 obtain⟨h1,b,h2,h3⟩:=this
 cases h2
 exact⟨h1,h3⟩
def Yq:D->D->Option D
 | d,.non=>some (.bl (match d with | .non=>true | _=>false))
 | .bl a,.bl b=>some (.bl (a == b))
 | _,_=>none
def zC:D->D->Option D
 | d,.non=>some (.bl (match d with | .non=>false | _=>true))
 | .bl a,.bl b=>some (.bl (!(a == b)))
 | _,_=>none
theorem zgv {F:Hp}{d:D}{x:V}(h:At F d x):decide (x=V.non)=(match d with | .non=>true | _=>false):=by
 cases d with
 | non=>cases h.non_inv;rfl
 | bl b=>cases h.bl_inv;rfl
 | int b=>cases h.int_inv;rfl
 | str b=>cases h.str_inv;rfl
 | tup ds=>obtain⟨a,xs,rfl,_⟩:=h.tup_inv;rfl
 | lst ds=>obtain⟨a,xs,rfl,_⟩:=h.lst_inv;rfl
 | scr ds=>obtain⟨a,rfl,_⟩:=h.scr_inv;rfl
 | dct z t ks vs=>obtain⟨a,xs,rfl,_⟩:=h.dct_inv;rfl
theorem zhL:OpD (λx y H Q=>(y=.non/\Q (.bl (decide (x=.non))) H)\/∃ i j,x=.bl i/\y=.bl j/\Q (.bl (i == j)) H) Yq:=by
 intro F H x y d e z Q s ax ay ez q
 unfold Yq at ez
 split at ez
 .cases ez
  refine .inl ⟨ay.non_inv,?_⟩
  rw[zgv ax]
  have:=q F H _ (.refl s) .bl
  cases d <;> exact this
 .cases ez
  exact .inr ⟨_,_,ax.bl_inv,ay.bl_inv,q F H _ (.refl s) .bl⟩
 .cases ez
theorem YE:OpD (λx y H Q=>(y=.non/\Q (.bl (!decide (x=.non))) H)\/∃ i j,x=.bl i/\y=.bl j/\Q (.bl (!(i == j))) H) zC:=by
 intro F H x y d e z Q s ax ay ez q
 unfold zC at ez
 split at ez
 .cases ez
  refine .inl ⟨ay.non_inv,?_⟩
  rw[zgv ax]
  have:=q F H _ (.refl s) .bl
  cases d <;> exact this
 .cases ez
  exact .inr ⟨_,_,ax.bl_inv,ay.bl_inv,q F H _ (.refl s) .bl⟩
 .cases ez
theorem zk0:OpR X (compareOp .Is) (λx y H Q=>(y=.non/\Q (.bl (decide (x=.non))) H)\/∃ i j,x=.bl i/\y=.bl j/\Q (.bl (i == j)) H):=zoH.or zkw
theorem ZD:OpR X (compareOp .IsNot) (λx y H Q=>(y=.non/\Q (.bl (!decide (x=.non))) H)\/∃ i j,x=.bl i/\y=.bl j/\Q (.bl (!(i == j))) H):=zmB.or zdM
def zV (g g':D->D->Option D)(f h k:Ev->Option D):Ev->Option D:=fun ρ=>(f ρ).bind λx=>(h ρ).bind λy=>((g x y).bind asB).bind λc=>if c=true then (k ρ).bind λz=>g' y z else some (.bl false)
theorem zj5 {r r':R2}{g g':D->D->Option D}{ta tb tc:TE}{f h k:Ev->Option D}(hg:OpD r g)(hg':OpD r' g')(ra:RE ta f)(rb:RE tb h)(rc:RE tc k):RE (ziJ r r' ta tb tc) (zV g g' f h k):=by
 intro σ ρ F H z Q s va e q
 obtain⟨x,e1,e⟩:=u5.mp e
 obtain⟨y,e2,e⟩:=u5.mp e
 obtain⟨c,e3,e⟩:=u5.mp e
 obtain⟨cd,e3,e4⟩:=u5.mp e3
 cases Vn e4
 refine ra σ ρ F H x _ s va e1 λF1 H1 v g1 a1=>?_
 refine rb σ ρ F1 H1 y _ g1.fh (va.mono g1.ff) e2 λF2 H2 u g2 a2=>?_
 refine hg F2 H2 v u x y _ _ g2.fh (a1.mono g2.ff) a2 e3 λF3 H3 w g3 a3=>⟨c,a3.bl_inv,?_⟩
 have g123:=(g1.trans g2).trans g3
 cases c with
 | true =>
  rw[t4 rfl]at e ⊢
  obtain⟨z',e5,e6⟩:=u5.mp e
  refine rc σ ρ F3 H3 z' _ g3.fh (va.mono g123.ff) e5 λF4 H4 w4 g4 a4=>?_
  exact hg' F4 H4 u w4 y z' z Q g4.fh (a2.mono (g3.ff.trans g4.ff)) a4 e6 λF5 H5 w5 g5 a5=>q F5 H5 w5 ((g123.trans g4).trans g5) a5
 | false =>
  rw[j4 u9]at e ⊢
  cases e
  exact q F3 H3 _ g123 .bl
theorem zke {op op':CmpOp}{r r':R2}{g g':D->D->Option D}{f h k:Ev->Option D}(ho:OpR X (compareOp op) r)(ho':OpR X (compareOp op') r')(hg:OpD r g)(hg':OpD r' g')(ha:ED X a f)(hb:ED X b h)(hc:ED X c k)
 (pch:∀ {ta tb tc:TE},PE X a ta->PE X b tb->PE X c tc->PE X (.Compare a [op,op'] [b,c] pos) (ziJ r r' ta tb tc)):ED X (.Compare a [op,op'] [b,c] pos) (zV g g' f h k) :=
 let ⟨_,pa,ra⟩:=ha
 let ⟨_,pb,rb⟩:=hb
 let ⟨_,pc,rc⟩:=hc
 ⟨_,pch pa pb pc,zj5 hg hg' ra rb rc⟩
def zeW:List D->Option (List Int)
 | []=>some []
 | .int b::ds=>(zeW ds).map (b::·)
 | _=>none
omit [KK] in
theorem VV:∀ {ds:List D} {bs:List Int},zeW ds=some bs->ds=bs.map .int
 | [],bs,h=>by cases h;rfl
 | d::ds,bs,h=>by
  cases d <;> try cases h
  obtain⟨cs,h1,rfl⟩:=u8.mp h
  rw[VV h1]
  rfl
def leT:D->D->Option D
 | .tup a,.tup b=>(zeW a).bind λns=>(zeW b).map λms=>.bl (HT.lexLe ns ms)
 | _,_=>none
theorem zhT {K:W.Frag}:OpD (rLeT K) leT:=by
 intro F H x y d e z Q s ax ay ez q
 cases d <;> try cases ez
 cases e <;> try cases ez
 obtain⟨ns,e1,e2⟩:=u5.mp ez
 obtain⟨ms,e3,rfl⟩:=u8.mp e2
 rw[VV e1]at ax
 rw[VV e3]at ay
 obtain⟨p,xs,rfl,hx,al⟩:=ax.tup_inv
 obtain⟨p2,ys,rfl,hy,bl⟩:=ay.tup_inv
 cases al.of_ints
 cases bl.of_ints
 exact⟨p,p2,ns,ms,rfl,rfl,SqT.of (s _ _ hx),SqT.of (s _ _ hy),q F H _ (.refl s) .bl⟩
def ixD:D->D->Option D
 | .lst ds,.int i=>atI ds i
 | .tup ds,.int i=>atI ds i
 | .scr ns,.int i=>(atI ns i).map .int
 | _,_=>none
theorem AtL.atI {F:Hp}{ds:List D}{xs:List V}{i:Int}{d:D}(al:AtL F ds xs)(h:L2.atI ds i=some d):∃ x,L2.atI xs i=some x/\At F d x:=by
 unfold L2.atI at h ⊢
 obtain⟨j,e1,e2⟩:=u5.mp h
 obtain⟨x,hx,ax⟩:=al.get e2
 exact⟨x,by rw[al.length,e1];exact hx,ax⟩
theorem zol:OpD (rIx KK.K) ixD:=by
 intro F H x y d e z Q s ax ay ez q
 cases e <;> try (cases d <;> cases ez)
 cases ay.int_inv
 cases d with
 | lst ds =>
  obtain⟨p,xs,rfl,hx,al⟩:=ax.lst_inv
  obtain⟨v,e1,av⟩:=al.atI ez
  exact .inl ⟨p,xs,_,v,rfl,rfl,SqL.of (s _ _ hx),e1,q F H _ (.refl s) av⟩
 | tup ds =>
  obtain⟨p,xs,rfl,hx,al⟩:=ax.tup_inv
  obtain⟨v,e1,av⟩:=al.atI ez
  exact .inr (.inl ⟨p,xs,_,v,rfl,rfl,SqT.of (s _ _ hx),e1,q F H _ (.refl s) av⟩)
 | scr ns =>
  obtain⟨p,rfl,hx⟩:=ax.scr_inv
  obtain⟨n,e1,rfl⟩:=u8.mp ez
  refine .inl ⟨p,ns.map V.int,_,.int n,rfl,rfl,s.seq hx,?_,q F H _ (.refl s) .int⟩
  unfold L2.atI at e1 ⊢
  rw[u6]
  obtain⟨j,e2,e3⟩:=u5.mp e1
  rw[e2]
  show(ns.map V.int)[j]?=_
  rw[j5,e3]
  rfl
 | _=>cases ez
theorem zL {f h:Ev->Option D}(ha:ED X a f)(hb:ED X b h)(hs:zij b)(hK:X.K=KK.K:=by rfl):ED X (.Subscript a b pos) (zk ixD f h) :=
 let ⟨_,pa,ra⟩:=ha
 let ⟨_,pb,rb⟩:=hb
 ⟨_,zpQ zoD pa pb hs,zjF (by rw[hK];exact zol) ra rb⟩
def zb5 {α:Type}(xs:List α)(lo hi:Option Int):List α:=(xs.drop (HT.sIx xs.length 0 lo)).take (HT.sIx xs.length xs.length hi - HT.sIx xs.length 0 lo)
theorem AtL.cut {F:Hp}{ds:List D}{xs:List V}{lo hi:Option Int}(al:AtL F ds xs):AtL F (zb5 ds lo hi) (zdm xs lo hi):=by
 unfold zb5 zdm
 rw[al.length]
 exact(al.drop _).take _
def OD (X:Cx)(e:Option Expr)(f:Ev->Option (Option Int)):Prop:=∃ t,PO X e t/\∀ (σ:St) (ρ:Ev) (F H:Hp) (i:Option Int) (Q:Option Int->Hp->Prop),xa F H->VAt F ρ σ->f ρ=some i->(∀ F' H',Gr F H F' H'->Q i H')->t σ H Q
def ym:Ev->Option (Option Int):=λ_=>some none
def asI:D->Option Int
 | .int i=>some i
 | _=>none
def yj (f:Ev->Option D):Ev->Option (Option Int):=fun ρ=>((f ρ).bind asI).map some
theorem YS:OD X none ym:=⟨_,zmy,λ_ _ _ _ _ _ s _ e q=>by cases e;exact q _ _ (.refl s)⟩
theorem Za {f:Ev->Option D}(h:ED X e f):OD X (some e) (yj f):=by
 obtain⟨t,p,r⟩:=h
 refine⟨_,zlL p,fun σ ρ F H i Q s va e q=>?_⟩
 obtain⟨j,e1,rfl⟩:=u8.mp e
 obtain⟨d,e1,e2⟩:=u5.mp e1
 cases d <;> cases e2
 exact r σ ρ F H _ _ s va e1 λF1 H1 v g1 a1=>⟨_,a1.int_inv,q F1 H1 g1⟩
def slD:D->Option Int->Option Int->Option D
 | .lst ds,lo,hi=>some (.lst (zb5 ds lo hi))
 | .scr ns,lo,hi=>some (.lst ((zb5 ns lo hi).map .int))
 | .tup ds,lo,hi=>some (.tup (zb5 ds lo hi))
 | _,_,_=>none
def eSl (g:D->Option Int->Option Int->Option D)(f:Ev->Option D)(l h:Ev->Option (Option Int)):Ev->Option D:=fun ρ=>(f ρ).bind λd=>(l ρ).bind λlo=>(h ρ).bind λhi=>g d lo hi
omit [KK] in
theorem zi2 {ns:List Int}{lo hi:Option Int}:zdm (ns.map V.int) lo hi=(zb5 ns lo hi).map V.int:=by
 unfold zdm zb5
 rw[u6,List.map_take,List.map_drop]
end
end Dl
namespace L2
open PySem PySem.Spec PyProof.Rows
def rSlN:V->Option Int->Option Int->Hp->VK->Prop:=λx lo hi H Q=>∃ a xs,x=.ref a/\H a=some (.tup xs)/\(zdm xs lo hi=xs->Q (.ref a) H)/\∀ p,H p=none->Q (.ref p) (upd H p (.tup (zdm xs lo hi)))
theorem zmk {X:Cx}:SlR X rSlN:=by
 intro pins s σ H x v vl vu lo hi sl Q I rx hs pl pu h
 obtain⟨a,xs,rfl,hx,q1,q2⟩:=h
 by_cases hw:HT.sIx xs.length 0 lo=0/\HT.sIx xs.length xs.length hi=xs.length
 .cases rx
  obtain⟨its,r,ht,hz⟩:=I.tuple (SqT.of hx)
  have hlen:its.toArray.size=xs.length:=by rw[t7];exact r.length.symm
  refine⟨"tuple",_,u0z.lookup,ht.typeIs,?_⟩
  refine HT.own_getItem_whole ht hs pl pu (by rw[hlen];exact hw) ⟨.ref a,H,I,rfl,q1 ?_⟩
  unfold zdm
  rw[hw.1,hw.2,u4a,Nat.sub_zero,u0W]
 .exact znC pins s σ H (.ref a) v vl vu lo hi sl Q I rx hs pl pu ⟨a,xs,rfl,SqT.of hx,hw,q2⟩
end L2
namespace Dl
open PySem L2
variable [KK]
section
variable {X:Cx}{a b c e:Expr}{pos:Pos}
theorem vy {lo hi:Option Expr}{p2:Pos}{f:Ev->Option D}{l h:Ev->Option (Option Int)}(ha:ED X a f)(hl:OD X lo l)(hh:OD X hi h)(hK:X.K=KK.K:=by rfl):ED X (.Subscript a (.Slice lo hi none p2) pos) (eSl slD f l h):=by
 obtain⟨ta,pa,ra⟩:=ha
 obtain⟨tl,ppl,rl⟩:=hl
 obtain⟨th,ph,rh⟩:=hh
 refine⟨_,zjK (zlB.or zmk) pa ppl ph,fun σ ρ F H z Q s va e q=>?_⟩
 obtain⟨d,e1,e⟩:=u5.mp e
 obtain⟨i,e2,e⟩:=u5.mp e
 obtain⟨j,e3,e⟩:=u5.mp e
 refine ra σ ρ F H d _ s va e1 λF1 H1 v g1 a1=>?_
 refine rl σ ρ F1 H1 i _ g1.fh (va.mono g1.ff) e2 λF2 H2 g2=>?_
 refine rh σ ρ F2 H2 j _ g2.fh (va.mono (g1.ff.trans g2.ff)) e3 λF3 H3 g3=>?_
 have g123:=(g1.trans g2).trans g3
 have a3:=a1.mono (g2.ff.trans g3.ff)
 cases d <;> try cases e
 .obtain⟨p,xs,rfl,hx,al⟩:=a3.tup_inv
  refine .inr ⟨p,xs,rfl,g3.fh _ _ hx,λec=>?_,λr hr=>?_⟩
  .have:=al.cut (lo:=i) (hi:=j)
   rw[ec]at this
   exact q F3 H3 _ g123 (.tup hx this)
  .have g:=Gr.alloc g3.fh hr (.tup (zdm xs i j))
   exact q _ _ _ (g123.trans g) (.tup zt (al.cut.mono g.ff))
 .obtain⟨p,xs,rfl,hx,al⟩:=a3.lst_inv
  refine .inl ⟨p,xs,rfl,SqL.of (g3.fh _ _ hx),λr hr=>?_⟩
  have g:=Gr.alloc g3.fh hr (.lst (zdm xs i j))
  exact q _ _ _ (g123.trans g) (.lst zt (al.cut.mono g.ff))
 .rename_i ns _ _
  obtain⟨p,rfl,hx⟩:=a3.scr_inv
  refine .inl ⟨p,_,rfl,(by rw[hK];exact g3.fh.seq hx),λr hr=>?_⟩
  rw[zi2]
  have g:=Gr.alloc g3.fh hr (.lst ((zb5 ns i j).map V.int))
  exact q _ _ _ (g123.trans g) (.lst zt (.ints _))
def CaD (r:List V->Hp->VK->Prop)(g:List D->Option D):Prop:=∀ (F H:Hp) (vs:List V) (ds:List D) (z:D) (Q:VK),xa F H->AtL F ds vs->g ds=some z->(∀ F' H' v,Gr F H F' H'->At F' z v->Q v H')->r vs H Q
def eFn (g:List D->Option D)(f:Ev->Option (List D)):Ev->Option D:=fun ρ=>(f ρ).bind g
def fFn (g:List D->Option (List D))(f:Ev->Option (List D)):Ev->Option (List D):=fun ρ=>(f ρ).bind g
theorem zU {x:Str}{id:String}{p:Pos}{es:List Expr}{r:List V->Hp->VK->Prop}{g:List D->Option D}{f:Ev->Option (List D)}(hc:Y2 X (.builtin id) r)(hg:CaD r g)(hgl:Gl X x)(hm:X.mg x=none)(hv:bootBuiltins x=some (.builtin id))(ha:AD X (e::es) f)
 (hn:x≠"__name__":=by decide) (hdb:(x == ("__debug__":Str))=false:=by decide) (he:starEach (e::es) X.env=(false,eval e X.env)::starEach es X.env:=by rfl) (hpl:(backTo pos (starEach es X.env)).any (·.1)=false:=by rfl) :
 ED X (.Call (.Name x p) (e::es) [] pos) (eFn g f):=by
 obtain⟨t,pa,ra⟩:=ha
 refine⟨_,Vk hc hgl hm hv pa hn hdb he hpl,fun σ ρ F H z Q s va e q=>?_⟩
 obtain⟨ds,e1,e2⟩:=u5.mp e
 refine ra σ ρ F H ds _ s va e1 λF1 H1 vs g1 a1=>?_
 exact hg F1 H1 vs ds z Q g1.fh a1 e2 λF' H' v g av=>q F' H' v (g1.trans g) av
theorem wL {x:Str}{T:String}{p:Pos}{es:List Expr}{r:List V->Hp->VK->Prop}{g:List D->Option D}{f:Ev->Option (List D)}(hc:Y2 X (.type T) r)(hg:CaD r g)(hgl:Gl X x)(hm:X.mg x=none)(hv:bootBuiltins x=some (.type T))(ha:AD X (e::es) f)
 (hn:x≠"__name__":=by decide) (hdb:(x == ("__debug__":Str))=false:=by decide) (he:starEach (e::es) X.env=(false,eval e X.env)::starEach es X.env:=by rfl) (hpl:(backTo pos (starEach es X.env)).any (·.1)=false:=by rfl) :
 ED X (.Call (.Name x p) (e::es) [] pos) (eFn g f):=by
 obtain⟨t,pa,ra⟩:=ha
 refine⟨_,VI hc hgl hm hv pa hn hdb he hpl,fun σ ρ F H z Q s va e q=>?_⟩
 obtain⟨ds,e1,e2⟩:=u5.mp e
 refine ra σ ρ F H ds _ s va e1 λF1 H1 vs g1 a1=>?_
 exact hg F1 H1 vs ds z Q g1.fh a1 e2 λF' H' v g av=>q F' H' v (g1.trans g) av
def we:List D->Option D
 | [.lst ds]=>some (.int ds.length)
 | [.tup ds]=>some (.int ds.length)
 | [.scr ds]=>some (.int ds.length)
 | _=>none
theorem x6:CaD (λxs H Q=>∃ p ys,xs=[.ref p]/\(SqL KK.K H p ys\/SqT KK.K H p ys)/\Q (.int ys.length) H) we:=by
 intro F H vs ds z Q s al e q
 unfold we at e
 split at e <;> cases e
 all_goals
  obtain⟨x,r,rfl,ax,ar⟩:=al.cons_inv
  cases ar.nil_inv
 .obtain⟨p,xs,rfl,hx,bl⟩:=ax.lst_inv
  exact⟨p,xs,rfl,.inl (SqL.of (s _ _ hx)),by rw[bl.length];exact q F H _ (.refl s) .int⟩
 .obtain⟨p,xs,rfl,hx,bl⟩:=ax.tup_inv
  exact⟨p,xs,rfl,.inr (SqT.of (s _ _ hx)),by rw[bl.length];exact q F H _ (.refl s) .int⟩
 .obtain⟨p,rfl,hx⟩:=ax.scr_inv
  exact⟨p,_,rfl,.inl ((s.seq hx)),by rw[u6];exact q F H _ (.refl s) .int⟩
def znF:List D->Option D
 | [.int i,.int j]=>some (.int (if j > i then j else i))
 | _=>none
def zjD:List D->Option D
 | [.int i,.int j]=>some (.int (if j < i then j else i))
 | _=>none
theorem zeD {g:Int->Int->Int}:CaD (λxs H Q=>∃ i j,xs=[.int i,.int j]/\Q (.int (g i j)) H) (λds=>match ds with | [.int i,.int j]=>some (.int (g i j)) | _=>none):=by
 intro F H vs ds z Q s al e q
 dsimp only at e
 split at e <;> cases e
 obtain⟨x,r,rfl,ax,ar⟩:=al.cons_inv
 obtain⟨y,r,rfl,ay,ar⟩:=ar.cons_inv
 cases ar.nil_inv
 exact⟨_,_,by rw[ax.int_inv,ay.int_inv],q F H _ (.refl s) .int⟩
theorem zkz:CaD (λxs H Q=>∃ i j,xs=[.int i,.int j]/\Q (.int (if j > i then j else i)) H) znF:=zeD (g:=λi j=>if j > i then j else i)
theorem zeK:CaD (λxs H Q=>∃ i j,xs=[.int i,.int j]/\Q (.int (if j < i then j else i)) H) zjD:=zeD (g:=λi j=>if j < i then j else i)
def zH:List D->Option D
 | [.lst ds]=>some (.tup ds)
 | [.tup ds]=>some (.tup ds)
 | _=>none
theorem wP {K:W.Frag}:CaD (λxs H Q=>∃ p ys,xs=[.ref p]/\((SqL K H p ys/\∀ l,H l=none->Q (.ref l) (upd H l (.tup ys)))\/(SqT K H p ys/\Q (.ref p) H))) zH:=by
 intro F H vs ds z Q s al e q
 unfold zH at e
 split at e <;> cases e
 all_goals
  obtain⟨x,r,rfl,ax,ar⟩:=al.cons_inv
  cases ar.nil_inv
 .obtain⟨p,xs,rfl,hx,bl⟩:=ax.lst_inv
  refine⟨p,xs,rfl,.inl ⟨SqL.of (s _ _ hx),λl hl=>?_⟩⟩
  have g:=Gr.alloc s hl (.tup xs)
  exact q _ _ _ g (.tup zt (bl.mono g.ff))
 .obtain⟨p,xs,rfl,hx,bl⟩:=ax.tup_inv
  exact⟨p,xs,rfl,.inr ⟨SqT.of (s _ _ hx),q F H _ (.refl s) (.tup hx bl)⟩⟩
def yq:List D->Option (List D)
 | [.lst ds]=>some ds
 | [.tup ds]=>some ds
 | [.scr ns]=>some (ns.map .int)
 | _=>none
theorem WF {p:Pos} {f:Ev->Option (List D)} (hgl:Gl X "list") (hm:X.mg "list"=none) (ha:AD X [e] f) (hK:X.K=KK.K:=by rfl)
 (he:starEach [e] X.env=(false,eval e X.env)::starEach [] X.env:=by rfl) (hpl:(backTo pos (starEach [] X.env)).any (·.1)=false:=by rfl):FL X (.Call (.Name "list" p) [e] [] pos) (fFn yq f):=by
 obtain⟨t,pa,ra⟩:=ha
 refine⟨_,VI zcc hgl hm Xb pa (by decide) (by decide) he hpl,fun σ ρ F H z Q s va e q=>?_⟩
 obtain⟨ds,e1,e2⟩:=u5.mp e
 refine ra σ ρ F H ds _ s va e1 λF1 H1 vs g1 a1=>?_
 unfold yq at e2
 split at e2 <;> cases e2
 all_goals
  obtain⟨x,r,rfl,ax,ar⟩:=a1.cons_inv
  cases ar.nil_inv
 .obtain⟨p,xs,rfl,hx,bl⟩:=ax.lst_inv
  exact⟨p,xs,rfl,.inl (SqL.of (g1.fh _ _ hx)),λl hl=>q _ _ _ _ (g1.trans (Gr.hide g1.fh hl _)) (zdo g1 hl) (g1.fh.free hl) zt bl⟩
 .obtain⟨p,xs,rfl,hx,bl⟩:=ax.tup_inv
  exact⟨p,xs,rfl,.inr (SqT.of (g1.fh _ _ hx)),λl hl=>q _ _ _ _ (g1.trans (Gr.hide g1.fh hl _)) (zdo g1 hl) (g1.fh.free hl) zt bl⟩
 .obtain⟨p,rfl,hx⟩:=ax.scr_inv
  exact⟨p,_,rfl,.inl (by rw[hK];exact g1.fh.seq hx),λl hl=>q _ _ _ _ (g1.trans (Gr.hide g1.fh hl _)) (zdo g1 hl) (g1.fh.free hl) zt (.ints _)⟩
inductive TyD (K:W.Frag) (H:Hp):V->Value->Prop where
 | of {v:V} {t:Value} (h:zei K H v t):TyD K H v t
 | dd {a:Addr} {u:HO} (h:Rd H a u) (d:(∃ kvs,u=.dK kvs)\/∃ kvs,u=.dT kvs):TyD K H (.ref a) (.type "dict")
theorem zca {X:Cx}:Y2 X (.builtin "isinstance") (λxs H Q=>∃ x n t b,xs=[x,.ty n]/\TyD X.K H x t/\W.kitOne X.K t (.type n)=some b/\Q (.bl b) H):=by
 intro pins s σ H xs us Q I r h
 obtain⟨x,n,t,b,rfl,ty,e,q⟩:=h
 cases ty with
 | of ty=>exact zdH pins s σ H _ us Q I r ⟨x,n,t,b,rfl,ty,e,q⟩
 | @dd a u h d =>
  cases r with
  | cons r1 r2 =>
   cases r2 with
   | cons r3 r4 =>
    cases r4
    cases r1
    cases r3
    have ok:=h.ok I.hok
    rcases d with ⟨kvs,rfl⟩ | ⟨kvs,rfl⟩
    .obtain⟨_,_,vs,_,p⟩:=(show yY X.prog X.w H s.heap a (.dK kvs)from ok)
     obtain⟨o,es,ep,h1,h2,_⟩:=p
     exact u0E u2w I.kIn ⟨o,h1,h2.1⟩ e (λz=>nomatch z) λtk=>⟨.bl b,H,I.tok tk,rfl,q⟩
    .obtain⟨_,_,xs,_,o,es,ep,h1,h2,_⟩:=(show yY X.prog X.w H s.heap a (.dT kvs)from ok)
     exact u0E u2w I.kIn ⟨o,h1,h2.1⟩ e (λz=>nomatch z) λtk=>⟨.bl b,H,I.tok tk,rfl,q⟩
theorem At.ty {K:W.Frag}{F H:Hp}(s:xa F H):∀ {d:D} {v:V},At F d v->(∀ ns,d≠.scr ns)->TyD K H v (.type (tyN d))
 | .non,_,h,_=>by cases h.non_inv;exact .of .non
 | .bl b,_,h,_=>by cases h.bl_inv;exact .of (.bl b)
 | .int i,_,h,_=>by cases h.int_inv;exact .of (.int i)
 | .str x,_,h,_=>by cases h.str_inv;exact .of (.str x)
 | .tup ds,_,h,_=>by obtain⟨a,xs,rfl,e,_⟩:=h.tup_inv;exact .of (.tup (s _ _ e))
 | .lst ds,_,h,_=>by obtain⟨a,xs,rfl,e,_⟩:=h.lst_inv;exact .of (.lst (s _ _ e))
 | .scr ns,_,_,n=>absurd rfl (n ns)
 | .dct z t ks vs,_,h,_=>by
  obtain⟨a,xs,rfl,d,_⟩:=h.dct_inv
  obtain⟨u,e1,e2⟩:=(d.mono s).rd
  exact .dd e2 (by
   unfold zas at e1
   split at e1
   .obtain⟨kvs,rfl,_⟩:=e1;exact .inr ⟨kvs,rfl⟩
   .obtain⟨kvs,rfl,_⟩:=e1;exact .inl ⟨kvs,rfl⟩)
inductive Ty where
 | int | bool | tuple | list | str
def Ty.nm:Ty->String
 | .int=>"int" | .bool=>"bool" | .tuple=>"tuple" | .list=>"list" | .str=>"str"
def isT:Ty->D->Bool
 | .int,.int _=>true | .int,.bl _=>true
 | .bool,.bl _=>true
 | .tuple,.tup _=>true
 | .list,.lst _=>true
 | .str,.str _=>true
 | _,_=>false
def zT (n:Ty):D->Option D
 | .scr _=>none
 | d=>some (.bl (isT n d))
theorem znk (K:W.Frag)(n:Ty)(d:D)(h:∀ ns,d≠.scr ns):W.kitOne K (.type (tyN d)) (.type n.nm)=some (isT n d):=by
 cases n <;> cases d <;> first | exact absurd rfl (h _) | kernel_rfl
theorem zK {p:Pos} {f:Ev->Option D} (n:Ty) (hgl:Gl X "isinstance") (hm:X.mg "isinstance"=none) (ha:ED X a f) (hb:PE X b (tC (.ty n.nm)))
 (hs:starEach [a,b] X.env=(false,eval a X.env)::starEach [b] X.env:=by rfl) (hs2:starEach [b] X.env=(false,eval b X.env)::starEach [] X.env:=by rfl) (hpl:(backTo pos (starEach [b] X.env)).any (·.1)=false:=by rfl) :
 ED X (.Call (.Name "isinstance" p) [a,b] [] pos) (eUn (zT n) f):=by
 obtain⟨t,pa,ra⟩:=ha
 refine⟨_,Vk zca hgl hm zb0 (Vt pa (Vt hb zer hs2) hs) (by decide) (by decide) hs hpl,fun σ ρ F H z Q s va e q=>?_⟩
 obtain⟨d,e1,e2⟩:=u5.mp e
 refine ra σ ρ F H d _ s va e1 λF1 H1 v g1 a1=>?_
 have ns:∀ ns,d≠.scr ns:=λns h=>by subst h;cases e2
 have e3:z=.bl (isT n d):=by
  cases d <;> first | exact(i8 e2).symm | exact absurd rfl (ns _)
 subst e3
 exact⟨v,n.nm,_,_,rfl,a1.ty g1.fh ns,znk _ n d ns,q F1 H1 _ g1 .bl⟩
def wW (m:Bool)(i:Nat)(f:Ev->Option D):SE->Ctl:=fun ρ=>match (vEv m f ρ).bind λd=>match ρ[i]? with
 | some (.o ds)=>if decide (ds.length < sizeLine)=true then some (ρ.set i (.o (ds++[d])))else none
 | _=>none with
 | some ρ'=>.nx ρ'
 | none=>.no
theorem X7 {m:Bool}{i:Nat}{p pos':Pos}{f:Ev->Option D}(ho:PE X a (zkQ i))(he:ED X e f)
 (hp:∀ {ta:TE} {t:TA},PE X a ta->PA X [e] t->PE X (.Call (.Attribute a "append" p) [e] [] pos') (tBM X.K "list" zhv ta t)) (hsw:swapsWith (.Call (.Attribute a "append" p) [e] [] pos') none pos.line X.env=pure false:=by rfl)
 (hs:starEach [e] X.env=(false,eval e X.env)::starEach [] X.env:=by rfl):SD X (.Expr (.Call (.Attribute a "append" p) [e] [] pos') pos) (wW m i f):=by
 obtain⟨t,pe,re⟩:=he
 refine⟨_,zeg (hp ho (Vt pe zer hs)) hsw,λFb Hb F H ρ σ E rl k=>?_⟩
 unfold wW at k
 cases h:(vEv m f ρ).bind λd=>match ρ[i]? with
  | some (.o ds)=>if decide (ds.length < sizeLine)=true then some (ρ.set i (.o (ds++[d])))else none
  | _=>none with
 | none=>rw[h]at k;exact k.elim
 | some ρ' =>
  rw[h]at k
  obtain⟨d,e1,e2⟩:=u5.mp h
  cases hs:ρ[i]? with
  | none=>rw[hs]at e2;cases e2
  | some sl =>
   rw[hs]at e2
   cases sl with
   | no=>cases e2
   | v _=>cases e2
   | m _ _ _=>cases e2
   | o ds =>
    dsimp only at e2
    split at e2 <;> cases e2
    rename_i hl
    obtain⟨q,xs,f1,f2,f3,f4,f5⟩:=rl.owns i ds hs
    refine⟨_,f1,.inl ⟨rfl,xs,SqL.of f4⟩,?_⟩
    refine re.at rl e1 λF' H' v g av=>?_
    have rl2:=rl.grow g
    obtain⟨q2,xs2,f1',_,_,f4',f5'⟩:=rl2.owns i ds hs
    rw[f1]at f1'
    cases f1'
    refine⟨q,xs2,v,rfl,rfl,f4',by rw[f5'.length];exact d7 hl,?_⟩
    exact k _ _ σ (rl2.mutate hs f1 (f5'.snoc av))
def Ye (i:Nat)(f:Ev->Option D):SE->Ctl:=fun ρ=>match (f (visF ρ)).bind λd=>match ρ[i]?,d with
 | some (.o ds),.lst es=>if lim (ds.length+es.length)=true then some (ρ.set i (.o (ds++es)))else none
 | _,_=>none with
 | some ρ'=>.nx ρ'
 | none=>.no
theorem zmU {i:Nat}{p pos':Pos}{f:Ev->Option D}(ho:PE X a (zkQ i))(he:ED X e f)
 (hp:∀ {ta:TE} {t:TA},PE X a ta->PA X [e] t->PE X (.Call (.Attribute a "extend" p) [e] [] pos') (tBM X.K "list" zhK ta t)) (hsw:swapsWith (.Call (.Attribute a "extend" p) [e] [] pos') none pos.line X.env=pure false:=by rfl)
 (hs:starEach [e] X.env=(false,eval e X.env)::starEach [] X.env:=by rfl):SD X (.Expr (.Call (.Attribute a "extend" p) [e] [] pos') pos) (Ye i f):=by
 obtain⟨t,pe,re⟩:=he
 refine⟨_,zeg (hp ho (Vt pe zer hs)) hsw,λFb Hb F H ρ σ E rl k=>?_⟩
 unfold Ye at k
 cases h:(f (visF ρ)).bind λd=>match ρ[i]?,d with
  | some (.o ds),.lst es=>if lim (ds.length+es.length)=true then some (ρ.set i (.o (ds++es)))else none
  | _,_=>none with
 | none=>rw[h]at k;exact k.elim
 | some ρ' =>
  rw[h]at k
  obtain⟨d,e1,e2⟩:=u5.mp h
  cases hs:ρ[i]? with
  | none=>rw[hs]at e2;cases e2
  | some sl =>
   rw[hs]at e2
   cases sl with
   | no=>cases e2
   | v _=>cases e2
   | m _ _ _=>cases e2
   | o ds =>
    cases d with
    | lst es =>
     dsimp only at e2
     split at e2 <;> cases e2
     rename_i hl
     obtain⟨q,xs,f1,f2,f3,f4,f5⟩:=rl.owns i ds hs
     refine⟨_,f1,.inl ⟨rfl,xs,SqL.of f4⟩,?_⟩
     refine re σ _ _ H _ _ rl.gr.fh rl.visF e1 λF' H' v g av=>?_
     have rl2:=rl.grow g
     obtain⟨q2,xs2,f1',_,_,f4',f5'⟩:=rl2.owns i ds hs
     rw[f1]at f1'
     cases f1'
     obtain⟨pb,zs,rfl,hz,bl⟩:=av.lst_inv
     refine⟨q,pb,xs2,zs,rfl,rfl,f4',g.fh _ _ hz,by rw[f5'.length,bl.length];exact d7 hl,?_⟩
     exact k _ _ σ (rl2.mutate hs f1 (f5'.append bl))
    | _=>cases e2
end
end Dl
namespace Dl
open PySem L2
variable [KK]
def okE:Nat->D->Bool
 | _,.scr _=>false
 | _,.dct _ _ _ _=>false
 | 0,.tup _=>false
 | 0,.lst _=>false
 | n+1,.tup ds=>ds.all (okE n)
 | n+1,.lst ds=>ds.all (okE n)
 | _,_=>true
def eqN:Nat->D->D->Bool
 | _,.non,.non=>true
 | _,.bl a,.bl b=>a == b
 | _,.bl a,.int b=>(if a then 1 else 0) == b
 | _,.int a,.bl b=>a == (if b then 1 else 0)
 | _,.int a,.int b=>a == b
 | _,.str a,.str b=>a == b
 | n+1,.tup a,.tup b=>(List.zipWith (eqN n) a b).all id&&a.length == b.length
 | n+1,.lst a,.lst b=>(List.zipWith (eqN n) a b).all id&&a.length == b.length
 | _,_,_=>false
omit [KK] in
theorem zbl {n:Nat}:∀ (a b:List D),(List.zipWith (eqN n) a b).all id=(List.range (min a.length b.length)).all λj=>eqN n (a.getD j .non) (b.getD j .non):=by
 intro a b
 have:List.zipWith (eqN n) a b=(List.range (min a.length b.length)).map λj=>eqN n (a.getD j .non) (b.getD j .non):=by
  apply u2H
  .simp
  .intro i h1 h2
   simp at h1 h2
   have g1:i < a.length:=r6 h1 (Nat.min_le_left _ _)
   have g2:i < b.length:=r6 h1 (u3P _ _)
   simp[g1,g2]
 rw[this,u1w]
 rfl
omit [KK] in
def vOf:D->V
 | .bl b=>.bl b
 | .int i=>.int i
 | .str t=>.str t
 | _=>.non
theorem vh {F:Hp}{d:D}{x:V}(h:okE 0 d=true)(a:At F d x):x=vOf d:=by
 cases d with
 | non=>exact a.non_inv
 | bl b=>exact a.bl_inv
 | int b=>exact a.int_inv
 | str b=>exact a.str_inv
 | _=>cases h
omit [KK] in
theorem Vf {d:D}(h:okE 0 d=true):zfm (vOf d)=true:=by
 cases d <;> first | rfl | cases h
omit [KK] in
theorem zbr {d:D}{p:Addr}(h:okE 0 d=true)(e:vOf d=.ref p):False:=by
 cases d <;> first | (cases h;done) | (cases e;done)
def dOfV:V->D
 | .bl b=>.bl b
 | .int i=>.int i
 | .str t=>.str t
 | _=>.non
omit [KK] in
theorem zis {d:D}(h:okE 0 d=true):dOfV (vOf d)=d:=by
 cases d <;> first | rfl | (cases h;done)
omit [KK] in
theorem zib {d e:D}(h1:okE 0 d=true)(h2:okE 0 e=true)(h:vOf d=vOf e):d=e:=by
 rw[<-zis h1,h,zis h2]
omit [KK] in
theorem wT {n:Nat}{d:D}(h:okE (n+1) d=true):okE 0 d=true\/(∃ ds,d=.tup ds/\ds.all (okE n)=true)\/∃ ds,d=.lst ds/\ds.all (okE n)=true:=by
 cases d with
 | tup ds=>exact .inr (.inl ⟨ds,rfl,h⟩)
 | lst ds=>exact .inr (.inr ⟨ds,rfl,h⟩)
 | scr _=>cases h
 | dct _ _ _ _=>cases h
 | _=>exact .inl rfl
theorem ziE {F:Hp}{n:Nat}(ih:∀ {d e:D} {v:V},okE n d=true->okE n e=true->At F d v->At F e v->d=e):∀ {xs:List V} {ds es:List D},ds.all (okE n)=true->es.all (okE n)=true->AtL F ds xs->AtL F es xs->ds=es:=by
 intro xs
 induction xs with
 | nil =>
  intro ds es _ _ a1 a2
  exact(u01.mp a1.length.symm).trans (u01.mp a2.length.symm).symm
 | cons x xs ih2 =>
  intro ds es h1 h2 a1 a2
  cases ds with
  | nil=>cases a1.nil_inv
  | cons d ds=>cases es with
   | nil=>cases a2.nil_inv
   | cons e es =>
    obtain⟨y,r,e1,b1,c1⟩:=a1.cons_inv
    obtain⟨y2,r2,e2,b2,c2⟩:=a2.cons_inv
    cases e1
    cases e2
    rw[u2j,g0]at h1 h2
    rw[ih2 h1.2 h2.2 c1 c2,ih h1.1 h2.1 b1 b2]
theorem zkM {F:Hp}:∀ (n:Nat) {d e:D} {v:V},okE n d=true->okE n e=true->At F d v->At F e v->d=e:=by
 intro n
 induction n with
 | zero =>
  intro d e v h1 h2 a1 a2
  exact zib h1 h2 ((vh h1 a1).symm.trans (vh h2 a2))
 | succ n ih =>
  intro d e v h1 h2 a1 a2
  rcases wT h1 with f1 | ⟨ds,rfl,k1⟩ | ⟨ds,rfl,k1⟩
  .have e1:=vh f1 a1
   rcases wT h2 with f2 | ⟨es,rfl,_⟩ | ⟨es,rfl,_⟩
   .exact zib f1 f2 (e1.symm.trans (vh f2 a2))
   .obtain⟨p,xs,e2,_⟩:=a2.tup_inv
    exact(zbr f1 (e1.symm.trans e2)).elim
   .obtain⟨p,xs,e2,_⟩:=a2.lst_inv
    exact(zbr f1 (e1.symm.trans e2)).elim
  .obtain⟨p,xs,e0,hx,al⟩:=a1.tup_inv
   rcases wT h2 with f2 | ⟨es,rfl,k2⟩ | ⟨es,rfl,k2⟩
   .exact(zbr f2 ((vh f2 a2).symm.trans e0)).elim
   .obtain⟨q,ys,e1,hy,bl⟩:=a2.tup_inv
    cases e0.symm.trans e1
    cases hx.symm.trans hy
    rw[ziE ih k1 k2 al bl]
   .obtain⟨q,ys,e1,hy,bl⟩:=a2.lst_inv
    cases e0.symm.trans e1
    cases hx.symm.trans hy
  .obtain⟨p,xs,e0,hx,al⟩:=a1.lst_inv
   rcases wT h2 with f2 | ⟨es,rfl,k2⟩ | ⟨es,rfl,k2⟩
   .exact(zbr f2 ((vh f2 a2).symm.trans e0)).elim
   .obtain⟨q,ys,e1,hy,bl⟩:=a2.tup_inv
    cases e0.symm.trans e1
    cases hx.symm.trans hy
   .obtain⟨q,ys,e1,hy,bl⟩:=a2.lst_inv
    cases e0.symm.trans e1
    cases hx.symm.trans hy
    rw[ziE ih k1 k2 al bl]
omit [KK] in
theorem zkf:∀ (n:Nat) {d:D},okE n d=true->eqN n d d=true:=by
 intro n
 induction n with
 | zero =>
  intro d h
  cases d with
  | tup _=>cases h
  | lst _=>cases h
  | scr _=>cases h
  | dct _ _ _ _=>cases h
  | _=>first | rfl | exact j7 rfl | exact u0N _
 | succ n ih =>
  have ihl:∀ {ds:List D},ds.all (okE n)=true->(List.zipWith (eqN n) ds ds).all id=true:=by
   intro ds
   induction ds with
   | nil=>intro _;rfl
   | cons d ds ih2 =>
    intro h
    rw[u2j,g0]at h
    rw[List.zipWith_cons_cons,u2j,ih2 h.2,u3E]
    exact ih h.1
  intro d h
  cases d with
  | tup ds=>show((List.zipWith (eqN n) ds ds).all id&&ds.length == ds.length)=true;rw[ihl h];simp
  | lst ds=>show((List.zipWith (eqN n) ds ds).all id&&ds.length == ds.length)=true;rw[ihl h];simp
  | scr _=>cases h
  | dct _ _ _ _=>cases h
  | _=>first | rfl | exact j7 rfl | exact u0N _
theorem zkY {F:Hp}(n:Nat){d e:D}{v:V}(h1:okE n d=true)(h2:okE n e=true)(a1:At F d v)(a2:At F e v):eqN n d e=true:=by
 rw[zkM n h1 h2 a1 a2]
 exact zkf n h2
omit [KK] in
theorem xU {n:Nat}{ds:List D}{j:Nat}(h:ds.all (okE n)=true)(hj:j < ds.length):okE n (ds.getD j .non)=true:=by
 have:ds.getD j .non=ds[j]:=by simp[hj]
 rw[this]
 exact u0s.mp h _ (u05 hj)
theorem AtL.nth {F:Hp}{ds:List D}{xs:List V}{us:List Value}{j:Nat}(al:AtL F ds xs)(r:yM xs us)(h:j < us.length):∃ x,At F (ds.getD j .non) x/\yZ x us[j]:=by
 have hl:=al.length
 have hl2:=r.length
 have hj:j < ds.length:=by omega
 obtain⟨x,hx,ax⟩:=al.get (i:=j) (d:=ds[j]) (by simp[hj])
 obtain⟨u,hu,ru⟩:=r.get hx
 refine⟨x,by rw[show ds.getD j .non=ds[j] by simp[hj]];exact ax,?_⟩
 have:us[j]?=some us[j]:=by simp[h]
 rw[hu]at this
 cases this
 exact ru
omit [KK] in
theorem zeH {n:Nat}{d e:D}(h1:okE 0 d=true)(h2:okE 0 e=true):eqN n d e=eqV (vOf d) (vOf e):=by
 cases n <;> cases d <;> first | (cases h1;done) | skip
 all_goals cases e <;> first | (cases h2;done) | rfl
omit [KK] in
theorem ze1 {n:Nat}{d:D}(ds:List D)(h:okE 0 d=true):eqN (n+1) d (.tup ds)=false/\eqN (n+1) d (.lst ds)=false/\eqN (n+1) (.tup ds) d=false/\eqN (n+1) (.lst ds) d=false:=by
 cases d <;> first | exact⟨rfl,rfl,rfl,rfl⟩ | cases h
omit [KK] in
theorem zbx {A:Around}{s:Shared}{d:D}{u:Value}{p:Addr}{its:Array Value}(h:okE 0 d=true)(r:yZ (vOf d) u)(hu:A.units < cLine) :
 (s.heap.IsTuple p its->SeqAt.EqAt A s u (.ref p) false/\SeqAt.EqAt A s (.ref p) u false)/\(s.heap.IsList p its->SeqAt.EqAt A s u (.ref p) false/\SeqAt.EqAt A s (.ref p) u false):=by
 cases d with
 | non=>cases r;exact⟨λht=>⟨.none_tuple ht hu,.tuple_none ht hu⟩,λht=>⟨.none_list ht hu,.list_none ht hu⟩⟩
 | bl b=>cases r;exact⟨λht=>⟨.bool_tuple b ht hu,.tuple_bool b ht hu⟩,λht=>⟨.bool_list b ht hu,.list_bool b ht hu⟩⟩
 | int b=>obtain⟨t,rfl⟩:=r;exact⟨λht=>⟨.int_tuple b t ht hu,.tuple_int b t ht hu⟩,λht=>⟨.int_list b t ht hu,.list_int b t ht hu⟩⟩
 | str b=>obtain⟨t,rfl⟩:=r;exact⟨λht=>⟨.str_tuple b t ht hu,.tuple_str b t ht hu⟩,λht=>⟨.str_list b t ht hu,.list_str b t ht hu⟩⟩
 | _=>cases h
theorem zbI {X:Cx}{pins:List (Addr × Obj)}{σ:St}{F H:Hp}{s:Shared}(I:Inv X pins σ H s)(sm:xa F H){ds:List D}{x:V}{u:Value}(a:At F (.tup ds) x)(r:yZ x u):∃ p its xs,u=.ref p/\x=.ref p/\yM xs its/\AtL F ds xs/\s.heap.IsTuple p its.toArray:=by
 obtain⟨p,xs,rfl,hx,al⟩:=a.tup_inv
 cases r
 obtain⟨its,rv,ht,hz⟩:=I.tuple (SqT.of (sm _ _ hx))
 exact⟨p,its,xs,rfl,rfl,rv,al,ht⟩
theorem zbs {X:Cx}{pins:List (Addr × Obj)}{σ:St}{F H:Hp}{s:Shared}(I:Inv X pins σ H s)(sm:xa F H){ds:List D}{x:V}{u:Value}(a:At F (.lst ds) x)(r:yZ x u):∃ p its xs,u=.ref p/\x=.ref p/\yM xs its/\AtL F ds xs/\s.heap.IsList p its.toArray:=by
 obtain⟨p,xs,rfl,hx,al⟩:=a.lst_inv
 cases r
 obtain⟨its,rv,ht,hz⟩:=I.list (SqL.of (sm _ _ hx))
 exact⟨p,its,xs,rfl,rfl,rv,al,ht.isList⟩
omit [KK] in
theorem zie {n:Nat}(ds es:List D):((List.zipWith (eqN n) ds es).all id&&ds.length == es.length)=((List.range (min ds.length es.length)).all (λj=>eqN n (ds.getD j .non) (es.getD j .non))&&ds.length == es.length):=by rw[zbl]
theorem za5 {X:Cx}{pins:List (Addr × Obj)}{σ:St}{F H:Hp}{s:Shared}(I:Inv X pins σ H s)(sm:xa F H):∀ (n:Nat) {A:Around} {d e:D} {x y:V} {u v:Value},okE n d=true->okE n e=true->At F d x->At F e y->yZ x u->yZ y v->A.units+n < cLine->SeqAt.EqAt A s u v (eqN n d e):=by
 intro n
 induction n with
 | zero =>
  intro A d e x y u v h1 h2 a1 a2 r1 r2 hu
  cases vh h1 a1
  cases vh h2 a2
  rw[zeH h1 h2]
  exact zgD r1 r2 (Vf h1) (Vf h2)
 | succ n ih =>
  intro A d e x y u v h1 h2 a1 a2 r1 r2 hu
  have hu0:A.units < cLine:=u0a (u0L _ _) hu
  have hu1:A.units+1+n < cLine:=by rw[Nat.add_assoc,Nat.add_comm 1 n];exact hu
  rcases wT h1 with f1 | ⟨ds,rfl,k1⟩ | ⟨ds,rfl,k1⟩
  .cases vh f1 a1
   rcases wT h2 with f2 | ⟨es,rfl,k2⟩ | ⟨es,rfl,k2⟩
   .cases vh f2 a2
    rw[zeH f1 f2]
    exact zgD r1 r2 (Vf f1) (Vf f2)
   .obtain⟨q,its2,ys,rfl,_,_,_,ht2⟩:=zbI I sm a2 r2
    rw[(ze1 es f1).1]
    exact((zbx f1 r1 hu0).1 ht2).1
   .obtain⟨q,its2,ys,rfl,_,_,_,ht2⟩:=zbs I sm a2 r2
    rw[(ze1 es f1).2.1]
    exact((zbx f1 r1 hu0).2 ht2).1
  .obtain⟨p,its,xs,rfl,hxp,rv,al,ht⟩:=zbI I sm a1 r1
   rcases wT h2 with f2 | ⟨es,rfl,k2⟩ | ⟨es,rfl,k2⟩
   .cases vh f2 a2
    rw[(ze1 ds f2).2.2.1]
    exact((zbx f2 r2 hu0).1 ht).2
   .obtain⟨q,its2,ys,rfl,hyq,rv2,bl,ht2⟩:=zbI I sm a2 r2
    by_cases hpq:p=q
    .subst hpq
     rw[hxp]at a1
     rw[hyq]at a2
     rw[zkY (n+1) h1 h2 a1 a2]
     exact .same _
    .have hl1:its.toArray.size=ds.length:=by rw[t7,<- rv.length,al.length]
     have hl2:its2.toArray.size=es.length:=by rw[t7,<- rv2.length,bl.length]
     have:=SeqAt.RcAt.tuples (A:=A) (e:=λj=>eqN n (ds.getD j .non) (es.getD j .non)) ht ht2 hu0 λj g1 g2=>by
      obtain⟨x',ax,rx⟩:=al.nth rv (j:=j) g1
      obtain⟨y',ay,ry⟩:=bl.nth rv2 (j:=j) g2
      exact ih (xU k1 (hl1 ▸ g1)) (xU k2 (hl2 ▸ g2)) ax ay rx ry hu1
     rw[hl1,hl2]at this
     rw[show eqN (n+1) (.tup ds) (.tup es)=_ from zie ds es]
     exact u3g hpq this
   .obtain⟨q,its2,ys,rfl,_,_,_,ht2⟩:=zbs I sm a2 r2
    exact .tuple_list ht ht2 hu0
  .obtain⟨p,its,xs,rfl,hxp,rv,al,ht⟩:=zbs I sm a1 r1
   rcases wT h2 with f2 | ⟨es,rfl,k2⟩ | ⟨es,rfl,k2⟩
   .cases vh f2 a2
    rw[(ze1 ds f2).2.2.2]
    exact((zbx f2 r2 hu0).2 ht).2
   .obtain⟨q,its2,ys,rfl,_,_,_,ht2⟩:=zbI I sm a2 r2
    exact .list_tuple ht ht2 hu0
   .obtain⟨q,its2,ys,rfl,hyq,rv2,bl,ht2⟩:=zbs I sm a2 r2
    by_cases hpq:p=q
    .subst hpq
     rw[hxp]at a1
     rw[hyq]at a2
     rw[zkY (n+1) h1 h2 a1 a2]
     exact .same _
    .have hl1:its.toArray.size=ds.length:=by rw[t7,<- rv.length,al.length]
     have hl2:its2.toArray.size=es.length:=by rw[t7,<- rv2.length,bl.length]
     rw[show eqN (n+1) (.lst ds) (.lst es)=_ from zie ds es]
     by_cases hle:ds.length=es.length
     .have:=SeqAt.RcAt.lists (A:=A) (e:=λj=>eqN n (ds.getD j .non) (es.getD j .non)) ht ht2 (by rw[hl1,hl2,hle]) hu0 λj g1 g2=>by
       obtain⟨x',ax,rx⟩:=al.nth rv (j:=j) g1
       obtain⟨y',ay,ry⟩:=bl.nth rv2 (j:=j) g2
       exact ih (xU k1 (hl1 ▸ g1)) (xU k2 (hl2 ▸ g2)) ax ay rx ry hu1
      rw[hl1]at this
      rw[<-hle,u35,u0N,u3E]
      exact u3g hpq this
     .have:=SeqAt.RcAt.lists_lengths (A:=A) ht ht2 (by rw[hl1,hl2];exact bne_iff_ne.mpr hle) hu0
      rw[u0K.mpr hle,u16]
      exact u3g hpq this
def zh9 (d:D)(es:List D):Option Bool:=if okE 20 d=true/\es.all (okE 20)=true then some (es.any λe=>eqN 20 e d)else none
def inD (d e:D):Option D:=(yo e).bind λes=>(zh9 d es).map .bl
def zh7 (d e:D):Option D:=(yo e).bind λes=>(zh9 d es).map λb=>.bl (!b)
open Classical in
noncomputable def zar (F:Hp)(d:D)(u:Value):Bool:=decide (∃ d0 x,At F d0 x/\yZ x u/\okE 20 d0=true/\eqN 20 d0 d=true)
open Classical in
theorem VX {F:Hp}{d d0:D}{x:V}{u:Value}(a:At F d0 x)(r:yZ x u)(k:okE 20 d0=true):zar F d u=eqN 20 d0 d:=by
 unfold zar
 cases h:eqN 20 d0 d with
 | true=>exact j7 ⟨d0,x,a,r,k,h⟩
 | false =>
  refine g9 ?_
  rintro⟨d1,y,a1,r1,k1,h1⟩
  have e:=r1.inj r
  subst e
  rw[zkM 20 k1 k a1 a]at h1
  rw[h1]at h
  cases h
theorem XA {F:Hp}{d:D}:∀ {ds:List D} {xs:List V} {us:List Value},AtL F ds xs->yM xs us->ds.all (okE 20)=true->us.any (zar F d)=ds.any λe=>eqN 20 e d
 | [],_,_,al,r,_=>by cases al.nil_inv;cases r;rfl
 | e::ds,_,_,al,r,k=>by
  obtain⟨x,xs,rfl,a1,a2⟩:=al.cons_inv
  cases r with
  | cons r1 r2 =>
   rw[u2j,g0]at k
   rw[u2M,u2M,VX a1 r1 k.1,XA a2 r2 k.2]
section
variable {X:Cx}
def zoW (neg:Bool):R2:=λx y H Q=>∃ F d e es b,xa F H/\At F d x/\At F e y/\yo e=some es/\zh9 d es=some b/\Q (.bl (if neg then !b else b)) H
theorem Vv {k:Nat}(hr:Zv k X.A):OpR X (compareOp .In) (zoW false):=by
 intro pins s σ H x y v u Q I rx ry h
 obtain⟨F,d,e,es,b,sm,a1,a2,hs,hb,q⟩:=h
 unfold zh9 at hb
 split at hb <;> cases hb
 rename_i hk
 have hu:X.A.in1.units+20 < cLine:=by have:=hr.un;show X.A.units+1+20 < cLine;omega
 have mem:∀ {xs:List V} {us:List Value},AtL F es xs->yM xs us->∀ z∈us,SeqAt.EqAt X.A.in1 s z v (zar F d z):=λ{xs us} al r z hz=>by
  obtain⟨j,hj,rfl⟩:=u0G hz
  obtain⟨x',ax,rx'⟩:=al.nth r hj
  have hj':j < es.length:=by have:=al.length;have:=r.length;omega
  have k2:=xU hk.2 hj'
  rw[VX ax rx' k2]
  exact za5 I sm 20 k2 hk.1 ax a1 rx' rx hu
 cases e <;> cases hs
 .obtain⟨p,xs,rfl,hx,al⟩:=a2.tup_inv
  cases ry
  obtain⟨its,r,pl,hz⟩:=I.tuple (SqT.of (sm _ _ hx))
  refine SeqAt.in_tupleAt (zar F d) pl (λz hz=>mem al r z (by simpa using hz)) ⟨.bl _,H,I,rfl,?_⟩
  rw[show its.toArray.any (zar F d)=its.any (zar F d) by simp,XA al r hk.2]
  exact q
 .obtain⟨p,xs,rfl,hx,al⟩:=a2.lst_inv
  cases ry
  obtain⟨its,r,pl,hz⟩:=I.list (SqL.of (sm _ _ hx))
  refine SeqAt.in_listAt (zar F d) pl.isList (λz hz=>mem al r z (by simpa using hz)) ⟨.bl _,H,I,rfl,?_⟩
  rw[show its.toArray.any (zar F d)=its.any (zar F d) by simp,XA al r hk.2]
  exact q
theorem zhs {k:Nat}(hr:Zv k X.A):OpR X (compareOp .NotIn) (zoW true):=by
 intro pins s σ H x y v u Q I rx ry h
 obtain⟨F,d,e,es,b,sm,a1,a2,hs,hb,q⟩:=h
 unfold zh9 at hb
 split at hb <;> cases hb
 rename_i hk
 have hu:X.A.in1.units+20 < cLine:=by have:=hr.un;show X.A.units+1+20 < cLine;omega
 have mem:∀ {xs:List V} {us:List Value},AtL F es xs->yM xs us->∀ z∈us,SeqAt.EqAt X.A.in1 s z v (zar F d z):=λ{xs us} al r z hz=>by
  obtain⟨j,hj,rfl⟩:=u0G hz
  obtain⟨x',ax,rx'⟩:=al.nth r hj
  have hj':j < es.length:=by have:=al.length;have:=r.length;omega
  have k2:=xU hk.2 hj'
  rw[VX ax rx' k2]
  exact za5 I sm 20 k2 hk.1 ax a1 rx' rx hu
 cases e <;> cases hs
 .obtain⟨p,xs,rfl,hx,al⟩:=a2.tup_inv
  cases ry
  obtain⟨its,r,pl,hz⟩:=I.tuple (SqT.of (sm _ _ hx))
  refine SeqAt.notIn_tupleAt (zar F d) pl (λz hz=>mem al r z (by simpa using hz)) ⟨.bl _,H,I,rfl,?_⟩
  rw[show its.toArray.any (zar F d)=its.any (zar F d) by simp,XA al r hk.2]
  exact q
 .obtain⟨p,xs,rfl,hx,al⟩:=a2.lst_inv
  cases ry
  obtain⟨its,r,pl,hz⟩:=I.list (SqL.of (sm _ _ hx))
  refine SeqAt.notIn_listAt (zar F d) pl.isList (λz hz=>mem al r z (by simpa using hz)) ⟨.bl _,H,I,rfl,?_⟩
  rw[show its.toArray.any (zar F d)=its.any (zar F d) by simp,XA al r hk.2]
  exact q
theorem VL:OpD (zoW false) inD:=by
 intro F H x y d e z Q s ax ay ez q
 obtain⟨es,e1,e2⟩:=u5.mp ez
 obtain⟨b,e3,rfl⟩:=u8.mp e2
 exact⟨F,d,e,es,b,s,ax,ay,e1,e3,q F H _ (.refl s) .bl⟩
theorem zgd:OpD (zoW true) zh7:=by
 intro F H x y d e z Q s ax ay ez q
 obtain⟨es,e1,e2⟩:=u5.mp ez
 obtain⟨b,e3,rfl⟩:=u8.mp e2
 exact⟨F,d,e,es,b,s,ax,ay,e1,e3,q F H _ (.refl s) .bl⟩
def eqG (d e:D):Option Bool:=match d,e with
 | .tup _,.tup _=>if okE 20 d=true/\okE 20 e=true then some (eqN 20 d e)else none
 | .lst _,.lst _=>if okE 20 d=true/\okE 20 e=true then some (eqN 20 d e)else none
 | _,_=>eqS d e
def XJ (d e:D):Option D:=(eqG d e).map .bl
def zo0:R2:=λx y H Q=>∃ F d e,xa F H/\At F d x/\At F e y/\((∃ ds es,d=.tup ds/\e=.tup es)\/(∃ ds es,d=.lst ds/\e=.lst es))/\okE 20 d=true/\okE 20 e=true/\Q (.bl (eqN 20 d e)) H
theorem zoR {k:Nat}(hr:Zv k X.A):OpR X (compareOp .Eq) zo0:=by
 intro pins s σ H x y v u Q I rx ry h
 obtain⟨F,d,e,sm,a1,a2,hk,k1,k2,q⟩:=h
 have hu:X.A.units+30 < cLine:=by have:=hr.un;omega
 rcases hk with ⟨ds,es,rfl,rfl⟩ | ⟨ds,es,rfl,rfl⟩
 .obtain⟨p,xs,rfl,hx,al⟩:=a1.tup_inv
  obtain⟨p2,ys,rfl,hy,bl⟩:=a2.tup_inv
  cases rx
  cases ry
  obtain⟨its,r,ht,hz⟩:=I.tuple (SqT.of (sm _ _ hx))
  obtain⟨its2,r2,ht2,hz2⟩:=I.tuple (SqT.of (sm _ _ hy))
  have hl1:its.toArray.size=ds.length:=by rw[t7,<- r.length,al.length]
  have hl2:its2.toArray.size=es.length:=by rw[t7,<- r2.length,bl.length]
  refine SeqAt.eq_tupleAt (e:=λj=>eqN 19 (ds.getD j .non) (es.getD j .non)) (show s.heap.IsTuple p its.toArray from ht) (show s.heap.IsTuple p2 its2.toArray from ht2) (by omega) (λj g1 g2=>?_) ⟨.bl _,H,I,rfl,?_⟩
  .obtain⟨x',ax,rx⟩:=al.nth r (j:=j) (by simpa using g1)
   obtain⟨y',ay,ry⟩:=bl.nth r2 (j:=j) (by simpa using g2)
   exact za5 I sm 19 (xU k1 (by rw[<-hl1];exact g1)) (xU k2 (by rw[<-hl2];exact g2)) ax ay (by simpa using rx) (by simpa using ry) (u0a (show X.A.units+20<=X.A.units+30 from u1J (by decide) _) hu)
  .rw[hl1,hl2,<- zbl]
   exact q
 .obtain⟨p,xs,rfl,hx,al⟩:=a1.lst_inv
  obtain⟨p2,ys,rfl,hy,bl⟩:=a2.lst_inv
  cases rx
  cases ry
  obtain⟨its,r,ht,hz⟩:=I.list (SqL.of (sm _ _ hx))
  obtain⟨its2,r2,ht2,hz2⟩:=I.list (SqL.of (sm _ _ hy))
  have hl1:its.toArray.size=ds.length:=by rw[t7,<- r.length,al.length]
  have hl2:its2.toArray.size=es.length:=by rw[t7,<- r2.length,bl.length]
  have e1:eqN 20 (.lst ds) (.lst es)=((List.range (min ds.length es.length)).all (λj=>eqN 19 (ds.getD j .non) (es.getD j .non))&&ds.length == es.length):=by
   show((List.zipWith (eqN 19) ds es).all id&&ds.length == es.length)=_
   rw[zbl]
  by_cases hle:ds.length=es.length
  .refine SeqAt.eq_listAt (e:=λj=>eqN 19 (ds.getD j .non) (es.getD j .non)) ht.isList ht2.isList (by rw[hl1,hl2];exact hle) (u0a (u0L _ 30) hu) (λj g1 g2=>?_) ⟨.bl _,H,I,rfl,?_⟩
   .obtain⟨x',ax,rx⟩:=al.nth r (j:=j) (by simpa using g1)
    obtain⟨y',ay,ry⟩:=bl.nth r2 (j:=j) (by simpa using g2)
    exact za5 I sm 19 (xU k1 (by rw[<-hl1];exact g1)) (xU k2 (by rw[<-hl2];exact g2)) ax ay (by simpa using rx) (by simpa using ry) (u0a (show X.A.units+20<=X.A.units+30 from u1J (by decide) _) hu)
   .rw[hl1]
    rw[e1,<- hle,u35]at q
    simpa using q
  .refine SeqAt.eq_list_lengthsAt ht.isList ht2.isList (by rw[hl1,hl2];simpa using hle) (u0a (u0L _ 30) hu) ⟨.bl _,H,I,rfl,?_⟩
   have:(ds.length == es.length)=false:=by simpa using hle
   rw[e1,this,u16]at q
   exact q
theorem zly:OpD zo0 (λd e=>match d,e with
 | .tup _,.tup _=>if okE 20 d=true/\okE 20 e=true then some (.bl (eqN 20 d e))else none
 | .lst _,.lst _=>if okE 20 d=true/\okE 20 e=true then some (.bl (eqN 20 d e))else none
 | _,_=>none):=by
 intro F H x y d e z Q s ax ay ez q
 dsimp only at ez
 split at ez
 .split at ez <;> cases ez
  rename_i hk
  exact⟨F,_,_,s,ax,ay,.inl ⟨_,_,rfl,rfl⟩,hk.1,hk.2,q F H _ (.refl s) .bl⟩
 .split at ez <;> cases ez
  rename_i hk
  exact⟨F,_,_,s,ax,ay,.inr ⟨_,_,rfl,rfl⟩,hk.1,hk.2,q F H _ (.refl s) .bl⟩
 .cases ez
theorem Zg {k:Nat}(hr:Zv k X.A):OpR X (compareOp .Eq) (λx y H Q=>rEq x y H Q\/zo0 x y H Q):=zpg.or (zoR hr)
theorem vm:OpD (λx y H Q=>rEq x y H Q\/zo0 x y H Q) XJ:=by
 refine zdY (zc0 zkV zly) λd e z h=>?_
 obtain⟨b,hb,rfl⟩:=u8.mp h
 unfold eqG at hb
 split at hb
 .split at hb <;> cases hb
  rename_i hk
  show(Option.or none (if okE 20 _=true/\okE 20 _=true then some (D.bl (eqN 20 _ _))else none))=_
  rw[t4 hk]
  rfl
 .split at hb <;> cases hb
  rename_i hk
  show(Option.or none (if okE 20 _=true/\okE 20 _=true then some (D.bl (eqN 20 _ _))else none))=_
  rw[t4 hk]
  rfl
 .show((eqD d e).or _)=_
  unfold eqD
  rw[hb]
  rfl
theorem X0 {pins:List (Addr × Obj)}{σ:St}{H:Hp}{s:Shared}{a:Addr}{xs:List V}{A:Around}{Q:Value->Shared->Prop}{E:Value->Shared->Prop}(I:Inv X pins σ H s)(hh:A.handled=none)(h:SqL X.K H a xs\/SqT X.K H a xs)
 (k:∀ (it:Addr) (its:List Value) (fp wr:List Addr) (St:Nat->Heap->Prop) (s₂:Shared),yM xs its->Walks X.prog X.w A it fp wr its.length (λi v=>its[i]?=some v) St->St 0 s₂.heap->(∀ b∈fp,b < s₂.heap.objs.size) ->
  (∀ (h':Heap) (tk:Nat),(∀ b o,b∉wr->s₂.heap.get? b=some o->h'.get? b=some o)->Inv X pins σ H { s₂ with heap:=h',toks:=tk })->Q (.ref it) s₂) :
 wpAny (model X.prog X.w) A (pyIter (.ref a)) Q E s:=by
 have back:∀ {o:Obj} {s₂:Shared},s₂={ s with heap:=s.heap.push o }->∀ (h':Heap) (tk:Nat),(∀ b u,b∉[s.heap.objs.size]->s₂.heap.get? b=some u->h'.get? b=some u)->Inv X pins σ H { s₂ with heap:=h',toks:=tk }:=λ{o s₂} e h' tk kk=>by
  subst e
  exact I.kept (t':=tk) λb u z=>kk b u (by simpa using o0 (q5 z)) (u4 _ z)
 rcases h with h | h
 .obtain⟨its,rv,p,hz⟩:=I.list h
  have lt:a < s.heap.objs.size:=by obtain⟨o,n,ho,_⟩:=p;exact q5 ho
  refine u1m p.isList ?_
  have W:=Walks.list (prog:=X.prog) (w:=X.w) (A:=A) hh s.heap.objs.size a (o0 lt) its.toArray
  refine k s.heap.objs.size its [s.heap.objs.size,a] [s.heap.objs.size] (λi h=>h.IsListIter s.heap.objs.size a i/\h.IsList a its.toArray) _ rv (by simpa using W) ⟨⟨_,j6 _ rfl,rfl,rfl⟩,p.isList.at λo e=>u4 _ e⟩ (λb hb=>?_) (back rfl)
  show b < (s.heap.push _).objs.size
  rw[u0A]
  rcases j9.mp hb with rfl | hb
  .exact u2b _
  .rw[d5.mp hb];exact u07 lt
 .obtain⟨its,rv,p,hz⟩:=I.tuple h
  have p':s.heap.IsTuple a its.toArray:=p
  have lt:a < s.heap.objs.size:=by obtain⟨o,ho,_⟩:=p;exact q5 ho
  refine u0T p' ?_
  have W:=Walks.tuple (prog:=X.prog) (w:=X.w) (A:=A) hh s.heap.objs.size a (o0 lt) its.toArray
  refine k s.heap.objs.size its [s.heap.objs.size,a] [s.heap.objs.size] (λi h=>h.IsTupleIter s.heap.objs.size a i/\h.IsTuple a its.toArray) _ rv (by simpa using W) ⟨⟨_,j6 _ rfl,rfl,rfl⟩,p'.at λo e=>u4 _ e⟩ (λb hb=>?_) (back rfl)
  show b < (s.heap.push _).objs.size
  rw[u0A]
  rcases j9.mp hb with rfl | hb
  .exact u2b _
  .rw[d5.mp hb];exact u07 lt
end
end Dl
namespace Dl
open PySem L2
variable [KK]
omit [KK] in
theorem zhx {bs:List Bool}:(List.range bs.length).all (λi=>bs.getD i false)=bs.all id:=by
 have:bs=(List.range bs.length).map λi=>bs.getD i false:=by
  apply u2H
  .simp
  .intro i h1 h2
   simp[h1]
 conv=>rhs;rw[this]
 rw[u1w]
 rfl
omit [KK] in
theorem zho {bs:List Bool}:(List.range bs.length).any (λi=>bs.getD i false)=bs.any id:=by
 have:bs=(List.range bs.length).map λi=>bs.getD i false:=by
  apply u2H
  .simp
  .intro i h1 h2
   simp[h1]
 conv=>rhs;rw[this]
 rw[u30]
 rfl
omit [KK] in
theorem zgc:∀ (ns:List Int) (n:Nat),n<=ns.length->preSum (λi=>ns.getD i 0) n=(ns.take n).sum:=by
 intro ns n
 induction n with
 | zero=>intro _;simp[preSum]
 | succ n ih =>
  intro h
  show preSum (λi=>ns.getD i 0) n+ns.getD n 0=_
  rw[ih (by omega),u4b,u20]
  have:ns[n]?=some ns[n]:=by simp[show n < ns.length by omega]
  simp[this]
section
variable {X:Cx}
omit [KK] in
theorem zhg {bs:List Bool}{its:List Value}{i:Nat}{v:Value}(r:yM (bs.map V.bl) its)(h:its[i]?=some v):v=.bool (bs.getD i false):=by
 have hl:=r.length
 have hi:i < its.length:=(t6.mp h).1
 rw[u6]at hl
 obtain⟨u,hu,ru⟩:=r.get (i:=i) (x:=.bl (bs[i]'(by omega))) (by rw[j5];simp[show i < bs.length by omega])
 rw[h]at hu
 cases hu
 cases ru
 simp[show i < bs.length by omega]
omit [KK] in
theorem YT {ns:List Int}{its:List Value}{i:Nat}{v:Value}(r:yM (ns.map V.int) its)(h:its[i]?=some v):∃ t,v=.int (ns.getD i 0) t:=by
 have hl:=r.length
 have hi:i < its.length:=(t6.mp h).1
 rw[u6]at hl
 obtain⟨u,hu,ru⟩:=r.get (i:=i) (x:=.int (ns[i]'(by omega))) (by rw[j5];simp[show i < ns.length by omega])
 rw[h]at hu
 cases hu
 obtain⟨t,rfl⟩:=ru
 exact⟨t,by simp[show i < ns.length by omega]⟩
theorem zcv (hc:X.calm=true):Y2 X (.builtin "all") (λxs H Q=>∃ (p:Addr) (bs:List Bool),xs=[.ref p]/\(SqL X.K H p (bs.map V.bl)\/SqT X.K H p (bs.map V.bl))/\Q (.bl (bs.all id)) H):=by
 intro pins s σ H xs us Q I r h
 obtain⟨p,bs,rfl,hq,q⟩:=h
 obtain⟨u,rfl,ru⟩:=WW r
 cases ru
 refine call_all_walk (X0 I (I.ok.hd hc) hq λit its fp wr St s₂ rv W st fpl back=>?_)
 have hl:=rv.length
 rw[u6]at hl
 refine⟨it,fp,wr,_,_,St,λi=>bs.getD i false,rfl,W,st,λi v s Q E hv hQ=>?_,λh' tk kk=>⟨.bl _,H,back h' tk kk,rfl,?_⟩⟩
 .rw[zhg rv hv]
  exact u0Z hQ
 .rw[<-hl,zhx]
  exact q
theorem zgM (hc:X.calm=true):Y2 X (.builtin "any") (λxs H Q=>∃ (p:Addr) (bs:List Bool),xs=[.ref p]/\(SqL X.K H p (bs.map V.bl)\/SqT X.K H p (bs.map V.bl))/\Q (.bl (bs.any id)) H):=by
 intro pins s σ H xs us Q I r h
 obtain⟨p,bs,rfl,hq,q⟩:=h
 obtain⟨u,rfl,ru⟩:=WW r
 cases ru
 refine call_any_walk (X0 I (I.ok.hd hc) hq λit its fp wr St s₂ rv W st fpl back=>?_)
 have hl:=rv.length
 rw[u6]at hl
 refine⟨it,fp,wr,_,_,St,λi=>bs.getD i false,rfl,W,st,λi v s Q E hv hQ=>?_,λh' tk kk=>⟨.bl _,H,back h' tk kk,rfl,?_⟩⟩
 .rw[zhg rv hv]
  exact u0Z hQ
 .rw[<-hl,zho]
  exact q
theorem zhr (hc:X.calm=true):Y2 X (.builtin "sum") (λxs H Q=>∃ (p:Addr) (ns:List Int),xs=[.ref p]/\(SqL X.K H p (ns.map V.int)\/SqT X.K H p (ns.map V.int))/\Q (.int ns.sum) H):=by
 intro pins s σ H xs us Q I r h
 obtain⟨p,ns,rfl,hq,q⟩:=h
 obtain⟨u,rfl,ru⟩:=WW r
 cases ru
 refine call_sum_walkG (X0 I (I.ok.hd hc) hq λit its fp wr St s₂ rv W st fpl back=>?_)
 have hl:=rv.length
 rw[u6]at hl
 refine⟨it,fp,wr,_,_,St,λi=>ns.getD i 0,rfl,W,st,fpl,λi v hv=>YT rv hv,λh' tk t' kk=>⟨.int ns.sum,H,back h' tk kk,?_,q⟩⟩
 refine⟨t',?_⟩
 rw[<-hl,zgc ns _ (t5 _),u0W]
def ziX (ns:List Int):Int:=(ns.max?).getD 0
def zau (ns:List Int):Int:=(ns.min?).getD 0
omit [KK] in
theorem zir (f:Nat→Int):∀ k i,i≤k→f i≤f (argBest (fun i j=>decide (f j < f i)) k)∧argBest (fun i j=>decide (f j < f i)) k≤k:=by
  intro k
  induction k with
  | zero => intro i hi; have : i = 0 := by omega
            subst this;exact ⟨u1p _,t5 _⟩
  | succ k ih =>
    intro i hi
    unfold argBest
    obtain ⟨h1,h2⟩:=ih (min i k) (u3P _ _)
    split
    · rename_i hc
      have hc:f (argBest (fun i j=>decide (f j < f i)) k) < f (k+1):=d7 hc
      refine ⟨?_,t5 _⟩
      by_cases hik:i≤k
      · rw [u1G hik] at h1;omega
      · have:i=k+1:=by omega
        subst this;exact u1p _
    · rename_i hc
      have hc:¬ f (argBest (fun i j=>decide (f j < f i)) k) < f (k+1):=fun z=>hc (j7 z)
      refine ⟨?_,by omega⟩
      by_cases hik:i≤k
      · rw [u1G hik] at h1;exact h1
      · have:i=k+1:=by omega
        subst this;omega
omit [KK] in
theorem zno {ns:List Int}{m:Int}(h1:m∈ns)(h2:∀ x∈ns,x<=m):ziX ns=m:=by
 unfold ziX
 rw[List.max?_eq_some_iff.mpr ⟨h1,h2⟩]
 rfl
omit [KK] in
theorem znD {ns:List Int}{m:Int}(h1:m∈ns)(h2:∀ x∈ns,m<=x):zau ns=m:=by
 unfold zau
 rw[u2C.mpr ⟨h1,h2⟩]
 rfl
omit [KK] in
theorem getD_mem {ns:List Int}{k:Nat}(h:k < ns.length):ns.getD k 0∈ns:=by
 rw[u0r,t9 h]
 exact u05 h
omit [KK] in
theorem getD_at {ns:List Int}{k:Nat}(h:k < ns.length):ns.getD k 0=ns[k]:=by
 rw[u0r,t9 h]
 rfl
theorem zhi (hc:X.calm=true):Y2 X (.builtin "max") (λxs H Q=>∃ (p:Addr) (ns:List Int),xs=[.ref p]/\(SqL X.K H p (ns.map V.int)\/SqT X.K H p (ns.map V.int))/\ns≠[]/\Q (.int (ziX ns)) H):=by
 intro pins s σ H xs us Q I r h
 obtain⟨p,ns,rfl,hq,hne,q⟩:=h
 obtain⟨u,rfl,ru⟩:=WW r
 cases ru
 refine call_max_walk (X0 I (I.ok.hd hc) hq λit its fp wr St s₂ rv W st fpl back=>?_)
 have hl:=rv.length
 rw[u6]at hl
 have hpos:0 < ns.length:=u2e.mpr hne
 refine⟨it,fp,wr,_,_,St,λi j=>decide (ns.getD j 0 < ns.getD i 0),rfl,W,st,fpl,by omega,λi j vi vj s Q E hi hj hQ=>?_,λv h' tk hv kk=>?_⟩
 .obtain⟨t1,rfl⟩:=YT rv hi
  obtain⟨t2,rfl⟩:=YT rv hj
  exact PyProof.Rows.gt_int hQ
 .obtain⟨t,rfl⟩:=YT rv hv
  refine⟨.int (ziX ns),H,back h' tk kk,⟨t,?_⟩,q⟩
  have key:=zir (λi=>ns.getD i 0) (its.length - 1)
  have hb:argBest (λi j=>decide (ns.getD j 0 < ns.getD i 0)) (its.length - 1) < ns.length:=by
   have:=(key 0 (u0I _)).2
   omega
  rw[zno (m:=ns.getD (argBest (λi j=>decide (ns.getD j 0 < ns.getD i 0)) (its.length - 1)) 0)]
  .exact getD_mem hb
  .intro x hx
   obtain⟨j,hj,rfl⟩:=u0G hx
   have:=(key j (by omega)).1
   rw[<-getD_at hj]
   exact this
theorem zak (hc:X.calm=true):Y2 X (.builtin "min") (λxs H Q=>∃ (p:Addr) (ns:List Int),xs=[.ref p]/\(SqL X.K H p (ns.map V.int)\/SqT X.K H p (ns.map V.int))/\ns≠[]/\Q (.int (zau ns)) H):=by
 intro pins s σ H xs us Q I r h
 obtain⟨p,ns,rfl,hq,hne,q⟩:=h
 obtain⟨u,rfl,ru⟩:=WW r
 cases ru
 refine call_min_walk (X0 I (I.ok.hd hc) hq λit its fp wr St s₂ rv W st fpl back=>?_)
 have hl:=rv.length
 rw[u6]at hl
 have hpos:0 < ns.length:=u2e.mpr hne
 refine⟨it,fp,wr,_,_,St,λi j=>decide (ns.getD i 0 < ns.getD j 0),rfl,W,st,fpl,by omega,λi j vi vj s Q E hi hj hQ=>?_,λv h' tk hv kk=>?_⟩
 .obtain⟨t1,rfl⟩:=YT rv hi
  obtain⟨t2,rfl⟩:=YT rv hj
  exact PyProof.Rows.lt_int hQ
 .obtain⟨t,rfl⟩:=YT rv hv
  refine⟨.int (zau ns),H,back h' tk kk,⟨t,?_⟩,q⟩
  have key:=zir (λi=>- ns.getD i 0) (its.length - 1)
  have e0:(λi j=>decide (ns.getD i 0 < ns.getD j 0))=λi j=>decide (-ns.getD j 0 < -ns.getD i 0):=by
   funext i j
   congr 1
   apply propext
   constructor <;> intro h <;> omega
  rw[e0]
  have hb:argBest (λi j=>decide (-ns.getD j 0 < -ns.getD i 0)) (its.length - 1) < ns.length:=by
   have:=(key 0 (u0I _)).2
   omega
  rw[znD (m:=ns.getD (argBest (λi j=>decide (-ns.getD j 0 < -ns.getD i 0)) (its.length - 1)) 0)]
  .exact getD_mem hb
  .intro x hx
   obtain⟨j,hj,rfl⟩:=u0G hx
   have:=(key j (by omega)).1
   rw[<-getD_at hj]
   omega
def ziW:List D->Option (List Bool)
 | []=>some []
 | .bl b::ds=>(ziW ds).map (b::·)
 | _=>none
def zh4:List D->Option (List Int)
 | []=>some []
 | .int b::ds=>(zh4 ds).map (b::·)
 | _=>none
omit [KK] in
theorem zd8:∀ {ds:List D} {bs:List Bool},ziW ds=some bs->ds=bs.map .bl
 | [],bs,h=>by cases h;rfl
 | d::ds,bs,h=>by
  cases d <;> try cases h
  obtain⟨cs,h1,rfl⟩:=u8.mp h
  rw[zd8 h1]
  rfl
omit [KK] in
theorem VA:∀ {ds:List D} {bs:List Int},zh4 ds=some bs->ds=bs.map .int
 | [],bs,h=>by cases h;rfl
 | d::ds,bs,h=>by
  cases d <;> try cases h
  obtain⟨cs,h1,rfl⟩:=u8.mp h
  rw[VA h1]
  rfl
omit [KK] in
theorem zeB (bs:List Bool):ziW (bs.map .bl)=some bs:=by
 induction bs with
 | nil=>rfl
 | cons b r ih=>show(ziW (r.map .bl)).map (b::·)=_;rw[ih];rfl
omit [KK] in
theorem zby (bs:List Int):zh4 (bs.map .int)=some bs:=by
 induction bs with
 | nil=>rfl
 | cons b r ih=>show(zh4 (r.map .int)).map (b::·)=_;rw[ih];rfl
theorem AtL.of_bls {H:Hp}:∀ {ns:List Bool} {xs:List V},AtL H (ns.map D.bl) xs->xs=ns.map V.bl
 | [],_,h=>h.nil_inv
 | n::r,_,h=>by
  obtain⟨x,r',rfl,h1,h2⟩:=AtL.cons_inv (by simpa using h)
  rw[h1.bl_inv,AtL.of_bls h2]
  rfl
def zlY {α:Type}(as:List D->Option α)(g:α->Option D):List D->Option D
 | [d]=>((yo d).bind as).bind g
 | _=>none
theorem VY {K:W.Frag}{F H:Hp}{vs:List V}{ds:List D}{z:D}{α:Type}{as:List D->Option α}{g:α->Option D}(s:xa F H)(al:AtL F ds vs)(e:zlY as g ds=some z) :
 ∃ p es xs b,vs=[.ref p]/\(SqL K H p xs\/SqT K H p xs)/\AtL F es xs/\as es=some b/\g b=some z:=by
 unfold zlY at e
 split at e
 .obtain⟨b,e1,e2⟩:=u5.mp e
  obtain⟨es,e3,e4⟩:=u5.mp e1
  obtain⟨x,r,rfl,ax,ar⟩:=al.cons_inv
  cases ar.nil_inv
  rename_i d
  cases d <;> cases e3
  .obtain⟨p,xs,rfl,hx,bl⟩:=ax.tup_inv
   exact⟨p,_,xs,b,rfl,.inr (SqT.of (s _ _ hx)),bl,e4,e2⟩
  .obtain⟨p,xs,rfl,hx,bl⟩:=ax.lst_inv
   exact⟨p,_,xs,b,rfl,.inl (SqL.of (s _ _ hx)),bl,e4,e2⟩
 .cases e
def zmK:=zlY ziW λbs=>some (.bl (bs.all id))
def zpy:=zlY ziW λbs=>some (.bl (bs.any id))
def zpm:=zlY zh4 λns=>some (.int ns.sum)
def zn1:=zlY zh4 λns=>if ns=[]then none else some (.int (ziX ns))
def zcG:=zlY zh4 λns=>if ns=[]then none else some (.int (zau ns))
theorem zgl {K:W.Frag}:CaD (λxs H Q=>∃ (p:Addr) (bs:List Bool),xs=[.ref p]/\(SqL K H p (bs.map V.bl)\/SqT K H p (bs.map V.bl))/\Q (.bl (bs.all id)) H) zmK:=by
 intro F H vs ds z Q s al e q
 obtain⟨p,es,xs,bs,rfl,hq,bl,e1,e2⟩:=VY (K:=K) s al e
 cases e2
 rw[zd8 e1]at bl
 rw[bl.of_bls]at hq
 exact⟨p,bs,rfl,hq,q F H _ (.refl s) .bl⟩
theorem zmb {K:W.Frag}:CaD (λxs H Q=>∃ (p:Addr) (bs:List Bool),xs=[.ref p]/\(SqL K H p (bs.map V.bl)\/SqT K H p (bs.map V.bl))/\Q (.bl (bs.any id)) H) zpy:=by
 intro F H vs ds z Q s al e q
 obtain⟨p,es,xs,bs,rfl,hq,bl,e1,e2⟩:=VY (K:=K) s al e
 cases e2
 rw[zd8 e1]at bl
 rw[bl.of_bls]at hq
 exact⟨p,bs,rfl,hq,q F H _ (.refl s) .bl⟩
theorem zlX {K:W.Frag}:CaD (λxs H Q=>∃ (p:Addr) (ns:List Int),xs=[.ref p]/\(SqL K H p (ns.map V.int)\/SqT K H p (ns.map V.int))/\Q (.int ns.sum) H) zpm:=by
 intro F H vs ds z Q s al e q
 obtain⟨p,es,xs,bs,rfl,hq,bl,e1,e2⟩:=VY (K:=K) s al e
 cases e2
 rw[VA e1]at bl
 rw[bl.of_ints]at hq
 exact⟨p,bs,rfl,hq,q F H _ (.refl s) .int⟩
theorem zjc {K:W.Frag}:CaD (λxs H Q=>∃ (p:Addr) (ns:List Int),xs=[.ref p]/\(SqL K H p (ns.map V.int)\/SqT K H p (ns.map V.int))/\ns≠[]/\Q (.int (ziX ns)) H) zn1:=by
 intro F H vs ds z Q s al e q
 obtain⟨p,es,xs,bs,rfl,hq,bl,e1,e2⟩:=VY (K:=K) s al e
 split at e2 <;> cases e2
 rename_i hne
 rw[VA e1]at bl
 rw[bl.of_ints]at hq
 exact⟨p,bs,rfl,hq,hne,q F H _ (.refl s) .int⟩
theorem zb3 {K:W.Frag}:CaD (λxs H Q=>∃ (p:Addr) (ns:List Int),xs=[.ref p]/\(SqL K H p (ns.map V.int)\/SqT K H p (ns.map V.int))/\ns≠[]/\Q (.int (zau ns)) H) zcG:=by
 intro F H vs ds z Q s al e q
 obtain⟨p,es,xs,bs,rfl,hq,bl,e1,e2⟩:=VY (K:=K) s al e
 split at e2 <;> cases e2
 rename_i hne
 rw[VA e1]at bl
 rw[bl.of_ints]at hq
 exact⟨p,bs,rfl,hq,hne,q F H _ (.refl s) .int⟩
end
end Dl
namespace Dl
open PySem L2
variable [KK]
section
variable {X:Cx}{tg a b c e:Expr}{pos:Pos}
def zeA:List D->List D->List D
 | x::xs,y::ys=>.tup [x,y]::zeA xs ys
 | _,_=>[]
omit [KK] in
theorem zeT:∀ (xs ys:List D) (i:Nat),(zeA xs ys)[i]?=match xs[i]?,ys[i]? with | some x,some y=>some (.tup [x,y]) | _,_=>none
 | [],ys,i=>by simp[zeA]
 | x::xs,[],i=>by simp[zeA]
 | x::xs,y::ys,0=>by simp[zeA]
 | x::xs,y::ys,i+1=>by simpa [zeA]using zeT xs ys i
omit [KK] in
theorem Vr:∀ (xs ys:List D),xs.length<=ys.length->(zeA xs ys).length=xs.length
 | [],ys,_=>by simp[zeA]
 | x::xs,[],h=>by simp at h
 | x::xs,y::ys,h=>by simp[zeA,Vr xs ys (by simpa using h)]
def yN (f:Ev->Option (List D)):Ev->Option (List D):=fun ρ=>(f ρ).bind λas=>match as with
 | [d,e]=>(yo d).bind λxs=>(yo e).bind λys=>if xs.length<=ys.length then some (zeA xs ys)else none
 | _=>none
theorem zop {K:W.Frag}{F H:Hp}{d:D}{v:V}{ds:List D}(s:xa F H)(h:At F d v)(e:yo d=some ds):∃ b p xs,v=.ref p/\(∀ {F' H':Hp},xa F F'->xa F' H'->Sq b K H' p xs)/\AtL F ds xs:=by
 cases d <;> cases e
 .obtain⟨p,xs,rfl,hx,al⟩:=h.tup_inv
  exact⟨false,p,xs,rfl,λs1 s2=>SqT.of (s2 _ _ (s1 _ _ hx)),al⟩
 .obtain⟨p,xs,rfl,hx,al⟩:=h.lst_inv
  exact⟨true,p,xs,rfl,λs1 s2=>SqL.of (s2 _ _ (s1 _ _ hx)),al⟩
theorem znv {es:List Expr} {k:Nat} {tp p:Pos} {f:Ev->Option (List D)} (hg:Gl X "zip") (hm:X.mg "zip"=none) (ha:AD X [a,b] f)
 (hs:starEach [a,b] X.env=[(false,eval a X.env),(false,eval b X.env)]:=by rfl) (hs2:starEach [b] X.env=[(false,eval b X.env)]:=by rfl):ID X (.Tuple es k tp) (.Call (.Name "zip" p) [a,b] [] pos) (yN f):=by
 obtain⟨t,pa,r⟩:=ha
 refine⟨_,zmX hg hm zow pa hs hs2,fun σ ρ F H ds R s va e q=>?_⟩
 obtain⟨as,e1,e2⟩:=u5.mp e
 refine r σ ρ F H as _ s va e1 λF1 H1 v g1 a1=>?_
 split at e2
 .obtain⟨x,r',rfl,ax,ar⟩:=a1.cons_inv
  obtain⟨y,r',rfl,ay,ar⟩:=ar.cons_inv
  cases ar.nil_inv
  obtain⟨xs,e3,e2'⟩:=u5.mp e2
  obtain⟨ys,e4,e2''⟩:=u5.mp e2'
  clear e2 e2' e
  split at e2'' <;> cases e2''
  rename_i hle
  obtain⟨b1,p1,us,rfl,sq1,al⟩:=zop (K:=X.K) g1.fh ax e3
  obtain⟨b2,p2,ws,rfl,sq2,bl⟩:=zop (K:=X.K) g1.fh ay e4
  refine⟨b1,b2,p1,p2,us,ws,rfl,sq1 (xa.refl _) g1.fh,sq2 (xa.refl _) g1.fh,q F1 H1 _ g1 λi F2 H2 s1 s2=>?_⟩
  have q1:=sq1 s1 s2
  have q2:=sq2 s1 s2
  refine⟨λhl=>⟨us,q1,by rw[hl,Vr _ _ hle,al.length]⟩,λd hd=>?_⟩
  rw[zeT]at hd
  cases h1:xs[i]? with
  | none=>rw[h1]at hd;cases hd
  | some x =>
   cases h2:ys[i]? with
   | none=>rw[h1,h2]at hd;cases hd
   | some y =>
    rw[h1,h2]at hd
    cases hd
    obtain⟨u,hu,au⟩:=al.get h1
    obtain⟨u2,hu2,au2⟩:=bl.get h2
    refine⟨⟨us,ws,u,u2,q1,q2,hu,hu2⟩,λz H3 hz=>?_⟩
    obtain⟨T,x',y',rfl,hT,rfl,hx',hy'⟩:=hz
    have e5:=hx' us q1
    have e6:=hy' ws q2
    rw[hu]at e5
    rw[hu2]at e6
    cases e5
    cases e6
    have g3:=Gr.alloc s2 hT (.tup [u,u2])
    exact⟨_,g3,.tup zt (.cons (au.mono (s1.trans g3.ff)) (.cons (au2.mono (s1.trans g3.ff)) .nil))⟩
 .cases e2
def yn (g:List D->Option (List D))(f:Ev->Option (List D))(b:D->SE->Option SE)(h:SE->Ctl):SE->Ctl:=fun ρ=>match (f (visG ρ)).bind g with
 | some ds=>zgP b h ds ρ
 | none=>.no
theorem Vc {p pos':Pos} {body:List Stmt} {f:Ev->Option (List D)} {b':D->SE->Option SE} {g:SE->Ctl} (hp:PassesOwn (model X.prog X.w) X.A X.env X.xe) (hc:X.calm=true) (hgl:Gl X "range") (hm:X.mg "range"=none) (ha:AD X [a] f) (hg:BD X tg b') (hb:SDs X body g)
 (hs0:starEach [a] X.env=[(false,eval a X.env)]:=by rfl) (hs:∀ x,foldedSetIterable (.Call (.Name "range" p) [a] [] pos) X.env x=pure x:=by intro _;rfl):SD X (.For tg (.Call (.Name "range" p) [a] [] pos) body [] pos') (yn vo f b' g):=by
 obtain⟨t,pa,r⟩:=ha
 obtain⟨tg',pg,rg⟩:=hg
 obtain⟨tb,pb,rb⟩:=hb
 refine⟨_,zhk hp hc (zgA hgl hm pa hs0) pg pb hs,λFb Hb F H ρ σ E rl k=>?_⟩
 unfold yn at k
 cases h:(f (visG ρ)).bind vo with
 | none=>rw[h]at k;exact k.elim
 | some ds =>
  rw[h]at k
  obtain⟨as,e1,e2⟩:=u5.mp h
  refine r σ _ _ H as _ rl.gh rl.visG e1 λF1 H1 vs g1 a1=>?_
  have rl2:=rl.grow (rl.back g1).1
  unfold vo at e2
  split at e2
  .split at e2 <;> cases e2
   rename_i hc
   obtain⟨x,r',rfl,ax,ar⟩:=a1.cons_inv
   cases ar.nil_inv
   exact⟨_,by rw[ax.int_inv],(yW.mp hc).1,(yW.mp hc).2,zgG (zhW 0 _) rg rb rl2 k⟩
  .cases e2
theorem zjO {p pos':Pos} {body:List Stmt} {f:Ev->Option (List D)} {b':D->SE->Option SE} {g:SE->Ctl} (hp:PassesOwn (model X.prog X.w) X.A X.env X.xe) (hc:X.calm=true) (hgl:Gl X "range") (hm:X.mg "range"=none) (ha:AD X [a,b] f) (hg:BD X tg b') (hb:SDs X body g)
 (hs0:starEach [a,b] X.env=[(false,eval a X.env),(false,eval b X.env)]:=by rfl) (hs2:starEach [b] X.env=[(false,eval b X.env)]:=by rfl) (hs:∀ x,foldedSetIterable (.Call (.Name "range" p) [a,b] [] pos) X.env x=pure x:=by intro _;rfl):SD X (.For tg (.Call (.Name "range" p) [a,b] [] pos) body [] pos') (yn wX f b' g):=by
 obtain⟨t,pa,r⟩:=ha
 obtain⟨tg',pg,rg⟩:=hg
 obtain⟨tb,pb,rb⟩:=hb
 refine⟨_,zhk hp hc (zco hgl hm pa hs0 hs2) pg pb hs,λFb Hb F H ρ σ E rl k=>?_⟩
 unfold yn at k
 cases h:(f (visG ρ)).bind wX with
 | none=>rw[h]at k;exact k.elim
 | some ds =>
  rw[h]at k
  obtain⟨as,e1,e2⟩:=u5.mp h
  refine r σ _ _ H as _ rl.gh rl.visG e1 λF1 H1 vs g1 a1=>?_
  have rl2:=rl.grow (rl.back g1).1
  unfold wX at e2
  split at e2
  .split at e2 <;> cases e2
   rename_i hc
   obtain⟨x,r',rfl,ax,ar⟩:=a1.cons_inv
   obtain⟨y,r',rfl,ay,ar⟩:=ar.cons_inv
   cases ar.nil_inv
   exact⟨_,_,by rw[ax.int_inv,ay.int_inv],⟨(yW.mp hc.1).1,(yW.mp hc.1).2,(yW.mp hc.2).1,(yW.mp hc.2).2⟩,zgG (zhW _ _) rg rb rl2 k⟩
  .cases e2
end
theorem zlq {P:Program}{w:World}{K:W.Frag}{mg:Str->Option Value}{base:Heap}{f:Addr}{fd:FuncData}{ps:List Str}{k m:Nat}:xc P w K mg base CX0 k f fd ps (spD m λ_=>none):=by
 refine⟨λvs H Q E h=>?_,λA outer s H args us vs Q E _ _ _ _ h=>?_⟩
 .obtain⟨_,_,_,_,_,_,e,_⟩:=h
  cases e
 .obtain⟨_,_,_,_,_,_,e,_⟩:=h
  cases e
def zoN (n:Nat)(g:(List D->Option D)->SE->Ctl):Nat->List D->Option D
 | 0=>λ_=>none
 | k+1=>fnD n (g (zoN n g k))
theorem zoQ {P:Program}{w:World}{K:W.Frag}{mg:Str->Option Value}{base:Heap}{x qual:Str}{st:Stmt}{f:Addr}{fd:FuncData}{N ps:List Str}{k0:Nat}{g:(List D->Option D)->SE->Ctl}(Fu:Fun K x qual st f fd)(S:zw N ps (zm st))
 (hb:∀ (k:Nat) (r:List D->Option D),xc P w K mg base CX0 (k0+k) f fd ps (spD ps.length r)->∀ (cdv:Value) (A:Around) (outer:List Env) (s:Shared) (H:Hp) (E:XK),Zv (k0+k) (A.deeper (PyProof.Rows.envOfC qual (zm st) s.heap.objs.size f cdv))->SDs (zju CX0 P w K mg base N qual (zm st) f cdv A outer s H E).nox (vL st) (g r)) :
 ∀ n,xc P w K mg base CX0 (k0+n) f fd ps (spD ps.length (zoN N.length g n)):=by
 intro n
 induction n with
 | zero=>exact zlq
 | succ n ih=>exact yz Fu S λcdv A outer s H E hr=>hb n _ ih cdv A outer s H E hr
def ziD (K:W.Frag):Sp:=λvs H Q _=>∃ (a:Addr) (ns:List Int),vs=[.ref a]/\SqL K H a (ns.map V.int)/\ns.length<=63/\∀ H',Q (.bl true) H'
end Dl
namespace Dl
open PySem L2
theorem zof {P:Program}{w:World}{K:W.Frag}{mg:Str->Option Value}{base:Heap}{f:Addr}{fd:FuncData}{ps:List Str}{k:Nat}{p:List D->Option D}(F:xc P w K mg base CX0 k f fd ps (@spD ⟨K⟩ 1 p))(h:∀ ns:List Int,ns.length<=63->p [.scr ns]=some (.bl true)) :
 xc P w K mg base CX0 k f fd ps (ziD K):=by
 letI:KK:=⟨K⟩
 refine F.imp λvs H Q E hs=>?_
 obtain⟨a,ns,rfl,hq,hl,q⟩:=hs
 refine⟨[.scr ns],.bl true,H,rfl,xa.refl _,.cons ?_ .nil,h ns hl,λF' H' v _ av=>?_⟩
 .unfold At
  exact⟨a,rfl,hq⟩
 .rw[av.bl_inv]
  exact q H'
structure Def (K:W.Frag) (mg:Str->Option Value) (x:Str) (st:Stmt) (ps:List Str) (f:Addr) (fd:FuncData):Prop where
 fn:Fun K x x st f fd
 bd:zd2 K fd ps []
 at_:mg x=some (.ref f)
theorem Def.kp {K:W.Frag}{mg:Str->Option Value}{x:Str}{st:Stmt}{ps:List Str}{f:Addr}{fd:FuncData}(d:Def K mg x st ps f fd):W.keepIn K (.ref f)=true:=d.fn.kp
inductive Ctl.w:Ctl->(SE->Prop)->(SE->Prop)->(SE->Prop)->(D->Prop)->Prop where
 | nx {ρ:SE} {n b k:SE->Prop} {r:D->Prop}:n ρ->Ctl.w (.nx ρ) n b k r
 | bk {ρ:SE} {n b k:SE->Prop} {r:D->Prop}:b ρ->Ctl.w (.bk ρ) n b k r
 | ct {ρ:SE} {n b k:SE->Prop} {r:D->Prop}:k ρ->Ctl.w (.ct ρ) n b k r
 | rt {d:D} {n b k:SE->Prop} {r:D->Prop}:r d->Ctl.w (.rt d) n b k r
section
variable {ρ:SE}{d:D}{n b k:SE->Prop}{r:D->Prop}
theorem Ctl.w.nxi (h:Ctl.w (.nx ρ) n b k r):n ρ:=by cases h;assumption
theorem Ctl.w.bki (h:Ctl.w (.bk ρ) n b k r):b ρ:=by cases h;assumption
theorem Ctl.w.cti (h:Ctl.w (.ct ρ) n b k r):k ρ:=by cases h;assumption
theorem Ctl.w.rti (h:Ctl.w (.rt d) n b k r):r d:=by cases h;assumption
theorem Ctl.w.noi (h:Ctl.w .no n b k r):False:=by cases h
end
abbrev noP:SE->Prop:=λ_=>False
section
variable {g h:SE->Ctl}{ρ ρ':SE}{n b k:SE->Prop}{r:D->Prop}
theorem yf (e:(g ρ).w (fun ρ'=>(h ρ').w n b k r) b k r):(zE g h ρ).w n b k r:=by
 unfold zE
 cases hg:g ρ with
 | nx ρ'=>rw[hg]at e;exact e.nxi
 | bk ρ'=>rw[hg]at e;exact .bk e.bki
 | ct ρ'=>rw[hg]at e;exact .ct e.cti
 | rt d=>rw[hg]at e;exact .rt e.rti
 | no=>rw[hg]at e;exact e.noi.elim
theorem zp (e:g ρ=.nx ρ')(q:(h ρ').w n b k r):(zE g h ρ).w n b k r:=yf (by rw[e];exact .nx q)
theorem xG (e:g ρ=.nx ρ')(q:n ρ'):(g ρ).w n b k r:=by rw[e];exact .nx q
theorem vT {d:D}(e:g ρ=.rt d)(q:r d):(g ρ).w n b k r:=by rw[e];exact .rt q
theorem vw {t:Ev->Option Bool}{c:Bool}(e:t (visG ρ)=some c)(h1:c=true->(g ρ).w n b k r)(h2:c=false->(h ρ).w n b k r):(sIf t g h ρ).w n b k r:=by
 unfold sIf
 rw[e]
 cases c with
 | true=>exact h1 rfl
 | false=>exact h2 rfl
theorem zkZ {i:Nat}(e:znz ρ i=ρ')(q:(g ρ').w n b k r):(sFz i g ρ).w n b k r:=by
 unfold sFz
 rw[e]
 exact q
theorem zhC {bd:D->SE->Option SE}(I:Nat->SE->Prop):∀ (ds:List D) (j:Nat) (ρ:SE),I j ρ ->
 (∀ i d ρ,ds[i]?=some d->I (j+i) ρ->∃ ρ1,bd d ρ=some ρ1/\(g ρ1).w (I (j+i+1)) n (I (j+i+1)) r)->(∀ ρ,I (j+ds.length) ρ->n ρ)->(zgP bd g ds ρ).w n b k r
 | [],j,ρ,h0,_,fin=>.nx (fin ρ h0)
 | d::ds,j,ρ,h0,step,fin=>by
  obtain⟨ρ1,e1,e2⟩:=step 0 d ρ rfl h0
  unfold zgP
  rw[e1]
  dsimp only
  have next:∀ ρ',I (j+1) ρ'->(zgP bd g ds ρ').w n b k r:=fun ρ' h'=>zhC I ds (j+1) ρ' h'
   (λi d' ρ hd hI=>by
    have:=step (i+1) d' ρ (by simpa using hd) (by rw[show j+(i+1)=j+1+i by omega];exact hI)
    rwa[show j+(i+1)+1=j+1+i+1 by omega]at this)
   (fun ρ hI=>fin ρ (by rw[i6,show j+(ds.length+1)=j+1+ds.length by omega];exact hI))
  cases hg:g ρ1 with
  | nx ρ'=>rw[hg]at e2;exact next ρ' e2.nxi
  | ct ρ'=>rw[hg]at e2;exact next ρ' e2.cti
  | bk ρ'=>rw[hg]at e2;exact .nx e2.bki
  | rt d'=>rw[hg]at e2;exact .rt e2.rti
  | no=>rw[hg]at e2;exact e2.noi.elim
theorem ZZ {f:Ev->Option (List D)}{bd:D->SE->Option SE}{ds:List D}(I:Nat->SE->Prop)(e:f (visF ρ)=some ds)(h0:I 0 ρ)
 (step:∀ i d ρ,ds[i]?=some d->I i ρ->∃ ρ1,bd d ρ=some ρ1/\(g ρ1).w (I (i+1)) n (I (i+1)) r) (fin:∀ ρ,I ds.length ρ->n ρ):(wg f bd g ρ).w n b k r:=by
 unfold wg
 rw[e]
 exact zhC I ds 0 ρ h0 (λi d ρ hd hI=>by rw[u0m]at hI ⊢;exact step i d ρ hd hI) (fun ρ hI=>fin ρ (by rw[u0m]at hI;exact hI))
theorem zcO {f:Ev->Option (List D)}{bd:D->SE->Option SE}{rg:List D->Option (List D)}{lo:Int}{c:Nat}(I:Nat->SE->Prop)(e:(f (visG ρ)).bind rg=some (W4 lo c))(h0:I 0 ρ)
 (step:∀ (i:Nat) ρ,i < c->I i ρ->∃ ρ1,bd (.int (lo+i)) ρ=some ρ1/\(g ρ1).w (I (i+1)) n (I (i+1)) r) (fin:∀ ρ,I c ρ->n ρ):(yn rg f bd g ρ).w n b k r:=by
 unfold yn
 rw[e]
 refine zhC I (W4 lo c) 0 ρ h0 (λi d ρ hd hI=>?_) (fun ρ hI=>fin ρ ?_)
 .rw[u0m]at hI ⊢
  unfold W4 at hd
  rw[j5]at hd
  by_cases hi:i < c
  .rw[u2d hi]at hd
   cases hd
   exact step i ρ hi hI
  .rw[u0B (by simpa using hi)]at hd
   cases hd
 .rw[u0m]at hI
  rwa[show(W4 lo c).length=c by unfold W4;simp]at hI
theorem Wv {t:Ev->Option Bool}(I:SE->Prop)(μ:SE->Nat)(step:∀ ρ,I ρ->∃ c,t (visG ρ)=some c/\(c=true->(g ρ).w (fun ρ'=>I ρ'/\μ ρ' < μ ρ) n (fun ρ'=>I ρ'/\μ ρ' < μ ρ) r)/\(c=false->n ρ)):∀ (fu:Nat) (ρ:SE),I ρ->μ ρ < fu->(v5 t g fu ρ).w n b k r
 | 0,ρ,_,hf=>by omega
 | fu+1,ρ,hI,hf=>by
  obtain⟨c,e,q1,q2⟩:=step ρ hI
  unfold v5
  rw[e]
  cases c with
  | false=>exact .nx (q2 rfl)
  | true =>
   have q:=q1 rfl
   dsimp only
   cases hg:g ρ with
   | nx ρ'=>rw[hg]at q;exact Wv I μ step fu ρ' q.nxi.1 (by have:=q.nxi.2;omega)
   | ct ρ'=>rw[hg]at q;exact Wv I μ step fu ρ' q.cti.1 (by have:=q.cti.2;omega)
   | bk ρ'=>rw[hg]at q;exact .nx q.bki
   | rt d'=>rw[hg]at q;exact .rt q.rti
   | no=>rw[hg]at q;exact q.noi.elim
end
theorem Xv {m:Nat}{g:SE->Ctl}{ds:List D}{d:D}{ρ:SE}(e:ds.map .v++List.replicate (m - ds.length) .no=ρ)(q:(g ρ).w (λ_=>d=.non) noP noP (λd'=>d'=d)):fnD m g ds=some d:=by
 unfold fnD
 rw[e]
 cases hg:g ρ with
 | nx ρ'=>rw[hg]at q;rw[show d=.non from q.nxi]
 | rt d'=>rw[hg]at q;rw[show d'=d from q.rti]
 | bk _=>rw[hg]at q;exact q.bki.elim
 | ct _=>rw[hg]at q;exact q.cti.elim
 | no=>rw[hg]at q;exact q.noi.elim
theorem WH {m:Bool}{i:Nat}{f:Ev->Option D}{ρ:SE}{ds:List D}{d:D}(h1:vEv m f ρ=some d)(h2:ρ[i]?=some (.o ds))(h3:ds.length<=1000):wW m i f ρ=.nx (ρ.set i (.o (ds++[d]))):=by
 unfold wW
 rw[h1,h2]
 show(match (if decide (ds.length < sizeLine)=true then some (ρ.set i (.o (ds++[d])))else none)with | some ρ'=>Ctl.nx ρ' | none=>Ctl.no)=_
 rw[t4 (j7 (XS h3))]
theorem zbh {b:D->Option (List (Option D))}{t:Ev->Option Bool}{f:Ev->Option D}{ρ:Ev}{α:Type}(c:α->D)(y:α->D):∀ (xs:List α),(∀ x∈xs,∃ own,b (c x)=some own/\t (own++ρ)=some true/\f (own++ρ)=some (y x))->lcD b t f ρ (xs.map c)=some (xs.map y)
 | [],_=>rfl
 | x::xs,h=>by
  obtain⟨own,h1,h2,h3⟩:=h x d6
  show lcD b t f ρ (c x::xs.map c)=_
  unfold lcD
  rw[h1]
  simp only[i7,h2,u2I,h3,zbh c y xs λz hz=>h z (r8 _ hz)]
  rfl
theorem WC {b:D->Option (List (Option D))}{t:Ev->Option Bool}{f:Ev->Option D}{ρ:Ev}{α:Type}(c:α->D)(p:α->Bool)(y:α->D):∀ (xs:List α),(∀ x∈xs,∃ own,b (c x)=some own/\t (own++ρ)=some (p x)/\(p x=true->f (own++ρ)=some (y x)))->lcD b t f ρ (xs.map c)=some ((xs.filter p).map y)
 | [],_=>rfl
 | x::xs,h=>by
  obtain⟨own,h1,h2,h3⟩:=h x d6
  have ih:=WC c p y xs λz hz=>h z (r8 _ hz)
  show lcD b t f ρ (c x::xs.map c)=_
  unfold lcD
  rw[h1]
  simp only[i7,h2]
  cases hp:p x with
  | false =>
   rw[j4 u9,ih,u2a,j4 (by rw[hp];exact u9)]
  | true =>
   rw[t4 rfl,h3 hp,ih,u2a,t4 hp]
   rfl
mutual
def noS:D->Bool
 | .tup ds=>ziT ds
 | .lst ds=>ziT ds
 | .scr _=>false
 | _=>true
def ziT:List D->Bool
 | []=>true
 | d::ds=>noS d&&ziT ds
end
theorem YY:∀ {ds:List D} {i:Nat} {d:D},ziT ds=true->ds[i]?=some d->noS d=true
 | [],_,_,_,h=>by simp at h
 | d::ds,i,e,h,he=>by
  unfold ziT at h
  rw[g0]at h
  cases i with
  | zero=>simp at he;subst he;exact h.1
  | succ i=>exact YY h.2 (by simpa using he)
theorem vp {n:Nat}(h:n<=1000):lim n=true:=by
 unfold lim
 exact j7 (u0S (XS h))
theorem zdu (lo:Int)(n:Nat):(W4 lo n).length=n:=by unfold W4;simp
end Dl
namespace Dl
open PySem L2
abbrev Pr:=Int × Int
def prD (t:Pr):D:=.tup [.int t.1,.int t.2]
def zoY:D->Option Pr
 | .tup [.int a,.int b]=>some (a,b)
 | _=>none
def zdQ:List D->Option (List Pr)
 | []=>some []
 | d::ds=>(zoY d).bind λt=>(zdQ ds).map (t::·)
theorem zl7 {d:D}{t:Pr}(h:zoY d=some t):d=prD t:=by
 unfold zoY at h
 split at h
 .cases h;rfl
 .cases h
theorem zej:∀ {ds:List D} {ts:List Pr},zdQ ds=some ts->ds=ts.map prD
 | [],ts,h=>by cases h;rfl
 | d::ds,ts,h=>by
  unfold zdQ at h
  obtain⟨t,h1,h2⟩:=u5.mp h
  obtain⟨us,h3,rfl⟩:=u8.mp h2
  rw[zl7 h1,zej h3]
  rfl
theorem zhD (ts:List Pr):zdQ (ts.map prD)=some ts:=by
 induction ts with
 | nil=>rfl
 | cons t ts ih =>
  show(zoY (prD t)).bind (λu=>(zdQ (ts.map prD)).map (u::·))=_
  rw[ih]
  rfl
def zmS (a b:Pr):Bool:=!OwnSort.bltP b a
def XG (ts:List Pr):List Pr:=ts.mergeSort zmS
def leI (a b:Int):Bool:=decide (a<=b)
def zjn (ns:List Int):List Int:=ns.mergeSort leI
theorem zaR {a b:Pr}:OwnSort.bltP b a=false↔zmS a b=true:=by unfold zmS;simp
theorem vV {a b:Pr}:zmS a b=true↔a.1 < b.1\/(a.1=b.1/\a.2<=b.2):=by
 rw[<-zaR]
 unfold OwnSort.bltP
 rw[u0u]
 omega
theorem zfR {ts us:List Pr}(p:us.Perm ts)(h:us.Pairwise λa b=>OwnSort.bltP b a=false):us=XG ts:=by
 refine u2g (le:=λa b=>zmS a b=true) (λa b _ _ h1 h2=>?_) (h.imp λx=>zaR.mp x) ?_ (p.trans (u2Z _ _).symm)
 .rw[vV]at h1 h2
  exact u2A (by omega) (by omega)
 .exact u2l (λa b c h1 h2=>by rw[vV]at *;omega) (λa b=>by rw[u2R,vV,vV];omega) _
theorem zfQ {ts us:List Int}(p:us.Perm ts)(h:us.Pairwise (·<=·)):us=zjn ts:=by
 refine u2g (le:=λa b=>leI a b=true) (λa b _ _ h1 h2=>?_) (h.imp λx=>j7 x) ?_ (p.trans (u2Z _ _).symm)
 .unfold leI at h1 h2
  rw[r9]at h1 h2
  omega
 .exact u2l (λa b c h1 h2=>by unfold leI at *;rw[r9]at *;omega) (λa b=>by unfold leI;rw[u2R,r9,r9];omega) _
def zck:List D->Option (List D)
 | [.lst ds]=>if ds.length < 64 then match zdQ ds with
  | some ts=>some ((XG ts).map prD)
  | none=>match zh4 ds with
   | some ns=>some ((zjn ns).map .int)
   | none=>none
  else none
 | _=>none
variable [KK]
section
variable {X:Cx}{e:Expr}{pos:Pos}
theorem At.pr_inv {F:Hp}{t:Pr}{v:V}(h:At F (prD t) v):∃ a,v=.ref a/\F a=some (.tup [.int t.1,.int t.2]):=by
 obtain⟨a,xs,rfl,hx,al⟩:=h.tup_inv
 obtain⟨x,r,rfl,a1,al⟩:=al.cons_inv
 obtain⟨y,r,rfl,a2,al⟩:=al.cons_inv
 cases al.nil_inv
 cases a1.int_inv
 cases a2.int_inv
 exact⟨a,rfl,hx⟩
theorem zcs (hc:X.calm=true):Y2 X (.builtin "sorted") (λxs H Q=>∃ F p ys ds out,xs=[.ref p]/\xa F H/\H p=some (.lst ys)/\AtL F ds ys/\zck [.lst ds]=some out/\∀ l zs,H l=none->AtL F out zs->Q (.ref l) (upd H l (.lst zs))):=by
 intro pins s σ H xs us Q I r h
 obtain⟨F,p,ys,ds,out,rfl,sm,hp,al,hs,q⟩:=h
 obtain⟨u,rfl,ru⟩:=WW r
 cases ru
 obtain⟨its,rv,pl,hz⟩:=I.list (SqL.of hp)
 have hlen:its.length=ds.length:=by rw[<-rv.length,al.length]
 unfold zck at hs
 dsimp only at hs
 split at hs <;> try cases hs
 rename_i h64
 have fin:∀ (zs:List V) (ws:List Value),zs.length < 64->yM zs ws->AtL F out zs->EP X pins σ Q (.ref (s.heap.objs.size+1)) { s with heap:=PyProof.Rows.sortedAll s.heap its ws.toArray }:=λzs ws hl rz az=>by
  have hn:H (s.heap.objs.size+1)=none:=I.hok.fresh (u1r _)
  obtain⟨ep,he⟩:=PyProof.Rows.sortedAll_at s.heap its ws.toArray
  refine⟨.ref (s.heap.objs.size+1),upd H (s.heap.objs.size+1) (.lst zs),I.laid (t':=s.toks) (λb o z=>PyProof.Rows.sortedAll_old z) (u1r _) ?_,rfl,q _ zs hn az⟩
  exact⟨u0S (XS (by omega)),ws,ep,rz,he⟩
 split at hs
 .rename_i ts hts
  cases hs
  have eds:=zej hts
  subst eds
  have look:∀ {v:Value},v∈its->∃ a t,v=.ref a/\t∈ts/\F a=some (.tup [.int t.1,.int t.2])/\OwnSort.TP s.heap v t:=λ{v} hv=>by
   obtain⟨j,hj,rfl⟩:=u0G hv
   have hj2:j < ts.length:=by rw[u6]at hlen;omega
   obtain⟨x,hx,ax⟩:=al.get (i:=j) (d:=prD ts[j]) (by rw[j5];simp[hj2])
   obtain⟨a,rfl,ha⟩:=ax.pr_inv
   obtain⟨v,hv,rvv⟩:=rv.get hx
   have e1:its[j]?=some its[j]:=by simp[hj]
   rw[hv]at e1
   cases e1
   have e2:its[j]=.ref a:=rvv
   refine⟨a,ts[j],e2,u05 hj2,ha,?_⟩
   obtain⟨us,ru,⟨o,ho,hcl,n,hd⟩,_⟩:=I.tuple (SqT.of (sm _ _ ha))
   obtain⟨u1,u2,rfl,r1,r2⟩:=zfY ru
   obtain⟨t1,rfl⟩:=r1
   obtain⟨t2,rfl⟩:=r2
   exact⟨a,o,n,t1,t2,e2,ho,hcl,hd⟩
  refine OwnSort.own_sorted pl.isList (λv hv=>let ⟨a,t,_,_,_,ht⟩:=look hv;⟨t,ht⟩) (by omega) λo2 pm ri=>?_
  obtain⟨us,l1,l2,l3⟩:=ri
  have hlo:o2.toList.length=ts.length:=by rw[pm.length_eq,hlen,u6]
  -- the values' addresses
  have zsOf:∀ (ws:List Value) (vs:List Pr),ws.length=vs.length->(∀ w∈ws,w∈its)->(∀ (i:Nat) v t,ws[i]?=some v->vs[i]?=some t->OwnSort.TP s.heap v t)->∃ zs:List V,yM zs ws/\AtL F (vs.map prD) zs:=by
   intro ws
   induction ws with
   | nil =>
    intro vs hl _ _
    cases vs with
    | nil=>exact⟨[],.nil,.nil⟩
    | cons _ _=>simp at hl
   | cons w ws ih =>
    intro vs hl hm ht
    cases vs with
    | nil=>simp at hl
    | cons t vs =>
     obtain⟨zs,z1,z2⟩:=ih vs (by simpa using hl) (λw' hw'=>hm w' (r8 _ hw')) (λi v t h1 h2=>ht (i+1) v t (by simpa using h1) (by simpa using h2))
     obtain⟨a,t',rfl,_,ha,htp⟩:=look (hm w d6)
     have et:t'=t:=htp.uniq (ht 0 _ t rfl rfl)
     subst et
     exact⟨.ref a::zs,.cons rfl z1,.cons (.tup ha (.cons .int (.cons .int .nil))) z2⟩
  obtain⟨zs,z1,z2⟩:=zsOf o2.toList us l1 (λw hw=>pm.mem_iff.mp hw) l2
  have keysPerm:us.Perm ts:=by
   -- by the keys of the values
   have kv:∀ (ws:List Value) (vs:List Pr),ws.length=vs.length->(∀ (i:Nat) v t,ws[i]?=some v->vs[i]?=some t->OwnSort.TP s.heap v t)->vs=ws.map λv=>(OwnSort.keyP s.heap v).getD (0,0):=by
    intro ws
    induction ws with
    | nil=>intro vs hl _;cases vs with
     | nil=>rfl
     | cons _ _=>simp at hl
    | cons w ws ih =>
     intro vs hl ht
     cases vs with
     | nil=>simp at hl
     | cons t vs =>
      rw[p7,OwnSort.keyP_of (ht 0 w t rfl rfl),<- ih vs (by simpa using hl) λi v t h1 h2=>ht (i+1) v t (by simpa using h1) (by simpa using h2)]
      rfl
   rw[kv _ _ l1 l2,kv its ts (by rw[hlen,u6]) λi v t h1 h2=>?_]
   .exact pm.map _
   .obtain⟨x,hx,ax⟩:=al.get (i:=i) (d:=prD t) (by rw[j5,h2];rfl)
    obtain⟨a,rfl,ha⟩:=ax.pr_inv
    obtain⟨v',hv',rvv⟩:=rv.get hx
    rw[h1]at hv'
    cases hv'
    obtain⟨us',ru',⟨o,ho,hcl,n,hd⟩,_⟩:=I.tuple (SqT.of (sm _ _ ha))
    obtain⟨u1,u2,rfl,r1,r2⟩:=zfY ru'
    obtain⟨t1,rfl⟩:=r1
    obtain⟨t2,rfl⟩:=r2
    exact⟨a,o,n,t1,t2,rvv,ho,hcl,hd⟩
  have e3:=zfR keysPerm l3
  rw[e3]at z2
  have:=fin zs o2.toList (by rw[z1.length];rw[u6]at h64;omega) z1 z2
  simpa using this
 .split at hs <;> try cases hs
  rename_i ns hns
  have eds:=VA hns
  subst eds
  have hI:PyProof.Rows.IntsAre its ns:=YJ (by rw[<-al.of_ints];exact rv)
  refine PyProof.Rows.sorted_ints pl.isList hI (by omega) λo2 ns' h1 h2 h3=>?_
  have e3:=zfQ h2 h3
  subst e3
  have z1:yM ((zjn ns).map V.int) o2.toList:=zal h1
  have:=fin ((zjn ns).map V.int) o2.toList (by rw[u6,h2.length_eq];rw[u6]at h64;omega) z1 (.ints _)
  simpa using this
theorem zcT {p:Pos} {f:Ev->Option (List D)} (hc:X.calm=true) (hgl:Gl X "sorted") (hm:X.mg "sorted"=none) (ha:AD X [e] f)
 (he:starEach [e] X.env=(false,eval e X.env)::starEach [] X.env:=by rfl) (hpl:(backTo pos (starEach [] X.env)).any (·.1)=false:=by rfl):FL X (.Call (.Name "sorted" p) [e] [] pos) (fFn zck f):=by
 obtain⟨t,pa,ra⟩:=ha
 refine⟨_,Vk (zcs hc) hgl hm zaf pa (by decide) (by decide) he hpl,fun σ ρ F H z Q s va e q=>?_⟩
 obtain⟨ds,e1,e2⟩:=u5.mp e
 refine ra σ ρ F H ds _ s va e1 λF1 H1 vs g1 a1=>?_
 have e2':=e2
 unfold zck at e2'
 split at e2'
 .obtain⟨x,r,rfl,ax,ar⟩:=a1.cons_inv
  cases ar.nil_inv
  obtain⟨p,ys,rfl,hx,bl⟩:=ax.lst_inv
  exact⟨F1,p,ys,_,z,rfl,g1.fh,g1.fh _ _ hx,bl,e2,λl zs hl az=>q _ _ _ _ (g1.trans (Gr.hide g1.fh hl _)) (zdo g1 hl) (g1.fh.free hl) zt az⟩
 .cases e2'
end
end Dl
namespace Dl
open PySem L2
variable [KK]
def zpP (m:Nat)(p:List D->Option (List D)):Sp:=λvs H Q _=>∃ ds es F,ds.length=m/\xa F H/\AtL F ds vs/\p ds=some es/\∀ F' H' q xs,Gr F H F' H'->H q=none->F' q=none->H' q=some (.lst xs)->AtL F' es xs->Q (.ref q) H'
def SDO (X:Cx)(sts:List Stmt)(g:SE->Ctl)(i:Nat):Prop:=∃ t,PSs X sts t/\∀ (Fb Hb F H:Hp) (ρ:SE) (σ:St) (E:ziU),Rl Fb Hb F H ρ σ->∀ (ρ':SE) (es:List D),g ρ=.nx ρ'->ρ'[i]?=some (.o es) ->
 (∀ F' H' q xs,Gr Fb Hb F' H'->Hb q=none->F' q=none->H' q=some (.lst xs)->AtL F' es xs->E.rt (.ref q) H')->t E σ H
section
variable {X:Cx}{st:Stmt}{sts:List Stmt}{a e:Expr}{pos:Pos}
theorem zlU {i:Nat}(h:PE X e (zkQ i)):SDO X [.Return (some e) pos] zF i:=by
 refine⟨_,zgV (zkX h),λFb Hb F H ρ σ E rl ρ' es hg hi k=>?_⟩
 cases hg
 obtain⟨p,xs,f1,f2,f3,f4,f5⟩:=rl.owns i es hi
 exact⟨_,f1,k F H p xs rl.gr f2 f3 f4 f5⟩
theorem Y1 {g h:SE->Ctl}{i:Nat}(h1:SD X st g)(h2:SDO X sts h i):SDO X (st::sts) (zE g h) i:=by
 obtain⟨t,p,r⟩:=h1
 obtain⟨u,p2,r2⟩:=h2
 refine⟨_,zex p p2,λFb Hb F H ρ σ E rl ρ' es hg hi k=>?_⟩
 refine r Fb Hb F H ρ σ { E with nx:=u E } rl ?_
 unfold zE at hg
 cases e:g ρ with
 | nx ρ1 =>
  rw[e]at hg
  exact λF' H' σ' rl'=>r2 Fb Hb F' H' ρ1 σ' E rl' ρ' es hg hi k
 | rt d=>rw[e]at hg;cases hg
 | bk d=>rw[e]at hg;cases hg
 | ct d=>rw[e]at hg;cases hg
 | no=>rw[e]at hg;cases hg
end
def zn0 (n:Nat)(g:SE->Ctl)(i:Nat)(ds:List D):Option (List D):=match g (ds.map .v++List.replicate (n - ds.length) .no) with
 | .nx ρ=>match ρ[i]? with
  | some (.o es)=>some es
  | _=>none
 | _=>none
theorem znd {P:Program}{w:World}{K:W.Frag}{mg:Str->Option Value}{base:Heap}{x qual:Str}{st:Stmt}{f:Addr}{fd:FuncData}{N ps:List Str}{k:Nat}{g:SE->Ctl}{i:Nat}(Fu:Fun K x qual st f fd)(S:zw N ps (zm st))
 (hb:∀ (cdv:Value) (A:Around) (outer:List Env) (s:Shared) (H:Hp) (E:XK),Zv k (A.deeper (PyProof.Rows.envOfC qual (zm st) s.heap.objs.size f cdv))->SDO (zju CX0 P w K mg base N qual (zm st) f cdv A outer s H E).nox (vL st) g i) :
 xc P w K mg base CX0 (k+1) f fd ps (zpP ps.length (zn0 N.length g i)):=by
 refine Fu.ok S (λvs H Q E h=>?_) λcdv A outer s H vs Q E hr h=>?_
 .obtain⟨ds,d,F,hl,_,a,_⟩:=h
  rw[a.length];exact hl
 .obtain⟨ds,es,F,hl,sm,a,e,q⟩:=h
  obtain⟨t,p,r⟩:=hb cdv A outer s H E hr
  unfold zn0 at e
  cases hg:g (ds.map .v++List.replicate (N.length - ds.length) .no) with
  | nx ρ =>
   rw[hg]at e
   dsimp only at e
   cases hi:ρ[i]? with
   | none=>rw[hi]at e;cases e
   | some sl =>
    rw[hi]at e
    cases sl with
    | no=>cases e
    | v _=>cases e
    | m _ _ _=>cases e
    | o es' =>
     cases e
     exact⟨t,p,r F H F H _ _ _ (zeP sm a) ρ es hg hi λF' H' q' xs g h0 hF hH hx=>q F' H' q' xs g h0 hF hH hx⟩
  | rt d'=>rw[hg]at e;cases e
  | bk ρ=>rw[hg]at e;cases e
  | ct ρ=>rw[hg]at e;cases e
  | no=>rw[hg]at e;cases e
theorem zna {P:Program}{w:World}{K:W.Frag}{mg:Str->Option Value}{base:Heap}{f:Addr}{fd:FuncData}{ps:List Str}{k m:Nat}{p:List D->Option (List D)}(F:xc P w K mg base CX0 k f fd ps (zpP m p)):xc P w K mg base CX0 k f fd ps (spD m λds=>(p ds).map .lst) :=
 F.imp λvs H Q E ⟨ds,d,F',h1,h2,h3,h4,h5⟩=>by
  obtain⟨es,e1,rfl⟩:=u8.mp h4
  exact⟨ds,es,F',h1,h2,h3,e1,λF2 H2 q xs g h0 hF hH hx=>h5 _ _ _ (g.show h0 hF hH) (At.lst zt (hx.mono (λb u e=>by rw[zq (zr e hF)];exact e)))⟩
omit [KK] in
theorem zlp {m:Nat}{g:SE->Ctl}{i:Nat}{ds:List D}{ρ:SE}(R:List D->Prop)(e:ds.map .v++List.replicate (m - ds.length) .no=ρ)(q:(g ρ).w (fun ρ'=>∃ es,ρ'[i]?=some (.o es)/\R es) noP noP (λ_=>False)):∃ es,zn0 m g i ds=some es/\R es:=by
 unfold zn0
 rw[e]
 cases hg:g ρ with
 | nx ρ' =>
  rw[hg]at q
  obtain⟨es,h1,h2⟩:=q.nxi
  exact⟨es,by dsimp only;rw[h1],h2⟩
 | bk ρ'=>rw[hg]at q;exact q.bki.elim
 | ct ρ'=>rw[hg]at q;exact q.cti.elim
 | rt d=>rw[hg]at q;exact q.rti.elim
 | no=>rw[hg]at q;exact q.noi.elim
end Dl
namespace Dl
open PySem L2
variable [KK]
section
variable {X:Cx}{a e:Expr}
def zht:V->List V->Hp->VK->Prop:=λx vs H Q=>∃ G d ds y l xs j,x=.ref l/\vs=[y]/\xa G H/\G l=some (.lst xs)/\AtL G ds xs/\At G d y/\okE 20 d=true/\ds.all (okE 20)=true/\j < ds.length/\eqN 20 (ds.getD j .non) d=true/\(∀ m,m < j->eqN 20 (ds.getD m .non) d=false)/\Q (.int (j:Int)) H
theorem zbi {k:Nat}{pins:List (Addr × Obj)}{s:Shared}{σ:St}{H G:Hp}{d:D}{ds:List D}{y:V}{u:Value}{xs:List V}{us:List Value}(hr:Zv k X.A)(I:Inv X pins σ H s)(sm:xa G H)(kd:okE 20 d=true)(kds:ds.all (okE 20)=true)(ad:At G d y)(ru:yZ y u)(al:AtL G ds xs)(r:yM xs us):∀ z∈us,SeqAt.EqAt X.A.in1 s z u (zar G d z):=λz hz=>by
 have hu:X.A.in1.units+20 < cLine:=by have:=hr.un;show X.A.units+1+20 < cLine;omega
 obtain⟨j,hj,rfl⟩:=u0G hz
 obtain⟨x',ax,rx'⟩:=al.nth r hj
 have hj':j < ds.length:=by have:=al.length;have:=r.length;omega
 have k2:=xU kds hj'
 rw[VX ax rx' k2]
 exact za5 I sm 20 k2 kd ax ad rx' ru hu
theorem zga {k:Nat} (hr:Zv k X.A):MtM X "list.index" zht:=by
 intro pins s σ H x vs v us Q I rx rv h
 obtain⟨G,d,ds,y,l,xs,j,rfl,rfl,sm,hx,al,ad,kd,kds,hj,hit,hno,q⟩:=h
 cases rx
 obtain⟨u,rfl,ru⟩:=rv.one
 obtain⟨z,its,n,r,hl,e⟩:=I.lstM (sm _ _ hx)
 have mem:=zbi hr I sm kd kds ad ru al r
 have hlen:its.length=ds.length:=by rw[<-hl,al.length]
 have ans:∀ m (hm:m < its.length),zar G d its[m]=eqN 20 (ds.getD m .non) d:=λm hm=>by
  obtain⟨x',ax,rx'⟩:=al.nth r hm
  exact VX ax rx' (xU kds (by omega))
 have hsm:((j:Nat):Int) < 2 ^ 63 - 1:=by
  have h1:j < sizeLine:=by have:=al.length;omega
  have h2:(sizeLine:Int) < 2 ^ 63 - 1:=by decide
  omega
 refine u38 PySem.F.slot_list_index ⟨_,e,rfl⟩ PySem.F.entry_list_index (PySem.F.args_list_index_2 _ _) (SeqAt.list_indexAt l its.toArray n none #[] u (zar G d) j (by rw[t7];omega) hsm ?_ ?_) ⟨e,λy hy=>mem y (by simpa using hy),?_⟩
 .show zar G d its[j]=true
  rw[ans j (by omega)]
  exact hit
 .intro m hm hlt
  show zar G d its[m]=false
  rw[ans m (by omega)]
  exact hno m hlt
 .exact⟨.int (j:Int),H,I.tok _,⟨_,rfl⟩,q⟩
def zmR (c d:D):Option D:=match c with
 | .lst ds=>if okE 20 d=true/\ds.all (okE 20)=true then (ds.findIdx? λe=>eqN 20 e d).map λ(j:Nat)=>D.int (j:Int)else none
 | _=>none
def zkj (m:D->D->Option D)(f:Ev->Option D)(g:Ev->Option (List D)):Ev->Option D:=fun ρ=>(f ρ).bind λc=>(g ρ).bind λds=>match ds with
 | [d]=>m c d
 | _=>none
theorem zjw {p pos':Pos}{f:Ev->Option D}{g:Ev->Option (List D)}(ha:ED X a f)(he:AD X [e] g)
 (hp:∀ {ta:TE} {t:TA},PE X a ta->PA X [e] t->PE X (.Call (.Attribute a "index" p) [e] [] pos') (tBM X.K "list" zht ta t)):ED X (.Call (.Attribute a "index" p) [e] [] pos') (zkj zmR f g):=by
 obtain⟨ta,pa,ra⟩:=ha
 obtain⟨t,pe,re⟩:=he
 refine⟨_,hp pa pe,fun σ ρ F H z Q s va h0 q=>?_⟩
 obtain⟨c,e1,h1⟩:=u5.mp h0
 obtain⟨as,e2,h⟩:=u5.mp h1
 clear h0 h1
 split at h
 .rename_i d
  unfold zmR at h
  split at h
  .rename_i ds
   split at h
   .rename_i hk
    obtain⟨j,hj,rfl⟩:=u8.mp h
    obtain⟨j1,j2,j3⟩:=u2k.mp hj
    refine ra σ ρ F H _ _ s va e1 λF1 H1 v g1 a1=>?_
    obtain⟨l,xs,rfl,hx,al⟩:=a1.lst_inv
    refine⟨.inl ⟨rfl,xs,SqL.of (g1.fh _ _ hx)⟩,?_⟩
    refine re σ ρ F1 H1 _ _ g1.fh (va.mono g1.ff) e2 λF2 H2 vs g2 a2=>?_
    obtain⟨y,r',rfl,ay,ar⟩:=a2.cons_inv
    cases ar.nil_inv
    have gd:∀ m (hm:m < ds.length),ds.getD m .non=ds[m]:=λm hm=>by rw[u0r,t9 hm];rfl
    refine⟨F2,d,ds,y,l,xs,j,rfl,rfl,g2.fh,g2.ff _ _ hx,al.mono g2.ff,ay,hk.1,hk.2,j1,?_,?_,q F2 H2 _ (g1.trans g2) .int⟩
    .rw[gd j j1];exact j2
    .intro m hm
     rw[gd m (by omega)]
     have:=j3 m hm
     simpa using this
   .cases h
  .cases h
 .cases h
end
end Dl
namespace Dl
open PySem L2
def zo9:D->Option Key
 | .int i=>some (.inl i)
 | .str x=>some (.inr x)
 | _=>none
def zkm:List D->Option (List Key)
 | []=>some []
 | d::ds=>(zo9 d).bind λk=>(zkm ds).map (k::·)
def keyT:D->Option (List Key)
 | .tup ds=>zkm ds
 | _=>none
def zmv (t:Bool)(d:D):Option (List Key):=if t=true then keyT d else (zo9 d).map ([·])
def intQ:Int->Int->Bool
 | .ofNat a,.ofNat b=>Nat.beq a b
 | .negSucc a,.negSucc b=>Nat.beq a b
 | _,_=>false
theorem zeS {a b:Int}:intQ a b=true↔a=b:=by
 cases a with
 | ofNat a=>cases b with
  | ofNat b=>exact⟨λh=>(by rw[Nat.eq_of_beq_eq_true h]),λh=>(by cases h;exact Nat.beq_refl a)⟩
  | negSucc b=>exact⟨λh=>(by cases h),λh=>(by cases h)⟩
 | negSucc a=>cases b with
  | ofNat b=>exact⟨λh=>(by cases h),λh=>(by cases h)⟩
  | negSucc b=>exact⟨λh=>(by rw[Nat.eq_of_beq_eq_true h]),λh=>(by cases h;exact Nat.beq_refl a)⟩
def zjo:Key->Key->Bool
 | .inl i,.inl j=>intQ i j
 | .inr a,.inr b=>decide (a=b)
 | _,_=>false
def zo4:List Key->List Key->Bool
 | [],[]=>true
 | a::r,b::s=>match zjo a b with
  | true=>zo4 r s
  | false=>false
 | _,_=>false
theorem zc3 {a b:Key}:zjo a b=true↔a=b:=by
 cases a with
 | inl i=>cases b with
  | inl j=>exact⟨λh=>(by rw[zeS.mp h]),λh=>(by cases h;exact zeS.mpr rfl)⟩
  | inr b=>exact⟨λh=>(by cases h),λh=>(by cases h)⟩
 | inr i=>cases b with
  | inl j=>exact⟨λh=>(by cases h),λh=>(by cases h)⟩
  | inr b=>exact⟨λh=>(by rw[d7 h]),λh=>(by cases h;exact j7 rfl)⟩
theorem zeJ {x y:List Key}:zo4 x y=true↔x=y:=by
 induction x generalizing y with
 | nil=>cases y with
  | nil=>exact⟨λ_=>rfl,λ_=>rfl⟩
  | cons b s=>exact⟨λh=>(by cases h),λh=>(by cases h)⟩
 | cons a r ih=>cases y with
  | nil=>exact⟨λh=>(by cases h),λh=>(by cases h)⟩
  | cons b s =>
   show(match zjo a b with | true=>zo4 r s | false=>false)=true↔_
   cases h:zjo a b with
   | true=>rw[zc3.mp h];exact ih.trans ⟨λh=>(by rw[h]),λh=>(by cases h;rfl)⟩
   | false=>exact⟨λh=>(by cases h),λe=>(by cases e;rw[zc3.mpr rfl]at h;cases h)⟩
def ze8 (x y:List Key):Decidable (x=y):=match h:zo4 x y with
 | true=>.isTrue (zeJ.mp h)
 | false=>.isFalse λe=>by rw[zeJ.mpr e]at h;cases h
def zat:List (List Key)->List D->List Key->Option D
 | k'::ks,v::vs,k=>@ite _ (k'=k) (ze8 k' k) (some v) (zat ks vs k)
 | _,_,_=>none
def zmL:List (List Key)->List D->List Key->D->List D
 | k'::ks,v::vs,k,d=>(@ite _ (k'=k) (ze8 k' k) d v)::zmL ks vs k d
 | _,_,_,_=>[]
def zfv (ks:List (List Key))(vs:List D)(k:List Key):List (List Key):=if (zat ks vs k).isSome=true then ks else ks++[k]
def zfj (ks:List (List Key))(vs:List D)(k:List Key)(d:D):List D:=if (zat ks vs k).isSome=true then zmL ks vs k d else vs++[d]
theorem V8 {k' k:List Key}{ks:List (List Key)}{v:D}{vs:List D}:zat (k'::ks) (v::vs) k=if k'=k then some v else zat ks vs k:=by
 show @ite _ (k'=k) (ze8 k' k) (some v) (zat ks vs k)=_
 by_cases h:k'=k
 .rw[t4 h,t4 h]
 .rw[j4 h,j4 h]
section
variable [KK]
theorem zd6 {F:Hp}{d:D}{k:Key}{y:V}(h:zo9 d=some k)(a:At F d y):y=kV k:=by
 cases d with
 | int i=>cases h;exact a.int_inv
 | str x=>cases h;exact a.str_inv
 | _=>cases h
theorem zeI {F:Hp}:∀ {ds:List D} {ks:List Key} {ys:List V},zkm ds=some ks->AtL F ds ys->ys=ks.map kV
 | [],_,_,h,a=>by cases h;exact a.nil_inv
 | d::ds,_,_,h,a=>by
  obtain⟨k,h1,h2⟩:=u5.mp h
  obtain⟨r,h3,rfl⟩:=u8.mp h2
  obtain⟨x,xs,rfl,a1,a2⟩:=a.cons_inv
  rw[zd6 h1 a1,zeI h3 a2]
  rfl
theorem zhQ {F:Hp}{d:D}{k:List Key}{y:V}(h:keyT d=some k)(a:At F d y):∃ b,y=.ref b/\F b=some (.tup (k.map kV)):=by
 cases d with
 | tup ds =>
  obtain⟨b,ys,rfl,hb,al⟩:=a.tup_inv
  rw[zeI (show zkm ds=some k from h) al]at hb
  exact⟨b,rfl,hb⟩
 | _=>cases h
section
variable {κ:Type}[DecidableEq κ](f:κ->List Key)(hf:∀ a b,f a=f b->a=b)
include hf
theorem zbo {F:Hp}{k:κ}:∀ {kvs:List (κ × V)} {vs:List D},AtL F vs (kvs.map (·.2)) ->
 (∀ d,zat (kvs.map λp=>f p.1) vs (f k)=some d->∃ x,zew kvs k=some x/\At F d x)/\(zat (kvs.map λp=>f p.1) vs (f k)=none->zew kvs k=none)
 | [],_,_=>⟨λd h=>(by cases h),λ_=>rfl⟩
 | p::kvs,[],a=>by cases a.nil_inv
 | p::kvs,v::vs,a=>by
  obtain⟨x,r,e,a1,a2⟩:=a.cons_inv
  cases e
  have ih:=zbo (k:=k) a2
  by_cases h:p.1=k
  .rw[W5 h]
   have e:zat ((p::kvs).map λp=>f p.1) (v::vs) (f k)=some v:=by
    rw[p7,V8,t4 (by rw[h])]
   rw[e]
   exact⟨λd z=>(by cases z;exact⟨_,rfl,a1⟩),λz=>(by cases z)⟩
  .rw[Vl h]
   have e:zat ((p::kvs).map λp=>f p.1) (v::vs) (f k)=zat (kvs.map λp=>f p.1) vs (f k):=by
    rw[p7,V8,j4 (λz=>h (hf _ _ z))]
   rw[e]
   exact ih
theorem zkB {F:Hp}{k:κ}{kvs:List (κ × V)}{vs:List D}(a:AtL F vs (kvs.map (·.2))):(zat (kvs.map λp=>f p.1) vs (f k)).isSome=(zew kvs k).isSome:=by
 obtain⟨h1,h2⟩:=zbo f hf (k:=k) a
 cases h:zat (kvs.map λp=>f p.1) vs (f k) with
 | none=>rw[h2 h];rfl
 | some d=>obtain⟨x,e,_⟩:=h1 d h;rw[e];rfl
theorem zhS {F:Hp}{k:κ}{d:D}{y:V}(ad:At F d y):∀ {kvs:List (κ × V)} {vs:List D},AtL F vs (kvs.map (·.2)) ->
 AtL F (zmL (kvs.map λp=>f p.1) vs (f k) d) ((kvs.map λkv=>if kv.1=k then (kv.1,y)else kv).map (·.2))
 | [],_,_=>by unfold zmL;exact .nil
 | p::kvs,[],a=>by cases a.nil_inv
 | p::kvs,v::vs,a=>by
  obtain⟨x,r,e,a1,a2⟩:=a.cons_inv
  cases e
  have ih:=zhS (k:=k) ad a2
  rw[p7,p7]
  refine AtL.cons ?_ ih
  by_cases h:p.1=k
  .rw[t4 h,t4 (by rw[h])];exact ad
  .rw[j4 h,j4 (λz=>h (hf _ _ z))];exact a1
theorem ziM {F:Hp}{k:κ}{d:D}{y:V}(ad:At F d y){kvs:List (κ × V)}{vs:List D}(a:AtL F vs (kvs.map (·.2))) :
 (zdq kvs k y).map (λp=>f p.1)=zfv (kvs.map λp=>f p.1) vs (f k)/\AtL F (zfj (kvs.map λp=>f p.1) vs (f k) d) ((zdq kvs k y).map (·.2)):=by
 unfold zdq zfv zfj
 rw[zkB f hf a,zbN]
 cases h:(zew kvs k).isSome with
 | true =>
  rw[t4 rfl,t4 rfl,t4 rfl]
  refine⟨?_,zhS f hf ad a⟩
  rw[i4]
  refine u0v λp _=>?_
  by_cases e:p.1=k
  .show f (if p.1=k then (p.1,y)else p).1=_;rw[t4 e]
  .show f (if p.1=k then (p.1,y)else p).1=_;rw[j4 e]
 | false =>
  rw[j4 u9,j4 u9,j4 u9,p9,p9]
  exact⟨rfl,a.append (.cons ad .nil)⟩
end
theorem zgI (a b:Key)(h:[a]=[b]):a=b:=by cases h;rfl
theorem zk1 (a b:List Key)(h:a=b):a=b:=h
theorem zhX {F H:Hp}{a:Addr}{z t:Bool}{ks:List (List Key)}{xs:List V}{vs:List D}{kd:D}{k:List Key}{y:V}(s:xa F H)(hd:zaI F a z t ks xs)(al:AtL F vs xs)(hk:zmv t kd=some k)(ak:At F kd y) :
 ∃ o,zmT H a y o/\(∀ d,zat ks vs k=some d->∃ x,o=some x/\At F d x)/\(zat ks vs k=none->o=none):=by
 obtain⟨u,hd,rd⟩:=(hd.mono s).rd
 unfold zas at hd
 unfold zmv at hk
 cases t with
 | true =>
  rw[t4 rfl]at hd hk
  obtain⟨kvs,rfl,rfl,rfl⟩:=hd
  obtain⟨b,rfl,hb⟩:=zhQ hk ak
  exact⟨_,.inr ⟨kvs,k,b,rd,rfl,s _ _ hb,rfl⟩,zbo (λk=>k) zk1 al⟩
 | false =>
  rw[j4 u9]at hd hk
  obtain⟨kvs,rfl,rfl,rfl⟩:=hd
  obtain⟨k0,h2,rfl⟩:=u8.mp hk
  rw[zd6 h2 ak]
  exact⟨_,.inl ⟨kvs,k0,rd,rfl,rfl⟩,zbo (λk=>[k]) zgI al⟩
theorem zmr {F H:Hp}{a:Addr}{o:HO}{t:Bool}{ks:List (List Key)}{xs:List V}{vs:List D}{kd d:D}{k:List Key}{y v:V}{G:Hp}(h:H a=some o)(hd:zas o t ks xs)(al:AtL F vs xs)(hk:zmv t kd=some k)(ak:At G kd y)(s:xa G H)(ad:At F d v)
 (hl:ks.length < sizeLine):∃ o',zje H a y v (upd H a o')/\zeR F o' (.m t (zfv ks vs k) (zfj ks vs k d)):=by
 unfold zas at hd
 unfold zmv at hk
 cases t with
 | true =>
  rw[t4 rfl]at hd hk
  obtain⟨kvs,rfl,rfl,rfl⟩:=hd
  obtain⟨b,rfl,hb⟩:=zhQ hk ak
  obtain⟨q1,q2⟩:=ziM (λk=>k) zk1 (k:=k) ad al
  refine⟨_,zje.t h (s _ _ hb) (by simpa using hl),_,?_,q2⟩
  unfold zas
  rw[t4 rfl]
  exact⟨_,rfl,q1,rfl⟩
 | false =>
  rw[j4 u9]at hd hk
  obtain⟨kvs,rfl,rfl,rfl⟩:=hd
  obtain⟨k0,h2,rfl⟩:=u8.mp hk
  rw[zd6 h2 ak]
  obtain⟨q1,q2⟩:=ziM (λk=>[k]) zgI (k:=k0) ad al
  refine⟨_,zje.k h (by simpa using hl),_,?_,q2⟩
  unfold zas
  rw[j4 u9]
  exact⟨_,rfl,q1,rfl⟩
def zbt:D->D->Option D
 | .dct _ t ks vs,kd=>(zmv t kd).bind λk=>zat ks vs k
 | _,_=>none
section
variable {X:Cx}{a b c:Expr}{pos apos:Pos}
theorem VT {k:Nat}{f h:Ev->Option D}(hr:Zv k X.A)(ha:ED X a f)(hb:ED X b h)(hs:zo6 b):ED X (.Subscript a b pos) (zk zbt f h):=by
 obtain⟨ta,pa,ra⟩:=ha
 obtain⟨tb,pb,rb⟩:=hb
 refine⟨_,zlG (zlW hr) pa pb hs,fun σ ρ F H z Q s va e q=>?_⟩
 obtain⟨x,e1,e⟩:=u5.mp e
 obtain⟨y,e2,e⟩:=u5.mp e
 refine ra σ ρ F H x _ s va e1 λF1 H1 v g1 a1=>?_
 refine rb σ ρ F1 H1 y _ g1.fh (va.mono g1.ff) e2 λF2 H2 u g2 a2=>?_
 cases x with
 | dct z' t ks vs =>
  obtain⟨kk,h1,h2⟩:=u5.mp e
  obtain⟨p,xs,rfl,hd,al⟩:=(a1.mono g2.ff).dct_inv
  obtain⟨o,hg,h3,_⟩:=zhX g2.fh hd al h1 a2
  obtain⟨w,rfl,aw⟩:=h3 z h2
  exact⟨p,w,rfl,hg,q F2 H2 w (g1.trans g2) aw⟩
 | _=>cases e
def znN (x kd d:D):Option D:=match x with
 | .dct _ t ks vs=>(zmv t kd).map λk=>(zat ks vs k).getD d
 | _=>none
def zoe (f g h:Ev->Option D):Ev->Option D:=fun ρ=>(f ρ).bind λx=>(g ρ).bind λy=>(h ρ).bind λz=>znN x y z
theorem zoL {H:Hp}{a:Addr}{z t:Bool}{ks:List (List Key)}{xs:List V}(h:zaI H a z t ks xs):IsD H a:=by
 obtain⟨u,h,rd⟩:=h.rd
 unfold zas at h
 cases t with
 | true=>rw[t4 rfl]at h;obtain⟨kvs,rfl,_⟩:=h;exact .inr ⟨kvs,rd⟩
 | false=>rw[j4 u9]at h;obtain⟨kvs,rfl,_⟩:=h;exact .inl ⟨kvs,rd⟩
theorem zlF {k:Nat} {f g h:Ev->Option D} (hr:Zv k X.A) (ha:ED X a f) (hb:ED X b g) (hc:ED X c h) (m:M2 X a "get" apos b c pos):ED X (.Call (.Attribute a "get" apos) [b,c] [] pos) (zoe f g h):=by
 obtain⟨ta,pa,ra⟩:=ha
 obtain⟨tb,pb,rb⟩:=hb
 obtain⟨tc,pc,rc⟩:=hc
 refine⟨_,zjy (zlW hr) pa pb pc m,fun σ ρ F H z Q s va e q=>?_⟩
 obtain⟨x,e1,e⟩:=u5.mp e
 obtain⟨y,e2,e⟩:=u5.mp e
 obtain⟨w,e3,e⟩:=u5.mp e
 refine ra σ ρ F H x _ s va e1 λF1 H1 v g1 a1=>?_
 cases x with
 | dct z' t ks vs =>
  obtain⟨kk,h1,rfl⟩:=u8.mp e
  obtain⟨p,xs,rfl,hd,al⟩:=a1.dct_inv
  refine⟨p,rfl,zoL (hd.mono g1.fh),?_⟩
  refine rb σ ρ F1 H1 y _ g1.fh (va.mono g1.ff) e2 λF2 H2 u g2 a2=>?_
  refine rc σ ρ F2 H2 w _ g2.fh (va.mono (g1.trans g2).ff) e3 λF3 H3 u3 g3 a3=>?_
  have s13:=g2.ff.trans g3.ff
  obtain⟨o,hg,h3,h4⟩:=zhX g3.fh (hd.mono s13) (al.mono s13) h1 (a2.mono g3.ff)
  refine⟨o,hg,q F3 H3 _ ((g1.trans g2).trans g3) ?_⟩
  cases h:zat ks vs kk with
  | none=>rw[h4 h];exact a3
  | some d=>obtain⟨w',rfl,aw⟩:=h3 d h;exact aw
 | _=>cases e
end
section
variable {X:Cx}{a e ko:Expr}{pos pos':Pos}{st:Stmt}
def zjj (t:Bool)(i:Nat):SE->Ctl:=fun ρ=>.nx (ρ.set i (.m t [] []))
theorem zhf {t:Bool}{i:Nat}{x:Str}(hN:X.N.Nodup)(hi:X.N[i]?=some x)(hx:Loc X.env.scope x)(hs:swapsWith (.Dict [] [] pos) (some (.Name x pos')) pos.line X.env=pure false:=by rfl)
 (hf:X.fn x=true\/X.env.scope.names.lookup x=some .local:=by first | exact .inl rfl | exact .inr rfl | assumption) {p2:Pos} (hs:swapsWith (.Dict [] [] p2) (some (.Name x pos')) pos.line X.env=pure false:=by rfl):SD X (.Assign [.Name x pos'] (.Dict [] [] p2) pos) (zjj t i):=by
 have go:∀ (o:HO),zeR (λ_=>none) o (.m t [] [])->∀ (Fb Hb F H:Hp) (ρ:SE) (σ:St) (E:ziU),Rl Fb Hb F H ρ σ->SOk Fb Hb E (zjj t i ρ)->∀ p,H p=none->E.nx (σ.set i (some (.ref p))) (upd H p o):=λo ho Fb Hb F H ρ σ E rl k p hp=>by
  have g:=Gr.hide rl.gr.fh hp o
  refine k F _ _ ((rl.grow g).setW (rl.notbase hp) (rl.gr.fh.free hp) zt (ho.mono λ_ _ z=>by cases z) (rl.notown hp))
 cases t with
 | true =>
  refine⟨_,zcB hN hi hx zkp hs hf,λFb Hb F H ρ σ E rl k=>?_⟩
  refine λp hp=>go (.dT []) ⟨[],?_,.nil⟩ Fb Hb F H ρ σ E rl k p hp
  unfold zas
  rw[t4 rfl]
  exact⟨[],rfl,rfl,rfl⟩
 | false =>
  refine⟨_,zcB hN hi hx zj0 hs hf,λFb Hb F H ρ σ E rl k=>?_⟩
  refine λp hp=>go (.dK []) ⟨[],?_,.nil⟩ Fb Hb F H ρ σ E rl k p hp
  unfold zas
  rw[j4 u9]
  exact⟨[],rfl,rfl,rfl⟩
def zmP (ρ:SE)(i:Nat)(kd d:D):Option SE:=match ρ[i]? with
 | some (.m t ks vs)=>(zmv t kd).bind λk=>if decide (ks.length < sizeLine)=true then some (ρ.set i (.m t (zfv ks vs k) (zfj ks vs k d)))else none
 | _=>none
def zdS (m:Bool)(i:Nat)(fk fe:Ev->Option D):SE->Ctl:=fun ρ=>match (vEv m fe ρ).bind λd=>(fk (visG ρ)).bind λkd=>zmP ρ i kd d with
 | some ρ'=>.nx ρ'
 | none=>.no
theorem zdx {k:Nat}{m:Bool}{i:Nat}{fk fe:Ev->Option D}(hr:Zv k X.A)(he:ED X e fe)(ho:PE X a (zkQ i))(hk:ED X ko fk)(hs:swapsWith e (some (.Subscript a ko pos')) pos.line X.env=pure false:=by rfl):SD X (.Assign [.Subscript a ko pos'] e pos) (zdS m i fk fe):=by
 obtain⟨t,p,r⟩:=he
 obtain⟨tk,pk,rk⟩:=hk
 refine⟨_,zlf (zlW hr) ho pk p hs,λFb Hb F H ρ σ E rl k=>?_⟩
 unfold zdS at k
 cases h:(vEv m fe ρ).bind λd=>(fk (visG ρ)).bind λkd=>zmP ρ i kd d with
 | none=>rw[h]at k;exact k.elim
 | some ρ' =>
  rw[h]at k
  obtain⟨d,e1,e2⟩:=u5.mp h
  obtain⟨kd,e3,e2⟩:=u5.mp e2
  unfold zmP at e2
  split at e2
  .rename_i tt ks vs hs
   obtain⟨kk,e4,e5⟩:=u5.mp e2
   have hl:decide (ks.length < sizeLine)=true:=by
    cases hh:decide (ks.length < sizeLine) with
    | true=>rfl
    | false=>rw[hh,j4 u9]at e5;cases e5
   rw[t4 hl]at e5
   cases e5
   refine r.at rl e1 λF' H' v g av=>?_
   have rl2:=rl.grow g
   obtain⟨q,o,f1,_⟩:=rl2.ows i _ hs rfl
   refine⟨_,f1,?_⟩
   refine rk σ _ _ H' _ _ rl2.gh rl2.visG e3 λF3 H3 v3 g3 av3=>?_
   obtain⟨gb,_⟩:=rl2.back g3
   have rl3:=rl2.grow gb
   obtain⟨q3,o3,f1',_,_,f4,xs,f5,f6⟩:=rl3.ows i _ hs rfl
   rw[f1]at f1'
   cases f1'
   obtain⟨o',hp,hw⟩:=zmr f4 f5 f6 e4 av3 g3.fh (av.mono gb.ff) (d7 hl)
   exact⟨q,_,rfl,hp,k _ _ σ (rl3.mutW hs rfl f1 hw)⟩
  .cases e2
def zfa (i:Nat)(f:Ev->Option (List D)):SE->Ctl:=fun ρ=>match f (visG ρ) with
 | some ds=>if zjs ds=true then .nx (ρ.set i (.v (.lst ds)))else .no
 | none=>.no
theorem zmn {i:Nat}{t:TE}{f:Ev->Option (List D)}(r:RF t f):RS (zmV t (Xa i)) (zfa i f):=λFb Hb F H ρ σ E rl k=>by
 unfold zfa at k
 cases h:f (visG ρ) with
 | none=>rw[h]at k;exact k.elim
 | some ds =>
  rw[h]at k
  dsimp only at k
  split at k
  .rename_i hn
   refine r σ _ _ H ds _ rl.gh rl.visG h λF' H' q xs g h0 hF hH hx=>?_
   obtain⟨gb,fl⟩:=rl.back g
   have rl2:=rl.grow gb
   have hF2:fOf ρ σ F' q=none:=by
    unfold fOf
    split
    .rfl
    .exact hF
   have g2:=gb.show h0 hF2 hH
   exact k _ _ _ ((rl.grow g2).set (.lst zt ((hx.flat fl hn).mono λb u e=>by rw[zq (zr e hF2)];exact e)))
  .exact k.elim
theorem zko {i:Nat}{f:Ev->Option (List D)}(he:FLS X i st f):SD X st (zfa i f):=by
 obtain⟨t,p,r⟩:=he
 exact⟨_,p,zmn r⟩
end
end
end Dl
namespace Dl
open PySem L2
variable [KK]
section
variable {X:Cx}
def rNeL:R2:=λx y H Q=>∃ F ds es,xa F H/\At F (.lst ds) x/\At F (.lst es) y/\okE 20 (.lst ds)=true/\okE 20 (.lst es)=true/\Q (.bl (!eqN 20 (.lst ds) (.lst es))) H
theorem zhh {k:Nat}(hr:Zv k X.A):OpR X (compareOp .NotEq) rNeL:=by
 intro pins s σ H x y v u Q I rx ry h
 obtain⟨F,ds,es,sm,a1,a2,k1,k2,q⟩:=h
 have hu:X.A.units+30 < cLine:=by have:=hr.un;omega
 obtain⟨p,xs,rfl,hx,al⟩:=a1.lst_inv
 obtain⟨p2,ys,rfl,hy,bl⟩:=a2.lst_inv
 cases rx
 cases ry
 obtain⟨its,r,ht,hz⟩:=I.list (SqL.of (sm _ _ hx))
 obtain⟨its2,r2,ht2,hz2⟩:=I.list (SqL.of (sm _ _ hy))
 have hl1:its.toArray.size=ds.length:=by rw[t7,<- r.length,al.length]
 have hl2:its2.toArray.size=es.length:=by rw[t7,<- r2.length,bl.length]
 have e1:eqN 20 (.lst ds) (.lst es)=((List.range (min ds.length es.length)).all (λj=>eqN 19 (ds.getD j .non) (es.getD j .non))&&ds.length == es.length):=by
  show((List.zipWith (eqN 19) ds es).all id&&ds.length == es.length)=_
  rw[zbl]
 by_cases hle:ds.length=es.length
 .refine SeqAt.RcNeAt.lists (e:=λj=>eqN 19 (ds.getD j .non) (es.getD j .non)) ht.isList ht2.isList (by rw[hl1,hl2];exact hle) (u0a (u0L _ 30) hu) (λj g1 g2=>?_) _ _ _ _ ⟨.bl _,H,I,rfl,?_⟩
  .obtain⟨x',ax,rx⟩:=al.nth r (j:=j) (by simpa using g1)
   obtain⟨y',ay,ry⟩:=bl.nth r2 (j:=j) (by simpa using g2)
   exact za5 I sm 19 (xU k1 (by rw[<-hl1];exact g1)) (xU k2 (by rw[<-hl2];exact g2)) ax ay (by simpa using rx) (by simpa using ry) (u0a (show X.A.units+20<=X.A.units+30 from u1J (by decide) _) hu)
  .rw[hl1]
   rw[e1,<- hle,u35]at q
   simpa using q
 .refine SeqAt.RcNeAt.lists_lengths ht.isList ht2.isList (by rw[hl1,hl2];simpa using hle) (u0a (u0L _ 30) hu) _ _ _ _ ⟨.bl _,H,I,rfl,?_⟩
  have:(ds.length == es.length)=false:=by simpa using hle
  rw[e1,this,u16]at q
  exact q
end
def zkJ:D->D->Option D
 | .lst ds,.lst es=>if (okE 20 (.lst ds)&&okE 20 (.lst es))=true then some (.bl (!eqN 20 (.lst ds) (.lst es)))else none
 | _,_=>none
theorem zef:OpD rNeL zkJ:=by
 intro F H x y d e z Q s ax ay ez q
 unfold zkJ at ez
 split at ez
 .split at ez <;> cases ez
  rename_i hk
  rw[g0]at hk
  exact⟨F,_,_,s,ax,ay,hk.1,hk.2,q F H _ (.refl s) .bl⟩
 .cases ez
end Dl
namespace L2
open PySem PySem.Spec PyProof.Rows
section
variable {prog:Program}{w:World}{A:Around}{E:Value->Shared->Prop}{s:Shared}{d it:Addr}{o:Obj}{es:Array DictEntry}{ep i:Nat}
theorem raw_iter {Q:Value->Shared->Prop}(hs:(d == sysModules)=false)(ho:s.heap.get? d=some o)(hc:o.ExactDict)(hd:o.data=.dict es ep)
 (hQ:Q (.ref s.heap.objs.size) { s with heap:=s.heap.push { cls:=.type "dict_keyiterator",data:=.fields #[.ref d,.int 0 0,.int es.size 0,.int ep 0] } }):wpAny (model prog w) A (pyIter (.ref d)) Q E s:=by
 have hT:s.TypeIs (.ref d) "dict":=⟨o,ho,hc.1⟩
 refine u3C hT PySem.F.slot_dict_iter (u0h PySem.F.slot_dict_iter hT PySem.F.entry_dict_iter ?_ (PySem.F.args_dict_iter_1 _))
 unfold Builtin.«dict.__iter__»
 refine u0 ?_
 unfold Builtin.Dict.dictSlotNone
 refine u0 (wpAny_notOrdered_dict hT ?_)
 show wpAny _ _ (pure (Value.ref d)) _ _ s
 refine u7 ?_
 show wpAny _ _ (Builtin.Dict.showsAll d>>=_) _ _ s
 unfold Builtin.Dict.showsAll
 rw[j4 (by rw[hs];exact u9)]
 refine u0 (u7 (u0 (u3B ho hd (u0 (wpAny_dictEpoch ho hd ?_)))))
 refine u0 (u0g (u7 ⟨_,rfl,"dict_keyiterator",_,⟨_,j6 _ rfl,rfl⟩,u0F.lookup,?_⟩))
 simpa [rawInt]using hQ
theorem raw_next {e:DictEntry}{Q:Option Value->Shared->Prop}(hit:s.heap.IsKeyIter it d i es.size ep)(ho:s.heap.get? d=some o)(hd:o.data=.dict es ep)(hx:es[i]?=some e)
 (hQ:∀ h',h'.IsKeyIter it d (i+1) es.size ep->Heap.SameBut it s.heap h'->Q (some e.key) { s with heap:=h' }):wpAny (model prog w) A (pyNext (.ref it)) Q E s:=by
 obtain⟨oi,hoi,hci,hdi⟩:=id hit
 unfold pyNext
 refine u0 (u1L (u0k (name:=Str.ofString "__next__") hit.typeIs u0F
  (u0h u0F hit.typeIs u2f ?_ (u19 _))))
 refine u0 (u7 ?_)
 refine u0 ?_
 refine u0 ?_
 first | refine u0 (u1f hit.typeIs (u7 ?_)) | refine u0 (u1I hit.typeIs (u7 ?_))
 refine u0 (u3s hoi hdi ?_)
 have hown:Builtin.Dict_items.ownsTuple "dict_keyiterator"=false:=by decide
 simp only[hown,u1S,u3i]
 show wpAny _ _ (if (Value.ref d == Value.none)=true then _ else _) _ _ s
 rw[j4 (show ¬ ((Value.ref d == Value.none)=true)from u9)]
 refine u0 (u7 (u0 (u3B ho hd ?_)))
 rw[j4 (by simp)]
 refine u0 (u7 (u0 (wpAny_dictEpoch ho hd ?_)))
 rw[j4 (by simp)]
 refine u7 ?_
 simp only[show ¬ ((i:Int) < 0)from by omega,u3i,u0f,hx]
 refine u0 ?_
 first | refine u0 (u1f hit.typeIs (u7 ?_)) | refine u0 (u1I hit.typeIs (u7 ?_))
 refine u0 (wpAny_isOneOf_keyiter hit.typeIs ?_)
 show wpAny _ _ (setField (.ref it) 1 (rawInt ((i:Int)+1))>>=_) _ _ s
 refine u0 (u3t hoi hdi (by simp) ?_)
 have hit':(s.heap.update it (Obj.mapFields (·.setIfInBounds 1 (rawInt ((i:Int)+1))))).IsKeyIter it d (i+1) es.size ep :=
  ⟨_,u0b _ hoi (Obj.isFreed_of_fields (u2n hdi _)),(Obj.cls_mapFields ..).trans hci,by rw[u2n hdi];simp[rawInt]⟩
 refine u0 (u0C ?_)
 refine u0 (wpAny_isOneOf_keyiter (s:={ s with heap:=s.heap.update it (Obj.mapFields (·.setIfInBounds 1 (rawInt ((i:Int)+1)))) }) hit'.typeIs ?_)
 show wpAny _ _ (pure e.key) _ _ _
 exact u7 (u7 ⟨_,rfl,u7 (hQ _ hit' (u1o ..))⟩)
theorem raw_end {Q:Option Value->Shared->Prop}(hh:A.handled=none)(hit:s.heap.IsKeyIter it d i es.size ep)(ho:s.heap.get? d=some o)(hd:o.data=.dict es ep)(hx:es.size<=i)
 (hQ:∀ h',Heap.ExtBut it s.heap h'->Q none { s with heap:=h' }):wpAny (model prog w) A (pyNext (.ref it)) Q E s:=by
 obtain⟨oi,hoi,hci,hdi⟩:=id hit
 unfold pyNext
 refine u0 (u1L (u0k (name:=Str.ofString "__next__") hit.typeIs u0F
  (u0h u0F hit.typeIs u2f ?_ (u19 _))))
 refine u0 (u7 ?_)
 refine u0 ?_
 refine u0 ?_
 first | refine u0 (u1f hit.typeIs (u7 ?_)) | refine u0 (u1I hit.typeIs (u7 ?_))
 refine u0 (u3s hoi hdi ?_)
 have hown:Builtin.Dict_items.ownsTuple "dict_keyiterator"=false:=by decide
 simp only[hown,u1S,u3i]
 show wpAny _ _ (if (Value.ref d == Value.none)=true then _ else _) _ _ s
 rw[j4 (show ¬ ((Value.ref d == Value.none)=true)from u9)]
 refine u0 (u7 (u0 (u3B ho hd ?_)))
 rw[j4 (by simp)]
 refine u0 (u7 (u0 (wpAny_dictEpoch ho hd ?_)))
 rw[j4 (by simp)]
 refine u7 ?_
 simp only[show ¬ ((i:Int) < 0)from by omega,u3i,u0f,Array.getElem?_eq_none hx]
 refine u0 ?_
 first | refine u0 (u1f hit.typeIs (u7 ?_)) | refine u0 (u1I hit.typeIs (u7 ?_))
 show wpAny _ _ (setField (.ref it) 0 .none>>=_) _ _ s
 refine u0 (u3t hoi hdi (by simp) ?_)
 show wpAny _ _ (newExc (.type "StopIteration") []>>=_) _ _ _
 refine u0 ?_
 simp only[newExc,newTuple]
 refine u0 (u0g ?_ (by size_fits))
 refine u0 (m:=firstArgMember _ _) (u13 (a:=Value.none) (by first | rfl | (simp only[firstArgMember];rfl)) ?_)
 refine u0g ?_ (by size_fits)
 simp only[raiseNew]
 refine u0 (wpAny_handled ?_)
 rw[show A.in1.handled=none from hh]
 refine u0 (u7 (wpAny_throw ?_))
 refine u0 (u2c (T:="StopIteration") (b:=true) ⟨_,j6 _ rfl,rfl⟩ u3r ?_)
 exact u7 (hQ _ (((u1o ..).extBut.push _).push _))
end
def zoc:HO->Nat
 | .dK kvs=>kvs.length
 | .dT kvs=>kvs.length
 | _=>0
def VB (u:HO):Prop:=(∃ kvs,u=.dK kvs)\/∃ kvs,u=.dT kvs
def zkq (H:Hp)(u:HO)(i:Nat)(x:V):Prop:=match u with
 | .dK kvs=>∃ p,kvs[i]?=some p/\x=kV p.1
 | .dT kvs=>∃ p b,kvs[i]?=some p/\x=.ref b/\H b=some (.tup (p.1.map kV))
 | _=>False
theorem znt {P:Program}{w:World}{k:Key}{v:Value}(h:(xj P w).is k v=true):yZ (kV k) v:=by
 rcases yE h with ⟨i,t,rfl,rfl⟩ | ⟨x,t,rfl,rfl⟩
 .exact⟨t,rfl⟩
 .exact⟨t,rfl⟩
structure DObj (H:Hp) (a:Addr) (ob:Obj) (u:HO) (es:Array DictEntry) (ep:Nat):Prop where
 sys:(a == sysModules)=false
 exact_:ob.ExactDict
 data:ob.data=.dict es ep
 size:es.size=zoc u
theorem zbZ {P:Program}{w:World}{H:Hp}{h:Heap}{a:Addr}{ob:Obj}{u:HO}(ok:yY P w H h a (.frz ob u))(hu:VB u):h.get? a=some ob/\∃ es ep,DObj H a ob u es ep/\∀ (i:Nat) (e:DictEntry),es[i]?=some e->∃ x,yZ x e.key/\zkq H u i x:=by
 obtain⟨e0,ok⟩:=ok
 rcases hu with ⟨kvs,rfl⟩ | ⟨kvs,rfl⟩
 .obtain⟨_,sys,vs,kv,o,es,ep,e1,ex,dt,ko,pr,nd⟩:=ok
  rw[e0]at e1
  cases e1
  have hl:es.size=vs.length:=by rw[<-pr.length];simp
  refine⟨e0,es,ep,⟨sys,ex,dt,by rw[hl,<- kv.length];rfl⟩,λi e he=>?_⟩
  have hi:i < kvs.length:=by
   have:=(u26.mp he).1
   rw[kv.length];omega
  have hv:i < vs.length:=by rw[<-kv.length];exact hi
  have h1:=pr.get? (i:=i) (e:=e) (k:=vs[i].1) (v:=vs[i].2) (by simpa using he) (by simp[hv])
  have hk:kvs[i].1=vs[i].1:=by
   have:=u1c (λl=>l[i]?) kv.keys
   simp only[j5]at this
   rw[t9 hi,t9 hv]at this
   exact i8 this
  exact⟨kV kvs[i].1,by rw[hk];exact znt h1.1,kvs[i],t9 hi,rfl⟩
 .obtain⟨_,sys,xs,pr,o,es,ep,e1,ex,dt,he,nd⟩:=ok
  rw[e0]at e1
  cases e1
  have hl:es.size=xs.length:=by rw[<-i9,he,u6]
  have hp:=u2N pr
  refine⟨e0,es,ep,⟨sys,ex,dt,by rw[hl,<- hp];rfl⟩,λi e hei=>?_⟩
  have hx:i < xs.length:=by
   have:=(u26.mp hei).1
   omega
  have hi:i < kvs.length:=by omega
  have e2:e=entryOfKey (tupleKind (xj P w)) xs[i]:=by
   have:es.toList[i]?=some e:=by simpa using hei
   rw[he,j5,t9 hx]at this
   exact(i8 this).symm
  have rel:∀ {l:List (List Key × V)} {m:List (List Key × Addr × Value)},Paired (λp q=>p.1=q.1/\H q.2.1=some (.tup (p.1.map kV))/\yZ p.2 q.2.2) l m->∀ (j:Nat) (h1:j < l.length) (h2:j < m.length),l[j].1=m[j].1/\H m[j].2.1=some (.tup (l[j].1.map kV)):=λ{l m} r=>by
   induction r with
   | nil=>intro j h1;simp at h1
   | cons h t ih =>
    intro j h1 h2
    cases j with
    | zero=>exact⟨h.1,h.2.1⟩
    | succ j=>exact ih j (by simpa using h1) (by simpa using h2)
  obtain⟨_,r2⟩:=rel pr i hi hx
  subst e2
  exact⟨.ref xs[i].2.1,rfl,kvs[i],xs[i].2.1,t9 hi,rfl,r2⟩
def Itf (a:Addr)(ob:Obj)(u:HO):It :=
 ⟨λi H=>H a=some (.frz ob u)/\i < zoc u,λi H x H'=>H'=H/\zkq H u i x,λi H=>H a=some (.frz ob u)/\zoc u<=i⟩
theorem zhF {P:Program}{w:World}{K:W.Frag}{tg:Expr}{a it:Addr}{ob:Obj}{u:HO}{es:Array DictEntry}{ep:Nat}(hu:VB u)(hn:es.size=zoc u)(hd:ob.data=.dict es ep):zkD P w K tg (Itf a ob u) [it] it (λi h=>h.IsKeyIter it a i es.size ep) where
 mem:=by simp
 obj:=λi h st b hb=>by
  have e:b=it:=by simpa using hb
  subst e
  obtain⟨o,e,c,d⟩:=st
  exact⟨o,e,λv z=>by rw[d]at z;cases z⟩
 keep:=λi h h' st k=>by
  obtain⟨o,e,r⟩:=st
  exact⟨o,k it (by simp) o e,r⟩
 item:=by
  intro X hP hw hK hc i pins s σ H E I hf st hg
  subst hP hw hK
  obtain⟨e1,hi⟩:=hg
  obtain⟨e0,es',ep',D,ky⟩:=zbZ (I.hok a _ e1) hu
  have e2:=D.data
  rw[hd]at e2
  cases e2
  obtain⟨f0,f1,f2,f3,f4,f5⟩:=hf it (by simp)
  have hlt:i < es.size:=by omega
  obtain⟨x,rx,kx⟩:=ky i es[i] (u0U hlt)
  refine raw_next st e0 hd (u0U hlt) λh' st' sb=>?_
  have I1:Inv X pins σ H { s with heap:=h' }:=I.turned (t':=s.toks) (λb o hb e=>(sb.2 b hb).trans e) f0 f1 f3 f4 f5
  obtain⟨o,e,c,d⟩:=id st'
  exact⟨_,rfl,zi4 (s:={ s with heap:=h' }) e c d (by decide) ⟨x,H,I1,rx,⟨rfl,kx⟩,st',λb hb=>(hf b hb).1⟩⟩
 done:=by
  intro X hP hw hK hc i pins s σ H E I hf st hg
  subst hP hw hK
  obtain⟨e1,hi⟩:=hg
  obtain⟨e0,es',ep',D,ky⟩:=zbZ (I.hok a _ e1) hu
  obtain⟨f0,f1,f2,f3,f4,f5⟩:=hf it (by simp)
  exact raw_end (I.ok.hd hc) st e0 hd (by omega) λh' eb=>⟨rfl,I.turned (t':=s.toks) (λb o hb e=>eb b o hb e) f0 f1 f3 f4 f5⟩
 self:=λ_ _ _ _ _ st h=>wpAny_pyIter_keyiter st h
section
variable {X:Cx}{tg:Expr}
def zpV (tl:TE):TI:=fun σ H R=>tl σ H λx H1=>∃ a ob u,x=.ref a/\H1 a=some (.frz ob u)/\VB u/\R (Itf a ob u) H1
theorem zlC {l:Expr}{tl:TE}(hl:PE X l tl):PI X tg l (zpV tl):=by
 intro pins s σ H R I h
 refine thn (hl pins s σ H _ I h) λv s1 hh9=>?_
 obtain⟨x,H1,I1,r1,q1⟩:=hh9
 obtain⟨a,ob,u,e,e1,hu,q⟩:=q1
 subst e
 cases r1
 obtain⟨e0,es,ep,D,_⟩:=zbZ (I1.hok a _ e1) hu
 refine raw_iter D.sys e0 D.exact_ D.data ?_
 refine⟨s1.heap.objs.size,[s1.heap.objs.size],_,_,H1,rfl,I1.kept (t':=s1.toks) λb o e=>u4 _ e,zhF hu D.size D.data,⟨_,j6 _ rfl,rfl,rfl⟩,λb hb=>?_,q⟩
 have e:b=s1.heap.objs.size:=by simpa using hb
 subst e
 exact I1.fpOk (t5 _) (I1.hok.fresh (t5 _))
theorem Inv.frz {pins:List (Addr × Obj)}{σ:St}{H:Hp}{s:Shared}{p:Addr}{u:HO}(I:Inv X pins σ H s)(e:H p=some u)(hu:VB u):∃ ob,Inv X pins σ (upd H p (.frz ob u)) s:=by
 have ok:=I.hok p u e
 have mu:Mut (H p):=by
  rw[e]
  rcases hu with ⟨kvs,rfl⟩ | ⟨kvs,rfl⟩ <;> exact True.intro
 rcases hu with ⟨kvs,rfl⟩ | ⟨kvs,rfl⟩
 .obtain⟨z,sys,vs,kv,o,es,ep,e1,r⟩:=ok
  refine⟨o,I.write (h':=s.heap) (t':=s.toks) mu (.inl rfl) (λb u _ e=>e) ⟨o,e1⟩ ⟨e1,z,sys,vs,kv,o,es,ep,e1,r⟩⟩
 .obtain⟨z,sys,xs,pr,o,es,ep,e1,r⟩:=ok
  refine⟨o,I.write (h':=s.heap) (t':=s.toks) mu (.inl rfl) (λb u _ e=>e) ⟨o,e1⟩ ⟨e1,z,sys,xs,?_,o,es,ep,e1,r⟩⟩
  exact KT.keeps pr λb ys eb=>by
   rw[zq (zne eb e (λz=>nomatch z))]
   exact eb
def tFrz (i:Nat)(t:TS):TS:=λE σ H=>∃ p u,σ[i]?=some (some (.ref p))/\H p=some u/\VB u/\∀ ob,t E σ (upd H p (.frz ob u))
theorem zmd {sts:List Stmt}{t:TS}(i:Nat)(h:PSs X sts t):PSs X sts (tFrz i t):=by
 intro pins s σ H E I q
 obtain⟨p,u,_,e,hu,q⟩:=q
 obtain⟨ob,I2⟩:=I.frz e hu
 exact h pins s σ _ E I2 (q ob)
end
end L2
namespace Dl
open PySem L2
def k1D:Key->D
 | .inl i=>.int i
 | .inr x=>.str x
def WO (t:Bool)(k:List Key):D:=if t=true then .tup (k.map k1D)else match k with
 | [a]=>k1D a
 | _=>.non
def zkI:D->Option (List D)
 | .dct true t ks _=>some (ks.map (WO t))
 | _=>none
section
variable [KK]
theorem zgB {F:Hp}(k:Key):At F (k1D k) (kV k):=by
 cases k with
 | inl i=>exact .int
 | inr x=>exact .str
theorem zdh {F:Hp}:∀ ks:List Key,AtL F (ks.map k1D) (ks.map kV)
 | []=>.nil
 | k::ks=>.cons (zgB k) (zdh ks)
theorem VR {u:HO}{t:Bool}{ks:List (List Key)}{xs:List V}(h:zas u t ks xs):VB u/\zoc u=ks.length:=by
 unfold zas at h
 cases t with
 | true=>rw[t4 rfl]at h;obtain⟨kvs,rfl,rfl,_⟩:=h;exact⟨.inr ⟨_,rfl⟩,by rw[u6];rfl⟩
 | false=>rw[j4 u9]at h;obtain⟨kvs,rfl,rfl,_⟩:=h;exact⟨.inl ⟨_,rfl⟩,by rw[u6];rfl⟩
theorem Gr.see {F H:Hp}{b:Addr}{ys:List V}(s:xa F H)(h:H b=some (.tup ys)):∃ F',Gr F H F' H/\F' b=some (.tup ys):=by
 cases e:F b with
 | some o =>
  have:=s _ _ e
  rw[h]at this
  cases this
  exact⟨F,.refl s,e⟩
 | none =>
  refine⟨upd F b (.tup ys),⟨λp o z=>?_,λp o z=>?_,λp o z1 z2=>⟨?_,z2⟩⟩,zt⟩
  .rw[zq (zr z e)];exact z
  .by_cases hp:p=b
   .subst hp;rw[zt]at z;cases z;exact h
   .rw[zq hp]at z;exact s p o z
  .by_cases hp:p=b
   .subst hp
    rw[h]at z2
    cases z2
    exact .inr ⟨⟨_,rfl⟩,zt⟩
   .exact .inl (by rw[zq hp];exact z1)
theorem zoE {F:Hp}{a:Addr}{ob:Obj}{u:HO}{t:Bool}{ks:List (List Key)}{xs:List V}(h:F a=some (.frz ob u))(hd:zas u t ks xs):zmQ (Itf a ob u) F (ks.map (WO t)):=by
 intro i F2 H2 s1 s2
 have e2:=s2 _ _ (s1 _ _ h)
 obtain⟨_,hl⟩:=VR hd
 refine⟨λhi=>⟨e2,by rw[hl,hi,u6];exact t5 _⟩,λd hdi=>?_⟩
 rw[j5]at hdi
 obtain⟨k,hk,rfl⟩:=u8.mp hdi
 refine⟨⟨e2,by rw[hl];exact(t6.mp hk).1⟩,λx H3 hy=>?_⟩
 obtain⟨rfl,hy⟩:=hy
 unfold zas at hd
 cases t with
 | true =>
  rw[t4 rfl]at hd
  obtain⟨kvs,rfl,rfl,_⟩:=hd
  obtain⟨p,b,hp,rfl,hb⟩:=hy
  rw[j5,hp]at hk
  cases hk
  obtain⟨F3,g,hF⟩:=Gr.see s2 hb
  exact⟨F3,g,.tup hF (zdh _)⟩
 | false =>
  rw[j4 u9]at hd
  obtain⟨kvs,rfl,rfl,_⟩:=hd
  obtain⟨p,hp,rfl⟩:=hy
  rw[j5,hp]at hk
  cases hk
  exact⟨F2,.refl s2,zgB _⟩
section
variable {X:Cx}{tg a b e k v:Expr}{pos pos':Pos}{sts:List Stmt}
def zoZ (f:Ev->Option D):Ev->Option (List D):=fun ρ=>(f ρ).bind zkI
theorem zmt {f:Ev->Option D}(ha:ED X a f):ID X tg a (zoZ f):=by
 obtain⟨t,p,r⟩:=ha
 refine⟨_,zlC p,fun σ ρ F H ds R s va e q=>?_⟩
 obtain⟨d,e1,e2⟩:=u5.mp e
 refine r σ ρ F H d _ s va e1 λF1 H1 v g1 a1=>?_
 unfold zkI at e2
 split at e2
 .cases e2
  obtain⟨p,xs,rfl,⟨u,hd,hz⟩,_⟩:=a1.dct_inv
  rw[t4 rfl]at hz
  obtain⟨ob,hz⟩:=hz
  exact⟨p,ob,u,rfl,g1.fh _ _ hz,(VR hd).1,q F1 H1 _ g1 (zoE hz hd)⟩
 .cases e2
def zoX (i:Nat)(g:SE->Ctl):SE->Ctl:=fun ρ=>match ρ[i]? with
 | some (.m t ks vs)=>g (ρ.set i (.v (.dct true t ks vs)))
 | _=>.no
theorem Rl.fzM {Fb Hb F H:Hp}{ρ:SE}{σ:St}{i:Nat}{t:Bool}{ks:List (List Key)}{vs:List D}(r:Rl Fb Hb F H ρ σ)(h:ρ[i]?=some (.m t ks vs)) :
 ∃ p u,σ[i]?=some (some (.ref p))/\H p=some u/\VB u/\∀ ob,Rl Fb Hb (upd F p (.frz ob u)) (upd H p (.frz ob u)) (ρ.set i (.v (.dct true t ks vs))) σ:=by
 obtain⟨p,u,e1,e2,e3,e4,xs,hd,al⟩:=r.ows i _ h rfl
 refine⟨p,u,e1,e4,(VR hd).1,λob=>?_⟩
 have hi:i < ρ.length:=(t6.mp h).1
 have sF:xa F (upd F p (.frz ob u)):=λb o e=>by rw[zq (zr e e3)];exact e
 have nj:∀ {j:Nat} {s:Sl},(ρ.set i (.v (.dct true t ks vs)))[j]?=some s->s.isO=true->i≠j:=λ{j s} h ht e=>by
  subst e
  rw[u0x hi]at h
  cases h
  cases ht
 refine⟨⟨r.gr.ff.trans sF,λb o z=>?_,λb o z1 z2=>?_⟩,λj d z=>?_,λj s z ht=>?_,λj k q s s' h1 h2 o1 o2 h3 h4=>?_,by simp[r.len]⟩
 .by_cases hb:b=p
  .subst hb;rw[zt]at z ⊢;exact z
  .rw[zq hb]at z ⊢;exact r.gr.fh b o z
 .have hb:b≠p:=zr z2 e2
  obtain⟨x,y⟩:=r.gr.kp b o z1 z2
  refine⟨?_,by rw[zq hb];exact y⟩
  unfold Hid
  rw[zq hb]
  exact x
 .by_cases hj:i=j
  .subst hj
   rw[u0x hi]at z
   cases z
   refine⟨_,e1,?_⟩
   unfold At
   exact⟨p,xs,rfl,⟨u,hd,by rw[t4 rfl];exact⟨ob,zt⟩⟩,al.mono sF⟩
  .rw[d8 hj]at z
   obtain⟨v,f1,f2⟩:=r.vals j d z
   exact⟨v,f1,f2.mono sF⟩
 .have hj:=nj z ht
  rw[d8 hj]at z
  obtain⟨q,y,f1,f2,f3,f4,f5⟩:=r.ows j s z ht
  have hq:q≠p:=λw=>hj (r.dis i j p _ s h z rfl ht e1 (by rw[<-w];exact f1))
  exact⟨q,y,f1,f2,by rw[zq hq];exact f3,by rw[zq hq];exact f4,f5.mono sF⟩
 .have a1:=nj h1 o1
  have a2:=nj h2 o2
  rw[d8 a1]at h1
  rw[d8 a2]at h2
  exact r.dis j k q s s' h1 h2 o1 o2 h3 h4
theorem ziL {g:SE->Ctl}(i:Nat)(h:SDs X sts g):SDs X sts (zoX i g):=by
 obtain⟨t,p,r⟩:=h
 refine⟨_,zmd i p,λFb Hb F H ρ σ E rl k=>?_⟩
 unfold zoX at k
 split at k
 .rename_i tt ks vs hs
  obtain⟨q,u,e1,e2,e3,e4⟩:=rl.fzM hs
  exact⟨q,u,e1,e2,e3,λob=>r Fb Hb _ _ _ σ E (e4 ob) k⟩
 .exact k.elim
end
end
end Dl
namespace L2
open PySem PySem.Spec PyProof.Rows
def zf4 (X:Cx)(x0:Str)(M:List Str)(scope:Scope)(cl:List (Str × Addr))(s₀:Shared)(H₀:Hp)(ex:List Addr)(pn:List (Addr × Obj)):Cx :=
 { X with N:=[x0]++M,s₀:=s₀,H₀:=H₀,env:=compEnvC scope ((x0,s₀.heap.objs.size+1)::cl) s₀.heap.objs.size X.env,outer:=X.stack,stack:=X.stack,ex:=ex,fn:=λy=>y == x0,pn:=pn,xe:=λ_ _=>False }
structure ZV (X:Cx) (x0:Str) (M:List Str) (scope:Scope) (cl:List (Str × Addr)):Prop where
 clos:closureFor scope X.env=pure cl
 laid:∀ n,cellsFrom n scope.names cl=(x0,n)::cl
 push:∀ h,pushCells h scope.names=h.push { cls:=.type "cell",data:=.cell none }
 kind:scope.kind=.function
 names:∀ y∈scope.names,y.2=.local->scope.names.lookup y.1=some .local
 sub:∀ y c,cl.lookup y=some c->X.env.cells.lookup y=some c
 has:∀ y,((relabel scope X.env).names.lookup y=some .cell\/(relabel scope X.env).names.lookup y=some .free)->y=x0\/∃ c,cl.lookup y=some c
 mlen:M.length=X.N.length
 ne:∀ (i:Nat) y,M[i]?=some y->Vis (relabel scope X.env) y->y≠x0
 msk:∀ (i:Nat) y,M[i]?=some y->Vis (relabel scope X.env) y->X.N[i]?=some y
 vis:∀ (i:Nat) y,M[i]?=some y->Vis (relabel scope X.env) y->((relabel scope X.env).names.lookup y=some .cell\/(relabel scope X.env).names.lookup y=some .free)
 out:∀ (i:Nat) y,M[i]?=some y->Vis (relabel scope X.env) y->Vis X.env.scope y/\X.env.kindOf y≠some .local
theorem Xt (x0:Str)(a:Addr)(cl:List (Str × Addr))(y:Str):((x0,a)::cl).lookup y=if y=x0 then some a else cl.lookup y:=by
 rw[List.lookup_cons]
 by_cases h:y=x0
 .rw[t4 h,show(y == x0)=true from u2Q.mpr h]
 .rw[j4 h,show(y == x0)=false from u0K.mpr h]
theorem zb1 {M:Model} {A:Around} {E:Value->Shared->Prop} {s:Shared} {scope:Scope} {globals:Addr} {cl:List (Str × Addr)} {qual:Str} {env:Env} {x0:Str} {Q:Env->Shared->Prop} (laid:∀ n,cellsFrom n scope.names cl=(x0,n)::cl) (push:∀ h,pushCells h scope.names=h.push { cls:=.type "cell",data:=.cell none })
 (hQ:Q (newEnv scope s.heap.objs.size globals ((x0,s.heap.objs.size+1)::cl) qual none .none (some env) builtinsNs) { s with heap:=(s.heap.push { cls:=.type "dict",data:=.dict #[] }).push { cls:=.type "cell",data:=.cell none } }) :
 wpAny M A (newFunctionEnv scope globals cl [] qual none .none (some env)) Q E s:=by
 simp only[newFunctionEnv,Option.isSome_some,u2I]
 refine u0 (wpAny_alloc ?_)
 refine u0 (wpAny_layCells _ (λname kind cells=>by cases hkc:kind == NameKind.cell <;> simp[hkc]) _ _ _ _ ?_)
 rw[laid,push,show({ s with heap:=s.heap.push { cls:=.type "dict",data:=.dict #[] } }:Shared).heap.objs.size=s.heap.objs.size+1 from u0A ..]
 simp only[u2z]
 exact u0 (u7 (u7 hQ))
theorem zjH {use:Option (Value->Sem Unit)}{Qf:Value->Shared->Prop}{X:Cx}{elt tg iter:Expr}{ifs:List Expr}{x0:Str}{M:List Str}{scope:Scope}{cl:List (Str × Addr)}{pos:Pos}{wi:TI}{g:TG}{tt:TT}{te:TE}
 (hc:X.calm=true) (S:ZV X x0 M scope cl) (hi:PI X tg iter wi)
 (hgS:∀ (σ:St) (v:V) (H:Hp) (Q:St->Hp->Prop),g v (List.replicate 1 none++σ) H Q->g v (List.replicate 1 none++σ) H (fun σ2 H2=>Z1 (List.replicate 1 none++σ) σ2/\Q σ2 H2))
 (hg:∀ s₀ H₀ ex pn,PG (zf4 X x0 M scope cl s₀ H₀ ex pn) tg g) (ht:∀ s₀ H₀ ex pn,PIf (zf4 X x0 M scope cl s₀ H₀ ex pn) ifs tt) (he:∀ s₀ H₀ ex pn,PE (zf4 X x0 M scope cl s₀ H₀ ex pn) elt te)
 (hs:∀ x,foldedSetIterable iter X.env x=pure x:=by intro _;rfl) :
 ∀ (pos':Pos) (pins:List (Addr × Obj)) (s:Shared) (σ:St) (H:Hp) (Q:VK),Inv X pins σ H s->tLC wi 1 g tt te σ H Q ->
  (∀ (D C:Addr) (H':Hp) (s':Shared),Inv X pins σ H' s'->(∃ m,s'.heap.Ns C m)->zc9 X pins H' C->Q (.ref D) H'->compPost (model X.prog X.w) X.A X.xe use Qf (.ref D) C (.ok .next) s') ->
  wpAny (model X.prog X.w) X.A (comprehension (.ListComp elt [⟨tg,iter,ifs,0⟩] scope pos) scope X.env pos' (newList []) false (eval iter X.env) use) Qf X.xe s:=by
 intro pos' pins s σ H Q I h fin
 refine wpAny_comprehension_free (use:=use) rfl hs S.clos S.kind S.names (thn (hi pins s σ H _ I h) λv s1 h1=>thn h1 λitv s2 h2=>?_)
 obtain⟨it,fp,tn,J,H2,e,I2,T,st2,f2,q⟩:=h2
 subst e
 have hD:H2 s2.heap.objs.size=none:=I2.hok.fresh (t5 _)
 obtain⟨W,⟨m0,w0⟩,turn⟩:=q _ hD
 refine u0g (zb1 S.laid S.push ?_)
 have I3:Inv X pins σ (upd H2 s2.heap.objs.size (.lst [])) { s2 with heap:=s2.heap.push { cls:=.type "list",data:=.seq ([]:List Value).toArray } }:=by
  refine I2.laid (t':=s2.toks) (λb u e=>u4 _ e) (t5 _) ?_
  exact⟨u0I _,[],0,.nil,j6 _ rfl⟩
 generalize hs3:({ s2 with heap:=s2.heap.push { cls:=.type "list",data:=.seq ([]:List Value).toArray } }:Shared)=s3 at I3 ⊢
 generalize hh1:(s3.heap.push { cls:=.type "dict",data:=.dict #[] }).push { cls:=.type "cell",data:=.cell none }=h₁
 have hns₁:h₁.Ns s3.heap.objs.size λ_=>none:=by
  rw[<-hh1]
  exact(Heap.Ns.new s3.heap (.type "dict")).keeps λb o e=>u4 _ e
 have hcell₁:h₁.IsCell (s3.heap.objs.size+1) none:=by
  rw[<-hh1]
  refine⟨{ cls:=.type "cell",data:=.cell none },?_,rfl⟩
  rw[<-show(s3.heap.push { cls:=.type "dict",data:=.dict #[] }).objs.size=s3.heap.objs.size+1 from u0A ..]
  exact j6 _ rfl
 have hobj:∀ b∈fp,b < s2.heap.objs.size:=λb hb=>by
  obtain⟨o,ho,_⟩:=T.obj _ _ st2 b hb
  exact q5 ho
 have hz3:s3.heap.objs.size=s2.heap.objs.size+1:=by rw[<-hs3];exact u0A ..
 have k23:∀ b o,s2.heap.get? b=some o->s3.heap.get? b=some o:=λb o e=>by rw[<-hs3];exact u4 _ e
 have k34:∀ b o,s3.heap.get? b=some o->h₁.get? b=some o:=λb o e=>by rw[<-hh1];exact u4 _ (u4 _ e)
 generalize hH3:upd H2 s2.heap.objs.size (.lst [])=H3 at I3 w0
 have hfp3:∀ b∈fp,H3 b=none:=λb hb=>by
  rw[<-hH3,zq (o0 (hobj b hb))]
  exact(f2 b hb).1
 have nfs:∀ b∈fp,b∉frs X.stack:=λb hb z=>by
  obtain⟨_,n1,n2,_⟩:=f2 b hb
  rcases j9.mp (I3.stkSub b z)with e | e
  .exact n1 e
  .exact n2 e
 let Y:Cx:=zf4 X x0 M scope cl s3 H3 fp (X.pn++pins)
 have old:∀ y c,cl.lookup y=some c->c≠s3.heap.objs.size+1:=λy c e z=>by
  obtain⟨v,o,ho,_⟩:=I3.cell y c (S.sub y c e)
  have:=q5 ho
  rw[z]at this
  exact absurd this (Nat.not_lt.mpr (u1r _))
 have OkY:Y.Ok:=by
  refine⟨I.ok.mod,S.kind,I.ok.glob,I.ok.blt,t5 _,?inj,?has,?cab,I.ok.hd,I.ok.frames,.inl rfl,?exf,
   λb o e=>I3.bs b o e,p6 I.ok.bsz I3.sz,?noex,nfs,I3.stack,I3.stkFree⟩
  case inj =>
   intro x y c h1 h2
   have h1:((x0,s3.heap.objs.size+1)::cl).lookup x=some c:=h1
   have h2:((x0,s3.heap.objs.size+1)::cl).lookup y=some c:=h2
   rw[Xt]at h1 h2
   by_cases ex:x=x0
   .by_cases ey:y=x0
    .rw[ex,ey]
    .rw[t4 ex]at h1
     rw[j4 ey]at h2
     exact absurd (i8 h1) (old y c h2).symm
   .rw[j4 ex]at h1
    by_cases ey:y=x0
    .rw[t4 ey]at h2
     exact absurd (i8 h2) (old x c h1).symm
    .rw[j4 ey]at h2
     exact I.ok.inj x y c (S.sub x c h1) (S.sub y c h2)
  case has =>
   intro x hx
   show ∃ c,((x0,s3.heap.objs.size+1)::cl).lookup x=some c
   rw[Xt]
   rcases S.has x hx with e | ⟨c,e⟩
   .rw[t4 e];exact⟨_,rfl⟩
   .split
    .exact⟨_,rfl⟩
    .exact⟨c,e⟩
  case cab =>
   intro x c hf h1
   have h1:((x0,s3.heap.objs.size+1)::cl).lookup x=some c:=h1
   rw[Xt,t4 (u2Q.mp hf)]at h1
   cases h1
   exact u1r _
  case exf =>
   refine λb hb=>⟨?_,λx c e z=>?_⟩
   .show b≠s3.heap.objs.size
    exact o0 (r6 (hobj b hb) (by rw[hz3];exact u1r _))
   .have e:((x0,s3.heap.objs.size+1)::cl).lookup x=some c:=e
    rw[Xt]at e
    split at e
    .cases e
     have h1:=hobj b hb
     rw[hz3]at z
     rw[<-z]at h1
     exact absurd h1 (Nat.not_lt.mpr (p6 (u1r _) (u1r _)))
    .exact(f2 b hb).2.2.2.2.1 x c (S.sub x c e) z
  case noex =>
   intro b o e hb
   rcases(f2 b hb).2.2.2.1 with z | z
   .exact I.ok.noex b o e z
   .have h1:=q5 e
    have h2:=I.ok.bsz
    exact absurd (r6 h1 (p6 h2 z)) (u0Q _)
 have I4:Inv Y [] (List.replicate 1 none++σ) H3 { s3 with heap:=h₁ }:=by
  refine⟨OkY,rfl,I3.bare,Un.kept k34,⟨_,hns₁,λi y v e1 e2 e3=>?_⟩,λx c e=>?_,I3.hok.fresh (t5 _),λx c e=>?freeC,λp hp=>?_,I3.hok.kept k34,?_⟩
  .have hi:¬ i < 1:=λhlt=>by
    rw[u0i (by simpa using hlt),u1g]at e2
    split at e2 <;> cases e2
   have e0':M[i - 1]?=some y:=by
    have e1:([x0]++M)[i]?=some y:=e1
    rw[u0d (show 1<=i by omega)]at e1
    exact e1
   have e2':σ[i - 1]?=some (some v):=by rw[u0d (by simpa using u0M hi)]at e2;simpa using e2
   have e1':=S.msk _ y e0' e3
   obtain⟨ov,ok⟩:=S.out _ y e0' e3
   obtain⟨m,hn,hl⟩:=I3.loc
   obtain⟨u,ru,lk⟩:=hl _ y v e1' e2' ov
   refine⟨u,ru,?_⟩
   rcases lk with ⟨hk,_⟩ | ⟨_,c,hc',hcell⟩
   .exact absurd hk ok
   .have kn:=S.vis _ y e0' e3
    obtain⟨c',hc2⟩:=(S.has y kn).resolve_left (S.ne _ y e0' e3)
    have:=S.sub y c' hc2
    rw[hc']at this
    cases this
    refine .inr ⟨kn,c,(show((x0,s3.heap.objs.size+1)::cl).lookup y=some c by rw[Xt,j4 (S.ne _ y e0' e3)];exact hc2),?_⟩
    obtain⟨o,ho,hd⟩:=hcell
    exact⟨o,k34 _ _ ho,hd⟩
  .have e:((x0,s3.heap.objs.size+1)::cl).lookup x=some c:=e
   rw[Xt]at e
   split at e
   .cases e
    exact⟨_,hcell₁⟩
   .obtain⟨v,o,ho,hd⟩:=I3.cell x c (S.sub x c e)
    exact⟨v,o,k34 _ _ ho,hd⟩
  .have e:((x0,s3.heap.objs.size+1)::cl).lookup x=some c:=e
   rw[Xt]at e
   split at e
   .cases e
    exact I3.hok.fresh (u1r _)
   .exact I3.freeC x c (S.sub x c e)
  .have hp':p∈X.pn++pins:=by simpa [Y,zf4]using hp
   obtain⟨a1,a2,a3,a4,a5⟩:=I3.pin p hp'
   refine⟨k34 _ _ a1,a2,o0 (q5 a1),λz=>?_,a5⟩
   rcases j9.mp (I3.stkSub p.1 z)with e | e
   .exact a3 e
   .exact a4 e
  .show(List.replicate 1 none++σ).length=([x0]++M).length
   rw[j8,j8,u1a,I.len,S.mlen]
   rfl
 have fpY:∀ {H':Hp},(∀ b∈fp,H' b=none)->∀ b∈fp,zc9 Y [] H' b:=λ{H'} hn b hb=>by
  refine⟨hn b hb,(OkY.exf b hb).1,nfs b hb,.inl hb,(OkY.exf b hb).2,λp hp=>?_⟩
  have hp':p∈X.pn++pins:=by simpa [Y,zf4]using hp
  exact(f2 b hb).2.2.2.2.2 p hp'
 have st4:tn 0 h₁:=T.keep _ _ _ st2 λb hb o e=>k34 b o (k23 b o e)
 -- behind the loop
 have back:∀ (H':Hp) (s':Shared),Inv Y [] (List.replicate 1 none++σ) H' s'->Q (.ref s2.heap.objs.size) H'->compPost (model X.prog X.w) X.A X.xe use Qf (.ref s2.heap.objs.size) s3.heap.objs.size (.ok .next) s':=λH' s' J' q'=>by
  obtain⟨m,hn,_⟩:=J'.loc
  refine fin _ _ H' s' (I3.call' (ch:=fp) J'.os J'.base J'.hok J'.bare λb hb=>?_) ⟨m,hn⟩ (I3.fpOk (t5 _) J'.free) q'
  obtain⟨_,n1,_,n3,n4,n5⟩:=f2 b hb
  exact⟨n3,n1,n4,n5⟩
 have loop:codeAny (model X.prog X.w) X.A (.compLoop (.ListComp elt [⟨tg,iter,ifs,0⟩] scope pos) 0 (.ref it) (.ref s2.heap.objs.size) (compEnvC scope ((x0,s3.heap.objs.size+1)::cl) s3.heap.objs.size X.env))
  (compPost (model X.prog X.w) X.A X.xe use Qf (.ref s2.heap.objs.size) s3.heap.objs.size) { s3 with heap:=h₁ }:=by
  refine vt (λn s'=>∃ i ys H',Inv Y [] (List.replicate 1 none++σ) H' s'/\tn i s'.heap/\(∀ b∈fp,H' b=none)/\W i n ys H') ?_ m0 ⟨0,[],H3,I4,st4,hfp3,w0⟩
  rintro n s5 ⟨i,ys,H5,I5,st5,fr5,w5⟩
  rcases turn i n ys H5 w5 with ⟨stop,qn⟩ | ⟨go,hlen,step⟩
  .refine thn (T.done Y rfl rfl rfl hc i [] s5 _ H5 _ I5 (fpY fr5) st5 stop) λr s6 hh9=>?_
   obtain⟨hr,I6⟩:=hh9
   subst hr
   exact back H5 s6 I6 qn
  .refine thn (T.item Y rfl rfl rfl hc i [] s5 _ H5 _ I5 (fpY fr5) st5 go) λr s6 hh9=>?_
   obtain⟨u,hr,h6⟩:=hh9
   subst hr
   refine thn h6 λ_ s7 hh9=>?_
   obtain⟨x,H7,I7,r7,y7,st7,fr7⟩:=hh9
   have I7':=I7.pinned (fpY fr7) (T.obj _ _ st7)
   have g7:=hgS σ x H7 _ (step x H7 y7)
   refine thn (hg _ _ _ _ _ s7 _ H7 x u _ I7' r7 g7) λ_ s8 hh9=>?_
   obtain⟨σ8,H8,I8,sub8,q8⟩:=hh9
   have again:∀ {σ9:St} {H9:Hp} {s9:Shared} {zs:List V},Inv Y ([]++WM fp s7.heap) σ9 H9 s9->Z1 (List.replicate 1 none++σ) σ9->(∃ m',m' < n/\W (i+1) m' zs H9) ->
    ∃ m,m < n/\∃ i ys H',Inv Y [] (List.replicate 1 none++σ) H' s9/\tn i s9.heap/\(∀ b∈fp,H' b=none)/\W i m ys H':=λ{σ9 H9 s9 zs} I9 sub9 w9=>by
    obtain⟨m',hm,w9⟩:=w9
    refine⟨m',hm,i+1,zs,H9,(I9.sub sub9).unpinned,T.keep _ _ _ st7 λb hb o e=>(I9.pin (b,o) (b6 _ (b6 _ (wl hb e)))).1,λb hb=>?_,w9⟩
    obtain⟨o,e,d⟩:=T.obj _ _ st7 b hb
    exact(I9.pin (b,o) (b6 _ (b6 _ (wl hb e)))).2.1
   refine thn (ht _ _ _ _ _ s8 σ8 H8 _ I8 q8) λb s9 hh9=>?_
   obtain⟨H9,I9,q9⟩:=hh9
   cases b with
   | false =>
    rw[j4 u9]at q9
    rw[j4 u9]
    exact again I9 sub8 q9
   | true =>
    rw[t4 rfl]at q9
    rw[t4 rfl]
    refine thn (he _ _ _ _ _ s9 σ8 H9 _ I9 q9) λy s10 hh9=>?_
    obtain⟨yv,H10,I10,r10,hD10,w10⟩:=hh9
    obtain⟨z10,its,k,rv,e10⟩:ys.length<=sizeLine/\∃ (its:List Value) (n:Nat),yM ys its/\s10.heap.get? s2.heap.objs.size=some { cls:=.type "list",data:=.seq its.toArray n }:=I10.hok _ _ hD10
    have hl10:s10.heap.PlainList s2.heap.objs.size its.toArray:=⟨k,e10⟩
    refine wpAny_list_append_plain (hsz:=by rw[t7,<- rv.length];exact z10) hl10 λh11 hl11 sb11=>?_
    obtain⟨k',e11⟩:=hl11
    have I11:Inv Y ([]++WM fp s7.heap) σ8 (upd H10 s2.heap.objs.size (.lst (ys++[yv]))) { s10 with heap:=h11 }:=by
     refine I10.write (x:=s2.heap.objs.size) (e:=s2.heap.objs.size) (t':=s10.toks) (by rw[hD10];exact True.intro) (.inl rfl) (λb u hb e=>(sb11.2 b hb).trans e) ⟨_,e11⟩ ?_
     refine⟨by rw[j8];show ys.length+1<=sizeLine;exact hlen,its++[y],k',rv.append (.cons r10 .nil),?_⟩
     rw[e11]
     simp
    exact again I11 sub8 w10
 exact codeAny_compStart_list loop (T.self _ 0 _ _ _ st4 loop)
theorem zmY {X:Cx}{elt tg iter:Expr}{ifs:List Expr}{x0:Str}{M:List Str}{scope:Scope}{cl:List (Str × Addr)}{pos:Pos}{wi:TI}{g:TG}{tt:TT}{te:TE}
 (hc:X.calm=true) (S:ZV X x0 M scope cl) (hi:PI X tg iter wi)
 (hgS:∀ (σ:St) (v:V) (H:Hp) (Q:St->Hp->Prop),g v (List.replicate 1 none++σ) H Q->g v (List.replicate 1 none++σ) H (fun σ2 H2=>Z1 (List.replicate 1 none++σ) σ2/\Q σ2 H2))
 (hg:∀ s₀ H₀ ex pn,PG (zf4 X x0 M scope cl s₀ H₀ ex pn) tg g) (ht:∀ s₀ H₀ ex pn,PIf (zf4 X x0 M scope cl s₀ H₀ ex pn) ifs tt) (he:∀ s₀ H₀ ex pn,PE (zf4 X x0 M scope cl s₀ H₀ ex pn) elt te)
 (hs:∀ x,foldedSetIterable iter X.env x=pure x:=by intro _;rfl) :
 PE X (.ListComp elt [⟨tg,iter,ifs,0⟩] scope pos) (tLC wi 1 g tt te):=by
 intro pins s σ H Q I h
 rw[eval_ListComp]
 refine zjH hc S hi hgS hg ht he hs _ pins s σ H Q I h λD C H' s' I' ⟨m,hn⟩ f q=>⟨m,hn,λh' sb=>⟨.ref D,_,I'.letGo f sb,rfl,q⟩⟩
def za4 (names rn dn:List (Str × NameKind))(x0:Str)(N M cn:List Str):Bool :=
 names.all (λy=>decide (y.2=.local->names.lookup y.1=some .local)) &&
 rn.all (λy=>decide ((y.2=.cell\/y.2=.free)->y.1=x0\/y.1∈cn)) &&
 (M.length == N.length)&&(M.zip N).all (λp=>decide ((rn.lookup p.1=some .local\/rn.lookup p.1=some .cell\/rn.lookup p.1=some .free)->p.1=p.2)) &&
 M.all (λy=>decide ((rn.lookup y=some .local\/rn.lookup y=some .cell\/rn.lookup y=some .free) ->
  y≠x0/\(rn.lookup y=some .cell\/rn.lookup y=some .free)/\(dn.lookup y=some .local\/dn.lookup y=some .cell\/dn.lookup y=some .free)/\dn.lookup y≠some .local))
theorem zok {X:Cx}{x0:Str}{N M cn:List Str}{scope:Scope}{cl:List (Str × Addr)}{rn dn:List (Str × NameKind)}(hr:(relabel scope X.env).names=rn)(hd:X.env.scope.names=dn)(hN:X.N=N)
 (clos:closureFor scope X.env=pure cl) (laid:∀ n,cellsFrom n scope.names cl=(x0,n)::cl) (push:∀ h,pushCells h scope.names=h.push { cls:=.type "cell",data:=.cell none }) (kind:scope.kind=.function) (hc:cl.map Prod.fst=cn) (good:za4 scope.names rn dn x0 N M cn=true) (sub:∀ p∈cl,X.env.cells.lookup p.1=some p.2):ZV X x0 M scope cl:=by
 unfold za4 at good
 simp only[g0,u0s,r9]at good
 obtain⟨⟨⟨⟨g2,g3⟩,g5⟩,g6⟩,g4⟩:=good
 have g5:M.length=N.length:=by simpa using g5
 refine⟨clos,laid,push,kind,g2,λy c h=>sub (y,c) (u0w h),λy h=>?_,by rw[hN];exact g5,λi y e v=>?_,λi y e v=>?_,λi y e v=>?_,λi y e v=>?_⟩
 .rw[hr]at h
  have hy:y=x0\/y∈cn:=by
   rcases h with h | h
   .exact g3 _ (u0w h) (.inl rfl)
   .exact g3 _ (u0w h) (.inr rfl)
  exact hy.imp id λhy=>Yh (by rw[hc];exact hy)
 .unfold Vis at v
  rw[hr]at v
  exact(g4 y (d9 e) v).1
 .unfold Vis at v
  rw[hr]at v
  have hi:=(t6.mp e).1
  have hj:i < N.length:=by rw[<-g5];exact hi
  have hz:(M.zip N)[i]?=some (y,N[i]):=by
   rw[u1A]
   exact⟨e,t9 hj⟩
  have:=g6 _ (d9 hz) v
  rw[hN,t9 hj]
  exact u1c some this.symm
 .unfold Vis at v
  rw[hr]at v ⊢
  exact(g4 y (d9 e) v).2.1
 .unfold Vis at v
  rw[hr]at v
  obtain⟨_,_,k1,k2⟩:=g4 y (d9 e) v
  refine⟨?_,?_⟩
  .unfold Vis;rw[hd];exact k1
  .show X.env.scope.names.lookup y≠_;rw[hd];exact k2
end L2
namespace Dl
open PySem L2
variable [KK]
theorem zlH {X:Cx}{elt tg iter c:Expr}{x0:Str}{M:List Str}{scope:Scope}{cl:List (Str × Addr)}{pos:Pos}{fi:Ev->Option (List D)}{b:D->Option (List (Option D))}{ft:Ev->Option Bool}{fe:Ev->Option D}{g:TG}
 (hc:X.calm=true) (S:ZV X x0 M scope cl) (hi:ID X tg iter fi)
 (hgS:∀ (σ:St) (v:V) (H:Hp) (Q:St->Hp->Prop),g v (List.replicate 1 none++σ) H Q->g v (List.replicate 1 none++σ) H (fun σ2 H2=>Z1 (List.replicate 1 none++σ) σ2/\Q σ2 H2))
 (hrb:RB 1 g b)
 (hg:∀ s₀ H₀ ex pn,PG (zf4 X x0 M scope cl s₀ H₀ ex pn) tg g) (ht:∀ s₀ H₀ ex pn,TD (zf4 X x0 M scope cl s₀ H₀ ex pn) c ft) (he:∀ s₀ H₀ ex pn,ED (zf4 X x0 M scope cl s₀ H₀ ex pn) elt fe)
 (hs:∀ x,foldedSetIterable iter X.env x=pure x:=by intro _;rfl):FL X (.ListComp elt [⟨tg,iter,[c],0⟩] scope pos) (fLC fi b ft fe):=by
 obtain⟨wi,pi,ri⟩:=hi
 exact⟨_,zmY hc S pi hgS hg (λ_ _ _ _=>zee (ht _ _ _ _).can) (λ_ _ _ _=>(he _ _ _ _).can) hs,ziB ri hrb zhq zcE⟩
end Dl
namespace OwnSet
open PySem
def ksOf (m:Nat):List Nat:=(List.range 8).filter λi=>m.testBit i
def tabOf (led:Bool)(ks:List Nat):SetTable:={ mask:=if ks.length<=4 then 7 else 31,place:=ks.toArray,dummies:=#[],finger:=0,led:=led,moves:=if ks.length<=4 then 0 else 1,plain:=true }
def Z5 (led:Bool)(ks:List Nat)(k:Nat):SetTable:={ tabOf led ks with place:=(ks.filter (· < k)++k::ks.filter (k < ·)).toArray }
theorem zjS:∀ (m:_root_.Fin 256) (k:_root_.Fin 8),m.val.testBit k.val=false->ksOf (m.val ||| 1 <<< k.val)=(ksOf m.val).filter (· < k.val)++k.val::(ksOf m.val).filter (k.val < ·):=by decide +kernel
theorem zfy:∀ (m:_root_.Fin 256) (k:_root_.Fin 8),m.val.testBit k.val=false->∀ led:Bool,(tabOf led (ksOf m.val)).freeSlot (k.val:Int)=some (k.val,false):=by decide +kernel
theorem zg1:∀ (m:_root_.Fin 256) (k:_root_.Fin 8),m.val.testBit k.val=false->∀ led:Bool,(tabOf led (ksOf m.val)).put k.val=(Z5 led (ksOf m.val) k.val,((ksOf m.val).filter (· < k.val)).length):=by decide +kernel
theorem zaV:∀ (m:_root_.Fin 256) (k:_root_.Fin 8),m.val.testBit k.val=false->∀ led:Bool,(Z5 led (ksOf m.val) k.val).fits ((ksOf m.val).length+1)=true/\(Z5 led (ksOf m.val) k.val).tooFull=decide ((ksOf m.val).length=4):=by decide +kernel
theorem zim:∀ (m:_root_.Fin 256) (k:_root_.Fin 8),m.val.testBit k.val=false->∀ led:Bool,(ksOf m.val).length≠4->Z5 led (ksOf m.val) k.val=tabOf led (ksOf (m.val ||| 1 <<< k.val)):=by decide +kernel
theorem zdy:∀ (m:_root_.Fin 256),(ksOf m.val).length=5->∀ (k:_root_.Fin 8) (led:Bool),((ksOf m.val).contains k.val)=true->(Z5 led ((ksOf m.val).filter (·≠k.val)) k.val).relaid ((ksOf m.val).map λi:Nat=>(i:Int)).toArray (SetTable.grown 5)=some (tabOf led (ksOf m.val),#[0,1,2,3,4]):=by decide +kernel
theorem zan:∀ (m:_root_.Fin 256) (i:_root_.Fin 9),i.val<=(ksOf m.val).length->SetTable.below (ksOf m.val).toArray (if i.val=0 then 0 else (ksOf m.val).getD (i.val - 1) 0+1)=i.val:=by decide +kernel
theorem zaZ:∀ (m:_root_.Fin 256) (k:_root_.Fin 8),m.val.testBit k.val=false->ksOf m.val=(ksOf m.val).filter (· < k.val)++(ksOf m.val).filter (k.val < ·)/\(ksOf m.val).all (λj=>decide (j≠k.val))=true/\(ksOf m.val).length<=7:=by decide +kernel
def esL (ks:List Nat)(tk:Nat->Tok):List (Int × Value):=ks.map λk:Nat=>((k:Int),Value.int (k:Int) (tk k))
def YD (ks:List Nat)(tk:Nat->Tok):Array (Int × Value):=(esL ks tk).toArray
theorem yL (ks:List Nat)(tk:Nat->Tok):(YD ks tk).size=ks.length:=by unfold YD esL;rw[t7,u6]
def yU (h:Heap) (a:Addr) (led:Bool) (m:Nat):Prop:=∃ (ep:Nat) (tk:Nat->Tok),h.get? a=some { cls:=.type "set",dict:=none,data:=.set (YD (ksOf m) tk) ep (tabOf led (ksOf m)),slots:=#[] }
theorem zbF {α:Type}(xs:List α)(p:Nat)(x:α):SetTable.insertAt xs.toArray p x=(xs.take p++x::xs.drop p).toArray:=by
 unfold SetTable.insertAt
 apply Array.ext'
 simp
 exact u1R (by rw[u0n];exact t5 _)
theorem zog {m k:Nat}(hm:m < 256)(hk:k < 8)(hb:m.testBit k=false)(tk:Nat->Tok)(t0:Tok) :
 SetTable.insertAt (YD (ksOf m) tk) ((ksOf m).filter (· < k)).length ((k:Int),Value.int (k:Int) t0)=YD (ksOf (m ||| 1 <<< k)) (λj=>if j=k then t0 else tk j):=by
 obtain⟨s1,s2,_⟩:=zaZ ⟨m,hm⟩ ⟨k,hk⟩ hb
 have s3:=zjS ⟨m,hm⟩ ⟨k,hk⟩ hb
 simp only at s1 s2 s3
 have e:∀ ks:List Nat,(∀ j∈ks,j≠k)->esL ks (λj=>if j=k then t0 else tk j)=esL ks tk:=λks h=>by
  unfold esL
  exact u0v λj hj=>by show((j:Int),Value.int (j:Int) (if j=k then t0 else tk j))=_;rw[j4 (h j hj)]
 have n1:∀ j∈(ksOf m).filter (· < k),j≠k:=λj hj=>d7 (u0s.mp s2 j (p8.mp hj).1)
 have n2:∀ j∈(ksOf m).filter (k < ·),j≠k:=λj hj=>d7 (u0s.mp s2 j (p8.mp hj).1)
 generalize (ksOf m).filter (· < k)=A at *
 generalize (ksOf m).filter (k < ·)=B at *
 unfold YD
 rw[zbF,s3,s1]
 congr 1
 have l1:A.length=(esL A tk).length:=by unfold esL;rw[u6]
 rw[show esL (A++B) tk=esL A tk++esL B tk from p9,l1,List.take_left,List.drop_left]
 rw[show esL (A++k::B) (λj=>if j=k then t0 else tk j)=esL A (λj=>if j=k then t0 else tk j)++((k:Int),Value.int (k:Int) (if k=k then t0 else tk k))::esL B (λj=>if j=k then t0 else tk j)from p9,e _ n1,e _ n2,t4 rfl]
theorem zbS:∀ (m:_root_.Fin 256) (k:_root_.Fin 8),m.val.testBit k.val=false->(ksOf (m.val ||| 1 <<< k.val)).length=(ksOf m.val).length+1/\(ksOf (m.val ||| 1 <<< k.val)).filter (·≠k.val)=ksOf m.val/\(ksOf (m.val ||| 1 <<< k.val)).contains k.val=true/\(m.val ||| 1 <<< k.val) < 256:=by decide +kernel
theorem ZO:∀ k:_root_.Fin 8,hashInt (k.val:Int)=(k.val:Int):=by decide +kernel
theorem ZP:∀ (m:_root_.Fin 256) (led:Bool),(tabOf led (ksOf m.val)).fits (ksOf m.val).length=true:=by decide +kernel
theorem zc5 {m k:Nat}(hm:m < 256)(hk:k < 8)(hb:m.testBit k=false)(led:Bool)(tk:Nat->Tok)(t0:Tok) :
 layNew (tabOf led (ksOf m)) (YD (ksOf m) tk) (k:Int) (.int (k:Int) t0)=(YD (ksOf (m ||| 1 <<< k)) (λj=>if j=k then t0 else tk j),Z5 led (ksOf m) k,false,false):=by
 have f1:=zfy ⟨m,hm⟩ ⟨k,hk⟩ hb led
 have f2:=zg1 ⟨m,hm⟩ ⟨k,hk⟩ hb led
 have f3:=(zaV ⟨m,hm⟩ ⟨k,hk⟩ hb led).1
 have f4:=(zbS ⟨m,hm⟩ ⟨k,hk⟩ hb).1
 simp only at f1 f2 f3 f4
 unfold layNew
 rw[f1]
 dsimp only
 rw[f2]
 dsimp only
 rw[zog hm hk hb,yL,f4]
 unfold SetTable.orStandIn
 rw[t4 f3,f3]
 rfl
theorem zeF {α:Type}(a b c d e:α):(#[0,1,2,3,4]:Array Nat).filterMap (λi=>(#[a,b,c,d,e]:Array α)[i]?)=#[a,b,c,d,e]:=by
 simp[Array.filterMap]
theorem zix {m k:Nat}(hm:m < 256)(hk:k < 8)(hb:m.testBit k=false)(h4:(ksOf m).length=4)(led:Bool)(tk:Nat->Tok) :
 relayAll (Z5 led (ksOf m) k) (YD (ksOf (m ||| 1 <<< k)) tk) (SetTable.grown (YD (ksOf (m ||| 1 <<< k)) tk).size)=(YD (ksOf (m ||| 1 <<< k)) tk,tabOf led (ksOf (m ||| 1 <<< k)),false):=by
 obtain⟨l1,l2,l3,l4⟩:=zbS ⟨m,hm⟩ ⟨k,hk⟩ hb
 simp only at l1 l2 l3 l4
 have l5:(ksOf (m ||| 1 <<< k)).length=5:=by rw[l1,h4]
 have r:=zdy ⟨m ||| 1 <<< k,l4⟩ l5 ⟨k,hk⟩ led l3
 have fz:=ZP ⟨m ||| 1 <<< k,l4⟩ led
 simp only at r fz
 rw[l2]at r
 have eh:(YD (ksOf (m ||| 1 <<< k)) tk).map (·.1)=((ksOf (m ||| 1 <<< k)).map λi:Nat=>(i:Int)).toArray:=by
  unfold YD esL
  rw[List.map_toArray,i4]
  rfl
 unfold relayAll
 rw[yL,l5,eh,r]
 dsimp only
 have e5:(#[0,1,2,3,4]:Array Nat).filterMap (λi=>(YD (ksOf (m ||| 1 <<< k)) tk)[i]?)=YD (ksOf (m ||| 1 <<< k)) tk:=by
  generalize ksOf (m ||| 1 <<< k)=ks at l5
  match ks,l5 with
  | [a,b,c,d,e],_=>exact zeF _ _ _ _ _
 rw[e5,yL,fz]
 exact t4 (by decide +kernel)
section
variable {prog:Program}{w:World}{A:Around}{E:Value->Shared->Prop}{s:Shared}
theorem Zc (prog:Program)(w:World){m:Nat}(tk:Nat->Tok):ElemsOf (intKind prog w) (YD (ksOf m) tk).toList:=λe he=>by
 unfold YD esL at he
 obtain⟨k,hk,rfl⟩:=b9.mp he
 have h8:k < 8:=u1O.mp (p8.mp hk).1
 exact⟨⟨(k:Int),u39 _ _ _ _,(ZO ⟨k,h8⟩).symm⟩,rfl⟩
theorem zfs {m k:Nat}(tk:Nat->Tok)(hb:m.testBit k=false):(YD (ksOf m) tk).toList.findIdx? (λe=>(intKind prog w).is (k:Int) e.2)=none:=by
 refine u1z.mpr λe he=>?_
 unfold YD esL at he
 obtain⟨j,hj,rfl⟩:=b9.mp he
 show(Value.int (j:Int) (tk j)).isInt (k:Int)=false
 have hjk:j≠k:=λe=>by
  have:=(p8.mp hj).2
  rw[e,hb]at this
  cases this
 simp only[Value.isInt]
 first | exact u0K.mpr (λe=>hjk (u3F e)) | exact g9 (λe=>hjk (u3F e)) | (simp;omega)
theorem zm8 {a:Addr}{m k:Nat}{led:Bool}{t0:Tok}{Q:Bool->Shared->Prop}(hm:m < 256)(hk:k < 8)(hb:m.testBit k=false)(hS:yU s.heap a led m)
 (h:∀ h',Heap.SameBut a s.heap h'->yU h' a led (m ||| 1 <<< k)->Q true { s with heap:=h' }) :
 wpAny (model prog w) A (setAddHashed a (.int (k:Int) t0) (k:Int)) Q E s:=by
 obtain⟨ep,tk,ho⟩:=hS
 have fz:=ZP ⟨m,hm⟩ led
 simp only at fz
 have hf:(tabOf led (ksOf m)).fits (YD (ksOf m) tk).size=true:=by rw[yL];exact fz
 have h7:=(zaZ ⟨m,hm⟩ ⟨k,hk⟩ hb).2.2
 simp only at h7
 have hsz:(YD (ksOf m) tk).size < scanBound:=by rw[yL];exact u0a h7 (by decide)
 have hfl:=zaV ⟨m,hm⟩ ⟨k,hk⟩ hb led
 have hlen:=zbS ⟨m,hm⟩ ⟨k,hk⟩ hb
 simp only at hfl hlen
 have hsz':(YD (ksOf (m ||| 1 <<< k)) (λj=>if j=k then t0 else tk j)).size<=sizeLine:=by
  rw[yL,hlen.1,u1K]
  omega
 have eh:(k:Int)=(intKind prog w).hash (k:Int):=(ZO ⟨k,hk⟩).symm
 unfold setAddHashed setAddHashedIn
 refine u0C (u0 (u3D ho rfl hf ?_))
 dsimp only
 rw[byScan_of (knd:=intKind prog w) (x:=.int (k:Int) t0) rfl hsz (Zc prog w tk)]
 simp only[↓reduceIte]
 unfold setAddByScan
 refine u0 ?_
 refine u0 (u1P ?_)
 have scan:=λ(Q':ScanMet->Shared->Prop) (q:Q' .absent s)=>wpAny_setScan_of (knd:=intKind prog w) (A:=A) (E:=E) (adding:=true) (Q:=Q') (x:=.int (k:Int) t0) (k:=(k:Int)) (u39 _ _ _ _) ho rfl hf (Zc prog w tk) (by rw[zfs tk hb];exact q)
 rw[<-eh]at scan
 refine u0 (scan _ ?_)
 dsimp only
 rw[zc5 hm hk hb]
 dsimp only
 refine u0 (u7 ?_)
 rw[show(Z5 led (ksOf m) k).plain=true from rfl]
 simp only[↓reduceIte]
 refine u0 ?_
 rw[hashByValue_scannable 8 (show(Value.int (k:Int) t0).scannable=true from rfl)]
 refine u7 ?_
 rw[show plainKind (Value.int (k:Int) t0)=true from rfl]
 simp only[↓reduceIte]
 refine u0 (wpAny_storeSet_of ho rfl ?_ hsz')
 have ho1:=u0b (Obj.putSet (YD (ksOf (m ||| 1 <<< k)) (λj=>if j=k then t0 else tk j)) (Z5 led (ksOf m) k)) ho rfl
 have sb1:=u1o s.heap a (Obj.putSet (YD (ksOf (m ||| 1 <<< k)) (λj=>if j=k then t0 else tk j)) (Z5 led (ksOf m) k))
 rw[hfl.2]
 by_cases h4:(ksOf m).length=4
 .rw[j7 h4]
  simp only[Bool.not_false,Bool.and_self,↓reduceIte]
  rw[zix hm hk hb h4]
  dsimp only
  refine u0 (u7 ?_)
  refine u0 (wpAny_storeSet_of ho1 rfl ?_ hsz')
  have ho2:=u0b (Obj.putSet (YD (ksOf (m ||| 1 <<< k)) (λj=>if j=k then t0 else tk j)) (tabOf led (ksOf (m ||| 1 <<< k)))) ho1 rfl
  refine u7 ?_
  dsimp only
  exact u7 (h _ (sb1.trans (u1o _ a _)) ⟨_,_,ho2⟩)
 .rw[g9 h4]
  simp only[Bool.not_false,u16,u1S,↓reduceIte]
  refine u7 ?_
  dsimp only
  have md:=zim ⟨m,hm⟩ ⟨k,hk⟩ hb led h4
  simp only at md
  rw[md]at ho1 sb1 ⊢
  exact u7 (h _ sb1 ⟨_,_,ho1⟩)
end
theorem zgq:∀ (m:_root_.Fin 256) (k:_root_.Fin 8),m.val.testBit k.val=true->m.val ||| 1 <<< k.val=m.val/\k.val∈ksOf m.val:=by decide +kernel
theorem zpw:∀ (m:_root_.Fin 256) (k:_root_.Fin 8),m.val ||| 1 <<< k.val < 256:=by decide +kernel
theorem len_small:∀ m:_root_.Fin 256,(ksOf m.val).length<=8:=by decide +kernel
section
variable {prog:Program}{w:World}{A:Around}{E:Value->Shared->Prop}{s:Shared}
theorem zl8 {a:Addr}{m k:Nat}{led:Bool}{t0:Tok}{Q:Bool->Shared->Prop}(hm:m < 256)(hk:k < 8)(hb:m.testBit k=true)(hS:yU s.heap a led m)(h:Q false s) :
 wpAny (model prog w) A (setAddHashed a (.int (k:Int) t0) (k:Int)) Q E s:=by
 obtain⟨ep,tk,ho⟩:=hS
 have fz:=ZP ⟨m,hm⟩ led
 have h8:=len_small ⟨m,hm⟩
 have hin:=(zgq ⟨m,hm⟩ ⟨k,hk⟩ hb).2
 simp only at fz h8 hin
 have hf:(tabOf led (ksOf m)).fits (YD (ksOf m) tk).size=true:=by rw[yL];exact fz
 have hsz:(YD (ksOf m) tk).size < scanBound:=by rw[yL];exact u0a h8 (by decide)
 have eh:(k:Int)=(intKind prog w).hash (k:Int):=(ZO ⟨k,hk⟩).symm
 obtain⟨j,hj⟩:∃ j,(YD (ksOf m) tk).toList.findIdx? (λe=>(intKind prog w).is (k:Int) e.2)=some j:=by
  cases hr:(YD (ksOf m) tk).toList.findIdx? (λe=>(intKind prog w).is (k:Int) e.2) with
  | some j=>exact⟨j,rfl⟩
  | none =>
   have:=u1z.mp hr ((k:Int),Value.int (k:Int) (tk k)) (by unfold YD esL;exact b9.mpr ⟨k,hin,rfl⟩)
   rw[u39]at this
   cases this
 unfold setAddHashed setAddHashedIn
 refine u0C (u0 (u3D ho rfl hf ?_))
 dsimp only
 rw[byScan_of (knd:=intKind prog w) (x:=.int (k:Int) t0) rfl hsz (Zc prog w tk)]
 simp only[↓reduceIte]
 unfold setAddByScan
 refine u0 ?_
 refine u0 (u1P ?_)
 have scan:=λ(Q':ScanMet->Shared->Prop) (q:Q' (.found (0+j)) s)=>wpAny_setScan_of (knd:=intKind prog w) (A:=A) (E:=E) (adding:=true) (Q:=Q') (x:=.int (k:Int) t0) (k:=(k:Int)) (u39 _ _ _ _) ho rfl hf (Zc prog w tk) (by rw[hj];exact q)
 rw[<-eh]at scan
 refine u0 (scan _ ?_)
 dsimp only
 exact u7 (u7 h)
theorem znB {a:Addr}{m k:Nat}{led:Bool}{t0:Tok}{Q:Bool->Shared->Prop}(hm:m < 256)(hk:k < 8)(hS:yU s.heap a led m)
 (h:∀ b h',Heap.SameBut a s.heap h'->yU h' a led (m ||| 1 <<< k)->Q b { s with heap:=h' }) :
 wpAny (model prog w) A (setAddHashed a (.int (k:Int) t0) (k:Int)) Q E s:=by
 cases hb:m.testBit k with
 | false=>exact zm8 hm hk hb hS λh' sb S=>h true h' sb S
 | true =>
  have e:=(zgq ⟨m,hm⟩ ⟨k,hk⟩ hb).1
  simp only at e
  exact zl8 hm hk hb hS (h false s.heap (Heap.SameBut.refl a s.heap) (e.symm ▸ hS))
end
def bitsTo (val:Nat->Nat):Nat->Nat
 | 0=>0
 | i+1=>bitsTo val i ||| 1 <<< val i
theorem bitsTo_lt {val:Nat->Nat}(h:∀ i,val i < 8):∀ i,bitsTo val i < 256
 | 0=>(by decide:0 < 256)
 | i+1=>zpw ⟨bitsTo val i,bitsTo_lt h i⟩ ⟨val i,h i⟩
theorem yU.at {h h':Heap}{a:Addr}{led:Bool}{m:Nat}(x:yU h a led m)(k:∀ o,h.get? a=some o->h'.get? a=some o):yU h' a led m:=by
 obtain⟨ep,tk,e⟩:=x
 exact⟨ep,tk,k _ e⟩
section
variable {prog:Program}{w:World}{A:Around}{R:Result->Shared->Prop}{I:Addr}{fp wr:List Addr}{G:Array GenState->Array GenState->Prop}{n:Nat}{P:Nat->Value->Prop}{St:Nat->Shared->Prop}
theorem zmD (W:WalksS prog w A.in1 I fp wr G n P St)(S:Addr)(led:Bool)(hSf:S∉fp)(val:Nat->Nat)(h8:∀ i,val i < 8)(hval:∀ i v,P i v->∃ t,v=.int (val i:Int) t) :
 ∀ (k i:Nat) (s:Shared),n - i=k->i<=n->St i s->yU s.heap S led (bitsTo val i) ->
  (∀ s',Moved (S::wr) G s s'->yU s'.heap S led (bitsTo val n)->R (.ok (.ret .none)) s') ->
  codeAny (model prog w) A (.builtin "set.update.loop" ⟨[.ref S,.ref I],[]⟩) R s:=by
 have hSw:S∉wr:=λh=>hSf (W.sub _ h)
 have hsub:∀ b∈wr,b∈S::wr:=λb hb=>r8 _ hb
 intro k
 induction k with
 | zero =>
  intro i s hk hi hst hS hR
  obtain rfl:i=n:=by omega
  refine u1s u18 ?_
  rw[u03 u1i _]
  show wpAny _ A.in1 (pyNext (.ref I)>>=_) _ _ s
  refine u0 (W.done s _ _ hst λs' hm=>?_)
  show wpAny _ A.in1 (ret Value.none) _ _ s'
  exact u7 (hR s' (hm.mono hsub) (hS.at λo e=>hm.heap S o hSw e))
 | succ k ih =>
  intro i s hk hi hst hS hR
  have hlt:i < n:=by omega
  refine u1s u18 ?_
  rw[u03 u1i _]
  show wpAny _ A.in1 (pyNext (.ref I)>>=_) _ _ s
  refine u0 (W.item i s _ _ hlt hst λv s' hP hst' hm=>?_)
  obtain⟨t,rfl⟩:=hval i v hP
  have hS':yU s'.heap S led (bitsTo val i):=hS.at λo e=>hm.heap S o hSw e
  show wpAny _ A.in1 (holding [Value.int (val i:Int) t] (setAdd S (.int (val i:Int) t))>>=_) _ _ s'
  refine u0 (u0C ?_)
  unfold setAdd
  refine u0C ?_
  have ph:=λ(Q':Int->Shared->Prop) (q:Q' ((val i:Int)) { s' with toks:=s'.toks+1 })=>(intKind prog w).pyHash (A:=A.in1) (E:=λe s'=>R (.error e) s') (s:=s') (k:=(val i:Int)) (v:=.int (val i:Int) t) (Q:=Q') (u39 _ _ _ _) (by show Q' (hashInt (val i:Int)) _;rw[ZO ⟨val i,h8 i⟩];exact q)
  refine u0 (ph _ ?_)
  refine znB (s:={ s' with toks:=s'.toks+1 }) (bitsTo_lt h8 i) (h8 i) hS' λb h' hsb hS2=>?_
  refine u7 ⟨u2p u1i _,ih (i+1) _ (by omega) hlt (W.frame _ s' _ _ hst' (u1r _) λb hb o e=>?_) hS2 λs'' hm'' hS''=>?_⟩
  .rw[hsb.2 b (λh:b=S=>hSf (by rw[<-h];exact hb))];exact e
  .refine hR s'' (Moved.trans W.gtrans ((hm.mono hsub).then_heap (u1r _) λb o hb e=>?_) hm'') hS''
   rw[hsb.2 b (λh:b=S=>hb (by rw[h];exact d6))];exact e
end
section
variable {prog:Program}{w:World}{A:Around}{E:Value->Shared->Prop}{s:Shared}
abbrev Yx (w:World):Bool:=!w.params.followText "set-order"
theorem zdZ (a:Value){Q1:Value->Shared->Prop}
 (h:Q1 (.ref s.heap.objs.size) { s with heap:=s.heap.push { cls:=.type "set",dict:=none,data:=.set #[] 0 (.fresh 0 0 (Yx w)) } }) :
 codeAny (model prog w) A (.call (.builtin "set.__new__") ⟨[.type "set",a],[]⟩) (wants Q1 E) s:=by
 refine codeAny_of_tree ?_
 show wpAny _ A.in1 (do checkBuiltinCall "set.__new__" ⟨[.type "set",a],[]⟩;again (.builtin "set.__new__" ⟨[.type "set",a],[]⟩)) _ _ s
 refine u0 (u13 (F.newCall_set_1 a) (u7 ⟨u2p F.plain_set_new _,u1s F.entry_set_new ?_⟩))
 rw[u03 F.plain_set_new _]
 unfold Builtin.«set.__new__» Builtin.Frozenset.newClass
 have hsub:=sub_set_self
 obtain⟨hp,g,d,tk,os⟩:=s
 dsimp only
 wp_walk
 refine u1e (u7 ?_)
 dsimp only
 simp only[newObj]
 refine u0 (wpAny_alloc (u7 ?_))
 exact u7 h
end
theorem zeb (h:Heap) (led:Bool) {a:Addr} (e:h.get? a=some { cls:=.type "set",dict:=none,data:=.set #[] 0 (.fresh 0 0 led) }):yU h a led 0:=⟨0,λ_=>0,e⟩
section
variable {prog:Program}{w:World}{A:Around}{E:Value->Shared->Prop}{s:Shared}
theorem zc2 {l a:Addr} {items:Array Value} {val:Nat->Nat} {led:Bool} {R:Result->Shared->Prop} (hh:A.handled=none) (hS:s.heap.get? a=some { cls:=.type "set",dict:=none,data:=.set #[] 0 (.fresh 0 0 led) })
 (hl:s.heap.IsList l items) (hla:l≠a) (h8:∀ i,val i < 8) (hval:∀ (i:Nat) (v:Value),items[i]?=some v->∃ t,v=.int (val i:Int) t)
 (h:∀ (h':Heap) (tk:Nat),yU h' a led (bitsTo val items.size)->(∀ b o,b≠a->b < s.heap.objs.size->s.heap.get? b=some o->h'.get? b=some o)->R (.ok (.ret .none)) { s with heap:=h',toks:=tk }) :
 wpAny (model prog w) A.in1 (Builtin.«set.__init__» ⟨[.ref a,.ref l],[]⟩) (λfin s'=>match fin with | .done f=>R (.ok f) s' | .again c'=>c'.quiet=true/\codeAny (model prog w) A c' R s') (λe s'=>R (.error e) s') s:=by
 have hT:s.TypeIs (.ref a) "set":=⟨_,hS,rfl⟩
 obtain⟨ol,hol,hcl,nl,hdl⟩:=id hl
 obtain⟨ocls,odict,odata,oslots⟩:=ol
 simp only at hcl hdl
 subst hcl hdl
 have hsls:=F.sub_list_set
 have hslf:=F.sub_list_frozenset
 have hne:(Value.type "list" == Value.type "dict")=false:=by decide
 have hlS:l < s.heap.objs.size:=q5 hol
 have haS:a < s.heap.objs.size:=q5 hS
 unfold Builtin.«set.__init__» noKeywords Builtin.Frozenset.updateFrom
 generalize hPI:pyIter=PI
 wp_walk
 subst hPI
 refine u1m hl ?_
 refine u0 (wpAny_runValue ?_)
 have hh3:A.in1.in1.handled=none:=by simp[hh]
 refine zmD ((Walks.list hh3 _ l (o0 hlS) items).toS) a led (λhm=>?_) val h8 hval items.size 0 _ rfl (u0I _) ⟨⟨_,j6 _ rfl,rfl,rfl⟩,hl.push _⟩ (zeb _ led (u4 _ hS)) λs' hm hS'=>?_
 .rcases j9.mp hm with e | e
  .exact o0 haS e
  .exact hla (d5.mp e).symm
 .obtain⟨h',g',d',tk',os'⟩:=s'
  have eg:g'=s.gens:=hm.gens
  have ed:d'=s.drawn:=hm.drawn
  have eo:os'=s.os:=hm.os
  subst eg ed eo
  show wpAny _ _ _ _ _ _
  refine u7 ?_
  show wpAny _ _ (ret Value.none) _ _ _
  refine u7 (h h' tk' hS' λb o hb hlt e=>hm.heap b o (λhmem=>?_) (u4 _ e))
  rcases j9.mp hmem with z | z
  .exact hb z
  .exact o0 hlt (d5.mp z)
set_option maxHeartbeats 4000000 in
theorem own_call_set {l:Addr}{items:Array Value}{val:Nat->Nat}{Q:Value->Shared->Prop}(hh:A.handled=none)(hl:s.heap.IsList l items)(h8:∀ i,val i < 8)(hval:∀ (i:Nat) (v:Value),items[i]?=some v->∃ t,v=.int (val i:Int) t)
 (h:∀ (h':Heap) (tk:Nat),yU h' s.heap.objs.size (Yx w) (bitsTo val items.size)->(∀ b o,s.heap.get? b=some o->h'.get? b=some o)->Q (.ref s.heap.objs.size) { s with heap:=h',toks:=tk }) :
 wpAny (model prog w) A (call (.type "set") [.ref l]) Q E s:=by
 obtain⟨c,tl,hmro⟩:=u1Y.mro
 have hmade:=u1Y.made
 have hsub:=u1Y.sub
 refine wpAny_call (codeAny_of_tree ?_)
 show wpAny _ _ (callAny (.type "set") _) _ _ _
 refine u7 ⟨Code.quiet_builtin _ (by decide +kernel),u1s F.entry_type_call ?_⟩
 rw[Around.under_plain (weight_type_call_type "set" [.ref l] []) rfl]
 have h1:=u1Y.notType
 have h2:=u1Y.canCreate
 have hct:=F.typeCall_set_1 (.ref l)
 repeat (any_goals (first | assumption | wp_step))
 refine u3h (zdZ (.ref l) (E:=E) (Q1:=λobj s1=>obj=.ref s.heap.objs.size/\s1={ s with heap:=s.heap.push { cls:=.type "set",dict:=none,data:=.set #[] 0 (.fresh 0 0 (Yx w)) } }) ⟨rfl,rfl⟩) λr s1 hr=>?_
 cases r with
 | error e=>exact hr
 | ok fl =>
  cases fl with
  | ret obj =>
   obtain⟨rfl,rfl⟩:=hr
   have hS:(s.heap.push { cls:=.type "set",dict:=none,data:=.set #[] 0 (.fresh 0 0 (Yx w)) }).get? s.heap.objs.size=some { cls:=.type "set",dict:=none,data:=.set #[] 0 (.fresh 0 0 (Yx w)) }:=j6 _ rfl
   have hT:Shared.TypeIs { s with heap:=s.heap.push { cls:=.type "set",dict:=none,data:=.set #[] 0 (.fresh 0 0 (Yx w)) } } (.ref s.heap.objs.size) "set":=⟨_,hS,rfl⟩
   have hli:=u1Y.init.lookup
   have hbi:=u1Y.init.bind (.ref s.heap.objs.size)
   repeat (any_goals (first | assumption | wp_step))
   refine u3h (codeAny_call_builtin (R:=wants (λr s2=>r=.none/\∃ h' tk,s2={ s with heap:=h',toks:=tk }/\yU h' s.heap.objs.size (Yx w) (bitsTo val items.size)/\∀ b o,s.heap.get? b=some o->h'.get? b=some o) E) u1Y.init.plain F.entry_set_init (check_set_init_1 hT ?_)) λr2 s2 hr2=>?_
   .have hll:l < s.heap.objs.size:=by obtain⟨o,ho,_⟩:=hl;exact q5 ho
    refine zc2 (by simp[hh]) hS (hl.push _) (o0 hll) h8 hval λh' tk S k=>⟨rfl,h',tk,rfl,S,λb o e=>k b o (o0 (q5 e)) ?_ (u4 _ e)⟩
    rw[u0A]
    exact u07 (q5 e)
   .cases r2 with
    | error e=>exact hr2
    | ok fl2 =>
     cases fl2 with
     | ret r =>
      obtain⟨rfl,h',tk,rfl,S,k⟩:=hr2
      repeat (any_goals (first | assumption | wp_step))
      exact h _ _ S k
     | _=>exact hr2.elim
  | _=>exact hr.elim
end
theorem ze6:Manifest.owners.lookup (String.ofList ['r','o','t','a','r','e','t','i','_','t','e','s'].reverse)=some Manifest.sig_set_iterator:=by kernel_rfl
theorem Wc:Slot "set_iterator" "__next__" "set_iterator.__next__" :=
 .of (owner:="set_iterator") (n:="__next__") (by rw[typeLookup_type,builtinLookup_eq_fast];kernel_rfl) (by decide +kernel) (by decide +kernel) (by decide +kernel)
  (by first | exact .inl (by decide +kernel) | exact .inr (by decide +kernel)) (by rw[isSubtype_type];kernel_rfl)
theorem zf9:Slot "set_iterator" "__iter__" "set_iterator.__iter__" :=
 .of (owner:="set_iterator") (n:="__iter__") (by rw[typeLookup_type,builtinLookup_eq_fast];kernel_rfl) (by decide +kernel) (by decide +kernel) (by decide +kernel)
  (by first | exact .inl (by decide +kernel) | exact .inr (by decide +kernel)) (by rw[isSubtype_type];kernel_rfl)
theorem XO:entryFor table "set_iterator.__next__"=some Builtin.«set_iterator.__next__»:=entryFor_of_tree (by kernel_rfl)
theorem zbM:entryFor table "set_iterator.__iter__"=some Builtin.«dict_keyiterator.__iter__» :=
 entryFor_alias (id':="dict_keyiterator.__iter__") (by kernel_rfl) (by first | rfl | decide +kernel | (unfold String.splitOn;simp +decide [String.splitOnAux])) (by decide +kernel) (by kernel_rfl)
theorem zaz:entryFor table "set.__iter__"=some Builtin.«frozenset.__iter__» :=
 entryFor_alias (id':="frozenset.__iter__") (by kernel_rfl) (by first | rfl | decide +kernel | (unfold String.splitOn;simp +decide [String.splitOnAux])) (by decide +kernel) (by kernel_rfl)
theorem WS (a:Value):argsOk "set_iterator.__next__" ⟨[a],[]⟩:=by
 unfold argsOk;rw[signature?_of (id:="set_iterator.__next__") (n:=['_','_','t','x','e','n','_','_']) (o:=['r','o','t','a','r','e','t','i','_','t','e','s']) (by kernel_rfl) ze6];kernel_rfl
theorem zc4 (a:Value):argsOk "set_iterator.__iter__" ⟨[a],[]⟩:=by
 unfold argsOk;rw[signature?_of (id:="set_iterator.__iter__") (n:=['_','_','r','e','t','i','_','_']) (o:=['r','o','t','a','r','e','t','i','_','t','e','s']) (by kernel_rfl) ze6];kernel_rfl
def xF (h:Heap) (a:Addr) (led:Bool) (m ep:Nat) (tk:Nat->Tok):Prop:=h.get? a=some { cls:=.type "set",dict:=none,data:=.set (YD (ksOf m) tk) ep (tabOf led (ksOf m)),slots:=#[] }
abbrev Wr (h:Heap) (I a:Addr) (slot i n ep:Nat):Prop:=h.get? I=some { cls:=.type "set_iterator",dict:=none,data:=.fields #[rawInt (slot:Int),rawInt (i:Int),.ref a,rawInt (n:Int),rawInt (ep:Int)],slots:=#[] }
theorem zbb (c:Bool):¬ ((!true&&c)=true):=by cases c <;> decide
theorem zgu (b c:Bool):¬ ((!b&&(!true&&c))=true):=by cases b <;> cases c <;> decide
section
variable {prog:Program}{w:World}{A:Around}{E:Value->Shared->Prop}{s:Shared}
theorem yV {a:Addr}{m ep:Nat}{led:Bool}{tk:Nat->Tok}{Q:(Array (Int × Value) × Nat × SetTable)->Shared->Prop}(hm:m < 256)(hS:xF s.heap a led m ep tk)(h:Q (YD (ksOf m) tk,ep,tabOf led (ksOf m)) s):wpAny (model prog w) A (setState a) Q E s:=by
 have fz:=ZP ⟨m,hm⟩ led
 simp only at fz
 exact u3D hS rfl (by rw[yL];exact fz) h
theorem zcm {a:Addr}{m ep:Nat}{led:Bool}{tk:Nat->Tok}{Q:Value->Shared->Prop}(hm:m < 256)(hS:xF s.heap a led m ep tk)
 (h:Q (.ref s.heap.objs.size) { s with heap:=s.heap.push { cls:=.type "set_iterator",data:=.fields #[rawInt ((0:Nat):Int),rawInt ((0:Nat):Int),.ref a,rawInt ((ksOf m).length:Int),rawInt (ep:Int)] } }) :
 wpAny (model prog w) A (pyIter (.ref a)) Q E s:=by
 have hT:s.TypeIs (.ref a) "set":=⟨_,hS,rfl⟩
 refine u3C hT F.slot_set_iter (u0h F.slot_set_iter hT zaz ?_ (F.args_set_iter_1 _))
 unfold Builtin.«frozenset.__iter__»
 refine u0 (u13 (a:=a) rfl ?_)
 unfold Builtin.Frozenset.sizeOf setEntries
 refine u0 (u0 (u0 (yV hm hS (u7 (u7 ?_)))))
 unfold setDrawn
 refine u0 (u0 (yV hm hS ?_))
 dsimp only
 unfold setsByText
 refine u0 (u0 (u1e (u7 ?_)))
 refine u7 ?_
 dsimp only
 split
 .rename_i hd
  exact absurd hd (zgu _ _)
 .refine u0 (u7 ?_)
  unfold setEpoch
  refine u0 (u0 (yV hm hS (u7 ?_)))
  dsimp only
  rw[yL]
  refine u0 (u0g (u7 ⟨_,rfl,"set_iterator",_,⟨_,j6 _ rfl,rfl⟩,Wc.lookup,?_⟩))
  exact h
def Y3 (w:World) (a:Addr) (m ep:Nat) (tk:Nat->Tok):Array (Int × Value):=if w.params.followText "set-order"=true then pickOrder (w.params.setOrder a ep) (YD (ksOf m) tk)else YD (ksOf m) tk
def slotAt (w:World) (m i:Nat):Nat:=if w.params.followText "set-order"=true then 0 else if i=0 then 0 else (ksOf m).getD (i - 1) 0+1
theorem zd1 {a:Addr}{m ep i:Nat}{tk:Nat->Tok}{e:Int × Value}{Q:Option (Value × Nat)->Shared->Prop}(hm:m < 256)(hS:xF s.heap a (Yx w) m ep tk)(hi:i < (ksOf m).length)(he:(Y3 w a m ep tk)[i]?=some e)
 (h:Q (some (e.2,slotAt w m (i+1))) s):wpAny (model prog w) A (setNext a (slotAt w m i) i ep) Q E s:=by
 unfold setNext
 refine u0 (yV hm hS ?_)
 dsimp only
 unfold setsByText
 refine u0 (u0 (u1e (u7 ?_)))
 dsimp only
 unfold Y3 at he
 unfold slotAt at h ⊢
 by_cases bt:w.params.followText "set-order"=true
 .have bt':(model prog w).w.params.followText "set-order"=true:=bt
  rw[t4 bt]at he h ⊢
  rw[t4 bt']
  rw[j4 (by simp)]
  unfold setWalk
  refine u0 (u0 (yV hm hS ?_))
  dsimp only
  unfold setsByText
  refine u0 (u0 (u1e (u7 ?_)))
  dsimp only
  rw[t4 bt']
  refine u0 (u1e (u7 ?_))
  refine u7 ?_
  show Q (((pickOrder (w.params.setOrder a ep) (YD (ksOf m) tk))[i]?).map λe=>(e.2,0)) s
  rw[he]
  exact h
 .have bt':¬ (model prog w).w.params.followText "set-order"=true:=bt
  rw[j4 bt]at he h ⊢
  rw[j4 bt']
  have hb:=zan ⟨m,hm⟩ ⟨i,r6 hi (p6 (len_small ⟨m,hm⟩) (by decide))⟩ (u0S hi)
  simp only at hb
  have hl:Yx w=true:=by unfold Yx;rw[Bool.eq_false_iff.mpr bt];rfl
  rw[hl]
  split
  .rename_i hd
   exact absurd hd (zbb _)
  .refine u0 (u13 (a:=()) rfl ?_)
   refine u7 ?_
   show Q (match (YD (ksOf m) tk)[SetTable.below (ksOf m).toArray (if i=0 then 0 else (ksOf m).getD (i - 1) 0+1)]?,(ksOf m).toArray[SetTable.below (ksOf m).toArray (if i=0 then 0 else (ksOf m).getD (i - 1) 0+1)]? with | some (_,x),some j=>some (x,j+1) | _,_=>none) s
   rw[hb,he,show(ksOf m).toArray[i]?=some ((ksOf m).getD i 0) by simp[hi]]
   rw[j4 (Nat.succ_ne_zero i)]at h
   exact h
end
theorem za1 {α:Type}:∀ (l:List α) (i:Nat) (h:i < l.length),(l[i]::l.eraseIdx i).Perm l
 | x::l,0,_=>u1y _
 | x::l,i+1,h=>(List.Perm.swap x (l[i]'(Nat.lt_of_succ_lt_succ h)) (l.eraseIdx i)).trans (List.Perm.cons x (za1 l i (Nat.lt_of_succ_lt_succ h)))
theorem zl1 {α:Type}(next:Nat->Nat):∀ (fuel k:Nat) (left:List α) (out:Array α),left.length=fuel->(pickOrder.go next fuel k left out).toList.Perm (out.toList++left):=by
 intro fuel
 induction fuel with
 | zero =>
  intro k left out h
  rw[u01.mp h,u0l]
  exact u1y _
 | succ f ih =>
  intro k left out h
  have hlt:next k % left.length < left.length:=Nat.mod_lt _ (by rw[h];exact Nat.succ_pos f)
  unfold pickOrder.go
  rw[t9 hlt]
  dsimp only
  refine(ih (k+1) _ _ (by rw[List.length_eraseIdx_of_lt hlt,h];rfl)).trans ?_
  rw[Array.toList_push,u1j]
  exact List.Perm.append_left _ (za1 _ _ hlt)
theorem zif {α:Type}(next:Nat->Nat)(xs:Array α):(pickOrder next xs).toList.Perm xs.toList:=by
 unfold pickOrder
 exact zl1 next xs.size 0 xs.toList #[] (by rw[i9])
theorem zbR (w:World)(a:Addr)(m ep:Nat)(tk:Nat->Tok):(Y3 w a m ep tk).toList.Perm (YD (ksOf m) tk).toList:=by
 unfold Y3
 split
 .exact zif _ _
 .exact u1y _
theorem W8 (w:World)(a:Addr)(m ep:Nat)(tk:Nat->Tok):(Y3 w a m ep tk).size=(ksOf m).length:=by
 rw[<-i9,(zbR w a m ep tk).length_eq,i9,yL]
section
variable {prog:Program}{w:World}{A:Around}{E:Value->Shared->Prop}{s:Shared}
theorem Vz {a:Addr}{m ep:Nat}{tk:Nat->Tok}{Q:Option (Value × Nat)->Shared->Prop}(hm:m < 256)(hS:xF s.heap a (Yx w) m ep tk)(h:Q none s):wpAny (model prog w) A (setNext a (slotAt w m (ksOf m).length) (ksOf m).length ep) Q E s:=by
 have he:(Y3 w a m ep tk)[(ksOf m).length]?=none:=Array.getElem?_eq_none (by rw[W8];exact t5 _)
 unfold setNext
 refine u0 (yV hm hS ?_)
 dsimp only
 unfold setsByText
 refine u0 (u0 (u1e (u7 ?_)))
 dsimp only
 unfold Y3 at he
 unfold slotAt
 by_cases bt:w.params.followText "set-order"=true
 .have bt':(model prog w).w.params.followText "set-order"=true:=bt
  rw[t4 bt]at he ⊢
  rw[t4 bt',j4 (by simp)]
  unfold setWalk
  refine u0 (u0 (yV hm hS ?_))
  dsimp only
  unfold setsByText
  refine u0 (u0 (u1e (u7 ?_)))
  dsimp only
  rw[t4 bt']
  refine u0 (u1e (u7 ?_))
  refine u7 ?_
  show Q (((pickOrder (w.params.setOrder a ep) (YD (ksOf m) tk))[(ksOf m).length]?).map λe=>(e.2,0)) s
  rw[he]
  exact h
 .have bt':¬ (model prog w).w.params.followText "set-order"=true:=bt
  rw[j4 bt]at he ⊢
  rw[j4 bt']
  have hb:=zan ⟨m,hm⟩ ⟨(ksOf m).length,u0a (len_small ⟨m,hm⟩) (by decide)⟩ (t5 _)
  simp only at hb
  have hl:Yx w=true:=by unfold Yx;rw[Bool.eq_false_iff.mpr bt];rfl
  rw[hl]
  split
  .rename_i hd
   exact absurd hd (zbb _)
  .refine u0 (u13 (a:=()) rfl ?_)
   refine u7 ?_
   show Q (match (YD (ksOf m) tk)[SetTable.below (ksOf m).toArray (if (ksOf m).length=0 then 0 else (ksOf m).getD ((ksOf m).length - 1) 0+1)]?,(ksOf m).toArray[SetTable.below (ksOf m).toArray (if (ksOf m).length=0 then 0 else (ksOf m).getD ((ksOf m).length - 1) 0+1)]? with | some (_,x),some j=>some (x,j+1) | _,_=>none) s
   rw[hb,he]
   exact h
theorem zd9 {I a:Addr}{slot i n ep:Nat}{Q:Value->Shared->Prop}(he:Wr s.heap I a slot i n ep)(h:Q (.ref I) s):wpAny (model prog w) A (pyIter (.ref I)) Q E s:=by
 have hT:s.TypeIs (.ref I) "set_iterator":=⟨_,he,rfl⟩
 refine u3C hT zf9 (u0h zf9 hT zbM ?_ (zc4 _))
 show wpAny _ _ (ret (.ref I)) _ _ s
 exact u7 ⟨_,rfl,"set_iterator",_,hT,Wc.lookup,h⟩
theorem zdr {I a:Addr}{m ep i:Nat}{tk:Nat->Tok}{e:Int × Value}{Q:Option Value->Shared->Prop}(hm:m < 256)(hI:Wr s.heap I a (slotAt w m i) i (ksOf m).length ep)(hS:xF s.heap a (Yx w) m ep tk)(hi:i < (ksOf m).length)(he:(Y3 w a m ep tk)[i]?=some e)
 (hQ:∀ h',Wr h' I a (slotAt w m (i+1)) (i+1) (ksOf m).length ep->Heap.SameBut I s.heap h'->Q (some e.2) { s with heap:=h' }):wpAny (model prog w) A (pyNext (.ref I)) Q E s:=by
 have hT:s.TypeIs (.ref I) "set_iterator":=⟨_,hI,rfl⟩
 unfold pyNext
 refine u0 (u1L (u0k (name:=Str.ofString "__next__") hT Wc (u0h Wc hT XO ?_ (WS _))))
 unfold Builtin.«set_iterator.__next__»
 refine u0 (u13 (a:=(Value.ref I,[])) rfl ?_)
 try dsimp only
 refine u0 (u3s hI rfl ?_)
 show wpAny _ _ (setEntries a>>=_) _ _ s
 unfold setEntries
 refine u0 (u0 (yV hm hS (u7 ?_)))
 dsimp only
 rw[yL,j4 (by simp)]
 show wpAny _ _ (setNext a ((slotAt w m i:Int)).toNat ((i:Int)).toNat ((ep:Int)).toNat>>=_) _ _ s
 rw[u0f,u0f,u0f]
 refine u0 (zd1 hm hS hi he ?_)
 dsimp only
 refine u0 (u02 hI (by simp) λh1 he1 hs1=>?_)
 refine u0 (u02 he1 (by simp) λh2 he2 hs2=>?_)
 exact u7 ⟨_,rfl,u7 (hQ h2 he2 (hs1.trans hs2))⟩
theorem zfL {I a:Addr}{m ep:Nat}{tk:Nat->Tok}{Q:Option Value->Shared->Prop}(hh:A.handled=none)(hm:m < 256)(hI:Wr s.heap I a (slotAt w m (ksOf m).length) (ksOf m).length (ksOf m).length ep)(hS:xF s.heap a (Yx w) m ep tk)
 (hQ:∀ h',Heap.ExtBut I s.heap h'->Q none { s with heap:=h' }):wpAny (model prog w) A (pyNext (.ref I)) Q E s:=by
 have hT:s.TypeIs (.ref I) "set_iterator":=⟨_,hI,rfl⟩
 unfold pyNext
 refine u0 (u1L (u0k (name:=Str.ofString "__next__") hT Wc (u0h Wc hT XO ?_ (WS _))))
 unfold Builtin.«set_iterator.__next__»
 refine u0 (u13 (a:=(Value.ref I,[])) rfl ?_)
 try dsimp only
 refine u0 (u3s hI rfl ?_)
 show wpAny _ _ (setEntries a>>=_) _ _ s
 unfold setEntries
 refine u0 (u0 (yV hm hS (u7 ?_)))
 dsimp only
 rw[yL,j4 (by simp)]
 show wpAny _ _ (setNext a ((slotAt w m (ksOf m).length:Int)).toNat (((ksOf m).length:Int)).toNat ((ep:Int)).toNat>>=_) _ _ s
 rw[u0f,u0f,u0f]
 refine u0 (Vz hm hS ?_)
 dsimp only
 refine u0 (u02 hI (by simp) λh1 he1 hs1=>?_)
 refine u0 ?_
 simp only[newExc,newTuple]
 refine u0 (u0g ?_ (by size_fits))
 refine u0 (m:=firstArgMember _ _) (u13 (a:=Value.none) (by first | rfl | (simp only[firstArgMember];rfl)) ?_)
 refine u0g ?_ (by size_fits)
 simp only[raiseNew]
 refine u0 (wpAny_handled ?_)
 first | rw[show A.in1.handled=none from hh] | rw[hh]
 refine u0 (u7 (wpAny_throw ?_))
 refine u0 (u2c (T:="StopIteration") (b:=true) ⟨_,j6 _ rfl,rfl⟩ u3r ?_)
 exact u7 (hQ _ ((hs1.extBut.push _).push _))
theorem xF.at {h h':Heap}{a:Addr}{led:Bool}{m ep:Nat}{tk:Nat->Tok}(x:xF h a led m ep tk)(k:∀ o,h.get? a=some o->h'.get? a=some o):xF h' a led m ep tk:=k _ x
theorem zch (hh:A.handled=none)(I a:Addr)(hne:a≠I){m ep:Nat}{tk:Nat->Tok}(hm:m < 256) :
 Walks prog w A I [I,a] [I] (ksOf m).length (λi v=>∃ e,(Y3 w a m ep tk)[i]?=some e/\v=e.2) (λi h=>i<=(ksOf m).length/\Wr h I a (slotAt w m i) i (ksOf m).length ep/\xF h a (Yx w) m ep tk) where
 sub:=λb hb=>by simp at hb;simp[hb]
 frame:=λ_ _ _ x hk=>by
  obtain⟨h1,h2,h3⟩:=x
  exact⟨h1,hk I (by simp) _ h2,h3.at λo e=>hk a (by simp) o e⟩
 item:=λi s Q E hi x hQ=>by
  obtain⟨h1,h2,h3⟩:=x
  have hx:(Y3 w a m ep tk)[i]?=some ((Y3 w a m ep tk)[i]'(by rw[W8];exact hi)):=u0U _
  refine zdr hm h2 h3 hi hx λh' he' hs'=>?_
  exact hQ _ h' s.toks ⟨_,hx,rfl⟩ ⟨hi,he',h3.at λo e=>(hs'.2 a hne).trans e⟩ λb o hb eo=>hs'.extBut b o (λh=>hb (by simp[h])) eo
 done:=λs Q E x hQ=>by
  obtain⟨h1,h2,h3⟩:=x
  exact zfL hh hm h2 h3 λh' he'=>hQ h' s.toks λb o hb eo=>he' b o (λh=>hb (by simp[h])) eo
 self:=λ_ _ _ _ x hQ=>zd9 x.2.1 hQ
theorem zcN {a:Addr}{m ep:Nat}{led:Bool}{tk:Nat->Tok}{Q:Bool->Shared->Prop}(hS:xF s.heap a led m ep tk)(hQ:Q false s):wpAny (model prog w) A (Builtin.List.listLengthHint (.ref a)) Q E s:=by
 have hT:s.TypeIs (.ref a) "set":=⟨_,hS,rfl⟩
 unfold Builtin.List.listLengthHint
 refine u0 (wpAny_specialOf hT F.slot_set_len.lookup ?_)
 try dsimp only
 have hsp:splitId "set.__len__"=some ("set","__len__"):=by decide +kernel
 rw[hsp]
 try dsimp only
 refine u0 (u2c (T:="set") (b:=true) hT sub_set_self ?_)
 rw[j4 (by decide)]
 show wpAny _ _ (if true=true then _ else _) _ _ _
 rw[t4 rfl]
 refine u0 (u2i hT ?_)
 dsimp only
 exact u7 hQ
theorem VU {a:Addr}{m ep:Nat}{tk:Nat->Tok}{Q:List Value->Shared->Prop}(hh:A.handled=none)(hm:m < 256)(hS:xF s.heap a (Yx w) m ep tk)
 (hQ:∀ s',(∀ b o,s.heap.get? b=some o->s'.heap.get? b=some o)->s'.gens=s.gens->s'.drawn=s.drawn->s'.os=s.os->Q ((Y3 w a m ep tk).toList.map (·.2)) s'):wpAny (model prog w) A (collect (.ref a)) Q E s:=by
 have hlt:a < s.heap.objs.size:=q5 hS
 have hSa:s.heap.objs.size≠a:=u12 hlt
 have h8:(ksOf m).length<=sizeLine:=p6 (len_small ⟨m,hm⟩) (by rw[u1K];decide)
 unfold collect
 refine u0 (wpAny_runValue (u1s F.entry_proto_collect ?_))
 rw[u03 F.plain_proto_collect _]
 show wpAny _ A.in1 (newList []>>=λl=>again (.builtin "list.__iadd__" ⟨[l,.ref a],[]⟩)) _ _ s
 refine u0 (u0g ?_)
 refine u7 ⟨u2p u2s _,u1s F.entry_list_iadd ?_⟩
 rw[u03 u2s _]
 have hS1:xF (s.heap.push { cls:=.type "list",data:=.seq ([]:List Value).toArray }) a (Yx w) m ep tk:=u4 _ hS
 have hL1:(s.heap.push { cls:=.type "list",data:=.seq ([]:List Value).toArray }).get? s.heap.objs.size=some { cls:=.type "list",data:=.seq ([]:List Value).toArray }:=j6 _ rfl
 generalize hh1:s.heap.push { cls:=.type "list",data:=.seq ([]:List Value).toArray }=h1 at hS1 hL1 ⊢
 have k1:∀ b o,s.heap.get? b=some o->h1.get? b=some o:=λb o e=>by rw[<-hh1];exact u4 _ e
 have hz1:h1.objs.size=s.heap.objs.size+1:=by rw[<-hh1];exact u0A ..
 show wpAny _ A.in1 (Builtin.List.listExtendWith (.ref s.heap.objs.size) (.ref a) (.ref s.heap.objs.size)) _ _ _
 unfold Builtin.List.listExtendWith
 refine u0 (u2i (T:="set") ⟨_,hS1,rfl⟩ ?_)
 have g1:Builtin.List.listSameRef (.ref s.heap.objs.size) (.ref a)=false:=by simp[Builtin.List.listSameRef,hSa]
 have g2:(Value.type "set" == Value.type "list")=false:=by decide
 have g3:(Value.type "set" == Value.type "tuple")=false:=by decide
 simp only[g1,g2,g3,Bool.or_false,u1S,u3i]
 refine u0 (zcm hm hS1 ?_)
 have hI2:Wr (h1.push { cls:=.type "set_iterator",data:=.fields #[rawInt ((0:Nat):Int),rawInt ((0:Nat):Int),.ref a,rawInt ((ksOf m).length:Int),rawInt (ep:Int)] }) h1.objs.size a 0 0 (ksOf m).length ep:=j6 _ rfl
 have hS2:xF (h1.push { cls:=.type "set_iterator",data:=.fields #[rawInt ((0:Nat):Int),rawInt ((0:Nat):Int),.ref a,rawInt ((ksOf m).length:Int),rawInt (ep:Int)] }) a (Yx w) m ep tk:=u4 _ hS1
 have hL2:=u4 { cls:=.type "set_iterator",data:=.fields #[rawInt ((0:Nat):Int),rawInt ((0:Nat):Int),.ref a,rawInt ((ksOf m).length:Int),rawInt (ep:Int)] } hL1
 generalize hh2:h1.push { cls:=.type "set_iterator",data:=.fields #[rawInt ((0:Nat):Int),rawInt ((0:Nat):Int),.ref a,rawInt ((ksOf m).length:Int),rawInt (ep:Int)] }=h2 at hI2 hS2 hL2 ⊢
 have k2:∀ b o,h1.get? b=some o->h2.get? b=some o:=λb o e=>by rw[<-hh2];exact u4 _ e
 refine u0 (u0C (zcN hS2 ?_))
 show wpAny _ A.in1 (if true=true then _ else _) _ _ _
 rw[t4 rfl]
 refine u0 (u1P (u0 ?_))
 show wpAny _ A.in1 (updateSeq s.heap.objs.size (·.push .none)>>=λ_=>updateSeq s.heap.objs.size (·.pop)) _ _ _
 refine u0 (u25 hL2 rfl ?_)
 have hL3:=u0b (Obj.mapSeq (·.push Value.none)) hL2 rfl
 refine u25 (hz:=by seq_fits) hL3 rfl ?_
 have hL4:=u0b (Obj.mapSeq (·.pop)) hL3 rfl
 have oth:∀ b o,b≠s.heap.objs.size->h2.get? b=some o->((h2.update s.heap.objs.size (Obj.mapSeq (·.push Value.none))).update s.heap.objs.size (Obj.mapSeq (·.pop))).get? b=some o :=
  λb o hb e=>(u0e _ _ (u0R hb)).trans ((u0e _ _ (u0R hb)).trans e)
 have hIne:h1.objs.size≠s.heap.objs.size:=by rw[hz1];exact Nat.succ_ne_self _
 have hIa:a≠h1.objs.size:=by rw[hz1];exact o0 (u07 hlt)
 have W:=zch (prog:=prog) (w:=w) (A:=A.in1) (ep:=ep) (tk:=tk) hh h1.objs.size a hIa hm
 have hsl:slotAt w m 0=0:=by unfold slotAt;split <;> rfl
 refine u7 ⟨u2p F.plain_extend_loop _,codeAny_extend_loopS W.toS h8 _ (λhmem=>?_) _ (ksOf m).length 0 _ #[] _ rfl (u0I _) ⟨u0I _,by rw[hsl];exact oth _ _ hIne hI2,hS2.at λo e=>oth _ _ (u0R hSa) e⟩ hL4 (ItemsOf.nil _) λs' acc' c' hmv hS' hacc=>?_⟩
 .rcases j9.mp hmem with e | e
  .exact hIne e.symm
  .exact hSa (d5.mp e)
 .show wpAny _ A (load s.heap.objs.size>>=_) _ _ s'
  refine u0 (wpAny_load hS' ?_)
  refine u7 ?_
  have e1:acc'.toList=(Y3 w a m ep tk).toList.map (·.2):=by
   apply u14
   intro i
   by_cases hi:i < (ksOf m).length
   .have q1:acc'[i]?=some (acc'[i]'(by rw[hacc.1];exact hi)):=u0U _
    obtain⟨e,q2,q3⟩:=hacc.2 i _ q1
    rw[j5,u1X,u1X,q1,q2,q3]
    rfl
   .rw[u0B (by rw[i9,hacc.1];exact u0M hi),u0B (by rw[u6,i9,W8];exact u0M hi)]
  rw[e1]
  refine hQ s' (λb o e=>hmv.heap b o (λhmem=>?_) (oth b o (o0 (q5 e)) (k2 b o (k1 b o e)))) hmv.gens hmv.drawn hmv.os
  rcases j9.mp hmem with z | z
  .exact o0 (q5 e) z
  .have:=q5 e
   rw[d5.mp z,hz1]at this
   exact absurd (u3x this) (u0Q _)
end
end OwnSet
namespace OwnSet
open PySem PyProof.Rows
theorem Xy:∀ (l:List (Int × Value)),(∀ e∈l,∃ t,e.2=.int e.1 t)->PyProof.Rows.IntsAre (l.map (·.2)) (l.map (·.1))
 | [],_=>.nil
 | e::l,h=>by
  obtain⟨t,et⟩:=h e d6
  rw[p7,p7,et]
  exact .cons _ t (Xy l λx hx=>h x (r8 _ hx))
theorem zh1 (m:Nat):((ksOf m).map λi:Nat=>(i:Int)).Pairwise (·<=·):=by
 rw[u1l]
 exact((List.pairwise_lt_range (n:=8)).filter _).imp λh=>Int.ofNat_le.mpr (u0S h)
theorem zjx (w:World)(a:Addr)(m ep:Nat)(tk:Nat->Tok):PyProof.Rows.IntsAre ((Y3 w a m ep tk).toList.map (·.2)) ((Y3 w a m ep tk).toList.map (·.1))/\((Y3 w a m ep tk).toList.map (·.1)).Perm ((ksOf m).map λi:Nat=>(i:Int)):=by
 constructor
 .refine Xy _ λe he=>?_
  have:=(zbR w a m ep tk).mem_iff.mp he
  unfold YD esL at this
  obtain⟨k,_,rfl⟩:=b9.mp this
  exact⟨_,rfl⟩
 .have:=(zbR w a m ep tk).map (·.1)
  unfold YD esL at this
  rw[i4]at this
  exact this
section
variable {prog:Program}{w:World}{A:Around}{E:Value->Shared->Prop}{s:Shared}
theorem own_sorted_set {a:Addr}{m ep:Nat}{tk:Nat->Tok}{Q:Value->Shared->Prop}(hh:A.handled=none)(hm:m < 256)(hS:xF s.heap a (Yx w) m ep tk)
 (h:∀ (h1 h':Heap) (tk':Nat) (out:Array Value) (c:Nat),IntsAre out.toList ((ksOf m).map λi:Nat=>(i:Int))->(∀ b o,s.heap.get? b=some o->h1.get? b=some o)->(∀ b o,h1.get? b=some o->h'.get? b=some o) ->
  h'.get? h1.objs.size=some { cls:=.type "list",dict:=none,data:=.seq out c,slots:=#[] }->Q (.ref h1.objs.size) { s with heap:=h',toks:=tk' }) :
 wpAny (model prog w) A (call (.builtin "sorted") [.ref a]) Q E s:=by
 refine u17 u3z u3q u3p (u3o _) ?_
 unfold Builtin.«sorted»
 refine u0 (m:=checkCount "sorted" 1 1 _) (u7 ?_)
 refine u0 (VU hh hm hS λs' k g1 g2 g3=>?_)
 obtain⟨h1,g',d',tk1,os'⟩:=s'
 have e1:g'=s.gens:=g1
 have e2:d'=s.drawn:=g2
 have e3:os'=s.os:=g3
 subst e1 e2 e3
 obtain⟨hI,hp⟩:=zjx w a m ep tk
 have h64:((Y3 w a m ep tk).toList.map (·.2)).length < 64:=by
  rw[u6,i9,W8]
  exact u0a (len_small ⟨m,hm⟩) (by decide)
 generalize (Y3 w a m ep tk).toList.map (·.2)=vs at *
 generalize (Y3 w a m ep tk).toList.map (·.1)=ns at *
 refine u0 (u3K ?_)
 have hoL:(h1.push (PyProof.Rows.seqObj "list" vs.toArray 0)).get? h1.objs.size=some (PyProof.Rows.seqObj "list" vs.toArray 0):=j6 _ rfl
 refine u0 (u0C (u0h u23 ⟨_,hoL,rfl⟩ u2O (PyProof.Rows.list_sort_tree hoL hI h64 λout ns' a1 a2 a3=>⟨_,rfl,?_⟩) (u22 _)))
 have es:ns'=(ksOf m).map λi:Nat=>(i:Int):=W.ksm_same (a2.trans hp) a3 (zh1 m)
 subst es
 have hlt:h1.objs.size < (h1.push (PyProof.Rows.seqObj "list" vs.toArray 0)).objs.size:=q5 hoL
 have hn:∀ b o,b≠h1.objs.size->(h1.push (PyProof.Rows.seqObj "list" vs.toArray 0)).get? b=some o->(PyProof.Rows.sortedHeap (h1.push (PyProof.Rows.seqObj "list" vs.toArray 0)) h1.objs.size vs out).get? b=some o:=λb o hb e=>by
  unfold PyProof.Rows.sortedHeap
  exact(u0e _ _ (u0R hb)).trans (u4 _ (u4 _ ((u0e _ _ (u0R hb)).trans e)))
 have hL:∃ c,(PyProof.Rows.sortedHeap (h1.push (PyProof.Rows.seqObj "list" vs.toArray 0)) h1.objs.size vs out).get? h1.objs.size=some { cls:=.type "list",dict:=none,data:=.seq out c,slots:=#[] }:=by
  unfold PyProof.Rows.sortedHeap
  have u1:=u0b (Obj.mapSeq λ_=>(#[]:Array Value)) hoL rfl
  have u2:=u4 (PyProof.Rows.seqObj "list" #[] 0) (u4 (PyProof.Rows.seqObj "tuple" vs.toArray 0) u1)
  exact⟨_,u0b (Obj.mapSeq λ_=>out) u2 rfl⟩
 obtain⟨c,hL⟩:=hL
 exact u7 ⟨_,rfl,h h1 _ _ out c a1 k (λb o e=>hn b o (o0 (q5 e)) (u4 _ e)) hL⟩
end
end OwnSet
namespace L2
open PySem PySem.Spec PyProof.Rows
def zml (ks:List Nat):List Nat:=OwnSet.ksOf (OwnSet.bitsTo (λi=>ks.getD i 0) ks.length)
theorem zic (val:Nat->Nat)(k:Nat):∀ n:Nat,(OwnSet.bitsTo val n).testBit k=true↔∃ i,i < n/\val i=k
 | 0=>by
  show(0:Nat).testBit k=true↔_
  rw[Nat.zero_testBit]
  exact⟨(λh=>by cases h),λh=>by obtain⟨i,hi,_⟩:=h;exact absurd hi (Nat.not_lt_zero i)⟩
 | n+1=>by
  show(OwnSet.bitsTo val n ||| 1 <<< val n).testBit k=true↔_
  rw[Nat.testBit_or,u2R,zic val k n,Nat.one_shiftLeft,Nat.testBit_two_pow,r9]
  constructor
  .rintro(⟨i,hi,e⟩ | e)
   .exact⟨i,u07 hi,e⟩
   .exact⟨n,u2b n,e⟩
  .rintro⟨i,hi,e⟩
   rcases Nat.lt_succ_iff_lt_or_eq.mp hi with h | h
   .exact .inl ⟨i,h,e⟩
   .subst h;exact .inr e
theorem zeE {ks:List Nat}(h8:∀ k∈ks,k < 8){k:Nat}:k∈zml ks↔k∈ks:=by
 unfold zml OwnSet.ksOf
 rw[p8,u1O,zic]
 constructor
 .rintro⟨_,i,hi,e⟩
  rw[show ks.getD i 0=ks[i] by simp[hi]]at e
  rw[<-e]
  exact u05 hi
 .intro hk
  obtain⟨i,hi,e⟩:=u2J.mp hk
  exact⟨h8 k hk,i,hi,by rw[show ks.getD i 0=ks[i] by simp[hi]];exact e⟩
def tSS (K:W.Frag)(ta:TE):TE:=fun σ H Q=>ta σ H λx H1=>∃ a ks,x=.ref a/\SqL K H1 a ((ks.map λk:Nat=>(k:Int)).map V.int)/\(∀ k∈ks,k < 8)/\∀ l,H1 l=none->Q (.ref l) (upd H1 l (.lst (((zml ks).map λk:Nat=>(k:Int)).map V.int)))
theorem zfI {X:Cx} {a:Expr} {ta:TE} {p1 p2 pos1 pos2:Pos} (hc:X.calm=true) (hg1:Gl X "sorted") (hm1:X.mg "sorted"=none) (hb1:bootBuiltins "sorted"=some (.builtin "sorted")) (hg2:Gl X "set") (hm2:X.mg "set"=none) (hb2:bootBuiltins "set"=some (.type "set")) (ha:PE X a ta)
 (hs:starEach [a] X.env=[(false,eval a X.env)]:=by rfl) (hs2:starEach [.Call (.Name "set" p2) [a] [] pos2] X.env=[(false,eval (.Call (.Name "set" p2) [a] [] pos2) X.env)]:=by rfl):PE X (.Call (.Name "sorted" p1) [.Call (.Name "set" p2) [a] [] pos2] [] pos1) (tSS X.K ta):=by
 intro pins s σ H Q I h
 refine Call_ (XM I hg1 hm1 hb1 (u2D (Q:=EP X pins σ Q) ?_ hs2 rfl))
 rw[hs2]
 show wpAny _ _ (spliced ((false,eval (.Call (.Name "set" p2) [a] [] pos2) X.env)::[])) _ _ _
 refine u1T ?_
 refine Call_ (XM I hg2 hm2 hb2 (u0J ?_ hs rfl))
 rw[hs]
 show wpAny _ _ (spliced ((false,eval a X.env)::[])) _ _ _
 refine u1T (thn (ha pins s σ H _ I h) λv s1 hh9=>?_)
 obtain⟨x,H1,I1,r1,q1⟩:=hh9
 obtain⟨t,ks,rfl,hx,hk,q⟩:=q1
 cases r1
 obtain⟨its,rv,pt,hz⟩:=I1.list hx
 have hlen:its.toArray.size=ks.length:=by rw[t7,<- rv.length,u6,u6]
 have h8:∀ i,ks.getD i 0 < 8:=λi=>by
  by_cases hi:i < ks.length
  .rw[show ks.getD i 0=ks[i] by simp[hi]];exact hk _ (u05 hi)
  .rw[show ks.getD i 0=0 by simp[u0M hi]];decide
 have hval:∀ (i:Nat) (v:Value),its.toArray[i]?=some v->∃ t,v=.int ((ks.getD i 0:Nat):Int) t:=λi v hv=>by
  have hv':its[i]?=some v:=by simpa using hv
  have hi:i < ks.length:=by have:=(t6.mp hv').1;rw[t7]at hlen;omega
  obtain⟨u,hu,ru⟩:=rv.get (i:=i) (x:=V.int ((ks.getD i 0:Nat):Int)) (by simp[hi])
  rw[hv']at hu
  cases hu
  obtain⟨t,e⟩:=ru
  exact⟨t,e⟩
 refine u2r ?_
 refine OwnSet.own_call_set (I.ok.hd hc) pt.isList h8 hval λh2 tk2 hS2 k2=>?_
 refine u2r ?_
 obtain⟨ep,tk,hS2⟩:=hS2
 refine OwnSet.own_sorted_set (I.ok.hd hc) (OwnSet.bitsTo_lt h8 _) hS2 λh3 h4 tk4 out c a1 k3 k4 hL=>?_
 have I2:Inv X pins σ H1 { s1 with heap:=h3,toks:=tk4 }:=I1.kept λb u e=>k3 b u (k2 b u e)
 rw[hlen]at a1
 have rl:=zal a1
 refine⟨.ref h3.objs.size,_,I2.laid (t':=tk4) (λb o e=>k4 b o e) (t5 _) (show yY X.prog X.w _ h4 _ (.lst (((zml ks).map λk:Nat=>(k:Int)).map V.int)) from⟨?_,out.toList,c,rl,by simpa using hL⟩),rfl,q _ (I2.hok.fresh (t5 _))⟩
 rw[u6,u6]
 exact p6 (OwnSet.len_small ⟨_,OwnSet.bitsTo_lt h8 ks.length⟩) (by rw[u1K];decide)
end L2
namespace Dl
open PySem L2 PySem.Spec PyProof.Rows
variable [KK]{X:Cx}{e:Expr}
def Xi:List D->Option (List Nat)
 | []=>some []
 | .int i::ds=>if 0<=i/\i < 8 then (Xi ds).map (i.toNat::·)else none
 | _=>none
omit [KK] in
theorem zfd:∀ {ds:List D} {ks:List Nat},Xi ds=some ks->ds=(ks.map λk:Nat=>(k:Int)).map D.int/\∀ k∈ks,k < 8:=by
 intro ds
 induction ds with
 | nil=>intro ks h;cases h;exact⟨rfl,λk hk=>by cases hk⟩
 | cons d ds ih =>
  intro ks h
  cases d with
  | int i =>
   unfold Xi at h
   by_cases c:0<=i/\i < 8
   .rw[t4 c]at h
    obtain⟨ls,e1,rfl⟩:=u8.mp h
    obtain⟨e2,e3⟩:=ih e1
    refine⟨?_,λk hk=>?_⟩
    .rw[p7,p7,<- e2,Int.toNat_of_nonneg c.1]
    .rcases j9.mp hk with rfl | hk
     .omega
     .exact e3 k hk
   .rw[j4 c]at h;cases h
  | _=>cases h
omit [KK] in
theorem zdb {ks:List Nat}(h:∀ k∈ks,k < 8):Xi ((ks.map λk:Nat=>(k:Int)).map D.int)=some ks:=by
 induction ks with
 | nil=>rfl
 | cons k ks ih =>
  show(if 0<=(k:Int)/\(k:Int) < 8 then (Xi ((ks.map λk:Nat=>(k:Int)).map D.int)).map ((k:Int).toNat::·)else none)=_
  rw[t4 ⟨u00 k,by have:=h k d6;omega⟩,ih λx hx=>h x (r8 _ hx),u0f]
  rfl
def ssD:D->Option (List D)
 | .lst ds=>(Xi ds).map λks=>((zml ks).map λk:Nat=>(k:Int)).map D.int
 | _=>none
def fSS (f:Ev->Option D):Ev->Option (List D):=fun ρ=>(f ρ).bind ssD
theorem zfS {p1 p2 pos1 pos2:Pos} {f:Ev->Option D} (hc:X.calm=true) (hg1:Gl X "sorted") (hm1:X.mg "sorted"=none) (hg2:Gl X "set") (hm2:X.mg "set"=none) (ha:ED X e f)
 (hs:starEach [e] X.env=[(false,eval e X.env)]:=by rfl) (hs2:starEach [.Call (.Name "set" p2) [e] [] pos2] X.env=[(false,eval (.Call (.Name "set" p2) [e] [] pos2) X.env)]:=by rfl) :
 FL X (.Call (.Name "sorted" p1) [.Call (.Name "set" p2) [e] [] pos2] [] pos1) (fSS f):=by
 obtain⟨t,pa,ra⟩:=ha
 refine⟨_,zfI hc hg1 hm1 zaf hg2 hm2 zmW pa hs hs2,fun σ ρ F H z Q s va e q=>?_⟩
 obtain⟨d,e1,e2⟩:=u5.mp e
 refine ra σ ρ F H d _ s va e1 λF1 H1 v g1 a1=>?_
 unfold ssD at e2
 split at e2 <;> try cases e2
 rename_i ds
 obtain⟨ks,e3,rfl⟩:=u8.mp e2
 obtain⟨e4,e5⟩:=zfd e3
 subst e4
 obtain⟨p,xs,rfl,hx,bl⟩:=a1.lst_inv
 have ex:=bl.of_ints
 subst ex
 exact⟨p,ks,rfl,SqL.of (g1.fh _ _ hx),e5,λl hl=>q _ _ _ _ (g1.trans (Gr.hide g1.fh hl _)) (zdo g1 hl) (g1.fh.free hl) zt (.ints _)⟩
end Dl
namespace L2
open PySem PySem.Spec PyProof.Rows
open Sem (wp)
section
variable {prog:Program}{w:World}{A:Around}{E:Value->Shared->Prop}{h:Heap}{g:Array GenState}{d:Drawn}{t:Nat}{os:OsState}
 {nm q:Str} {C N fI:Addr} {bs bm:List Value} {hdct:Bool} {sn:List Str} {sub:List Value} {ab:Bool} {col:Option Bool} {dd:Option Addr} {k0 k1 k2 k3 k5:Option Value} {mN:Str->Option Value} {us:List Value} {oI:Obj}
end
end L2
namespace L2
open PySem PySem.Spec PyProof.Rows
section
variable {prog:Program}{w:World}{A:Around}{E:Value->Shared->Prop}{s:Shared}{env:Env}
 {nm q:Str} {C N fI:Addr} {bs bm:List Value} {hdct:Bool} {sn:List Str} {sub:List Value} {ab:Bool} {col:Option Bool} {dd:Option Addr} {k0 k1 k2 k3 k5:Option Value} {mN:Str->Option Value} {oI:Obj}
end
end L2
namespace OwnDk
open PySem
section
variable {prog:Program}{w:World}{A:Around}{E:Value->Shared->Prop}{s:Shared}
theorem own_dk_walks (hh:A.handled=none)(I a:Addr)(hne:a≠I){ob:Obj}{es:Array DictEntry}{ep:Nat}(hd:ob.data=.dict es ep) :
 Walks prog w A I [I,a] [I] es.size (λi v=>∃ e,es[i]?=some e/\v=e.key) (λi h=>h.IsKeyIter I a i es.size ep/\h.get? a=some ob) where
 sub:=λb hb=>by simp at hb;simp[hb]
 frame:=λ_ _ _ x hk=>⟨x.1.at λo e=>hk I (by simp) o e,hk a (by simp) _ x.2⟩
 item:=λi s Q E hi x hQ=>by
  have hx:es[i]?=some (es[i]'hi):=u0U _
  refine L2.raw_next x.1 x.2 hd hx λh' he' hs'=>?_
  exact hQ _ h' s.toks ⟨_,hx,rfl⟩ ⟨he',(hs'.2 a hne).trans x.2⟩ λb o hb eo=>hs'.extBut b o (λh=>hb (by simp[h])) eo
 done:=λs Q E x hQ=>L2.raw_end hh x.1 x.2 hd (t5 _) λh' he'=>hQ h' s.toks λb o hb eo=>he' b o (λh=>hb (by simp[h])) eo
 self:=λ_ _ _ _ x hQ=>wpAny_pyIter_keyiter x.1 hQ
theorem WZ {a:Addr}{ob:Obj}{es:Array DictEntry}{ep:Nat}{Q:List Value->Shared->Prop}(hh:A.handled=none)(hs:(a == sysModules)=false)(hS:s.heap.get? a=some ob)(hc:ob.ExactDict)(hd:ob.data=.dict es ep)(h8:es.size<=sizeLine)
 (hQ:∀ s',(∀ b o,s.heap.get? b=some o->s'.heap.get? b=some o)->s'.gens=s.gens->s'.drawn=s.drawn->s'.os=s.os->Q (es.toList.map (·.key)) s'):wpAny (model prog w) A (collect (.ref a)) Q E s:=by
 have hlt:a < s.heap.objs.size:=q5 hS
 have hSa:s.heap.objs.size≠a:=u12 hlt
 unfold collect
 refine u0 (wpAny_runValue (u1s F.entry_proto_collect ?_))
 rw[u03 F.plain_proto_collect _]
 show wpAny _ A.in1 (newList []>>=λl=>again (.builtin "list.__iadd__" ⟨[l,.ref a],[]⟩)) _ _ s
 refine u0 (u0g ?_)
 refine u7 ⟨u2p u2s _,u1s F.entry_list_iadd ?_⟩
 rw[u03 u2s _]
 have hS1:(s.heap.push { cls:=.type "list",data:=.seq ([]:List Value).toArray }).get? a=some ob:=u4 _ hS
 have hL1:(s.heap.push { cls:=.type "list",data:=.seq ([]:List Value).toArray }).get? s.heap.objs.size=some { cls:=.type "list",data:=.seq ([]:List Value).toArray }:=j6 _ rfl
 generalize hh1:s.heap.push { cls:=.type "list",data:=.seq ([]:List Value).toArray }=h1 at hS1 hL1 ⊢
 have k1:∀ b o,s.heap.get? b=some o->h1.get? b=some o:=λb o e=>by rw[<-hh1];exact u4 _ e
 have hz1:h1.objs.size=s.heap.objs.size+1:=by rw[<-hh1];exact u0A ..
 show wpAny _ A.in1 (Builtin.List.listExtendWith (.ref s.heap.objs.size) (.ref a) (.ref s.heap.objs.size)) _ _ _
 unfold Builtin.List.listExtendWith
 refine u0 (u2i (T:="dict") ⟨_,hS1,hc.1⟩ ?_)
 have g1:Builtin.List.listSameRef (.ref s.heap.objs.size) (.ref a)=false:=by simp[Builtin.List.listSameRef,hSa]
 have g2:(Value.type "dict" == Value.type "list")=false:=by decide
 have g3:(Value.type "dict" == Value.type "tuple")=false:=by decide
 simp only[g1,g2,g3,Bool.or_false,u1S,u3i]
 refine u0 (L2.raw_iter hs hS1 hc hd ?_)
 have hI2:(h1.push { cls:=.type "dict_keyiterator",data:=.fields #[.ref a,.int 0 0,.int es.size 0,.int ep 0] }).IsKeyIter h1.objs.size a 0 es.size ep:=⟨_,j6 _ rfl,rfl,rfl⟩
 have hS2:(h1.push { cls:=.type "dict_keyiterator",data:=.fields #[.ref a,.int 0 0,.int es.size 0,.int ep 0] }).get? a=some ob:=u4 _ hS1
 have hL2:=u4 { cls:=.type "dict_keyiterator",data:=.fields #[.ref a,.int 0 0,.int es.size 0,.int ep 0] } hL1
 generalize hh2:h1.push { cls:=.type "dict_keyiterator",data:=.fields #[.ref a,.int 0 0,.int es.size 0,.int ep 0] }=h2 at hI2 hS2 hL2 ⊢
 have k2:∀ b o,h1.get? b=some o->h2.get? b=some o:=λb o e=>by rw[<-hh2];exact u4 _ e
 refine u0 (u0C (PySem.W.kdl_hint_dict ⟨_,hS2,hc.1⟩ ?_))
 show wpAny _ A.in1 (if true=true then _ else _) _ _ _
 rw[t4 rfl]
 refine u0 (u1P (u0 ?_))
 show wpAny _ A.in1 (updateSeq s.heap.objs.size (·.push .none)>>=λ_=>updateSeq s.heap.objs.size (·.pop)) _ _ _
 refine u0 (u25 hL2 rfl ?_)
 have hL3:=u0b (Obj.mapSeq (·.push Value.none)) hL2 rfl
 refine u25 (hz:=by seq_fits) hL3 rfl ?_
 have hL4:=u0b (Obj.mapSeq (·.pop)) hL3 rfl
 have oth:∀ b o,b≠s.heap.objs.size->h2.get? b=some o->((h2.update s.heap.objs.size (Obj.mapSeq (·.push Value.none))).update s.heap.objs.size (Obj.mapSeq (·.pop))).get? b=some o :=
  λb o hb e=>(u0e _ _ (u0R hb)).trans ((u0e _ _ (u0R hb)).trans e)
 have hIne:h1.objs.size≠s.heap.objs.size:=by rw[hz1];exact Nat.succ_ne_self _
 have hIa:a≠h1.objs.size:=by rw[hz1];exact o0 (u07 hlt)
 have W:=own_dk_walks (prog:=prog) (w:=w) (A:=A.in1) hh h1.objs.size a hIa hd
 refine u7 ⟨u2p F.plain_extend_loop _,codeAny_extend_loopS W.toS h8 _ (λhmem=>?_) _ es.size 0 _ #[] _ rfl (u0I _) ⟨hI2.at λo e=>oth _ _ hIne e,oth _ _ (u0R hSa) hS2⟩ hL4 (ItemsOf.nil _) λs' acc' c' hmv hS' hacc=>?_⟩
 .rcases j9.mp hmem with e | e
  .exact hIne e.symm
  .exact hSa (d5.mp e)
 .show wpAny _ A (load s.heap.objs.size>>=_) _ _ s'
  refine u0 (wpAny_load hS' ?_)
  refine u7 ?_
  have e1:acc'.toList=es.toList.map (·.key):=by
   apply u14
   intro i
   by_cases hi:i < es.size
   .have q1:acc'[i]?=some (acc'[i]'(by rw[hacc.1];exact hi)):=u0U _
    obtain⟨e,q2,q3⟩:=hacc.2 i _ q1
    rw[j5,u1X,u1X,q1,q2,q3]
    rfl
   .rw[u0B (by rw[i9,hacc.1];exact u0M hi),u0B (by rw[u6,i9];exact u0M hi)]
  rw[e1]
  refine hQ s' (λb o e=>hmv.heap b o (λhmem=>?_) (oth b o (o0 (q5 e)) (k2 b o (k1 b o e)))) hmv.gens hmv.drawn hmv.os
  rcases j9.mp hmem with z | z
  .exact o0 (q5 e) z
  .have:=q5 e
   rw[d5.mp z,hz1]at this
   exact absurd (u3x this) (u0Q _)
theorem own_sorted_dict {a:Addr}{ob:Obj}{es:Array DictEntry}{ep:Nat}{Q:Value->Shared->Prop}(hh:A.handled=none)(hs:(a == sysModules)=false)(hS:s.heap.get? a=some ob)(hc:ob.ExactDict)(hd:ob.data=.dict es ep)(h64:es.size < 64)(hT:∀ v∈es.toList.map (·.key),∃ t,OwnSortT.TT s.heap v t)
 (h:∀ (h1 h':Heap) (tk':Nat) (out:Array Value) (c:Nat),out.toList.Perm (es.toList.map (·.key))->OwnSortT.Rise s.heap out.toList->(∀ b o,s.heap.get? b=some o->h1.get? b=some o)->(∀ b o,h1.get? b=some o->h'.get? b=some o) ->
  h'.get? h1.objs.size=some { cls:=.type "list",dict:=none,data:=.seq out c,slots:=#[] }->Q (.ref h1.objs.size) { s with heap:=h',toks:=tk' }) :
 wpAny (model prog w) A (call (.builtin "sorted") [.ref a]) Q E s:=by
 refine u17 u3z u3q u3p (u3o _) ?_
 unfold Builtin.«sorted»
 refine u0 (m:=checkCount "sorted" 1 1 _) (u7 (u0 (WZ hh hs hS hc hd (p6 (u0S h64) (by rw[u1K];decide)) λs' k g1 g2 g3=>?_)))
 obtain⟨h1,g',d',tk1,os'⟩:=s'
 have e1:g'=s.gens:=g1
 have e2:d'=s.drawn:=g2
 have e3:os'=s.os:=g3
 subst e1 e2 e3
 have h64:(es.toList.map (·.key)).length < 64:=by rw[u6,i9];exact h64
 generalize es.toList.map (·.key)=vs at *
 refine u0 (u3K ?_)
 have hoL:(h1.push (PyProof.Rows.seqObj "list" vs.toArray 0)).get? h1.objs.size=some (PyProof.Rows.seqObj "list" vs.toArray 0):=j6 _ rfl
 have up:∀ b o,s.heap.get? b=some o->(h1.push (PyProof.Rows.seqObj "list" vs.toArray 0)).get? b=some o:=λb o e=>u4 _ (k b o e)
 refine u0 (u0C (u0h u23 ⟨_,hoL,rfl⟩ u2O (OwnSortT.ownT_list_sort hoL (λv hv=>let ⟨t,ht⟩:=hT v hv;⟨t,ht.keep up⟩) h64 λout p1 p2=>⟨_,rfl,?_⟩) (u22 _)))
 have rise:OwnSortT.Rise s.heap out.toList:=by
  obtain⟨ts,q1,q2,q3⟩:=p2
  refine⟨ts,q1,λi v t hv ht=>?_,q3⟩
  obtain⟨t0,ht0⟩:=hT v (p1.mem_iff.mp (d9 hv))
  rw[(q2 i v t hv ht).uniq (ht0.keep up)]
  exact ht0
 have hn:∀ b o,b≠h1.objs.size->(h1.push (PyProof.Rows.seqObj "list" vs.toArray 0)).get? b=some o->(PyProof.Rows.sortedHeap (h1.push (PyProof.Rows.seqObj "list" vs.toArray 0)) h1.objs.size vs out).get? b=some o:=λb o hb e=>by
  unfold PyProof.Rows.sortedHeap
  exact(u0e _ _ (u0R hb)).trans (u4 _ (u4 _ ((u0e _ _ (u0R hb)).trans e)))
 have hL:∃ c,(PyProof.Rows.sortedHeap (h1.push (PyProof.Rows.seqObj "list" vs.toArray 0)) h1.objs.size vs out).get? h1.objs.size=some { cls:=.type "list",dict:=none,data:=.seq out c,slots:=#[] }:=by
  unfold PyProof.Rows.sortedHeap
  have u1:=u0b (Obj.mapSeq λ_=>(#[]:Array Value)) hoL rfl
  have u2:=u4 (PyProof.Rows.seqObj "list" #[] 0) (u4 (PyProof.Rows.seqObj "tuple" vs.toArray 0) u1)
  exact⟨_,u0b (Obj.mapSeq λ_=>out) u2 rfl⟩
 obtain⟨c,hL⟩:=hL
 exact u7 ⟨_,rfl,h h1 _ _ out c p1 rise k (λb o e=>hn b o (o0 (q5 e)) (u4 _ e)) hL⟩
end
end OwnDk
namespace Dl
open PySem L2
def zkt:List Key->Option (List Int)
 | []=>some []
 | .inl i::r=>(zkt r).map (i::·)
 | _=>none
def zcj:List (List Key)->Option (List (List Int))
 | []=>some []
 | k::ks=>match zkt k with
  | some (i::t)=>(zcj ks).map ((i::t)::·)
  | _=>none
theorem zkr:∀ {k:List Key} {t:List Int},zkt k=some t->k=t.map Sum.inl:=by
 intro k
 induction k with
 | nil=>intro t h;cases h;rfl
 | cons a k ih =>
  intro t h
  cases a with
  | inl i =>
   obtain⟨r,e,rfl⟩:=u8.mp h
   rw[ih e]
   rfl
  | inr x=>cases h
theorem zji:∀ {ks:List (List Key)} {ts:List (List Int)},zcj ks=some ts->ks=ts.map (λt=>t.map Sum.inl)/\∀ t∈ts,t≠[]:=by
 intro ks
 induction ks with
 | nil=>intro ts h;cases h;exact⟨rfl,λt h=>by cases h⟩
 | cons k ks ih =>
  intro ts h
  unfold zcj at h
  split at h
  .rename_i i t e
   obtain⟨r,e2,rfl⟩:=u8.mp h
   obtain⟨h1,h2⟩:=ih e2
   refine⟨by rw[h1,zkr e];rfl,λu hu=>?_⟩
   rcases j9.mp hu with rfl | hu
   .exact List.cons_ne_nil _ _
   .exact h2 u hu
  .cases h
def zmM (t:List Int):List (List Int)->List (List Int)
 | []=>[t]
 | u::us=>if HT.lexLt u t=true then u::zmM t us else t::u::us
def Zf:List (List Int)->List (List Int)
 | []=>[]
 | t::ts=>zmM t (Zf ts)
theorem zcn (t:List Int):∀ us:List (List Int),(zmM t us).Perm (t::us):=by
 intro us
 induction us with
 | nil=>exact u1y _
 | cons u us ih =>
  unfold zmM
  split
  .exact(ih.cons u).trans (List.Perm.swap _ _ _)
  .exact u1y _
theorem Ze:∀ ts:List (List Int),(Zf ts).Perm ts:=by
 intro ts
 induction ts with
 | nil=>exact u1y _
 | cons t ts ih=>exact(zcn t _).trans (ih.cons t)
theorem zgR (t:List Int):∀ us:List (List Int),us.Pairwise (λa b=>HT.lexLt b a=false)->(zmM t us).Pairwise λa b=>HT.lexLt b a=false:=by
 intro us
 induction us with
 | nil=>intro _;exact List.pairwise_singleton _ _
 | cons u us ih =>
  intro h
  rw[u1b]at h
  unfold zmM
  by_cases c:HT.lexLt u t=true
  .rw[t4 c]
   refine u1b.mpr ⟨λv hv=>?_,ih h.2⟩
   rcases j9.mp ((zcn t us).mem_iff.mp hv)with rfl | hv
   .cases e:HT.lexLt v u with
    | false=>rfl
    | true =>
     have:=OwnSortT.lex_trans _ _ _ c e
     rw[OwnSortT.lex_irr]at this
     cases this
   .exact h.1 v hv
  .rw[j4 c]
   have c:HT.lexLt u t=false:=by cases e:HT.lexLt u t with
    | false=>rfl
    | true=>exact absurd e c
   refine u1b.mpr ⟨λv hv=>?_,u1b.mpr h⟩
   rcases j9.mp hv with rfl | hv
   .exact c
   .cases e:HT.lexLt v t with
    | false=>rfl
    | true =>
     rcases OwnSortT.lex_neg v u t e with z | z
     .rw[h.1 v hv]at z;cases z
     .rw[c]at z;cases z
theorem Vx:∀ ts:List (List Int),(Zf ts).Pairwise λa b=>HT.lexLt b a=false:=by
 intro ts
 induction ts with
 | nil=>exact List.Pairwise.nil
 | cons t ts ih=>exact zgR t _ ih
theorem zeh {ts us:List (List Int)}(p:us.Perm ts)(h:us.Pairwise λa b=>HT.lexLt b a=false):us=Zf ts :=
 u2g (le:=λa b=>HT.lexLt b a=false) (λa b _ _ h1 h2=>OwnSortT.lex_total _ _ h2 h1) h (Vx ts) (p.trans (Ze ts).symm)
def znm (t:List Int):D:=.tup (t.map .int)
def zeU:List D->Option (List D)
 | [.dct _ true ks _]=>if ks.length < 64 then (zcj ks).map λts=>(Zf ts).map znm else none
 | _=>none
variable [KK]
section
variable {X:Cx}{e:Expr}{pos:Pos}
theorem Gr.seeL {H:Hp}:∀ {F:Hp} (bs:List (Addr × List V)),xa F H->(∀ b∈bs,H b.1=some (.tup b.2))->∃ F',Gr F H F' H/\∀ b∈bs,F' b.1=some (.tup b.2):=by
 intro F bs
 induction bs generalizing F with
 | nil=>intro s _;exact⟨F,.refl s,λb h=>by cases h⟩
 | cons b bs ih =>
  intro s h
  obtain⟨F1,g1,e1⟩:=Gr.see s (h b d6)
  obtain⟨F2,g2,e2⟩:=ih g1.fh λc hc=>h c (r8 _ hc)
  refine⟨F2,g1.trans g2,λc hc=>?_⟩
  rcases j9.mp hc with rfl | hc
  .exact g2.ff _ _ e1
  .exact e2 c hc
theorem zcS (hc:X.calm=true):Y2 X (.builtin "sorted") (λxs H Q=>∃ F a z ks ys ts,xs=[.ref a]/\xa F H/\zaI F a z true ks ys/\ks.length < 64/\zcj ks=some ts/\∀ l zs F',H l=none->Gr F H F' H->AtL F' ((Zf ts).map znm) zs->Q (.ref l) (upd H l (.lst zs))):=by
 intro pins s σ H xs us Q I r h
 obtain⟨F,a,z,ks,ys,ts,rfl,sm,hd,h64,hk,q⟩:=h
 obtain⟨u,rfl,ru⟩:=WW r
 cases ru
 obtain⟨rfl,hne⟩:=zji hk
 rw[u6]at h64
 obtain⟨u,hu,hz⟩:=hd.mono sm
 unfold zas at hu
 rw[t4 rfl]at hu
 obtain⟨kvs,rfl,hks,-⟩:=hu
 have ok:yY X.prog X.w H s.heap a (.dT kvs):=by
  cases z with
  | true=>rw[t4 rfl]at hz;obtain⟨ob,e⟩:=hz;exact(show yY X.prog X.w H s.heap a (.frz ob (.dT kvs))from I.hok a _ e).2
  | false=>rw[j4 u9]at hz;exact I.hok a _ hz
 obtain⟨_,sys,xs,pr,o,es,ep,e1,ex,dt,he,nd⟩:=ok
 have hp:=u2N pr
 have hkl:kvs.length=ts.length:=by have:=u1c List.length hks;rw[u6,u6]at this;exact this
 have hkeys:es.toList.map (·.key)=xs.map λq=>Value.ref q.2.1:=by rw[he,i4];rfl
 have hsz:es.size < 64:=by rw[<-i9,he,u6];omega
 have rel:∀ {l:List (List Key × V)} {m:List (List Key × Addr × Value)},Paired (λp q=>p.1=q.1/\H q.2.1=some (.tup (p.1.map kV))/\yZ p.2 q.2.2) l m->∀ (j:Nat) (h1:j < l.length) (h2:j < m.length),l[j].1=m[j].1/\H m[j].2.1=some (.tup (l[j].1.map kV)):=λ{l m} r=>by
  induction r with
  | nil=>intro j h1;simp at h1
  | cons h t ih =>
   intro j h1 h2
   cases j with
   | zero=>exact⟨h.1,h.2.1⟩
   | succ j=>exact ih j (by simpa using h1) (by simpa using h2)
 have atJ:∀ (j:Nat) (h1:j < ts.length) (h2:j < xs.length),H xs[j].2.1=some (.tup (ts[j].map V.int)):=λj h1 h2=>by
  have h3:j < kvs.length:=by omega
  obtain⟨-,r2⟩:=rel pr j h3 h2
  have e3:kvs[j].1=ts[j].map Sum.inl:=by
   have:=u1c (λl=>l[j]?) hks
   simp only[j5]at this
   rw[t9 h3,t9 h1]at this
   exact i8 this
  rw[r2,e3,i4]
  rfl
 have look:∀ {v:Value},v∈(xs.map λq=>Value.ref q.2.1)->∃ b t,v=.ref b/\t∈ts/\H b=some (.tup (t.map V.int))/\OwnSortT.TT s.heap v t:=λ{v} hv=>by
  obtain⟨j,hj,rfl⟩:=u0G hv
  rw[u6]at hj
  have hj2:j < ts.length:=by omega
  have hb:=atJ j hj2 hj
  rw[List.getElem_map]
  obtain⟨us,ru,⟨o,ho,hcl,n,hd⟩,_⟩:=I.tuple (SqT.of hb)
  exact⟨xs[j].2.1,ts[j],rfl,u05 hj2,hb,xs[j].2.1,o,n,us,rfl,ho,hcl,hd,YJ ru,hne _ (u05 hj2)⟩
 refine OwnDk.own_sorted_dict (I.ok.hd hc) sys e1 ex dt hsz (λv hv=>by rw[hkeys]at hv;obtain⟨b,t,-,-,-,ht⟩:=look hv;exact⟨t,ht⟩) λh1 h' tk out c pm ri k1 k2 hL=>?_
 rw[hkeys]at pm
 obtain⟨us,l1,l2,l3⟩:=ri
 have zsOf:∀ (ws:List Value) (vs:List (List Int)),ws.length=vs.length->(∀ w∈ws,w∈xs.map λq=>Value.ref q.2.1)->(∀ (i:Nat) v t,ws[i]?=some v->vs[i]?=some t->OwnSortT.TT s.heap v t)->∃ bs:List (Addr × List Int),bs.map (·.2)=vs/\yM (bs.map λb=>V.ref b.1) ws/\∀ b∈bs,H b.1=some (.tup (b.2.map V.int)):=by
  intro ws
  induction ws with
  | nil =>
   intro vs hl _ _
   cases vs with
   | nil=>exact⟨[],rfl,.nil,λb h=>by cases h⟩
   | cons _ _=>simp at hl
  | cons w ws ih =>
   intro vs hl hm ht
   cases vs with
   | nil=>simp at hl
   | cons t vs =>
    obtain⟨bs,z0,z1,z2⟩:=ih vs (by simpa using hl) (λw' hw'=>hm w' (r8 _ hw')) (λi v t h1 h2=>ht (i+1) v t (by simpa using h1) (by simpa using h2))
    obtain⟨a,t',rfl,_,ha,htp⟩:=look (hm w d6)
    have et:t'=t:=htp.uniq (ht 0 _ t rfl rfl)
    subst et
    exact⟨(a,t')::bs,by rw[p7,z0],.cons rfl z1,λb hb=>by
     rcases j9.mp hb with rfl | hb
     .exact ha
     .exact z2 b hb⟩
 obtain⟨bs,z0,z1,z2⟩:=zsOf out.toList us l1 (λw hw=>pm.mem_iff.mp hw) l2
 have keysPerm:us.Perm ts:=by
  have kv:∀ (ws:List Value) (vs:List (List Int)),ws.length=vs.length->(∀ (i:Nat) v t,ws[i]?=some v->vs[i]?=some t->OwnSortT.TT s.heap v t)->vs=ws.map λv=>(OwnSortT.keyTT s.heap v).getD []:=by
   intro ws
   induction ws with
   | nil=>intro vs hl _;cases vs with
    | nil=>rfl
    | cons _ _=>simp at hl
   | cons w ws ih =>
    intro vs hl ht
    cases vs with
    | nil=>simp at hl
    | cons t vs =>
     rw[p7,OwnSortT.keyTT_of (ht 0 w t rfl rfl),<- ih vs (by simpa using hl) λi v t h1 h2=>ht (i+1) v t (by simpa using h1) (by simpa using h2)]
     rfl
  rw[kv _ _ l1 l2,kv (xs.map λq=>Value.ref q.2.1) ts (by rw[u6];omega) λi v t h1 h2=>?_]
  .exact pm.map _
  .obtain⟨hi,e2⟩:=t6.mp h1
   obtain⟨hi2,e3⟩:=t6.mp h2
   rw[u6]at hi
   have hb:=atJ i hi2 hi
   rw[e3]at hb
   obtain⟨us',ru',⟨o,ho,hcl,n,hd⟩,_⟩:=I.tuple (SqT.of hb)
   exact⟨xs[i].2.1,o,n,us',by rw[<-e2,List.getElem_map],ho,hcl,hd,YJ ru',hne t (by rw[<-e3];exact u05 hi2)⟩
 have e3:=zeh keysPerm l3
 subst e3
 obtain⟨F',g,hF⟩:=Gr.seeL (bs.map λb=>(b.1,b.2.map V.int)) sm λb hb=>by
  obtain⟨c,hc,rfl⟩:=b9.mp hb
  exact z2 c hc
 have az:AtL F' ((Zf ts).map znm) (bs.map λb=>V.ref b.1):=by
  rw[<-z0]
  clear z0 z1 pm l1 l2
  induction bs with
  | nil=>exact .nil
  | cons b bs ih=>exact .cons (.tup (hF (b.1,b.2.map V.int) (b9.mpr ⟨b,d6,rfl⟩)) (.ints _)) (ih (λc hc=>z2 c (r8 _ hc)) (λc hc=>by
   obtain⟨d,hd,rfl⟩:=b9.mp hc
   exact hF _ (b9.mpr ⟨d,r8 _ hd,rfl⟩)))
 have I2:Inv X pins σ H { s with heap:=h1,toks:=tk }:=I.kept λb u e=>k1 b u e
 have hlo:(bs.map λb=>V.ref b.1).length<=sizeLine:=by
  have hh:bs.length=(Zf ts).length:=by rw[<-z0,u6]
  rw[u6,hh,(Ze ts).length_eq,u1K]
  omega
 exact⟨.ref h1.objs.size,_,I2.laid (t':=tk) (λb o e=>k2 b o e) (t5 _) (show yY X.prog X.w _ h' _ (.lst (bs.map λb=>V.ref b.1)) from⟨hlo,out.toList,c,z1,by simpa using hL⟩),rfl,q _ _ F' (I2.hok.fresh (t5 _)) g az⟩
theorem zf1 {p:Pos} {f:Ev->Option (List D)} (hc:X.calm=true) (hgl:Gl X "sorted") (hm:X.mg "sorted"=none) (ha:AD X [e] f)
 (he:starEach [e] X.env=(false,eval e X.env)::starEach [] X.env:=by rfl) (hpl:(backTo pos (starEach [] X.env)).any (·.1)=false:=by rfl):FL X (.Call (.Name "sorted" p) [e] [] pos) (fFn zeU f):=by
 obtain⟨t,pa,ra⟩:=ha
 refine⟨_,Vk (zcS hc) hgl hm zaf pa (by decide) (by decide) he hpl,fun σ ρ F H z Q s va e q=>?_⟩
 obtain⟨ds,e1,e2⟩:=u5.mp e
 refine ra σ ρ F H ds _ s va e1 λF1 H1 vs g1 a1=>?_
 have e2':=e2
 unfold zeU at e2'
 split at e2'
 .rename_i z' ks ws
  split at e2' <;> try cases e2'
  rename_i h64
  obtain⟨ts,e3,rfl⟩:=u8.mp e2'
  obtain⟨x,r,rfl,ax,ar⟩:=a1.cons_inv
  cases ar.nil_inv
  obtain⟨p,ys,rfl,hx,bl⟩:=ax.dct_inv
  refine⟨F1,p,z',ks,ys,ts,rfl,g1.fh,hx,(by omega),e3,λl zs F' hl g az=>?_⟩
  have g2:=g1.trans g
  exact q _ _ _ _ (g2.trans (Gr.hide g2.fh hl _)) (zdo g2 hl) (g2.fh.free hl) zt az
 .cases e2'
end
end Dl
namespace Dl
open PySem L2
def b3:D->Option (List (Option D))
 | .tup [x,y,z]=>some [some x,some y,some z]
 | _=>none
end Dl
namespace Dl
open PySem L2
variable [KK]
theorem edv {X:Cx} (i:Nat) {x:Str} {pos:Pos} (hN:X.N[i]?=some x:=by rfl) (hv:Vis X.env.scope x:=by first | exact Or.inl rfl | exact Or.inr (Or.inl rfl) | exact Or.inr (Or.inr rfl)) (hd:(x == ("__debug__":Str))=false:=by decide)
 (hcd:(x == ("__classdict__":Str))=false:=by decide):ED X (.Name x pos) (zd i):=znZ i (pv i hN hv hd hcd)
theorem zj {X:Cx}{x:Str}{j k m:Nat}{f:Addr}{fd:FuncData}{ps:List Str}{st:Stmt}{p:List D->Option D}{e:Expr}{es:List Expr}{pp pos:Pos}{fa:Ev->Option (List D)}(F:xc X.prog X.w X.K X.mg X.base CX0 j f fd ps (spD m p))(hr:Zv k X.A)(hg:Gl X x)(d:Def X.K X.mg x st ps f fd)
 (ha:AD X (e::es) fa) (hj:j<=k:=by decide) (hdb:(x == ("__debug__":Str))=false:=by decide) (he:starEach (e::es) X.env=(false,eval e X.env)::starEach es X.env:=by rfl) (hpl:(backTo pos (starEach es X.env)).any (·.1)=false:=by rfl) :
 ED X (.Call (.Name x pp) (e::es) [] pos) (zn m p fa):=zih (F.mono hj) hr hg d.at_ d.kp d.bd ha hdb he hpl
end Dl
namespace L2
open PySem PySem.Spec PyProof.Rows
theorem VB.nf {u:HO}(h:VB u):(∀ o v,u≠.frz o v)/\(∀ xs,u≠.tup xs)/\∀ ps,u≠.tbl ps:=by
 rcases h with ⟨kvs,rfl⟩ | ⟨kvs,rfl⟩ <;> exact⟨λ_ _ z=>(by cases z),λ_ z=>(by cases z),λ_ z=>by cases z⟩
theorem Inv.thaw {X:Cx}{pins:List (Addr × Obj)}{σ:St}{H:Hp}{s:Shared}{p:Addr}{ob:Obj}{u:HO}(I:Inv X pins σ H s)(e:H p=some (.frz ob u))(h0:∀ o v,X.H₀ p≠some (.frz o v)):Inv X pins σ (upd H p u) s:=by
 have ne:∀ {b:Addr} {o:Option HO},H b=o->o≠some (.frz ob u)->b≠p:=λ{b o} h n z=>n (by rw[<-h,z,e])
 refine⟨I.ok,I.os,I.bare,⟨I.base.keep,I.base.slot,λb o q n hx=>?_,I.base.there,λb xs q=>?_,λb o v q=>?_,λb ps q=>?_⟩,I.loc,I.cell,?_,λx c q=>?_,λq hq=>?_,λb o q=>?_,I.len⟩
 .have z:=I.base.free b o q n hx
  rw[zq (ne z (by simp))];exact z
 .have z:=I.base.tups b xs q
  rw[zq (ne z (by simp))];exact z
 .have z:=I.base.frzs b o v q
  rw[zq (λ(w:b=p)=>h0 o v (w ▸ q))];exact z
 .obtain⟨more,z⟩:=I.base.tbls b ps q
  exact⟨more,by rw[zq (ne z (by simp))];exact z⟩
 .rw[zq (ne I.free (by simp))];exact I.free
 .have z:=I.freeC x c q
  rw[zq (ne z (by simp))];exact z
 .obtain⟨a1,a2,a3⟩:=I.pin q hq
  exact⟨a1,by rw[zq (ne a2 (by simp))];exact a2,a3⟩
 .have own:∀ {c:Addr} {a:Addr},H c=some (.own a)->(upd H p u) c=some (.own a):=λ{c a} hc=>by rw[zq (ne hc (by simp))];exact hc
  have tup:∀ {c:Addr} {xs:List V},H c=some (.tup xs)->(upd H p u) c=some (.tup xs):=λ{c xs} hc=>by rw[zq (ne hc (by simp))];exact hc
  by_cases c:b=p
  .subst c
   rw[zt]at q
   cases q
   have ok:yY X.prog X.w H s.heap b (.frz ob u):=I.hok b _ e
   exact ok.2.stay (λ_ _ _ z=>z) (λ_ z=>own z) λ_ _ z=>tup z
  .rw[zq c]at q
   exact(I.hok b o q).stay (λ_ _ _ z=>z) (λ_ z=>own z) λ_ _ z=>tup z
def zpZ (i:Nat)(t:TS):TS:=λD σ H=>∃ p u,σ[i]?=some (some (.ref p))/\H p=some u/\VB u/\∀ ob,t { nx:=fun σ' H'=>H' p=some (.frz ob u)/\D.nx σ' (upd H' p u),rt:=λ_ _=>False } σ (upd H p (.frz ob u))
theorem zlS {X:Cx}{st:Stmt}{t:TS}(i:Nat)(h:PS X st t):PS X st (zpZ i t):=by
 intro pins s σ H D I q
 obtain⟨p,u,_,e,hu,q⟩:=q
 obtain⟨ob,I2⟩:=I.frz e hu
 have h0:∀ o v,X.H₀ p≠some (.frz o v):=λo v z=>by
  have:=I.base.frzs p o v z
  rw[e]at this
  exact hu.nf.1 o v (i8 this)
 refine thn (h pins s σ _ _ I2 (q ob)) λfl s' hs=>?_
 cases fl with
 | next =>
  obtain⟨σ',H',I',e',n'⟩:=hs
  exact⟨σ',_,I'.thaw e' h0,n'⟩
 | brk=>obtain⟨_,_,_,z⟩:=hs;exact z.elim
 | cont=>obtain⟨_,_,_,z⟩:=hs;exact z.elim
 | ret v=>obtain⟨_,_,_,_,_,z⟩:=hs;exact z.elim
end L2
namespace Dl
open PySem L2
variable [KK]
mutual
def noM:D->Bool
 | .tup ds=>zmp ds
 | .lst ds=>zmp ds
 | .dct _ _ _ _=>false
 | _=>true
def zmp:List D->Bool
 | []=>true
 | d::ds=>noM d&&zmp ds
end
def less (F:Hp)(p:Addr):Hp:=λb=>if b=p then none else F b
theorem Wb {F:Hp}{p b:Addr}(h:b≠p):less F p b=F b:=by unfold less;rw[j4 h]
theorem zhM {F:Hp}{p:Addr}:less F p p=none:=by unfold less;rw[t4 rfl]
theorem zms {F:Hp}{p b:Addr}{o:HO}(h:less F p b=some o):b≠p/\F b=some o:=by
 unfold less at h
 split at h
 .cases h
 .rename_i n;exact⟨n,h⟩
section
variable {F:Hp}{p:Addr}{ob:Obj}{u:HO}(hF:F p=some (.frz ob u))(hu:VB u)
include hF hu
mutual
theorem At.less:∀ {d:D} {v:V},noM d=true->At F d v->At (less F p) d v
 | .non,_,_,a=>by unfold At at a ⊢;exact a
 | .bl _,_,_,a=>by unfold At at a ⊢;exact a
 | .int _,_,_,a=>by unfold At at a ⊢;exact a
 | .str _,_,_,a=>by unfold At at a ⊢;exact a
 | .tup ds,_,n,a=>by
  unfold At at a ⊢
  unfold noM at n
  obtain⟨q,xs,e,hx,hl⟩:=a
  exact⟨q,xs,e,by rw[Wb λz=>by rw[z,hF]at hx;cases hx];exact hx,AtL.less n hl⟩
 | .lst ds,_,n,a=>by
  unfold At at a ⊢
  unfold noM at n
  obtain⟨q,xs,e,hx,hl⟩:=a
  exact⟨q,xs,e,by rw[Wb λz=>by rw[z,hF]at hx;cases hx];exact hx,AtL.less n hl⟩
 | .scr ns,_,_,a=>by
  unfold At at a ⊢
  obtain⟨q,e,hx⟩:=a
  refine⟨q,e,?_⟩
  rcases hx with hx | hx
  .refine .inl ?_
   rcases hx with hx | ⟨o,hx⟩
   .exact .inl (by rw[Wb λz=>by rw[z,hF]at hx;cases hx];exact hx)
   .refine .inr ⟨o,?_⟩
    rw[Wb λz=>?_]
    .exact hx
    .rw[z,hF]at hx
     have e2:=i8 hx
     injection e2 with _ e3
     rcases hu with ⟨kvs,rfl⟩ | ⟨kvs,rfl⟩ <;> cases e3
  .exact .inr hx
 | .dct _ _ _ _,_,n,_=>by unfold noM at n;cases n
theorem AtL.less:∀ {ds:List D} {xs:List V},zmp ds=true->AtL F ds xs->AtL (less F p) ds xs
 | [],_,_,a=>by unfold AtL at a ⊢;exact a
 | d::ds,_,n,a=>by
  unfold AtL at a ⊢
  unfold zmp at n
  rw[g0]at n
  obtain⟨x,r,e,a1,a2⟩:=a
  exact⟨x,r,e,At.less n.1 a1,AtL.less n.2 a2⟩
end
end
theorem zmz {F H F' H':Hp}{p:Addr}{ob:Obj}{u:HO}(hF:F p=none)(hH:H p=some u)(g:Gr (upd F p (.frz ob u)) (upd H p (.frz ob u)) F' H'):Gr F H (less F' p) (upd H' p u):=by
 refine⟨λb o q=>?_,λb o q=>?_,λb o q1 q2=>?_⟩
 .have n:b≠p:=zr q hF
  rw[Wb n]
  exact g.ff b o (by rw[zq n];exact q)
 .obtain⟨n,q⟩:=zms q
  rw[zq n]
  exact g.fh b o q
 .by_cases n:b=p
  .subst n
   rw[hH]at q2
   cases q2
   exact⟨.inl zhM,zt⟩
  .obtain⟨x,y⟩:=g.kp b o (by rw[zq n];exact q1) (by rw[zq n];exact q2)
   refine⟨?_,by rw[zq n];exact y⟩
   unfold Hid
   rw[Wb n]
   exact x
section
variable {X:Cx}{e:Expr}{pos pos':Pos}
def zfG (i j:Nat)(f:Ev->Option D):SE->Ctl:=fun ρ=>match ρ[i]? with
 | some (.m t ks vs)=>(match f (visF (ρ.set i (.v (.dct true t ks vs)))) with
  | some d=>if noM d=true then .nx (ρ.set j (.v d))else .no
  | none=>.no)
 | _=>.no
theorem zhG {i j:Nat}{x:Str}{f:Ev->Option D}(hN:X.N.Nodup)(hi:X.N[j]?=some x)(hx:Loc X.env.scope x)(he:ED X e f)(hs:swapsWith e (some (.Name x pos')) pos.line X.env=pure false:=by rfl)
 (hf:X.fn x=true\/X.env.scope.names.lookup x=some .local:=by first | exact .inl rfl | exact .inr rfl | assumption):SD X (.Assign [.Name x pos'] e pos) (zfG i j f):=by
 obtain⟨t,p,r⟩:=he
 refine⟨_,zlS i (zcB hN hi hx p hs hf),λFb Hb F H ρ σ E rl k=>?_⟩
 unfold zfG at k
 split at k
 .rename_i tt ks vs hs
  split at k
  .rename_i d hd
   split at k
   .rename_i hn
    obtain⟨q,u,e1,e2,e3,e4⟩:=rl.fzM hs
    have hF:F q=none:=by
     obtain⟨q',o',f1,_,f3,_⟩:=rl.ows i _ hs rfl
     rw[e1]at f1
     cases f1
     exact f3
    refine⟨q,u,e1,e2,e3,λob=>?_⟩
    refine r σ _ _ _ d _ (e4 ob).gr.fh (e4 ob).visF hd λF' H' v g a=>?_
    have hq:F' q=some (.frz ob u):=g.ff _ _ zt
    refine⟨g.fh _ _ hq,?_⟩
    exact k _ _ _ ((rl.grow (zmz hF e2 g)).set (At.less hq e3 hn a))
   .exact k.elim
  .exact k.elim
 .exact k.elim
end
end Dl
namespace L2
open PySem PySem.Spec PyProof.Rows
theorem zi9 {prog:Program}{w:World}{a:Addr}{ob:Obj}{es:Array DictEntry}{ep:Nat}(hs:(a == sysModules)=false)(hc:ob.ExactDict)(hd:ob.data=.dict es ep) :
 PySem.W.KdlSrc prog w "dict" a a es.size (λi v=>∃ e,es[i]?=some e/\v=e.key) (λh=>h.get? a=some ob) where
 type:=λ_ hm=>⟨_,hm,hc.1⟩
 there:=λ_ hm=>⟨q5 hm,q5 hm⟩
 keep:=λ_ _ hm hk=>hk a (.inl rfl) _ hm
 notList:=by decide
 notTuple:=by decide
 hint:=λ_ _ _ _ hm hq=>W.kdl_hint_dict ⟨_,hm,hc.1⟩ hq
 iter:=λ_ _ hh hm=>⟨_,_,(λ_ _ hq=>raw_iter hs hm hc hd hq),OwnDk.own_dk_walks hh _ a (o0 (q5 hm)) hd,⟨⟨_,j6 _ rfl,rfl,rfl⟩,u4 _ hm⟩⟩
end L2
namespace Dl
open PySem L2 PySem.Spec PyProof.Rows
variable [KK]
theorem zma {F H:Hp}{u:HO}{t:Bool}{ks:List (List Key)}{ys:List V}{i:Nat}{x:V}{k:List Key}(s:xa F H)(hd:zas u t ks ys)(hk:ks[i]?=some k)(hy:zkq H u i x):∃ F',Gr F H F' H/\At F' (WO t k) x:=by
 unfold zas at hd
 cases t with
 | true =>
  rw[t4 rfl]at hd
  obtain⟨kvs,rfl,rfl,_⟩:=hd
  obtain⟨p,b,hp,rfl,hb⟩:=hy
  rw[j5,hp]at hk
  cases hk
  obtain⟨F3,g,hF⟩:=Gr.see s hb
  exact⟨F3,g,.tup hF (zdh _)⟩
 | false =>
  rw[j4 u9]at hd
  obtain⟨kvs,rfl,rfl,_⟩:=hd
  obtain⟨p,hp,rfl⟩:=hy
  rw[j5,hp]at hk
  cases hk
  exact⟨F,.refl s,zgB _⟩
theorem zgH {H:Hp}{u:HO}{t:Bool}{ks:List (List Key)}{ys:List V}(hd:zas u t ks ys):∀ (vs:List Value) (i:Nat) (F:Hp),xa F H->(∀ (j:Nat) (v:Value),vs[j]?=some v->∃ x,yZ x v/\zkq H u (i+j) x)->i+vs.length=ks.length->∃ zs F',Gr F H F' H/\AtL F' ((ks.drop i).map (WO t)) zs/\yM zs vs:=by
 intro vs
 induction vs with
 | nil =>
  intro i F s _ hl
  refine⟨[],F,.refl s,?_,.nil⟩
  rw[List.drop_eq_nil_of_le (by simp at hl;omega)]
  exact .nil
 | cons v vs ih =>
  intro i F s h hl
  have hi:i < ks.length:=by rw[i6]at hl;omega
  obtain⟨x,rx,kx⟩:=h 0 v rfl
  obtain⟨F1,g1,a1⟩:=zma s hd (t9 hi) kx
  obtain⟨zs,F2,g2,a2,r2⟩:=ih (i+1) F1 g1.fh (λj w hw=>by
   obtain⟨y,ry,ky⟩:=h (j+1) w (by simpa using hw)
   exact⟨y,ry,by rw[show i+1+j=i+(j+1) by omega];exact ky⟩) (by rw[i6]at hl;omega)
  refine⟨x::zs,F2,g1.trans g2,?_,.cons rx r2⟩
  rw[u0V hi]
  exact .cons (a1.mono g2.ff) a2
theorem zfi {X:Cx} (hc:X.calm=true):Y2 X (.type "list") (λxs H Q=>∃ F a ob u t ks ys,xs=[.ref a]/\xa F H/\H a=some (.frz ob u)/\zas u t ks ys/\ks.length<=sizeLine/\∀ l zs F',H l=none->Gr F H F' H->AtL F' (ks.map (WO t)) zs->Q (.ref l) (upd H l (.lst zs))):=by
 intro pins s σ H xs us Q I r h
 obtain⟨F,a,ob,u,t,ks,ys,rfl,sm,ha,hd,hz,q⟩:=h
 obtain⟨v,rfl,rv⟩:=WW r
 cases rv
 obtain⟨e0,es,ep,dd,ky⟩:=zbZ (I.hok a _ ha) (VR hd).1
 have hn:es.size=ks.length:=dd.size.trans (VR hd).2
 refine W.kdl_call (zi9 dd.sys dd.exact_ dd.data) (I.ok.hd hc) e0 (by omega) λh' tk acc c kp hl it=>?_
 obtain⟨zs,F',g,al,rl⟩:=zgH hd acc.toList 0 F sm (λj v hv=>by
  obtain⟨e,he,rfl⟩:=it.2 j v (by simpa using hv)
  rw[u0m]
  exact ky j e he) (by rw[u0m,i9,it.1,hn])
 rw[u4a]at al
 have hzl:zs.length<=sizeLine:=by rw[rl.length,i9,it.1];omega
 refine⟨.ref s.heap.objs.size,_,I.laid (t':=tk) kp (t5 _) (show yY X.prog X.w _ h' _ (.lst zs) from⟨hzl,acc.toList,c,rl,?_⟩),rfl,q _ _ F' (I.hok.fresh (t5 _)) g al⟩
 rw[hl]
def ze4:List D->Option (List D)
 | [.dct true t ks _]=>if ks.length<=100000 then some (ks.map (WO t))else none
 | _=>none
theorem zj1 {X:Cx} {e:Expr} {p pos:Pos} {f:Ev->Option (List D)} (hc:X.calm=true) (hgl:Gl X "list") (hm:X.mg "list"=none) (ha:AD X [e] f)
 (he:starEach [e] X.env=(false,eval e X.env)::starEach [] X.env:=by rfl) (hpl:(backTo pos (starEach [] X.env)).any (·.1)=false:=by rfl):FL X (.Call (.Name "list" p) [e] [] pos) (fFn ze4 f):=by
 obtain⟨t,pa,ra⟩:=ha
 refine⟨_,VI (zfi hc) hgl hm Xb pa (by decide) (by decide) he hpl,fun σ ρ F H z Q s va e q=>?_⟩
 obtain⟨ds,e1,e2⟩:=u5.mp e
 refine ra σ ρ F H ds _ s va e1 λF1 H1 vs g1 a1=>?_
 unfold ze4 at e2
 split at e2 <;> try cases e2
 rename_i tt ks ws
 split at e2 <;> cases e2
 rename_i hk
 obtain⟨x,r,rfl,ax,ar⟩:=a1.cons_inv
 cases ar.nil_inv
 obtain⟨a,ys,rfl,⟨u,hd,hz⟩,_⟩:=ax.dct_inv
 rw[t4 rfl]at hz
 obtain⟨ob,hz⟩:=hz
 refine⟨F1,a,ob,u,tt,ks,ys,rfl,g1.fh,g1.fh _ _ hz,hd,by rw[u1K];omega,λl zs F' hl g al=>?_⟩
 exact q _ _ _ _ (g1.trans (g.trans (Gr.hide g.fh hl _))) (zdo g1 hl) (g.fh.free hl) zt al
end Dl
namespace Mz
open PySem Dl
abbrev Tie:=Int × Int
def ltP (s t:Tie):Prop:=s.1 < t.1\/(s.1=t.1/\s.2 < t.2)
instance (s t:Tie):Decidable (ltP s t):=by unfold ltP;infer_instance
theorem zgF {a b c:Tie}(h:ltP a b)(k:ltP b c):ltP a c:=by
 unfold ltP at *
 omega
def zc (t:Tie):D:=.tup [.int t.1,.int t.2]
theorem zcJ {s t:Tie}(h:zc s=zc t):s=t:=by
 unfold zc at h
 injection h with h
 injection h with h1 h2
 injection h2 with h2 _
 injection h1 with h1
 injection h2 with h2
 exact u2A h1 h2
def zO (many:Int)(ties:List Tie):D:=.tup [.int many,.tup (ties.map zc)]
structure y9 (many:Int) (ties:List Tie):Prop where
 lo:1<=many
 hi:many<=8
 rng:∀ t∈ties,0<=t.1/\t.1 < t.2/\t.2 < many
 srt:ties.Pairwise ltP
def leP (s t:Tie):Bool:=if s.1=t.1 then (if s.2=t.2 then true else decide (s.2<=t.2))else decide (s.1<=t.1)
theorem X8 {s t:Tie}:leP s t=false↔ltP t s:=by
 unfold leP ltP
 by_cases h:s.1=t.1
 .rw[t4 h]
  by_cases k:s.2=t.2
  .rw[t4 k];simp;omega
  .rw[j4 k,u0u];omega
 .rw[j4 h,u0u];omega
def Z2:D->Option Tie
 | .tup [.int a,.int b]=>some (a,b)
 | _=>none
theorem ZB (t:Tie):Z2 (zc t)=some t:=rfl
theorem VH {d:D}{t:Tie}(h:Z2 d=some t):d=zc t:=by
 unfold Z2 at h
 split at h
 .cases h;rfl
 .cases h
def inR (m a:Int):Bool:=decide (0<=a)&&decide (a<=m - 1)
def w6 (m:Int)(d:D):Bool:=match Z2 d with
 | some t=>inR m t.1&&inR m t.2&&!decide (t.1=t.2)
 | none=>false
def zcl (p:Option Tie)(t:Tie):Bool:=match p with
 | some q=>!leP t q
 | none=>true
def yT (m:Int):Option Tie->List D->Bool
 | _,[]=>true
 | p,d::r=>match Z2 d with
  | some t=>w6 m d&&!decide (t.2 < t.1)&&zcl p t&&yT m (some t) r
  | none=>false
def ZM (m:Int):D->Bool
 | .tup ts=>yT m none ts
 | _=>false
def Z7:D->Bool
 | .tup [.int m,t]=>decide (1<=m)&&decide (m<=8)&&ZM m t
 | _=>false
theorem WG (m:Int):∀ (ts:List D) (p:Option Tie),yT m p ts=true↔∃ l:List Tie,ts=l.map zc/\(∀ t∈l,0<=t.1/\t.1 < t.2/\t.2 < m)/\(∀ q,p=some q->∀ t∈l,ltP q t)/\l.Pairwise ltP:=by
 intro ts
 induction ts with
 | nil =>
  intro p
  refine⟨λ_=>⟨[],rfl,by simp,by simp,.nil⟩,λ_=>rfl⟩
 | cons d r ih =>
  intro p
  unfold yT
  cases e:Z2 d with
  | none =>
   refine Iff.intro (λh=>nomatch h) (λhh=>?_)
   obtain⟨l,h,_⟩:=hh
   cases l with
   | nil=>cases h
   | cons t l' =>
    rw[p7]at h
    injection h with h1 _
    rw[h1,ZB]at e
    cases e
  | some t =>
   have ed:=VH e
   subst ed
   simp only[w6,ZB,g0,u3u,u0u,inR,r9]
   rw[ih (some t)]
   constructor
   .rintro⟨⟨⟨⟨⟨h1,h2⟩,h3⟩,h4⟩,h5⟩,l,rfl,hr,hq,hs⟩
    refine⟨t::l,rfl,?_,?_,u1b.mpr ⟨hq t rfl,hs⟩⟩
    .intro u hu
     rcases j9.mp hu with rfl | hu
     .omega
     .exact hr u hu
    .rintro q rfl u hu
     have hqt:ltP q t:=X8.mp (by simpa [zcl]using h5)
     rcases j9.mp hu with rfl | hu
     .exact hqt
     .exact zgF hqt (hq t rfl u hu)
   .rintro⟨l,h,hr,hq,hs⟩
    cases l with
    | nil=>cases h
    | cons u l' =>
     rw[p7]at h
     injection h with h1 h2
     have hu:=zcJ h1
     subst hu
     have hb:=hr t (by simp)
     refine⟨⟨⟨⟨⟨by omega,by omega⟩,by omega⟩,by omega⟩,?_⟩,l',h2,λv hv=>hr v (by simp[hv]),λq hqe v hv=>?_,(u1b.mp hs).2⟩
     .cases p with
      | none=>rfl
      | some q =>
       have:=X8.mpr (hq q rfl t (by simp))
       simp[zcl,this]
     .cases hqe
      exact(u1b.mp hs).1 v hv
theorem Wi (d:D):Z7 d=true↔∃ m ties,d=zO m ties/\y9 m ties:=by
 constructor
 .intro h
  unfold Z7 at h
  split at h
  .rename_i m t
   simp only[g0,r9]at h
   obtain⟨⟨h1,h2⟩,h3⟩:=h
   unfold ZM at h3
   split at h3
   .rename_i ts
    obtain⟨l,rfl,hr,_,hs⟩:=(WG m ts none).mp h3
    exact⟨m,l,rfl,h1,h2,hr,hs⟩
   .cases h3
  .cases h
 .rintro⟨m,ties,rfl,w⟩
  unfold zO Z7 ZM
  simp only[g0,r9]
  exact⟨⟨w.lo,w.hi⟩,(WG m _ none).mpr ⟨ties,rfl,w.rng,by simp,w.srt⟩⟩
theorem zlk {d:D}(h:∀ m ties,d=zO m ties->¬ y9 m ties):Z7 d=false:=by
 cases e:Z7 d with
 | false=>rfl
 | true =>
  obtain⟨m,ties,rfl,w⟩:=(Wi d).mp e
  exact absurd w (h m ties rfl)
def xQ (n:Nat):List Tie:=(List.range n).flatMap λa=>(List.range (n - (a+1))).map λ(j:Nat)=>((a:Int),(a:Int)+1+(j:Int))
theorem zac:∀ n:Nat,n<=8->(xQ n).Pairwise ltP/\(∀ t∈xQ n,0<=t.1/\t.1 < t.2/\t.2 < (n:Int))/\(xQ n).length<=28:=by
 have h:∀ n:_root_.Fin 9,(xQ n.val).Pairwise ltP/\(∀ t∈xQ n.val,0<=t.1/\t.1 < t.2/\t.2 < (n.val:Int))/\(xQ n.val).length<=28:=by decide +kernel
 exact λn hn=>h ⟨n,by omega⟩
end Mz
namespace Mz
open Dl
def zdE (i j:Nat):List Tie:=(List.range j).map λ(k:Nat)=>((i:Int),(i:Int)+1+(k:Int))
def wv (n i:Nat):List Tie:=(List.range i).flatMap λa=>zdE a (n - (a+1))
theorem ziO (n:Nat):xQ n=wv n n:=rfl
theorem WQ (n i:Nat):wv n (i+1)=wv n i++zdE i (n - (i+1)):=by
 unfold wv
 rw[List.range_succ,u2W]
 simp
theorem WK (i j:Nat):(zdE i j).length=j:=by unfold zdE;simp
theorem zfM (n:Nat)(hn:n<=8):∀ i:Nat,(wv n i).length<=8*i:=by
 intro i
 induction i with
 | zero=>simp[wv]
 | succ i ih =>
  rw[WQ,j8,WK]
  omega
def zda (c k:Int):Int :=
 let a:=(c % 2147483647+977*k+1)*48271 % 2147483647
 let b:=a*a % 2147483629
 (b+40692*(k+3))*69621 % 2147483647 / 8
theorem WY {P:Nat->Prop}:∀ k,P k->∃ j,P j/\∀ i,P i->j<=i:=by
 intro k
 induction k using Nat.strongRecOn with
 | _ k ih =>
  intro h
  by_cases c:∃ i,i < k/\P i
  .obtain⟨i,hi,h2⟩:=c
   exact ih i hi h2
  .exact⟨k,h,λi hi=>u0M λz=>c ⟨i,z,hi⟩⟩
theorem zkE {n:Nat}{i:Int}(h0:0<=i)(h1:i < n):L2.ixN n i=some i.toNat:=by
 unfold L2.ixN
 rw[t4 h0,t4 h1]
theorem zcY {α:Type}{xs:List α}{i:Int}{x:α}(h0:0<=i)(h:xs[i.toNat]?=some x):L2.atI xs i=some x:=by
 have:=(t6.mp h).1
 unfold L2.atI
 rw[zkE h0 (by omega)]
 exact h
theorem zkH {m:Bool}{i:Nat}{fk fe:Ev->Option D}{ρ:SE}{ds:List D}{d:D}{k:Int}(h1:vEv m fe ρ=some d)(h2:fk (visG ρ)=some (.int k))(h3:ρ[i]?=some (.o ds))(h4:0<=k)(h5:k < ds.length) :
 vb m i fk fe ρ=.nx (ρ.set i (.o (ds.set k.toNat d))):=by
 unfold vb
 rw[h1,h2,h3]
 show(match ((L2.ixN ds.length k).map λj=>ρ.set i (Sl.o (ds.set j d)))with | some ρ'=>Ctl.nx ρ' | none=>Ctl.no)=_
 rw[zkE h4 h5]
 rfl
theorem zg5:∀ {ns:List Int} {k:Nat} {x:Int} (h:k < ns.length),(ns.set k x).sum=ns.sum - ns[k]+x
 | [],_,_,h=>by simp at h
 | n::ns,0,x,_=>by simp;omega
 | n::ns,k+1,x,h=>by
  have:=zg5 (ns:=ns) (k:=k) (x:=x) (by simpa using h)
  simp only[List.set_cons_succ,u1h,List.getElem_cons_succ,this]
  omega
theorem Wl (ts:List Tie):(XG ts).Perm ts:=u2Z _ _
theorem zcF {ts:List Tie}(h:ts.Nodup):(XG ts).Pairwise ltP:=by
 have h1:(XG ts).Pairwise λa b=>zmS a b=true:=u2l (λa b c h1 h2=>by rw[vV]at *;omega) (λa b=>by rw[u2R,vV,vV];omega) _
 have h2:(XG ts).Nodup:=(Wl ts).nodup_iff.mpr h
 refine(h1.and h2).imp λ{a b} hh=>?_
 obtain⟨x,y⟩:=hh
 rw[vV]at x
 unfold ltP
 rcases x with x | x
 .exact .inl x
 .refine .inr ⟨x.1,?_⟩
  have:a.2≠b.2:=λe=>y (u2A x.1 e)
  omega
theorem zl0 {m:Bool}{i:Nat}{fk fe:Ev->Option D}{ρ:SE}{n b kk:SE->Prop}{r:D->Prop}(ds:List D)(d:D)(k:Int)(h1:vEv m fe ρ=some d)(h2:fk (visG ρ)=some (.int k))(h3:ρ[i]?=some (.o ds))(h4:0<=k)(h5:k < ds.length)(q:n (ρ.set i (.o (ds.set k.toNat d)))) :
 (vb m i fk fe ρ).w n b kk r:=xG (zkH h1 h2 h3 h4 h5) q
theorem zkh {α:Type}(xs:List α)(lo hi:Option Int):(zb5 xs lo hi).length<=xs.length:=by
 unfold zb5
 rw[u1d,u0n]
 omega
theorem zeo {a b:List D}(h:a.length+b.length<=1000):Yc (.lst a) (.lst b)=some (.lst (a++b)):=by
 show(if lim (a.length+b.length)=true then _ else none)=_
 rw[t4 (vp h)]
theorem zla:∀ {ns:List Int},(∀ x∈ns,0<=x)->0<=ns.sum
 | [],_=>by simp
 | n::ns,h=>by
  have:=zla (ns:=ns) λx hx=>h x (r8 _ hx)
  have:=h n d6
  rw[u1h]
  omega
theorem Zm {m:Bool}{i:Nat}{f:Ev->Option D}{ρ ρ':SE}{d:D}(h:vEv m f ρ=some d)(h2:ρ.set i (.v d)=ρ':=by rfl):yw m i f ρ=.nx ρ':=by
 unfold yw
 rw[h,<- h2]
theorem ww {f:Ev->Option D}{ρ:SE}{d:D}(h:f (visG ρ)=some d):xH f ρ=.nx ρ:=by
 unfold xH
 rw[h]
theorem xk {f:Ev->Option D}{ρ:SE}{d:D}(h:f (visG ρ)=some d):yd f ρ=.rt d:=by
 unfold yd
 rw[h]
theorem zdF {i:Nat}{f:Ev->Option (List D)}{ρ ρ':SE}{ds:List D}(h:f (visF ρ)=some ds)(h2:ρ.set i (.o ds)=ρ':=by rfl):wo i f ρ=.nx ρ':=by
 unfold wo
 rw[h,<- h2]
theorem zI {a b:Int}:neD (.int a) (.int b)=some (.bl (!decide (a=b))):=rfl
theorem Vo {a m x:Int}(h:0 < m)(hx:a % m=x):0<=x/\x < m:=by
 subst hx
 exact⟨u2U _ (by omega),u3c _ h⟩
theorem zoP {m:Int}{n:Nat}(h:m=((n+1:Nat):Int))(h7:n<=7):wX [.int 1,.int m]=some (W4 1 n):=by
 show(if ziV 1=true/\ziV m=true then some (W4 1 (m - 1).toNat)else none)=_
 rw[t4 ⟨yW.mpr ⟨by omega,by omega⟩,yW.mpr ⟨by omega,by omega⟩⟩,show(m - 1).toNat=n by omega]
theorem zz {a b:Int}:XJ (.int a) (.int b)=some (.bl (decide (a=b))):=rfl
theorem zJ {a b:Bool}:XJ (.bl a) (.bl b)=some (.bl (decide (a=b))):=rfl
theorem zA {a b:PySem.Str}:XJ (.str a) (.str b)=some (.bl (decide (a=b))):=rfl
theorem zv {a b:Int}:Yc (.int a) (.int b)=some (.int (a+b)):=rfl
theorem zm6 {α:Type}(xs:List α)(k:Nat):zb5 xs none (some (k:Int))=xs.take k:=by
 unfold zb5
 rw[HT.sIx_none,u4a,Nat.sub_zero,HT.sIx_nat]
 by_cases h:k<=xs.length
 .rw[u1G h]
 .rw[u3O (by omega),u1R (t5 _),u1R (by omega)]
theorem zhE {α:Type}(xs:List α)(k:Nat):zb5 xs (some (k:Int)) none=xs.drop k:=by
 unfold zb5
 rw[HT.sIx_none,HT.sIx_nat]
 by_cases h:k<=xs.length
 .rw[u1G h,u1R (by rw[u0n];omega)]
 .rw[u3O (by omega),Nat.sub_self,List.take_zero,List.drop_of_length_le (by omega)]
section
variable {ρ:Ev}{f g h:Ev->Option D}{a:Ev->Option (List D)}{t u:Ev->Option Bool}{d e x y z:D}{ds es:List D}{b c:Bool}
theorem xv:zo ρ=some []:=rfl
theorem zW (h1:f ρ=some d)(h2:a ρ=some ds):zb f a ρ=some (d::ds):=by unfold zb;rw[h1,h2];rfl
theorem yt {n:Nat}{p:List D->Option D}(h1:a ρ=some ds)(h2:p ds=some d)(hl:ds.length=n:=by rfl):zn n p a ρ=some d:=by
 unfold zn
 rw[h1,i7,t4 hl,h2]
theorem yD {i n:Nat}{p:List D->Option D}{σ σ':SE}(h1:a (visF σ)=some ds)(h2:p ds=some d)(hl:ds.length=n:=by rfl)(h3:σ.set i (.v d)=σ':=by rfl):yw false i (zn n p a) σ=.nx σ':=Zm (show zn n p a (visF σ)=some d from yt h1 h2 hl) h3
theorem zbQ {i:Nat}{f:Ev->Option D}{σ σ':SE}(h:f (visF σ)=some d)(h3:σ.set i (.v d)=σ':=by rfl):yw false i f σ=.nx σ':=Zm (show f (visF σ)=some d from h) h3
theorem zB {k:D->D->Option D}(h1:f ρ=some x)(h2:g ρ=some y)(h3:k x y=some z):zk k f g ρ=some z:=by unfold zk;rw[h1,h2];exact h3
theorem vv (h1:a ρ=some ds):yx a ρ=some (.lst ds):=by unfold yx;rw[h1];rfl
theorem VD {k:List D->Option D}(h1:a ρ=some ds)(h2:k ds=some d):eFn k a ρ=some d:=by unfold eFn;rw[h1];exact h2
theorem zkR {k:List D->Option (List D)}(h1:a ρ=some ds)(h2:k ds=some es):fFn k a ρ=some es:=by unfold fFn;rw[h1];exact h2
theorem zmu (h1:a ρ=some ds)(hl:ds.length<=1000):yc a ρ=some ds:=by unfold yc;rw[h1,i7,t4 (vp hl)]
theorem zk7 (h1:a ρ=some ds)(hl:ds.length<=1000):xt a ρ=some (.tup ds):=by unfold xt;rw[h1,i7,t4 (vp hl)]
theorem zpd (h1:f ρ=some d)(h2:ssD d=some ds):fSS f ρ=some ds:=by unfold fSS;rw[h1];exact h2
theorem zcA (h1:f ρ=some d)(h2:yo d=some ds):iOf f ρ=some ds:=by unfold iOf;rw[h1];exact h2
theorem zn6 (h1:f ρ=some (.bl b))(h2:g ρ=some (.bl c)):x9 f g ρ=some (.bl (b&&c)):=by unfold x9;rw[h1,h2];cases b <;> rfl
theorem xD (h1:f ρ=some (.bl b)):tOf f ρ=some b:=by unfold tOf;rw[h1];rfl
theorem zad (h1:t ρ=some b):zS t ρ=some (!b):=by unfold zS;rw[h1];rfl
theorem zob (h1:t ρ=some b)(h2:u ρ=some c):yg t u ρ=some (b&&c):=by unfold yg;rw[h1,h2];cases b <;> rfl
theorem zpp (h1:t ρ=some b)(h2:u ρ=some c):wm t u ρ=some (b||c):=by unfold wm;rw[h1,h2];cases b <;> rfl
theorem zlo (h1:t ρ=some false):yg t u ρ=some false:=by unfold yg;rw[h1];rfl
theorem zlw (h1:t ρ=some true)(h2:u ρ=some c):yg t u ρ=some c:=by unfold yg;rw[h1];exact h2
theorem zk5 (h1:t ρ=some false)(h2:u ρ=some c):wm t u ρ=some c:=by unfold wm;rw[h1];exact h2
end
end Mz
namespace Mz
open PySem L2 Dl
def top (i:Nat):Stmt:=PySem.Challenge.pw_twoforone_k19_whole_rows_and_tallies.main.body.getD i (.Pass ⟨0,0,0,0⟩)
abbrev Xr:Stmt:=top 11
abbrev xY:Stmt:=top 12
abbrev wt:Stmt:=top 13
abbrev wz:Stmt:=top 14
abbrev Xp:Stmt:=top 15
abbrev Y4:Stmt:=top 16
abbrev Wd:Stmt:=top 18
abbrev Xe:Stmt:=top 19
abbrev VW:Stmt:=top 20
abbrev Yp:Stmt:=top 21
abbrev vk:Stmt:=top 22
abbrev Yk:Stmt:=top 23
abbrev Y5:Stmt:=top 25
abbrev vJ:Stmt:=top 26
abbrev WA:Stmt:=top 27
abbrev WB:Stmt:=top 28
abbrev zdO:Stmt:=top 29
abbrev V4:Stmt:=top 30
abbrev vN:Stmt:=top 33
abbrev wn:Stmt:=top 34
abbrev vd:Stmt:=top 35
abbrev YM:Stmt:=top 36
abbrev Z8:Stmt:=top 37
abbrev zdg:Stmt:=top 38
abbrev Ww:Stmt:=top 39
abbrev VZ:Stmt:=top 40
abbrev Wj:Stmt:=top 41
abbrev Yi:Stmt:=top 42
abbrev V9:Stmt:=top 43
abbrev Xg:Stmt:=top 44
abbrev ZI:Stmt:=top 46
abbrev Xo:Stmt:=top 47
abbrev Zb:Stmt:=top 48
abbrev YR:Stmt:=top 49
abbrev Yb:Stmt:=top 50
abbrev wA:Stmt:=top 51
abbrev vQ:Stmt:=top 52
abbrev Xm:Stmt:=top 53
abbrev Zy:Stmt:=top 54
abbrev YZ:Stmt:=top 55
abbrev vI:Stmt:=top 56
abbrev Zd:Stmt:=top 57
abbrev vn:Stmt:=top 58
abbrev YN:Stmt:=top 59
abbrev zhN:Stmt:=top 60
theorem zdW:zw ["thing"] ["thing"] (zm Xr):=⟨rfl,rfl,rfl,by decide +kernel,rfl,by decide +kernel,by decide +kernel⟩
theorem XW:zw ["thing","least","most"] ["thing","least","most"] (zm xY):=⟨rfl,rfl,rfl,by decide +kernel,rfl,by decide +kernel,by decide +kernel⟩
theorem Wg:zw ["thing","least","most"] ["thing","least","most"] (zm wt):=⟨rfl,rfl,rfl,by decide +kernel,rfl,by decide +kernel,by decide +kernel⟩
theorem Wh:zw ["thing"] ["thing"] (zm wz):=⟨rfl,rfl,rfl,by decide +kernel,rfl,by decide +kernel,by decide +kernel⟩
theorem zd0:zw ["many","thing"] ["many","thing"] (zm Xp):=⟨rfl,rfl,rfl,by decide +kernel,rfl,by decide +kernel,by decide +kernel⟩
theorem zbU:zw ["many","thing"] ["many","thing"] (zm Y4):=⟨rfl,rfl,rfl,by decide +kernel,rfl,by decide +kernel,by decide +kernel⟩
theorem zfp:zw ["many","thing"] ["many","thing"] (zm Wd):=⟨rfl,rfl,rfl,by decide +kernel,rfl,by decide +kernel,by decide +kernel⟩
theorem Xc:zw ["many","thing","at","tie"] ["many","thing"] (zm Xe):=⟨rfl,rfl,rfl,by decide +kernel,rfl,by decide +kernel,by decide +kernel⟩
theorem ziq:zw ["thing"] ["thing"] (zm VW):=⟨rfl,rfl,rfl,by decide +kernel,rfl,by decide +kernel,by decide +kernel⟩
theorem zav:zw ["thing"] ["thing"] (zm Yp):=⟨rfl,rfl,rfl,by decide +kernel,rfl,by decide +kernel,by decide +kernel⟩
theorem W1:zw ["web","thing"] ["web","thing"] (zm vk):=⟨rfl,rfl,rfl,by decide +kernel,rfl,by decide +kernel,by decide +kernel⟩
theorem zaD:zw ["one","other"] ["one","other"] (zm Yk):=⟨rfl,rfl,rfl,by decide +kernel,rfl,by decide +kernel,by decide +kernel⟩
theorem zbn:zw ["web","thing"] ["web","thing"] (zm Y5):=⟨rfl,rfl,rfl,by decide +kernel,rfl,by decide +kernel,by decide +kernel⟩
theorem VE:zw ["web","thing"] ["web","thing"] (zm vJ):=⟨rfl,rfl,rfl,by decide +kernel,rfl,by decide +kernel,by decide +kernel⟩
theorem zfZ:zw ["web","thing"] ["web","thing"] (zm WA):=⟨rfl,rfl,rfl,by decide +kernel,rfl,by decide +kernel,by decide +kernel⟩
theorem za8:zw ["heap","step","stones"] ["heap","step"] (zm WB):=⟨rfl,rfl,rfl,by decide +kernel,rfl,by decide +kernel,by decide +kernel⟩
theorem Wp:zw ["web","heap","thing","heaps","now","at","step"] ["web","heap","thing"] (zm zdO):=⟨rfl,rfl,rfl,by decide +kernel,rfl,by decide +kernel,by decide +kernel⟩
theorem VC:zw ["web","heap","place","many","thing","told","last"] ["web","heap","place","many","thing"] (zm V4):=⟨rfl,rfl,rfl,by decide +kernel,rfl,by decide +kernel,by decide +kernel⟩
theorem VN:zw ["web","thing"] ["web","thing"] (zm vN):=⟨rfl,rfl,rfl,by decide +kernel,rfl,by decide +kernel,by decide +kernel⟩
theorem wu:zw ["web","thing","at","row"] ["web","thing"] (zm wn):=⟨rfl,rfl,rfl,by decide +kernel,rfl,by decide +kernel,by decide +kernel⟩
theorem W0:zw ["web","thing"] ["web","thing"] (zm vd):=⟨rfl,rfl,rfl,by decide +kernel,rfl,by decide +kernel,by decide +kernel⟩
theorem zbw:zw ["times"] ["times"] (zm YM):=⟨rfl,rfl,rfl,by decide +kernel,rfl,by decide +kernel,by decide +kernel⟩
theorem YV:zw ["web","steps","times","at","step"] ["web","steps"] (zm Z8):=⟨rfl,rfl,rfl,by decide +kernel,rfl,by decide +kernel,by decide +kernel⟩
theorem zdK:zw ["heap","tally","stones","row"] ["heap","tally"] (zm zdg):=⟨rfl,rfl,rfl,by decide +kernel,rfl,by decide +kernel,by decide +kernel⟩
theorem zfX:zw ["web","heap","tally"] ["web","heap","tally"] (zm Ww):=⟨rfl,rfl,rfl,by decide +kernel,rfl,by decide +kernel,by decide +kernel⟩
theorem zgT:zw ["places","steps"] ["places","steps"] (zm VZ):=⟨rfl,rfl,rfl,by decide +kernel,rfl,by decide +kernel,by decide +kernel⟩
theorem wx:zw ["steps","places","kept","way","onward"] ["steps"] (zm Wj):=⟨rfl,rfl,rfl,by decide +kernel,rfl,by decide +kernel,by decide +kernel⟩
theorem zax:zw ["ring"] ["ring"] (zm Yi):=⟨rfl,rfl,rfl,by decide +kernel,rfl,by decide +kernel,by decide +kernel⟩
theorem wN:zw ["web","tally","times","row","ring","steps","fewest","step"] ["web","tally"] (zm V9):=⟨rfl,rfl,rfl,by decide +kernel,rfl,by decide +kernel,by decide +kernel⟩
theorem wk:zw ["web","heap","tally","steps","rows","ends","row"] ["web","heap","tally"] (zm Xg):=⟨rfl,rfl,rfl,by decide +kernel,rfl,by decide +kernel,by decide +kernel⟩
theorem vW:zw ["cell","k","number"] ["cell","k"] (zm ZI):=⟨rfl,rfl,rfl,by decide +kernel,rfl,by decide +kernel,by decide +kernel⟩
theorem YQ:zw ["web","heap","found","a","b"] ["web","heap"] (zm Xo):=⟨rfl,rfl,rfl,by decide +kernel,rfl,by decide +kernel,by decide +kernel⟩
theorem XR:zw ["heap","step","found"] ["heap","step"] (zm Zb):=⟨rfl,rfl,rfl,by decide +kernel,rfl,by decide +kernel,by decide +kernel⟩
theorem vz:zw ["many","found","a"] ["many"] (zm YR):=⟨rfl,rfl,rfl,by decide +kernel,rfl,by decide +kernel,by decide +kernel⟩
theorem wG:zw ["many","cell","ties","k","tie"] ["many","cell"] (zm Yb):=⟨rfl,rfl,rfl,by decide +kernel,rfl,by decide +kernel,by decide +kernel⟩
theorem xm:zw ["many","cell","ties","k","tie"] ["many","cell"] (zm wA):=⟨rfl,rfl,rfl,by decide +kernel,rfl,by decide +kernel,by decide +kernel⟩
theorem zY:zw ["many","cell","most","left_v","heap","digits","k","stones"] ["many","cell","most"] (zm vQ):=⟨rfl,rfl,rfl,by decide +kernel,rfl,by decide +kernel,by decide +kernel⟩
theorem YW:zw ["heap","steps","here","step"] ["heap","steps"] (zm Xm):=⟨rfl,rfl,rfl,by decide +kernel,rfl,by decide +kernel,by decide +kernel⟩
theorem Zo:zw ["found","due","one","other"] ["found","due"] (zm Zy):=⟨rfl,rfl,rfl,by decide +kernel,rfl,by decide +kernel,by decide +kernel⟩
theorem zbP:zw ["found"] ["found"] (zm YZ):=⟨rfl,rfl,rfl,by decide +kernel,rfl,by decide +kernel,by decide +kernel⟩
theorem zae:zw ["web","thing"] ["web","thing"] (zm vI):=⟨rfl,rfl,rfl,by decide +kernel,rfl,by decide +kernel,by decide +kernel⟩
theorem x8:zw ["web","heap","thing","here","at","step"] ["web","heap","thing"] (zm Zd):=⟨rfl,rfl,rfl,by decide +kernel,rfl,by decide +kernel,by decide +kernel⟩
theorem y3:zw ["tally","left_v","turn","tails"] ["tally"] (zm vn):=⟨rfl,rfl,rfl,by decide +kernel,rfl,by decide +kernel,by decide +kernel⟩
theorem yS:zw ["web","heap","cell","found","here","k","may","step"] ["web","heap","cell"] (zm YN):=⟨rfl,rfl,rfl,by decide +kernel,rfl,by decide +kernel,by decide +kernel⟩
theorem Z6:zw ["script","cell","web","heap","steps","end","tally","found","place","stones"] ["script"] (zm zhN):=⟨rfl,rfl,rfl,by decide +kernel,rfl,by decide +kernel,by decide +kernel⟩
structure Adr where
 f_is_whole:Addr
 e_is_whole:FuncData
 f_is_whole_within:Addr
 e_is_whole_within:FuncData
 f_must_be_within:Addr
 e_must_be_within:FuncData
 f_is_place_count:Addr
 e_is_place_count:FuncData
 f_is_place:Addr
 e_is_place:FuncData
 f_are_counts:Addr
 e_are_counts:FuncData
 f_is_pair:Addr
 e_is_pair:FuncData
 f_are_ties:Addr
 e_are_ties:FuncData
 f_is_web:Addr
 e_is_web:FuncData
 f_must_be_web:Addr
 e_must_be_web:FuncData
 f_must_be_place:Addr
 e_must_be_place:FuncData
 f_tie_between:Addr
 e_tie_between:FuncData
 f_are_stones:Addr
 e_are_stones:FuncData
 f_must_be_heap:Addr
 e_must_be_heap:FuncData
 f_is_step:Addr
 e_is_step:FuncData
 f_stepped:Addr
 e_stepped:FuncData
 f_walk:Addr
 e_walk:FuncData
 f_brings:Addr
 e_brings:FuncData
 f_is_tally_row:Addr
 e_is_tally_row:FuncData
 f_are_tally_rows:Addr
 e_are_tally_rows:FuncData
 f_must_be_tally:Addr
 e_must_be_tally:FuncData
 f_tally_from:Addr
 e_tally_from:FuncData
 f_tally_of:Addr
 e_tally_of:FuncData
 f_left:Addr
 e_left:FuncData
 f_left_by:Addr
 e_left_by:FuncData
 f_led_on:Addr
 e_led_on:FuncData
 f_ring_of:Addr
 e_ring_of:FuncData
 f_steps_round:Addr
 e_steps_round:FuncData
 f_leaned:Addr
 e_leaned:FuncData
 f_in_order:Addr
 e_in_order:FuncData
 f__law_stir:Addr
 e__law_stir:FuncData
 f__law_may:Addr
 e__law_may:FuncData
 f__law_moved:Addr
 e__law_moved:FuncData
 f__law_pairs:Addr
 e__law_pairs:FuncData
 f__law_web_by:Addr
 e__law_web_by:FuncData
 f__law_joined_by:Addr
 e__law_joined_by:FuncData
 f__law_heap_by:Addr
 e__law_heap_by:FuncData
 f__law_end:Addr
 e__law_end:FuncData
 f__law_same:Addr
 e__law_same:FuncData
 f__law_whole:Addr
 e__law_whole:FuncData
 f__law_is_step:Addr
 e__law_is_step:FuncData
 f__law_wrong:Addr
 e__law_wrong:FuncData
 f__law_has_ring:Addr
 e__law_has_ring:FuncData
 f__law_steps:Addr
 e__law_steps:FuncData
 f_law:Addr
 e_law:FuncData
 t_MOST_PLACES:Tok
 t_MOST_STONES:Tok
 t_MOST_TIMES:Tok
structure Txt (K:W.Frag) (mg:Str->Option Value) (ad:Adr):Prop where
 d_is_whole:Def K mg "is_whole" Xr ["thing"] ad.f_is_whole ad.e_is_whole
 d_is_whole_within:Def K mg "is_whole_within" xY ["thing","least","most"] ad.f_is_whole_within ad.e_is_whole_within
 d_must_be_within:Def K mg "must_be_within" wt ["thing","least","most"] ad.f_must_be_within ad.e_must_be_within
 d_is_place_count:Def K mg "is_place_count" wz ["thing"] ad.f_is_place_count ad.e_is_place_count
 d_is_place:Def K mg "is_place" Xp ["many","thing"] ad.f_is_place ad.e_is_place
 d_are_counts:Def K mg "are_counts" Y4 ["many","thing"] ad.f_are_counts ad.e_are_counts
 d_is_pair:Def K mg "is_pair" Wd ["many","thing"] ad.f_is_pair ad.e_is_pair
 d_are_ties:Def K mg "are_ties" Xe ["many","thing"] ad.f_are_ties ad.e_are_ties
 d_is_web:Def K mg "is_web" VW ["thing"] ad.f_is_web ad.e_is_web
 d_must_be_web:Def K mg "must_be_web" Yp ["thing"] ad.f_must_be_web ad.e_must_be_web
 d_must_be_place:Def K mg "must_be_place" vk ["web","thing"] ad.f_must_be_place ad.e_must_be_place
 d_tie_between:Def K mg "tie_between" Yk ["one","other"] ad.f_tie_between ad.e_tie_between
 d_are_stones:Def K mg "are_stones" Y5 ["web","thing"] ad.f_are_stones ad.e_are_stones
 d_must_be_heap:Def K mg "must_be_heap" vJ ["web","thing"] ad.f_must_be_heap ad.e_must_be_heap
 d_is_step:Def K mg "is_step" WA ["web","thing"] ad.f_is_step ad.e_is_step
 d_stepped:Def K mg "stepped" WB ["heap","step"] ad.f_stepped ad.e_stepped
 d_walk:Def K mg "walk" zdO ["web","heap","thing"] ad.f_walk ad.e_walk
 d_brings:Def K mg "brings" V4 ["web","heap","place","many","thing"] ad.f_brings ad.e_brings
 d_is_tally_row:Def K mg "is_tally_row" vN ["web","thing"] ad.f_is_tally_row ad.e_is_tally_row
 d_are_tally_rows:Def K mg "are_tally_rows" wn ["web","thing"] ad.f_are_tally_rows ad.e_are_tally_rows
 d_must_be_tally:Def K mg "must_be_tally" vd ["web","thing"] ad.f_must_be_tally ad.e_must_be_tally
 d_tally_from:Def K mg "tally_from" YM ["times"] ad.f_tally_from ad.e_tally_from
 d_tally_of:Def K mg "tally_of" Z8 ["web","steps"] ad.f_tally_of ad.e_tally_of
 d_left:Def K mg "left" zdg ["heap","tally"] ad.f_left ad.e_left
 d_left_by:Def K mg "left_by" Ww ["web","heap","tally"] ad.f_left_by ad.e_left_by
 d_led_on:Def K mg "led_on" VZ ["places","steps"] ad.f_led_on ad.e_led_on
 d_ring_of:Def K mg "ring_of" Wj ["steps"] ad.f_ring_of ad.e_ring_of
 d_steps_round:Def K mg "steps_round" Yi ["ring"] ad.f_steps_round ad.e_steps_round
 d_leaned:Def K mg "leaned" V9 ["web","tally"] ad.f_leaned ad.e_leaned
 d_in_order:Def K mg "in_order" Xg ["web","heap","tally"] ad.f_in_order ad.e_in_order
 d__law_stir:Def K mg "_law_stir" ZI ["cell","k"] ad.f__law_stir ad.e__law_stir
 d__law_may:Def K mg "_law_may" Xo ["web","heap"] ad.f__law_may ad.e__law_may
 d__law_moved:Def K mg "_law_moved" Zb ["heap","step"] ad.f__law_moved ad.e__law_moved
 d__law_pairs:Def K mg "_law_pairs" YR ["many"] ad.f__law_pairs ad.e__law_pairs
 d__law_web_by:Def K mg "_law_web_by" Yb ["many","cell"] ad.f__law_web_by ad.e__law_web_by
 d__law_joined_by:Def K mg "_law_joined_by" wA ["many","cell"] ad.f__law_joined_by ad.e__law_joined_by
 d__law_heap_by:Def K mg "_law_heap_by" vQ ["many","cell","most"] ad.f__law_heap_by ad.e__law_heap_by
 d__law_end:Def K mg "_law_end" Xm ["heap","steps"] ad.f__law_end ad.e__law_end
 d__law_same:Def K mg "_law_same" Zy ["found","due"] ad.f__law_same ad.e__law_same
 d__law_whole:Def K mg "_law_whole" YZ ["found"] ad.f__law_whole ad.e__law_whole
 d__law_is_step:Def K mg "_law_is_step" vI ["web","thing"] ad.f__law_is_step ad.e__law_is_step
 d__law_wrong:Def K mg "_law_wrong" Zd ["web","heap","thing"] ad.f__law_wrong ad.e__law_wrong
 d__law_has_ring:Def K mg "_law_has_ring" vn ["tally"] ad.f__law_has_ring ad.e__law_has_ring
 d__law_steps:Def K mg "_law_steps" YN ["web","heap","cell"] ad.f__law_steps ad.e__law_steps
 d_law:Def K mg "law" zhN ["script"] ad.f_law ad.e_law
 g_MOST_PLACES:mg "MOST_PLACES"=some (Value.int 8 ad.t_MOST_PLACES)
 g_MOST_STONES:mg "MOST_STONES"=some (Value.int 300 ad.t_MOST_STONES)
 g_MOST_TIMES:mg "MOST_TIMES"=some (Value.int 300 ad.t_MOST_TIMES)
 z_all:mg "all"=none
 z_any:mg "any"=none
 z_bool:mg "bool"=none
 z_enumerate:mg "enumerate"=none
 z_int:mg "int"=none
 z_isinstance:mg "isinstance"=none
 z_len:mg "len"=none
 z_list:mg "list"=none
 z_max:mg "max"=none
 z_min:mg "min"=none
 z_range:mg "range"=none
 z_set:mg "set"=none
 z_sorted:mg "sorted"=none
 z_str:mg "str"=none
 z_sum:mg "sum"=none
 z_tuple:mg "tuple"=none
 z_zip:mg "zip"=none
theorem zpR:(["part","many","thing"]:List Str).Nodup:=by decide +kernel
theorem zpz:(["b","many","found","a"]:List Str).Nodup:=by decide +kernel
theorem zpa:(["other","many","cell","ties","k","tie"]:List Str).Nodup:=by decide +kernel
theorem zpk:(["place","web","thing"]:List Str).Nodup:=by decide +kernel
theorem zp2:(["place","places","steps"]:List Str).Nodup:=by decide +kernel
theorem zpY:(["step","place","places","steps"]:List Str).Nodup:=by decide +kernel
theorem zm5:(["step","steps","places","kept","way","onward"]:List Str).Nodup:=by decide +kernel
theorem zmw:(["row","web","heap","tally","steps","rows","ends","·row"]:List Str).Nodup:=by decide +kernel
theorem zjQ:(["a","b","tally","left_v","turn","tails"]:List Str).Nodup:=by decide +kernel
theorem zpK:(["row","tally","left_v","turn","tails"]:List Str).Nodup:=by decide +kernel
theorem zos:(["step","times"]:List Str).Nodup:=by decide +kernel
theorem zk8:(["at","place","ring"]:List Str).Nodup:=by decide +kernel
theorem zlc:(["step","web","tally","times","row","ring","steps","fewest","·step"]:List Str).Nodup:=by decide +kernel
def XI:D->Bool
 | .int _=>true
 | _=>false
def yR (d:D)(lo hi:Int):Bool:=match d with
 | .int i=>decide (lo<=i)&&decide (i<=hi)
 | _=>false
section
variable {P:Program}{w:World}{K:W.Frag}{mg:Str->Option Value}{base:Heap}{ad:Adr}
def yy:List D->Option D
 | [d]=>if noS d=true then some (.bl (XI d))else none
 | _=>none
def Wt:SE->Ctl :=
 (yd (x9 (eUn (zT .int) (zd 0)) (Ys (eUn (zT .bool) (zd 0)))))
def zfH:List D->Option D:=fnD 1 Wt
theorem znP {α:Type}{ds:List α}(h:ds.length=1):∃ a,ds=[a]:=by match ds,h with | [a],_=>exact⟨a,rfl⟩
theorem ziH {α:Type}{ds:List α}(h:ds.length=2):∃ a b,ds=[a,b]:=by match ds,h with | [a,b],_=>exact⟨a,b,rfl⟩
theorem len3 {α:Type}{ds:List α}(h:ds.length=3):∃ a b c,ds=[a,b,c]:=by match ds,h with | [a,b,c],_=>exact⟨a,b,c,rfl⟩
theorem ifS {c:Bool}{x y:D}(h:(if c=true then some x else none)=some y):c=true/\x=y:=by
 split at h
 .cases h
  exact⟨by assumption,rfl⟩
 .cases h
theorem zdN:∀ ds d,ds.length=1->yy ds=some d->zfH ds=some d:=by
 intro ds d hl h
 obtain⟨a,rfl⟩:=znP hl
 obtain⟨hn,rfl⟩:=ifS h
 cases a <;> first | rfl | cases hn
theorem V0 (T:Txt K mg ad):xc P w K mg base CX0 1 ad.f_is_whole ad.e_is_whole ["thing"] (@spD ⟨K⟩ 1 yy):=by
 letI:KK:=⟨K⟩
 refine vO (yz (N:=["thing"]) (ps:=["thing"]) T.d_is_whole.fn zdW (g:=Wt) λcdv A outer s H E hr=>?_) zdN
 unfold Wt
 exact(zg (zu (vM (zK .int rfl T.z_isinstance (edv 0) (yl (v:=.ty "int") rfl T.z_int zek rfl)) (YC (zg4 (zK .bool rfl T.z_isinstance (edv 0) (yl (v:=.ty "bool") rfl T.z_bool VP rfl)))))))
def yK:SE->Ctl :=
 (yd (x9 (zn 1 yy (zb (zd 0) zo)) (zV leD leD (zd 1) (zd 0) (zd 2))))
def YH:List D->Option D:=fnD 3 yK
def zy:List D->Option D
 | [d,.int lo,.int hi]=>if noS d=true then some (.bl (yR d lo hi))else none
 | _=>none
theorem zbV {a:D}{lo hi:Int}(hn:noS a=true)(hw:XI a=false):YH [a,.int lo,.int hi]=some (.bl false):=by
 have e:yy [a]=some (.bl false):=by
  show(if noS a=true then some (D.bl (XI a))else none)=_
  rw[t4 hn,hw]
 refine Xv (ρ:=[.v a,.v (.int lo),.v (.int hi)]) rfl ?_
 unfold yK
 refine vT (xk ?_) rfl
 show(((yy [a]).bind asB).bind λc=>if c=true then _ else some (D.bl false))=_
 rw[e]
 rfl
theorem XU:∀ ds d,ds.length=3->zy ds=some d->YH ds=some d:=by
 intro ds d hl h
 obtain⟨a,b,c,rfl⟩:=len3 hl
 cases b <;> try cases h
 cases c <;> try cases h
 rename_i lo hi
 obtain⟨hn,rfl⟩:=ifS h
 cases a with
 | scr _=>cases hn
 | int i =>
  refine Xv (ρ:=[.v (.int i),.v (.int lo),.v (.int hi)]) rfl ?_
  unfold yK
  refine vT (xk ?_) rfl
  show(if decide (lo<=i)=true then some (D.bl (decide (i<=hi)))else some (.bl false))=some (.bl (decide (lo<=i)&&decide (i<=hi)))
  cases decide (lo<=i) <;> rfl
 | tup es=>exact zbV hn rfl
 | lst es=>exact zbV hn rfl
 | dct z t ks vs=>exact zbV hn rfl
 | non=>rfl
 | bl _=>rfl
 | str _=>rfl
theorem xg (T:Txt K mg ad):xc P w K mg base CX0 2 ad.f_is_whole_within ad.e_is_whole_within ["thing","least","most"] (@spD ⟨K⟩ 3 zy):=by
 letI:KK:=⟨K⟩
 have G_is_whole:=V0 (P:=P) (w:=w) (base:=base) T
 refine vO (yz (N:=["thing","least","most"]) (ps:=["thing","least","most"]) T.d_is_whole_within.fn XW (g:=yK) λcdv A outer s H E hr=>?_) XU
 unfold yK
 exact(zg (zu (vM (zj G_is_whole hr rfl T.d_is_whole (za (edv 0) zf)) (YC (zke zgL zgL yk yk (edv 1) (edv 0) (edv 2) (λa b c=>zky zgL zgL a b c))))))
def xC:SE->Ctl :=
 (yd (zn 3 zy (zb (zd 0) (zb (eC (.int 1)) (zb (eC (.int 8)) zo)))))
def vc:List D->Option D:=fnD 1 xC
def y4:List D->Option D
 | [d]=>if noS d=true then some (.bl (yR d 1 8))else none
 | _=>none
theorem Wx:∀ ds d,ds.length=1->y4 ds=some d->vc ds=some d:=by
 intro ds d hl h
 obtain⟨a,rfl⟩:=znP hl
 have e:vc [a]=zy [a,.int 1,.int 8]:=by
  cases h2:zy [a,.int 1,.int 8] <;> simp[vc,xC,fnD,zE,yd,yX,sIf,yw,xH,sNo,zF,Zh,wo,wW,Ye,vb,vEv,visF,visG,Sl.f,Sl.g,zd,eC,zk,x9,eOr,Ys,eIf,eUn,Yf,xt,yx,yc,zb,zo,zn,eFn,fFn,tOf,yg,wm,zS,asB,asI,zv,vg,wd,yh,yO,vY,yG,ltD,leD,gtD,geD,Yd,zz,zJ,zA,zI,Yq,zC,ixD,we,zT,isT,eSl,ym,yj,zV,yo,iOf,wg,yn,Yr,vo,wX,zM,yN,fLC,zR,zH,yq,zP,vD,ye,vH,b1,b2,h2]
 rw[e]
 exact h
theorem Wo (T:Txt K mg ad):xc P w K mg base CX0 3 ad.f_is_place_count ad.e_is_place_count ["thing"] (@spD ⟨K⟩ 1 y4):=by
 letI:KK:=⟨K⟩
 have G_is_whole_within:=xg (P:=P) (w:=w) (base:=base) T
 refine vO (yz (N:=["thing"]) (ps:=["thing"]) T.d_is_place_count.fn Wh (g:=xC) λcdv A outer s H E hr=>?_) Wx
 unfold xC
 exact(zg (zu (zj G_is_whole_within hr rfl T.d_is_whole_within (za (edv 0) (za (zh zi) (za (zh (zb4 (v:=.int 8) rfl T.g_MOST_PLACES ⟨_,rfl⟩)) zf))))))
def ZQ:SE->Ctl :=
 (yd (zn 3 zy (zb (zd 1) (zb (eC (.int 0)) (zb (zk vg (zd 0) (eC (.int 1))) zo)))))
def Wu:List D->Option D:=fnD 2 ZQ
def y8:List D->Option D
 | [.int m,d]=>if noS d=true then some (.bl (yR d 0 (m - 1)))else none
 | _=>none
theorem zdz:∀ ds d,ds.length=2->y8 ds=some d->Wu ds=some d:=by
 intro ds d hl h
 obtain⟨a,b,rfl⟩:=ziH hl
 cases a <;> try cases h
 rename_i m
 have e:Wu [.int m,b]=zy [b,.int 0,.int (m - 1)]:=by
  cases h2:zy [b,.int 0,.int (m - 1)] <;> simp[Wu,ZQ,fnD,zE,yd,yX,sIf,yw,xH,sNo,zF,Zh,wo,wW,Ye,vb,vEv,visF,visG,Sl.f,Sl.g,zd,eC,zk,x9,eOr,Ys,eIf,eUn,Yf,xt,yx,yc,zb,zo,zn,eFn,fFn,tOf,yg,wm,zS,asB,asI,zv,vg,wd,yh,yO,vY,yG,ltD,leD,gtD,geD,Yd,zz,zJ,zA,zI,Yq,zC,ixD,we,zT,isT,eSl,ym,yj,zV,yo,iOf,wg,yn,Yr,vo,wX,zM,yN,fLC,zR,zH,yq,zP,vD,ye,vH,b1,b2,h2]
 rw[e]
 exact h
theorem Vs (T:Txt K mg ad):xc P w K mg base CX0 3 ad.f_is_place ad.e_is_place ["many","thing"] (@spD ⟨K⟩ 2 y8):=by
 letI:KK:=⟨K⟩
 have G_is_whole_within:=xg (P:=P) (w:=w) (base:=base) T
 refine vO (yz (N:=["many","thing"]) (ps:=["many","thing"]) T.d_is_place.fn zd0 (g:=ZQ) λcdv A outer s H E hr=>?_) zdz
 unfold ZQ
 exact(zg (zu (zj G_is_whole_within hr rfl T.d_is_whole_within (za (edv 1) (za (zh zi) (za (WL (edv 0) (zh zi)) zf))))))
theorem zdP {m i:Int}:yR (.int i) 0 (m - 1)=inR m i:=rfl
theorem zlA {d:D}{lo hi:Int}(h:∀ i,d≠.int i):yR d lo hi=false:=by
 cases d <;> first | rfl | exact absurd rfl (h _)
theorem zcp {d:D}{lo hi:Int}(h:yR d lo hi=true):∃ i,d=.int i:=by
 cases d with
 | int i=>exact⟨i,rfl⟩
 | _=>cases h
def XD:SE->Ctl :=
 (zE (sIf (wm (zS (tOf (eUn (zT .tuple) (zd 1)))) (tOf (zk neD (eFn we (zb (zd 1) zo)) (eC (.int 2))))) (yd (eC (.bl false))) zF)
  (yd (x9 (zn 2 y8 (zb (zd 0) (zb (zk ixD (zd 1) (eC (.int 0))) zo))) (x9 (zn 2 y8 (zb (zd 0) (zb (zk ixD (zd 1) (eC (.int 1))) zo))) (zk neD (zk ixD (zd 1) (eC (.int 0))) (zk ixD (zd 1) (eC (.int 1))))))))
def ziR:List D->Option D:=fnD 2 XD
def xl:List D->Option D
 | [.int m,d]=>if noS d=true then some (.bl (w6 m d))else none
 | _=>none
theorem zjb {m:Int}{x y:D}(h:yR x 0 (m - 1)=false):w6 m (.tup [x,y])=false:=by
 cases x with
 | int i =>
  cases y with
  | int j =>
   show(inR m i&&inR m j&&!decide (i=j))=false
   rw[show inR m i=false from h]
   rfl
  | _=>rfl
 | _=>rfl
theorem zjW {m:Int}{x y:D}(h:yR y 0 (m - 1)=false):w6 m (.tup [x,y])=false:=by
 cases x with
 | int i =>
  cases y with
  | int j =>
   show(inR m i&&inR m j&&!decide (i=j))=false
   rw[show inR m j=false from h,u16]
   rfl
  | _=>rfl
 | _=>rfl
theorem zfk:∀ ds d,ds.length=2->xl ds=some d->ziR ds=some d:=by
 intro ds d hl h
 obtain⟨a,b,rfl⟩:=ziH hl
 cases a <;> try cases h
 rename_i m
 obtain⟨hn,rfl⟩:=ifS h
 clear h
 cases b with
 | tup es =>
  refine Xv (ρ:=[.v (.int m),.v (.tup es)]) rfl ?_
  unfold XD
  by_cases hl:es.length=2
  .obtain⟨x,y,rfl⟩:=ziH hl
   have hx:noS x=true:=YY (ds:=[x,y]) (i:=0) hn rfl
   have hy:noS y=true:=YY (ds:=[x,y]) (i:=1) hn rfl
   have e0:y8 [.int m,x]=some (.bl (yR x 0 (m - 1))):=by
    show(if noS x=true then some (D.bl (yR x 0 (m - 1)))else none)=_
    rw[t4 hx]
   have e1:y8 [.int m,y]=some (.bl (yR y 0 (m - 1))):=by
    show(if noS y=true then some (D.bl (yR y 0 (m - 1)))else none)=_
    rw[t4 hy]
   refine zp (ρ':=[.v (.int m),.v (.tup [x,y])]) rfl (vT (xk ?_) rfl)
   show(((y8 [.int m,x]).bind asB).bind λc=>if c=true then (((y8 [.int m,y]).bind asB).bind λc=>if c=true then neD x y else some (D.bl false))else some (D.bl false))=_
   rw[e0,e1]
   cases h1:yR x 0 (m - 1) with
   | false=>rw[zjb h1];rfl
   | true =>
    cases h2:yR y 0 (m - 1) with
    | false=>rw[zjW h2];rfl
    | true =>
     obtain⟨i,rfl⟩:=zcp h1
     obtain⟨j,rfl⟩:=zcp h2
     show some (D.bl (!decide (i=j)))=some (.bl (inR m i&&inR m j&&!decide (i=j)))
     rw[show inR m i=true from h1,show inR m j=true from h2]
     rfl
  .have e:w6 m (.tup es)=false:=by
    unfold w6 Z2
    split
    .rename_i t ht
     split at ht
     .rename_i e'
      injection e' with e'
      rw[e']at hl
      exact absurd rfl hl
     .cases ht
    .rfl
   rw[e]
   refine yf (vw (c:=true) ?_ (λ_=>vT rfl rfl) λz=>by cases z)
   show some (!decide ((es.length:Int)=2))=_
   rw[g9 (show ¬ (es.length:Int)=2 from λh=>hl (u3F h))]
   rfl
 | scr _=>cases hn
 | _=>rfl
theorem za3 (T:Txt K mg ad):xc P w K mg base CX0 4 ad.f_is_pair ad.e_is_pair ["many","thing"] (@spD ⟨K⟩ 2 xl):=by
 letI:KK:=⟨K⟩
 have G_is_place:=Vs (P:=P) (w:=w) (base:=base) T
 refine vO (yz (N:=["many","thing"]) (ps:=["many","thing"]) T.d_is_pair.fn zfp (g:=XD) λcdv A outer s H E hr=>?_) zfk
 unfold XD
 exact(ze (yr (zdI (V5 (xi (yA (zK .tuple rfl T.z_isinstance (edv 1) (yl (v:=.ty "tuple") rfl T.z_tuple yB rfl)))) (XV (zN zbz Xx (zG _) (zU zQ x6 rfl T.z_len v9 (za (edv 1) zf)) (zh zi))))) (zg (zu (wZ vf))) zD)
  (zg (zu (vM (zj G_is_place hr rfl T.d_is_place (za (edv 0) (za (zL (edv 1) (zh zi) (λ_ _=>rfl)) zf))) (vM (zj G_is_place hr rfl T.d_is_place (za (edv 0) (za (zL (edv 1) (zh zi) (λ_ _=>rfl)) zf))) (YC (Yt zbz Xx (zG _) (zL (edv 1) (zh zi) (λ_ _=>rfl)) (zL (edv 1) (zh zi) (λ_ _=>rfl)))))))))
def zb9 (ds:List D):Nat->Option Tie
 | 0=>none
 | k+1=>(ds[k]?).bind Z2
def ZH:SE->Ctl :=
 (zE (sIf (wm (zS (tOf (zn 2 xl (zb (zd 0) (zb (zd 3) zo))))) (tOf (zk gtD (zk ixD (zd 3) (eC (.int 0))) (zk ixD (zd 3) (eC (.int 1)))))) (yd (eC (.bl false))) zF)
  (sIf (yg (tOf (zk gtD (zd 2) (eC (.int 0)))) (tOf (zk leT (zd 3) (zk ixD (zd 1) (zk vg (zd 2) (eC (.int 1))))))) (yd (eC (.bl false))) zF))
def Yz:SE->Ctl :=
 (zE (sIf (zS (tOf (eUn (zT .tuple) (zd 1)))) (yd (eC (.bl false))) zF)
  (zE (wg (zM (zb (zd 1) zo)) (vD 2 (ye (zP 2) (ye (zP 3) vH))) ZH)
  (yd (eC (.bl true)))))
def zff:List D->Option D:=fnD 4 Yz
def YI:List D->Option D
 | [.int m,d]=>if noS d=true then some (.bl (ZM m d))else none
 | _=>none
theorem zaA {m:Int}{d:D}(h:w6 m d=true):∃ t,d=zc t:=by
 unfold w6 at h
 split at h
 .rename_i t ht
  exact⟨t,VH ht⟩
 .cases h
theorem zdV:∀ ds d,ds.length=2->YI ds=some d->zff ds=some d:=by
 intro ds d hl h
 obtain⟨a,b,rfl⟩:=ziH hl
 cases a <;> try cases h
 rename_i m
 obtain⟨hn,rfl⟩:=ifS h
 clear h hl
 cases b with
 | scr _=>cases hn
 | tup es =>
  refine Xv (g:=Yz) rfl ?_
  unfold Yz
  refine zp rfl ?_
  refine yf (ZZ (ds:=Zu 0 es) (λi ρ=>∃ o1 o2,ρ=[.v (.int m),.v (.tup es),o1,o2]/\yT m none es=yT m (zb9 es i) (es.drop i)/\∀ k,i=k+1->∃ p,es[k]?=some (zc p)) rfl
   ⟨.no,.no,rfl,rfl,λk e=>by cases e⟩ ?_ ?_)
  .rintro i d ρ hd ⟨o1,o2,rfl,hp,hk⟩
   rw[xx]at hd
   obtain⟨dx,hdx,rfl⟩:=u8.mp hd
   rw[u0m]
   refine⟨_,rfl,?_⟩
   have hdrop:es.drop i=dx::es.drop (i+1):=by
    obtain⟨h1,h2⟩:=t6.mp hdx
    rw[u0V h1,h2]
   have hnx:noS dx=true:=YY hn hdx
   unfold ZH
   cases hpr:w6 m dx with
   | false =>
    have e1:xl [.int m,dx]=some (.bl false):=by
     show(if noS dx=true then some (D.bl (w6 m dx))else none)=_
     rw[t4 hnx,hpr]
    refine yf (vw (c:=true) (show(((xl [.int m,dx]).bind asB).map (!·)).bind (λc=>if c=true then some true else _)=_ by rw[e1];rfl) (λ_=>vT rfl ?_) (λz=>by cases z))
    have e:yT m none es=false:=by
     rw[hp,hdrop]
     unfold yT
     split
     .rw[hpr];rfl
     .rfl
    show D.bl false=.bl (yT m none es)
    rw[e]
   | true =>
    obtain⟨t,rfl⟩:=zaA hpr
    have e1:xl [.int m,zc t]=some (.bl true):=by
     show(if noS (zc t)=true then some (D.bl (w6 m (zc t)))else none)=_
     rw[t4 hnx,hpr]
    have step:yT m none es=(!decide (t.2 < t.1)&&zcl (zb9 es i) t&&yT m (some t) (es.drop (i+1))):=by
     rw[hp,hdrop]
     conv=>lhs;unfold yT
     rw[ZB,hpr]
     rfl
    have prevS:zb9 es (i+1)=some t:=by
     show(es[i]?).bind Z2=some t
     rw[hdx]
     rfl
    refine yf (vw (c:=decide (t.2 < t.1)) (show(((xl [.int m,zc t]).bind asB).map (!·)).bind (λc=>if c=true then some true else some (decide (t.2 < t.1)))=_ by rw[e1];rfl) (λc=>vT rfl ?_) (λc=>xG rfl ?_))
    .show D.bl false=.bl (yT m none es)
     rw[step,c]
     rfl
    .cases i with
     | zero =>
      refine vw (c:=false) rfl (λz=>by cases z) (λ_=>xG rfl ?_)
      refine⟨_,_,rfl,?_,λk e=>?_⟩
      .rw[prevS,step,c]
       rfl
      .cases e
       exact⟨t,hdx⟩
     | succ j =>
      obtain⟨p,hpk⟩:=hk j rfl
      have prevK:zb9 es (j+1)=some p:=by
       show(es[j]?).bind Z2=some p
       rw[hpk]
       rfl
      rw[prevK]at step
      have ea:atI es ((((j+1:Nat):Int)) - 1)=some (zc p):=by
       rw[show(((j+1:Nat):Int)) - 1=(j:Nat)from Int.add_sub_cancel (j:Int) 1]
       exact zhZ hpk
      have okP:zcl (some p) t=!leP t p:=rfl
      refine vw (c:=leP t p) ?_ (λc2=>vT rfl ?_) (λc2=>xG rfl ?_)
      .have z:decide ((0:Int) < ((j+1:Nat):Int))=true:=j7 (Int.natCast_pos.mpr (Nat.succ_pos j))
       show((some (decide ((0:Int) < ((j+1:Nat):Int)))).bind λc=>if c=true then (((atI es (((j+1:Nat):Int) - 1)).bind λy=>leT (zc t) y).bind asB)else some false)=_
       rw[z,ea]
       rfl
      .show D.bl false=.bl (yT m none es)
       rw[step,okP,c2,c]
       rfl
      .refine⟨_,_,rfl,?_,λk' e=>?_⟩
       .rw[prevS,step,okP,c2,c]
        rfl
       .cases e
        exact⟨t,hdx⟩
  .rintro ρ ⟨o1,o2,rfl,hp,hk⟩
   refine vT rfl ?_
   show D.bl true=.bl (yT m none es)
   rw[hp,xL,u1M]
   cases zb9 es es.length <;> rfl
 | _=>rfl
theorem zdA (T:Txt K mg ad):xc P w K mg base CX0 5 ad.f_are_ties ad.e_are_ties ["many","thing"] (@spD ⟨K⟩ 2 YI):=by
 letI:KK:=⟨K⟩
 have G_is_pair:=za3 (P:=P) (w:=w) (base:=base) T
 refine vO (yz (N:=["many","thing","at","tie"]) (ps:=["many","thing"]) T.d_are_ties.fn Xc (g:=Yz) λcdv A outer s H E hr=>?_) zdV
 unfold Yz ZH
 exact(ze (yr (xi (yA (zK .tuple rfl T.z_isinstance (edv 1) (yl (v:=.ty "tuple") rfl T.z_tuple yB rfl)))) (zg (zu (wZ vf))) zD)
  (ze (vP i5 rfl (ZE rfl T.z_enumerate yP (za (edv 1) zf)) (XF rfl (yu (ya (zx (i:=2) Xc.nd rfl (Or.inl rfl))) (yu (ya (zx (i:=3) Xc.nd rfl (Or.inl rfl))) YX))) (ze (yr (zdI (V5 (xi (yA (zj G_is_pair hr rfl T.d_is_pair (za (edv 0) (za (edv 3) zf))))) (XV (zN zaG yk (zG _) (zL (edv 3) (zh zi) (λ_ _=>rfl)) (zL (edv 3) (zh zi) (λ_ _=>rfl)))))) (zg (zu (wZ vf))) zD)
  (zg (yr (zdI (za9 (zN zaG yk (zG _) (edv 2) (zh zi)) (Wm (zN (zkP hr.units0) zhT (zG _) (edv 3) (zL (edv 1) (WL (edv 2) (zh zi)) (λ_ _=>rfl)))))) (zg (zu (wZ vf))) zD))))
  (zg (zu (wZ vf)))))
def ZS:SE->Ctl :=
 (zE (sIf (wm (zS (tOf (eUn (zT .tuple) (zd 0)))) (tOf (zk neD (eFn we (zb (zd 0) zo)) (eC (.int 2))))) (yd (eC (.bl false))) zF)
  (yd (x9 (zn 1 y4 (zb (zk ixD (zd 0) (eC (.int 0))) zo)) (zn 2 YI (zb (zk ixD (zd 0) (eC (.int 0))) (zb (zk ixD (zd 0) (eC (.int 1))) zo))))))
def Vm:List D->Option D:=fnD 1 ZS
def X4:List D->Option D
 | [d]=>if noS d=true then some (.bl (Z7 d))else none
 | _=>none
theorem ziz {x y:D}:Z7 (.tup [x,y])=(yR x 1 8&&match x with | .int m=>ZM m y | _=>false):=by
 cases x <;> rfl
theorem zgY:∀ ds d,ds.length=1->X4 ds=some d->Vm ds=some d:=by
 intro ds d hl h
 obtain⟨a,rfl⟩:=znP hl
 obtain⟨hn,rfl⟩:=ifS h
 clear h hl
 cases a with
 | scr _=>cases hn
 | tup es =>
  by_cases hl:es.length=2
  .obtain⟨x,y,rfl⟩:=ziH hl
   have hx:noS x=true:=YY (ds:=[x,y]) (i:=0) hn rfl
   have hy:noS y=true:=YY (ds:=[x,y]) (i:=1) hn rfl
   have ec:y4 [x]=some (.bl (yR x 1 8)):=by simp[y4,hx]
   rw[ziz]
   by_cases ix:∃ i,x=.int i
   .obtain⟨i,rfl⟩:=ix
    have et:YI [.int i,y]=some (.bl (ZM i y)):=by simp[YI,hy]
    cases hc:yR (.int i) 1 8 <;> rw[hc]at ec <;> simp[Vm,ZS,fnD,zE,yd,yX,sIf,yw,xH,sNo,zF,Zh,wo,wW,Ye,vb,vEv,visF,visG,Sl.f,Sl.g,zd,eC,zk,x9,eOr,Ys,eIf,eUn,Yf,xt,yx,yc,zb,zo,zn,eFn,fFn,tOf,yg,wm,zS,asB,asI,zv,vg,wd,yh,yO,vY,yG,ltD,leD,gtD,geD,Yd,zz,zJ,zA,zI,Yq,zC,ixD,we,zT,isT,eSl,ym,yj,zV,yo,iOf,wg,yn,Yr,vo,wX,zM,yN,fLC,zR,zH,yq,zP,vD,ye,vH,b1,b2,ec,et,atI,ixN]
   .have n2:yR x 1 8=false:=zlA λj hj=>ix ⟨j,hj⟩
    rw[n2]at ec ⊢
    simp[Vm,ZS,fnD,zE,yd,yX,sIf,yw,xH,sNo,zF,Zh,wo,wW,Ye,vb,vEv,visF,visG,Sl.f,Sl.g,zd,eC,zk,x9,eOr,Ys,eIf,eUn,Yf,xt,yx,yc,zb,zo,zn,eFn,fFn,tOf,yg,wm,zS,asB,asI,zv,vg,wd,yh,yO,vY,yG,ltD,leD,gtD,geD,Yd,zz,zJ,zA,zI,Yq,zC,ixD,we,zT,isT,eSl,ym,yj,zV,yo,iOf,wg,yn,Yr,vo,wX,zM,yN,fLC,zR,zH,yq,zP,vD,ye,vH,b1,b2,ec,atI,ixN]
  .have e:Z7 (.tup es)=false:=zlk λm ties h _=>by
    unfold zO at h
    injection h with h
    rw[h]at hl
    exact hl rfl
   rw[e]
   have:¬ (es.length:Int)=2:=by omega
   simp[Vm,ZS,fnD,zE,yd,yX,sIf,yw,xH,sNo,zF,Zh,wo,wW,Ye,vb,vEv,visF,visG,Sl.f,Sl.g,zd,eC,zk,x9,eOr,Ys,eIf,eUn,Yf,xt,yx,yc,zb,zo,zn,eFn,fFn,tOf,yg,wm,zS,asB,asI,zv,vg,wd,yh,yO,vY,yG,ltD,leD,gtD,geD,Yd,zz,zJ,zA,zI,Yq,zC,ixD,we,zT,isT,eSl,ym,yj,zV,yo,iOf,wg,yn,Yr,vo,wX,zM,yN,fLC,zR,zH,yq,zP,vD,ye,vH,b1,b2,this]
 | _=>rfl
theorem zgy (T:Txt K mg ad):xc P w K mg base CX0 6 ad.f_is_web ad.e_is_web ["thing"] (@spD ⟨K⟩ 1 X4):=by
 letI:KK:=⟨K⟩
 have G_is_place_count:=Wo (P:=P) (w:=w) (base:=base) T
 have G_are_ties:=zdA (P:=P) (w:=w) (base:=base) T
 refine vO (yz (N:=["thing"]) (ps:=["thing"]) T.d_is_web.fn ziq (g:=ZS) λcdv A outer s H E hr=>?_) zgY
 unfold ZS
 exact(ze (yr (zdI (V5 (xi (yA (zK .tuple rfl T.z_isinstance (edv 0) (yl (v:=.ty "tuple") rfl T.z_tuple yB rfl)))) (XV (zN zbz Xx (zG _) (zU zQ x6 rfl T.z_len v9 (za (edv 0) zf)) (zh zi))))) (zg (zu (wZ vf))) zD)
  (zg (zu (vM (zj G_is_place_count hr rfl T.d_is_place_count (za (zL (edv 0) (zh zi) (λ_ _=>rfl)) zf)) (YC (zj G_are_ties hr rfl T.d_are_ties (za (zL (edv 0) (zh zi) (λ_ _=>rfl)) (za (zL (edv 0) (zh zi) (λ_ _=>rfl)) zf))))))))
theorem zlM (m:Int)(ts:List Tie):noS (zO m ts)=true:=by
 have:∀ ts:List Tie,ziT (ts.map zc)=true:=by
  intro ts
  induction ts with
  | nil=>rfl
  | cons t ts ih=>show(noS (zc t)&&ziT (ts.map zc))=true;rw[ih];rfl
 show(noS (.int m)&&(noS (.tup (ts.map zc))&&true))=true
 rw[show noS (.tup (ts.map zc))=ziT (ts.map zc)from rfl,this ts]
 rfl
def vA:SE->Ctl :=
 (sIf (zS (tOf (zn 1 X4 (zb (zd 0) zo)))) sNo zF)
def XX:List D->Option D:=fnD 1 vA
def zX:List D->Option D
 | [d]=>if Z7 d=true then some .non else none
 | _=>none
theorem zaH:∀ ds d,ds.length=1->zX ds=some d->XX ds=some d:=by
 intro ds d hl h
 obtain⟨a,rfl⟩:=znP hl
 obtain⟨hw,rfl⟩:=ifS h
 obtain⟨m,ts,rfl,_⟩:=(Wi a).mp hw
 have e:X4 [zO m ts]=some (.bl true):=by simp[X4,zlM m ts,hw]
 simp[XX,vA,fnD,zE,yd,yX,sIf,yw,xH,sNo,zF,Zh,wo,wW,Ye,vb,vEv,visF,visG,Sl.f,Sl.g,zd,eC,zk,x9,eOr,Ys,eIf,eUn,Yf,xt,yx,yc,zb,zo,zn,eFn,fFn,tOf,yg,wm,zS,asB,asI,zv,vg,wd,yh,yO,vY,yG,ltD,leD,gtD,geD,Yd,zz,zJ,zA,zI,Yq,zC,ixD,we,zT,isT,eSl,ym,yj,zV,yo,iOf,wg,yn,Yr,vo,wX,zM,yN,fLC,zR,zH,yq,zP,vD,ye,vH,b1,b2,e]
theorem xu (T:Txt K mg ad):xc P w K mg base CX0 7 ad.f_must_be_web ad.e_must_be_web ["thing"] (@spD ⟨K⟩ 1 zX):=by
 letI:KK:=⟨K⟩
 have G_is_web:=zgy (P:=P) (w:=w) (base:=base) T
 refine vO (yz (N:=["thing"]) (ps:=["thing"]) T.d_must_be_web.fn zav (g:=vA) λcdv A outer s H E hr=>?_) zaH
 unfold vA
 exact(zg (yr (xi (yA (zj G_is_web hr rfl T.d_is_web (za (edv 0) zf)))) (zg v7) zD))
def xN:D->Bool
 | .int i=>decide (0<=i)
 | _=>false
def zo7:D->Int
 | .int i=>i
 | _=>0
def wb (m:Int):D->Bool
 | .tup ds=>decide ((ds.length:Int)=m)&&ds.all xN
 | _=>false
theorem zjA {α:Type}(f:α->Bool)(l:List α):zmK [.lst (l.map λx=>.bl (f x))]=some (.bl (l.all f)):=by
 have:ziW (l.map λx=>D.bl (f x))=some (l.map f):=by
  have:=zeB (l.map f)
  rwa[i4]at this
 show((ziW (l.map λx=>D.bl (f x))).bind λbs=>some (D.bl (bs.all id)))=_
 rw[this]
 show some (D.bl ((l.map f).all id))=_
 rw[u1w]
 rfl
theorem zde {ds:List D}(h:ds.all xN=true):∃ ns:List Int,ds=ns.map .int/\∀ n∈ns,0<=n:=by
 induction ds with
 | nil=>exact⟨[],rfl,by simp⟩
 | cons d ds ih =>
  rw[u2j,g0]at h
  obtain⟨ns,rfl,hn⟩:=ih h.2
  cases d with
  | int i=>exact⟨i::ns,rfl,λn hm=>by
   rcases j9.mp hm with rfl | hm
   .exact d7 h.1
   .exact hn n hm⟩
  | _=>exact absurd h.1 u9
theorem ziC {ns:List Int}(h:∀ n∈ns,0<=n):(ns.map D.int).all xN=true:=by
 rw[u1w,u0s]
 exact λn hn=>j7 (h n hn)
theorem zgC (ns:List Int):zpm [.tup (ns.map .int)]=some (.int ns.sum):=by
 show((zh4 (ns.map .int)).bind λns=>some (D.int ns.sum))=_
 rw[zby]
 rfl
def xJ:SE->Ctl :=
 (zE (sIf (wm (zS (tOf (eUn (zT .tuple) (zd 1)))) (tOf (zk neD (eFn we (zb (zd 1) zo)) (zd 0)))) (yd (eC (.bl false))) zF)
  (yd (eFn zmK (zb (yx (fLC (iOf (zd 1)) b1 zR (x9 (zn 1 yy (zb (zd 0) zo)) (zk geD (zd 0) (eC (.int 0)))))) zo))))
def WN:List D->Option D:=fnD 2 xJ
def wQ:List D->Option D
 | [.int m,d]=>if (noS d&&decide (m<=1000))=true then some (.bl (wb m d))else none
 | _=>none
theorem znb {d:D}(hn:noS d=true):((yy [d]).bind asB).bind (λc=>if c=true then geD d (.int 0)else some (.bl false))=some (.bl (xN d)):=by
 cases d with
 | scr _=>cases hn
 | tup _=>simp[yy,hn,XI,asB,xN]
 | lst _=>simp[yy,hn,XI,asB,xN]
 | _=>rfl
theorem zbv:∀ ds d,ds.length=2->wQ ds=some d->WN ds=some d:=by
 intro ds d hl h
 obtain⟨a,b,rfl⟩:=ziH hl
 cases a <;> try cases h
 rename_i m
 obtain⟨hn,rfl⟩:=ifS h
 clear h hl
 rw[g0,r9]at hn
 obtain⟨hn,hm⟩:=hn
 cases b with
 | scr _=>cases hn
 | tup es =>
  by_cases hl:(es.length:Int)=m
  .have e:fLC (iOf (zd 1)) b1 zR (x9 (zn 1 yy (zb (zd 0) zo)) (zk geD (zd 0) (eC (.int 0)))) [some (.int m),some (.tup es)]=some (es.map λd=>.bl (xN d)):=by
    unfold fLC
    show(if lim es.length=true then _ else none)=_
    rw[t4 (vp (by omega))]
    have:=zbh (b:=b1) (t:=zR) (f:=x9 (zn 1 yy (zb (zd 0) zo)) (zk geD (zd 0) (eC (.int 0)))) (ρ:=[some (.int m),some (.tup es)]) id (λd=>.bl (xN d)) es
     (λd hd=>⟨[some d],rfl,rfl,znb (by obtain⟨j,hj,rfl⟩:=u0G hd;exact YY (i:=j) hn (by simp[hj]))⟩)
    rwa[u2Y]at this
   show fnD 2 xJ _=_
   refine Xv rfl ?_
   unfold xJ
   refine yf (vw (c:=false) (by simp[fnD,zE,yd,yX,sIf,yw,xH,sNo,zF,Zh,wo,wW,Ye,vb,vEv,visF,visG,Sl.f,Sl.g,zd,eC,zk,x9,eOr,Ys,eIf,eUn,Yf,xt,yx,yc,zb,zo,zn,eFn,fFn,tOf,yg,wm,zS,asB,asI,zv,vg,wd,yh,yO,vY,yG,ltD,leD,gtD,geD,Yd,zz,zJ,zA,zI,Yq,zC,ixD,we,zT,isT,eSl,ym,yj,zV,yo,iOf,wg,yn,Yr,vo,wX,zM,yN,fLC,zR,zH,yq,zP,vD,ye,vH,b1,b2,hl]) (λz=>by cases z) λ_=>xG rfl (vT (d:=.bl (es.all xN)) ?_ ?_))
   .show(match (((fLC (iOf (zd 1)) b1 zR (x9 (zn 1 yy (zb (zd 0) zo)) (zk geD (zd 0) (eC (.int 0)))) [some (.int m),some (.tup es)]).map D.lst).bind λd=>(some []:Option (List D)).map (d::·)).bind zmK with | some d=>Ctl.rt d | none=>Ctl.no)=_
    rw[e]
    show(match zmK [.lst (es.map λd=>.bl (xN d))]with | some d=>Ctl.rt d | none=>Ctl.no)=_
    rw[zjA]
   .show D.bl (es.all xN)=.bl (decide ((es.length:Int)=m)&&es.all xN)
    rw[j7 hl,Bool.true_and]
  .have e:wb m (.tup es)=false:=by
    show(decide ((es.length:Int)=m)&&es.all xN)=false
    rw[g9 hl,Bool.false_and]
   rw[e]
   simp[WN,xJ,fnD,zE,yd,yX,sIf,yw,xH,sNo,zF,Zh,wo,wW,Ye,vb,vEv,visF,visG,Sl.f,Sl.g,zd,eC,zk,x9,eOr,Ys,eIf,eUn,Yf,xt,yx,yc,zb,zo,zn,eFn,fFn,tOf,yg,wm,zS,asB,asI,zv,vg,wd,yh,yO,vY,yG,ltD,leD,gtD,geD,Yd,zz,zJ,zA,zI,Yq,zC,ixD,we,zT,isT,eSl,ym,yj,zV,yo,iOf,wg,yn,Yr,vo,wX,zM,yN,fLC,zR,zH,yq,zP,vD,ye,vH,b1,b2,hl]
 | _=>rfl
theorem zbm (T:Txt K mg ad):xc P w K mg base CX0 2 ad.f_are_counts ad.e_are_counts ["many","thing"] (@spD ⟨K⟩ 2 wQ):=by
 letI:KK:=⟨K⟩
 have G_is_whole:=V0 (P:=P) (w:=w) (base:=base) T
 refine vO (yz (N:=["many","thing"]) (ps:=["many","thing"]) T.d_are_counts.fn zbU (g:=xJ) λcdv A outer s H E hr=>?_) zbv
 unfold xJ
 exact(ze (yr (zdI (V5 (xi (yA (zK .tuple rfl T.z_isinstance (edv 1) (yl (v:=.ty "tuple") rfl T.z_tuple yB rfl)))) (XV (zN zbz Xx (zG _) (zU zQ x6 rfl T.z_len v9 (za (edv 1) zf)) (edv 0))))) (zg (zu (wZ vf))) zD)
  (zg (zu (zU (zcv rfl) zgl rfl T.z_all zk2 (za (wf (Z3 (L:=["part"]) (M:=["many","thing"]) rfl (wU (by rfl) (by rfl) (by rfl) (by with_unfolding_all rfl) (by rfl) (by rfl) (by kernel_rfl) xb) (xo (edv 1)) gs1 rb1 (λ_ _ _ _=>(zx (i:=0) zpR rfl (Or.inl rfl) (.inr rfl))) (λ_ _ _ _=>(vM (zj G_is_whole hr rfl T.d_is_whole (za (edv 0) zf)) (YC (Yt zoB yk (zG _) (edv 0) (zh zi))))))) zf)))))
def Xk (m:Int):D->Bool
 | .tup ds=>wb m (.tup ds)&&decide ((ds.map zo7).sum<=300)
 | _=>false
theorem zaY (ns:List Int):(ns.map D.int).map zo7=ns:=by rw[i4];exact(u0v λ_ _=>rfl).trans (u2Y _)
def wM:SE->Ctl :=
 (yd (x9 (zn 2 wQ (zb (zk ixD (zd 0) (eC (.int 0))) (zb (zd 1) zo))) (zk leD (eFn zpm (zb (zd 1) zo)) (eC (.int 300)))))
def ZF:List D->Option D:=fnD 2 wM
def xM:List D->Option D
 | [.tup [.int m,_],d]=>if (noS d&&decide (m<=1000))=true then some (.bl (Xk m d))else none
 | _=>none
theorem zbC:∀ ds d,ds.length=2->xM ds=some d->ZF ds=some d:=by
 intro ds d hl h
 obtain⟨a,b,rfl⟩:=ziH hl
 unfold xM at h
 split at h
 .rename_i m t b' e
  injection e with e1 e2
  injection e2 with e2 _
  subst e1 e2
  obtain⟨hn,rfl⟩:=ifS h
  have ec:wQ [.int m,b]=some (.bl (wb m b)):=by simp only[wQ];rw[t4 hn]
  cases hc:wb m b with
  | false =>
   rw[hc]at ec
   have e3:Xk m b=false:=by
    cases b <;> try rfl
    show(wb m _&&_)=false
    rw[hc]
    rfl
   rw[e3]
   simp[ZF,wM,fnD,zE,yd,yX,sIf,yw,xH,sNo,zF,Zh,wo,wW,Ye,vb,vEv,visF,visG,Sl.f,Sl.g,zd,eC,zk,x9,eOr,Ys,eIf,eUn,Yf,xt,yx,yc,zb,zo,zn,eFn,fFn,tOf,yg,wm,zS,asB,asI,zv,vg,wd,yh,yO,vY,yG,ltD,leD,gtD,geD,Yd,zz,zJ,zA,zI,Yq,zC,ixD,we,zT,isT,eSl,ym,yj,zV,yo,iOf,wg,yn,Yr,vo,wX,zM,yN,fLC,zR,zH,yq,zP,vD,ye,vH,b1,b2,ec,atI,ixN]
  | true =>
   rw[hc]at ec
   cases b with
   | tup es =>
    have h2:es.all xN=true:=by
     unfold wb at hc
     rw[g0]at hc
     exact hc.2
    obtain⟨ns,rfl,hns⟩:=zde h2
    have e3:Xk m (.tup (ns.map .int))=decide (ns.sum<=300):=by
     show(wb m _&&decide (((ns.map D.int).map zo7).sum<=300))=_
     rw[hc,zaY,Bool.true_and]
    rw[e3]
    simp[ZF,wM,fnD,zE,yd,yX,sIf,yw,xH,sNo,zF,Zh,wo,wW,Ye,vb,vEv,visF,visG,Sl.f,Sl.g,zd,eC,zk,x9,eOr,Ys,eIf,eUn,Yf,xt,yx,yc,zb,zo,zn,eFn,fFn,tOf,yg,wm,zS,asB,asI,zv,vg,wd,yh,yO,vY,yG,ltD,leD,gtD,geD,Yd,zz,zJ,zA,zI,Yq,zC,ixD,we,zT,isT,eSl,ym,yj,zV,yo,iOf,wg,yn,Yr,vo,wX,zM,yN,fLC,zR,zH,yq,zP,vD,ye,vH,b1,b2,ec,zgC,atI,ixN]
   | _=>cases hc
 .cases h
theorem zbO (T:Txt K mg ad):xc P w K mg base CX0 3 ad.f_are_stones ad.e_are_stones ["web","thing"] (@spD ⟨K⟩ 2 xM):=by
 letI:KK:=⟨K⟩
 have G_are_counts:=zbm (P:=P) (w:=w) (base:=base) T
 refine vO (yz (N:=["web","thing"]) (ps:=["web","thing"]) T.d_are_stones.fn zbn (g:=wM) λcdv A outer s H E hr=>?_) zbC
 unfold wM
 exact(zg (zu (vM (zj G_are_counts hr rfl T.d_are_counts (za (zL (edv 0) (zh zi) (λ_ _=>rfl)) (za (edv 1) zf))) (YC (Yt zgL yk (zG _) (zU (zhr rfl) zlX rfl T.z_sum zn2 (za (edv 1) zf)) (zh (zb4 (v:=.int 300) rfl T.g_MOST_STONES ⟨_,rfl⟩)))))))
def wB:SE->Ctl :=
 (sIf (zS (tOf (zn 2 xM (zb (zd 0) (zb (zd 1) zo))))) sNo zF)
def Z4:List D->Option D:=fnD 2 wB
def yi:List D->Option D
 | [.tup [.int m,_],d]=>if (noS d&&decide (m<=1000)&&Xk m d)=true then some .non else none
 | _=>none
theorem zap:∀ ds d,ds.length=2->yi ds=some d->Z4 ds=some d:=by
 intro ds d hl h
 obtain⟨a,b,rfl⟩:=ziH hl
 unfold yi at h
 split at h
 .rename_i m t b' e
  injection e with e1 e2
  injection e2 with e2 _
  subst e1 e2
  obtain⟨hn,rfl⟩:=ifS h
  rw[g0]at hn
  have ec:xM [.tup [.int m,t],b]=some (.bl true):=by simp only[xM];rw[t4 hn.1,hn.2]
  simp[Z4,wB,fnD,zE,yd,yX,sIf,yw,xH,sNo,zF,Zh,wo,wW,Ye,vb,vEv,visF,visG,Sl.f,Sl.g,zd,eC,zk,x9,eOr,Ys,eIf,eUn,Yf,xt,yx,yc,zb,zo,zn,eFn,fFn,tOf,yg,wm,zS,asB,asI,zv,vg,wd,yh,yO,vY,yG,ltD,leD,gtD,geD,Yd,zz,zJ,zA,zI,Yq,zC,ixD,we,zT,isT,eSl,ym,yj,zV,yo,iOf,wg,yn,Yr,vo,wX,zM,yN,fLC,zR,zH,yq,zP,vD,ye,vH,b1,b2,ec]
 .cases h
theorem vK (T:Txt K mg ad):xc P w K mg base CX0 4 ad.f_must_be_heap ad.e_must_be_heap ["web","thing"] (@spD ⟨K⟩ 2 yi):=by
 letI:KK:=⟨K⟩
 have G_are_stones:=zbO (P:=P) (w:=w) (base:=base) T
 refine vO (yz (N:=["web","thing"]) (ps:=["web","thing"]) T.d_must_be_heap.fn VE (g:=wB) λcdv A outer s H E hr=>?_) zap
 unfold wB
 exact(zg (yr (xi (yA (zj G_are_stones hr rfl T.d_are_stones (za (edv 0) (za (edv 1) zf))))) (zg v7) zD))
theorem zh6 {m:Int}{ts:List Tie}(h:y9 m ts):decide (m<=1000)=true:=j7 (by have:=h.hi;omega)
def Zk (a b:Int):Tie:=(if b < a then b else a,if b > a then b else a)
def xX:SE->Ctl :=
 (sIf (zS (tOf (zn 2 y8 (zb (zk ixD (zd 0) (eC (.int 0))) (zb (zd 1) zo))))) sNo zF)
def Zw:List D->Option D:=fnD 2 xX
def yJ:List D->Option D
 | [.tup [.int m,_],.int p]=>if (decide (0<=p)&&decide (p<=m - 1))=true then some .non else none
 | _=>none
theorem W3:∀ ds d,ds.length=2->yJ ds=some d->Zw ds=some d:=by
 intro ds d hl h
 obtain⟨a,b,rfl⟩:=ziH hl
 unfold yJ at h
 split at h
 .rename_i m t p' e
  injection e with e1 e2
  injection e2 with e2 _
  subst e1 e2
  obtain⟨hn,rfl⟩:=ifS h
  have ec:y8 [.int m,.int p']=some (.bl true):=by
   show(if noS (.int p')=true then some (D.bl (yR (.int p') 0 (m - 1)))else none)=_
   rw[t4 (show noS (.int p')=true from rfl),zdP]
   unfold inR
   rw[hn]
  simp[Zw,xX,fnD,zE,yd,yX,sIf,yw,xH,sNo,zF,Zh,wo,wW,Ye,vb,vEv,visF,visG,Sl.f,Sl.g,zd,eC,zk,x9,eOr,Ys,eIf,eUn,Yf,xt,yx,yc,zb,zo,zn,eFn,fFn,tOf,yg,wm,zS,asB,asI,zv,vg,wd,yh,yO,vY,yG,ltD,leD,gtD,geD,Yd,zz,zJ,zA,zI,Yq,zC,ixD,we,zT,isT,eSl,ym,yj,zV,yo,iOf,wg,yn,Yr,vo,wX,zM,yN,fLC,zR,zH,yq,zP,vD,ye,vH,b1,b2,ec,atI,ixN]
 .cases h
theorem WU (T:Txt K mg ad):xc P w K mg base CX0 4 ad.f_must_be_place ad.e_must_be_place ["web","thing"] (@spD ⟨K⟩ 2 yJ):=by
 letI:KK:=⟨K⟩
 have G_is_place:=Vs (P:=P) (w:=w) (base:=base) T
 refine vO (yz (N:=["web","thing"]) (ps:=["web","thing"]) T.d_must_be_place.fn W1 (g:=xX) λcdv A outer s H E hr=>?_) W3
 unfold xX
 exact(zg (yr (xi (yA (zj G_is_place hr rfl T.d_is_place (za (zL (edv 0) (zh zi) (λ_ _=>rfl)) (za (edv 1) zf))))) (zg v7) zD))
theorem zfT {m:Int}{ts:List Tie}{p:Int}(hp:0<=p/\p < m):yJ [zO m ts,.int p]=some .non:=by
 show(if (decide (0<=p)&&decide (p<=m - 1))=true then some D.non else none)=_
 rw[j7 hp.1,j7 (by omega)]
 rfl
def YO:SE->Ctl :=
 (yd (xt (zb (eFn zjD (zb (zd 0) (zb (zd 1) zo))) (zb (eFn znF (zb (zd 0) (zb (zd 1) zo))) zo))))
def zbj:List D->Option D:=fnD 2 YO
def xn:List D->Option D
 | [.int a,.int b]=>some (zc (Zk a b))
 | _=>none
theorem zaE:∀ ds d,ds.length=2->xn ds=some d->zbj ds=some d:=by
 intro ds d hl h
 obtain⟨a,b,rfl⟩:=ziH hl
 cases a <;> try cases h
 cases b <;> try cases h
 rfl
theorem zay (T:Txt K mg ad):xc P w K mg base CX0 1 ad.f_tie_between ad.e_tie_between ["one","other"] (@spD ⟨K⟩ 2 xn):=by
 letI:KK:=⟨K⟩
 refine vO (yz (N:=["one","other"]) (ps:=["one","other"]) T.d_tie_between.fn zaD (g:=YO) λcdv A outer s H E hr=>?_) zaE
 unfold YO
 exact(zg (zu (xr (za (zU (zb7 rfl) zeK rfl T.z_min zcb (za (edv 0) (za (edv 1) zf))) (za (zU (zgJ rfl) zkz rfl T.z_max zkC (za (edv 0) (za (edv 1) zf))) zf)))))
theorem zio (ts:List Tie):(ts.map zc).all (okE 20)=true:=by
 rw[u1w,u0s]
 exact λt _=>rfl
theorem zes (s t:Tie):eqN 20 (zc s) (zc t)=decide (s=t):=by
 have:eqN 20 (zc s) (zc t)=((s.1 == t.1)&&((s.2 == t.2)&&true)&&true):=rfl
 rw[this,u3E,u3E]
 by_cases h:s=t
 .subst h
  simp
 .rw[g9 h,Bool.and_eq_false_iff]
  by_cases h1:s.1=t.1
  .exact .inr (u0K.mpr λh2=>h (u2A h1 h2))
  .exact .inl (u0K.mpr h1)
theorem zet (t:Tie)(ts:List Tie):inD (zc t) (.tup (ts.map zc))=some (.bl (decide (t∈ts))):=by
 show(zh9 (zc t) (ts.map zc)).map D.bl=_
 unfold zh9
 rw[t4 ⟨rfl,zio ts⟩]
 show some (D.bl ((ts.map zc).any λe=>eqN 20 e (zc t)))=_
 rw[u30]
 congr 2
 rw[u1n,u3L,r9]
 constructor
 .rintro⟨s,hs,h⟩
  have h:eqN 20 (zc s) (zc t)=true:=h
  rw[zes,r9]at h
  subst h
  exact hs
 .exact λh=>⟨t,h,by show eqN 20 (zc t) (zc t)=true;rw[zes];exact j7 rfl⟩
def nbN (m:Int)(ts:List Tie)(p:Int):List Nat:=(List.range m.toNat).filter λk:Nat=>decide (Zk p k∈ts)
end
theorem zfb {m:Nat}{g:SE->Ctl}{ds:List D}{R:D->Prop}{ρ:SE}(e:ds.map .v++List.replicate (m - ds.length) .no=ρ)(q:(g ρ).w (λ_=>R .non) noP noP R):∃ d,fnD m g ds=some d/\R d:=by
 unfold fnD
 rw[e]
 cases hg:g ρ with
 | nx ρ'=>rw[hg]at q;exact⟨_,rfl,q.nxi⟩
 | rt d'=>rw[hg]at q;exact⟨_,rfl,q.rti⟩
 | bk _=>rw[hg]at q;exact q.bki.elim
 | ct _=>rw[hg]at q;exact q.cti.elim
 | no=>rw[hg]at q;exact q.noi.elim
section
variable {P:Program}{w:World}{K:W.Frag}{mg:Str->Option Value}{base:Heap}{ad:Adr}
def YL:SE->Ctl :=
 (zE (yw false 2 (zk yO (zk wd (zk Yc (zk Yc (zk yO (zd 0) (eC (.int 2147483647))) (zk wd (eC (.int 977)) (zd 1))) (eC (.int 1))) (eC (.int 48271))) (eC (.int 2147483647))))
  (zE (yw false 2 (zk yO (zk wd (zd 2) (zd 2)) (eC (.int 2147483629))))
  (zE (yw false 2 (zk yO (zk wd (zk Yc (zd 2) (zk wd (eC (.int 40692)) (zk Yc (zd 1) (eC (.int 3))))) (eC (.int 69621))) (eC (.int 2147483647))))
  (yd (zk yh (zd 2) (eC (.int 8)))))))
def zdB:List D->Option D:=fnD 3 YL
def yb:List D->Option D
 | [.int c,.int k]=>some (.int (zda c k))
 | _=>none
theorem zbJ {i j:Int}(h1:-(2 ^ 64) < i)(h2:i < 2 ^ 64):zam i j=true:=j7 (.inl ⟨h1,h2⟩)
theorem zd3 {i j:Int}(h1:-(2 ^ 64) < j)(h2:j < 2 ^ 64):zam i j=true:=j7 (.inr ⟨h1,h2⟩)
theorem Xf {i j:Int}(h:zam i j=true):wd (.int i) (.int j)=some (.int (i*j)):=by
 show(if zam i j=true then _ else none)=_
 rw[t4 h]
theorem xZ {i j:Int}(h:0 < j):yO (.int i) (.int j)=some (.int (i % j)):=by
 show(if decide (0 < j)=true then _ else none)=_
 rw[t4 (j7 h)]
theorem Vi {i j:Int}(h:0 < j)(h2:j < 1606938044258990275541962092341162602522202993782792835301376):yh (.int i) (.int j)=some (.int (i / j)):=by
 show(if decide (0 < j/\j < 1606938044258990275541962092341162602522202993782792835301376)=true then _ else none)=_
 rw[t4 (j7 ⟨h,h2⟩)]
theorem zcL:∀ ds d,ds.length=2->yb ds=some d->zdB ds=some d:=by
 intro ds d hl h
 obtain⟨a,b,rfl⟩:=ziH hl
 cases a <;> try cases h
 cases b <;> try cases h
 rename_i c k
 have h1:=u2U ((c % 2147483647+977*k+1)*48271) (show(2147483647:Int)≠0 by decide)
 have h2:=u3c ((c % 2147483647+977*k+1)*48271) (show(0:Int) < 2147483647 by decide)
 have m1:zam 977 k=true:=zbJ (by decide) (by decide)
 have m2:zam (c % 2147483647+977*k+1) 48271=true:=zd3 (by decide) (by decide)
 obtain⟨x,hx⟩:∃ x,(c % 2147483647+977*k+1)*48271 % 2147483647=x:=⟨_,rfl⟩
 rw[hx]at h1 h2
 have m3:zam x x=true:=zbJ (Int.lt_of_lt_of_le (by decide) h1) (Int.lt_trans h2 (by decide))
 have m4:zam 40692 (k+3)=true:=zbJ (by decide) (by decide)
 have m5:∀ x,zam x 69621=true:=λx=>zd3 (by decide) (by decide)
 obtain⟨y,hy⟩:∃ y,x*x % 2147483629=y:=⟨_,rfl⟩
 obtain⟨z,hz⟩:∃ z,(y+40692*(k+3))*69621 % 2147483647=z:=⟨_,rfl⟩
 have hst:zda c k=z / 8:=by
  show((((c % 2147483647+977*k+1)*48271 % 2147483647)*((c % 2147483647+977*k+1)*48271 % 2147483647) % 2147483629+40692*(k+3))*69621 % 2147483647 / 8)=_
  rw[hx,hy,hz]
 rw[hst]
 refine Xv (ρ:=[.v (.int c),.v (.int k),.no]) rfl ?_
 unfold YL
 refine zp (ρ':=[.v (.int c),.v (.int k),.v (.int x)]) (Zm ?_) ?_
 .show(((((yO (.int c) (.int 2147483647)).bind λa=>(wd (.int 977) (.int k)).bind λb=>Yc a b).bind λa=>Yc a (.int 1)).bind λa=>wd a (.int 48271)).bind λa=>yO a (.int 2147483647))=_
  rw[xZ (by decide),Xf m1]
  show((wd (.int (c % 2147483647+977*k+1)) (.int 48271)).bind λa=>yO a (.int 2147483647))=_
  rw[Xf m2,<- hx]
  exact xZ (by decide)
 refine zp (ρ':=[.v (.int c),.v (.int k),.v (.int y)]) (Zm ?_) ?_
 .show((wd (.int x) (.int x)).bind λa=>yO a (.int 2147483629))=_
  rw[Xf m3,<- hy]
  exact xZ (by decide)
 refine zp (ρ':=[.v (.int c),.v (.int k),.v (.int z)]) (Zm ?_) ?_
 .show((((wd (.int 40692) (.int (k+3))).bind λb=>Yc (.int y) b).bind λa=>wd a (.int 69621)).bind λa=>yO a (.int 2147483647))=_
  rw[Xf m4]
  show((wd (.int (y+40692*(k+3))) (.int 69621)).bind λa=>yO a (.int 2147483647))=_
  rw[Xf (m5 _),<- hz]
  exact xZ (by decide)
 exact vT (xk (show yh (.int z) (.int 8)=_ from Vi (by decide) (by decide))) rfl
theorem wH (T:Txt K mg ad):xc P w K mg base CX0 1 ad.f__law_stir ad.e__law_stir ["cell","k"] (@spD ⟨K⟩ 2 yb):=by
 letI:KK:=⟨K⟩
 refine vO (yz (N:=["cell","k","number"]) (ps:=["cell","k"]) T.d__law_stir.fn vW (g:=YL) λcdv A outer s H E hr=>?_) zcL
 unfold YL
 exact(ze (zZ (m:=false) (i:=2) vW.nd rfl (Or.inl rfl) (wj (WP (xq (xq (wj (edv 0) (zh zi)) (WP (zh zi) (edv 1))) (zh zi)) (zh zi)) (zh zi)))
  (ze (zZ (m:=false) (i:=2) vW.nd rfl (Or.inl rfl) (wj (WP (edv 2) (edv 2)) (zh zi)))
  (ze (zZ (m:=false) (i:=2) vW.nd rfl (Or.inl rfl) (wj (WP (xq (edv 2) (WP (zh zi) (xq (edv 1) (zh zi)))) (zh zi)) (zh zi)))
  (zg (zu (Z9 (edv 2) (zh zi)))))))
theorem zfg {i j:Int}(h1:0<=i)(h2:i<=1000)(h3:0<=j)(h4:j<=60):wX [.int i,.int j]=some (W4 i (j - i).toNat):=by
 show(if ziV i=true/\ziV j=true then some (W4 i (j - i).toNat)else none)=_
 rw[t4 ⟨yW.mpr ⟨by(clear h4 h3 h2;omega),by(clear h4 h3;omega)⟩,yW.mpr ⟨by omega,by omega⟩⟩]
theorem ZW {j:Int}(h3:0<=j)(h4:j<=1000000):vo [.int j]=some (W4 0 j.toNat):=by
 show(if ziV j=true then some (W4 0 j.toNat)else none)=_
 rw[t4 (yW.mpr ⟨by omega,by omega⟩)]
theorem zfr {m:Int}{ns:List Int}(h1:(ns.length:Int)=m)(h2:∀ n∈ns,0<=n)(h3:ns.sum<=300):Xk m (.tup (ns.map .int))=true:=by
 unfold Xk wb
 rw[g0,g0,r9,r9,zaY,u6]
 exact⟨⟨h1,ziC h2⟩,h3⟩
theorem ziZ (ns:List Int):noS (.tup (ns.map .int))=true:=by
 show ziT (ns.map .int)=true
 induction ns with
 | nil=>rfl
 | cons n ns ih=>show(noS (.int n)&&ziT (ns.map .int))=true;rw[ih];rfl
def vAt (ns:List Int)(i:Int):Int:=ns.getD i.toNat 0
theorem vE {ns:List Int}{i:Int}(h0:0<=i)(h1:i < ns.length):atI (ns.map D.int) i=some (.int (vAt ns i)):=by
 unfold vAt
 obtain⟨k,hk⟩:∃ k:Nat,i=k:=⟨i.toNat,by omega⟩
 subst hk
 refine zhZ ?_
 rw[u0f,j5,t9 (by omega),u0r,t9 (by omega)]
 rfl
theorem zll {ns:List Int}{i m:Int}(h:0<=i/\i < m)(hl:(ns.length:Int)=m):atI (ns.map D.int) i=some (.int (vAt ns i)):=vE h.1 (by omega)
def Ym:SE->Ctl :=
 (yw false 1 (zk Yc (zd 1) (yx (fLC (Yr wX (zb (zk Yc (zd 2) (eC (.int 1))) (zb (zd 0) zo))) b1 zR (xt (zb (zd 3) (zb (zd 0) zo)))))))
def v0:SE->Ctl :=
 (zE (yw false 1 (yx (yc zo)))
  (zE (yn vo (zb (zd 0) zo) (zP 2) Ym)
  (yd (zd 1))))
def zci:List D->Option D:=fnD 3 v0
def wS:List D->Option D
 | [.int n]=>if decide (0<=n/\n<=8)=true then some (.lst ((xQ n.toNat).map zc))else none
 | _=>none
theorem zbD:∀ ds d,ds.length=1->wS ds=some d->zci ds=some d:=by
 intro ds d hl h
 obtain⟨a,rfl⟩:=znP hl
 cases a <;> try cases h
 rename_i n
 obtain⟨hn,rfl⟩:=ifS h
 have hn:0<=n/\n<=8:=d7 hn
 clear h hl
 obtain⟨k,hk⟩:∃ k:Nat,n.toNat=k:=⟨_,rfl⟩
 have hk8:k<=8:=by omega
 have hkn:n=(k:Int):=by omega
 rw[hk]
 have hr:vo [.int n]=some (W4 0 k):=by rw[ZW hn.1 (by omega),hk]
 clear hk
 refine Xv (ρ:=[.v (.int n),.no,.no]) rfl ?_
 unfold v0
 have e0:yw false 1 (yx (yc zo)) [.v (.int n),.no,.no]=.nx [.v (.int n),.v (.lst []),.no]:=rfl
 refine zp e0 (yf (zcO (lo:=0) (c:=k) (λi ρ=>∃ o2,ρ=[.v (.int n),.v (.lst ((wv k i).map zc)),o2]) hr ⟨.no,rfl⟩ ?_ ?_))
 .rintro i ρ hi ⟨o2,rfl⟩
  refine⟨_,rfl,?_⟩
  obtain⟨x,hx⟩:∃ x:Int,(0:Int)+(i:Int)=x:=⟨_,rfl⟩
  rw[hx]
  unfold Ym
  refine xG (ρ':=[.v (.int n),.v (.lst ((wv k (i+1)).map zc)),.v (.int x)]) (Zm (d:=.lst ((wv k (i+1)).map zc)) ?_) ⟨_,rfl⟩
  have e:fLC (Yr wX (zb (zk Yc (zd 2) (eC (.int 1))) (zb (zd 0) zo))) b1 zR (xt (zb (zd 3) (zb (zd 0) zo))) [some (.int n),some (.lst ((wv k i).map zc)),some (.int x)]=some ((zdE i (k - (i+1))).map zc):=by
   have e1:wX [.int (x+1),.int n]=some (W4 (x+1) (k - (i+1))):=by
    rw[zfg (by omega) (by omega) (by omega) (by omega)]
    have et:(n - (x+1)).toNat=k - (i+1):=by omega
    rw[et]
   unfold fLC
   show(wX [.int (x+1),.int n]).bind _=_
   rw[e1]
   show(if lim (W4 (x+1) (k - (i+1))).length=true then _ else none)=_
   rw[t4 (vp (by rw[zdu];omega))]
   unfold zdE
   rw[i4]
   refine zbh (λj:Nat=>D.int (x+1+(j:Int))) _ (List.range (k - (i+1))) λj _=>⟨[some (.int (x+1+(j:Int)))],rfl,rfl,?_⟩
   show some (D.tup [.int x,.int (x+1+(j:Int))])=some (D.tup [.int (i:Int),.int ((i:Int)+1+(j:Int))])
   rw[<-hx,Int.zero_add]
  show(((fLC (Yr wX (zb (zk Yc (zd 2) (eC (.int 1))) (zb (zd 0) zo))) b1 zR (xt (zb (zd 3) (zb (zd 0) zo))) [some (.int n),some (.lst ((wv k i).map zc)),some (.int x)]).map D.lst).bind λy=>Yc (.lst ((wv k i).map zc)) y)=_
  rw[e]
  show Yc (.lst ((wv k i).map zc)) (.lst ((zdE i (k - (i+1))).map zc))=_
  rw[zeo (by rw[u6,u6,WK];have:=zfM k hk8 i;omega),WQ,p9]
 .rintro ρ ⟨o2,rfl⟩
  refine vT rfl ?_
  rw[ziO]
theorem zbT (T:Txt K mg ad):xc P w K mg base CX0 1 ad.f__law_pairs ad.e__law_pairs ["many"] (@spD ⟨K⟩ 1 wS):=by
 letI:KK:=⟨K⟩
 refine vO (yz (N:=["many","found","a"]) (ps:=["many"]) T.d__law_pairs.fn vz (g:=v0) λcdv A outer s H E hr=>?_) zbD
 unfold v0 Ym
 exact(ze (zZ (m:=false) (i:=1) vz.nd rfl (Or.inl rfl) (wf (v6 zf)))
  (ze (Vc i5 rfl rfl T.z_range (za (edv 0) zf) (ya (zx (i:=2) vz.nd rfl (Or.inr rfl))) (zg (zZ (m:=false) (i:=1) vz.nd rfl (Or.inl rfl) (xq (edv 1) (wf (Z3 (L:=["b"]) (M:=["many","found","a"]) rfl (wU (by rfl) (by rfl) (by rfl) (by with_unfolding_all rfl) (by rfl) (by rfl) (by kernel_rfl) (all_cons rfl xb)) (ziv rfl T.z_range (za (xq (edv 2) (zh zi)) (za (edv 0) zf))) gs1 rb1 (λ_ _ _ _=>(zx (i:=0) zpz rfl (Or.inl rfl) (.inr rfl))) (λ_ _ _ _=>(xr (za (edv 3) (za (edv 0) zf))))))))))
  (zg (zu (edv 1)))))
def xR:SE->Ctl :=
 (zE (sIf (yg (tOf (zk XJ (zk yO (zd 1) (eC (.int 2))) (eC (.int 0)))) (tOf (zk XJ (zk yO (zk zmJ (zk yh (zd 1) (eC (.int 2))) (zd 3)) (eC (.int 2))) (eC (.int 1))))) (wW false 2 (zd 4)) zF)
  (sIf (yg (tOf (zk XJ (zk yO (zd 1) (eC (.int 2))) (eC (.int 1)))) (tOf (zk ltD (zk yO (zn 2 yb (zb (zd 1) (zb (zd 3) zo))) (eC (.int 5))) (zk Yc (eC (.int 2)) (zk yO (zk yh (zd 1) (eC (.int 2))) (eC (.int 2))))))) (wW false 2 (zd 4)) zF))
def xO:SE->Ctl :=
 (zE (wo 2 (yc zo))
  (zE (wg (zM (zb (zn 1 wS (zb (zd 0) zo)) zo)) (vD 2 (ye (zP 3) (ye (zP 4) vH))) xR)
  (sFz 2 (yd (xt (zb (zd 0) (zb (eFn zH (zb (zd 2) zo)) zo)))))))
def vB:List D->Option D:=fnD 5 xO
theorem zlZ {a k:Int}(h:0<=k):zmJ (.int a) (.int k)=some (.int (a / 2 ^ k.toNat)):=by
 show(if decide (0<=k)=true then some (D.int (a / 2 ^ k.toNat))else none)=_
 rw[t4 (j7 h)]
theorem znI {ρ:Ev}{c x:Int}(h1:ρ[1]?=some (some (.int c)))(h3:ρ[3]?=some (some (.int x)))(hx:0<=x) :
 (∃ b,yg (tOf (zk XJ (zk yO (zd 1) (eC (.int 2))) (eC (.int 0)))) (tOf (zk XJ (zk yO (zk zmJ (zk yh (zd 1) (eC (.int 2))) (zd 3)) (eC (.int 2))) (eC (.int 1)))) ρ=some (decide (c % 2=0)&&b)) /\
 ∃ b,yg (tOf (zk XJ (zk yO (zd 1) (eC (.int 2))) (eC (.int 1)))) (tOf (zk ltD (zk yO (zn 2 yb (zb (zd 1) (zb (zd 3) zo))) (eC (.int 5))) (zk Yc (eC (.int 2)) (zk yO (zk yh (zd 1) (eC (.int 2))) (eC (.int 2)))))) ρ=some (decide (c % 2=1)&&b):=by
 have v1:zd 1 ρ=some (.int c):=by unfold zd;rw[h1];rfl
 have v3:zd 3 ρ=some (.int x):=by unfold zd;rw[h3];rfl
 have f2:yh (.int c) (.int 2)=some (.int (c / 2)):=Vi (by decide) (by decide)
 have m0:∀ k:Int,tOf (zk XJ (zk yO (zd 1) (eC (.int 2))) (eC (.int k))) ρ=some (decide (c % 2=k)):=λk=>by
  show(((zd 1 ρ).bind λa=>yO a (.int 2)).bind λy=>XJ y (.int k)).bind asB=_
  rw[v1,i7,xZ (by decide)]
  rfl
 constructor
 .refine⟨decide (c / 2 / 2 ^ x.toNat % 2=1),?_⟩
  have m2:tOf (zk XJ (zk yO (zk zmJ (zk yh (zd 1) (eC (.int 2))) (zd 3)) (eC (.int 2))) (eC (.int 1))) ρ=some (decide (c / 2 / 2 ^ x.toNat % 2=1)):=by
   show(((((zd 1 ρ).bind λa=>yh a (.int 2)).bind λa=>(zd 3 ρ).bind λb=>zmJ a b).bind λa=>yO a (.int 2)).bind λy=>XJ y (.int 1)).bind asB=_
   rw[v1,v3,i7,f2,i7,i7,zlZ hx,i7,xZ (by decide)]
   rfl
  unfold yg
  rw[m0,i7,m2]
  cases decide (c % 2=0) <;> rfl
 .refine⟨decide (zda c x % 5 < 2+c / 2 % 2),?_⟩
  have es:zn 2 yb (zb (zd 1) (zb (zd 3) zo)) ρ=some (.int (zda c x)):=by
   unfold zn zb
   rw[v1,v3]
   rfl
  have m2:tOf (zk ltD (zk yO (zn 2 yb (zb (zd 1) (zb (zd 3) zo))) (eC (.int 5))) (zk Yc (eC (.int 2)) (zk yO (zk yh (zd 1) (eC (.int 2))) (eC (.int 2))))) ρ=some (decide (zda c x % 5 < 2+c / 2 % 2)):=by
   show((((zn 2 yb (zb (zd 1) (zb (zd 3) zo)) ρ).bind λa=>yO a (.int 5)).bind λa=>((((zd 1 ρ).bind λa=>yh a (.int 2)).bind λa=>yO a (.int 2)).bind λy=>Yc (.int 2) y).bind λb=>ltD a b)).bind asB=_
   rw[es,v1,i7,i7,xZ (by decide),f2,i7,i7,xZ (by decide)]
   rfl
  unfold yg
  rw[m0,i7,m2]
  cases decide (c % 2=1) <;> rfl
theorem zp0 {n c x:Int}{ts:List Tie}{t:Tie}{N B C:SE->Prop}{R:D->Prop}(hx:0<=x)(hl:(ts.map zc).length<=1000)
 (q1:N [.v (.int n),.v (.int c),.o (ts.map zc),.v (.int x),.v (zc t)]) (q2:N [.v (.int n),.v (.int c),.o ((ts++[t]).map zc),.v (.int x),.v (zc t)]) :
 (xR [.v (.int n),.v (.int c),.o (ts.map zc),.v (.int x),.v (zc t)]).w N B C R:=by
 rw[p9]at q2
 unfold xR
 obtain⟨⟨b1,e1⟩,b2,e2⟩:=znI (ρ:=visG [.v (.int n),.v (.int c),.o (ts.map zc),.v (.int x),.v (zc t)]) (c:=c) (x:=x) rfl rfl hx
 obtain⟨_,b3,e3⟩:=znI (ρ:=visG [.v (.int n),.v (.int c),.o (ts.map zc++[zc t]),.v (.int x),.v (zc t)]) (c:=c) (x:=x) rfl rfl hx
 have ap:=WH (m:=false) (i:=2) (f:=zd 4) (ρ:=[.v (.int n),.v (.int c),.o (ts.map zc),.v (.int x),.v (zc t)]) (ds:=ts.map zc) (d:=zc t) rfl rfl hl
 refine yf (vw e1 (λk=>xG ap ?_) (λ_=>xG rfl (vw e2 (λ_=>xG ap q2) (λ_=>xG rfl q1))))
 refine vw e3 (λk3=>?_) (λ_=>xG rfl q2)
 have h0:c % 2=0:=d7 (Bool.and_eq_true_iff.mp k).1
 have h1:c % 2=1:=d7 (Bool.and_eq_true_iff.mp k3).1
 exact absurd (h0.symm.trans h1) (by decide)
theorem zhH {n c:Int}(h1:1<=n)(h8:n<=8):∃ ts,vB [.int n,.int c]=some (zO n ts)/\ts.Sublist (xQ n.toNat):=by
 have key:=zfb (m:=5) (g:=xO) (ds:=[.int n,.int c]) (R:=λd=>∃ ts:List Tie,d=zO n ts/\ts.Sublist (xQ n.toNat)) rfl ?_
 .obtain⟨d,e,ts,rfl,hs⟩:=key
  exact⟨ts,e,hs⟩
 unfold xO
 refine zp rfl ?_
 have ep:wS [.int n]=some (.lst ((xQ n.toNat).map zc)):=by
  show(if decide (0<=n/\n<=8)=true then some (D.lst ((xQ n.toNat).map zc))else none)=_
  rw[t4 (j7 ⟨by omega,by omega⟩)]
 have h28:=(zac n.toNat (by omega)).2.2
 refine yf (ZZ (ds:=Zu 0 ((xQ n.toNat).map zc)) (λi ρ=>∃ ts o3 o4,ρ=[.v (.int n),.v (.int c),.o (ts.map zc),o3,o4]/\ts.Sublist ((xQ n.toNat).take i)) ?_ ⟨[],.no,.no,rfl,List.nil_sublist _⟩ ?_ ?_)
 .show((wS [.int n]).bind λd=>(some []:Option (List D)).map (d::·)).bind _=_
  rw[ep]
  rfl
 .rintro i d ρ hd ⟨ts,o3,o4,rfl,hs⟩
  rw[xx]at hd
  obtain⟨dx,hdx,rfl⟩:=u8.mp hd
  rw[j5]at hdx
  obtain⟨t,ht,rfl⟩:=u8.mp hdx
  rw[u0m]
  have htake:(xQ n.toNat).take (i+1)=(xQ n.toNat).take i++[t]:=by rw[u4b,ht];rfl
  have hlen:ts.length<=28:=p6 hs.length_le (p6 (List.length_take_le _ _) (by have:=(t6.mp ht).1;omega))
  refine⟨_,rfl,zp0 (u00 i) (by rw[u6];omega) ⟨ts,_,_,rfl,?_⟩ ⟨ts++[t],_,_,rfl,?_⟩⟩
  .rw[htake];exact hs.trans (List.sublist_append_left _ _)
  .rw[htake];exact hs.append (List.Sublist.refl _)
 .rintro ρ ⟨ts,o3,o4,rfl,hs⟩
  exact zkZ rfl (vT rfl ⟨ts,rfl,hs.trans (u3w _ _)⟩)
theorem zaF (T:Txt K mg ad):xc P w K mg base CX0 2 ad.f__law_web_by ad.e__law_web_by ["many","cell"] (@spD ⟨K⟩ 2 vB):=by
 letI:KK:=⟨K⟩
 have G__law_stir:=wH (P:=P) (w:=w) (base:=base) T
 have G__law_pairs:=zbT (P:=P) (w:=w) (base:=base) T
 refine yz (N:=["many","cell","ties","k","tie"]) (ps:=["many","cell"]) T.d__law_web_by.fn wG (g:=xO) λcdv A outer s H E hr=>?_
 unfold xO xR
 exact(ze (Zp (i:=2) wG.nd rfl (Or.inl rfl) (v6 zf))
  (ze (vP i5 rfl (ZE rfl T.z_enumerate yP (za (zj G__law_pairs hr rfl T.d__law_pairs (za (edv 0) zf)) zf)) (XF rfl (yu (ya (zx (i:=3) wG.nd rfl (Or.inl rfl))) (yu (ya (zx (i:=4) wG.nd rfl (Or.inl rfl))) YX))) (ze (yr (zdI (za9 (zN (Zg hr) vm (zG _) (wj (edv 1) (zh zi)) (zh zi)) (Wm (zN (Zg hr) vm (zG _) (wj (znW (Z9 (edv 1) (zh zi)) (edv 3)) (zh zi)) (zh zi))))) (zg (X7 (m:=false) (pv 2) (edv 4) (λa b=>V1 u0j u0p u0q wc a b))) zD)
  (zg (yr (zdI (za9 (zN (Zg hr) vm (zG _) (wj (edv 1) (zh zi)) (zh zi)) (Wm (zN zgw yk (zG _) (wj (zj G__law_stir hr rfl T.d__law_stir (za (edv 1) (za (edv 3) zf))) (zh zi)) (xq (zh zi) (wj (Z9 (edv 1) (zh zi)) (zh zi))))))) (zg (X7 (m:=false) (pv 2) (edv 4) (λa b=>V1 u0j u0p u0q wc a b))) zD))))
  (Xw 2 (zg (zu (xr (za (edv 0) (za (wL yC wP rfl T.z_tuple yB (za (edv 2) zf)) zf))))))))
def vx (r:List D->Option D):SE->Ctl :=
 (sIf (zS (tOf (zn 2 r (zb (zd 2) (zb (zd 3) zo))))) (yd (eC (.bl false))) zF)
def yF (r:List D->Option D):SE->Ctl :=
 (zE (sIf (tOf (zk Yq (zd 1) (eC .non))) (yd (zk Yq (zd 0) (eC .non))) zF)
  (zE (sIf (tOf (eUn (zT .bool) (zd 1))) (yd (x9 (eUn (zT .bool) (zd 0)) (zk XJ (zd 0) (zd 1)))) zF)
  (zE (sIf (tOf (eUn (zT .int) (zd 1))) (yd (x9 (eUn (zT .int) (zd 0)) (x9 (Ys (eUn (zT .bool) (zd 0))) (zk XJ (zd 0) (zd 1))))) zF)
  (zE (sIf (tOf (eUn (zT .str) (zd 1))) (yd (x9 (eUn (zT .str) (zd 0)) (zk XJ (zd 0) (zd 1)))) zF)
  (zE (sIf (wm (tOf (zk neD (eUn (zT .list) (zd 1)) (eUn (zT .list) (zd 0)))) (tOf (zk neD (eUn (zT .tuple) (zd 1)) (eUn (zT .tuple) (zd 0))))) (yd (eC (.bl false))) zF)
  (zE (sIf (tOf (zk neD (eFn we (zb (zd 0) zo)) (eFn we (zb (zd 1) zo)))) (yd (eC (.bl false))) zF)
  (zE (wg (yN (zb (zd 0) (zb (zd 1) zo))) (vD 2 (ye (zP 2) (ye (zP 3) vH))) (vx r))
  (yd (eC (.bl true))))))))))
def Xs:List D->Option D:=zoN 4 yF 6
theorem zcg (ds:List D):zeA ds ds=ds.map λd=>.tup [d,d]:=by
 induction ds with
 | nil=>rfl
 | cons d ds ih=>show D.tup [d,d]::zeA ds ds=_;rw[ih];rfl
theorem zcH {r:List D->Option D}{d:D}(hr:∀ es,(d=.tup es\/d=.lst es)->∀ e∈es,r [e,e]=some (.bl true))(hn:∀ ns,d≠.scr ns)(hd:∀ z t ks vs,d≠.dct z t ks vs):fnD 4 (yF r) [d,d]=some (.bl true):=by
 cases d with
 | scr ns=>exact absurd rfl (hn ns)
 | dct z t ks vs=>exact absurd rfl (hd z t ks vs)
 | non=>rfl
 | bl b=>cases b <;> rfl
 | int i=>simp[yF,fnD,zE,yd,yX,sIf,yw,xH,sNo,zF,Zh,wo,wW,Ye,vb,vEv,visF,visG,Sl.f,Sl.g,zd,eC,zk,x9,eOr,Ys,eIf,eUn,Yf,xt,yx,yc,zb,zo,zn,eFn,fFn,tOf,yg,wm,zS,asB,asI,zv,vg,wd,yh,yO,vY,yG,ltD,leD,gtD,geD,Yd,zz,zJ,zA,zI,Yq,zC,ixD,we,zT,isT,eSl,ym,yj,zV,yo,iOf,wg,yn,Yr,vo,wX,zM,yN,fLC,zR,zH,yq,zP,vD,ye,vH,b1,b2]
 | str x=>simp[yF,fnD,zE,yd,yX,sIf,yw,xH,sNo,zF,Zh,wo,wW,Ye,vb,vEv,visF,visG,Sl.f,Sl.g,zd,eC,zk,x9,eOr,Ys,eIf,eUn,Yf,xt,yx,yc,zb,zo,zn,eFn,fFn,tOf,yg,wm,zS,asB,asI,zv,vg,wd,yh,yO,vY,yG,ltD,leD,gtD,geD,Yd,zz,zJ,zA,zI,Yq,zC,ixD,we,zT,isT,eSl,ym,yj,zV,yo,iOf,wg,yn,Yr,vo,wX,zM,yN,fLC,zR,zH,yq,zP,vD,ye,vH,b1,b2]
 | tup es =>
  refine Xv (ρ:=[.v (.tup es),.v (.tup es),.no,.no]) rfl ?_
  unfold yF
  refine zp rfl (zp rfl (zp rfl (zp rfl (zp rfl (yf (vw (c:=false) (by simp[fnD,zE,yd,yX,sIf,yw,xH,sNo,zF,Zh,wo,wW,Ye,vb,vEv,visF,visG,Sl.f,Sl.g,zd,eC,zk,x9,eOr,Ys,eIf,eUn,Yf,xt,yx,yc,zb,zo,zn,eFn,fFn,tOf,yg,wm,zS,asB,asI,zv,vg,wd,yh,yO,vY,yG,ltD,leD,gtD,geD,Yd,zz,zJ,zA,zI,Yq,zC,ixD,we,zT,isT,eSl,ym,yj,zV,yo,iOf,wg,yn,Yr,vo,wX,zM,yN,fLC,zR,zH,yq,zP,vD,ye,vH,b1,b2]) (λz=>by cases z) λ_=>xG rfl ?_))))))
  refine yf (ZZ (ds:=zeA es es) (λi ρ=>∃ o1 o2,ρ=[.v (.tup es),.v (.tup es),o1,o2]) (by simp[fnD,zE,yd,yX,sIf,yw,xH,sNo,zF,Zh,wo,wW,Ye,vb,vEv,visF,visG,Sl.f,Sl.g,zd,eC,zk,x9,eOr,Ys,eIf,eUn,Yf,xt,yx,yc,zb,zo,zn,eFn,fFn,tOf,yg,wm,zS,asB,asI,zv,vg,wd,yh,yO,vY,yG,ltD,leD,gtD,geD,Yd,zz,zJ,zA,zI,Yq,zC,ixD,we,zT,isT,eSl,ym,yj,zV,yo,iOf,wg,yn,Yr,vo,wX,zM,yN,fLC,zR,zH,yq,zP,vD,ye,vH,b1,b2]) ⟨_,_,rfl⟩ ?_ ?_)
  .rintro i d ρ hd ⟨o1,o2,rfl⟩
   rw[zcg,j5]at hd
   obtain⟨e,he,rfl⟩:=u8.mp hd
   have hre:=hr es (.inl rfl) e (d9 he)
   refine⟨_,rfl,?_⟩
   unfold vx
   refine vw (c:=false) (by simp[fnD,zE,yd,yX,sIf,yw,xH,sNo,zF,Zh,wo,wW,Ye,vb,vEv,visF,visG,Sl.f,Sl.g,zd,eC,zk,x9,eOr,Ys,eIf,eUn,Yf,xt,yx,yc,zb,zo,zn,eFn,fFn,tOf,yg,wm,zS,asB,asI,zv,vg,wd,yh,yO,vY,yG,ltD,leD,gtD,geD,Yd,zz,zJ,zA,zI,Yq,zC,ixD,we,zT,isT,eSl,ym,yj,zV,yo,iOf,wg,yn,Yr,vo,wX,zM,yN,fLC,zR,zH,yq,zP,vD,ye,vH,b1,b2,hre]) (λz=>by cases z) λ_=>xG rfl ⟨_,_,rfl⟩
  .rintro ρ ⟨o1,o2,rfl⟩
   exact vT rfl rfl
 | lst es =>
  refine Xv (ρ:=[.v (.lst es),.v (.lst es),.no,.no]) rfl ?_
  unfold yF
  refine zp rfl (zp rfl (zp rfl (zp rfl (zp rfl (yf (vw (c:=false) (by simp[fnD,zE,yd,yX,sIf,yw,xH,sNo,zF,Zh,wo,wW,Ye,vb,vEv,visF,visG,Sl.f,Sl.g,zd,eC,zk,x9,eOr,Ys,eIf,eUn,Yf,xt,yx,yc,zb,zo,zn,eFn,fFn,tOf,yg,wm,zS,asB,asI,zv,vg,wd,yh,yO,vY,yG,ltD,leD,gtD,geD,Yd,zz,zJ,zA,zI,Yq,zC,ixD,we,zT,isT,eSl,ym,yj,zV,yo,iOf,wg,yn,Yr,vo,wX,zM,yN,fLC,zR,zH,yq,zP,vD,ye,vH,b1,b2]) (λz=>by cases z) λ_=>xG rfl ?_))))))
  refine yf (ZZ (ds:=zeA es es) (λi ρ=>∃ o1 o2,ρ=[.v (.lst es),.v (.lst es),o1,o2]) (by simp[fnD,zE,yd,yX,sIf,yw,xH,sNo,zF,Zh,wo,wW,Ye,vb,vEv,visF,visG,Sl.f,Sl.g,zd,eC,zk,x9,eOr,Ys,eIf,eUn,Yf,xt,yx,yc,zb,zo,zn,eFn,fFn,tOf,yg,wm,zS,asB,asI,zv,vg,wd,yh,yO,vY,yG,ltD,leD,gtD,geD,Yd,zz,zJ,zA,zI,Yq,zC,ixD,we,zT,isT,eSl,ym,yj,zV,yo,iOf,wg,yn,Yr,vo,wX,zM,yN,fLC,zR,zH,yq,zP,vD,ye,vH,b1,b2]) ⟨_,_,rfl⟩ ?_ ?_)
  .rintro i d ρ hd ⟨o1,o2,rfl⟩
   rw[zcg,j5]at hd
   obtain⟨e,he,rfl⟩:=u8.mp hd
   have hre:=hr es (.inr rfl) e (d9 he)
   refine⟨_,rfl,?_⟩
   unfold vx
   refine vw (c:=false) (by simp[fnD,zE,yd,yX,sIf,yw,xH,sNo,zF,Zh,wo,wW,Ye,vb,vEv,visF,visG,Sl.f,Sl.g,zd,eC,zk,x9,eOr,Ys,eIf,eUn,Yf,xt,yx,yc,zb,zo,zn,eFn,fFn,tOf,yg,wm,zS,asB,asI,zv,vg,wd,yh,yO,vY,yG,ltD,leD,gtD,geD,Yd,zz,zJ,zA,zI,Yq,zC,ixD,we,zT,isT,eSl,ym,yj,zV,yo,iOf,wg,yn,Yr,vo,wX,zM,yN,fLC,zR,zH,yq,zP,vD,ye,vH,b1,b2,hre]) (λz=>by cases z) λ_=>xG rfl ⟨_,_,rfl⟩
  .rintro ρ ⟨o1,o2,rfl⟩
   exact vT rfl rfl
theorem ziP:∀ (n:Nat) {d:D},okE n d=true->zoN 4 yF (n+1) [d,d]=some (.bl true):=by
 intro n
 induction n with
 | zero =>
  intro d h
  refine zcH (λes he=>?_) (λns e=>by subst e;cases h) (λ_ _ _ _ e=>by subst e;cases h)
  rcases he with rfl | rfl <;> cases h
 | succ n ih =>
  intro d h
  refine zcH (λes he e hm=>?_) (λns e=>by subst e;cases h) (λ_ _ _ _ e=>by subst e;cases h)
  rcases he with rfl | rfl
  .exact ih (u0s.mp h e hm)
  .exact ih (u0s.mp h e hm)
theorem zod {d:D}(h:okE 5 d=true):Xs [d,d]=some (.bl true):=ziP 5 h
theorem zcd (T:Txt K mg ad):xc P w K mg base CX0 7 ad.f__law_same ad.e__law_same ["found","due"] (@spD ⟨K⟩ 2 Xs):=by
 letI:KK:=⟨K⟩
 have R:∀ n,xc P w K mg base CX0 (1+n) ad.f__law_same ad.e__law_same ["found","due"] (spD 2 (zoN 4 yF n)):=by
  refine zoQ (P:=P) (w:=w) (mg:=mg) (base:=base) (k0:=1) (g:=yF) T.d__law_same.fn Zo λk r hrec cdv A outer s H E hr=>?_
  unfold yF vx
  exact(ze (yr (zN zk0 zhL (zG _) (edv 1) (XH X2)) (zg (zu (Yt zk0 zhL (zG _) (edv 0) (XH X2)))) zD)
   (ze (yr (yA (zK .bool rfl T.z_isinstance (edv 1) (yl (v:=.ty "bool") rfl T.z_bool VP rfl))) (zg (zu (vM (zK .bool rfl T.z_isinstance (edv 0) (yl (v:=.ty "bool") rfl T.z_bool VP rfl)) (YC (Yt (Zg hr) vm (zG _) (edv 0) (edv 1)))))) zD)
   (ze (yr (yA (zK .int rfl T.z_isinstance (edv 1) (yl (v:=.ty "int") rfl T.z_int zek rfl))) (zg (zu (vM (zK .int rfl T.z_isinstance (edv 0) (yl (v:=.ty "int") rfl T.z_int zek rfl)) (vM (zg4 (zK .bool rfl T.z_isinstance (edv 0) (yl (v:=.ty "bool") rfl T.z_bool VP rfl))) (YC (Yt (Zg hr) vm (zG _) (edv 0) (edv 1))))))) zD)
   (ze (yr (yA (zK .str rfl T.z_isinstance (edv 1) (yl (v:=.ty "str") rfl T.z_str zkF rfl))) (zg (zu (vM (zK .str rfl T.z_isinstance (edv 0) (yl (v:=.ty "str") rfl T.z_str zkF rfl)) (YC (Yt (Zg hr) vm (zG _) (edv 0) (edv 1)))))) zD)
   (ze (yr (zdI (V5 (zN zbz Xx (zG _) (zK .list rfl T.z_isinstance (edv 1) (yl (v:=.ty "list") rfl T.z_list Xb rfl)) (zK .list rfl T.z_isinstance (edv 0) (yl (v:=.ty "list") rfl T.z_list Xb rfl))) (XV (zN zbz Xx (zG _) (zK .tuple rfl T.z_isinstance (edv 1) (yl (v:=.ty "tuple") rfl T.z_tuple yB rfl)) (zK .tuple rfl T.z_isinstance (edv 0) (yl (v:=.ty "tuple") rfl T.z_tuple yB rfl)))))) (zg (zu (wZ vf))) zD)
   (ze (yr (zN zbz Xx (zG _) (zU zQ x6 rfl T.z_len v9 (za (edv 0) zf)) (zU zQ x6 rfl T.z_len v9 (za (edv 1) zf))) (zg (zu (wZ vf))) zD)
   (ze (vP i5 rfl (znv rfl T.z_zip (za (edv 0) (za (edv 1) zf))) (XF rfl (yu (ya (zx (i:=2) Zo.nd rfl (Or.inl rfl))) (yu (ya (zx (i:=3) Zo.nd rfl (Or.inl rfl))) YX))) (zg (yr (xi (yA (zih hrec hr rfl T.d__law_same.at_ T.d__law_same.kp T.d__law_same.bd (za (edv 2) (za (edv 3) zf))))) (zg (zu (wZ vf))) zD)))
   (zg (zu (wZ vf))))))))))
 exact R 6
def wY:SE->Ctl :=
 (zE (yw false 7 (zk yO (zn 2 yb (zb (zd 1) (zb (zk Yc (eC (.int 60)) (zd 6)) zo))) (zk Yc (zd 3) (eC (.int 1)))))
  (zE (sIf (tOf (zk XJ (zk yO (zd 1) (eC (.int 2))) (eC (.int 0)))) (zE (yw false 7 (eFn zjD (zb (zd 3) (zb (zk yO (zd 5) (zk Yc (zd 2) (eC (.int 1)))) zo))))
  (yw false 5 (zk yh (zd 5) (zk Yc (zd 2) (eC (.int 1)))))) zF)
  (zE (wW false 4 (zd 7))
  (yw false 3 (zk vg (zd 3) (zd 7))))))
def xy:SE->Ctl :=
 (zE (yw false 3 (zd 2))
  (zE (wo 4 (yc zo))
  (zE (yw false 5 (zk yh (zd 1) (eC (.int 2))))
  (zE (yn vo (zb (zd 0) zo) (zP 6) wY)
  (sFz 4 (yd (eFn zH (zb (zd 4) zo))))))))
def Yo:List D->Option D:=fnD 8 xy
theorem zfz {n c mo:Int}(h0:0<=n)(h8:n<=8)(hm0:0<=mo)(hm:mo<=1000):∃ ns:List Int,Yo [.int n,.int c,.int mo]=some (.tup (ns.map .int))/\(ns.length:Int)=n/\(∀ x∈ns,0<=x)/\ns.sum<=mo:=by
 have key:=zfb (m:=8) (g:=xy) (ds:=[.int n,.int c,.int mo]) (R:=λd=>∃ ns:List Int,d=.tup (ns.map .int)/\(ns.length:Int)=n/\(∀ x∈ns,0<=x)/\ns.sum<=mo) (ρ:=[.v (.int n),.v (.int c),.v (.int mo),.no,.no,.no,.no,.no]) rfl ?_
 .obtain⟨d,e,ns,rfl,h⟩:=key
  exact⟨ns,e,h⟩
 unfold xy
 refine zp rfl (zp (ρ':=[.v (.int n),.v (.int c),.v (.int mo),.v (.int mo),.o [],.no,.no,.no]) (by simp[fnD,zE,yd,yX,sIf,yw,xH,sNo,zF,Zh,wo,wW,Ye,vb,vEv,visF,visG,Sl.f,Sl.g,zd,eC,zk,x9,eOr,Ys,eIf,eUn,Yf,xt,yx,yc,zb,zo,zn,eFn,fFn,tOf,yg,wm,zS,asB,asI,zv,vg,wd,yh,yO,vY,yG,ltD,leD,gtD,geD,Yd,zz,zJ,zA,zI,Yq,zC,ixD,we,zT,isT,eSl,ym,yj,zV,yo,iOf,wg,yn,Yr,vo,wX,zM,yN,fLC,zR,zH,yq,zP,vD,ye,vH,b1,b2,vp]) (zp (ρ':=[.v (.int n),.v (.int c),.v (.int mo),.v (.int mo),.o [],.v (.int (c / 2)),.no,.no]) (by simp[fnD,zE,yd,yX,sIf,yw,xH,sNo,zF,Zh,wo,wW,Ye,vb,vEv,visF,visG,Sl.f,Sl.g,zd,eC,zk,x9,eOr,Ys,eIf,eUn,Yf,xt,yx,yc,zb,zo,zn,eFn,fFn,tOf,yg,wm,zS,asB,asI,zv,vg,wd,yh,yO,vY,yG,ltD,leD,gtD,geD,Yd,zz,zJ,zA,zI,Yq,zC,ixD,we,zT,isT,eSl,ym,yj,zV,yo,iOf,wg,yn,Yr,vo,wX,zM,yN,fLC,zR,zH,yq,zP,vD,ye,vH,b1,b2]) ?_))
 refine yf (zcO (lo:=0) (c:=n.toNat) (λi ρ=>∃ (le dg:Int) (ns:List Int) (o1 o2:Sl),ρ=[.v (.int n),.v (.int c),.v (.int mo),.v (.int le),.o (ns.map .int),.v (.int dg),o1,o2]/\ns.length=i/\(∀ x∈ns,0<=x)/\0<=le/\ns.sum+le=mo) (ZW h0 (by omega)) ⟨mo,c / 2,[],.no,.no,rfl,rfl,by simp,hm0,by simp⟩ ?_ ?_)
 .rintro i ρ hi ⟨le,dg,ns,o1,o2,rfl,hl,hnn,hle,hs⟩
  obtain⟨x,hx⟩:∃ x:Int,(0:Int)+(i:Int)=x:=⟨_,rfl⟩
  rw[hx]
  refine⟨_,rfl,?_⟩
  unfold wY
  obtain⟨st,hst⟩:∃ st:Int,zda c (60+x)=st:=⟨_,rfl⟩
  have hlo:0<=st % (le+1):=u2U _ (by omega)
  have hhi:st % (le+1) < le+1:=u3c _ (by omega)
  have es:yb [.int c,.int (60+x)]=some (.int st):=by rw[<-hst];rfl
  have hz:decide ((ns.map D.int).length < sizeLine)=true:=j7 (XS (by rw[u6];omega))
  have fin:∀ (s2 dg2:Int),0<=s2->s2<=le->(zE (wW false 4 (zd 7)) (yw false 3 (zk vg (zd 3) (zd 7))) [.v (.int n),.v (.int c),.v (.int mo),.v (.int le),.o (ns.map .int),.v (.int dg2),.v (.int x),.v (.int s2)]).w
   (fun ρ=>∃ (le dg:Int) (ns:List Int) (o1 o2:Sl),ρ=[.v (.int n),.v (.int c),.v (.int mo),.v (.int le),.o (ns.map .int),.v (.int dg),o1,o2]/\ns.length=i+1/\(∀ x∈ns,0<=x)/\0<=le/\ns.sum+le=mo)
   (fun ρ'=>(sFz 4 (yd (eFn zH (zb (zd 4) zo))) ρ').w (λ_=>∃ ns:List Int,D.non=.tup (ns.map .int)/\(ns.length:Int)=n/\(∀ x∈ns,0<=x)/\ns.sum<=mo) noP noP λd=>∃ ns:List Int,d=.tup (ns.map .int)/\(ns.length:Int)=n/\(∀ x∈ns,0<=x)/\ns.sum<=mo)
   (fun ρ=>∃ (le dg:Int) (ns:List Int) (o1 o2:Sl),ρ=[.v (.int n),.v (.int c),.v (.int mo),.v (.int le),.o (ns.map .int),.v (.int dg),o1,o2]/\ns.length=i+1/\(∀ x∈ns,0<=x)/\0<=le/\ns.sum+le=mo)
   (λd=>∃ ns:List Int,d=.tup (ns.map .int)/\(ns.length:Int)=n/\(∀ x∈ns,0<=x)/\ns.sum<=mo):=λs2 dg2 g1 g2=>by
   refine zp (ρ':=[.v (.int n),.v (.int c),.v (.int mo),.v (.int le),.o ((ns++[s2]).map .int),.v (.int dg2),.v (.int x),.v (.int s2)]) ?_ (xG rfl ⟨le - s2,dg2,ns++[s2],_,_,rfl,?_,?_,by omega,?_⟩)
   .show(match (if decide ((ns.map D.int).length < sizeLine)=true then some ([.v (.int n),.v (.int c),.v (.int mo),.v (.int le),.o (ns.map .int++[.int s2]),.v (.int dg2),.v (.int x),.v (.int s2)]:SE)else none)with | some ρ'=>Ctl.nx ρ' | none=>Ctl.no)=_
    rw[t4 hz,p9]
    rfl
   .rw[j8,hl];rfl
   .intro y hy
    rcases u0H.mp hy with hy | hy
    .exact hnn y hy
    .rw[d5.mp hy];exact g1
   .rw[u20]
    simp
    omega
  have hm1:(0:Int) < le+1:=by omega
  refine zp (ρ':=[.v (.int n),.v (.int c),.v (.int mo),.v (.int le),.o (ns.map .int),.v (.int dg),.v (.int x),.v (.int (st % (le+1)))]) (by simp[fnD,zE,yd,yX,sIf,yw,xH,sNo,zF,Zh,wo,wW,Ye,vb,vEv,visF,visG,Sl.f,Sl.g,zd,eC,zk,x9,eOr,Ys,eIf,eUn,Yf,xt,yx,yc,zb,zo,zn,eFn,fFn,tOf,yg,wm,zS,asB,asI,zv,vg,wd,yh,yO,vY,yG,ltD,leD,gtD,geD,Yd,zz,zJ,zA,zI,Yq,zC,ixD,we,zT,isT,eSl,ym,yj,zV,yo,iOf,wg,yn,Yr,vo,wX,zM,yN,fLC,zR,zH,yq,zP,vD,ye,vH,b1,b2,es,hm1]) ?_
  by_cases hc:c % 2=0
  .have hm2:(0:Int) < mo+1:=by omega
   have hm3:mo+1 < 1606938044258990275541962092341162602522202993782792835301376:=by omega
   refine yf (vw (c:=true) (by simp[fnD,zE,yd,yX,sIf,yw,xH,sNo,zF,Zh,wo,wW,Ye,vb,vEv,visF,visG,Sl.f,Sl.g,zd,eC,zk,x9,eOr,Ys,eIf,eUn,Yf,xt,yx,yc,zb,zo,zn,eFn,fFn,tOf,yg,wm,zS,asB,asI,zv,vg,wd,yh,yO,vY,yG,ltD,leD,gtD,geD,Yd,zz,zJ,zA,zI,Yq,zC,ixD,we,zT,isT,eSl,ym,yj,zV,yo,iOf,wg,yn,Yr,vo,wX,zM,yN,fLC,zR,zH,yq,zP,vD,ye,vH,b1,b2,hc]) (λ_=>?_) (λz=>by cases z))
   refine zp (ρ':=[.v (.int n),.v (.int c),.v (.int mo),.v (.int le),.o (ns.map .int),.v (.int dg),.v (.int x),.v (.int (if dg % (mo+1) < le then dg % (mo+1)else le))]) (by simp[fnD,zE,yd,yX,sIf,yw,xH,sNo,zF,Zh,wo,wW,Ye,vb,vEv,visF,visG,Sl.f,Sl.g,zd,eC,zk,x9,eOr,Ys,eIf,eUn,Yf,xt,yx,yc,zb,zo,zn,eFn,fFn,tOf,yg,wm,zS,asB,asI,zv,vg,wd,yh,yO,vY,yG,ltD,leD,gtD,geD,Yd,zz,zJ,zA,zI,Yq,zC,ixD,we,zT,isT,eSl,ym,yj,zV,yo,iOf,wg,yn,Yr,vo,wX,zM,yN,fLC,zR,zH,yq,zP,vD,ye,vH,b1,b2,hm2,zjD]) (xG (ρ':=[.v (.int n),.v (.int c),.v (.int mo),.v (.int le),.o (ns.map .int),.v (.int (dg / (mo+1))),.v (.int x),.v (.int (if dg % (mo+1) < le then dg % (mo+1)else le))]) (by simp[fnD,zE,yd,yX,sIf,yw,xH,sNo,zF,Zh,wo,wW,Ye,vb,vEv,visF,visG,Sl.f,Sl.g,zd,eC,zk,x9,eOr,Ys,eIf,eUn,Yf,xt,yx,yc,zb,zo,zn,eFn,fFn,tOf,yg,wm,zS,asB,asI,zv,vg,wd,yh,yO,vY,yG,ltD,leD,gtD,geD,Yd,zz,zJ,zA,zI,Yq,zC,ixD,we,zT,isT,eSl,ym,yj,zV,yo,iOf,wg,yn,Yr,vo,wX,zM,yN,fLC,zR,zH,yq,zP,vD,ye,vH,b1,b2,hm2,hm3]) ?_)
   have p1:0<=dg % (mo+1):=u2U _ (by omega)
   exact fin _ _ (by split <;> omega) (by split <;> omega)
  .refine yf (vw (c:=false) (by simp[fnD,zE,yd,yX,sIf,yw,xH,sNo,zF,Zh,wo,wW,Ye,vb,vEv,visF,visG,Sl.f,Sl.g,zd,eC,zk,x9,eOr,Ys,eIf,eUn,Yf,xt,yx,yc,zb,zo,zn,eFn,fFn,tOf,yg,wm,zS,asB,asI,zv,vg,wd,yh,yO,vY,yG,ltD,leD,gtD,geD,Yd,zz,zJ,zA,zI,Yq,zC,ixD,we,zT,isT,eSl,ym,yj,zV,yo,iOf,wg,yn,Yr,vo,wX,zM,yN,fLC,zR,zH,yq,zP,vD,ye,vH,b1,b2,hc]) (λz=>by cases z) (λ_=>xG rfl ?_))
   exact fin _ _ hlo (by omega)
 .rintro ρ ⟨le,dg,ns,o1,o2,rfl,hl,hnn,hle,hs⟩
  refine zkZ rfl (vT rfl ⟨ns,rfl,by omega,hnn,by omega⟩)
theorem V3 (T:Txt K mg ad):xc P w K mg base CX0 2 ad.f__law_heap_by ad.e__law_heap_by ["many","cell","most"] (@spD ⟨K⟩ 3 Yo):=by
 letI:KK:=⟨K⟩
 have G__law_stir:=wH (P:=P) (w:=w) (base:=base) T
 refine yz (N:=["many","cell","most","left_v","heap","digits","k","stones"]) (ps:=["many","cell","most"]) T.d__law_heap_by.fn zY (g:=xy) λcdv A outer s H E hr=>?_
 unfold xy wY
 exact(ze (zZ (m:=false) (i:=3) zY.nd rfl (Or.inl rfl) (edv 2))
  (ze (Zp (i:=4) zY.nd rfl (Or.inl rfl) (v6 zf))
  (ze (zZ (m:=false) (i:=5) zY.nd rfl (Or.inl rfl) (Z9 (edv 1) (zh zi)))
  (ze (Vc i5 rfl rfl T.z_range (za (edv 0) zf) (ya (zx (i:=6) zY.nd rfl (Or.inl rfl))) (ze (zZ (m:=false) (i:=7) zY.nd rfl (Or.inl rfl) (wj (zj G__law_stir hr rfl T.d__law_stir (za (edv 1) (za (xq (zh zi) (edv 6)) zf))) (xq (edv 3) (zh zi))))
  (ze (yr (zN (Zg hr) vm (zG _) (wj (edv 1) (zh zi)) (zh zi)) (ze (zZ (m:=false) (i:=7) zY.nd rfl (Or.inl rfl) (zU (zb7 rfl) zeK rfl T.z_min zcb (za (edv 3) (za (wj (edv 5) (xq (edv 2) (zh zi))) zf))))
  (zg (zZ (m:=false) (i:=5) zY.nd rfl (Or.inl rfl) (Z9 (edv 5) (xq (edv 2) (zh zi)))))) zD)
  (ze (X7 (m:=false) (pv 4) (edv 7) (λa b=>V1 u0j u0p u0q wc a b))
  (zg (zZ (m:=false) (i:=3) zY.nd rfl (Or.inl rfl) (WL (edv 3) (edv 7))))))))
  (Xw 4 (zg (zu (wL yC wP rfl T.z_tuple yB (za (edv 4) zf)))))))))
theorem zaQ {ts:List Tie}(h:ts.length < 64):zck [.lst (ts.map zc)]=some ((XG ts).map zc):=by
 show(if (ts.map zc).length < 64 then _ else none)=_
 rw[t4 (by rw[u6];exact h),show zdQ (ts.map zc)=some ts from zhD ts]
 rfl
structure zkW (n:Int) (i:Nat) (ts:List Tie):Prop where
 rng:∀ t∈ts,0<=t.1/\t.1 < t.2/\t.2 < n
 nd:ts.Nodup
 has:∀ k:Int,1<=k->k<=(i:Int)->∃ t∈ts,t.2=k
 len:ts.length<=28+i
theorem zkW.yes {n x:Int}{i:Nat}{ts:List Tie}(h:zkW n i ts)(hx:x=1+(i:Int)){t:Tie}(ht:t∈ts)(e:t.2=x):zkW n (i+1) ts :=
 ⟨h.rng,h.nd,λk k1 k2=>by
  by_cases c:k=x
  .exact⟨t,ht,by rw[e,c]⟩
  .exact h.has k k1 (by omega),Nat.le_succ_of_le h.len⟩
theorem zkW.add {n x j:Int}{i:Nat}{ts:List Tie}(h:zkW n i ts)(hx:x=1+(i:Int))(hn:x < n)(j0:0<=j)(j1:j < x)(hno:∀ t∈ts,t.2≠x):zkW n (i+1) (ts++[(j,x)]):=by
 refine⟨λt ht=>?_,?_,λk k1 k2=>?_,?_⟩
 .rcases u0H.mp ht with ht | ht
  .exact h.rng t ht
  .cases d5.mp ht;exact⟨j0,j1,hn⟩
 .refine u2v.mpr ⟨h.nd,u0y.mpr ⟨u0c,u1B⟩,λa ha b hb e=>?_⟩
  cases d5.mp hb
  exact hno a ha (by rw[e])
 .by_cases c:k=x
  .exact⟨(j,x),u0H.mpr (.inr (d5.mpr rfl)),c.symm⟩
  .obtain⟨t,ht,e⟩:=h.has k k1 (by omega)
   exact⟨t,u0H.mpr (.inl ht),e⟩
 .rw[j8]
  exact u1N h.len
theorem znA {ρ:Ev}{ts:List Tie}{x:Int}(h2:ρ[2]?=some (some (.lst (ts.map zc))))(h3:ρ[3]?=some (some (.int x)))(hl:ts.length<=1000):fLC (iOf (zd 2)) b1 (tOf (zk XJ (zk ixD (zd 0) (eC (.int 1))) (zd 4))) (zd 0) ρ=some ((ts.filter λt=>decide (t.2=x)).map zc):=by
 have e2:zd 2 ρ=some (.lst (ts.map zc)):=by unfold zd;rw[h2];rfl
 unfold fLC
 show(((zd 2 ρ).bind yo).bind λds=>if lim ds.length=true then _ else none)=_
 rw[e2]
 show(if lim (ts.map zc).length=true then _ else none)=_
 rw[t4 (vp (by rw[u6];exact hl))]
 refine WC zc (λt=>decide (t.2=x)) zc ts λt _=>⟨[some (zc t)],rfl,?_,λ_=>rfl⟩
 have e3:zd 4 ([some (zc t)]++ρ)=some (.int x):=by
  unfold zd
  rw[show([some (zc t)]++ρ)[4]?=ρ[3]? from rfl,h3]
  rfl
 show((some (D.int t.2)).bind λa=>(zd 4 ([some (zc t)]++ρ)).bind λb=>XJ a b).bind asB=_
 rw[e3]
 rfl
def xW:SE->Ctl :=
 (zE (yw false 4 (xt (zb (zk yO (zn 2 yb (zb (zd 1) (zb (zk Yc (eC (.int 50)) (zd 3)) zo))) (zd 3)) (zb (zd 3) zo))))
  (sIf (tOf (zk XJ (eFn we (zb (yx (fLC (iOf (zd 2)) b1 (tOf (zk XJ (zk ixD (zd 0) (eC (.int 1))) (zd 4))) (zd 0))) zo)) (eC (.int 0)))) (wW false 2 (zd 4)) zF))
def y0:SE->Ctl :=
 (zE (wo 2 (fFn yq (zb (zk ixD (zn 2 vB (zb (zd 0) (zb (zd 1) zo))) (eC (.int 1))) zo)))
  (zE (yn wX (zb (eC (.int 1)) (zb (zd 0) zo)) (zP 3) xW)
  (sFz 2 (yd (xt (zb (zd 0) (zb (eFn zH (zb (yx (fFn zck (zb (zd 2) zo))) zo)) zo)))))))
def ve:List D->Option D:=fnD 5 y0
theorem zcD {n c:Int}(h1:1<=n)(h8:n<=8):∃ ts,ve [.int n,.int c]=some (zO n ts)/\y9 n ts/\(∀ x:Int,1<=x->x < n->∃ t∈ts,t.2=x):=by
 obtain⟨ts0,ew,hsub⟩:=zhH (n:=n) (c:=c) h1 h8
 obtain⟨k,hk⟩:∃ k:Nat,n=((k+1:Nat):Int):=⟨(n - 1).toNat,by omega⟩
 have hk7:k<=7:=by omega
 obtain⟨q1,q2,q3⟩:=zac n.toNat (by omega)
 have key:=zfb (m:=5) (g:=y0) (ds:=[.int n,.int c]) (R:=λd=>∃ ts:List Tie,d=zO n (XG ts)/\zkW n k ts) (ρ:=[.v (.int n),.v (.int c),.no,.no,.no]) rfl ?_
 .obtain⟨d,e,ts,rfl,hj⟩:=key
  have hp:=Wl ts
  have hr:∀ t∈XG ts,0<=t.1/\t.1 < t.2/\t.2 < n:=λt ht=>hj.rng t (hp.mem_iff.mp ht)
  refine⟨_,e,⟨h1,h8,hr,zcF hj.nd⟩,λx x1 x2=>?_⟩
  obtain⟨t,ht,e2⟩:=hj.has x x1 (by omega)
  exact⟨t,hp.mem_iff.mpr ht,e2⟩
 unfold y0
 refine zp (ρ':=[.v (.int n),.v (.int c),.o (ts0.map zc),.no,.no]) (zdF (ds:=ts0.map zc) ?_) ?_
 .show(((vB [.int n,.int c]).bind λx=>ixD x (.int 1)).bind λd=>(some []).map (d::·)).bind yq=_
  rw[ew]
  rfl
 have hrng:wX [.int 1,.int n]=some (W4 1 k):=zoP hk hk7
 refine yf (zcO (lo:=1) (c:=k) (λi ρ=>∃ (ts:List Tie) (o3 o4:Sl),ρ=[.v (.int n),.v (.int c),.o (ts.map zc),o3,o4]/\zkW n i ts) hrng ⟨ts0,_,_,rfl,⟨λt ht=>?_,(q1.sublist hsub).imp λ{a b} h e=>by subst e;exact absurd (X8.mpr h) (by unfold leP;simp),λk k1 k2=>absurd (Int.le_trans k1 k2) (by decide),p6 hsub.length_le q3⟩⟩ ?_ ?_)
 .have:=q2 t (hsub.subset ht)
  omega
 .rintro i ρ hi ⟨ts,o3,o4,rfl,hj⟩
  obtain⟨x,hx⟩:∃ x:Int,x=(1:Int)+(i:Int):=⟨_,rfl⟩
  rw[<-hx]
  refine⟨[.v (.int n),.v (.int c),.o (ts.map zc),.v (.int x),o4],rfl,?_⟩
  unfold xW
  obtain⟨j,hjj⟩:∃ j:Int,zda c (50+x) % x=j:=⟨_,rfl⟩
  have xp:0 < x:=by omega
  obtain⟨j0,j1⟩:=Vo xp hjj
  have hl:=hj.len
  refine zp (ρ':=[.v (.int n),.v (.int c),.o (ts.map zc),.v (.int x),.v (zc (j,x))]) (Zm (d:=zc (j,x)) ?_) ?_
  .have m1:yO (.int (zda c (50+x))) (.int x)=some (.int j):=by rw[xZ xp,hjj]
   show((yO (.int (zda c (50+x))) (.int x)).bind λd=>(some [D.int x]).map (d::·)).bind _=_
   rw[m1]
   rfl
  refine vw (c:=decide ((((ts.filter λt=>decide (t.2=x)).map zc).length:Int)=0)) ?_ (λc0=>?_) (λc0=>?_)
  .have el':=znA (ρ:=visG [.v (.int n),.v (.int c),.o (ts.map zc),.v (.int x),.v (zc (j,x))]) (ts:=ts) (x:=x) rfl rfl (by omega)
   show(((((fLC (iOf (zd 2)) b1 (tOf (zk XJ (zk ixD (zd 0) (eC (.int 1))) (zd 4))) (zd 0) _).map D.lst).bind λd=>(some []).map (d::·)).bind we).bind λa=>XJ a (.int 0)).bind asB=_
   rw[el']
   rfl
  .refine xG (WH (ds:=ts.map zc) (d:=zc (j,x)) rfl rfl (by rw[u6];omega)) ⟨ts++[(j,x)],.v (.int x),.v (zc (j,x)),?_,hj.add hx (by omega) j0 j1 λt ht e=>?_⟩
   .rw[p9];rfl
   .have h0:=d7 c0
    have:t∈ts.filter λt=>decide (t.2=x):=p8.mpr ⟨ht,j7 e⟩
    rw[u6]at h0
    rw[u01.mp (u3F h0)]at this
    cases this
  .obtain⟨t,ht⟩:∃ t,t∈ts.filter λt=>decide (t.2=x):=by
    rcases hf:ts.filter λt=>decide (t.2=x)with _ | ⟨t,r⟩
    .rw[hf]at c0;cases c0
    .exact⟨t,by rw[hf];exact d6⟩
   obtain⟨t1,t2⟩:=p8.mp ht
   exact xG rfl ⟨ts,_,_,rfl,hj.yes hx t1 (d7 t2)⟩
 .rintro ρ ⟨ts,o3,o4,rfl,hj⟩
  have hl:=hj.len
  have e5:=zaQ (ts:=ts) (by omega)
  refine zkZ (ρ':=[.v (.int n),.v (.int c),.v (.lst (ts.map zc)),o3,o4]) rfl ?_
  refine vT (xk (d:=zO n (XG ts)) ?_) ⟨ts,rfl,hj⟩
  show((((((zck [.lst (ts.map zc)]).map D.lst).bind λd=>(some []).map (d::·)).bind zH).bind λd=>(some []).map (d::·)).map (D.int n::·)).bind _=_
  rw[e5]
  rfl
theorem Wk (T:Txt K mg ad):xc P w K mg base CX0 3 ad.f__law_joined_by ad.e__law_joined_by ["many","cell"] (@spD ⟨K⟩ 2 ve):=by
 letI:KK:=⟨K⟩
 have G__law_stir:=wH (P:=P) (w:=w) (base:=base) T
 have G__law_web_by:=zaF (P:=P) (w:=w) (base:=base) T
 refine yz (N:=["many","cell","ties","k","tie"]) (ps:=["many","cell"]) T.d__law_joined_by.fn xm (g:=y0) λcdv A outer s H E hr=>?_
 unfold y0 xW
 exact(ze (Zp (i:=2) xm.nd rfl (Or.inl rfl) (WF rfl T.z_list (za (zL (zj G__law_web_by hr rfl T.d__law_web_by (za (edv 0) (za (edv 1) zf))) (zh zi) (λ_ _=>rfl)) zf)))
  (ze (zjO i5 rfl rfl T.z_range (za (zh zi) (za (edv 0) zf)) (ya (zx (i:=3) xm.nd rfl (Or.inr rfl))) (ze (zZ (m:=false) (i:=4) xm.nd rfl (Or.inl rfl) (xr (za (wj (zj G__law_stir hr rfl T.d__law_stir (za (edv 1) (za (xq (zh zi) (edv 3)) zf))) (edv 3)) (za (edv 3) zf))))
  (zg (yr (zN (Zg hr) vm (zG _) (zU zQ x6 rfl T.z_len v9 (za (wf (zhA (L:=["other"]) (M:=["many","cell","ties","k","tie"]) rfl (wU (by rfl) (by rfl) (by rfl) (by with_unfolding_all rfl) (by rfl) (by rfl) (by kernel_rfl) (all_cons rfl xb)) (xo (edv 2)) gs1 rb1 (λ_ _ _ _=>(zx (i:=0) zpa rfl (Or.inl rfl) (.inr rfl))) (λ_ _ _ _=>(zN (Zg hr) vm (zG _) (zL (edv 0) (zh zi) (λ_ _=>rfl)) (edv 4))) (λ_ _ _ _=>(edv 0)))) zf)) (zh zi)) (zg (X7 (m:=false) (pv 2) (edv 4) (λa b=>V1 u0j u0p u0q wc a b))) zD))))
  (Xw 2 (zg (zu (xr (za (edv 0) (za (wL yC wP rfl T.z_tuple yB (za (wf (zcT rfl rfl T.z_sorted (za (edv 2) zf))) zf)) zf))))))))
theorem zbg {m:Int}{ts:List Tie}{a b:Int}(ok:y9 m ts)(h:Zk a b∈ts):(0<=a/\a < m)/\(0<=b/\b < m)/\a≠b:=by
 have:=ok.rng _ h
 unfold Zk at this
 dsimp only at this
 split at this <;> split at this <;> omega
def XE:SE->Ctl :=
 (yd (x9 (zn 2 xl (zb (zk ixD (zd 0) (eC (.int 0))) (zb (zd 1) zo))) (zk inD (zn 2 xn (zb (zk ixD (zd 1) (eC (.int 0))) (zb (zk ixD (zd 1) (eC (.int 1))) zo))) (zk ixD (zd 0) (eC (.int 1))))))
def xT:List D->Option D:=fnD 2 XE
theorem zaU {m:Int}{ts:List Tie}(ok:y9 m ts)(a b:Int):xT [zO m ts,.tup [.int a,.int b]]=some (.bl (decide (Zk a b∈ts))):=by
 have ep:xl [.int m,.tup [.int a,.int b]]=some (.bl (inR m a&&inR m b&&!decide (a=b))):=rfl
 have et:xn [.int a,.int b]=some (zc (Zk a b)):=rfl
 have ei:=zet (Zk a b) ts
 have em:ixD (zO m ts) (.int 0)=some (.int m):=rfl
 have e1:ixD (zO m ts) (.int 1)=some (.tup (ts.map zc)):=rfl
 have ea:ixD (.tup [.int a,.int b]) (.int 0)=some (.int a):=rfl
 have eb:ixD (.tup [.int a,.int b]) (.int 1)=some (.int b):=rfl
 refine Xv (ρ:=[.v (zO m ts),.v (.tup [.int a,.int b])]) rfl ?_
 unfold XE
 refine vT (xk ?_) rfl
 cases hp:inR m a&&inR m b&&!decide (a=b) with
 | true =>
  rw[hp]at ep
  show(((xl [.int m,.tup [.int a,.int b]]).bind asB).bind λc=>if c=true then ((xn [.int a,.int b]).bind λt=>inD t (.tup (ts.map zc)))else some (D.bl false))=_
  rw[ep,et]
  exact ei
 | false =>
  have:¬ Zk a b∈ts:=λh=>by
   obtain⟨h1,h2,h3⟩:=zbg ok h
   have:(inR m a&&inR m b&&!decide (a=b))=true:=by
    unfold inR
    simp only[g0,r9,u3u,u0u]
    omega
   rw[this]at hp
   cases hp
  rw[g9 this]
  rw[hp]at ep
  show(((xl [.int m,.tup [.int a,.int b]]).bind asB).bind λc=>if c=true then ((xn [.int a,.int b]).bind λt=>inD t (.tup (ts.map zc)))else some (D.bl false))=_
  rw[ep]
  rfl
theorem Wa (T:Txt K mg ad):xc P w K mg base CX0 5 ad.f_is_step ad.e_is_step ["web","thing"] (@spD ⟨K⟩ 2 xT):=by
 letI:KK:=⟨K⟩
 have G_is_pair:=za3 (P:=P) (w:=w) (base:=base) T
 have G_tie_between:=zay (P:=P) (w:=w) (base:=base) T
 refine yz (N:=["web","thing"]) (ps:=["web","thing"]) T.d_is_step.fn zfZ (g:=XE) λcdv A outer s H E hr=>?_
 unfold XE
 exact(zg (zu (vM (zj G_is_pair hr rfl T.d_is_pair (za (zL (edv 0) (zh zi) (λ_ _=>rfl)) (za (edv 1) zf))) (YC (Yt (Vv hr) VL (by with_unfolding_all rfl) (zj G_tie_between hr rfl T.d_tie_between (za (zL (edv 1) (zh zi) (λ_ _=>rfl)) (za (zL (edv 1) (zh zi) (λ_ _=>rfl)) zf))) (zL (edv 0) (zh zi) (λ_ _=>rfl)))))))
abbrev TR:=Int × Int × Int
def trD (r:TR):D:=.tup [.int r.1,.int r.2.1,.int r.2.2]
def trP (r:TR):Tie:=(r.1,r.2.1)
structure Zj (ts:List Tie) (rs:List TR):Prop where
 row:∀ r∈rs,Zk r.1 r.2.1∈ts/\1<=r.2.2/\r.2.2<=300
 srt:rs.Pairwise λa b=>ltP (trP a) (trP b)
 len:rs.length<=1000
def wD:SE->Ctl :=
 (zE (sIf (wm (zS (tOf (eUn (zT .tuple) (zd 1)))) (tOf (zk neD (eFn we (zb (zd 1) zo)) (eC (.int 3))))) (yd (eC (.bl false))) zF)
  (yd (x9 (zn 2 xT (zb (zd 0) (zb (eSl slD (zd 1) ym (yj (eC (.int 2)))) zo))) (zn 3 zy (zb (zk ixD (zd 1) (eC (.int 2))) (zb (eC (.int 1)) (zb (eC (.int 300)) zo)))))))
def wE:List D->Option D:=fnD 2 wD
theorem Vy {m:Int}{ts:List Tie}(ok:y9 m ts)(r:TR):wE [zO m ts,trD r]=some (.bl (decide (Zk r.1 r.2.1∈ts)&&(decide (1<=r.2.2)&&decide (r.2.2<=300)))):=by
 have es:=zaU ok r.1 r.2.1
 have ew:zy [.int r.2.2,.int 1,.int 300]=some (.bl (decide (1<=r.2.2)&&decide (r.2.2<=300))):=rfl
 refine Xv (ρ:=[.v (zO m ts),.v (trD r)]) rfl ?_
 unfold wD
 refine yf (vw (c:=false) rfl (λz=>by cases z) (λ_=>xG rfl ?_))
 refine vT (xk ?_) rfl
 show(((xT [zO m ts,.tup [.int r.1,.int r.2.1]]).bind asB).bind λc=>if c=true then zy [.int r.2.2,.int 1,.int 300]else some (.bl false))=_
 rw[es,ew]
 cases decide (Zk r.1 r.2.1∈ts) <;> rfl
theorem zab (T:Txt K mg ad):xc P w K mg base CX0 6 ad.f_is_tally_row ad.e_is_tally_row ["web","thing"] (@spD ⟨K⟩ 2 wE):=by
 letI:KK:=⟨K⟩
 have G_is_whole_within:=xg (P:=P) (w:=w) (base:=base) T
 have G_is_step:=Wa (P:=P) (w:=w) (base:=base) T
 refine yz (N:=["web","thing"]) (ps:=["web","thing"]) T.d_is_tally_row.fn VN (g:=wD) λcdv A outer s H E hr=>?_
 unfold wD
 exact(ze (yr (zdI (V5 (xi (yA (zK .tuple rfl T.z_isinstance (edv 1) (yl (v:=.ty "tuple") rfl T.z_tuple yB rfl)))) (XV (zN zbz Xx (zG _) (zU zQ x6 rfl T.z_len v9 (za (edv 1) zf)) (zh zi))))) (zg (zu (wZ vf))) zD)
  (zg (zu (vM (zj G_is_step hr rfl T.d_is_step (za (edv 0) (za (vy (edv 1) YS (Za (zh zi))) zf))) (YC (zj G_is_whole_within hr rfl T.d_is_whole_within (za (zL (edv 1) (zh zi) (λ_ _=>rfl)) (za (zh zi) (za (zh (zb4 (v:=.int 300) rfl T.g_MOST_TIMES ⟨_,rfl⟩)) zf)))))))))
def xS:SE->Ctl :=
 (zE (sIf (zS (tOf (zn 2 wE (zb (zd 0) (zb (zd 3) zo))))) (yd (eC (.bl false))) zF)
  (sIf (yg (tOf (zk gtD (zd 2) (eC (.int 0)))) (tOf (zk leT (eSl slD (zd 3) ym (yj (eC (.int 2)))) (eSl slD (zk ixD (zd 1) (zk vg (zd 2) (eC (.int 1)))) ym (yj (eC (.int 2))))))) (yd (eC (.bl false))) zF))
def xB:SE->Ctl :=
 (zE (sIf (zS (tOf (eUn (zT .tuple) (zd 1)))) (yd (eC (.bl false))) zF)
  (zE (wg (zM (zb (zd 1) zo)) (vD 2 (ye (zP 2) (ye (zP 3) vH))) xS)
  (yd (eC (.bl true)))))
def y6:List D->Option D:=fnD 4 xB
theorem Zr {m:Int}{ts:List Tie}{rs:List TR}(ok:y9 m ts)(h:Zj ts rs):y6 [zO m ts,.tup (rs.map trD)]=some (.bl true):=by
 refine Xv (ρ:=[.v (zO m ts),.v (.tup (rs.map trD)),.no,.no]) rfl ?_
 unfold xB
 refine yf (vw (c:=false) rfl (λz=>by cases z) (λ_=>xG rfl ?_))
 refine yf (ZZ (ds:=Zu 0 (rs.map trD)) (λ_ ρ=>∃ o2 o3:Sl,ρ=[.v (zO m ts),.v (.tup (rs.map trD)),o2,o3]) rfl ⟨_,_,rfl⟩ ?_ ?_)
 .rintro i d ρ hd ⟨o2,o3,rfl⟩
  rw[xx,j5,u0m]at hd
  obtain⟨x,hx,rfl⟩:=u8.mp hd
  obtain⟨r,hr,rfl⟩:=u8.mp hx
  obtain⟨h1,h2,h3⟩:=h.row r (d9 hr)
  have e1:=Vy ok r
  rw[j7 h1,j7 h2,j7 h3]at e1
  refine⟨[.v (zO m ts),.v (.tup (rs.map trD)),.v (.int (i:Int)),.v (trD r)],rfl,?_⟩
  unfold xS
  refine yf (vw (c:=false) ?_ (λz=>by cases z) (λ_=>xG rfl ?_))
  .show(((wE [zO m ts,trD r]).bind asB).map (!·))=_
   rw[e1]
   rfl
  refine vw (c:=false) ?_ (λz=>by cases z) (λ_=>xG rfl ⟨_,_,rfl⟩)
  cases i with
  | zero=>rfl
  | succ j =>
   obtain⟨q,hq⟩:∃ q,rs[j]?=some q:=⟨_,t9 (u3x (t6.mp hr).1)⟩
   have hlt:ltP (trP q) (trP r):=by
    obtain⟨a1,a2⟩:=t6.mp hr
    obtain⟨b1,b2⟩:=t6.mp hq
    have:=u3n.mp h.srt j (j+1) b1 a1 (u2b j)
    rwa[a2,b2]at this
   have e2:L2.atI (rs.map trD) (((j+1:Nat):Int) - 1)=some (trD q):=zcY (by omega) (by rw[show(((j+1:Nat):Int) - 1).toNat=j by omega,j5,hq];rfl)
   have e3:leT (zc (trP r)) (zc (trP q))=some (.bl false):=by
    show some (D.bl (leP (trP r) (trP q)))=_
    rw[X8.mpr hlt]
   have e4:gtD (.int ((j+1:Nat):Int)) (.int 0)=some (.bl true):=by
    show some (D.bl (decide (0 < ((j+1:Nat):Int))))=_
    rw[j7 (by omega)]
   show((gtD (.int ((j+1:Nat):Int)) (.int 0)).bind asB).bind (λc=>if c=true then (((L2.atI (rs.map trD) (((j+1:Nat):Int) - 1)).bind λx=>(slD x none (some 2))).bind λy=>leT (zc (trP r)) y).bind asB else some false)=_
   rw[e4,e2]
   show((leT (zc (trP r)) (zc (trP q))).bind asB)=_
   rw[e3]
   rfl
 .rintro ρ ⟨o2,o3,rfl⟩
  exact vT rfl rfl
theorem Ws (T:Txt K mg ad):xc P w K mg base CX0 7 ad.f_are_tally_rows ad.e_are_tally_rows ["web","thing"] (@spD ⟨K⟩ 2 y6):=by
 letI:KK:=⟨K⟩
 have G_is_tally_row:=zab (P:=P) (w:=w) (base:=base) T
 refine yz (N:=["web","thing","at","row"]) (ps:=["web","thing"]) T.d_are_tally_rows.fn wu (g:=xB) λcdv A outer s H E hr=>?_
 unfold xB xS
 exact(ze (yr (xi (yA (zK .tuple rfl T.z_isinstance (edv 1) (yl (v:=.ty "tuple") rfl T.z_tuple yB rfl)))) (zg (zu (wZ vf))) zD)
  (ze (vP i5 rfl (ZE rfl T.z_enumerate yP (za (edv 1) zf)) (XF rfl (yu (ya (zx (i:=2) wu.nd rfl (Or.inl rfl))) (yu (ya (zx (i:=3) wu.nd rfl (Or.inl rfl))) YX))) (ze (yr (xi (yA (zj G_is_tally_row hr rfl T.d_is_tally_row (za (edv 0) (za (edv 3) zf))))) (zg (zu (wZ vf))) zD)
  (zg (yr (zdI (za9 (zN zaG yk (zG _) (edv 2) (zh zi)) (Wm (zN (zkP hr.units0) zhT (zG _) (vy (edv 3) YS (Za (zh zi))) (vy (zL (edv 1) (WL (edv 2) (zh zi)) (λ_ _=>rfl)) YS (Za (zh zi))))))) (zg (zu (wZ vf))) zD))))
  (zg (zu (wZ vf)))))
def wa:SE->Ctl :=
 (sIf (zS (tOf (zn 2 y6 (zb (zd 0) (zb (zd 1) zo))))) sNo zF)
def yI:List D->Option D:=fnD 2 wa
theorem Yn {m:Int}{ts:List Tie}{d:D}(h:y6 [zO m ts,d]=some (.bl true)):yI [zO m ts,d]=some .non:=by
 refine Xv (ρ:=[.v (zO m ts),.v d]) rfl ?_
 unfold wa
 refine vw (c:=false) ?_ (λz=>by cases z) (λ_=>xG rfl rfl)
 show(((y6 [zO m ts,d]).bind asB).map (!·))=_
 rw[h]
 rfl
theorem w8 (T:Txt K mg ad):xc P w K mg base CX0 8 ad.f_must_be_tally ad.e_must_be_tally ["web","thing"] (@spD ⟨K⟩ 2 yI):=by
 letI:KK:=⟨K⟩
 have G_are_tally_rows:=Ws (P:=P) (w:=w) (base:=base) T
 refine yz (N:=["web","thing"]) (ps:=["web","thing"]) T.d_must_be_tally.fn W0 (g:=wa) λcdv A outer s H E hr=>?_
 unfold wa
 exact(zg (yr (xi (yA (zj G_are_tally_rows hr rfl T.d_are_tally_rows (za (edv 0) (za (edv 1) zf))))) (zg v7) zD))
def YG (hs:List Int)(r:TR):List Int:=(hs.set r.1.toNat (vAt hs r.1 - 2*r.2.2)).set r.2.1.toNat (vAt (hs.set r.1.toNat (vAt hs r.1 - 2*r.2.2)) r.2.1+r.2.2)
theorem yQ (hs:List Int)(r:TR):(YG hs r).length=hs.length:=by
 unfold YG
 rw[u1E,u1E]
def xE (hs:List Int)(rs:List TR):List Int:=rs.foldl YG hs
def zkK (m:Int)(r:TR):Prop:=(0<=r.1/\r.1 < m)/\(0<=r.2.1/\r.2.1 < m)/\r.1≠r.2.1/\1<=r.2.2/\r.2.2<=300
theorem Zj.trIn {m:Int}{ts:List Tie}{rs:List TR}(ok:y9 m ts)(h:Zj ts rs):∀ r∈rs,zkK m r:=λr hr =>
 let x:=h.row r hr
 let y:=zbg ok x.1
 ⟨y.1,y.2.1,y.2.2,x.2.1,x.2.2⟩
theorem zhu {hs:List Int}{rs:List TR}{i:Nat}{r:TR}(h:rs[i]?=some r):xE hs (rs.take (i+1))=YG (xE hs (rs.take i)) r:=by
 unfold xE
 rw[u1F,h,u2u]
 rfl
def zbB:SE->Ctl :=
 (zE (vb true 2 (zk ixD (zd 3) (eC (.int 0))) (zk vg (zk ixD (zd 2) (zk ixD (zd 3) (eC (.int 0)))) (zk wd (eC (.int 2)) (zk ixD (zd 3) (eC (.int 2))))))
  (vb true 2 (zk ixD (zd 3) (eC (.int 1))) (zk Yc (zk ixD (zd 2) (zk ixD (zd 3) (eC (.int 1)))) (zk ixD (zd 3) (eC (.int 2))))))
def zeQ:SE->Ctl :=
 (zE (wo 2 (fFn yq (zb (zd 0) zo)))
  (zE (wg (iOf (zd 1)) (zP 3) zbB)
  (sFz 2 (yd (eFn zH (zb (zd 2) zo))))))
def zcq:List D->Option D:=fnD 4 zeQ
theorem zgj {m:Int}{hs:List Int}{rs:List TR}(hl:(hs.length:Int)=m)(h8:m<=8)(hr:∀ r∈rs,zkK m r):zcq [.tup (hs.map .int),.tup (rs.map trD)]=some (.tup ((xE hs rs).map .int)):=by
 refine Xv (ρ:=[.v (.tup (hs.map .int)),.v (.tup (rs.map trD)),.no,.no]) rfl ?_
 unfold zeQ
 refine zp (ρ':=[.v (.tup (hs.map .int)),.v (.tup (rs.map trD)),.o (hs.map .int),.no]) (zdF (ds:=hs.map .int) rfl) ?_
 refine yf (ZZ (ds:=rs.map trD) (λi ρ=>∃ o3:Sl,ρ=[.v (.tup (hs.map .int)),.v (.tup (rs.map trD)),.o ((xE hs (rs.take i)).map .int),o3]/\((xE hs (rs.take i)).length:Int)=m) rfl ⟨_,rfl,hl⟩ ?_ ?_)
 .rintro i d ρ hd ⟨o3,rfl,hg⟩
  rw[j5]at hd
  obtain⟨r,hr',rfl⟩:=u8.mp hd
  obtain⟨p1,p2,p3,p4,p5⟩:=hr r (d9 hr')
  rw[zhu hr']
  obtain⟨gs,hgs⟩:∃ gs,xE hs (rs.take i)=gs:=⟨_,rfl⟩
  rw[hgs]at hg ⊢
  refine⟨[.v (.tup (hs.map .int)),.v (.tup (rs.map trD)),.o (gs.map .int),.v (trD r)],rfl,?_⟩
  unfold zbB
  have ea:∀ gs:List Int,zk ixD (zd 3) (eC (.int 0)) (visG [.v (.tup (hs.map .int)),.v (.tup (rs.map trD)),.o (gs.map .int),.v (trD r)])=some (.int r.1):=λgs=>rfl
  have eb:∀ gs:List Int,zk ixD (zd 3) (eC (.int 1)) (visG [.v (.tup (hs.map .int)),.v (.tup (rs.map trD)),.o (gs.map .int),.v (trD r)])=some (.int r.2.1):=λgs=>rfl
  have en:∀ gs:List Int,zk ixD (zd 3) (eC (.int 2)) (visG [.v (.tup (hs.map .int)),.v (.tup (rs.map trD)),.o (gs.map .int),.v (trD r)])=some (.int r.2.2):=λgs=>rfl
  refine zp (zkH (m:=true) (ds:=gs.map .int) (d:=.int (vAt gs r.1 - 2*r.2.2)) (k:=r.1) ?_ (ea gs) rfl p1.1 (by rw[u6];omega)) ?_
  .show(Option.bind (zk vg _ _ (visG [.v (.tup (hs.map .int)),.v (.tup (rs.map trD)),.o (gs.map .int),.v (trD r)])) λd=>if noL d=true then some d else none)=_
   rw[zB (x:=.int (vAt gs r.1)) (y:=.int (2*r.2.2)) (z:=.int (vAt gs r.1 - 2*r.2.2)) (zB (x:=.lst (gs.map .int)) (y:=.int r.1) rfl (ea gs) (zll p1 hg)) (zB (x:=.int 2) (y:=.int r.2.2) rfl (en gs) (Xf (zbJ (by decide) (by decide)))) rfl]
   rfl
  rw[<-u33]
  obtain⟨g1,hg1⟩:∃ g1,gs.set r.1.toNat (vAt gs r.1 - 2*r.2.2)=g1:=⟨_,rfl⟩
  have hl1:(g1.length:Int)=m:=by rw[<-hg1,u1E];exact hg
  have e5:YG gs r=g1.set r.2.1.toNat (vAt g1 r.2.1+r.2.2):=by unfold YG;rw[hg1]
  rw[hg1,e5]
  refine zl0 (g1.map .int) (.int (vAt g1 r.2.1+r.2.2)) r.2.1 ?_ (eb g1) rfl p2.1 (by rw[u6];omega) ⟨.v (trD r),?_,by rw[u1E];exact hl1⟩
  .show(Option.bind (zk Yc _ _ (visG [.v (.tup (hs.map .int)),.v (.tup (rs.map trD)),.o (g1.map .int),.v (trD r)])) λd=>if noL d=true then some d else none)=_
   rw[zB (x:=.int (vAt g1 r.2.1)) (y:=.int r.2.2) (z:=.int (vAt g1 r.2.1+r.2.2)) (zB (x:=.lst (g1.map .int)) (y:=.int r.2.1) rfl (eb g1) (zll p2 hl1)) (en g1) rfl]
   rfl
  .rw[u33]
   rfl
 .rintro ρ ⟨o3,rfl,hg⟩
  rw[u6,u0W]
  exact zkZ rfl (vT rfl rfl)
theorem ziG (T:Txt K mg ad):xc P w K mg base CX0 1 ad.f_left ad.e_left ["heap","tally"] (@spD ⟨K⟩ 2 zcq):=by
 letI:KK:=⟨K⟩
 refine yz (N:=["heap","tally","stones","row"]) (ps:=["heap","tally"]) T.d_left.fn zdK (g:=zeQ) λcdv A outer s H E hr=>?_
 unfold zeQ zbB
 exact(ze (Zp (i:=2) zdK.nd rfl (Or.inl rfl) (WF rfl T.z_list (za (edv 0) zf)))
  (ze (vP i5 rfl (xo (edv 1)) (ya (zx (i:=3) zdK.nd rfl (Or.inl rfl))) (ze (za7 (m:=true) (WL (zL (edv 2) (zL (edv 3) (zh zi) (λ_ _=>rfl)) (λ_ _=>rfl)) (WP (zh zi) (zL (edv 3) (zh zi) (λ_ _=>rfl)))) (pv 2) (zL (edv 3) (zh zi) (λ_ _=>rfl)))
  (zg (za7 (m:=true) (xq (zL (edv 2) (zL (edv 3) (zh zi) (λ_ _=>rfl)) (λ_ _=>rfl)) (zL (edv 3) (zh zi) (λ_ _=>rfl))) (pv 2) (zL (edv 3) (zh zi) (λ_ _=>rfl))))))
  (Xw 2 (zg (zu (wL yC wP rfl T.z_tuple yB (za (edv 2) zf)))))))
abbrev Hl:=List Int
def hD (h:Hl):D:=.tup (h.map .int)
def zc6 (h:Hl)(i x:Int):Hl:=h.set i.toNat x
def xw (h:Hl)(s:Tie):Hl:=zc6 (zc6 h s.1 (vAt h s.1 - 2)) s.2 (vAt (zc6 h s.1 (vAt h s.1 - 2)) s.2+1)
theorem Ve (h:Hl)(i x:Int):(zc6 h i x).length=h.length:=by unfold zc6;exact u1E
theorem vR (h:Hl)(s:Tie):(xw h s).length=h.length:=by unfold xw;rw[Ve,Ve]
theorem zi1 {h:Hl}{i j x:Int}(hi:0<=i)(hl:i < h.length)(hj:0<=j):vAt (zc6 h i x) j=if j=i then x else vAt h j:=by
 unfold vAt zc6
 rw[u0r,u1k,u0r]
 by_cases e:j=i
 .subst e
  rw[t4 rfl,t4 (by omega),t4 rfl]
  rfl
 .rw[j4 (by omega),j4 e]
theorem zen {h:Hl}{i x:Int}(hi:0<=i)(hl:i < h.length):(zc6 h i x).sum=h.sum - vAt h i+x:=by
 unfold zc6
 rw[zg5 (h:=by omega)]
 unfold vAt
 rw[Dl.getD_at (by omega)]
theorem ze3 {h:Hl}{i x v:Int}(hv:v∈zc6 h i x):v=x\/v∈h:=by
 unfold zc6 at hv
 rcases List.mem_or_eq_of_mem_set hv with e | e
 .exact .inr e
 .exact .inl e
structure zaS (n:Nat) (s:Tie):Prop where
 a0:0<=s.1
 a1:s.1 < (n:Int)
 b0:0<=s.2
 b1:s.2 < (n:Int)
 ne:s.1≠s.2
theorem zhz {h:Hl}{s:Tie}(hs:zaS h.length s):(xw h s).sum=h.sum - 1:=by
 unfold xw
 rw[zen hs.b0 (by rw[Ve];exact hs.b1),zen hs.a0 hs.a1]
 omega
theorem zdw {h:Hl}{i:Int}(hi:0<=i)(hl:i < h.length):vAt h i∈h:=by
 unfold vAt
 exact Dl.getD_mem (by omega)
theorem zjU {h:Hl}{s:Tie}(hs:zaS h.length s)(hn:∀ v∈h,0<=v)(h2:2<=vAt h s.1):∀ v∈xw h s,0<=v:=by
 intro v hv
 unfold xw at hv
 have e:vAt (zc6 h s.1 (vAt h s.1 - 2)) s.2=vAt h s.2:=by
  rw[zi1 hs.a0 hs.a1 hs.b0,j4 (λe=>hs.ne e.symm)]
 rcases ze3 hv with rfl | hv
 .rw[e]
  have:=hn _ (zdw hs.b0 hs.b1)
  omega
 .rcases ze3 hv with rfl | hv
  .omega
  .exact hn v hv
def gMv:SE->Ctl :=
 (zE (wo 2 (fFn yq (zb (zd 0) zo)))
  (zE (vb true 2 (zk ixD (zd 1) (eC (.int 0))) (zk vg (zk ixD (zd 2) (zk ixD (zd 1) (eC (.int 0)))) (eC (.int 2))))
  (zE (vb true 2 (zk ixD (zd 1) (eC (.int 1))) (zk Yc (zk ixD (zd 2) (zk ixD (zd 1) (eC (.int 1)))) (eC (.int 1))))
  (sFz 2 (yd (eFn zH (zb (zd 2) zo)))))))
theorem zoi {h:Hl}{s:Tie}(hs:zaS h.length s):fnD 3 gMv [hD h,zc s]=some (hD (xw h s)):=by
 obtain⟨a,b⟩:=s
 obtain⟨a0,a1,b0,b1,ne⟩:=hs
 dsimp only at a0 a1 b0 b1 ne
 refine Xv (ρ:=[.v (hD h),.v (zc (a,b)),.no]) rfl ?_
 unfold gMv
 refine zp (ρ':=[.v (hD h),.v (zc (a,b)),.o (h.map .int)]) rfl ?_
 have ea:=vE (ns:=h) a0 a1
 obtain⟨g,hg⟩:∃ g,zc6 h a (vAt h a - 2)=g:=⟨_,rfl⟩
 have gl:g.length=h.length:=by rw[<-hg,Ve]
 have eb:=vE (ns:=g) b0 (by rw[gl];exact b1)
 have hm:xw h (a,b)=zc6 g b (vAt g b+1):=by unfold xw;rw[hg]
 rw[hm]
 refine yf (zl0 (h.map .int) (.int (vAt h a - 2)) a ?_ rfl rfl a0 (by rw[u6];exact a1) ?_)
 .show(Option.bind ((atI (h.map D.int) a).bind λx=>vg x (.int 2)) λd=>if noL d=true then some d else none)=_
  rw[ea]
  rfl
 rw[show(h.map D.int).set a.toNat (.int (vAt h a - 2))=g.map .int by rw[<-hg];unfold zc6;rw[u33]]
 refine yf (zl0 (g.map .int) (.int (vAt g b+1)) b ?_ rfl rfl b0 (by rw[u6,gl];exact b1) ?_)
 .show(Option.bind ((atI (g.map D.int) b).bind λx=>Yc x (.int 1)) λd=>if noL d=true then some d else none)=_
  rw[eb]
  rfl
 rw[show(g.map D.int).set b.toNat (.int (vAt g b+1))=(zc6 g b (vAt g b+1)).map .int by unfold zc6;rw[u33]]
 exact zkZ rfl (vT rfl rfl)
def zaq:SE->Ctl :=
 (zE (wo 2 (fFn yq (zb (zd 0) zo)))
  (zE (vb true 2 (zk ixD (zd 1) (eC (.int 0))) (zk vg (zk ixD (zd 2) (zk ixD (zd 1) (eC (.int 0)))) (eC (.int 2))))
  (zE (vb true 2 (zk ixD (zd 1) (eC (.int 1))) (zk Yc (zk ixD (zd 2) (zk ixD (zd 1) (eC (.int 1)))) (eC (.int 1))))
  (sFz 2 (yd (eFn zH (zb (zd 2) zo)))))))
def VJ:List D->Option D:=fnD 3 zaq
theorem zfw {h:Hl}{s:Tie}(hs:zaS h.length s):VJ [hD h,zc s]=some (hD (xw h s)):=zoi hs
theorem zfF (T:Txt K mg ad):xc P w K mg base CX0 1 ad.f_stepped ad.e_stepped ["heap","step"] (@spD ⟨K⟩ 2 VJ):=by
 letI:KK:=⟨K⟩
 refine yz (N:=["heap","step","stones"]) (ps:=["heap","step"]) T.d_stepped.fn za8 (g:=zaq) λcdv A outer s H E hr=>?_
 unfold zaq
 exact(ze (Zp (i:=2) za8.nd rfl (Or.inl rfl) (WF rfl T.z_list (za (edv 0) zf)))
  (ze (za7 (m:=true) (WL (zL (edv 2) (zL (edv 1) (zh zi) (λ_ _=>rfl)) (λ_ _=>rfl)) (zh zi)) (pv 2) (zL (edv 1) (zh zi) (λ_ _=>rfl)))
  (ze (za7 (m:=true) (xq (zL (edv 2) (zL (edv 1) (zh zi) (λ_ _=>rfl)) (λ_ _=>rfl)) (zh zi)) (pv 2) (zL (edv 1) (zh zi) (λ_ _=>rfl)))
  (Xw 2 (zg (zu (wL yC wP rfl T.z_tuple yB (za (edv 2) zf))))))))
def Zz:SE->Ctl :=
 (zE (wo 2 (fFn yq (zb (zd 0) zo)))
  (zE (vb true 2 (zk ixD (zd 1) (eC (.int 0))) (zk vg (zk ixD (zd 2) (zk ixD (zd 1) (eC (.int 0)))) (eC (.int 2))))
  (zE (vb true 2 (zk ixD (zd 1) (eC (.int 1))) (zk Yc (zk ixD (zd 2) (zk ixD (zd 1) (eC (.int 1)))) (eC (.int 1))))
  (sFz 2 (yd (eFn zH (zb (zd 2) zo)))))))
def wV:List D->Option D:=fnD 3 Zz
theorem ZA {h:Hl}{s:Tie}(hs:zaS h.length s):wV [hD h,zc s]=some (hD (xw h s)):=zoi hs
theorem YU (T:Txt K mg ad):xc P w K mg base CX0 1 ad.f__law_moved ad.e__law_moved ["heap","step"] (@spD ⟨K⟩ 2 wV):=by
 letI:KK:=⟨K⟩
 refine yz (N:=["heap","step","found"]) (ps:=["heap","step"]) T.d__law_moved.fn XR (g:=Zz) λcdv A outer s H E hr=>?_
 unfold Zz
 exact(ze (Zp (i:=2) XR.nd rfl (Or.inl rfl) (WF rfl T.z_list (za (edv 0) zf)))
  (ze (za7 (m:=true) (WL (zL (edv 2) (zL (edv 1) (zh zi) (λ_ _=>rfl)) (λ_ _=>rfl)) (zh zi)) (pv 2) (zL (edv 1) (zh zi) (λ_ _=>rfl)))
  (ze (za7 (m:=true) (xq (zL (edv 2) (zL (edv 1) (zh zi) (λ_ _=>rfl)) (λ_ _=>rfl)) (zh zi)) (pv 2) (zL (edv 1) (zh zi) (λ_ _=>rfl)))
  (Xw 2 (zg (zu (wL yC wP rfl T.z_tuple yB (za (edv 2) zf))))))))
inductive zaN:D->Prop
 | pair (a b:Int):zaN (.tup [.int a,.int b])
 | lst:zaN (.lst [.int 0,.int 1])
 | tru:zaN (.tup [.bl true,.int 0])
 | fal:zaN (.tup [.int 0,.bl false])
 | non:zaN .non
 | text (s:String):zaN (.str s)
 | three:zaN (.tup [.int 0,.int 1,.int 1])
 | one:zaN (.tup [.int 0])
 | num (n:Int):zaN (.int n)
def ZY (ts:List Tie):D->Option Tie
 | .tup [.int a,.int b]=>if decide (Zk a b∈ts)=true then some (a,b)else none
 | _=>none
theorem Yu (ts:List Tie)(a b:Int):ZY ts (.tup [.int a,.int b])=if decide (Zk a b∈ts)=true then some (a,b)else none:=rfl
theorem zaT {m:Int}{ts:List Tie}{d:D}(ok:y9 m ts)(h:zaN d):xT [zO m ts,d]=some (.bl (ZY ts d).isSome):=by
 cases h with
 | pair a b =>
  rw[zaU ok,Yu]
  cases decide (Zk a b∈ts) <;> rfl
 | _=>rfl
def Zt:SE->Ctl :=
 (yd (x9 (eUn (zT .int) (zd 0)) (Ys (eUn (zT .bool) (zd 0)))))
def WR:List D->Option D:=fnD 1 Zt
theorem zbd (T:Txt K mg ad):xc P w K mg base CX0 1 ad.f__law_whole ad.e__law_whole ["found"] (@spD ⟨K⟩ 1 WR):=by
 letI:KK:=⟨K⟩
 refine yz (N:=["found"]) (ps:=["found"]) T.d__law_whole.fn zbP (g:=Zt) λcdv A outer s H E hr=>?_
 unfold Zt
 exact(zg (zu (vM (zK .int rfl T.z_isinstance (edv 0) (yl (v:=.ty "int") rfl T.z_int zek rfl)) (YC (zg4 (zK .bool rfl T.z_isinstance (edv 0) (yl (v:=.ty "bool") rfl T.z_bool VP rfl)))))))
def wF:SE->Ctl :=
 (zE (sIf (wm (zS (tOf (eUn (zT .tuple) (zd 1)))) (wm (tOf (zk neD (eFn we (zb (zd 1) zo)) (eC (.int 2)))) (zS (tOf (eFn zmK (zb (yx (fLC (iOf (zd 1)) b1 zR (zn 1 WR (zb (zd 0) zo)))) zo)))))) (yd (eC (.bl false))) zF)
  (yd (zk inD (xt (zb (eFn zcG (zb (zd 1) zo)) (zb (eFn zn1 (zb (zd 1) zo)) zo))) (zk ixD (zd 0) (eC (.int 1))))))
def Yl:List D->Option D:=fnD 2 wF
theorem VO (a b:Int):Zk a b=(zau [a,b],ziX [a,b]):=by
 unfold Zk zau ziX
 rw[show [a,b].min?=some (min a b)from rfl,show [a,b].max?=some (max a b)from rfl]
 show _=(min a b,max a b)
 rw[Int.min_def,Int.max_def]
 refine u2A ?_ ?_ <;> dsimp only <;> split <;> split <;> omega
theorem zaB {m:Int}{ts:List Tie}{d:D}(h:zaN d):Yl [zO m ts,d]=some (.bl (ZY ts d).isSome):=by
 cases h with
 | pair a b =>
  refine Xv (ρ:=[.v (zO m ts),.v (.tup [.int a,.int b])]) rfl ?_
  unfold wF
  refine yf (vw (c:=false) rfl (λz=>by cases z) (λ_=>xG rfl ?_))
  refine vT (xk (d:=.bl (ZY ts (.tup [.int a,.int b])).isSome) ?_) rfl
  have ei:=zet (Zk a b) ts
  rw[VO]at ei
  rw[Yu]
  show inD (.tup [.int (zau [a,b]),.int (ziX [a,b])]) (.tup (ts.map zc))=_
  refine ei.trans ?_
  rw[<-VO]
  cases decide (Zk a b∈ts) <;> rfl
 | _=>rfl
theorem Vu (T:Txt K mg ad):xc P w K mg base CX0 2 ad.f__law_is_step ad.e__law_is_step ["web","thing"] (@spD ⟨K⟩ 2 Yl):=by
 letI:KK:=⟨K⟩
 have G__law_whole:=zbd (P:=P) (w:=w) (base:=base) T
 refine yz (N:=["web","thing"]) (ps:=["web","thing"]) T.d__law_is_step.fn zae (g:=wF) λcdv A outer s H E hr=>?_
 unfold wF
 exact(ze (yr (zdI (V5 (xi (yA (zK .tuple rfl T.z_isinstance (edv 1) (yl (v:=.ty "tuple") rfl T.z_tuple yB rfl)))) (V5 (zN zbz Xx (zG _) (zU zQ x6 rfl T.z_len v9 (za (edv 1) zf)) (zh zi)) (XV (xi (yA (zU (zcv rfl) zgl rfl T.z_all zk2 (za (wf (Z3 (L:=["place"]) (M:=["web","thing"]) rfl (wU (by rfl) (by rfl) (by rfl) (by with_unfolding_all rfl) (by rfl) (by rfl) (by kernel_rfl) xb) (xo (edv 1)) gs1 rb1 (λ_ _ _ _=>(zx (i:=0) zpk rfl (Or.inl rfl) (.inr rfl))) (λ_ _ _ _=>(zj G__law_whole hr rfl T.d__law_whole (za (edv 0) zf))))) zf)))))))) (zg (zu (wZ vf))) zD)
  (zg (zu (Yt (Vv hr) VL (by with_unfolding_all rfl) (xr (za (zU (zak rfl) zb3 rfl T.z_min zcb (za (edv 1) zf)) (za (zU (zhi rfl) zjc rfl T.z_max zkC (za (edv 1) zf)) zf))) (zL (edv 0) (zh zi) (λ_ _=>rfl))))))
theorem X9 {m:Int}{ts:List Tie}{d:D}{s:Tie}(ok:y9 m ts)(h:zaN d)(e:ZY ts d=some s):d=zc s/\(0<=s.1/\s.1 < m)/\(0<=s.2/\s.2 < m)/\s.1≠s.2:=by
 cases h with
 | pair a b =>
  rw[Yu]at e
  by_cases h1:decide (Zk a b∈ts)=true
  .rw[t4 h1]at e
   cases e
   exact⟨rfl,zbg ok (d7 h1)⟩
  .rw[j4 h1]at e
   cases e
 | _=>cases e
theorem zai {m:Int}{h:Hl}{s:Tie}(hl:(h.length:Int)=m)(r:(0<=s.1/\s.1 < m)/\(0<=s.2/\s.2 < m)/\s.1≠s.2):zaS h.length s:=by
 obtain⟨⟨a,b⟩,⟨c,d⟩,e⟩:=r
 exact⟨a,by omega,c,by omega,e⟩
def yH (ts:List Tie):Hl->Nat->List D->D
 | _,_,[]=>.non
 | h,k,d::es=>match ZY ts d with
  | none=>.tup [.str "form",.int (k:Int)]
  | some s=>if decide (vAt h s.1 < 2)=true then .tup [.str "bare",.int (k:Int)]else yH ts (xw h s) (k+1) es
def YF (ts:List Tie):Hl->List D->List Hl
 | _,[]=>[]
 | h,d::es=>match ZY ts d with
  | none=>[]
  | some s=>if decide (vAt h s.1 < 2)=true then []else xw h s::YF ts (xw h s) es
def W2 (ts:List Tie):Hl->List D->Hl
 | h,[]=>h
 | h,d::es=>match ZY ts d with
  | none=>h
  | some s=>if decide (vAt h s.1 < 2)=true then h else W2 ts (xw h s) es
theorem Xj {ts:List Tie} {h:Hl} {k:Nat} {d:D} {es:List D} (e:ZY ts d=none):yH ts h k (d::es)=.tup [.str "form",.int (k:Int)]:=by
 show(match ZY ts d with | none=>_ | some s=>_)=_
 rw[e]
theorem Xq {ts:List Tie} {h:Hl} {k:Nat} {d:D} {s:Tie} {es:List D} (e:ZY ts d=some s) (c:vAt h s.1 < 2):yH ts h k (d::es)=.tup [.str "bare",.int (k:Int)]:=by
 show(match ZY ts d with | none=>_ | some s=>_)=_
 rw[e]
 show(if decide (vAt h s.1 < 2)=true then _ else _)=_
 rw[t4 (j7 c)]
theorem Yy {ts:List Tie}{h:Hl}{k:Nat}{d:D}{s:Tie}{es:List D}(e:ZY ts d=some s)(c:¬ vAt h s.1 < 2):yH ts h k (d::es)=yH ts (xw h s) (k+1) es:=by
 show(match ZY ts d with | none=>_ | some s=>_)=_
 rw[e]
 show(if decide (vAt h s.1 < 2)=true then _ else _)=_
 rw[j4 (by rw[g9 c];exact u9)]
theorem VS {ts:List Tie}{h:Hl}{d:D}{es:List D}(e:ZY ts d=none):YF ts h (d::es)=[]:=by
 show(match ZY ts d with | none=>_ | some s=>_)=_
 rw[e]
theorem VG {ts:List Tie}{h:Hl}{d:D}{s:Tie}{es:List D}(e:ZY ts d=some s)(c:vAt h s.1 < 2):YF ts h (d::es)=[]:=by
 show(match ZY ts d with | none=>_ | some s=>_)=_
 rw[e]
 show(if decide (vAt h s.1 < 2)=true then _ else _)=_
 rw[t4 (j7 c)]
theorem VQ {ts:List Tie}{h:Hl}{d:D}{s:Tie}{es:List D}(e:ZY ts d=some s)(c:¬ vAt h s.1 < 2):YF ts h (d::es)=xw h s::YF ts (xw h s) es:=by
 show(match ZY ts d with | none=>_ | some s=>_)=_
 rw[e]
 show(if decide (vAt h s.1 < 2)=true then _ else _)=_
 rw[j4 (by rw[g9 c];exact u9)]
theorem Y7 {ts:List Tie}{h:Hl}{d:D}{s:Tie}{es:List D}(e:ZY ts d=some s)(c:¬ vAt h s.1 < 2):W2 ts h (d::es)=W2 ts (xw h s) es:=by
 show(match ZY ts d with | none=>_ | some s=>_)=_
 rw[e]
 show(if decide (vAt h s.1 < 2)=true then _ else _)=_
 rw[j4 (by rw[g9 c];exact u9)]
theorem za0 (ts:List Tie):∀ (es:List D) (h:Hl),(YF ts h es).length<=es.length:=by
 intro es
 induction es with
 | nil=>intro h;exact t5 _
 | cons d es ih =>
  intro h
  cases e:ZY ts d with
  | none=>rw[VS e];exact u0I _
  | some s =>
   by_cases c:vAt h s.1 < 2
   .rw[VG e c];exact u0I _
   .rw[VQ e c,i6,i6]
    exact u1N (ih _)
theorem zdU {es:List D}{i:Nat}{d:D}(h:es[i]?=some d):es.drop i=d::es.drop (i+1):=by
 obtain⟨h1,h2⟩:=t6.mp h
 rw[u0V h1,h2]
def zbp:SE->Ctl :=
 (zE (sIf (zS (tOf (zn 2 xT (zb (zd 0) (zb (zd 6) zo))))) (yd (xt (zb (zd 3) (zb (xt (zb (eC (.str "form")) (zb (zd 5) zo))) zo)))) zF)
  (zE (sIf (tOf (zk ltD (zk ixD (zd 4) (zk ixD (zd 6) (eC (.int 0)))) (eC (.int 2)))) (yd (xt (zb (zd 3) (zb (xt (zb (eC (.str "bare")) (zb (zd 5) zo))) zo)))) zF)
  (zE (yw false 4 (zn 2 VJ (zb (zd 4) (zb (zd 6) zo))))
  (wW false 3 (zd 4)))))
def zeG:SE->Ctl :=
 (zE (sIf (zS (tOf (eUn (zT .list) (zd 2)))) (yd (xt (zb (yx (yc zo)) (zb (xt (zb (eC (.str "list")) (zb (eC (.int 0)) zo))) zo)))) zF)
  (zE (wo 3 (yc zo))
  (zE (yw false 4 (zd 1))
  (zE (wg (zM (zb (zd 2) zo)) (vD 2 (ye (zP 5) (ye (zP 6) vH))) zbp)
  (sFz 3 (yd (xt (zb (zd 3) (zb (eC .non) zo)))))))))
def zcX:List D->Option D:=fnD 7 zeG
theorem zmg {m:Int}{ts:List Tie}{h:Hl}{es:List D}(ok:y9 m ts)(hl:(h.length:Int)=m)(he:∀ e∈es,zaN e)(hn:es.length<=900):zcX [zO m ts,hD h,.lst es]=some (.tup [.lst ((YF ts h es).map hD),yH ts h 0 es]):=by
 refine Xv (ρ:=[.v (zO m ts),.v (hD h),.v (.lst es),.no,.no,.no,.no]) rfl ?_
 unfold zeG
 refine yf (vw (c:=false) rfl (λz=>by cases z) (λ_=>xG rfl ?_))
 refine zp (ρ':=[.v (zO m ts),.v (hD h),.v (.lst es),.o [],.no,.no,.no]) rfl ?_
 refine zp (ρ':=[.v (zO m ts),.v (hD h),.v (.lst es),.o [],.v (hD h),.no,.no]) rfl ?_
 refine yf (ZZ (ds:=Zu 0 es) (λi ρ=>∃ (g:Hl) (gs:List Hl) (o5 o6:Sl),ρ=[.v (zO m ts),.v (hD h),.v (.lst es),.o (gs.map hD),.v (hD g),o5,o6]/\(g.length:Int)=m/\yH ts h 0 es=yH ts g i (es.drop i)/\YF ts h es=gs++YF ts g (es.drop i)) rfl ⟨h,[],_,_,rfl,hl,rfl,rfl⟩ ?_ ?_)
 .rintro i d ρ hd ⟨g,gs,o5,o6,rfl,gl,ew,eh⟩
  rw[xx,u0m]at hd
  obtain⟨x,hx,rfl⟩:=u8.mp hd
  have hst:=he x (d9 hx)
  have e1:=zaT ok hst
  have hgs:gs.length<=900:=by
   have:=za0 ts es h
   rw[eh,j8]at this
   omega
  rw[zdU hx]at ew eh
  refine⟨[.v (zO m ts),.v (hD h),.v (.lst es),.o (gs.map hD),.v (hD g),.v (.int (i:Int)),.v x],rfl,?_⟩
  unfold zbp
  cases e:ZY ts x with
  | none =>
   rw[e]at e1
   rw[ew,Xj e,eh,VS e,u0l]
   exact yf (vw (c:=true) (zad (b:=false) (xD (yt (ds:=[_,_]) rfl e1))) (λ_=>vT rfl rfl) (λz=>by cases z))
  | some s =>
   rw[e]at e1
   obtain⟨rfl,r⟩:=X9 ok hst e
   have hs:=zai gl r
   refine yf (vw (c:=false) (zad (b:=true) (xD (yt (ds:=[_,_]) rfl e1))) (λz=>by cases z) (λ_=>xG rfl ?_))
   have ea:=vE (ns:=g) hs.a0 hs.a1
   refine yf (vw (c:=decide (vAt g s.1 < 2)) (xD (zB (x:=.int (vAt g s.1)) (y:=.int 2) (zB (x:=hD g) (y:=.int s.1) rfl rfl ea) rfl rfl)) (λc=>?_) (λc=>xG rfl ?_))
   .have c:=d7 c
    rw[ew,Xq e c,eh,VG e c,u0l]
    exact vT rfl rfl
   .have c:=u1V c
    rw[Yy e c]at ew
    rw[VQ e c]at eh
    have es':=zfw hs
    refine zp (ρ':=[.v (zO m ts),.v (hD h),.v (.lst es),.o (gs.map hD),.v (hD (xw g s)),.v (.int (i:Int)),.v (zc s)]) (yD (ds:=[_,_]) rfl es') ?_
    refine xG (WH (ds:=gs.map hD) (d:=hD (xw g s)) rfl rfl (by rw[u6];omega)) ⟨xw g s,gs++[xw g s],.v (.int (i:Int)),.v (zc s),?_,by rw[vR];exact gl,ew,?_⟩
    .rw[p9];rfl
    .rw[eh,u1j];rfl
 .rintro ρ ⟨g,gs,o5,o6,rfl,gl,ew,eh⟩
  rw[xL,u1M]at ew eh
  rw[ew,eh,show YF ts g []=[]from rfl,u0l]
  first | exact zkZ rfl (vT rfl rfl) | exact vT rfl rfl
theorem zl3 (T:Txt K mg ad):xc P w K mg base CX0 6 ad.f_walk ad.e_walk ["web","heap","thing"] (@spD ⟨K⟩ 3 zcX):=by
 letI:KK:=⟨K⟩
 have G_is_step:=Wa (P:=P) (w:=w) (base:=base) T
 have G_stepped:=zfF (P:=P) (w:=w) (base:=base) T
 refine yz (N:=["web","heap","thing","heaps","now","at","step"]) (ps:=["web","heap","thing"]) T.d_walk.fn Wp (g:=zeG) λcdv A outer s H E hr=>?_
 unfold zeG zbp
 exact(ze (yr (xi (yA (zK .list rfl T.z_isinstance (edv 2) (yl (v:=.ty "list") rfl T.z_list Xb rfl)))) (zg (zu (xr (za (wf (v6 zf)) (za (xr (za (zaP za6) (za (zh zi) zf))) zf))))) zD)
  (ze (Zp (i:=3) Wp.nd rfl (Or.inl rfl) (v6 zf))
  (ze (zZ (m:=false) (i:=4) Wp.nd rfl (Or.inl rfl) (edv 1))
  (ze (vP i5 rfl (ZE rfl T.z_enumerate yP (za (edv 2) zf)) (XF rfl (yu (ya (zx (i:=5) Wp.nd rfl (Or.inl rfl))) (yu (ya (zx (i:=6) Wp.nd rfl (Or.inl rfl))) YX))) (ze (yr (xi (yA (zj G_is_step hr rfl T.d_is_step (za (edv 0) (za (edv 6) zf))))) (zg (zu (xr (za (edv 3) (za (xr (za (zaP za6) (za (edv 5) zf))) zf))))) zD)
  (ze (yr (zN zgw yk (zG _) (zL (edv 4) (zL (edv 6) (zh zi) (λ_ _=>rfl)) (λ_ _=>rfl)) (zh zi)) (zg (zu (xr (za (edv 3) (za (xr (za (zaP za6) (za (edv 5) zf))) zf))))) zD)
  (ze (zZ (m:=false) (i:=4) Wp.nd rfl (Or.inl rfl) (zj G_stepped hr rfl T.d_stepped (za (edv 4) (za (edv 6) zf))))
  (zg (X7 (m:=false) (pv 3) (edv 4) (λa b=>V1 u0j u0p u0q wc a b)))))))
  (Xw 3 (zg (zu (xr (za (edv 3) (za (XH X2) zf))))))))))
def Yg:SE->Ctl :=
 (zE (sIf (zS (tOf (zn 2 Yl (zb (zd 0) (zb (zd 5) zo))))) (yd (xt (zb (eC (.str "form")) (zb (zd 4) zo)))) zF)
  (zE (sIf (tOf (zk ltD (zk ixD (zd 3) (zk ixD (zd 5) (eC (.int 0)))) (eC (.int 2)))) (yd (xt (zb (eC (.str "bare")) (zb (zd 4) zo)))) zF)
  (yw false 3 (zn 2 wV (zb (zd 3) (zb (zd 5) zo))))))
def vZ:SE->Ctl :=
 (zE (sIf (zS (tOf (eUn (zT .list) (zd 2)))) (yd (xt (zb (eC (.str "list")) (zb (eC (.int 0)) zo)))) zF)
  (zE (yw false 3 (zd 1))
  (zE (wg (zM (zb (zd 2) zo)) (vD 2 (ye (zP 4) (ye (zP 5) vH))) Yg)
  (yd (eC .non)))))
def vX:List D->Option D:=fnD 6 vZ
theorem zcK {m:Int}{ts:List Tie}{h:Hl}{es:List D}(ok:y9 m ts)(hl:(h.length:Int)=m)(he:∀ e∈es,zaN e):vX [zO m ts,hD h,.lst es]=some (yH ts h 0 es):=by
 refine Xv (ρ:=[.v (zO m ts),.v (hD h),.v (.lst es),.no,.no,.no]) rfl ?_
 unfold vZ
 refine yf (vw (c:=false) rfl (λz=>by cases z) (λ_=>xG rfl ?_))
 refine zp (ρ':=[.v (zO m ts),.v (hD h),.v (.lst es),.v (hD h),.no,.no]) rfl ?_
 refine yf (ZZ (ds:=Zu 0 es) (λi ρ=>∃ (g:Hl) (o5 o6:Sl),ρ=[.v (zO m ts),.v (hD h),.v (.lst es),.v (hD g),o5,o6]/\(g.length:Int)=m/\yH ts h 0 es=yH ts g i (es.drop i)) rfl ⟨h,_,_,rfl,hl,rfl⟩ ?_ ?_)
 .rintro i d ρ hd ⟨g,o5,o6,rfl,gl,ew⟩
  rw[xx,u0m]at hd
  obtain⟨x,hx,rfl⟩:=u8.mp hd
  have hst:=he x (d9 hx)
  have e1:=zaB (m:=m) (ts:=ts) hst
  rw[zdU hx]at ew
  refine⟨[.v (zO m ts),.v (hD h),.v (.lst es),.v (hD g),.v (.int (i:Int)),.v x],rfl,?_⟩
  unfold Yg
  cases e:ZY ts x with
  | none =>
   rw[e]at e1
   rw[ew,Xj e]
   exact yf (vw (c:=true) (zad (b:=false) (xD (yt (ds:=[_,_]) rfl e1))) (λ_=>vT rfl rfl) (λz=>by cases z))
  | some s =>
   rw[e]at e1
   obtain⟨rfl,r⟩:=X9 ok hst e
   have hs:=zai gl r
   refine yf (vw (c:=false) (zad (b:=true) (xD (yt (ds:=[_,_]) rfl e1))) (λz=>by cases z) (λ_=>xG rfl ?_))
   have ea:=vE (ns:=g) hs.a0 hs.a1
   refine yf (vw (c:=decide (vAt g s.1 < 2)) (xD (zB (x:=.int (vAt g s.1)) (y:=.int 2) (zB (x:=hD g) (y:=.int s.1) rfl rfl ea) rfl rfl)) (λc=>?_) (λc=>xG rfl ?_))
   .have c:=d7 c
    rw[ew,Xq e c]
    exact vT rfl rfl
   .have c:=u1V c
    rw[Yy e c]at ew
    exact xG (ρ':=[.v (zO m ts),.v (hD h),.v (.lst es),.v (hD (xw g s)),.v (.int (i:Int)),.v (zc s)]) (yD (ds:=[_,_]) rfl (ZA hs)) ⟨xw g s,_,_,rfl,by rw[vR];exact gl,ew⟩
 .rintro ρ ⟨g,o5,o6,rfl,gl,ew⟩
  rw[xL,u1M]at ew
  rw[ew]
  exact vT rfl rfl
theorem zbf (T:Txt K mg ad):xc P w K mg base CX0 3 ad.f__law_wrong ad.e__law_wrong ["web","heap","thing"] (@spD ⟨K⟩ 3 vX):=by
 letI:KK:=⟨K⟩
 have G__law_moved:=YU (P:=P) (w:=w) (base:=base) T
 have G__law_is_step:=Vu (P:=P) (w:=w) (base:=base) T
 refine yz (N:=["web","heap","thing","here","at","step"]) (ps:=["web","heap","thing"]) T.d__law_wrong.fn x8 (g:=vZ) λcdv A outer s H E hr=>?_
 unfold vZ Yg
 exact(ze (yr (xi (yA (zK .list rfl T.z_isinstance (edv 2) (yl (v:=.ty "list") rfl T.z_list Xb rfl)))) (zg (zu (xr (za (zaP za6) (za (zh zi) zf))))) zD)
  (ze (zZ (m:=false) (i:=3) x8.nd rfl (Or.inl rfl) (edv 1))
  (ze (vP i5 rfl (ZE rfl T.z_enumerate yP (za (edv 2) zf)) (XF rfl (yu (ya (zx (i:=4) x8.nd rfl (Or.inl rfl))) (yu (ya (zx (i:=5) x8.nd rfl (Or.inl rfl))) YX))) (ze (yr (xi (yA (zj G__law_is_step hr rfl T.d__law_is_step (za (edv 0) (za (edv 5) zf))))) (zg (zu (xr (za (zaP za6) (za (edv 4) zf))))) zD)
  (ze (yr (zN zgw yk (zG _) (zL (edv 3) (zL (edv 5) (zh zi) (λ_ _=>rfl)) (λ_ _=>rfl)) (zh zi)) (zg (zu (xr (za (zaP za6) (za (edv 4) zf))))) zD)
  (zg (zZ (m:=false) (i:=3) x8.nd rfl (Or.inl rfl) (zj G__law_moved hr rfl T.d__law_moved (za (edv 3) (za (edv 5) zf))))))))
  (zg (zu (XH X2))))))
theorem vF {ts:List Tie}{h:Hl}{k:Nat}{d:D}{es:List D}(e:yH ts h k (d::es)=.non):∃ s,ZY ts d=some s/\¬ vAt h s.1 < 2/\yH ts (xw h s) (k+1) es=.non:=by
 cases e1:ZY ts d with
 | none=>rw[Xj e1]at e;cases e
 | some s =>
  by_cases c:vAt h s.1 < 2
  .rw[Xq e1 c]at e;cases e
  .exact⟨s,rfl,c,by rw[<-Yy e1 c];exact e⟩
theorem zaL {m:Int}{ts:List Tie}(ok:y9 m ts):∀ (es:List D) (h:Hl) (k:Nat),(∀ e∈es,zaN e)->yH ts h k es=.non->(W2 ts h es).length=h.length:=by
 intro es
 induction es with
 | nil=>intro h k _ _;rfl
 | cons d es ih =>
  intro h k he e
  obtain⟨s,e1,c,e2⟩:=vF e
  rw[Y7 e1 c,ih _ _ (λx hx=>he x (r8 _ hx)) e2,vR]
def ZC:SE->Ctl :=
 (yw false 2 (zn 2 wV (zb (zd 2) (zb (zd 3) zo))))
def ZU:SE->Ctl :=
 (zE (yw false 2 (zd 0))
  (zE (wg (iOf (zd 1)) (zP 3) ZC)
  (yd (zd 2))))
def Yw:List D->Option D:=fnD 4 ZU
theorem zbc {m:Int}{ts:List Tie}{h:Hl}{es:List D}(ok:y9 m ts)(hl:(h.length:Int)=m)(he:∀ e∈es,zaN e)(hw:yH ts h 0 es=.non):Yw [hD h,.lst es]=some (hD (W2 ts h es)):=by
 refine Xv (ρ:=[.v (hD h),.v (.lst es),.no,.no]) rfl ?_
 unfold ZU
 refine zp (ρ':=[.v (hD h),.v (.lst es),.v (hD h),.no]) rfl ?_
 refine yf (ZZ (ds:=es) (λi ρ=>∃ (g:Hl) (o3:Sl),ρ=[.v (hD h),.v (.lst es),.v (hD g),o3]/\(g.length:Int)=m/\yH ts g i (es.drop i)=.non/\W2 ts h es=W2 ts g (es.drop i)) rfl ⟨h,_,rfl,hl,hw,rfl⟩ ?_ ?_)
 .rintro i x ρ hx ⟨g,o3,rfl,gl,ew,ee⟩
  have hst:=he x (d9 hx)
  rw[zdU hx]at ew ee
  obtain⟨s,e1,c,e2⟩:=vF ew
  rw[Y7 e1 c]at ee
  obtain⟨rfl,r⟩:=X9 ok hst e1
  have hs:=zai gl r
  refine⟨[.v (hD h),.v (.lst es),.v (hD g),.v (zc s)],rfl,?_⟩
  unfold ZC
  exact xG (ρ':=[.v (hD h),.v (.lst es),.v (hD (xw g s)),.v (zc s)]) (yD (ds:=[_,_]) rfl (ZA hs)) ⟨xw g s,_,rfl,by rw[vR];exact gl,e2,ee⟩
 .rintro ρ ⟨g,o3,rfl,gl,ew,ee⟩
  rw[u1M]at ee
  rw[ee]
  exact vT rfl rfl
theorem zed (T:Txt K mg ad):xc P w K mg base CX0 2 ad.f__law_end ad.e__law_end ["heap","steps"] (@spD ⟨K⟩ 2 Yw):=by
 letI:KK:=⟨K⟩
 have G__law_moved:=YU (P:=P) (w:=w) (base:=base) T
 refine yz (N:=["heap","steps","here","step"]) (ps:=["heap","steps"]) T.d__law_end.fn YW (g:=ZU) λcdv A outer s H E hr=>?_
 unfold ZU ZC
 exact(ze (zZ (m:=false) (i:=2) YW.nd rfl (Or.inl rfl) (edv 0))
  (ze (vP i5 rfl (xo (edv 1)) (ya (zx (i:=3) YW.nd rfl (Or.inl rfl))) (zg (zZ (m:=false) (i:=2) YW.nd rfl (Or.inl rfl) (zj G__law_moved hr rfl T.d__law_moved (za (edv 2) (za (edv 3) zf))))))
  (zg (zu (edv 2)))))
theorem zds {ts:List Tie}:∀ (es:List D) (h:Hl) (k:Nat),yH ts h k es=.non->∃ gs,h::YF ts h es=gs++[W2 ts h es]:=by
 intro es
 induction es with
 | nil=>intro h k _;exact⟨[],rfl⟩
 | cons d es ih =>
  intro h k e
  obtain⟨s,e1,c,e2⟩:=vF e
  obtain⟨gs,eg⟩:=ih _ _ e2
  exact⟨h::gs,by rw[VQ e1 c,Y7 e1 c,eg];rfl⟩
def zf6 (ns:List Int)(t:Tie):List Tie:=(if decide (1 < vAt ns t.1)=true then [t]else [])++(if decide (1 < vAt ns t.2)=true then [(t.2,t.1)]else [])
def zc8 (ns:List Int)(ts:List Tie):List Tie:=ts.flatMap (zf6 ns)
theorem zjz {ns:List Int}{t s:Tie}:s∈zf6 ns t↔(s=t/\1 < vAt ns t.1)\/(s=(t.2,t.1)/\1 < vAt ns t.2):=by
 unfold zf6
 rw[u0H]
 by_cases h1:1 < vAt ns t.1 <;> by_cases h2:1 < vAt ns t.2 <;> simp[h1,h2,and_comm]
theorem Xl (ns:List Int):∀ ts:List Tie,(zc8 ns ts).length<=2*ts.length
 | []=>by simp[zc8]
 | t::ts=>by
  have ih:=Xl ns ts
  show(zf6 ns t++zc8 ns ts).length<=_
  have:(zf6 ns t).length<=2:=by
   unfold zf6
   rw[j8]
   split <;> split <;> simp
  rw[j8,i6]
  omega
theorem zik (ns:List Int)(ts:List Tie)(t:Tie):zc8 ns (ts++[t])=zc8 ns ts++zf6 ns t:=by
 unfold zc8
 rw[u2W]
 simp
def ZK:SE->Ctl :=
 (zE (sIf (tOf (zk gtD (zk ixD (zd 1) (zd 3)) (eC (.int 1)))) (wW false 2 (xt (zb (zd 3) (zb (zd 4) zo)))) zF)
  (sIf (tOf (zk gtD (zk ixD (zd 1) (zd 4)) (eC (.int 1)))) (wW false 2 (xt (zb (zd 4) (zb (zd 3) zo)))) zF))
def ZT:SE->Ctl :=
 (zE (wo 2 (yc zo))
  (zE (wg (iOf (zk ixD (zd 0) (eC (.int 1)))) (vD 2 (ye (zP 3) (ye (zP 4) vH))) ZK)
  (sFz 2 (yd (yx (fFn zck (zb (zd 2) zo)))))))
def Wz:List D->Option D:=fnD 5 ZT
theorem zfh {m:Int}{ts:List Tie}{ns:List Int}(ok:y9 m ts)(h28:ts.length<=28)(hl:(ns.length:Int)=m):Wz [zO m ts,.tup (ns.map .int)]=some (.lst ((XG (zc8 ns ts)).map zc)):=by
 refine Xv (ρ:=[.v (zO m ts),.v (.tup (ns.map .int)),.no,.no,.no]) rfl ?_
 unfold ZT
 refine zp (ρ':=[.v (zO m ts),.v (.tup (ns.map .int)),.o [],.no,.no]) (by simp[fnD,zE,yd,yX,sIf,yw,xH,sNo,zF,Zh,wo,wW,Ye,vb,vEv,visF,visG,Sl.f,Sl.g,zd,eC,zk,x9,eOr,Ys,eIf,eUn,Yf,xt,yx,yc,zb,zo,zn,eFn,fFn,tOf,yg,wm,zS,asB,asI,zv,vg,wd,yh,yO,vY,yG,ltD,leD,gtD,geD,Yd,zz,zJ,zA,zI,Yq,zC,ixD,we,zT,isT,eSl,ym,yj,zV,yo,iOf,wg,yn,Yr,vo,wX,zM,yN,fLC,zR,zH,yq,zP,vD,ye,vH,b1,b2,vp]) ?_
 refine yf (ZZ (ds:=ts.map zc) (λi ρ=>∃ o1 o2,ρ=[.v (zO m ts),.v (.tup (ns.map .int)),.o ((zc8 ns (ts.take i)).map zc),o1,o2]) rfl ⟨_,_,rfl⟩ ?_ ?_)
 .rintro i d ρ hd ⟨o1,o2,rfl⟩
  rw[j5]at hd
  obtain⟨t,ht,rfl⟩:=u8.mp hd
  have hr:=ok.rng t (d9 ht)
  refine⟨_,rfl,?_⟩
  have htake:ts.take (i+1)=ts.take i++[t]:=by rw[u4b,ht];rfl
  have ea:=vE (ns:=ns) (i:=t.1) hr.1 (by omega)
  have eb:=vE (ns:=ns) (i:=t.2) (by omega) (by omega)
  have hlen:∀ X:List Tie,X.length<=2->((zc8 ns (ts.take i)++X).map zc).length<=1000:=λX hX=>by
   rw[u6,j8]
   have:=Xl ns (ts.take i)
   rw[u1d]at this
   omega
  obtain⟨A,hA⟩:∃ A,zc8 ns (ts.take i)=A:=⟨_,rfl⟩
  rw[hA]at hlen ⊢
  have l0:=hlen [] (by simp)
  have l1:=hlen [t] (by simp)
  rw[u0l]at l0
  unfold ZK
  have stepE:∀ (B:List Tie),A++zf6 ns t=B->∃ o1 o2,([.v (zO m ts),.v (.tup (ns.map .int)),.o (B.map zc),.v (.int t.1),.v (.int t.2)]:SE)=[.v (zO m ts),.v (.tup (ns.map .int)),.o ((zc8 ns (ts.take (i+1))).map zc),o1,o2]:=λB hB=>by
   rw[htake,zik,hA,hB]
   exact⟨_,_,rfl⟩
  by_cases c1:1 < vAt ns t.1
  .refine yf (vw (c:=true) (by simp[fnD,zE,yd,yX,sIf,yw,xH,sNo,zF,Zh,wo,wW,Ye,vb,vEv,visF,visG,Sl.f,Sl.g,zd,eC,zk,x9,eOr,Ys,eIf,eUn,Yf,xt,yx,yc,zb,zo,zn,eFn,fFn,tOf,yg,wm,zS,asB,asI,zv,vg,wd,yh,yO,vY,yG,ltD,leD,gtD,geD,Yd,zz,zJ,zA,zI,Yq,zC,ixD,we,zT,isT,eSl,ym,yj,zV,yo,iOf,wg,yn,Yr,vo,wX,zM,yN,fLC,zR,zH,yq,zP,vD,ye,vH,b1,b2,ea,c1]) (λ_=>xG (ρ':=[.v (zO m ts),.v (.tup (ns.map .int)),.o ((A++[t]).map zc),.v (.int t.1),.v (.int t.2)]) ?_ ?_) (λz=>by cases z))
   .rw[WH (ds:=A.map zc) (d:=zc t) (by simp[fnD,zE,yd,yX,sIf,yw,xH,sNo,zF,Zh,wo,wW,Ye,vb,vEv,visF,visG,Sl.f,Sl.g,zd,eC,zk,x9,eOr,Ys,eIf,eUn,Yf,xt,yx,yc,zb,zo,zn,eFn,fFn,tOf,yg,wm,zS,asB,asI,zv,vg,wd,yh,yO,vY,yG,ltD,leD,gtD,geD,Yd,zz,zJ,zA,zI,Yq,zC,ixD,we,zT,isT,eSl,ym,yj,zV,yo,iOf,wg,yn,Yr,vo,wX,zM,yN,fLC,zR,zH,yq,zP,vD,ye,vH,b1,b2,vp,zc]) rfl l0]
    simp[zc]
   .by_cases c2:1 < vAt ns t.2
    .refine vw (c:=true) (by simp[fnD,zE,yd,yX,sIf,yw,xH,sNo,zF,Zh,wo,wW,Ye,vb,vEv,visF,visG,Sl.f,Sl.g,zd,eC,zk,x9,eOr,Ys,eIf,eUn,Yf,xt,yx,yc,zb,zo,zn,eFn,fFn,tOf,yg,wm,zS,asB,asI,zv,vg,wd,yh,yO,vY,yG,ltD,leD,gtD,geD,Yd,zz,zJ,zA,zI,Yq,zC,ixD,we,zT,isT,eSl,ym,yj,zV,yo,iOf,wg,yn,Yr,vo,wX,zM,yN,fLC,zR,zH,yq,zP,vD,ye,vH,b1,b2,eb,c2]) (λ_=>xG (ρ':=[.v (zO m ts),.v (.tup (ns.map .int)),.o ((A++[t]++[(t.2,t.1)]).map zc),.v (.int t.1),.v (.int t.2)]) ?_ (stepE _ ?_)) (λz=>by cases z)
     .rw[WH (ds:=(A++[t]).map zc) (d:=zc (t.2,t.1)) (by simp[fnD,zE,yd,yX,sIf,yw,xH,sNo,zF,Zh,wo,wW,Ye,vb,vEv,visF,visG,Sl.f,Sl.g,zd,eC,zk,x9,eOr,Ys,eIf,eUn,Yf,xt,yx,yc,zb,zo,zn,eFn,fFn,tOf,yg,wm,zS,asB,asI,zv,vg,wd,yh,yO,vY,yG,ltD,leD,gtD,geD,Yd,zz,zJ,zA,zI,Yq,zC,ixD,we,zT,isT,eSl,ym,yj,zV,yo,iOf,wg,yn,Yr,vo,wX,zM,yN,fLC,zR,zH,yq,zP,vD,ye,vH,b1,b2,vp,zc]) rfl l1]
      simp[zc]
     .unfold zf6
      rw[t4 (j7 c1),t4 (j7 c2),u1j]
    .refine vw (c:=false) (by simp[fnD,zE,yd,yX,sIf,yw,xH,sNo,zF,Zh,wo,wW,Ye,vb,vEv,visF,visG,Sl.f,Sl.g,zd,eC,zk,x9,eOr,Ys,eIf,eUn,Yf,xt,yx,yc,zb,zo,zn,eFn,fFn,tOf,yg,wm,zS,asB,asI,zv,vg,wd,yh,yO,vY,yG,ltD,leD,gtD,geD,Yd,zz,zJ,zA,zI,Yq,zC,ixD,we,zT,isT,eSl,ym,yj,zV,yo,iOf,wg,yn,Yr,vo,wX,zM,yN,fLC,zR,zH,yq,zP,vD,ye,vH,b1,b2,eb,c2]) (λz=>by cases z) (λ_=>xG rfl (stepE _ ?_))
     unfold zf6
     rw[t4 (j7 c1),j4 (by simpa using c2),u0l]
  .refine yf (vw (c:=false) (by simp[fnD,zE,yd,yX,sIf,yw,xH,sNo,zF,Zh,wo,wW,Ye,vb,vEv,visF,visG,Sl.f,Sl.g,zd,eC,zk,x9,eOr,Ys,eIf,eUn,Yf,xt,yx,yc,zb,zo,zn,eFn,fFn,tOf,yg,wm,zS,asB,asI,zv,vg,wd,yh,yO,vY,yG,ltD,leD,gtD,geD,Yd,zz,zJ,zA,zI,Yq,zC,ixD,we,zT,isT,eSl,ym,yj,zV,yo,iOf,wg,yn,Yr,vo,wX,zM,yN,fLC,zR,zH,yq,zP,vD,ye,vH,b1,b2,ea,c1]) (λz=>by cases z) (λ_=>xG rfl ?_))
   by_cases c2:1 < vAt ns t.2
   .refine vw (c:=true) (by simp[fnD,zE,yd,yX,sIf,yw,xH,sNo,zF,Zh,wo,wW,Ye,vb,vEv,visF,visG,Sl.f,Sl.g,zd,eC,zk,x9,eOr,Ys,eIf,eUn,Yf,xt,yx,yc,zb,zo,zn,eFn,fFn,tOf,yg,wm,zS,asB,asI,zv,vg,wd,yh,yO,vY,yG,ltD,leD,gtD,geD,Yd,zz,zJ,zA,zI,Yq,zC,ixD,we,zT,isT,eSl,ym,yj,zV,yo,iOf,wg,yn,Yr,vo,wX,zM,yN,fLC,zR,zH,yq,zP,vD,ye,vH,b1,b2,eb,c2]) (λ_=>xG (ρ':=[.v (zO m ts),.v (.tup (ns.map .int)),.o ((A++[(t.2,t.1)]).map zc),.v (.int t.1),.v (.int t.2)]) ?_ (stepE _ ?_)) (λz=>by cases z)
    .rw[WH (ds:=A.map zc) (d:=zc (t.2,t.1)) (by simp[fnD,zE,yd,yX,sIf,yw,xH,sNo,zF,Zh,wo,wW,Ye,vb,vEv,visF,visG,Sl.f,Sl.g,zd,eC,zk,x9,eOr,Ys,eIf,eUn,Yf,xt,yx,yc,zb,zo,zn,eFn,fFn,tOf,yg,wm,zS,asB,asI,zv,vg,wd,yh,yO,vY,yG,ltD,leD,gtD,geD,Yd,zz,zJ,zA,zI,Yq,zC,ixD,we,zT,isT,eSl,ym,yj,zV,yo,iOf,wg,yn,Yr,vo,wX,zM,yN,fLC,zR,zH,yq,zP,vD,ye,vH,b1,b2,vp,zc]) rfl l0]
     simp[zc]
    .unfold zf6
     rw[j4 (by simpa using c1),t4 (j7 c2),List.nil_append]
   .refine vw (c:=false) (by simp[fnD,zE,yd,yX,sIf,yw,xH,sNo,zF,Zh,wo,wW,Ye,vb,vEv,visF,visG,Sl.f,Sl.g,zd,eC,zk,x9,eOr,Ys,eIf,eUn,Yf,xt,yx,yc,zb,zo,zn,eFn,fFn,tOf,yg,wm,zS,asB,asI,zv,vg,wd,yh,yO,vY,yG,ltD,leD,gtD,geD,Yd,zz,zJ,zA,zI,Yq,zC,ixD,we,zT,isT,eSl,ym,yj,zV,yo,iOf,wg,yn,Yr,vo,wX,zM,yN,fLC,zR,zH,yq,zP,vD,ye,vH,b1,b2,eb,c2]) (λz=>by cases z) (λ_=>xG rfl (stepE _ ?_))
    unfold zf6
    rw[j4 (by simpa using c1),j4 (by simpa using c2),u0l,u0l]
 .rintro ρ ⟨o1,o2,rfl⟩
  rw[u6,u0W]
  refine zkZ rfl (vT (d:=.lst ((XG (zc8 ns ts)).map zc)) ?_ rfl)
  have es:=zaQ (ts:=zc8 ns ts) (by have:=Xl ns ts;omega)
  simp[fnD,zE,yd,yX,sIf,yw,xH,sNo,zF,Zh,wo,wW,Ye,vb,vEv,visF,visG,Sl.f,Sl.g,zd,eC,zk,x9,eOr,Ys,eIf,eUn,Yf,xt,yx,yc,zb,zo,zn,eFn,fFn,tOf,yg,wm,zS,asB,asI,zv,vg,wd,yh,yO,vY,yG,ltD,leD,gtD,geD,Yd,zz,zJ,zA,zI,Yq,zC,ixD,we,zT,isT,eSl,ym,yj,zV,yo,iOf,wg,yn,Yr,vo,wX,zM,yN,fLC,zR,zH,yq,zP,vD,ye,vH,b1,b2,znz,Sl.fz,es]
theorem zdL (T:Txt K mg ad):xc P w K mg base CX0 1 ad.f__law_may ad.e__law_may ["web","heap"] (@spD ⟨K⟩ 2 Wz):=by
 letI:KK:=⟨K⟩
 refine yz (N:=["web","heap","found","a","b"]) (ps:=["web","heap"]) T.d__law_may.fn YQ (g:=ZT) λcdv A outer s H E hr=>?_
 unfold ZT ZK
 exact(ze (Zp (i:=2) YQ.nd rfl (Or.inl rfl) (v6 zf))
  (ze (vP i5 rfl (xo (zL (edv 0) (zh zi) (λ_ _=>rfl))) (XF rfl (yu (ya (zx (i:=3) YQ.nd rfl (Or.inl rfl))) (yu (ya (zx (i:=4) YQ.nd rfl (Or.inl rfl))) YX))) (ze (yr (zN zaG yk (zG _) (zL (edv 1) (edv 3) (λ_ _=>rfl)) (zh zi)) (zg (X7 (m:=false) (pv 2) (xr (za (edv 3) (za (edv 4) zf))) (λa b=>V1 u0j u0p u0q wc a b))) zD)
  (zg (yr (zN zaG yk (zG _) (zL (edv 1) (edv 4) (λ_ _=>rfl)) (zh zi)) (zg (X7 (m:=false) (pv 2) (xr (za (edv 4) (za (edv 3) zf))) (λa b=>V1 u0j u0p u0q wc a b))) zD))))
  (Xw 2 (zg (zu (wf (zcT rfl rfl T.z_sorted (za (edv 2) zf))))))))
theorem zlg {a b:List D}(h:a.length+b.length<=1000):Yc (.lst a) (.lst b)=some (.lst (a++b)):=by
 show(if lim (a.length+b.length)=true then _ else none)=_
 rw[t4 (vp h)]
theorem zeF {P:D->Prop}{ds:List D}{j:Int}(h:∀ d∈ds,P d)(h0:0<=j)(h1:j < ds.length):∃ d,L2.atI ds j=some d/\P d:=by
 have hj:j.toNat < ds.length:=by omega
 exact⟨ds[j.toNat],zcY h0 (t9 hj),h _ (u05 hj)⟩
theorem zaK {it:Ev->Option (List D)}{b:D->Option (List (Option D))}{t:Ev->Option Bool}{f:Ev->Option D}{ρ:Ev}{α:Type}{c:α->D}{p:α->Bool}{y:α->D}{xs:List α}(h1:it ρ=some (xs.map c))(hl:xs.length<=1000)(h:∀ x∈xs,∃ own,b (c x)=some own/\t (own++ρ)=some (p x)/\(p x=true->f (own++ρ)=some (y x))):fLC it b t f ρ=some ((xs.filter p).map y):=by
 unfold fLC
 rw[h1,i7,t4 (vp (by rw[u6];exact hl))]
 exact WC c p y xs h
theorem WJ {it:Ev->Option (List D)}{b:D->Option (List (Option D))}{t:Ev->Option Bool}{f:Ev->Option D}{ρ:Ev}{α:Type}{c y:α->D}{xs:List α}(h1:it ρ=some (xs.map c))(hl:xs.length<=1000)(h:∀ x∈xs,∃ own,b (c x)=some own/\t (own++ρ)=some true/\f (own++ρ)=some (y x)):fLC it b t f ρ=some (xs.map y):=by
 unfold fLC
 rw[h1,i7,t4 (vp (by rw[u6];exact hl))]
 exact zbh c y xs h
theorem zcC (ns:List Int):(ns.map D.int).all (okE 20)=true:=by
 rw[u1w,u0s]
 exact λx _=>rfl
theorem zeZ (x:Int)(ns:List Int):zh9 (.int x) (ns.map .int)=some (decide (x∈ns)):=by
 unfold zh9
 rw[t4 ⟨rfl,zcC ns⟩,u30]
 congr 1
 rw[u1n,u3L,r9]
 constructor
 .rintro⟨s,hs,h⟩
  have h:(s == x)=true:=h
  rw[u2Q]at h
  subst h
  exact hs
 .exact λh=>⟨x,h,(show(x == x)=true from u0N x)⟩
theorem znf (x:Int)(ns:List Int):inD (.int x) (.lst (ns.map .int))=some (.bl (decide (x∈ns))):=by
 show(zh9 (.int x) (ns.map .int)).map D.bl=_
 rw[zeZ]
 rfl
theorem zmG (x:Int)(ns:List Int):zh7 (.int x) (.lst (ns.map .int))=some (.bl (!decide (x∈ns))):=by
 show(zh9 (.int x) (ns.map .int)).map (λb=>D.bl (!b))=_
 rw[zeZ]
 rfl
theorem zjr {α:Type}(f:α->Bool)(l:List α):zpy [.lst (l.map λx=>.bl (f x))]=some (.bl (l.any f)):=by
 have:ziW (l.map λx=>D.bl (f x))=some (l.map f):=by
  have:=zeB (l.map f)
  rwa[i4]at this
 show((ziW (l.map λx=>D.bl (f x))).bind λbs=>some (D.bl (bs.any id)))=_
 rw[this]
 show some (D.bl ((l.map f).any id))=_
 rw[u30]
 rfl
theorem zmI:∀ (q p:List Int),((List.zipWith (eqN 19) (q.map D.int) (p.map D.int)).all id&&(q.map D.int).length == (p.map D.int).length)=decide (q=p):=by
 intro q
 induction q with
 | nil =>
  intro p
  cases p <;> rfl
 | cons a q ih =>
  intro p
  cases p with
  | nil=>rfl
  | cons b p =>
   have:=ih p
   show((a == b&&(List.zipWith (eqN 19) (q.map D.int) (p.map D.int)).all id)&&((q.map D.int).length+1 == (p.map D.int).length+1))=_
   rw[Bool.and_assoc,show((q.map D.int).length+1 == (p.map D.int).length+1)=((q.map D.int).length == (p.map D.int).length) by rw[u1n,u2Q,u2Q];omega,this]
   rw[u1n,g0,u2Q,r9,r9,List.cons.injEq]
theorem zem (ns:List Int):okE 20 (.lst (ns.map .int))=true:=by
 show(ns.map D.int).all (okE 19)=true
 rw[u1w,u0s]
 exact λx _=>rfl
theorem zmq (q p:List Int):zkJ (.lst (q.map .int)) (.lst (p.map .int))=some (.bl (!decide (q=p))):=by
 show(if (okE 20 (.lst (q.map .int))&&okE 20 (.lst (p.map .int)))=true then some (D.bl (!((List.zipWith (eqN 19) (q.map D.int) (p.map D.int)).all id&&(q.map D.int).length == (p.map D.int).length)))else none)=_
 rw[zem,zem,t4 (show(true&&true)=true from rfl),zmI]
def WX (P:List Int)(E:List Tie):List Int:=P.filter λp=>E.any λs=>decide (s.1=p)&&decide (s.2∈P)
theorem Wy {P:List Int}{E:List Tie}{p:Int}:p∈WX P E↔p∈P/\∃ s∈E,s.1=p/\s.2∈P:=by
 unfold WX
 rw[p8,u3L]
 simp only[g0,r9]
def W7:SE->Ctl :=
 (yd (yx (fLC (iOf (zd 0)) b1 (tOf (eFn zpy (zb (yx (fLC (iOf (zd 2)) b1 zR (x9 (zk XJ (zk ixD (zd 0) (eC (.int 0))) (zd 1)) (zk inD (zk ixD (zd 0) (eC (.int 1))) (zd 2))))) zo))) (zd 0))))
def XZ:List D->Option D:=fnD 2 W7
theorem zcf {P:List Int}{E:List Tie}(hP:P.length<=1000)(hE:E.length<=1000):XZ [.lst (P.map .int),.lst (E.map zc)]=some (.lst ((WX P E).map .int)):=by
 refine Xv (ρ:=[.v (.lst (P.map .int)),.v (.lst (E.map zc))]) rfl ?_
 unfold W7
 refine vT (xk (vv (zaK (c:=D.int) (xs:=P) (p:=λp=>E.any λs=>decide (s.1=p)&&decide (s.2∈P)) (y:=D.int) rfl hP λp _=>⟨[some (.int p)],rfl,?_,λ_=>rfl⟩))) rfl
 refine xD (VD (ds:=[.lst (E.map λs=>.bl (decide (s.1=p)&&decide (s.2∈P)))]) (zW (vv (WJ (c:=zc) (xs:=E) rfl hE λs _=>⟨[some (zc s)],rfl,rfl,?_⟩)) xv) (zjr _ _))
 exact zn6 (zB (x:=.int s.1) (y:=.int p) rfl rfl rfl) (zB (x:=.int s.2) (y:=.lst (P.map .int)) rfl rfl (znf _ _))
theorem zg2 (T:Txt K mg ad):xc P w K mg base CX0 1 ad.f_led_on ad.e_led_on ["places","steps"] (@spD ⟨K⟩ 2 XZ):=by
 letI:KK:=⟨K⟩
 refine yz (N:=["places","steps"]) (ps:=["places","steps"]) T.d_led_on.fn zgT (g:=W7) λcdv A outer s H E hr=>?_
 unfold W7
 exact(zg (zu (wf (zlH (x0:="place") (M:=["places","steps"]) rfl (zok (by rfl) (by rfl) (by rfl) (by with_unfolding_all rfl) (λ_=>rfl) (λ_=>rfl) (by rfl) (by rfl) (by kernel_rfl) (all_cons rfl (all_cons rfl xb))) (xo (edv 0)) gs1 rb1 (λ_ _ _ _=>(zx (i:=0) zp2 rfl (Or.inr rfl) (.inl rfl))) (λ_ _ _ _=>(yA (zU (zgM rfl) zmb rfl T.z_any znl (za (wf (Z3 (L:=["step"]) (M:=["place","places","steps"]) rfl (wU (by rfl) (by rfl) (by rfl) (by with_unfolding_all rfl) (by rfl) (by rfl) (by kernel_rfl) (all_cons rfl (all_cons rfl xb))) (xo (edv 2)) gs1 rb1 (λ_ _ _ _=>(zx (i:=0) zpY rfl (Or.inl rfl) (.inr rfl))) (λ_ _ _ _=>(vM (Yt (Zg hr) vm (zG _) (zL (edv 0) (zh zi) (λ_ _=>rfl)) (edv 1)) (YC (Yt (Vv hr) VL (by with_unfolding_all rfl) (zL (edv 0) (zh zi) (λ_ _=>rfl)) (edv 2))))))) zf)))) (λ_ _ _ _=>(edv 0))))))
def znE (ρ:SE):Nat:=match ρ[1]? with
 | some (Sl.v (D.lst ds))=>ds.length
 | _=>0
def zjE (E:List Tie)(P:List Int):Nat->List Int
 | 0=>P
 | n+1=>WX (zjE E P n) E
def zf5 (E:List Tie):List Int:=(zml (E.map λs=>s.1.toNat)).map λk:Nat=>(k:Int)
def SmE (E:List Tie):Prop:=∀ s∈E,0<=s.1/\s.1 < 8
theorem zlE {E:List Tie}(h:SmE E){p:Int}:p∈zf5 E↔∃ s∈E,s.1=p:=by
 unfold zf5
 have h8:∀ k∈E.map λs=>s.1.toNat,k < 8:=λk hk=>by
  obtain⟨s,hs,rfl⟩:=b9.mp hk
  have:=h s hs
  omega
 rw[b9]
 constructor
 .rintro⟨k,hk,rfl⟩
  obtain⟨s,hs,rfl⟩:=b9.mp ((zeE h8).mp hk)
  exact⟨s,hs,by have:=h s hs;omega⟩
 .rintro⟨s,hs,rfl⟩
  exact⟨s.1.toNat,(zeE h8).mpr (b9.mpr ⟨s,hs,rfl⟩),by have:=h s hs;omega⟩
theorem zlJ (E:List Tie):(zf5 E).length<=8:=by
 unfold zf5 zml OwnSet.ksOf
 rw[u6]
 exact p6 (u1x _ _) (by rw[u1D];exact t5 _)
theorem zot {P:List Int}{E:List Tie}(h:WX P E≠P):(WX P E).length < P.length:=by
 have hs:(WX P E).Sublist P:=List.filter_sublist
 exact u2m hs.length_le λe=>h (hs.eq_of_length e)
def Y6:SE->Ctl :=
 (zE (zfa 4 (fLC (iOf (zd 0)) b1 (yg (tOf (zk XJ (zk ixD (zd 0) (eC (.int 0))) (zk ixD (zd 4) (eUn Yf (eC (.int 1)))))) (tOf (zk inD (zk ixD (zd 0) (eC (.int 1))) (zd 2)))) (zk ixD (zd 0) (eC (.int 1)))))
  (zE (sIf (tOf (zk inD (zk ixD (zd 4) (eC (.int 0))) (zd 3))) (yd (eFn zH (zb (eSl slD (zd 3) (yj (zkj zmR (zd 3) (zb (zk ixD (zd 4) (eC (.int 0))) zo))) ym) zo))) zF)
  (wW false 3 (zk ixD (zd 4) (eC (.int 0))))))
def Y0:SE->Ctl :=
 (zE (yw false 1 (zd 2))
  (yw false 2 (zn 2 XZ (zb (zd 1) (zb (zd 0) zo)))))
def YA:SE->Ctl :=
 (zE (yw false 1 (yx (fSS (yx (fLC (iOf (zd 0)) b1 zR (zk ixD (zd 0) (eC (.int 0))))))))
  (zE (yw false 2 (zn 2 XZ (zb (zd 1) (zb (zd 0) zo))))
  (zE (v5 (tOf (zk zkJ (zd 2) (zd 1))) Y0 20)
  (zE (sIf (tOf (zk XJ (eFn we (zb (zd 1) zo)) (eC (.int 0)))) (yd (eC .non)) zF)
  (zE (wo 3 (yc (zb (zk ixD (zd 1) (eC (.int 0))) zo)))
  (v5 (tOf (eC (.bl true))) Y6 20))))))
def xh:List D->Option D:=fnD 5 YA
theorem zcP {E:List Tie}{N B C:SE->Prop}{R:D->Prop}{g:SE->Ctl}(hE:E.length<=1000)(h8:SmE E)(hg:∀ P j,P=zjE E (zf5 E) j->j+P.length<=8->WX P E=P->(g [.v (.lst (E.map zc)),.v (.lst (P.map .int)),.v (.lst (P.map .int)),.no,.no]).w N B C R) :
 (zE (yw false 1 (yx (fSS (yx (fLC (iOf (zd 0)) b1 zR (zk ixD (zd 0) (eC (.int 0))))))))
 (zE (yw false 2 (zn 2 XZ (zb (zd 1) (zb (zd 0) zo))))
 (zE (v5 (tOf (zk zkJ (zd 2) (zd 1))) Y0 20) g)) [.v (.lst (E.map zc)),.no,.no,.no,.no]).w N B C R:=by
 have e1:yx (fSS (yx (fLC (iOf (zd 0)) b1 zR (zk ixD (zd 0) (eC (.int 0)))))) (visF [.v (.lst (E.map zc)),.no,.no,.no,.no])=some (.lst ((zf5 E).map .int)):=by
  refine vv (zpd (d:=.lst (((E.map λs=>s.1.toNat).map λk:Nat=>(k:Int)).map .int)) (vv ?_) ?_)
  .rw[i4,i4]
   refine WJ (c:=zc) (xs:=E) rfl hE λs hs=>⟨[some (zc s)],rfl,rfl,?_⟩
   show some (D.int s.1)=some (D.int ((s.1.toNat:Nat):Int))
   rw[Int.toNat_of_nonneg (h8 s hs).1]
  .show(Xi _).map _=_
   rw[zdb λk hk=>?_]
   .rfl
   .obtain⟨s,hs,rfl⟩:=b9.mp hk
    have:=h8 s hs
    omega
 refine zp (zbQ e1) ?_
 have hl:=zlJ E
 refine zp (ρ':=[.v (.lst (E.map zc)),.v (.lst ((zf5 E).map .int)),.v (.lst ((WX (zf5 E) E).map .int)),.no,.no]) (yD (ds:=[_,_]) rfl (zcf (by omega) hE)) ?_
 refine yf (Wv (fun ρ=>∃ P j,ρ=[.v (.lst (E.map zc)),.v (.lst (P.map .int)),.v (.lst ((WX P E).map .int)),.no,.no]/\P=zjE E (zf5 E) j/\j+P.length<=8) znE ?_ 20 _ ⟨zf5 E,0,rfl,rfl,by omega⟩ ?_)
 .rintro ρ ⟨P,j,rfl,hP,hj⟩
  refine⟨!decide (WX P E=P),xD (zB (x:=.lst ((WX P E).map .int)) (y:=.lst (P.map .int)) rfl rfl (zmq _ _)),λc=>?_,λc=>?_⟩
  .have hne:WX P E≠P:=λe=>by rw[j7 e]at c;cases c
   have hlt:=zot hne
   unfold Y0
   refine zp (ρ':=[.v (.lst (E.map zc)),.v (.lst ((WX P E).map .int)),.v (.lst ((WX P E).map .int)),.no,.no]) rfl ?_
   refine xG (ρ':=[.v (.lst (E.map zc)),.v (.lst ((WX P E).map .int)),.v (.lst ((WX (WX P E) E).map .int)),.no,.no]) (yD (ds:=[_,_]) rfl (zcf (by omega) hE)) ⟨⟨WX P E,j+1,rfl,by rw[hP];rfl,by omega⟩,?_⟩
   show((WX P E).map D.int).length < (P.map D.int).length
   rw[u6,u6]
   exact hlt
  .have he:WX P E=P:=by
    by_cases z:WX P E=P
    .exact z
    .rw[g9 z]at c;cases c
   rw[he]
   exact hg P j hP hj he
 .show((zf5 E).map D.int).length < 20
  rw[u6]
  omega
theorem zjl (rank:Int->Int):∀ (P:List Int),P≠[]->∃ p∈P,∀ q∈P,rank q<=rank p:=by
 intro P
 induction P with
 | nil=>intro h;exact absurd rfl h
 | cons a P ih =>
  intro _
  by_cases hP:P=[]
  .subst hP
   exact⟨a,d6,λq hq=>by rw[d5.mp hq];exact u1p _⟩
  .obtain⟨p,hp,hm⟩:=ih hP
   by_cases c:rank a<=rank p
   .exact⟨p,r8 _ hp,λq hq=>by
     rcases j9.mp hq with rfl | hq
     .exact c
     .exact hm q hq⟩
   .exact⟨a,d6,λq hq=>by
     rcases j9.mp hq with rfl | hq
     .exact u1p _
     .have:=hm q hq;omega⟩
theorem zln {rank:Int->Int}{E:List Tie}{P:List Int}(h:∀ s∈E,rank s.1 < rank s.2)(hf:WX P E=P):P=[]:=by
 by_cases c:P=[]
 .exact c
 .obtain⟨p,hp,hm⟩:=zjl rank P c
  rw[<-hf]at hp
  obtain⟨-,s,hs,rfl,h2⟩:=Wy.mp hp
  have:=h s hs
  have:=hm _ h2
  omega
theorem zb6 {E:List Tie}{rank:Int->Int}(hE:E.length<=1000)(h8:SmE E)(h:∀ s∈E,rank s.1 < rank s.2):xh [.lst (E.map zc)]=some .non:=by
 refine Xv (ρ:=[.v (.lst (E.map zc)),.no,.no,.no,.no]) rfl ?_
 unfold YA
 refine zcP hE h8 λP j hP hj hf=>?_
 rw[zln h hf]
 exact yf (vw (c:=true) rfl (λ_=>vT rfl rfl) (λz=>by cases z))
def zo2 (E:List Tie):List Tie:=E.filter λs=>decide (s.2∈E.map λq=>q.1)
def Ya (E:List Tie):Nat->List Tie
 | 0=>E
 | n+1=>zo2 (Ya E n)
theorem Y9 {E:List Tie}{s:Tie}:s∈zo2 E↔s∈E/\∃ q∈E,q.1=s.2:=by
 unfold zo2
 rw[p8,r9,b9]
theorem zjB (E:List Tie):∀ n s,s∈Ya E n->s∈E:=by
 intro n
 induction n with
 | zero=>exact λs h=>h
 | succ n ih=>exact λs h=>ih s (Y9.mp h).1
theorem zhO (E:List Tie)(j:Nat):∀ n s,s∈Ya E (j+n)->s∈Ya E j:=by
 intro n
 induction n with
 | zero=>exact λs h=>h
 | succ n ih=>exact λs h=>ih s (Y9.mp h).1
theorem zi7 {E:List Tie}{P:List Int}(hf:WX P E=P):∀ n s,s∈E->s.1∈P->s.2∈P->s∈Ya E n:=by
 intro n
 induction n with
 | zero=>exact λs h _ _=>h
 | succ n ih =>
  intro s h h1 h2
  refine Y9.mpr ⟨ih s h h1 h2,?_⟩
  have h3:=h2
  rw[<-hf]at h3
  obtain⟨-,q,hq,e,hq2⟩:=Wy.mp h3
  exact⟨q,ih q hq (by rw[e];exact h2) hq2,e⟩
theorem zha {E:List Tie}(h8:SmE E):∀ n s,s∈Ya E n->s.1∈zjE E (zf5 E) n:=by
 intro n
 induction n with
 | zero=>exact λs h=>(zlE h8).mpr ⟨s,h,rfl⟩
 | succ n ih =>
  intro s h
  obtain⟨h1,q,hq,e⟩:=Y9.mp h
  exact Wy.mpr ⟨ih s h1,s,zjB E n s h1,rfl,by rw[<-e];exact ih q hq⟩
structure VF (E:List Tie) (R:List Int):Prop where
 two:2<=R.length
 eight:R.length<=8
 nd:R.Nodup
 sm:∀ p∈R,0<=p/\p < 8
 go:∀ (i:Nat) (a b:Int),R[i]?=some a->(R.drop 1++R.take 1)[i]?=some b->(a,b)∈E
structure zgm (E:List Tie) (P W:List Int):Prop where
 ne:W≠[]
 nd:W.Nodup
 sub:∀ p∈W,p∈P
 go:∀ (i:Nat) (a b:Int),W[i]?=some a->W[i+1]?=some b->(a,b)∈E
theorem zbK {W P:List Int}(nd:W.Nodup)(h:∀ p∈W,p∈P):W.length<=P.length:=nd.length_le_of_subset h
theorem zdR {E:List Tie}{P W:List Int}{la o:Int}{j:Nat}(hw:zgm E P W)(hP:P.length<=8)(hsm:∀ p∈P,0<=p/\p < 8)(hla:W.getLast?=some la)(hE:(la,o)∈E)(hne:la≠o)(hj:W[j]?=some o):VF E (W.drop j):=by
 have hlen:=zbK hw.nd hw.sub
 obtain⟨hj1,hj2⟩:=t6.mp hj
 have hlast:W[W.length - 1]?=some la:=by rw[<-u3m];exact hla
 have hlt:j+1 < W.length:=by
  by_cases c:j=W.length - 1
  .rw[c,hlast]at hj
   cases hj
   exact absurd rfl hne
  .omega
 refine⟨by rw[u0n];omega,by rw[u0n];omega,hw.nd.sublist (List.drop_sublist _ _),λp hp=>hsm p (hw.sub p (List.mem_of_mem_drop hp)),λi a b ha hb=>?_⟩
 have hil:=(t6.mp ha).1
 rw[u0n]at hil
 rw[u1U]at ha
 have hd1:((W.drop j).drop 1).length=W.length - j - 1:=by rw[u0n,u0n]
 by_cases c:i < W.length - j - 1
 .rw[u0i (by rw[hd1];exact c),u1U,u1U]at hb
  exact hw.go (j+i) a b ha (by rw[<-hb];congr 1;omega)
 .rw[u0d (by rw[hd1];omega),hd1]at hb
  have e0:i - (W.length - j - 1)=0:=by omega
  rw[e0,u3v (by decide),u1U,Nat.add_zero,hj]at hb
  rw[show j+i=W.length - 1 by omega,hlast]at ha
  cases ha
  cases hb
  exact hE
theorem zgm.more {E:List Tie}{P W:List Int}{la o:Int}(hw:zgm E P W)(hla:W.getLast?=some la)(hE:(la,o)∈E)(ho:o∈P)(hn:o∉W):zgm E P (W++[o]):=by
 have hlast:W[W.length - 1]?=some la:=by rw[<-u3m];exact hla
 have hpos:=u2e.mpr hw.ne
 refine⟨by simp,u2v.mpr ⟨hw.nd,by simp,λa ha b hb e=>hn (by rw[<-d5.mp hb,<- e];exact ha)⟩,λp hp=>?_,λi a b ha hb=>?_⟩
 .rcases u0H.mp hp with h | h
  .exact hw.sub p h
  .rw[d5.mp h];exact ho
 .have hil:=(t6.mp hb).1
  rw[j8,u11]at hil
  rw[u0i (by omega)]at ha
  by_cases c:i+1 < W.length
  .rw[u0i c]at hb
   exact hw.go i a b ha hb
  .rw[u0d (by omega),show i+1 - W.length=0 by omega]at hb
   rw[show i=W.length - 1 by omega,hlast]at ha
   cases ha
   cases hb
   exact hE
theorem zg7 (O:List Int)(x:Int):(O.map D.int).findIdx? (λe=>eqN 20 e (.int x))=O.findIdx? (λy=>y == x):=by
 rw[List.findIdx?_map]
 rfl
theorem zn8 {O:List Int}{x:Int}(h:x∈O):zmR (.lst (O.map .int)) (.int x)=some (.int (((O.findIdx? λy=>y == x).getD 0:Nat):Int)):=by
 show(if okE 20 (.int x)=true/\(O.map D.int).all (okE 20)=true then ((O.map D.int).findIdx? λe=>eqN 20 e (.int x)).map λ(j:Nat)=>D.int (j:Int)else none)=_
 rw[t4 ⟨rfl,zcC O⟩,zg7]
 cases e:O.findIdx? λy=>y == x with
 | none =>
  have:=u1z.mp e x h
  rw[u0N]at this
  cases this
 | some j=>rfl
theorem zg6 {i:Nat}{f:Ev->Option (List D)}{ρ ρ':SE}{ds:List D}(h:f (visG ρ)=some ds)(hn:zjs ds=true)(h2:ρ.set i (.v (.lst ds))=ρ':=by rfl):zfa i f ρ=.nx ρ':=by
 unfold zfa
 rw[h]
 show(if zjs ds=true then Ctl.nx (ρ.set i (.v (.lst ds)))else .no)=_
 rw[t4 hn,h2]
theorem zfP (ns:List Int):zjs (ns.map .int)=true:=by
 induction ns with
 | nil=>rfl
 | cons n ns ih=>show(noL (.int n)&&zjs (ns.map .int))=true;rw[ih];rfl
theorem zka {α:Type}(xs:List α)(x:α):L2.atI (xs++[x]) (-1)=some x:=by
 have e:L2.ixN (xs++[x]).length (-1)=some xs.length:=by
  unfold L2.ixN
  rw[j8]
  simp
  omega
 unfold L2.atI
 rw[e]
 simp
def zn3 (ρ:SE):Nat:=match ρ[3]? with
 | some (Sl.o ds)=>9 - ds.length
 | _=>0
theorem zl4 {W:List Int}{o:Int}(h:o∈W):W[(W.findIdx? λy=>y == o).getD 0]?=some o:=by
 cases e:W.findIdx? λy=>y == o with
 | none =>
  have:=u1z.mp e o h
  rw[u0N]at this
  cases this
 | some j =>
  obtain⟨h1,h2,-⟩:=u2k.mp e
  show W[j]?=some o
  rw[t9 h1,u2Q.mp h2]
theorem znL {E:List Tie}{P:List Int}{N B C:SE->Prop}{R:D->Prop}(hE:E.length<=1000)(hP:P.length<=8)(hsm:∀ p∈P,0<=p/\p < 8)(hf:WX P E=P)(hne:P≠[])(hd:∀ s∈E,s.1≠s.2)(hR:∀ L,VF E L->R (.tup (L.map .int))):((zE (sIf (tOf (zk XJ (eFn we (zb (zd 1) zo)) (eC (.int 0)))) (yd (eC .non)) zF)
 (zE (wo 3 (yc (zb (zk ixD (zd 1) (eC (.int 0))) zo)))
 (v5 (tOf (eC (.bl true))) Y6 20))) [.v (.lst (E.map zc)),.v (.lst (P.map .int)),.v (.lst (P.map .int)),.no,.no]).w N B C R:=by
 obtain⟨p0,P',rfl⟩:∃ p0 P',P=p0::P':=by
  cases P with
  | nil=>exact absurd rfl hne
  | cons p P=>exact⟨p,P,rfl⟩
 refine yf (vw (c:=false) ?_ (λz=>by cases z) (λ_=>xG rfl ?_))
 .refine(xD (zB (x:=.int (((p0::P').map D.int).length:Int)) (y:=.int 0) (VD (ds:=[.lst ((p0::P').map .int)]) rfl rfl) rfl rfl)).trans ?_
  rw[u6,i6,g9 (by omega)]
 obtain⟨P,hPe⟩:∃ P,p0::P'=P:=⟨_,rfl⟩
 have hp0:p0∈P:=by rw[<-hPe];exact d6
 refine zp (ρ':=[.v (.lst (E.map zc)),.v (.lst (P.map .int)),.v (.lst (P.map .int)),.o ([p0].map .int),.no]) ?_ ?_
 .rw[<-hPe]
  exact zdF (ds:=[.int p0]) (zmu (zW (zB (x:=.lst ((p0::P').map .int)) (y:=.int 0) rfl rfl (zcY (by decide) rfl)) xv) (by show 1<=1000;decide))
 rw[hPe]at hP hsm hf
 refine Wv (fun ρ=>∃ (W:List Int) (o4:Sl),ρ=[.v (.lst (E.map zc)),.v (.lst (P.map .int)),.v (.lst (P.map .int)),.o (W.map .int),o4]/\zgm E P W) zn3 ?_ 20 _ ⟨[p0],_,rfl,⟨by simp,by simp,λp hp=>by rw[d5.mp hp];exact hp0,λi a b _ hb=>by simp at hb⟩⟩ (by show 9 - 1 < 20;decide)
 rintro ρ ⟨W,o4,rfl,hw⟩
 refine⟨true,rfl,λ_=>?_,λz=>by cases z⟩
 have hlen:=zbK hw.nd hw.sub
 obtain⟨W',la,hW⟩:∃ W' la,W=W'++[la]:=⟨W.dropLast,W.getLast hw.ne,(List.dropLast_concat_getLast hw.ne).symm⟩
 have hla:W.getLast?=some la:=by rw[hW,List.getLast?_append];rfl
 have hlaP:la∈P:=hw.sub la (by rw[hW];exact b6 _ d6)
 unfold Y6
 obtain⟨Q,hQ⟩:∃ Q,(E.filter λs=>decide (s.1=la)&&decide (s.2∈P))=Q:=⟨_,rfl⟩
 have eo:fLC (iOf (zd 0)) b1 (yg (tOf (zk XJ (zk ixD (zd 0) (eC (.int 0))) (zk ixD (zd 4) (eUn Yf (eC (.int 1)))))) (tOf (zk inD (zk ixD (zd 0) (eC (.int 1))) (zd 2)))) (zk ixD (zd 0) (eC (.int 1))) (visG [.v (.lst (E.map zc)),.v (.lst (P.map .int)),.v (.lst (P.map .int)),.o (W.map .int),o4])=some ((Q.map λs=>s.2).map .int):=by
  rw[<-hQ,i4]
  refine zaK (c:=zc) (xs:=E) rfl hE λs _=>⟨[some (zc s)],rfl,?_,λ_=>rfl⟩
  refine zob (xD (zB (x:=.int s.1) (y:=.int la) rfl (zB (x:=.lst (W.map .int)) (y:=.int (-1)) rfl rfl ?_) rfl)) (xD (zB (x:=.int s.2) (y:=.lst (P.map .int)) rfl rfl (znf _ _)))
  show L2.atI (W.map D.int) (-1)=_
  rw[hW,p9]
  exact zka _ _
 obtain⟨s,Q',hs⟩:∃ s Q',Q=s::Q':=by
  have h1:=hlaP
  rw[<-hf]at h1
  obtain⟨-,s,hsE,e1,e2⟩:=Wy.mp h1
  have:s∈Q:=by
   rw[<-hQ,p8,g0,r9,r9]
   exact⟨hsE,e1,e2⟩
  cases Q with
  | nil=>cases this
  | cons q Q=>exact⟨q,Q,rfl⟩
 have hsQ:s∈Q:=by rw[hs];exact d6
 rw[<-hQ,p8,g0,r9,r9]at hsQ
 obtain⟨hsE,e1,e2⟩:=hsQ
 have hso:(la,s.2)∈E:=by rw[<-e1];exact hsE
 refine zp (ρ':=[.v (.lst (E.map zc)),.v (.lst (P.map .int)),.v (.lst (P.map .int)),.o (W.map .int),.v (.lst (.int s.2::(Q'.map λs=>s.2).map .int))]) (zg6 eo (zfP _) (by rw[hs];rfl)) ?_
 have e4:∀ ρ:Ev,zd 4 ρ=some (.lst (.int s.2::(Q'.map λs=>s.2).map .int))->zk ixD (zd 4) (eC (.int 0)) ρ=some (.int s.2):=fun ρ h=>zB (x:=.lst (.int s.2::(Q'.map λs=>s.2).map .int)) (y:=.int 0) h rfl (zcY (by decide) rfl)
 refine yf (vw (c:=decide (s.2∈W)) (xD (zB (x:=.int s.2) (y:=.lst (W.map .int)) (e4 _ rfl) rfl (znf _ _))) (λc=>?_) (λc=>xG rfl ?_))
 .have c:=d7 c
  refine vT (xk (d:=.tup ((W.drop ((W.findIdx? λy=>y == s.2).getD 0)).map .int)) ?_) (hR _ (zdR hw hP hsm hla hso (by rw[<-e1];exact hd s hsE) (zl4 c)))
  refine VD (ds:=[.lst ((W.drop ((W.findIdx? λy=>y == s.2).getD 0)).map .int)]) (zW ?_ xv) rfl
  have ei:yj (zkj zmR (zd 3) (zb (zk ixD (zd 4) (eC (.int 0))) zo)) (visG [.v (.lst (E.map zc)),.v (.lst (P.map .int)),.v (.lst (P.map .int)),.o (W.map .int),.v (.lst (.int s.2::(Q'.map λs=>s.2).map .int))])=some (some (((W.findIdx? λy=>y == s.2).getD 0:Nat):Int)):=by
   unfold yj zkj
   rw[zW (e4 _ rfl) xv]
   show((zmR (.lst (W.map .int)) (.int s.2)).bind asI).map some=_
   rw[zn8 c]
   rfl
  unfold eSl
  rw[ei]
  show some (D.lst (zb5 (W.map D.int) (some (((W.findIdx? λy=>y == s.2).getD 0:Nat):Int)) none))=_
  rw[zhE,List.map_drop]
 .have c:=u1V c
  have hw2:=hw.more hla hso e2 c
  have hlen2:=zbK hw2.nd hw2.sub
  rw[j8,u11]at hlen2
  refine xG (WH (ds:=W.map .int) (d:=.int s.2) (show zk ixD (zd 4) (eC (.int 0)) (visF [.v (.lst (E.map zc)),.v (.lst (P.map .int)),.v (.lst (P.map .int)),.o (W.map .int),.v (.lst (.int s.2::(Q'.map λs=>s.2).map .int))])=_ from e4 _ rfl) rfl (by rw[u6];omega)) ⟨⟨W++[s.2],.v (.lst (.int s.2::(Q'.map λs=>s.2).map .int)),by rw[p9];rfl,hw2⟩,?_⟩
  show 9 - (W.map D.int++[D.int s.2]).length < 9 - (W.map D.int).length
  rw[j8,u6,u11]
  omega
theorem zft {E:List Tie}(hE:E.length<=1000)(h8:SmE E)(hd:∀ s∈E,s.1≠s.2):(xh [.lst (E.map zc)]=some .non/\Ya E 9=[])\/∃ L,xh [.lst (E.map zc)]=some (.tup (L.map .int))/\VF E L/\Ya E 9≠[]:=by
 have key:=zfb (m:=5) (g:=YA) (ds:=[.lst (E.map zc)]) (R:=λd=>(d=.non/\Ya E 9=[])\/∃ L:List Int,d=.tup (L.map .int)/\VF E L/\Ya E 9≠[]) (ρ:=[.v (.lst (E.map zc)),.no,.no,.no,.no]) rfl ?_
 .obtain⟨d,e,⟨rfl,h⟩ | ⟨L,rfl,h⟩⟩:=key
  .exact .inl ⟨e,h⟩
  .exact .inr ⟨L,e,h⟩
 unfold YA
 refine zcP hE h8 λP j hP hj hf=>?_
 have hsm:∀ p∈P,0<=p/\p < 8:=λp hp=>by
  rw[<-hf]at hp
  obtain⟨-,s,hs,rfl,-⟩:=Wy.mp hp
  exact h8 s hs
 by_cases c:P=[]
 .subst c
  refine yf (vw (c:=true) rfl (λ_=>vT rfl (.inl ⟨rfl,?_⟩)) (λz=>by cases z))
  refine u2B.mpr λs hs=>?_
  have h1:=zhO E j (9 - j) s (by rw[show j+(9 - j)=9 by omega];exact hs)
  have h2:=zha h8 j s h1
  rw[<-hP]at h2
  cases h2
 .refine znL hE (by omega) hsm hf c hd λL hL=>.inr ⟨L,rfl,hL,?_⟩
  obtain⟨p,hp⟩:=List.exists_mem_of_ne_nil _ c
  have h1:=hp
  rw[<-hf]at h1
  obtain⟨-,s,hs,rfl,h2⟩:=Wy.mp h1
  intro e
  have:=zi7 hf 9 s hs hp h2
  rw[e]at this
  cases this
theorem zaM (T:Txt K mg ad):xc P w K mg base CX0 2 ad.f_ring_of ad.e_ring_of ["steps"] (@spD ⟨K⟩ 1 xh):=by
 letI:KK:=⟨K⟩
 have G_led_on:=zg2 (P:=P) (w:=w) (base:=base) T
 refine yz (N:=["steps","places","kept","way","onward"]) (ps:=["steps"]) T.d_ring_of.fn wx (g:=YA) λcdv A outer s H E hr=>?_
 unfold YA Y0 Y6
 exact(ze (zZ (m:=false) (i:=1) wx.nd rfl (Or.inr rfl) (wf (zfS rfl rfl T.z_sorted rfl T.z_set (wf (Z3 (L:=["step"]) (M:=["steps","places","kept","way","onward"]) rfl (wU (by rfl) (by rfl) (by rfl) (by with_unfolding_all rfl) (by rfl) (by rfl) (by kernel_rfl) xb) (xo (edv 0)) gs1 rb1 (λ_ _ _ _=>(zx (i:=0) zm5 rfl (Or.inl rfl) (.inr rfl))) (λ_ _ _ _=>(zL (edv 0) (zh zi) (λ_ _=>rfl))))))))
  (ze (zZ (m:=false) (i:=2) wx.nd rfl (Or.inl rfl) (zj G_led_on hr rfl T.d_led_on (za (edv 1) (za (edv 0) zf))))
  (ze (W9 20 i5 (zN (zhh hr) zef (zG _) (edv 2) (edv 1)) (ze (zZ (m:=false) (i:=1) wx.nd rfl (Or.inr rfl) (edv 2))
  (zg (zZ (m:=false) (i:=2) wx.nd rfl (Or.inl rfl) (zj G_led_on hr rfl T.d_led_on (za (edv 1) (za (edv 0) zf)))))))
  (ze (yr (zN (Zg hr) vm (zG _) (zU zQ x6 rfl T.z_len v9 (za (edv 1) zf)) (zh zi)) (zg (zu (XH X2))) zD)
  (ze (Zp (i:=3) wx.nd rfl (Or.inr rfl) (v6 (za (zL (edv 1) (zh zi) (λ_ _=>rfl)) zf)))
  (zg (W9 20 i5 (yA (wZ vf)) (ze (zko (i:=4) (zdc (L:=["step"]) (M:=["steps","places","kept","way","onward"]) wx.nd rfl (Or.inl rfl) rfl (wU (by rfl) (by rfl) (by rfl) (by with_unfolding_all rfl) (by rfl) (by rfl) (by kernel_rfl) (all_cons rfl (all_cons rfl xb))) (xo (edv 0)) gs1 rb1 (λ_ _ _ _=>(zx (i:=0) zm5 rfl (Or.inl rfl) (.inr rfl))) (λ_ _ _ _=>(zdI (za9 (zN (Zg hr) vm (zG _) (zL (edv 0) (zh zi) (λ_ _=>rfl)) (zL (edv 4) (zk3 (zh zi)) (λ_ _=>rfl))) (Wm (zN (Vv hr) VL (by with_unfolding_all rfl) (zL (edv 0) (zh zi) (λ_ _=>rfl)) (edv 2)))))) (λ_ _ _ _=>(zL (edv 0) (zh zi) (λ_ _=>rfl)))))
  (ze (yr (zN (Vv hr) VL (by with_unfolding_all rfl) (zL (edv 4) (zh zi) (λ_ _=>rfl)) (edv 3)) (zg (zu (wL yC wP rfl T.z_tuple yB (za (vy (edv 3) (Za (zjw (edv 3) (za (zL (edv 4) (zh zi) (λ_ _=>rfl)) zf) (λa b=>V1 u0j PySem.F.slot_list_index PySem.F.type_list_index (zga hr) a b))) YS) zf)))) zD)
  (zg (X7 (m:=false) (pv 3) (zL (edv 4) (zh zi) (λ_ _=>rfl)) (λa b=>V1 u0j u0p u0q wc a b))))))))))))
theorem zdJ {ns:List Int}{i j x:Int}(hi:0<=i)(hl:i < ns.length)(hj:0<=j):vAt (ns.set i.toNat x) j=if j=i then x else vAt ns j:=by
 unfold vAt
 rw[u0r,u1k,u0r]
 by_cases h:j=i
 .subst h
  rw[t4 rfl,t4 (by omega),t4 rfl]
  rfl
 .rw[j4 (by omega),j4 h]
theorem zbY {ns ms:List Int}(hl:ns.length=ms.length)(h:∀ x:Int,0<=x->x < ns.length->vAt ns x=vAt ms x):ns=ms:=by
 refine u2H hl λi h1 h2=>?_
 have:=h (i:Int) (u00 i) (Int.ofNat_lt.mpr h1)
 unfold vAt at this
 rw[u0f,Dl.getD_at h1,Dl.getD_at h2]at this
 exact this
theorem wI {gs:List Int}{m a b n j:Int}(hg:(gs.length:Int)=m)(ha:0<=a/\a < m)(hb:0<=b/\b < m)(hne:a≠b)(hj:0<=j):vAt (YG gs (a,b,n)) j=if j=b then vAt gs b+n else if j=a then vAt gs a - 2*n else vAt gs j:=by
 unfold YG
 show vAt ((gs.set a.toNat (vAt gs a - 2*n)).set b.toNat (vAt (gs.set a.toNat (vAt gs a - 2*n)) b+n)) j=_
 rw[zdJ hb.1 (by rw[u1E];omega) hj,zdJ ha.1 (by omega) hb.1,j4 (u0R hne)]
 by_cases c:j=b
 .rw[t4 c,t4 c]
 .rw[j4 c,j4 c,zdJ ha.1 (by omega) hj]
theorem zfV {gs:List Int}{m a b:Int}(hg:(gs.length:Int)=m)(ha:0<=a/\a < m)(hb:0<=b/\b < m)(hne:a≠b):YG gs (a,b,0)=gs:=by
 refine zbY (yQ _ _) λx x0 x1=>?_
 rw[wI hg ha hb hne x0]
 split
 .rename_i e;rw[e,u3b]
 .split
  .rename_i e;rw[e,Int.mul_zero,Int.sub_zero]
  .rfl
theorem zhd {gs:List Int}{m a b n:Int}(hg:(gs.length:Int)=m)(ha:0<=a/\a < m)(hb:0<=b/\b < m)(hne:a≠b):YG (YG gs (a,b,n)) (a,b,1)=YG gs (a,b,n+1):=by
 refine zbY (by rw[yQ,yQ,yQ]) λx x0 x1=>?_
 have hg':((YG gs (a,b,n)).length:Int)=m:=by rw[yQ];exact hg
 rw[wI hg' ha hb hne x0,wI hg ha hb hne x0,wI hg ha hb hne hb.1,wI hg ha hb hne ha.1,wI hg ha hb hne x0,t4 rfl,j4 hne,t4 rfl]
 split
 .omega
 .split <;> omega
def tdl (r:TR)(x:Int):Int:=(if x=r.2.1 then r.2.2 else 0) - (if x=r.1 then 2*r.2.2 else 0)
def tsd (R:List TR)(x:Int):Int:=(R.map λr=>tdl r x).sum
theorem xf (r:TR)(R:List TR)(x:Int):tsd (r::R) x=tdl r x+tsd R x:=rfl
theorem zdi (R S:List TR)(x:Int):tsd (R++S) x=tsd R x+tsd S x:=by
 unfold tsd
 rw[p9,u20]
theorem Va {R S:List TR}(h:R.Perm S)(x:Int):tsd R x=tsd S x:=by
 induction h with
 | nil=>rfl
 | cons r _ ih=>rw[xf,xf,ih]
 | swap a b l=>rw[xf,xf,xf,xf];omega
 | trans _ _ h1 h2=>rw[h1,h2]
theorem zg8 {g:List Int}{m:Int}{r:TR}{x:Int}(hg:(g.length:Int)=m)(hr:zkK m r)(hx:0<=x):vAt (YG g r) x=vAt g x+tdl r x:=by
 obtain⟨a,b,n⟩:=r
 obtain⟨p1,p2,p3,p4,p5⟩:=hr
 dsimp only at p1 p2 p3 p4 p5
 rw[wI hg p1 p2 p3 hx]
 show _=vAt g x+((if x=b then n else 0) - (if x=a then 2*n else 0))
 by_cases c:x=b
 .subst c
  rw[t4 rfl,t4 rfl,j4 (λe=>p3 e.symm)]
  omega
 .rw[j4 c,j4 c]
  by_cases d:x=a
  .subst d
   rw[t4 rfl,t4 rfl]
   omega
  .rw[j4 d,j4 d]
   omega
theorem wR (R:List TR):∀ g:List Int,(xE g R).length=g.length:=by
 induction R with
 | nil=>intro g;rfl
 | cons r R ih=>intro g;show(xE (YG g r) R).length=_;rw[ih,yQ]
theorem zaO {m x:Int}(hx:0<=x):∀ (R:List TR) (g:List Int),(g.length:Int)=m->(∀ r∈R,zkK m r)->vAt (xE g R) x=vAt g x+tsd R x:=by
 intro R
 induction R with
 | nil=>intro g _ _;show vAt g x=vAt g x+0;omega
 | cons r R ih =>
  intro g hg hr
  show vAt (xE (YG g r) R) x=_
  rw[ih (YG g r) (by rw[yQ];exact hg) (λq hq=>hr q (r8 _ hq)),zg8 hg (hr r d6) hx,xf]
  omega
theorem ze9 {m:Int}{R S:List TR}{g:List Int}(h:R.Perm S)(hg:(g.length:Int)=m)(hr:∀ r∈R,zkK m r):xE g R=xE g S :=
 zbY (by rw[wR,wR]) λx x0 _=>by rw[zaO x0 R g hg hr,zaO x0 S g hg (λr hs=>hr r (h.mem_iff.mpr hs)),Va h]
def Can (ts:List Tie):Hl->List Tie->Hl->Prop
 | g,[],g'=>g'=g
 | g,s::S,g'=>Zk s.1 s.2∈ts/\2<=vAt g s.1/\Can ts (xw g s) S g'
theorem Can.app {ts:List Tie}:∀ {S S2:List Tie} {g g1 g2:Hl},Can ts g S g1->Can ts g1 S2 g2->Can ts g (S++S2) g2:=by
 intro S
 induction S with
 | nil=>intro S2 g g1 g2 h h2;cases h;exact h2
 | cons s S ih=>intro S2 g g1 g2 h h2;exact⟨h.1,h.2.1,ih h.2.2 h2⟩
theorem zgS {ts:List Tie}:∀ {S:List Tie} {g g':Hl} (k:Nat),Can ts g S g'->yH ts g k (S.map zc)=.non/\W2 ts g (S.map zc)=g':=by
 intro S
 induction S with
 | nil=>intro g g' k h;cases h;exact⟨rfl,rfl⟩
 | cons s S ih =>
  intro g g' k h
  have e:ZY ts (zc s)=some s:=by
   show(if decide (Zk s.1 s.2∈ts)=true then some (s.1,s.2)else none)=_
   rw[t4 (j7 h.1)]
  have c:¬ vAt g s.1 < 2:=by have:=h.2.1;omega
  have:=ih (k+1) h.2.2
  rw[p7,Yy e c,Y7 e c]
  exact this
def wK (R:List TR):List Tie:=R.flatMap λr=>List.replicate r.2.2.toNat (trP r)
theorem zeM (R S:List TR):wK (R++S)=wK R++wK S:=u2W
theorem zmj {m:Int}{ts:List Tie}{g:Hl}{a b:Int}(hg:(g.length:Int)=m)(ha:0<=a/\a < m)(hb:0<=b/\b < m)(hne:a≠b)(ht:Zk a b∈ts):∀ k:Nat,2*(k:Int)<=vAt g a->Can ts g (List.replicate k (a,b)) (YG g (a,b,(k:Int))):=by
 intro k
 induction k with
 | zero=>intro _;exact zfV hg ha hb hne
 | succ k ih =>
  intro h
  rw[List.replicate_succ',show((k+1:Nat):Int)=(k:Int)+1 from rfl,<- zhd hg ha hb hne]
  refine(ih (by omega)).app ⟨ht,?_,rfl⟩
  show 2<=vAt (YG g (a,b,(k:Int))) a
  rw[wI hg ha hb hne ha.1,j4 hne,t4 rfl]
  omega
theorem znY {r:TR}{x:Int}(h:r.2.1≠x)(hn:0<=r.2.2):tdl r x<=0:=by
 unfold tdl
 rw[j4 (λe=>h e.symm)]
 split <;> omega
theorem zhj {x:Int}:∀ {R:List TR},(∀ r∈R,r.2.1≠x)->(∀ r∈R,0<=r.2.2)->tsd R x<=0:=by
 intro R
 induction R with
 | nil=>intro _ _;exact u1p _
 | cons r R ih =>
  intro h hn
  rw[xf]
  have:=ih (λq hq=>h q (r8 _ hq)) (λq hq=>hn q (r8 _ hq))
  have:=znY (h r d6) (hn r d6)
  omega
theorem zhb {m:Int}{ts:List Tie}{G:List TR}(hG:∀ r∈G,zkK m r):∀ (F:List TR) (g:Hl),(g.length:Int)=m->(∀ r∈F,zkK m r)->(∀ r∈F,Zk r.1 r.2.1∈ts)->(∀ r∈F,∀ q∈F++G,q.2.1≠r.1)->(∀ x,0<=x->x < m->0<=vAt g x+tsd F x+tsd G x)->Can ts g (wK F) (xE g F):=by
 intro F
 induction F with
 | nil=>intro g _ _ _ _ _;rfl
 | cons r F ih =>
  intro g hg hr ht hf hx
  obtain⟨a,b,n⟩:=r
  have hin:=hr _ d6
  obtain⟨p1,p2,p3,p4,p5⟩:=id hin
  dsimp only at p1 p2 p3 p4 p5
  have hF:∀ q∈F,q.2.1≠a:=λq hq=>hf _ d6 q (u04 _ (r8 _ hq))
  have hG':∀ q∈G,q.2.1≠a:=λq hq=>hf _ d6 q (b6 _ hq)
  have s1:=zhj hF (λq hq=>by have:=(hr q (r8 _ hq)).2.2.2.1;omega)
  have s2:=zhj hG' (λq hq=>by have:=(hG q hq).2.2.2.1;omega)
  have h0:=hx a p1.1 p1.2
  rw[xf,show tdl (a,b,n) a=0 - 2*n by unfold tdl;dsimp only;rw[j4 p3,t4 rfl]]at h0
  have hk:n=((n.toNat:Nat):Int):=by omega
  show Can ts g (List.replicate n.toNat (a,b)++wK F) (xE (YG g (a,b,n)) F)
  have c1:=zmj hg p1 p2 p3 (ht _ d6) n.toNat (by omega)
  rw[<-hk]at c1
  refine c1.app (ih _ (by rw[yQ];exact hg) (λq hq=>hr q (r8 _ hq)) (λq hq=>ht q (r8 _ hq)) (λq hq q2 hq2=>hf q (r8 _ hq) q2 (r8 _ hq2)) λx x0 x1=>?_)
  have:=hx x x0 x1
  rw[xf]at this
  rw[zg8 hg hin x0]
  omega
def YB (R:List TR)(r:TR):Bool:=!decide (r.1∈R.map λq=>q.2.1)
theorem zjk (rank:Int->Int):∀ (R:List TR),R≠[]->∃ r∈R,∀ q∈R,rank r.1<=rank q.1:=by
 intro R
 induction R with
 | nil=>intro h;exact absurd rfl h
 | cons a R ih =>
  intro _
  by_cases hR:R=[]
  .subst hR
   exact⟨a,d6,λq hq=>by rw[d5.mp hq];exact u1p _⟩
  .obtain⟨p,hp,hm⟩:=ih hR
   by_cases c:rank p.1<=rank a.1
   .exact⟨p,r8 _ hp,λq hq=>by
     rcases j9.mp hq with rfl | hq
     .exact c
     .exact hm q hq⟩
   .exact⟨a,d6,λq hq=>by
     rcases j9.mp hq with rfl | hq
     .exact u1p _
     .have:=hm q hq;omega⟩
theorem zh8 {rank:Int->Int}{R:List TR}(h:∀ r∈R,rank r.1 < rank r.2.1)(hne:R≠[]):(R.filter λr=>!YB R r).length < R.length:=by
 obtain⟨r,hr,hm⟩:=zjk rank R hne
 refine List.length_filter_lt_length_iff_exists.mpr ⟨r,hr,?_⟩
 unfold YB
 rw[Bool.not_not,r9]
 intro hmem
 obtain⟨q,hq,e⟩:=b9.mp hmem
 have h1:=h q hq
 have h2:=hm q hq
 have e:q.2.1=r.1:=e
 rw[e]at h1
 omega
theorem zb8 {m:Int}{ts:List Tie}(ok:y9 m ts):zX [zO m ts]=some .non:=by
 have hw:Z7 (zO m ts)=true:=(Wi _).mpr ⟨_,_,rfl,ok⟩
 simp only[zX]
 rw[t4 hw]
structure zjZ (m:Int) (h:Hl):Prop where
 len:(h.length:Int)=m
 nn:∀ v∈h,0<=v
 sum:h.sum<=300
theorem zd7 {m:Int}{ts:List Tie}{h:Hl}(ok:y9 m ts)(hp:zjZ m h):yi [zO m ts,hD h]=some .non:=by
 show(if (noS (.tup (h.map .int))&&decide (m<=1000)&&Xk m (.tup (h.map .int)))=true then some D.non else none)=_
 rw[ziZ,zh6 ok,zfr hp.len hp.nn hp.sum]
 rfl
def Zs:SE->Ctl :=
 (sIf (tOf (zk zh7 (zk ixD (zd 6) (eC (.int 0))) (zd 5))) (Ye 3 (zk wd (yx (yc (zb (eSl slD (zd 6) ym (yj (eC (.int 2)))) zo))) (zk ixD (zd 6) (eC (.int 2))))) zF)
def v4:SE->Ctl :=
 (zE (yw false 5 (yx (fLC (iOf (zd 4)) b1 zR (zk ixD (zd 0) (eC (.int 1))))))
  (zE (wg (iOf (zd 4)) (zP 6) Zs)
  (yw false 4 (yx (fLC (iOf (zd 4)) b1 (tOf (zk inD (zk ixD (zd 0) (eC (.int 0))) (zd 6))) (zd 0))))))
def Yv:SE->Ctl :=
 (zE (xH (zn 1 zX (zb (zd 0) zo)))
  (zE (xH (zn 2 yi (zb (zd 0) (zb (zd 1) zo))))
  (zE (xH (zn 2 yI (zb (zd 0) (zb (zd 2) zo))))
  (zE (sIf (wm (tOf (zk zC (zn 1 xh (zb (yx (fLC (iOf (zd 2)) b1 zR (eSl slD (zd 0) ym (yj (eC (.int 2)))))) zo)) (eC .non))) (tOf (zk ltD (eFn zcG (zb (zn 2 zcq (zb (zd 1) (zb (zd 2) zo))) zo)) (eC (.int 0))))) sNo zF)
  (zE (wo 3 (yc zo))
  (zE (yw false 4 (yx (fFn yq (zb (zd 2) zo))))
  (zE (v5 (tOf (zk gtD (eFn we (zb (zd 4) zo)) (eC (.int 0)))) v4 60)
  zF)))))))
def ZN:List D->Option (List D):=zn0 7 Yv 3
def Wq:List D->Option D:=λds=>(ZN ds).map .lst
theorem zjN {d:D}{n:Int}(h0:0<=n)(h1:n<=1000):wd (.lst [d]) (.int n)=some (.lst (List.replicate n.toNat d)):=by
 show(if -(2 ^ 63)<=n/\n < 2 ^ 63/\lim (1*n.toNat)=true then _ else none)=_
 rw[t4 ⟨by omega,by omega,vp (by omega)⟩,List.flatten_replicate_singleton]
theorem zld {i:Nat}{f:Ev->Option D}{ρ:SE}{ds es:List D}(h1:f (visF ρ)=some (.lst es))(h2:ρ[i]?=some (.o ds))(h3:ds.length+es.length<=1000):Ye i f ρ=.nx (ρ.set i (.o (ds++es))):=by
 unfold Ye
 rw[h1,h2]
 show(match (if lim (ds.length+es.length)=true then some (ρ.set i (Sl.o (ds++es)))else none)with | some ρ'=>Ctl.nx ρ' | none=>Ctl.no)=_
 rw[t4 (vp h3)]
theorem zj3 {A B:List TR}(h:A.Sublist B):(wK A).length<=(wK B).length:=by
 induction h with
 | slnil=>exact t5 _
 | cons b _ ih=>exact p6 ih (by show _<=(List.replicate b.2.2.toNat (trP b)++wK _).length;rw[j8];omega)
 | cons_cons b _ ih =>
  show(List.replicate b.2.2.toNat (trP b)++wK _).length<=(List.replicate b.2.2.toNat (trP b)++wK _).length
  rw[j8,j8]
  omega
theorem zcr {A B:List TR}(h:A.Perm B):(wK A).Perm (wK B):=h.flatMap_right _
theorem zjT {ns:List Int}(h:ns≠[]):zau ns < 0↔∃ y∈ns,y < 0:=by
 unfold zau
 cases e:ns.min? with
 | none=>exact absurd (List.min?_eq_none_iff.mp e) h
 | some m =>
  obtain⟨h1,h2⟩:=u2C.mp e
  show m < 0↔_
  constructor
  .exact λhm=>⟨m,h1,hm⟩
  .rintro⟨y,hy,hyW⟩
   have:=h2 y hy
   omega
theorem zkc {ns:List Int}(h:ns≠[]):zcG [.tup (ns.map .int)]=some (.int (zau ns)):=by
 show((zh4 (ns.map .int)).bind λns=>if ns=[]then none else some (D.int (zau ns)))=_
 rw[zby]
 show(if ns=[]then none else some (D.int (zau ns)))=_
 rw[j4 h]
theorem zj9 {ρ:Ev}{rs:List TR}(h:zd 2 ρ=some (.tup (rs.map trD)))(hl:rs.length<=1000):yx (fLC (iOf (zd 2)) b1 zR (eSl slD (zd 0) ym (yj (eC (.int 2))))) ρ=some (.lst ((rs.map trP).map zc)):=by
 rw[i4]
 exact vv (WJ (c:=trD) (xs:=rs) (zcA h rfl) hl λr _=>⟨[some (trD r)],rfl,rfl,rfl⟩)
theorem zf3 {m:Int}{ts:List Tie}{h:Hl}{rs:List TR}{rd:D}{c:Bool}{σ:SE}(ok:y9 m ts)(hp:zjZ m h)(hT:Zj ts rs)(h0:visG σ=[some (zO m ts),some (hD h),some (.tup (rs.map trD)),none,none,none,none])(hr:xh [.lst ((rs.map trP).map zc)]=some rd)(hc:zC rd .non=some (.bl c)):wm (tOf (zk zC (zn 1 xh (zb (yx (fLC (iOf (zd 2)) b1 zR (eSl slD (zd 0) ym (yj (eC (.int 2)))))) zo)) (eC .non))) (tOf (zk ltD (eFn zcG (zb (zn 2 zcq (zb (zd 1) (zb (zd 2) zo))) zo)) (eC (.int 0)))) (visG σ)=some (c||decide (zau (xE h rs) < 0)):=by
 have e4:=zgj hp.len ok.hi (hT.trIn ok)
 have hne:xE h rs≠[]:=by
  intro e
  have:=wR rs h
  rw[e]at this
  have h1:=hp.len
  have h2:=ok.lo
  rw[<-this]at h1
  exact absurd h1 (by show ¬ ((0:Nat):Int)=m;omega)
 rw[h0]
 refine zpp (xD (zB (x:=rd) (y:=.non) (yt (ds:=[.lst ((rs.map trP).map zc)]) (zW (zj9 rfl hT.len) xv) hr) rfl hc)) (xD (zB (x:=.int (zau (xE h rs))) (y:=.int 0) (VD (ds:=[.tup ((xE h rs).map .int)]) (zW (yt (ds:=[hD h,.tup (rs.map trD)]) rfl e4) xv) (zkc hne)) rfl rfl))
theorem zlm {m:Int}{ts:List Tie}{rs:List TR}(ok:y9 m ts)(hT:Zj ts rs):SmE (rs.map trP):=λs hs=>by
 obtain⟨r,hr,rfl⟩:=b9.mp hs
 have:=(hT.trIn ok r hr).1
 have:=ok.hi
 show 0<=r.1/\r.1 < 8
 omega
theorem zbW {m:Int}{ts:List Tie}{rs:List TR}{rank:Int->Int}(ok:y9 m ts)(hT:Zj ts rs)(hrk:∀ r∈rs,rank r.1 < rank r.2.1):xh [.lst ((rs.map trP).map zc)]=some .non :=
 zb6 (rank:=rank) (by rw[u6];exact hT.len) (zlm ok hT) λs hs=>by
  obtain⟨r,hr,rfl⟩:=b9.mp hs
  exact hrk r hr
def zoT (ρ:SE):Nat:=match ρ[4]? with
 | some (Sl.v (D.lst ds))=>ds.length
 | _=>0
theorem zks {m:Int}{ts:List Tie}{h:Hl}{rs T R:List TR}{o5 o6:Sl}(hT:∀ r∈R,zkK m r)(hR:R.length<=1000)(hlen:(wK (T++R)).length<=900){N B C:SE->Prop}{Q:D->Prop}(hN:∀ o5 o6,N [.v (zO m ts),.v (hD h),.v (.tup (rs.map trD)),.o ((wK (T++R.filter (YB R))).map zc),.v (.lst ((R.filter λr=>!YB R r).map trD)),o5,o6]):(v4 [.v (zO m ts),.v (hD h),.v (.tup (rs.map trD)),.o ((wK T).map zc),.v (.lst (R.map trD)),o5,o6]).w N B C Q:=by
 unfold v4
 have e5:yx (fLC (iOf (zd 4)) b1 zR (zk ixD (zd 0) (eC (.int 1)))) (visF [.v (zO m ts),.v (hD h),.v (.tup (rs.map trD)),.o ((wK T).map zc),.v (.lst (R.map trD)),o5,o6])=some (.lst ((R.map λq=>q.2.1).map .int)):=by
  rw[i4]
  exact vv (WJ (c:=trD) (xs:=R) rfl hR λr _=>⟨[some (trD r)],rfl,rfl,rfl⟩)
 refine zp (zbQ e5) ?_
 refine yf (ZZ (ds:=R.map trD) (λi ρ=>∃ o6:Sl,ρ=[.v (zO m ts),.v (hD h),.v (.tup (rs.map trD)),.o ((wK (T++(R.take i).filter (YB R))).map zc),.v (.lst (R.map trD)),.v (.lst ((R.map λq=>q.2.1).map .int)),o6]) rfl ⟨o6,by rw[List.take_zero,u31,u0l];rfl⟩ ?_ ?_)
 .rintro i d ρ hd ⟨o6,rfl⟩
  rw[j5]at hd
  obtain⟨r,hr,rfl⟩:=u8.mp hd
  obtain⟨p1,p2,p3,p4,p5⟩:=hT r (d9 hr)
  have htk:R.take (i+1)=R.take i++[r]:=by rw[u1F,hr];rfl
  obtain⟨A,hA⟩:∃ A,(R.take i).filter (YB R)=A:=⟨_,rfl⟩
  refine⟨[.v (zO m ts),.v (hD h),.v (.tup (rs.map trD)),.o ((wK (T++A)).map zc),.v (.lst (R.map trD)),.v (.lst ((R.map λq=>q.2.1).map .int)),.v (trD r)],by rw[hA];rfl,?_⟩
  unfold Zs
  refine vw (c:=YB R r) (xD (zB (x:=.int r.1) (y:=.lst ((R.map λq=>q.2.1).map .int)) rfl rfl (zmG _ _))) (λc=>?_) (λc=>xG rfl ⟨.v (trD r),?_⟩)
  .have hsub:(wK (T++(A++[r]))).length<=900:=by
    refine p6 (zj3 ((List.Sublist.refl T).append ?_)) hlen
    have:A++[r]=(R.take (i+1)).filter (YB R):=by rw[htk,u3d,hA,u2a,t4 c];rfl
    rw[this]
    exact List.filter_sublist.trans (u3w _ _)
   have er:wK (T++(A++[r]))=wK (T++A)++List.replicate r.2.2.toNat (trP r):=by
    rw[<-u1j,zeM]
    congr 1
    show List.replicate r.2.2.toNat (trP r)++[]=_
    rw[u0l]
   have hl2:((wK (T++A)).map zc).length+(List.replicate r.2.2.toNat (zc (trP r))).length<=1000:=by
    rw[u6,u1a]
    rw[er,j8,u1a]at hsub
    omega
   refine xG (zld (ds:=(wK (T++A)).map zc) (es:=List.replicate r.2.2.toNat (zc (trP r))) (zB (x:=.lst [zc (trP r)]) (y:=.int r.2.2) rfl rfl (zjN (by omega) (by omega))) rfl hl2) ⟨.v (trD r),?_⟩
   rw[htk,u3d,hA,u2a,t4 c,u31,er,p9,List.map_replicate]
   rfl
  .rw[htk,u3d,hA,u2a,j4 (by rw[c];exact u9),u31,u0l]
 .rintro ρ ⟨o6,rfl⟩
  rw[u6,u0W]
  have e4:yx (fLC (iOf (zd 4)) b1 (tOf (zk inD (zk ixD (zd 0) (eC (.int 0))) (zd 6))) (zd 0)) (visF [.v (zO m ts),.v (hD h),.v (.tup (rs.map trD)),.o ((wK (T++R.filter (YB R))).map zc),.v (.lst (R.map trD)),.v (.lst ((R.map λq=>q.2.1).map .int)),o6])=some (.lst ((R.filter λr=>!YB R r).map trD)):=by
   refine vv (zaK (c:=trD) (xs:=R) rfl hR λr _=>⟨[some (trD r)],rfl,?_,λ_=>rfl⟩)
   refine xD (zB (x:=.int r.1) (y:=.lst ((R.map λq=>q.2.1).map .int)) rfl rfl ?_)
   unfold YB
   rw[Bool.not_not]
   exact znf _ _
  exact xG (zbQ e4) (hN _ _)
theorem zdX {m:Int}{ts:List Tie}{h:Hl}{rs:List TR}{N B C:SE->Prop}{Q:D->Prop}{g:SE->Ctl}(ok:y9 m ts)(hp:zjZ m h)(hT:Zj ts rs)(hg:(g [.v (zO m ts),.v (hD h),.v (.tup (rs.map trD)),.no,.no,.no,.no]).w N B C Q) :
 (zE (xH (zn 1 zX (zb (zd 0) zo)))
 (zE (xH (zn 2 yi (zb (zd 0) (zb (zd 1) zo))))
 (zE (xH (zn 2 yI (zb (zd 0) (zb (zd 2) zo)))) g)) [.v (zO m ts),.v (hD h),.v (.tup (rs.map trD)),.no,.no,.no,.no]).w N B C Q:=by
 refine zp (ww (d:=.non) (zb8 ok)) ?_
 refine zp (ww (d:=.non) (zd7 ok hp)) ?_
 exact zp (ww (d:=.non) (Yn (Zr ok hT))) hg
theorem zjX {m:Int}{ts:List Tie}{h:Hl}{rs:List TR}{rank:Int->Int}(ok:y9 m ts)(hp:zjZ m h)(hT:Zj ts rs)(hrk:∀ r∈rs,rank r.1 < rank r.2.1)(hfin:∀ x,0<=x->x < m->0<=vAt h x+tsd rs x)(hlen:(wK rs).length<=900)(h56:rs.length<=58):∃ T:List TR,ZN [zO m ts,hD h,.tup (rs.map trD)]=some ((wK T).map zc)/\T.Perm rs/\Can ts h (wK T) (xE h rs):=by
 have hin:=hT.trIn ok
 have key:=zlp (m:=7) (g:=Yv) (i:=3) (ds:=[zO m ts,hD h,.tup (rs.map trD)]) (R:=λes=>∃ T:List TR,es=(wK T).map zc/\T.Perm rs/\Can ts h (wK T) (xE h rs)) (ρ:=[.v (zO m ts),.v (hD h),.v (.tup (rs.map trD)),.no,.no,.no,.no]) rfl ?_
 .obtain⟨es,e,T,rfl,h1,h2⟩:=key
  exact⟨T,e,h1,h2⟩
 unfold Yv
 refine zdX ok hp hT ?_
 have et:=zf3 (σ:=[.v (zO m ts),.v (hD h),.v (.tup (rs.map trD)),.no,.no,.no,.no]) (c:=false) ok hp hT rfl (zbW ok hT hrk) rfl
 have hmin:¬ zau (xE h rs) < 0:=by
  have hne:xE h rs≠[]:=by
   intro e
   have:=wR rs h
   rw[e]at this
   have h1:=hp.len
   have h2:=ok.lo
   rw[<-this]at h1
   exact absurd h1 (by show ¬ ((0:Nat):Int)=m;omega)
  rw[zjT hne]
  rintro⟨y,hy,hy0⟩
  obtain⟨i,hi,e⟩:=u2J.mp hy
  have hl:=wR rs h
  have hm:=hp.len
  have hf:=hfin (i:Int) (u00 i) (by rw[<-hm,<- hl];exact Int.ofNat_lt.mpr hi)
  have hv:=zaO (x:=(i:Int)) (u00 i) rs h hm hin
  have hy2:vAt (xE h rs) (i:Int)=y:=by
   unfold vAt
   rw[u0f,Dl.getD_at hi,e]
  rw[hy2]at hv
  omega
 rw[g9 hmin]at et
 refine yf (vw (c:=false) et (λz=>by cases z) (λ_=>xG rfl ?_))
 refine zp (ρ':=[.v (zO m ts),.v (hD h),.v (.tup (rs.map trD)),.o [],.no,.no,.no]) rfl ?_
 refine zp (ρ':=[.v (zO m ts),.v (hD h),.v (.tup (rs.map trD)),.o [],.v (.lst (rs.map trD)),.no,.no]) rfl ?_
 refine yf (Wv (fun ρ=>∃ (T R:List TR) (o5 o6:Sl),ρ=[.v (zO m ts),.v (hD h),.v (.tup (rs.map trD)),.o ((wK T).map zc),.v (.lst (R.map trD)),o5,o6]/\(T++R).Perm rs/\Can ts h (wK T) (xE h T)) zoT ?_ 60 _ ⟨[],rs,_,_,rfl,u1y _,rfl⟩ ?_)
 .rintro ρ ⟨T,R,o5,o6,rfl,hpm,hcan⟩
  have hRin:∀ r∈R,r∈rs:=λr hr=>hpm.mem_iff.mp (b6 _ hr)
  have hTin:∀ r∈T,r∈rs:=λr hr=>hpm.mem_iff.mp (u04 _ hr)
  have hRl:R.length<=58:=by
   have:=hpm.length_eq
   rw[j8]at this
   omega
  refine⟨decide ((0:Int) < ((R.map trD).length:Int)),xD (zB (x:=.int ((R.map trD).length:Int)) (y:=.int 0) (VD (ds:=[.lst (R.map trD)]) rfl rfl) rfl rfl),λc=>?_,λc=>?_⟩
  .have hne:R≠[]:=by
    intro e
    rw[e]at c
    cases c
   refine zks (λr hr=>hin r (hRin r hr)) (by omega) (by rw[(zcr hpm).length_eq];exact hlen) λo5 o6=>⟨⟨T++R.filter (YB R),R.filter λr=>!YB R r,o5,o6,rfl,?_,?_⟩,?_⟩
   .rw[u1j]
    exact((u1y T).append (List.filter_append_perm (YB R) R)).trans hpm
   .rw[zeM,show xE h (T++R.filter (YB R))=xE (xE h T) (R.filter (YB R))from u2u]
    refine hcan.app (zhb (m:=m) (G:=R.filter λr=>!YB R r) (λr hr=>hin r (hRin r (p8.mp hr).1)) _ _ (by rw[wR];exact hp.len) (λr hr=>hin r (hRin r (p8.mp hr).1)) (λr hr=>(hT.row r (hRin r (p8.mp hr).1)).1) (λr hr q hq e=>?_) λx x0 x1=>?_)
    .have hq':q∈R:=by
      rcases u0H.mp hq with z | z
      .exact(p8.mp z).1
      .exact(p8.mp z).1
     have hf:=(p8.mp hr).2
     unfold YB at hf
     rw[u3u,u0u]at hf
     exact hf (b9.mpr ⟨q,hq',e⟩)
    .have:=hfin x x0 x1
     have e1:=Va hpm x
     have e2:=Va (List.filter_append_perm (YB R) R) x
     rw[zdi]at e1 e2
     rw[zaO x0 T h hp.len (λr hr=>hin r (hTin r hr))]
     omega
   .show((R.filter λr=>!YB R r).map trD).length < (R.map trD).length
    rw[u6,u6]
    exact zh8 (λr hr=>hrk r (hRin r hr)) hne
  .have he:R=[]:=by
    cases R with
    | nil=>rfl
    | cons r R=>exact absurd c (by rw[u6,i6,j7 (by omega)];exact λz=>by cases z)
   subst he
   rw[u0l]at hpm
   refine xG rfl ⟨(wK T).map zc,rfl,T,rfl,hpm,?_⟩
   rw[<-ze9 hpm hp.len (λr hr=>hin r (hTin r hr))]
   exact hcan
 .show(rs.map trD).length < 60
  rw[u6]
  omega
theorem WT (T:Txt K mg ad):xc P w K mg base CX0 9 ad.f_in_order ad.e_in_order ["web","heap","tally"] (@zpP ⟨K⟩ 3 ZN):=by
 letI:KK:=⟨K⟩
 have G_must_be_web:=xu (P:=P) (w:=w) (base:=base) T
 have G_must_be_heap:=vK (P:=P) (w:=w) (base:=base) T
 have G_must_be_tally:=w8 (P:=P) (w:=w) (base:=base) T
 have G_left:=ziG (P:=P) (w:=w) (base:=base) T
 have G_ring_of:=zaM (P:=P) (w:=w) (base:=base) T
 refine znd (N:=["web","heap","tally","steps","rows","ends","row"]) (ps:=["web","heap","tally"]) T.d_in_order.fn wk (g:=Yv) (i:=3) λcdv A outer s H E hr=>?_
 unfold Yv v4 Zs
 exact(Y1 (wq (zj G_must_be_web hr rfl T.d_must_be_web (za (edv 0) zf)))
  (Y1 (wq (zj G_must_be_heap hr rfl T.d_must_be_heap (za (edv 0) (za (edv 1) zf))))
  (Y1 (wq (zj G_must_be_tally hr rfl T.d_must_be_tally (za (edv 0) (za (edv 2) zf))))
  (Y1 (yr (zdI (V5 (zN ZD YE (zG _) (zj G_ring_of hr rfl T.d_ring_of (za (wf (Z3 (L:=["row"]) (M:=["web","heap","tally","steps","rows","ends","·row"]) rfl (wU (by rfl) (by rfl) (by rfl) (by with_unfolding_all rfl) (by rfl) (by rfl) (by kernel_rfl) xb) (xo (edv 2)) gs1 rb1 (λ_ _ _ _=>(zx (i:=0) zmw rfl (Or.inl rfl) (.inr rfl))) (λ_ _ _ _=>(vy (edv 0) YS (Za (zh zi)))))) zf)) (XH X2)) (XV (zN zgw yk (zG _) (zU (zak rfl) zb3 rfl T.z_min zcb (za (zj G_left hr rfl T.d_left (za (edv 1) (za (edv 2) zf))) zf)) (zh zi))))) (zg v7) zD)
  (Y1 (Zp (i:=3) wk.nd rfl (Or.inl rfl) (v6 zf))
  (Y1 (zZ (m:=false) (i:=4) wk.nd rfl (Or.inl rfl) (wf (WF rfl T.z_list (za (edv 2) zf))))
  (Y1 (W9 60 i5 (zN zaG yk (zG _) (zU zQ x6 rfl T.z_len v9 (za (edv 4) zf)) (zh zi)) (ze (zZ (m:=false) (i:=5) wk.nd rfl (Or.inr rfl) (wf (Z3 (L:=["row"]) (M:=["web","heap","tally","steps","rows","ends","·row"]) rfl (wU (by rfl) (by rfl) (by rfl) (by with_unfolding_all rfl) (by rfl) (by rfl) (by kernel_rfl) xb) (xo (edv 4)) gs1 rb1 (λ_ _ _ _=>(zx (i:=0) zmw rfl (Or.inl rfl) (.inr rfl))) (λ_ _ _ _=>(zL (edv 0) (zh zi) (λ_ _=>rfl))))))
  (ze (vP i5 rfl (xo (edv 4)) (ya (zx (i:=6) wk.nd rfl (Or.inl rfl))) (zg (yr (zN (zhs hr) zgd (by with_unfolding_all rfl) (zL (edv 6) (zh zi) (λ_ _=>rfl)) (edv 5)) (zg (zmU (pv 3) (WP (wf (v6 (za (vy (edv 6) YS (Za (zh zi))) zf))) (zL (edv 6) (zh zi) (λ_ _=>rfl))) (λa b=>V1 u0j PySem.F.slot_list_extend PySem.F.type_list_extend zgf a b))) zD)))
  (zg (zdt (m:=false) (i:=4) (zdc (L:=["row"]) (M:=["web","heap","tally","steps","rows","ends","·row"]) wk.nd rfl (Or.inl rfl) rfl (wU (by rfl) (by rfl) (by rfl) (by with_unfolding_all rfl) (by rfl) (by rfl) (by kernel_rfl) (all_cons rfl xb)) (xo (edv 4)) gs1 rb1 (λ_ _ _ _=>(zx (i:=0) zmw rfl (Or.inl rfl) (.inr rfl))) (λ_ _ _ _=>(zN (Vv hr) VL (by with_unfolding_all rfl) (zL (edv 0) (zh zi) (λ_ _=>rfl)) (edv 6))) (λ_ _ _ _=>(edv 0))))))))
  (zlU (pv 3)))))))))
theorem zea (T:Txt K mg ad):xc P w K mg base CX0 9 ad.f_in_order ad.e_in_order ["web","heap","tally"] (@spD ⟨K⟩ 3 Wq):=by
 letI:KK:=⟨K⟩
 exact zna (WT (P:=P) (w:=w) (base:=base) T)
theorem zlP {ρ:Ev}{i:Nat}{rs:List TR}(h:zd i ρ=some (.tup (rs.map trD)))(hl:rs.length<=1000):yx (fLC (iOf (zd i)) b1 zR (eSl slD (zd 0) ym (yj (eC (.int 2))))) ρ=some (.lst ((rs.map trP).map zc)):=by
 rw[i4]
 exact vv (WJ (c:=trD) (xs:=rs) (zcA h rfl) hl λr _=>⟨[some (trD r)],rfl,rfl,rfl⟩)
def wy:SE->Ctl :=
 (zE (yw false 3 (yx (fLC (iOf (zd 1)) b2 zR (zd 0))))
  (yw false 1 (yx (fLC (iOf (zd 1)) b2 (tOf (zk inD (zd 1) (zd 5))) (xt (zb (zd 0) (zb (zd 1) zo)))))))
def xP:SE->Ctl :=
 (zE (yw false 1 (yx (fLC (iOf (zd 0)) b1 zR (eSl slD (zd 0) ym (yj (eC (.int 2)))))))
  (zE (yn vo (zb (eC (.int 9)) zo) (zP 2) wy)
  (yd (zk zkJ (zd 1) (yx (yc zo))))))
def xV:List D->Option D:=fnD 4 xP
theorem zkU (l:List Tie):zkJ (.lst (l.map zc)) (.lst [])=some (.bl (!decide (l=[]))):=by
 have hk:okE 20 (.lst (l.map zc))=true:=by
  show(l.map zc).all (okE 19)=true
  rw[u1w,u0s]
  exact λt _=>rfl
 show(if (okE 20 (.lst (l.map zc))&&true)=true then _ else none)=_
 rw[hk,t4 (show(true&&true)=true from rfl)]
 cases l <;> rfl
theorem zi3 (E:List Tie)(n:Nat):(Ya E n).length<=E.length:=by
 induction n with
 | zero=>exact t5 _
 | succ n ih=>exact p6 (u1x _ _) ih
theorem zdG {rs:List TR}(hl:rs.length<=1000):xV [.tup (rs.map trD)]=some (.bl (!decide (Ya (rs.map trP) 9=[]))):=by
 refine Xv (ρ:=[.v (.tup (rs.map trD)),.no,.no,.no]) rfl ?_
 unfold xP
 refine zp (ρ':=[.v (.tup (rs.map trD)),.v (.lst ((rs.map trP).map zc)),.no,.no]) (zbQ (zlP rfl hl)) ?_
 obtain⟨E,hE⟩:∃ E,rs.map trP=E:=⟨_,rfl⟩
 have hEl:E.length<=1000:=by rw[<-hE,u6];exact hl
 rw[hE]
 refine yf (zcO (lo:=0) (c:=9) (λi ρ=>∃ o2 o3:Sl,ρ=[.v (.tup (rs.map trD)),.v (.lst ((Ya E i).map zc)),o2,o3]) (show vo [.int 9]=some (W4 0 9)from ZW (by decide) (by decide)) ⟨_,_,rfl⟩ ?_ ?_)
 .rintro i ρ hi ⟨o2,o3,rfl⟩
  refine⟨[.v (.tup (rs.map trD)),.v (.lst ((Ya E i).map zc)),.v (.int ((0:Int)+(i:Int))),o3],rfl,?_⟩
  unfold wy
  have hcl:(Ya E i).length<=1000:=p6 (zi3 E i) hEl
  have e3:yx (fLC (iOf (zd 1)) b2 zR (zd 0)) (visF [.v (.tup (rs.map trD)),.v (.lst ((Ya E i).map zc)),.v (.int ((0:Int)+(i:Int))),o3])=some (.lst (((Ya E i).map λq=>q.1).map .int)):=by
   rw[i4]
   exact vv (WJ (c:=zc) (xs:=Ya E i) rfl hcl λs _=>⟨[some (.int s.1),some (.int s.2)],rfl,rfl,rfl⟩)
  refine zp (ρ':=[.v (.tup (rs.map trD)),.v (.lst ((Ya E i).map zc)),.v (.int ((0:Int)+(i:Int))),.v (.lst (((Ya E i).map λq=>q.1).map .int))]) (zbQ e3) ?_
  have e1:yx (fLC (iOf (zd 1)) b2 (tOf (zk inD (zd 1) (zd 5))) (xt (zb (zd 0) (zb (zd 1) zo)))) (visF [.v (.tup (rs.map trD)),.v (.lst ((Ya E i).map zc)),.v (.int ((0:Int)+(i:Int))),.v (.lst (((Ya E i).map λq=>q.1).map .int))])=some (.lst ((Ya E (i+1)).map zc)):=by
   refine vv (zaK (c:=zc) (xs:=Ya E i) rfl hcl λs _=>⟨[some (.int s.1),some (.int s.2)],rfl,?_,λ_=>rfl⟩)
   exact xD (zB (x:=.int s.2) (y:=.lst (((Ya E i).map λq=>q.1).map .int)) rfl rfl (znf _ _))
  exact xG (zbQ e1) ⟨_,_,rfl⟩
 .rintro ρ ⟨o2,o3,rfl⟩
  exact vT (xk (zB (x:=.lst ((Ya E 9).map zc)) (y:=.lst []) rfl rfl (zkU _))) rfl
theorem WV (T:Txt K mg ad):xc P w K mg base CX0 1 ad.f__law_has_ring ad.e__law_has_ring ["tally"] (@spD ⟨K⟩ 1 xV):=by
 letI:KK:=⟨K⟩
 refine yz (N:=["tally","left_v","turn","tails"]) (ps:=["tally"]) T.d__law_has_ring.fn y3 (g:=xP) λcdv A outer s H E hr=>?_
 unfold xP wy
 exact(ze (zdt (m:=false) (i:=1) (zmh (L:=["row"]) (M:=["tally","left_v","turn","tails"]) y3.nd rfl (Or.inl rfl) rfl (wU (by rfl) (by rfl) (by rfl) (by with_unfolding_all rfl) (by rfl) (by rfl) (by kernel_rfl) xb) (xo (edv 0)) gs1 rb1 (λ_ _ _ _=>(zx (i:=0) zpK rfl (Or.inl rfl) (.inr rfl))) (λ_ _ _ _=>(vy (edv 0) YS (Za (zh zi))))))
  (ze (Vc i5 rfl rfl T.z_range (za (zh zi) zf) (ya (zx (i:=2) y3.nd rfl (Or.inl rfl))) (ze (zZ (m:=false) (i:=3) y3.nd rfl (Or.inr rfl) (wf (Z3 (L:=["a","b"]) (M:=["tally","left_v","turn","tails"]) rfl (wU (by rfl) (by rfl) (by rfl) (by with_unfolding_all rfl) (by rfl) (by rfl) (by kernel_rfl) xb) (xo (edv 1)) gs2 rb2 (λ_ _ _ _=>(zey rfl (YK (zx (i:=0) zjQ rfl (Or.inl rfl) (.inr rfl)) (YK (zx (i:=1) zjQ rfl (Or.inl rfl) (.inr rfl)) zbk)))) (λ_ _ _ _=>(edv 0)))))
  (zg (zdt (m:=false) (i:=1) (zdc (L:=["a","b"]) (M:=["tally","left_v","turn","tails"]) y3.nd rfl (Or.inl rfl) rfl (wU (by rfl) (by rfl) (by rfl) (by with_unfolding_all rfl) (by rfl) (by rfl) (by kernel_rfl) (all_cons rfl xb)) (xo (edv 1)) gs2 rb2 (λ_ _ _ _=>(zey rfl (YK (zx (i:=0) zjQ rfl (Or.inl rfl) (.inr rfl)) (YK (zx (i:=1) zjQ rfl (Or.inl rfl) (.inr rfl)) zbk)))) (λ_ _ _ _=>(zN (Vv hr) VL (by with_unfolding_all rfl) (edv 1) (edv 5))) (λ_ _ _ _=>(xr (za (edv 0) (za (edv 1) zf)))))))))
  (zg (zu (Yt (zhh hr) zef (zG _) (edv 1) (wf (v6 zf)))))))
abbrev Tm:=List (Tie × Int)
def tkK (s:Tie):List Key:=[.inl s.1,.inl s.2]
theorem zgW {s u:Tie}(h:tkK s=tkK u):s=u:=by
 unfold tkK at h
 injection h with h1 h2
 injection h2 with h2 _
 exact u2A (Sum.inl.inj h1) (Sum.inl.inj h2)
def tmK (T:Tm):List (List Key):=T.map λe=>tkK e.1
def tmV (T:Tm):List D:=T.map λe=>.int e.2
def wC:Tm->Tie->Option Int
 | [],_=>none
 | e::T,s=>if e.1=s then some e.2 else wC T s
def tv (T:Tm)(s:Tie):Int:=(wC T s).getD 0
def zcI (T:Tm)(s:Tie)(n:Int):Tm:=T.map λe=>if e.1=s then (e.1,n)else e
def X1 (T:Tm)(s:Tie)(n:Int):Tm:=if (wC T s).isSome=true then zcI T s n else T++[(s,n)]
theorem zbL (s:Tie):∀ T:Tm,zat (tmK T) (tmV T) (tkK s)=(wC T s).map .int
 | []=>rfl
 | e::T=>by
  refine V8.trans ?_
  show(if tkK e.1=tkK s then some (D.int e.2)else zat (tmK T) (tmV T) (tkK s))=(if e.1=s then some e.2 else wC T s).map D.int
  by_cases h:e.1=s
  .rw[t4 h,t4 (by rw[h])];rfl
  .rw[j4 h,j4 (λz=>h (zgW z)),zbL s T]
theorem zhV (s:Tie)(n:Int):∀ T:Tm,zmL (tmK T) (tmV T) (tkK s) (.int n)=tmV (zcI T s n)
 | []=>rfl
 | e::T=>by
  show(@ite _ (tkK e.1=tkK s) (ze8 (tkK e.1) (tkK s)) (D.int n) (D.int e.2))::zmL (tmK T) (tmV T) (tkK s) (.int n)=D.int (if e.1=s then (e.1,n)else e).2::tmV (zcI T s n)
  rw[zhV s n T]
  congr 1
  by_cases h:e.1=s
  .rw[t4 h,t4 (by rw[h])]
  .rw[j4 h,j4 (λz=>h (zgW z))]
theorem Zx (s:Tie)(n:Int)(T:Tm):(zcI T s n).map (·.1)=T.map (·.1):=by
 unfold zcI
 rw[i4]
 refine u0v λe _=>?_
 show(if e.1=s then (e.1,n)else e).1=e.1
 split <;> rfl
theorem zkd {T U:Tm}(h:T.map (·.1)=U.map (·.1)):tmK T=tmK U:=by
 have e:∀ T:Tm,tmK T=(T.map (·.1)).map tkK:=λT=>by unfold tmK;rw[i4];rfl
 rw[e,e,h]
theorem zec {m:Bool}{i:Nat}{fk fe:Ev->Option D}{ρ ρ':SE}{T:Tm}{s:Tie}{n:Int}(h1:vEv m fe ρ=some (.int n))(h2:fk (visG ρ)=some (zc s))(h3:ρ[i]?=some (.m true (tmK T) (tmV T)))(h5:T.length<=1000)
 (h6:ρ.set i (.m true (tmK (X1 T s n)) (tmV (X1 T s n)))=ρ'):zdS m i fk fe ρ=.nx ρ':=by
 have hz:T.length < sizeLine:=by rw[u1K];omega
 have e:zmP ρ i (zc s) (.int n)=some ρ':=by
  unfold zmP
  rw[h3]
  show(some (tkK s)).bind (λk=>if decide ((tmK T).length < sizeLine)=true then some (ρ.set i (.m true (zfv (tmK T) (tmV T) k) (zfj (tmK T) (tmV T) k (.int n))))else none)=_
  rw[i7,t4 (j7 (by unfold tmK;rw[u6];exact hz)),<- h6]
  unfold zfv zfj
  rw[zbL,Option.isSome_map]
  unfold X1
  by_cases c:(wC T s).isSome=true
  .rw[t4 c,t4 c,t4 c,zhV,zkd (Zx s n T)]
  .rw[j4 c,j4 c,j4 c]
   unfold tmK tmV
   rw[p9,p9]
   rfl
 unfold zdS
 rw[h1,h2]
 show(match zmP ρ i (zc s) (.int n)with | some ρ'=>Ctl.nx ρ' | none=>Ctl.no)=_
 rw[e]
theorem zaj {z:Bool}{T:Tm}{s:Tie}{n:Int}(h:wC T s=some n):zbt (.dct z true (tmK T) (tmV T)) (zc s)=some (.int n):=by
 show(some (tkK s)).bind (λk=>zat (tmK T) (tmV T) k)=_
 rw[i7,zbL,h]
 rfl
theorem zkA (T:Tm)(e:Tie × Int)(u:Tie):wC (T++[e]) u=if (wC T u).isSome=true then wC T u else if e.1=u then some e.2 else none:=by
 induction T with
 | nil=>rfl
 | cons a T ih =>
  show(if a.1=u then some a.2 else wC (T++[e]) u)=if (if a.1=u then some a.2 else wC T u).isSome=true then (if a.1=u then some a.2 else wC T u)else _
  by_cases h:a.1=u
  .rw[t4 h,t4 h];rfl
  .rw[j4 h,j4 h,ih]
theorem zi8 (T:Tm)(s u:Tie)(n:Int):wC (zcI T s n) u=if u=s then (wC T u).map λ_=>n else wC T u:=by
 induction T with
 | nil=>unfold zcI;split <;> rfl
 | cons a T ih =>
  show(if (if a.1=s then (a.1,n)else a).1=u then some (if a.1=s then (a.1,n)else a).2 else wC (zcI T s n) u)=if u=s then ((if a.1=u then some a.2 else wC T u).map λ_=>n)else (if a.1=u then some a.2 else wC T u)
  rw[ih]
  by_cases h:a.1=s
  .rw[t4 h]
   show(if a.1=u then some n else _)=_
   by_cases c:a.1=u
   .rw[t4 c,t4 c,t4 (c.symm.trans h)];rfl
   .rw[j4 c,j4 c]
  .rw[j4 h]
   by_cases c:a.1=u
   .rw[t4 c,t4 c,j4 λz=>h (c.trans z)]
   .rw[j4 c,j4 c]
theorem zeV (T:Tm)(s u:Tie)(n:Int):wC (X1 T s n) u=if u=s then some n else wC T u:=by
 unfold X1
 by_cases c:(wC T s).isSome=true
 .rw[t4 c,zi8]
  by_cases h:u=s
  .subst h
   rw[t4 rfl,t4 rfl]
   obtain⟨x,hx⟩:=u0Y.mp c
   rw[hx];rfl
  .rw[j4 h,j4 h]
 .rw[j4 c,zkA]
  by_cases h:u=s
  .subst h
   rw[j4 c,t4 rfl,t4 rfl]
  .rw[j4 h]
   show(if (wC T u).isSome=true then wC T u else if s=u then some n else none)=_
   rw[j4 (u0R h)]
   cases wC T u <;> rfl
theorem zlb (T:Tm)(s u:Tie)(n:Int):tv (X1 T s n) u=if u=s then n else tv T u:=by
 unfold tv
 rw[zeV]
 split <;> rfl
theorem zbu {s:Tie}{n:Int}:∀ {T:Tm},wC T s=some n->(s,n)∈T
 | [],h=>by cases h
 | e::T,h=>by
  have h:(if e.1=s then some e.2 else wC T s)=some n:=h
  by_cases c:e.1=s
  .rw[t4 c]at h
   cases h
   subst c
   exact .head _
  .rw[j4 c]at h
   exact .tail _ (zbu h)
theorem wJ {s:Tie}:∀ {T:Tm},s∈T.map (·.1)->(wC T s).isSome=true
 | [],h=>by cases h
 | e::T,h=>by
  show(if e.1=s then some e.2 else wC T s).isSome=true
  by_cases c:e.1=s
  .rw[t4 c];rfl
  .rw[j4 c]
   rcases j9.mp h with z | z
   .exact absurd z.symm c
   .exact wJ z
theorem zit {s:Tie}{T:Tm}(h:¬ (wC T s).isSome=true):s∉T.map (·.1):=λz=>h (wJ z)
theorem v8 {e:Tie × Int}:∀ {T:Tm},(T.map (·.1)).Nodup->e∈T->wC T e.1=some e.2
 | [],_,h=>by cases h
 | a::T,nd,h=>by
  rw[p7,u0y]at nd
  show(if a.1=e.1 then some a.2 else wC T e.1)=some e.2
  rcases j9.mp h with rfl | h
  .rw[t4 rfl]
  .have hm:e.1∈T.map (·.1):=u0o h
   rw[j4 (λz:a.1=e.1=>nd.1 (by rw[z];exact hm)),v8 nd.2 h]
theorem XB {T:Tm}{s:Tie}{n:Int}(nd:(T.map (·.1)).Nodup):((X1 T s n).map (·.1)).Nodup:=by
 unfold X1
 by_cases c:(wC T s).isSome=true
 .rw[t4 c,Zx];exact nd
 .rw[j4 c,p9]
  refine u2v.mpr ⟨nd,u0y.mpr ⟨u0c,u1B⟩,λa ha b hb z=>?_⟩
  have hb:b=s:=d5.mp hb
  subst hb z
  exact zit c ha
theorem zkg {T:Tm}{s:Tie}{n:Int}{u:Tie}(h:u∈(X1 T s n).map (·.1)):u=s\/u∈T.map (·.1):=by
 unfold X1 at h
 by_cases c:(wC T s).isSome=true
 .rw[t4 c,Zx]at h;exact .inr h
 .rw[j4 c,p9]at h
  rcases u0H.mp h with h | h
  .exact .inr h
  .exact .inl (d5.mp h)
def zhR (e:Tie × Int):TR:=(e.1.1,e.1.2,e.2)
def tmR (T:Tm):List TR:=T.map zhR
theorem zmE (a b n k x:Int):tdl (a,b,n+k) x=tdl (a,b,n) x+tdl (a,b,k) x:=by
 unfold tdl
 dsimp only
 split <;> split <;> omega
theorem zkn (a b x:Int):tdl (a,b,0) x=0:=by
 unfold tdl
 dsimp only
 split <;> split <;> rfl
theorem zhy {s:Tie}{n x:Int}:∀ {T:Tm},(T.map (·.1)).Nodup->(wC T s).isSome=true->tsd (tmR (zcI T s n)) x=tsd (tmR T) x+tdl (s.1,s.2,n - tv T s) x
 | [],_,h=>by cases h
 | a::T,nd,h=>by
  rw[p7,u0y]at nd
  have e0:tmR (zcI (a::T) s n)=zhR (if a.1=s then (a.1,n)else a)::tmR (zcI T s n):=rfl
  have e1:tmR (a::T)=zhR a::tmR T:=rfl
  rw[e0,e1,xf,xf]
  by_cases c:a.1=s
  .have hT:zcI T s n=T:=by
    unfold zcI
    refine(u0v λe he=>?_).trans (u2Y T)
    have hm:e.1∈T.map (·.1):=u0o he
    rw[j4 (λz:e.1=s=>nd.1 (by rw[c,<- z];exact hm))];rfl
   have hv:tv (a::T) s=a.2:=by unfold tv;show(if a.1=s then some a.2 else wC T s).getD 0=_;rw[t4 c];rfl
   rw[t4 c,hT,hv]
   subst c
   have:=zmE a.1.1 a.1.2 a.2 (n - a.2) x
   rw[show a.2+(n - a.2)=n by omega]at this
   show tdl (a.1.1,a.1.2,n) x+_=tdl (a.1.1,a.1.2,a.2) x+_+_
   rw[this]
   omega
  .have h2:(wC T s).isSome=true:=by
    have h:(if a.1=s then some a.2 else wC T s).isSome=true:=h
    rwa[j4 c]at h
   have hv:tv (a::T) s=tv T s:=by unfold tv;show(if a.1=s then some a.2 else wC T s).getD 0=_;rw[j4 c]
   rw[j4 c,zhy nd.2 h2,hv]
   omega
theorem zgi {T:Tm}{s:Tie}{n x:Int}(nd:(T.map (·.1)).Nodup):tsd (tmR (X1 T s n)) x=tsd (tmR T) x+tdl (s.1,s.2,n - tv T s) x:=by
 unfold X1
 by_cases c:(wC T s).isSome=true
 .rw[t4 c];exact zhy nd c
 .rw[j4 c]
  have:tv T s=0:=by unfold tv;cases e:wC T s with
   | none=>rfl
   | some y=>rw[e]at c;exact absurd rfl c
  unfold tmR
  rw[p9,zdi,this,Int.sub_zero]
  show _+(tdl (s.1,s.2,n) x+0)=_
  rw[u3b]
def tot (T:Tm):Int:=(T.map (·.2)).sum
theorem ziy {s:Tie}{n:Int}:∀ {T:Tm},(T.map (·.1)).Nodup->(wC T s).isSome=true->tot (zcI T s n)=tot T+(n - tv T s)
 | [],_,h=>by cases h
 | a::T,nd,h=>by
  rw[p7,u0y]at nd
  show(if a.1=s then (a.1,n)else a).2+tot (zcI T s n)=a.2+tot T+_
  by_cases c:a.1=s
  .have hT:zcI T s n=T:=by
    unfold zcI
    refine(u0v λe he=>?_).trans (u2Y T)
    have hm:e.1∈T.map (·.1):=u0o he
    rw[j4 (λz:e.1=s=>nd.1 (by rw[c,<- z];exact hm))];rfl
   have hv:tv (a::T) s=a.2:=by unfold tv;show(if a.1=s then some a.2 else wC T s).getD 0=_;rw[t4 c];rfl
   rw[t4 c,hT,hv]
   show n+tot T=_
   omega
  .have h2:(wC T s).isSome=true:=by
    have h:(if a.1=s then some a.2 else wC T s).isSome=true:=h
    rwa[j4 c]at h
   have hv:tv (a::T) s=tv T s:=by unfold tv;show(if a.1=s then some a.2 else wC T s).getD 0=_;rw[j4 c]
   rw[j4 c,ziy nd.2 h2,hv]
   omega
theorem zhe {T:Tm}{s:Tie}{n:Int}(nd:(T.map (·.1)).Nodup):tot (X1 T s n)=tot T+(n - tv T s):=by
 unfold X1
 by_cases c:(wC T s).isSome=true
 .rw[t4 c];exact ziy nd c
 .rw[j4 c]
  have:tv T s=0:=by unfold tv;cases e:wC T s with
   | none=>rfl
   | some y=>rw[e]at c;exact absurd rfl c
  unfold tot
  rw[p9,u20,this]
  show _+(n+0)=_
  omega
def znT:List Int->Tie
 | [a,b]=>(a,b)
 | _=>(0,0)
def zmN (e:Tie × Int):List Int:=[e.1.1,e.1.2]
def zg0 (T:Tm):List Tie:=(Zf (T.map zmN)).map znT
theorem Zq (T:Tm):(zg0 T).Perm (T.map (·.1)):=by
 have:=(Ze (T.map zmN)).map znT
 rw[i4]at this
 exact this
theorem zag {T:Tm}{l:List Int}(h:l∈Zf (T.map zmN)):∃ a b,l=[a,b]:=by
 obtain⟨e,_,rfl⟩:=b9.mp ((Ze _).mem_iff.mp h)
 exact⟨_,_,rfl⟩
theorem lexP {a b c d:Int}(h:HT.lexLt [c,d] [a,b]=false)(hne:((a,b):Tie)≠(c,d)):ltP (a,b) (c,d):=by
 rw[HT.lexLt_cons]at h
 show a < c\/(a=c/\b < d)
 by_cases e:c=a
 .rw[t4 e,HT.lexLt_cons]at h
  subst e
  by_cases e2:d=b
  .subst e2;exact absurd rfl hne
  .rw[j4 e2]at h
   have:=u1V h
   exact .inr ⟨rfl,by omega⟩
 .rw[j4 e]at h
  have:=u1V h
  exact .inl (by omega)
theorem zlj {T:Tm}(nd:(T.map (·.1)).Nodup):(zg0 T).Pairwise ltP:=by
 have n2:(zg0 T).Nodup:=(Zq T).nodup_iff.mpr nd
 unfold zg0 at n2 ⊢
 have n3:=u1l.mp n2
 rw[u1l]
 refine((Vx (T.map zmN)).and n3).imp_of_mem λ{l k} hl hk h=>?_
 obtain⟨a,b,rfl⟩:=zag hl
 obtain⟨c,d,rfl⟩:=zag hk
 exact lexP h.1 h.2
theorem ze7:∀ T:Tm,zcj (tmK T)=some (T.map zmN)
 | []=>rfl
 | e::T=>by
  show(match zkt (tkK e.1)with | some (i::t)=>(zcj (tmK T)).map ((i::t)::·) | _=>none)=_
  rw[ze7 T]
  rfl
def zlh (T:Tm)(s:Tie):TR:=(s.1,s.2,tv T s)
def Xz (T:Tm):List TR:=((zg0 T).filter λs=>decide (0 < tv T s)).map (zlh T)
theorem zlN {T:Tm}{z:Bool}(h:T.length < 64):zeU [.dct z true (tmK T) (tmV T)]=some ((zg0 T).map zc):=by
 show(if (tmK T).length < 64 then (zcj (tmK T)).map λts=>(Zf ts).map znm else none)=_
 rw[t4 (by unfold tmK;rw[u6];exact h),ze7]
 show some ((Zf (T.map zmN)).map znm)=_
 congr 1
 unfold zg0
 rw[i4]
 refine u0v λl hl=>?_
 obtain⟨a,b,rfl⟩:=zag hl
 rfl
theorem zh2 {T:Tm}{s:Tie}(h:s∈zg0 T):wC T s=some (tv T s):=by
 obtain⟨n,hn⟩:=u0Y.mp (wJ ((Zq T).mem_iff.mp h))
 unfold tv
 rw[hn]
 rfl
def vU:SE->Ctl :=
 (yd (eFn zH (zb (yx (fLC (iOf (yx (fFn zeU (zb (zd 0) zo)))) b1 (tOf (zk gtD (zk zbt (zd 1) (zd 0)) (eC (.int 0)))) (xt (zb (zk ixD (zd 0) (eC (.int 0))) (zb (zk ixD (zd 0) (eC (.int 1))) (zb (zk zbt (zd 1) (zd 0)) zo)))))) zo)))
def xK:List D->Option D:=fnD 1 vU
theorem XT {T:Tm}(h64:T.length < 64):xK [.dct true true (tmK T) (tmV T)]=some (.tup ((Xz T).map trD)):=by
 refine Xv (ρ:=[.v (.dct true true (tmK T) (tmV T))]) rfl ?_
 unfold vU
 refine vT (xk (VD (ds:=[.lst ((Xz T).map trD)]) (zW (vv ?_) xv) rfl)) rfl
 unfold Xz
 rw[i4]
 have hl:(zg0 T).length<=1000:=by rw[(Zq T).length_eq,u6];omega
 refine zaK (c:=zc) (p:=λs=>decide (0 < tv T s)) (y:=trD ∘ zlh T) (xs:=zg0 T) ?_ hl λs hs=>⟨[some (zc s)],rfl,?_,λ_=>?_⟩
 .exact zcA (d:=.lst ((zg0 T).map zc)) (vv (zkR (ds:=[.dct true true (tmK T) (tmV T)]) (zW rfl xv) (zlN h64))) rfl
 .exact xD (zB (x:=.int (tv T s)) (y:=.int 0) (zB (x:=.dct true true (tmK T) (tmV T)) (y:=zc s) rfl rfl (zaj (zh2 hs))) rfl rfl)
 .exact zk7 (ds:=[.int s.1,.int s.2,.int (tv T s)]) (zW (zB (x:=zc s) (y:=.int 0) rfl rfl rfl) (zW (zB (x:=zc s) (y:=.int 1) rfl rfl rfl) (zW (zB (x:=.dct true true (tmK T) (tmV T)) (y:=zc s) rfl rfl (zaj (zh2 hs))) xv))) (by show 3<=1000;decide)
theorem XQ (T:Txt K mg ad):xc P w K mg base CX0 1 ad.f_tally_from ad.e_tally_from ["times"] (@spD ⟨K⟩ 1 xK):=by
 letI:KK:=⟨K⟩
 refine yz (N:=["times"]) (ps:=["times"]) T.d_tally_from.fn zbw (g:=vU) λcdv A outer s H E hr=>?_
 unfold vU
 exact(zg (zu (wL yC wP rfl T.z_tuple yB (za (wf (zhA (L:=["step"]) (M:=["times"]) rfl (wU (by rfl) (by rfl) (by rfl) (by with_unfolding_all rfl) (by rfl) (by rfl) (by kernel_rfl) (all_cons rfl xb)) (xo (wf (zf1 rfl rfl T.z_sorted (za (edv 0) zf)))) gs1 rb1 (λ_ _ _ _=>(zx (i:=0) zos rfl (Or.inl rfl) (.inr rfl))) (λ_ _ _ _=>(zN zaG yk (zG _) (VT hr (edv 1) (edv 0) (λ_ _=>rfl)) (zh zi))) (λ_ _ _ _=>(xr (za (zL (edv 0) (zh zi) (λ_ _=>rfl)) (za (zL (edv 0) (zh zi) (λ_ _=>rfl)) (za (VT hr (edv 1) (edv 0) (λ_ _=>rfl)) zf))))))) zf))))
theorem X6 {T:Tm}(nd:(T.map (·.1)).Nodup):(Xz T).Perm ((T.filter λe=>decide (0 < e.2)).map zhR):=by
 have h1:=((Zq T).filter λs=>decide (0 < tv T s)).map (zlh T)
 refine h1.trans (List.Perm.of_eq ?_)
 rw[List.filter_map,i4]
 have hv:∀ e∈T,tv T e.1=e.2:=λe he=>by unfold tv;rw[v8 nd he];rfl
 have e1:T.filter ((λs=>decide (0 < tv T s)) ∘ λe=>e.1)=T.filter λe=>decide (0 < e.2):=List.filter_congr λe he=>by
  show decide (0 < tv T e.1)=_
  rw[hv e he]
 rw[e1]
 refine u0v λe he=>?_
 show(e.1.1,e.1.2,tv T e.1)=_
 rw[hv e (p8.mp he).1]
 rfl
theorem zbA {T:Tm}(nd:(T.map (·.1)).Nodup){r:TR}(h:r∈Xz T):∃ e∈T,0 < e.2/\zhR e=r:=by
 obtain⟨e,he,z⟩:=b9.mp ((X6 nd).mem_iff.mp h)
 obtain⟨he,h0⟩:=p8.mp he
 exact⟨e,he,d7 h0,z⟩
theorem Vj (T:Tm):(Xz T).length<=T.length:=by
 unfold Xz
 rw[u6]
 exact p6 (u1x _ _) (by rw[(Zq T).length_eq,u6];exact t5 _)
theorem zkS {ts:List Tie}{T:Tm}(nd:(T.map (·.1)).Nodup)(hs:∀ e∈T,Zk e.1.1 e.1.2∈ts/\e.2<=300)(h64:T.length < 64):Zj ts (Xz T):=by
 refine⟨λr hr=>?_,?_,by have:=Vj T;omega⟩
 .obtain⟨e,he,h0,rfl⟩:=zbA nd hr
  have:=hs e he
  exact⟨this.1,by show 1<=e.2;omega,this.2⟩
 .unfold Xz
  rw[u1l]
  exact(zlj nd).filter _
theorem zf7 {x:Int}:∀ {T:Tm},(∀ e∈T,0<=e.2)->tsd ((T.filter λe=>decide (0 < e.2)).map zhR) x=tsd (tmR T) x
 | [],_=>rfl
 | e::T,h=>by
  have ih:=zf7 (x:=x) (T:=T) λe he=>h e (.tail _ he)
  have e1:tmR (e::T)=zhR e::tmR T:=rfl
  rw[e1,xf,<- ih]
  by_cases c:0 < e.2
  .rw[u0t (by simpa using c)]
   rfl
  .rw[u0O (by simpa using c)]
   have h0:e.2=0:=by have:=h e (.head _);omega
   have:tdl (zhR e) x=0:=by unfold zhR;rw[h0];exact zkn _ _ _
   omega
theorem zkG {T:Tm}(nd:(T.map (·.1)).Nodup)(h:∀ e∈T,0<=e.2)(x:Int):tsd (Xz T) x=tsd (tmR T) x:=(Va (X6 nd) x).trans (zf7 h)
theorem zdl:∀ R:List TR,(∀ r∈R,0<=r.2.2)->((wK R).length:Int)=(R.map λr=>r.2.2).sum
 | [],_=>rfl
 | r::R,h=>by
  have ih:=zdl R λq hq=>h q (.tail _ hq)
  have h0:=h r (.head _)
  have e:wK (r::R)=List.replicate r.2.2.toNat (trP r)++wK R:=rfl
  rw[e,j8,u1a,p7,u1h,<- ih]
  omega
theorem zhJ:∀ {T:Tm},(∀ e∈T,0<=e.2)->(((T.filter λe=>decide (0 < e.2)).map zhR).map λr=>r.2.2).sum=tot T
 | [],_=>rfl
 | e::T,h=>by
  have ih:=zhJ (T:=T) λe he=>h e (.tail _ he)
  show _=e.2+tot T
  rw[<-ih]
  by_cases c:0 < e.2
  .rw[u0t (by simpa using c)]
   rfl
  .rw[u0O (by simpa using c)]
   have:=h e (.head _)
   omega
theorem zhU {l k:List Int}(h:l.Perm k):l.sum=k.sum:=by
 induction h with
 | nil=>rfl
 | cons x _ ih=>rw[u1h,u1h,ih]
 | swap x y l=>rw[u1h,u1h,u1h,u1h];omega
 | trans _ _ i1 i2=>exact i1.trans i2
theorem zgQ {T:Tm}(nd:(T.map (·.1)).Nodup)(h:∀ e∈T,0<=e.2):((wK (Xz T)).length:Int)=tot T:=by
 rw[zdl _ λr hr=>by obtain⟨e,_,h0,rfl⟩:=zbA nd hr;exact Int.le_of_lt h0,<- zhJ h]
 exact zhU ((X6 nd).map _)
def zi6 (T:Tm)(s:Tie):Tm:=X1 T s (tv T s+1)
def Xu (S:List Tie):Tm:=S.foldl zi6 []
theorem zcM {S:List Tie}{i:Nat}{s:Tie}(h:S[i]?=some s):Xu (S.take (i+1))=zi6 (Xu (S.take i)) s:=by
 unfold Xu
 rw[u1F,h,u2u]
 rfl
def one (s:Tie):TR:=(s.1,s.2,1)
structure zhw (S:List Tie) (T:Tm):Prop where
 nd:(T.map (·.1)).Nodup
 sub:∀ s∈T.map (·.1),s∈S
 all:∀ s∈S,s∈T.map (·.1)
 nn:∀ s,0<=tv T s/\tv T s<=S.length
 pos:∀ s∈S,0 < tv T s
 sd:∀ x,tsd (tmR T) x=tsd (S.map one) x
 tot:tot T=S.length
theorem zhw.add {S:List Tie}{T:Tm}(h:zhw S T)(s:Tie):zhw (S++[s]) (zi6 T s):=by
 have hn:=h.nn s
 refine⟨XB h.nd,λu hu=>?_,λu hu=>?_,λu=>?_,λu hu=>?_,λx=>?_,?_⟩
 .rcases zkg hu with rfl | hu
  .exact b6 _ (.head _)
  .exact u04 _ (h.sub u hu)
 .have hv:(wC (zi6 T s) u).isSome=true:=by
   unfold zi6
   rw[zeV]
   rcases u0H.mp hu with z | z
   .split
    .rfl
    .exact wJ (h.all u z)
   .rw[t4 (d5.mp z)];rfl
  obtain⟨n,hn⟩:=u0Y.mp hv
  exact b9.mpr ⟨(u,n),zbu hn,rfl⟩
 .have:=h.nn u
  unfold zi6
  rw[zlb,j8]
  show _/\_<=((S.length+1:Nat):Int)
  split <;> omega
 .unfold zi6
  rw[zlb]
  split
  .omega
  .rcases u0H.mp hu with z | z
   .exact h.pos u z
   .rename_i c;exact absurd (d5.mp z) c
 .unfold zi6
  rw[zgi h.nd,h.sd,p9,zdi,show tv T s+1 - tv T s=1 by omega]
  show _=_+(tdl (s.1,s.2,1) x+0)
  rw[u3b]
 .unfold zi6
  rw[zhe h.nd,h.tot,j8]
  show _=((S.length+1:Nat):Int)
  omega
theorem zb2 (S:List Tie):zhw S (Xu S):=by
 have key:∀ i,i<=S.length->zhw (S.take i) (Xu (S.take i)):=by
  intro i
  induction i with
  | zero=>intro _;exact⟨u1B,λ_ h=>(by cases h),λ_ h=>(by cases h),λ_=>⟨u1p _,u1p _⟩,λ_ h=>(by cases h),λ_=>rfl,rfl⟩
  | succ i ih =>
   intro hi
   have hx:S[i]?=some S[i]:=t9 hi
   rw[zcM hx,u1F,hx]
   exact(ih (by omega)).add _
 have:=key S.length (t5 _)
 rwa[u0W]at this
theorem zbG {ts:List Tie}{K:List Tie}(nd:K.Nodup)(h:∀ s∈K,Zk s.1 s.2∈ts):K.length<=2*ts.length:=by
 have sub:∀ s∈K,s∈ts++ts.map λt:Tie=>((t.2,t.1):Tie):=λs hs=>by
  have hb:=h s hs
  unfold Zk at hb
  by_cases c:s.2 < s.1
  .rw[t4 c,j4 (by omega)]at hb
   exact b6 _ (b9.mpr ⟨_,hb,rfl⟩)
  .rw[j4 c]at hb
   by_cases c2:s.2 > s.1
   .rw[t4 c2]at hb;exact u04 _ hb
   .rw[j4 c2]at hb
    have e:s.2=s.1:=by omega
    refine u04 _ ?_
    have e2:s=(s.1,s.1):=u2A rfl e
    rw[e2];exact hb
 have:=nd.length_le_of_subset sub
 rw[j8,u6]at this
 omega
theorem zpH {f:Ev->Option D}{ρ:SE}{d:D}(h:f (visG ρ)=some d)(hn:noL d=true):vEv true f ρ=some d:=by
 unfold vEv
 rw[t4 rfl,h,i7,t4 hn]
def Zl:SE->Ctl :=
 (zE (sIf (zS (tOf (zn 2 xT (zb (zd 0) (zb (zd 4) zo))))) sNo zF)
  (zdS true 2 (zd 4) (zk Yc (zoe (zd 2) (zd 4) (eC (.int 0))) (eC (.int 1)))))
def ZL:SE->Ctl :=
 (zE (xH (zn 1 zX (zb (zd 0) zo)))
  (zE (sIf (zS (tOf (eUn (zT .list) (zd 1)))) sNo zF)
  (zE (zjj true 2)
  (zE (wg (zM (zb (zd 1) zo)) (vD 2 (ye (zP 3) (ye (zP 4) vH))) Zl)
  (zoX 2 (yd (zn 1 xK (zb (zd 2) zo))))))))
def vG:List D->Option D:=fnD 5 ZL
theorem zao {m:Int}{ts:List Tie}{S:List Tie}(ok:y9 m ts)(h28:ts.length<=28)(hS:∀ s∈S,Zk s.1 s.2∈ts)(hl:S.length<=900):vG [zO m ts,.lst (S.map zc)]=some (.tup ((Xz (Xu S)).map trD)):=by
 have few:∀ i,(Xu (S.take i)).length<=56:=λi=>by
  have c:=zb2 (S.take i)
  have:=zbG c.nd λs hs=>hS s (List.mem_of_mem_take (c.sub s hs))
  rw[u6]at this
  omega
 refine Xv (ρ:=[.v (zO m ts),.v (.lst (S.map zc)),.no,.no,.no]) rfl ?_
 unfold ZL
 refine zp (ww (d:=.non) (zb8 ok)) ?_
 refine yf (vw (c:=false) rfl (λz=>by cases z) (λ_=>xG rfl ?_))
 refine zp (ρ':=[.v (zO m ts),.v (.lst (S.map zc)),.m true (tmK (Xu [])) (tmV (Xu [])),.no,.no]) rfl ?_
 refine yf (ZZ (ds:=Zu 0 (S.map zc)) (λi ρ=>∃ (o3 o4:Sl),ρ=[.v (zO m ts),.v (.lst (S.map zc)),.m true (tmK (Xu (S.take i))) (tmV (Xu (S.take i))),o3,o4]) rfl ⟨_,_,rfl⟩ ?_ ?_)
 .rintro i d ρ hd ⟨o3,o4,rfl⟩
  rw[xx,u0m,j5]at hd
  obtain⟨x,hx,rfl⟩:=u8.mp hd
  obtain⟨s,hs,rfl⟩:=u8.mp hx
  have hst:Zk s.1 s.2∈ts:=hS s (d9 hs)
  have e1:xT [zO m ts,zc s]=some (.bl true):=by
   show xT [zO m ts,.tup [.int s.1,.int s.2]]=_
   rw[zaT ok (zaN.pair s.1 s.2),Yu,j7 hst]
   rfl
  refine⟨[.v (zO m ts),.v (.lst (S.map zc)),.m true (tmK (Xu (S.take i))) (tmV (Xu (S.take i))),.v (.int (i:Int)),.v (zc s)],rfl,?_⟩
  unfold Zl
  refine yf (vw (c:=false) (zad (b:=true) (xD (yt (ds:=[zO m ts,zc s]) rfl e1))) (λz=>by cases z) (λ_=>xG rfl ?_))
  rw[zcM hs]
  have few:=few i
  generalize Xu (S.take i)=T at few ⊢
  refine xG (zec (T:=T) (s:=s) (n:=tv T s+1) ?_ rfl rfl (by omega) rfl) ⟨_,_,rfl⟩
  refine zpH (zB (x:=.int (tv T s)) (y:=.int 1) ?_ rfl zv) rfl
  show(some (tkK s)).map (λk=>(zat (tmK T) (tmV T) k).getD (.int 0))=_
  rw[Option.map_some,zbL]
  unfold tv
  cases wC T s <;> rfl
 .rintro ρ ⟨o3,o4,rfl⟩
  rw[xL,u6,u0W]
  have few:=few S.length
  rw[u0W]at few
  show(yd (zn 1 xK (zb (zd 2) zo)) [.v (zO m ts),.v (.lst (S.map zc)),.v (.dct true true (tmK (Xu S)) (tmV (Xu S))),o3,o4]).w _ _ _ _
  exact vT (xk (yt (ds:=[.dct true true (tmK (Xu S)) (tmV (Xu S))]) rfl (XT (by omega)))) rfl
theorem zdd (T:Txt K mg ad):xc P w K mg base CX0 8 ad.f_tally_of ad.e_tally_of ["web","steps"] (@spD ⟨K⟩ 2 vG):=by
 letI:KK:=⟨K⟩
 have G_must_be_web:=xu (P:=P) (w:=w) (base:=base) T
 have G_is_step:=Wa (P:=P) (w:=w) (base:=base) T
 have G_tally_from:=XQ (P:=P) (w:=w) (base:=base) T
 refine yz (N:=["web","steps","times","at","step"]) (ps:=["web","steps"]) T.d_tally_of.fn YV (g:=ZL) λcdv A outer s H E hr=>?_
 unfold ZL Zl
 exact(ze (wq (zj G_must_be_web hr rfl T.d_must_be_web (za (edv 0) zf)))
  (ze (yr (xi (yA (zK .list rfl T.z_isinstance (edv 1) (yl (v:=.ty "list") rfl T.z_list Xb rfl)))) (zg v7) zD)
  (ze (zhf (t:=true) (i:=2) YV.nd rfl (Or.inl rfl))
  (ze (vP i5 rfl (ZE rfl T.z_enumerate yP (za (edv 1) zf)) (XF rfl (yu (ya (zx (i:=3) YV.nd rfl (Or.inl rfl))) (yu (ya (zx (i:=4) YV.nd rfl (Or.inl rfl))) YX))) (ze (yr (xi (yA (zj G_is_step hr rfl T.d_is_step (za (edv 0) (za (edv 4) zf))))) (zg v7) zD)
  (zg (zdx (m:=true) hr (xq (zlF hr (edv 2) (edv 4) (zh zi) ⟨rfl,rfl,rfl,rfl⟩) (zh zi)) (pv 2) (edv 4)))))
  (ziL 2 (zg (zu (zj G_tally_from hr rfl T.d_tally_from (za (edv 2) zf)))))))))
def rnd (L:List Int):List Tie:=L.zip (L.drop 1++L.take 1)
theorem zn5 {L:List Int}{i:Nat}(hi:i < L.length):(rnd L)[i]?=some (L.getD i 0,L.getD ((i+1) % L.length) 0):=by
 unfold rnd
 rw[u1A]
 refine⟨by rw[t9 hi,Dl.getD_at hi],?_⟩
 by_cases c:i+1 < L.length
 .rw[Nat.mod_eq_of_lt c,u0i (by rw[u0n];omega),u1U,Nat.add_comm 1 i,t9 c,Dl.getD_at c]
 .have e:i+1=L.length:=by omega
  have h0:0 < L.length:=by omega
  rw[e,Nat.mod_self,u0d (by rw[u0n];omega),u0n,show i - (L.length - 1)=0 by omega,List.getElem?_take,t4 (by decide),t9 h0,Dl.getD_at h0]
theorem zd4 (L:List Int):(rnd L).length=L.length:=by
 unfold rnd
 rw[List.length_zip,j8,u0n,u1d]
 omega
theorem zoK (L:List Int):(List.range L.length).map (λi:Nat=>((L.getD i 0,L.getD ((i+1) % L.length) 0):Tie))=rnd L:=by
 refine u14 λi=>?_
 by_cases c:i < L.length
 .rw[zn5 c,j5,u2d c]
  rfl
 .rw[u0B (by rw[u6,u1D];omega),u0B (by rw[zd4];omega)]
theorem zgz (L:List Int):Zu 0 (L.map .int)=(List.range L.length).map λi:Nat=>D.tup [.int (i:Int),.int (L.getD i 0)]:=by
 refine u14 λi=>?_
 rw[xx,u0m,j5]
 by_cases c:i < L.length
 .rw[t9 c,j5,u2d c]
  show some (D.tup [.int (i:Int),.int L[i]])=some (D.tup [.int (i:Int),.int (L.getD i 0)])
  rw[Dl.getD_at c]
 .rw[u0B (by omega),u0B (by rw[u6,u1D];omega)]
  rfl
def vC:SE->Ctl :=
 (yd (yx (fLC (zM (zb (zd 0) zo)) b2 zR (xt (zb (zd 1) (zb (zk ixD (zd 2) (zk yO (zk Yc (zd 0) (eC (.int 1))) (eFn we (zb (zd 2) zo)))) zo))))))
def Y8:List D->Option D:=fnD 1 vC
theorem zaw {L:List Int}(h8:L.length<=8):Y8 [.tup (L.map .int)]=some (.lst ((rnd L).map zc)):=by
 refine Xv (ρ:=[.v (.tup (L.map .int))]) rfl ?_
 unfold vC
 refine vT (xk (d:=.lst ((rnd L).map zc)) (vv ?_)) rfl
 rw[<-zoK,i4]
 refine WJ (c:=λi:Nat=>D.tup [.int (i:Int),.int (L.getD i 0)]) (xs:=List.range L.length) ?_ (by rw[u1D];omega) λi hi=>⟨[some (.int (i:Int)),some (.int (L.getD i 0))],rfl,rfl,?_⟩
 .show some (Zu 0 (L.map .int))=_
  rw[zgz]
 .have hi:=u1O.mp hi
  have hl:0 < (L.length:Int):=by omega
  obtain⟨j,hj⟩:∃ j:Nat,(i+1) % L.length=j:=⟨_,rfl⟩
  have hjl:j < L.length:=by rw[<-hj];exact Nat.mod_lt _ (by omega)
  have ej:((i:Int)+1) % (L.length:Int)=(j:Int):=by
   rw[<-hj]
   exact(Int.natCast_emod (i+1) L.length).symm
  refine zk7 (ds:=[.int (L.getD i 0),.int (L.getD ((i+1) % L.length) 0)]) (zW rfl (zW (zB (x:=.tup (L.map .int)) (y:=.int (j:Int)) rfl (zB (x:=.int ((i:Int)+1)) (y:=.int (L.length:Int)) (zB (x:=.int (i:Int)) (y:=.int 1) rfl rfl rfl) (VD (ds:=[.tup (L.map .int)]) (zW rfl xv) ?_) (by rw[xZ hl,ej])) ?_) xv)) (by show 2<=1000;decide)
  .show some (D.int ((L.map D.int).length:Int))=_
   rw[u6]
  .show L2.atI (L.map D.int) (j:Int)=_
   rw[vE (by omega) (by omega),hj]
   rfl
theorem zaC (T:Txt K mg ad):xc P w K mg base CX0 1 ad.f_steps_round ad.e_steps_round ["ring"] (@spD ⟨K⟩ 1 Y8):=by
 letI:KK:=⟨K⟩
 refine yz (N:=["ring"]) (ps:=["ring"]) T.d_steps_round.fn zax (g:=vC) λcdv A outer s H E hr=>?_
 unfold vC
 exact(zg (zu (wf (Z3 (L:=["at","place"]) (M:=["ring"]) rfl (wU (by rfl) (by rfl) (by rfl) (by with_unfolding_all rfl) (by rfl) (by rfl) (by kernel_rfl) (all_cons rfl xb)) (ZE rfl T.z_enumerate yP (za (edv 0) zf)) gs2 rb2 (λ_ _ _ _=>(zey rfl (YK (zx (i:=0) zk8 rfl (Or.inl rfl) (.inr rfl)) (YK (zx (i:=1) zk8 rfl (Or.inl rfl) (.inr rfl)) zbk)))) (λ_ _ _ _=>(xr (za (edv 1) (za (zL (edv 2) (wj (xq (edv 0) (zh zi)) (zU zQ x6 rfl T.z_len v9 (za (edv 2) zf))) (λ_ _=>rfl)) zf))))))))
def vS (T:Tm)(f:Int)(R:List Tie):Tm:=R.foldl (λT s=>X1 T s (tv T s - f)) T
theorem zmA {T:Tm}{s:Tie}{n:Int}(h:s∈T.map (·.1)):X1 T s n=T.map λe=>if e.1=s then (e.1,n)else e:=by
 unfold X1
 rw[t4 (wJ h)]
 rfl
theorem ze2 {f:Int}:∀ {R:List Tie} {T:Tm},(T.map (·.1)).Nodup->R.Nodup->(∀ s∈R,s∈T.map (·.1))->vS T f R=T.map λe=>(e.1,if e.1∈R then e.2 - f else e.2)
 | [],T,_,_,_=>by
  refine((u0v λe _=>?_).trans (u2Y T)).symm
  rw[j4 u0c]
  rfl
 | s::R,T,nd,nR,h=>by
  have hs:=h s (.head _)
  obtain⟨n1,n2⟩:=u0y.mp nR
  have hk:(X1 T s (tv T s - f)).map (·.1)=T.map (·.1):=by
   unfold X1
   rw[t4 (wJ hs),Zx]
  show vS (X1 T s (tv T s - f)) f R=_
  rw[ze2 (XB nd) n2 (λu hu=>by rw[hk];exact h u (.tail _ hu)),zmA hs,i4]
  refine u0v λe he=>?_
  have hv:tv T e.1=e.2:=by unfold tv;rw[v8 nd he];rfl
  show((if e.1=s then (e.1,tv T s - f)else e).1,if (if e.1=s then (e.1,tv T s - f)else e).1∈R then (if e.1=s then (e.1,tv T s - f)else e).2 - f else (if e.1=s then (e.1,tv T s - f)else e).2)=_
  by_cases c:e.1=s
  .rw[t4 c]
   show(e.1,if e.1∈R then _ else tv T s - f)=_
   rw[j4 (by rw[c];exact n1),t4 (by rw[c];exact .head _),<- c,hv]
  .rw[j4 c]
   by_cases c2:e.1∈R
   .rw[t4 c2,t4 (.tail _ c2)]
   .rw[j4 c2,j4 λz=>(j9.mp z).elim c c2]
theorem VM {f:Int}:∀ {R:List Tie} {T:Tm},(∀ s∈R,s∈T.map (·.1))->(vS T f R).map (·.1)=T.map (·.1)
 | [],_,_=>rfl
 | s::R,T,h=>by
  have hk:(X1 T s (tv T s - f)).map (·.1)=T.map (·.1):=by
   unfold X1
   rw[t4 (wJ (h s (.head _))),Zx]
  show(vS (X1 T s (tv T s - f)) f R).map (·.1)=_
  rw[VM λu hu=>by rw[hk];exact h u (.tail _ hu),hk]
theorem zeC {f x:Int}:∀ {R:List Tie} {T:Tm},(T.map (·.1)).Nodup->tsd (tmR (vS T f R)) x=tsd (tmR T) x+tsd (R.map λs=>((s.1,s.2,-f):TR)) x
 | [],T,_=>by show _=_+0;rw[u3b];rfl
 | s::R,T,nd=>by
  show tsd (tmR (vS (X1 T s (tv T s - f)) f R)) x=_+(tdl (s.1,s.2,-f) x+tsd (R.map _) x)
  rw[zeC (XB nd),zgi nd,show tv T s - f - tv T s=-f by omega]
  omega
theorem zeO {f:Int}:∀ {R:List Tie} {T:Tm},(T.map (·.1)).Nodup->tot (vS T f R)=tot T - f*R.length
 | [],T,_=>by show tot T=tot T - f*((0:Nat):Int);omega
 | s::R,T,nd=>by
  show tot (vS (X1 T s (tv T s - f)) f R)=_
  rw[zeO (XB nd),zhe nd,i6,u09,u1Z]
  show _=_ - (_+f*1)
  omega
theorem ziA {f x:Int}:∀ {A B:List Int},A.length=B.length->tsd ((A.zip B).map λs=>((s.1,s.2,-f):TR)) x=2*f*(A.count x:Nat) - f*(B.count x:Nat)
 | [],[],_=>by show(0:Int)=2*f*0 - f*0;omega
 | a::A,b::B,h=>by
  have ih:=ziA (f:=f) (x:=x) (A:=A) (B:=B) (by simpa using h)
  show tdl (a,b,-f) x+tsd ((A.zip B).map _) x=_
  rw[ih,List.count_cons,List.count_cons]
  unfold tdl
  dsimp only
  by_cases c1:x=a
  .subst c1
   by_cases c2:x=b
   .subst c2
    rw[t4 rfl,t4 rfl,t4 (u0N x),u09,u09,u1Z,u1Z]
    show _=_+2*f*1 - (_+f*1)
    omega
   .rw[j4 c2,t4 rfl,t4 (u0N x),j4 (by simpa using λz=>c2 z.symm),u09,u09,u1Z,u1Z]
    show _=_+2*f*1 - (_+f*0)
    omega
  .by_cases c2:x=b
   .subst c2
    rw[t4 rfl,j4 c1,j4 (by simpa using λz=>c1 z.symm),t4 (u0N x),u09,u09,u1Z,u1Z]
    show _=_+2*f*0 - (_+f*1)
    omega
   .rw[j4 c2,j4 c1,j4 (by simpa using λz=>c1 z.symm),j4 (by simpa using λz=>c2 z.symm),u09,u09,u1Z,u1Z]
    show _=_+2*f*0 - (_+f*0)
    omega
theorem zlx {L:List Int}{f x:Int}(hf:0<=f):0<=tsd ((rnd L).map λs=>((s.1,s.2,-f):TR)) x:=by
 unfold rnd
 have hp:(L.drop 1++L.take 1).Perm L:=List.perm_append_comm.trans (by rw[List.take_append_drop])
 rw[ziA hp.length_eq.symm,hp.count_eq]
 have h0:0<=f*(L.count x:Int):=Int.mul_nonneg hf (by omega)
 have e:2*f*(L.count x:Int)=2*(f*(L.count x:Int)):=Int.mul_assoc ..
 rw[e]
 omega
theorem zgn {L:List Int}(nd:L.Nodup):(rnd L).Nodup:=by
 have e:(rnd L).map (·.1)=L:=by
  unfold rnd
  rw[List.map_fst_zip]
  rw[j8,u0n,u1d]
  omega
 have:((rnd L).map (·.1)).Nodup:=by rw[e];exact nd
 exact(u1l.mp this).imp λh z=>h (by rw[z])
theorem zgh {E:List Tie}{L:List Int}(h:VF E L){s:Tie}(hs:s∈rnd L):s∈E:=by
 obtain⟨i,hi,e⟩:=u2J.mp hs
 have e2:(rnd L)[i]?=some s:=by rw[t9 hi,e]
 unfold rnd at e2
 obtain⟨e3,e4⟩:=u1A.mp e2
 exact h.go i s.1 s.2 e3 e4
def Vd (T:Tm):List Tie:=(T.filter λe=>decide (0 < e.2)).map (·.1)
theorem ZR {T:Tm}{s:Tie}(h:s∈Vd T):∃ e∈T,e.1=s/\0 < e.2:=by
 obtain⟨e,he,z⟩:=b9.mp h
 obtain⟨he,h0⟩:=p8.mp he
 exact⟨e,he,z,d7 h0⟩
theorem zeN {g:Tie × Int->Tie × Int}:∀ {T:Tm},(∀ e∈T,0 < (g e).2->0 < e.2)->(∃ e∈T,0 < e.2/\¬ 0 < (g e).2)->((T.map g).filter λe=>decide (0 < e.2)).length < (T.filter λe=>decide (0 < e.2)).length
 | [],_,⟨_,h,_⟩=>by cases h
 | a::T,h,hx=>by
  have le:∀ {U:Tm},(∀ e∈U,0 < (g e).2->0 < e.2)->((U.map g).filter λe=>decide (0 < e.2)).length<=(U.filter λe=>decide (0 < e.2)).length:=λ{U}=>by
   induction U with
   | nil=>intro _;exact t5 _
   | cons b U ih =>
    intro hU
    have ih:=ih λe he=>hU e (.tail _ he)
    have hb:=hU b (.head _)
    rw[p7]
    by_cases c:0 < (g b).2
    .rw[u0t (by simpa using c),u0t (by simpa using hb c),i6,i6]
     omega
    .rw[u0O (by simpa using c)]
     by_cases c2:0 < b.2
     .rw[u0t (by simpa using c2),i6];omega
     .rw[u0O (by simpa using c2)];exact ih
  have hT:∀ e∈T,0 < (g e).2->0 < e.2:=λe he=>h e (.tail _ he)
  have ha:=h a (.head _)
  rw[p7]
  obtain⟨e,he,e1,e2⟩:=hx
  rcases j9.mp he with rfl | he
  .rw[u0O (by simpa using e2),u0t (by simpa using e1),i6]
   have:=le hT
   omega
  .have ih:=zeN hT ⟨e,he,e1,e2⟩
   by_cases c:0 < (g a).2
   .rw[u0t (by simpa using c),u0t (by simpa using ha c),i6,i6]
    omega
   .rw[u0O (by simpa using c)]
    by_cases c2:0 < a.2
    .rw[u0t (by simpa using c2),i6];omega
    .rw[u0O (by simpa using c2)];exact ih
def isP:D->Bool
 | .int n=>decide (0 < n)
 | _=>false
def muP (ρ:SE):Nat:=match ρ[2]? with
 | some (Sl.m _ _ vs)=>(vs.filter isP).length
 | _=>0
theorem zlT (T:Tm):((tmV T).filter isP).length=(T.filter λe=>decide (0 < e.2)).length:=by
 unfold tmV
 rw[List.filter_map,u6]
 rfl
theorem zli {ns:List Int}(h:ns≠[]):zcG [.lst (ns.map .int)]=some (.int (zau ns)):=by
 show(zh4 (ns.map D.int)).bind _=_
 rw[zby]
 cases ns with
 | nil=>exact absurd rfl h
 | cons a l=>rfl
theorem zmf {ns:List Int}(h:ns≠[]):zau ns∈ns/\∀ x∈ns,zau ns<=x:=by
 unfold zau
 cases e:ns.min? with
 | none=>exact absurd (List.min?_eq_none_iff.mp e) h
 | some m=>exact u2C.mp e
theorem zmi {ρ:Ev}{T:Tm}(nd:(T.map (·.1)).Nodup)(hl:T.length<=1000)(h2:zd 2 ρ=some (.dct true true (tmK T) (tmV T)))(h3:∀ d,zd 3 (some d::ρ)=some (.dct true true (tmK T) (tmV T))):yx (fLC (zoZ (zd 2)) b1 (tOf (zk gtD (zk zbt (zd 3) (zd 0)) (eC (.int 0)))) (zd 0)) ρ=some (.lst ((Vd T).map zc)):=by
 unfold Vd
 rw[i4]
 refine vv (zaK (c:=λe:Tie × Int=>zc e.1) (p:=λe=>decide (0 < e.2)) (y:=zc ∘ λe:Tie × Int=>e.1) (xs:=T) ?_ hl λe he=>⟨[some (zc e.1)],rfl,?_,λ_=>rfl⟩)
 .unfold zoZ
  rw[h2,i7]
  show some ((tmK T).map (WO true))=_
  unfold tmK
  rw[i4]
  rfl
 .exact xD (zB (x:=.int e.2) (y:=.int 0) (zB (x:=.dct true true (tmK T) (tmV T)) (y:=zc e.1) (h3 _) rfl (zaj (v8 nd he))) rfl rfl)
theorem zeX {i j:Nat}{f:Ev->Option D}{ρ ρ':SE}{t:Bool}{ks:List (List Key)}{vs:List D}{d:D}(h:ρ[i]?=some (.m t ks vs))(hf:f (visF (ρ.set i (.v (.dct true t ks vs))))=some d)(hn:noM d=true)(h2:ρ.set j (.v d)=ρ'):zfG i j f ρ=.nx ρ':=by
 unfold zfG
 rw[h]
 dsimp only
 rw[hf]
 dsimp only
 rw[t4 hn,h2]
theorem zhc (l:List Int):zmp (l.map .int)=true:=by
 induction l with
 | nil=>rfl
 | cons a l ih=>show(true&&zmp (l.map .int))=true;rw[ih];rfl
def RgD (E:List Tie)(d:D):Prop:=(d=.non/\Ya E 9=[])\/∃ L,d=.tup (L.map .int)/\VF E L
theorem zhm {E:List Tie}{d:D}(h:RgD E d):noM d=true:=by
 rcases h with ⟨rfl,_⟩ | ⟨L,rfl,_⟩
 .rfl
 .exact zhc L
structure Xh (ts:List Tie) (rs:List TR) (T:Tm):Prop where
 keys:T.map (·.1)=rs.map trP
 val:∀ e∈T,0<=e.2/\e.2<=300
 sd:∀ x,tsd rs x<=tsd (tmR T) x
 tot:tot T<=(rs.map λr=>r.2.2).sum
section
variable {m:Int}{ts:List Tie}{rs:List TR}
theorem zcw (hT:Zj ts rs):(rs.map trP).Nodup:=by
 refine u1l.mpr (hT.srt.imp λ{a b} h z=>?_)
 have h:(trP a).1 < (trP b).1\/((trP a).1=(trP b).1/\(trP a).2 < (trP b).2):=h
 rw[z]at h
 omega
theorem Xh.nd (hT:Zj ts rs){T:Tm}(h:Xh ts rs T):(T.map (·.1)).Nodup:=by rw[h.keys];exact zcw hT
theorem Xh.len {T:Tm}(h:Xh ts rs T):T.length=rs.length:=by have:=u1c List.length h.keys;rw[u6,u6]at this;exact this
theorem Xh.step (hT:Zj ts rs){T:Tm}(h:Xh ts rs T){e:Tie × Int}(he:e∈T):Zk e.1.1 e.1.2∈ts:=by
 have:e.1∈rs.map trP:=by rw[<-h.keys];exact u0o he
 obtain⟨r,hr,z⟩:=b9.mp this
 rw[<-z]
 exact(hT.row r hr).1
theorem Xh.ring (ok:y9 m ts)(hT:Zj ts rs)(h56:rs.length<=56){T:Tm}(h:Xh ts rs T):∃ d,xh [.lst ((Vd T).map zc)]=some d/\RgD (Vd T) d:=by
 have hl:(Vd T).length<=1000:=by
  unfold Vd
  rw[u6]
  have:=u1x (λe:Tie × Int=>decide (0 < e.2)) T
  have:=h.len
  omega
 have rng:∀ s∈Vd T,(0<=s.1/\s.1 < m)/\(0<=s.2/\s.2 < m)/\s.1≠s.2:=λs hs=>by
  obtain⟨e,he,rfl,_⟩:=ZR hs
  have r:=ok.rng _ (h.step hT he)
  unfold Zk at r
  dsimp only at r
  split at r <;> split at r <;> omega
 have hm:=ok.hi
 rcases zft hl (λs hs=>by have:=rng s hs;omega) (λs hs=>(rng s hs).2.2)with ⟨e,c⟩ | ⟨L,e,R,_⟩
 .exact⟨_,e,.inl ⟨rfl,c⟩⟩
 .exact⟨_,e,.inr ⟨L,rfl,R⟩⟩
theorem Xh.out (hT:Zj ts rs){T:Tm}(h:Xh ts rs T){L:List Int}(R:VF (Vd T) L){f:Int}(h0:0 < f)(hf:∀ s∈rnd L,f<=tv T s)(hx:∃ s∈rnd L,f=tv T s) :
 Xh ts rs (vS T f (rnd L))/\((vS T f (rnd L)).filter λe=>decide (0 < e.2)).length < (T.filter λe=>decide (0 < e.2)).length:=by
 have nd:=h.nd hT
 have hin:∀ s∈rnd L,s∈T.map (·.1):=λs hs=>by
  obtain⟨e,he,rfl,_⟩:=ZR (zgh R hs)
  exact u0o he
 have em:=ze2 (f:=f) nd (zgn R.nd) hin
 have hv:∀ e∈T,tv T e.1=e.2:=λe he=>by unfold tv;rw[v8 nd he];rfl
 refine⟨⟨by rw[VM hin];exact h.keys,λe he=>?_,λx=>?_,?_⟩,?_⟩
 .rw[em]at he
  obtain⟨a,ha,rfl⟩:=b9.mp he
  have va:=h.val a ha
  show 0<=(if a.1∈rnd L then a.2 - f else a.2)/\(if a.1∈rnd L then a.2 - f else a.2)<=300
  split
  .rename_i c
   have:=hf _ c
   rw[hv a ha]at this
   omega
  .exact va
 .rw[zeC nd]
  have:=h.sd x
  have:=zlx (L:=L) (x:=x) (Int.le_of_lt h0)
  omega
 .rw[zeO nd]
  have:=h.tot
  have:=Int.mul_nonneg (Int.le_of_lt h0) (u00 (rnd L).length)
  omega
 .rw[em]
  refine zeN (λe he z=>?_) ?_
  .have va:=h.val e he
   have z:0 < (if e.1∈rnd L then e.2 - f else e.2):=z
   split at z <;> omega
  .obtain⟨s,hs,es⟩:=hx
   obtain⟨e,he,rfl,e0⟩:=ZR (zgh R hs)
   refine⟨e,he,e0,?_⟩
   show ¬ 0 < (if e.1∈rnd L then e.2 - f else e.2)
   rw[t4 hs,es,hv e he]
   omega
end
def We:SE->Ctl :=
 (zdS true 2 (zd 7) (zk vg (zk zbt (zd 2) (zd 7)) (zd 6)))
def Wn:SE->Ctl :=
 (zE (yw false 5 (zn 1 Y8 (zb (zd 4) zo)))
  (zE (yw true 6 (eFn zcG (zb (yx (fLC (iOf (zd 5)) b1 zR (zk zbt (zd 3) (zd 0)))) zo)))
  (zE (wg (iOf (zd 5)) (zP 7) We)
  (zfG 2 4 (zn 1 xh (zb (yx (fLC (zoZ (zd 2)) b1 (tOf (zk gtD (zk zbt (zd 3) (zd 0)) (eC (.int 0)))) (zd 0))) zo))))))
def Wf:SE->Ctl :=
 (zdS false 2 (eSl slD (zd 3) ym (yj (eC (.int 2)))) (zk ixD (zd 3) (eC (.int 2))))
def XY:SE->Ctl :=
 (zE (xH (zn 1 zX (zb (zd 0) zo)))
  (zE (xH (zn 2 yI (zb (zd 0) (zb (zd 1) zo))))
  (zE (zjj true 2)
  (zE (wg (iOf (zd 1)) (zP 3) Wf)
  (zE (zfG 2 4 (zn 1 xh (zb (yx (fFn ze4 (zb (zd 2) zo))) zo)))
  (zE (v5 (tOf (zk zC (zd 4) (eC .non))) Wn 60)
  (zoX 2 (yd (zn 1 xK (zb (zd 2) zo))))))))))
def Vb:List D->Option D:=fnD 8 XY
theorem zig {m:Int}{ts:List Tie}{rs:List TR}(ok:y9 m ts)(hT:Zj ts rs)(h56:rs.length<=56):∃ T:Tm,Vb [zO m ts,.tup (rs.map trD)]=some (.tup ((Xz T).map trD))/\Xh ts rs T/\Ya (Vd T) 9=[]:=by
 have nd0:=zcw hT
 have key:=zfb (m:=8) (g:=XY) (ds:=[zO m ts,.tup (rs.map trD)]) (R:=λd=>∃ T:Tm,d=.tup ((Xz T).map trD)/\Xh ts rs T/\Ya (Vd T) 9=[]) (ρ:=[.v (zO m ts),.v (.tup (rs.map trD)),.no,.no,.no,.no,.no,.no]) rfl ?_
 .obtain⟨d,e,T,rfl,h1,h2⟩:=key
  exact⟨T,e,h1,h2⟩
 unfold XY
 refine zp (ww (d:=.non) (zb8 ok)) ?_
 refine zp (ww (d:=.non) (Yn (Zr ok hT))) ?_
 refine zp (ρ':=[.v (zO m ts),.v (.tup (rs.map trD)),.m true (tmK []) (tmV []),.no,.no,.no,.no,.no]) rfl ?_
 obtain⟨T0,hT0⟩:∃ T0:Tm,rs.map (λr=>(trP r,r.2.2))=T0:=⟨_,rfl⟩
 have hk0:T0.map (·.1)=rs.map trP:=by rw[<-hT0,i4];rfl
 refine yf (ZZ (ds:=rs.map trD) (λi ρ=>∃ o3:Sl,ρ=[.v (zO m ts),.v (.tup (rs.map trD)),.m true (tmK (T0.take i)) (tmV (T0.take i)),o3,.no,.no,.no,.no]) rfl ⟨_,rfl⟩ ?_ ?_)
 .rintro i d ρ hd ⟨o3,rfl⟩
  rw[j5]at hd
  obtain⟨r,hr,rfl⟩:=u8.mp hd
  have hi:T0[i]?=some (trP r,r.2.2):=by rw[<-hT0,j5,hr];rfl
  have hil:i < T0.length:=(t6.mp hi).1
  refine⟨[.v (zO m ts),.v (.tup (rs.map trD)),.m true (tmK (T0.take i)) (tmV (T0.take i)),.v (trD r),.no,.no,.no,.no],rfl,?_⟩
  unfold Wf
  have hl:T0.length=rs.length:=by have:=u1c List.length hk0;rw[u6,u6]at this;exact this
  have ep:X1 (T0.take i) (trP r) r.2.2=T0.take (i+1):=by
   unfold X1
   rw[j4,u1F,hi]
   .rfl
   .intro z
    obtain⟨n,hn⟩:=u0Y.mp z
    have hm:=zbu hn
    have nd:(T0.map (·.1)).Nodup:=by rw[hk0];exact nd0
    rw[<-List.take_append_drop i T0,p9,u2v]at nd
    refine nd.2.2 _ (u0o hm) (trP r) ?_ rfl
    refine b9.mpr ⟨(trP r,r.2.2),?_,rfl⟩
    rw[u0V hil]
    have:T0[i]=(trP r,r.2.2):=by rw[t9 hil]at hi;exact i8 hi
    rw[this]
    exact .head _
  refine xG (zec (T:=T0.take i) (s:=trP r) (n:=r.2.2) rfl rfl rfl (by rw[u1d];omega) rfl) ⟨.v (trD r),?_⟩
  rw[ep]
  rfl
 rintro ρ ⟨o3,rfl⟩
 have hl0:T0.length=rs.length:=by have:=u1c List.length hk0;rw[u6,u6]at this;exact this
 rw[u6,<- hl0,u0W]
 have I0:Xh ts rs T0:=by
  refine⟨hk0,λe he=>?_,λx=>?_,?_⟩
  .rw[<-hT0]at he
   obtain⟨r,hr,rfl⟩:=b9.mp he
   have:=hT.row r hr
   exact⟨by show 0<=r.2.2;omega,this.2.2⟩
  .have:tmR T0=rs:=by
    rw[<-hT0]
    unfold tmR
    rw[i4]
    exact(u0v λr _=>rfl).trans (u2Y rs)
   rw[this]
   exact u1p _
  .unfold tot
   rw[<-hT0,i4]
   exact u1p _
 have hp0:Vd T0=T0.map (·.1):=by
  unfold Vd
  rw[List.filter_eq_self.mpr λe he=>?_]
  rw[<-hT0]at he
  obtain⟨r,hr,rfl⟩:=b9.mp he
  have:=hT.row r hr
  exact j7 (show 0 < r.2.2 by omega)
 obtain⟨d0,ed0,hd0⟩:=I0.ring ok hT h56
 have nd:=I0.nd hT
 have el0:yx (fFn ze4 (zb (zd 2) zo)) (visF [.v (zO m ts),.v (.tup (rs.map trD)),.v (.dct true true (tmK T0) (tmV T0)),o3,.no,.no,.no,.no])=some (.lst ((Vd T0).map zc)):=by
  refine vv (zkR (ds:=[.dct true true (tmK T0) (tmV T0)]) (zW rfl xv) ?_)
  show(if (tmK T0).length<=100000 then some ((tmK T0).map (WO true))else none)=_
  rw[t4 (by unfold tmK;rw[u6];omega),hp0]
  unfold tmK
  rw[i4,i4]
  rfl
 refine zp (ρ':=[.v (zO m ts),.v (.tup (rs.map trD)),.m true (tmK T0) (tmV T0),o3,.v d0,.no,.no,.no]) (zeX rfl (yt (ds:=[.lst ((Vd T0).map zc)]) (zW el0 xv) ed0) (zhm hd0) rfl) ?_
 refine yf (Wv (fun ρ=>∃ (T:Tm) (d:D) (o5 o6 o7:Sl),ρ=[.v (zO m ts),.v (.tup (rs.map trD)),.m true (tmK T) (tmV T),o3,.v d,o5,o6,o7]/\Xh ts rs T/\RgD (Vd T) d) muP ?_ 60 _ ⟨T0,d0,_,_,_,rfl,I0,hd0⟩ ?_)
 .rintro ρ ⟨T,d,o5,o6,o7,rfl,I,hd⟩
  have nd:=I.nd hT
  have hlT:=I.len
  rcases hd with ⟨rfl,hc⟩ | ⟨L,rfl,R⟩
  .refine⟨false,rfl,(λz=>by cases z),λ_=>?_⟩
   show(yd (zn 1 xK (zb (zd 2) zo)) [.v (zO m ts),.v (.tup (rs.map trD)),.v (.dct true true (tmK T) (tmV T)),o3,.v .non,o5,o6,o7]).w _ _ _ _
   exact vT (xk (yt (ds:=[.dct true true (tmK T) (tmV T)]) rfl (XT (by omega)))) ⟨T,rfl,I,hc⟩
  .refine⟨true,rfl,λ_=>?_,λz=>by cases z⟩
   have hin:∀ s∈rnd L,∃ e∈T,e.1=s/\0 < e.2:=λs hs=>ZR (zgh R hs)
   have htv:∀ s∈rnd L,wC T s=some (tv T s)/\0 < tv T s:=λs hs=>by
    obtain⟨e,he,rfl,e0⟩:=hin s hs
    have:=v8 nd he
    unfold tv
    rw[this]
    exact⟨rfl,e0⟩
   have hne:(rnd L).map (tv T)≠[]:=λz=>by
    have h1:=u1c List.length z
    rw[u6,zd4]at h1
    have:=R.two
    have h1:L.length=0:=h1
    omega
   obtain⟨f,hf⟩:∃ f:Int,zau ((rnd L).map (tv T))=f:=⟨_,rfl⟩
   obtain⟨m1,m2⟩:=zmf hne
   rw[hf]at m1 m2
   obtain⟨s0,hs0,e0⟩:=b9.mp m1
   have f0:0 < f:=by rw[<-e0];exact(htv s0 hs0).2
   have hfle:∀ s∈rnd L,f<=tv T s:=λs hs=>m2 _ (u0o hs)
   obtain⟨I2,mu2⟩:=I.out hT R f0 hfle ⟨s0,hs0,e0.symm⟩
   unfold Wn
   refine zp (ρ':=[.v (zO m ts),.v (.tup (rs.map trD)),.m true (tmK T) (tmV T),o3,.v (.tup (L.map .int)),.v (.lst ((rnd L).map zc)),o6,o7]) (zbQ (yt (ds:=[.tup (L.map .int)]) rfl (zaw R.eight))) ?_
   have hrl:(rnd L).length<=8:=by rw[zd4];exact R.eight
   have em:vEv true (eFn zcG (zb (yx (fLC (iOf (zd 5)) b1 zR (zk zbt (zd 3) (zd 0)))) zo)) [.v (zO m ts),.v (.tup (rs.map trD)),.m true (tmK T) (tmV T),o3,.v (.tup (L.map .int)),.v (.lst ((rnd L).map zc)),o6,o7]=some (.int f):=by
    refine zpH (VD (ds:=[.lst (((rnd L).map (tv T)).map .int)]) (zW (vv ?_) xv) (by rw[zli hne,hf])) rfl
    rw[i4]
    exact WJ (c:=zc) (y:=D.int ∘ tv T) (xs:=rnd L) (zcA (d:=.lst ((rnd L).map zc)) rfl rfl) (by omega) λs hs=>⟨[some (zc s)],rfl,rfl,zB (x:=.dct false true (tmK T) (tmV T)) (y:=zc s) rfl rfl (zaj (htv s hs).1)⟩
   refine zp (ρ':=[.v (zO m ts),.v (.tup (rs.map trD)),.m true (tmK T) (tmV T),o3,.v (.tup (L.map .int)),.v (.lst ((rnd L).map zc)),.v (.int f),o7]) (Zm em) ?_
   refine yf (ZZ (ds:=(rnd L).map zc) (λi ρ=>∃ o7:Sl,ρ=[.v (zO m ts),.v (.tup (rs.map trD)),.m true (tmK (vS T f ((rnd L).take i))) (tmV (vS T f ((rnd L).take i))),o3,.v (.tup (L.map .int)),.v (.lst ((rnd L).map zc)),.v (.int f),o7]) rfl ⟨_,rfl⟩ ?_ ?_)
   .rintro i d ρ hd ⟨o7,rfl⟩
    rw[j5]at hd
    obtain⟨s,hs,rfl⟩:=u8.mp hd
    refine⟨[.v (zO m ts),.v (.tup (rs.map trD)),.m true (tmK (vS T f ((rnd L).take i))) (tmV (vS T f ((rnd L).take i))),o3,.v (.tup (L.map .int)),.v (.lst ((rnd L).map zc)),.v (.int f),.v (zc s)],rfl,?_⟩
    have er:vS T f ((rnd L).take (i+1))=X1 (vS T f ((rnd L).take i)) s (tv (vS T f ((rnd L).take i)) s - f):=by
     unfold vS
     rw[u1F,hs,u2u]
     rfl
    have hk:∀ u∈(rnd L).take i,u∈T.map (·.1):=λu hu=>by
     obtain⟨e,he,z,_⟩:=hin u (List.mem_of_mem_take hu)
     rw[<-z]
     exact u0o he
    have hkeys:=VM (f:=f) hk
    have hlen:(vS T f ((rnd L).take i)).length=T.length:=by have:=u1c List.length hkeys;rw[u6,u6]at this;exact this
    have hsm:(wC (vS T f ((rnd L).take i)) s).isSome=true:=wJ (by
     rw[hkeys]
     obtain⟨e,he,z,_⟩:=hin s (d9 hs)
     rw[<-z]
     exact u0o he)
    rw[er]
    generalize vS T f ((rnd L).take i)=U at hlen hsm ⊢
    have hu:wC U s=some (tv U s):=by
     obtain⟨n,hn⟩:=u0Y.mp hsm
     unfold tv
     rw[hn]
     rfl
    unfold We
    exact xG (zec (T:=U) (s:=s) (n:=tv U s - f) (zpH (zB (x:=.int (tv U s)) (y:=.int f) (zB (x:=.dct false true (tmK U) (tmV U)) (y:=zc s) rfl rfl (zaj hu)) rfl rfl) rfl) rfl rfl (by omega) rfl) ⟨_,rfl⟩
   .rintro ρ ⟨o7,rfl⟩
    rw[u6,u0W]
    obtain⟨d',ed',hd'⟩:=I2.ring ok hT h56
    have nd2:=I2.nd hT
    have hl2:=I2.len
    generalize vS T f (rnd L)=U at I2 mu2 ed' hd' nd2 hl2 ⊢
    have ev:=zmi (ρ:=visF [.v (zO m ts),.v (.tup (rs.map trD)),.v (.dct true true (tmK U) (tmV U)),o3,.v (.tup (L.map .int)),.v (.lst ((rnd L).map zc)),.v (.int f),o7]) (T:=U) nd2 (by omega) rfl (λ_=>rfl)
    refine xG (zeX rfl (yt (ds:=[.lst ((Vd U).map zc)]) (zW ev xv) ed') (zhm hd') rfl) ⟨⟨U,d',_,_,_,rfl,I2,hd'⟩,?_⟩
    show((tmV U).filter isP).length < ((tmV T).filter isP).length
    rw[zlT,zlT]
    exact mu2
 .show((tmV T0).filter isP).length < 60
  rw[zlT]
  have:=u1x (λe:Tie × Int=>decide (0 < e.2)) T0
  omega
theorem zhY (T:Txt K mg ad):xc P w K mg base CX0 9 ad.f_leaned ad.e_leaned ["web","tally"] (@spD ⟨K⟩ 2 Vb):=by
 letI:KK:=⟨K⟩
 have G_must_be_web:=xu (P:=P) (w:=w) (base:=base) T
 have G_must_be_tally:=w8 (P:=P) (w:=w) (base:=base) T
 have G_tally_from:=XQ (P:=P) (w:=w) (base:=base) T
 have G_ring_of:=zaM (P:=P) (w:=w) (base:=base) T
 have G_steps_round:=zaC (P:=P) (w:=w) (base:=base) T
 refine yz (N:=["web","tally","times","row","ring","steps","fewest","step"]) (ps:=["web","tally"]) T.d_leaned.fn wN (g:=XY) λcdv A outer s H E hr=>?_
 unfold XY Wf Wn We
 exact(ze (wq (zj G_must_be_web hr rfl T.d_must_be_web (za (edv 0) zf)))
  (ze (wq (zj G_must_be_tally hr rfl T.d_must_be_tally (za (edv 0) (za (edv 1) zf))))
  (ze (zhf (t:=true) (i:=2) wN.nd rfl (Or.inr rfl))
  (ze (vP i5 rfl (xo (edv 1)) (ya (zx (i:=3) wN.nd rfl (Or.inl rfl))) (zg (zdx (m:=false) hr (zL (edv 3) (zh zi) (λ_ _=>rfl)) (pv 2) (vy (edv 3) YS (Za (zh zi))))))
  (ze (zhG (i:=2) (j:=4) wN.nd rfl (Or.inl rfl) (zj G_ring_of hr rfl T.d_ring_of (za (wf (zj1 rfl rfl T.z_list (za (edv 2) zf))) zf)))
  (ze (W9 60 i5 (zN ZD YE (zG _) (edv 4) (XH X2)) (ze (zZ (m:=false) (i:=5) wN.nd rfl (Or.inl rfl) (zj G_steps_round hr rfl T.d_steps_round (za (edv 4) zf)))
  (ze (zZ (m:=true) (i:=6) wN.nd rfl (Or.inl rfl) (zU (zak rfl) zb3 rfl T.z_min zcb (za (wf (Z3 (L:=["step"]) (M:=["web","tally","times","row","ring","steps","fewest","·step"]) rfl (wU (by rfl) (by rfl) (by rfl) (by with_unfolding_all rfl) (by rfl) (by rfl) (by kernel_rfl) (all_cons rfl xb)) (xo (edv 5)) gs1 rb1 (λ_ _ _ _=>(zx (i:=0) zlc rfl (Or.inl rfl) (.inr rfl))) (λ_ _ _ _=>(VT hr (edv 3) (edv 0) (λ_ _=>rfl))))) zf)))
  (ze (vP i5 rfl (xo (edv 5)) (ya (zx (i:=7) wN.nd rfl (Or.inl rfl))) (zg (zdx (m:=true) hr (WL (VT hr (edv 2) (edv 7) (λ_ _=>rfl)) (edv 6)) (pv 2) (edv 7))))
  (zg (zhG (i:=2) (j:=4) wN.nd rfl (Or.inl rfl) (zj G_ring_of hr rfl T.d_ring_of (za (wf (zhA (L:=["step"]) (M:=["web","tally","times","row","ring","steps","fewest","·step"]) rfl (wU (by rfl) (by rfl) (by rfl) (by with_unfolding_all rfl) (by rfl) (by rfl) (by kernel_rfl) (all_cons rfl xb)) (zmt (edv 2)) gs1 rb1 (λ_ _ _ _=>(zx (i:=0) zlc rfl (Or.inl rfl) (.inr rfl))) (λ_ _ _ _=>(zN zaG yk (zG _) (VT hr (edv 3) (edv 0) (λ_ _=>rfl)) (zh zi))) (λ_ _ _ _=>(edv 0)))) zf))))))))
  (ziL 2 (zg (zu (zj G_tally_from hr rfl T.d_tally_from (za (edv 2) zf)))))))))))
theorem znK {a b:Tie}(h:ltP a b):a≠b:=λe=>by
 subst e
 unfold ltP at h
 omega
theorem zfK {n:Nat}{t:Tie}(h:0<=t.1/\t.1 < t.2/\t.2 < (n:Int)):t∈xQ n:=by
 unfold xQ
 rw[u3M]
 refine⟨t.1.toNat,u1O.mpr (by omega),b9.mpr ⟨(t.2 - t.1 - 1).toNat,u1O.mpr (by omega),u2A ?_ ?_⟩⟩
 .show((t.1.toNat:Nat):Int)=t.1
  omega
 .show((t.1.toNat:Nat):Int)+1+(((t.2 - t.1 - 1).toNat:Nat):Int)=t.2
  omega
theorem zgZ {m:Int}{ts:List Tie}(ok:y9 m ts):ts.length<=28:=by
 have hm1:=ok.lo
 have hm8:=ok.hi
 have nd:ts.Nodup:=ok.srt.imp znK
 refine p6 (nd.length_le_of_subset (l₂:=xQ m.toNat) λt ht=>zfK ?_) (zac m.toNat (by omega)).2.2
 have:=ok.rng t ht
 omega
theorem zfo {ts:List Tie}{d:D}{rest:List D}:∀ (es:List D) (h:Hl) (k:Nat),yH ts h k es=.non->yH ts h k (es++d::rest)=yH ts (W2 ts h es) (k+es.length) (d::rest):=by
 intro es
 induction es with
 | nil=>intro h k _;rfl
 | cons x es ih =>
  intro h k e
  obtain⟨s,e1,c,e2⟩:=vF e
  rw[List.cons_append,Yy e1 c,Y7 e1 c,ih _ _ e2,i6]
  congr 1
  omega
theorem zjv {ts:List Tie}{d:D}{s:Tie}(e:ZY ts d=some s):∀ (es:List D) (h:Hl) (k:Nat),yH ts h k es=.non->¬ vAt (W2 ts h es) s.1 < 2->W2 ts h (es++[d])=xw (W2 ts h es) s:=by
 intro es
 induction es with
 | nil=>intro h k _ c;exact Y7 e c
 | cons x es ih =>
  intro h k ew c
  obtain⟨u,e1,c1,e2⟩:=vF ew
  rw[List.cons_append,Y7 e1 c1]
  rw[Y7 e1 c1]at c ⊢
  exact ih _ _ e2 c
theorem zl2 {m:Int}{ts:List Tie}{g:Hl}{s:Tie}(ok:y9 m ts)(h:s∈XG (zc8 g ts)):((0<=s.1/\s.1 < m)/\(0<=s.2/\s.2 < m)/\s.1≠s.2)/\ZY ts (zc s)=some s/\¬ vAt g s.1 < 2:=by
 have h:=(Wl _).mem_iff.mp h
 unfold zc8 at h
 obtain⟨t,ht,hs⟩:=u3M.mp h
 have r:=ok.rng t ht
 have key:∀ a b:Int,Zk a b=t->ZY ts (zc (a,b))=some (a,b):=λa b e=>by
  show ZY ts (.tup [.int a,.int b])=_
  rw[Yu,e,t4 (j7 ht)]
 obtain⟨x,y⟩:=t
 dsimp only at r
 rcases zjz.mp hs with ⟨rfl,hv⟩ | ⟨rfl,hv⟩
 .refine⟨by dsimp only;omega,key x y ?_,by dsimp only at hv ⊢;omega⟩
  unfold Zk
  rw[j4 (by omega),t4 (by omega)]
 .refine⟨by dsimp only;omega,key y x ?_,by dsimp only at hv ⊢;omega⟩
  unfold Zk
  rw[t4 (by omega),j4 (by omega)]
theorem zom (es:List D):we [.lst es]=some (.int (es.length:Int)):=rfl
theorem zcz {S:List Tie}:∀ e∈S.map zc,zaN e:=λe he=>by obtain⟨t,-,rfl⟩:=b9.mp he;exact .pair _ _
def Yj:SE->Ctl :=
 (zE (yw false 6 (zn 2 Wz (zb (zd 0) (zb (zd 4) zo))))
  (sIf (tOf (zk zkJ (zd 6) (yx (yc zo)))) (zE (yw false 7 (zk ixD (zd 6) (zk yO (zn 2 yb (zb (zd 2) (zb (zk Yc (eC (.int 201)) (zd 5)) zo))) (eFn we (zb (zd 6) zo)))))
  (zE (wW false 3 (zd 7))
  (yw false 4 (zn 2 wV (zb (zd 4) (zb (zd 7) zo)))))) zF))
def wO:SE->Ctl :=
 (zE (wo 3 (yc zo))
  (zE (yw false 4 (zd 1))
  (zE (yn vo (zb (zk yO (zn 2 yb (zb (zd 2) (zb (eC (.int 200)) zo))) (eC (.int 31))) zo) (zP 5) Yj)
  (sFz 3 (yd (zd 3))))))
def ZG:List D->Option D:=fnD 8 wO
theorem zcU {m:Int}{ts:List Tie}{h:Hl}{c:Int}(ok:y9 m ts)(hl:(h.length:Int)=m):∃ S:List Tie,ZG [zO m ts,hD h,.int c]=some (.lst (S.map zc))/\S.length<=30/\yH ts h 0 (S.map zc)=.non:=by
 obtain⟨q,hq⟩:∃ q:Int,zda c 200 % 31=q:=⟨_,rfl⟩
 obtain⟨q0,q1⟩:=Vo (by decide) hq
 obtain⟨k,hk⟩:∃ k:Nat,q.toNat=k:=⟨_,rfl⟩
 have hr:vo [.int q]=some (W4 0 k):=by rw[ZW q0 (by omega),hk]
 have key:=zfb (m:=8) (g:=wO) (ds:=[zO m ts,hD h,.int c]) (R:=λd=>∃ S:List Tie,d=.lst (S.map zc)/\S.length<=k/\yH ts h 0 (S.map zc)=.non) (ρ:=[.v (zO m ts),.v (hD h),.v (.int c),.no,.no,.no,.no,.no]) rfl ?_
 .obtain⟨d,e,S,rfl,hS,hw⟩:=key
  exact⟨S,e,by omega,hw⟩
 unfold wO
 refine zp (ρ':=[.v (zO m ts),.v (hD h),.v (.int c),.o [],.no,.no,.no,.no]) rfl ?_
 refine zp (ρ':=[.v (zO m ts),.v (hD h),.v (.int c),.o [],.v (hD h),.no,.no,.no]) rfl ?_
 refine yf (zcO (lo:=0) (c:=k) (λi ρ=>∃ (S:List Tie) (o5 o6 o7:Sl),ρ=[.v (zO m ts),.v (hD h),.v (.int c),.o (S.map zc),.v (hD (W2 ts h (S.map zc))),o5,o6,o7]/\S.length<=i/\yH ts h 0 (S.map zc)=.non) ?_ ⟨[],_,_,_,rfl,t5 _,rfl⟩ ?_ ?_)
 .have e:zb (zk yO (zn 2 yb (zb (zd 2) (zb (eC (.int 200)) zo))) (eC (.int 31))) zo (visG [.v (zO m ts),.v (hD h),.v (.int c),.o [],.v (hD h),.no,.no,.no])=some [.int q]:=by
   refine zW (zB (x:=.int (zda c 200)) (y:=.int 31) rfl rfl ?_) xv
   rw[xZ (by decide),hq]
  exact(u1c (·.bind vo) e).trans hr
 .rintro i ρ hi ⟨S,o5,o6,o7,rfl,hS,hw⟩
  have hlg:=zaL ok (S.map zc) h 0 zcz hw
  obtain⟨g,hg⟩:∃ g,W2 ts h (S.map zc)=g:=⟨_,rfl⟩
  have hgl:(g.length:Int)=m:=by rw[<-hg,hlg];exact hl
  rw[hg]
  refine⟨[.v (zO m ts),.v (hD h),.v (.int c),.o (S.map zc),.v (hD g),.v (.int ((0:Int)+(i:Int))),o6,o7],rfl,?_⟩
  unfold Yj
  obtain⟨M,hM⟩:∃ M,XG (zc8 g ts)=M:=⟨_,rfl⟩
  have em:=zfh ok (zgZ ok) hgl
  rw[hM]at em
  refine zp (ρ':=[.v (zO m ts),.v (hD h),.v (.int c),.o (S.map zc),.v (hD g),.v (.int ((0:Int)+(i:Int))),.v (.lst (M.map zc)),o7]) (yD (ds:=[_,_]) rfl em) ?_
  refine vw (c:=!decide (M=[])) (xD (zB (x:=.lst (M.map zc)) (y:=.lst []) rfl rfl (zkU M))) (λz=>?_) (λ_=>xG rfl ⟨S,_,_,_,by rw[hg],by omega,hw⟩)
  have hne:M≠[]:=by
   intro e
   rw[j7 e]at z
   cases z
  have hpos:0 < M.length:=u2e.mpr hne
  obtain⟨j,hj⟩:∃ j:Int,zda c (201+(0+(i:Int))) % (M.length:Int)=j:=⟨_,rfl⟩
  obtain⟨j0,j1⟩:=Vo (by omega) hj
  have hjl:j.toNat < M.length:=by omega
  obtain⟨s,hs⟩:∃ s,M[j.toNat]?=some s:=⟨_,t9 hjl⟩
  obtain⟨hrg,hst,hv⟩:=zl2 (g:=g) ok (by rw[hM];exact d9 hs)
  have hin:=zai hgl hrg
  have ei:L2.atI (M.map zc) j=some (zc s):=zcY j0 (by rw[j5,hs];rfl)
  refine zp (ρ':=[.v (zO m ts),.v (hD h),.v (.int c),.o (S.map zc),.v (hD g),.v (.int ((0:Int)+(i:Int))),.v (.lst (M.map zc)),.v (zc s)]) (zbQ (zB (x:=.lst (M.map zc)) (y:=.int j) rfl (zB (x:=.int (zda c (201+(0+(i:Int))))) (y:=.int (M.length:Int)) rfl ?_ ?_) ei)) ?_
  .refine VD (ds:=[.lst (M.map zc)]) rfl ?_
   rw[zom,u6]
  .rw[xZ (by omega),hj]
  refine zp (WH (ds:=S.map zc) (d:=zc s) rfl rfl (by rw[u6];omega)) ?_
  have hend:=zjv hst (S.map zc) h 0 hw (by rw[hg];exact hv)
  rw[hg]at hend
  have hap:S.map zc++[zc s]=(S++[s]).map zc:=by rw[p9];rfl
  refine xG (ρ':=[.v (zO m ts),.v (hD h),.v (.int c),.o (S.map zc++[zc s]),.v (hD (xw g s)),.v (.int ((0:Int)+(i:Int))),.v (.lst (M.map zc)),.v (zc s)]) (yD (ds:=[hD g,zc s]) rfl (ZA hin)) ⟨S++[s],_,_,_,by rw[<-hap,hend],by rw[j8];show S.length+1<=_;omega,?_⟩
  rw[<-hap,zfo _ _ _ hw,hg,Yy hst hv]
  rfl
 .rintro ρ ⟨S,o5,o6,o7,rfl,hS,hw⟩
  exact zkZ rfl (vT rfl ⟨S,rfl,hS,hw⟩)
theorem zbE (T:Txt K mg ad):xc P w K mg base CX0 2 ad.f__law_steps ad.e__law_steps ["web","heap","cell"] (@spD ⟨K⟩ 3 ZG):=by
 letI:KK:=⟨K⟩
 have G__law_stir:=wH (P:=P) (w:=w) (base:=base) T
 have G__law_may:=zdL (P:=P) (w:=w) (base:=base) T
 have G__law_moved:=YU (P:=P) (w:=w) (base:=base) T
 refine yz (N:=["web","heap","cell","found","here","k","may","step"]) (ps:=["web","heap","cell"]) T.d__law_steps.fn yS (g:=wO) λcdv A outer s H E hr=>?_
 unfold wO Yj
 exact(ze (Zp (i:=3) yS.nd rfl (Or.inl rfl) (v6 zf))
  (ze (zZ (m:=false) (i:=4) yS.nd rfl (Or.inl rfl) (edv 1))
  (ze (Vc i5 rfl rfl T.z_range (za (wj (zj G__law_stir hr rfl T.d__law_stir (za (edv 2) (za (zh zi) zf))) (zh zi)) zf) (ya (zx (i:=5) yS.nd rfl (Or.inl rfl))) (ze (zZ (m:=false) (i:=6) yS.nd rfl (Or.inl rfl) (zj G__law_may hr rfl T.d__law_may (za (edv 0) (za (edv 4) zf))))
  (zg (yr (zN (zhh hr) zef (zG _) (edv 6) (wf (v6 zf))) (ze (zZ (m:=false) (i:=7) yS.nd rfl (Or.inl rfl) (zL (edv 6) (wj (zj G__law_stir hr rfl T.d__law_stir (za (edv 2) (za (xq (zh zi) (edv 5)) zf))) (zU zQ x6 rfl T.z_len v9 (za (edv 6) zf))) (λ_ _=>rfl)))
  (ze (X7 (m:=false) (pv 3) (edv 7) (λa b=>V1 u0j u0p u0q wc a b))
  (zg (zZ (m:=false) (i:=4) yS.nd rfl (Or.inl rfl) (zj G__law_moved hr rfl T.d__law_moved (za (edv 4) (za (edv 7) zf))))))) zD))))
  (Xw 3 (zg (zu (edv 3)))))))
def XN:SE->Ctl :=
 (zE (xH (zn 1 zX (zb (zd 0) zo)))
  (zE (xH (zn 2 yi (zb (zd 0) (zb (zd 1) zo))))
  (zE (xH (zn 2 yI (zb (zd 0) (zb (zd 2) zo))))
  (yd (zn 2 zcq (zb (zd 1) (zb (zd 2) zo)))))))
def X5:List D->Option D:=fnD 3 XN
theorem zfC {m:Int}{ts:List Tie}{h:Hl}{rs:List TR}(ok:y9 m ts)(hp:zjZ m h)(hT:Zj ts rs):X5 [zO m ts,hD h,.tup (rs.map trD)]=some (hD (xE h rs)):=by
 refine Xv (ρ:=[.v (zO m ts),.v (hD h),.v (.tup (rs.map trD))]) rfl ?_
 unfold XN
 refine zp (ww (d:=.non) (zb8 ok)) ?_
 refine zp (ww (d:=.non) (zd7 ok hp)) ?_
 refine zp (ww (d:=.non) (Yn (Zr ok hT))) ?_
 exact vT (xk (yt (ds:=[hD h,.tup (rs.map trD)]) rfl (zgj hp.len ok.hi (hT.trIn ok)))) rfl
theorem zfn (T:Txt K mg ad):xc P w K mg base CX0 9 ad.f_left_by ad.e_left_by ["web","heap","tally"] (@spD ⟨K⟩ 3 X5):=by
 letI:KK:=⟨K⟩
 have G_must_be_web:=xu (P:=P) (w:=w) (base:=base) T
 have G_must_be_heap:=vK (P:=P) (w:=w) (base:=base) T
 have G_must_be_tally:=w8 (P:=P) (w:=w) (base:=base) T
 have G_left:=ziG (P:=P) (w:=w) (base:=base) T
 refine yz (N:=["web","heap","tally"]) (ps:=["web","heap","tally"]) T.d_left_by.fn zfX (g:=XN) λcdv A outer s H E hr=>?_
 unfold XN
 exact(ze (wq (zj G_must_be_web hr rfl T.d_must_be_web (za (edv 0) zf)))
  (ze (wq (zj G_must_be_heap hr rfl T.d_must_be_heap (za (edv 0) (za (edv 1) zf))))
  (ze (wq (zj G_must_be_tally hr rfl T.d_must_be_tally (za (edv 0) (za (edv 2) zf))))
  (zg (zu (zj G_left hr rfl T.d_left (za (edv 1) (za (edv 2) zf))))))))
theorem zf8 {m:Int}{ts:List Tie}(ok:y9 m ts):∀ (S:List Tie) (h:Hl) (k:Nat),yH ts h k (S.map zc)=.non->Can ts h S (W2 ts h (S.map zc)):=by
 intro S
 induction S with
 | nil=>intro h k _;rfl
 | cons s S ih =>
  intro h k e
  obtain⟨u,e1,c,e2⟩:=vF e
  have hu:=(X9 ok (zaN.pair s.1 s.2) e1).1
  have hs:s=u:=zcJ hu
  subst hs
  rw[p7,Y7 e1 c]
  refine⟨?_,by omega,ih _ _ e2⟩
  have e1:ZY ts (.tup [.int s.1,.int s.2])=some s:=e1
  rw[Yu]at e1
  split at e1
  .rename_i z;exact d7 z
  .cases e1
theorem zhp {m:Int}{ts:List Tie}(ok:y9 m ts){s:Tie}(h:Zk s.1 s.2∈ts):(0<=s.1/\s.1 < m)/\(0<=s.2/\s.2 < m)/\s.1≠s.2:=by
 have r:=ok.rng _ h
 unfold Zk at r
 dsimp only at r
 split at r <;> split at r <;> omega
theorem zdj {ts:List Tie}:∀ {S:List Tie} {h g:Hl},Can ts h S g->g.length=h.length:=by
 intro S
 induction S with
 | nil=>intro h g c;cases c;rfl
 | cons s S ih=>intro h g c;rw[ih c.2.2,vR]
theorem zkN {m x:Int}{ts:List Tie}(ok:y9 m ts)(hx:0<=x):∀ {S:List Tie} {h g:Hl},(h.length:Int)=m->Can ts h S g->vAt g x=vAt h x+tsd (S.map one) x:=by
 intro S
 induction S with
 | nil=>intro h g _ c;cases c;show _=_+0;rw[u3b]
 | cons s S ih =>
  intro h g hl c
  obtain⟨r1,r2,r3⟩:=zhp ok c.1
  have e:=zg8 (r:=one s) hl ⟨r1,r2,r3,by show(1:Int)<=1;decide,by show(1:Int)<=300;decide⟩ hx
  have e:vAt (xw h s) x=vAt h x+tdl (one s) x:=e
  rw[ih (by rw[vR];exact hl) c.2.2,e,p7,xf]
  omega
theorem zev {ts:List Tie}:∀ {S:List Tie} {h g:Hl},Can ts h S g->∀ s∈S,Zk s.1 s.2∈ts:=by
 intro S
 induction S with
 | nil=>intro _ _ _ s h;cases h
 | cons a S ih =>
  intro h g c s hs
  rcases j9.mp hs with rfl | hs
  .exact c.1
  .exact ih c.2.2 s hs
theorem zn7 {m:Int}{ts:List Tie}(ok:y9 m ts):∀ {S:List Tie} {h g:Hl},(h.length:Int)=m->(∀ v∈h,0<=v)->Can ts h S g->(∀ v∈g,0<=v)/\g.sum<=h.sum:=by
 intro S
 induction S with
 | nil=>intro h g _ hn c;cases c;exact⟨hn,u1p _⟩
 | cons s S ih =>
  intro h g hl hn c
  have hs:=zai hl (zhp ok c.1)
  obtain⟨a,b⟩:=ih (by rw[vR];exact hl) (zjU hs hn c.2.1) c.2.2
  have:=zhz hs
  exact⟨a,by omega⟩
theorem V2 (E:List Tie)(n:Nat):Ya E (n+1)=zo2 (Ya E n):=rfl
def lvl (E:List Tie)(x:Int):Nat:=(List.range 10).findIdx λk=>!decide (x∈(Ya E k).map λq=>q.1)
theorem zoG {E:List Tie}{x:Int}{k:Nat}(h:k < lvl E x):x∈(Ya E k).map λq=>q.1:=by
 have hl:lvl E x<=10:=by
  have:lvl E x<=(List.range 10).length:=List.findIdx_le_length
  rwa[u1D]at this
 have hk:k < (List.range 10).length:=by rw[u1D];omega
 have:=List.not_of_lt_findIdx h
 rw[List.getElem_range]at this
 simpa using this
theorem zlV {E:List Tie}{x:Int}(h9:Ya E 9=[]):x∉(Ya E (lvl E x)).map λq=>q.1:=by
 have hlt:lvl E x < (List.range 10).length:=List.findIdx_lt_length_of_exists ⟨9,u1O.mpr (by decide),by rw[h9];rfl⟩
 have e:(List.range 10)[lvl E x]'hlt=lvl E x:=List.getElem_range _
 have:(!decide (x∈(Ya E ((List.range 10)[lvl E x]'hlt)).map λq=>q.1))=true:=List.findIdx_getElem (w:=hlt)
 rw[e]at this
 simpa using this
theorem zjp {E:List Tie}(h9:Ya E 9=[]){s:Tie}(hs:s∈E):lvl E s.2 < lvl E s.1:=by
 refine Nat.lt_of_not_le λhle=>?_
 have stay:∀ i,i<=lvl E s.2->s∈Ya E i:=by
  intro i
  induction i with
  | zero=>intro _;exact hs
  | succ i ih =>
   intro hi
   rw[V2,Y9]
   obtain⟨q,hq,e⟩:=b9.mp (zoG (E:=E) (x:=s.2) (k:=i) (by omega))
   exact⟨ih (by omega),q,hq,e⟩
 exact zlV h9 (b9.mpr ⟨s,stay _ hle,rfl⟩)
theorem zfW {E G:List Tie}(h:∀ s,s∈E↔s∈G):∀ n s,s∈Ya E n↔s∈Ya G n:=by
 intro n
 induction n with
 | zero=>exact h
 | succ n ih =>
  intro s
  rw[V2,V2,Y9,Y9,ih]
  constructor
  .rintro⟨a,q,hq,e⟩;exact⟨a,q,(ih q).mp hq,e⟩
  .rintro⟨a,q,hq,e⟩;exact⟨a,q,(ih q).mpr hq,e⟩
theorem zjM {E G:List Tie}(h:∀ s,s∈E↔s∈G)(h9:Ya E 9=[]):Ya G 9=[]:=by
 refine u2B.mpr λs hs=>?_
 have:=(zfW h 9 s).mpr hs
 rw[h9]at this
 cases this
theorem zdv {T:Tm}(nd:(T.map (·.1)).Nodup)(s:Tie):s∈(Xz T).map trP↔s∈Vd T:=by
 constructor
 .intro h
  obtain⟨r,hr,rfl⟩:=b9.mp h
  obtain⟨e,he,e0,rfl⟩:=zbA nd hr
  exact b9.mpr ⟨e,p8.mpr ⟨he,j7 e0⟩,rfl⟩
 .intro h
  obtain⟨e,he,rfl,e0⟩:=ZR h
  exact b9.mpr ⟨zhR e,(X6 nd).mem_iff.mpr (b9.mpr ⟨e,p8.mpr ⟨he,j7 e0⟩,rfl⟩),rfl⟩
theorem zjJ (S:List Tie)(s:Tie):s∈Vd (Xu S)↔s∈S:=by
 have c:=zb2 S
 constructor
 .intro h
  obtain⟨e,he,rfl,_⟩:=ZR h
  exact c.sub _ (u0o he)
 .intro h
  obtain⟨e,he,rfl⟩:=b9.mp (c.all s h)
  have h0:=c.pos _ h
  unfold tv at h0
  rw[v8 c.nd he]at h0
  exact b9.mpr ⟨e,p8.mpr ⟨he,j7 h0⟩,rfl⟩
theorem zmx {R:List TR}(h:∀ r∈R,1<=r.2.2)(s:Tie):s∈wK R↔s∈R.map trP:=by
 unfold wK
 rw[u3M,b9]
 constructor
 .rintro⟨r,hr,hs⟩
  exact⟨r,hr,(List.eq_of_mem_replicate hs).symm⟩
 .rintro⟨r,hr,rfl⟩
  have:=h r hr
  exact⟨r,hr,List.mem_replicate.mpr ⟨by omega,rfl⟩⟩
def xz:SE->Ctl :=
 (sIf (zS (tOf (zn 3 zy (zb (zd 0) (zb (zd 1) (zb (zd 2) zo)))))) sNo zF)
def xA:List D->Option D:=fnD 3 xz
theorem WE (T:Txt K mg ad):xc P w K mg base CX0 3 ad.f_must_be_within ad.e_must_be_within ["thing","least","most"] (@spD ⟨K⟩ 3 xA):=by
 letI:KK:=⟨K⟩
 have G_is_whole_within:=xg (P:=P) (w:=w) (base:=base) T
 refine yz (N:=["thing","least","most"]) (ps:=["thing","least","most"]) T.d_must_be_within.fn Wg (g:=xz) λcdv A outer s H E hr=>?_
 unfold xz
 exact(zg (yr (xi (yA (zj G_is_whole_within hr rfl T.d_is_whole_within (za (edv 0) (za (edv 1) (za (edv 2) zf)))))) (zg v7) zD))
theorem zge {n:Int}(h1:1<=n)(h2:n<=300):xA [.int n,.int 1,.int 300]=some .non:=by
 have e:zy [.int n,.int 1,.int 300]=some (.bl true):=by
  show some (D.bl (decide (1<=n)&&decide (n<=300)))=_
  rw[j7 h1,j7 h2]
  rfl
 refine Xv (ρ:=[.v (.int n),.v (.int 1),.v (.int 300)]) rfl ?_
 unfold xz
 exact vw (c:=false) (zad (b:=true) (xD (yt (ds:=[_,_,_]) rfl e))) (λz=>by cases z) (λ_=>xG rfl rfl)
theorem zls (xs:List D)(x:D):L2.atI (xs++[x]) (-1)=some x:=by
 have e:L2.ixN (xs++[x]).length (-1)=some xs.length:=by
  unfold L2.ixN
  rw[j8]
  simp
  omega
 unfold L2.atI
 rw[e]
 simp
def Vh:SE->Ctl :=
 (zE (xH (zn 1 zX (zb (zd 0) zo)))
  (zE (xH (zn 2 yi (zb (zd 0) (zb (zd 1) zo))))
  (zE (xH (zn 2 yJ (zb (zd 0) (zb (zd 2) zo))))
  (zE (xH (zn 3 xA (zb (zd 3) (zb (eC (.int 1)) (zb (eC (.int 300)) zo)))))
  (zE (yw false 5 (zn 3 zcX (zb (zd 0) (zb (zd 1) (zb (zd 4) zo)))))
  (zE (sIf (tOf (zk zC (zk ixD (zd 5) (eC (.int 1))) (eC .non))) (yd (eC (.bl false))) zF)
  (zE (yw false 6 (zk ixD (zk Yc (yx (yc (zb (zd 1) zo))) (zk ixD (zd 5) (eC (.int 0)))) (eUn Yf (eC (.int 1)))))
  (yd (zk geD (zk ixD (zd 6) (zd 2)) (zd 3))))))))))
def Vp:List D->Option D:=fnD 7 Vh
theorem zcQ {m:Int}{ts:List Tie}{h:Hl}{p n:Int}{d w:D}{N B C:SE->Prop}{R:D->Prop}(ok:y9 m ts)(hp:zjZ m h)(h1:0<=p/\p < m)(h2:1<=n)(h3:n<=300)(hw:zcX [zO m ts,hD h,d]=some w){g:SE->Ctl}(hg:(g [.v (zO m ts),.v (hD h),.v (.int p),.v (.int n),.v d,.v w,.no]).w N B C R) :
 (zE (xH (zn 1 zX (zb (zd 0) zo)))
 (zE (xH (zn 2 yi (zb (zd 0) (zb (zd 1) zo))))
 (zE (xH (zn 2 yJ (zb (zd 0) (zb (zd 2) zo))))
 (zE (xH (zn 3 xA (zb (zd 3) (zb (eC (.int 1)) (zb (eC (.int 300)) zo)))))
 (zE (yw false 5 (zn 3 zcX (zb (zd 0) (zb (zd 1) (zb (zd 4) zo))))) g)))) [.v (zO m ts),.v (hD h),.v (.int p),.v (.int n),.v d,.no,.no]).w N B C R:=by
 refine zp (ww (d:=.non) (zb8 ok)) ?_
 refine zp (ww (d:=.non) (zd7 ok hp)) ?_
 refine zp (ww (d:=.non) (zfT (ts:=ts) h1)) ?_
 refine zp (ww (d:=.non) (zge h2 h3)) ?_
 exact zp (yD (ds:=[_,_,_]) rfl hw) hg
theorem zfc {m:Int}{ts:List Tie}{h:Hl}{p n:Int}{es:List D}(ok:y9 m ts)(hp:zjZ m h)(h1:0<=p/\p < m)(h2:1<=n)(h3:n<=300)(he:∀ e∈es,zaN e)(hn:es.length<=900)(hw:yH ts h 0 es=.non):Vp [zO m ts,hD h,.int p,.int n,.lst es]=some (.bl (decide (n<=vAt (W2 ts h es) p))):=by
 have ew:=zmg ok hp.len he hn
 rw[hw]at ew
 obtain⟨gs,eg⟩:=zds es h 0 hw
 have hl:=zaL ok es h 0 he hw
 have ea:=vE (ns:=W2 ts h es) h1.1 (by rw[hl];have:=hp.len;omega)
 have hlen:=za0 ts es h
 refine Xv (ρ:=[.v (zO m ts),.v (hD h),.v (.int p),.v (.int n),.v (.lst es),.no,.no]) rfl ?_
 unfold Vh
 refine zcQ ok hp h1 h2 h3 ew ?_
 refine yf (vw (c:=false) rfl (λz=>by cases z) (λ_=>xG rfl ?_))
 have e6:zk ixD (zk Yc (yx (yc (zb (zd 1) zo))) (zk ixD (zd 5) (eC (.int 0)))) (eUn Yf (eC (.int 1))) (visF [.v (zO m ts),.v (hD h),.v (.int p),.v (.int n),.v (.lst es),.v (.tup [.lst ((YF ts h es).map hD),.non]),.no])=some (hD (W2 ts h es)):=by
  refine zB (x:=.lst ((gs++[W2 ts h es]).map hD)) (y:=.int (-1)) (zB (x:=.lst [hD h]) (y:=.lst ((YF ts h es).map hD)) rfl rfl ?_) rfl ?_
  .rw[zlg (by rw[u6];show 1+_<=1000;omega),<- eg]
   rfl
  .rw[p9]
   exact zls _ _
 refine zp (zbQ e6) ?_
 exact vT (xk (zB (x:=.int (vAt (W2 ts h es) p)) (y:=.int n) (zB (x:=hD (W2 ts h es)) (y:=.int p) rfl rfl ea) rfl rfl)) rfl
theorem zhP (T:Txt K mg ad):xc P w K mg base CX0 8 ad.f_brings ad.e_brings ["web","heap","place","many","thing"] (@spD ⟨K⟩ 5 Vp):=by
 letI:KK:=⟨K⟩
 have G_must_be_within:=WE (P:=P) (w:=w) (base:=base) T
 have G_must_be_web:=xu (P:=P) (w:=w) (base:=base) T
 have G_must_be_place:=WU (P:=P) (w:=w) (base:=base) T
 have G_must_be_heap:=vK (P:=P) (w:=w) (base:=base) T
 have G_walk:=zl3 (P:=P) (w:=w) (base:=base) T
 refine yz (N:=["web","heap","place","many","thing","told","last"]) (ps:=["web","heap","place","many","thing"]) T.d_brings.fn VC (g:=Vh) λcdv A outer s H E hr=>?_
 unfold Vh
 exact(ze (wq (zj G_must_be_web hr rfl T.d_must_be_web (za (edv 0) zf)))
  (ze (wq (zj G_must_be_heap hr rfl T.d_must_be_heap (za (edv 0) (za (edv 1) zf))))
  (ze (wq (zj G_must_be_place hr rfl T.d_must_be_place (za (edv 0) (za (edv 2) zf))))
  (ze (wq (zj G_must_be_within hr rfl T.d_must_be_within (za (edv 3) (za (zh zi) (za (zh (zb4 (v:=.int 300) rfl T.g_MOST_STONES ⟨_,rfl⟩)) zf)))))
  (ze (zZ (m:=false) (i:=5) VC.nd rfl (Or.inl rfl) (zj G_walk hr rfl T.d_walk (za (edv 0) (za (edv 1) (za (edv 4) zf)))))
  (ze (yr (zN ZD YE (zG _) (zL (edv 5) (zh zi) (λ_ _=>rfl)) (XH X2)) (zg (zu (wZ vf))) zD)
  (ze (zZ (m:=false) (i:=6) VC.nd rfl (Or.inl rfl) (zL (xq (wf (v6 (za (edv 1) zf))) (zL (edv 5) (zh zi) (λ_ _=>rfl))) (zk3 (zh zi)) (λ_ _=>rfl)))
  (zg (zu (Yt zoB yk (zG _) (zL (edv 6) (edv 2) (λ_ _=>rfl)) (edv 3)))))))))))
def zdT:SE->Ctl :=
 (zE (sIf (tOf (zk ltD (zk ixD (zn 2 Yw (zb (zd 3) (zb (zd 7) zo))) (zd 8)) (zd 9))) (yd (eC (.bl false))) zF)
  (sIf (yg (tOf (zk gtD (zd 9) (eC (.int 0)))) (tOf (zk zC (zn 5 Vp (zb (zd 2) (zb (zd 3) (zb (zd 8) (zb (zd 9) (zb (zd 7) zo)))))) (eC (.bl true))))) (yd (eC (.bl false))) zF))
def zbX:SE->Ctl :=
 (zE (yw false 2 (zn 2 ve (zb (zk Yc (eC (.int 2)) (zk yO (zk yh (zd 1) (eC (.int 64))) (eC (.int 6)))) (zb (zk yh (zd 1) (eC (.int 384))) zo))))
  (zE (yw false 3 (zn 3 Yo (zb (zk ixD (zd 2) (eC (.int 0))) (zb (zk Yc (zk wd (zn 2 yb (zb (zd 1) (zb (eC (.int 9)) zo))) (eC (.int 2))) (zk yO (zd 1) (eC (.int 2)))) (zb (eC (.int 40)) zo)))))
  (zE (yw false 4 (zn 3 ZG (zb (zd 2) (zb (zd 3) (zb (zd 1) zo)))))
  (zE (yw false 5 (zn 2 Yw (zb (zd 3) (zb (zd 4) zo))))
  (zE (yw false 6 (zn 2 vG (zb (zd 2) (zb (yx (fFn yq (zb (zd 4) zo))) zo))))
  (zE (sIf (zS (tOf (zn 2 Xs (zb (zn 3 X5 (zb (zd 2) (zb (zd 3) (zb (zd 6) zo)))) (zb (zd 5) zo))))) (yd (eC (.bl false))) zF)
  (zE (yw false 7 (zn 3 Wq (zb (zd 2) (zb (zd 3) (zb (zn 2 Vb (zb (zd 2) (zb (zd 6) zo))) zo)))))
  (zE (sIf (wm (tOf (zk zC (zn 3 vX (zb (zd 2) (zb (zd 3) (zb (zd 7) zo)))) (eC .non))) (wm (tOf (zk gtD (eFn we (zb (zd 7) zo)) (eFn we (zb (zd 4) zo)))) (tOf (zn 1 xV (zb (zn 2 vG (zb (zd 2) (zb (zd 7) zo))) zo))))) (yd (eC (.bl false))) zF)
  (wg (zM (zb (zd 5) zo)) (vD 2 (ye (zP 8) (ye (zP 9) vH))) zdT)))))))))
def zki:SE->Ctl :=
 (zE (wg (iOf (zk Yc (eSl slD (zd 0) ym (yj (eC (.int 6)))) (yx (yc (zb (eC (.int 0)) (zb (eC (.int 7)) (zb (eC (.int 14)) zo))))))) (zP 1) zbX)
  (yd (eC (.bl true))))
def zoh:List D->Option D:=fnD 10 zki
theorem zjV:∀ {l:List Int},(∀ v∈l,0<=v)->∀ v∈l,v<=l.sum:=by
 intro l
 induction l with
 | nil=>intro _ v hv;cases hv
 | cons a l ih =>
  intro h v hv
  have h0:0<=l.sum:=zla λx hx=>h x (.tail _ hx)
  rw[u1h]
  rcases j9.mp hv with rfl | hv
  .omega
  .have:=ih (λx hx=>h x (.tail _ hx)) v hv
   have:=h a (.head _)
   omega
theorem zme (ns:List Int):okE 5 (hD ns)=true:=by
 show(ns.map D.int).all (okE 4)=true
 rw[u1w,u0s]
 exact λ_ _=>rfl
structure Fct (m:Int) (ts:List Tie) (h:Hl) (S F:List Tie) (g g':Hl) (rs R:List TR):Prop where
 tal:vG [zO m ts,.lst (S.map zc)]=some (.tup (rs.map trD))
 lft:X5 [zO m ts,hD h,.tup (rs.map trD)]=some (hD g)
 lean:Vb [zO m ts,.tup (rs.map trD)]=some (.tup (R.map trD))
 ord:Wq [zO m ts,hD h,.tup (R.map trD)]=some (.lst (F.map zc))
 wr:vX [zO m ts,hD h,.lst (F.map zc)]=some .non
 few:F.length<=S.length
 ring:∃ d,vG [zO m ts,.lst (F.map zc)]=some d/\xV [d]=some (.bl false)
 fin:Yw [hD h,.lst (F.map zc)]=some (hD g')
 len:g'.length=g.length
 gl:(g.length:Int)=m
 ge:∀ x,0<=x->x < m->vAt g x<=vAt g' x
 le:∀ x,0<=x->x < m->vAt g x<=300
 br:∀ x n:Int,0<=x->x < m->1<=n->n<=300->n<=vAt g' x->Vp [zO m ts,hD h,.int x,.int n,.lst (F.map zc)]=some (.bl true)
theorem zoA {m:Int}{ts:List Tie}{h:Hl}{S:List Tie}(ok:y9 m ts)(hp:zjZ m h)(h30:S.length<=30)(hw:yH ts h 0 (S.map zc)=.non):∃ F g' rs R,Fct m ts h S F (W2 ts h (S.map zc)) g' rs R:=by
 have C:=zf8 ok S h 0 hw
 generalize W2 ts h (S.map zc)=g at C
 have hS:=zev C
 have hgl:(g.length:Int)=m:=by rw[zdj C];exact hp.len
 obtain⟨hnn,hsum⟩:=zn7 ok hp.len hp.nn C
 have c:=zb2 S
 have e1:=zao ok (zgZ ok) hS (by omega)
 have hk:(Xu S).length<=56:=by
  have:=zbG c.nd λs hs=>hS s (c.sub s hs)
  have:=zgZ ok
  rw[u6]at *
  omega
 have hpos:∀ e∈Xu S,0<=e.2/\e.2<=30:=λe he=>by
  have h0:=c.nn e.1
  unfold tv at h0
  rw[v8 c.nd he]at h0
  have h0:0<=e.2/\e.2<=S.length:=h0
  omega
 have hT:Zj ts (Xz (Xu S)):=zkS c.nd (λe he=>⟨hS _ (c.sub _ (u0o he)),by have:=hpos e he;omega⟩) (by omega)
 have hrl:(Xz (Xu S)).length<=56:=p6 (Vj _) hk
 have hsd:∀ x,tsd (Xz (Xu S)) x=tsd (S.map one) x:=λx=>by rw[zkG c.nd (λe he=>(hpos e he).1),c.sd]
 have htot:=zgQ c.nd λe he=>(hpos e he).1
 rw[c.tot]at htot
 have hrt:=zdl (Xz (Xu S)) λr hr=>by have:=(hT.row r hr).2.1;omega
 generalize Xz (Xu S)=rs at *
 have e2:=zfC ok hp hT
 have eg:xE h rs=g:=zbY (by rw[wR,zdj C]) λx x0 _=>by rw[zaO x0 rs h hp.len (hT.trIn ok),hsd,zkN ok x0 hp.len C]
 rw[eg]at e2
 obtain⟨T,e3,L,h9⟩:=zig ok hT hrl
 have nd:=L.nd hT
 have tl:T.length<=56:=by rw[L.len];exact hrl
 have hR:Zj ts (Xz T):=zkS nd (λe he=>⟨L.step hT he,(L.val e he).2⟩) (by omega)
 have hRs:∀ x,tsd (Xz T) x=tsd (tmR T) x:=λx=>zkG nd (λe he=>(L.val e he).1) x
 have hRt:=zgQ nd λe he=>(L.val e he).1
 have hle:=L.tot
 have hrk:∀ r∈Xz T,-((lvl (Vd T) r.1:Nat):Int) < -((lvl (Vd T) r.2.1:Nat):Int):=λr hr=>by
  have:=zjp h9 (s:=trP r) ((zdv nd _).mp (u0o hr))
  have:lvl (Vd T) r.2.1 < lvl (Vd T) r.1:=this
  omega
 have hfin:∀ x,0<=x->x < m->0<=vAt h x+tsd (Xz T) x/\vAt g x<=vAt h x+tsd (Xz T) x:=λx x0 x1=>by
  have a:=zkN ok x0 hp.len C
  have b:=L.sd x
  have d:=hnn _ (zdw x0 (by omega))
  rw[hRs]
  rw[hsd]at b
  omega
 have hkeys:=zdv nd
 have hRl:(Xz T).length<=56:=p6 (Vj _) tl
 generalize Xz T=R at *
 obtain⟨T',e4,hpm,C'⟩:=zjX (rank:=λx=>-((lvl (Vd T) x:Nat):Int)) ok hp hR hrk (λx x0 x1=>(hfin x x0 x1).1) (by omega) (by omega)
 have hFl:(wK T').length=(wK R).length:=(zcr hpm).length_eq
 obtain⟨w1,w2⟩:=zgS 0 C'
 have e5:=zcK ok hp.len (zcz (S:=wK T'))
 have e6:=zbc ok hp.len (zcz (S:=wK T')) w1
 rw[w1]at e5
 rw[w2]at e6
 have hF:=zev C'
 have e7:=zao ok (zgZ ok) hF (by omega)
 have c':=zb2 (wK T')
 have hk':(Xu (wK T')).length<=56:=by
  have:=zbG c'.nd λs hs=>hF s (c'.sub s hs)
  have:=zgZ ok
  rw[u6]at *
  omega
 have e8:=zdG (rs:=Xz (Xu (wK T'))) (by have:=Vj (Xu (wK T'));omega)
 have h0:Ya ((Xz (Xu (wK T'))).map trP) 9=[]:=zjM (λs=>by
  rw[zdv c'.nd,zjJ,zmx (λr hr=>(hR.row r (hpm.mem_iff.mp hr)).2.1),<- hkeys,b9,b9]
  constructor
  .rintro⟨r,hr,z⟩;exact⟨r,hpm.mem_iff.mpr hr,z⟩
  .rintro⟨r,hr,z⟩;exact⟨r,hpm.mem_iff.mp hr,z⟩) h9
 rw[j7 h0]at e8
 refine⟨wK T',xE h R,rs,R,e1,e2,e3,?_,e5,by omega,⟨_,e7,e8⟩,e6,by rw[wR,zdj C],hgl,λx x0 x1=>?_,λx x0 x1=>?_,λx n x0 x1 n1 n2 n3=>?_⟩
 .show(ZN [zO m ts,hD h,.tup (R.map trD)]).map D.lst=_
  rw[e4]
  rfl
 .rw[zaO x0 R h hp.len (hR.trIn ok)]
  exact(hfin x x0 x1).2
 .have a:=zjV hnn _ (zdw x0 (by omega:x < g.length))
  have:=hp.sum
  omega
 .rw[zfc ok hp ⟨x0,x1⟩ n1 n2 (zcz (S:=wK T')) (by rw[u6];omega) w1,w2,j7 n3]
theorem zgt {t:Ev->Option Bool}{g:SE->Ctl}{ρ:SE}(e:t (visG ρ)=some false):sIf t g zF ρ=.nx ρ:=by
 unfold sIf
 rw[e]
 rfl
theorem zmm (s:D)(z:Int)(o2 o3 o4 o5 o6 o7 o8 o9:Sl)(n b:SE->Prop)(r:D->Prop)(I:SE->Prop)(hI:∀ o2 o3 o4 o5 o6 o7 o8 o9,I [.v s,.v (.int z),o2,o3,o4,o5,o6,o7,o8,o9]):(zbX [.v s,.v (.int z),o2,o3,o4,o5,o6,o7,o8,o9]).w I b n r:=by
 obtain⟨q,hq⟩:∃ q:Int,z / 64 % 6=q:=⟨_,rfl⟩
 obtain⟨q0,q1⟩:=Vo (by decide) hq
 obtain⟨m,hm⟩:∃ m:Int,2+q=m:=⟨_,rfl⟩
 obtain⟨ts,ew,ok,-⟩:=zcD (n:=m) (c:=z / 384) (by omega) (by omega)
 obtain⟨cc,hcc⟩:∃ cc:Int,zda z 9*2+z % 2=cc:=⟨_,rfl⟩
 obtain⟨h,eh,hl,hn,hs⟩:=zfz (n:=m) (c:=cc) (mo:=40) (by omega) (by omega) (by decide) (by decide)
 have hp:zjZ m h:=⟨hl,hn,by omega⟩
 obtain⟨S,es,h30,hw⟩:=zcU (c:=z) ok hl
 have ee:=zbc ok hl (zcz (S:=S)) hw
 obtain⟨F,g',rs,R,fc⟩:=zoA ok hp h30 hw
 generalize W2 ts h (S.map zc)=g at ee fc
 unfold zbX
 refine zp (ρ':=[.v s,.v (.int z),.v (zO m ts),o3,o4,o5,o6,o7,o8,o9]) (yD (ds:=[.int m,.int (z / 384)]) (zW (zB (x:=.int 2) (y:=.int q) rfl (zB (x:=.int (z / 64)) (y:=.int 6) (zB (x:=.int z) (y:=.int 64) rfl rfl (Vi (by decide) (by decide))) rfl (by rw[xZ (by decide),hq])) (by rw[zv,hm])) (zW (zB (x:=.int z) (y:=.int 384) rfl rfl (Vi (by decide) (by decide))) xv)) ew) ?_
 refine zp (ρ':=[.v s,.v (.int z),.v (zO m ts),.v (hD h),o4,o5,o6,o7,o8,o9]) (yD (ds:=[.int m,.int cc,.int 40]) (zW rfl (zW (zB (x:=.int (zda z 9*2)) (y:=.int (z % 2)) (zB (x:=.int (zda z 9)) (y:=.int 2) rfl rfl (Xf (zd3 (by decide) (by decide)))) (zB (x:=.int z) (y:=.int 2) rfl rfl (xZ (by decide))) (by rw[zv,hcc])) (zW rfl xv))) eh) ?_
 refine zp (ρ':=[.v s,.v (.int z),.v (zO m ts),.v (hD h),.v (.lst (S.map zc)),o5,o6,o7,o8,o9]) (yD (ds:=[_,_,_]) rfl es) ?_
 refine zp (ρ':=[.v s,.v (.int z),.v (zO m ts),.v (hD h),.v (.lst (S.map zc)),.v (hD g),o6,o7,o8,o9]) (yD (ds:=[_,_]) rfl ee) ?_
 refine zp (ρ':=[.v s,.v (.int z),.v (zO m ts),.v (hD h),.v (.lst (S.map zc)),.v (hD g),.v (.tup (rs.map trD)),o7,o8,o9]) (yD (ds:=[zO m ts,.lst (S.map zc)]) rfl fc.tal) ?_
 refine zp (zgt (zad (b:=true) (xD (yt (ds:=[hD g,hD g]) (zW (yt (ds:=[zO m ts,hD h,.tup (rs.map trD)]) rfl fc.lft) (zW rfl xv)) (zod (zme g)))))) ?_
 refine zp (ρ':=[.v s,.v (.int z),.v (zO m ts),.v (hD h),.v (.lst (S.map zc)),.v (hD g),.v (.tup (rs.map trD)),.v (.lst (F.map zc)),o8,o9]) (yD (ds:=[zO m ts,hD h,.tup (R.map trD)]) (zW rfl (zW rfl (zW (yt (ds:=[zO m ts,.tup (rs.map trD)]) rfl fc.lean) xv))) fc.ord) ?_
 obtain⟨d,ed,er⟩:=fc.ring
 have hlen:gtD (.int ((F.map zc).length:Int)) (.int ((S.map zc).length:Int))=some (.bl false):=by
  have:=fc.few
  show some (D.bl (decide (((F.map zc).length:Int) > ((S.map zc).length:Int))))=_
  rw[u6,u6,g9 (by omega)]
 refine zp (zgt (zk5 (xD (zB (x:=.non) (y:=.non) (yt (ds:=[zO m ts,hD h,.lst (F.map zc)]) rfl fc.wr) rfl rfl)) (zk5 (xD (zB (x:=.int ((F.map zc).length:Int)) (y:=.int ((S.map zc).length:Int)) (VD (ds:=[.lst (F.map zc)]) rfl rfl) (VD (ds:=[.lst (S.map zc)]) rfl rfl) hlen)) (xD (yt (ds:=[d]) (zW (yt (ds:=[zO m ts,.lst (F.map zc)]) rfl ed) xv) er))))) ?_
 refine ZZ (ds:=Zu 0 (g.map .int)) (λ_ ρ=>∃ o8 o9:Sl,ρ=[.v s,.v (.int z),.v (zO m ts),.v (hD h),.v (.lst (S.map zc)),.v (hD g),.v (.tup (rs.map trD)),.v (.lst (F.map zc)),o8,o9]) rfl ⟨_,_,rfl⟩ ?_ ?_
 .rintro i d ρ hd ⟨o8,o9,rfl⟩
  rw[xx,u0m,j5]at hd
  obtain⟨x,hx,rfl⟩:=u8.mp hd
  obtain⟨v,hv,rfl⟩:=u8.mp hx
  obtain⟨hi,hv⟩:=t6.mp hv
  have x1:(i:Int) < m:=by have:=fc.gl;omega
  have x0:0<=(i:Int):=u00 i
  have ev:vAt g (i:Int)=v:=by
   unfold vAt
   rw[u0f,Dl.getD_at hi,hv]
  have hge:=fc.ge _ x0 x1
  have hle:=fc.le _ x0 x1
  rw[ev]at hge hle
  generalize (i:Int)=k at *
  refine⟨[.v s,.v (.int z),.v (zO m ts),.v (hD h),.v (.lst (S.map zc)),.v (hD g),.v (.tup (rs.map trD)),.v (.lst (F.map zc)),.v (.int k),.v (.int v)],rfl,?_⟩
  unfold zdT
  have e1:ltD (.int (vAt g' k)) (.int v)=some (.bl false):=by
   show some (D.bl (decide (vAt g' k < v)))=_
   rw[g9 (by omega)]
  refine zp (zgt (xD (zB (x:=.int (vAt g' k)) (y:=.int v) (zB (x:=hD g') (y:=.int k) (yt (ds:=[hD h,.lst (F.map zc)]) rfl fc.fin) rfl (zll ⟨x0,x1⟩ (by rw[fc.len];exact fc.gl))) rfl e1))) ?_
  have e2:∀ c:Bool,decide (v > 0)=c->gtD (.int v) (.int 0)=some (.bl c):=λc hc=>by
   show some (D.bl (decide (v > 0)))=_
   rw[hc]
  by_cases c:v > 0
  .exact vw (c:=false) (zlw (xD (zB (x:=.int v) (y:=.int 0) rfl rfl (e2 true (j7 c)))) (xD (zB (x:=.bl true) (y:=.bl true) (yt (ds:=[zO m ts,hD h,.int k,.int v,.lst (F.map zc)]) rfl (fc.br k v x0 x1 c hle hge)) rfl rfl))) (λz=>by cases z) (λ_=>xG rfl ⟨_,_,rfl⟩)
  .exact vw (c:=false) (zlo (xD (zB (x:=.int v) (y:=.int 0) rfl rfl (e2 false (g9 c))))) (λz=>by cases z) (λ_=>xG rfl ⟨_,_,rfl⟩)
 .rintro ρ ⟨o8,o9,rfl⟩
  exact hI _ _ _ _ _ _ _ _
theorem zj8 (ns:List Int)(h:ns.length<=63):zoh [.scr ns]=some (.bl true):=by
 refine Xv (ρ:=[.v (.scr ns),.no,.no,.no,.no,.no,.no,.no,.no,.no]) rfl ?_
 unfold zki
 obtain⟨xs,hxs⟩:∃ xs:List Int,(zb5 ns none (some 6))++[0,7,14]=xs:=⟨_,rfl⟩
 have hl:((zb5 ns none (some 6)).map D.int).length+[D.int 0,.int 7,.int 14].length<=1000:=by rw[u6];have:=zkh ns none (some 6);show _+3<=1000;omega
 refine yf (ZZ (ds:=xs.map .int) (λi ρ=>∃ o1 o2 o3 o4 o5 o6 o7 o8 o9,ρ=[.v (.scr ns),o1,o2,o3,o4,o5,o6,o7,o8,o9]) ?_ ⟨_,_,_,_,_,_,_,_,_,rfl⟩ ?_ ?_)
 .refine zcA (d:=.lst (xs.map .int)) (zB (x:=.lst ((zb5 ns none (some 6)).map D.int)) (y:=.lst [.int 0,.int 7,.int 14]) rfl rfl ?_) rfl
  rw[zeo hl,<- hxs,p9]
  rfl
 .rintro i d ρ hd ⟨o1,o2,o3,o4,o5,o6,o7,o8,o9,rfl⟩
  rw[j5]at hd
  obtain⟨z,hz,rfl⟩:=u8.mp hd
  exact⟨_,rfl,zmm _ _ _ _ _ _ _ _ _ _ _ _ _ _ λ_ _ _ _ _ _ _ _=>⟨_,_,_,_,_,_,_,_,_,rfl⟩⟩
 .rintro ρ ⟨o1,o2,o3,o4,o5,o6,o7,o8,o9,rfl⟩
  exact vT rfl rfl
theorem zoa (T:Txt K mg ad):xc P w K mg base CX0 20 ad.f_law ad.e_law ["script"] (ziD K):=by
 letI:KK:=⟨K⟩
 have G_brings:=zhP (P:=P) (w:=w) (base:=base) T
 have G_tally_of:=zdd (P:=P) (w:=w) (base:=base) T
 have G_left_by:=zfn (P:=P) (w:=w) (base:=base) T
 have G_leaned:=zhY (P:=P) (w:=w) (base:=base) T
 have G_in_order:=zea (P:=P) (w:=w) (base:=base) T
 have O_in_order:=WT (P:=P) (w:=w) (base:=base) T
 have G__law_stir:=wH (P:=P) (w:=w) (base:=base) T
 have G__law_joined_by:=Wk (P:=P) (w:=w) (base:=base) T
 have G__law_heap_by:=V3 (P:=P) (w:=w) (base:=base) T
 have G__law_end:=zed (P:=P) (w:=w) (base:=base) T
 have G__law_same:=zcd (P:=P) (w:=w) (base:=base) T
 have G__law_wrong:=zbf (P:=P) (w:=w) (base:=base) T
 have G__law_has_ring:=WV (P:=P) (w:=w) (base:=base) T
 have G__law_steps:=zbE (P:=P) (w:=w) (base:=base) T
 refine(zof (p:=zoh) (yz (N:=["script","cell","web","heap","steps","end","tally","found","place","stones"]) (ps:=["script"]) T.d_law.fn Z6 (g:=zki) λcdv A outer s H E hr=>?_) zj8).mono (j:=10) (by decide)
 unfold zki zbX zdT
 exact(ze (vP i5 rfl (xo (xq (vy (edv 0) YS (Za (zh zi))) (wf (v6 (za (zh zi) (za (zh zi) (za (zh zi) zf))))))) (ya (zx (i:=1) Z6.nd rfl (Or.inl rfl))) (ze (zZ (m:=false) (i:=2) Z6.nd rfl (Or.inl rfl) (zj G__law_joined_by hr rfl T.d__law_joined_by (za (xq (zh zi) (wj (Z9 (edv 1) (zh zi)) (zh zi))) (za (Z9 (edv 1) (zh zi)) zf))))
  (ze (zZ (m:=false) (i:=3) Z6.nd rfl (Or.inl rfl) (zj G__law_heap_by hr rfl T.d__law_heap_by (za (zL (edv 2) (zh zi) (λ_ _=>rfl)) (za (xq (WP (zj G__law_stir hr rfl T.d__law_stir (za (edv 1) (za (zh zi) zf))) (zh zi)) (wj (edv 1) (zh zi))) (za (zh zi) zf)))))
  (ze (zZ (m:=false) (i:=4) Z6.nd rfl (Or.inl rfl) (zj G__law_steps hr rfl T.d__law_steps (za (edv 2) (za (edv 3) (za (edv 1) zf)))))
  (ze (zZ (m:=false) (i:=5) Z6.nd rfl (Or.inl rfl) (zj G__law_end hr rfl T.d__law_end (za (edv 3) (za (edv 4) zf))))
  (ze (zZ (m:=false) (i:=6) Z6.nd rfl (Or.inl rfl) (zj G_tally_of hr rfl T.d_tally_of (za (edv 2) (za (wf (WF rfl T.z_list (za (edv 4) zf))) zf))))
  (ze (yr (xi (yA (zj G__law_same hr rfl T.d__law_same (za (zj G_left_by hr rfl T.d_left_by (za (edv 2) (za (edv 3) (za (edv 6) zf)))) (za (edv 5) zf))))) (zg (zu (wZ vf))) zD)
  (ze (zZ (m:=false) (i:=7) Z6.nd rfl (Or.inl rfl) (zj G_in_order hr rfl T.d_in_order (za (edv 2) (za (edv 3) (za (zj G_leaned hr rfl T.d_leaned (za (edv 2) (za (edv 6) zf))) zf)))))
  (ze (yr (zdI (V5 (zN ZD YE (zG _) (zj G__law_wrong hr rfl T.d__law_wrong (za (edv 2) (za (edv 3) (za (edv 7) zf)))) (XH X2)) (V5 (zN zaG yk (zG _) (zU zQ x6 rfl T.z_len v9 (za (edv 7) zf)) (zU zQ x6 rfl T.z_len v9 (za (edv 4) zf))) (XV (yA (zj G__law_has_ring hr rfl T.d__law_has_ring (za (zj G_tally_of hr rfl T.d_tally_of (za (edv 2) (za (edv 7) zf))) zf))))))) (zg (zu (wZ vf))) zD)
  (zg (vP i5 rfl (ZE rfl T.z_enumerate yP (za (edv 5) zf)) (XF rfl (yu (ya (zx (i:=8) Z6.nd rfl (Or.inl rfl))) (yu (ya (zx (i:=9) Z6.nd rfl (Or.inl rfl))) YX))) (ze (yr (zN zgw yk (zG _) (zL (zj G__law_end hr rfl T.d__law_end (za (edv 3) (za (edv 7) zf))) (edv 8) (λ_ _=>rfl)) (edv 9)) (zg (zu (wZ vf))) zD)
  (zg (yr (zdI (za9 (zN zaG yk (zG _) (edv 9) (zh zi)) (Wm (zN ZD YE (zG _) (zj G_brings hr rfl T.d_brings (za (edv 2) (za (edv 3) (za (edv 8) (za (edv 9) (za (edv 7) zf)))))) (wZ vf))))) (zg (zu (wZ vf))) zD))))))))))))))
  (zg (zu (wZ vf))))
end
theorem zpG {us:List Value}(h:us.length=1):∃ x0,us=[x0]:=by
 cases us with
 | nil=>cases h
 | cons x0 us =>
  cases us with
  | nil=>exact⟨x0,rfl⟩
  | cons _ _=>cases h
theorem zpJ {us:List Value}(h:us.length=2):∃ x0 x1,us=[x0,x1]:=by
 cases us with
 | nil=>cases h
 | cons x0 us =>
  cases us with
  | nil=>cases h
  | cons x1 us =>
   cases us with
   | nil=>exact⟨x0,x1,rfl⟩
   | cons _ _=>cases h
theorem zpr {us:List Value}(h:us.length=3):∃ x0 x1 x2,us=[x0,x1,x2]:=by
 cases us with
 | nil=>cases h
 | cons x0 us =>
  cases us with
  | nil=>cases h
  | cons x1 us =>
   cases us with
   | nil=>cases h
   | cons x2 us =>
    cases us with
    | nil=>exact⟨x0,x1,x2,rfl⟩
    | cons _ _=>cases h
theorem zpb {us:List Value}(h:us.length=5):∃ x0 x1 x2 x3 x4,us=[x0,x1,x2,x3,x4]:=by
 cases us with
 | nil=>cases h
 | cons x0 us =>
  cases us with
  | nil=>cases h
  | cons x1 us =>
   cases us with
   | nil=>cases h
   | cons x2 us =>
    cases us with
    | nil=>cases h
    | cons x3 us =>
     cases us with
     | nil=>cases h
     | cons x4 us =>
      cases us with
      | nil=>exact⟨x0,x1,x2,x3,x4,rfl⟩
      | cons _ _=>cases h
abbrev Lk (x:Str)(st:Stmt)(oc:Value)(od:Option Addr)(kV dc pm:Value)(an:Option Addr)(cd ct:Value)(sl:Array (Option Value)):Option Obj:=some ⟨oc,od,.func (W.fnOf x x (Xn st) (vL st) (zm st) .none kV dc pm an cd ct),sl⟩
theorem mkD {K:W.Frag}{h:Heap}{mg:Str->Option Value}{x:Str}{st:Stmt}{ps:List Str}{f:Addr}{oc kV dc pm cd ct:Value}{od an:Option Addr}{sl:Array (Option Value)}(X:K.In h)(G:h.Ns mainGlobals mg)(a:W.nsIn K mainGlobals x=some (some (.ref f)))(l:K.lookup f=Lk x st oc od kV dc pm an cd ct sl)(c:W.codeIn K cd x=true)(k:W.keepIn K (.ref f)=true)
 (b:∀ (kV doc pm:Value) (an:Option Addr) (cdv ct:Value) (us:List Value),us.length=ps.length->bindArgs (W.fnOf x x (Xn st) (vL st) (zm st) .none kV doc pm an cdv ct) ⟨us,[]⟩=pure (ps.zip us)):Def K mg x st ps f (W.fnOf x x (Xn st) (vL st) (zm st) .none kV dc pm an cd ct):=⟨zkL l c k,(zkL l c k).binds b,u2P X G a⟩
theorem bn1 {F:Value->Value->Value->Option Addr->Value->Value->List Value->Prop}(h:∀ a b c d e f x0,F a b c d e f [x0]):∀ a b c d e f us,us.length=1->F a b c d e f us:=λa b c d e f us hl=>by obtain⟨x0,rfl⟩:=zpG hl;exact h a b c d e f x0
theorem bn2 {F:Value->Value->Value->Option Addr->Value->Value->List Value->Prop}(h:∀ a b c d e f x0 x1,F a b c d e f [x0,x1]):∀ a b c d e f us,us.length=2->F a b c d e f us:=λa b c d e f us hl=>by obtain⟨x0,x1,rfl⟩:=zpJ hl;exact h a b c d e f x0 x1
theorem bn3 {F:Value->Value->Value->Option Addr->Value->Value->List Value->Prop}(h:∀ a b c d e f x0 x1 x2,F a b c d e f [x0,x1,x2]):∀ a b c d e f us,us.length=3->F a b c d e f us:=λa b c d e f us hl=>by obtain⟨x0,x1,x2,rfl⟩:=zpr hl;exact h a b c d e f x0 x1 x2
theorem bn5 {F:Value->Value->Value->Option Addr->Value->Value->List Value->Prop}(h:∀ a b c d e f x0 x1 x2 x3 x4,F a b c d e f [x0,x1,x2,x3,x4]):∀ a b c d e f us,us.length=5->F a b c d e f us:=λa b c d e f us hl=>by obtain⟨x0,x1,x2,x3,x4,rfl⟩:=zpb hl;exact h a b c d e f x0 x1 x2 x3 x4
theorem all_mk {l:W.OpenLaw} {w:World} {K:W.Frag} {h:Heap} {mg:Str->Option Value} {fa f0 f1 f2 f3 f4 f5 f6 f7 f8 f9 f10 f11 f12 f13 f14 f15 f16 f17 f18 f19 f20 f21 f22 f23 f24 f25 f26 f27 f28 f29 f30 f31 f32 f33 f34 f35 f36 f37 f38 f39 f40 f41 f42 f43 f44:Addr} (X:K.In h) (G:h.Ns mainGlobals mg) (hfa:mg "law"=some (.ref fa))
 {od0 an0 od1 an1 od2 an2 od3 an3 od4 an4 od5 an5 od6 an6 od7 an7 od8 an8 od9 an9 od10 an10 od11 an11 od12 an12 od13 an13 od14 an14 od15 an15 od16 an16 od17 an17 od18 an18 od19 an19 od20 an20 od21 an21 od22 an22 od23 an23 od24 an24 od25 an25 od26 an26 od27 an27 od28 an28 od29 an29 od30 an30 od31 an31 od32 an32 od33 an33 od34 an34 od35 an35 od36 an36 od37 an37 od38 an38 od39 an39 od40 an40 od41 an41 od42 an42 od43 an43 od44 an44:Option Addr} {sl0 sl1 sl2 sl3 sl4 sl5 sl6 sl7 sl8 sl9 sl10 sl11 sl12 sl13 sl14 sl15 sl16 sl17 sl18 sl19 sl20 sl21 sl22 sl23 sl24 sl25 sl26 sl27 sl28 sl29 sl30 sl31 sl32 sl33 sl34 sl35 sl36 sl37 sl38 sl39 sl40 sl41 sl42 sl43 sl44:Array (Option Value)} {oc0 kV0 dc0 pm0 ct0 cd0 oc1 kV1 dc1 pm1 ct1 cd1 oc2 kV2 dc2 pm2 ct2 cd2 oc3 kV3 dc3 pm3 ct3 cd3 oc4 kV4 dc4 pm4 ct4 cd4 oc5 kV5 dc5 pm5 ct5 cd5 oc6 kV6 dc6 pm6 ct6 cd6 oc7 kV7 dc7 pm7 ct7 cd7 oc8 kV8 dc8 pm8 ct8 cd8 oc9 kV9 dc9 pm9 ct9 cd9 oc10 kV10 dc10 pm10 ct10 cd10 oc11 kV11 dc11 pm11 ct11 cd11 oc12 kV12 dc12 pm12 ct12 cd12 oc13 kV13 dc13 pm13 ct13 cd13 oc14 kV14 dc14 pm14 ct14 cd14 oc15 kV15 dc15 pm15 ct15 cd15 oc16 kV16 dc16 pm16 ct16 cd16 oc17 kV17 dc17 pm17 ct17 cd17 oc18 kV18 dc18 pm18 ct18 cd18 oc19 kV19 dc19 pm19 ct19 cd19 oc20 kV20 dc20 pm20 ct20 cd20 oc21 kV21 dc21 pm21 ct21 cd21 oc22 kV22 dc22 pm22 ct22 cd22 oc23 kV23 dc23 pm23 ct23 cd23 oc24 kV24 dc24 pm24 ct24 cd24 oc25 kV25 dc25 pm25 ct25 cd25 oc26 kV26 dc26 pm26 ct26 cd26 oc27 kV27 dc27 pm27 ct27 cd27 oc28 kV28 dc28 pm28 ct28 cd28 oc29 kV29 dc29 pm29 ct29 cd29 oc30 kV30 dc30 pm30 ct30 cd30 oc31 kV31 dc31 pm31 ct31 cd31 oc32 kV32 dc32 pm32 ct32 cd32 oc33 kV33 dc33 pm33 ct33 cd33 oc34 kV34 dc34 pm34 ct34 cd34 oc35 kV35 dc35 pm35 ct35 cd35 oc36 kV36 dc36 pm36 ct36 cd36 oc37 kV37 dc37 pm37 ct37 cd37 oc38 kV38 dc38 pm38 ct38 cd38 oc39 kV39 dc39 pm39 ct39 cd39 oc40 kV40 dc40 pm40 ct40 cd40 oc41 kV41 dc41 pm41 ct41 cd41 oc42 kV42 dc42 pm42 ct42 cd42 oc43 kV43 dc43 pm43 ct43 cd43 oc44 kV44 dc44 pm44 ct44 cd44:Value} {tk0:Tok} {tk1:Tok} {tk2:Tok}
 (a0:W.nsIn K mainGlobals "is_whole"=some (some (.ref f0))) (l0:K.lookup f0=Lk "is_whole" Xr oc0 od0 kV0 dc0 pm0 an0 cd0 ct0 sl0) (c0:W.codeIn K cd0 "is_whole"=true) (k0:W.keepIn K (.ref f0)=true)
 (a1:W.nsIn K mainGlobals "is_whole_within"=some (some (.ref f1))) (l1:K.lookup f1=Lk "is_whole_within" xY oc1 od1 kV1 dc1 pm1 an1 cd1 ct1 sl1) (c1:W.codeIn K cd1 "is_whole_within"=true) (k1:W.keepIn K (.ref f1)=true)
 (a2:W.nsIn K mainGlobals "must_be_within"=some (some (.ref f2))) (l2:K.lookup f2=Lk "must_be_within" wt oc2 od2 kV2 dc2 pm2 an2 cd2 ct2 sl2) (c2:W.codeIn K cd2 "must_be_within"=true) (k2:W.keepIn K (.ref f2)=true)
 (a3:W.nsIn K mainGlobals "is_place_count"=some (some (.ref f3))) (l3:K.lookup f3=Lk "is_place_count" wz oc3 od3 kV3 dc3 pm3 an3 cd3 ct3 sl3) (c3:W.codeIn K cd3 "is_place_count"=true) (k3:W.keepIn K (.ref f3)=true)
 (a4:W.nsIn K mainGlobals "is_place"=some (some (.ref f4))) (l4:K.lookup f4=Lk "is_place" Xp oc4 od4 kV4 dc4 pm4 an4 cd4 ct4 sl4) (c4:W.codeIn K cd4 "is_place"=true) (k4:W.keepIn K (.ref f4)=true)
 (a5:W.nsIn K mainGlobals "are_counts"=some (some (.ref f5))) (l5:K.lookup f5=Lk "are_counts" Y4 oc5 od5 kV5 dc5 pm5 an5 cd5 ct5 sl5) (c5:W.codeIn K cd5 "are_counts"=true) (k5:W.keepIn K (.ref f5)=true)
 (a6:W.nsIn K mainGlobals "is_pair"=some (some (.ref f6))) (l6:K.lookup f6=Lk "is_pair" Wd oc6 od6 kV6 dc6 pm6 an6 cd6 ct6 sl6) (c6:W.codeIn K cd6 "is_pair"=true) (k6:W.keepIn K (.ref f6)=true)
 (a7:W.nsIn K mainGlobals "are_ties"=some (some (.ref f7))) (l7:K.lookup f7=Lk "are_ties" Xe oc7 od7 kV7 dc7 pm7 an7 cd7 ct7 sl7) (c7:W.codeIn K cd7 "are_ties"=true) (k7:W.keepIn K (.ref f7)=true)
 (a8:W.nsIn K mainGlobals "is_web"=some (some (.ref f8))) (l8:K.lookup f8=Lk "is_web" VW oc8 od8 kV8 dc8 pm8 an8 cd8 ct8 sl8) (c8:W.codeIn K cd8 "is_web"=true) (k8:W.keepIn K (.ref f8)=true)
 (a9:W.nsIn K mainGlobals "must_be_web"=some (some (.ref f9))) (l9:K.lookup f9=Lk "must_be_web" Yp oc9 od9 kV9 dc9 pm9 an9 cd9 ct9 sl9) (c9:W.codeIn K cd9 "must_be_web"=true) (k9:W.keepIn K (.ref f9)=true)
 (a10:W.nsIn K mainGlobals "must_be_place"=some (some (.ref f10))) (l10:K.lookup f10=Lk "must_be_place" vk oc10 od10 kV10 dc10 pm10 an10 cd10 ct10 sl10) (c10:W.codeIn K cd10 "must_be_place"=true) (k10:W.keepIn K (.ref f10)=true)
 (a11:W.nsIn K mainGlobals "tie_between"=some (some (.ref f11))) (l11:K.lookup f11=Lk "tie_between" Yk oc11 od11 kV11 dc11 pm11 an11 cd11 ct11 sl11) (c11:W.codeIn K cd11 "tie_between"=true) (k11:W.keepIn K (.ref f11)=true)
 (a12:W.nsIn K mainGlobals "are_stones"=some (some (.ref f12))) (l12:K.lookup f12=Lk "are_stones" Y5 oc12 od12 kV12 dc12 pm12 an12 cd12 ct12 sl12) (c12:W.codeIn K cd12 "are_stones"=true) (k12:W.keepIn K (.ref f12)=true)
 (a13:W.nsIn K mainGlobals "must_be_heap"=some (some (.ref f13))) (l13:K.lookup f13=Lk "must_be_heap" vJ oc13 od13 kV13 dc13 pm13 an13 cd13 ct13 sl13) (c13:W.codeIn K cd13 "must_be_heap"=true) (k13:W.keepIn K (.ref f13)=true)
 (a14:W.nsIn K mainGlobals "is_step"=some (some (.ref f14))) (l14:K.lookup f14=Lk "is_step" WA oc14 od14 kV14 dc14 pm14 an14 cd14 ct14 sl14) (c14:W.codeIn K cd14 "is_step"=true) (k14:W.keepIn K (.ref f14)=true)
 (a15:W.nsIn K mainGlobals "stepped"=some (some (.ref f15))) (l15:K.lookup f15=Lk "stepped" WB oc15 od15 kV15 dc15 pm15 an15 cd15 ct15 sl15) (c15:W.codeIn K cd15 "stepped"=true) (k15:W.keepIn K (.ref f15)=true)
 (a16:W.nsIn K mainGlobals "walk"=some (some (.ref f16))) (l16:K.lookup f16=Lk "walk" zdO oc16 od16 kV16 dc16 pm16 an16 cd16 ct16 sl16) (c16:W.codeIn K cd16 "walk"=true) (k16:W.keepIn K (.ref f16)=true)
 (a17:W.nsIn K mainGlobals "brings"=some (some (.ref f17))) (l17:K.lookup f17=Lk "brings" V4 oc17 od17 kV17 dc17 pm17 an17 cd17 ct17 sl17) (c17:W.codeIn K cd17 "brings"=true) (k17:W.keepIn K (.ref f17)=true)
 (a18:W.nsIn K mainGlobals "is_tally_row"=some (some (.ref f18))) (l18:K.lookup f18=Lk "is_tally_row" vN oc18 od18 kV18 dc18 pm18 an18 cd18 ct18 sl18) (c18:W.codeIn K cd18 "is_tally_row"=true) (k18:W.keepIn K (.ref f18)=true)
 (a19:W.nsIn K mainGlobals "are_tally_rows"=some (some (.ref f19))) (l19:K.lookup f19=Lk "are_tally_rows" wn oc19 od19 kV19 dc19 pm19 an19 cd19 ct19 sl19) (c19:W.codeIn K cd19 "are_tally_rows"=true) (k19:W.keepIn K (.ref f19)=true)
 (a20:W.nsIn K mainGlobals "must_be_tally"=some (some (.ref f20))) (l20:K.lookup f20=Lk "must_be_tally" vd oc20 od20 kV20 dc20 pm20 an20 cd20 ct20 sl20) (c20:W.codeIn K cd20 "must_be_tally"=true) (k20:W.keepIn K (.ref f20)=true)
 (a21:W.nsIn K mainGlobals "tally_from"=some (some (.ref f21))) (l21:K.lookup f21=Lk "tally_from" YM oc21 od21 kV21 dc21 pm21 an21 cd21 ct21 sl21) (c21:W.codeIn K cd21 "tally_from"=true) (k21:W.keepIn K (.ref f21)=true)
 (a22:W.nsIn K mainGlobals "tally_of"=some (some (.ref f22))) (l22:K.lookup f22=Lk "tally_of" Z8 oc22 od22 kV22 dc22 pm22 an22 cd22 ct22 sl22) (c22:W.codeIn K cd22 "tally_of"=true) (k22:W.keepIn K (.ref f22)=true)
 (a23:W.nsIn K mainGlobals "left"=some (some (.ref f23))) (l23:K.lookup f23=Lk "left" zdg oc23 od23 kV23 dc23 pm23 an23 cd23 ct23 sl23) (c23:W.codeIn K cd23 "left"=true) (k23:W.keepIn K (.ref f23)=true)
 (a24:W.nsIn K mainGlobals "left_by"=some (some (.ref f24))) (l24:K.lookup f24=Lk "left_by" Ww oc24 od24 kV24 dc24 pm24 an24 cd24 ct24 sl24) (c24:W.codeIn K cd24 "left_by"=true) (k24:W.keepIn K (.ref f24)=true)
 (a25:W.nsIn K mainGlobals "led_on"=some (some (.ref f25))) (l25:K.lookup f25=Lk "led_on" VZ oc25 od25 kV25 dc25 pm25 an25 cd25 ct25 sl25) (c25:W.codeIn K cd25 "led_on"=true) (k25:W.keepIn K (.ref f25)=true)
 (a26:W.nsIn K mainGlobals "ring_of"=some (some (.ref f26))) (l26:K.lookup f26=Lk "ring_of" Wj oc26 od26 kV26 dc26 pm26 an26 cd26 ct26 sl26) (c26:W.codeIn K cd26 "ring_of"=true) (k26:W.keepIn K (.ref f26)=true)
 (a27:W.nsIn K mainGlobals "steps_round"=some (some (.ref f27))) (l27:K.lookup f27=Lk "steps_round" Yi oc27 od27 kV27 dc27 pm27 an27 cd27 ct27 sl27) (c27:W.codeIn K cd27 "steps_round"=true) (k27:W.keepIn K (.ref f27)=true)
 (a28:W.nsIn K mainGlobals "leaned"=some (some (.ref f28))) (l28:K.lookup f28=Lk "leaned" V9 oc28 od28 kV28 dc28 pm28 an28 cd28 ct28 sl28) (c28:W.codeIn K cd28 "leaned"=true) (k28:W.keepIn K (.ref f28)=true)
 (a29:W.nsIn K mainGlobals "in_order"=some (some (.ref f29))) (l29:K.lookup f29=Lk "in_order" Xg oc29 od29 kV29 dc29 pm29 an29 cd29 ct29 sl29) (c29:W.codeIn K cd29 "in_order"=true) (k29:W.keepIn K (.ref f29)=true)
 (a30:W.nsIn K mainGlobals "_law_stir"=some (some (.ref f30))) (l30:K.lookup f30=Lk "_law_stir" ZI oc30 od30 kV30 dc30 pm30 an30 cd30 ct30 sl30) (c30:W.codeIn K cd30 "_law_stir"=true) (k30:W.keepIn K (.ref f30)=true)
 (a31:W.nsIn K mainGlobals "_law_may"=some (some (.ref f31))) (l31:K.lookup f31=Lk "_law_may" Xo oc31 od31 kV31 dc31 pm31 an31 cd31 ct31 sl31) (c31:W.codeIn K cd31 "_law_may"=true) (k31:W.keepIn K (.ref f31)=true)
 (a32:W.nsIn K mainGlobals "_law_moved"=some (some (.ref f32))) (l32:K.lookup f32=Lk "_law_moved" Zb oc32 od32 kV32 dc32 pm32 an32 cd32 ct32 sl32) (c32:W.codeIn K cd32 "_law_moved"=true) (k32:W.keepIn K (.ref f32)=true)
 (a33:W.nsIn K mainGlobals "_law_pairs"=some (some (.ref f33))) (l33:K.lookup f33=Lk "_law_pairs" YR oc33 od33 kV33 dc33 pm33 an33 cd33 ct33 sl33) (c33:W.codeIn K cd33 "_law_pairs"=true) (k33:W.keepIn K (.ref f33)=true)
 (a34:W.nsIn K mainGlobals "_law_web_by"=some (some (.ref f34))) (l34:K.lookup f34=Lk "_law_web_by" Yb oc34 od34 kV34 dc34 pm34 an34 cd34 ct34 sl34) (c34:W.codeIn K cd34 "_law_web_by"=true) (k34:W.keepIn K (.ref f34)=true)
 (a35:W.nsIn K mainGlobals "_law_joined_by"=some (some (.ref f35))) (l35:K.lookup f35=Lk "_law_joined_by" wA oc35 od35 kV35 dc35 pm35 an35 cd35 ct35 sl35) (c35:W.codeIn K cd35 "_law_joined_by"=true) (k35:W.keepIn K (.ref f35)=true)
 (a36:W.nsIn K mainGlobals "_law_heap_by"=some (some (.ref f36))) (l36:K.lookup f36=Lk "_law_heap_by" vQ oc36 od36 kV36 dc36 pm36 an36 cd36 ct36 sl36) (c36:W.codeIn K cd36 "_law_heap_by"=true) (k36:W.keepIn K (.ref f36)=true)
 (a37:W.nsIn K mainGlobals "_law_end"=some (some (.ref f37))) (l37:K.lookup f37=Lk "_law_end" Xm oc37 od37 kV37 dc37 pm37 an37 cd37 ct37 sl37) (c37:W.codeIn K cd37 "_law_end"=true) (k37:W.keepIn K (.ref f37)=true)
 (a38:W.nsIn K mainGlobals "_law_same"=some (some (.ref f38))) (l38:K.lookup f38=Lk "_law_same" Zy oc38 od38 kV38 dc38 pm38 an38 cd38 ct38 sl38) (c38:W.codeIn K cd38 "_law_same"=true) (k38:W.keepIn K (.ref f38)=true)
 (a39:W.nsIn K mainGlobals "_law_whole"=some (some (.ref f39))) (l39:K.lookup f39=Lk "_law_whole" YZ oc39 od39 kV39 dc39 pm39 an39 cd39 ct39 sl39) (c39:W.codeIn K cd39 "_law_whole"=true) (k39:W.keepIn K (.ref f39)=true)
 (a40:W.nsIn K mainGlobals "_law_is_step"=some (some (.ref f40))) (l40:K.lookup f40=Lk "_law_is_step" vI oc40 od40 kV40 dc40 pm40 an40 cd40 ct40 sl40) (c40:W.codeIn K cd40 "_law_is_step"=true) (k40:W.keepIn K (.ref f40)=true)
 (a41:W.nsIn K mainGlobals "_law_wrong"=some (some (.ref f41))) (l41:K.lookup f41=Lk "_law_wrong" Zd oc41 od41 kV41 dc41 pm41 an41 cd41 ct41 sl41) (c41:W.codeIn K cd41 "_law_wrong"=true) (k41:W.keepIn K (.ref f41)=true)
 (a42:W.nsIn K mainGlobals "_law_has_ring"=some (some (.ref f42))) (l42:K.lookup f42=Lk "_law_has_ring" vn oc42 od42 kV42 dc42 pm42 an42 cd42 ct42 sl42) (c42:W.codeIn K cd42 "_law_has_ring"=true) (k42:W.keepIn K (.ref f42)=true)
 (a43:W.nsIn K mainGlobals "_law_steps"=some (some (.ref f43))) (l43:K.lookup f43=Lk "_law_steps" YN oc43 od43 kV43 dc43 pm43 an43 cd43 ct43 sl43) (c43:W.codeIn K cd43 "_law_steps"=true) (k43:W.keepIn K (.ref f43)=true)
 (a44:W.nsIn K mainGlobals "law"=some (some (.ref f44))) (l44:K.lookup f44=Lk "law" zhN oc44 od44 kV44 dc44 pm44 an44 cd44 ct44 sl44) (c44:W.codeIn K cd44 "law"=true) (k44:W.keepIn K (.ref f44)=true)
 (gg0:W.nsIn K mainGlobals "MOST_PLACES"=some (some (.int 8 tk0)))
 (gg1:W.nsIn K mainGlobals "MOST_STONES"=some (some (.int 300 tk1)))
 (gg2:W.nsIn K mainGlobals "MOST_TIMES"=some (some (.int 300 tk2)))
 (z0:W.nsIn K mainGlobals "all"=some none)
 (z1:W.nsIn K mainGlobals "any"=some none)
 (z2:W.nsIn K mainGlobals "bool"=some none)
 (z3:W.nsIn K mainGlobals "enumerate"=some none)
 (z4:W.nsIn K mainGlobals "int"=some none)
 (z5:W.nsIn K mainGlobals "isinstance"=some none)
 (z6:W.nsIn K mainGlobals "len"=some none)
 (z7:W.nsIn K mainGlobals "list"=some none)
 (z8:W.nsIn K mainGlobals "max"=some none)
 (z9:W.nsIn K mainGlobals "min"=some none)
 (z10:W.nsIn K mainGlobals "range"=some none)
 (z11:W.nsIn K mainGlobals "set"=some none)
 (z12:W.nsIn K mainGlobals "sorted"=some none)
 (z13:W.nsIn K mainGlobals "str"=some none)
 (z14:W.nsIn K mainGlobals "sum"=some none)
 (z15:W.nsIn K mainGlobals "tuple"=some none)
 (z16:W.nsIn K mainGlobals "zip"=some none)
 : ∃ fd:FuncData,(∀ (s:Shared) (v:Value),BindsTo s fd ⟨[v],[]⟩ [("script",v)])/\∀ base:Heap,K.In base->base.Ns mainGlobals mg->xc l.prog w K mg base CX0 20 fa fd ["script"] (ziD K):=by
 have e:=hfa.symm.trans (u2P X G a44)
 cases e
 have T:Txt K mg ⟨_,_,_,_,_,_,_,_,_,_,_,_,_,_,_,_,_,_,_,_,_,_,_,_,_,_,_,_,_,_,_,_,_,_,_,_,_,_,_,_,_,_,_,_,_,_,_,_,_,_,_,_,_,_,_,_,_,_,_,_,_,_,_,_,_,_,_,_,_,_,_,_,_,_,_,_,_,_,_,_,_,_,_,_,_,_,_,_,_,_,tk0,tk1,tk2⟩:=⟨
  mkD X G a0 l0 c0 k0 (bn1 λ_ _ _ _ _ _ _=>rfl),
  mkD X G a1 l1 c1 k1 (bn3 λ_ _ _ _ _ _ _ _ _=>rfl),
  mkD X G a2 l2 c2 k2 (bn3 λ_ _ _ _ _ _ _ _ _=>rfl),
  mkD X G a3 l3 c3 k3 (bn1 λ_ _ _ _ _ _ _=>rfl),
  mkD X G a4 l4 c4 k4 (bn2 λ_ _ _ _ _ _ _ _=>rfl),
  mkD X G a5 l5 c5 k5 (bn2 λ_ _ _ _ _ _ _ _=>rfl),
  mkD X G a6 l6 c6 k6 (bn2 λ_ _ _ _ _ _ _ _=>rfl),
  mkD X G a7 l7 c7 k7 (bn2 λ_ _ _ _ _ _ _ _=>rfl),
  mkD X G a8 l8 c8 k8 (bn1 λ_ _ _ _ _ _ _=>rfl),
  mkD X G a9 l9 c9 k9 (bn1 λ_ _ _ _ _ _ _=>rfl),
  mkD X G a10 l10 c10 k10 (bn2 λ_ _ _ _ _ _ _ _=>rfl),
  mkD X G a11 l11 c11 k11 (bn2 λ_ _ _ _ _ _ _ _=>rfl),
  mkD X G a12 l12 c12 k12 (bn2 λ_ _ _ _ _ _ _ _=>rfl),
  mkD X G a13 l13 c13 k13 (bn2 λ_ _ _ _ _ _ _ _=>rfl),
  mkD X G a14 l14 c14 k14 (bn2 λ_ _ _ _ _ _ _ _=>rfl),
  mkD X G a15 l15 c15 k15 (bn2 λ_ _ _ _ _ _ _ _=>rfl),
  mkD X G a16 l16 c16 k16 (bn3 λ_ _ _ _ _ _ _ _ _=>rfl),
  mkD X G a17 l17 c17 k17 (bn5 λ_ _ _ _ _ _ _ _ _ _ _=>rfl),
  mkD X G a18 l18 c18 k18 (bn2 λ_ _ _ _ _ _ _ _=>rfl),
  mkD X G a19 l19 c19 k19 (bn2 λ_ _ _ _ _ _ _ _=>rfl),
  mkD X G a20 l20 c20 k20 (bn2 λ_ _ _ _ _ _ _ _=>rfl),
  mkD X G a21 l21 c21 k21 (bn1 λ_ _ _ _ _ _ _=>rfl),
  mkD X G a22 l22 c22 k22 (bn2 λ_ _ _ _ _ _ _ _=>rfl),
  mkD X G a23 l23 c23 k23 (bn2 λ_ _ _ _ _ _ _ _=>rfl),
  mkD X G a24 l24 c24 k24 (bn3 λ_ _ _ _ _ _ _ _ _=>rfl),
  mkD X G a25 l25 c25 k25 (bn2 λ_ _ _ _ _ _ _ _=>rfl),
  mkD X G a26 l26 c26 k26 (bn1 λ_ _ _ _ _ _ _=>rfl),
  mkD X G a27 l27 c27 k27 (bn1 λ_ _ _ _ _ _ _=>rfl),
  mkD X G a28 l28 c28 k28 (bn2 λ_ _ _ _ _ _ _ _=>rfl),
  mkD X G a29 l29 c29 k29 (bn3 λ_ _ _ _ _ _ _ _ _=>rfl),
  mkD X G a30 l30 c30 k30 (bn2 λ_ _ _ _ _ _ _ _=>rfl),
  mkD X G a31 l31 c31 k31 (bn2 λ_ _ _ _ _ _ _ _=>rfl),
  mkD X G a32 l32 c32 k32 (bn2 λ_ _ _ _ _ _ _ _=>rfl),
  mkD X G a33 l33 c33 k33 (bn1 λ_ _ _ _ _ _ _=>rfl),
  mkD X G a34 l34 c34 k34 (bn2 λ_ _ _ _ _ _ _ _=>rfl),
  mkD X G a35 l35 c35 k35 (bn2 λ_ _ _ _ _ _ _ _=>rfl),
  mkD X G a36 l36 c36 k36 (bn3 λ_ _ _ _ _ _ _ _ _=>rfl),
  mkD X G a37 l37 c37 k37 (bn2 λ_ _ _ _ _ _ _ _=>rfl),
  mkD X G a38 l38 c38 k38 (bn2 λ_ _ _ _ _ _ _ _=>rfl),
  mkD X G a39 l39 c39 k39 (bn1 λ_ _ _ _ _ _ _=>rfl),
  mkD X G a40 l40 c40 k40 (bn2 λ_ _ _ _ _ _ _ _=>rfl),
  mkD X G a41 l41 c41 k41 (bn3 λ_ _ _ _ _ _ _ _ _=>rfl),
  mkD X G a42 l42 c42 k42 (bn1 λ_ _ _ _ _ _ _=>rfl),
  mkD X G a43 l43 c43 k43 (bn3 λ_ _ _ _ _ _ _ _ _=>rfl),
  mkD X G a44 l44 c44 k44 (bn1 λ_ _ _ _ _ _ _=>rfl),
  u2P X G gg0,
  u2P X G gg1,
  u2P X G gg2,
  e9 X G z0,
  e9 X G z1,
  e9 X G z2,
  e9 X G z3,
  e9 X G z4,
  e9 X G z5,
  e9 X G z6,
  e9 X G z7,
  e9 X G z8,
  e9 X G z9,
  e9 X G z10,
  e9 X G z11,
  e9 X G z12,
  e9 X G z13,
  e9 X G z14,
  e9 X G z15,
  e9 X G z16⟩
 exact⟨_,λs v=>.of_eq rfl,λbase _ _=>zoa T⟩
theorem walk {l:W.OpenLaw}{q:Program}{loose:List Str}{XP:(Str->Option Value)->Heap->Prop}{YP:World->Heap->Prop}{d:DefRec}{K:Params->W.Frag}(hn:l.most=some 63)(hdf:d.params.defaults=[])
 (hY:∀ (w:World) (h:Heap),YP w h->(K w.params).In h)
 (F:∀ (w:World) (mg:Str->Option Value) (fa:Addr) (h:Heap),(K w.params).In h->h.Ns mainGlobals mg->mg d.name=some (.ref fa) ->
  ∃ fd:FuncData,(∀ (s:Shared) (u:Value),BindsTo s fd ⟨[u],[]⟩ [("script",u)])/\∀ base:Heap,(K w.params).In base->base.Ns mainGlobals mg->xc l.prog w (K w.params) mg base CX0 20 fa fd ["script"] (ziD (K w.params))) :
 PySem.W.WalkO q loose XP YP l.row.toRowW d [] (λf vs=>PySem.call f vs) :=
 L2.walk_of (n:=63) (k:=20) (x:="script") (CX:=λ_=>CX0) (sp:=λw=>ziD (K w.params)) hn (by decide) hdf ⟨rfl,by decide,by decide⟩ hY F (λ_ _ a ns hl _ hS=>⟨a,ns,rfl,hS,hl,λ_=>rfl⟩) λ_ _ _ _ _ z=>z
end Mz
open PySem PySem.W PyProof.Rows
theorem PySem.W.Fast.tw18307434739641422232:True:=⟨⟩
theorem PySem.W.Fast.tw14623290509219043868:True:=⟨⟩
theorem PySem.W.Fast.tw2769209264859730027:True:=⟨⟩
theorem PySem.W.Fast.tw9359936107406897801:True:=⟨⟩
theorem PySem.W.Fast.tw2483629108641843679:True:=⟨⟩
theorem PySem.W.Fast.tw10929323952055396776:True:=⟨⟩
theorem PySem.W.Fast.tw7657115297480715174:True:=⟨⟩
theorem PySem.W.Fast.tw17320490242392209484:True:=⟨⟩
theorem PySem.W.Fast.tw12661608420148187841:True:=⟨⟩
theorem PySem.W.Fast.tw10938111367696331439:True:=⟨⟩
theorem PySem.W.Fast.tw3804403336899691422:True:=⟨⟩
theorem PySem.W.Fast.tw986606288054641138:True:=⟨⟩
theorem PySem.W.Fast.tw11837225900435456811:True:=⟨⟩
theorem PySem.W.Fast.tw12603410162806213751:True:=⟨⟩
theorem PySem.W.Fast.tw9698536113693895763:True:=⟨⟩
theorem PySem.W.Fast.tw1320008592381723970:True:=⟨⟩
theorem PySem.W.Fast.tw17325679523627154864:True:=⟨⟩
theorem PySem.W.Fast.tw8596016466235803989:True:=⟨⟩
theorem PySem.W.Fast.tw4486098006746384143:True:=⟨⟩
theorem PySem.W.Fast.tw12392002975212462937:True:=⟨⟩
theorem PySem.W.Fast.tw60318453343813727:True:=⟨⟩
theorem PySem.W.Fast.tw2434193455666275241:True:=⟨⟩
theorem PySem.W.Fast.tw1369628974732710316:True:=⟨⟩
theorem PySem.W.Fast.tw9232918915234643167:True:=⟨⟩
theorem PySem.W.Fast.tw8244103667541798719:True:=⟨⟩
theorem PySem.W.Fast.tw16121986174475613908:True:=⟨⟩
set_option maxRecDepth 100000 in
set_option maxHeartbeats 0 in
theorem PySem.Challenge.cw_twoforone_k19_whole_rows_and_tallies_holds : PySem.Challenge.rw_twoforone_k19_whole_rows_and_tallies.Holds := by
  w_on;o_law;k_head;(case hw=>w_witness2)
  k_fill
  refine Mz.walk (l:=PySem.Challenge.rw_twoforone_k19_whole_rows_and_tallies) rfl rfl (fun w h Y=>PySem.W.kIn_of Y) ?F
  case F =>
    intro w mg fa h KX G hmg
    refine' Mz.all_mk KX G hmg ?a0 ?l0 ?c0 ?k0 ?a1 ?l1 ?c1 ?k1 ?a2 ?l2 ?c2 ?k2 ?a3 ?l3 ?c3 ?k3 ?a4 ?l4 ?c4 ?k4 ?a5 ?l5 ?c5 ?k5 ?a6 ?l6 ?c6 ?k6 ?a7 ?l7 ?c7 ?k7 ?a8 ?l8 ?c8 ?k8 ?a9 ?l9 ?c9 ?k9 ?a10 ?l10 ?c10 ?k10 ?a11 ?l11 ?c11 ?k11 ?a12 ?l12 ?c12 ?k12 ?a13 ?l13 ?c13 ?k13 ?a14 ?l14 ?c14 ?k14 ?a15 ?l15 ?c15 ?k15 ?a16 ?l16 ?c16 ?k16 ?a17 ?l17 ?c17 ?k17 ?a18 ?l18 ?c18 ?k18 ?a19 ?l19 ?c19 ?k19 ?a20 ?l20 ?c20 ?k20 ?a21 ?l21 ?c21 ?k21 ?a22 ?l22 ?c22 ?k22 ?a23 ?l23 ?c23 ?k23 ?a24 ?l24 ?c24 ?k24 ?a25 ?l25 ?c25 ?k25 ?a26 ?l26 ?c26 ?k26 ?a27 ?l27 ?c27 ?k27 ?a28 ?l28 ?c28 ?k28 ?a29 ?l29 ?c29 ?k29 ?a30 ?l30 ?c30 ?k30 ?a31 ?l31 ?c31 ?k31 ?a32 ?l32 ?c32 ?k32 ?a33 ?l33 ?c33 ?k33 ?a34 ?l34 ?c34 ?k34 ?a35 ?l35 ?c35 ?k35 ?a36 ?l36 ?c36 ?k36 ?a37 ?l37 ?c37 ?k37 ?a38 ?l38 ?c38 ?k38 ?a39 ?l39 ?c39 ?k39 ?a40 ?l40 ?c40 ?k40 ?a41 ?l41 ?c41 ?k41 ?a42 ?l42 ?c42 ?k42 ?a43 ?l43 ?c43 ?k43 ?a44 ?l44 ?c44 ?k44 ?gg0 ?gg1 ?gg2 ?z0 ?z1 ?z2 ?z3 ?z4 ?z5 ?z6 ?z7 ?z8 ?z9 ?z10 ?z11 ?z12 ?z13 ?z14 ?z15 ?z16
    case a0 | l0 | c0 | k0 | a1 | l1 | c1 | k1 | a2 | l2 | c2 | k2 | a3 | l3 | c3 | k3 | a4 | l4 | c4 | k4 | a5 | l5 | c5 | k5 | a6 | l6 | c6 | k6 | a7 | l7 | c7 | k7 | a8 | l8 | c8 | k8 | a9 | l9 | c9 | k9 | a10 | l10 | c10 | k10 | a11 | l11 | c11 | k11 | a12 | l12 | c12 | k12 | a13 | l13 | c13 | k13 | a14 | l14 | c14 | k14 | a15 | l15 | c15 | k15 | a16 | l16 | c16 | k16 | a17 | l17 | c17 | k17 | a18 | l18 | c18 | k18 | a19 | l19 | c19 | k19 | a20 | l20 | c20 | k20 | a21 | l21 | c21 | k21 | a22 | l22 | c22 | k22 | a23 | l23 | c23 | k23 | a24 | l24 | c24 | k24 | a25 | l25 | c25 | k25 | a26 | l26 | c26 | k26 | a27 | l27 | c27 | k27 | a28 | l28 | c28 | k28 | a29 | l29 | c29 | k29 | a30 | l30 | c30 | k30 | a31 | l31 | c31 | k31 | a32 | l32 | c32 | k32 | a33 | l33 | c33 | k33 | a34 | l34 | c34 | k34 | a35 | l35 | c35 | k35 | a36 | l36 | c36 | k36 | a37 | l37 | c37 | k37 | a38 | l38 | c38 | k38 | a39 | l39 | c39 | k39 | a40 | l40 | c40 | k40 | a41 | l41 | c41 | k41 | a42 | l42 | c42 | k42 | a43 | l43 | c43 | k43 | a44 | l44 | c44 | k44 | gg0 | gg1 | gg2 | z0 | z1 | z2 | z3 | z4 | z5 | z6 | z7 | z8 | z9 | z10 | z11 | z12 | z13 | z14 | z15 | z16=>k_is
