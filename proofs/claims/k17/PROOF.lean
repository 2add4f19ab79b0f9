import PyProof.Rows.All
import Wide.All
import OpenK.AllK
import Wide.FinOn
import Lean
import PyProof.EqAt
import PyProof.EqKinds
import PyProof.TupleCall
import PyProof.NeKinds
import PySem.Challenge.RW_twoforone_k17_whole_leaned
set_option Elab.async false
set_option linter.all false
set_option maxRecDepth 100000
set_option maxHeartbeats 4000000
def u0v:=@PySem.Around.under_plainId
def u0p:=@Array.getElem?_eq_getElem
def u2H:=@Array.getElem?_eq_none
def u2h:=@Array.getElem?_eq_some_iff
def u0V:=@Array.getElem?_toList
def t9:=@Array.length_toList
def u3p:=@Array.perm_iff_toList_perm
def u4n:=@Array.size_map
def g9:=@Bool.and_eq_true
def u1Z:=@Bool.and_false
def u3P:=@Bool.and_true
def u2J:=@Bool.eq_false_iff
def u1u:=@Bool.eq_iff_iff
def u1e:=@Bool.false_eq_true
def u8:=@Bool.false_ne_true
def u3A:=@Bool.not_false
def u1I:=@Bool.or_eq_true
def u3Q:=@Bool.or_false
def u1E:=@PySem.Calls.call_function_entry
def u10:=@PySem.Calls.spliced_cons
def u2d:=@PySem.Calls.spliced_nil
def u0W:=@PySem.F.called_set
def u3E:=@PySem.F.entry_list_iadd
def u2V:=@PySem.F.entry_proto_collect
def u3e:=@PySem.F.plain_extend_loop
def u1J:=@PySem.F.plain_list_iadd
def u2W:=@PySem.F.plain_proto_collect
def u3f:=@PySem.F.slot_set_iter
def u1A:=@PySem.F.slot_tuple_iterator_next
def u3g:=@PySem.F.slot_zip_next
def u06:=@PySem.Heap.SameBut.update
def u3:=@PySem.Heap.get?_push_of_some
def t6:=@PySem.Heap.get?_push_size
def p8:=@PySem.Heap.get?_update_other
def b6:=@PySem.Heap.get?_update_self
def t4:=@PySem.Heap.lt_size
def u0w:=@PySem.Heap.size_push
def u3t:=@Int.emod_lt_of_pos
def u3h:=@Int.emod_nonneg
def u3r:=@Int.fdiv_eq_ediv_of_nonneg
def u4q:=@Int.le_refl
def u2t:=@Int.mul_add
def u1v:=@Int.natCast_add
def u11:=@Int.natCast_nonneg
def u3R:=@Int.ofNat.inj
def i5:=@Int.toNat_natCast
def u2K:=@PyProof.Rows.KeyOrd.kle_of_klt
def u1w:=@PyProof.Rows.KeyOrd.kle_refl
def u20:=@PyProof.Rows.KeyOrd.kle_trans
def u1K:=@List.Perm.eq_of_pairwise
def u1k:=@List.Perm.refl
def u3F:=@List.Sublist.refl
def u26:=@List.all_cons
def u0k:=@List.all_eq_true
def u1R:=@List.all_map
def u27:=@List.any_cons
def u3V:=@List.any_eq_true
def u4c:=@List.any_map
def u3G:=@List.append_assoc
def u1L:=@List.append_nil
def u1l:=@List.drop_eq_getElem_cons
def u3W:=@List.drop_length
def u4o:=@List.drop_zero
def u2X:=@List.eq_nil_iff_forall_not_mem
def u2p:=@List.ext_getElem
def u1t:=@List.ext_getElem?
def u3i:=@List.filterMap_cons
def u3H:=@List.filterMap_cons_none
def u3I:=@List.filterMap_cons_some
def u0Z:=@List.filter_cons_of_neg
def u0y:=@List.filter_cons_of_pos
def u16:=@List.find?_cons
def u1F:=@List.findIdx?_eq_none_iff
def u2z:=@List.findIdx?_eq_some_iff_getElem
def u1M:=@List.flatten_cons
def u3j:=@List.forIn_cons
def u2T:=@List.forIn_nil
def u02:=@List.getD_eq_getElem?_getD
def u0l:=@List.getElem?_append_left
def u0j:=@List.getElem?_append_right
def u12:=@List.getElem?_drop
def j6:=@List.getElem?_eq_getElem
def u0g:=@List.getElem?_eq_none
def u9:=@List.getElem?_eq_some_iff
def j4:=@List.getElem?_map
def u1V:=@List.getElem?_range
def u1q:=@List.getElem?_replicate
def u1N:=@List.getElem?_set
def d7:=@List.getElem?_set_ne
def u0B:=@List.getElem?_set_self
def u3J:=@List.getElem?_take_of_lt
def u1m:=@List.getElem?_zip_eq_some
def u3X:=@List.getElem_map
def u0x:=@List.getElem_mem
def u07:=@List.getElem_of_mem
def u13:=@List.getElem_range
def u3B:=@List.getLast?_eq_getElem?
def d6:=@List.length_append
def i4:=@List.length_cons
def u0h:=@List.length_drop
def u1f:=@List.length_eq_zero_iff
def u1b:=@List.length_filter_le
def u6:=@List.length_map
def u4d:=@List.length_nil
def u3k:=@List.length_pos_iff
def u0r:=@List.length_range
def u2Y:=@List.length_replicate
def u2A:=@List.length_set
def u17:=@List.length_singleton
def u05:=@List.length_take
def i6:=@List.map_append
def u0H:=@List.map_congr_left
def i8:=@List.map_cons
def u4r:=@List.map_id
def e9:=@List.map_map
def u0X:=@List.mem_append
def p7:=@List.mem_append_right
def j5:=@List.mem_cons
def d9:=@List.mem_cons_of_mem
def o0:=@List.mem_cons_self
def u0c:=@List.mem_filter
def u22:=@List.mem_iff_getElem
def b0:=@List.mem_map
def u0I:=@List.mem_map_of_mem
def d8:=@List.mem_of_getElem?
def u1s:=@List.mem_range
def j8:=@List.mem_singleton
def u3l:=@List.mergeSort_perm
def u2e:=@List.nodup_append
def u0z:=@List.nodup_cons
def u1G:=@List.nodup_nil
def u0i:=@List.not_mem_nil
def u4e:=@List.of_mem_zip
def u1g:=@List.pairwise_cons
def u03:=@List.pairwise_iff_getElem
def u0Q:=@List.pairwise_map
def u2B:=@List.pairwise_mergeSort
def u4f:=@List.range_succ
def u08:=@List.replicate_succ
def q5:=@List.size_toArray
def u3K:=@List.sublist_append_left
def u2f:=@List.take_add_one
def u18:=@List.take_append_drop
def u1Y:=@List.take_length
def u1h:=@List.take_of_length_le
def u2L:=@List.take_sublist
def u3Y:=@List.zipIdx_cons
def u3u:=@List.zip_cons_cons
def u1W:=@Nat.add_le_add_left
def u0C:=@Nat.le_add_right
def u3m:=@Nat.le_antisymm
def u0R:=@Nat.le_of_lt
def u00:=@Nat.le_of_lt_succ
def u0s:=@Nat.le_of_not_lt
def t5:=@Nat.le_refl
def u2i:=@Nat.le_sub_one_of_lt
def u1x:=@Nat.le_succ
def b9:=@Nat.le_trans
def u0J:=@Nat.lt_irrefl
def u0d:=@Nat.lt_of_le_of_lt
def u2C:=@Nat.lt_of_le_of_ne
def r8:=@Nat.lt_of_lt_of_le
def u2M:=@Nat.lt_of_succ_lt
def u01:=@Nat.lt_succ_of_lt
def u2q:=@Nat.lt_succ_self
def u4g:=@Nat.lt_trans
def u1y:=@Nat.min_eq_left
def u3Z:=@Nat.min_eq_right
def u30:=@Nat.min_le_right
def u4h:=@Nat.min_self
def u1S:=@Nat.ne_of_gt
def j9:=@Nat.ne_of_lt
def u4A:=@Nat.not_lt
def u4i:=@Nat.not_lt_zero
def u2N:=@Nat.one_shiftLeft
def u23:=@Nat.sub_le_sub_right
def u2r:=@Nat.succ_le_succ
def u31:=@Nat.succ_ne_self
def u3C:=@Nat.testBit_or
def u2u:=@Nat.testBit_two_pow
def u19:=@Nat.testBit_two_pow_sub_one
def u0u:=@Nat.zero_add
def u0D:=@Nat.zero_le
def u3L:=@Nat.zero_lt_of_lt
def u2s:=@Nat.zero_testBit
def u0M:=@Ne.symm
def u2D:=@PySem.Obj.data_mapFields
def u4:=@Option.bind_eq_some_iff
def i7:=@Option.bind_some
def u1o:=@Option.isSome_iff_exists
def u7:=@Option.map_eq_some_iff
def p9:=@Option.some.inj
def u28:=@PySem.Paired.length
def u0e:=@PySem.PassesOwn.never
def u2E:=@Prod.ext
def u04:=@PyProof.Rows.F.entry_set_update_loop
def u0q:=@PyProof.Rows.F.plain_set_update_loop
def u2a:=@PyProof.Rows.args_list_sort
def u2j:=@PyProof.Rows.args_sorted1
def u1T:=@PyProof.Rows.callWith_builtin1
def u0E:=@PyProof.Rows.callWith_type1
def u14:=@PyProof.Rows.entry_list_sort
def u2k:=@PyProof.Rows.entry_sorted
def u2w:=@PyProof.Rows.kind_sorted
def u2l:=@PyProof.Rows.plain_sorted
def u2b:=@PyProof.Rows.slot_list_sort
def u0F:=@PyProof.Rows.slot_tuple_getitem
def u2m:=@PySem.F.args_dict_keyiterator_next_1
def u2x:=@PySem.F.args_tuple_add_2
def u2v:=@PySem.F.entry_dict_keyiterator_next
def u2F:=@PySem.F.entry_tuple_add
def u0m:=@PySem.F.plainAttrs_list
def u0P:=@PySem.F.slot_dict_keyiterator_next
def u0T:=@PySem.F.slot_list_append
def u1X:=@PySem.F.slot_list_index
def u2I:=@PySem.F.slot_tuple_add
def u0U:=@PySem.F.type_list_append
def u2G:=@PySem.F.type_list_index
def u0N:=@PySem.W.kia_one
def u2O:=@PySem.W.kitx_dict
def u0f:=@PySem.W.mg_none_of
def u3S:=@PySem.W.mg_of
def u0A:=@PySem.mem_of_lookup
def u3v:=@PySem.SeqAt.EqAt.int_int
def u3w:=@PySem.SeqAt.EqAt.of_refs
def u0Y:=@beq_eq_false_iff_ne
def u4j:=@beq_false_of_ne
def u3b:=@beq_iff_eq
def u0o:=@beq_self_eq_true
def u3M:=@PySem.call_meets
def u0O:=@PySem.codeAny_builtin
def u24:=@PySem.codeAny_extend_loopS
def u2y:=@PySem.codeAny_mono
def u1d:=@congrArg
def p6:=@decide_eq_false
def u0K:=@decide_eq_false_iff_not
def r9:=@decide_eq_true
def d5:=@decide_eq_true_eq
def u29:=@if_false
def j7:=@if_neg
def t7:=@if_pos
def u21:=@if_true
def u3c:=@PySem.intKind_is
def u2U:=@PySem.isSubtype_stop
def u2P:=@not_false_eq_true
def u4p:=@not_or
def u3x:=@of_decide_eq_false
def r6:=@of_decide_eq_true
def u15:=@or_false
def u3y:=@PyProof.Rows.pairsOf_size
def u1D:=@PySem.plainId_quiet
def u1i:=@PySem.sizeLine_eq
def u3z:=@PySem.wpAny_Call_Name_kw
def u0t:=@PySem.wpAny_askSetting
def u1r:=@PySem.wpAny_attempt
def u0:=@PySem.wpAny_bind
def u0b:=@PySem.wpAny_callSpecial?_slot
def u0a:=@PySem.wpAny_call_entry
def u3O:=@PySem.wpAny_dictEntries
def u3n:=@PySem.wpAny_execs_nil
def u09:=@PySem.wpAny_field
def u2n:=@PySem.wpAny_fieldsOf
def u3T:=@PySem.wpAny_handled
def u0n:=@PySem.wpAny_holding
def u1B:=@PySem.wpAny_isInstance
def u1z:=@PySem.wpAny_loadPart'
def u1C:=@PySem.wpAny_mono
def u3a:=@PySem.wpAny_newList
def i9:=@PySem.wpAny_newObj_type
def u1a:=@PySem.wpAny_of_eq
def u1O:=@PySem.wpAny_passesOwn
def u5:=@PySem.wpAny_pure
def u2Q:=@PySem.wpAny_pyIter_enum
def u1j:=@PySem.wpAny_pyIter_list
def u2R:=@PySem.wpAny_pyIter_slot
def u0S:=@PySem.wpAny_pyIter_tuple
def u1P:=@PySem.wpAny_rule
def u2o:=@PySem.wpAny_runValue
def u1H:=@PySem.wpAny_seqItems
def u3D:=@PySem.wpAny_setField
def u0G:=@PySem.wpAny_setField_rec
def u2g:=@PySem.wpAny_setState_of
def u3o:=@PySem.wpAny_specialOf
def u2S:=@PySem.wpAny_storeSet_of
def u1c:=@PySem.wpAny_truthy_bool
def u1p:=@PySem.wpAny_typeNameOfWhole_keyiter
def u1Q:=@PySem.wpAny_typeNameOf_keyiter
def u1U:=@PySem.wpAny_typeOf
def u2c:=@PySem.wpAny_updateSeq
def u0L:=@PyProof.Rows.wpS_bind
def u2Z:=@PyProof.Rows.wpS_forRange
def u1n:=@PyProof.Rows.wpS_pure
namespace L2
open PySem PySem.Spec PyProof.Rows
abbrev Key:=Sum Int Str
def zdu:Key->Value->Bool
 | .inl k,v=>Value.isInt k v
 | .inr x,v=>Value.isStrOf x v
def keyH (w:World):Key->Int
 | .inl k=>hashInt k
 | .inr x=>hashStr w x
theorem zX:∀ {k:Key} {v:Value},zdu k v=true->(∃ i t,k=Sum.inl i/\v=Value.int i t)\/(∃ x t,k=Sum.inr x/\v=Value.str x t)
 | .inl i,v,h=>by
  obtain⟨t,e⟩:=Value.isInt_shape (k:=i) (v:=v) h
  exact .inl ⟨i,t,rfl,e⟩
 | .inr x,v,h=>by
  obtain⟨t,e⟩:=Value.isStrOf_shape (x:=x) (v:=v) h
  exact .inr ⟨x,t,rfl,e⟩
theorem zfn (i:Int)(t:Tok):zdu (.inl i) (.int i t)=true:=by simp[zdu,Value.isInt]
theorem ze1 (x:Str)(t:Tok):zdu (.inr x) (.str x t)=true:=by simp[zdu,Value.isStrOf]
theorem zkE (a b:Int):decide ((Sum.inl a:Key)=Sum.inl b)=(a == b):=by
 by_cases e:a=b
 .subst e;simp
 .have h:¬ (Sum.inl a:Key)=Sum.inl b:=λq=>e (Sum.inl.inj q)
  rw[p6 h]
  exact(u0Y.mpr e).symm
theorem zkU (a b:Str):decide ((Sum.inr a:Key)=Sum.inr b)=decide (a=b):=by
 by_cases e:a=b
 .subst e;simp
 .have h:¬ (Sum.inr a:Key)=Sum.inr b:=λq=>e (Sum.inr.inj q)
  rw[p6 h,p6 e]
theorem zlj (a:Int)(b:Str):decide ((Sum.inl a:Key)=Sum.inr b)=false:=p6 (λq=>nomatch q)
theorem zkl (a:Str)(b:Int):decide ((Sum.inr a:Key)=Sum.inl b)=false:=p6 (λq=>nomatch q)
def y8 (prog:Program)(w:World):PySem.KeyKind prog w Key where
 is:=zdu
 hash:=keyH w
 inj:=λv a b ha hb=>by
  rcases zX ha with ⟨i,t,rfl,rfl⟩ | ⟨x,t,rfl,rfl⟩
  .rcases zX hb with ⟨j,u,rfl,e⟩ | ⟨y,u,rfl,e⟩
   .injection e with e1 _;rw[e1]
   .exact nomatch e
  .rcases zX hb with ⟨j,u,rfl,e⟩ | ⟨y,u,rfl,e⟩
   .exact nomatch e
   .injection e with e1 _;rw[e1]
 byValue:=λk v h=>by
  rcases zX h with ⟨i,t,rfl,rfl⟩ | ⟨x,t,rfl,rfl⟩ <;> rfl
 pyHash:=λhv h=>by
  rcases zX hv with ⟨i,t,rfl,rfl⟩ | ⟨x,t,rfl,rfl⟩
  .exact wpAny_pyHash_int h
  .exact wpAny_pyHash_str h
 eqBool:=λhu hv h=>by
  rcases zX hu with ⟨i,t,rfl,rfl⟩ | ⟨x,t,rfl,rfl⟩
  .rcases zX hv with ⟨j,u,rfl,rfl⟩ | ⟨y,u,rfl,rfl⟩
   .rw[zkE]at h;exact wpAny_eqBool_int h
   .rw[zlj]at h;exact SeqAt.EqAt.int_str i t y u _ _ _ _ h
  .rcases zX hv with ⟨j,u,rfl,rfl⟩ | ⟨y,u,rfl,rfl⟩
   .rw[zkl]at h;exact SeqAt.EqAt.str_int x t j u _ _ _ _ h
   .rw[zkU]at h;exact wpAny_eqBool_str h
 «strs»:=λk x t v h=>by
  rcases zX h with ⟨i,u,rfl,e⟩ | ⟨y,u,rfl,e⟩
  .exact nomatch e
  .injection e with e1 _
   subst e1
   cases v <;> rfl
theorem zbg (prog:Program)(w:World)(i:Int)(t:Tok):(y8 prog w).is (.inl i) (.int i t)=true:=zfn i t
theorem zaZ (prog:Program)(w:World)(x:Str)(t:Tok):(y8 prog w).is (.inr x) (.str x t)=true:=ze1 x t
inductive V where
 | non | bl (b:Bool) | int (i:Int) | str (x:Str) | byt (b:Array UInt8) | flt (b:UInt64) | ref (a:Addr) | ty (n:String)
 deriving DecidableEq
def yG:V->Value->Prop
 | .non,u=>u=Value.none
 | .bl b,u=>u=Value.bool b
 | .int i,u=>∃ t,u=Value.int i t
 | .str x,u=>∃ t,u=Value.str x t
 | .byt b,u=>∃ t,u=Value.bytes b t
 | .flt b,u=>∃ t,u=Value.float b t
 | .ref a,u=>u=Value.ref a
 | .ty n,u=>u=Value.type n
abbrev yd:List V->List Value->Prop:=Paired yG
theorem yd.length {xs:List V}{us:List Value}(r:yd xs us):xs.length=us.length:=u28 r
theorem yd.get:∀ {xs:List V} {us:List Value} {i:Nat} {x:V},yd xs us->xs[i]?=some x->∃ u,us[i]?=some u/\yG x u
 | _,_,_,_,.nil,e=>by simp at e
 | _,_,0,_,.cons r _,e=>by simp at e;subst e;exact⟨_,rfl,r⟩
 | _,_,i+1,x,.cons _ t,e=>by
  obtain⟨u,h1,h2⟩:=yd.get (i:=i) (x:=x) t (by simpa using e)
  exact⟨u,by simpa using h1,h2⟩
theorem yd.set {x:V}{u:Value}(r:yG x u):∀ {xs:List V} {us:List Value} (i:Nat),yd xs us->yd (xs.set i x) (us.set i u)
 | _,_,_,.nil=>.nil
 | _,_,0,.cons _ t=>.cons r t
 | _,_,i+1,.cons q t=>.cons q (yd.set r i t)
theorem yd.append:∀ {xs ys:List V} {us ws:List Value},yd xs us->yd ys ws->yd (xs++ys) (us++ws):=by
 intro xs ys us ws h s
 induction h with
 | nil=>exact s
 | cons r t ih=>exact .cons r ih
theorem yd.take:∀ {xs:List V} {us:List Value} (n:Nat),yd xs us->yd (xs.take n) (us.take n)
 | _,_,0,_=>.nil
 | _,_,_+1,.nil=>.nil
 | _,_,n+1,.cons r t=>.cons r (yd.take n t)
theorem yd.drop:∀ {xs:List V} {us:List Value} (n:Nat),yd xs us->yd (xs.drop n) (us.drop n)
 | _,_,0,r=>r
 | _,_,_+1,.nil=>.nil
 | _,_,n+1,.cons _ t=>yd.drop n t
def zfW:Option V->Option Value->Prop
 | some v,some u=>yG v u
 | none,none=>True
 | _,_=>False
def KV {κ:Type}:List (κ × V)->List (κ × Value)->Prop:=Paired λ(p:κ × V) (q:κ × Value)=>p.1=q.1/\yG p.2 q.2
def kV:Key->V
 | .inl i=>.int i
 | .inr x=>.str x
inductive HO where
 | lst (xs:List V)
 | tup (xs:List V)
 | dK (kvs:List (Key × V)) | dT (kvs:List (List Key × V))
 | set (S:Int->Bool) (n:Nat)
 | ins (C dx:Addr) (fs:List (Str × V))
 | own (x:Addr)
 | xd (fs:List (Str × V))
 | met (f x:Addr)
 | rng (lo hi:Int)
 | frz (o:Obj) (u:HO)
 | tbl (ps:Array Value)
 | ext (φ:Heap->Prop)
abbrev Hp:=Addr->Option HO
def upd (H:Hp)(a:Addr)(o:HO):Hp:=λb=>if b=a then some o else H b
theorem zn {H:Hp}{a:Addr}{o:HO}:upd H a o a=some o:=by unfold upd;rw[t7 rfl]
theorem zm {H:Hp}{a b:Addr}{o:HO}(h:b≠a):upd H a o b=H b:=by unfold upd;rw[j7 h]
theorem zei {H:Hp}{a:Addr}{o u:HO}:upd (upd H a o) a u=upd H a u:=by
 funext b;unfold upd;split <;> rfl
theorem zkJ {H:Hp}{a b:Addr}{o u:HO}(h:H a=some o)(h':H b=some u)(d:o≠u):a≠b:=by
 intro e;subst e;rw[h]at h';exact d (p9 h')
theorem zp {H:Hp}{a b:Addr}{o:HO}(h:H a=some o)(h':H b=none):a≠b:=by
 intro e;subst e;rw[h]at h';cases h'
section
variable (P:Program)(w:World)
def yt (H:Hp)(h:Heap)(a:Addr):HO->Prop
 | .lst xs=>xs.length<=sizeLine/\∃ (its:List Value) (n:Nat),yd xs its/\h.get? a=some { cls:=.type "list",data:=.seq its.toArray n }
 | .tup xs=>xs.length<=sizeLine/\∃ its:List Value,yd xs its/\IsTup h a its.toArray
 | .dK kvs=>kvs.length<=sizeLine/\(a == sysModules)=false/\∃ vs,KV kvs vs/\h.DictOf (y8 P w) a vs
 | .dT kvs=>kvs.length<=sizeLine/\(a == sysModules)=false/\∃ xs:List (List Key × Addr × Value),
  Paired (λ(p:List Key × V) (q:List Key × Addr × Value)=>p.1=q.1/\H q.2.1=some (.tup (p.1.map kV))/\yG p.2 q.2.2) kvs xs /\
  ∃ o es ep,h.get? a=some o/\o.ExactDict/\o.data=.dict es ep/\es.toList=xs.map (entryOfKey (tupleKind (y8 P w)))/\(xs.map (·.1)).Nodup
 | .set S n=>h.SetOf (intKind P w) a S n
 | .ins C dx fs=>H dx=some (.own a)/\fs.length<=1000/\dx≠a/\h.get? a=some (W.instObj C dx) /\
  ∃ mA,h.Ns1 dx mA/\(∀ f,zfW (fs.lookup f) (mA f))/\PySem.Within mA (fs.map (·.1))
 | .own _=>∃ o,h.get? a=some o
 | .xd fs=>∃ mA,h.Ns1 a mA/\∀ f,zfW (fs.lookup f) (mA f)
 | .rng lo hi=>∃ t u v,h.get? a=some { cls:=.type "range",data:=.fields #[.int lo t,.int hi u,.int 1 v] }
 | .frz o u=>h.get? a=some o/\yt H h a u
 | .tbl ps=>h.get? a=some { cls:=.none,data:=.fields ps }
 | .met f x=>h.get? a=some (W.methodObj (.ref f) (.ref x))
 | .ext φ=>φ h/\(∃ o,h.get? a=some o)/\∀ h1 h2:Heap,φ h1->(∀ o,h1.get? a=some o->h2.get? a=some o)->φ h2
def HOk (H:Hp)(h:Heap):Prop:=∀ a o,H a=some o->yt P w H h a o
end
section
variable {P:Program}{w:World}{H H':Hp}{h h':Heap}{a:Addr}{o:HO}
theorem yt.lt (x:yt P w H h a o):a < h.objs.size:=by
 cases o with
 | lst xs=>obtain⟨_,_,_,_,e⟩:=x;exact t4 e
 | tup xs=>obtain⟨_,_,_,p⟩:=x;exact p.lt
 | dK kvs=>obtain⟨_,_,_,_,o,_,_,e,_⟩:=x;exact t4 e
 | dT kvs=>obtain⟨_,_,_,_,o,_,_,e,_⟩:=x;exact t4 e
 | set S n=>obtain⟨o,_,_,_,e,_⟩:=x;exact t4 e
 | ins C dx fs=>obtain⟨_,_,_,e,_⟩:=x;exact t4 e
 | own y=>obtain⟨_,e⟩:=x;exact t4 e
 | xd fs=>obtain⟨_,⟨_,_,_,e,_⟩,_⟩:=x;exact t4 e
 | rng lo hi=>obtain⟨_,_,_,e⟩:=x;exact t4 e
 | frz ob u=>obtain⟨e,_⟩:=x;exact t4 e
 | tbl ps=>exact t4 (show h.get? a=some _ from x)
 | met f y=>exact t4 (show h.get? a=some _ from x)
 | ext φ=>obtain⟨_,⟨_,e⟩,_⟩:=x;exact t4 e
theorem Paired.mapP {α β:Type}{F G:α->β->Prop}:∀ {l₁:List α} {l₂:List β},Paired F l₁ l₂->(∀ a b,F a b->G a b)->Paired G l₁ l₂:=by
 intro l1 l2 h f
 induction h with
 | nil=>exact .nil
 | cons r t ih=>exact .cons (f _ _ r) ih
theorem yt.stay (x:yt P w H h a o)(k:∀ b u,(b=a\/H b=some (.own a))->h.get? b=some u->h'.get? b=some u)
 (ho:∀ b,H b=some (.own a)->H' b=some (.own a)) (ht:∀ b xs,H b=some (.tup xs)->H' b=some (.tup xs)):yt P w H' h' a o:=by
 induction o with
 | lst xs=>obtain⟨z,its,n,r,e⟩:=x;exact⟨z,its,n,r,k _ _ (.inl rfl) e⟩
 | tup xs=>obtain⟨z,its,r,ob,e,c⟩:=x;exact⟨z,its,r,ob,k _ _ (.inl rfl) e,c⟩
 | dK kvs=>obtain⟨z,y,vs,r,ob,es,ep,e,c⟩:=x;exact⟨z,y,vs,r,ob,es,ep,k _ _ (.inl rfl) e,c⟩
 | dT kvs =>
  obtain⟨z,y,xs,r,ob,es,ep,e,c⟩:=x
  exact⟨z,y,xs,Paired.mapP r λp q z=>⟨z.1,ht _ _ z.2.1,z.2.2⟩,ob,es,ep,k _ _ (.inl rfl) e,c⟩
 | set S n=>obtain⟨ob,es,ep,t,e,c⟩:=x;exact⟨ob,es,ep,t,k _ _ (.inl rfl) e,c⟩
 | ins C dx fs =>
  obtain⟨d,z,ne,e,mA,⟨od,es,ep,e2,c⟩,r⟩:=x
  exact⟨ho _ d,z,ne,k _ _ (.inl rfl) e,mA,⟨od,es,ep,k _ _ (.inr d) e2,c⟩,r⟩
 | own y=>obtain⟨ob,e⟩:=x;exact⟨ob,k _ _ (.inl rfl) e⟩
 | xd fs=>obtain⟨mA,⟨od,es,ep,e,c⟩,r⟩:=x;exact⟨mA,⟨od,es,ep,k _ _ (.inl rfl) e,c⟩,r⟩
 | rng lo hi=>obtain⟨t,u,v,e⟩:=x;exact⟨t,u,v,k _ _ (.inl rfl) e⟩
 | frz ob u ih=>obtain⟨e,q⟩:=x;exact⟨k _ _ (.inl rfl) e,ih q⟩
 | tbl ps =>
  have e:h.get? a=some { cls:=.none,data:=.fields ps }:=x
  show h'.get? a=some { cls:=.none,data:=.fields ps }
  exact k a _ (.inl rfl) e
 | met f y =>
  have e:h.get? a=some (W.methodObj (.ref f) (.ref y)):=x
  show h'.get? a=some (W.methodObj (.ref f) (.ref y))
  exact k a _ (.inl rfl) e
 | ext φ=>obtain⟨p,⟨o,e⟩,st⟩:=x;exact⟨st _ _ p λo q=>k _ _ (.inl rfl) q,⟨o,k _ _ (.inl rfl) e⟩,st⟩
theorem HOk.lt (x:HOk P w H h)(e:H a=some o):a < h.objs.size:=(x a o e).lt
theorem HOk.fresh (x:HOk P w H h)(e:h.objs.size<=a):H a=none:=by
 cases q:H a with
 | none=>rfl
 | some u=>exact absurd (r8 (x.lt q) e) (u0J _)
theorem HOk.kept (x:HOk P w H h)(k:∀ b u,h.get? b=some u->h'.get? b=some u):HOk P w H h':=λa o e =>
 (x a o e).stay (λb u _ q=>k b u q) (λ_ q=>q) λ_ _ q=>q
theorem HOk.laid (x:HOk P w H h)(k:∀ b u,h.get? b=some u->h'.get? b=some u)(hp:h.objs.size<=a)(new:yt P w (upd H a o) h' a o):HOk P w (upd H a o) h':=λb u e=>by
 have hn:=x.fresh hp
 by_cases hb:b=a
 .subst hb;rw[zn]at e;cases e;exact new
 .rw[zm hb]at e
  exact(x b u e).stay (λc v _ q=>k c v q) (λc q=>by rw[zm (zp q hn)];exact q) λc xs q=>by rw[zm (zp q hn)];exact q
end
def Rd (H:Hp)(a:Addr)(u:HO):Prop:=H a=some u\/∃ o,H a=some (.frz o u)
theorem Rd.ok {P:Program}{w:World}{H:Hp}{h:Heap}{a:Addr}{u:HO}(r:Rd H a u)(x:HOk P w H h):yt P w H h a u:=by
 rcases r with r | ⟨o,r⟩
 .exact x a u r
 .obtain⟨_,q⟩:=x a _ r
  exact q
def Mut:Option HO->Prop
 | some (.lst _)=>True
 | some (.dK _)=>True
 | some (.dT _)=>True
 | some (.set _ _)=>True
 | some (.ins _ _ _)=>True
 | some (.ext _)=>True
 | _=>False
section
variable {P:Program}{w:World}{H:Hp}{h h':Heap}{x e:Addr}{o':HO}
theorem HOk.write (ok:HOk P w H h)(mu:Mut (H x))(he:e=x\/H e=some (.own x))(k:∀ b u,b≠e->h.get? b=some u->h'.get? b=some u)(heo:∃ u,h'.get? e=some u)
 (new:yt P w (upd H x o') h' x o'):HOk P w (upd H x o') h':=λb u q=>by
 have nown:∀ c y,H c=some (.own y)->c≠x:=λc y r z=>by subst z;rw[r]at mu;exact mu
 have ntup:∀ c xs,H c=some (.tup xs)->c≠x:=λc xs r z=>by subst z;rw[r]at mu;exact mu
 by_cases hb:b=x
 .subst hb;rw[zn]at q;cases q;exact new
 .rw[zm hb]at q
  by_cases hbe:b=e
  .have q':H b=some (.own x):=by
    rcases he with z | z
    .exact absurd (hbe.trans z) hb
    .rw[hbe];exact z
   rw[q]at q';cases q'
   obtain⟨v,hv⟩:=heo
   exact⟨v,by rw[hbe];exact hv⟩
  .refine(ok b u q).stay (λc v hc r=>k c v ?_ r) (λc r=>by rw[zm (nown c b r)];exact r) λc xs r=>by rw[zm (ntup c xs r)];exact r
   rcases hc with rfl | hc
   .exact hbe
   .rintro rfl
    rcases he with z | z
    .exact nown c b hc z
    .rw[hc]at z;cases z;exact hb rfl
end
structure Un (fs ex:List Addr) (H H':Hp) (h h':Heap):Prop where
 keep:∀ b o,h.get? b=some o->H b=none->b∉fs->b∉ex->h'.get? b=some o
 slot:∀ b o,h.get? b=some o->H b=none->b∈fs->b∉ex->∃ sl,h'.get? b=some { o with slots:=sl }
 free:∀ b o,h.get? b=some o->H b=none->b∉ex->H' b=none
 there:∀ b o,h.get? b=some o->b∉ex->∃ o',h'.get? b=some o'
 tups:∀ b xs,H b=some (.tup xs)->H' b=some (.tup xs)
 frzs:∀ b o u,H b=some (.frz o u)->H' b=some (.frz o u)
 tbls:∀ b ps,H b=some (.tbl ps)->∃ more,H' b=some (.tbl (ps++more))
section
variable {fs fs' ex ex':List Addr}{H H1 H2:Hp}{h h1 h2 h':Heap}{a x e:Addr}{o:HO}
theorem Un.any (u:Un fs ex H H1 h h1){b:Addr}{ob:Obj}(q:h.get? b=some ob)(n:H b=none)(hx:b∉ex):∃ sl,h1.get? b=some { ob with slots:=sl }:=by
 by_cases hb:b∈fs
 .exact u.slot b ob q n hb hx
 .exact⟨ob.slots,u.keep b ob q n hb hx⟩
theorem Un.kept (k:∀ b u,h.get? b=some u->h'.get? b=some u):Un fs ex H H h h' :=
 ⟨λb ob q _ _ _=>k b ob q,λb ob q _ _ _=>⟨ob.slots,k b ob q⟩,λ_ _ _ n _=>n,λb ob q _=>⟨ob,k b ob q⟩,λ_ _ q=>q,λ_ _ _ q=>q,λ_ ps q=>⟨#[],by rw[q];simp⟩⟩
theorem Un.refl:Un fs ex H H h h:=Un.kept λ_ _ q=>q
theorem Un.laid (k:∀ b u,h.get? b=some u->h'.get? b=some u)(hp:h.objs.size<=a)(hn:H a=none):Un fs ex H (upd H a o) h h' where
 keep:=λb u q _ _ _=>k b u q
 slot:=λb u q _ _ _=>⟨u.slots,k b u q⟩
 free:=λb u q n _=>by rw[zm (j9 (r8 (t4 q) hp))];exact n
 there:=λb u q _=>⟨u,k b u q⟩
 tups:=λb xs q=>by rw[zm (zp q hn)];exact q
 frzs:=λb u xs q=>by rw[zm (zp q hn)];exact q
 tbls:=λb ps q=>⟨#[],by rw[zm (zp q hn),q];simp⟩
theorem Un.write (mu:Mut (H x))(he:e=x\/H e=some (.own x))(k:∀ b u,b≠e->h.get? b=some u->h'.get? b=some u)(heo:∃ u,h'.get? e=some u):Un fs ex H (upd H x o) h h':=by
 have hx:∀ b,H b=none->b≠x:=λb n z=>by subst z;rw[n]at mu;exact mu
 have hb:∀ b,H b=none->b≠e:=λb n z=>by
  subst z
  rcases he with r | r
  .exact hx b n r
  .rw[n]at r;cases r
 have hm:∀ b u,H b=some u->¬ Mut (some u)->b≠x:=λb u q nm z=>by subst z;rw[q]at mu;exact nm mu
 refine⟨λb u q n _ _=>k b u (hb b n) q,λb u q n _ _=>⟨u.slots,k b u (hb b n) q⟩,λb u q n _=>by rw[zm (hx b n)];exact n,λb u q _=>?_,
  λb xs q=>by rw[zm (hm b _ q λz=>z)];exact q,λb u xs q=>by rw[zm (hm b _ q λz=>z)];exact q,λb ps q=>⟨#[],by rw[zm (hm b _ q λz=>z),q];simp⟩⟩
 by_cases hbe:b=e
 .subst hbe;exact heo
 .exact⟨u,k b u hbe q⟩
end
def trk (h:Heap)(H:Hp):List Addr:=(List.range h.objs.size).filter λa=>(H a).isSome
def zgF (h:Heap)(H:Hp):Heap:=W.hideAll h (trk h H)
theorem zfy (h:Heap)(H:Hp):(zgF h H).objs.size=h.objs.size:=W.hideAll_size _ _
theorem zhe {h:Heap}{H:Hp}{b:Addr}{o:Obj}(e:h.get? b=some o)(n:H b=none):(zgF h H).get? b=some o :=
 W.hideAll_get _ e λhm=>by
  have q:(H b).isSome=true:=(u0c.mp hm).2
  rw[n]at q;simp at q
theorem zii {h:Heap}{H:Hp}{b:Addr}{o:Obj}(e:(zgF h H).get? b=some o):h.get? b=some o/\H b=none:=by
 have e':h.get? b=some o:=W.of_hideAll (trk h H) e
 refine⟨e',?_⟩
 cases q:H b with
 | none=>rfl
 | some x =>
  have hm:b∈trk h H:=u0c.mpr ⟨u1s.mpr (t4 e'),by simp[q]⟩
  have z:(zgF h H).get? b=none:=W.hideAll_none (trk h H) hm
  rw[z]at e;cases e
def zjA (g h:Heap)(L:Addr):List (Addr × Obj):=(List.range h.objs.size).filterMap λa=>if a=L\/(g.get? a).isSome=true then none else (h.get? a).map λo=>(a,o)
def rest (g h:Heap)(L d:Addr):List (Addr × Obj):=(zjA g h L).filter λp=>decide (p.1≠d)
structure Mod (K:W.Frag) (mg:Str->Option Value) (base:Heap):Prop where
 kin:K.In base
 glob:base.Ns mainGlobals mg
 blt:∃ mb,base.Ns builtinsNs mb/\∀ x:Str,x≠"__name__"->mb x=bootBuiltins x
 nolimit:base.NoLimit
structure Cx where
 prog:Program
 w:World
 K:W.Frag
 mg:Str->Option Value
 base:Heap
 A:Around
 N:List Str
 s₀:Shared
 H₀:Hp
 env:Env
 outer:List Env
 stack:List Env
 ex:List Addr
 fn:Str->Bool
 calm:Bool
 pn:List (Addr × Obj)
 xe:Value->Shared->Prop
def frs (l:List Env):List Addr:=l.filterMap (·.frame)
abbrev Cx.fs (X:Cx):List Addr:=frs X.outer
def Vis (sc:Scope)(x:Str):Prop:=sc.names.lookup x=some .local\/sc.names.lookup x=some .cell\/sc.names.lookup x=some .free
def Loc (sc:Scope)(x:Str):Prop:=sc.names.lookup x=some .local\/sc.names.lookup x=some .cell
def Look (env:Env)(h:Heap)(m:Str->Option Value)(x:Str)(u:Value):Prop :=
 (env.kindOf x=some .local/\m x=some u)\/((env.kindOf x=some .cell\/env.kindOf x=some .free)/\∃ c,env.cells.lookup x=some c/\h.IsCell c (some u))
structure Cx.Ok (X:Cx):Prop where
 mod:Mod X.K X.mg X.base
 kind:X.env.scope.kind=.function
 glob:X.env.globals=mainGlobals
 blt:X.env.builtins=builtinsNs
 above:X.s₀.heap.objs.size<=X.env.locals
 inj:∀ x y c,X.env.cells.lookup x=some c->X.env.cells.lookup y=some c->x=y
 has:∀ x,(X.env.kindOf x=some .cell\/X.env.kindOf x=some .free)->∃ c,X.env.cells.lookup x=some c
 cab:∀ x c,X.fn x=true->X.env.cells.lookup x=some c->X.s₀.heap.objs.size<=c
 hd:X.calm=true->X.A.handled=none
 frames:X.A.frames=some X.stack
 stk:X.stack=X.outer\/(X.stack=X.env::X.outer/\X.env.frame=some X.env.locals)
 exf:∀ b∈X.ex,b≠X.env.locals/\∀ x c,X.env.cells.lookup x=some c->c≠b
 bs:∀ b o,X.base.get? b=some o->X.s₀.heap.get? b=some o/\X.H₀ b=none
 bsz:X.base.objs.size<=X.s₀.heap.objs.size
 noex:∀ b o,X.base.get? b=some o->b∉X.ex
 exfs:∀ b∈X.ex,b∉X.fs
 funs:X.s₀.heap.FunFrames X.base X.outer
 frf:∀ b∈X.fs,X.H₀ b=none
structure Inv (X:Cx) (pins:List (Addr × Obj)) (σ:List (Option V)) (H:Hp) (s:Shared):Prop where
 ok:X.Ok
 os:s.os=X.s₀.os
 bare:AllBare s.gens
 base:Un X.fs X.ex X.H₀ H X.s₀.heap s.heap
 loc:∃ m,s.heap.Ns X.env.locals m/\∀ (i:Nat) (x:Str) (v:V),X.N[i]?=some x->σ[i]?=some (some v)->Vis X.env.scope x->∃ u,yG v u/\Look X.env s.heap m x u
 cell:∀ x c,X.env.cells.lookup x=some c->∃ v,s.heap.IsCell c v
 free:H X.env.locals=none
 freeC:∀ x c,X.env.cells.lookup x=some c->H c=none
 pin:∀ p∈X.pn++pins,s.heap.get? p.1=some p.2/\H p.1=none/\p.1≠X.env.locals/\p.1∉X.fs/\∀ v,p.2.data≠.cell v
 hok:HOk X.prog X.w H s.heap
 len:σ.length=X.N.length
section
variable {X:Cx}{pins:List (Addr × Obj)}{σ:List (Option V)}{H H':Hp}{s:Shared}{h':Heap}
theorem Cx.Ok.nofr (ok:X.Ok){b:Addr}{o:Obj}(e:X.base.get? b=some o):b∉X.fs:=λhb=>by
 have:=(ok.funs.mem hb).1
 rw[e]at this;cases this
theorem Inv.bs (I:Inv X pins σ H s):∀ b o,X.base.get? b=some o->s.heap.get? b=some o/\H b=none:=λb o e =>
 ⟨I.base.keep b o (I.ok.bs b o e).1 (I.ok.bs b o e).2 (I.ok.nofr e) (I.ok.noex b o e),I.base.free b o (I.ok.bs b o e).1 (I.ok.bs b o e).2 (I.ok.noex b o e)⟩
theorem Inv.bk (I:Inv X pins σ H s):∀ b o,X.base.get? b=some o->s.heap.get? b=some o:=λb o e=>(I.bs b o e).1
theorem Inv.mod (I:Inv X pins σ H s):Mod X.K X.mg X.base:=I.ok.mod
theorem Inv.kIn (I:Inv X pins σ H s):X.K.In s.heap:=I.ok.mod.kin.keeps I.bk
theorem Inv.fr (I:Inv X pins σ H s):∃ m,Fr X.base X.env.locals s.heap m :=
 let ⟨m,hn,_⟩:=I.loc
 ⟨m,hn,I.bk,b9 I.ok.bsz I.ok.above⟩
theorem Inv.lt (I:Inv X pins σ H s):X.env.locals < s.heap.objs.size:=let ⟨_,hn,_⟩:=I.loc;hn.lt
theorem Inv.sz (I:Inv X pins σ H s):X.s₀.heap.objs.size<=s.heap.objs.size:=b9 I.ok.above (u0R I.lt)
theorem Inv.nofs (I:Inv X pins σ H s){a:Addr}(h:s.heap.objs.size<=a):a∉X.fs:=λhb=>by
 obtain⟨_,o,ho,_⟩:=I.ok.funs.mem hb
 exact absurd (r8 (t4 ho) (b9 I.sz h)) (u0J _)
theorem Inv.cne (I:Inv X pins σ H s):∀ x c,X.env.cells.lookup x=some c->c≠X.env.locals:=λx c e z=>by
 obtain⟨v,o,ho,hd⟩:=I.cell x c e
 obtain⟨m,⟨o',es,ep,ho',hd',_⟩,_⟩:=I.loc
 rw[z,ho']at ho;cases ho;rw[hd']at hd;cases hd
theorem Inv.funs (I:Inv X pins σ H s):s.heap.FunFrames X.base X.outer:=by
 have all:∀ (l:List Env),(∀ b∈frs l,b∈X.fs)->X.s₀.heap.FunFrames X.base l->s.heap.FunFrames X.base l:=by
  intro l
  induction l with
  | nil=>intro _ _;trivial
  | cons env r ih =>
   intro hs hl
   obtain⟨hk,⟨L,o,hf,hn,ho,hd⟩,hr⟩:=hl
   have hL:L∈X.fs:=hs L (by unfold frs;rw[u3i,hf];exact o0)
   obtain⟨sl,e⟩:=I.base.slot L o ho (I.ok.frf L hL) hL λz=>I.ok.exfs L z hL
   exact⟨hk,⟨L,_,hf,hn,e,hd⟩,ih (λb hb=>hs b (by unfold frs;rw[u3i,hf];exact d9 _ hb)) hr⟩
 exact all X.outer (λ_ hb=>hb) I.ok.funs
theorem Inv.stack (I:Inv X pins σ H s):s.heap.FunFrames X.base X.stack:=by
 rcases I.ok.stk with e | ⟨e,hf⟩
 .rw[e];exact I.funs
 .rw[e]
  obtain⟨m,hn,_⟩:=I.loc
  refine .cons (by rw[I.ok.kind];decide) hf hn ?_ I.funs
  exact Heap.get?_none_of_le (b9 I.ok.bsz I.ok.above)
theorem Inv.stkSub (I:Inv X pins σ H s):∀ b∈frs X.stack,b∈X.env.locals::X.fs:=λb hb=>by
 rcases I.ok.stk with e | ⟨e,hf⟩
 .rw[e]at hb;exact d9 _ hb
 .rw[e]at hb
  unfold frs at hb
  rw[u3i,hf]at hb
  exact hb
theorem Inv.stkFree (I:Inv X pins σ H s):∀ b∈frs X.stack,H b=none:=λb hb=>by
 rcases j5.mp (I.stkSub b hb)with e | hb
 .rw[e];exact I.free
 .obtain⟨_,o,ho,_⟩:=I.ok.funs.mem hb
  exact I.base.free b o ho (I.ok.frf b hb) λz=>I.ok.exfs b z hb
theorem Inv.step {g':Array GenState}{t':Nat}{d':Drawn}{ch:List Addr}(I:Inv X pins σ H s)
 (hch:∀ b∈ch,(b∈X.ex\/X.s₀.heap.objs.size<=b)/\b≠X.env.locals/\(∀ x c,X.env.cells.lookup x=some c->c≠b)/\∀ p∈X.pn++pins,p.1≠b)
 (keep:∀ b o,b≠X.env.locals->b∉X.fs->b∉ch->s.heap.get? b=some o->H b=none->h'.get? b=some o)
 (slot:∀ b o,b≠X.env.locals->b∈X.fs->b∉ch->s.heap.get? b=some o->H b=none->∃ sl,h'.get? b=some { o with slots:=sl }) (free:∀ b o,b∉ch->s.heap.get? b=some o->H b=none->H' b=none)
 (there:∀ b o,b∉ch->s.heap.get? b=some o->∃ o',h'.get? b=some o')
 (tups:∀ b xs,H b=some (.tup xs)->H' b=some (.tup xs)) (frzs:∀ b o u,H b=some (.frz o u)->H' b=some (.frz o u)) (tbls:∀ b ps,H b=some (.tbl ps)->∃ more,H' b=some (.tbl (ps++more)))
 (ns:∀ m,s.heap.Ns X.env.locals m->h'.Ns X.env.locals m) (hok:HOk X.prog X.w H' h') (hg:AllBare g') :
 Inv X pins σ H' { s with heap:=h',gens:=g',drawn:=d',toks:=t' }:=by
 have neL:∀ b o,X.s₀.heap.get? b=some o->b≠X.env.locals:=λb o e=>j9 (r8 (t4 e) I.ok.above)
 have neC:∀ b o,X.s₀.heap.get? b=some o->b∉X.ex->b∉ch:=λb o e hx hb=>by
  rcases(hch b hb).1 with z | z
  .exact hx z
  .exact absurd (r8 (t4 e) z) (u0J _)
 have cellK:∀ x c,X.env.cells.lookup x=some c->∀ v,s.heap.IsCell c v->h'.IsCell c v:=λx c e v ⟨o,ho,hd⟩=>by
  have nch:c∉ch:=λz=>(hch c z).2.2.1 x c e rfl
  by_cases hc:c∈X.fs
  .obtain⟨sl,q⟩:=slot c o (I.cne x c e) hc nch ho (I.freeC x c e)
   exact⟨_,q,hd⟩
  .exact⟨o,keep c o (I.cne x c e) hc nch ho (I.freeC x c e),hd⟩
 refine⟨I.ok,I.os,hg,⟨λb o e n hb hx=>?_,λb o e n hb hx=>?_,λb o e n hx=>?_,λb o e hx=>?_,λb xs e=>tups b xs (I.base.tups b xs e),λb o xs e=>frzs b o xs (I.base.frzs b o xs e),λb ps e=>?_⟩,?_,λx c e=>?_,?_,λx c e=>?_,λp hp=>?_,hok,I.len⟩
 .exact keep b o (neL b o e) hb (neC b o e hx) (I.base.keep b o e n hb hx) (I.base.free b o e n hx)
 .obtain⟨sl,e1⟩:=I.base.slot b o e n hb hx
  obtain⟨sl',e2⟩:=slot b _ (neL b o e) hb (neC b o e hx) e1 (I.base.free b o e n hx)
  exact⟨sl',e2⟩
 .obtain⟨o',e1⟩:=I.base.there b o e hx
  exact free b o' (neC b o e hx) e1 (I.base.free b o e n hx)
 .obtain⟨o',e1⟩:=I.base.there b o e hx
  exact there b o' (neC b o e hx) e1
 .obtain⟨m1,e1⟩:=I.base.tbls b ps e
  obtain⟨m2,e2⟩:=tbls b _ e1
  exact⟨m1++m2,by rw[e2,Array.append_assoc]⟩
 .obtain⟨m,hn,hl⟩:=I.loc
  refine⟨m,ns m hn,λi x v e1 e2 e3=>?_⟩
  obtain⟨u,r,l⟩:=hl i x v e1 e2 e3
  refine⟨u,r,?_⟩
  rcases l with l | ⟨k,c,e,z⟩
  .exact .inl l
  .exact .inr ⟨k,c,e,cellK x c e _ z⟩
 .obtain⟨v,z⟩:=I.cell x c e
  exact⟨v,cellK x c e v z⟩
 .obtain⟨m,⟨o,_,_,ho,_⟩,_⟩:=I.loc
  exact free _ o (λz=>(hch _ z).2.1 rfl) ho I.free
 .obtain⟨v,o,ho,hd⟩:=I.cell x c e
  exact free c o (λz=>(hch c z).2.2.1 x c e rfl) ho (I.freeC x c e)
 .obtain⟨e,n,ne,nf,d⟩:=I.pin p hp
  have nch:p.1∉ch:=λz=>(hch p.1 z).2.2.2 p hp rfl
  exact⟨keep p.1 p.2 ne nf nch e n,free p.1 p.2 nch e n,ne,nf,d⟩
theorem Inv.un {t':Nat}(I:Inv X pins σ H s)(u:Un X.fs [] H H' s.heap h')(hok:HOk X.prog X.w H' h'):Inv X pins σ H' { s with heap:=h',toks:=t' }:=by
 obtain⟨m,⟨o,es,ep,ho,r⟩,_⟩:=id I.loc
 obtain⟨sl,hL⟩:=u.any ho I.free (by simp)
 exact I.step (g':=s.gens) (d':=s.drawn) (ch:=[]) (λ_ z=>nomatch z) (λb o _ hb _ e n=>u.keep b o e n hb (by simp)) (λb o _ hb _ e n=>u.slot b o e n hb (by simp)) (λb o _ e n=>u.free b o e n (by simp)) (λb o _ e=>u.there b o e (by simp)) u.tups u.frzs u.tbls (λm' hm=>by
  obtain⟨o',es',ep',ho',r'⟩:=hm
  rw[ho]at ho';cases ho'
  exact⟨_,es',ep',hL,r'⟩) hok I.bare
theorem Inv.call {g':Array GenState}{t':Nat}{d':Drawn}{ch:List Addr}(I:Inv X pins σ H s)(u:Un (frs X.stack) ch H H' s.heap h')(hok:HOk X.prog X.w H' h')(hg:AllBare g')
 (hch:∀ b∈ch,(b∈X.ex\/X.s₀.heap.objs.size<=b)/\b≠X.env.locals/\(∀ x c,X.env.cells.lookup x=some c->c≠b)/\∀ p∈X.pn++pins,p.1≠b) :
 Inv X pins σ H' { s with heap:=h',gens:=g',drawn:=d',toks:=t' }:=by
 obtain⟨m,⟨o,es,ep,ho,r⟩,_⟩:=id I.loc
 obtain⟨sl,hL⟩:=u.any ho I.free λz=>(hch _ z).2.1 rfl
 exact I.step (ch:=ch) hch (λb o hL hb hc e n=>u.keep b o e n (λz=>(j5.mp (I.stkSub b z)).elim hL hb) hc) (λb o _ _ hc e n=>u.any e n hc) (λb o hc e n=>u.free b o e n hc) (λb o hc e=>u.there b o e hc) u.tups u.frzs u.tbls (λm' hm=>by
  obtain⟨o',es',ep',ho',r'⟩:=hm
  rw[ho]at ho';cases ho'
  exact⟨_,es',ep',hL,r'⟩) hok hg
theorem Inv.turned {t':Nat}{it:Addr}(I:Inv X pins σ H s)(k:∀ b o,b≠it->s.heap.get? b=some o->h'.get? b=some o)(hn:H it=none)(hL:it≠X.env.locals)
 (h1:it∈X.ex\/X.s₀.heap.objs.size<=it) (h2:∀ x c,X.env.cells.lookup x=some c->c≠it) (h3:∀ p∈X.pn++pins,p.1≠it):Inv X pins σ H { s with heap:=h',toks:=t' }:=by
 have nit:∀ b u,H b=some u->b≠it:=λb u e z=>by rw[z,hn]at e;cases e
 refine I.step (g':=s.gens) (d':=s.drawn) (ch:=[it]) (λb hb=>?_) (λb o _ _ hc e _=>k b o (λz=>hc (by simp[z])) e) (λb o _ _ hc e _=>⟨o.slots,k b o (λz=>hc (by simp[z])) e⟩) (λ_ _ _ _ n=>n)
  (λb o hc e=>⟨o,k b o (λz=>hc (by simp[z])) e⟩) (λ_ _ e=>e) (λ_ _ _ e=>e) (λb ps e=>⟨#[],by rw[e];simp⟩) (λm hm=>?_) (λb u e=>?_) I.bare
 .have e:b=it:=by simpa using hb
  subst e
  exact⟨h1,hL,h2,h3⟩
 .obtain⟨o,es,ep,ho,r⟩:=hm
  exact⟨o,es,ep,k _ o (u0M hL) ho,r⟩
 .refine(I.hok b u e).stay (λc v hc q=>k c v ?_ q) (λ_ q=>q) λ_ _ q=>q
  rcases hc with z | z
  .rw[z];exact nit b u e
  .exact nit c _ z
theorem Inv.tok (I:Inv X pins σ H s)(t:Nat):Inv X pins σ H { s with toks:=t }:=I.un (h':=s.heap) (t':=t) Un.refl I.hok
theorem Inv.kept {t':Nat}(I:Inv X pins σ H s)(k:∀ b u,s.heap.get? b=some u->h'.get? b=some u):Inv X pins σ H { s with heap:=h',toks:=t' }:=I.un (Un.kept k) (I.hok.kept k)
theorem Inv.laid {a:Addr}{o:HO}{t':Nat}(I:Inv X pins σ H s)(k:∀ b u,s.heap.get? b=some u->h'.get? b=some u)(hp:s.heap.objs.size<=a)(new:yt X.prog X.w (upd H a o) h' a o) :
 Inv X pins σ (upd H a o) { s with heap:=h',toks:=t' }:=I.un (Un.laid k hp (I.hok.fresh hp)) (I.hok.laid k hp new)
theorem Inv.write {x e:Addr}{o:HO}{t':Nat}(I:Inv X pins σ H s)(mu:Mut (H x))(he:e=x\/H e=some (.own x))(k:∀ b u,b≠e->s.heap.get? b=some u->h'.get? b=some u)(heo:∃ u,h'.get? e=some u)
 (new:yt X.prog X.w (upd H x o) h' x o):Inv X pins σ (upd H x o) { s with heap:=h',toks:=t' }:=I.un (Un.write mu he k heo) (I.hok.write mu he k heo new)
theorem Inv.weak {σ':List (Option V)}(I:Inv X pins σ H s)(hl:σ'.length=σ.length)(w:∀ (i:Nat) v,σ'[i]?=some (some v)->σ[i]?=some (some v)):Inv X pins σ' H s :=
 ⟨I.ok,I.os,I.bare,I.base,let ⟨m,hn,hl'⟩:=I.loc;⟨m,hn,λi x v e1 e2 e3=>hl' i x v e1 (w i v e2) e3⟩,I.cell,I.free,I.freeC,I.pin,I.hok,hl.trans I.len⟩
theorem Inv.pins_of {pins':List (Addr × Obj)}(I:Inv X pins σ H s)(h:∀ p∈pins',s.heap.get? p.1=some p.2/\H p.1=none/\p.1≠X.env.locals/\p.1∉X.fs/\∀ v,p.2.data≠.cell v):Inv X pins' σ H s :=
 ⟨I.ok,I.os,I.bare,I.base,I.loc,I.cell,I.free,I.freeC,λp hp=>(u0X.mp hp).elim (λz=>I.pin p (List.mem_append_left _ z)) (h p),I.hok,I.len⟩
theorem zbX {N:List Str}(hN:N.Nodup){i j:Nat}{x:Str}(a:N[i]?=some x)(b:N[j]?=some x):i=j:=by
 obtain⟨h1,e1⟩:=u9.mp a
 obtain⟨h2,e2⟩:=u9.mp b
 exact(List.getElem_inj hN).mp (e1.trans e2.symm)
theorem zeN {M:Model}{A:Around}{E:Value->Shared->Prop}{i:Nat}{x:Str}{v:V}{u:Value}{Q:Unit->Shared->Prop}(I:Inv X pins σ H s)(hN:X.N.Nodup)(hi:X.N[i]?=some x)(hx:Loc X.env.scope x)(r:yG v u)
 (h:∀ s',Inv X pins (σ.set i (some v)) H s'->(∃ a,Heap.SameBut a s.heap s'.heap/\(a=X.env.locals\/X.env.cells.lookup x=some a))->Q () s') (hf:X.fn x=true\/X.env.scope.names.lookup x=some .local:=by first | exact .inl rfl | exact .inr rfl | assumption):wpAny M A (storeName X.env x u) Q E s:=by
 obtain⟨m,hn,hl⟩:=id I.loc
 have hcls:(X.env.scope.kind == .class||(X.env.scope.kind == .module&&X.env.locals != X.env.globals))=false:=by rw[I.ok.kind];rfl
 have hiσ:i < σ.length:=by rw[I.len];exact(u9.mp hi).1
 have cne:=I.cne
 have tracked:∀ {a:Addr} {h':Heap},(∃ o,s.heap.get? a=some o/\H a=none)->Heap.SameBut a s.heap h'->HOk X.prog X.w H h':=λ{a h'} ha hs b ob e=>by
  obtain⟨_,_,hfree⟩:=ha
  refine(I.hok b ob e).stay (λc w' hc q=>(hs.2 c ?_).trans q) (λ_ q=>q) λ_ _ q=>q
  rintro rfl
  rcases hc with rfl | hc
  .rw[hfree]at e;cases e
  .rw[hfree]at hc;cases hc
 rcases hx with hk | hk
 .refine wpAny_storeName_local hk hn (λh' hn' hs=>?_) hcls
  obtain⟨oL,_,_,hoL,_⟩:=id hn
  refine h _ ⟨I.ok,I.os,I.bare,⟨λb o e n hb hx=>?_,λb o e n hb hx=>?_,I.base.free,λb o e hx=>?_,I.base.tups,I.base.frzs,I.base.tbls⟩,⟨_,hn',λj y v' e1 e2 e3=>?_⟩,λy c e=>?_,I.free,I.freeC,λp hp=>?_,tracked ⟨oL,hoL,I.free⟩ hs,by simpa using I.len⟩ ⟨_,hs,.inl rfl⟩
  .exact(hs.2 b (j9 (r8 (t4 e) I.ok.above))).trans (I.base.keep b o e n hb hx)
  .obtain⟨sl,e1⟩:=I.base.slot b o e n hb hx
   exact⟨sl,(hs.2 b (j9 (r8 (t4 e) I.ok.above))).trans e1⟩
  .obtain⟨o',e1⟩:=I.base.there b o e hx
   exact⟨o',(hs.2 b (j9 (r8 (t4 e) I.ok.above))).trans e1⟩
  .by_cases hj:j=i
   .subst hj
    rw[hi]at e1;cases e1
    rw[u0B hiσ]at e2
    cases e2
    exact⟨u,r,.inl ⟨hk,by simp⟩⟩
   .rw[d7 (u0M hj)]at e2
    obtain⟨u',r',q⟩:=hl j y v' e1 e2 e3
    refine⟨u',r',?_⟩
    rcases q with ⟨k,e⟩ | ⟨k,c,e,z⟩
    .refine .inl ⟨k,?_⟩
     have:y≠x:=λe=>hj (zbX hN e1 (e ▸ hi))
     simp[this,e]
    .exact .inr ⟨k,c,e,z.sameBut hs (cne y c e)⟩
  .obtain⟨w',z⟩:=I.cell y c e
   exact⟨w',z.sameBut hs (cne y c e)⟩
  .obtain⟨e,n,ne,nf,d⟩:=I.pin p hp
   exact⟨(hs.2 p.1 ne).trans e,n,ne,nf,d⟩
 .have hfn:X.fn x=true:=by
   rcases hf with z | z
   .exact z
   .rw[z]at hk;cases hk
  obtain⟨c,hc⟩:=I.ok.has x (.inl hk)
  obtain⟨w',z⟩:=I.cell x c hc
  refine wpAny_storeName_cell I.ok.kind hk hc z (λh' hc' hs=>?_)
  obtain⟨oc,hoc,hocd⟩:=id z
  refine h { s with heap:=h' } ⟨I.ok,I.os,I.bare,⟨λb o e n hb hx=>?_,λb o e n hb hx=>?_,I.base.free,λb o e hx=>?_,I.base.tups,I.base.frzs,I.base.tbls⟩,⟨m,hn.sameBut hs (u0M (cne x c hc)),λj y v' e1 e2 e3=>?_⟩,λy c' e=>?_,I.free,I.freeC,λp hp=>?_,tracked ⟨oc,hoc,I.freeC x c hc⟩ hs,by simpa using I.len⟩ ⟨c,hs,.inr hc⟩
  .exact(hs.2 b (j9 (r8 (t4 e) (I.ok.cab x c hfn hc)))).trans (I.base.keep b o e n hb hx)
  .obtain⟨sl,e1⟩:=I.base.slot b o e n hb hx
   exact⟨sl,(hs.2 b (j9 (r8 (t4 e) (I.ok.cab x c hfn hc)))).trans e1⟩
  .obtain⟨o',e1⟩:=I.base.there b o e hx
   exact⟨o',(hs.2 b (j9 (r8 (t4 e) (I.ok.cab x c hfn hc)))).trans e1⟩
  .by_cases hj:j=i
   .subst hj
    rw[hi]at e1;cases e1
    rw[u0B hiσ]at e2
    cases e2
    exact⟨u,r,.inr ⟨.inl hk,c,hc,hc'⟩⟩
   .rw[d7 (u0M hj)]at e2
    obtain⟨u',r',q⟩:=hl j y v' e1 e2 e3
    refine⟨u',r',?_⟩
    rcases q with q | ⟨k,c',e,z'⟩
    .exact .inl q
    .refine .inr ⟨k,c',e,z'.sameBut hs ?_⟩
     rintro rfl
     exact hj (zbX hN e1 (I.ok.inj _ _ _ e hc ▸ hi))
  .by_cases hcc:c'=c
   .subst hcc;exact⟨_,hc'⟩
   .obtain⟨w2,z2⟩:=I.cell y c' e
    exact⟨w2,z2.sameBut hs hcc⟩
  .obtain⟨e,n,ne,nf,d⟩:=I.pin p hp
   refine⟨(hs.2 p.1 ?_).trans e,n,ne,nf,d⟩
   intro q
   rw[q,hoc]at e
   have q':oc=p.2:=p9 e
   exact d w' (by rw[<-q'];exact hocd)
theorem zbR {M:Model}{A:Around}{E:Value->Shared->Prop}{i:Nat}{x:Str}{v:V}{u:Value}{Q:Unit->Shared->Prop}(I:Inv X pins σ H s)(hN:X.N.Nodup)(hi:X.N[i]?=some x)(hx:Loc X.env.scope x)(r:yG v u)
 (h:∀ s',Inv X pins (σ.set i (some v)) H s'->Q () s') (hf:X.fn x=true\/X.env.scope.names.lookup x=some .local:=by first | exact .inl rfl | exact .inr rfl | assumption):wpAny M A (storeName X.env x u) Q E s :=
 zeN I hN hi hx r (λs' I' _=>h s' I') hf
theorem Inv.call' {s':Shared}{ch:List Addr}(I:Inv X pins σ H s)(ho:s'.os=s.os)(u:Un (frs X.stack) ch H H' s.heap s'.heap)(hok:HOk X.prog X.w H' s'.heap)(hg:AllBare s'.gens)
 (hch:∀ b∈ch,(b∈X.ex\/X.s₀.heap.objs.size<=b)/\b≠X.env.locals/\(∀ x c,X.env.cells.lookup x=some c->c≠b)/\∀ p∈X.pn++pins,p.1≠b):Inv X pins σ H' s':=by
 obtain⟨h',g',d',t',o'⟩:=s'
 have e:o'=s.os:=ho
 subst e
 exact I.call (g':=g') (t':=t') (d':=d') u hok hg hch
end
abbrev XK:=Value->Option Addr->Hp->Prop
abbrev St:=List (Option V)
abbrev VK:=V->Hp->Prop
abbrev TE:=St->Hp->VK->Prop
abbrev TT:=St->Hp->(Bool->Hp->Prop)->Prop
abbrev TA:=St->Hp->(List V->Hp->Prop)->Prop
structure zgJ where
 nx:St->Hp->Prop
 rt:VK
 bk:St->Hp->Prop:=λ_ _=>False
 ct:St->Hp->Prop:=λ_ _=>False
abbrev TS:=zgJ->St->Hp->Prop
def EP (X:Cx)(pins:List (Addr × Obj))(σ:St)(Q:VK)(u:Value)(s':Shared):Prop:=∃ v H',Inv X pins σ H' s'/\yG v u/\Q v H'
def TP (X:Cx)(pins:List (Addr × Obj))(σ:St)(Q:Bool->Hp->Prop)(b:Bool)(s':Shared):Prop:=∃ H',Inv X pins σ H' s'/\Q b H'
def AP (X:Cx)(pins:List (Addr × Obj))(σ:St)(Q:List V->Hp->Prop)(us:List Value)(s':Shared):Prop:=∃ vs H',Inv X pins σ H' s'/\yd vs us/\Q vs H'
def SP (X:Cx)(pins:List (Addr × Obj))(D:zgJ)(f:Flow)(s':Shared):Prop :=
 match f with
 | .next=>∃ σ' H',Inv X pins σ' H' s'/\D.nx σ' H'
 | .brk=>∃ σ' H',Inv X pins σ' H' s'/\D.bk σ' H'
 | .cont=>∃ σ' H',Inv X pins σ' H' s'/\D.ct σ' H'
 | .ret u=>∃ v σ' H',Inv X pins σ' H' s'/\yG v u/\D.rt v H'
def PE (X:Cx)(e:Expr)(t:TE):Prop :=
 ∀ (pins:List (Addr × Obj)) (s:Shared) (σ:St) (H:Hp) (Q:VK),Inv X pins σ H s->t σ H Q->wpAny (model X.prog X.w) X.A (eval e X.env) (EP X pins σ Q) X.xe s
def PT (X:Cx)(e:Expr)(t:TT):Prop :=
 ∀ (pins:List (Addr × Obj)) (s:Shared) (σ:St) (H:Hp) (Q:Bool->Hp->Prop),Inv X pins σ H s->t σ H Q->wpAny (model X.prog X.w) X.A (isTrue e X.env (eval e X.env)) (TP X pins σ Q) X.xe s
def PW (X:Cx)(e:Expr)(t:TT):Prop :=
 ∀ (whole:Sem Value) (pins:List (Addr × Obj)) (s:Shared) (σ:St) (H:Hp) (Q:Bool->Hp->Prop),Inv X pins σ H s->t σ H Q->wpAny (model X.prog X.w) X.A (isTrue e X.env whole) (TP X pins σ Q) X.xe s
theorem PW.pt {X:Cx}{e:Expr}{t:TT}(h:PW X e t):PT X e t:=h _
def PA (X:Cx)(es:List Expr)(t:TA):Prop :=
 ∀ (pos:Pos) (pins:List (Addr × Obj)) (s:Shared) (σ:St) (H:Hp) (Q:List V->Hp->Prop),Inv X pins σ H s->t σ H Q->wpAny (model X.prog X.w) X.A (spliced (backTo pos (starEach es X.env))) (AP X pins σ Q) X.xe s
def PS (X:Cx)(st:Stmt)(t:TS):Prop :=
 ∀ (pins:List (Addr × Obj)) (s:Shared) (σ:St) (H:Hp) (D:zgJ),Inv X pins σ H s->t D σ H->wpAny (model X.prog X.w) X.A (exec st X.env) (SP X pins D) X.xe s
def PSs (X:Cx)(st:List Stmt)(t:TS):Prop :=
 ∀ (pins:List (Addr × Obj)) (s:Shared) (σ:St) (H:Hp) (D:zgJ),Inv X pins σ H s->t D σ H->wpAny (model X.prog X.w) X.A (execs st X.env) (SP X pins D) X.xe s
theorem thn {α:Type}{t:Sem α}{Q Q':α->Shared->Prop}{M:Model}{A:Around}{E:Value->Shared->Prop}{s:Shared}(h:wpAny M A t Q E s)(hQ:∀ a s,Q a s->Q' a s):wpAny M A t Q' E s:=u1C h hQ λ_ _ x=>x
section
variable {X:Cx}
theorem bin {a b:Expr}{ta tb:TE}(ha:PE X a ta)(hb:PE X b tb){pins:List (Addr × Obj)}{s:Shared}{σ:St}{H:Hp}{R:V->V->Hp->Prop}(I:Inv X pins σ H s)(h:ta σ H λx H1=>tb σ H1 λy H2=>R x y H2)
 {α:Type} {Q:α->Shared->Prop} {f:Value->Value->Sem α}
 (hf:∀ v u s2 x y H2,Inv X pins σ H2 s2->yG x v->yG y u->R x y H2->wpAny (model X.prog X.w) X.A (f v u) Q X.xe s2) :
 wpAny (model X.prog X.w) X.A (eval a X.env) (λv s₁=>wpAny (model X.prog X.w) X.A (eval b X.env) (λu s₂=>wpAny (model X.prog X.w) X.A (f v u) Q X.xe s₂) X.xe s₁) X.xe s:=by
 refine thn (ha pins s σ H _ I h) λv s1 hh9=>?_
 obtain⟨x,H1,I1,r1,q1⟩:=hh9
 refine thn (hb pins s1 σ H1 _ I1 q1) λu s2 hh9=>?_
 obtain⟨y,H2,I2,r2,q2⟩:=hh9
 exact hf v u s2 x y H2 I2 r1 r2 q2
def zjD (i:Nat):TE:=fun σ H Q=>∃ v,σ[i]?=some (some v)/\Q v H
def tC (v:V):TE:=λ_ H Q=>Q v H
theorem zk6 {i:Nat} {x:Str} {pos:Pos} (hN:X.N[i]?=some x) (hv:Vis X.env.scope x) (hd:(x == ("__debug__":Str))=false:=by decide) (hcd:(x == ("__classdict__":Str))=false:=by decide):PE X (.Name x pos) (zjD i):=by
 intro pins s σ H Q I h
 obtain⟨v,e,h⟩:=h
 obtain⟨m,hn,hl⟩:=I.loc
 obtain⟨u,r,l⟩:=hl i x v hN e hv
 have fin:EP X pins σ Q u s:=⟨v,H,I,r,h⟩
 rcases l with ⟨hk,hm⟩ | ⟨hk,c,hc,hcell⟩
 .exact wpAny_Name (wpAny_loadName_local I.ok.kind hk hn hm fin) hd
 .rcases hk with hk | hk
  .exact wpAny_Name (wpAny_loadName_cell I.ok.kind hk hc hcell fin) hd
  .exact wpAny_Name (wpAny_loadName_free I.ok.kind hk hc hcell fin hcd) hd
theorem zg {i j pos}:PE X (.Constant (.int i) j pos) (tC (.int i)):=λ_ _ _ H _ I h=>wpAny_Constant_int ⟨.int i,H,I.tok _,⟨_,rfl⟩,h⟩
theorem wD {b j pos}:PE X (.Constant (.bool b) j pos) (tC (.bl b)):=λ_ _ _ H _ I h=>Constant_bool ⟨.bl b,H,I,rfl,h⟩
theorem zb2 {j pos}:PE X (.Constant .none j pos) (tC .non):=λ_ _ _ H _ I h=>Constant_none ⟨.non,H,I,rfl,h⟩
def Gl (X:Cx)(x:Str):Prop:=X.env.kindOf x=some .globalImplicit
theorem zed {E:Value->Shared->Prop}{pins:List (Addr × Obj)}{s:Shared}{σ:St}{H:Hp}{x:Str}{u:Value}{pos:Pos}{Q:Value->Shared->Prop}(I:Inv X pins σ H s)(hg:Gl X x)(hm:X.mg x=some u)(h:Q u s)
 (hd:(x == ("__debug__":Str))=false:=by decide):wpAny (model X.prog X.w) X.A (eval (.Name x pos) X.env) Q E s :=
 Calls.Name_function_global I.ok.kind hg (Calls.loadGlobal_global (by rw[I.ok.glob];exact I.mod.glob.keeps I.bk) hm h) hd
theorem Yn {E:Value->Shared->Prop}{pins:List (Addr × Obj)}{s:Shared}{σ:St}{H:Hp}{x:Str}{u:Value}{pos:Pos}{Q:Value->Shared->Prop}(I:Inv X pins σ H s)(hg:Gl X x)(hm:X.mg x=none)(hv:bootBuiltins x=some u)(h:Q u s)
 (hn:x≠"__name__":=by decide) (hd:(x == ("__debug__":Str))=false:=by decide):wpAny (model X.prog X.w) X.A (eval (.Name x pos) X.env) Q E s:=by
 obtain⟨mb,h1,h2⟩:=I.mod.blt
 exact Calls.Name_function_global I.ok.kind hg (Calls.loadGlobal_builtin (by rw[I.ok.glob];exact I.mod.glob.keeps I.bk) hm (by rw[I.ok.blt];exact h1.keeps I.bk) ((h2 x hn).trans hv) h) hd
theorem zeY {x:Str} {v:V} {u:Value} {pos:Pos} (hg:Gl X x) (hm:X.mg x=some u) (r:yG v u) (hd:(x == ("__debug__":Str))=false:=by decide):PE X (.Name x pos) (tC v) :=
 λ_ _ _ H _ I h=>zed I hg hm ⟨v,H,I,r,h⟩ hd
theorem zR {x:Str} {v:V} {u:Value} {pos:Pos} (hg:Gl X x) (hm:X.mg x=none) (hv:bootBuiltins x=some u) (r:yG v u) (hn:x≠"__name__":=by decide) (hd:(x == ("__debug__":Str))=false:=by decide):PE X (.Name x pos) (tC v) :=
 λ_ _ _ H _ I h=>Yn I hg hm hv ⟨v,H,I,r,h⟩ hn hd
variable {a b:Expr}{ta tb:TE}{pos:Pos}
def PC (X:Cx)(op:CmpOp)(a b:Expr)(t:TE):Prop :=
 ∀ (pins:List (Addr × Obj)) (s:Shared) (σ:St) (H:Hp) (Q:VK),Inv X pins σ H s->t σ H Q ->
  wpAny (model X.prog X.w) X.A (eval a X.env) (λv s₁=>wpAny (model X.prog X.w) X.A (eval b X.env) (λu s₂=>wpAny (model X.prog X.w) X.A (compareOp op v u) (EP X pins σ Q) X.xe s₂) X.xe s₁) X.xe s
theorem zg1 (b:Expr){op:CmpOp}(h:op≠.In)(h2:op≠.NotIn):behindInMarks op b=false:=by
 have e1:(op == CmpOp.In)=false:=by cases op <;> first | rfl | exact absurd rfl h
 have e2:(op == CmpOp.NotIn)=false:=by cases op <;> first | rfl | exact absurd rfl h2
 cases b <;> simp[behindInMarks,e1,e2]
def tB (t:TE):TT:=fun σ H Q=>t σ H λx H1=>∃ c,x=.bl c/\Q c H1
theorem pt_cmp {op:CmpOp}{t:TE}(h:PC X op a b t)(h1:behindInMarks op b=false:=by first | exact zg1 _ (by decide) (by decide) | rfl):PT X (.Compare a [op] [b] pos) (tB t):=by
 intro pins s σ H Q I hw
 refine wpAny_isTrue_Compare1 (thn (h pins s σ H _ I hw) λv s1 h1=>thn h1 λu s2 h2=>thn h2 λc s3 hh9=>?_) h1
 obtain⟨x,H1,I1,r1,q1⟩:=hh9
 obtain⟨d,rfl,q⟩:=q1
 cases r1
 exact u1c ⟨H1,I1,q⟩
theorem zlc {e:Expr}{t:TE}(h:PE X e t)(he:∀ whole,isTrue e X.env whole=(do let v<-whole;standAt e.pos;holding [v] (truthy v)):=by intro _;rfl):PT X e (tB t):=by
 intro pins s σ H Q I hw
 refine isTrue_plain (thn (h pins s σ H _ I hw) λv s1 hh9=>?_) (he _)
 obtain⟨x,H1,I1,r1,q1⟩:=hh9
 obtain⟨d,rfl,q⟩:=q1
 cases r1
 exact u1c ⟨H1,I1,q⟩
variable {tA tB':TT}{rest:List Expr}
def tAnd (t u:TT):TT:=fun σ H Q=>t σ H λc H1=>if c=true then u σ H1 Q else Q false H1
def tOr (t u:TT):TT:=fun σ H Q=>t σ H λc H1=>if c=true then Q true H1 else u σ H1 Q
def tNot (t:TT):TT:=fun σ H Q=>t σ H λc H1=>Q (!c) H1
theorem ziF (ha:PT X a tA):PW X (.BoolOp .And [a] pos) tA:=by
 intro wh pins s σ H Q I h
 refine isTrue_and (thn (ha pins s σ H Q I h) λc s1 e=>?_)
 cases c with
 | true=>exact isTrue_and_nil e
 | false=>exact e
theorem zjZ (ha:PT X a tA):PW X (.BoolOp .Or [a] pos) tA:=by
 intro wh pins s σ H Q I h
 refine isTrue_or (thn (ha pins s σ H Q I h) λc s1 e=>?_)
 cases c with
 | false=>exact isTrue_or_nil e
 | true=>exact e
theorem zlh (ha:PT X a tA)(hb:PW X (.BoolOp .And (b::rest) pos) tB'):PW X (.BoolOp .And (a::b::rest) pos) (tAnd tA tB'):=by
 intro wh pins s σ H Q I h
 refine isTrue_and (thn (ha pins s σ H _ I h) λc s1 hh9=>?_)
 obtain⟨H1,I1,q1⟩:=hh9
 cases c with
 | true=>exact hb wh pins s1 σ H1 Q I1 q1
 | false=>exact⟨H1,I1,q1⟩
theorem zmf (ha:PT X a tA)(hb:PW X (.BoolOp .Or (b::rest) pos) tB'):PW X (.BoolOp .Or (a::b::rest) pos) (tOr tA tB'):=by
 intro wh pins s σ H Q I h
 refine isTrue_or (thn (ha pins s σ H _ I h) λc s1 hh9=>?_)
 obtain⟨H1,I1,q1⟩:=hh9
 cases c with
 | true=>exact⟨H1,I1,q1⟩
 | false=>exact hb wh pins s1 σ H1 Q I1 q1
theorem zld (ha:PT X a tA):PT X (.UnaryOp .Not a pos) (tNot tA):=by
 intro pins s σ H Q I h
 exact isTrue_not (ha pins s σ H (λc H1=>Q (!c) H1) I h)
def zmF (ta tb:TE):TE:=fun σ H Q=>ta σ H λx H1=>∃ c,x=.bl c/\if c=true then tb σ H1 Q else Q (.bl false) H1
def zml (ta:TE):TE:=fun σ H Q=>ta σ H λx H1=>∃ c,x=.bl c/\Q (.bl (!c)) H1
theorem zlT {op}{t:TE}(h:PE X a t):PE X (.BoolOp op [a] pos) t:=λpins s σ H Q I hw=>BoolOp_one (h pins s σ H Q I hw)
theorem zks (ha:PE X a ta)(hb:PE X (.BoolOp .And (b::rest) pos) tb):PE X (.BoolOp .And (a::b::rest) pos) (zmF ta tb):=by
 intro pins s σ H Q I h
 refine BoolOp_and (thn (ha pins s σ H _ I h) λv s1 hh9=>?_)
 obtain⟨x,H1,I1,r1,q1⟩:=hh9
 obtain⟨c,rfl,q1⟩:=q1
 cases r1
 refine u1c ?_
 cases c with
 | true=>exact hb pins s1 σ H1 Q I1 q1
 | false=>exact⟨.bl false,H1,I1,rfl,q1⟩
theorem zkB (ha:PE X a ta):PE X (.UnaryOp .Not a pos) (zml ta):=by
 intro pins s σ H Q I h
 refine UnaryOp_ (thn (ha pins s σ H _ I h) λv s1 hh9=>?_)
 obtain⟨x,H1,I1,r1,q1⟩:=hh9
 obtain⟨c,rfl,q1⟩:=q1
 cases r1
 exact not_of (u1c ⟨.bl (!c),H1,I1,rfl,q1⟩)
end
def SqL (K:W.Frag)(H:Hp)(a:Addr)(xs:List V):Prop :=
 Rd H a (.lst xs) \/
  ∃ (o:Obj) (its:Array Value) (n:Nat),K.lookup a=some o/\o.cls=.type "list"/\o.dict=none/\o.data=.seq its n/\its.size<=sizeLine/\yd xs its.toList
def SqT (K:W.Frag)(H:Hp)(a:Addr)(xs:List V):Prop :=
 Rd H a (.tup xs) \/
  ∃ (o:Obj) (its:Array Value) (n:Nat),K.lookup a=some o/\o.cls=.type "tuple"/\o.data=.seq its n/\its.size<=sizeLine/\yd xs its.toList
def absV:Value->Option V
 | .none=>some .non
 | .bool b=>some (.bl b)
 | .int i _=>some (.int i)
 | .str x _=>some (.str x)
 | .bytes b _=>some (.byt b)
 | .float b _=>some (.flt b)
 | .ref a=>some (.ref a)
 | .type n=>some (.ty n)
 | _=>none
theorem yG.abs {x:V}{u:Value}(r:yG x u):absV u=some x:=by
 cases x with
 | non=>cases r;rfl
 | bl _=>cases r;rfl
 | int _=>obtain⟨t,rfl⟩:=r;rfl
 | str _=>obtain⟨t,rfl⟩:=r;rfl
 | byt _=>obtain⟨t,rfl⟩:=r;rfl
 | flt _=>obtain⟨t,rfl⟩:=r;rfl
 | ref _=>cases r;rfl
 | ty _=>cases r;rfl
theorem yG.inj {x y:V}{u:Value}(r:yG x u)(q:yG y u):x=y:=p9 (r.abs.symm.trans q.abs)
theorem yd.inj:∀ {xs ys:List V} {us:List Value},yd xs us->yd ys us->xs=ys:=by
 intro xs ys us h
 induction h generalizing ys with
 | nil=>intro h2;cases h2;rfl
 | cons r t ih=>intro h2;cases h2 with | cons r' t'=>rw[r.inj r',ih t']
section
variable {X:Cx}{pins:List (Addr × Obj)}{σ:St}{H:Hp}{s:Shared}{a:Addr}{xs ys:List V}
theorem SqL.of {K:W.Frag}(h:H a=some (.lst xs)):SqL K H a xs:=.inl (.inl h)
theorem SqT.of {K:W.Frag}(h:H a=some (.tup xs)):SqT K H a xs:=.inl (.inl h)
theorem Inv.list (I:Inv X pins σ H s)(h:SqL X.K H a xs):∃ its:List Value,yd xs its/\PlainL s.heap a its.toArray/\xs.length<=sizeLine:=by
 rcases h with h | ⟨o,its,n,hk,hc,hd,hs,hz,r⟩
 .obtain⟨z,its,n,r,e⟩:=h.ok I.hok
  exact⟨its,r,⟨_,n,e,rfl,rfl,rfl⟩,z⟩
 .refine⟨its.toList,r,⟨o,n,I.kIn a o hk,hc,hd,by simpa using hs⟩,?_⟩
  have e:=r.length
  simp only[t9]at e
  omega
theorem Inv.tuple (I:Inv X pins σ H s)(h:SqT X.K H a xs):∃ its:List Value,yd xs its/\IsTup s.heap a its.toArray/\xs.length<=sizeLine:=by
 rcases h with h | ⟨o,its,n,hk,hc,hs,hz,r⟩
 .obtain⟨z,its,r,p⟩:=h.ok I.hok
  exact⟨its,r,p,z⟩
 .refine⟨its.toList,r,⟨o,I.kIn a o hk,hc,n,by simpa using hs⟩,?_⟩
  have e:=r.length
  simp only[t9]at e
  omega
theorem Inv.list_inj (I:Inv X pins σ H s)(h:SqL X.K H a xs)(h':SqL X.K H a ys):xs=ys:=by
 obtain⟨its,r,⟨o,n,e,_,_,d⟩,_⟩:=I.list h
 obtain⟨its',r',⟨o',n',e',_,_,d'⟩,_⟩:=I.list h'
 rw[e]at e';cases e'
 rw[d]at d'
 injection d' with d1 _
 have:its=its':=by simpa using u1d Array.toList d1
 subst this
 exact r.inj r'
theorem Inv.tuple_inj (I:Inv X pins σ H s)(h:SqT X.K H a xs)(h':SqT X.K H a ys):xs=ys:=by
 obtain⟨its,r,⟨o,e,_,n,d⟩,_⟩:=I.tuple h
 obtain⟨its',r',⟨o',e',_,n',d'⟩,_⟩:=I.tuple h'
 rw[e]at e';cases e'
 rw[d]at d'
 injection d' with d1 _
 have:its=its':=by simpa using u1d Array.toList d1
 subst this
 exact r.inj r'
end
abbrev Cx.wish (X:Cx)(E:Value->Shared->Prop):Cx:={ X with xe:=E }
abbrev Cx.nox (X:Cx):Cx:=X.wish λ_ _=>False
theorem Cx.Ok.wish {X:Cx}(ok:X.Ok)(E:Value->Shared->Prop):(X.wish E).Ok :=
 ⟨ok.mod,ok.kind,ok.glob,ok.blt,ok.above,ok.inj,ok.has,ok.cab,ok.hd,ok.frames,ok.stk,ok.exf,ok.bs,ok.bsz,ok.noex,ok.exfs,ok.funs,ok.frf⟩
theorem Cx.Ok.unwish {X:Cx}{E:Value->Shared->Prop}(ok:(X.wish E).Ok):X.Ok :=
 ⟨ok.mod,ok.kind,ok.glob,ok.blt,ok.above,ok.inj,ok.has,ok.cab,ok.hd,ok.frames,ok.stk,ok.exf,ok.bs,ok.bsz,ok.noex,ok.exfs,ok.funs,ok.frf⟩
section
variable {X:Cx}{pins:List (Addr × Obj)}{σ:St}{H:Hp}{s:Shared}{E:Value->Shared->Prop}
theorem Inv.wish (I:Inv X pins σ H s)(E:Value->Shared->Prop):Inv (X.wish E) pins σ H s:=⟨I.ok.wish E,I.os,I.bare,I.base,I.loc,I.cell,I.free,I.freeC,I.pin,I.hok,I.len⟩
theorem Inv.unwish (I:Inv (X.wish E) pins σ H s):Inv X pins σ H s:=⟨I.ok.unwish,I.os,I.bare,I.base,I.loc,I.cell,I.free,I.freeC,I.pin,I.hok,I.len⟩
theorem SP.unwish {D:zgJ}{f:Flow}{s':Shared}(h:SP (X.wish E) pins D f s'):SP X pins D f s':=by
 cases f with
 | next=>obtain⟨σ',H',I,q⟩:=h;exact⟨σ',H',I.unwish,q⟩
 | brk=>obtain⟨σ',H',I,q⟩:=h;exact⟨σ',H',I.unwish,q⟩
 | cont=>obtain⟨σ',H',I,q⟩:=h;exact⟨σ',H',I.unwish,q⟩
 | ret u=>obtain⟨v,σ',H',I,r,q⟩:=h;exact⟨v,σ',H',I.unwish,r,q⟩
theorem PSs.nox {st:List Stmt}{t:TS}(h:PSs X.nox st t):PSs X st t:=λpins s σ H D I hw =>
 u1C (h pins s σ H D (I.wish _) hw) (λ_ _ q=>q.unwish) λ_ _ z=>False.elim z
end
section
variable {X:Cx}{st:Stmt}{rest:List Stmt}{t u:TS}{e:Expr}{te:TE}{pos:Pos}
def zmI:TS:=λD σ H=>D.nx σ H
def tSeq (t u:TS):TS:=λD σ H=>t { D with nx:=u D } σ H
theorem ziD:PSs X [] zmI:=λ_ _ σ H _ I h=>u3n ⟨σ,H,I,h⟩
theorem zhk (h1:PS X st t)(h2:PSs X rest u):PSs X (st::rest) (tSeq t u):=by
 intro pins s σ H D I h
 refine wpAny_execs_cons (thn (h1 pins s σ H { D with nx:=u D } I h) λf s1 q=>?_)
 cases f with
 | next =>
  obtain⟨σ',H',I',q⟩:=q
  exact h2 pins s1 σ' H' D I' q
 | ret v=>exact q
 | brk=>exact q
 | cont=>exact q
theorem zjF (h1:PS X st t):PSs X [st] t:=by
 intro pins s σ H D I h
 refine wpAny_execs_cons (thn (h1 pins s σ H D I h) λf s1 q=>?_)
 cases f with
 | next=>exact u3n q
 | ret v=>exact q
 | brk=>exact q
 | cont=>exact q
theorem Inv.quiet {pins:List (Addr × Obj)}{σ:St}{H:Hp}{s:Shared}(I:Inv X pins σ H s):interactive X.env=false:=by simp[interactive,I.ok.kind]
def zmh (te:TE):TS:=λD σ H=>te σ H λ_ H1=>D.nx σ H1
theorem zbu (he:PE X e te)(hs:swapsWith e none pos.line X.env=pure false:=by rfl):PS X (.Expr e pos) (zmh te):=by
 intro pins s σ H D I h
 exact wpAny_Expr_any (thn (he pins s σ H _ I h) λv s1 ⟨x,H1,I1,r1,q1⟩=>⟨σ,H1,I1,q1⟩) I.quiet hs
def tRet (te:TE):TS:=λD σ H=>te σ H D.rt
theorem zlU (he:PE X e te):PS X (.Return (some e) pos) (tRet te):=by
 intro pins s σ H D I h
 exact wpAny_Return_some (thn (he pins s σ H _ I h) λv s1 ⟨x,H1,I1,r1,q1⟩=>⟨x,σ,H1,I1,r1,q1⟩)
def tIfS (c:TT)(t u:TS):TS:=λD σ H=>c σ H λb H1=>if b=true then t D σ H1 else u D σ H1
theorem zmz {c:Expr}{a b:List Stmt}{tc:TT}(hc:PT X c tc)(ha:PSs X a t)(hb:PSs X b u):PS X (.If c a b pos) (tIfS tc t u):=by
 intro pins s σ H D I h
 refine wpAny_If (thn (hc pins s σ H _ I h) λd s1 hh9=>?_)
 obtain⟨H1,I1,q1⟩:=hh9
 cases d with
 | true=>exact ha pins s1 σ H1 D I1 q1
 | false=>exact hb pins s1 σ H1 D I1 q1
def zlV:TS:=λ_ _ _=>False
theorem zgr:PS X st zlV:=λ_ _ _ _ _ _ h=>h.elim
end
abbrev TG:=V->St->Hp->(St->Hp->Prop)->Prop
abbrev TGs:=List V->St->Hp->(St->Hp->Prop)->Prop
def PG (X:Cx)(target:Expr)(t:TG):Prop :=
 ∀ (pins:List (Addr × Obj)) (s:Shared) (σ:St) (H:Hp) (v:V) (u:Value) (Q:St->Hp->Prop),Inv X pins σ H s->yG v u->t v σ H Q ->
  wpAny (model X.prog X.w) X.A (assign target X.env u) (λ_ s'=>∃ σ' H',Inv X pins σ' H' s'/\Q σ' H') X.xe s
def PGs (X:Cx)(ts:List Expr)(t:TGs):Prop :=
 ∀ (pins:List (Addr × Obj)) (s:Shared) (σ:St) (H:Hp) (vs:List V) (us:List Value) (Q:St->Hp->Prop),Inv X pins σ H s->yd vs us->t vs σ H Q ->
  wpAny (model X.prog X.w) X.A (assignInOrder ((assignEach ts X.env).map (·.2)) us) (λ_ s'=>∃ σ' H',Inv X pins σ' H' s'/\Q σ' H') X.xe s
abbrev zmS:=V->V->V->Hp->(Hp->Prop)->Prop
def PSet (X:Cx)(t:zmS):Prop :=
 ∀ (pins:List (Addr × Obj)) (s:Shared) (σ:St) (H:Hp) (o i v:V) (ov iv u:Value) (Q:Hp->Prop),Inv X pins σ H s->yG o ov->yG i iv->yG v u->t o i v H Q ->
  wpAny (model X.prog X.w) X.A (setItem ov iv u) (λ_ s'=>∃ H',Inv X pins σ H' s'/\Q H') X.xe s
section
variable {X:Cx}{pos:Pos}
def Y6 (i:Nat):TG:=λv σ H Q=>Q (σ.set i (some v)) H
theorem zq {i:Nat}{x:Str}(hN:X.N.Nodup)(hi:X.N[i]?=some x)(hx:Loc X.env.scope x)(hf:X.fn x=true\/X.env.scope.names.lookup x=some .local:=by first | exact .inl rfl | exact .inr rfl | assumption):PG X (.Name x pos) (Y6 i):=by
 intro pins s σ H v u Q I r h
 exact wpAny_assign_Name (zbR I hN hi hx r (λs' I'=>⟨_,H,I',h⟩) hf)
def zl2:TGs:=λvs σ H Q=>vs=[]/\Q σ H
def zbi (t:TG)(u:TGs):TGs:=λvs σ H Q=>∃ v r,vs=v::r/\t v σ H fun σ' H'=>u r σ' H' Q
theorem XV:PGs X [] zl2:=by
 intro pins s σ H vs us Q I r h
 obtain⟨e,h⟩:=h
 subst e
 cases r
 exact assignInOrder_nil ⟨σ,H,I,h⟩
theorem wt {e:Expr}{es:List Expr}{t:TG}{u:TGs}(h1:PG X e t)(h2:PGs X es u)
 (hs:(assignEach (e::es) X.env).map (·.2)=assign e X.env::(assignEach es X.env).map (·.2):=by rfl):PGs X (e::es) (zbi t u):=by
 intro pins s σ H vs us Q I r h
 obtain⟨v,vr,e1,h⟩:=h
 subst e1
 cases r with
 | cons r rr =>
  rw[hs]
  refine assignInOrder_cons (thn (h1 pins s σ H _ _ _ I r h) λ_ s1 hh9=>?_)
  obtain⟨σ1,H1,I1,q1⟩:=hh9
  exact h2 pins s1 σ1 H1 _ _ Q I1 rr q1
def zl7 (K:W.Frag)(n:Nat)(t:TGs):TG:=λv σ H Q=>∃ a xs,v=.ref a/\SqT K H a xs/\xs.length=n/\t xs σ H Q
theorem V9 {es:List Expr}{k:Nat}{t:TGs}{n:Nat}(hc:X.calm=true)(h:PGs X es t)
 (hn:(assignEach es X.env).length=n:=by rfl) (hst:(assignEach es X.env).findIdx? (·.1)=none:=by rfl):PG X (.Tuple es k pos) (zl7 X.K n t):=by
 intro pins s σ H v u Q I r hw
 obtain⟨a,xs,e1,hq,hl,hw⟩:=hw
 subst e1
 cases r
 obtain⟨its,rv,ht,hz⟩:=I.tuple hq
 refine assign_Tuple_tuple (I.ok.hd hc) ht (by simp[hn,<- hl,rv.length]) hst λh' hx=>?_
 have I1:Inv X pins σ H { s with heap:=h' }:=I.kept (t':=s.toks) λb o e=>hx b o (j9 (t4 e)) e
 exact h pins _ σ H xs _ Q I1 (by simpa using rv) hw
def gSub (to ti:TE)(t:zmS):TG:=λv σ H Q=>to σ H λo H1=>ti σ H1 λi H2=>t o i v H2 λH3=>Q σ H3
theorem zkm {o i:Expr}{to ti:TE}{t:zmS}(ho:PE X o to)(hi:PE X i ti)(hs:PSet X t)
 (ha:∀ v,assign (.Subscript o i pos) X.env v=(do
  let ov<-holding [v] (eval o X.env)
  let iv<-holding [v,ov] (eval i X.env)
  standAt pos
  holding [v,ov,iv] (setItem ov iv v)
  release [v,ov,iv] []):=by intro _;rfl):PG X (.Subscript o i pos) (gSub to ti t):=by
 intro pins s σ H v u Q I r h
 rw[ha]
 refine u0 (u0n (thn (ho pins s σ H _ I h) λov s1 hh9=>?_))
 obtain⟨x,H1,I1,r1,q1⟩:=hh9
 refine u0 (u0n (thn (hi pins s1 σ H1 _ I1 q1) λiv s2 hh9=>?_))
 obtain⟨y,H2,I2,r2,q2⟩:=hh9
 refine u0 (wpAny_standAt (u0 (u0n (thn (hs pins s2 σ H2 x y v ov iv u _ I2 r1 r2 r q2) λ_ s3 hh9=>?_))))
 obtain⟨H3,I3,q3⟩:=hh9
 exact wpAny_release ⟨σ,H3,I3,q3⟩
def zly (te:TE)(g:TG):TS:=λD σ H=>te σ H λx H1=>g x σ H1 D.nx
theorem zkh {tg e:Expr}{te:TE}{g:TG}(he:PE X e te)(hg:PG X tg g)(hs:swapsWithSole [tg] e pos.line X.env=pure false:=by rfl)(hw:swappedStores [tg] e X.env=pure none:=by rfl)
 (h1:(assignEach [tg] X.env).map (·.2)=[assign tg X.env]:=by rfl):PS X (.Assign [tg] e pos) (zly te g):=by
 intro pins s σ H D I h
 refine wpAny_Assign_stores (thn (he pins s σ H _ I h) λv s1 hh9=>?_) hs hw
 obtain⟨x,H1,I1,r1,q1⟩:=hh9
 rw[h1]
 exact thn (hg pins s1 σ H1 x v _ I1 r1 q1) λ_ s2 q=>q
theorem V0 {i:Nat}{x:Str}{e:Expr}{te:TE}{pos':Pos}(hN:X.N.Nodup)(hi:X.N[i]?=some x)(hx:Loc X.env.scope x)(he:PE X e te)(hs:swapsWith e (some (.Name x pos')) pos.line X.env=pure false:=by rfl)(hf:X.fn x=true\/X.env.scope.names.lookup x=some .local:=by first | exact .inl rfl | exact .inr rfl | assumption) :
 PS X (.Assign [.Name x pos'] e pos) (zly te (Y6 i)):=by
 intro pins s σ H D I h
 refine wpAny_Assign_Name (thn (he pins s σ H _ I h) λv s1 hh9=>?_) hs
 obtain⟨y,H1,I1,r1,q1⟩:=hh9
 exact zbR I1 hN hi hx r1 (λs2 I2=>⟨_,H1,I2,q1⟩) hf
def zkV (c:TT)(tb:TS):TS:=λD σ H=>∃ W:Nat->St->Hp->Prop,(∃ m,W m σ H)/\∀ m σ H,W m σ H ->
 c σ H λb H1=>if b=true then ∃ N:St->Hp->Prop,(∀ σ' H',N σ' H'->∃ m',m' < m/\W m' σ' H')/\tb { D with nx:=N,ct:=N,bk:=D.nx } σ H1 else D.nx σ H1
theorem zgu {c:Expr}{body:List Stmt}{tc:TT}{tb:TS}(hp:PassesOwn (model X.prog X.w) X.A X.env X.xe)(hc:PT X c tc)(hb:PSs X body tb):PS X (.While c body [] pos) (zkV tc tb):=by
 intro pins s σ H D I h
 obtain⟨W,⟨m0,w0⟩,turn⟩:=h
 refine wpAny_While (codeAny_whileLoop (λn s'=>∃ σ' H',Inv X pins σ' H' s'/\W n σ' H') ?_ m0 ⟨σ,H,I,w0⟩)
 rintro n s1 ⟨σ1,H1,I1,w1⟩
 refine u1O hp (thn (hc pins s1 σ1 H1 _ I1 (turn n σ1 H1 w1)) λb s2 hh9=>?_)
 obtain⟨H2,I2,q2⟩:=hh9
 cases b with
 | true =>
  obtain⟨N,hN,q2⟩:=q2
  rw[t7 rfl]
  refine u1O hp (thn (hb pins s2 σ1 H2 _ I2 q2) λf s3 q3=>?_)
  cases f with
  | next =>
   obtain⟨σ3,H3,I3,n3⟩:=q3
   obtain⟨m',hm,w3⟩:=hN σ3 H3 n3
   exact⟨m',hm,σ3,H3,I3,w3⟩
  | cont =>
   obtain⟨σ3,H3,I3,n3⟩:=q3
   obtain⟨m',hm,w3⟩:=hN σ3 H3 n3
   exact⟨m',hm,σ3,H3,I3,w3⟩
  | brk=>exact q3
  | ret v=>exact q3
 | false =>
  rw[j7 u8]
  exact u3n ⟨σ1,H2,I2,q2⟩
end
structure It where
 go:Nat->Hp->Prop
 yld:Nat->Hp->V->Hp->Prop
 stop:Nat->Hp->Prop
def zaT (X:Cx)(pins:List (Addr × Obj))(H:Hp)(b:Addr):Prop :=
 H b=none/\b≠X.env.locals/\b∉X.fs/\(b∈X.ex\/X.s₀.heap.objs.size<=b)/\(∀ x c,X.env.cells.lookup x=some c->c≠b)/\∀ p∈X.pn++pins,p.1≠b
theorem Inv.fpOk {X:Cx}{pins:List (Addr × Obj)}{σ:St}{H H':Hp}{s:Shared}{b:Addr}(I:Inv X pins σ H s)(hb:s.heap.objs.size<=b)(hn:H' b=none):zaT X pins H' b:=by
 refine⟨hn,u1S (r8 I.lt hb),I.nofs hb,.inr (b9 I.sz hb),λx c e z=>?_,λp hp z=>?_⟩
 .obtain⟨v,q⟩:=I.cell x c e
  exact absurd (r8 q.lt (by rw[z];exact hb)) (u0J _)
 .exact absurd (r8 (t4 (I.pin p hp).1) (by rw[z];exact hb)) (u0J _)
structure zhN (P:Program) (w:World) (K:W.Frag) (tg:Expr) (J:It) (fp:List Addr) (it:Addr) (tn:Nat->Heap->Prop):Prop where
 mem:it∈fp
 obj:∀ i h,tn i h->∀ b∈fp,∃ o,h.get? b=some o/\∀ v,o.data≠.cell v
 keep:∀ i h h',tn i h->(∀ b∈fp,∀ o,h.get? b=some o->h'.get? b=some o)->tn i h'
 item:∀ (X:Cx),X.prog=P->X.w=w->X.K=K->X.calm=true->∀ (i:Nat) (pins:List (Addr × Obj)) (s:Shared) (σ:St) (H:Hp) (E:Value->Shared->Prop),Inv X pins σ H s->(∀ b∈fp,zaT X pins H b)->tn i s.heap->J.go i H ->
  wpAny (model P w) X.A (pyNext (.ref it)) (λr s1=>∃ u,r=some u /\
   wpAny (model P w) X.A (letOwnedTupleGo tg (.ref it) u) (λ_ s2=>∃ x H',Inv X pins σ H' s2/\yG x u/\J.yld i H x H'/\tn (i+1) s2.heap/\∀ b∈fp,H' b=none) E s1) E s
 done:∀ (X:Cx),X.prog=P->X.w=w->X.K=K->X.calm=true->∀ (i:Nat) (pins:List (Addr × Obj)) (s:Shared) (σ:St) (H:Hp) (E:Value->Shared->Prop),Inv X pins σ H s->(∀ b∈fp,zaT X pins H b)->tn i s.heap->J.stop i H ->
  wpAny (model P w) X.A (pyNext (.ref it)) (λr s1=>r=none/\Inv X pins σ H s1) E s
 self:∀ (A:Around) (i:Nat) (s:Shared) (Q:Value->Shared->Prop) (E:Value->Shared->Prop),tn i s.heap->Q (.ref it) s->wpAny (model P w) A (pyIter (.ref it)) Q E s
abbrev TI:=St->Hp->(It->Hp->Prop)->Prop
def PIE (X:Cx)(pins:List (Addr × Obj))(σ:St)(tg:Expr)(R:It->Hp->Prop)(itv:Value)(s2:Shared):Prop :=
 ∃ (it:Addr) (fp:List Addr) (tn:Nat->Heap->Prop) (J:It) (H':Hp),itv=.ref it/\Inv X pins σ H' s2/\zhN X.prog X.w X.K tg J fp it tn/\tn 0 s2.heap/\(∀ b∈fp,zaT X pins H' b)/\R J H'
def PI (X:Cx)(tg iter:Expr)(wi:TI):Prop :=
 ∀ (pins:List (Addr × Obj)) (s:Shared) (σ:St) (H:Hp) (R:It->Hp->Prop),Inv X pins σ H s->wi σ H R ->
  wpAny (model X.prog X.w) X.A (eval iter X.env) (λv s1=>wpAny (model X.prog X.w) X.A (pyIter v) (PIE X pins σ tg R) X.xe s1) X.xe s
theorem zgW {M:Model}{A:Around}{E:Value→Shared→Prop}{s:Shared}{tg:Expr}{it:Addr}{u:Value}{o:Obj}{n:String}{vs:Array Value}{Q:Unit→Shared→Prop}(ho:s.heap.get? it=some o)(hc:o.cls=.type n)(hd:o.data=.fields vs)
    (hn:["enumerate","zip","dict_itemiterator","dict_reverseitemiterator","odict_iterator","itertools.zip_longest","itertools.pairwise"].contains n=false) (hQ:Q () s):wpAny M A (letOwnedTupleGo tg (.ref it) u) Q E s:=by
  unfold letOwnedTupleGo
  cases tg <;> first
    | exact u5 hQ
    | (cases u <;> first
        | exact u5 hQ
        | (refine u0 (wpAny_load ho ?_)
           rw [hc,hd]
           show wpAny M A (if (["enumerate","zip","dict_itemiterator","dict_reverseitemiterator","odict_iterator","itertools.zip_longest","itertools.pairwise"].contains n&&vs[0]? == some (rawInt _))=true then _ else _) Q E s
           rw [j7 (by intro h;rw [hn,Bool.false_and] at h;cases h)]
           exact u5 hQ))
def Itl (K:W.Frag)(a:Addr):It :=
 ⟨λi H=>∃ xs x,SqL K H a xs/\xs[i]?=some x,λi H x H'=>H'=H/\∀ xs,SqL K H a xs->xs[i]?=some x,λi H=>∃ xs,SqL K H a xs/\xs.length<=i⟩
def Itt (K:W.Frag)(a:Addr):It :=
 ⟨λi H=>∃ xs x,SqT K H a xs/\xs[i]?=some x,λi H x H'=>H'=H/\∀ xs,SqT K H a xs->xs[i]?=some x,λi H=>∃ xs,SqT K H a xs/\xs.length<=i⟩
def Itr (lo:Int)(n:Nat):It:=⟨λi _=>i < n,λi H x H'=>H'=H/\x=.int (lo+i),λi _=>n<=i⟩
theorem zd9 {P:Program}{w:World}{K:W.Frag}{tg:Expr}(a it:Addr):zhN P w K tg (Itl K a) [it] it (λi h=>h.IsListIter it a i) where
 mem:=by simp
 obj:=λi h st b hb=>by
  have e:b=it:=by simpa using hb
  subst e
  obtain⟨o,e,c,d⟩:=st
  exact⟨o,e,λv z=>by rw[d]at z;cases z⟩
 keep:=λi h h' st k=>st.at λo e=>k it (by simp) o e
 item:=by
  intro X hP hw hK hc i pins s σ H E I hf st hg
  subst hP hw hK
  obtain⟨xs,x,hq,hx⟩:=hg
  obtain⟨its,rv,p,hz⟩:=I.list hq
  obtain⟨u,hu,ru⟩:=rv.get hx
  obtain⟨f0,f1,f2,f3,f4,f5⟩:=hf it (by simp)
  refine wpAny_pyNext_list_item st p.isList (x:=u) (by simpa using hu) λh' st' sb=>?_
  have I1:Inv X pins σ H { s with heap:=h' }:=I.turned (t':=s.toks) (λb o hb e=>(sb.2 b hb).trans e) f0 f1 f3 f4 f5
  obtain⟨o,e,c,d⟩:=id st'
  exact⟨u,rfl,zgW (s:={ s with heap:=h' }) e c d (by decide) ⟨x,H,I1,ru,⟨rfl,λys hy=>by rw[I.list_inj hy hq];exact hx⟩,st',λb hb=>(hf b hb).1⟩⟩
 done:=by
  intro X hP hw hK hc i pins s σ H E I hf st hg
  subst hP hw hK
  obtain⟨xs,hq,hx⟩:=hg
  obtain⟨its,rv,p,hz⟩:=I.list hq
  obtain⟨f0,f1,f2,f3,f4,f5⟩:=hf it (by simp)
  have hl:=rv.length
  exact wpAny_pyNext_list_end (I.ok.hd hc) st p.isList (by simp;omega) λh' eb=>⟨rfl,I.turned (t':=s.toks) (λb o hb e=>eb b o hb e) f0 f1 f3 f4 f5⟩
 self:=λ_ _ _ _ _ st h=>wpAny_pyIter_listiter st h
theorem zdj {P:Program}{w:World}{K:W.Frag}{tg:Expr}(a it:Addr):zhN P w K tg (Itt K a) [it] it (λi h=>h.IsTupleIter it a i) where
 mem:=by simp
 obj:=λi h st b hb=>by
  have e:b=it:=by simpa using hb
  subst e
  obtain⟨o,e,c,d⟩:=st
  exact⟨o,e,λv z=>by rw[d]at z;cases z⟩
 keep:=λi h h' st k=>st.at λo e=>k it (by simp) o e
 item:=by
  intro X hP hw hK hc i pins s σ H E I hf st hg
  subst hP hw hK
  obtain⟨xs,x,hq,hx⟩:=hg
  obtain⟨its,rv,p,hz⟩:=I.tuple hq
  obtain⟨u,hu,ru⟩:=rv.get hx
  obtain⟨f0,f1,f2,f3,f4,f5⟩:=hf it (by simp)
  refine wpAny_pyNext_tuple_item st (show s.heap.IsTuple a its.toArray from p) (x:=u) (by simpa using hu) λh' st' sb=>?_
  have I1:Inv X pins σ H { s with heap:=h' }:=I.turned (t':=s.toks) (λb o hb e=>(sb.2 b hb).trans e) f0 f1 f3 f4 f5
  obtain⟨o,e,c,d⟩:=id st'
  exact⟨u,rfl,zgW (s:={ s with heap:=h' }) e c d (by decide) ⟨x,H,I1,ru,⟨rfl,λys hy=>by rw[I.tuple_inj hy hq];exact hx⟩,st',λb hb=>(hf b hb).1⟩⟩
 done:=by
  intro X hP hw hK hc i pins s σ H E I hf st hg
  subst hP hw hK
  obtain⟨xs,hq,hx⟩:=hg
  obtain⟨its,rv,p,hz⟩:=I.tuple hq
  obtain⟨f0,f1,f2,f3,f4,f5⟩:=hf it (by simp)
  have hl:=rv.length
  exact wpAny_pyNext_tuple_end (I.ok.hd hc) st (show s.heap.IsTuple a its.toArray from p) (by simp;omega) λh' eb=>⟨rfl,I.turned (t':=s.toks) (λb o hb e=>eb b o hb e) f0 f1 f3 f4 f5⟩
 self:=λ_ _ _ _ _ st h=>wpAny_pyIter_tupleiter st h
theorem zdf {P:Program}{w:World}{K:PySem.W.Frag}{tg:Expr}(it:Addr)(lo:Int)(n:Nat):zhN P w K tg (Itr lo n) [it] it (λi h=>IsRangeIter h it (lo+(i:Nat)*1) ((n:Int) - (i:Nat)) 1) where
 mem:=by simp
 obj:=λi h st b hb=>by
  have e:b=it:=by simpa using hb
  subst e
  exact⟨_,st,λv z=>by
   have z':Data.fields _=Data.cell v:=z
   cases z'⟩
 keep:=λi h h' st k=>k it (by simp) _ st
 item:=by
  intro X hP hw hK hc i pins s σ H E I hf st hg
  subst hP hw hK
  obtain⟨f0,f1,f2,f3,f4,f5⟩:=hf it (by simp)
  have W:=Walks.range (prog:=X.prog) (w:=X.w) (I.ok.hd hc) it lo 1 n
  refine W.item i s _ _ hg st λv h' tk hv st' kk=>?_
  obtain⟨t,rfl⟩:=hv
  have I1:Inv X pins σ H { s with heap:=h',toks:=tk }:=I.turned (λb o hb e=>kk b o (by simpa using hb) e) f0 f1 f3 f4 f5
  refine⟨_,rfl,zgW (s:={ s with heap:=h',toks:=tk }) (n:="range_iterator") st' rfl rfl (by decide) ⟨.int (lo+i),H,I1,⟨t,?_⟩,⟨rfl,rfl⟩,st',λb hb=>(hf b hb).1⟩⟩
  rw[Int.mul_one]
 done:=by
  intro X hP hw hK hc i pins s σ H E I hf st hg
  subst hP hw hK
  obtain⟨f0,f1,f2,f3,f4,f5⟩:=hf it (by simp)
  exact wpAny_pyNext_range_end (I.ok.hd hc) st (by have:n<=i:=hg;omega) λh' eb=>⟨rfl,I.turned (t':=s.toks) (λb o hb e=>eb b o hb e) f0 f1 f3 f4 f5⟩
 self:=λ_ _ _ _ _ st h=>wpAny_pyIter_rangeiter st h
section
variable {X:Cx}{tg:Expr}
theorem zcy {pins:List (Addr × Obj)}{σ:St}{H:Hp}{s:Shared}{R:It->Hp->Prop}{E:Value->Shared->Prop}{lo hi:Int}{t u v:Tok}{tk:Nat}(I:Inv X pins σ H s)(h1:-(2 ^ 62)<=lo)(h2:lo < 2 ^ 62)(h3:-(2 ^ 62)<=hi)(h4:hi < 2 ^ 62)
 (q:R (Itr lo (hi - lo).toNat) H):wpAny (model X.prog X.w) X.A (pyIter (.ref s.heap.objs.size)) (PIE X pins σ tg R) E { s with heap:=s.heap.push { cls:=.type "range",data:=.fields #[.int lo t,.int hi u,.int 1 v] },toks:=tk }:=by
 refine wpAny_pyIter_range (IsRange.new ..) (small_one h1 h2 h3 h4) ?_
 have I1:Inv X pins σ H { s with heap:=s.heap.push { cls:=.type "range",data:=.fields #[.int lo t,.int hi u,.int 1 v] },toks:=tk }:=I.kept λb o e=>u3 _ e
 refine⟨(s.heap.push { cls:=.type "range",data:=.fields #[.int lo t,.int hi u,.int 1 v] }).objs.size,[(s.heap.push { cls:=.type "range",data:=.fields #[.int lo t,.int hi u,.int 1 v] }).objs.size],_,_,H,rfl,
  I1.kept (t':=tk) λb o e=>u3 _ e,zdf _ lo (hi - lo).toNat,?_,λb hb=>?_,q⟩
 .have e1:lo+((0:Nat):Int)*1=lo:=by simp
  have e2:(((hi - lo).toNat:Nat):Int) - ((0:Nat):Int)=Builtin.Range.rangeSize lo hi 1:=by rw[rangeSize_one];split <;> omega
  show IsRangeIter _ _ (lo+((0:Nat):Int)*1) ((((hi - lo).toNat:Nat):Int) - ((0:Nat):Int)) 1
  rw[e1,e2]
  exact t6 _ rfl
 .have e:b=(s.heap.push { cls:=.type "range",data:=.fields #[.int lo t,.int hi u,.int 1 v] }).objs.size:=by simpa using hb
  subst e
  exact I1.fpOk (t5 _) (I1.hok.fresh (t5 _))
def zmn (ta:TA):TI:=fun σ H R=>ta σ H λvs H1=>∃ j:Int,vs=[.int j]/\-(2 ^ 62)<=j/\j < 2 ^ 62/\R (Itr 0 j.toNat) H1
def zmj (ta:TA):TI:=fun σ H R=>ta σ H λvs H1=>∃ i j:Int,vs=[.int i,.int j]/\(-(2 ^ 62)<=i/\i < 2 ^ 62/\-(2 ^ 62)<=j/\j < 2 ^ 62)/\R (Itr i (j - i).toNat) H1
theorem zet {a:Expr} {ta:TA} {p pos:Pos} (hg:Gl X "range") (hm:X.mg "range"=none) (ha:PA X [a] ta) (hs:starEach [a] X.env=[(false,eval a X.env)]:=by rfl):PI X tg (.Call (.Name "range" p) [a] [] pos) (zmn ta):=by
 intro pins s σ H R I h
 refine Call_ (Yn I hg hm boot_range (u0E (thn (ha pos pins s σ H _ I h) λus s1 hh9=>?_) hs rfl))
 obtain⟨vs,H1,I1,r1,q1⟩:=hh9
 obtain⟨j,e,q1,q2,q⟩:=q1
 subst e
 cases r1 with
 | cons r rr =>
  cases rr
  obtain⟨t,rfl⟩:=r
  exact call_range_1 (zcy I1 (by omega) (by omega) q1 q2 (by simpa using q))
theorem zay {a b:Expr} {ta:TA} {p pos:Pos} (hg:Gl X "range") (hm:X.mg "range"=none) (ha:PA X [a,b] ta) (hs:starEach [a,b] X.env=[(false,eval a X.env),(false,eval b X.env)]:=by rfl) (hs2:starEach [b] X.env=[(false,eval b X.env)]:=by rfl) :
 PI X tg (.Call (.Name "range" p) [a,b] [] pos) (zmj ta):=by
 intro pins s σ H R I h
 refine Call_ (Yn I hg hm boot_range (u0E (thn (ha pos pins s σ H _ I h) λus s1 hh9=>?_) (by rw[hs,hs2]) (by rw[hs2];rfl)))
 obtain⟨vs,H1,I1,r1,q1⟩:=hh9
 obtain⟨i,j,e,⟨q1,q2,q3,q4⟩,q⟩:=q1
 subst e
 cases r1 with
 | cons r rr =>
  cases rr with
  | cons r' rr =>
   cases rr
   obtain⟨t,rfl⟩:=r
   obtain⟨t',rfl⟩:=r'
   exact call_range_2 (zcy I1 q1 q2 q3 q4 q)
def tFor (wi:TI)(g:TG)(tb:TS):TS:=λD σ H=>wi σ H λJ H1=>∃ W:Nat->Nat->St->Hp->Prop,(∃ m,W 0 m σ H1)/\∀ i m σ H,W i m σ H ->
 (J.stop i H/\D.nx σ H)\/(J.go i H/\∃ N:St->Hp->Prop,(∀ σ' H',N σ' H'->∃ m',m' < m/\W (i+1) m' σ' H')/\∀ x H',J.yld i H x H'->g x σ H' fun σ2 H2=>tb { D with nx:=N,ct:=N,bk:=D.nx } σ2 H2)
def Xd (fp:List Addr)(h:Heap):List (Addr × Obj):=fp.filterMap λb=>(h.get? b).map λo=>(b,o)
theorem xA {fp:List Addr}{h:Heap}{b:Addr}{o:Obj}(hb:b∈fp)(e:h.get? b=some o):(b,o)∈Xd fp h:=List.mem_filterMap.mpr ⟨b,hb,by rw[e];rfl⟩
theorem zeV {fp:List Addr}{h:Heap}{p:Addr × Obj}(hp:p∈Xd fp h):p.1∈fp/\h.get? p.1=some p.2:=by
 obtain⟨b,hb,e⟩:=List.mem_filterMap.mp hp
 cases q:h.get? b with
 | none=>rw[q]at e;cases e
 | some o =>
  rw[q]at e
  have e':(b,o)=p:=p9 e
  subst e'
  exact⟨hb,q⟩
theorem Inv.pinned {pins:List (Addr × Obj)}{σ:St}{H:Hp}{s:Shared}{fp:List Addr}(I:Inv X pins σ H s)(hf:∀ b∈fp,zaT X pins H b)(ho:∀ b∈fp,∃ o,s.heap.get? b=some o/\∀ v,o.data≠.cell v):Inv X (pins++Xd fp s.heap) σ H s :=
 I.pins_of λp hp=>(u0X.mp hp).elim (λz=>I.pin p (p7 _ z)) λz=>by
  obtain⟨hb,e⟩:=zeV z
  obtain⟨f0,f1,f2,_⟩:=hf p.1 hb
  obtain⟨o,e',d⟩:=ho p.1 hb
  rw[e]at e';cases e'
  exact⟨e,f0,f1,f2,d⟩
theorem Inv.unpinned {pins pl:List (Addr × Obj)}{σ:St}{H:Hp}{s:Shared}(I:Inv X (pins++pl) σ H s):Inv X pins σ H s:=I.pins_of λp hp=>I.pin p (p7 _ (List.mem_append_left _ hp))
theorem zdG {iter:Expr}{body:List Stmt}{wi:TI}{g:TG}{tb:TS}{pos:Pos}(hp:PassesOwn (model X.prog X.w) X.A X.env X.xe)(hc:X.calm=true)(hi:PI X tg iter wi)(hg:PG X tg g)(hb:PSs X body tb)
 (hs:∀ x,foldedSetIterable iter X.env x=pure x:=by intro _;rfl):PS X (.For tg iter body [] pos) (tFor wi g tb):=by
 intro pins s σ H D I h
 refine wpAny_For (thn (hi pins s σ H _ I h) λv s1 h1=>thn h1 λitv s2 h2=>?_) hs
 obtain⟨it,fp,tn,J,H2,e,I2,T,st2,f2,W,⟨m0,w0⟩,turn⟩:=h2
 subst e
 -- what stays true of the iterator's objects through the loop
 have stat:∀ {H':Hp},(∀ b∈fp,H' b=none)->∀ b∈fp,zaT X pins H' b:=λhn b hb=>⟨hn b hb,(f2 b hb).2⟩
 refine codeAny_forLoop_any (λn s'=>∃ i σ' H',Inv X pins σ' H' s'/\tn i s'.heap/\(∀ b∈fp,H' b=none)/\W i n σ' H') ?_ m0 ⟨0,σ,H2,I2,st2,λb hb=>(f2 b hb).1,w0⟩
 rintro n s3 ⟨i,σ3,H3,I3,st3,fr3,w3⟩
 rcases turn i n σ3 H3 w3 with ⟨stop,qn⟩ | ⟨go,N,hN,step⟩
 .refine u1O hp (thn (T.done X rfl rfl rfl hc i pins s3 σ3 H3 X.xe I3 (stat fr3) st3 stop) λr s4 hh9=>?_)
  obtain⟨hr,I4⟩:=hh9
  subst hr
  exact u3n ⟨σ3,H3,I4,qn⟩
 .refine u1O hp (thn (T.item X rfl rfl rfl hc i pins s3 σ3 H3 X.xe I3 (stat fr3) st3 go) λr s4 hh9=>?_)
  obtain⟨u,hr,h4⟩:=hh9
  subst hr
  refine u1O hp (thn h4 λ_ s5 hh9=>?_)
  obtain⟨x,H5,I5,r5,y5,st5,fr5⟩:=hh9
  have I5':=I5.pinned (stat fr5) (T.obj _ _ st5)
  refine u1O hp (thn (hg _ s5 σ3 H5 x u _ I5' r5 (step x H5 y5)) λ_ s6 hh9=>?_)
  obtain⟨σ6,H6,I6,q6⟩:=hh9
  refine u1O hp (thn (hb _ s6 σ6 H6 _ I6 q6) λf s7 q7=>?_)
  have again:∀ {σ7:St} {H7:Hp},Inv X (pins++Xd fp s5.heap) σ7 H7 s7->N σ7 H7->∃ m,m < n/\∃ i σ' H',Inv X pins σ' H' s7/\tn i s7.heap/\(∀ b∈fp,H' b=none)/\W i m σ' H':=λ{σ7 H7} I7 n7=>by
   obtain⟨m',hm,w7⟩:=hN σ7 H7 n7
   refine⟨m',hm,i+1,σ7,H7,I7.unpinned,T.keep _ _ _ st5 λb hb o e=>(I7.pin (b,o) (p7 _ (p7 _ (xA hb e)))).1,λb hb=>?_,w7⟩
   obtain⟨o,e,d⟩:=T.obj _ _ st5 b hb
   exact(I7.pin (b,o) (p7 _ (p7 _ (xA hb e)))).2.1
  cases f with
  | next=>obtain⟨σ7,H7,I7,n7⟩:=q7;exact again I7 n7
  | cont=>obtain⟨σ7,H7,I7,n7⟩:=q7;exact again I7 n7
  | brk=>obtain⟨σ7,H7,I7,q7⟩:=q7;exact⟨σ7,H7,I7.unpinned,q7⟩
  | ret v=>obtain⟨x7,σ7,H7,I7,r7,q7⟩:=q7;exact⟨x7,σ7,H7,I7.unpinned,r7,q7⟩
end
abbrev R2:=V->V->Hp->VK->Prop
def OpR (X:Cx)(f:Value->Value->Sem Value)(r:R2):Prop :=
 ∀ (pins:List (Addr × Obj)) (s:Shared) (σ:St) (H:Hp) (x y:V) (v u:Value) (Q:VK),Inv X pins σ H s->yG x v->yG y u->r x y H Q ->
  wpAny (model X.prog X.w) X.A (f v u) (EP X pins σ Q) X.xe s
def UnR (X:Cx)(f:Value->Sem Value)(r:V->Hp->VK->Prop):Prop :=
 ∀ (pins:List (Addr × Obj)) (s:Shared) (σ:St) (H:Hp) (x:V) (v:Value) (Q:VK),Inv X pins σ H s->yG x v->r x H Q ->
  wpAny (model X.prog X.w) X.A (f v) (EP X pins σ Q) X.xe s
def Yb (X:Cx)(f:Value)(r:List V->Hp->VK->Prop):Prop :=
 ∀ (pins:List (Addr × Obj)) (s:Shared) (σ:St) (H:Hp) (xs:List V) (us:List Value) (Q:VK),Inv X pins σ H s->yd xs us->r xs H Q ->
  wpAny (model X.prog X.w) X.A (call f us) (EP X pins σ Q) X.xe s
def tOp (r:R2)(ta tb:TE):TE:=fun σ H Q=>ta σ H λx H1=>tb σ H1 λy H2=>r x y H2 Q
def tUn (r:V->Hp->VK->Prop)(ta:TE):TE:=fun σ H Q=>ta σ H λx H1=>r x H1 Q
def rI (C:Int->Int->Prop)(g:Int->Int->V):R2:=λx y H Q=>∃ i j,x=.int i/\y=.int j/\C i j/\Q (g i j) H
def rI0 (g:Int->Int->V):R2:=λx y H Q=>∃ i j,x=.int i/\y=.int j/\Q (g i j) H
def rU (g:Int->V):V->Hp->VK->Prop:=λx H Q=>∃ i,x=.int i/\Q (g i) H
section
variable {X:Cx}{a b c:Expr}{ta tb tc:TE}{pos:Pos}
theorem zmQ (ha:PE X a ta)(hb:PE X b tb){pins:List (Addr × Obj)}{s:Shared}{σ:St}{H:Hp}{R:V->V->Hp->Prop}(I:Inv X pins σ H s)
 (h:ta σ H λx H1=>tb σ H1 λy H2=>R x y H2) {Q:Value->Shared->Prop} {f:Value->Value->Sem Value}
 (hf:∀ v u s2 x y H2,Inv X pins σ H2 s2->yG x v->yG y u->R x y H2->wpAny (model X.prog X.w) X.A (f v u) Q X.xe s2) :
 wpAny (model X.prog X.w) X.A (eval a X.env) (λv s₁=>wpAny (model X.prog X.w) X.A (eval b X.env) (λu s₂=>wpAny (model X.prog X.w) X.A (f v u) Q X.xe s₂) X.xe s₁) X.xe s:=by
 refine thn (ha pins s σ H _ I h) λv s1 hh9=>?_
 obtain⟨x,H1,I1,r1,q1⟩:=hh9
 refine thn (hb pins s1 σ H1 _ I1 q1) λu s2 hh9=>?_
 obtain⟨y,H2,I2,r2,q2⟩:=hh9
 exact hf v u s2 x y H2 I2 r1 r2 q2
theorem zmX {op:Operator}{r:R2}(ho:OpR X (binaryOp op) r)(ha:PE X a ta)(hb:PE X b tb):PE X (.BinOp a op b pos) (tOp r ta tb):=by
 intro pins s σ H Q I h
 exact wpAny_BinOp (zmQ ha hb I h λv u s2 x y H2 I2 rx ry q=>ho pins s2 σ H2 x y v u Q I2 rx ry q)
theorem zmw {op:UnaryOp}{r:V->Hp->VK->Prop}(ho:UnR X (unaryOp op) r)(ha:PE X a ta):PE X (.UnaryOp op a pos) (tUn r ta):=by
 intro pins s σ H Q I h
 exact UnaryOp_ (thn (ha pins s σ H _ I h) λv s1 ⟨x,H1,I1,r1,q1⟩=>ho pins s1 σ H1 x v Q I1 r1 q1)
theorem opI {f:Value->Value->Sem Value}{C:Int->Int->Prop}{g:Int->Int->Int}
 (rule:∀ (i j:Int) (t u:Tok) (s:Shared) (Q:Value->Shared->Prop) (E:Value->Shared->Prop),C i j->Q (.int (g i j) s.toks) { s with toks:=s.toks+1 }->wpAny (model X.prog X.w) X.A (f (.int i t) (.int j u)) Q E s) :
 OpR X f (rI C λi j=>.int (g i j)):=by
 intro pins s σ H x y v u Q I rx ry h
 obtain⟨i,j,rfl,rfl,hc,q⟩:=h
 obtain⟨t,rfl⟩:=rx
 obtain⟨t',rfl⟩:=ry
 exact rule i j t t' s _ _ hc ⟨.int (g i j),H,I.tok _,⟨_,rfl⟩,q⟩
theorem opI0 {f:Value->Value->Sem Value}{g:Int->Int->Int}
 (rule:∀ (i j:Int) (t u:Tok) (s:Shared) (Q:Value->Shared->Prop) (E:Value->Shared->Prop),Q (.int (g i j) s.toks) { s with toks:=s.toks+1 }->wpAny (model X.prog X.w) X.A (f (.int i t) (.int j u)) Q E s) :
 OpR X f (rI0 λi j=>.int (g i j)):=by
 intro pins s σ H x y v u Q I rx ry h
 obtain⟨i,j,rfl,rfl,q⟩:=h
 obtain⟨t,rfl⟩:=rx
 obtain⟨t',rfl⟩:=ry
 exact rule i j t t' s _ _ ⟨.int (g i j),H,I.tok _,⟨_,rfl⟩,q⟩
theorem zme {f:Value->Value->Sem Value}{g:Int->Int->Bool}
 (rule:∀ (i j:Int) (t u:Tok) (s:Shared) (Q:Value->Shared->Prop) (E:Value->Shared->Prop),Q (.bool (g i j)) s->wpAny (model X.prog X.w) X.A (f (.int i t) (.int j u)) Q E s) :
 OpR X f (rI0 λi j=>.bl (g i j)):=by
 intro pins s σ H x y v u Q I rx ry h
 obtain⟨i,j,rfl,rfl,q⟩:=h
 obtain⟨t,rfl⟩:=rx
 obtain⟨t',rfl⟩:=ry
 exact rule i j t t' s _ _ ⟨.bl (g i j),H,I,rfl,q⟩
def zmg (i j:Int):Prop:=(-(2 ^ 64) < i/\i < 2 ^ 64)\/(-(2 ^ 64) < j/\j < 2 ^ 64)
theorem zmg.ok {i j:Int}(h:zmg i j):IntMulOk i j:=by
 rcases h with ⟨h1,h2⟩ | ⟨h1,h2⟩
 .exact .of_left (intBits_le_64 h1 h2)
 .exact .of_right (intBits_le_64 h1 h2)
theorem zcU (k:Nat):(0:Int)<=2 ^ k:=by
 rw[two_pow_cast]
 exact u11 _
theorem zk0:OpR X (binaryOp .Add) (rI0 λi j=>.int (i+j)):=opI0 λ_ _ _ _ _ _ _ q=>add_int q
theorem zk7:OpR X (binaryOp .Sub) (rI0 λi j=>.int (i - j)):=opI0 λ_ _ _ _ _ _ _ q=>sub_int q
theorem zln:OpR X (binaryOp .Mult) (rI zmg λi j=>.int (i*j)):=opI λ_ _ _ _ _ _ _ hc q=>mul_int q hc.ok
theorem zlB:OpR X (binaryOp .Mod) (rI (λ_ j=>0 < j) λi j=>.int (i % j)):=opI λi j _ _ _ _ _ hc q=>by
 have h1:(0:Int) < j:=hc
 exact mod_int' (by omega) (by rw[Int.fmod_eq_emod_of_nonneg i (by omega)];exact q)
theorem zkC:OpR X (binaryOp .RShift) (rI (λ_ j=>0<=j) λi j=>.int (i / 2 ^ j.toNat)):=opI λi j _ _ _ _ _ hc q =>
 rshift_int hc (by rw[u3r i (zcU _)];exact q)
theorem unI {f:Value->Sem Value}{g:Int->Int}
 (rule:∀ (i:Int) (t:Tok) (s:Shared) (Q:Value->Shared->Prop) (E:Value->Shared->Prop),Q (.int (g i) s.toks) { s with toks:=s.toks+1 }->wpAny (model X.prog X.w) X.A (f (.int i t)) Q E s) :
 UnR X f (rU λi=>.int (g i)):=by
 intro pins s σ H x v Q I rx h
 obtain⟨i,rfl,q⟩:=h
 obtain⟨t,rfl⟩:=rx
 exact rule i t s _ _ ⟨.int (g i),H,I.tok _,⟨_,rfl⟩,q⟩
theorem zkX:UnR X (unaryOp .USub) (rU λi=>.int (-i)):=unI λ_ _ _ _ _ q=>neg_int q
end
def scal:V->V->Bool
 | .non,.non=>true | .non,.int _=>true | .int _,.non=>true | .non,.bl _=>true | .bl _,.non=>true | .non,.str _=>true | .str _,.non=>true
 | .int _,.int _=>true | .bl _,.bl _=>true | .str _,.str _=>true | .byt _,.byt _=>true
 | .int _,.str _=>true | .str _,.int _=>true | .bl _,.str _=>true | .str _,.bl _=>true
 | _,_=>false
def rEq:R2:=λx y H Q=>scal x y=true/\Q (.bl (decide (x=y))) H
def rNe:R2:=λx y H Q=>scal x y=true/\Q (.bl (!decide (x=y))) H
theorem zeT {i j:Int}:decide (V.int i=V.int j)=(i == j):=by
 rw[u1u]
 simp
theorem zhM {i j:Bool}:decide (V.bl i=V.bl j)=(i == j):=by
 rw[u1u]
 simp
theorem zef {i j:Str}:decide (V.str i=V.str j)=(i == j):=by
 rw[u1u]
 simp
theorem zeM {i j:Array UInt8}:decide (V.byt i=V.byt j)=(i.toList == j.toList):=by
 rw[u1u]
 cases i
 cases j
 simp
section
variable {X:Cx}{a b c:Expr}{ta tb tc:TE}{pos:Pos}
theorem zO {pins:List (Addr × Obj)}{σ:St}{H:Hp}{s:Shared}{Q:VK}{k k':Bool}(I:Inv X pins σ H s)(q:Q (.bl k) H)(e:k=k'):EP X pins σ Q (.bool k') s:=by
 subst e
 exact⟨.bl k,H,I,rfl,q⟩
theorem zm2:OpR X (compareOp .Eq) rEq:=by
 intro pins s σ H x y v u Q I rx ry h
 obtain⟨hs,q⟩:=h
 cases x with
 | non =>
  cases rx
  cases y with
  | non=>cases ry;exact PySem.EqNone.eq_none_none (zO I q (by simp))
  | bl j=>cases ry;exact PySem.EqNone.eq_none_bool (zO I q (by simp))
  | int j=>obtain⟨t',rfl⟩:=ry;exact PySem.EqNone.eq_none_int (zO I q (by simp))
  | str j=>obtain⟨t',rfl⟩:=ry;exact PySem.EqNone.eq_none_str (zO I q (by simp))
  | _=>exact absurd (show false=true from hs) u8
 | bl i =>
  cases rx
  cases y with
  | non=>cases ry;exact PySem.EqNone.eq_bool_none (zO I q (by simp))
  | bl j=>cases ry;exact eq_bool (zO I q zhM)
  | str j=>obtain⟨t',rfl⟩:=ry;exact PySem.EqMixed.eq_bool_str (zO I q (by simp))
  | _=>exact absurd (show false=true from hs) u8
 | int i =>
  obtain⟨t,rfl⟩:=rx
  cases y with
  | non=>cases ry;exact PySem.EqNone.eq_int_none (zO I q (by simp))
  | int j=>obtain⟨t',rfl⟩:=ry;exact eq_int (zO I q zeT)
  | str j=>obtain⟨t',rfl⟩:=ry;exact PySem.EqMixed.eq_int_str (zO I q (by simp))
  | _=>exact absurd (show false=true from hs) u8
 | str i =>
  obtain⟨t,rfl⟩:=rx
  cases y with
  | non=>cases ry;exact PySem.EqNone.eq_str_none (zO I q (by simp))
  | bl j=>cases ry;exact PySem.EqMixed.eq_str_bool (zO I q (by simp))
  | int j=>obtain⟨t',rfl⟩:=ry;exact PySem.EqMixed.eq_str_int (zO I q (by simp))
  | str j=>obtain⟨t',rfl⟩:=ry;exact eq_str (zO I q zef)
  | _=>exact absurd (show false=true from hs) u8
 | byt i =>
  obtain⟨t,rfl⟩:=rx
  cases y with
  | byt j=>obtain⟨t',rfl⟩:=ry;exact W.eq_bytes (zO I q zeM)
  | _=>exact absurd (show false=true from hs) u8
 | _=>cases y <;> exact absurd (show false=true from hs) u8
theorem V5:OpR X (compareOp .NotEq) rNe:=by
 intro pins s σ H x y v u Q I rx ry h
 obtain⟨hs,q⟩:=h
 cases x with
 | non =>
  cases rx
  cases y with
  | non=>cases ry;exact PySem.EqNone.ne_none_none (zO I q (by simp))
  | bl j=>cases ry;exact PySem.EqNone.ne_none_bool (zO I q (by simp))
  | int j=>obtain⟨t',rfl⟩:=ry;exact PySem.EqNone.ne_none_int (zO I q (by simp))
  | str j=>obtain⟨t',rfl⟩:=ry;exact PySem.EqNone.ne_none_str (zO I q (by simp))
  | _=>exact absurd (show false=true from hs) u8
 | bl i =>
  cases rx
  cases y with
  | non=>cases ry;exact PySem.EqNone.ne_bool_none (zO I q (by simp))
  | bl j=>cases ry;exact ne_bool (zO I q (u1d not zhM))
  | str j=>obtain⟨t',rfl⟩:=ry;exact PySem.EqMixed.ne_bool_str (zO I q (by simp))
  | _=>exact absurd (show false=true from hs) u8
 | int i =>
  obtain⟨t,rfl⟩:=rx
  cases y with
  | non=>cases ry;exact PySem.EqNone.ne_int_none (zO I q (by simp))
  | int j=>obtain⟨t',rfl⟩:=ry;exact ne_int (zO I q (u1d not zeT))
  | str j=>obtain⟨t',rfl⟩:=ry;exact PySem.EqMixed.ne_int_str (zO I q (by simp))
  | _=>exact absurd (show false=true from hs) u8
 | str i =>
  obtain⟨t,rfl⟩:=rx
  cases y with
  | non=>cases ry;exact PySem.EqNone.ne_str_none (zO I q (by simp))
  | bl j=>cases ry;exact PySem.EqMixed.ne_str_bool (zO I q (by simp))
  | int j=>obtain⟨t',rfl⟩:=ry;exact PySem.EqMixed.ne_str_int (zO I q (by simp))
  | str j=>obtain⟨t',rfl⟩:=ry;exact ne_str (zO I q (u1d not zef))
  | _=>exact absurd (show false=true from hs) u8
 | byt i =>
  obtain⟨t,rfl⟩:=rx
  cases y with
  | byt j=>obtain⟨t',rfl⟩:=ry;exact W.ne_bytes (zO I q (u1d not zeM))
  | _=>exact absurd (show false=true from hs) u8
 | _=>cases y <;> exact absurd (show false=true from hs) u8
theorem zgn:OpR X (compareOp .Lt) (rI0 λi j=>.bl (decide (i < j))):=zme λ_ _ _ _ _ _ _ q=>lt_int q
theorem zgv:OpR X (compareOp .LtE) (rI0 λi j=>.bl (decide (i<=j))):=zme λ_ _ _ _ _ _ _ q=>le_int q
theorem zdb:OpR X (compareOp .Gt) (rI0 λi j=>.bl (decide (j < i))):=zme λ_ _ _ _ _ _ _ q=>gt_int q
theorem zj3:OpR X (compareOp .Is) (λx y H Q=>y=.non/\Q (.bl (decide (x=.non))) H):=by
 intro pins s σ H x y v u Q I rx ry h
 obtain⟨rfl,q⟩:=h
 cases ry
 refine is_none_gen (zO I q ?_)
 cases x <;> first
  | (cases rx;rfl)
  | (obtain⟨t,rfl⟩:=rx;rfl)
theorem ziE:OpR X (compareOp .IsNot) (λx y H Q=>y=.non/\Q (.bl (!decide (x=.non))) H):=by
 intro pins s σ H x y v u Q I rx ry h
 obtain⟨rfl,q⟩:=h
 cases ry
 refine isnot_none_gen (zO I q ?_)
 cases x <;> first
  | (cases rx;rfl)
  | (obtain⟨t,rfl⟩:=rx;rfl)
theorem OpR.or {f:Value->Value->Sem Value}{r r':R2}(h:OpR X f r)(h':OpR X f r'):OpR X f (λx y H Q=>r x y H Q\/r' x y H Q):=by
 intro pins s σ H x y v u Q I rx ry q
 rcases q with q | q
 .exact h pins s σ H x y v u Q I rx ry q
 .exact h' pins s σ H x y v u Q I rx ry q
theorem zB (b:Expr){op:CmpOp}(h:op≠.In:=by decide)(h2:op≠.NotIn:=by decide):behindInMarks op b=false:=by
 have e1:(op == CmpOp.In)=false:=by cases op <;> first | rfl | exact absurd rfl h
 have e2:(op == CmpOp.NotIn)=false:=by cases op <;> first | rfl | exact absurd rfl h2
 cases b <;> simp[behindInMarks,e1,e2]
theorem zjK {op:CmpOp}{r:R2}(ho:OpR X (compareOp op) r)(ha:PE X a ta)(hb:PE X b tb)(hm:behindInMarks op b=false):PE X (.Compare a [op] [b] pos) (tOp r ta tb):=by
 intro pins s σ H Q I h
 exact wpAny_Compare1 (zmQ ha hb I h λv u s2 x y H2 I2 rx ry q=>ho pins s2 σ H2 x y v u Q I2 rx ry q) hm
def zlg (t:TE):TT:=fun σ H Q=>t σ H λx H'=>∃ k,x=.bl k/\Q k H'
theorem zjH {op:CmpOp}{r:R2}(ho:OpR X (compareOp op) r)(ha:PE X a ta)(hb:PE X b tb)(hm:behindInMarks op b=false):PT X (.Compare a [op] [b] pos) (zlg (tOp r ta tb)):=by
 intro pins s σ H Q I h
 refine wpAny_isTrue_Compare1 (thn (ha pins s σ H _ I h) λv s1 ⟨x,H1,I1,r1,q1⟩=>thn (hb pins s1 σ H1 _ I1 q1) λu s2 ⟨y,H2,I2,r2,q2⟩ =>
  thn (ho pins s2 σ H2 x y v u _ I2 r1 r2 q2) λc s3 ⟨z,H3,I3,r3,k,e,q3⟩=>?_) hm
 subst e
 cases r3
 exact u1c ⟨H3,I3,q3⟩
def ze4 (r r':R2)(ta tb tc:TE):TE:=fun σ H Q=>ta σ H λx H1=>tb σ H1 λy H2=>r x y H2 λz H3=>∃ k,z=.bl k /\
 (if k=true then tc σ H3 λw' H4=>r' y w' H4 Q else Q (.bl false) H3)
theorem zgw {op op':CmpOp}{r r':R2}(ho:OpR X (compareOp op) r)(ho':OpR X (compareOp op') r')(ha:PE X a ta)(hb:PE X b tb)(hc:PE X c tc)
 (hm:lastMarks [op,op'] [b,c]=false:=by with_unfolding_all rfl):PE X (.Compare a [op,op'] [b,c] pos) (ze4 r r' ta tb tc):=by
 intro pins s σ H Q I h
 refine Compare_chain (thn (ha pins s σ H _ I h) λv s1 ⟨x,H1,I1,r1,q1⟩=>chain_link (thn (hb pins s1 σ H1 _ I1 q1) λu s2 ⟨y,H2,I2,r2,q2⟩ =>
  thn (ho pins s2 σ H2 x y v u _ I2 r1 r2 q2) λd s3 ⟨z,H3,I3,r3,k,e,q3⟩=>?_)) hm
 subst e
 cases r3
 refine u1c ?_
 cases k with
 | false=>exact ite_ff ⟨.bl false,H3,I3,rfl,q3⟩
 | true=>exact ite_tt (chain_last (thn (hc pins s3 σ H3 _ I3 q3) λw' s4 ⟨z',H4,I4,r4,q4⟩=>ho' pins s4 σ H4 y z' u w' Q I4 r2 r4 q4))
theorem zar:(sizeLine:Nat) < 2 ^ 63:=by rw[u1i];decide
theorem zdc:OpR X (binaryOp .Add) (λx y H Q=>∃ i j,x=.str i/\y=.str j/\i.length+j.length<=sizeLine/\Q (.str (i++j)) H):=by
 intro pins s σ H x y v u Q I rx ry h
 obtain⟨i,j,rfl,rfl,hz,q⟩:=h
 obtain⟨t,rfl⟩:=rx
 obtain⟨t',rfl⟩:=ry
 exact add_str (λt' tk=>⟨.str (i++j),H,I.tok _,⟨_,rfl⟩,q⟩) hz
theorem X0 {x:V}{us:List Value}(r:yd [x] us):∃ u,us=[u]/\yG x u:=by
 cases r with
 | cons r1 r2=>cases r2;exact⟨_,rfl,r1⟩
theorem zbo {x y:V}{us:List Value}(r:yd [x,y] us):∃ u w',us=[u,w']/\yG x u/\yG y w':=by
 cases r with
 | cons r1 r2 =>
  cases r2 with
  | cons r3 r4=>cases r4;exact⟨_,_,rfl,r1,r3⟩
theorem zdJ (hc:X.calm=true):Yb X (.builtin "max") (λxs H Q=>∃ i j,xs=[.int i,.int j]/\Q (.int (if j > i then j else i)) H):=by
 intro pins s σ H xs us Q I r h
 obtain⟨i,j,rfl,q⟩:=h
 obtain⟨u,w',rfl,⟨t,rfl⟩,⟨t',rfl⟩⟩:=zbo r
 refine max_two_ints (I.ok.hd hc) λh' tk k=>⟨_,H,I.kept k,?_,q⟩
 by_cases hj:j > i
 .rw[t7 hj,t7 hj];exact⟨_,rfl⟩
 .rw[j7 hj,j7 hj];exact⟨_,rfl⟩
theorem zaM (hc:X.calm=true):Yb X (.builtin "min") (λxs H Q=>∃ i j,xs=[.int i,.int j]/\Q (.int (if j < i then j else i)) H):=by
 intro pins s σ H xs us Q I r h
 obtain⟨i,j,rfl,q⟩:=h
 obtain⟨u,w',rfl,⟨t,rfl⟩,⟨t',rfl⟩⟩:=zbo r
 refine min_two_ints (I.ok.hd hc) λh' tk k=>⟨_,H,I.kept k,?_,q⟩
 by_cases hj:j < i
 .rw[t7 hj,t7 hj];exact⟨_,rfl⟩
 .rw[j7 hj,j7 hj];exact⟨_,rfl⟩
end
structure zmC (h:Heap) (x dx C:Addr) (mA:Str->Option Value):Prop where
 obj:h.get? x=some (W.instObj C dx)
 ns:h.Ns1 dx mA
 ne:dx≠x
theorem zfk {h:Heap}{dx:Addr}{mA:Str->Option Value}(n:h.Ns1 dx mA):∃ od,h.get? dx=some od/\∀ name,W.lookIn name od=some (mA name):=by
 obtain⟨o,es,ep,ho,hd,hk,_,hm⟩:=n
 refine⟨o,ho,λname=>?_⟩
 have e:=hm name
 unfold nsFind findBy at e
 rw[<-Array.find?_toList]at e
 unfold W.lookIn
 rw[hd]
 dsimp only
 split
 .rename_i y q
  rw[q]at e
  exact u1d some e
 .rename_i q
  rw[q]at e
  have a:es.toList.any (·.refKey)=false:=by
   rw[List.any_eq_false]
   intro y hy
   obtain⟨z,t,hkey⟩:=hk y (Array.mem_toList_iff.mp hy)
   simp[DictEntry.refKey,hkey]
  have a':¬ es.toList.any (·.refKey)=true:=by rw[a];exact u8
  rw[j7 a']
  exact u1d some e
theorem zmC.look {h:Heap}{x dx C:Addr}{mA:Str->Option Value}(I:zmC h x dx C mA):∃ od,PySem.W.InstAt h x (W.instObj C dx) C (some od)/\∀ name,W.lookIn name od=some (mA name) :=
 let ⟨od,ho,hl⟩:=zfk I.ns
 ⟨od,⟨I.obj,rfl,rfl,ho⟩,hl⟩
theorem zfW.some_of {v:V}{o:Option Value}(r:zfW (some v) o):∃ u,o=some u/\yG v u:=by
 cases o with
 | none=>exact(show False from r).elim
 | some u=>exact⟨u,rfl,r⟩
section
variable {P:Program}{w:World}{H H':Hp}{h h':Heap}{a C dx:Addr}{fs fs':List (Str × V)}
theorem zid (hok:HOk P w H h)(e:H a=some (.ins C dx fs)):∃ mA,zmC h a dx C mA/\(∀ f,zfW (fs.lookup f) (mA f))/\PySem.Within mA (fs.map (·.1))/\fs.length<=1000/\H dx=some (.own a):=by
 obtain⟨d,z,ne,ob,mA,n,r,q⟩:=(show yt P w H h a (.ins C dx fs)from hok a _ e)
 exact⟨mA,⟨ob,n,ne⟩,r,q,z,d⟩
end
structure Cls (K:W.Frag) (C:Addr):Prop where
 pg:W.plainGet K C Str.empty=true
 hd:W.hasDictIn K C=true
 po:W.plainOver K C=true
 sa:W.findIn K (.ref C) "__setattr__"=some (some (.builtin "object.__setattr__"))
theorem Cls.get {K:W.Frag}{C:Addr}(c:Cls K C)(f:Str):W.plainGet K C f=true:=c.pg
section
variable {X:Cx}{pins:List (Addr × Obj)}{σ:St}{H:Hp}{s:Shared}{A:Around}{E:Value->Shared->Prop}{Q:Value->Shared->Prop}{c:Value}{b:Bool}
inductive zce (K:W.Frag) (H:Hp):V->Value->Prop where
 | non:zce K H .non (.type "NoneType")
 | bl (x:Bool):zce K H (.bl x) (.type "bool")
 | int (i:Int):zce K H (.int i) (.type "int")
 | str (x:Str):zce K H (.str x) (.type "str")
 | flt (x:UInt64):zce K H (.flt x) (.type "float")
 | lst {a:Addr} {xs:List V} (e:H a=some (.lst xs)):zce K H (.ref a) (.type "list")
 | frz {a:Addr} {o:Obj} {xs:List V} (e:H a=some (.frz o (.lst xs))):zce K H (.ref a) (.type "list")
 | tup {a:Addr} {xs:List V} (e:H a=some (.tup xs)):zce K H (.ref a) (.type "tuple")
 | dK {a:Addr} {kvs:List (Key × V)} (e:H a=some (.dK kvs)):zce K H (.ref a) (.type "dict")
 | dT {a:Addr} {kvs:List (List Key × V)} (e:H a=some (.dT kvs)):zce K H (.ref a) (.type "dict")
 | ins {a C dx:Addr} {fs:List (Str × V)} (e:H a=some (.ins C dx fs)) (cl:Cls K C) (ha:W.findIn K (.ref C) "__class__"=some (some (.builtin "object.__class__")))
  (hn:W.specialIn K (.builtin "object.__class__") "__get__"=some (some (.builtin "getset_descriptor.__get__"))) (htk:W.takesIn K (.builtin "object.__class__")=some true)
  (hm:W.mroIn K C (.type "object")=some true):zce K H (.ref a) (.ref C)
theorem zel {x:V}{u t:Value}(I:Inv X pins σ H s)(rx:yG x u)(ty:zce X.K H x t)(e:W.kitOne X.K t c=some b)(h:∀ tk,Q (.bool b) { s with toks:=tk }) :
 wpAny (model X.prog X.w) A (call (.builtin "isinstance") [u,c]) Q E s:=by
 cases ty with
 | non=>cases (show u=Value.none from rx);exact u0N W.kitx_none I.kIn True.intro e (λz=>nomatch z) h
 | bl y=>cases (show u=Value.bool y from rx);exact u0N W.kitx_bool I.kIn True.intro e (λz=>nomatch z) h
 | int i=>obtain⟨t,q⟩:=(show ∃ t,u=Value.int i t from rx);cases q;exact u0N W.kitx_int I.kIn True.intro e (λz=>nomatch z) h
 | str y=>obtain⟨t,q⟩:=(show ∃ t,u=Value.str y t from rx);cases q;exact u0N W.kitx_str I.kIn True.intro e (λz=>nomatch z) h
 | flt y=>obtain⟨t,q⟩:=(show ∃ t,u=Value.float y t from rx);cases q;exact u0N W.kitx_float I.kIn True.intro e (λz=>nomatch z) h
 | @lst a xs ea =>
  cases (show u=Value.ref a from rx)
  obtain⟨_,_,n,_,h1⟩:=(show yt X.prog X.w H s.heap a (.lst xs)from I.hok a _ ea)
  exact u0N W.kitx_list I.kIn ⟨_,h1,rfl⟩ e (λz=>nomatch z) h
 | @frz a ob xs ea =>
  cases (show u=Value.ref a from rx)
  obtain⟨_,_,_,n,_,h1⟩:=(show yt X.prog X.w H s.heap a (.frz ob (.lst xs))from I.hok a _ ea)
  exact u0N W.kitx_list I.kIn ⟨_,h1,rfl⟩ e (λz=>nomatch z) h
 | @tup a xs ea =>
  cases (show u=Value.ref a from rx)
  obtain⟨_,_,_,p⟩:=(show yt X.prog X.w H s.heap a (.tup xs)from I.hok a _ ea)
  obtain⟨o,h1,h2,_⟩:=p
  exact u0N W.kitx_tuple I.kIn ⟨o,h1,h2⟩ e (λz=>nomatch z) h
 | @dK a kvs ea =>
  cases (show u=Value.ref a from rx)
  obtain⟨_,_,vs,_,p⟩:=(show yt X.prog X.w H s.heap a (.dK kvs)from I.hok a _ ea)
  obtain⟨o,es,ep,h1,h2,_⟩:=p
  exact u0N u2O I.kIn ⟨o,h1,h2.1⟩ e (λz=>nomatch z) h
 | @dT a kvs ea =>
  cases (show u=Value.ref a from rx)
  obtain⟨_,_,xs,_,o,es,ep,h1,h2,_⟩:=(show yt X.prog X.w H s.heap a (.dT kvs)from I.hok a _ ea)
  exact u0N u2O I.kIn ⟨o,h1,h2.1⟩ e (λz=>nomatch z) h
 | @ins a C dx fs ea cl ha hn htk hm =>
  cases (show u=Value.ref a from rx)
  obtain⟨mA,O,_⟩:=zid I.hok ea
  obtain⟨od,J,_⟩:=O.look
  exact u0N (W.kitx_own (cl.get _) cl.hd ha hn htk hm) I.kIn J e (λz=>nomatch z) h
end
structure YJ (k:Nat) (A:Around):Prop where
 hd:A.handled=none
 dp:A.depth+3*k+5 < recursionLimit
 un:A.units+16*k+200 < cLine
theorem YJ.mono {j k:Nat}{A:Around}(r:YJ k A)(h:j<=k):YJ j A:=⟨r.hd,by have:=r.dp;omega,by have:=r.un;omega⟩
theorem YJ.deeper {k:Nat}{A:Around}(r:YJ (k+1) A)(env:Env):YJ k (A.deeper env) :=
 ⟨r.hd,by have:=r.dp;show A.depth+1+3*k+5 < _;omega,by have:=r.un;show A.units+3+16*k+200 < _;omega⟩
theorem YJ.depth {k:Nat}{A:Around}(r:YJ k A):A.depth < recursionLimit:=by have:=r.dp;omega
theorem YJ.units {k:Nat}{A:Around}(r:YJ k A):A.units+64 < cLine:=by have:=r.un;omega
theorem YJ.units0 {k:Nat}{A:Around}(r:YJ k A):A.units < cLine:=by have:=r.un;omega
def tNil:TA:=λ_ H Q=>Q [] H
def zmW (ta:TE)(tr:TA):TA:=fun σ H Q=>ta σ H λx H1=>tr σ H1 λxs H2=>Q (x::xs) H2
section
variable {X:Cx}{e:Expr}{es:List Expr}{te:TE}{t:TA}{pos:Pos}
theorem zb9:PA X [] tNil:=λ_ _ _ _ H Q I h=>u2d ⟨[],H,I,.nil,h⟩
theorem ZR (ha:PE X e te)(hr:PA X es t)(hs:starEach (e::es) X.env=(false,eval e X.env)::starEach es X.env:=by rfl):PA X (e::es) (zmW te t):=by
 intro pos pins s σ H Q I h
 rw[hs]
 show wpAny _ _ (spliced ((false,eval e X.env)::backTo pos (starEach es X.env))) _ _ s
 refine u10 (thn (ha pins s σ H _ I h) λu s1 hh9=>?_)
 obtain⟨x,H1,I1,r1,q1⟩:=hh9
 exact thn (hr pos pins s1 σ H1 _ I1 q1) λus s2 ⟨xs,H2,I2,r2,q2⟩=>⟨x::xs,H2,I2,.cons r1 r2,q2⟩
def tTup (t:TA):TE:=fun σ H Q=>t σ H λxs H1=>xs.length<=sizeLine/\∀ p,H1 p=none->Q (.ref p) (upd H1 p (.tup xs))
def tLst (t:TA):TE:=fun σ H Q=>t σ H λxs H1=>xs.length<=sizeLine/\∀ p,H1 p=none->Q (.ref p) (upd H1 p (.lst xs))
theorem zkH {x1}(h:PA X es t):PE X (.Tuple es x1 pos) (tTup t):=by
 intro pins s σ H Q I hq
 refine wpAny_Tuple_spliced (thn (h pos pins s σ H _ I hq) λus s1 ⟨xs,H1,I1,r,z,q⟩=>⟨by rw[<-r.length];exact z,?_⟩)
 have hf:H1 s1.heap.objs.size=none:=I1.hok.fresh (t5 _)
 refine⟨.ref s1.heap.objs.size,upd H1 s1.heap.objs.size (.tup xs),I1.laid (t':=s1.toks) (λb u e=>u3 _ e) (t5 _) ?_,rfl,q _ hf⟩
 exact⟨z,us,r,⟨_,t6 _ rfl,rfl,_,rfl⟩⟩
theorem zlF (h:PA X es t):PE X (.List es pos) (tLst t):=by
 intro pins s σ H Q I hq
 refine wpAny_List_spliced (thn (h pos pins s σ H _ I hq) λus s1 ⟨xs,H1,I1,r,z,q⟩=>⟨by rw[<-r.length];exact z,?_⟩)
 have hf:H1 s1.heap.objs.size=none:=I1.hok.fresh (t5 _)
 refine⟨.ref s1.heap.objs.size,upd H1 s1.heap.objs.size (.lst xs),I1.laid (t':=s1.toks) (λb u e=>u3 _ e) (t5 _) ?_,rfl,q _ hf⟩
 exact⟨z,us,0,r,t6 _ rfl⟩
end
abbrev Sp:=List V->Hp->VK->XK->Prop
abbrev CXT:=List Env->Hp->Shared->XK->Value->Shared->Prop
structure zl1 (P:Program) (w:World) (K:W.Frag) (mg:Str->Option Value) (base:Heap) (A:Around) (outer:List Env) (s:Shared) (H:Hp):Prop where
 frames:A.frames=some outer
 mod:Mod K mg base
 bs:∀ b o,base.get? b=some o->s.heap.get? b=some o/\H b=none
 bsz:base.objs.size<=s.heap.objs.size
 funs:s.heap.FunFrames base outer
 frf:∀ b∈frs outer,H b=none
 hok:HOk P w H s.heap
 bare:AllBare s.gens
def CE (outer:List Env)(P:Program)(w:World)(H:Hp)(s:Shared)(Q:VK)(u:Value)(s':Shared):Prop :=
 ∃ v H',s'.os=s.os/\AllBare s'.gens/\Un (frs outer) [] H H' s.heap s'.heap/\HOk P w H' s'.heap/\yG v u/\Q v H'
def CR (CX:CXT)(outer:List Env)(P:Program)(w:World)(H:Hp)(s:Shared)(Q:VK)(E:XK)(r:Result)(s':Shared):Prop :=
 match r with
 | .ok (.ret u)=>CE outer P w H s Q u s'
 | .ok _=>False
 | .error e=>CX outer H s E e s'
structure xz (P:Program) (w:World) (K:W.Frag) (mg:Str->Option Value) (base:Heap) (CX:CXT) (k:Nat) (f:Addr) (fd:FuncData) (ps:List Str) (sp:Sp):Prop where
 len:∀ vs H Q E,sp vs H Q E->vs.length=ps.length
 run:∀ (A:Around) (outer:List Env) (s:Shared) (H:Hp) (args:Args) (us:List Value) (vs:List V) (Q:VK) (E:XK),YJ k A->zl1 P w K mg base A outer s H->BindsTo s fd args (ps.zip us)->yd vs us->sp vs H Q E ->
  codeAny (model P w) A (.call (.ref f) args) (CR CX outer P w H s Q E) s
theorem xz.mono {P:Program}{w:World}{K:W.Frag}{mg:Str->Option Value}{base:Heap}{CX:CXT}{j k:Nat}{f:Addr}{fd:FuncData}{ps:List Str}{sp:Sp}(F:xz P w K mg base CX j f fd ps sp)(h:j<=k) :
 xz P w K mg base CX k f fd ps sp:=⟨F.len,λA outer s H args us vs Q E hr=>F.run A outer s H args us vs Q E (hr.mono h)⟩
theorem xz.imp {P:Program}{w:World}{K:W.Frag}{mg:Str->Option Value}{base:Heap}{CX:CXT}{k:Nat}{f:Addr}{fd:FuncData}{ps:List Str}{sp sp':Sp}(F:xz P w K mg base CX k f fd ps sp)
 (h:∀ vs H Q E,sp' vs H Q E->sp vs H Q E):xz P w K mg base CX k f fd ps sp' :=
 ⟨λvs H Q E q=>F.len vs H Q E (h _ _ _ _ q),λA outer s H args us vs Q E hr he hb hv hs=>F.run A outer s H args us vs Q E hr he hb hv (h _ _ _ _ hs)⟩
section
variable {X:Cx}{pins:List (Addr × Obj)}{σ:St}{H:Hp}{s s':Shared}
theorem Inv.env0 (I:Inv X pins σ H s):zl1 X.prog X.w X.K X.mg X.base X.A X.stack s H :=
 ⟨I.ok.frames,I.ok.mod,I.bs,b9 I.ok.bsz I.sz,I.stack,I.stkFree,I.hok,I.bare⟩
theorem Inv.after {Q:VK}{u:Value}(I:Inv X pins σ H s)(h:CE X.stack X.prog X.w H s Q u s'):EP X pins σ Q u s':=by
 obtain⟨v,H',os,bare,un,hok,r,q⟩:=h
 obtain⟨hh,g,d,t,os'⟩:=s'
 obtain rfl:os'=s.os:=os
 exact⟨v,H',I.call (h':=hh) (g':=g) (d':=d) (t':=t) (ch:=[]) un hok bare (λb z=>absurd z (by simp)),r,q⟩
end
def zmv (sp:Sp)(dvs:List V)(E:XK)(t:TA):TE:=fun σ H Q=>t σ H λvs H1=>sp (vs++dvs) H1 Q E
def zbk (K:W.Frag)(fd:FuncData)(ps:List Str)(ds:List Value):Prop :=
 ∀ (s:Shared) (us:List Value),K.In s.heap->(us++ds).length=ps.length->BindsTo s fd ⟨us,[]⟩ (ps.zip (us++ds))
theorem zbk.all {K:W.Frag}{fd:FuncData}{ps:List Str}(h:∀ us:List Value,us.length=ps.length->bindArgs fd ⟨us,[]⟩=pure (ps.zip us)):zbk K fd ps []:=λs us _ hl=>by
 rw[u1L]at hl ⊢
 exact .of_eq (h us hl)
def zfi (CX:CXT)(X:Cx)(E:XK):Prop:=∀ (pins:List (Addr × Obj)) (σ:St) (H:Hp) (s:Shared) (e:Value) (s':Shared),Inv X pins σ H s->CX X.stack H s E e s'->X.xe e s'
section
variable {X:Cx}{CX:CXT}{k:Nat}{f C:Addr}{fd:FuncData}{ps:List Str}{sp:Sp}{dvs:List V}{ds:List Value}{E:XK}{x m:Str}{p pos apos:Pos}{e o:Expr}{es:List Expr}{ta:TE}{t:TA}
theorem zjY {pins:List (Addr × Obj)}{σ:St}{H:Hp}{s:Shared}{Q:VK}{us:List Value}{vs:List V}(F:xz X.prog X.w X.K X.mg X.base CX k f fd ps sp)(hr:YJ k X.A)(hb:zbk X.K fd ps ds)(hd:yd dvs ds)(hx:zfi CX X E)
 (I:Inv X pins σ H s) (r:yd vs us) (h:sp (vs++dvs) H Q E):wpAny (model X.prog X.w) X.A (call (.ref f) us) (EP X pins σ Q) X.xe s:=by
 have r2:yd (vs++dvs) (us++ds):=r.append hd
 have hl:(us++ds).length=ps.length:=by rw[<-r2.length];exact F.len _ _ _ _ h
 refine wpAny_call (u2y (F.run X.A X.stack s H ⟨us,[]⟩ (us++ds) (vs++dvs) Q E hr I.env0 (hb s us I.kIn hl) r2 h) λr s' hq=>?_)
 cases r with
 | error e=>exact hx pins σ H s e s' I hq
 | ok fl =>
  cases fl with
  | ret u=>exact I.after hq
  | next=>exact False.elim hq
  | brk=>exact False.elim hq
  | cont=>exact False.elim hq
theorem zjn (F:xz X.prog X.w X.K X.mg X.base CX k f fd ps sp)(hr:YJ k X.A)(hg:Gl X x)(hm:X.mg x=some (.ref f))(hk:W.keepIn X.K (.ref f)=true)(hb:zbk X.K fd ps ds)(hd:yd dvs ds)(hx:zfi CX X E)
 (ha:PA X (e::es) t) (hdb:(x == ("__debug__":Str))=false:=by decide) (he:starEach (e::es) X.env=(false,eval e X.env)::starEach es X.env:=by rfl) (hpl:(backTo pos (starEach es X.env)).any (·.1)=false:=by rfl) :
 PE X (.Call (.Name x p) (e::es) [] pos) (zmv sp dvs E t):=by
 intro pins s σ H Q I h
 refine u3z (zed I hg hm ?_ hdb)
 refine W.callWith_K (h₀:=X.base) I.ok.mod.kin hk (thn (ha pos pins s σ H _ I h) λus s1 ⟨vs,H1,I1,r,q⟩=>⟨I1.kIn,?_⟩) he hpl
 exact zjY F hr hb hd hx I1 r q
end
structure zx (N P:List Str) (sc:Scope):Prop where
 kind:sc.kind=.function
 co:sc.isCoroutine=false
 gen:sc.isGenerator=false
 nd:N.Nodup
 pre:N.take P.length=P
 par:∀ x∈P,sc.names.lookup x=some .local\/sc.names.lookup x=some .cell
 nofree:∀ y∈sc.names,y.2≠.free
theorem zaq {kindOf:Str->Option NameKind}{x:Str}:∀ {binds:List (Str × Value)} {m:Str->Option Value},(∀ v,(x,v)∉binds)->bindL kindOf binds m x=m x
 | [],_,_=>rfl
 | (n,v)::r,m,h=>by
  unfold bindL
  rw[zaq λw hw=>h w (d9 _ hw)]
  split
  .have:x≠n:=by rintro rfl;exact h v o0
   simp[this]
  .rfl
theorem zab {kindOf:Str->Option NameKind}{x:Str}:∀ {binds:List (Str × Value)} {m:Str->Option Value},(∀ v,(x,v)∉binds)->bindC kindOf binds m x=m x
 | [],_,_=>rfl
 | (n,v)::r,m,h=>by
  unfold bindC
  rw[zab λw hw=>h w (d9 _ hw)]
  split
  .rfl
  .have:x≠n:=by rintro rfl;exact h v o0
   simp[this]
theorem zac {kindOf:Str->Option NameKind}{x:Str}{v:Value}:∀ {P:List Str} {vs:List Value} {i:Nat} {m:Str->Option Value},P.Nodup->P[i]?=some x->vs[i]?=some v->kindOf x=some .local ->
 bindL kindOf (P.zip vs) m x=some v
 | [],_,_,_,_,h,_,_=>by simp at h
 | _::_,[],_,_,_,_,h,_=>by simp at h
 | p::P,w::vs,0,m,nd,h1,h2,hk=>by
  simp at h1 h2;subst h1;subst h2
  show bindL kindOf ((p,w)::P.zip vs) m p=_
  unfold bindL
  rw[zaq λv hv=>(u0z.mp nd).1 (u4e hv).1,t7 hk]
  simp
 | p::P,w::vs,i+1,m,nd,h1,h2,hk=>by
  show bindL kindOf ((p,w)::P.zip vs) m x=_
  unfold bindL
  exact zac (i:=i) (u0z.mp nd).2 (by simpa using h1) (by simpa using h2) hk
theorem zah {kindOf:Str->Option NameKind}{x:Str}{v:Value}:∀ {P:List Str} {vs:List Value} {i:Nat} {m:Str->Option Value},P.Nodup->P[i]?=some x->vs[i]?=some v->kindOf x≠some .local ->
 bindC kindOf (P.zip vs) m x=some v
 | [],_,_,_,_,h,_,_=>by simp at h
 | _::_,[],_,_,_,_,h,_=>by simp at h
 | p::P,w::vs,0,m,nd,h1,h2,hk=>by
  simp at h1 h2;subst h1;subst h2
  show bindC kindOf ((p,w)::P.zip vs) m p=_
  unfold bindC
  rw[zab λv hv=>(u0z.mp nd).1 (u4e hv).1,j7 hk]
  simp
 | p::P,w::vs,i+1,m,nd,h1,h2,hk=>by
  show bindC kindOf ((p,w)::P.zip vs) m x=_
  unfold bindC
  exact zah (i:=i) (u0z.mp nd).2 (by simpa using h1) (by simpa using h2) hk
def start (N:List Str)(vs:List V):St:=vs.map some++List.replicate (N.length - vs.length) none
def zhW (CX:CXT)(P:Program)(w:World)(K:W.Frag)(mg:Str->Option Value)(base:Heap)(N:List Str)(qual:Str)(scope:Scope)(f:Addr)(cd:Value)(A:Around)(outer:List Env)(s:Shared)(H:Hp)(E:XK):Cx where
 prog:=P
 w:=w
 K:=K
 mg:=mg
 base:=base
 A:=A.deeper (envOfC qual scope s.heap.objs.size f cd)
 N:=N
 s₀:=s
 H₀:=H
 env:=envOfC qual scope s.heap.objs.size f cd
 outer:=outer
 stack:=envOfC qual scope s.heap.objs.size f cd::outer
 ex:=[]
 calm:=true
 fn:=λ_=>true
 pn:=[]
 xe:=λe s'=>wpAny (model P w) (A.deeper (envOfC qual scope s.heap.objs.size f cd)) (leaving (envOfC qual scope s.heap.objs.size f cd) e) (λ_ s''=>CX outer H s E e s'') (λe' s''=>CX outer H s E e' s'') s'
theorem zbS {sc:Scope}{n:Nat}{x:Str}(h:sc.names.lookup x=some .cell):∃ c,(cellsFrom n sc.names []).lookup x=some c:=by
 have q:=W.cellsFrom_some sc.names n [] (.inl h)
 exact u1o.mp q
theorem zdQ {CX:CXT}{P:Program}{w:World}{K:W.Frag}{mg:Str->Option Value}{base:Heap}{N ps:List Str}{qual:Str}{scope:Scope}{f:Addr}{cd:Value}{A:Around}{outer:List Env}{s s1:Shared}{H:Hp}{E:XK}{us:List Value}{vs:List V}
 (S:zx N ps scope) (hd:A.handled=none) (e0:zl1 P w K mg base A outer s H) (hl:vs.length=ps.length) (r:yd vs us)
 (x:InCallC s s.heap.objs.size (bindL (envOfC qual scope s.heap.objs.size f cd).kindOf (ps.zip us) λ_=>none) (cellsFrom (s.heap.objs.size+1) scope.names []) (bindC (envOfC qual scope s.heap.objs.size f cd).kindOf (ps.zip us) λ_=>none) s1) :
 Inv (zhW CX P w K mg base N qual scope f cd A outer s H E) [] (start N vs) H s1:=by
 have hpl:ps.length<=N.length:=by have:=u1d List.length S.pre;rw[u05]at this;omega
 obtain⟨h1,tk,rfl,hk⟩:=x.done
 have noA:∀ b:Addr,b∉(zhW CX P w K mg base N qual scope f cd A outer s H E).ex:=λb z=>absurd (show b∈([]:List Addr)from z) (by simp)
 refine⟨⟨e0.mod,S.kind,rfl,rfl,t5 _,λy z c h1 h2=>?_,λy hy=>?_,λy c _ h=>?_,λ_=>hd,Around.frames_deeper e0.frames,.inr ⟨rfl,rfl⟩,λb z=>absurd z (noA b),e0.bs,e0.bsz,λb _ _=>noA b,λb z=>absurd z (noA b),e0.funs,e0.frf⟩,
  rfl,e0.bare,Un.kept hk,⟨_,x.toInCall.ns,λi y v h1 h2 h3=>?_⟩,λy c h=>⟨_,x.cell y c h⟩,e0.hok.fresh (t5 _),λy c h=>?_,λp hp=>absurd (show p∈([]:List (Addr × Obj))from hp) (by simp),e0.hok.kept hk,?_⟩
 .exact name_of_addr x.apart (u0A h1) (u0A h2)
 .have hy:scope.names.lookup y=some .cell\/scope.names.lookup y=some .free:=hy
  rcases hy with hy | hy
  .exact zbS hy
  .exact absurd rfl (S.nofree _ (u0A hy))
 .exact u0R (x.above y c (u0A h))
 .have hi:i < vs.length:=by
   unfold start at h2
   by_cases hi:i < vs.length
   .exact hi
   .rw[u0j (by simpa using hi)]at h2
    rw[u1q]at h2
    split at h2 <;> cases h2
  have ha:vs[i]?=some v:=by
   unfold start at h2
   rw[u0l (by simpa using hi),j4]at h2
   cases e:vs[i]? with
   | none=>rw[e]at h2;cases h2
   | some a=>rw[e]at h2;cases h2;rfl
  obtain⟨u,hu,rv⟩:=r.get ha
  have hp:ps[i]?=some y:=by
   rw[<-S.pre,u3J (by omega)];exact h1
  have ndP:ps.Nodup:=by rw[<-S.pre];exact S.nd.sublist (u2L _ _)
  refine⟨u,rv,?_⟩
  rcases S.par y (d8 hp)with k | k
  .exact .inl ⟨k,zac ndP hp hu k⟩
  .obtain⟨c,e⟩:=zbS (n:=s.heap.objs.size+1) k
   refine .inr ⟨.inl k,c,e,?_⟩
   have q:=x.cell y c e
   rw[zah ndP hp hu (by show scope.names.lookup y≠_;rw[k];decide)]at q
   exact q
 .exact e0.hok.fresh (u0R (x.above y c (u0A h)))
 .unfold start
  show _=N.length
  rw[d6,u6,u2Y]
  omega
theorem zmR {CX:CXT}{P:Program}{w:World}{K:W.Frag}{mg:Str->Option Value}{base:Heap}{k:Nat}{f:Addr}{name qual:Str}{params:Arguments}{body:List Stmt}{scope:Scope}{dV kV doc pm cdv ct oc:Value}{an od:Option Addr}
 {osl:Array (Option Value)} {N ps:List Str} {sp:Sp} (lk:K.lookup f=some ⟨oc,od,.func (W.fnOf name qual params body scope dV kV doc pm an cdv ct),osl⟩) (hcd:W.codeIn K cdv qual=true) (S:zx N ps scope)
 (len:∀ vs H Q E,sp vs H Q E->vs.length=ps.length)
 (hbody:∀ (A:Around) (outer:List Env) (s:Shared) (H:Hp) (vs:List V) (Q:VK) (E:XK),YJ k (A.deeper (envOfC qual scope s.heap.objs.size f cdv))->sp vs H Q E ->
  ∃ t,PSs (zhW CX P w K mg base N qual scope f cdv A outer s H E) body t/\t { nx:=λ_ H'=>Q .non H',rt:=Q } (start N vs) H) :
 xz P w K mg base CX (k+1) f (W.fnOf name qual params body scope dV kV doc pm an cdv ct) ps sp:=by
 refine⟨len,λA outer s H args us vs Q E hr e0 hb r hsp=>?_⟩
 have hl:=len _ _ _ _ hsp
 have KX:K.In s.heap:=e0.mod.kin.keeps λb o e=>(e0.bs b o e).1
 have lim:s.heap.NoLimit:=e0.mod.nolimit.keeps λb o e=>(e0.bs b o e).1
 have hkind:∀ y∈ps.zip us,scope.names.lookup y.1=some .local\/(scope.names.lookup y.1=some .cell/\((cellsFrom (s.heap.objs.size+1) scope.names []).lookup y.1).isSome=true):=λ⟨n,v⟩ hy=>by
  rcases S.par n (u4e hy).1 with q | q
  .exact .inl q
  .exact .inr ⟨q,W.cellsFrom_some _ _ _ (.inl q)⟩
 refine codeAny_call_function hr.depth (KX _ _ lk) rfl S.co S.gen rfl (W.codeRec_of KX hcd) (hb _ _ _ _ ?_)
 refine wpAny_newFunctionEnv_cells S.kind hkind λenv he s1 x=>?_
 subst he
 refine⟨lim.keeps x.toInCall.keep,codeAny_func ?_⟩
 obtain⟨t,ht,hq⟩:=hbody A outer s H vs Q E (hr.deeper _) hsp
 have I:Inv (zhW CX P w K mg base N qual scope f cdv A outer s H E) [] (start N vs) H s1:=zdQ S hr.hd e0 hl r x
 refine u1C (ht [] s1 (start N vs) H _ I hq) (λfl s' hs=>?_) λe s' hs=>hs
 have fin:∀ {σ':St} {H':Hp} {v:V} {u:Value},Inv (zhW CX P w K mg base N qual scope f cdv A outer s H E) [] σ' H' s'->yG v u->Q v H'->CE outer P w H s Q u s' :=
  λ{σ' H' v u} J rv q=>⟨v,H',J.os,J.bare,J.base,J.hok,rv,q⟩
 cases fl with
 | ret u =>
  obtain⟨v,σ',H',J,rv,q⟩:=hs
  exact fin J rv q
 | next =>
  obtain⟨σ',H',J,q⟩:=hs
  exact fin (v:=V.non) (u:=Value.none) J rfl q
 | brk =>
  obtain⟨_,_,_,q⟩:=hs
  exact False.elim q
 | cont =>
  obtain⟨_,_,_,q⟩:=hs
  exact False.elim q
section
variable {X:Cx}{x:Str}{p pos:Pos}{e:Expr}{es:List Expr}{t:TA}{id T:String}{r:List V->Hp->VK->Prop}
def tCB (r:List V->Hp->VK->Prop)(t:TA):TE:=fun σ H Q=>t σ H λvs H1=>r vs H1 Q
theorem Xz (hc:Yb X (.builtin id) r) (hg:Gl X x) (hm:X.mg x=none) (hv:bootBuiltins x=some (.builtin id)) (ha:PA X (e::es) t) (hn:x≠"__name__":=by decide) (hdb:(x == ("__debug__":Str))=false:=by decide)
 (he:starEach (e::es) X.env=(false,eval e X.env)::starEach es X.env:=by rfl) (hpl:(backTo pos (starEach es X.env)).any (·.1)=false:=by rfl):PE X (.Call (.Name x p) (e::es) [] pos) (tCB r t):=by
 intro pins s σ H Q I h
 refine u3z (Yn I hg hm hv ?_ hn hdb)
 exact u1T (thn (ha pos pins s σ H _ I h) λus s1 ⟨vs,H1,I1,r1,q1⟩=>hc pins s1 σ H1 vs us Q I1 r1 q1) he hpl
theorem XN (hc:Yb X (.type T) r) (hg:Gl X x) (hm:X.mg x=none) (hv:bootBuiltins x=some (.type T)) (ha:PA X (e::es) t) (hn:x≠"__name__":=by decide) (hdb:(x == ("__debug__":Str))=false:=by decide)
 (he:starEach (e::es) X.env=(false,eval e X.env)::starEach es X.env:=by rfl) (hpl:(backTo pos (starEach es X.env)).any (·.1)=false:=by rfl):PE X (.Call (.Name x p) (e::es) [] pos) (tCB r t):=by
 intro pins s σ H Q I h
 refine u3z (Yn I hg hm hv ?_ hn hdb)
 exact u0E (thn (ha pos pins s σ H _ I h) λus s1 ⟨vs,H1,I1,r1,q1⟩=>hc pins s1 σ H1 vs us Q I1 r1 q1) he hpl
end
end L2
namespace HT
open PySem PyProof.Rows
def lexLt:List Int->List Int->Bool
 | [],[]=>false
 | [],_::_=>true
 | _::_,[]=>false
 | x::xs,y::ys=>if x=y then lexLt xs ys else decide (x < y)
theorem lexLt_cons (x y:Int)(xs ys:List Int):lexLt (x::xs) (y::ys)=if x=y then lexLt xs ys else decide (x < y):=rfl
theorem zg7 (A:Around)(s:Shared)(a:Int)(t:Tok)(c:Int)(u:Tok):∃ e,SeqAt.EqAt A s (.int a t) (.int c u) e/\(e=true↔a=c) :=
 ⟨(a == c),u3v a t c u,by simp⟩
section
variable {prog:Program}{w:World}{A:Around}{E:Value->Shared->Prop}{s:Shared}
theorem cat_tup {t b:Addr}{vs ws:List Value}{Q:Value->Shared->Prop}(ht:IsTup s.heap t vs.toArray)(hb:IsTup s.heap b ws.toArray)(hv:vs≠[])
 (h1:ws=[]->Q (.ref t) s) (h2:ws≠[]->Q (.ref s.heap.objs.size) { s with heap:=s.heap.push { cls:=.type "tuple",data:=.seq (vs++ws).toArray } })
 (hsz:vs.length+ws.length<=sizeLine):wpAny (model prog w) A (binaryOp .Add (.ref t) (.ref b)) Q E s:=by
 obtain⟨⟨cls,dd,data,sl⟩,ho,hc,n,hd⟩:=id ht
 obtain⟨⟨cls2,dd2,data2,sl2⟩,ho2,hc2,n2,hd2⟩:=id hb
 simp only at hc hd hc2 hd2
 subst hc hd hc2 hd2
 have e:vs.toArray++ws.toArray=(vs++ws).toArray:=by simp
 by_cases hw:ws=[]
 .exact concat_meets ⟨_,ho,rfl⟩ ⟨_,ho2,rfl⟩ noFill_tuple_add seq_tuple_add u2I u2F (u2x _ _)
   (tuple_addW1 t b vs.toArray ws.toArray n n2 dd dd2 sl sl2 (by simpa using hv) (by simp[hw])) ⟨ho,ho2,h1 hw⟩
 .refine concat_meets ⟨_,ho,rfl⟩ ⟨_,ho2,rfl⟩ noFill_tuple_add seq_tuple_add u2I u2F (u2x _ _)
   (tuple_addW2 t b vs.toArray ws.toArray n n2 dd dd2 sl sl2 (by simpa using hv) (by simpa using hw) (by rw[q5,q5];exact hsz)) ⟨ho,ho2,?_⟩
  rw[e]
  exact h2 hw
def sIx (n d:Nat):Option Int->Nat
 | none=>d
 | some v=>if v < 0 then (v+(n:Int)).toNat else min v.toNat n
theorem sIx_none (n d:Nat):sIx n d none=d:=rfl
theorem sIx_nat (n d k:Nat):sIx n d (some (k:Int))=min k n:=by
 show(if (k:Int) < 0 then ((k:Int)+(n:Int)).toNat else min (k:Int).toNat n)=min k n
 rw[j7 (by omega),i5]
theorem zj6 (n d:Nat)(hd:d<=n)(o:Option Int):sIx n d o<=n:=by
 cases o with
 | none=>exact hd
 | some v =>
  show(if v < 0 then (v+(n:Int)).toNat else min v.toNat n)<=n
  by_cases hv:v < 0
  .rw[t7 hv];omega
  .rw[j7 hv];exact u30 _ _
theorem zep (v:Int)(n d:Nat):(if v < 0 then max (v+(n:Int)) 0 else min v (n:Int))=((sIx n d (some v):Nat):Int):=by
 show(if v < 0 then max (v+(n:Int)) 0 else min v (n:Int))=(((if v < 0 then (v+(n:Int)).toNat else min v.toNat n):Nat):Int)
 by_cases hv:v < 0
 .simp only[t7 hv];omega
 .simp only[j7 hv];omega
theorem zc8 (lo hi:Option Int)(n:Nat):Builtin.Slice.sliceAdjust lo hi 1 (n:Int)=(((sIx n 0 lo:Nat):Int),((sIx n n hi:Nat):Int)):=by
 have h1:¬ ((1:Int) < 0):=by omega
 unfold Builtin.Slice.sliceAdjust
 simp only[h1,u29]
 refine u2E ?_ ?_
 .cases lo with
  | none=>rfl
  | some v=>exact zep v n 0
 .cases hi with
  | none=>rfl
  | some v=>exact zep v n n
theorem zcY (i j:Nat):Builtin.Slice.slicePlaces (i:Int) (j:Int) 1=j - i:=by
 unfold Builtin.Slice.slicePlaces
 have h1:(1:Int) > 0:=by omega
 simp only[h1,u21,Int.ediv_one]
 split <;> omega
theorem WQ {v:Value}{o:Option Int}{Q:Option Int->Shared->Prop}(p:IsPart v o)(h:Q o s):wpAny (model prog w) A (Builtin.Slice.slicePartIndex v) Q E s:=by
 cases p with
 | none=>exact slicePart_none h
 | int i t=>exact slicePart_int h
theorem v4 {sl:Addr}{vl vu:Value}{lo hi:Option Int}{n:Nat}{Q:Int × Int × Nat->Shared->Prop}(hs:s.heap.IsSliceOf sl vl vu .none)(pl:IsPart vl lo)(pu:IsPart vu hi)
 (h:Q (((sIx n 0 lo:Nat):Int),1,sIx n n hi - sIx n 0 lo) s):wpAny (model prog w) A (Builtin.Slice.sliceApplied (.ref sl) (pure (n:Int))) Q E s:=by
 obtain⟨os,hos,hcs,hds⟩:=id hs
 unfold Builtin.Slice.sliceApplied Builtin.Slice.sliceFields
 refine u0 (u0 (u09 hos hds (x:=vl) rfl (u0 (u09 hos hds (x:=vu) rfl (u0 (u09 hos hds (x:=.none) rfl (u5 ?_)))))))
 refine u0 (slicePart_none ?_)
 show wpAny _ _ (if ((1:Int) == 0)=true then _ else _) _ _ s
 rw[j7 (by decide)]
 refine u0 (WQ pl (u0 (WQ pu (u0 (u5 ?_)))))
 show wpAny _ _ (match Builtin.Slice.sliceAdjust lo hi 1 (n:Int)with | (lo,hi)=>pure (lo,(1:Int),Builtin.Slice.slicePlaces lo hi 1)) _ _ s
 rw[zc8 lo hi n]
 show wpAny _ _ (pure (((sIx n 0 lo:Nat):Int),(1:Int),Builtin.Slice.slicePlaces ((sIx n 0 lo:Nat):Int) ((sIx n n hi:Nat):Int) 1)) _ _ s
 rw[zcY]
 exact u5 h
theorem zhx (xs:Array Value)(i k:Nat):((List.range k).filterMap λ(m:Nat)=>xs[((i:Int)+(m:Int)*1).toNat]?).toArray=((xs.toList.drop i).take k).toArray:=by
 have e:(λ(m:Nat)=>xs[((i:Int)+(m:Int)*1).toNat]?)=λm=>xs[i+m]?:=by
  funext m
  have:((i:Int)+(m:Int)*1).toNat=i+m:=by omega
  rw[this]
 rw[e]
 have:=pick_run xs i k
 rw[List.filterMap_map]at this
 have e2:((λx=>xs[x]?) ∘ λx=>i+x)=λm=>xs[i+m]?:=rfl
 rw[e2]at this
 rw[this]
theorem getItem_tuple_cut {t sl:Addr}{items:Array Value}{vl vu:Value}{lo hi:Option Int}{Q:Value->Shared->Prop}(ht:IsTup s.heap t items)(hs:s.heap.IsSliceOf sl vl vu .none)(pl:IsPart vl lo)(pu:IsPart vu hi)
 (hw:¬ (sIx items.size 0 lo=0/\sIx items.size items.size hi=items.size))
 (h:Q (.ref s.heap.objs.size) { s with heap:=s.heap.push { cls:=.type "tuple",data:=.seq ((items.toList.drop (sIx items.size 0 lo)).take (sIx items.size items.size hi - sIx items.size 0 lo)).toArray } })
 (hsz:items.size<=sizeLine):wpAny (model prog w) A (getItem (.ref t) (.ref sl)) Q E s:=by
 have htake:sizeOk (.seq ((items.toList.drop (sIx items.size 0 lo)).take (sIx items.size items.size hi - sIx items.size 0 lo)).toArray):=by
  show((items.toList.drop (sIx items.size 0 lo)).take (sIx items.size items.size hi - sIx items.size 0 lo)).toArray.size<=sizeLine
  rw[q5,u05,u0h,t9]
  omega
 have hj:sIx items.size items.size hi<=items.size:=zj6 _ _ (t5 _) hi
 obtain⟨os,hos,hcs,hds⟩:=id hs
 have hTs:s.TypeIs (.ref sl) "slice":=⟨os,hos,hcs⟩
 unfold getItem
 try with_reducible refine u0n ?_
 first | refine u0 (u5 ?_) | skip
 refine u0 (wpAny_sequenceKey ht.typeIs (by decide) ?_)
 refine u0 (u0b (name:=Str.ofString "__getitem__") ht.typeIs u0F
  (u0a u0F ht.typeIs entry_tuple_getitem ?_ (args_tuple_getitem _ _)))
 show wpAny _ _ (Builtin.Tuple.tupleItemsOf (.ref t)>>=_) _ _ s
 refine u0 (tupleItemsOf_ ht ?_)
 refine u0 (u1U hTs ?_)
 rw[t7 (by decide)]
 refine u0 (v4 hs pl pu ?_)
 have hno:¬ ((((sIx items.size 0 lo:Nat):Int) == 0&&(1:Int) == 1&&(sIx items.size items.size hi - sIx items.size 0 lo) == items.size)=true):=by
  intro q
  rw[g9,g9]at q
  have q1:((sIx items.size 0 lo:Nat):Int)=0:=eq_of_beq q.1.1
  have q2:sIx items.size items.size hi - sIx items.size 0 lo=items.size:=eq_of_beq q.2
  exact hw ⟨by omega,by omega⟩
 show wpAny _ _ (if (((sIx items.size 0 lo:Nat):Int) == 0&&(1:Int) == 1&&(sIx items.size items.size hi - sIx items.size 0 lo) == items.size)=true then _ else _) _ _ s
 rw[j7 hno,zhx]
 first
  | exact u0 (m:=Builtin.Tuple.tupleExact _) (i9 (u5 ⟨_,rfl,u5 h⟩) htake)
  | exact u0 (m:=Builtin.Tuple.tupleExact _) (i9 (u0 (u5 (u5 ⟨_,rfl,u5 h⟩))) htake)
  | exact u0 (u0 (m:=Builtin.Tuple.tupleExact _) (i9 (u5 (u5 ⟨_,rfl,u5 h⟩)) htake))
  | exact u0 (u0 (m:=Builtin.Tuple.tupleExact _) (i9 (u5 ⟨_,rfl,u5 h⟩) htake))
end
end HT
namespace L2
open PySem PySem.Spec PyProof.Rows
abbrev TO:=St->Hp->(Option Int->Hp->Prop)->Prop
def PO (X:Cx)(e:Option Expr)(t:TO):Prop :=
 ∀ (pins:List (Addr × Obj)) (s:Shared) (σ:St) (H:Hp) (Q:Option Int->Hp->Prop),Inv X pins σ H s->t σ H Q ->
  wpAny (model X.prog X.w) X.A (evalPart e X.env) (λu s'=>∃ o H',Inv X pins σ H' s'/\IsPart u o/\Q o H') X.xe s
def ziO:TO:=λ_ H Q=>Q none H
def zmT (t:TE):TO:=fun σ H Q=>t σ H λx H1=>∃ i,x=.int i/\Q (some i) H1
theorem vB {ns:List Int}:∀ {us:List Value},yd (ns.map V.int) us->IntsAre us ns:=by
 induction ns with
 | nil=>intro us r;rw[List.map_nil]at r;cases r;exact .nil
 | cons n ns ih =>
  intro us r
  rw[i8]at r
  cases r with
  | cons r1 r2 =>
   obtain⟨t,e⟩:=r1
   subst e
   exact .cons n t (ih r2)
section
variable {X:Cx}{e:Expr}{te:TE}{lo hi:Option Expr}{tl th:TO}{pos p2:Pos}
theorem zh9:PO X none ziO:=by
 intro pins s σ H Q I h
 rw[evalPart_none]
 exact u5 ⟨none,H,I,.none,h⟩
theorem zjb (h:PE X e te):PO X (some e) (zmT te):=by
 intro pins s σ H Q I hw
 rw[evalPart_some]
 refine thn (h pins s σ H _ I hw) λu s1 hh9=>?_
 obtain⟨x,H1,I1,r1,q1⟩:=hh9
 obtain⟨i,rfl,q⟩:=q1
 obtain⟨t,rfl⟩:=r1
 exact⟨some i,H1,I1,.int i t,q⟩
def SlR (X:Cx)(r:V->Option Int->Option Int->Hp->VK->Prop):Prop :=
 ∀ (pins:List (Addr × Obj)) (s:Shared) (σ:St) (H:Hp) (x:V) (v vl vu:Value) (lo hi:Option Int) (sl:Addr) (Q:VK),Inv X pins σ H s->yG x v->s.heap.IsSliceOf sl vl vu .none->IsPart vl lo->IsPart vu hi->r x lo hi H Q ->
  ∃ T id,typeLookup (.type T) "__getitem__"=pure (some (.builtin id))/\s.TypeIs v T/\wpAny (model X.prog X.w) X.A (getItem v (.ref sl)) (EP X pins σ Q) X.xe s
theorem SlR.or {r r':V->Option Int->Option Int->Hp->VK->Prop}(h:SlR X r)(h':SlR X r'):SlR X (λx lo hi H Q=>r x lo hi H Q\/r' x lo hi H Q):=by
 intro pins s σ H x v vl vu lo hi sl Q I rx hs pl pu q
 rcases q with q | q
 .exact h pins s σ H x v vl vu lo hi sl Q I rx hs pl pu q
 .exact h' pins s σ H x v vl vu lo hi sl Q I rx hs pl pu q
def tSl (r:V->Option Int->Option Int->Hp->VK->Prop)(te:TE)(tl th:TO):TE:=fun σ H Q=>te σ H λx H1=>tl σ H1 λl H2=>th σ H2 λu H3=>r x l u H3 Q
theorem zhs {r:V->Option Int->Option Int->Hp->VK->Prop}(hr:SlR X r)(he:PE X e te)(hl:PO X lo tl)(hu:PO X hi th):PE X (.Subscript e (.Slice lo hi none p2) pos) (tSl r te tl th):=by
 intro pins s σ H Q I h
 refine Subscript_ (thn (he pins s σ H _ I h) λv s1 hh9=>?_)
 obtain⟨x,H1,I1,r1,q1⟩:=hh9
 refine wpAny_Slice (thn (hl pins s1 σ H1 _ I1 q1) λvl s2 ⟨l,H2,I2,pl,q2⟩=>thn (hu pins s2 σ H2 _ I2 q2) λvu s3 hh9=>?_)
 obtain⟨u,H3,I3,pu,q3⟩:=hh9
 rw[evalPart_none]
 refine u5 ?_
 have I4:Inv X pins σ H3 { s3 with heap:=s3.heap.push { cls:=.type "slice",data:=.fields #[vl,vu,.none] } }:=I3.kept (t':=s3.toks) λb ob q=>u3 _ q
 obtain⟨T,id,hT,ht,hg⟩:=hr pins { s3 with heap:=s3.heap.push { cls:=.type "slice",data:=.fields #[vl,vu,.none] } } σ H3 x v vl vu l u s3.heap.objs.size Q I4 r1 (Heap.IsSliceOf.new ..) pl pu q3
 show wpAny (model X.prog X.w) X.A (subscriptTail e (.Slice lo hi none p2) v (.ref s3.heap.objs.size)) (EP X pins σ Q) X.xe { s3 with heap:=s3.heap.push { cls:=.type "slice",data:=.fields #[vl,vu,.none] } }
 exact tail_any (ops:=[.ref s3.heap.objs.size,v]) ht hT hg (by with_unfolding_all rfl)
def zaY (xs:List V)(lo hi:Option Int):List V:=(xs.drop (HT.sIx xs.length 0 lo)).take (HT.sIx xs.length xs.length hi - HT.sIx xs.length 0 lo)
theorem XX (xs:List V)(lo hi:Option Int):(zaY xs lo hi).length<=xs.length:=by
 unfold zaY
 rw[u05,u0h]
 omega
def rSlT (K:W.Frag):V->Option Int->Option Int->Hp->VK->Prop:=λx lo hi H Q=>∃ a xs,x=.ref a/\SqT K H a xs /\
 ¬ (HT.sIx xs.length 0 lo=0/\HT.sIx xs.length xs.length hi=xs.length)/\∀ p,H p=none->Q (.ref p) (upd H p (.tup (zaY xs lo hi)))
theorem zke:SlR X (rSlT X.K):=by
 intro pins s σ H x v vl vu lo hi sl Q I rx hs pl pu h
 obtain⟨a,xs,rfl,hx,hw,q⟩:=h
 cases rx
 obtain⟨its,r,ht,hz⟩:=I.tuple hx
 have hlen:its.toArray.size=xs.length:=by rw[q5];exact r.length.symm
 refine⟨"tuple",_,u0F.lookup,ht.typeIs,?_⟩
 refine HT.getItem_tuple_cut ht hs pl pu (by rw[hlen];exact hw) ?_ (by rw[hlen];exact hz)
 rw[hlen]
 refine⟨.ref s.heap.objs.size,_,I.laid (t':=s.toks) (o:=.tup (zaY xs lo hi)) (λb ob q=>u3 _ q) (t5 _) ?_,rfl,q _ (I.hok.fresh (t5 _))⟩
 exact⟨b9 (XX xs lo hi) hz,_,(r.drop (HT.sIx xs.length 0 lo)).take (HT.sIx xs.length xs.length hi - HT.sIx xs.length 0 lo),IsTup.new _ _⟩
def zmY (K:W.Frag):R2:=λx y H Q=>∃ a b xs ys,x=.ref a/\y=.ref b/\SqT K H a xs/\SqT K H b ys/\xs≠[]/\xs.length+ys.length<=sizeLine /\
 (ys=[]->Q (.ref a) H)/\(ys≠[]->∀ p,H p=none->Q (.ref p) (upd H p (.tup (xs++ys))))
theorem yd.nil_iff {xs:List V}{us:List Value}(r:yd xs us):us=[]↔xs=[]:=by
 cases r with
 | nil=>simp
 | cons _ _=>simp
theorem zij:OpR X (binaryOp .Add) (zmY X.K):=by
 intro pins s σ H x y v u Q I rx ry h
 obtain⟨a,b,xs,ys,rfl,rfl,ha,hb,hx,hz,q1,q2⟩:=h
 cases rx
 cases ry
 obtain⟨its,r1,p1,_⟩:=I.tuple ha
 obtain⟨its2,r2,p2,_⟩:=I.tuple hb
 refine HT.cat_tup p1 p2 (λz=>hx (r1.nil_iff.mp z)) (λz=>⟨.ref a,H,I,rfl,q1 (r2.nil_iff.mp z)⟩) (λz=>?_) (by rw[<-r1.length,<- r2.length];exact hz)
 refine⟨.ref s.heap.objs.size,_,I.laid (t':=s.toks) (o:=.tup (xs++ys)) (λb ob q=>u3 _ q) (t5 _) ?_,rfl,q2 (λw=>z (r2.nil_iff.mpr w)) _ (I.hok.fresh (t5 _))⟩
 exact⟨by rw[d6];exact hz,_,r1.append r2,IsTup.new _ _⟩
end
def ixN (n:Nat)(i:Int):Option Nat:=if 0<=i then (if i < n then some i.toNat else none)else if -(n:Int)<=i then some (i+n).toNat else none
def atI {α:Type}(xs:List α)(i:Int):Option α:=(ixN xs.length i).bind λj=>xs[j]?
theorem zd2 {n:Nat}{i:Int}{j:Nat}(h:ixN n i=some j):seqIndex? i n=some j/\j < n/\-(n:Int)<=i/\i < n:=by
 unfold ixN at h
 by_cases h0:0<=i
 .rw[t7 h0]at h
  by_cases h1:i < n
  .rw[t7 h1]at h
   have e:i.toNat=j:=p9 h
   exact⟨by rw[seqIndex_of h0 h1,e],by omega,by omega,h1⟩
  .rw[j7 h1]at h;cases h
 .rw[j7 h0]at h
  by_cases h1:-(n:Int)<=i
  .rw[t7 h1]at h
   have e:(i+n).toNat=j:=p9 h
   exact⟨by rw[seqIndex_neg (by omega) h1,e],by omega,h1,by omega⟩
  .rw[j7 h1]at h;cases h
theorem zbA {α:Type}{xs:List α}{i:Int}{v:α}(h:atI xs i=some v):∃ j,seqIndex? i xs.length=some j/\xs[j]?=some v/\j < xs.length/\-(xs.length:Int)<=i/\i < xs.length:=by
 unfold atI at h
 cases e:ixN xs.length i with
 | none=>rw[e]at h;cases h
 | some j =>
  rw[e]at h
  obtain⟨h1,h2,h3,h4⟩:=zd2 e
  exact⟨j,h1,h,h2,h3,h4⟩
theorem zfv {α:Type}{xs:List α}{j:Nat}{v:α}(h:xs[j]?=some v):atI xs (j:Int)=some v:=by
 have hj:j < xs.length:=(u9.mp h).1
 have e:ixN xs.length (j:Int)=some j:=by
  unfold ixN
  rw[t7 (by omega),t7 (by omega)];simp
 unfold atI;rw[e];exact h
def zea (b:Expr):Prop:=∀ o i,subscripted b false o i=operate [o,i] (getItem o i)
def IxR (X:Cx)(r:R2):Prop :=
 ∀ (value slice:Expr) (pins:List (Addr × Obj)) (s:Shared) (σ:St) (H:Hp) (x y:V) (v u:Value) (Q:VK),Inv X pins σ H s->yG x v->yG y u->r x y H Q ->
  subscripted slice false v u=operate [v,u] (getItem v u)->wpAny (model X.prog X.w) X.A (subscriptTail value slice v u) (EP X pins σ Q) X.xe s
def MtR (X:Cx)(id:String)(r:V->List V->Hp->VK->Prop):Prop :=
 ∀ (pins:List (Addr × Obj)) (s:Shared) (σ:St) (H:Hp) (x:V) (xs:List V) (v:Value) (us:List Value) (Q:VK),Inv X pins σ H s->yG x v->yd xs us->r x xs H Q ->
  wpAny (model X.prog X.w) X.A (call (.builtin id) (v::us)) (EP X pins σ Q) X.xe s
section
variable {X:Cx}{a b:Expr}{ta tb:TE}{pos:Pos}
theorem IxR.or {r r':R2}(h:IxR X r)(h':IxR X r'):IxR X (λx y H Q=>r x y H Q\/r' x y H Q):=by
 intro value slice pins s σ H x y v u Q I rx ry q hs
 rcases q with q | q
 .exact h value slice pins s σ H x y v u Q I rx ry q hs
 .exact h' value slice pins s σ H x y v u Q I rx ry q hs
theorem zmM {r:R2}(hr:IxR X r)(ha:PE X a ta)(hb:PE X b tb)(hs:zea b):PE X (.Subscript a b pos) (tOp r ta tb):=by
 intro pins s σ H Q I h
 exact Subscript_ (zmQ ha hb I h λv u s2 x y H2 I2 rx ry q=>hr a b pins s2 σ H2 x y v u Q I2 rx ry q (hs _ _))
def rIxL (K:W.Frag):R2:=λx y H Q=>∃ p xs i v,x=.ref p/\y=.int i/\SqL K H p xs/\atI xs i=some v/\Q v H
def rIxT (K:W.Frag):R2:=λx y H Q=>∃ p xs i v,x=.ref p/\y=.int i/\SqT K H p xs/\atI xs i=some v/\Q v H
def rIxS:R2:=λx y H Q=>∃ z i c,x=.str z/\y=.int i/\z.length<=sizeLine/\atI z.cps.toList i=some c/\Q (.str ⟨#[c]⟩) H
theorem zjM:IxR X (rIxL X.K):=by
 intro value slice pins s σ H x y v u Q I rx ry h hs
 obtain⟨p,xs,i,z,rfl,rfl,hq,he,q⟩:=h
 cases rx
 obtain⟨t,rfl⟩:=ry
 obtain⟨its,r,pl,hz⟩:=I.list hq
 obtain⟨j,h1,h2,h3,h4,h5⟩:=zbA he
 obtain⟨w,ew,rw'⟩:=r.get h2
 have hl:=r.length
 have hn:=zar
 have fin:EP X pins σ Q w s:=⟨z,H,I,rw',q⟩
 by_cases h0:0<=i
 .have hj:i.toNat=j:=by
   rw[seqIndex_of h0 h5]at h1
   exact p9 h1
  exact item_listR pl.isList h0 (by omega) (by rw[hj];simpa using ew) fin hs
 .have hj:(i+(its.toArray.size:Int)).toNat=j:=by
   rw[seqIndex_neg (by omega) h4]at h1
   rw[q5,<- hl]
   exact p9 h1
  exact subscriptTail_builtinR (x:=w) pl.isList.typeIs slot_list_getitem.lookup
   (wpAny_getItem_list_neg (Q:=λr s'=>r=w/\EP X pins σ Q r s') pl.isList (by omega) (by rw[q5] <;> omega) (by omega) (by rw[hj];simpa using ew) ⟨rfl,fin⟩) hs
theorem zkK:IxR X (rIxT X.K):=by
 intro value slice pins s σ H x y v u Q I rx ry h hs
 obtain⟨p,xs,i,z,rfl,rfl,hq,he,q⟩:=h
 cases rx
 obtain⟨t,rfl⟩:=ry
 obtain⟨its,r,pl,hz⟩:=I.tuple hq
 obtain⟨j,h1,h2,h3,h4,h5⟩:=zbA he
 obtain⟨w,ew,rw'⟩:=r.get h2
 have hl:=r.length
 have hn:=zar
 have fin:EP X pins σ Q w s:=⟨z,H,I,rw',q⟩
 exact subscriptTail_builtinR (x:=w) pl.typeIs slot_tuple_getitem.lookup
  (getItem_tuple (j:=j) (Q:=λr s'=>r=w/\EP X pins σ Q r s') pl (by omega) (by omega) (by rw[q5,<- hl];exact h1) (by simpa using ew) ⟨rfl,fin⟩) hs
theorem zkn:IxR X rIxS:=by
 intro value slice pins s σ H x y v u Q I rx ry h hs
 obtain⟨z,i,c,rfl,rfl,hz,he,q⟩:=h
 obtain⟨t,rfl⟩:=rx
 obtain⟨t',rfl⟩:=ry
 obtain⟨j,h1,h2,h3,h4,h5⟩:=zbA he
 have hl:z.cps.toList.length=z.length:=by simp[Str.length]
 rw[hl]at h1 h4 h5
 have hn:=zar
 exact tail_any (typeIs_str s z t) slot_str_getitem.lookup (getItem_str (c:=c) (by
  have e1:decide (i < -(2 ^ 63:Int))=false:=p6 (by omega)
  have e2:decide (i >= 2 ^ 63)=false:=p6 (by omega)
  rw[e1,e2,u3Q]) (by rw[h1];simpa using h2) ⟨.str ⟨#[c]⟩,H,I.tok _,⟨_,rfl⟩,q⟩) hs
def rIx (K:W.Frag):R2:=λx y H Q=>rIxL K x y H Q\/rIxT K x y H Q\/rIxS x y H Q
theorem zkN:IxR X (rIx X.K):=zjM.or (zkK.or zkn)
theorem zcJ (its:List Value) (n j:Nat) (u:Value):Obj.mapSeq (·.setIfInBounds j u) { cls:=.type "list",data:=.seq its.toArray n }={ cls:=.type "list",data:=.seq (its.set j u).toArray n }:=by
 simp[Obj.mapSeq]
theorem Inv.lst {pins:List (Addr × Obj)}{σ:St}{H:Hp}{s:Shared}{p:Addr}{xs:List V}(I:Inv X pins σ H s)(h:H p=some (.lst xs)) :
 ∃ (its:List Value) (n:Nat),yd xs its/\s.heap.get? p=some { cls:=.type "list",data:=.seq its.toArray n }/\xs.length<=sizeLine:=by
 obtain⟨z,its,n,r,e⟩:=I.hok p _ h
 exact⟨its,n,r,e,z⟩
theorem Inv.lstUpd {pins:List (Addr × Obj)}{σ:St}{H:Hp}{s:Shared}{p:Addr}{xs ys:List V}{its its':List Value}{n n':Nat}{f:Obj->Obj}(I:Inv X pins σ H s)(h:H p=some (.lst xs))
 (ho:s.heap.get? p=some { cls:=.type "list",data:=.seq its.toArray n }) (hf:f { cls:=.type "list",data:=.seq its.toArray n }={ cls:=.type "list",data:=.seq its'.toArray n' }) (r:yd ys its') (hz:ys.length<=sizeLine) (t:Nat) :
 Inv X pins σ (upd H p (.lst ys)) { s with heap:=s.heap.update p f,toks:=t }:=by
 have e:(s.heap.update p f).get? p=some { cls:=.type "list",data:=.seq its'.toArray n' }:=by
  rw[b6 f ho (by rw[hf] <;> rfl),hf]
 refine I.write (x:=p) (e:=p) (by rw[h];trivial) (.inl rfl) (λb u hb q=>(p8 _ _ (u0M hb)).trans q) ⟨_,e⟩ ?_
 exact⟨hz,its',n',r,e⟩
def zmp:V->V->V->Hp->(Hp->Prop)->Prop:=λo i v H Q=>∃ p xs k j,o=.ref p/\i=.int k/\H p=some (.lst xs)/\ixN xs.length k=some j/\Q (upd H p (.lst (xs.set j v)))
theorem zgH:PSet X zmp:=by
 intro pins s σ H o i v ov iv u Q I ro ri rv h
 obtain⟨p,xs,k,j,rfl,rfl,hp,hj,q⟩:=h
 cases ro
 obtain⟨t,rfl⟩:=ri
 obtain⟨its,n,r,ho,hz⟩:=I.lst hp
 obtain⟨h1,h2,h3,h4⟩:=zd2 hj
 have hl:=r.length
 have hn:=zar
 have I':Inv X pins σ (upd H p (.lst (xs.set j v))) { s with heap:=s.heap.update p (Obj.mapSeq (·.setIfInBounds j u)) } :=
  I.lstUpd hp ho (zcJ its n j u) (r.set rv j) (by rw[u2A];exact hz) s.toks
 by_cases h0:0<=k
 .have hk:k.toNat=j:=by
   rw[seqIndex_of h0 h4]at h1
   exact p9 h1
  exact W.ki_setAt ho h0 (by omega) (by rw[q5,<- hl];exact h4) (by rw[hk];exact⟨_,I',q⟩)
 .have hk:(k+(its.toArray.size:Int)).toNat=j:=by
   rw[seqIndex_neg (by omega) h3]at h1
   rw[q5,<- hl]
   exact p9 h1
  exact W.ki_setBack ho (by omega) (by rw[q5,<- hl];exact h3) (by omega) (by rw[hk];exact⟨_,I',q⟩)
theorem zau (lo hi:Option Int)(n:Nat):(sliceBounds lo hi none n).1=((HT.sIx n 0 lo:Nat):Int)/\(sliceBounds lo hi none n).2.1=((HT.sIx n n hi:Nat):Int)/\(sliceBounds lo hi none n).2.2=1:=by
 refine⟨?_,?_,rfl⟩
 .cases lo with
  | none=>simp[sliceBounds,HT.sIx]
  | some i =>
   simp only[sliceBounds,HT.sIx,Option.getD_none,show(1:Int) > 0 by decide,u21]
   by_cases h:i < 0
   .simp only[h,u21] <;> omega
   .simp only[h,u29] <;> omega
 .cases hi with
  | none=>simp[sliceBounds,HT.sIx]
  | some i =>
   simp only[sliceBounds,HT.sIx,Option.getD_none,show(1:Int) > 0 by decide,u21]
   by_cases h:i < 0
   .simp only[h,u21] <;> omega
   .simp only[h,u29] <;> omega
theorem VB (its:List Value)(lo hi:Option Int):slicePick its.toArray lo hi none=((its.drop (HT.sIx its.length 0 lo)).take (HT.sIx its.length its.length hi - HT.sIx its.length 0 lo)).toArray:=by
 obtain⟨h1,h2,h3⟩:=zau lo hi its.toArray.size
 unfold slicePick
 rw[h1,h2,h3]
 simp only[sliceRange_one,pick_run,q5] <;> rfl
def rSlL (K:W.Frag):V->Option Int->Option Int->Hp->VK->Prop:=λx lo hi H Q=>∃ a xs,x=.ref a/\SqL K H a xs/\∀ p,H p=none->Q (.ref p) (upd H p (.lst (zaY xs lo hi)))
theorem zju:SlR X (rSlL X.K):=by
 intro pins s σ H x v vl vu lo hi sl Q I rx hs pl pu h
 obtain⟨a,xs,rfl,hx,q⟩:=h
 cases rx
 obtain⟨its,r,ht,hz⟩:=I.list hx
 have hlen:=r.length
 refine⟨"list",_,slot_list_getitem.lookup,ht.isList.typeIs,?_⟩
 refine wpAny_getItem_list_slice ht.isList hs pl pu .none (by simp) ?_ (by rw[q5] <;> omega)
 rw[VB,<- hlen]
 refine⟨.ref s.heap.objs.size,_,I.laid (t':=s.toks) (o:=.lst (zaY xs lo hi)) (λb ob q=>u3 _ q) (t5 _) ?_,rfl,q _ (I.hok.fresh (t5 _))⟩
 exact⟨b9 (XX xs lo hi) hz,_,0,(r.drop (HT.sIx xs.length 0 lo)).take (HT.sIx xs.length xs.length hi - HT.sIx xs.length 0 lo),t6 _ rfl⟩
def zc3:V->Bool
 | .non=>true
 | .bl _=>true
 | .int _=>true
 | .str _=>true
 | _=>false
def eqV:V->V->Bool
 | .non,.non=>true
 | .bl a,.bl b=>a == b
 | .bl a,.int b=>(if a then 1 else 0) == b
 | .int a,.bl b=>a == (if b then 1 else 0)
 | .int a,.int b=>a == b
 | .str a,.str b=>a == b
 | _,_=>false
theorem zev {A:Around}{s:Shared}{y x:V}{u v:Value}(ry:yG y u)(rx:yG x v)(fy:zc3 y=true)(fx:zc3 x=true):SeqAt.EqAt A s u v (eqV y x):=by
 cases y with
 | non =>
  cases ry
  cases x with
  | non=>cases rx;exact SeqAt.EqAt.same _
  | bl b=>cases rx;exact SeqAt.EqAt.none_bool b
  | int b=>obtain⟨t,rfl⟩:=rx;exact SeqAt.EqAt.none_int b t
  | str b=>obtain⟨t,rfl⟩:=rx;exact SeqAt.EqAt.none_str b t
  | _=>exact absurd (show false=true from fx) u8
 | bl a =>
  cases ry
  cases x with
  | non=>cases rx;exact SeqAt.EqAt.bool_none a
  | bl b=>cases rx;exact SeqAt.EqAt.bool_bool a b
  | int b=>obtain⟨t,rfl⟩:=rx;exact SeqAt.EqAt.bool_int a b t
  | str b=>obtain⟨t,rfl⟩:=rx;exact SeqAt.EqAt.bool_str a b t
  | _=>exact absurd (show false=true from fx) u8
 | int a =>
  obtain⟨t',rfl⟩:=ry
  cases x with
  | non=>cases rx;exact SeqAt.EqAt.int_none a t'
  | bl b=>cases rx;exact SeqAt.EqAt.int_bool a t' b
  | int b=>obtain⟨t,rfl⟩:=rx;exact u3v a t' b t
  | str b=>obtain⟨t,rfl⟩:=rx;exact SeqAt.EqAt.int_str a t' b t
  | _=>exact absurd (show false=true from fx) u8
 | str a =>
  obtain⟨t',rfl⟩:=ry
  cases x with
  | non=>cases rx;exact SeqAt.EqAt.str_none a t'
  | bl b=>cases rx;exact SeqAt.EqAt.str_bool a t' b
  | int b=>obtain⟨t,rfl⟩:=rx;exact SeqAt.EqAt.str_int a t' b t
  | str b=>obtain⟨t,rfl⟩:=rx;exact SeqAt.EqAt.str_str a t' b t
  | _=>exact absurd (show false=true from fx) u8
 | _=>exact absurd (show false=true from fy) u8
def eqU (x:V)(u:Value):Bool:=match u with
 | .none=>eqV .non x
 | .bool b=>eqV (.bl b) x
 | .int i _=>eqV (.int i) x
 | .str z _=>eqV (.str z) x
 | _=>false
theorem zk9 {x y:V}{u:Value}(r:yG y u)(f:zc3 y=true):eqU x u=eqV y x:=by
 cases y with
 | non=>cases r;rfl
 | bl b=>cases r;rfl
 | int i=>obtain⟨t,rfl⟩:=r;rfl
 | str z=>obtain⟨t,rfl⟩:=r;rfl
 | _=>exact absurd (show false=true from f) u8
theorem Vw {A:Around}{s:Shared}{x:V}{v:Value}(rx:yG x v)(fx:zc3 x=true):∀ {xs:List V} {us:List Value},yd xs us->xs.all zc3=true->∀ u∈us,SeqAt.EqAt A s u v (eqU x u)
 | _,_,.nil,_=>λu hu=>by cases hu
 | y::xs,u::us,.cons r t,f=>λu' hu=>by
  rw[u26,g9]at f
  rcases j5.mp hu with rfl | hu
  .rw[zk9 r f.1];exact zev r rx f.1 fx
  .exact Vw rx fx t f.2 u' hu
theorem zS:Yb X (.builtin "len") (λxs H Q=>∃ p ys,xs=[.ref p]/\(SqL X.K H p ys\/SqT X.K H p ys)/\Q (.int ys.length) H):=by
 intro pins s σ H xs us Q I r h
 obtain⟨p,ys,rfl,hq,q⟩:=h
 obtain⟨u,rfl,rx⟩:=X0 r
 cases rx
 have hn:=zar
 rcases hq with hq | hq
 .obtain⟨its,r',pl,hz⟩:=I.list hq
  have hlen:=r'.length
  exact Calls.call_len_list pl.isList (by simp only[q5] <;> omega) ⟨.int ys.length,H,I.tok _,⟨s.toks+1,by rw[q5,hlen]⟩,q⟩
 .obtain⟨its,r',pl,hz⟩:=I.tuple hq
  have hlen:=r'.length
  exact len_tuple pl (by simp only[q5] <;> omega) ⟨.int ys.length,H,I.tok _,⟨s.toks+1,by rw[q5,hlen]⟩,q⟩
theorem zaj:Yb X (.type "list") (λxs H Q=>∃ p ys,xs=[.ref p]/\(SqL X.K H p ys\/SqT X.K H p ys)/\∀ l,H l=none->Q (.ref l) (upd H l (.lst ys))):=by
 intro pins s σ H xs us Q I r h
 obtain⟨p,ys,rfl,hq,q⟩:=h
 obtain⟨u,rfl,rx⟩:=X0 r
 cases rx
 have fin:∀ (its:List Value),yd ys its->ys.length<=sizeLine->∀ (h':Heap) (c':Nat),(∀ b o',s.heap.get? b=some o'->h'.get? b=some o') ->
  h'.get? s.heap.objs.size=some { cls:=.type "list",dict:=none,data:=.seq its.toArray c',slots:=#[] }->EP X pins σ Q (.ref s.heap.objs.size) { s with heap:=h' }:=λits r' hz h' c' kp e =>
  ⟨.ref s.heap.objs.size,_,I.laid (t':=s.toks) kp (t5 _) (show yt X.prog X.w _ h' _ (.lst ys) from⟨hz,its,c',r',e⟩),rfl,q _ (I.hok.fresh (t5 _))⟩
 rcases hq with hq | hq
 .obtain⟨its,r',pl,hz⟩:=I.list hq
  have hlen:=r'.length
  obtain⟨o,ho,hc,n,hd⟩:=pl.isList
  exact call_list_seq p (.inl rfl) ho hc hd (λh' c' kp e=>fin its r' hz h' c' kp e) (by simp only[q5] <;> omega)
 .obtain⟨its,r',pl,hz⟩:=I.tuple hq
  have hlen:=r'.length
  obtain⟨o,ho,hc,n,hd⟩:=pl
  exact call_list_seq p (.inr rfl) ho hc hd (λh' c' kp e=>fin its r' hz h' c' kp e) (by simp only[q5] <;> omega)
theorem zV:Yb X (.type "tuple") (λxs H Q=>∃ p ys,xs=[.ref p]/\((SqL X.K H p ys/\∀ l,H l=none->Q (.ref l) (upd H l (.tup ys)))\/(SqT X.K H p ys/\Q (.ref p) H))):=by
 intro pins s σ H xs us Q I r h
 obtain⟨p,ys,rfl,h⟩:=h
 obtain⟨u,rfl,rx⟩:=X0 r
 cases rx
 rcases h with ⟨hq,q⟩ | ⟨hq,q⟩
 .obtain⟨its,r',pl,hz⟩:=I.list hq
  have hlen:=r'.length
  refine call_tuple_list pl.isList (λh' kp=>?_) (by simp only[q5] <;> omega)
  have I1:Inv X pins σ H { s with heap:=h' }:=I.kept (t':=s.toks) kp
  have I2:Inv X pins σ (upd H h'.objs.size (.tup ys)) { s with heap:=h'.push { cls:=.type "tuple",data:=.seq its.toArray } } :=
   I1.laid (t':=s.toks) (λb o e=>u3 _ e) (t5 _) (show yt X.prog X.w _ _ _ (.tup ys) from⟨hz,its,r',IsTup.new _ _⟩)
  exact⟨.ref h'.objs.size,_,I2,rfl,q _ (I1.hok.fresh (t5 _))⟩
 .obtain⟨its,r',pl,hz⟩:=I.tuple hq
  exact call_tuple_same pl ⟨.ref p,H,I,rfl,q⟩
def tyV (K:W.Frag)(T:String)(x:V)(H:Hp):Prop:=match x with
 | .str _=>T="str"
 | .int _=>T="int"
 | .ref p=>(T="list"/\∃ xs,SqL K H p xs)\/(T="tuple"/\∃ o,K.lookup p=some o/\o.cls=.type "tuple"/\o.dict=none) \/
  (T="dict"/\((∃ kvs,H p=some (.dK kvs))\/∃ kvs,H p=some (.dT kvs)))\/(T="set"/\∃ S n,H p=some (.set S n))
 | _=>False
theorem zkz {pins:List (Addr × Obj)}{σ:St}{H:Hp}{s:Shared}{T:String}{x:V}{v:Value}(I:Inv X pins σ H s)(r:yG x v)(ty:tyV X.K T x H) :
 s.TypeIs v T/\∀ a,v=.ref a->∃ ob,s.heap.get? a=some ob/\ob.dict=none:=by
 cases x with
 | str z =>
  obtain⟨t,rfl⟩:=r
  cases (show T="str" from ty)
  exact⟨typeIs_str s z t,λ_ e=>nomatch e⟩
 | int i =>
  obtain⟨t,rfl⟩:=r
  cases (show T="int" from ty)
  exact⟨typeIs_int s i t,λ_ e=>nomatch e⟩
 | ref p =>
  cases r
  rcases ty with ⟨rfl,xs,hq⟩ | ⟨rfl,o,hk,hc,hd⟩ | ⟨rfl,hk⟩ | ⟨rfl,S,n,hk⟩
  .obtain⟨its,_,pl,_⟩:=I.list hq
   refine⟨pl.isList.typeIs,λa e=>?_⟩
   cases e
   obtain⟨o,n,e,c,hd,_⟩:=pl
   exact⟨o,e,hd⟩
  .refine⟨⟨o,I.kIn p o hk,hc⟩,λa e=>?_⟩
   cases e
   exact⟨o,I.kIn _ o hk,hd⟩
  .have z:∃ o,s.heap.get? p=some o/\o.ExactDict:=by
    rcases hk with ⟨kvs,hk⟩ | ⟨kvs,hk⟩
    .obtain⟨_,_,_,_,o,_,_,e,ex,_⟩:=I.hok p _ hk
     exact⟨o,e,ex⟩
    .obtain⟨_,_,_,_,o,_,_,e,ex,_⟩:=I.hok p _ hk
     exact⟨o,e,ex⟩
   obtain⟨o,e,ex⟩:=z
   refine⟨⟨o,e,ex.1⟩,λa e2=>?_⟩
   cases e2
   exact⟨o,e,ex.2.1⟩
  .obtain⟨o,_,_,_,e,ex,_⟩:=I.hok p _ hk
   refine⟨⟨o,e,ex.1⟩,λa e2=>?_⟩
   cases e2
   exact⟨o,e,ex.2.1⟩
 | _=>exact False.elim ty
def tBM (K:W.Frag)(T:String)(r:V->List V->Hp->VK->Prop)(to:TE)(t:TA):TE:=fun σ H Q=>to σ H λx H1=>tyV K T x H1/\t σ H1 λxs H2=>r x xs H2 Q
variable {o e:Expr}{es:List Expr}{to:TE}{t:TA}{name:Str}{apos cpos:Pos}{T id:String}{r:V->List V->Hp->VK->Prop}
theorem Wd (pa:PlainAttrs T) (slot:Slot T name id) (hty:typeOf (.builtin id)=pure (.type "method_descriptor")) (hm:MtR X id r) (ho:PE X o to) (ha:PA X (e::es) t)
 (hbase:attributeBase o name X.env (eval o X.env)=eval o X.env:=by rfl)
 (hfew:((backTo cpos (starEach (e::es) X.env)).all (λx=>!x.1)&&(backToKw cpos (keywordEach [] X.env)).all (λx=>x.1.isSome)
  && decide ((e::es).length+([]:List Keyword).length+(if ([]:List Keyword).isEmpty then 0 else 1) < 30))=true:=by rfl)
 (hline:(apos.endLine == cpos.line)=true:=by rfl) (hs:starEach (e::es) X.env=(false,eval e X.env)::starEach es X.env:=by rfl) (hplain:(backTo cpos (starEach es X.env)).any (·.1)=false:=by rfl) :
 PE X (.Call (.Attribute o name apos) (e::es) [] cpos) (tBM X.K T r to t):=by
 intro pins s σ H Q I h
 refine wpAny_Call_method_late hbase hfew hline rfl (thn (ho pins s σ H _ I h) λv s1 hh9=>?_)
 obtain⟨x,H1,I1,r1,ty,q1⟩:=hh9
 obtain⟨h1,h2⟩:=zkz I1 r1 ty
 refine⟨T,id,pa,slot,hty,h1,h2,?_⟩
 have hA:=ha cpos pins s1 σ H1 _ I1 q1
 rw[hs]at hA ⊢
 refine Calls.callWith_builtin (by show(false||(backTo cpos (starEach es X.env)).any (·.1))=false;rw[hplain] <;> rfl) (Calls.evalArgs_plain ?_)
 exact thn hA λus s2 ⟨vs,H2,I2,r2,q2⟩=>hm pins s2 σ H2 x vs v us Q I2 r1 r2 q2
/- xs.append(e),list.index on a module's tuple .. are MtR facts of 06m -/
end
def MtM (X:Cx)(id:String)(r:V->List V->Hp->VK->Prop):Prop :=
 ∀ (pins:List (Addr × Obj)) (s:Shared) (σ:St) (H:Hp) (x:V) (xs:List V) (v:Value) (us:List Value) (Q:VK),Inv X pins σ H s->yG x v->yd xs us->r x xs H Q ->
  wpAny (model X.prog X.w) X.A (call (.builtin id) (v::us)) (EP X pins σ Q) X.xe s
theorem yd.one:∀ {x:V} {us:List Value},yd [x] us->∃ u,us=[u]/\yG x u:=by
 intro x us h
 cases h with | cons r t=>cases t;exact⟨_,rfl,r⟩
theorem yd.two:∀ {x y:V} {us:List Value},yd [x,y] us->∃ u v,us=[u,v]/\yG x u/\yG y v:=by
 intro x y us h
 cases h with | cons r t=>cases t with | cons q t=>cases t;exact⟨_,_,rfl,r,q⟩
theorem yd.rep {xs:List V}{us:List Value}(h:yd xs us):∀ k:Nat,yd (List.replicate k xs).flatten (List.replicate k us).flatten
 | 0=>.nil
 | k+1=>by
  rw[u08,u08,u1M,u1M]
  exact yd.append h (yd.rep h k)
theorem zaA (its:List Value):∀ (k:Nat) (acc:List Value),
 List.foldl (λx1 x2=>x1++x2) acc.toArray (List.replicate k its.toArray)=(acc++(List.replicate k its).flatten).toArray
 | 0,acc=>by simp
 | k+1,acc=>by
  have e:acc.toArray++its.toArray=(acc++its).toArray:=by simp
  have e2:(acc++its)++(List.replicate k its).flatten=acc++(List.replicate (k+1) its).flatten:=by
   rw[u08,u1M,u3G]
  rw[<-e2,<- zaA its k (acc++its),<- e,u08,List.foldl_cons]
section
variable {X:Cx}{pins:List (Addr × Obj)}{σ:St}{H:Hp}{s:Shared}{l b:Addr}{xs ys zs:List V}
theorem Inv.lset {its its':List Value}{n:Nat}{f:Array Value->Array Value}{t':Nat}(I:Inv X pins σ H s)(hH:H l=some (.lst xs))
 (e:s.heap.get? l=some { cls:=.type "list",data:=.seq its.toArray n }) (hf:f its.toArray=its'.toArray) (hv:yd ys its') (hz:ys.length<=sizeLine) :
 Inv X pins σ (upd H l (.lst ys)) { s with heap:=s.heap.update l (Obj.mapSeq f),toks:=t' }:=by
 have q:=PySem.IsL.update e f
 rw[hf]at q
 refine I.write (x:=l) (e:=l) (by rw[hH];exact trivial) (.inl rfl) (λb' u hb hu=>(p8 s.heap (Obj.mapSeq f) (u0M hb)).trans hu) ⟨_,q⟩ ?_
 exact⟨hz,its',_,hv,q⟩
theorem Inv.lnew {its:List Value}{t':Nat}(I:Inv X pins σ H s)(hv:yd ys its)(hz:ys.length<=sizeLine) :
 Inv X pins σ (upd H s.heap.objs.size (.lst ys)) { s with heap:=s.heap.push { cls:=.type "list",data:=.seq its.toArray },toks:=t' } :=
 I.laid (λ_ _ q=>u3 _ q) (t5 _) ⟨hz,its,0,hv,t6 _ rfl⟩
theorem Inv.fresh (I:Inv X pins σ H s):H s.heap.objs.size=none:=I.hok.fresh (t5 _)
theorem Inv.lstM (I:Inv X pins σ H s) (hH:H l=some (.lst xs)):xs.length<=sizeLine/\∃ (its:List Value) (n:Nat),yd xs its/\xs.length=its.length/\s.heap.get? l=some { cls:=.type "list",data:=.seq its.toArray n }:=by
 obtain⟨z,its,n,r,e⟩:=I.hok l _ hH
 exact⟨z,its,n,r,r.length,e⟩
theorem zcg {n:Nat}(h:n<=sizeLine):Builtin.List.listTooLong n=false:=by
 unfold Builtin.List.listTooLong
 exact p6 (by omega)
end
section
variable {X:Cx}
def zeD:V->List V->Hp->VK->Prop:=λx vs H Q=>∃ l xs y,x=.ref l/\vs=[y]/\H l=some (.lst xs)/\xs.length < sizeLine/\Q .non (upd H l (.lst (xs++[y])))
theorem wK:MtM X "list.append" zeD:=by
 intro pins s σ H x vs v us Q I rx rv h
 obtain⟨l,xs,y,rfl,rfl,hH,hz,q⟩:=h
 cases rx
 obtain⟨u,rfl,ru⟩:=rv.one
 obtain⟨z,its,n,r,hl,e⟩:=I.lstM hH
 refine u3M F.slot_list_append ⟨_,e,rfl⟩ F.entry_list_append (F.args_list_append_2 _ _) (PySem.list_append l its.toArray n u (by rw[q5];omega)) ⟨e,?_⟩
 refine⟨.non,_,I.lset (its':=its++[u]) hH e (by simp) (r.append (.cons ru .nil)) ?_,rfl,q⟩
 rw[d6,u17]
 omega
def ziM:V->List V->Hp->VK->Prop:=λx vs H Q=>∃ l b xs zs,x=.ref l/\vs=[.ref b]/\H l=some (.lst xs)/\H b=some (.lst zs)/\xs.length+zs.length<=sizeLine/\Q .non (upd H l (.lst (xs++zs)))
theorem zlo:MtM X "list.extend" ziM:=by
 intro pins s σ H x vs v us Q I rx rv h
 obtain⟨l,b,xs,zs,rfl,rfl,hH,hB,hz,q⟩:=h
 cases rx
 obtain⟨u,rfl,ru⟩:=rv.one
 cases ru
 obtain⟨z,its,n,r,hl,e⟩:=I.lstM hH
 obtain⟨z2,its2,n2,r2,hl2,e2⟩:=I.lstM hB
 have hsz:its.toArray.size+its2.toArray.size<=sizeLine:=by rw[q5,q5];omega
 have hlong:¬ (!its.toArray.isEmpty&&Builtin.List.listTooLong (its.toArray.size+its2.toArray.size))=true:=by
  rw[zcg hsz,u1Z]
  exact u8
 refine u3M F.slot_list_extend ⟨_,e,rfl⟩ F.entry_list_extend (F.args_list_extend_2 _ _)
  (AutoSeq1.list_extend_list_list_0 l its.toArray n b its2.toArray n2 hlong (by rw[q5];omega) (by omega)) ⟨e,e2,?_⟩
 refine⟨.non,_,I.lset (its':=its++its2) hH e (by simp) (r.append r2) ?_,rfl,q⟩
 rw[d6]
 omega
def rCat:R2:=λx y H Q=>∃ l b xs zs,x=.ref l/\y=.ref b/\H l=some (.lst xs)/\H b=some (.lst zs)/\xs.length+zs.length<=sizeLine/\∀ p,H p=none->Q (.ref p) (upd H p (.lst (xs++zs)))
theorem zlR:OpR X (binaryOp .Add) rCat:=by
 intro pins s σ H x y v u Q I rx ry h
 obtain⟨l,b,xs,zs,rfl,rfl,hH,hB,hz,q⟩:=h
 cases rx
 cases ry
 obtain⟨z,its,n,r,hl,e⟩:=I.lstM hH
 obtain⟨z2,its2,n2,r2,hl2,e2⟩:=I.lstM hB
 refine PySem.P.add_list e e2 ?_ (by rw[q5,q5];omega)
 have ea:its.toArray++its2.toArray=(its++its2).toArray:=by simp
 rw[ea]
 exact⟨.ref _,_,I.lnew (t':=s.toks) (r.append r2) (by rw[d6];omega),rfl,q _ I.fresh⟩
def rRep:R2:=λx y H Q=>∃ l k xs,x=.ref l/\y=.int k/\H l=some (.lst xs)/\-(2 ^ 63)<=k/\k < 2 ^ 63/\xs.length*k.toNat<=sizeLine /\
 ∀ p,H p=none->Q (.ref p) (upd H p (.lst (List.replicate k.toNat xs).flatten))
theorem zjE {α:Type}(xs:List α)(k:Nat):(List.replicate k xs).flatten.length=k*xs.length:=by
 induction k with
 | zero=>simp
 | succ k ih=>rw[u08,u1M,d6,ih,Nat.succ_mul,Nat.add_comm]
theorem zkW:OpR X (binaryOp .Mult) rRep:=by
 intro pins s σ H x y v u Q I rx ry h
 obtain⟨l,k,xs,rfl,rfl,hH,h1,h2,hz,q⟩:=h
 cases rx
 obtain⟨t,rfl⟩:=ry
 obtain⟨z,its,n,r,hl,e⟩:=I.lstM hH
 have hlen:its.toArray.size*k.toNat<=sizeLine:=by rw[q5,<- hl];exact hz
 have hcap:¬ its.toArray.size*k.toNat > (2 ^ 63 - 1) / 8:=by
  have:(sizeLine:Nat)<=(2 ^ 63 - 1) / 8:=by decide
  omega
 have hfit:¬ (!Builtin.List.listFitsIndex k)=true:=by
  rw[fitsIndex_both h1 h2]
  exact u8
 have hlong:¬ Builtin.List.listTooLong (its.toArray.size*k.toNat)=true:=by
  rw[zcg hlen]
  exact u8
 have hnew:List.foldl (λx1 x2=>x1++x2) #[] (List.replicate (if its.toArray.isEmpty=true then 0 else k.toNat) its.toArray)=(List.replicate k.toNat its).flatten.toArray:=by
  have f0:∀ m:Nat,List.foldl (λx1 x2=>x1++x2) #[] (List.replicate m its.toArray)=(List.replicate m its).flatten.toArray:=λm=>by
   have:=zaA its m []
   rw[List.nil_append]at this
   exact this
  rw[f0]
  cases its with
  | nil=>simp
  | cons a r'=>rw[j7 (by simp)]
 refine wpAny_binaryOp_repeat_ref (T:="list") (U:="int") (by decide) ⟨_,e,rfl⟩ (λs'=>typeIs_int s' k t) noFill_list_mul F.fills_int_mul F.slot_int_rmul repeat_list F.slot_int_index.lookup
  (u3M F.slot_int_rmul (typeIs_int s k t) F.entry_int_rmul (F.args_int_rmul_2 _ _) (int___rmul___int_list k t l its.toArray n)
   ⟨e,rfl,⟨_,e,rfl⟩,u3M F.slot_list_mul ⟨_,e,rfl⟩ F.entry_list_mul (F.args_list_mul_2 _ _) (AutoListH.list___mul___list_int_3 l its.toArray n k t hfit hcap hlong) ⟨e,?_⟩⟩)
 rw[hnew]
 exact⟨.ref _,_,I.lnew (t':=s.toks) (r.rep k.toNat) (by rw[zjE,Nat.mul_comm];exact hz),rfl,q _ I.fresh⟩
end
end L2
namespace Att
open PySem PySem.W PySem.Calls PyProof.Rows
theorem XO {P:Params}{h:Heap}:∀ (ns:List Int) (vs:List Value),WellAll P h vs (ns.map WData.int)->IntsAre vs ns:=by
 intro ns
 induction ns with
 | nil =>
  intro vs w
  rw[List.map_nil]at w
  cases w
  exact .nil
 | cons n ns ih =>
  intro vs w
  rw[i8]at w
  cases w with
  | cons a b =>
   cases a
   exact .cons _ _ (ih _ b)
theorem zdU {l:OpenLaw}{n:Nat}(hn:l.most=some n){P:Params}{h:Heap}{args:List WData}{vals:List Value}
 (hpre:l.row.toRowW.claim.pre args=true) (hwl:WellAll P h vals args) :
 ∃ a vs ns,vals=[Value.ref a]/\args=[WData.list (ns.map WData.int)]/\h.get? a=some { cls:=.type "list",data:=.seq vs.toArray }/\IntsAre vs ns/\ns.length<=n:=by
 have hsh:WShape.hasAll [] args [.list .int]=true:=(pre_splitW hpre).1
 have hc:l.pre.holds [] { args:=args }=true:=(pre_splitW hpre).2
 obtain⟨d,r,rfl,h1,h2⟩:=hasAllW_cons hsh
 obtain rfl:=hasAllW_nil h2
 obtain⟨xs,rfl,h3⟩:=hasW_list h1
 obtain⟨ns,rfl⟩:=items_int h3
 have hlen:ns.length<=n:=by
  unfold OpenLaw.pre at hc
  have h4:(WTm.not (.lt (.lit (.int (n:Int))) (.len (.arg 0)))).holds [] { args:=[.list (ns.map .int)] }=true:=by
   have h4:=(holds_andW hc).1
   rw[hn]at h4
   exact h4
  have h5:=condW_of h4 (w_not (w_lt w_lit (w_len_list (w_arg rfl))))
  rw[u6]at h5
  refine u0s λq=>?_
  have q':(n:Int) < ((ns.length:Nat):Int):=by omega
  first
   | (rw[r9 q']at h5;exact absurd h5 (by decide))
   | (simp at h5;omega)
 cases hwl with
 | cons w1 w2 =>
  cases w2
  cases w1 with
  | list ho hall=>exact⟨_,_,ns,rfl,rfl,ho,XO ns _ hall,hlen⟩
theorem zdF (l:OpenLaw)(args:List WData):l.row.toRowW.claim.post args (.bool true) args=true :=
 postW_of (r:=l.row.toRowW) (X:=(true == true))
  (show WShape.has [] (.bool true) .bool=true by first | rfl | decide | simp[WShape.has,WShape.arms,WShape.armsAll])
  (show(WTm.eq .res (.lit (.bool true))).value [] { args:=args,res:=some (.bool true),after:=args }=some (.bool (true == true))from w_eq_bool (w_res rfl) w_lit) rfl
theorem attach_call {l:OpenLaw}{n:Nat}{q:Program}{loose:List Str}{XP:(Str->Option Value)->Heap->Prop}{YP:World->Heap->Prop}{d:DefRec}
 (hn:l.most=some n) (hdf:d.params.defaults=[])
 (call:∀ (w:World) (s₀ s₁:Shared) (mg mb:Str->Option Value) (fa:Addr) (o:Obj) (pm cd doc:Value) (a:Addr) (vs:List Value) (ns:List Int),
  Ground q loose [] XP w s₀ mg mb s₁.heap->YP w s₁.heap ->
  s₁.heap.get? fa=some o->o.data=.func (docDef d.name d.params d.body d.scope pm cd doc)->s₁.heap.CodeRec cd d.name->mg d.name=some (.ref fa) ->
  s₁.heap.get? a=some { cls:=.type "list",data:=.seq vs.toArray }->IntsAre vs ns->ns.length<=n->s₁.gens=#[] ->
  codeAny (model l.prog w) callerA (.call (.ref fa) ⟨[.ref a],[]⟩) (λr s'=>r=.ok (.ret (.bool true))/\OldK s₁.heap s'.heap/\s'.os=s₁.os/\AllBare s'.gens) s₁) :
 WalkO q loose XP YP l.row.toRowW d [] (λf vs=>PySem.call f vs):=by
 intro w s₀ s₁ mg mb G Y fa o pm cd doc dV kV ho hd hcd hD hmg hg args vals as hpre hlay hrd hwl hlo
 obtain rfl:dV=.none:=Dflts.none hD hdf
 obtain rfl:kV=.none:=Dflts.noKw hD
 obtain⟨a,vs,ns,rfl,rfl,hobj,hints,hlen⟩:=zdU hn hpre hwl
 refine enter_call (u2y (call w s₀ s₁ mg mb fa o pm cd doc a vs ns G Y ho (fd_plain hd) hcd hmg hobj hints hlen hg) λr s' hq=>?_)
 obtain⟨rfl,h2,h3,h4⟩:=hq
 exact⟨.inl ⟨.bool true,.bool true,[],rfl,λ_=>rfl,.bool true,zdF l _,λ_=>⟨List.Pairwise.nil,λ_ hm=>(nomatch hm)⟩⟩,h2,h3,h4⟩
section
variable {prog:Program}{w:World}{A:Around}{E:Value->Shared->Prop}{s:Shared}{K:Frag}
def ledger (h:Heap)(L d:Addr):List (Addr × Obj):=(List.range h.objs.size).filterMap λa=>if a=L\/a=d then none else (h.get? a).map λo=>(a,o)
end
end Att
namespace L2
open PySem PySem.Spec PyProof.Rows
theorem XZ:∀ {vs:List Value} {ns:List Int},IntsAre vs ns->yd (ns.map V.int) vs:=by
 intro vs ns h
 induction h with
 | nil=>exact .nil
 | cons n t h ih=>exact .cons ⟨t,rfl⟩ ih
def zmq (H:Hp):Prop:=∀ b,H b=none\/∃ o xs,H b=some (.frz o (.lst xs))
theorem zgS {P:Program}{w:World}{K:W.Frag}{mg mb:Str->Option Value}{CX:CXT}{k:Nat}{fa a:Addr}{fd:FuncData}{x:Str}{sp:Sp}{s₁:Shared}{vs:List Value}{ns:List Int}
 (KX:K.In s₁.heap) (hns:s₁.heap.Ns mainGlobals mg) (hb:s₁.heap.Ns builtinsNs mb) (hbb:∀ x:Str,x≠"__name__"->mb x=bootBuiltins x) (hlim:s₁.heap.NoLimit) (hg:s₁.gens=#[])
 (ha:s₁.heap.get? a=some { cls:=.type "list",data:=.seq vs.toArray }) (hi:IntsAre vs ns) (hl:ns.length<=sizeLine) (hr:YJ k callerA)
 (F:∀ base:Heap,K.In base->base.Ns mainGlobals mg->xz P w K mg base CX k fa fd [x] sp) (hbind:∀ (s:Shared) (u:Value),BindsTo s fd ⟨[u],[]⟩ [(x,u)])
 (hsp:∀ H:Hp,zmq H->SqL K H a (ns.map V.int)->sp [.ref a] H (λv _=>v=.bl true) λ_ _ _=>False)
 (hCX:∀ H e s',CX [] H s₁ (λ_ _ _=>False) e s'->False) :
 codeAny (model P w) callerA (.call (.ref fa) ⟨[.ref a],[]⟩) (λr s'=>r=.ok (.ret (.bool true))/\OldK s₁.heap s'.heap/\s'.os=s₁.os/\AllBare s'.gens) s₁:=by
 have rv:=XZ hi
 have lenV:=hi.length
 -- from an abstract heap in which nothing but the script may be tracked
 have core:∀ H:Hp,zmq H->SqL K H a (ns.map V.int)->HOk P w H s₁.heap->(∀ b,H b≠none->b=a)->(H a≠none->K.lookup a=none) ->
  codeAny (model P w) callerA (.call (.ref fa) ⟨[.ref a],[]⟩) (λr s'=>r=.ok (.ret (.bool true))/\OldK s₁.heap s'.heap/\s'.os=s₁.os/\AllBare s'.gens) s₁:=by
  intro H hO hS hok hA hK
  have base_of:∀ {b:Addr} {o:Obj},s₁.heap.get? b=some o->H b=none->(zgF s₁.heap H).get? b=some o:=λe n=>zhe e n
  have noA:∀ {b:Addr} {o:Obj} {es:Array DictEntry} {ep:Nat},s₁.heap.get? b=some o->o.data=.dict es ep->H b=none:=λ{b o es ep} e d=>by
   cases q:H b with
   | none=>rfl
   | some u =>
    have e':b=a:=hA b (by rw[q];simp)
    subst e'
    rw[ha]at e;cases e
    have d':Data.seq vs.toArray _=Data.dict es ep:=d
    cases d'
  have nsK:∀ {b:Addr} {m:Str->Option Value},s₁.heap.Ns b m->(zgF s₁.heap H).Ns b m:=λ{b m} ⟨o,es,ep,e,d,r⟩=>⟨o,es,ep,base_of e (noA e d),d,r⟩
  have hKb:K.In (zgF s₁.heap H):=λb o e=>base_of (KX b o e) (by
   cases q:H b with
   | none=>rfl
   | some u =>
    have e':b=a:=hA b (by rw[q];simp)
    subst e'
    rw[hK (by rw[q];simp)]at e;cases e)
  have hM:Mod K mg (zgF s₁.heap H):=⟨hKb,nsK hns,⟨mb,nsK hb,hbb⟩,let ⟨mc,h1,h2⟩:=hlim;⟨mc,nsK h1,h2⟩⟩
  have e0:zl1 P w K mg (zgF s₁.heap H) callerA [] s₁ H:=⟨rfl,hM,λb o e=>zii e,Nat.le_of_eq (zfy _ _),trivial,λb hb=>absurd (show b∈([]:List Addr)from hb) (by simp),hok,.of_eq hg⟩
  refine u2y ((F _ hKb (nsK hns)).run callerA [] s₁ H ⟨[.ref a],[]⟩ [.ref a] [.ref a] _ _ hr e0 (hbind s₁ (.ref a)) (.cons rfl .nil) (hsp H hO hS)) λr s' h=>?_
  cases r with
  | error e=>exact(hCX H e s' h).elim
  | ok fl =>
   cases fl with
   | next=>exact False.elim h
   | brk=>exact False.elim h
   | cont=>exact False.elim h
   | ret u =>
    obtain⟨v,H',os,bare,un,hok',r',q⟩:=h
    have q':v=.bl true:=q
    subst q'
    obtain rfl:u=Value.bool true:=r'
    refine⟨rfl,OldK.of_keep λb o e=>?_,os,bare⟩
    cases q:H b with
    | none=>exact un.keep b o e q (by intro z;exact absurd (show b∈([]:List Addr)from z) (by simp)) (by simp)
    | some u =>
     rcases hO b with z | ⟨ob,xs,z⟩
     .rw[q]at z;cases z
     .have z2:=un.frzs b ob _ z
      obtain⟨e1,_⟩:=hok b _ z
      obtain⟨e2,_⟩:=hok' b _ z2
      rw[e]at e1;cases e1
      exact e2
 cases hk:K.lookup a with
 | some o =>
  -- the script is one of the module's own objects
  have e:=KX a o hk
  rw[ha]at e
  cases e
  refine core (λ_=>none) (λ_=>.inl rfl) (.inr ⟨_,vs.toArray,_,hk,rfl,rfl,rfl,by rw[q5,lenV];exact hl,by simpa using rv⟩) (λb u z=>by have z':(none:Option HO)=some u:=z;cases z') (λb z=>absurd rfl z) λz=>absurd rfl z
 | none =>
  refine core (λb=>if b=a then some (.frz { cls:=.type "list",data:=.seq vs.toArray } (.lst (ns.map V.int)))else none) (λb=>?_) (.inl (.inr ⟨{ cls:=.type "list",data:=.seq vs.toArray },t7 rfl⟩)) (λb u z=>?_) (λb z=>?_) λ_=>hk
  .by_cases hb:b=a
   .exact .inr ⟨_,_,t7 hb⟩
   .exact .inl (j7 hb)
  .by_cases hb:b=a
   .have z':=(t7 hb).symm.trans z
    cases z'
    subst hb
    exact⟨ha,by rw[u6];exact hl,vs,_,rv,ha⟩
   .have z':=(j7 hb).symm.trans z
    cases z'
  .by_cases hb:b=a
   .exact hb
   .exact absurd (j7 hb) z
theorem walk_of {l:W.OpenLaw}{n k:Nat}{q:Program}{loose:List Str}{XP:(Str->Option Value)->Heap->Prop}{YP:World->Heap->Prop}{d:DefRec}{K:Params->W.Frag}{CX:World->CXT}{sp:World->Sp}{x:Str}
 (hn:l.most=some n) (hn2:n<=sizeLine) (hdf:d.params.defaults=[]) (hr:YJ k callerA)
 (hY:∀ (w:World) (h:Heap),YP w h->(K w.params).In h)
 (F:∀ (w:World) (mg:Str->Option Value) (fa:Addr) (h:Heap),(K w.params).In h->h.Ns mainGlobals mg->mg d.name=some (.ref fa) ->
  ∃ fd:FuncData,(∀ (s:Shared) (u:Value),BindsTo s fd ⟨[u],[]⟩ [(x,u)]) /\
   ∀ base:Heap,(K w.params).In base->base.Ns mainGlobals mg->xz l.prog w (K w.params) mg base (CX w) k fa fd [x] (sp w))
 (hsp:∀ (w:World) (H:Hp) (a:Addr) (ns:List Int),ns.length<=n->zmq H->SqL (K w.params) H a (ns.map V.int)->sp w [.ref a] H (λv _=>v=.bl true) λ_ _ _=>False)
 (hCX:∀ (w:World) (H:Hp) (s:Shared) (e:Value) (s':Shared),CX w [] H s (λ_ _ _=>False) e s'->False) :
 PySem.W.WalkO q loose XP YP l.row.toRowW d [] (λf vs=>PySem.call f vs):=by
 refine Att.attach_call hn hdf λw s₀ s₁ mg mb fa o pm cd doc a vs ns G Y ho hd hcd hmg hobj hints hlen hg=>?_
 have KX:=hY w _ Y
 obtain⟨fd,hb,hF⟩:=F w mg fa _ KX G.T.g hmg
 exact zgS KX G.T.g G.T.b G.T.builtins G.T.nolimit hg hobj hints (b9 hlen hn2) hr hF hb (λH hO hS=>hsp w H a ns hlen hO hS) λH e s'=>hCX w H s₁ e s'
def Y2 (s:Stmt):Arguments:=match s with
 | .FunctionDef _ a _ _ _ _ _ _ _ _=>a
 | _=>{ posonlyargs:=[],args:=[],vararg:=none,kwonlyargs:=[],kw_defaults:=[],kwarg:=none,defaults:=[] }
def vc (s:Stmt):List Stmt:=match s with
 | .FunctionDef _ _ b _ _ _ _ _ _ _=>b
 | _=>[]
def zk (s:Stmt):Scope:=match s with
 | .FunctionDef _ _ _ _ _ _ sc _ _ _=>sc
 | _=>{ kind:=.function,names:=[],isGenerator:=false,isCoroutine:=false }
abbrev CX0:CXT:=λ_ _ _ _ _ _=>False
abbrev E0:XK:=λ_ _ _=>False
theorem zmL {X:Cx}:zfi CX0 X E0:=λ_ _ _ _ _ _ _ h=>h.elim
structure Fun (K:W.Frag) (x qual:Str) (st:Stmt) (f:Addr) (fd:FuncData):Prop where
 ex:∃ (oc:Value) (od:Option Addr) (kV doc pm:Value) (an:Option Addr) (cdv ct:Value) (osl:Array (Option Value)),
  fd=W.fnOf x qual (Y2 st) (vc st) (zk st) .none kV doc pm an cdv ct/\K.lookup f=some ⟨oc,od,.func fd,osl⟩/\W.codeIn K cdv qual=true
 kp:W.keepIn K (.ref f)=true
section
variable {P:Program}{w:World}{K:W.Frag}{mg:Str->Option Value}{base:Heap}
theorem Fun.ok {x qual:Str}{st:Stmt}{f:Addr}{fd:FuncData}{N ps:List Str}{k:Nat}{sp:Sp}(F:Fun K x qual st f fd)(S:zx N ps (zk st))(len:∀ vs H Q E,sp vs H Q E->vs.length=ps.length)
 (hbody:∀ (cdv:Value) (A:Around) (outer:List Env) (s:Shared) (H:Hp) (vs:List V) (Q:VK) (E:XK),YJ k (A.deeper (envOfC qual (zk st) s.heap.objs.size f cdv))->sp vs H Q E ->
  ∃ t,PSs (zhW CX0 P w K mg base N qual (zk st) f cdv A outer s H E).nox (vc st) t/\t { nx:=λ_ H'=>Q .non H',rt:=Q } (start N vs) H):xz P w K mg base CX0 (k+1) f fd ps sp:=by
 obtain⟨oc,od,kV,doc,pm,an,cdv,ct,osl,rfl,lk,hcd⟩:=F.ex
 refine zmR lk hcd S len λA outer s H vs Q E hr hsp=>?_
 obtain⟨t,h,q⟩:=hbody cdv A outer s H vs Q E hr hsp
 exact⟨t,h.nox,q⟩
theorem Fun.binds {x qual:Str}{st:Stmt}{f:Addr}{fd:FuncData}{ps:List Str}(F:Fun K x qual st f fd)
 (h:∀ (kV doc pm:Value) (an:Option Addr) (cdv ct:Value) (us:List Value),us.length=ps.length->bindArgs (W.fnOf x qual (Y2 st) (vc st) (zk st) .none kV doc pm an cdv ct) ⟨us,[]⟩=pure (ps.zip us)):zbk K fd ps []:=by
 obtain⟨oc,od,kV,doc,pm,an,cdv,ct,osl,rfl,lk,hcd⟩:=F.ex
 exact .all (h kV doc pm an cdv ct)
theorem zhQ {x qual:Str}{st:Stmt}{f:Addr}{oc:Value}{od an:Option Addr}{osl:Array (Option Value)}{kV doc pm cdv ct:Value}(l:K.lookup f=some ⟨oc,od,.func (W.fnOf x qual (Y2 st) (vc st) (zk st) .none kV doc pm an cdv ct),osl⟩)
 (c:W.codeIn K cdv qual=true) (k:W.keepIn K (.ref f)=true):Fun K x qual st f (W.fnOf x qual (Y2 st) (vc st) (zk st) .none kV doc pm an cdv ct):=⟨⟨oc,od,kV,doc,pm,an,cdv,ct,osl,rfl,l,c⟩,k⟩
end
theorem zkb {A:Around}{k:Nat}(hr:YJ k A):A.units+1 < cLine:=u0d (u1W (by decide:1<=64) _) hr.units
theorem vw {n:Nat}(h:n<=1000):n < sizeLine:=u0d h (by decide)
section
variable {X:Cx}
theorem pv (i:Nat) {x:Str} {pos:Pos} (hN:X.N[i]?=some x:=by rfl) (hv:Vis X.env.scope x:=by first | exact Or.inl rfl | exact Or.inr (Or.inl rfl) | exact Or.inr (Or.inr rfl)) (hd:(x == ("__debug__":Str))=false:=by decide)
 (hcd:(x == ("__classdict__":Str))=false:=by decide):PE X (.Name x pos) (zjD i):=zk6 hN hv hd hcd
end
def yE (H H':Hp):Prop:=∀ b o,H b=some o->H' b=some o
theorem yE.refl (H:Hp):yE H H:=λ_ _ h=>h
theorem yE.trans {H H1 H2:Hp}(a:yE H H1)(b:yE H1 H2):yE H H2:=λc o h=>b c o (a c o h)
theorem yE.free {H H':Hp}(e:yE H H'){l:Addr}(h:H' l=Option.none):H l=Option.none:=by
 cases q:H l with
 | none=>rfl
 | some o =>
  rw[e l o q]at h
  cases h
theorem yE.seq {K:W.Frag}{H H':Hp}{a:Addr}{xs:List V}(e:yE H H')(h:SqL K H a xs):SqL K H' a xs:=by
 rcases h with (h | ⟨o,h⟩) | h
 .exact .inl (.inl (e _ _ h))
 .exact .inl (.inr ⟨o,e _ _ h⟩)
 .exact .inr h
section
variable {κ:Type}[DecidableEq κ]
def zcz (kvs:List (κ × V))(k:κ):Option V:=(kvs.find? λkv=>decide (kv.1=k)).map (·.2)
def zaX (kvs:List (κ × V))(k:κ)(v:V):List (κ × V) :=
 if (kvs.any λkv=>decide (kv.1=k))=true then kvs.map (λkv=>if kv.1=k then (kv.1,v)else kv)else kvs++[(k,v)]
theorem XB {p:κ × V}{r:List (κ × V)}{k:κ}(e:p.1=k):zcz (p::r) k=some p.2:=by simp[zcz,u16,e]
theorem XH {p:κ × V}{r:List (κ × V)}{k:κ}(e:¬ p.1=k):zcz (p::r) k=zcz r k:=by simp[zcz,u16,e]
theorem VH (k:κ):∀ kvs:List (κ × V),(kvs.any λkv=>decide (kv.1=k))=(zcz kvs k).isSome
 | []=>rfl
 | p::r=>by
  rw[u27]
  by_cases e:p.1=k
  .simp only[XB e,r9 e,Bool.true_or,Option.isSome_some]
  .rw[XH e,p6 e,Bool.false_or];exact VH k r
theorem X2 (kvs:List (κ × V))(k:κ)(v:V):(zaX kvs k v).length<=kvs.length+1:=by
 unfold zaX
 split
 .rw[u6];omega
 .rw[d6,i4,u4d];omega
theorem zfW.isSome_eq {o:Option V}{u:Option Value}(r:zfW o u):o.isSome=u.isSome:=by
 cases o with
 | none=>cases u with
  | none=>rfl
  | some _=>exact(show False from r).elim
 | some _=>cases u with
  | none=>exact(show False from r).elim
  | some _=>rfl
theorem KV.val {kvs:List (κ × V)}{vs:List (κ × Value)}(r:KV kvs vs)(k:κ):zfW (zcz kvs k) (valueAt vs k):=by
 unfold KV at r
 induction r with
 | nil=>exact True.intro
 | @cons p q ps qs h t ih =>
  obtain⟨h1,h2⟩:=h
  by_cases e:p.1=k
  .have e':q.1=k:=h1.symm.trans e
   have b:valueAt (q::qs) k=some q.2:=by simp[valueAt,u16,e']
   rw[XB e,b];exact h2
  .have e':¬ q.1=k:=λz=>e (h1.trans z)
   have b:valueAt (q::qs) k=valueAt qs k:=by simp[valueAt,u16,e']
   rw[XH e,b];exact ih
theorem KV.any {kvs:List (κ × V)}{vs:List (κ × Value)}(r:KV kvs vs)(k:κ):(kvs.any λkv=>decide (kv.1=k))=vs.any λkv=>decide (kv.1=k):=by
 unfold KV at r
 induction r with
 | nil=>rfl
 | cons h t ih=>rw[u27,u27,ih,h.1]
theorem KV.repl {kvs:List (κ × V)}{vs:List (κ × Value)}(r:KV kvs vs)(k:κ){y:V}{u:Value}(ry:yG y u) :
 KV (kvs.map λkv=>if kv.1=k then (kv.1,y)else kv) (vs.map λkv=>if kv.1=k then (kv.1,u)else kv):=by
 unfold KV at r ⊢
 induction r with
 | nil=>exact .nil
 | @cons p q ps qs h t ih =>
  rw[i8,i8]
  refine .cons ?_ ih
  obtain⟨h1,h2⟩:=h
  by_cases e:p.1=k
  .rw[t7 e,t7 (h1.symm.trans e)];exact⟨h1,ry⟩
  .rw[j7 e,j7 (λz=>e (h1.trans z))];exact⟨h1,h2⟩
theorem KV.put {kvs:List (κ × V)}{vs:List (κ × Value)}(r:KV kvs vs)(k:κ){y:V}{u:Value}(ry:yG y u):KV (zaX kvs k y) (stored vs k u):=by
 unfold zaX stored
 rw[r.any k]
 by_cases e:(vs.any λkv=>decide (kv.1=k))=true
 .rw[t7 e,t7 e];exact r.repl k ry
 .rw[j7 e,j7 e];exact Paired.snoc r ⟨rfl,ry⟩
theorem KV.keys {kvs:List (κ × V)}{vs:List (κ × Value)}(r:KV kvs vs):kvs.map (·.1)=vs.map (·.1):=by
 unfold KV at r
 induction r with
 | nil=>rfl
 | cons h t ih=>rw[i8,i8,ih,h.1]
theorem KV.length {kvs:List (κ × V)}{vs:List (κ × Value)}(r:KV kvs vs):kvs.length=vs.length:=u28 r
end
theorem zi9 {P:Program}{w:World}{k:Key}{u:Value}(r:yG (kV k) u):(y8 P w).is k u=true:=by
 cases k with
 | inl i=>obtain⟨t,e⟩:=(show ∃ t,u=Value.int i t from r);subst e;exact zbg P w i t
 | inr x=>obtain⟨t,e⟩:=(show ∃ t,u=Value.str x t from r);subst e;exact zaZ P w x t
theorem zaw {P:Program}{w:World}:∀ {ks:List Key} {us:List Value},yd (ks.map kV) us->ItemsAre (y8 P w) ks us
 | [],_,r=>by rw[List.map_nil]at r;cases r;exact .nil
 | k::ks,_,r=>by
  rw[i8]at r
  cases r with
  | cons h t=>exact .cons (zi9 h) (zaw t)
abbrev KT (H:Hp):List (List Key × V)->List (List Key × Addr × Value)->Prop:=Paired λp q=>p.1=q.1/\H q.2.1=some (.tup (p.1.map kV))/\yG p.2 q.2.2
theorem KT.val {H:Hp}{kvs:List (List Key × V)}{xs:List (List Key × Addr × Value)}(r:KT H kvs xs)(k:List Key):zfW (zcz kvs k) ((atKey xs k).map (·.2)):=by
 induction r with
 | nil=>exact True.intro
 | @cons p q ps qs h t ih =>
  obtain⟨h1,_,h2⟩:=h
  by_cases e:p.1=k
  .have e':q.1=k:=h1.symm.trans e
   have b:atKey (q::qs) k=some q.2:=by simp[atKey,u16,e']
   rw[XB e,b];exact h2
  .have e':¬ q.1=k:=λz=>e (h1.trans z)
   have b:atKey (q::qs) k=atKey qs k:=by simp[atKey,u16,e']
   rw[XH e,b];exact ih
theorem KT.repl {H:Hp}{kvs:List (List Key × V)}{xs:List (List Key × Addr × Value)}(r:KT H kvs xs)(k:List Key){y:V}{u:Value}(ry:yG y u) :
 KT H (kvs.map λkv=>if kv.1=k then (kv.1,y)else kv) (xs.map (putAt k u)):=by
 induction r with
 | nil=>exact .nil
 | @cons p q ps qs h t ih =>
  rw[i8,i8]
  refine .cons ?_ ih
  obtain⟨h1,h2,h3⟩:=h
  unfold putAt
  by_cases e:p.1=k
  .rw[t7 e,t7 (h1.symm.trans e)];exact⟨h1,h2,ry⟩
  .rw[j7 e,j7 (λz=>e (h1.trans z))];exact⟨h1,h2,h3⟩
theorem KT.put {H:Hp}{kvs:List (List Key × V)}{xs:List (List Key × Addr × Value)}(r:KT H kvs xs)(k:List Key){b:Addr}{y:V}{u:Value}(hb:H b=some (.tup (k.map kV)))(ry:yG y u) :
 KT H (zaX kvs k y) (storedH xs k b u):=by
 have e:(kvs.any λkv=>decide (kv.1=k))=(atKey xs k).isSome:=by
  rw[VH,(r.val k).isSome_eq,Option.isSome_map]
 unfold zaX storedH
 rw[e]
 by_cases q:(atKey xs k).isSome=true
 .rw[t7 q,t7 q];exact r.repl k ry
 .rw[j7 q,j7 q];exact Paired.snoc r ⟨rfl,hb,ry⟩
theorem KT.keeps {H H':Hp}{kvs:List (List Key × V)}{xs:List (List Key × Addr × Value)}(r:KT H kvs xs)(ht:∀ b ys,H b=some (.tup ys)->H' b=some (.tup ys)):KT H' kvs xs :=
 Paired.mapP r λ_ _ z=>⟨z.1,ht _ _ z.2.1,z.2.2⟩
section
variable {P:Program}{w:World}{H:Hp}{h:Heap}{a:Addr}
theorem zkM {u:HO}(ok:HOk P w H h)(e:Rd H a u):yt P w H h a u:=e.ok ok
theorem ziP {kvs:List (Key × V)}(ok:HOk P w H h)(e:Rd H a (.dK kvs)):kvs.length<=sizeLine/\(a == sysModules)=false/\∃ vs,KV kvs vs/\h.DictOf (y8 P w) a vs :=
 show yt P w H h a (.dK kvs)from zkM ok e
theorem zm0 {kvs:List (Key × V)}(ok:HOk P w H h)(e:H a=some (.dK kvs)):kvs.length<=sizeLine/\(a == sysModules)=false/\∃ vs,KV kvs vs/\h.DictOf (y8 P w) a vs:=ziP ok (.inl e)
theorem zff {ks:List Key}(ok:HOk P w H h)(e:H a=some (.tup (ks.map kV))):(tupleKind (y8 P w)).is h ks a:=by
 obtain⟨_,its,r,o,h1,h2,n,h3⟩:=(show yt P w H h a (.tup (ks.map kV))from ok a _ e)
 exact⟨o,its.toArray,n,h1,h2,h3,by simpa using zaw r⟩
theorem ziC {kvs:List (List Key × V)}(ok:HOk P w H h)(e:Rd H a (.dT kvs)):kvs.length<=sizeLine/\(a == sysModules)=false /\
 ∃ xs,KT H kvs xs/\h.DictOfH (tupleKind (y8 P w)) a xs:=by
 obtain⟨z,y,xs,r,o,es,ep,h1,h2,h3,h4,h5⟩:=(show yt P w H h a (.dT kvs)from zkM ok e)
 refine⟨z,y,xs,r,o,es,ep,h1,h2,h3,h4,λx hx=>?_,h5⟩
 have all:∀ {l:List (List Key × V)} {m:List (List Key × Addr × Value)},KT H l m->∀ x∈m,(tupleKind (y8 P w)).is h x.1 x.2.1:=by
  intro l m q
  induction q with
  | nil=>intro x hx;exact nomatch hx
  | @cons p q ps qs hq t ih =>
   intro x hx
   rcases j5.mp hx with e | hx
   .subst e
    exact zff ok (by rw[<-hq.1];exact hq.2.1)
   .exact ih x hx
 exact all r x hx
theorem zmi {kvs:List (List Key × V)}(ok:HOk P w H h)(e:H a=some (.dT kvs)):kvs.length<=sizeLine/\(a == sysModules)=false /\
 ∃ xs,KT H kvs xs/\h.DictOfH (tupleKind (y8 P w)) a xs:=ziC ok (.inl e)
end
def zl9 (H:Hp)(a:Addr)(y:V)(r:Option V):Prop :=
 (∃ kvs k,Rd H a (.dK kvs)/\y=kV k/\r=zcz kvs k)\/∃ kvs k b,Rd H a (.dT kvs)/\y=.ref b/\H b=some (.tup (k.map kV))/\r=zcz kvs k
def zg9 (H:Hp)(a:Addr)(y v:V)(H':Hp):Prop :=
 (∃ kvs k,H a=some (.dK kvs)/\y=kV k/\kvs.length < sizeLine/\H'=upd H a (.dK (zaX kvs k v))) \/
 ∃ kvs k b,H a=some (.dT kvs)/\y=.ref b/\H b=some (.tup (k.map kV))/\kvs.length < sizeLine/\H'=upd H a (.dT (zaX kvs k v))
theorem zg9.k {H:Hp}{a:Addr}{kvs:List (Key × V)}{k:Key}{v:V}(e:H a=some (.dK kvs))(hl:kvs.length < sizeLine):zg9 H a (kV k) v (upd H a (.dK (zaX kvs k v))):=.inl ⟨kvs,k,e,rfl,hl,rfl⟩
theorem zg9.t {H:Hp}{a b:Addr}{kvs:List (List Key × V)}{k:List Key}{v:V}(e:H a=some (.dT kvs))(eb:H b=some (.tup (k.map kV)))(hl:kvs.length < sizeLine) :
 zg9 H a (.ref b) v (upd H a (.dT (zaX kvs k v))):=.inr ⟨kvs,k,b,e,rfl,eb,hl,rfl⟩
section
variable {X:Cx}{pins:List (Addr × Obj)}{σ:St}{H:Hp}{s:Shared}{a:Addr}{y v:V}{u r:Value}{o:Option V}{A:Around}{E:Value->Shared->Prop}
theorem Inv.big (I:Inv X pins σ H s):sysModules < s.heap.objs.size:=by
 have h:mainGlobals < s.heap.objs.size:=(I.mod.glob.keeps I.bk).lt
 exact u4g (by decide) h
theorem zfs {Q:Value->Shared->Prop}(hu:A.units+1 < cLine)(I:Inv X pins σ H s)(g:zl9 H a y (some v))(ry:yG y u)(h:∀ w' s',Inv X pins σ H s'->yG v w'->Q w' s') :
 wpAny (model X.prog X.w) A (getItem (.ref a) u) Q E s:=by
 rcases g with ⟨kvs,k,e,ey,l⟩ | ⟨kvs,k,b,e,ey,eb,l⟩
 .subst ey
  obtain⟨z,hd,vs,rel,dd⟩:=ziP I.hok e
  obtain⟨w',hw,rw'⟩:=zfW.some_of (v:=v) (o:=valueAt vs k) (by rw[l];exact rel.val k)
  exact wpAny_getItem_of (zi9 ry) dd.mapOf hw (h w' _ (I.tok _) rw')
 .subst ey
  cases (show u=Value.ref b from ry)
  obtain⟨z,hd,xs,rel,dd⟩:=ziC I.hok e
  obtain⟨w',hw,rw'⟩:=zfW.some_of (v:=v) (o:=(atKey xs k).map (·.2)) (by rw[l];exact rel.val k)
  obtain⟨p,hp,hp2⟩:=u7.mp hw
  refine wpAny_getItem_heap (tupleKind_room_in1 hu) (zff I.hok eb) dd hp ?_
  rw[hp2]
  exact h w' _ (I.tok _) rw'
theorem zdX {h':Heap}{t':Nat}{ob:HO}(I:Inv X pins σ H s)(mu:Mut (H a))(hs:Heap.SameBut a s.heap h')(he:∃ q,h'.get? a=some q)(new:yt X.prog X.w (upd H a ob) h' a ob) :
 Inv X pins σ (upd H a ob) { s with heap:=h',toks:=t' } :=
 I.write (x:=a) (e:=a) mu (.inl rfl) (λb q hb z=>(hs.2 b hb).trans z) he new
theorem zk1 {P:Program}{w:World}{H':Hp}{h':Heap}{kvs:List (Key × V)}{vs:List (Key × Value)}(z:kvs.length<=sizeLine)(hd:(a == sysModules)=false)(rel:KV kvs vs)(dd:h'.DictOf (y8 P w) a vs) :
 yt P w H' h' a (.dK kvs):=⟨z,hd,vs,rel,dd⟩
theorem zfb {H':Hp}{Q:Unit->Shared->Prop}(hu:A.units+1 < cLine)(I:Inv X pins σ H s)(g:zg9 H a y v H')(ry:yG y u)(rv:yG v r)(h:∀ s',Inv X pins σ H' s'->Q () s') :
 wpAny (model X.prog X.w) A (setItem (.ref a) u r) Q E s:=by
 rcases g with ⟨kvs,k,e,ey,l,eH⟩ | ⟨kvs,k,b,e,ey,eb,l,eH⟩
 .subst ey eH
  obtain⟨z,hd,vs,rel,dd⟩:=zm0 I.hok e
  have hz:vs.length<=sizeLine:=by rw[<-rel.length];exact z
  have hl:(zaX kvs k v).length<=sizeLine:=by have:=X2 kvs k v;omega
  refine wpAny_setItem_pairs (hsz:=hz) (zi9 ry) dd λh' dd' hs=>h _ ?_
  have he:∃ q,h'.get? a=some q:=let ⟨q,_,_,hq,_⟩:=dd';⟨q,hq⟩
  exact zdX I (by rw[e];exact True.intro) hs he (zk1 hl hd (rel.put k rv) dd')
 .subst ey eH
  cases (show u=Value.ref b from ry)
  obtain⟨z,hd,xs,rel,dd⟩:=zmi I.hok e
  have hz:xs.length<=sizeLine:=by rw[<-u28 rel];exact z
  have hl:(zaX kvs k v).length<=sizeLine:=by have:=X2 kvs k v;omega
  refine wpAny_setItem_heap (hsz:=hz) (tupleKind_room_in1 hu) (zff I.hok eb) dd λh' dd' hs=>h _ ?_
  obtain⟨q,es,ep,hq,h2,h3,h4,_,h5⟩:=dd'
  refine zdX I (by rw[e];exact True.intro) hs ⟨q,hq⟩ ⟨hl,hd,_,(rel.put k eb rv).keeps λc ys ec=>?_,q,es,ep,hq,h2,h3,h4,h5⟩
  rw[zm (zkJ ec e (λz=>nomatch z))]
  exact ec
end
def zms (i:Expr):Prop:=∀ ov iv,subscripted i false ov iv=operate [ov,iv] (getItem ov iv)
theorem zh8 {prog:Program}{w:World}{A:Around}{E:Value->Shared->Prop}{s:Shared}{env:Env}{value slice:Expr}{pos:Pos}{T id:String}{Q:Value->Shared->Prop}
 (hl:typeLookup (.type T) "__getitem__"=pure (some (.builtin id))) (hs:zms slice)
 (h:wpAny (model prog w) A (eval value env) (λo s₁=>wpAny (model prog w) A (eval slice env) (λi s₂=>s₂.TypeIs o T/\wpAny (model prog w) A (getItem o i) Q E s₂) E s₁) E s) :
 wpAny (model prog w) A (eval (.Subscript value slice pos) env) Q E s:=by
 refine Subscript_ (u1C h (λo s₁ h₁=>u1C h₁ (λi s₂ h₂=>?_) λ_ _ x=>x) λ_ _ x=>x)
 obtain⟨hT,h₂⟩:=h₂
 unfold subscriptTail
 refine u0 ?_
 rw[getitemInPython_of_ne hT.not_modules]
 refine u0 (u3o hT hl ?_)
 have fin:wpAny (model prog w) A (subscripted slice false o i) (λr s₃=>wpAny (model prog w) A (letTemporaryGo value o r>>=λ_=>pure r) Q E s₃) E s₂:=by
  rw[hs o i]
  exact wpAny_operating (u1C h₂ (λr s₃ h₃=>u0 (wpAny_letTemporaryGo (u5 h₃))) λ_ _ x=>x)
 first
  | exact u5 (u0 fin)
  | exact u0 (u5 (u0 fin))
  | exact u0 fin
theorem zbF {X:Cx} {pins:List (Addr × Obj)} {σ:St} {H:Hp} {s:Shared} {a:Addr} {y:V} {o:Option V} (I:Inv X pins σ H s) (g:zl9 H a y o):s.TypeIs (.ref a) "dict":=by
 rcases g with ⟨kvs,k,e,_,_⟩ | ⟨kvs,k,b,e,_,_,_⟩
 .obtain⟨_,_,vs,_,dd⟩:=ziP I.hok e
  exact dd.typeIs
 .obtain⟨_,_,xs,_,dd⟩:=ziC I.hok e
  exact dd.typeIs
def zm4 (td ty:TE):TE:=fun σ H Q=>td σ H λx H1=>ty σ H1 λy H2=>∃ a v,x=.ref a/\zl9 H2 a y (some v)/\Q v H2
def zmE (td ty tv:TE):TS:=λD σ H=>tv σ H λv H1=>td σ H1 λx H2=>ty σ H2 λy H3=>∃ a H4,x=.ref a/\zg9 H3 a y v H4/\D.nx σ H4
section
variable {X:Cx}{o i e value:Expr}{pos pos' tpos:Pos}{td ty tv:TE}
theorem ziL (hu:X.A.units+1 < cLine)(ho:PE X o td)(hi:PE X i ty)(hs:zms i):PE X (.Subscript o i pos) (zm4 td ty):=by
 intro pins s σ H Q I h
 refine zh8 PySem.F.slot_dict_getitem.lookup hs (thn (ho pins s σ H _ I h) λu s1 ⟨x,H1,I1,rx,q1⟩=>thn (hi pins s1 σ H1 _ I1 q1) λiv s2 hh9=>?_)
 obtain⟨y,H2,I2,ry,a,v,ex,g,q2⟩:=hh9
 subst ex
 obtain rfl:u=Value.ref a:=rx
 exact⟨zbF I2 g,zfs hu I2 g ry λw' s3 I3 rw'=>⟨v,H2,I3,rw',q2⟩⟩
theorem ziT (hu:X.A.units+1 < cLine)(ho:PE X o td)(hi:PE X i ty)(hv:PE X value tv)(hs:swapsWith value (some (.Subscript o i pos')) pos.line X.env=pure false) :
 PS X (.Assign [.Subscript o i pos'] value pos) (zmE td ty tv):=by
 intro pins s σ H D I h
 refine wpAny_Assign_Subscript (thn (hv pins s σ H _ I h) λr s1 ⟨v,H1,I1,rv,q1⟩=>thn (ho pins s1 σ H1 _ I1 q1) λu s2 ⟨x,H2,I2,rx,q2⟩=>thn (hi pins s2 σ H2 _ I2 q2) λiv s3 hh9=>?_) hs
 obtain⟨y,H3,I3,ry,a,H4,ex,g,q3⟩:=hh9
 subst ex
 obtain rfl:u=Value.ref a:=rx
 exact zfb hu I3 g ry rv λs4 I4=>⟨σ,H4,I4,q3⟩
end
theorem zgt {P:Program} {w:World} {H:Hp} (h:Heap) (hb:sysModules < h.objs.size):yt P w H (h.push { cls:=.type "dict",data:=.dict #[] }) h.objs.size (.dK []) :=
 ⟨u0D _,u0Y.mpr (u0M (j9 hb)),[],.nil,Heap.DictOf.new h⟩
theorem zgR {P:Program} {w:World} {H:Hp} (h:Heap) (hb:sysModules < h.objs.size):yt P w H (h.push { cls:=.type "dict",data:=.dict #[] }) h.objs.size (.dT []) :=
 ⟨u0D _,u0Y.mpr (u0M (j9 hb)),[],.nil,_,#[],0,t6 _ rfl,⟨rfl,rfl,rfl⟩,rfl,rfl,u1G⟩
def zky:TE:=λ_ H Q=>∀ p,H p=none->Q (.ref p) (upd H p (.dK []))
def zlS:TE:=λ_ H Q=>∀ p,H p=none->Q (.ref p) (upd H p (.dT []))
section
variable {X:Cx}{pos:Pos}
theorem zhw:PE X (.Dict [] [] pos) zky:=λpins s σ H Q I h =>
 wpAny_Dict_empty ⟨.ref s.heap.objs.size,_,I.laid (a:=s.heap.objs.size) (o:=.dK []) (t':=s.toks) (λ_ _ q=>u3 _ q) (t5 _) (zgt s.heap I.big),rfl,h _ (I.hok.fresh (t5 _))⟩
theorem zgL:PE X (.Dict [] [] pos) zlS:=λpins s σ H Q I h =>
 wpAny_Dict_empty ⟨.ref s.heap.objs.size,_,I.laid (a:=s.heap.objs.size) (o:=.dT []) (t':=s.toks) (λ_ _ q=>u3 _ q) (t5 _) (zgR s.heap I.big),rfl,h _ (I.hok.fresh (t5 _))⟩
end
theorem za2 {X:Cx}:Yb X (.builtin "isinstance") (λxs H Q=>∃ x n t b,xs=[x,.ty n]/\zce X.K H x t/\W.kitOne X.K t (.type n)=some b/\Q (.bl b) H):=by
 intro pins s σ H xs us Q I r h
 obtain⟨x,n,t,b,rfl,ty,e,q⟩:=h
 obtain⟨u,w',rfl,rx,rt⟩:=zbo r
 cases (show w'=Value.type n from rt)
 exact zel I rx ty e λtk=>⟨.bl b,H,I.tok _,rfl,q⟩
theorem zgZ {X:Cx}:OpR X (compareOp .Is) (λx y H Q=>∃ i j,x=.bl i/\y=.bl j/\Q (.bl (i == j)) H):=by
 intro pins s σ H x y v u Q I rx ry h
 obtain⟨i,j,rfl,rfl,q⟩:=h
 cases rx
 cases ry
 refine wpAny_is_plain (by rfl) ⟨.bl (i == j),H,I,?_,q⟩
 cases i <;> cases j <;> rfl
theorem zbI {X:Cx}:OpR X (compareOp .IsNot) (λx y H Q=>∃ i j,x=.bl i/\y=.bl j/\Q (.bl (!(i == j))) H):=by
 intro pins s σ H x y v u Q I rx ry h
 obtain⟨i,j,rfl,rfl,q⟩:=h
 cases rx
 cases ry
 refine wpAny_isNot_plain (by rfl) ⟨.bl (!(i == j)),H,I,?_,q⟩
 cases i <;> cases j <;> rfl
def zhO (K:W.Frag):R2:=λx y H Q=>∃ a b xs ys,x=.ref a/\y=.ref b/\SqT K H a xs/\SqT K H b ys/\xs.length+ys.length<=sizeLine /\
 (xs=[]->Q (.ref b) H)/\(xs≠[]->ys=[]->Q (.ref a) H)/\(xs≠[]->ys≠[]->∀ p,H p=none->Q (.ref p) (upd H p (.tup (xs++ys))))
theorem zgx {X:Cx}:OpR X (binaryOp .Add) (zhO X.K):=by
 intro pins s σ H x y v u Q I rx ry h
 obtain⟨a,b,xs,ys,rfl,rfl,ha,hb,hz,q0,q1,q2⟩:=h
 by_cases hx:xs=[]
 .subst hx
  cases rx
  cases ry
  obtain⟨its,r,p,_⟩:=I.tuple ha
  obtain⟨its',r',p',_⟩:=I.tuple hb
  cases r
  obtain⟨⟨cls,dd,data,sl⟩,ho,hc,n,hd⟩:=id p
  obtain⟨⟨cls2,dd2,data2,sl2⟩,ho2,hc2,n2,hd2⟩:=id p'
  simp only at hc hd hc2 hd2
  subst hc hd hc2 hd2
  exact concat_meets ⟨_,ho,rfl⟩ ⟨_,ho2,rfl⟩ noFill_tuple_add seq_tuple_add u2I u2F (u2x _ _)
   (tuple_addW0 a b #[] its'.toArray n n2 dd dd2 sl sl2 rfl) ⟨ho,ho2,⟨.ref b,H,I,rfl,q0 rfl⟩⟩
 .refine zij pins s σ H (.ref a) (.ref b) v u Q I rx ry ⟨a,b,xs,ys,rfl,rfl,ha,hb,hx,hz,?_⟩
  exact⟨λe=>q1 hx e,λe=>q2 hx e⟩
inductive YW:St->St->Prop where
 | nil:YW [] []
 | non {a:Option V} {s t:St}:YW s t->YW (none::s) (a::t)
 | same {a:Option V} {s t:St}:YW s t->YW (a::s) (a::t)
theorem YW.refl:∀ s:St,YW s s
 | []=>.nil
 | _::r=>.same (YW.refl r)
theorem YW.length {s t:St}(h:YW s t):s.length=t.length:=by
 induction h with
 | nil=>rfl
 | non _ ih=>simp[ih]
 | same _ ih=>simp[ih]
theorem YW.get {s t:St}(h:YW s t):∀ (i:Nat) (v:V),s[i]?=some (some v)->t[i]?=some (some v):=by
 induction h with
 | nil=>intro i v e;exact e
 | non _ ih =>
  intro i v e
  cases i with
  | zero=>simp at e
  | succ i=>simpa using ih i v (by simpa using e)
 | same _ ih =>
  intro i v e
  cases i with
  | zero=>simpa using e
  | succ i=>simpa using ih i v (by simpa using e)
theorem YW.set {n:Nat}{v:V}:∀ {s t:St},YW s t->s[n]?=some none->YW s (t.set n (some v))
 | _,_,.nil,_=>.nil
 | _,_,.non (a:=a) h,e=>by
  cases n with
  | zero=>exact .non h
  | succ n=>exact .non (YW.set h (by simpa using e))
 | _,_,.same (a:=a) h,e=>by
  cases n with
  | zero =>
   have e':a=none:=by simpa using e
   subst e'
   exact .non h
  | succ n=>exact .same (YW.set h (by simpa using e))
theorem Inv.sub {X:Cx}{pins:List (Addr × Obj)}{σ σ':St}{H:Hp}{s:Shared}(I:Inv X pins σ H s)(h:YW σ' σ):Inv X pins σ' H s:=I.weak h.length h.get
def PIf (X:Cx)(ifs:List Expr)(t:TT):Prop :=
 ∀ (pins:List (Addr × Obj)) (s:Shared) (σ:St) (H:Hp) (Q:Bool->Hp->Prop),Inv X pins σ H s->t σ H Q ->
  wpAny (model X.prog X.w) X.A (forIn ifs true λc r=>if r=true then do let ok<-isTrue c X.env (eval c X.env);pure (ForInStep.yield ok)else pure (ForInStep.yield r)) (TP X pins σ Q) X.xe s
def tYes:TT:=λ_ H Q=>Q true H
theorem zfq {X:Cx}:PIf X [] tYes:=by
 intro pins s σ H Q I h
 rw[u2T]
 exact u5 ⟨H,I,h⟩
theorem zbl {X:Cx}{c:Expr}{t:TT}(hc:PT X c t):PIf X [c] t:=by
 intro pins s σ H Q I h
 rw[u3j]
 refine u0 ?_
 rw[t7 rfl]
 refine u0 (thn (hc pins s σ H Q I h) λb s1 q=>u5 ?_)
 show wpAny _ _ (forIn [] b _) _ _ _
 rw[u2T]
 exact u5 q
section
variable {prog:Program}{w:World}{A:Around}{R:Result->Shared->Prop}{s:Shared}
theorem wj {elt target iter:Expr}{ifs:List Expr}{scope:Scope}{pos:Pos}{it acc:Value}{env:Env}(I:Nat->Shared->Prop)
 (turn:∀ n s,I n s->wpAny (model prog w) A (pyNext it) (λr s₁=>match r with
  | none=>R (.ok .next) s₁
  | some v=>wpAny (model prog w) A (letOwnedTupleGo target it v) (λ_ s₁'=>wpAny (model prog w) A (assign target env v) (λ_ s₂ =>
   wpAny (model prog w) A (forIn ifs true λc r=>if r=true then do let ok<-isTrue c env (eval c env);pure (ForInStep.yield ok)else pure (ForInStep.yield r)) (λok s₃ =>
    if ok=true then wpAny (model prog w) A (eval elt env) (λx s₄ =>
     wpAny (model prog w) A (call (.builtin "list.append") [acc,x]) (λ_ s₅=>∃ m,m < n/\I m s₅) (λ_ _=>False) s₄) (λ_ _=>False) s₃
    else ∃ m,m < n/\I m s₃) (λ_ _=>False) s₂) (λ_ _=>False) s₁') (λ_ _=>False) s₁) (λ_ _=>False) s)
 (n:Nat) (h:I n s) :
 codeAny (model prog w) A (.compLoop (.ListComp elt [⟨target,iter,ifs,0⟩] scope pos) 0 it acc env) R s:=by
 refine codeAny_loop rfl I (λn s hI=>?_) n h
 show wpAny _ A ((compTurn (.ListComp elt [⟨target,iter,ifs,0⟩] scope pos) 0 it acc env).onRaise (λx=>do noteFrame x env;theTreesLotGoes x)) _ _ s
 refine wpAny_noted ?_
 rw[compTurn_list]
 refine u0 (wpAny_standAt (u0 (u1C (turn n s hI) (λr s₁ h₁=>?_) λ_ _ h'=>h'.elim)))
 cases r with
 | none=>exact u5 h₁
 | some v =>
  refine u0 (u1C h₁ (λ_ s₁' h₁'=>?_) λ_ _ h'=>h'.elim)
  refine u0 (u1C h₁' (λ_ s₂ h₂=>u0 (u1C h₂ (λok s₃ h₃=>?_) λ_ _ h'=>h'.elim)) λ_ _ h'=>h'.elim)
  cases ok with
  | false=>exact u5 ⟨rfl,h₃⟩
  | true =>
   exact u0 (u0 (u1C h₃ (λx s₄ h₄=>u0 (u1C h₄ (λ_ s₅ h₅=>u5 (u5 ⟨rfl,h₅⟩)) λ_ _ h'=>h'.elim)) λ_ _ h'=>h'.elim))
end
def tLC (wi:TI)(n:Nat)(g:TG)(tt:TT)(te:TE):TE:=fun σ H Q=>wi σ H λJ H1=>∀ D,H1 D=none->∃ W:Nat->Nat->List V->Hp->Prop,(∃ m,W 0 m [] (upd H1 D (.lst []))) /\
 ∀ i m ys H2,W i m ys H2->(J.stop i H2/\Q (.ref D) H2)\/(J.go i H2/\ys.length < sizeLine/\∀ x H3,J.yld i H2 x H3->g x (List.replicate n none++σ) H3 fun σ2 H4=>tt σ2 H4 λb H5 =>
  if b=true then te σ2 H5 λy H6=>H6 D=some (.lst ys)/\∃ m',m' < m/\W (i+1) m' (ys++[y]) (upd H6 D (.lst (ys++[y])))else ∃ m',m' < m/\W (i+1) m' ys H5)
theorem ve {α:Type}:∀ {l:List (Str × α)} {y:Str},y∈l.map Prod.fst->∃ c,l.lookup y=some c
 | [],_,h=>by simp at h
 | (k,v)::r,y,h=>by
  by_cases e:y=k
  .exact⟨v,by simp[List.lookup,e]⟩
  .obtain⟨c,hc⟩:=ve (l:=r) (y:=y) (by simpa [e]using h)
   have hb:(y == k)=false:=u0Y.mpr e
   exact⟨c,by simp only[List.lookup,hb];exact hc⟩
theorem yI {α:Type}{P:α->Prop}:∀ p∈([]:List α),P p:=λ_ h=>nomatch h
theorem all_cons {α:Type}{P:α->Prop}{a:α}{l:List α}(h:P a)(t:∀ p∈l,P p):∀ p∈a::l,P p:=λp hp=>by
 rcases j5.mp hp with e | hp
 .rw[e];exact h
 .exact t p hp
theorem gs1 (σ:St)(v:V)(H:Hp)(Q:St->Hp->Prop)(h:Y6 0 v (List.replicate 1 none++σ) H Q):Y6 0 v (List.replicate 1 none++σ) H (fun σ2 H2=>YW (List.replicate 1 none++σ) σ2/\Q σ2 H2):=⟨.set (.refl _) rfl,h⟩
theorem gs2 {K:W.Frag}(σ:St)(v:V)(H:Hp)(Q:St->Hp->Prop)(h:zl7 K 2 (zbi (Y6 0) (zbi (Y6 1) zl2)) v (List.replicate 2 none++σ) H Q) :
 zl7 K 2 (zbi (Y6 0) (zbi (Y6 1) zl2)) v (List.replicate 2 none++σ) H (fun σ2 H2=>YW (List.replicate 2 none++σ) σ2/\Q σ2 H2):=by
 obtain⟨a,xs,e,hq,hl,x,r,e1,y,r2,e2,e3,q⟩:=h
 exact⟨a,xs,e,hq,hl,x,r,e1,y,r2,e2,e3,.set (.set (.refl _) rfl) rfl,q⟩
def W5 (X:Cx)(L M:List Str)(scope:Scope)(cl:List (Str × Addr))(s₀:Shared)(H₀:Hp)(ex:List Addr)(pn:List (Addr × Obj)):Cx :=
 { X with N:=L++M,s₀:=s₀,H₀:=H₀,env:=compEnvC scope cl s₀.heap.objs.size X.env,outer:=X.stack,stack:=X.stack,ex:=ex,fn:=λ_=>false,pn:=pn,xe:=λ_ _=>False }
structure xb (X:Cx) (L M:List Str) (scope:Scope) (cl:List (Str × Addr)):Prop where
 clos:closureFor scope X.env=pure cl
 cell:∀ y∈scope.names,y.2≠.cell
 kind:scope.kind=.function
 names:∀ y∈scope.names,y.2=.local->scope.names.lookup y.1=some .local
 sub:∀ y c,cl.lookup y=some c->X.env.cells.lookup y=some c
 has:∀ y,((relabel scope X.env).names.lookup y=some .cell\/(relabel scope X.env).names.lookup y=some .free)->∃ c,cl.lookup y=some c
 mlen:M.length=X.N.length
 msk:∀ (i:Nat) y,M[i]?=some y->Vis (relabel scope X.env) y->X.N[i]?=some y
 vis:∀ (i:Nat) y,M[i]?=some y->Vis (relabel scope X.env) y->((relabel scope X.env).names.lookup y=some .cell\/(relabel scope X.env).names.lookup y=some .free)
 out:∀ (i:Nat) y,M[i]?=some y->Vis (relabel scope X.env) y->Vis X.env.scope y/\X.env.kindOf y≠some .local
theorem Inv.letGo {X:Cx}{pins:List (Addr × Obj)}{σ:St}{H:Hp}{s:Shared}{C:Addr}{h':Heap}(I:Inv X pins σ H s)(f:zaT X pins H C)(sb:Heap.SameBut C s.heap h'):Inv X pins σ H { s with heap:=h' }:=by
 obtain⟨f0,f1,f2,f3,f4,f5⟩:=f
 have ne:∀ b,b∉[C]->b≠C:=λb hb z=>hb (by rw[z];exact j8.mpr rfl)
 refine I.call' (s':={ s with heap:=h' }) (ch:=[C]) rfl ⟨λb o e _ _ hx=>(sb.2 b (ne b hx)).trans e,λb o e _ _ hx=>⟨o.slots,(sb.2 b (ne b hx)).trans e⟩,λ_ _ _ n _=>n,λb o e hx=>⟨o,(sb.2 b (ne b hx)).trans e⟩,λ_ _ q=>q,λ_ _ _ q=>q,λ_ ps q=>⟨#[],by rw[q];simp⟩⟩ ?_ I.bare λb hb=>?_
 .intro b ob e
  refine(I.hok b ob e).stay (λc v hc q=>(sb.2 c ?_).trans q) (λ_ q=>q) λ_ _ q=>q
  rintro rfl
  rcases hc with z | z
  .rw[<-z,f0]at e;cases e
  .rw[f0]at z;cases z
 .rw[j8.mp hb]
  exact⟨f3,f1,f4,f5⟩
theorem ze9 {use:Option (Value->Sem Unit)}{Qf:Value->Shared->Prop}{X:Cx}{elt tg iter:Expr}{ifs:List Expr}{L M:List Str}{scope:Scope}{cl:List (Str × Addr)}{pos:Pos}{wi:TI}{g:TG}{tt:TT}{te:TE}
 (hc:X.calm=true) (S:xb X L M scope cl) (hi:PI X tg iter wi)
 (hgS:∀ (σ:St) (v:V) (H:Hp) (Q:St->Hp->Prop),g v (List.replicate L.length none++σ) H Q->g v (List.replicate L.length none++σ) H (fun σ2 H2=>YW (List.replicate L.length none++σ) σ2/\Q σ2 H2))
 (hg:∀ s₀ H₀ ex pn,PG (W5 X L M scope cl s₀ H₀ ex pn) tg g) (ht:∀ s₀ H₀ ex pn,PIf (W5 X L M scope cl s₀ H₀ ex pn) ifs tt) (he:∀ s₀ H₀ ex pn,PE (W5 X L M scope cl s₀ H₀ ex pn) elt te)
 (hs:∀ x,foldedSetIterable iter X.env x=pure x:=by intro _;rfl) :
 ∀ (pos':Pos) (pins:List (Addr × Obj)) (s:Shared) (σ:St) (H:Hp) (Q:VK),Inv X pins σ H s->tLC wi L.length g tt te σ H Q ->
  (∀ (D C:Addr) (H':Hp) (s':Shared),Inv X pins σ H' s'->(∃ m,s'.heap.Ns C m)->zaT X pins H' C->Q (.ref D) H'->compPost (model X.prog X.w) X.A X.xe use Qf (.ref D) C (.ok .next) s') ->
  wpAny (model X.prog X.w) X.A (comprehension (.ListComp elt [⟨tg,iter,ifs,0⟩] scope pos) scope X.env pos' (newList []) false (eval iter X.env) use) Qf X.xe s:=by
 intro pos' pins s σ H Q I h fin
 refine wpAny_comprehension_free (use:=use) rfl hs S.clos S.kind S.names (thn (hi pins s σ H _ I h) λv s1 h1=>thn h1 λitv s2 h2=>?_)
 obtain⟨it,fp,tn,J,H2,e,I2,T,st2,f2,q⟩:=h2
 subst e
 have hD:H2 s2.heap.objs.size=none:=I2.hok.fresh (t5 _)
 obtain⟨W,⟨m0,w0⟩,turn⟩:=q _ hD
 refine i9 (wpAny_newFunctionEnv S.cell (by intro y hy;simp at hy) (λh₁ hns₁ hsb₁=>?_) S.kind)
 have I3:Inv X pins σ (upd H2 s2.heap.objs.size (.lst [])) { s2 with heap:=s2.heap.push { cls:=.type "list",data:=.seq ([]:List Value).toArray } }:=by
  refine I2.laid (t':=s2.toks) (λb u e=>u3 _ e) (t5 _) ?_
  exact⟨u0D _,[],0,.nil,t6 _ rfl⟩
 generalize hs3:({ s2 with heap:=s2.heap.push { cls:=.type "list",data:=.seq ([]:List Value).toArray } }:Shared)=s3 at I3 hns₁ hsb₁ ⊢
 have hobj:∀ b∈fp,b < s2.heap.objs.size:=λb hb=>by
  obtain⟨o,ho,_⟩:=T.obj _ _ st2 b hb
  exact t4 ho
 have hz3:s3.heap.objs.size=s2.heap.objs.size+1:=by rw[<-hs3];exact u0w ..
 have k23:∀ b o,s2.heap.get? b=some o->s3.heap.get? b=some o:=λb o e=>by rw[<-hs3];exact u3 _ e
 have k34:∀ b o,s3.heap.get? b=some o->h₁.get? b=some o:=λb o e=>(hsb₁.2 b (j9 (t4 e))).trans (u3 _ e)
 generalize hH3:upd H2 s2.heap.objs.size (.lst [])=H3 at I3 w0
 have hfp3:∀ b∈fp,H3 b=none:=λb hb=>by
  rw[<-hH3,zm (j9 (hobj b hb))]
  exact(f2 b hb).1
 have nfs:∀ b∈fp,b∉frs X.stack:=λb hb z=>by
  obtain⟨_,n1,n2,_⟩:=f2 b hb
  rcases j5.mp (I3.stkSub b z)with e | e
  .exact n1 e
  .exact n2 e
 let Y:Cx:=W5 X L M scope cl s3 H3 fp (X.pn++pins)
 have OkY:Y.Ok:=by
  refine⟨I.ok.mod,S.kind,I.ok.glob,I.ok.blt,t5 _,λx y c h1 h2=>I.ok.inj x y c (S.sub x c h1) (S.sub y c h2),λx hx=>S.has x hx,(λx c h _=>absurd h u8),I.ok.hd,I.ok.frames,.inl rfl,λb hb=>⟨?_,λx c e z=>?_⟩,
   λb o e=>I3.bs b o e,b9 I.ok.bsz I3.sz,λb o e hb=>?_,nfs,I3.stack,I3.stkFree⟩
  .show b≠s3.heap.objs.size
   exact j9 (r8 (hobj b hb) (by rw[hz3];exact u1x _))
  .exact(f2 b hb).2.2.2.2.1 x c (S.sub x c e) z
  .rcases(f2 b hb).2.2.2.1 with z | z
   .exact I.ok.noex b o e z
   .have h1:=t4 e
    have h2:=I.ok.bsz
    exact absurd (r8 h1 (b9 h2 z)) (u0J _)
 have I4:Inv Y [] (List.replicate L.length none++σ) H3 { s3 with heap:=h₁,toks:=s3.toks+([]:List (Str × Value)).length }:=by
  refine⟨OkY,rfl,I3.bare,Un.kept k34,⟨_,hns₁,λi y v e1 e2 e3=>?_⟩,λx c e=>?_,I3.hok.fresh (t5 _),λx c e=>I3.freeC x c (S.sub x c e),λp hp=>?_,I3.hok.kept k34,?_⟩
  .have hi:¬ i < L.length:=λhlt=>by
    rw[u0l (by simpa using hlt),u1q]at e2
    split at e2 <;> cases e2
   have e0':M[i - L.length]?=some y:=by
    have e1:(L++M)[i]?=some y:=e1
    rw[u0j (by omega)]at e1
    exact e1
   have e2':σ[i - L.length]?=some (some v):=by rw[u0j (by simpa using u0s hi)]at e2;simpa using e2
   have e1':=S.msk _ y e0' e3
   obtain⟨ov,ok⟩:=S.out _ y e0' e3
   obtain⟨m,hn,hl⟩:=I3.loc
   obtain⟨u,ru,lk⟩:=hl _ y v e1' e2' ov
   refine⟨u,ru,?_⟩
   rcases lk with ⟨hk,_⟩ | ⟨_,c,hc',hcell⟩
   .exact absurd hk ok
   .have kn:=S.vis _ y e0' e3
    obtain⟨c',hc2⟩:=S.has y kn
    have:=S.sub y c' hc2
    rw[hc']at this
    cases this
    refine .inr ⟨kn,c,hc2,?_⟩
    obtain⟨o,ho,hd⟩:=hcell
    exact⟨o,k34 _ _ ho,hd⟩
  .obtain⟨v,o,ho,hd⟩:=I3.cell x c (S.sub x c e)
   exact⟨v,o,k34 _ _ ho,hd⟩
  .have hp':p∈X.pn++pins:=u1L (X.pn++pins) ▸ hp
   obtain⟨a1,a2,a3,a4,a5⟩:=I3.pin p hp'
   refine⟨k34 _ _ a1,a2,j9 (t4 a1),λz=>?_,a5⟩
   rcases j5.mp (I3.stkSub p.1 z)with e | e
   .exact a3 e
   .exact a4 e
  .show(List.replicate L.length none++σ).length=(L++M).length
   rw[d6,d6,u2Y,I.len,S.mlen]
 have fpY:∀ {H':Hp},(∀ b∈fp,H' b=none)->∀ b∈fp,zaT Y [] H' b:=λ{H'} hn b hb=>by
  refine⟨hn b hb,(OkY.exf b hb).1,nfs b hb,.inl hb,(OkY.exf b hb).2,λp hp=>?_⟩
  have hp':p∈X.pn++pins:=u1L (X.pn++pins) ▸ hp
  exact(f2 b hb).2.2.2.2.2 p hp'
 have st4:tn 0 h₁:=T.keep _ _ _ st2 λb hb o e=>k34 b o (k23 b o e)
 -- behind the loop
 have back:∀ (H':Hp) (s':Shared),Inv Y [] (List.replicate L.length none++σ) H' s'->Q (.ref s2.heap.objs.size) H'->compPost (model X.prog X.w) X.A X.xe use Qf (.ref s2.heap.objs.size) s3.heap.objs.size (.ok .next) s':=λH' s' J' q'=>by
  obtain⟨m,hn,_⟩:=J'.loc
  refine fin _ _ H' s' (I3.call' (ch:=fp) J'.os J'.base J'.hok J'.bare λb hb=>?_) ⟨m,hn⟩ (I3.fpOk (t5 _) J'.free) q'
  obtain⟨_,n1,_,n3,n4,n5⟩:=f2 b hb
  exact⟨n3,n1,n4,n5⟩
 have loop:codeAny (model X.prog X.w) X.A (.compLoop (.ListComp elt [⟨tg,iter,ifs,0⟩] scope pos) 0 (.ref it) (.ref s2.heap.objs.size) (compEnvC scope cl s3.heap.objs.size X.env))
  (compPost (model X.prog X.w) X.A X.xe use Qf (.ref s2.heap.objs.size) s3.heap.objs.size) { s3 with heap:=h₁,toks:=s3.toks+([]:List (Str × Value)).length }:=by
  refine wj (λn s'=>∃ i ys H',Inv Y [] (List.replicate L.length none++σ) H' s'/\tn i s'.heap/\(∀ b∈fp,H' b=none)/\W i n ys H') ?_ m0 ⟨0,[],H3,I4,st4,hfp3,w0⟩
  rintro n s5 ⟨i,ys,H5,I5,st5,fr5,w5⟩
  rcases turn i n ys H5 w5 with ⟨stop,qn⟩ | ⟨go,hlen,step⟩
  .refine thn (T.done Y rfl rfl rfl hc i [] s5 _ H5 _ I5 (fpY fr5) st5 stop) λr s6 hh9=>?_
   obtain⟨hr,I6⟩:=hh9
   subst hr
   exact back H5 s6 I6 qn
  .refine thn (T.item Y rfl rfl rfl hc i [] s5 _ H5 _ I5 (fpY fr5) st5 go) λr s6 hh9=>?_
   obtain⟨u,hr,h6⟩:=hh9
   subst hr
   refine thn h6 λ_ s7 hh9=>?_
   obtain⟨x,H7,I7,r7,y7,st7,fr7⟩:=hh9
   have I7':=I7.pinned (fpY fr7) (T.obj _ _ st7)
   have g7:=hgS σ x H7 _ (step x H7 y7)
   refine thn (hg _ _ _ _ _ s7 _ H7 x u _ I7' r7 g7) λ_ s8 hh9=>?_
   obtain⟨σ8,H8,I8,sub8,q8⟩:=hh9
   have again:∀ {σ9:St} {H9:Hp} {s9:Shared} {zs:List V},Inv Y ([]++Xd fp s7.heap) σ9 H9 s9->YW (List.replicate L.length none++σ) σ9->(∃ m',m' < n/\W (i+1) m' zs H9) ->
    ∃ m,m < n/\∃ i ys H',Inv Y [] (List.replicate L.length none++σ) H' s9/\tn i s9.heap/\(∀ b∈fp,H' b=none)/\W i m ys H':=λ{σ9 H9 s9 zs} I9 sub9 w9=>by
    obtain⟨m',hm,w9⟩:=w9
    refine⟨m',hm,i+1,zs,H9,(I9.sub sub9).unpinned,T.keep _ _ _ st7 λb hb o e=>(I9.pin (b,o) (p7 _ (p7 _ (xA hb e)))).1,λb hb=>?_,w9⟩
    obtain⟨o,e,d⟩:=T.obj _ _ st7 b hb
    exact(I9.pin (b,o) (p7 _ (p7 _ (xA hb e)))).2.1
   refine thn (ht _ _ _ _ _ s8 σ8 H8 _ I8 q8) λb s9 hh9=>?_
   obtain⟨H9,I9,q9⟩:=hh9
   cases b with
   | false =>
    rw[j7 u8]at q9
    rw[j7 u8]
    exact again I9 sub8 q9
   | true =>
    rw[t7 rfl]at q9
    rw[t7 rfl]
    refine thn (he _ _ _ _ _ s9 σ8 H9 _ I9 q9) λy s10 hh9=>?_
    obtain⟨yv,H10,I10,r10,hD10,w10⟩:=hh9
    obtain⟨z10,its,k,rv,e10⟩:ys.length<=sizeLine/\∃ (its:List Value) (n:Nat),yd ys its/\s10.heap.get? s2.heap.objs.size=some { cls:=.type "list",data:=.seq its.toArray n }:=I10.hok _ _ hD10
    have hl10:s10.heap.PlainList s2.heap.objs.size its.toArray:=⟨k,e10⟩
    refine wpAny_list_append_plain (hsz:=by rw[q5,<- rv.length];exact z10) hl10 λh11 hl11 sb11=>?_
    obtain⟨k',e11⟩:=hl11
    have I11:Inv Y ([]++Xd fp s7.heap) σ8 (upd H10 s2.heap.objs.size (.lst (ys++[yv]))) { s10 with heap:=h11 }:=by
     refine I10.write (x:=s2.heap.objs.size) (e:=s2.heap.objs.size) (t':=s10.toks) (by rw[hD10];exact True.intro) (.inl rfl) (λb u hb e=>(sb11.2 b hb).trans e) ⟨_,e11⟩ ?_
     refine⟨by rw[d6];show ys.length+1<=sizeLine;exact hlen,its++[y],k',rv.append (.cons r10 .nil),?_⟩
     rw[e11]
     simp
    exact again I11 sub8 w10
 exact codeAny_compStart_list loop (T.self _ 0 _ _ _ st4 loop)
theorem zhJ {X:Cx}{elt tg iter:Expr}{ifs:List Expr}{L M:List Str}{scope:Scope}{cl:List (Str × Addr)}{pos:Pos}{wi:TI}{g:TG}{tt:TT}{te:TE}
 (hc:X.calm=true) (S:xb X L M scope cl) (hi:PI X tg iter wi)
 (hgS:∀ (σ:St) (v:V) (H:Hp) (Q:St->Hp->Prop),g v (List.replicate L.length none++σ) H Q->g v (List.replicate L.length none++σ) H (fun σ2 H2=>YW (List.replicate L.length none++σ) σ2/\Q σ2 H2))
 (hg:∀ s₀ H₀ ex pn,PG (W5 X L M scope cl s₀ H₀ ex pn) tg g) (ht:∀ s₀ H₀ ex pn,PIf (W5 X L M scope cl s₀ H₀ ex pn) ifs tt) (he:∀ s₀ H₀ ex pn,PE (W5 X L M scope cl s₀ H₀ ex pn) elt te)
 (hs:∀ x,foldedSetIterable iter X.env x=pure x:=by intro _;rfl) :
 PE X (.ListComp elt [⟨tg,iter,ifs,0⟩] scope pos) (tLC wi L.length g tt te):=by
 intro pins s σ H Q I h
 rw[eval_ListComp]
 refine ze9 hc S hi hgS hg ht he hs _ pins s σ H Q I h λD C H' s' I' ⟨m,hn⟩ f q=>⟨m,hn,λh' sb=>⟨.ref D,_,I'.letGo f sb,rfl,q⟩⟩
theorem zhC {i:Nat}{x:Str}{px spos:Pos}{X:Cx}{elt tg iter:Expr}{ifs:List Expr}{L M:List Str}{scope:Scope}{cl:List (Str × Addr)}{pos:Pos}{wi:TI}{g:TG}{tt:TT}{te:TE}
 (hN:X.N.Nodup) (hi':X.N[i]?=some x) (hx:Loc X.env.scope x) (hc:X.calm=true) (S:xb X L M scope cl) (hi:PI X tg iter wi)
 (hgS:∀ (σ:St) (v:V) (H:Hp) (Q:St->Hp->Prop),g v (List.replicate L.length none++σ) H Q->g v (List.replicate L.length none++σ) H (fun σ2 H2=>YW (List.replicate L.length none++σ) σ2/\Q σ2 H2))
 (hg:∀ s₀ H₀ ex pn,PG (W5 X L M scope cl s₀ H₀ ex pn) tg g) (ht:∀ s₀ H₀ ex pn,PIf (W5 X L M scope cl s₀ H₀ ex pn) ifs tt) (he:∀ s₀ H₀ ex pn,PE (W5 X L M scope cl s₀ H₀ ex pn) elt te)
 (hs:∀ x,foldedSetIterable iter X.env x=pure x:=by intro _;rfl)
 (hsw:swapsWith (.ListComp elt [⟨tg,iter,ifs,0⟩] scope pos) (some (.Name x px)) spos.line X.env=pure true:=by rfl)
 (hf:X.fn x=true\/X.env.scope.names.lookup x=some .local:=by first | exact .inl rfl | exact .inr rfl | assumption) :
 PS X (.Assign [.Name x px] (.ListComp elt [⟨tg,iter,ifs,0⟩] scope pos) spos) (zly (tLC wi L.length g tt te) (Y6 i)):=by
 intro pins s σ H D I h
 rw[exec_Assign_Name_used _ _ _ _ hsw]
 refine u0 (wpAny_standAt (u0 ?_))
 show wpAny _ X.A (do let _<-comprehension (.ListComp elt [⟨tg,iter,ifs,0⟩] scope pos) scope X.env _ (newList []) false (eval iter X.env) (some (assign (.Name x px) X.env))) _ _ s
 refine u0 (thn (ze9 (use:=some (assign (.Name x px) X.env)) (Qf:=λ_ s'=>SP X pins D .next s') hc S hi hgS hg ht he hs _ pins s σ H _ I h λD' C H' s' I' ⟨m,hn⟩ f q=>?_) λ_ s' hq=>u5 (u5 hq))
 have hob:∀ b∈[C],∃ o,s'.heap.get? b=some o/\∀ v,o.data≠.cell v:=λb hb=>by
  rw[j8.mp hb]
  obtain⟨o,es,ep,e,d,_⟩:=hn
  exact⟨o,e,λv z=>by rw[z]at d;cases d⟩
 have I2:=I'.pinned (fp:=[C]) (λb hb=>by rw[j8.mp hb];exact f) hob
 refine thn (zq (pos:=px) hN hi' hx hf _ s' σ H' (.ref D') (.ref D') _ I2 rfl q) λ_ s2 hh9=>?_
 obtain⟨σ2,H2,I3,q3⟩:=hh9
 obtain⟨o,es,ep,e,d⟩:=hn
 have pn:=I3.pin (C,o) (p7 _ (p7 _ (xA (j8.mpr rfl) e)))
 exact⟨m,⟨o,es,ep,pn.1,d⟩,λh' sb=>⟨σ2,H2,I3.unpinned.letGo ⟨pn.2.1,f.2⟩ sb,q3⟩⟩
def WU (names rn dn:List (Str × NameKind))(N M cn:List Str):Bool :=
 names.all (λy=>decide (y.2≠.cell))&&names.all (λy=>decide (y.2=.local->names.lookup y.1=some .local)) &&
 rn.all (λy=>decide ((y.2=.cell\/y.2=.free)->y.1∈cn)) &&
 (M.length == N.length)&&(M.zip N).all (λp=>decide ((rn.lookup p.1=some .local\/rn.lookup p.1=some .cell\/rn.lookup p.1=some .free)->p.1=p.2)) &&
 M.all (λy=>decide ((rn.lookup y=some .local\/rn.lookup y=some .cell\/rn.lookup y=some .free) ->
  (rn.lookup y=some .cell\/rn.lookup y=some .free)/\(dn.lookup y=some .local\/dn.lookup y=some .cell\/dn.lookup y=some .free)/\dn.lookup y≠some .local))
theorem wk {X:Cx}{L N M cn:List Str}{scope:Scope}{cl:List (Str × Addr)}{rn dn:List (Str × NameKind)}(hr:(relabel scope X.env).names=rn)(hd:X.env.scope.names=dn)(hN:X.N=N)
 (clos:closureFor scope X.env=pure cl) (kind:scope.kind=.function) (hc:cl.map Prod.fst=cn) (good:WU scope.names rn dn N M cn=true) (sub:∀ p∈cl,X.env.cells.lookup p.1=some p.2):xb X L M scope cl:=by
 unfold WU at good
 simp only[g9,u0k,d5]at good
 obtain⟨⟨⟨⟨⟨g1,g2⟩,g3⟩,g5⟩,g6⟩,g4⟩:=good
 have g5:M.length=N.length:=by simpa using g5
 refine⟨clos,g1,kind,g2,λy c h=>sub (y,c) (u0A h),λy h=>?_,by rw[hN];exact g5,λi y e v=>?_,λi y e v=>?_,λi y e v=>?_⟩
 .rw[hr]at h
  have hy:y∈cn:=by
   rcases h with h | h
   .exact g3 _ (u0A h) (.inl rfl)
   .exact g3 _ (u0A h) (.inr rfl)
  exact ve (by rw[hc];exact hy)
 .unfold Vis at v
  rw[hr]at v
  have hi:=(u9.mp e).1
  have hj:i < N.length:=by rw[<-g5];exact hi
  have hz:(M.zip N)[i]?=some (y,N[i]):=by
   rw[u1m]
   exact⟨e,j6 hj⟩
  have:=g6 _ (d8 hz) v
  rw[hN,j6 hj]
  exact u1d some this.symm
 .unfold Vis at v
  rw[hr]at v ⊢
  exact(g4 y (d8 e) v).1
 .unfold Vis at v
  rw[hr]at v
  obtain⟨_,k1,k2⟩:=g4 y (d8 e) v
  refine⟨?_,?_⟩
  .unfold Vis;rw[hd];exact k1
  .show X.env.scope.names.lookup y≠_;rw[hd];exact k2
end L2
namespace PySem
open Sem (wp)
open AutoSeq1 (wpAny_loadPart')
section
variable {prog:Program}{w:World}{A:Around}{E:Value->Shared->Prop}{s:Shared}
theorem YA {it l:Addr}{i:Nat}{items}{x:Value}{Q:Value->Shared->Prop}(hit:s.heap.IsTupleIter it l i)
 (hl:s.heap.IsTuple l items) (hx:items[i]?=some x)
 (hQ:∀ h',h'.IsTupleIter it l (i+1)->Heap.SameBut it s.heap h'->Q x { s with heap:=h' }) :
 wpAny (model prog w) A (Builtin.SmallTypes.nextOf (.ref it)) Q E s:=by
 obtain⟨o,ho,hc,hd⟩:=id hit
 obtain⟨ol,hol,_,nl,hdl⟩:=hl
 unfold Builtin.SmallTypes.nextOf
 refine u0 (u0b (name:=Str.ofString "__next__") hit.typeIs u1A
  (u0a u1A hit.typeIs F.entry_tuple_iterator_next ?_ (F.args_tuple_iterator_next_1 _)))
 show wpAny _ _ (field (.ref it) 0>>=_) _ _ s
 refine u0 (u09 ho hd (x:=.ref l) rfl ?_)
 show wpAny _ _ (if (Value.ref l == Value.none)=true then _ else _) _ _ s
 rw[j7 (show ¬ ((Value.ref l == Value.none)=true)from u8)]
 show wpAny _ _ (field (.ref it) 1>>=_) _ _ s
 refine u0 (u09 ho hd (x:=.int i 0) rfl ?_)
 show wpAny _ _ (seqItems? (.ref l)>>=_) _ _ s
 refine u0 (u1H hol hdl ?_)
 simp only[i5,hx]
 refine u0 (u3D ho hd (by simp) (u5 ⟨x,rfl,u5 (hQ _ ?_ (u06 ..))⟩))
 exact⟨_,b6 _ ho (Obj.isFreed_of_fields (u2D hd _)),(Obj.cls_mapFields ..).trans hc,by
  rw[u2D hd];simp[rawInt]⟩
theorem wm {it l:Addr}{i:Nat}{items}{Q:Value->Shared->Prop}(hh:A.handled=none)
 (hit:s.heap.IsTupleIter it l i) (hl:s.heap.IsTuple l items) (hx:items[i]?=none)
 (hE:∀ h' e,Heap.ExtBut it s.heap h'->(∃ o,h'.get? e=some o/\o.cls=.type "StopIteration")->E (.ref e) { s with heap:=h' }) :
 wpAny (model prog w) A (Builtin.SmallTypes.nextOf (.ref it)) Q E s:=by
 obtain⟨o,ho,hc,hd⟩:=id hit
 obtain⟨ol,hol,_,nl,hdl⟩:=hl
 unfold Builtin.SmallTypes.nextOf
 refine u0 (u0b (name:=Str.ofString "__next__") hit.typeIs u1A
  (u0a u1A hit.typeIs F.entry_tuple_iterator_next ?_ (F.args_tuple_iterator_next_1 _)))
 show wpAny _ _ (field (.ref it) 0>>=_) _ _ s
 refine u0 (u09 ho hd (x:=.ref l) rfl ?_)
 show wpAny _ _ (if (Value.ref l == Value.none)=true then _ else _) _ _ s
 rw[j7 (show ¬ ((Value.ref l == Value.none)=true)from u8)]
 show wpAny _ _ (field (.ref it) 1>>=_) _ _ s
 refine u0 (u09 ho hd (x:=.int i 0) rfl ?_)
 show wpAny _ _ (seqItems? (.ref l)>>=_) _ _ s
 refine u0 (u1H hol hdl ?_)
 simp only[i5,hx]
 refine u0 (u1P (u0 (u3D ho hd (by simp) ?_)))
 show wpAny _ _ (newExc (.type "StopIteration") []>>=_) _ _ _
 refine u0 ?_
 simp only[newExc,newTuple]
 refine u0 (i9 ?_ (by size_fits))
 refine u0 (m:=firstArgMember _ _) (u1a (a:=Value.none) (by first | rfl | (simp only[firstArgMember];rfl)) ?_)
 refine i9 ?_ (by size_fits)
 simp only[raiseNew]
 refine u0 (u3T ?_)
 first | rw[show A.in1.handled=none from hh] | rw[hh]
 refine u0 (u5 (wpAny_throw ?_))
 exact hE _ _ (((u06 ..).extBut.push _).push _) ⟨_,t6 _ rfl,rfl⟩
end
theorem YR {prog:Program}{w:World}{A:Around}{E:Value->Shared->Prop}{s:Shared}{e it l:Addr}{i:Nat}{items:Array Value}{old:Value}{Q:Option Value->Shared->Prop}(hh:A.handled=none)
 (he:IsEnum s.heap e it i old) (hit:s.heap.IsTupleIter it l i) (hl:s.heap.IsTuple l items) (hx:items[i]?=none)
 (hQ:∀ h',Heap.ExtBut it s.heap h'->Q none { s with heap:=h' }):wpAny (model prog w) A (pyNext (.ref e)) Q E s:=by
 have hT:s.TypeIs (.ref e) "enumerate":=⟨_,he,rfl⟩
 unfold pyNext
 refine u0 (u1r (u0b (name:=Str.ofString "__next__") hT F.slot_enumerate_next
  (u0a F.slot_enumerate_next hT F.entry_enumerate_next ?_ (F.args_enumerate_next_1 _))))
 show wpAny _ _ (field (.ref e) 2>>=_) _ _ _
 refine u0 (u09 he rfl (x:=.ref it) rfl ?_)
 refine u0 (wm hh hit hl hx λh' x he' hx'=>?_)
 obtain⟨o,ho,hc⟩:=hx'
 refine u0 (u1B (T:="StopIteration") (b:=true) ⟨o,ho,hc⟩ u2U ?_)
 exact u5 (hQ _ he')
theorem Yo {prog:Program}{w:World}{A:Around}(hh:A.handled=none)(it l:Addr)(hne:l≠it)(items:Array Value) :
 Draws prog w A it [it,l] items.size (λi v=>items[i]?=some v) (λi h=>h.IsTupleIter it l i/\h.IsTuple l items) where
 live:=λ_ _ st=>let ⟨o,ho,_⟩:=st.1;⟨o,ho⟩
 frame:=λ_ _ _ st hk=>by
  obtain⟨⟨o,ho,r⟩,⟨o2,ho2,r2⟩⟩:=st
  exact⟨⟨o,hk it (by simp) o ho,r⟩,⟨o2,hk l (by simp) o2 ho2,r2⟩⟩
 item:=λi s Q E hi st hQ=>by
  refine YA st.1 st.2 (x:=items[i]) (by simp[hi]) λh' hit' hs'=>?_
  exact hQ _ h' s.toks (by simp[hi]) ⟨hit',st.2.extBut hs'.extBut hne⟩ hs'
 done:=λs Q E st hE=>wm hh st.1 st.2 (by simp) hE
theorem ZG (l:Addr)(items:Array Value)(n:Nat)(dd:Option Addr)(sl:Array (Option Value)) :
 Meets (Builtin.«enumerate.__new__» ⟨[.type "enumerate",.ref l],[]⟩) (λ_ R s=>s.heap.get? l=some { cls:=.type "tuple",dict:=dd,data:=.seq items n,slots:=sl } /\
  R (.ok (.ret (.ref (s.heap.push { cls:=.type "tuple_iterator",data:=.fields #[.ref l,.int 0 0] }).objs.size)))
   { s with heap:=(s.heap.push { cls:=.type "tuple_iterator",data:=.fields #[.ref l,.int 0 0] }).push { cls:=.type "enumerate",data:=.fields #[.none,.bool false,.ref s.heap.objs.size,rawInt 0,.none,.none] } }) :=
 .of_wp λprog w A R s h=>by
  obtain⟨hp,g,d,tk,os⟩:=s;obtain⟨hl,h⟩:=h
  have hsub:=sub_enumerate
  have hL:Heap.IsTuple (Shared.heap ⟨hp,g,d,tk,os⟩) l items:=⟨_,hl,rfl,n,rfl⟩
  wp_walk using u1z hl
  refine wpAny_stack_any λst=>u5 ?_
  split
  .rename_i c _ _ _ _ _
   cases (c == Value.type "enumerate")
   .wp_walk using u1z hl,u0S hL
    exact⟨_,rfl,h⟩
   .wp_walk using u1z hl,u0S hL
    exact⟨_,rfl,h⟩
  .wp_walk using u1z hl,u0S hL
   exact⟨_,rfl,h⟩
section
variable {prog:Program}{w:World}{A:Around}{E:Value->Shared->Prop}{s:Shared}
theorem YT {l:Addr}{items:Array Value}{Q:Value->Shared->Prop}
 (hl:s.heap.IsTuple l items)
 (h:∀ h',IsEnum h' (s.heap.objs.size+1) s.heap.objs.size 0 .none->h'.IsTupleIter s.heap.objs.size l 0->h'.objs.size=s.heap.objs.size+2 ->
  (∀ b o,s.heap.get? b=some o->h'.get? b=some o)->Q (.ref (s.heap.objs.size+1)) { s with heap:=h' }) :
 wpAny (model prog w) A (call (.type "enumerate") [.ref l]) Q E s:=by
 obtain⟨⟨cls,dd,data,sl⟩,ho,hc,n,hd⟩:=hl
 simp only at hc hd
 subst hc hd
 refine callType_new F.called_enumerate (by decide) (F.typeCall_enumerate_1 _) (F.newCall_enumerate_1 _) (λobj=>F.args_object_init_2 obj _) F.entry_enumerate_new
  (ZG l items n dd sl) ⟨ho,?_⟩
 have hz:(s.heap.push { cls:=.type "tuple_iterator",data:=.fields #[.ref l,.int 0 0] }).objs.size=s.heap.objs.size+1:=u0w ..
 show _/\_
 rw[hz]
 have he:IsEnum ((s.heap.push { cls:=.type "tuple_iterator",data:=.fields #[.ref l,.int 0 0] }).push
  { cls:=.type "enumerate",data:=.fields #[.none,.bool false,.ref s.heap.objs.size,rawInt 0,.none,.none] }) (s.heap.objs.size+1) s.heap.objs.size 0 .none:=by
  have:=t6 (s.heap.push { cls:=.type "tuple_iterator",data:=.fields #[.ref l,.int 0 0] })
   (o:={ cls:=.type "enumerate",data:=.fields #[.none,.bool false,.ref s.heap.objs.size,rawInt 0,.none,.none] }) rfl
  rw[hz]at this;exact this
 refine⟨⟨_,he,rfl⟩,h _ he ⟨_,u3 _ (t6 _ rfl),rfl,rfl⟩ (by rw[u0w,hz]) λb o x=>u3 _ (u3 _ x)⟩
end
end PySem
namespace L2
open PySem PySem.Spec PyProof.Rows
section
variable {X:Cx}{pins:List (Addr × Obj)}{σ:St}{H:Hp}{s:Shared}{h':Heap}
theorem Inv.grown {ch:List Addr}{T:Addr}{o:HO}{t':Nat}(I:Inv X pins σ H s)(hch:∀ b∈ch,zaT X pins H b)(hT:s.heap.objs.size<=T)(k:∀ b u,b∉ch->s.heap.get? b=some u->h'.get? b=some u)
 (new:yt X.prog X.w (upd H T o) h' T o):Inv X pins σ (upd H T o) { s with heap:=h',toks:=t' }:=by
 have hn:H T=none:=I.hok.fresh hT
 have neT:∀ b u,s.heap.get? b=some u->b≠T:=λb u e=>j9 (r8 (t4 e) hT)
 have nch:∀ b u,H b=some u->b∉ch:=λb u e z=>by rw[(hch b z).1]at e;cases e
 refine I.step (g':=s.gens) (d':=s.drawn) (ch:=ch) (λb hb=>?_) (λb u _ _ hc e _=>k b u hc e) (λb u _ _ hc e _=>⟨u.slots,k b u hc e⟩) (λb u _ e n=>by rw[zm (neT b u e)];exact n)
  (λb u hc e=>⟨u,k b u hc e⟩) (λb xs e=>by rw[zm (zp e hn)];exact e) (λb u xs e=>by rw[zm (zp e hn)];exact e) (λb ps e=>⟨#[],by rw[zm (zp e hn),e];simp⟩) (λm hm=>?_) (λb u e=>?_) I.bare
 .obtain⟨_,n1,_,n3,n4,n5⟩:=hch b hb
  exact⟨n3,n1,n4,n5⟩
 .obtain⟨ob,es,ep,ho,r⟩:=hm
  exact⟨ob,es,ep,k _ ob (λz=>(hch _ z).2.1 rfl) ho,r⟩
 .by_cases hb:b=T
  .subst hb;rw[zn]at e;cases e;exact new
  .rw[zm hb]at e
   refine(I.hok b u e).stay (λc v hc q=>k c v ?_ q) (λc q=>by rw[zm (zp q hn)];exact q) λc xs q=>by rw[zm (zp q hn)];exact q
   rcases hc with z | z
   .rw[z];exact nch b u e
   .exact nch c _ z
theorem Inv.turnedN {ch:List Addr}{t':Nat}(I:Inv X pins σ H s)(hch:∀ b∈ch,zaT X pins H b)(k:∀ b u,b∉ch->s.heap.get? b=some u->h'.get? b=some u):Inv X pins σ H { s with heap:=h',toks:=t' }:=by
 have nch:∀ b u,H b=some u->b∉ch:=λb u e z=>by rw[(hch b z).1]at e;cases e
 refine I.step (g':=s.gens) (d':=s.drawn) (ch:=ch) (λb hb=>?_) (λb u _ _ hc e _=>k b u hc e) (λb u _ _ hc e _=>⟨u.slots,k b u hc e⟩) (λb u _ e n=>n)
  (λb u hc e=>⟨u,k b u hc e⟩) (λb xs e=>e) (λb u xs e=>e) (λb ps e=>⟨#[],by rw[e];simp⟩) (λm hm=>?_) (λb u e=>?_) I.bare
 .obtain⟨_,n1,_,n3,n4,n5⟩:=hch b hb
  exact⟨n3,n1,n4,n5⟩
 .obtain⟨ob,es,ep,ho,r⟩:=hm
  exact⟨ob,es,ep,k _ ob (λz=>(hch _ z).2.1 rfl) ho,r⟩
 .refine(I.hok b u e).stay (λc v hc q=>k c v ?_ q) (λc q=>q) λc xs q=>q
  rcases hc with z | z
  .rw[z];exact nch b u e
  .exact nch c _ z
end
def Iel (K:W.Frag)(a:Addr):It :=
 ⟨λi H=>∃ xs x,SqL K H a xs/\xs[i]?=some x,λi H v H'=>∃ T x,v=.ref T/\H T=none/\H'=upd H T (.tup [.int i,x])/\∀ xs,SqL K H a xs->xs[i]?=some x,λi H=>∃ xs,SqL K H a xs/\xs.length<=i⟩
def Iet (K:W.Frag)(a:Addr):It :=
 ⟨λi H=>∃ xs x,SqT K H a xs/\xs[i]?=some x,λi H v H'=>∃ T x,v=.ref T/\H T=none/\H'=upd H T (.tup [.int i,x])/\∀ xs,SqT K H a xs->xs[i]?=some x,λi H=>∃ xs,SqT K H a xs/\xs.length<=i⟩
theorem zdn {P:Program}{w:World}{K:W.Frag}{es:List Expr}{k:Nat}{tp:Pos}(a e it:Addr)(hne:e≠it) :
 zhN P w K (.Tuple es k tp) (Iel K a) [e,it] e (λi h=>(∃ old,IsEnum h e it i old)/\h.IsListIter it a i) where
 mem:=by simp
 obj:=λi h st b hb=>by
  obtain⟨⟨old,he⟩,o,ho,_,hd⟩:=st
  rcases j5.mp hb with rfl | hb
  .exact⟨_,he,λv z=>by cases z⟩
  .rw[j8.mp hb]
   exact⟨o,ho,λv z=>by rw[hd]at z;cases z⟩
 keep:=λi h h' st kk=>by
  obtain⟨⟨old,he⟩,hit⟩:=st
  exact⟨⟨old,kk e (by simp) _ he⟩,hit.at λo q=>kk it (by simp) o q⟩
 item:=by
  intro X hP hw hK hc i pins s σ H E I hf st hg
  subst hP hw hK
  obtain⟨⟨old,he⟩,hit⟩:=st
  obtain⟨xs,x,hq,hx⟩:=hg
  obtain⟨its,rv,p,hz⟩:=I.list hq
  obtain⟨u,hu,ru⟩:=rv.get hx
  refine wpAny_pyNext_enum_item he hit p.isList (x:=u) (by simpa using hu) hne λh1 ho1 hit1 hT1 hz1 hk1=>?_
  refine⟨_,rfl,wpAny_letOwnedTupleGo_enum ho1 λh2 he2 hs2=>?_⟩
  have hfr:H s.heap.objs.size=none:=I.hok.fresh (t5 _)
  have neE:s.heap.objs.size≠e:=u1S (t4 he)
  have hT2:h2.get? s.heap.objs.size=some { cls:=.type "tuple",data:=.seq #[.int i s.toks,u] }:=(hs2.2 _ neE).trans hT1
  refine⟨.ref s.heap.objs.size,upd H s.heap.objs.size (.tup [.int i,x]),?_,rfl,⟨_,x,rfl,hfr,rfl,λys hy=>by rw[I.list_inj hy hq];exact hx⟩,⟨⟨_,by simpa using he2⟩,hit1.at λo q=>(hs2.2 it (u0M hne)).trans q⟩,λb hb=>?_⟩
  .refine I.grown (ch:=[e,it]) hf (t5 _) (λb v hb q=>?_) ?_
   .have n1:b≠e:=λz=>hb (by simp[z])
    have n2:b≠it:=λz=>hb (by simp[z])
    exact(hs2.2 b n1).trans (hk1 b v n1 n2 q)
   .exact⟨by show 2<=sizeLine;decide,[.int i s.toks,u],.cons ⟨_,rfl⟩ (.cons ru .nil),⟨_,hT2,rfl,0,rfl⟩⟩
  .obtain⟨o,hb2,_⟩:∃ o,s.heap.get? b=some o/\True:=by
    rcases j5.mp hb with rfl | hb
    .exact⟨_,he,trivial⟩
    .rw[j8.mp hb]
     obtain⟨o,ho,_⟩:=hit
     exact⟨o,ho,trivial⟩
   rw[zm (j9 (t4 hb2))]
   exact(hf b hb).1
 done:=by
  intro X hP hw hK hc i pins s σ H E I hf st hg
  subst hP hw hK
  obtain⟨⟨old,he⟩,hit⟩:=st
  obtain⟨xs,hq,hx⟩:=hg
  obtain⟨its,rv,p,hz⟩:=I.list hq
  have hl:=rv.length
  exact wpAny_pyNext_enum_end (I.ok.hd hc) he hit p.isList (by simp;omega) λh1 hx1=>⟨rfl,I.turnedN (ch:=[e,it]) (t':=s.toks) hf λb v hb q=>hx1 b v (λz=>hb (by simp[z])) q⟩
 self:=λ_ _ _ _ _ st h=>u2Q st.1.choose_spec h
theorem zcZ {P:Program}{w:World}{K:W.Frag}{es:List Expr}{k:Nat}{tp:Pos}(a e it:Addr)(hne:e≠it)(hai:a≠it)(hae:a≠e) :
 zhN P w K (.Tuple es k tp) (Iet K a) [e,it] e (λi h=>(∃ old,IsEnum h e it i old)/\h.IsTupleIter it a i) where
 mem:=by simp
 obj:=λi h st b hb=>by
  obtain⟨⟨old,he⟩,o,ho,_,hd⟩:=st
  rcases j5.mp hb with rfl | hb
  .exact⟨_,he,λv z=>by cases z⟩
  .rw[j8.mp hb]
   exact⟨o,ho,λv z=>by rw[hd]at z;cases z⟩
 keep:=λi h h' st kk=>by
  obtain⟨⟨old,he⟩,o,ho,r⟩:=st
  exact⟨⟨old,kk e (by simp) _ he⟩,o,kk it (by simp) o ho,r⟩
 item:=by
  intro X hP hw hK hc i pins s σ H E I hf st hg
  subst hP hw hK
  obtain⟨⟨old,he⟩,hit⟩:=st
  obtain⟨xs,x,hq,hx⟩:=hg
  obtain⟨its,rv,p,hz⟩:=I.tuple hq
  obtain⟨u,hu,ru⟩:=rv.get hx
  have p':s.heap.IsTuple a its.toArray:=p
  have D:=Yo (prog:=X.prog) (w:=X.w) (A:=X.A.in1) (I.ok.hd hc) it a hai its.toArray
  have hlt:i < its.toArray.size:=by
   obtain⟨h1,_⟩:=u9.mp hu
   simpa using h1
  refine wpAny_pyNext_enum_itemD D he ⟨hit,p'⟩ hlt hne (by simp[hne,u0M hae]) λu' h1 tk hP1 ho1 hit1 hT1 hz1 hk1=>?_
  have eu:u'=u:=by
   have:its[i]?=some u':=by simpa using hP1
   rw[hu]at this
   exact(p9 this).symm
  subst eu
  refine⟨_,rfl,wpAny_letOwnedTupleGo_enum ho1 λh2 he2 hs2=>?_⟩
  have hfr:H s.heap.objs.size=none:=I.hok.fresh (t5 _)
  have neE:s.heap.objs.size≠e:=u1S (t4 he)
  have hT2:h2.get? s.heap.objs.size=some { cls:=.type "tuple",data:=.seq #[.int i tk,u'] }:=(hs2.2 _ neE).trans hT1
  refine⟨.ref s.heap.objs.size,upd H s.heap.objs.size (.tup [.int i,x]),?_,rfl,⟨_,x,rfl,hfr,rfl,λys hy=>by rw[I.tuple_inj hy hq];exact hx⟩,⟨⟨_,by simpa using he2⟩,?_⟩,λb hb=>?_⟩
  .refine I.grown (ch:=[e,it]) hf (t5 _) (λb v hb q=>?_) ?_
   .have n1:b≠e:=λz=>hb (by simp[z])
    have n2:b≠it:=λz=>hb (by simp[z])
    exact(hs2.2 b n1).trans (hk1 b v n1 n2 q)
   .exact⟨by show 2<=sizeLine;decide,[.int i tk,u'],.cons ⟨_,rfl⟩ (.cons ru .nil),⟨_,hT2,rfl,0,rfl⟩⟩
  .obtain⟨o,ho,r⟩:=hit1.1
   exact⟨o,(hs2.2 it (u0M hne)).trans ho,r⟩
  .obtain⟨o,hb2,_⟩:∃ o,s.heap.get? b=some o/\True:=by
    rcases j5.mp hb with rfl | hb
    .exact⟨_,he,trivial⟩
    .rw[j8.mp hb]
     obtain⟨o,ho,_⟩:=hit
     exact⟨o,ho,trivial⟩
   rw[zm (j9 (t4 hb2))]
   exact(hf b hb).1
 done:=by
  intro X hP hw hK hc i pins s σ H E I hf st hg
  subst hP hw hK
  obtain⟨⟨old,he⟩,hit⟩:=st
  obtain⟨xs,hq,hx⟩:=hg
  obtain⟨its,rv,p,hz⟩:=I.tuple hq
  have hl:=rv.length
  have p':s.heap.IsTuple a its.toArray:=p
  exact YR (I.ok.hd hc) he hit p' (by simp;omega) λh1 hx1=>⟨rfl,I.turnedN (ch:=[e,it]) (t':=s.toks) hf λb v hb q=>hx1 b v (λz=>hb (by simp[z])) q⟩
 self:=λ_ _ _ _ _ st h=>u2Q st.1.choose_spec h
def zmO (K:W.Frag)(ta:TA):TI:=fun σ H R=>ta σ H λvs H1=>∃ a,vs=[.ref a]/\((∃ xs,H1 a=some (.lst xs)/\R (Iel K a) H1)\/(∃ xs,SqT K H1 a xs/\R (Iet K a) H1))
theorem zja {X:Cx} {es:List Expr} {k:Nat} {tp:Pos} {a:Expr} {ta:TA} {p pos:Pos} (hg:Gl X "enumerate") (hm:X.mg "enumerate"=none) (hb:bootBuiltins "enumerate"=some (.type "enumerate")) (ha:PA X [a] ta)
 (hs:starEach [a] X.env=[(false,eval a X.env)]:=by rfl):PI X (.Tuple es k tp) (.Call (.Name "enumerate" p) [a] [] pos) (zmO X.K ta):=by
 intro pins s σ H R I h
 refine Call_ (Yn I hg hm hb (u0E (thn (ha pos pins s σ H _ I h) λus s1 hh9=>?_) hs rfl))
 obtain⟨vs,H1,I1,r1,q1⟩:=hh9
 obtain⟨l,e,q⟩:=q1
 subst e
 obtain⟨u,rfl,ru⟩:=X0 r1
 cases ru
 have hn:∀ b,s1.heap.objs.size<=b->zaT X pins H1 b:=λb hb=>I1.fpOk hb (I1.hok.fresh hb)
 have hne:s1.heap.objs.size+1≠s1.heap.objs.size:=by omega
 have hfp:∀ b∈[s1.heap.objs.size+1,s1.heap.objs.size],zaT X pins H1 b:=λb hb=>by
  rcases j5.mp hb with rfl | hb
  .exact hn _ (u1x _)
  .rw[j8.mp hb];exact hn _ (t5 _)
 rcases q with ⟨xs,hx,q⟩ | ⟨xs,hx,q⟩
 .obtain⟨_,its,n,_,e⟩:xs.length<=sizeLine/\∃ (its:List Value) (n:Nat),yd xs its/\s1.heap.get? l=some { cls:=.type "list",data:=.seq its.toArray n }:=I1.hok _ _ hx
  refine call_enumerate_1 e λh2 he hit hz hk=>u2Q he ?_
  exact⟨_,_,_,_,H1,rfl,I1.kept (t':=s1.toks) hk,zdn l _ _ hne,⟨⟨_,he⟩,hit⟩,hfp,q⟩
 .obtain⟨its,_,p1,_⟩:=I1.tuple hx
  have lt:l < s1.heap.objs.size:=by
   obtain⟨o,ho,_⟩:=p1
   exact t4 ho
  refine YT (show s1.heap.IsTuple l its.toArray from p1) λh2 he hit hz hk=>u2Q he ?_
  exact⟨_,_,_,_,H1,rfl,I1.kept (t':=s1.toks) hk,zcZ l _ _ hne (j9 lt) (j9 (u01 lt)),⟨⟨_,he⟩,hit⟩,hfp,q⟩
end L2
namespace HT
open PySem PyProof.Rows
def lexLe:List Int->List Int->Bool
 | [],_=>true
 | _::_,[]=>false
 | x::xs,y::ys=>if x=y then lexLe xs ys else decide (x<=y)
theorem zc5 (x y:Int)(xs ys:List Int):lexLe (x::xs) (y::ys)=if x=y then lexLe xs ys else decide (x<=y):=rfl
theorem zho (A:Around)(s:Shared)(a:Int)(t:Tok)(c:Int)(u:Tok)(prog:Program)(w:World)(E:Value->Shared->Prop)(Q:Value->Shared->Prop)(h:Q (.bool (decide (a<=c))) s) :
 wpAny (model prog w) A (richCompare .LtE (.int a t) (.int c u)) Q E s :=
 (PyProof.Rows.le_int h:wpAny (model prog w) A (compareOp .LtE (.int a t) (.int c u)) Q E s)
section
open PySem.SeqAt
open PySem.AutoSeq1 (wpAny_loadPart')
open PySem.MeetsSeq PySem.MeetsSeq2 PySem.MeetsSeq3
theorem W9 (l b:Addr)(items items2:Array Value)(n n2:Nat)(dd dd2:Option Addr)(sl sl2:Array (Option Value))(ns ms:List Int)(hi:IntsAre items.toList ns)(hj:IntsAre items2.toList ms) :
 Meets (Builtin.«tuple.__le__» ⟨[.ref l,.ref b],[]⟩)
  (λ_ R s=>s.heap.get? l=some { cls:=.type "tuple",dict:=dd,data:=.seq items n,slots:=sl }/\s.heap.get? b=some { cls:=.type "tuple",dict:=dd2,data:=.seq items2 n2,slots:=sl2 } /\
   R (.ok (.ret (.bool (lexLe ns ms)))) s) :=
 .of_wp λprog w A R s h=>by
  obtain⟨hp,g,d,tk,os⟩:=s;obtain⟨hl,hb,h⟩:=h
  have f2:=AutoSeq1.sub_tuple_tuple
  have z1:items.size=ns.length:=by rw[<-hi.length];simp
  have z2:items2.size=ms.length:=by rw[<-hj.length];simp
  wp_walk using u1z hl,u1z hb,wpAny_forIn_list _ (λrest b s'=>b.1=none/\s'=⟨hp,g,d,tk,os⟩/\∃ (vs ws:List Value) (ns' ms':List Int),rest=vs.zip ws /\
   IntsAre vs ns'/\IntsAre ws ms'/\ns'.length+items2.size=ms'.length+items.size/\R (.ok (.ret (.bool (lexLe ns' ms')))) ⟨hp,g,d,tk,os⟩) _
  case turn =>
   rintro⟨y,x⟩ rest b s' ⟨hb',rfl,vs,ws,ns',ms',hz,hvi,hwi,hlen,hR⟩
   cases hvi with
   | nil=>rw[List.zip_nil_left]at hz;cases hz
   | cons a t hvi' =>
    cases hwi with
    | nil=>rw[List.zip_nil_right]at hz;cases hz
    | cons c u hwi' =>
     rw[u3u]at hz
     injection hz with hyx hrest
     injection hyx with hy hx
     subst hy hx
     rw[zc5]at hR
     simp only[i4]at hlen
     obtain⟨e,he,hiff⟩:=zg7 A.in1 ⟨hp,g,d,tk,os⟩ a t c u
     refine u0 (he prog w _ _ ?_)
     cases e with
     | true =>
      rw[t7 (hiff.mp rfl)]at hR
      wp_walk
      exact⟨rfl,rfl,_,_,_,_,hrest,hvi',hwi',by omega,hR⟩
     | false =>
      rw[j7 (λq=>absurd (hiff.mpr q) u8)]at hR
      have hri:=zho A.in1 ⟨hp,g,d,tk,os⟩ a t c u prog w
      wp_walk using hri
      exact⟨_,rfl,by simpa using hR⟩
  case fin =>
   rintro⟨b1,b2⟩ s' ⟨hb',rfl,vs,ws,ns',ms',hz,hvi,hwi,hlen,hR⟩
   simp only at hb'
   subst hb'
   have hv:lexLe ns' ms'=decide (items.size<=items2.size):=by
    cases hvi with
    | nil =>
     simp only[u4d]at hlen
     show true=_
     exact(r9 (by omega)).symm
    | cons a t hv =>
     cases hwi with
     | nil =>
      simp only[u4d,i4]at hlen
      show false=_
      exact(p6 (by omega)).symm
     | cons c u hw =>
      rw[u3u]at hz
      cases hz
   rw[hv]at hR
   wp_walk
   exact⟨_,rfl,by simpa [Builtin.Tuple.tupleCompareSizes]using hR⟩
  case h =>
   exact⟨rfl,rfl,items.toList,items2.toList,ns,ms,rfl,hi,hj,by omega,h⟩
end
section
variable {prog:Program}{w:World}{A:Around}{E:Value->Shared->Prop}{s:Shared}
theorem le_tupInts {l b:Addr}{items items2:Array Value}{ns ms:List Int}{Q:Value->Shared->Prop}(hl:IsTup s.heap l items)(hb:IsTup s.heap b items2)(hi:IntsAre items.toList ns)(hj:IntsAre items2.toList ms)
 (hu:A.units < cLine) (h:Q (.bool (lexLe ns ms)) s):wpAny (model prog w) A (compareOp .LtE (.ref l) (.ref b)) Q E s:=by
 obtain⟨⟨cls,dd,data,sl⟩,ho,hc,n,hd⟩:=id hl
 obtain⟨⟨cls2,dd2,data2,sl2⟩,ho2,hc2,n2,hd2⟩:=id hb
 simp only at hc hd hc2 hd2
 subst hc hd hc2 hd2
 exact richCompare_meets_room (op:=.LtE) ⟨_,ho,rfl⟩ ⟨_,ho2,rfl⟩ PySem.F.slot_tuple_le PySem.F.entry_tuple_le (PySem.F.args_tuple_le_2 _ _) (W9 l b items items2 n n2 dd dd2 sl sl2 ns ms hi hj)
  ⟨ho,ho2,show Value.bool (lexLe ns ms)≠Value.notImplemented/\Q (.bool (lexLe ns ms)) s from⟨(λx=>nomatch x),h⟩⟩ hu
end
end HT
namespace L2
open PySem PySem.Spec PyProof.Rows
def rLeT (K:W.Frag):R2:=λx y H Q=>∃ a b ns ms,x=.ref a/\y=.ref b/\SqT K H a (ns.map V.int)/\SqT K H b (ms.map V.int)/\Q (.bl (HT.lexLe ns ms)) H
theorem zh6 {X:Cx}(hu:X.A.units < cLine):OpR X (compareOp .LtE) (rLeT X.K):=by
 intro pins s σ H x y v u Q I rx ry h
 obtain⟨a,b,ns,ms,rfl,rfl,ha,hb,q⟩:=h
 cases rx
 cases ry
 obtain⟨its,r1,p1,_⟩:=I.tuple ha
 obtain⟨its2,r2,p2,_⟩:=I.tuple hb
 have i1:IntsAre its.toArray.toList ns:=vB r1
 have i2:IntsAre its2.toArray.toList ms:=vB r2
 exact HT.le_tupInts p1 p2 i1 i2 hu ⟨.bl (HT.lexLe ns ms),H,I,rfl,q⟩
end L2
namespace HT
open PySem PyProof.Rows
section
variable {prog:Program}{w:World}{A:Around}{E:Value->Shared->Prop}{s:Shared}
theorem own_getItem_whole {t sl:Addr}{items:Array Value}{vl vu:Value}{lo hi:Option Int}{Q:Value->Shared->Prop}(ht:IsTup s.heap t items)(hs:s.heap.IsSliceOf sl vl vu .none)(pl:IsPart vl lo)(pu:IsPart vu hi)
 (hw:sIx items.size 0 lo=0/\sIx items.size items.size hi=items.size) (h:Q (.ref t) s):wpAny (model prog w) A (getItem (.ref t) (.ref sl)) Q E s:=by
 obtain⟨os,hos,hcs,hds⟩:=id hs
 have hTs:s.TypeIs (.ref sl) "slice":=⟨os,hos,hcs⟩
 unfold getItem
 try with_reducible refine u0n ?_
 first | refine u0 (u5 ?_) | skip
 refine u0 (wpAny_sequenceKey ht.typeIs (by decide) ?_)
 refine u0 (u0b (name:=Str.ofString "__getitem__") ht.typeIs u0F
  (u0a u0F ht.typeIs entry_tuple_getitem ?_ (args_tuple_getitem _ _)))
 show wpAny _ _ (Builtin.Tuple.tupleItemsOf (.ref t)>>=_) _ _ s
 refine u0 (tupleItemsOf_ ht ?_)
 refine u0 (u1U hTs ?_)
 rw[t7 (by decide)]
 refine u0 (v4 hs pl pu ?_)
 have hyes:(((sIx items.size 0 lo:Nat):Int) == 0&&(1:Int) == 1&&(sIx items.size items.size hi - sIx items.size 0 lo) == items.size)=true:=by
  rw[hw.1,hw.2]
  simp
 show wpAny _ _ (if (((sIx items.size 0 lo:Nat):Int) == 0&&(1:Int) == 1&&(sIx items.size items.size hi - sIx items.size 0 lo) == items.size)=true then _ else _) _ _ s
 rw[t7 hyes]
 refine u0 (m:=Builtin.Tuple.tupleIsExact (.ref t)) ?_
 unfold Builtin.Tuple.tupleIsExact
 refine u0 (u1U ht.typeIs (u5 ?_))
 rw[t7 (by decide)]
 refine u0 (u1P ?_)
 first
  | exact u5 ⟨_,rfl,u5 h⟩
  | exact u0 (u5 (u5 ⟨_,rfl,u5 h⟩))
end
end HT
namespace PySem
open Sem (wp)
theorem xm {prog:Program}{w:World}{A:Around}{it a:Addr}{fp:List Addr}{n k:Nat}{P:Nat->Value->Prop}{St:Nat->Heap->Prop}(D:Draws prog w A it fp n P St){h h':Heap}(st:St k h)(sb:Heap.SameBut a h h')(na:a∉fp):St k h' :=
 D.frame _ _ _ st λb hb o e=>(sb.2 b λz=>na (z ▸ hb)).trans e
structure zf7 (z TI TO i1 i2:Addr) (fp1 fp2:List Addr):Prop where
 nd:[z,TI,TO,i1,i2].Nodup
 z1:z∉fp1
 z2:z∉fp2
 o1:TO∉fp1
 o2:TO∉fp2
 i12:i1∉fp2
 i21:i2∉fp1
section
variable {prog:Program}{w:World}{A:Around}{E:Value->Shared->Prop}{s:Shared}{z TI TO i1 i2:Addr}{fp1 fp2:List Addr}{n1 n2 k1 k2:Nat}{P1 P2:Nat->Value->Prop}{St1 St2:Nat->Heap->Prop}{a b:Value}
theorem zap {Q:Value->Shared->Prop}(D1:Draws prog w A i1 fp1 n1 P1 St1)(D2:Draws prog w A i2 fp2 n2 P2 St2)(ap:zf7 z TI TO i1 i2 fp1 fp2)
 (hz:IsZip s.heap z TI TO .none) (hTI:IsPair s.heap TI (.ref i1) (.ref i2)) (hTO:IsPair s.heap TO a b) (h1:St1 k1 s.heap) (h2:St2 k2 s.heap) (l1:k1 < n1) (l2:k2 < n2)
 (hQ:∀ x y h' tk,P1 k1 x->P2 k2 y->IsZip h' z TI TO (rawInt s.heap.objs.size)->IsPair h' TO x y->St1 (k1+1) h'->St2 (k2+1) h'->IsPair h' s.heap.objs.size x y ->
  (∀ c o,c∉[z,TO,i1,i2]->s.heap.get? c=some o->h'.get? c=some o)->Q (.ref s.heap.objs.size) { s with heap:=h',toks:=tk }) :
 wpAny (model prog w) A (Builtin.«zip.__next__» ⟨[.ref z],[]⟩) (λfin s'=>∃ v,fin=.done (.ret v)/\Q v s') E s:=by
 obtain⟨nd,az1,az2,ao1,ao2,a12,a21⟩:=ap
 simp only[u0z,j5,u0i,u15,u4p,u2P,u1G,and_true]at nd
 obtain⟨⟨n1',n2',n3',n4'⟩,⟨n5,n6,n7⟩,⟨n8,n9⟩,n10⟩:=nd
 show wpAny _ _ (field (.ref z) 2>>=_) _ _ _
 refine u0 (u09 hz rfl (x:=.bool false) rfl ?_)
 show wpAny _ _ (field (.ref z) 3>>=_) _ _ _
 refine u0 (u09 hz rfl (x:=.ref TI) rfl (u0 (u1H hTI rfl ?_)))
 show wpAny _ _ (Builtin.SmallTypes.ownedTupleIsFree (.ref z)>>=_) _ _ _
 refine u0 ?_
 unfold Builtin.SmallTypes.ownedTupleIsFree
 refine u0 (u09 hz rfl (x:=.none) rfl (u5 ?_))
 simp only[u21]
 refine u0 (u1P (u0 (u09 hz rfl (x:=.ref TO) rfl (u0 (u0G hz (by simp) λg1 z1 b1=>?_)))))
 refine u0 ?_
 simp only[u3Y,List.zipIdx_nil,u3j,u2T]
 refine u0 (u0 (wpAny_onRaise ?_))
 show wpAny _ _ (Builtin.SmallTypes.nextOf (.ref i1)>>=_) _ _ _
 refine u0 (D1.item k1 _ _ _ l1 (xm D1 h1 b1 az1) λx g2 tk2 px st2 b2=>u5 ?_)
 have o2:IsPair g2 TO a b:=(b2.2 TO n8).trans ((b1.2 TO (u0M n2')).trans hTO)
 refine u0 (u1H o2 rfl (u0 (wpAny_updateSeq_pair o2 λg3 o3 b3=>?_)))
 refine u0 (wpAny_letGo (u5 ?_))
 refine u0 (u0 (wpAny_onRaise ?_))
 show wpAny _ _ (Builtin.SmallTypes.nextOf (.ref i2)>>=_) _ _ _
 have s23:St2 k2 g3:=xm D2 (xm D2 (xm D2 h2 b1 az2) b2 a12) b3 ao2
 refine u0 (D2.item k2 _ _ _ l2 s23 λy g4 tk4 py st4 b4=>u5 ?_)
 have o4:IsPair g4 TO x b:=(b4.2 TO n9).trans o3
 refine u0 (u1H o4 rfl (u0 (wpAny_updateSeq_pair o4 λg5 o5 b5=>?_)))
 replace o5:IsPair g5 TO x y:=o5
 refine u0 (wpAny_letGo (u5 (u5 ?_)))
 refine u0 (u1H o5 rfl ?_)
 show wpAny _ _ (newTuple [x,y]>>=_) _ _ _
 refine u0 (wpAny_newTuple ?_)
 have hsz:g5.objs.size=s.heap.objs.size:=by rw[b5.1,b4.1,b3.1,b2.1,b1.1]
 have z5:IsZip g5 z TI TO .ellipsis:=(b5.2 z n2').trans ((b4.2 z n4').trans ((b3.2 z n2').trans ((b2.2 z n3').trans z1)))
 have zlt:z < g5.objs.size:=t4 z5
 show wpAny _ _ (Builtin.SmallTypes.ownedTupleHandOut (.ref z) (.ref g5.objs.size)>>=_) _ _ _
 refine u0 ?_
 unfold Builtin.SmallTypes.ownedTupleHandOut
 have z6:IsZip (g5.push { cls:=.type "tuple",data:=.seq #[x,y] }) z TI TO .ellipsis:=u3 _ z5
 refine u0 (u0G z6 (by simp) λg7 z7 b7=>?_)
 refine u0G z7 (by simp) λg8 z8 b8=>?_
 have up:∀ c o,c≠z->g5.get? c=some o->g8.get? c=some o:=λc o n e=>(b8.2 c n).trans ((b7.2 c n).trans (u3 _ e))
 have t8:IsPair g8 g5.objs.size x y:=(b8.2 _ (u1S zlt)).trans ((b7.2 _ (u1S zlt)).trans (t6 _ rfl))
 have e8:IsZip g8 z TI TO (rawInt g5.objs.size):=z8
 rw[hsz]at e8 t8
 refine u5 ⟨_,rfl,?_⟩
 show Q (.ref g5.objs.size) _
 rw[hsz]
 have f1:St1 (k1+1) g5:=xm D1 (xm D1 (xm D1 st2 b3 ao1) b4 a21) b5 ao1
 have f2:St2 (k2+1) g5:=xm D2 st4 b5 ao2
 refine hQ x y g8 _ px py e8 (up _ _ (u0M n2') o5) (D1.frame _ _ _ f1 λc hc o e=>up c o (λq=>az1 (q ▸ hc)) e) (D2.frame _ _ _ f2 λc hc o e=>up c o (λq=>az2 (q ▸ hc)) e) t8 λc o hc e=>?_
 simp only[j5,u0i,u15,u4p]at hc
 obtain⟨c1,c2,c3,c4⟩:=hc
 exact up c o c1 ((b5.2 c c2).trans ((b4.2 c c4).trans ((b3.2 c c2).trans ((b2.2 c c3).trans ((b1.2 c c1).trans e)))))
theorem zbe {Q:Fin->Shared->Prop}(D1:Draws prog w A i1 fp1 n1 P1 St1)(az1:z∉fp1)(nz:i1≠z)
 (hz:IsZip s.heap z TI TO .none) (hTI:IsPair s.heap TI (.ref i1) (.ref i2)) (h1:St1 n1 s.heap)
 (hE:∀ h' e,(∀ c o,c≠z->c≠i1->s.heap.get? c=some o->h'.get? c=some o)->(∃ o,h'.get? e=some o/\o.cls=.type "StopIteration")->E (.ref e) { s with heap:=h' }) :
 wpAny (model prog w) A (Builtin.«zip.__next__» ⟨[.ref z],[]⟩) Q E s:=by
 show wpAny _ _ (field (.ref z) 2>>=_) _ _ _
 refine u0 (u09 hz rfl (x:=.bool false) rfl ?_)
 show wpAny _ _ (field (.ref z) 3>>=_) _ _ _
 refine u0 (u09 hz rfl (x:=.ref TI) rfl (u0 (u1H hTI rfl ?_)))
 show wpAny _ _ (Builtin.SmallTypes.ownedTupleIsFree (.ref z)>>=_) _ _ _
 refine u0 ?_
 unfold Builtin.SmallTypes.ownedTupleIsFree
 refine u0 (u09 hz rfl (x:=.none) rfl (u5 ?_))
 simp only[u21]
 refine u0 (u1P (u0 (u09 hz rfl (x:=.ref TO) rfl (u0 (u0G hz (by simp) λg1 z1 b1=>?_)))))
 refine u0 ?_
 simp only[u3Y,List.zipIdx_nil,u3j,u2T]
 refine u0 (u0 (wpAny_onRaise ?_))
 show wpAny _ _ (Builtin.SmallTypes.nextOf (.ref i1)>>=_) _ _ _
 refine u0 (D1.done _ _ _ (xm D1 h1 b1 az1) λg2 e b2 he=>?_)
 obtain⟨oe,hoe,hce⟩:=he
 have z2:IsZip g2 z TI TO .ellipsis:=b2 _ _ (u0M nz) z1
 have nez:e≠z:=λq=>by subst q;rw[z2]at hoe;cases hoe;simp at hce
 exact u0G z2 (by simp) λg3 _ b3=>hE g3 e (λc o c1 c2 q=>(b3.2 c c1).trans (b2 c o c2 ((b1.2 c c1).trans q))) ⟨oe,(b3.2 e nez).trans hoe,hce⟩
end
def VI (b:Bool)(h:Heap)(it l:Addr)(k:Nat):Prop:=if b=true then h.IsListIter it l k else h.IsTupleIter it l k
def zcQ (b:Bool)(h:Heap)(l:Addr)(items:Array Value):Prop:=if b=true then h.IsList l items else h.IsTuple l items
theorem Wc {prog:Program}{w:World}{A:Around}(hh:A.handled=none)(b:Bool)(it l:Addr)(hne:l≠it)(items:Array Value) :
 Draws prog w A it [it,l] items.size (λi v=>items[i]?=some v) (λi h=>VI b h it l i/\zcQ b h l items):=by
 cases b with
 | true=>exact Draws.list hh it l hne items
 | false=>exact Yo hh it l hne items
def zfc (b:Bool) (l:Addr):Obj:={ cls:=.type (if b=true then "list_iterator" else "tuple_iterator"),data:=.fields #[.ref l,.int 0 0] }
abbrev zpA (h:Heap)(b1:Bool)(l1:Addr):Heap:=h.push (zfc b1 l1)
abbrev zpB (h:Heap)(b1 b2:Bool)(l1 l2:Addr):Heap:=(zpA h b1 l1).push (zfc b2 l2)
abbrev zpC (h:Heap) (b1 b2:Bool) (l1 l2:Addr):Heap:=(zpB h b1 b2 l1 l2).push (Obj.mk (.type "tuple") none (.seq #[.ref h.objs.size,.ref (zpA h b1 l1).objs.size]) #[])
abbrev zpD (h:Heap) (b1 b2:Bool) (l1 l2:Addr):Heap:=(zpC h b1 b2 l1 l2).push (Obj.mk (.type "tuple") none (.seq #[.none,.none]) #[])
abbrev zpE (h:Heap) (b1 b2:Bool) (l1 l2:Addr):Heap:=(zpD h b1 b2 l1 l2).push (Obj.mk (.type "zip") none (.fields #[.none,.bool false,.bool false,.ref (zpB h b1 b2 l1 l2).objs.size,.ref (zpC h b1 b2 l1 l2).objs.size]) #[])
theorem zby (b1 b2:Bool)(l1 l2:Addr)(xs ys:Array Value) :
 Meets (Builtin.«zip.__new__» ⟨[.type "zip",.ref l1,.ref l2],[]⟩) (λ_ R s=>zcQ b1 s.heap l1 xs/\zcQ b2 s.heap l2 ys /\
  R (.ok (.ret (.ref (zpD s.heap b1 b2 l1 l2).objs.size))) { s with heap:=zpE s.heap b1 b2 l1 l2 }) :=
 .of_wp λprog w A R s h=>by
  obtain⟨hp,g,d,tk,os⟩:=s;obtain⟨hl1,hl2,h⟩:=h
  have hsub:=sub_zip
  cases b1 with
  | true =>
   have hL1:Heap.IsList (Shared.heap ⟨hp,g,d,tk,os⟩) l1 xs:=hl1
   cases b2 with
   | true =>
    have hL2:Heap.IsList (Shared.heap ⟨hp.push { cls:=.type "list_iterator",data:=.fields #[.ref l1,.int 0 0] },g,d,tk,os⟩) l2 ys:=Heap.IsList.push hl2 _
    wp_walk using u1j hL1,u1j hL2
    exact⟨_,rfl,h⟩
   | false =>
    have hL2:Heap.IsTuple (Shared.heap ⟨hp.push { cls:=.type "list_iterator",data:=.fields #[.ref l1,.int 0 0] },g,d,tk,os⟩) l2 ys:=Heap.IsTuple.push hl2 _
    wp_walk using u1j hL1,u0S hL2
    exact⟨_,rfl,h⟩
  | false =>
   have hL1:Heap.IsTuple (Shared.heap ⟨hp,g,d,tk,os⟩) l1 xs:=hl1
   cases b2 with
   | true =>
    have hL2:Heap.IsList (Shared.heap ⟨hp.push { cls:=.type "tuple_iterator",data:=.fields #[.ref l1,.int 0 0] },g,d,tk,os⟩) l2 ys:=Heap.IsList.push hl2 _
    wp_walk using u0S hL1,u1j hL2
    exact⟨_,rfl,h⟩
   | false =>
    have hL2:Heap.IsTuple (Shared.heap ⟨hp.push { cls:=.type "tuple_iterator",data:=.fields #[.ref l1,.int 0 0] },g,d,tk,os⟩) l2 ys:=Heap.IsTuple.push hl2 _
    wp_walk using u0S hL1,u0S hL2
    exact⟨_,rfl,h⟩
end PySem
namespace PySem
section
variable {prog:Program}{w:World}{A:Around}{E:Value->Shared->Prop}{s:Shared}
theorem zad {b1 b2:Bool}{l1 l2:Addr}{xs ys:Array Value}{Q:Value->Shared->Prop}(hl1:zcQ b1 s.heap l1 xs)(hl2:zcQ b2 s.heap l2 ys)
 (h:∀ h',IsZip h' (s.heap.objs.size+4) (s.heap.objs.size+2) (s.heap.objs.size+3) .none->IsPair h' (s.heap.objs.size+2) (.ref s.heap.objs.size) (.ref (s.heap.objs.size+1)) ->
  IsPair h' (s.heap.objs.size+3) .none .none->VI b1 h' s.heap.objs.size l1 0->VI b2 h' (s.heap.objs.size+1) l2 0 ->
  (∀ c o,s.heap.get? c=some o->h'.get? c=some o)->Q (.ref (s.heap.objs.size+4)) { s with heap:=h' }) :
 wpAny (model prog w) A (call (.type "zip") [.ref l1,.ref l2]) Q E s:=by
 refine callType_new F.called_zip (by decide) (F.typeCall_zip_2 _ _) (F.newCall_zip_2 _ _) (λobj=>F.args_object_init_3 obj _ _) F.entry_zip_new
  (zby b1 b2 l1 l2 xs ys) ⟨hl1,hl2,?_⟩
 have z1:(zpA s.heap b1 l1).objs.size=s.heap.objs.size+1:=u0w ..
 have z2:(zpB s.heap b1 b2 l1 l2).objs.size=s.heap.objs.size+2:=by rw[u0w,z1]
 have z3:(zpC s.heap b1 b2 l1 l2).objs.size=s.heap.objs.size+3:=by rw[u0w,z2]
 have z4:(zpD s.heap b1 b2 l1 l2).objs.size=s.heap.objs.size+4:=by rw[u0w,z3]
 have g5:(zpE s.heap b1 b2 l1 l2).get? (zpD s.heap b1 b2 l1 l2).objs.size=some _:=t6 _ rfl
 have g4:(zpE s.heap b1 b2 l1 l2).get? (zpC s.heap b1 b2 l1 l2).objs.size=some _:=u3 _ (t6 _ rfl)
 have g3:(zpE s.heap b1 b2 l1 l2).get? (zpB s.heap b1 b2 l1 l2).objs.size=some _:=u3 _ (u3 _ (t6 _ rfl))
 have g2:(zpE s.heap b1 b2 l1 l2).get? (zpA s.heap b1 l1).objs.size=some (zfc b2 l2):=u3 _ (u3 _ (u3 _ (t6 _ rfl)))
 have g1:(zpE s.heap b1 b2 l1 l2).get? s.heap.objs.size=some (zfc b1 l1):=u3 _ (u3 _ (u3 _ (u3 _ (t6 _ rfl))))
 show _/\_
 rw[z2,z3,z4]at g5
 rw[z1,z2]at g3
 rw[z3]at g4
 rw[z1]at g2
 rw[z4]
 have it0:∀ {b:Bool} {l c:Addr},(zpE s.heap b1 b2 l1 l2).get? c=some (zfc b l)->VI b (zpE s.heap b1 b2 l1 l2) c l 0:=λ{b l c} e=>by
  cases b
  .exact⟨_,e,rfl,rfl⟩
  .exact⟨_,e,rfl,rfl⟩
 exact⟨⟨_,g5,rfl⟩,h _ g5 g3 g4 (it0 g1) (it0 g2) λc o x =>
  u3 _ (u3 _ (u3 _ (u3 _ (u3 _ x))))⟩
variable {z TI TO i1 i2:Addr}{fp1 fp2:List Addr}{n1 n2 k1 k2:Nat}{P1 P2:Nat->Value->Prop}{St1 St2:Nat->Heap->Prop}{a b:Value}
theorem Zf {Q:Option Value->Shared->Prop}(D1:Draws prog w A.in1 i1 fp1 n1 P1 St1)(D2:Draws prog w A.in1 i2 fp2 n2 P2 St2)(ap:zf7 z TI TO i1 i2 fp1 fp2)
 (hz:IsZip s.heap z TI TO .none) (hTI:IsPair s.heap TI (.ref i1) (.ref i2)) (hTO:IsPair s.heap TO a b) (h1:St1 k1 s.heap) (h2:St2 k2 s.heap) (l1:k1 < n1) (l2:k2 < n2)
 (hQ:∀ x y h' tk,P1 k1 x->P2 k2 y->IsZip h' z TI TO (rawInt s.heap.objs.size)->IsPair h' TO x y->St1 (k1+1) h'->St2 (k2+1) h'->IsPair h' s.heap.objs.size x y ->
  (∀ c o,c∉[z,TO,i1,i2]->s.heap.get? c=some o->h'.get? c=some o)->Q (some (.ref s.heap.objs.size)) { s with heap:=h',toks:=tk }) :
 wpAny (model prog w) A (pyNext (.ref z)) Q E s:=by
 have hT:s.TypeIs (.ref z) "zip":=⟨_,hz,rfl⟩
 unfold pyNext
 exact u0 (u1r (u0b (name:=Str.ofString "__next__") hT u3g
  (u0a u3g hT F.entry_zip_next
   (zap D1 D2 ap hz hTI hTO h1 h2 l1 l2 λx y h' tk a1 a2 a3 a4 a5 a6 a7 a8=>u5 (hQ x y h' tk a1 a2 a3 a4 a5 a6 a7 a8)) (F.args_zip_next_1 _))))
theorem Zt {Q:Option Value->Shared->Prop}(D1:Draws prog w A.in1 i1 fp1 n1 P1 St1)(az1:z∉fp1)(nz:i1≠z)
 (hz:IsZip s.heap z TI TO .none) (hTI:IsPair s.heap TI (.ref i1) (.ref i2)) (h1:St1 n1 s.heap)
 (hQ:∀ h',(∀ c o,c≠z->c≠i1->s.heap.get? c=some o->h'.get? c=some o)->Q none { s with heap:=h' }):wpAny (model prog w) A (pyNext (.ref z)) Q E s:=by
 have hT:s.TypeIs (.ref z) "zip":=⟨_,hz,rfl⟩
 unfold pyNext
 refine u0 (u1r (u0b (name:=Str.ofString "__next__") hT u3g
  (u0a u3g hT F.entry_zip_next (zbe D1 az1 nz hz hTI h1 λh' e hk he=>?_) (F.args_zip_next_1 _))))
 obtain⟨o,ho,hc⟩:=he
 refine u0 (u1B (T:="StopIteration") (b:=true) ⟨o,ho,hc⟩ u2U ?_)
 exact u5 (hQ _ hk)
end
end PySem
namespace L2
open PySem PySem.Spec PyProof.Rows
def Sq (b:Bool)(K:W.Frag)(H:Hp)(a:Addr)(xs:List V):Prop:=if b=true then SqL K H a xs else SqT K H a xs
theorem Inv.sq {X:Cx}{pins:List (Addr × Obj)}{σ:St}{H:Hp}{s:Shared}{a:Addr}{xs:List V}{b:Bool}(I:Inv X pins σ H s)(h:Sq b X.K H a xs):∃ its:List Value,yd xs its/\zcQ b s.heap a its.toArray/\a < s.heap.objs.size:=by
 cases b with
 | true =>
  obtain⟨its,r,p,_⟩:=I.list (show SqL X.K H a xs from h)
  exact⟨its,r,p.isList,by obtain⟨o,n,ho,_⟩:=p;exact t4 ho⟩
 | false =>
  obtain⟨its,r,p,_⟩:=I.tuple (show SqT X.K H a xs from h)
  exact⟨its,r,p,by obtain⟨o,ho,_⟩:=p;exact t4 ho⟩
theorem Inv.sq_inj {X:Cx}{pins:List (Addr × Obj)}{σ:St}{H:Hp}{s:Shared}{a:Addr}{xs ys:List V}{b:Bool}(I:Inv X pins σ H s)(h:Sq b X.K H a xs)(h':Sq b X.K H a ys):xs=ys:=by
 cases b with
 | true=>exact I.list_inj h h'
 | false=>exact I.tuple_inj h h'
def Izp (K:W.Frag)(b1 b2:Bool)(l1 l2:Addr):It :=
 ⟨λi H=>∃ xs ys x y,Sq b1 K H l1 xs/\Sq b2 K H l2 ys/\xs[i]?=some x/\ys[i]?=some y,
  λi H v H'=>∃ T x y,v=.ref T/\H T=none/\H'=upd H T (.tup [x,y])/\(∀ xs,Sq b1 K H l1 xs->xs[i]?=some x)/\(∀ ys,Sq b2 K H l2 ys->ys[i]?=some y),
  λi H=>∃ xs,Sq b1 K H l1 xs/\i=xs.length⟩
theorem ZC {b:Bool}{h:Heap}{it l:Addr}{k:Nat}(x:VI b h it l k):∃ o,h.get? it=some o/\∀ v,o.data≠.cell v:=by
 cases b
 .obtain⟨o,ho,_,hd⟩:=x
  exact⟨o,ho,λv z=>by rw[hd]at z;cases z⟩
 .obtain⟨o,ho,_,hd⟩:=x
  exact⟨o,ho,λv z=>by rw[hd]at z;cases z⟩
theorem XI {b:Bool}{h h':Heap}{it l:Addr}{k:Nat}(x:VI b h it l k)(e:∀ o,h.get? it=some o->h'.get? it=some o):VI b h' it l k:=by
 cases b
 .obtain⟨o,ho,r⟩:=x
  exact⟨o,e o ho,r⟩
 .obtain⟨o,ho,r⟩:=x
  exact⟨o,e o ho,r⟩
theorem zhv {P:Program}{w:World}{K:W.Frag}{es:List Expr}{k:Nat}{tp:Pos}(b1 b2:Bool)(l1 l2 z TI TO i1 i2:Addr)(ap:zf7 z TI TO i1 i2 [i1,l1] [i2,l2])(n1:l1≠i1)(n2:l2≠i2) :
 zhN P w K (.Tuple es k tp) (Izp K b1 b2 l1 l2) [z,TI,TO,i1,i2] z (λi h=>IsZip h z TI TO .none/\IsPair h TI (.ref i1) (.ref i2)/\(∃ a b,IsPair h TO a b)/\VI b1 h i1 l1 i/\VI b2 h i2 l2 i) where
 mem:=by simp
 obj:=λi h st b hb=>by
  obtain⟨hz,hTI,⟨a,c,hTO⟩,h1,h2⟩:=st
  simp only[j5,u0i,u15]at hb
  rcases hb with rfl | rfl | rfl | rfl | rfl
  .exact⟨_,hz,λv z=>by cases z⟩
  .exact⟨_,hTI,λv z=>by cases z⟩
  .exact⟨_,hTO,λv z=>by cases z⟩
  .exact ZC h1
  .exact ZC h2
 keep:=λi h h' st kk=>by
  obtain⟨hz,hTI,⟨a,c,hTO⟩,h1,h2⟩:=st
  exact⟨kk z (by simp) _ hz,kk TI (by simp) _ hTI,⟨a,c,kk TO (by simp) _ hTO⟩,XI h1 λo q=>kk i1 (by simp) o q,XI h2 λo q=>kk i2 (by simp) o q⟩
 item:=by
  intro X hP hw hK hc i pins s σ H E I hf st hg
  subst hP hw hK
  obtain⟨hz,hTI,⟨a,c,hTO⟩,h1,h2⟩:=st
  obtain⟨xs,ys,x,y,hq1,hq2,hx,hy⟩:=hg
  obtain⟨its,rv,p,_⟩:=I.sq hq1
  obtain⟨its2,rv2,p2,_⟩:=I.sq hq2
  obtain⟨u,hu,ru⟩:=rv.get hx
  obtain⟨u2,hu2,ru2⟩:=rv2.get hy
  have hl1:i < its.toArray.size:=by simpa using (u9.mp hu).1
  have hl2:i < its2.toArray.size:=by simpa using (u9.mp hu2).1
  have hh:X.A.in1.handled=none:=I.ok.hd hc
  refine Zf (Wc hh b1 i1 l1 n1 its.toArray) (Wc hh b2 i2 l2 n2 its2.toArray) ap hz hTI hTO ⟨h1,p⟩ ⟨h2,p2⟩ hl1 hl2 λv1 v2 h' tk e1 e2 hz' hTO' s1 s2 hT' hk=>?_
  have eu:v1=u:=by
   have:its[i]?=some v1:=by simpa using e1
   rw[hu]at this
   exact(p9 this).symm
  have eu2:v2=u2:=by
   have:its2[i]?=some v2:=by simpa using e2
   rw[hu2]at this
   exact(p9 this).symm
  subst eu eu2
  obtain⟨nd,az1,az2,ao1,ao2,a12,a21⟩:=ap
  simp only[u0z,j5,u0i,u15,u4p,u2P,u1G,and_true]at nd
  obtain⟨⟨m1,m2,m3,m4⟩,⟨m5,m6,m7⟩,⟨m8,m9⟩,m10⟩:=nd
  refine⟨_,rfl,wpAny_letOwnedTupleGo_zip hz' λh2' hz2 hs2=>?_⟩
  have hfr:H s.heap.objs.size=none:=I.hok.fresh (t5 _)
  have neZ:s.heap.objs.size≠z:=u1S (t4 hz)
  have hT2:IsPair h2' s.heap.objs.size v1 v2:=(hs2.2 _ neZ).trans hT'
  have hTI':IsPair h' TI (.ref i1) (.ref i2):=hk TI _ (by simp[u0M m1,m5,m6,m7]) hTI
  have lt:∀ b∈[z,TI,TO,i1,i2],b < s.heap.objs.size:=λb hb=>by
   simp only[j5,u0i,u15]at hb
   rcases hb with rfl | rfl | rfl | rfl | rfl
   .exact t4 hz
   .exact t4 hTI
   .exact t4 hTO
   .obtain⟨o,ho,_⟩:=ZC h1;exact t4 ho
   .obtain⟨o,ho,_⟩:=ZC h2;exact t4 ho
  refine⟨.ref s.heap.objs.size,upd H s.heap.objs.size (.tup [x,y]),?_,rfl,⟨_,x,y,rfl,hfr,rfl,λzs hz=>by rw[I.sq_inj hz hq1];exact hx,λzs hz=>by rw[I.sq_inj hz hq2];exact hy⟩,
   ⟨hz2,(hs2.2 TI (u0M m1)).trans hTI',⟨_,_,(hs2.2 TO (u0M m2)).trans hTO'⟩,XI s1.1 λo q=>(hs2.2 i1 (u0M m3)).trans q,XI s2.1 λo q=>(hs2.2 i2 (u0M m4)).trans q⟩,λb hb=>?_⟩
  .refine I.grown (ch:=[z,TI,TO,i1,i2]) hf (t5 _) (λb v hb q=>?_) ?_
   .have nb:b≠z:=λw=>hb (by simp[w])
    refine(hs2.2 b nb).trans (hk b v (λw=>hb ?_) q)
    simp only[j5,u0i,u15]at w ⊢
    rcases w with w | w | w | w
    .exact .inl w
    .exact .inr (.inr (.inl w))
    .exact .inr (.inr (.inr (.inl w)))
    .exact .inr (.inr (.inr (.inr w)))
   .exact⟨by show 2<=sizeLine;decide,[v1,v2],.cons ru (.cons ru2 .nil),⟨_,hT2,rfl,0,rfl⟩⟩
  .rw[zm (j9 (lt b hb))]
   exact(hf b hb).1
 done:=by
  intro X hP hw hK hc i pins s σ H E I hf st hg
  subst hP hw hK
  obtain⟨hz,hTI,⟨a,c,hTO⟩,h1,h2⟩:=st
  obtain⟨xs,hq,rfl⟩:=hg
  obtain⟨its,rv,p,_⟩:=I.sq hq
  have hl:=rv.length
  have hh:X.A.in1.handled=none:=I.ok.hd hc
  have D:=Wc (prog:=X.prog) (w:=X.w) hh b1 i1 l1 n1 its.toArray
  refine Zt D ap.z1 ?_ hz hTI ⟨by rw[q5,<- hl];exact h1,p⟩ λh' hk=>⟨rfl,I.turnedN (ch:=[z,TI,TO,i1,i2]) (t':=s.toks) hf λb v hb q=>hk b v (λw=>hb (by simp[w])) (λw=>hb (by simp[w])) q⟩
  have nd:=ap.nd
  simp only[u0z,j5,u0i,u15,u4p,u2P,u1G,and_true]at nd
  exact u0M nd.1.2.2.1
 self:=λ_ _ _ _ _ st h=>wpAny_pyIter_zip st.1 h
def iZip (K:W.Frag)(ta:TA):TI:=fun σ H R=>ta σ H λvs H1=>∃ b1 b2 l1 l2 xs ys,vs=[.ref l1,.ref l2]/\Sq b1 K H1 l1 xs/\Sq b2 K H1 l2 ys/\R (Izp K b1 b2 l1 l2) H1
theorem zkF {X:Cx} {es:List Expr} {k:Nat} {tp:Pos} {a b:Expr} {ta:TA} {p pos:Pos} (hg:Gl X "zip") (hm:X.mg "zip"=none) (hb:bootBuiltins "zip"=some (.type "zip")) (ha:PA X [a,b] ta)
 (hs:starEach [a,b] X.env=[(false,eval a X.env),(false,eval b X.env)]:=by rfl) (hs2:starEach [b] X.env=[(false,eval b X.env)]:=by rfl):PI X (.Tuple es k tp) (.Call (.Name "zip" p) [a,b] [] pos) (iZip X.K ta):=by
 intro pins s σ H R I h
 refine Call_ (Yn I hg hm hb (u0E (thn (ha pos pins s σ H _ I h) λus s1 hh9=>?_) (by rw[hs,hs2]) (by rw[hs2];rfl)))
 obtain⟨vs,H1,I1,r1,q1⟩:=hh9
 obtain⟨b1,b2,l1,l2,xs,ys,e,hq1,hq2,q⟩:=q1
 subst e
 obtain⟨u,u2,rfl,ru,ru2⟩:=zbo r1
 cases ru
 cases ru2
 obtain⟨its,rv,p1,lt1⟩:=I1.sq hq1
 obtain⟨its2,rv2,p2,lt2⟩:=I1.sq hq2
 refine zad p1 p2 λh2 hz hTI hTO hi1 hi2 hk=>wpAny_pyIter_zip hz ?_
 have hn:∀ b,s1.heap.objs.size<=b->zaT X pins H1 b:=λb hb=>I1.fpOk hb (I1.hok.fresh hb)
 have ap:zf7 (s1.heap.objs.size+4) (s1.heap.objs.size+2) (s1.heap.objs.size+3) s1.heap.objs.size (s1.heap.objs.size+1) [s1.heap.objs.size,l1] [s1.heap.objs.size+1,l2]:=by
  have q1:l1≠s1.heap.objs.size:=j9 lt1
  have q2:∀ j:Nat,s1.heap.objs.size+j≠l1:=λj e=>u0J _ (r8 (by rw[<-e]at lt1;exact lt1) (u0C _ _))
  have q3:∀ j:Nat,s1.heap.objs.size+j≠l2:=λj e=>u0J _ (r8 (by rw[<-e]at lt2;exact lt2) (u0C _ _))
  have ne:∀ i j:Nat,i≠j->s1.heap.objs.size+i≠s1.heap.objs.size+j:=λi j h e=>h (Nat.add_left_cancel e)
  have n0:∀ i:Nat,i≠0->s1.heap.objs.size+i≠s1.heap.objs.size:=λi h e=>h (Nat.add_left_cancel (n:=s1.heap.objs.size) (m:=i) (k:=0) e)
  refine⟨?_,?_,?_,?_,?_,?_,?_⟩
  .simp only[u0z,j5,u0i,u15,u4p,u2P,u1G,and_true]
   exact⟨⟨ne 4 2 (by decide),ne 4 3 (by decide),n0 4 (by decide),ne 4 1 (by decide)⟩,⟨ne 2 3 (by decide),n0 2 (by decide),ne 2 1 (by decide)⟩,⟨n0 3 (by decide),ne 3 1 (by decide)⟩,u0M (n0 1 (by decide))⟩
  .simp only[j5,u0i,u15,u4p];exact⟨n0 4 (by decide),q2 4⟩
  .simp only[j5,u0i,u15,u4p];exact⟨ne 4 1 (by decide),q3 4⟩
  .simp only[j5,u0i,u15,u4p];exact⟨n0 3 (by decide),q2 3⟩
  .simp only[j5,u0i,u15,u4p];exact⟨ne 3 1 (by decide),q3 3⟩
  .simp only[j5,u0i,u15,u4p];exact⟨u0M (n0 1 (by decide)),q3 0⟩
  .simp only[j5,u0i,u15,u4p];exact⟨n0 1 (by decide),q2 1⟩
 refine⟨_,_,_,_,H1,rfl,I1.kept (t':=s1.toks) hk,zhv b1 b2 l1 l2 _ _ _ _ _ ap (j9 lt1) (j9 (u01 lt2)),⟨hz,hTI,⟨_,_,hTO⟩,hi1,hi2⟩,λb hb=>?_,q⟩
 simp only[j5,u0i,u15]at hb
 rcases hb with rfl | rfl | rfl | rfl | rfl
 .exact hn _ (u0C _ _)
 .exact hn _ (u0C _ _)
 .exact hn _ (u0C _ _)
 .exact hn _ (t5 _)
 .exact hn _ (u0C _ _)
end L2
namespace OwnSort
open PySem PyProof.Rows
section pure
variable {κ:KeyKind}{xs:Array Keyed}
theorem up1 {x:Nat}(hs:SortedToK κ xs x)(hx:1<=x)(h:κ.kle (KK κ xs (x - 1)) (KK κ xs x)):SortedToK κ xs (x+1):=λi j hij hj=>by
 by_cases c:j < x
 .exact hs i j hij c
 .obtain rfl:j=x:=by omega
  by_cases d:i=j
  .rw[d];exact u1w _
  .exact u20 (hs i (j - 1) (by omega) (by omega)) h
theorem zg3 {x:Nat}(hs:NonIncK κ xs x)(hx:1<=x)(h:κ.kle (KK κ xs x) (KK κ xs (x - 1))):NonIncK κ xs (x+1):=λi j hij hj=>by
 by_cases c:j < x
 .exact hs i j hij c
 .obtain rfl:j=x:=by omega
  by_cases d:i=j
  .rw[d];exact u1w _
  .exact u20 h (hs i (j - 1) (by omega) (by omega))
theorem X4 {ys:Array Keyed}{n:Nat}(e:∀ i,KK κ ys i=KK κ xs i)(h:NonIncK κ xs n):NonIncK κ ys n:=λi j hij hj=>by rw[e,e];exact h i j hij hj
theorem turned {n:Nat}(hn:n<=xs.size)(h:NonIncK κ xs n):SortedToK κ (mirror xs 0 n ((n - 0) / 2)) n:=λi j hij hj=>by
 rw[KK_mirror hn,KK_mirror hn,t7 ⟨by omega,by omega⟩,t7 ⟨by omega,by omega⟩]
 exact h _ _ (by omega) (by omega)
theorem zc7:SortedToK κ xs 1:=λi j hij hj=>by
 obtain rfl:i=j:=by omega
 exact u1w _
theorem zcF:NonIncK κ xs 1:=λi j hij hj=>by
 obtain rfl:i=j:=by omega
 exact u1w _
end pure
structure SB (k:SortKind) (a₀:Array Keyed) (st:SortSt):Prop where
 pm:(arrOf st).Perm a₀
 kd:kindOf st=k
 fl:failedOf st=none
 pd:pendingOf st=#[]
theorem SB.sz {k:SortKind}{a₀:Array Keyed}{st:SortSt}(B:SB k a₀ st):(arrOf st).size=a₀.size:=B.pm.size_eq
theorem SB.put {k:SortKind}{a₀ xs:Array Keyed}{st:SortSt}(B:SB k a₀ st)(p:xs.Perm (arrOf st)):SB k a₀ (setArr st xs):=⟨p.trans B.pm,B.kd,B.fl,B.pd⟩
section
variable {prog:Program}{w:World}{A:Around}{E:Value->Shared->Prop}{s:Shared}{a₀:Array Keyed}{κ:KeyKind}{k:SortKind}{st:SortSt}
def LtOk (prog:Program)(w:World)(A:Around)(E:Value->Shared->Prop)(s:Shared)(a₀:Array Keyed)(κ:KeyKind)(k:SortKind):Prop :=
 ∀ (st:SortSt) (i j:Nat) (Q:Option Bool->SortSt->Prop),SB k a₀ st->i < a₀.size->j < a₀.size->Q (some (κ.blt (KK κ (arrOf st) i) (KK κ (arrOf st) j))) st->wpS (model prog w) A E s (ltAt' i j) Q st
theorem zfx {a n:Nat}{Q:AscSt->SortSt->Prop}(L:LtOk prog w A E s a₀ κ k)(hn:n<=a₀.size)(ha:1<=a)(han:a<=n)(B:SB k a₀ st)(hs:SortedToK κ (arrOf st) a)
 (h:∀ m,a<=m->m<=n->SortedToK κ (arrOf st) m->(m=n\/κ.klt (KK κ (arrOf st) m) (KK κ (arrOf st) (m - 1)))->Q (none,m) st):wpS (model prog w) A E s (ascLoop a n) Q st:=by
 unfold ascLoop
 refine u2Z (I:=λx c t=>(t=st/\c=(none,x))/\SortedToK κ (arrOf st) x) (λx c t h1 h2 hI=>?_) (λc t hI=>?_) ⟨⟨rfl,rfl⟩,hs⟩
 .obtain⟨⟨rfl,rfl⟩,hx⟩:=hI
  refine u0L (L _ x (x - 1) _ B (by omega) (by omega) ?_)
  cases c:κ.blt (KK κ (arrOf t) x) (KK κ (arrOf t) (x - 1)) with
  | true=>exact u1n (h x h1 (by omega) hx (.inr c))
  | false=>exact u1n ⟨⟨rfl,rfl⟩,up1 hx (by omega) c⟩
 .obtain⟨⟨rfl,rfl⟩,hx⟩:=hI
  have e:max a n=n:=by omega
  rw[e]at hx ⊢
  exact h n han (t5 _) hx (.inl rfl)
theorem zca {n m:Nat}{Q:Option Nat->SortSt->Prop}(L:LtOk prog w A E s a₀ κ k)(hm:m<=a₀.size)(h1:1<=n)(hnm:n<=m)(B:SB k a₀ st)(hs:NonIncK κ (arrOf st) n)
 (h:∀ r t,SB k a₀ t->1<=r->r<=m->SortedToK κ (arrOf t) r->Q (some r) t):wpS (model prog w) A E s (tail3 n m) Q st:=by
 unfold tail3
 have B':=B.put (mirror_perm (arrOf st) 0 n ((n - 0) / 2))
 exact u0L (wpS_reverse (u0L (zfx L hm h1 hnm B' (turned (by rw[B.sz];omega) hs) λr g1 g2 g3 _=>u1n (h r _ B' (by omega) g2 g3))))
theorem zgY {n m:Nat}{Q:DescSt->SortSt->Prop}(L:LtOk prog w A E s a₀ κ k)(hm:m<=a₀.size)(h1:1<=n)(hnm:n<=m)(B:SB k a₀ st)(hs:NonIncK κ (arrOf st) n)
 (h:∀ r q t,SB k a₀ t->n<=r->r<=m->NonIncK κ (arrOf t) r->q+1<=r->(∀ i,r - (q+1)<=i->i < r->KK κ (arrOf t) i=KK κ (arrOf t) (r - 1))->Q (none,r,q) t):wpS (model prog w) A E s (descLoop n m) Q st:=by
 unfold descLoop
 refine u2Z (I:=λx c t=>∃ q,c=(none,x,q)/\SB k a₀ t/\NonIncK κ (arrOf t) x/\q+1<=x/\∀ i,x - (q+1)<=i->i < x->KK κ (arrOf t) i=KK κ (arrOf t) (x - 1))
  (λx c t g1 g2 hI=>?_) (λc t hI=>?_) ⟨0,rfl,B,hs,h1,λi c1 c2=>by rw[show i=n - 1 from u3m (u2i c2) c1]⟩
 .obtain⟨q,rfl,B1,ni,hq,he⟩:=hI
  have hxs:x < a₀.size:=r8 g2 hm
  have hxs1:x - 1 < a₀.size:=u0d (Nat.sub_le _ _) hxs
  have hx1:1<=x:=b9 h1 g1
  have hz:x<=(arrOf t).size:=by rw[B1.sz];exact u0R hxs
  refine u0L (L _ x (x - 1) _ B1 hxs hxs1 ?_)
  cases c:κ.blt (KK κ (arrOf t) x) (KK κ (arrOf t) (x - 1)) with
  | true =>
   have d:=zg3 ni hx1 (u2K c)
   by_cases hq0:q > 0
   .show wpS _ _ _ _ (if q > 0 then _ else _) _ _
    rw[t7 hq0]
    exact u0L (wpS_reverse (u1n ⟨0,rfl,B1.put (mirror_perm _ _ _ _),X4 (KK_mirror_equal hz he) d,u2r (u0D _),λi c1 c2=>by rw[show i=x+1 - 1 from u3m (u00 c2) c1]⟩))
   .show wpS _ _ _ _ (if q > 0 then _ else _) _ _
    rw[j7 hq0]
    exact u1n ⟨0,rfl,B1,d,u2r (u0D _),λi c1 c2=>by rw[show i=x+1 - 1 from u3m (u00 c2) c1]⟩
  | false =>
   refine u0L (L _ (x - 1) x _ B1 hxs1 hxs ?_)
   cases c2:κ.blt (KK κ (arrOf t) (x - 1)) (KK κ (arrOf t) x) with
   | true=>exact u1n (h x q t B1 g1 (u0R g2) ni hq he)
   | false =>
    have same:KK κ (arrOf t) x=KK κ (arrOf t) (x - 1):=KeyOrd.kle_antisymm c2 c
    refine u1n ⟨q+1,rfl,B1,zg3 ni hx1 c2,u2r hq,λi d1 d2=>?_⟩
    show KK κ (arrOf t) i=KK κ (arrOf t) x
    by_cases di:i=x
    .rw[di]
    .rw[same];exact he i (by omega) (by omega)
 .obtain⟨q,rfl,B1,ni,hq,he⟩:=hI
  have e:max n m=m:=Nat.max_eq_right hnm
  rw[e]at ni hq he ⊢
  exact h m q t B1 hnm (t5 _) ni hq he
theorem Xb {n m:Nat}{Q:Option Nat->SortSt->Prop}(L:LtOk prog w A E s a₀ κ k)(hm:m<=a₀.size)(hnm:n+1<=m)(B:SB k a₀ st)(hs:NonIncK κ (arrOf st) (n+1))
 (h:∀ r t,SB k a₀ t->1<=r->r<=m->SortedToK κ (arrOf t) r->Q (some r) t):wpS (model prog w) A E s (descPart n m) Q st:=by
 unfold descPart
 refine u0L (wpS_lift (u1P ⟨rfl,u0L (zgY L hm (by omega) hnm B hs λr q t B1 r1 r2 ni hq he=>?_)⟩))
 have hz:r<=(arrOf t).size:=by rw[B1.sz];omega
 by_cases hq0:q > 0
 .show wpS _ _ _ _ (if q > 0 then _ else _) _ _
  rw[t7 hq0]
  exact u0L (wpS_reverse (zca (n:=r) L hm (by omega) r2 (B1.put (mirror_perm _ _ _ _)) (X4 (KK_mirror_equal hz he) ni) h))
 .show wpS _ _ _ _ (if q > 0 then _ else _) _ _
  rw[j7 hq0]
  exact zca (n:=r) L hm (by omega) r2 B1 ni h
theorem ziq {m:Nat}{Q:Option Nat->SortSt->Prop}(L:LtOk prog w A E s a₀ κ k)(hm:m<=a₀.size)(h1:1<=m)(B:SB k a₀ st)
 (h:∀ r t,SB k a₀ t->1<=r->r<=m->SortedToK κ (arrOf t) r->Q (some r) t):wpS (model prog w) A E s (countRun' 0 m) Q st:=by
 rw[countRun0_eq]
 refine u0L (zfx L hm (t5 1) h1 B zc7 λn n1 n2 sn or=>?_)
 show wpS _ _ _ _ (if (n == m)=true then _ else if n > 1 then _ else _) _ _
 by_cases e:n=m
 .rw[t7 (by rw[e];exact u0o m)]
  exact u1n (h n st B n1 n2 sn)
 .rw[j7 (λz=>e (eq_of_beq z))]
  have lt:=or.resolve_left e
  by_cases g:n > 1
  .rw[t7 g]
   refine u0L (L _ 0 (n - 1) _ B (by omega) (by omega) ?_)
   cases c:κ.blt (KK κ (arrOf st) 0) (KK κ (arrOf st) (n - 1)) with
   | true=>exact u1n (h n st B n1 n2 sn)
   | false =>
    have hz:n<=(arrOf st).size:=by rw[B.sz];omega
    have eq:∀ i,0<=i->i < n->KK κ (arrOf st) i=KK κ (arrOf st) (n - 1):=λi _ hi =>
     KeyOrd.kle_antisymm (sn i (n - 1) (by omega) (by omega)) (u20 c (sn 0 i (by omega) hi))
    have ni:NonIncK κ (arrOf st) n:=λi j _ hj=>by rw[eq i (by omega) (by omega),eq j (by omega) hj];exact u1w _
    exact u0L (wpS_reverse (Xb L hm (by omega) (B.put (mirror_perm _ _ _ _)) (X4 (KK_mirror_equal hz eq) (zg3 ni (by omega) (u2K lt))) h))
  .rw[j7 g]
   obtain rfl:n=1:=by omega
   exact Xb L hm (by omega) B (zg3 zcF (t5 1) (u2K lt)) h
theorem zj5 {l u md:Nat}(h:(l+u) / 2=md)(c:¬ l >= u):l<=md/\md < u:=by
 have c':l < u:=Nat.lt_of_not_le c
 rw[<-h]
 exact⟨(Nat.le_div_iff_mul_le (by decide)).mpr (by rw[Nat.mul_two];exact u1W (u0R c') l),(Nat.div_lt_iff_lt_mul (by decide)).mpr (by rw[Nat.mul_two];exact Nat.add_lt_add_right c' u)⟩
theorem zmr {l u md x y:Nat}(m1:l<=md)(m2:md < u)(e3:u - l<=x - y):md - l<=x - (y+1) :=
 b9 (u2i (Nat.sub_lt_sub_right m1 m2)) (u23 e3 1)
theorem zmK {l u md x y:Nat}(m1:l<=md)(e3:u - l<=x - y):u - (md+1)<=x - (y+1) :=
 b9 (Nat.sub_le_sub_left (u2r m1) u) (u23 e3 1)
theorem zko (r n:Nat):min (max (max r 1) n) n=n:=u3Z (Nat.le_max_right _ _)
theorem zkr {r n:Nat}(r0:¬ r=0)(hr:r<=n):min (max r 1) n=r:=by
 rw[Nat.max_eq_left (Nat.pos_of_ne_zero r0),u1y hr]
theorem zki {i j r n:Nat}(hr:r=0)(hij:i<=j)(hj:j < min (max r 1) n):i=j:=by
 subst hr
 have h0:j=0:=Nat.lt_one_iff.mp (r8 hj (Nat.min_le_left _ _))
 subst h0
 exact Nat.le_zero.mp hij
theorem zim {n r:Nat}{Q:Bool->SortSt->Prop}(L:LtOk prog w A E s a₀ κ k)(hn:n<=a₀.size)(hr:r<=n)(B:SB k a₀ st)(hs:SortedToK κ (arrOf st) r)
 (h:∀ t,SB k a₀ t->SortedToK κ (arrOf t) n->Q true t):wpS (model prog w) A E s (binarySort' 0 n r) Q st:=by
 rw[binarySort'_eq]
 refine u0L (wpS_mono (u2Z (I:=λx c t=>(c=(none,())/\SB k a₀ t)/\SortedToK κ (arrOf t) (min x n)) (Q:=λc t=>(c=(none,())/\SB k a₀ t)/\SortedToK κ (arrOf t) n)
  (λx c t g1 g2 hI=>?_) (λc t hI=>?_) ⟨⟨rfl,B⟩,?_⟩) λc t hI=>?_)
 .obtain⟨⟨rfl,B1⟩,sx⟩:=hI
  rw[u1y (u0R g2)]at sx
  have hx:x < a₀.size:=r8 g2 hn
  refine u0L (wpS_mono (u2Z
   (I:=λy c t'=>t'=t/\∃ l u,c=(none,l,u)/\(l<=u/\u<=x/\u - l<=x - y)/\(∀ i,i < l->κ.kle (KK κ (arrOf t) i) (KK κ (arrOf t) x))/\∀ i,u<=i->i < x->κ.klt (KK κ (arrOf t) x) (KK κ (arrOf t) i))
   (Q:=λc t'=>t'=t/\∃ l u,c=(none,l,u)/\l<=x/\(∀ i,i < l->κ.kle (KK κ (arrOf t) i) (KK κ (arrOf t) x))/\∀ i,l<=i->i < x->κ.klt (KK κ (arrOf t) x) (KK κ (arrOf t) i))
   (λy c t' y1 y2 hJ=>?_) (λc t' hJ=>?_) ⟨rfl,0,x,rfl,⟨u0D _,t5 _,t5 _⟩,λi hi=>absurd hi (u4i _),λi i1 i2=>absurd (u0d i1 i2) (u0J _)⟩) λc t' hJ=>?_)
  .obtain⟨rfl,l,u,rfl,⟨e1,e2,e3⟩,lo,up⟩:=hJ
   show wpS _ _ _ _ (if l >= u then _ else _) _ _
   by_cases c1:l >= u
   .rw[t7 c1]
    obtain rfl:l=u:=u3m e1 c1
    exact u1n ⟨rfl,l,l,rfl,e2,lo,up⟩
   .rw[j7 c1]
    generalize hmd:(l+u) / 2=md
    obtain⟨m1,m2⟩:=zj5 hmd c1
    clear hmd c1 e1
    refine u0L (L _ (0+x) (0+md) _ B1 (by rw[u0u];exact hx) (by rw[u0u];exact r8 m2 (b9 e2 (u0R hx))) ?_)
    rw[u0u,u0u]
    cases c2:κ.blt (KK κ (arrOf t') x) (KK κ (arrOf t') md) with
    | true=>exact u1n ⟨rfl,l,md,rfl,⟨m1,b9 (u0R m2) e2,zmr m1 m2 e3⟩,lo,λi i1 i2=>KeyOrd.klt_of_klt_of_kle c2 (sx _ _ i1 i2)⟩
    | false=>exact u1n ⟨rfl,md+1,u,rfl,⟨m2,e2,zmK m1 e3⟩,λi i1=>u20 (sx i md (u00 i1) (r8 m2 e2)) c2,up⟩
  .obtain⟨rfl,l,u,rfl,⟨e1,e2,e3⟩,lo,up⟩:=hJ
   obtain rfl:l=u:=by omega
   exact⟨rfl,l,l,rfl,e2,lo,up⟩
  .obtain⟨rfl,l,u,rfl,e2,lo,up⟩:=hJ
   show wpS _ _ _ _ (do moveDown' (0+x) (0+l);pure (ForInStep.yield (none,()))) _ _
   rw[moveDown'_eq,u0u,u0u]
   refine u0L (wpS_modify (u1n ⟨⟨rfl,B1.put (bubble_perm _ _ _)⟩,?_⟩))
   have hz:x < (arrOf t').size:=by rw[B1.sz];exact hx
   rw[u1y (Nat.succ_le_of_lt g2)]
   show SortedToK κ (bubble (arrOf t') x (x - l)) (x+1)
   intro i j hij hj
   rw[KK_bubble hz (Nat.sub_le _ _),KK_bubble hz (Nat.sub_le _ _),Nat.sub_sub_self e2]
   by_cases i1:i=l
   .rw[t7 i1]
    by_cases j1:j=l
    .rw[t7 j1];exact u1w _
    .have lj:l < j:=u2C (by rw[<-i1];exact hij) (λe=>j1 e.symm)
     rw[j7 j1,t7 ⟨lj,u00 hj⟩];exact u2K (up _ (u2i lj) (r8 (Nat.sub_lt (u3L lj) Nat.one_pos) (u00 hj)))
   .rw[j7 i1]
    by_cases i2:l < i/\i<=x
    .have lj:=r8 i2.1 hij
     rw[t7 i2,j7 (λe=>absurd lj (by rw[e];exact u0J _)),t7 ⟨lj,u00 hj⟩];exact sx _ _ (u23 hij 1) (r8 (Nat.sub_lt (u3L lj) Nat.one_pos) (u00 hj))
    .rw[j7 i2]
     have i3:i < l:=u2C (u0s λh=>i2 ⟨h,b9 hij (u00 hj)⟩) i1
     clear i2 i1
     by_cases j1:j=l
     .rw[t7 j1];exact lo i i3
     .rw[j7 j1]
      by_cases j2:l < j/\j<=x
      .rw[t7 j2];exact sx _ _ (u2i (u4g i3 j2.1)) (r8 (Nat.sub_lt (u3L j2.1) Nat.one_pos) (u00 hj))
      .rw[j7 j2];exact sx _ _ hij (r8 (u2C (u0s λh=>j2 ⟨h,u00 hj⟩) j1) e2)
 .obtain⟨⟨e1,B1⟩,sx⟩:=hI
  rw[zko]at sx
  exact⟨⟨e1,B1⟩,sx⟩
 .by_cases r0:r=0
  .intro i j hij hj
   obtain rfl:i=j:=zki r0 hij hj
   exact u1w _
  .rw[zkr r0 hr];exact hs
 .obtain⟨⟨rfl,B1⟩,sx⟩:=hI
  exact u1n (h t B1 sx)
theorem own_runs {Q:Unit->SortSt->Prop}(L:LtOk prog w A E s a₀ κ k)(B:SB k a₀ st)(h2:2<=a₀.size)(h64:a₀.size < 64)
 (h:∀ t,(arrOf t).Perm a₀->failedOf t=none->SortedToK κ (arrOf t) a₀.size->Q () t):wpS (model prog w) A E s sortRuns' Q st:=by
 rw[sortRuns'_eq]
 have mr:minRun' a₀.size a₀.size 0=a₀.size:=by
  cases e:a₀.size with
  | zero=>omega
  | succ f=>rw[minRun'_succ,t7 (by omega),Nat.add_zero]
 refine u0L (wpS_get ?_)
 simp only[B.sz,mr]
 let Dn:SortSt->Prop:=λt=>(arrOf t).Perm a₀/\failedOf t=none/\pendingOf t=#[(0,a₀.size,0)]/\SortedToK κ (arrOf t) a₀.size
 have fin:∀ t,SB k a₀ t->SortedToK κ (arrOf t) a₀.size->Dn (setPending t ((pendingOf t).push (0,a₀.size,0))):=λt B1 sx=>⟨B1.pm,B1.fl,by show(pendingOf t).push _=_;rw[B1.pd];rfl,sx⟩
 refine u0L (wpS_mono (u2Z (I:=λx c t=>(x=0/\c=(none,0)/\SB k a₀ t)\/(1<=x/\c=(none,a₀.size)/\Dn t)) (Q:=λc t=>c=(none,a₀.size)/\Dn t)
  (λx c t g1 g2 hI=>?_) (λc t hI=>?_) (.inl ⟨rfl,rfl,B⟩)) λc t hI=>?_)
 .rcases hI with ⟨rfl,rfl,B1⟩ | ⟨_,rfl,D1⟩
  .show wpS _ _ _ _ (if 0 >= a₀.size then _ else _) _ _
   rw[j7 (by omega)]
   simp only[Nat.sub_zero,u4h,u0u]
   refine u0L (ziq L (t5 _) (by omega) B1 λr t2 B2 r1 r2 s2=>?_)
   show wpS _ _ _ _ (if r < a₀.size then _ else _) _ _
   by_cases c1:r < a₀.size
   .rw[t7 c1]
    refine u0L (wpS_lift (u1P ⟨rfl,u0L (zim L (t5 _) r2 B2 s2 λt3 B3 s3=>?_)⟩))
    refine u0L (wpS_get ?_)
    rw[show(pendingOf t3).back?=none by rw[B3.pd];rfl]
    exact u0L (wpS_modify (u1n (.inr ⟨by omega,rfl,fin t3 B3 s3⟩)))
   .rw[j7 c1]
    obtain rfl:r=a₀.size:=by omega
    refine u0L (wpS_get ?_)
    rw[show(pendingOf t2).back?=none by rw[B2.pd];rfl]
    exact u0L (wpS_modify (u1n (.inr ⟨by omega,rfl,fin t2 B2 s2⟩)))
  .show wpS _ _ _ _ (if a₀.size >= a₀.size then _ else _) _ _
   rw[t7 (t5 _)]
   exact u1n ⟨rfl,D1⟩
 .rcases hI with ⟨z,_,_⟩ | ⟨_,e,D1⟩
  .omega
  .exact⟨e,D1⟩
 .obtain⟨rfl,d1,d2,d3,d4⟩:=hI
  refine u0L (wpS_mono (u2Z (I:=λ_ c t'=>t'=t/\c=(none,())) (Q:=λc t'=>t'=t/\c=(none,())) (λx c t' _ _ hI=>?_) (λ_ _ z=>z) ⟨rfl,rfl⟩) λc t' hI=>?_)
  .obtain⟨rfl,rfl⟩:=hI
   refine u0L (wpS_get ?_)
   rw[t7 (by rw[d3];exact t5 1)]
   exact u1n ⟨rfl,rfl⟩
  .obtain⟨rfl,rfl⟩:=hI
   exact u1n (h _ d1 d2 d4)
end
abbrev Pr:=Int × Int
def bltP (s t:Pr):Bool:=decide (s.1 < t.1\/(s.1=t.1/\s.2 < t.2))
def TP (h:Heap) (v:Value) (t:Pr):Prop:=∃ a o n tx ty,v=.ref a/\h.get? a=some o/\o.cls=.type "tuple"/\o.data=.seq #[.int t.1 tx,.int t.2 ty] n
theorem TP.uniq {h:Heap}{v:Value}{s t:Pr}(x:TP h v s)(y:TP h v t):s=t:=by
 obtain⟨a,o,n,tx,ty,rfl,e1,_,d1⟩:=x
 obtain⟨b,o2,n2,ux,uy,e,e2,_,d2⟩:=y
 cases e
 rw[e1]at e2
 cases e2
 rw[d1]at d2
 injection d2 with d2 _
 have:=u1d Array.toList d2
 simp at this
 exact u2E this.1.1 this.2.1
theorem TP.keep {h h':Heap}{v:Value}{t:Pr}(x:TP h v t)(k:∀ b o,h.get? b=some o->h'.get? b=some o):TP h' v t:=by
 obtain⟨a,o,n,tx,ty,e,e1,r⟩:=x
 exact⟨a,o,n,tx,ty,e,k _ _ e1,r⟩
open Classical in
noncomputable def keyP (h:Heap)(v:Value):Option Pr:=if x:∃ t,TP h v t then some x.choose else none
theorem keyP_of {h:Heap}{v:Value}{t:Pr}(x:TP h v t):keyP h v=some t:=by
 unfold keyP
 have y:∃ t,TP h v t:=⟨t,x⟩
 rw[dif_pos y,y.choose_spec.uniq x]
@[reducible] noncomputable def kindP (h:Heap):KeyKind where
 α:=Pr
 blt:=bltP
 irrefl a:=by unfold bltP;exact p6 (by omega)
 trans a b c h1 h2:=by unfold bltP at *;rw[d5]at *;omega
 negTrans a b c h:=by unfold bltP at *;rw[d5]at *;rw[d5];omega
 total a b h1 h2:=by
  unfold bltP at *
  rw[u0K]at *
  exact u2E (by omega) (by omega)
 keyOf:=keyP h
 dflt:=(0,0)
theorem zfO (b:Bool)(x y:Value):keyLt' (tuples' b) x y=(do
 let xs<-Builtin.List.listItems x
 let ys<-Builtin.List.listItems y
 for ((p,q),i)in (xs.toList.zip ys.toList).zipIdx do
  if !(<- eqBool p q)then return<-oneLt' (b&&i == 0) p q
 return xs.size < ys.size):=rfl
theorem zek (v:Value):firstOfTuple' v=(do
 if (<- typeOf v) != .type "tuple" then return none
 return (<- Builtin.List.listItems v)[0]?):=rfl
section
variable {prog:Program}{w:World}{A:Around}{E:Value->Shared->Prop}{s:Shared}
theorem lt0 {a b:Int}{t u:Tok}{Q:Bool->Shared->Prop}(h:Q (decide (a < b)) s):wpAny (model prog w) A (oneLt' false (.int a t) (.int b u)) Q E s:=by
 rw[oneLt'_eq]
 rw[j7 u8]
 exact u0 (PyProof.Rows.lt_int (u1c h))
theorem zcm:∀ {fs:List Value},(∀ f∈fs,∃ i t,f=.int i t)->fs.mapM typeOf=pure (fs.map λ_=>Value.type "int")
 | [],_=>by simp
 | f::fs,h=>by
  obtain⟨i,t,rfl⟩:=h f o0
  rw[List.mapM_cons,zcm λg hg=>h g (d9 _ hg),show typeOf (.int i t)=pure (.type "int")from rfl]
  simp
end
end OwnSort
namespace OwnTim
open PySem PyProof.Rows
def ky (κ:KeyKind)(x:Keyed):κ.α:=(κ.keyOf x.1).getD κ.dflt
def LtE (prog:Program)(w:World)(A:Around)(E:Value->Shared->Prop)(s:Shared)(κ:KeyKind)(k:SortKind)(D:Keyed->Prop):Prop :=
 ∀ (st:SortSt) (x y:Keyed) (Q:Option Bool->SortSt->Prop),kindOf st=k->D x->D y->Q (some (κ.blt (ky κ x) (ky κ y))) st->wpS (model prog w) A E s (lt' x y) Q st
section
variable {prog:Program}{w:World}{A:Around}{E:Value->Shared->Prop}{s:Shared}{a₀:Array Keyed}{κ:KeyKind}{k:SortKind}{st:SortSt}
theorem zlX {xs:Array Keyed}{i:Nat}{x:Keyed}(h:xs[i]?=some x):KK κ xs i=ky κ x:=by
 unfold KK
 rw[h]
 rfl
theorem zi8 (L:LtE prog w A E s κ k (·∈a₀.toList)):OwnSort.LtOk prog w A E s a₀ κ k:=by
 intro st i j Q S hi hj q
 have look:∀ {i},i < a₀.size->∃ x,(arrOf st)[i]?=some x/\x∈a₀.toList:=λ{i} hi=>by
  have hi':i < (arrOf st).size:=by rw[S.sz];exact hi
  exact⟨(arrOf st)[i],getElem?_pos _ i hi',(u3p.mp S.pm).mem_iff.mp (by simp)⟩
 obtain⟨x,e1,m1⟩:=look hi
 obtain⟨y,e2,m2⟩:=look hj
 rw[zlX e1,zlX e2]at q
 rw[ltAt'_eq]
 refine u0L (wpS_get ?_)
 show wpS _ _ _ _ (elem' (arrOf st) i>>=λx=>elem' (arrOf st) j>>=λy=>lt' x y) Q st
 rw[elem'_eq,elem'_eq,e1,e2]
 exact u0L (u1n (u0L (u1n (L _ _ _ _ S.kd m1 m2 q))))
theorem own_runsE {Q:Unit->SortSt->Prop}(L:LtE prog w A E s κ k (·∈a₀.toList))(pm:(arrOf st).Perm a₀)(kd:kindOf st=k)(fl:failedOf st=none)(pd:pendingOf st=#[])
 (h:∀ t,(arrOf t).Perm a₀->failedOf t=none->SortedToK κ (arrOf t) a₀.size->Q () t) (h2:2<=a₀.size) (h64:a₀.size < 64):wpS (model prog w) A E s sortRuns' Q st:=OwnSort.own_runs (zi8 L) ⟨pm,kd,fl,pd⟩ h2 h64 h
end
end OwnTim
namespace OwnSortT
open PySem PyProof.Rows OwnSort
theorem lex_irr:∀ a:List Int,HT.lexLt a a=false:=by
 intro a
 induction a with
 | nil=>rfl
 | cons x xs ih=>rw[HT.lexLt_cons,t7 rfl,ih]
theorem lex_trans:∀ a b c:List Int,HT.lexLt a b=true->HT.lexLt b c=true->HT.lexLt a c=true:=by
 intro a
 induction a with
 | nil =>
  intro b c h1 h2
  cases c with
  | nil=>cases b <;> cases h2
  | cons _ _=>rfl
 | cons x xs ih =>
  intro b c h1 h2
  cases b with
  | nil=>cases h1
  | cons y ys=>cases c with
   | nil=>cases h2
   | cons z zs =>
    rw[HT.lexLt_cons]at h1 h2 ⊢
    by_cases e1:x=y
    .rw[t7 e1]at h1
     by_cases e2:y=z
     .rw[t7 e2]at h2;rw[t7 (e1.trans e2)];exact ih _ _ h1 h2
     .rw[j7 e2,d5]at h2;rw[j7 (by omega),d5];omega
    .rw[j7 e1,d5]at h1
     by_cases e2:y=z
     .rw[j7 (by omega),d5];omega
     .rw[j7 e2,d5]at h2;rw[j7 (by omega),d5];omega
theorem lex_total:∀ a b:List Int,HT.lexLt a b=false->HT.lexLt b a=false->a=b:=by
 intro a
 induction a with
 | nil =>
  intro b h1 h2
  cases b with
  | nil=>rfl
  | cons _ _=>cases h1
 | cons x xs ih =>
  intro b h1 h2
  cases b with
  | nil=>cases h2
  | cons y ys =>
   rw[HT.lexLt_cons]at h1 h2
   by_cases e:x=y
   .rw[t7 e]at h1;rw[t7 e.symm]at h2;rw[e,ih _ h1 h2]
   .rw[j7 e,u0K]at h1;rw[j7 (u0M e),u0K]at h2;omega
theorem lex_neg (a b c:List Int)(h:HT.lexLt a c=true):HT.lexLt a b=true\/HT.lexLt b c=true:=by
 cases h1:HT.lexLt a b with
 | true=>exact .inl rfl
 | false =>
  refine .inr ?_
  cases h2:HT.lexLt b a with
  | true=>exact lex_trans _ _ _ h2 h
  | false=>rw[<-lex_total _ _ h1 h2];exact h
def TT (h:Heap) (v:Value) (t:List Int):Prop:=∃ a o n its,v=.ref a/\h.get? a=some o/\o.cls=.type "tuple"/\o.data=.seq its.toArray n/\IntsAre its t/\t≠[]
theorem ze7:∀ {vs:List Value} {ns ms:List Int},IntsAre vs ns->IntsAre vs ms->ns=ms:=by
 intro vs ns ms h
 induction h generalizing ms with
 | nil=>intro h2;cases h2;rfl
 | cons n t h ih=>intro h2;cases h2 with | cons n' t' h'=>rw[ih h']
theorem TT.uniq {h:Heap}{v:Value}{s t:List Int}(x:TT h v s)(y:TT h v t):s=t:=by
 obtain⟨a,o,n,its,rfl,e1,_,d1,i1,_⟩:=x
 obtain⟨b,p,m,its',e,e2,_,d2,i2,_⟩:=y
 cases e
 rw[e1]at e2
 cases e2
 rw[d1]at d2
 have e3:its.toArray=its'.toArray:=by injection d2
 cases List.toArray_inj e3
 exact ze7 i1 i2
theorem TT.keep {h h':Heap}{v:Value}{t:List Int}(x:TT h v t)(k:∀ b o,h.get? b=some o->h'.get? b=some o):TT h' v t:=by
 obtain⟨a,o,n,its,e,e1,r⟩:=x
 exact⟨a,o,n,its,e,k _ _ e1,r⟩
theorem TT.keepT {h h':Heap} {v:Value} {t:List Int} (x:TT h v t) (k:∀ b o,o.cls=.type "tuple"->h.get? b=some o->h'.get? b=some o):TT h' v t:=by
 obtain⟨a,o,n,its,e,e1,c,r⟩:=x
 exact⟨a,o,n,its,e,k _ _ c e1,c,r⟩
open Classical in
noncomputable def keyTT (h:Heap)(v:Value):Option (List Int):=if x:∃ t,TT h v t then some x.choose else none
theorem keyTT_of {h:Heap}{v:Value}{t:List Int}(x:TT h v t):keyTT h v=some t:=by
 unfold keyTT
 have y:∃ t,TT h v t:=⟨t,x⟩
 rw[dif_pos y,y.choose_spec.uniq x]
@[reducible] noncomputable def zcB (h:Heap):KeyKind where
 α:=List Int
 blt:=HT.lexLt
 irrefl:=lex_irr
 trans:=lex_trans
 negTrans:=lex_neg
 total:=lex_total
 keyOf:=keyTT h
 dflt:=[]
section
variable {prog:Program}{w:World}{A:Around}{E:Value->Shared->Prop}{s:Shared}
def zjQ (d:Bool):List Int->List Int->Bool
 | x::xs,y::ys=>if x=y then zjQ d xs ys else decide (x < y)
 | _,_=>d
theorem ziu:∀ a b:List Int,zjQ (decide (a.length < b.length)) a b=HT.lexLt a b:=by
 intro a
 induction a with
 | nil=>intro b;cases b with
  | nil=>rfl
  | cons _ _=>rfl
 | cons x xs ih=>intro b;cases b with
  | nil=>rfl
  | cons y ys =>
   rw[HT.lexLt_cons,<- ih ys]
   show(if x=y then zjQ (decide (xs.length+1 < ys.length+1)) xs ys else decide (x < y))=_
   rw[show decide (xs.length+1 < ys.length+1)=decide (xs.length < ys.length) by congr 1;apply propext;omega]
def zdN (x:(Value × Value) × Nat)(_:Option Bool × Unit):Sem (ForInStep (Option Bool × Unit)):=do
 let b<-eqBool x.1.1 x.1.2
 if (!b)=true then do
  let c<-oneLt' (true&&x.2 == 0) x.1.1 x.1.2
  pure (ForInStep.done (some c,()))
 else pure (ForInStep.yield (none,()))
theorem zhp {d:Bool}:∀ {xs:List Value} {ns:List Int} {ys:List Value} {ms:List Int} {k:Nat} {Q:Option Bool × Unit->Shared->Prop},IntsAre xs ns->IntsAre ys ms->(∀ r:Option Bool × Unit,r.1.getD d=zjQ d ns ms->Q r s) ->
 wpAny (model prog w) A (forIn ((xs.zip ys).zipIdx k) ((none,()):Option Bool × Unit) zdN) Q E s:=by
 intro xs ns ys ms k Q h1
 induction h1 generalizing ys ms k with
 | nil=>intro h2 q;exact u5 (q (none,()) rfl)
 | cons x t h1 ih =>
  intro h2 q
  cases h2 with
  | nil=>exact u5 (q (none,()) rfl)
  | cons y u h2 =>
   rw[u3u,u3Y,u3j]
   refine u0 (u0 (u3v x t y u prog w E _ ?_))
   by_cases c:x=y
   .rw[show(x == y)=true by rw[c];exact u0o _]
    refine u5 (ih h2 λr hr=>q r (hr.trans ?_))
    show _=(if x=y then zjQ d _ _ else decide (x < y))
    rw[t7 c]
   .rw[show(x == y)=false by simpa using c]
    have q0:Q (some (decide (x < y)),()) s:=q _ (by
     show decide (x < y)=(if x=y then zjQ d _ _ else decide (x < y))
     rw[j7 c])
    cases k with
    | zero=>exact u0 (oneLt_int (u5 (u5 q0)))
    | succ k=>exact u0 (lt0 (u5 (u5 q0)))
theorem zjl {x y:Value}{a b:List Int}{Q:Bool->Shared->Prop}(hx:TT s.heap x a)(hy:TT s.heap y b)(h:Q (HT.lexLt a b) s):wpAny (model prog w) A (keyLt' (tuples' true) x y) Q E s:=by
 obtain⟨p,o,n,xs,rfl,e1,_,d1,i1,_⟩:=hx
 obtain⟨q,o2,n2,ys,rfl,e2,_,d2,i2,_⟩:=hy
 rw[zfO]
 refine u0 (listItems_at e1 d1 (u0 (listItems_at e2 d2 ?_)))
 show wpAny _ _ (forIn ((xs.zip ys).zipIdx 0) ((none,()):Option Bool × Unit) zdN>>=_) _ _ _
 refine u0 (zhp (d:=decide (xs.length < ys.length)) i1 i2 λr hr=>?_)
 have e:Q (r.1.getD (decide (xs.length < ys.length))) s:=by
  rw[hr,i1.length,i2.length,ziu];exact h
 obtain⟨r1,u⟩:=r
 cases r1 with
 | none=>exact u5 e
 | some v=>exact u5 e
theorem zgM {vs:List Value}(hT:∀ v∈vs,∃ t,TT s.heap v t):OwnTim.LtE prog w A E s (zcB s.heap) (tuples' true) (·∈(pairsOf vs).toList):=by
 intro st x y Q hk hx hy h
 have look:∀ {x:Keyed},x∈(pairsOf vs).toList->∃ t,TT s.heap x.1 t/\OwnTim.ky (zcB s.heap) x=t:=λ{x} hm=>by
  rw[pairsOf_toList]at hm
  obtain⟨t,ht⟩:=hT _ (mem_zip_self hm).2
  refine⟨t,ht,?_⟩
  unfold OwnTim.ky
  show(keyTT s.heap x.1).getD _=t
  rw[keyTT_of ht]
  rfl
 obtain⟨a,ta,ka⟩:=look hx
 obtain⟨b,tb,kb⟩:=look hy
 rw[ka,kb]at h
 rw[lt'_eq]
 refine u0L (wpS_get ?_)
 rw[hk]
 exact u0L (wpS_lift (u1r (zjl ta tb ⟨rfl,u1n h⟩)))
theorem W1:∀ {vs:List Value} {Q:List (Option Value)->Shared->Prop},(∀ v∈vs,∃ t,TT s.heap v t)->(∀ fs:List Value,fs.length=vs.length->(∀ f∈fs,∃ i t,f=.int i t)->Q (fs.map some) s)->wpAny (model prog w) A (vs.mapM firstOfTuple') Q E s
 | [],Q,_,h=>by rw[List.mapM_nil];exact u5 (h [] rfl (by simp))
 | v::vs,Q,hT,h=>by
  obtain⟨t,a,o,n,its,rfl,e1,c1,d1,hi,hne⟩:=hT v o0
  obtain⟨z,zs,i0,tk,rfl,rfl⟩:∃ z zs i0 tk,its=z::zs/\z=.int i0 tk:=by
   cases hi with
   | nil=>exact absurd rfl hne
   | cons i0 tk hi=>exact⟨_,_,_,_,rfl,rfl⟩
  rw[List.mapM_cons,zek]
  refine u0 (u0 (u1U (T:="tuple") ⟨o,e1,c1⟩ ?_))
  rw[j7 (by simp)]
  refine u0 (listItems_at e1 d1 (u5 (u0 (W1 (λu hu=>hT u (d9 _ hu)) λfs hl hf=>u5 ?_))))
  exact h (.int i0 tk::fs) (by simp[hl]) λf hf'=>by
   rcases j5.mp hf' with rfl | hf'
   .exact⟨_,_,rfl⟩
   .exact hf f hf'
theorem zd4 {v₁:Value}{vs:List Value}{Q:SortKind->Shared->Prop}(hT:∀ v∈v₁::vs,∃ t,TT s.heap v t)(h:Q (tuples' true) s):wpAny (model prog w) A (keyKind' (v₁::vs).toArray) Q E s:=by
 rw[keyKind'_eq,List.mapM_toArray,<- bind_pure_comp,bind_assoc]
 refine u0 (W1 hT λfs hl hf=>u0 (u5 ?_))
 cases fs with
 | nil=>simp at hl
 | cons f fs =>
  rw[t7 (by simp)]
  have ef:((f::fs).map some).toArray.filterMap id=(f::fs).toArray:=by simp
  refine u0 (u1P ?_)
  rw[ef,oneTypeOnly'_eq,List.mapM_toArray,zcm hf]
  simp only[map_pure,pure_bind]
  rw[show(List.map (λ_=>Value.type "int") (f::fs)).toArray[0]?=some (Value.type "int") by simp]
  have al:((List.map (λ_=>Value.type "int") (f::fs)).toArray.all λx=>x == Value.type "int")=true:=by
   simp only[List.all_toArray,u1R,u0k]
   intro _ _
   rfl
  simp only[al,u21,pure_bind,Option.any_some]
  rw[show(Value.type "int" != Value.type "tuple")=true by decide +kernel]
  exact u5 h
end
def Rise (h:Heap)(out:List Value):Prop:=∃ ts:List (List Int),out.length=ts.length/\(∀ (i:Nat) (v:Value) (t:(List Int)),out[i]?=some v->ts[i]?=some t->TT h v t)/\ts.Pairwise λa b=>HT.lexLt b a=false
theorem zfP {h h':Heap}{vs:List Value}{xs:Array Keyed}(hT:∀ v∈vs,∃ t,TT h v t)(hk:∀ v t,TT h v t->TT h' v t)(pm:xs.Perm (pairsOf vs))(hs:SortedToK (zcB h') xs (pairsOf vs).size):(xs.map (·.2)).toList.Perm vs/\Rise h (xs.map (·.2)).toList:=by
 have hl:xs.toList.Perm (vs.zip vs):=by rw[<-pairsOf_toList];exact u3p.mp pm
 have hm:∀ p∈xs.toList,p.1=p.2/\p.1∈vs:=λp hp=>mem_zip_self (hl.mem_iff.mp hp)
 have e2:(xs.map (·.2)).toList=xs.toList.map (·.2):=by simp
 rw[e2]
 refine⟨?_,xs.toList.map λp=>(keyTT h' p.1).getD ([]:List Int),by simp,λi v t hv ht=>?_,?_⟩
 .have:=hl.map (·.2)
  rwa[show(vs.zip vs).map (·.2)=vs from List.map_snd_zip (t5 _)]at this
 .rw[j4]at hv ht
  cases hx:xs.toList[i]? with
  | none=>rw[hx]at hv;cases hv
  | some p =>
   rw[hx]at hv ht
   cases hv
   cases ht
   obtain⟨q1,q2⟩:=hm p (d8 hx)
   obtain⟨t,ht⟩:=hT _ q2
   show TT h p.2 ((keyTT h' p.1).getD ([]:List Int))
   rw[keyTT_of (hk _ _ ht),<- q1]
   exact ht
 .rw[u03]
  intro i j hi hj hij
  have hi':i < xs.size:=by simpa using hi
  have hj':j < xs.size:=by simpa using hj
  have:=hs i j (u0R hij) (by rw[<-pm.size_eq];exact hj')
  unfold KK at this
  rw[getElem?_pos xs i hi',getElem?_pos xs j hj']at this
  have this:HT.lexLt ((keyTT h' xs[j].1).getD ([]:List Int)) ((keyTT h' xs[i].1).getD ([]:List Int))=false:=this
  simpa using this
section
variable {prog:Program}{w:World}{A:Around}{E:Value->Shared->Prop}{s:Shared}
theorem ownT_list_sort {a:Addr} {vs:List Value} {n:Nat} {P:Fin->Shared->Prop} (ho:s.heap.get? a=some (seqObj "list" vs.toArray n)) (hT:∀ v∈vs,∃ t,TT s.heap v t) (h64:vs.length < 64)
 (h:∀ out:Array Value,out.toList.Perm vs->Rise s.heap out.toList->P (.done (.ret .none)) { s with heap:=sortedHeap s.heap a vs out }):wpAny (model prog w) A (Builtin.«list.sort» ⟨[.ref a],[]⟩) P E s:=by
 have la:a < s.heap.objs.size:=t4 ho
 have zl:vs.toArray.size=vs.length:=q5
 obtain⟨e1,o1⟩:∃ e1,(s.heap.update a (Obj.mapSeq λ_=>#[])).get? a=some (seqObj "list" #[] e1):=⟨_,get?_update_seq ho (λ_=>#[])⟩
 have o6:(((s.heap.update a (Obj.mapSeq λ_=>#[])).push (seqObj "tuple" vs.toArray 0)).push (seqObj "list" #[] 0)).get? a=some (seqObj "list" #[] e1):=u3 _ (u3 _ o1)
 have up:∀ b o,o.cls=.type "tuple"->s.heap.get? b=some o->(((s.heap.update a (Obj.mapSeq λ_=>#[])).push (seqObj "tuple" vs.toArray 0)).push (seqObj "list" #[] 0)).get? b=some o:=λb o c e=>by
  refine u3 _ (u3 _ ((p8 _ _ λz=>?_).trans e))
  subst z
  rw[ho]at e
  cases e
  exact absurd (show Value.type "list"=Value.type "tuple" from c) (by decide +kernel)
 have hT6:∀ v∈vs,∃ t,TT (((s.heap.update a (Obj.mapSeq λ_=>#[])).push (seqObj "tuple" vs.toArray 0)).push (seqObj "list" #[] 0)) v t:=λv hv=>let ⟨t,ht⟩:=hT v hv;⟨t,ht.keepT up⟩
 rw[list_sort_plain]
 refine u0 (listItems_at ho rfl (u0 (listUpdate_at ho rfl (u0 (seqEpoch_at o1 rfl (u0 (wpAny_newTuple (u0 (u3a (u0n ?_))))))))))
 show wpAny (model prog w) A _ P E { s with heap:=((s.heap.update a (Obj.mapSeq λ_=>#[])).push (seqObj "tuple" vs.toArray 0)).push (seqObj "list" #[] 0) }
 by_cases c2:vs.toArray.size < 2
 .rw[t7 c2,t7 c2]
  refine u0 (u5 ?_)
  dsimp only
  rw[StateT.run_pure]
  refine u0 (u5 ?_)
  obtain⟨r1,r2⟩:=zfP (xs:=pairsOf vs) hT (λv t ht=>ht) (Array.Perm.refl _) (λi j hij hj=>by
   obtain rfl:i=j:=by rw[u3y]at hj;omega
   exact u1w _)
  refine u0 (seqEpoch_at o6 rfl (u0 (listUpdate_at o6 rfl ?_ (hsz2:=by rw[u4n];show(pairsOf vs).size<=_;rw[u3y,u1i];omega))))
  rw[show(e1 != e1)=false by simp]
  exact u5 (h _ r1 r2)
 .rw[j7 c2,j7 c2]
  cases vs with
  | nil=>simp at c2
  | cons v₁ rest =>
   refine u0 (zd4 hT6 ?_)
   refine u0 (u1C (OwnTim.own_runsE (st:=SortSt.mk' (tuples' true) ((v₁::rest).toArray.zip (v₁::rest).toArray) #[] 7 none) (Q:=λ_ t=>(arrOf t).Perm (pairsOf (v₁::rest))/\failedOf t=none/\SortedToK (zcB _) (arrOf t) (pairsOf (v₁::rest)).size)
    (zgM hT6) (Array.Perm.refl _) rfl rfl rfl (λt p1 p2 p3=>⟨p1,p2,p3⟩) (by rw[u3y];rw[q5]at c2;omega) (by rw[u3y];exact h64)) ?_ λ_ _ e=>e)
   rintro⟨⟨⟩,t⟩ s' ⟨rfl,p1,p2,p3⟩
   obtain⟨r1,r2⟩:=zfP hT (λv t ht=>ht.keepT up) p1 p3
   refine u0 (seqEpoch_at o6 rfl (u0 (listUpdate_at o6 rfl ?_ (hsz2:=by rw[u4n];show(arrOf t).size<=_;rw[p1.size_eq,u3y,u1i];omega))))
   rw[p2,show(e1 != e1)=false by simp]
   exact u5 (h _ r1 r2)
theorem ownT_sorted {l:Addr}{vs:List Value}{Q:Value->Shared->Prop}(hl:s.heap.IsList l vs.toArray)(hT:∀ v∈vs,∃ t,TT s.heap v t)(h64:vs.length < 64)
 (h:∀ out:Array Value,out.toList.Perm vs->Rise s.heap out.toList->Q (.ref (s.heap.objs.size+1)) { s with heap:=sortedAll s.heap vs out }):wpAny (model prog w) A (call (.builtin "sorted") [.ref l]) Q E s:=by
 have z1:((s.heap.push (seqObj "list" #[] 0)).update s.heap.objs.size (Obj.mapSeq (·++vs.toArray))).objs.size=s.heap.objs.size+1:=(Heap.size_update ..).trans (size_push' _ _)
 have oL:(((s.heap.push (seqObj "list" #[] 0)).update s.heap.objs.size (Obj.mapSeq (·++vs.toArray))).push (seqObj "list" vs.toArray 0)).get? (s.heap.objs.size+1)=some (seqObj "list" vs.toArray 0):=z1 ▸ t6 _ rfl
 have up:∀ b o,s.heap.get? b=some o->(((s.heap.push (seqObj "list" #[] 0)).update s.heap.objs.size (Obj.mapSeq (·++vs.toArray))).push (seqObj "list" vs.toArray 0)).get? b=some o:=λb o e =>
  u3 _ ((p8 _ _ λz=>by subst z;exact absurd (t4 e) (u0J _)).trans (u3 _ e))
 refine u1E kind_sorted plain_sorted entry_sorted (args_sorted1 _) ?_
 unfold Builtin.«sorted»
 refine u0 (m:=checkCount "sorted" 1 1 _) (u5 (u0 (collect_list hl (u0 (u3a ?_)))))
 show wpAny _ _ _ _ _ (Shared.mk (((s.heap.push (seqObj "list" #[] 0)).update s.heap.objs.size (Obj.mapSeq (·++vs.toArray))).push (seqObj "list" vs.toArray 0)) s.gens s.drawn s.toks s.os)
 rw[z1]
 refine u0 (u0n (u0a slot_list_sort ⟨_,oL,rfl⟩ entry_list_sort (ownT_list_sort oL (λv hv=>let ⟨t,ht⟩:=hT v hv;⟨t,ht.keep up⟩) h64 λout p1 p2=>⟨_,rfl,u5 ⟨_,rfl,h out p1 ?_⟩⟩) (args_list_sort _)))
 obtain⟨ts,q1,q2,q3⟩:=p2
 refine⟨ts,q1,λi v t hv ht=>?_,q3⟩
 obtain⟨t0,ht0⟩:=hT v (p1.mem_iff.mp (d8 hv))
 rw[(q2 i v t hv ht).uniq (ht0.keep up)]
 exact ht0
end
end OwnSortT
namespace OwnSort
open PySem PyProof.Rows
def Rise (h:Heap)(out:List Value):Prop:=∃ ts:List Pr,out.length=ts.length/\(∀ (i:Nat) (v:Value) (t:Pr),out[i]?=some v->ts[i]?=some t->TP h v t)/\ts.Pairwise λa b=>bltP b a=false
theorem TP.tt {h:Heap}{v:Value}{t:Pr}(x:TP h v t):OwnSortT.TT h v [t.1,t.2]:=by
 obtain⟨a,o,n,tx,ty,e1,e2,e3,e4⟩:=x
 exact⟨a,o,n,[.int t.1 tx,.int t.2 ty],e1,e2,e3,e4,.cons _ _ (.cons _ _ .nil),List.cons_ne_nil _ _⟩
theorem zhc (a b:Pr):HT.lexLt [a.1,a.2] [b.1,b.2]=bltP a b:=by
 rw[HT.lexLt_cons,HT.lexLt_cons]
 unfold bltP
 by_cases c:a.1=b.1
 .rw[t7 c]
  by_cases c2:a.2=b.2
  .rw[t7 c2,p6 (by omega)];rfl
  .rw[j7 c2,decide_eq_decide];omega
 .rw[j7 c,decide_eq_decide];omega
theorem zaH {h:Heap}{vs out:List Value}(hT:∀ v∈vs,∃ t,TP h v t)(pm:out.Perm vs)(r:OwnSortT.Rise h out):Rise h out:=by
 obtain⟨ts,l1,l2,l3⟩:=r
 have key:∀ (i:Nat) (v:Value) (t:List Int),out[i]?=some v->ts[i]?=some t->∃ p:Pr,TP h v p/\t=[p.1,p.2]:=λi v t h1 h2=>by
  obtain⟨p,hp⟩:=hT v (pm.mem_iff.mp (d8 h1))
  exact⟨p,hp,OwnSortT.TT.uniq (l2 i v t h1 h2) hp.tt⟩
 have ex:∀ t∈ts,∃ p:Pr,t=[p.1,p.2]:=λt ht=>by
  obtain⟨i,hi,rfl⟩:=u07 ht
  obtain⟨p,_,e⟩:=key i out[i] ts[i] (j6 (by omega)) (j6 hi)
  exact⟨p,e⟩
 refine⟨ts.map λt=>(t.getD 0 0,t.getD 1 0),by rw[u6,l1],λi v t h1 h2=>?_,?_⟩
 .rw[j4]at h2
  obtain⟨u,hu,rfl⟩:=u7.mp h2
  obtain⟨p,hp,rfl⟩:=key i v u h1 hu
  exact hp
 .rw[u0Q]
  refine l3.imp_of_mem λ{a b} ha hb hab=>?_
  obtain⟨p,rfl⟩:=ex a ha
  obtain⟨q,rfl⟩:=ex b hb
  rw[zhc]at hab
  exact hab
section
variable {prog:Program}{w:World}{A:Around}{E:Value->Shared->Prop}{s:Shared}
theorem own_list_sort {a:Addr} {vs:List Value} {n:Nat} {P:Fin->Shared->Prop} (ho:s.heap.get? a=some (seqObj "list" vs.toArray n)) (hT:∀ v∈vs,∃ t,TP s.heap v t) (h64:vs.length < 64)
 (h:∀ out:Array Value,out.toList.Perm vs->Rise s.heap out.toList->P (.done (.ret .none)) { s with heap:=sortedHeap s.heap a vs out }):wpAny (model prog w) A (Builtin.«list.sort» ⟨[.ref a],[]⟩) P E s :=
 OwnSortT.ownT_list_sort ho (λv hv=>(hT v hv).imp' (λt=>[t.1,t.2]) λ_ ht=>ht.tt) (by omega) λout p r=>h out p (zaH hT p r)
theorem own_sorted {l:Addr}{vs:List Value}{Q:Value->Shared->Prop}(hl:s.heap.IsList l vs.toArray)(hT:∀ v∈vs,∃ t,TP s.heap v t)(h64:vs.length < 64)
 (h:∀ out:Array Value,out.toList.Perm vs->Rise s.heap out.toList->Q (.ref (s.heap.objs.size+1)) { s with heap:=sortedAll s.heap vs out }):wpAny (model prog w) A (call (.builtin "sorted") [.ref l]) Q E s :=
 OwnSortT.ownT_sorted hl (λv hv=>(hT v hv).imp' (λt=>[t.1,t.2]) λ_ ht=>ht.tt) (by omega) λout p r=>h out p (zaH hT p r)
end
end OwnSort
namespace Dl
open PySem L2
class KK where
 K:W.Frag
inductive D where
 | non | bl (b:Bool) | int (i:Int) | str (x:Str) | tup (ds:List D) | lst (ds:List D) | scr (ns:List Int)
  | dct (z t:Bool) (ks:List (List Key)) (vs:List D)
 deriving Inhabited
section
variable [KK]
def WI (o:HO)(t:Bool)(ks:List (List Key))(xs:List V):Prop :=
 if t=true then ∃ kvs,o=.dT kvs/\kvs.map (·.1)=ks/\kvs.map (·.2)=xs else ∃ kvs:List (Key × V),o=.dK kvs/\kvs.map (λp=>[p.1])=ks/\kvs.map (·.2)=xs
def Ve (H:Hp)(a:Addr)(z t:Bool)(ks:List (List Key))(xs:List V):Prop :=
 ∃ u,WI u t ks xs/\if z=true then ∃ ob,H a=some (.frz ob u)else H a=some u
theorem Ve.mono {H H':Hp}{a:Addr}{z t:Bool}{ks:List (List Key)}{xs:List V}(s:yE H H')(h:Ve H a z t ks xs):Ve H' a z t ks xs:=by
 obtain⟨u,h1,h2⟩:=h
 refine⟨u,h1,?_⟩
 cases z with
 | true =>
  rw[t7 rfl]at h2 ⊢
  obtain⟨ob,h2⟩:=h2
  exact⟨ob,s _ _ h2⟩
 | false =>
  rw[j7 u8]at h2 ⊢
  exact s _ _ h2
theorem Ve.rd {H:Hp}{a:Addr}{z t:Bool}{ks:List (List Key)}{xs:List V}(h:Ve H a z t ks xs):∃ u,WI u t ks xs/\Rd H a u:=by
 obtain⟨u,h1,h2⟩:=h
 refine⟨u,h1,?_⟩
 cases z with
 | true =>
  rw[t7 rfl]at h2
  obtain⟨ob,h2⟩:=h2
  exact .inr ⟨ob,h2⟩
 | false =>
  rw[j7 u8]at h2
  exact .inl h2
mutual
def At (H:Hp):D->V->Prop
 | .non,v=>v=.non
 | .bl b,v=>v=.bl b
 | .int i,v=>v=.int i
 | .str x,v=>v=.str x
 | .tup ds,v=>∃ a xs,v=.ref a/\H a=some (.tup xs)/\AtL H ds xs
 | .lst ds,v=>∃ a xs,v=.ref a/\H a=some (.lst xs)/\AtL H ds xs
 | .scr ns,v=>∃ a,v=.ref a/\SqL KK.K H a (ns.map V.int)
 | .dct z t ks vs,v=>∃ a xs,v=.ref a/\Ve H a z t ks xs/\AtL H vs xs
def AtL (H:Hp):List D->List V->Prop
 | [],xs=>xs=[]
 | d::ds,xs=>∃ x r,xs=x::r/\At H d x/\AtL H ds r
end
mutual
theorem At.mono {H H':Hp}(s:yE H H'):∀ {d:D} {v:V},At H d v->At H' d v
 | .non,_,h=>by unfold At at h ⊢;exact h
 | .bl _,_,h=>by unfold At at h ⊢;exact h
 | .int _,_,h=>by unfold At at h ⊢;exact h
 | .str _,_,h=>by unfold At at h ⊢;exact h
 | .tup ds,_,h=>by
  unfold At at h ⊢
  obtain⟨a,xs,e,hx,hl⟩:=h
  exact⟨a,xs,e,s _ _ hx,AtL.mono s hl⟩
 | .lst ds,_,h=>by
  unfold At at h ⊢
  obtain⟨a,xs,e,hx,hl⟩:=h
  exact⟨a,xs,e,s _ _ hx,AtL.mono s hl⟩
 | .scr ns,_,h=>by
  unfold At at h ⊢
  obtain⟨a,e,hx⟩:=h
  exact⟨a,e,s.seq hx⟩
 | .dct z t ks vs,_,h=>by
  unfold At at h ⊢
  obtain⟨a,xs,e,hx,hl⟩:=h
  exact⟨a,xs,e,hx.mono s,AtL.mono s hl⟩
theorem AtL.mono {H H':Hp}(s:yE H H'):∀ {ds:List D} {xs:List V},AtL H ds xs->AtL H' ds xs
 | [],_,h=>by unfold AtL at h ⊢;exact h
 | d::ds,_,h=>by
  unfold AtL at h ⊢
  obtain⟨x,r,e,h1,h2⟩:=h
  exact⟨x,r,e,At.mono s h1,AtL.mono s h2⟩
end
mutual
def noL:D->Bool
 | .tup ds=>zhy ds
 | .lst _=>false
 | .scr _=>false
 | .dct _ _ _ _=>false
 | _=>true
def zhy:List D->Bool
 | []=>true
 | d::ds=>noL d&&zhy ds
end
mutual
theorem At.flat {G F:Hp}(h:∀ q xs,G q=some (.tup xs)->F q=some (.tup xs)):∀ {d:D} {v:V},noL d=true->At G d v->At F d v
 | .non,_,_,a=>by unfold At at a ⊢;exact a
 | .bl _,_,_,a=>by unfold At at a ⊢;exact a
 | .int _,_,_,a=>by unfold At at a ⊢;exact a
 | .str _,_,_,a=>by unfold At at a ⊢;exact a
 | .tup ds,_,n,a=>by
  unfold At at a ⊢
  unfold noL at n
  obtain⟨p,xs,e,hx,hl⟩:=a
  exact⟨p,xs,e,h _ _ hx,AtL.flat h n hl⟩
 | .lst ds,_,n,_=>by unfold noL at n;cases n
 | .scr ds,_,n,_=>by unfold noL at n;cases n
 | .dct _ _ _ _,_,n,_=>by unfold noL at n;cases n
theorem AtL.flat {G F:Hp}(h:∀ q xs,G q=some (.tup xs)->F q=some (.tup xs)):∀ {ds:List D} {xs:List V},zhy ds=true->AtL G ds xs->AtL F ds xs
 | [],_,_,a=>by unfold AtL at a ⊢;exact a
 | d::ds,_,n,a=>by
  unfold AtL at a ⊢
  unfold zhy at n
  rw[g9]at n
  obtain⟨x,r,e,h1,h2⟩:=a
  exact⟨x,r,e,At.flat h n.1 h1,AtL.flat h n.2 h2⟩
end
section
variable {H H':Hp}{d:D}{ds es:List D}{v x:V}{xs ys:List V}
theorem At.int {i:Int}:At H (.int i) (.int i):=by unfold At;rfl
theorem At.bl {b:Bool}:At H (.bl b) (.bl b):=by unfold At;rfl
theorem At.non:At H .non .non:=by unfold At;rfl
theorem At.str {y:Str}:At H (.str y) (.str y):=by unfold At;rfl
theorem At.tup {a:Addr}(h:H a=some (.tup xs))(hl:AtL H ds xs):At H (.tup ds) (.ref a):=by unfold At;exact⟨a,xs,rfl,h,hl⟩
theorem At.lst {a:Addr}(h:H a=some (.lst xs))(hl:AtL H ds xs):At H (.lst ds) (.ref a):=by unfold At;exact⟨a,xs,rfl,h,hl⟩
theorem AtL.nil:AtL H [] []:=by unfold AtL;rfl
theorem AtL.cons (h:At H d x)(hl:AtL H ds xs):AtL H (d::ds) (x::xs):=by unfold AtL;exact⟨x,xs,rfl,h,hl⟩
theorem At.int_inv {i:Int}(h:At H (.int i) v):v=.int i:=by unfold At at h;exact h
theorem At.bl_inv {b:Bool}(h:At H (.bl b) v):v=.bl b:=by unfold At at h;exact h
theorem At.non_inv (h:At H .non v):v=.non:=by unfold At at h;exact h
theorem At.str_inv {y:Str}(h:At H (.str y) v):v=.str y:=by unfold At at h;exact h
theorem At.tup_inv (h:At H (.tup ds) v):∃ a xs,v=.ref a/\H a=some (.tup xs)/\AtL H ds xs:=by unfold At at h;exact h
theorem At.lst_inv (h:At H (.lst ds) v):∃ a xs,v=.ref a/\H a=some (.lst xs)/\AtL H ds xs:=by unfold At at h;exact h
theorem At.scr_inv {ns:List Int}(h:At H (.scr ns) v):∃ a,v=.ref a/\SqL KK.K H a (ns.map V.int):=by unfold At at h;exact h
theorem At.dct_inv {z t:Bool}{ks:List (List Key)}{vs:List D}(h:At H (.dct z t ks vs) v):∃ a xs,v=.ref a/\Ve H a z t ks xs/\AtL H vs xs:=by unfold At at h;exact h
theorem AtL.nil_inv (h:AtL H [] xs):xs=[]:=by unfold AtL at h;exact h
theorem AtL.cons_inv (h:AtL H (d::ds) xs):∃ x r,xs=x::r/\At H d x/\AtL H ds r:=by unfold AtL at h;exact h
theorem AtL.length:∀ {ds:List D} {xs:List V},AtL H ds xs->xs.length=ds.length
 | [],_,h=>by rw[h.nil_inv];rfl
 | _::_,_,h=>by
  obtain⟨x,r,rfl,_,h2⟩:=h.cons_inv
  rw[i4,i4,AtL.length h2]
theorem AtL.get:∀ {ds:List D} {xs:List V} {i:Nat} {d:D},AtL H ds xs->ds[i]?=some d->∃ x,xs[i]?=some x/\At H d x
 | [],_,_,_,_,e=>by simp at e
 | _::_,_,i,_,h,e=>by
  obtain⟨x,r,rfl,h1,h2⟩:=h.cons_inv
  cases i with
  | zero =>
   simp at e
   subst e
   exact⟨x,rfl,h1⟩
  | succ i =>
   obtain⟨y,hy,ha⟩:=AtL.get (i:=i) h2 (by simpa using e)
   exact⟨y,by simpa using hy,ha⟩
theorem AtL.append:∀ {ds es:List D} {xs ys:List V},AtL H ds xs->AtL H es ys->AtL H (ds++es) (xs++ys)
 | [],_,_,_,h,k=>by rw[h.nil_inv];exact k
 | _::_,_,_,_,h,k=>by
  obtain⟨x,r,rfl,h1,h2⟩:=h.cons_inv
  exact .cons h1 (AtL.append h2 k)
theorem AtL.snoc (h:AtL H ds xs)(k:At H d v):AtL H (ds++[d]) (xs++[v]):=h.append (.cons k .nil)
theorem AtL.take:∀ (n:Nat) {ds:List D} {xs:List V},AtL H ds xs->AtL H (ds.take n) (xs.take n)
 | 0,_,_,_=>by simpa using AtL.nil
 | n+1,[],_,h=>by rw[h.nil_inv];simpa using AtL.nil
 | n+1,_::_,_,h=>by
  obtain⟨x,r,rfl,h1,h2⟩:=h.cons_inv
  rw[List.take_succ_cons,List.take_succ_cons]
  exact .cons h1 (AtL.take n h2)
theorem AtL.drop:∀ (n:Nat) {ds:List D} {xs:List V},AtL H ds xs->AtL H (ds.drop n) (xs.drop n)
 | 0,_,_,h=>h
 | n+1,[],_,h=>by rw[h.nil_inv];simpa using AtL.nil
 | n+1,_::_,_,h=>by
  obtain⟨x,r,rfl,h1,h2⟩:=h.cons_inv
  rw[List.drop_succ_cons,List.drop_succ_cons]
  exact AtL.drop n h2
theorem AtL.set:∀ (n:Nat) {ds:List D} {xs:List V},AtL H ds xs->At H d v->AtL H (ds.set n d) (xs.set n v)
 | _,[],_,h,_=>by rw[h.nil_inv];simpa using AtL.nil
 | 0,_::_,_,h,k=>by
  obtain⟨x,r,rfl,h1,h2⟩:=h.cons_inv
  exact .cons k h2
 | n+1,_::_,_,h,k=>by
  obtain⟨x,r,rfl,h1,h2⟩:=h.cons_inv
  exact .cons h1 (AtL.set n h2 k)
theorem AtL.rep (h:AtL H ds xs):∀ k:Nat,AtL H (List.replicate k ds).flatten (List.replicate k xs).flatten
 | 0=>.nil
 | k+1=>by
  rw[u08,u08,u1M,u1M]
  exact h.append (AtL.rep h k)
theorem AtL.ints (ns:List Int):AtL H (ns.map D.int) (ns.map V.int):=by
 induction ns with
 | nil=>exact .nil
 | cons n r ih=>exact .cons .int ih
theorem AtL.of_ints:∀ {ns:List Int} {xs:List V},AtL H (ns.map D.int) xs->xs=ns.map V.int
 | [],_,h=>h.nil_inv
 | n::r,_,h=>by
  obtain⟨x,r',rfl,h1,h2⟩:=AtL.cons_inv (by simpa using h)
  rw[h1.int_inv,AtL.of_ints h2]
  rfl
end
def tyN:D->String
 | .non=>"NoneType" | .bl _=>"bool" | .int _=>"int" | .str _=>"str" | .tup _=>"tuple" | .lst _=>"list" | .scr _=>"list" | .dct _ _ _ _=>"dict"
def Hid (F':Hp)(p:Addr)(o:HO):Prop:=F' p=none\/((∃ xs,o=.tup xs)/\F' p=some o)
def Keep (F H F' H':Hp):Prop:=∀ p o,F p=none->H p=some o->Hid F' p o/\H' p=some o
structure Gr (F H F' H':Hp):Prop where
 ff:yE F F'
 fh:yE F' H'
 kp:Keep F H F' H'
theorem Gr.refl {F H:Hp}(s:yE F H):Gr F H F H:=⟨yE.refl _,s,λ_ _ a b=>⟨.inl a,b⟩⟩
theorem Gr.trans {F H F1 H1 F2 H2:Hp}(a:Gr F H F1 H1)(b:Gr F1 H1 F2 H2):Gr F H F2 H2 :=
 ⟨a.ff.trans b.ff,b.fh,λp o e1 e2=>by
  obtain⟨x,y⟩:=a.kp p o e1 e2
  rcases x with x | ⟨x1,x2⟩
  .exact b.kp p o x y
  .exact⟨.inr ⟨x1,b.ff _ _ x2⟩,b.fh _ _ (b.ff _ _ x2)⟩⟩
theorem Gr.kl {F H F' H':Hp}{p:Addr}{o:HO}(g:Gr F H F' H')(n:∀ xs,o≠.tup xs)(e1:F p=none)(e2:H p=some o):F' p=none/\H' p=some o:=by
 obtain⟨x,y⟩:=g.kp p o e1 e2
 rcases x with x | ⟨⟨xs,x1⟩,_⟩
 .exact⟨x,y⟩
 .exact absurd x1 (n xs)
theorem Gr.alloc {F H:Hp}{p:Addr}(s:yE F H)(h:H p=none)(o:HO):Gr F H (upd F p o) (upd H p o):=by
 have hF:F p=none:=s.free h
 refine⟨λb u q=>?_,λb u q=>?_,λb u q r=>?_⟩
 .rw[zm (zp q hF)];exact q
 .by_cases e:b=p
  .subst e;rw[zn]at q ⊢;exact q
  .rw[zm e]at q ⊢;exact s b u q
 .have e:b≠p:=zp r h
  rw[zm e];exact⟨.inl (by rw[zm e];exact q),r⟩
theorem Gr.hide {F H:Hp}{p:Addr}(s:yE F H)(h:H p=none)(o:HO):Gr F H F (upd H p o):=by
 refine⟨yE.refl _,λb u q=>?_,λb u q r=>?_⟩
 .rw[zm (zp (s b u q) h)];exact s b u q
 .have e:b≠p:=zp r h
  rw[zm e];exact⟨.inl q,r⟩
theorem Gr.show {F H:Hp}{p:Addr}{o:HO}{F0 H0:Hp}(g:Gr F0 H0 F H)(h0:H0 p=none)(hF:F p=none)(h:H p=some o):Gr F0 H0 (upd F p o) H:=by
 refine⟨λb u q=>?_,λb u q=>?_,λb u q r=>?_⟩
 .have:=g.ff b u q
  rw[zm (zp this hF)];exact this
 .by_cases e:b=p
  .subst e;rw[zn]at q;rw[<-q];exact h
  .rw[zm e]at q;exact g.fh b u q
 .have e:b≠p:=zp r h0
  obtain⟨x,y⟩:=g.kp b u q r
  refine⟨?_,y⟩
  unfold Hid
  rw[zm e]
  exact x
abbrev Ev:=List (Option D)
def VAt (F:Hp)(ρ:Ev)(σ:St):Prop:=∀ (i:Nat) (d:D),ρ[i]?=some (some d)->∃ v,σ[i]?=some (some v)/\At F d v
theorem VAt.mono {F F':Hp}{ρ:Ev}{σ:St}(h:VAt F ρ σ)(s:yE F F'):VAt F' ρ σ:=λi d e=>let ⟨v,e1,a⟩:=h i d e;⟨v,e1,a.mono s⟩
def RE (t:TE)(f:Ev->Option D):Prop :=
 ∀ (σ:St) (ρ:Ev) (F H:Hp) (d:D) (Q:VK),yE F H->VAt F ρ σ->f ρ=some d->(∀ F' H' v,Gr F H F' H'->At F' d v->Q v H')->t σ H Q
def RT (t:TT)(f:Ev->Option Bool):Prop :=
 ∀ (σ:St) (ρ:Ev) (F H:Hp) (b:Bool) (Q:Bool->Hp->Prop),yE F H->VAt F ρ σ->f ρ=some b->(∀ F' H',Gr F H F' H'->Q b H')->t σ H Q
def RA (t:TA)(f:Ev->Option (List D)):Prop :=
 ∀ (σ:St) (ρ:Ev) (F H:Hp) (ds:List D) (Q:List V->Hp->Prop),yE F H->VAt F ρ σ->f ρ=some ds->(∀ F' H' vs,Gr F H F' H'->AtL F' ds vs->Q vs H')->t σ H Q
def RF (t:TE)(f:Ev->Option (List D)):Prop :=
 ∀ (σ:St) (ρ:Ev) (F H:Hp) (ds:List D) (Q:VK),yE F H->VAt F ρ σ->f ρ=some ds->(∀ F' H' p xs,Gr F H F' H'->H p=none->F' p=none->H' p=some (.lst xs)->AtL F' ds xs->Q (.ref p) H')->t σ H Q
def ED (X:Cx)(e:Expr)(f:Ev->Option D):Prop:=∃ t,PE X e t/\RE t f
def TD (X:Cx)(e:Expr)(f:Ev->Option Bool):Prop:=∃ t,PT X e t/\RT t f
def WD (X:Cx)(e:Expr)(f:Ev->Option Bool):Prop:=∃ t,PW X e t/\RT t f
def AD (X:Cx)(es:List Expr)(f:Ev->Option (List D)):Prop:=∃ t,PA X es t/\RA t f
def FL (X:Cx)(e:Expr)(f:Ev->Option (List D)):Prop:=∃ t,PE X e t/\RF t f
section
variable {X:Cx}{a b c:Expr}{pos:Pos}
def yT (f:Ev->Option (List D)):Ev->Option D:=fun ρ=>(f ρ).map .lst
theorem ww {f:Ev->Option (List D)}(h:FL X a f):ED X a (yT f):=by
 obtain⟨t,ht,r⟩:=h
 refine⟨t,ht,fun σ ρ F H d Q s va e q=>?_⟩
 obtain⟨ds,e1,rfl⟩:=u7.mp e
 refine r σ ρ F H ds Q s va e1 λF' H' p xs g h0 hF hH hx=>?_
 have g2:=g.show h0 hF hH
 exact q _ _ _ g2 (At.lst zn (hx.mono (λb u e=>by rw[zm (zp e hF)];exact e)))
def zd (i:Nat):Ev->Option D:=fun ρ=>(ρ[i]?).getD none
theorem zlM (i:Nat)(h:PE X a (zjD i)):ED X a (zd i):=by
 refine⟨_,h,fun σ ρ F H d Q s va e q=>?_⟩
 have e':ρ[i]?=some (some d):=by
  unfold zd at e
  cases h:ρ[i]? with
  | none=>rw[h]at e;cases e
  | some x=>rw[h]at e;cases x with
   | none=>cases e
   | some y=>cases e;rfl
 obtain⟨v,e1,a1⟩:=va i d e'
 exact⟨v,e1,q _ _ _ (.refl s) a1⟩
def eC (d:D):Ev->Option D:=λ_=>some d
theorem zf {i:Int}(h:PE X a (tC (.int i))):ED X a (eC (.int i)):=⟨_,h,λ_ _ _ _ _ _ s _ e q=>by cases e;exact q _ _ _ (.refl s) .int⟩
theorem wz {i:Bool}(h:PE X a (tC (.bl i))):ED X a (eC (.bl i)):=⟨_,h,λ_ _ _ _ _ _ s _ e q=>by cases e;exact q _ _ _ (.refl s) .bl⟩
theorem zcD (h:PE X a (tC .non)):ED X a (eC .non):=⟨_,h,λ_ _ _ _ _ _ s _ e q=>by cases e;exact q _ _ _ (.refl s) .non⟩
def OpD (r:R2)(g:D->D->Option D):Prop :=
 ∀ (F H:Hp) (x y:V) (d e z:D) (Q:VK),yE F H->At F d x->At F e y->g d e=some z->(∀ F' H' v,Gr F H F' H'->At F' z v->Q v H')->r x y H Q
def zj (g:D->D->Option D)(f h:Ev->Option D):Ev->Option D:=fun ρ=>(f ρ).bind λx=>(h ρ).bind λy=>g x y
theorem zhr {r:R2}{g:D->D->Option D}{ta tb:TE}{f h:Ev->Option D}(hg:OpD r g)(ra:RE ta f)(rb:RE tb h):RE (tOp r ta tb) (zj g f h):=by
 intro σ ρ F H z Q s va e q
 obtain⟨x,e1,e⟩:=u4.mp e
 obtain⟨y,e2,e⟩:=u4.mp e
 refine ra σ ρ F H x _ s va e1 λF1 H1 v g1 a1=>?_
 refine rb σ ρ F1 H1 y _ g1.fh (va.mono g1.ff) e2 λF2 H2 u g2 a2=>?_
 exact hg F2 H2 v u x y z Q g2.fh (a1.mono g2.ff) a2 e λF3 H3 w g3 a3=>q F3 H3 w ((g1.trans g2).trans g3) a3
theorem WV {op:Operator}{r:R2}{g:D->D->Option D}{f h:Ev->Option D}(ho:OpR X (binaryOp op) r)(hg:OpD r g)(ha:ED X a f)(hb:ED X b h):ED X (.BinOp a op b pos) (zj g f h) :=
 let ⟨_,pa,ra⟩:=ha
 let ⟨_,pb,rb⟩:=hb
 ⟨_,zmX ho pa pb,zhr hg ra rb⟩
theorem Zl {op:CmpOp}{r:R2}{g:D->D->Option D}{f h:Ev->Option D}(ho:OpR X (compareOp op) r)(hg:OpD r g)(hm:behindInMarks op b=false)(ha:ED X a f)(hb:ED X b h):ED X (.Compare a [op] [b] pos) (zj g f h) :=
 let ⟨_,pa,ra⟩:=ha
 let ⟨_,pb,rb⟩:=hb
 ⟨_,zjK ho pa pb hm,zhr hg ra rb⟩
def asB:D->Option Bool
 | .bl b=>some b
 | _=>none
theorem XJ {d:D}{b:Bool}(h:asB d=some b):d=.bl b:=by
 cases d <;> first | (cases h;rfl) | cases h
def tOf (f:Ev->Option D):Ev->Option Bool:=fun ρ=>(f ρ).bind asB
theorem zj1 {t:TE}{f:Ev->Option D}(r:RE t f):RT (zlg t) (tOf f):=by
 intro σ ρ F H b Q s va e q
 obtain⟨x,e1,e⟩:=u4.mp e
 cases XJ e
 exact r σ ρ F H _ _ s va e1 λF1 H1 v g1 a1=>⟨b,a1.bl_inv,q F1 H1 g1⟩
theorem zF {op:CmpOp}{r:R2}{g:D->D->Option D}{f h:Ev->Option D}(ho:OpR X (compareOp op) r)(hg:OpD r g)(hm:behindInMarks op b=false)(ha:ED X a f)(hb:ED X b h):TD X (.Compare a [op] [b] pos) (tOf (zj g f h)) :=
 let ⟨_,pa,ra⟩:=ha
 let ⟨_,pb,rb⟩:=hb
 ⟨_,zjH ho pa pb hm,zj1 (zhr hg ra rb)⟩
theorem yZ {f:Ev->Option D}(ha:ED X a f)(he:∀ whole,isTrue a X.env whole=(do let v<-whole;standAt a.pos;holding [v] (truthy v)):=by intro _;rfl):TD X a (tOf f) :=
 let ⟨_,pa,ra⟩:=ha
 ⟨_,zlc pa he,zj1 ra⟩
def yk (f g:Ev->Option Bool):Ev->Option Bool:=fun ρ=>(f ρ).bind λc=>if c=true then g ρ else some false
def Yd (f g:Ev->Option Bool):Ev->Option Bool:=fun ρ=>(f ρ).bind λc=>if c=true then some true else g ρ
def yb (f:Ev->Option Bool):Ev->Option Bool:=fun ρ=>(f ρ).map (!·)
theorem Z1 {f:Ev->Option Bool}(ha:TD X a f):WD X (.BoolOp .And [a] pos) f:=let ⟨_,pa,ra⟩:=ha;⟨_,ziF pa,ra⟩
theorem Z9 {f:Ev->Option Bool}(ha:TD X a f):WD X (.BoolOp .Or [a] pos) f:=let ⟨_,pa,ra⟩:=ha;⟨_,zjZ pa,ra⟩
theorem W6 {rest:List Expr}{f g:Ev->Option Bool}(ha:TD X a f)(hb:WD X (.BoolOp .And (b::rest) pos) g):WD X (.BoolOp .And (a::b::rest) pos) (yk f g):=by
 obtain⟨ta,pa,ra⟩:=ha
 obtain⟨tb,pb,rb⟩:=hb
 refine⟨_,zlh pa pb,fun σ ρ F H z Q s va e q=>?_⟩
 obtain⟨x,e1,e⟩:=u4.mp e
 refine ra σ ρ F H x _ s va e1 λF1 H1 g1=>?_
 cases x with
 | true =>
  rw[t7 rfl]at e ⊢
  exact rb σ ρ F1 H1 z Q g1.fh (va.mono g1.ff) e λF2 H2 g2=>q F2 H2 (g1.trans g2)
 | false =>
  rw[j7 u8]at e ⊢
  cases e
  exact q F1 H1 g1
theorem WL {rest:List Expr}{f g:Ev->Option Bool}(ha:TD X a f)(hb:WD X (.BoolOp .Or (b::rest) pos) g):WD X (.BoolOp .Or (a::b::rest) pos) (Yd f g):=by
 obtain⟨ta,pa,ra⟩:=ha
 obtain⟨tb,pb,rb⟩:=hb
 refine⟨_,zmf pa pb,fun σ ρ F H z Q s va e q=>?_⟩
 obtain⟨x,e1,e⟩:=u4.mp e
 refine ra σ ρ F H x _ s va e1 λF1 H1 g1=>?_
 cases x with
 | false =>
  rw[j7 u8]at e ⊢
  exact rb σ ρ F1 H1 z Q g1.fh (va.mono g1.ff) e λF2 H2 g2=>q F2 H2 (g1.trans g2)
 | true =>
  rw[t7 rfl]at e ⊢
  cases e
  exact q F1 H1 g1
theorem zcw {f:Ev->Option Bool}(h:WD X a f):TD X a f:=let ⟨_,p,r⟩:=h;⟨_,p.pt,r⟩
theorem wH {f:Ev->Option Bool}(ha:TD X a f):TD X (.UnaryOp .Not a pos) (yb f):=by
 obtain⟨ta,pa,ra⟩:=ha
 refine⟨_,zld pa,fun σ ρ F H z Q s va e q=>?_⟩
 obtain⟨x,e1,rfl⟩:=u7.mp e
 exact ra σ ρ F H x _ s va e1 λF1 H1 g1=>q F1 H1 g1
def Yc (f g:Ev->Option D):Ev->Option D:=fun ρ=>((f ρ).bind asB).bind λc=>if c=true then g ρ else some (.bl false)
def eOr (f g:Ev->Option D):Ev->Option D:=fun ρ=>((f ρ).bind asB).bind λc=>if c=true then some (.bl true)else g ρ
def Xp (f:Ev->Option D):Ev->Option D:=fun ρ=>((f ρ).bind asB).map λc=>.bl (!c)
theorem Ys {op}{f:Ev->Option D}(ha:ED X a f):ED X (.BoolOp op [a] pos) f:=let ⟨_,pa,ra⟩:=ha;⟨_,zlT pa,ra⟩
theorem vt {rest:List Expr}{f g:Ev->Option D}(ha:ED X a f)(hb:ED X (.BoolOp .And (b::rest) pos) g):ED X (.BoolOp .And (a::b::rest) pos) (Yc f g):=by
 obtain⟨ta,pa,ra⟩:=ha
 obtain⟨tb,pb,rb⟩:=hb
 refine⟨_,zks pa pb,fun σ ρ F H z Q s va e q=>?_⟩
 obtain⟨x,e1,e⟩:=u4.mp e
 obtain⟨y,e1,e2⟩:=u4.mp e1
 cases XJ e2
 refine ra σ ρ F H _ _ s va e1 λF1 H1 v g1 a1=>⟨x,a1.bl_inv,?_⟩
 cases x with
 | true =>
  rw[t7 rfl]at e ⊢
  exact rb σ ρ F1 H1 z Q g1.fh (va.mono g1.ff) e λF2 H2 w g2 a2=>q F2 H2 w (g1.trans g2) a2
 | false =>
  rw[j7 u8]at e ⊢
  cases e
  exact q F1 H1 _ g1 .bl
theorem zfG {f:Ev->Option D}(ha:ED X a f):ED X (.UnaryOp .Not a pos) (Xp f):=by
 obtain⟨ta,pa,ra⟩:=ha
 refine⟨_,zkB pa,fun σ ρ F H z Q s va e q=>?_⟩
 obtain⟨x,e1,rfl⟩:=u7.mp e
 obtain⟨y,e1,e2⟩:=u4.mp e1
 cases XJ e2
 exact ra σ ρ F H _ _ s va e1 λF1 H1 v g1 a1=>⟨x,a1.bl_inv,q F1 H1 _ g1 .bl⟩
def eIf (t:Ev->Option Bool)(f g:Ev->Option D):Ev->Option D:=fun ρ=>(t ρ).bind λc=>if c=true then f ρ else g ρ
def eUn (g:D->Option D)(f:Ev->Option D):Ev->Option D:=fun ρ=>(f ρ).bind g
def Xw:D->Option D
 | .int i=>some (.int (-i))
 | _=>none
theorem zll {f:Ev->Option D}(ha:ED X a f):ED X (.UnaryOp .USub a pos) (eUn Xw f):=by
 obtain⟨ta,pa,ra⟩:=ha
 refine⟨_,zmw zkX pa,fun σ ρ F H z Q s va e q=>?_⟩
 obtain⟨x,e1,e⟩:=u4.mp e
 cases x <;> try cases e
 exact ra σ ρ F H _ _ s va e1 λF1 H1 v g1 a1=>⟨_,a1.int_inv,q F1 H1 _ g1 .int⟩
def zv:Ev->Option (List D):=λ_=>some []
def zb (f:Ev->Option D)(g:Ev->Option (List D)):Ev->Option (List D):=fun ρ=>(f ρ).bind λd=>(g ρ).map (d::·)
theorem zh:AD X [] zv:=⟨_,zb9,λ_ _ _ _ _ _ s _ e q=>by cases e;exact q _ _ _ (.refl s) .nil⟩
theorem za {e:Expr}{es:List Expr}{f:Ev->Option D}{g:Ev->Option (List D)}(ha:ED X e f)(hr:AD X es g)(hs:starEach (e::es) X.env=(false,eval e X.env)::starEach es X.env:=by rfl):AD X (e::es) (zb f g):=by
 obtain⟨ta,pa,ra⟩:=ha
 obtain⟨tb,pb,rb⟩:=hr
 refine⟨_,ZR pa pb hs,fun σ ρ F H z Q s va e q=>?_⟩
 obtain⟨x,e1,e⟩:=u4.mp e
 obtain⟨ds,e2,rfl⟩:=u7.mp e
 refine ra σ ρ F H x _ s va e1 λF1 H1 v g1 a1=>?_
 exact rb σ ρ F1 H1 ds _ g1.fh (va.mono g1.ff) e2 λF2 H2 w g2 a2=>q F2 H2 _ (g1.trans g2) (.cons (a1.mono g2.ff) a2)
def lim (n:Nat):Bool:=decide (n<=sizeLine)
def vU (g:Ev->Option (List D)):Ev->Option D:=fun ρ=>(g ρ).bind λds=>if lim ds.length=true then some (.tup ds)else none
def yF (g:Ev->Option (List D)):Ev->Option (List D):=fun ρ=>(g ρ).bind λds=>if lim ds.length=true then some ds else none
theorem YY {es:List Expr}{x1}{g:Ev->Option (List D)}(h:AD X es g):ED X (.Tuple es x1 pos) (vU g):=by
 obtain⟨ta,pa,ra⟩:=h
 refine⟨_,zkH pa,fun σ ρ F H z Q s va e q=>?_⟩
 obtain⟨ds,e1,e⟩:=u4.mp e
 split at e <;> cases e
 rename_i hl
 refine ra σ ρ F H ds _ s va e1 λF1 H1 vs g1 a1=>⟨by rw[a1.length];exact r6 hl,λp hp=>?_⟩
 have g2:=Gr.alloc g1.fh hp (.tup vs)
 exact q _ _ _ (g1.trans g2) (.tup zn (a1.mono g2.ff))
theorem YV {es:List Expr}{g:Ev->Option (List D)}(h:AD X es g):FL X (.List es pos) (yF g):=by
 obtain⟨ta,pa,ra⟩:=h
 refine⟨_,zlF pa,fun σ ρ F H z Q s va e q=>?_⟩
 obtain⟨ds,e1,e⟩:=u4.mp e
 split at e <;> cases e
 rename_i hl
 refine ra σ ρ F H _ _ s va e1 λF1 H1 vs g1 a1=>⟨by rw[a1.length];exact r6 hl,λp hp=>?_⟩
 have g2:=Gr.hide g1.fh hp (.lst vs)
 have h0:H p=none:=by
  cases e:H p with
  | none=>rfl
  | some o =>
   cases e2:F p with
   | none=>rw[(g1.kp p o e2 e).2]at hp;cases hp
   | some u=>rw[g1.fh _ _ (g1.ff _ _ e2)]at hp;cases hp
 exact q _ _ _ _ (g1.trans g2) h0 (g1.fh.free hp) zn a1
end
end
end Dl
namespace Dl
open PySem L2
variable [KK]
inductive Sl where
 | no | v (d:D) | o (ds:List D) | m (t:Bool) (ks:List (List Key)) (vs:List D)
 deriving Inhabited
abbrev SE:=List Sl
def Sl.f:Sl->Option D
 | .v d=>some d
 | _=>none
def Sl.g:Sl->Option D
 | .v d=>some d
 | .o ds=>some (.lst ds)
 | .m t ks vs=>some (.dct false t ks vs)
 | .no=>none
def Sl.isO:Sl->Bool
 | .o _=>true
 | .m _ _ _=>true
 | _=>false
def visF (ρ:SE):Ev:=ρ.map Sl.f
def visG (ρ:SE):Ev:=ρ.map Sl.g
def zcs (F:Hp)(o:HO):Sl->Prop
 | .o ds=>∃ xs,o=.lst xs/\AtL F ds xs
 | .m t ks ds=>∃ xs,WI o t ks xs/\AtL F ds xs
 | _=>False
theorem zcs.mono {F F':Hp}{o:HO}{s:Sl}(h:zcs F o s)(k:yE F F'):zcs F' o s:=by
 cases s with
 | no=>exact h
 | v d=>exact h
 | o ds=>obtain⟨xs,e,a⟩:=h;exact⟨xs,e,a.mono k⟩
 | m t ks ds=>obtain⟨xs,e,a⟩:=h;exact⟨xs,e,a.mono k⟩
theorem zcs.isO {F:Hp}{o:HO}{s:Sl}(h:zcs F o s):s.isO=true:=by
 cases s with
 | no=>exact h.elim
 | v d=>exact h.elim
 | o ds=>rfl
 | m t ks ds=>rfl
theorem zcs.ntup {F:Hp}{o:HO}{s:Sl}(h:zcs F o s)(xs:List V):o≠.tup xs:=by
 cases s with
 | no=>exact h.elim
 | v d=>exact h.elim
 | o ds=>obtain⟨ys,rfl,_⟩:=h;intro e;cases e
 | m t ks ds =>
  obtain⟨ys,e,_⟩:=h
  unfold WI at e
  split at e
  .obtain⟨kvs,rfl,_⟩:=e;intro e;cases e
  .obtain⟨kvs,rfl,_⟩:=e;intro e;cases e
theorem zcs.at {F G:Hp}{o:HO}{s:Sl}{d:D}{p:Addr}(h:zcs F o s)(e:s.g=some d)(hp:G p=some o)(k:yE F G):At G d (.ref p):=by
 cases s with
 | no=>exact h.elim
 | v d=>exact h.elim
 | o ds =>
  cases e
  obtain⟨xs,rfl,a⟩:=h
  exact .lst hp (a.mono k)
 | m t ks ds =>
  cases e
  obtain⟨xs,e,a⟩:=h
  unfold At
  exact⟨p,xs,rfl,⟨o,e,hp⟩,a.mono k⟩
structure Rl (Fb Hb F H:Hp) (ρ:SE) (σ:St):Prop where
 gr:Gr Fb Hb F H
 vals:∀ (i:Nat) (d:D),ρ[i]?=some (.v d)->∃ v,σ[i]?=some (some v)/\At F d v
 ows:∀ (i:Nat) (s:Sl),ρ[i]?=some s->s.isO=true->∃ p o,σ[i]?=some (some (.ref p))/\Hb p=none/\F p=none/\H p=some o/\zcs F o s
 dis:∀ (i j:Nat) (p:Addr) (s t:Sl),ρ[i]?=some s->ρ[j]?=some t->s.isO=true->t.isO=true->σ[i]?=some (some (.ref p))->σ[j]?=some (some (.ref p))->i=j
 len:ρ.length=σ.length
section
variable {Fb Hb F H F' H':Hp}{ρ ρ':SE}{σ σ':St}
theorem Rl.owns (r:Rl Fb Hb F H ρ σ)(i:Nat)(ds:List D)(e:ρ[i]?=some (.o ds)):∃ p xs,σ[i]?=some (some (.ref p))/\Hb p=none/\F p=none/\H p=some (.lst xs)/\AtL F ds xs:=by
 obtain⟨p,o,e1,e2,e3,e4,xs,rfl,a⟩:=r.ows i _ e rfl
 exact⟨p,xs,e1,e2,e3,e4,a⟩
theorem Rl.grow (r:Rl Fb Hb F H ρ σ)(g:Gr F H F' H'):Rl Fb Hb F' H' ρ σ:=by
 refine⟨r.gr.trans g,λi d e=>?_,λi s e h=>?_,r.dis,r.len⟩
 .obtain⟨v,e1,a⟩:=r.vals i d e
  exact⟨v,e1,a.mono g.ff⟩
 .obtain⟨p,o,e1,e2,e3,e4,a⟩:=r.ows i s e h
  obtain⟨k1,k2⟩:=g.kl a.ntup e3 e4
  exact⟨p,o,e1,e2,k1,k2,a.mono g.ff⟩
theorem Rl.visF (r:Rl Fb Hb F H ρ σ):VAt F (visF ρ) σ:=λi d e=>by
 unfold Dl.visF at e
 rw[j4]at e
 cases h:ρ[i]? with
 | none=>rw[h]at e;cases e
 | some x =>
  rw[h]at e
  cases x with
  | no=>cases e
  | v d' =>
   cases e
   exact r.vals i d h
  | o ds=>cases e
  | m t ks ds=>cases e
def Own (ρ:SE)(σ:St)(p:Addr):Prop:=∃ (i:Nat) (s:Sl),ρ[i]?=some s/\s.isO=true/\σ[i]?=some (some (.ref p))
open Classical in
noncomputable def gOf (ρ:SE)(σ:St)(F H:Hp):Hp:=λp=>if Own ρ σ p then H p else F p
open Classical in
noncomputable def fOf (ρ:SE)(σ:St)(G:Hp):Hp:=λp=>if Own ρ σ p then none else G p
theorem Rl.own (r:Rl Fb Hb F H ρ σ){p:Addr}(h:Own ρ σ p):Hb p=none/\F p=none/\∃ o,H p=some o/\∀ xs,o≠.tup xs:=by
 obtain⟨i,s,e1,e2,e3⟩:=h
 obtain⟨q,o,e4,e5,e6,e7,a⟩:=r.ows i s e1 e2
 rw[e3]at e4
 cases e4
 exact⟨e5,e6,o,e7,a.ntup⟩
theorem Rl.notown (r:Rl Fb Hb F H ρ σ){q:Addr}(h:H q=none)(j:Nat)(s:Sl)(e1:ρ[j]?=some s)(e2:s.isO=true):σ[j]?≠some (some (.ref q)):=λe=>by
 obtain⟨p,o,f1,_,_,f4,_⟩:=r.ows j s e1 e2
 rw[e]at f1
 cases f1
 rw[h]at f4
 cases f4
theorem Rl.notbase (r:Rl Fb Hb F H ρ σ){q:Addr}(h:H q=none):Hb q=none:=by
 cases z:Hb q with
 | none=>rfl
 | some o =>
  cases z2:Fb q with
  | none=>rw[(r.gr.kp q o z2 z).2]at h;cases h
  | some u=>rw[r.gr.fh _ _ (r.gr.ff _ _ z2)]at h;cases h
theorem Rl.fg (r:Rl Fb Hb F H ρ σ):yE F (gOf ρ σ F H):=λp o e=>by
 unfold gOf
 split
 .exact r.gr.fh p o e
 .exact e
theorem Rl.gh (r:Rl Fb Hb F H ρ σ):yE (gOf ρ σ F H) H:=λp o e=>by
 unfold gOf at e
 split at e
 .exact e
 .exact r.gr.fh p o e
theorem Rl.visG (r:Rl Fb Hb F H ρ σ):VAt (gOf ρ σ F H) (visG ρ) σ:=λi d e=>by
 unfold Dl.visG at e
 rw[j4]at e
 cases h:ρ[i]? with
 | none=>rw[h]at e;cases e
 | some x =>
  rw[h]at e
  have e:x.g=some d:=p9 e
  have own:x.isO=true->∃ v,σ[i]?=some (some v)/\At (gOf ρ σ F H) d v:=λhx=>by
   obtain⟨p,o,e1,e2,e3,e4,a⟩:=r.ows i x h hx
   refine⟨_,e1,a.at e ?_ r.fg⟩
   unfold gOf
   rw[t7 ⟨i,x,h,hx,e1⟩]
   exact e4
  cases x with
  | no=>cases e
  | v d' =>
   cases e
   obtain⟨v,e1,a⟩:=r.vals i d h
   exact⟨v,e1,a.mono r.fg⟩
  | o ds=>exact own rfl
  | m t ks ds=>exact own rfl
theorem Rl.back {G':Hp}(r:Rl Fb Hb F H ρ σ)(g:Gr (gOf ρ σ F H) H G' H'):Gr F H (fOf ρ σ G') H'/\∀ q xs,G' q=some (.tup xs)->fOf ρ σ G' q=some (.tup xs):=by
 refine⟨⟨λp o e=>?_,λp o e=>?_,λp o e1 e2=>?_⟩,λq xs e=>?_⟩
 .unfold fOf
  rw[j7 (λh=>by rw[(r.own h).2.1]at e;cases e)]
  exact g.ff p o (r.fg p o e)
 .unfold fOf at e
  split at e
  .cases e
  .exact g.fh p o e
 .by_cases h:Own ρ σ p
  .refine⟨.inl (by unfold fOf;rw[t7 h]),g.fh p o (g.ff p o ?_)⟩
   unfold gOf
   rw[t7 h]
   exact e2
  .obtain⟨x,y⟩:=g.kp p o (by unfold gOf;rw[j7 h];exact e1) e2
   refine⟨?_,y⟩
   unfold Hid fOf
   rw[j7 h]
   exact x
 .unfold fOf
  rw[j7 (λh=>?_)]
  .exact e
  .obtain⟨_,_,o,e2,n⟩:=r.own h
   have:G' q=some o:=g.ff q _ (by unfold gOf;rw[t7 h];exact e2)
   rw[this]at e
   cases e
   exact n xs rfl
theorem Rl.out {G':Hp}(r:Rl Fb Hb F H ρ σ)(g:Gr (gOf ρ σ F H) H G' H'):Gr Fb Hb G' H':=by
 refine⟨λp o e=>g.ff p o (r.fg p o (r.gr.ff p o e)),g.fh,λp o e1 e2=>?_⟩
 obtain⟨k1,k2⟩:=r.gr.kp p o e1 e2
 have e3:gOf ρ σ F H p=F p:=by
  unfold gOf
  rw[j7 (λh=>by rw[(r.own h).1]at e2;cases e2)]
 rcases k1 with k1 | ⟨k1,k3⟩
 .exact g.kp p o (by rw[e3];exact k1) k2
 .have:=g.ff p o (by rw[e3];exact k3)
  exact⟨.inr ⟨k1,this⟩,g.fh _ _ this⟩
theorem Rl.set (r:Rl Fb Hb F H ρ σ){i:Nat}{d:D}{v:V}(a:At F d v):Rl Fb Hb F H (ρ.set i (.v d)) (σ.set i (some v)):=by
 have nj:∀ {j:Nat} {s:Sl},(ρ.set i (.v d))[j]?=some s->s.isO=true->i≠j:=λ{j s} h ho e=>by
  subst e
  rw[u1N]at h
  simp only[u21]at h
  split at h <;> cases h
  cases ho
 refine⟨r.gr,λj e h=>?_,λj s h ho=>?_,λj k p s t h1 h2 o1 o2 h3 h4=>?_,by simp[r.len]⟩
 .by_cases hj:i=j
  .subst hj
   rw[u1N]at h
   simp only[u21]at h
   split at h
   .rename_i hl
    cases h
    refine⟨v,?_,a⟩
    rw[u1N]
    simp[<-r.len,hl]
   .cases h
  .rw[d7 hj]at h ⊢
   exact r.vals j e h
 .have hj:=nj h ho
  rw[d7 hj]at h ⊢
  exact r.ows j s h ho
 .have a1:=nj h1 o1
  have a2:=nj h2 o2
  rw[d7 a1]at h1 h3
  rw[d7 a2]at h2 h4
  exact r.dis j k p s t h1 h2 o1 o2 h3 h4
theorem Rl.setW (r:Rl Fb Hb F H ρ σ){i:Nat}{w:Sl}{p:Addr}{o:HO}(h0:Hb p=none)(hF:F p=none)(hH:H p=some o)(a:zcs F o w)
 (nw:∀ (j:Nat) (s:Sl),ρ[j]?=some s->s.isO=true->σ[j]?≠some (some (.ref p))):Rl Fb Hb F H (ρ.set i w) (σ.set i (some (.ref p))):=by
 have at_i:∀ {s:Sl},(ρ.set i w)[i]?=some s->i < ρ.length/\s=w:=λ{s} h=>by
  rw[u1N]at h
  simp only[u21]at h
  split at h
  .rename_i hl
   cases h
   exact⟨hl,rfl⟩
  .cases h
 have st_i:i < ρ.length->(σ.set i (some (V.ref p)))[i]?=some (some (.ref p)):=λhl=>by
  rw[u1N]
  simp[<-r.len,hl]
 refine⟨r.gr,λj e h=>?_,λj s h ho=>?_,λj k q s t h1 h2 o1 o2 h3 h4=>?_,by simp[r.len]⟩
 .by_cases hj:i=j
  .subst hj
   have e:=(at_i h).2
   have:=a.isO
   rw[<-e]at this
   cases this
  .rw[d7 hj]at h ⊢
   exact r.vals j e h
 .by_cases hj:i=j
  .subst hj
   obtain⟨hl,e⟩:=at_i h
   subst e
   exact⟨p,o,st_i hl,h0,hF,hH,a⟩
  .rw[d7 hj]at h ⊢
   exact r.ows j s h ho
 .by_cases hj:i=j
  .subst hj
   by_cases hk:i=k
   .exact hk
   .obtain⟨hl,_⟩:=at_i h1
    rw[st_i hl]at h3
    cases h3
    rw[d7 hk]at h2 h4
    exact absurd h4 (nw k t h2 o2)
  .by_cases hk:i=k
   .subst hk
    obtain⟨hl,_⟩:=at_i h2
    rw[st_i hl]at h4
    cases h4
    rw[d7 hj]at h1 h3
    exact absurd h3 (nw j s h1 o1)
   .rw[d7 hj]at h1 h3
    rw[d7 hk]at h2 h4
    exact r.dis j k q s t h1 h2 o1 o2 h3 h4
theorem Rl.setO (r:Rl Fb Hb F H ρ σ){i:Nat}{ds:List D}{p:Addr}{xs:List V}(h0:Hb p=none)(hF:F p=none)(hH:H p=some (.lst xs))(a:AtL F ds xs)
 (nw:∀ (j:Nat) (s:Sl),ρ[j]?=some s->s.isO=true->σ[j]?≠some (some (.ref p))):Rl Fb Hb F H (ρ.set i (.o ds)) (σ.set i (some (.ref p))):=r.setW h0 hF hH ⟨xs,rfl,a⟩ nw
theorem Rl.mutW (r:Rl Fb Hb F H ρ σ){i:Nat}{w w':Sl}{p:Addr}{o':HO}(e:ρ[i]?=some w)(hw:w.isO=true)(e1:σ[i]?=some (some (.ref p)))(a:zcs F o' w'):Rl Fb Hb F (upd H p o') (ρ.set i w') σ:=by
 obtain⟨q,o,e2,h0,hF,hH,_⟩:=r.ows i w e hw
 rw[e1]at e2
 cases e2
 have hi:i < ρ.length:=(u9.mp e).1
 have neP:∀ {j:Nat} {s:Sl} {q:Addr},i≠j->ρ[j]?=some s->s.isO=true->σ[j]?=some (some (.ref q))->q≠p:=λ{j s q} hne h1 ho h2 z=>by
  subst z
  exact hne (r.dis i j q w s e h1 hw ho e1 h2)
 refine⟨⟨r.gr.ff,λb o z=>?_,λb o z1 z2=>?_⟩,λj d h=>?_,λj s h ho=>?_,λj k q s t h1 h2 o1 o2 h3 h4=>?_,by simp[r.len]⟩
 .rw[zm (zp z hF)]
  exact r.gr.fh b o z
 .rw[zm (zp z2 h0)]
  exact r.gr.kp b o z1 z2
 .by_cases hj:i=j
  .subst hj
   rw[u0B hi]at h
   cases h
   exact(Bool.noConfusion a.isO)
  .rw[d7 hj]at h
   exact r.vals j d h
 .by_cases hj:i=j
  .subst hj
   rw[u0B hi]at h
   cases h
   exact⟨p,o',e1,h0,hF,zn,a⟩
  .rw[d7 hj]at h
   obtain⟨q,z,f1,f2,f3,f4,f5⟩:=r.ows j s h ho
   refine⟨q,z,f1,f2,f3,?_,f5⟩
   rw[zm (neP hj h ho f1)]
   exact f4
 .have back:∀ {j:Nat} {s:Sl},(ρ.set i w')[j]?=some s->s.isO=true->∃ s',ρ[j]?=some s'/\s'.isO=true:=λ{j s} h ho=>by
   by_cases hj:i=j
   .subst hj;exact⟨w,e,hw⟩
   .rw[d7 hj]at h;exact⟨s,h,ho⟩
  obtain⟨f1,g1,g1'⟩:=back h1 o1
  obtain⟨f2,g2,g2'⟩:=back h2 o2
  exact r.dis j k q f1 f2 g1 g2 g1' g2' h3 h4
theorem Rl.mutate (r:Rl Fb Hb F H ρ σ){i:Nat}{ds es:List D}{p:Addr}{ys:List V}(e:ρ[i]?=some (.o ds))(e1:σ[i]?=some (some (.ref p)))(a:AtL F es ys):Rl Fb Hb F (upd H p (.lst ys)) (ρ.set i (.o es)) σ :=
 r.mutW e rfl e1 ⟨ys,rfl,a⟩
def Sl.fz:Sl->Sl
 | .o ds=>.v (.lst ds)
 | .m t ks vs=>.v (.dct false t ks vs)
 | s=>s
def zma (ρ:SE)(i:Nat):SE:=ρ.set i ((ρ[i]?).getD .no).fz
theorem Rl.freeze (r:Rl Fb Hb F H ρ σ)(i:Nat):∃ F',Rl Fb Hb F' H (zma ρ i) σ:=by
 unfold zma
 cases h:ρ[i]? with
 | none =>
  refine⟨F,?_⟩
  rw[List.set_eq_of_length_le (List.getElem?_eq_none_iff.mp h)]
  exact r
 | some s =>
  have hi:i < ρ.length:=(u9.mp h).1
  have same:s.fz=s->∃ F',Rl Fb Hb F' H (ρ.set i ((some s).getD .no).fz) σ:=λe=>by
   refine⟨F,?_⟩
   show Rl Fb Hb F H (ρ.set i s.fz) σ
   rw[e]
   have:ρ.set i s=ρ:=by
    apply u1t
    intro j
    by_cases hj:i=j
    .subst hj;rw[u0B hi,h]
    .rw[d7 hj]
   rw[this]
   exact r
  have give:∀ d,s.isO=true->s.g=some d->s.fz=.v d->∃ F',Rl Fb Hb F' H (ρ.set i ((some s).getD .no).fz) σ:=λd ho hg hz=>by
   obtain⟨p,o,e1,e2,e3,e4,a⟩:=r.ows i s h ho
   have sF:yE F (upd F p o):=λb u e=>by rw[zm (zp e e3)];exact e
   show ∃ F',Rl Fb Hb F' H (ρ.set i s.fz) σ
   rw[hz]
   have nj:∀ {j:Nat} {t:Sl},(ρ.set i (.v d))[j]?=some t->t.isO=true->i≠j:=λ{j t} h ht e=>by
    subst e
    rw[u0B hi]at h
    cases h
    cases ht
   refine⟨upd F p o,r.gr.show e2 e3 e4,λj e z=>?_,λj t z ht=>?_,λj k q t u h1 h2 o1 o2 h3 h4=>?_,by simp[r.len]⟩
   .by_cases hj:i=j
    .subst hj
     rw[u0B hi]at z
     cases z
     exact⟨_,e1,a.at hg zn sF⟩
    .rw[d7 hj]at z
     obtain⟨v,f1,f2⟩:=r.vals j e z
     exact⟨v,f1,f2.mono sF⟩
   .have hj:=nj z ht
    rw[d7 hj]at z
    obtain⟨q,y,f1,f2,f3,f4,f5⟩:=r.ows j t z ht
    refine⟨q,y,f1,f2,?_,f4,f5.mono sF⟩
    rw[zm (λw=>hj (r.dis i j p s t h z ho ht e1 (by rw[<-w];exact f1)))]
    exact f3
   .have a1:=nj h1 o1
    have a2:=nj h2 o2
    rw[d7 a1]at h1
    rw[d7 a2]at h2
    exact r.dis j k q t u h1 h2 o1 o2 h3 h4
  cases s with
  | no=>exact same rfl
  | v d=>exact same rfl
  | o ds=>exact give _ rfl rfl rfl
  | m t ks ds=>exact give _ rfl rfl rfl
end
inductive Ctl where
 | nx (ρ:SE) | rt (d:D) | bk (ρ:SE) | ct (ρ:SE) | no
 deriving Inhabited
def SOk (Fb Hb:Hp)(E:zgJ):Ctl->Prop
 | .nx ρ=>∀ F H σ,Rl Fb Hb F H ρ σ->E.nx σ H
 | .bk ρ=>∀ F H σ,Rl Fb Hb F H ρ σ->E.bk σ H
 | .ct ρ=>∀ F H σ,Rl Fb Hb F H ρ σ->E.ct σ H
 | .rt d=>∀ F H v,Gr Fb Hb F H->At F d v->E.rt v H
 | .no=>False
def RS (t:TS)(g:SE->Ctl):Prop:=∀ (Fb Hb F H:Hp) (ρ:SE) (σ:St) (E:zgJ),Rl Fb Hb F H ρ σ->SOk Fb Hb E (g ρ)->t E σ H
def SD (X:Cx)(st:Stmt)(g:SE->Ctl):Prop:=∃ t,PS X st t/\RS t g
def SDs (X:Cx)(sts:List Stmt)(g:SE->Ctl):Prop:=∃ t,PSs X sts t/\RS t g
section
variable {X:Cx}{st:Stmt}{sts:List Stmt}{a b c e:Expr}{pos pos':Pos}
def zE:SE->Ctl:=.nx
def zG (g h:SE->Ctl):SE->Ctl:=fun ρ=>match g ρ with
 | .nx ρ'=>h ρ'
 | .rt d=>.rt d
 | .bk ρ'=>.bk ρ'
 | .ct ρ'=>.ct ρ'
 | .no=>.no
theorem zA:SDs X [] zE:=⟨_,ziD,λ_ _ F H ρ σ E r h=>h F H σ r⟩
theorem ze {g h:SE->Ctl}(h1:SD X st g)(h2:SDs X sts h):SDs X (st::sts) (zG g h):=by
 obtain⟨t,p,r⟩:=h1
 obtain⟨u,p2,r2⟩:=h2
 refine⟨_,zhk p p2,λFb Hb F H ρ σ E rl k=>?_⟩
 refine r Fb Hb F H ρ σ { E with nx:=u E } rl ?_
 unfold zG at k
 cases e:g ρ with
 | nx ρ' =>
  rw[e]at k
  exact λF' H' σ' rl'=>r2 Fb Hb F' H' ρ' σ' E rl' k
 | rt d=>rw[e]at k;exact k
 | bk d=>rw[e]at k;exact k
 | ct d=>rw[e]at k;exact k
 | no=>rw[e]at k;exact k
theorem zi {g:SE->Ctl}(h1:SD X st g):SDs X [st] g:=let ⟨_,p,r⟩:=h1;⟨_,zjF p,r⟩
def sFz (i:Nat)(g:SE->Ctl):SE->Ctl:=fun ρ=>g (zma ρ i)
theorem Wj {g:SE->Ctl}(i:Nat)(h:SDs X sts g):SDs X sts (sFz i g):=by
 obtain⟨t,p,r⟩:=h
 refine⟨_,p,λFb Hb F H ρ σ E rl k=>?_⟩
 obtain⟨F',rl'⟩:=rl.freeze i
 exact r Fb Hb F' H _ σ E rl' k
def sNo:SE->Ctl:=λ_=>.no
theorem zbU:SD X st sNo:=⟨_,zgr,λ_ _ _ _ _ _ _ _ h=>h.elim⟩
def yj (f:Ev->Option D):SE->Ctl:=fun ρ=>match f (visG ρ) with
 | some d=>.rt d
 | none=>.no
theorem zw {f:Ev->Option D}(h:ED X e f):SD X (.Return (some e) pos) (yj f):=by
 obtain⟨t,p,r⟩:=h
 refine⟨_,zlU p,λFb Hb F H ρ σ E rl k=>?_⟩
 unfold yj at k
 cases h:f (visG ρ) with
 | none=>rw[h]at k;exact k.elim
 | some d =>
  rw[h]at k
  exact r σ _ _ H d _ rl.gh rl.visG h λF' H' v g av=>k F' H' v (rl.out g) av
def vn:SE->Ctl:=λ_=>.rt .non
def vEv (m:Bool)(f:Ev->Option D)(ρ:SE):Option D:=if m=true then (f (visG ρ)).bind λd=>if noL d=true then some d else none else f (visF ρ)
theorem RE.at {Fb Hb F H:Hp}{ρ:SE}{σ:St}{m:Bool}{f:Ev->Option D}{t:TE}{d:D}{Q:VK}(r:RE t f)(rl:Rl Fb Hb F H ρ σ)(h:vEv m f ρ=some d)(q:∀ F' H' v,Gr F H F' H'->At F' d v->Q v H'):t σ H Q:=by
 unfold vEv at h
 cases m with
 | false =>
  rw[j7 u8]at h
  exact r σ _ _ H d _ rl.gr.fh rl.visF h q
 | true =>
  rw[t7 rfl]at h
  obtain⟨d',h1,h2⟩:=u4.mp h
  split at h2 <;> cases h2
  rename_i hn
  refine r σ _ _ H d _ rl.gh rl.visG h1 λF' H' v g av=>?_
  obtain⟨g2,fl⟩:=rl.back g
  exact q _ H' v g2 (av.flat fl hn)
def xc (m:Bool)(i:Nat)(f:Ev->Option D):SE->Ctl:=fun ρ=>match vEv m f ρ with
 | some d=>.nx (ρ.set i (.v d))
 | none=>.no
theorem yA {m:Bool}{i:Nat}{x:Str}{f:Ev->Option D}(hN:X.N.Nodup)(hi:X.N[i]?=some x)(hx:Loc X.env.scope x)(he:ED X e f)(hs:swapsWith e (some (.Name x pos')) pos.line X.env=pure false:=by rfl)
 (hf:X.fn x=true\/X.env.scope.names.lookup x=some .local:=by first | exact .inl rfl | exact .inr rfl | assumption):SD X (.Assign [.Name x pos'] e pos) (xc m i f):=by
 obtain⟨t,p,r⟩:=he
 refine⟨_,V0 hN hi hx p hs hf,λFb Hb F H ρ σ E rl k=>?_⟩
 unfold xc at k
 cases h:vEv m f ρ with
 | none=>rw[h]at k;exact k.elim
 | some d =>
  rw[h]at k
  exact r.at rl h λF' H' v g av=>k F' H' _ ((rl.grow g).set av)
def ZJ (f:Ev->Option D):SE->Ctl:=fun ρ=>match f (visG ρ) with
 | some _=>.nx ρ
 | none=>.no
theorem zd3 {f:Ev->Option D}(he:ED X e f)(hs:swapsWith e none pos.line X.env=pure false:=by rfl):SD X (.Expr e pos) (ZJ f):=by
 obtain⟨t,p,r⟩:=he
 refine⟨_,zbu p hs,λFb Hb F H ρ σ E rl k=>?_⟩
 unfold ZJ at k
 cases h:f (visG ρ) with
 | none=>rw[h]at k;exact k.elim
 | some d =>
  rw[h]at k
  exact r σ _ _ H d _ rl.gh rl.visG h λF' H' v g av=>k _ H' σ (rl.grow (rl.back g).1)
def Yt (i:Nat)(f:Ev->Option (List D)):SE->Ctl:=fun ρ=>match f (visF ρ) with
 | some ds=>.nx (ρ.set i (.o ds))
 | none=>.no
theorem Xc {i:Nat}{x:Str}{f:Ev->Option (List D)}(hN:X.N.Nodup)(hi:X.N[i]?=some x)(hx:Loc X.env.scope x)(he:FL X e f)(hs:swapsWith e (some (.Name x pos')) pos.line X.env=pure false:=by rfl)
 (hf:X.fn x=true\/X.env.scope.names.lookup x=some .local:=by first | exact .inl rfl | exact .inr rfl | assumption):SD X (.Assign [.Name x pos'] e pos) (Yt i f):=by
 obtain⟨t,p,r⟩:=he
 refine⟨_,V0 hN hi hx p hs hf,λFb Hb F H ρ σ E rl k=>?_⟩
 unfold Yt at k
 cases h:f (visF ρ) with
 | none=>rw[h]at k;exact k.elim
 | some ds =>
  rw[h]at k
  refine r σ _ _ H ds _ rl.gr.fh rl.visF h λF' H' q xs g h0 hF hH hx=>?_
  have rl2:=rl.grow g
  exact k F' H' _ (rl2.setO (rl.notbase h0) hF hH hx (rl.notown h0))
def sIf (t:Ev->Option Bool)(g h:SE->Ctl):SE->Ctl:=fun ρ=>match t (visG ρ) with
 | some true=>g ρ
 | some false=>h ρ
 | none=>.no
theorem yX {as bs:List Stmt}{t:Ev->Option Bool}{g h:SE->Ctl}(hc:TD X c t)(ha:SDs X as g)(hb:SDs X bs h):SD X (.If c as bs pos) (sIf t g h):=by
 obtain⟨tc,pc,rc⟩:=hc
 obtain⟨ta,pa,ra⟩:=ha
 obtain⟨tb,pb,rb⟩:=hb
 refine⟨_,zmz pc pa pb,λFb Hb F H ρ σ E rl k=>?_⟩
 unfold sIf at k
 cases h:t (visG ρ) with
 | none=>rw[h]at k;exact k.elim
 | some d =>
  rw[h]at k
  refine rc σ _ _ H d _ rl.gh rl.visG h λF' H' g=>?_
  have rl2:=rl.grow (rl.back g).1
  cases d with
  | true=>rw[t7 rfl];exact ra Fb Hb _ H' ρ σ E rl2 k
  | false=>rw[j7 u8];exact rb Fb Hb _ H' ρ σ E rl2 k
def vv (t:Ev->Option Bool)(g:SE->Ctl):Nat->SE->Ctl
 | 0,_=>.no
 | n+1,ρ=>match t (visG ρ) with
  | some true=>match g ρ with
   | .nx ρ'=>vv t g n ρ'
   | .ct ρ'=>vv t g n ρ'
   | .bk ρ'=>.nx ρ'
   | .rt d=>.rt d
   | .no=>.no
  | some false=>.nx ρ
  | none=>.no
theorem VQ {as:List Stmt}{t:Ev->Option Bool}{g:SE->Ctl}(n:Nat)(hp:PassesOwn (model X.prog X.w) X.A X.env X.xe)(hc:TD X c t)(ha:SDs X as g):SD X (.While c as [] pos) (vv t g n):=by
 obtain⟨tc,pc,rc⟩:=hc
 obtain⟨ta,pa,ra⟩:=ha
 refine⟨_,zgu hp pc pa,λFb Hb F H ρ σ E rl k=>?_⟩
 refine⟨λm σ H=>∃ F ρ,Rl Fb Hb F H ρ σ/\SOk Fb Hb E (vv t g m ρ),⟨n,F,ρ,rl,k⟩,?_⟩
 rintro m σ H ⟨F,ρ,rl,k⟩
 cases m with
 | zero=>exact k.elim
 | succ m =>
  unfold vv at k
  cases h:t (visG ρ) with
  | none=>rw[h]at k;exact k.elim
  | some d =>
   rw[h]at k
   refine rc σ _ _ H d _ rl.gh rl.visG h λF' H' gr=>?_
   have rl2:=rl.grow (rl.back gr).1
   cases d with
   | false=>rw[j7 u8];exact k _ H' σ rl2
   | true =>
    rw[t7 rfl]
    refine⟨fun σ H=>∃ F ρ,Rl Fb Hb F H ρ σ/\SOk Fb Hb E (vv t g m ρ),fun σ' H' w=>⟨m,u2q m,w⟩,?_⟩
    refine ra Fb Hb _ H' ρ σ _ rl2 ?_
    dsimp only at k
    cases hg:g ρ with
    | nx ρ'=>rw[hg]at k;exact λF2 H2 σ2 r2=>⟨F2,ρ',r2,k⟩
    | ct ρ'=>rw[hg]at k;exact λF2 H2 σ2 r2=>⟨F2,ρ',r2,k⟩
    | bk ρ'=>rw[hg]at k;exact k
    | rt d=>rw[hg]at k;exact k
    | no=>rw[hg]at k;exact k.elim
def RG (t:TG)(b:D->SE->Option SE):Prop:=∀ (Fb Hb F H:Hp) (ρ ρ':SE) (σ:St) (d:D) (v:V) (Q:St->Hp->Prop),Rl Fb Hb F H ρ σ->At F d v->b d ρ=some ρ'->(∀ σ',Rl Fb Hb F H ρ' σ'->Q σ' H)->t v σ H Q
def RGs (t:TGs)(b:List D->SE->Option SE):Prop:=∀ (Fb Hb F H:Hp) (ρ ρ':SE) (σ:St) (ds:List D) (vs:List V) (Q:St->Hp->Prop),Rl Fb Hb F H ρ σ->AtL F ds vs->b ds ρ=some ρ'->(∀ σ',Rl Fb Hb F H ρ' σ'->Q σ' H)->t vs σ H Q
def BD (X:Cx)(tg:Expr)(b:D->SE->Option SE):Prop:=∃ t,PG X tg t/\RG t b
def BDs (X:Cx)(tgs:List Expr)(b:List D->SE->Option SE):Prop:=∃ t,PGs X tgs t/\RGs t b
def zL (i:Nat):D->SE->Option SE:=λd ρ=>some (ρ.set i (.v d))
theorem zK {i:Nat}(h:PG X a (Y6 i)):BD X a (zL i):=by
 refine⟨_,h,λFb Hb F H ρ ρ' σ d v Q rl av e q=>?_⟩
 cases e
 exact q _ (rl.set av)
def Zh:List D->SE->Option SE
 | [],ρ=>some ρ
 | _,_=>none
def yp (b:D->SE->Option SE)(c:List D->SE->Option SE):List D->SE->Option SE
 | d::ds,ρ=>(b d ρ).bind (c ds)
 | [],_=>none
theorem Zd:BDs X [] Zh:=by
 refine⟨_,XV,λFb Hb F H ρ ρ' σ ds vs Q rl av e q=>?_⟩
 cases ds with
 | nil=>cases e;exact⟨av.nil_inv,q _ rl⟩
 | cons _ _=>cases e
theorem yq {es:List Expr}{b:D->SE->Option SE}{c:List D->SE->Option SE}(h1:BD X e b)(h2:BDs X es c)
 (hs:(assignEach (e::es) X.env).map (·.2)=assign e X.env::(assignEach es X.env).map (·.2):=by rfl):BDs X (e::es) (yp b c):=by
 obtain⟨t,p,r⟩:=h1
 obtain⟨u,p2,r2⟩:=h2
 refine⟨_,wt p p2 hs,λFb Hb F H ρ ρ' σ ds vs Q rl av e q=>?_⟩
 cases ds with
 | nil=>cases e
 | cons d ds =>
  obtain⟨x,xs,rfl,a1,a2⟩:=av.cons_inv
  obtain⟨ρ1,e1,e2⟩:=u4.mp e
  exact⟨x,xs,rfl,r Fb Hb F H ρ ρ1 σ d x _ rl a1 e1 fun σ1 rl1=>r2 Fb Hb F H ρ1 ρ' σ1 ds xs Q rl1 a2 e2 q⟩
def Zg (n:Nat)(c:List D->SE->Option SE):D->SE->Option SE
 | .tup ds,ρ=>if ds.length=n then c ds ρ else none
 | _,_=>none
theorem Ws {es:List Expr}{k:Nat}{n:Nat}{c:List D->SE->Option SE}(hc:X.calm=true)(h:BDs X es c)
 (hn:(assignEach es X.env).length=n:=by rfl) (hst:(assignEach es X.env).findIdx? (·.1)=none:=by rfl):BD X (.Tuple es k pos) (Zg n c):=by
 obtain⟨t,p,r⟩:=h
 refine⟨_,V9 hc p hn hst,λFb Hb F H ρ ρ' σ d v Q rl av e q=>?_⟩
 cases d with
 | tup ds =>
  unfold Zg at e
  dsimp only at e
  split at e
  .rename_i hl
   obtain⟨a,xs,rfl,hx,al⟩:=av.tup_inv
   exact⟨a,xs,rfl,SqT.of (rl.gr.fh _ _ hx),by rw[al.length];exact hl,r Fb Hb F H ρ ρ' σ ds xs Q rl al e q⟩
  .cases e
 | _=>cases e
def WO (m:Bool)(f:Ev->Option D)(b:D->SE->Option SE):SE->Ctl:=fun ρ=>match (vEv m f ρ).bind λd=>b d ρ with
 | some ρ'=>.nx ρ'
 | none=>.no
def ZH (m:Bool)(i:Nat)(fk fe:Ev->Option D):SE->Ctl:=fun ρ=>match (vEv m fe ρ).bind λd=>(fk (visG ρ)).bind λk=>match ρ[i]?,k with
 | some (.o ds),.int k=>(ixN ds.length k).map λj=>ρ.set i (.o (ds.set j d))
 | _,_=>none with
 | some ρ'=>.nx ρ'
 | none=>.no
theorem zhV {m:Bool}{i:Nat}{ko:Expr}{fk fe:Ev->Option D}(he:ED X e fe)(ho:PE X a (zjD i))(hk:ED X ko fk)(hs:swapsWithSole [.Subscript a ko pos'] e pos.line X.env=pure false:=by rfl)(hw:swappedStores [.Subscript a ko pos'] e X.env=pure none:=by rfl)
 (h1:(assignEach [.Subscript a ko pos'] X.env).map (·.2)=[assign (.Subscript a ko pos') X.env]:=by rfl)
 (ha:∀ v,assign (.Subscript a ko pos') X.env v=(do
  let ov<-holding [v] (eval a X.env)
  let iv<-holding [v,ov] (eval ko X.env)
  standAt pos'
  holding [v,ov,iv] (setItem ov iv v)
  release [v,ov,iv] []):=by intro _;rfl):SD X (.Assign [.Subscript a ko pos'] e pos) (ZH m i fk fe):=by
 obtain⟨t,p,r⟩:=he
 obtain⟨tk,pk,rk⟩:=hk
 refine⟨_,zkh p (zkm ho pk zgH ha) hs hw h1,λFb Hb F H ρ σ E rl k=>?_⟩
 unfold ZH at k
 cases h:(vEv m fe ρ).bind λd=>(fk (visG ρ)).bind λk=>match ρ[i]?,k with
  | some (.o ds),.int k=>(ixN ds.length k).map λj=>ρ.set i (.o (ds.set j d))
  | _,_=>none with
 | none=>rw[h]at k;exact k.elim
 | some ρ' =>
  rw[h]at k
  obtain⟨d,e1,e2⟩:=u4.mp h
  obtain⟨kd,e3,e2⟩:=u4.mp e2
  cases hs:ρ[i]? with
  | none=>rw[hs]at e2;cases e2
  | some sl =>
   rw[hs]at e2
   cases sl with
   | no=>cases e2
   | v _=>cases e2
   | m _ _ _=>cases e2
   | o ds =>
    cases kd with
    | int kk =>
     obtain⟨j,e4,rfl⟩:=u7.mp e2
     refine r.at rl e1 λF' H' v g av=>?_
     have rl2:=rl.grow g
     obtain⟨q,xs,f1,_⟩:=rl2.owns i ds hs
     refine⟨_,f1,?_⟩
     refine rk σ _ _ H' _ _ rl2.gh rl2.visG e3 λF3 H3 v3 g3 av3=>?_
     obtain⟨gb,_⟩:=rl2.back g3
     have rl3:=rl2.grow gb
     obtain⟨q3,xs3,f1',_,_,f4,f5⟩:=rl3.owns i ds hs
     rw[f1]at f1'
     cases f1'
     refine⟨q,xs3,kk,j,rfl,av3.int_inv,f4,by rw[f5.length];exact e4,?_⟩
     exact k _ _ σ (rl3.mutate hs f1 (f5.set j (av.mono gb.ff)))
    | _=>cases e2
end
end Dl
namespace L2
open PySem PySem.Spec PyProof.Rows
section
variable {X:Cx}{tg:Expr}
def iSeq (K:W.Frag)(tl:TE):TI:=fun σ H R=>tl σ H λx H1=>(∃ a,x=.ref a/\(∃ xs,SqL K H1 a xs)/\R (Itl K a) H1)\/(∃ a,x=.ref a/\(∃ xs,SqT K H1 a xs)/\R (Itt K a) H1)
theorem zlp {l:Expr}{tl:TE}(hl:PE X l tl):PI X tg l (iSeq X.K tl):=by
 intro pins s σ H R I h
 refine thn (hl pins s σ H _ I h) λv s1 hh9=>?_
 obtain⟨x,H1,I1,r1,q1⟩:=hh9
 rcases q1 with ⟨a,e,⟨xs,hq⟩,q⟩ | ⟨a,e,⟨xs,hq⟩,q⟩
 .subst e
  cases r1
  obtain⟨its,rv,p,hz⟩:=I1.list hq
  refine u1j p.isList ?_
  refine⟨s1.heap.objs.size,[s1.heap.objs.size],_,_,H1,rfl,I1.kept (t':=s1.toks) λb o e=>u3 _ e,zd9 a _,⟨_,t6 _ rfl,rfl,rfl⟩,λb hb=>?_,q⟩
  have e:b=s1.heap.objs.size:=by simpa using hb
  subst e
  exact I1.fpOk (t5 _) (I1.hok.fresh (t5 _))
 .subst e
  cases r1
  obtain⟨its,rv,p,hz⟩:=I1.tuple hq
  refine u0S (show s1.heap.IsTuple a its.toArray from p) ?_
  refine⟨s1.heap.objs.size,[s1.heap.objs.size],_,_,H1,rfl,I1.kept (t':=s1.toks) λb o e=>u3 _ e,zdj a _,⟨_,t6 _ rfl,rfl,rfl⟩,λb hb=>?_,q⟩
  have e:b=s1.heap.objs.size:=by simpa using hb
  subst e
  exact I1.fpOk (t5 _) (I1.hok.fresh (t5 _))
end
end L2
namespace Dl
open PySem L2
variable [KK]
def zjN (J:It)(F:Hp)(ds:List D):Prop:=∀ (i:Nat) (F2 H2:Hp),yE F F2->yE F2 H2->(i=ds.length->J.stop i H2) /\
 ∀ d,ds[i]?=some d->J.go i H2/\∀ x H3,J.yld i H2 x H3->∃ F3,Gr F2 H2 F3 H3/\At F3 d x
def RI (wi:TI)(f:Ev->Option (List D)):Prop :=
 ∀ (σ:St) (ρ:Ev) (F H:Hp) (ds:List D) (R:It->Hp->Prop),yE F H->VAt F ρ σ->f ρ=some ds->(∀ F' H' J,Gr F H F' H'->zjN J F' ds->R J H')->wi σ H R
def ID (X:Cx)(tg iter:Expr)(f:Ev->Option (List D)):Prop:=∃ wi,PI X tg iter wi/\RI wi f
def xa:D->Option (List D)
 | .lst ds=>some ds
 | .tup ds=>some ds
 | _=>none
section
variable {X:Cx}{tg a b c e:Expr}{pos:Pos}
theorem zla {K:W.Frag}{F:Hp}{p:Addr}{xs:List V}{ds:List D}(h:F p=some (.lst xs))(al:AtL F ds xs):zjN (Itl K p) F ds:=by
 intro i F2 H2 s1 s2
 have q:SqL K H2 p xs:=SqL.of (s2 _ _ (s1 _ _ h))
 refine⟨λhl=>⟨xs,q,by rw[al.length,hl];exact t5 _⟩,λd hd=>?_⟩
 obtain⟨x,hx,ax⟩:=al.get hd
 refine⟨⟨xs,x,q,hx⟩,λy H3 hy=>?_⟩
 obtain⟨rfl,hy⟩:=hy
 have:=hy xs q
 rw[hx]at this
 cases this
 exact⟨F2,.refl s2,ax.mono s1⟩
theorem zk2 {K:W.Frag}{F:Hp}{p:Addr}{xs:List V}{ds:List D}(h:F p=some (.tup xs))(al:AtL F ds xs):zjN (Itt K p) F ds:=by
 intro i F2 H2 s1 s2
 have q:SqT K H2 p xs:=SqT.of (s2 _ _ (s1 _ _ h))
 refine⟨λhl=>⟨xs,q,by rw[al.length,hl];exact t5 _⟩,λd hd=>?_⟩
 obtain⟨x,hx,ax⟩:=al.get hd
 refine⟨⟨xs,x,q,hx⟩,λy H3 hy=>?_⟩
 obtain⟨rfl,hy⟩:=hy
 have:=hy xs q
 rw[hx]at this
 cases this
 exact⟨F2,.refl s2,ax.mono s1⟩
def iOf (f:Ev->Option D):Ev->Option (List D):=fun ρ=>(f ρ).bind xa
theorem xr {f:Ev->Option D}(ha:ED X a f):ID X tg a (iOf f):=by
 obtain⟨t,p,r⟩:=ha
 refine⟨_,zlp p,fun σ ρ F H ds R s va e q=>?_⟩
 obtain⟨d,e1,e2⟩:=u4.mp e
 refine r σ ρ F H d _ s va e1 λF1 H1 v g1 a1=>?_
 cases d <;> try cases e2
 .obtain⟨p,xs,rfl,hx,al⟩:=a1.tup_inv
  exact .inr ⟨p,rfl,⟨xs,SqT.of (g1.fh _ _ hx)⟩,q F1 H1 _ g1 (zk2 hx al)⟩
 .obtain⟨p,xs,rfl,hx,al⟩:=a1.lst_inv
  exact .inl ⟨p,rfl,⟨xs,SqL.of (g1.fh _ _ hx)⟩,q F1 H1 _ g1 (zla hx al)⟩
def Xm (lo:Int)(n:Nat):List D:=(List.range n).map λk:Nat=>.int (lo+k)
theorem zeG {F:Hp}(lo:Int)(n:Nat):zjN (Itr lo n) F (Xm lo n):=by
 intro i F2 H2 s1 s2
 have hlen:(Xm lo n).length=n:=by unfold Xm;simp
 refine⟨λhl=>by rw[hlen]at hl;rw[hl];exact t5 _,λd hd=>?_⟩
 have hi:i < n:=by
  have:=(u9.mp hd).1
  omega
 refine⟨hi,λy H3 hy=>?_⟩
 obtain⟨rfl,rfl⟩:=hy
 refine⟨F2,.refl s2,?_⟩
 unfold Xm at hd
 rw[j4,u1V hi]at hd
 cases hd
 exact .int
@[irreducible] def zf3 (j:Int):Bool:=decide (-(2 ^ 62)<=j/\j < 2 ^ 62)
omit [KK] in
theorem yl {j:Int}:zf3 j=true↔-(2 ^ 62)<=j/\j < 2 ^ 62:=by unfold zf3;exact decide_eq_true_iff
def YQ:List D->Option (List D)
 | [.int j]=>if zf3 j=true then some (Xm 0 j.toNat)else none
 | _=>none
def Yh:List D->Option (List D)
 | [.int i,.int j]=>if zf3 i=true/\zf3 j=true then some (Xm i (j - i).toNat)else none
 | _=>none
def Xs (g:List D->Option (List D))(f:Ev->Option (List D)):Ev->Option (List D):=fun ρ=>(f ρ).bind g
theorem zex {p:Pos} {f:Ev->Option (List D)} (hg:Gl X "range") (hm:X.mg "range"=none) (ha:AD X [a,b] f) (hs:starEach [a,b] X.env=[(false,eval a X.env),(false,eval b X.env)]:=by rfl) (hs2:starEach [b] X.env=[(false,eval b X.env)]:=by rfl) :
 ID X tg (.Call (.Name "range" p) [a,b] [] pos) (Xs Yh f):=by
 obtain⟨t,pa,r⟩:=ha
 refine⟨_,zay hg hm pa hs hs2,fun σ ρ F H ds R s va e q=>?_⟩
 obtain⟨d,e1,e2⟩:=u4.mp e
 refine r σ ρ F H d _ s va e1 λF1 H1 v g1 a1=>?_
 unfold Yh at e2
 split at e2
 .split at e2
  .cases e2
   rename_i hc
   obtain⟨x,r',rfl,ax,ar⟩:=a1.cons_inv
   obtain⟨y,r',rfl,ay,ar⟩:=ar.cons_inv
   cases ar.nil_inv
   exact⟨_,_,by rw[ax.int_inv,ay.int_inv],⟨(yl.mp hc.1).1,(yl.mp hc.1).2,(yl.mp hc.2).1,(yl.mp hc.2).2⟩,q F1 H1 _ g1 (zeG _ _)⟩
  .cases e2
 .cases e2
def Zm (n:Nat):List D->List D
 | []=>[]
 | d::ds=>.tup [.int n,d]::Zm (n+1) ds
omit [KK] in
theorem wM (ds:List D):∀ (n i:Nat),(Zm n ds)[i]?=(ds[i]?).map λd=>.tup [.int ((n+i:Nat):Int),d]:=by
 induction ds with
 | nil=>intro n i;simp[Zm]
 | cons d ds ih =>
  intro n i
  cases i with
  | zero=>simp[Zm]
  | succ i =>
   show(Zm (n+1) ds)[i]?=(ds[i]?).map _
   rw[ih]
   have:n+1+i=n+(i+1):=by omega
   rw[this]
omit [KK] in
theorem wX (ds:List D):∀ n,(Zm n ds).length=ds.length:=by
 induction ds with
 | nil=>intro n;rfl
 | cons d ds ih=>intro n;simp[Zm,ih]
def yh (f:Ev->Option (List D)):Ev->Option (List D):=fun ρ=>(f ρ).bind λas=>match as with
 | [d]=>(xa d).map (Zm 0)
 | _=>none
theorem XW {es:List Expr} {k:Nat} {tp p:Pos} {f:Ev->Option (List D)} (hg:Gl X "enumerate") (hm:X.mg "enumerate"=none) (hb:bootBuiltins "enumerate"=some (.type "enumerate")) (ha:AD X [a] f)
 (hs:starEach [a] X.env=[(false,eval a X.env)]:=by rfl):ID X (.Tuple es k tp) (.Call (.Name "enumerate" p) [a] [] pos) (yh f):=by
 obtain⟨t,pa,r⟩:=ha
 refine⟨_,zja hg hm hb pa hs,fun σ ρ F H ds R s va e q=>?_⟩
 obtain⟨as,e1,e2⟩:=u4.mp e
 refine r σ ρ F H as _ s va e1 λF1 H1 v g1 a1=>?_
 split at e2
 .obtain⟨x,r',rfl,ax,ar⟩:=a1.cons_inv
  cases ar.nil_inv
  obtain⟨es,e3,rfl⟩:=u7.mp e2
  rename_i d
  cases d <;> try cases e3
  .obtain⟨p,xs,rfl,hx,al⟩:=ax.tup_inv
   refine⟨p,rfl,.inr ⟨xs,SqT.of (g1.fh _ _ hx),q F1 H1 _ g1 λi F2 H2 s1 s2=>?_⟩⟩
   have qq:SqT X.K H2 p xs:=SqT.of (s2 _ _ (s1 _ _ hx))
   refine⟨λhl=>⟨xs,qq,by rw[al.length,hl,wX];exact t5 _⟩,λd hd=>?_⟩
   rw[wM]at hd
   obtain⟨d',hd',rfl⟩:=u7.mp hd
   obtain⟨x,hxi,ax⟩:=al.get hd'
   refine⟨⟨xs,x,qq,hxi⟩,λy H3 hy=>?_⟩
   obtain⟨T,y,rfl,hT,rfl,hy⟩:=hy
   have:=hy xs qq
   rw[hxi]at this
   cases this
   have g3:=Gr.alloc s2 hT (.tup [.int i,x])
   exact⟨_,g3,.tup zn (.cons (by rw[u0u];exact .int) (.cons (ax.mono (s1.trans g3.ff)) .nil))⟩
  .obtain⟨p,xs,rfl,hx,al⟩:=ax.lst_inv
   refine⟨p,rfl,.inl ⟨xs,g1.fh _ _ hx,q F1 H1 _ g1 λi F2 H2 s1 s2=>?_⟩⟩
   have qq:SqL X.K H2 p xs:=SqL.of (s2 _ _ (s1 _ _ hx))
   refine⟨λhl=>⟨xs,qq,by rw[al.length,hl,wX];exact t5 _⟩,λd hd=>?_⟩
   rw[wM]at hd
   obtain⟨d',hd',rfl⟩:=u7.mp hd
   obtain⟨x,hxi,ax⟩:=al.get hd'
   refine⟨⟨xs,x,qq,hxi⟩,λy H3 hy=>?_⟩
   obtain⟨T,y,rfl,hT,rfl,hy⟩:=hy
   have:=hy xs qq
   rw[hxi]at this
   cases this
   have g3:=Gr.alloc s2 hT (.tup [.int i,x])
   exact⟨_,g3,.tup zn (.cons (by rw[u0u];exact .int) (.cons (ax.mono (s1.trans g3.ff)) .nil))⟩
 .cases e2
def hb2 (F1 Hb:Hp):Hp:=λp=>match F1 p with
 | some o=>some o
 | none=>Hb p
theorem Xy {F1 Hb:Hp}{p:Addr}(h:F1 p=none):hb2 F1 Hb p=Hb p:=by unfold hb2;rw[h]
theorem zgK {F1 Hb:Hp}{p:Addr}{o:HO}(h:F1 p=some o):hb2 F1 Hb p=some o:=by unfold hb2;rw[h]
theorem Gr.up {Fb Hb F1 H1 F H:Hp}(g1:Gr Fb Hb F1 H1)(g:Gr F1 (hb2 F1 Hb) F H):Gr Fb Hb F H:=by
 refine⟨g1.ff.trans g.ff,g.fh,λp o e1 e2=>?_⟩
 rcases(g1.kp p o e1 e2).1 with n | ⟨n1,n2⟩
 .exact g.kp p o n (by rw[Xy n];exact e2)
 .exact⟨.inr ⟨n1,g.ff _ _ n2⟩,g.fh _ _ (g.ff _ _ n2)⟩
theorem Gr.dn {Fb Hb F1 F H:Hp}(g:Gr Fb Hb F H)(s1:yE Fb F1)(s:yE F1 F):Gr F1 (hb2 F1 Hb) F H:=by
 refine⟨s,g.fh,λp o e1 e2=>?_⟩
 rw[Xy e1]at e2
 exact g.kp p o (s1.free e1) e2
theorem Rl.up {Fb Hb F1 H1 F H:Hp}{ρ:SE}{σ:St}(g1:Gr Fb Hb F1 H1)(r:Rl F1 (hb2 F1 Hb) F H ρ σ):Rl Fb Hb F H ρ σ:=by
 refine⟨g1.up r.gr,r.vals,λi s e ho=>?_,r.dis,r.len⟩
 obtain⟨p,o,e1,e2,e3⟩:=r.ows i s e ho
 refine⟨p,o,e1,?_,e3⟩
 cases h:F1 p with
 | none=>rw[Xy h]at e2;exact e2
 | some o=>rw[zgK h]at e2;cases e2
theorem Rl.dn {Fb Hb F1 F H:Hp}{ρ:SE}{σ:St}(r:Rl Fb Hb F H ρ σ)(s1:yE Fb F1)(s:yE F1 F):Rl F1 (hb2 F1 Hb) F H ρ σ:=by
 refine⟨r.gr.dn s1 s,r.vals,λi t e ho=>?_,r.dis,r.len⟩
 obtain⟨p,o,e1,e2,e3,e4⟩:=r.ows i t e ho
 refine⟨p,o,e1,?_,e3,e4⟩
 rw[Xy (s.free e3)]
 exact e2
def ze2 (b:D->SE->Option SE)(g:SE->Ctl):List D->SE->Ctl
 | [],ρ=>.nx ρ
 | d::ds,ρ=>match b d ρ with
  | none=>.no
  | some ρ1=>match g ρ1 with
   | .nx ρ'=>ze2 b g ds ρ'
   | .ct ρ'=>ze2 b g ds ρ'
   | .bk ρ'=>.nx ρ'
   | .rt d=>.rt d
   | .no=>.no
def v7 (f:Ev->Option (List D))(b:D->SE->Option SE)(g:SE->Ctl):SE->Ctl:=fun ρ=>match f (visF ρ) with
 | some ds=>ze2 b g ds ρ
 | none=>.no
theorem zeq {Fb Hb F1 H1:Hp}{ρ:SE}{σ:St}{E:zgJ}{J:It}{g:TG}{tb:TS}{ds:List D}{b:D->SE->Option SE}{gb:SE->Ctl}(hit:zjN J F1 ds)(rg:RG g b)(rb:RS tb gb)(rl0:Rl Fb Hb F1 H1 ρ σ)(k:SOk Fb Hb E (ze2 b gb ds ρ)) :
 ∃ W:Nat->Nat->St->Hp->Prop,(∃ m,W 0 m σ H1)/\∀ i m σ H,W i m σ H ->
  (J.stop i H/\E.nx σ H)\/(J.go i H/\∃ N:St->Hp->Prop,(∀ σ' H',N σ' H'->∃ m',m' < m/\W (i+1) m' σ' H')/\∀ x H',J.yld i H x H'->g x σ H' fun σ2 H2=>tb { E with nx:=N,ct:=N,bk:=E.nx } σ2 H2):=by
 refine⟨λi m σ H=>m=ds.length - i/\i<=ds.length/\∃ F ρ,yE F1 F/\Rl Fb Hb F H ρ σ/\SOk Fb Hb E (ze2 b gb (ds.drop i) ρ),⟨ds.length,by simp,u0D _,F1,ρ,yE.refl _,rl0,k⟩,?_⟩
 rintro i m σ H ⟨rfl,hi,F,ρ,s1,rl,k⟩
 obtain⟨stop,go⟩:=hit i F H s1 rl.gr.fh
 by_cases hlt:i < ds.length
 .have hd:ds.drop i=ds[i]::ds.drop (i+1):=u1l hlt
  rw[hd]at k
  unfold ze2 at k
  obtain⟨g1,g2⟩:=go ds[i] (by simp[hlt])
  refine .inr ⟨g1,fun σ H=>∃ F ρ,yE F1 F/\Rl Fb Hb F H ρ σ/\SOk Fb Hb E (ze2 b gb (ds.drop (i+1)) ρ),fun σ' H' w=>⟨ds.length - (i+1),by omega,rfl,hlt,w⟩,λx H' hy=>?_⟩
  obtain⟨F3,g3,a3⟩:=g2 x H' hy
  cases hb:b ds[i] ρ with
  | none=>rw[hb]at k;exact k.elim
  | some ρ1 =>
   rw[hb]at k
   dsimp only at k
   refine rg Fb Hb F3 H' ρ ρ1 σ _ x _ (rl.grow g3) a3 hb fun σ2 rl2=>?_
   have s3:=s1.trans g3.ff
   refine rb F1 (hb2 F1 Hb) F3 H' ρ1 σ2 _ (rl2.dn rl0.gr.ff s3) ?_
   cases hg:gb ρ1 with
   | nx ρ'=>rw[hg]at k;exact λF4 H4 σ4 r4=>⟨F4,ρ',r4.gr.ff,r4.up rl0.gr,k⟩
   | ct ρ'=>rw[hg]at k;exact λF4 H4 σ4 r4=>⟨F4,ρ',r4.gr.ff,r4.up rl0.gr,k⟩
   | bk ρ'=>rw[hg]at k;exact λF4 H4 σ4 r4=>k F4 H4 σ4 (r4.up rl0.gr)
   | rt d=>rw[hg]at k;exact λF4 H4 v g4 a4=>k F4 H4 v (rl0.gr.up g4) a4
   | no=>rw[hg]at k;exact k.elim
 .have e:i=ds.length:=by omega
  subst e
  rw[u3W]at k
  exact .inl ⟨stop rfl,k F H σ rl⟩
theorem Yx {iter:Expr}{body:List Stmt}{f:Ev->Option (List D)}{b:D->SE->Option SE}{g:SE->Ctl}(hp:PassesOwn (model X.prog X.w) X.A X.env X.xe)(hc:X.calm=true)(hi:ID X tg iter f)(hg:BD X tg b)(hb:SDs X body g)
 (hs:∀ x,foldedSetIterable iter X.env x=pure x:=by intro _;rfl):SD X (.For tg iter body [] pos) (v7 f b g):=by
 obtain⟨wi,pi,ri⟩:=hi
 obtain⟨tg',pg,rg⟩:=hg
 obtain⟨tb,pb,rb⟩:=hb
 refine⟨_,zdG hp hc pi pg pb hs,λFb Hb F H ρ σ E rl k=>?_⟩
 unfold v7 at k
 cases h:f (visF ρ) with
 | none=>rw[h]at k;exact k.elim
 | some ds =>
  rw[h]at k
  exact ri σ _ _ H ds _ rl.gr.fh rl.visF h λF1 H1 J g1 ok=>zeq ok rg rb (rl.grow g1) k
end
def lcD (b:D->Option (List (Option D)))(t:Ev->Option Bool)(f:Ev->Option D)(ρ:Ev):List D->Option (List D)
 | []=>some []
 | d::ds=>(b d).bind λown=>(t (own++ρ)).bind λc=>if c=true then (f (own++ρ)).bind λy=>(lcD b t f ρ ds).map (y::·)else lcD b t f ρ ds
def fLC (i:Ev->Option (List D))(b:D->Option (List (Option D)))(t:Ev->Option Bool)(f:Ev->Option D):Ev->Option (List D):=fun ρ=>(i ρ).bind λds=>if lim ds.length=true then lcD b t f ρ ds else none
def b1:D->Option (List (Option D)):=λd=>some [some d]
def b2:D->Option (List (Option D))
 | .tup [x,y]=>some [some x,some y]
 | _=>none
def RB (n:Nat)(t:TG)(b:D->Option (List (Option D))):Prop:=∀ (σ:St) (ρ:Ev) (F H:Hp) (d:D) (v:V) (own:List (Option D)) (Q:St->Hp->Prop),yE F H->VAt F ρ σ->At F d v->b d=some own->(∀ σ',VAt F (own++ρ) σ'->Q σ' H)->t v (List.replicate n none++σ) H Q
def yc:Ev->Option Bool:=λ_=>some true
theorem zhI:RT tYes yc:=λ_ _ _ _ _ _ s _ e q=>by cases e;exact q _ _ (.refl s)
theorem zeU {wi:TI}{n:Nat}{g:TG}{tt:TT}{te:TE}{fi:Ev->Option (List D)}{b:D->Option (List (Option D))}{ft:Ev->Option Bool}{fe:Ev->Option D}(ri:RI wi fi)(rg:RB n g b)(rt:RT tt ft)(re:RE te fe) :
 RF (tLC wi n g tt te) (fLC fi b ft fe):=by
 intro σ ρ F H out Q s va e q
 obtain⟨ds,e1,e2⟩:=u4.mp e
 split at e2 <;> try cases e2
 rename_i hlim
 have hlim:ds.length<=sizeLine:=r6 hlim
 refine ri σ ρ F H ds _ s va e1 λF1 H1 J g1 ok=>?_
 intro P hP
 have hF1:F1 P=none:=g1.fh.free hP
 have hH0:H P=none:=by
  cases e:H P with
  | none=>rfl
  | some o =>
   cases e2:F P with
   | none=>rw[(g1.kp P o e2 e).2]at hP;cases hP
   | some u=>rw[g1.fh _ _ (g1.ff _ _ e2)]at hP;cases hP
 refine⟨λi m ys H2=>m=ds.length - i/\i<=ds.length/\∃ F2 done,Gr F1 H1 F2 H2/\Gr F1 (upd H1 P (.lst [])) F2 (upd H2 P (.lst []))/\F2 P=none/\H2 P=some (.lst ys)/\AtL F2 done ys/\done.length<=i/\∃ more,lcD b ft fe ρ (ds.drop i)=some more/\done++more=out,⟨ds.length,by simp,u0D _,F1,[],Gr.hide g1.fh hP _,?_,hF1,zn,.nil,u0D _,out,e2,rfl⟩,?_⟩
 .rw[zei]
  exact .refl λb u z=>by rw[zm (zp z hF1)];exact g1.fh b u z
 rintro i m ys H2 ⟨rfl,hi,F2,done,g2,g2',hF2,hH2,al,hdl,more,hm,hout⟩
 obtain⟨stop,go⟩:=ok i F2 H2 g2.ff g2.fh
 by_cases hlt:i < ds.length
 .have hd:ds.drop i=ds[i]::ds.drop (i+1):=u1l hlt
  rw[hd]at hm
  unfold lcD at hm
  obtain⟨own,hb,hm⟩:=u4.mp hm
  obtain⟨cb,hc,hm⟩:=u4.mp hm
  obtain⟨k1,k2⟩:=go ds[i] (by simp[hlt])
  refine .inr ⟨k1,by rw[al.length];omega,λx H3 hy=>?_⟩
  obtain⟨F3,g3,a3⟩:=k2 x H3 hy
  refine rg σ ρ F3 H3 ds[i] x own _ g3.fh (va.mono (g1.ff.trans (g2.ff.trans g3.ff))) a3 hb fun σ4 va4=>?_
  refine rt σ4 _ F3 H3 cb _ g3.fh va4 hc λF5 H5 g5=>?_
  have g35:=g3.trans g5
  obtain⟨n5,h5⟩:=g35.kl (λ_ e=>by cases e) hF2 hH2
  have keep2:∀ {F6 H6:Hp} {o:HO},Gr F2 H2 F6 H6->F6 P=none->Gr F1 (upd H1 P (.lst [])) F6 (upd (upd H6 P o) P (.lst [])):=λ{F6 H6 o} g6 n6=>by
   rw[zei]
   refine⟨g2.ff.trans g6.ff,λb u z=>?_,λb u z1 z2=>?_⟩
   .rw[zm (zp z n6)];exact g6.fh b u z
   .by_cases hbP:b=P
    .subst hbP
     rw[zn]at z2 ⊢
     exact⟨.inl n6,z2⟩
    .rw[zm hbP]at z2 ⊢
     exact(g2.trans g6).kp b u z1 z2
  have keep1:∀ {F6 H6:Hp} {o:HO},Gr F2 H2 F6 H6->F6 P=none->Gr F1 H1 F6 (upd H6 P o):=λ{F6 H6 o} g6 n6=>by
   refine⟨g2.ff.trans g6.ff,λb u z=>?_,λb u z1 z2=>?_⟩
   .rw[zm (zp z n6)];exact g6.fh b u z
   .rw[zm (zp z2 hP)]
    exact(g2.trans g6).kp b u z1 z2
  cases cb with
  | false =>
   rw[j7 u8]at hm ⊢
   have ups:H5=upd H5 P (.lst ys):=by
    funext b
    by_cases hbP:b=P
    .subst hbP;rw[zn];exact h5
    .rw[zm hbP]
   refine⟨ds.length - (i+1),by omega,rfl,hlt,F5,done,?_,?_,n5,h5,al.mono g35.ff,by omega,more,hm,hout⟩
   .rw[ups];exact keep1 g35 n5
   .have:=keep2 (o:=.lst ys) g35 n5
    rw[<-ups]at this
    exact this
  | true =>
   rw[t7 rfl]at hm ⊢
   obtain⟨y,hy,hm⟩:=u4.mp hm
   obtain⟨rest,hm',rfl⟩:=u7.mp hm
   refine re σ4 _ F5 H5 y _ g5.fh (va4.mono g5.ff) hy λF6 H6 v g6 a6=>?_
   have g36:=g35.trans g6
   obtain⟨n6,h6⟩:=g36.kl (λ_ e=>by cases e) hF2 hH2
   refine⟨h6,ds.length - (i+1),by omega,rfl,hlt,F6,done++[y],keep1 g36 n6,keep2 g36 n6,n6,zn,(al.mono g36.ff).snoc a6,by rw[d6];simp;omega,rest,hm',by rw[<-hout,u3G];rfl⟩
 .have e:i=ds.length:=by omega
  subst e
  rw[u3W]at hm
  cases hm
  rw[u1L]at hout
  subst hout
  exact .inl ⟨stop rfl,q F2 H2 P ys (g1.trans g2) hH0 hF2 hH2 al⟩
theorem rb1:RB 1 (Y6 0) b1:=by
 intro σ ρ F H d v own Q s va av e q
 cases e
 refine q _ λi d' h=>?_
 cases i with
 | zero=>cases h;exact⟨v,rfl,av⟩
 | succ i=>exact va i d' h
theorem rb2 {K:W.Frag}:RB 2 (zl7 K 2 (zbi (Y6 0) (zbi (Y6 1) zl2))) b2:=by
 intro σ ρ F H d v own Q s va av e q
 unfold b2 at e
 split at e <;> cases e
 obtain⟨p,xs,rfl,hx,al⟩:=av.tup_inv
 obtain⟨x,r,rfl,ax,al⟩:=al.cons_inv
 obtain⟨y,r,rfl,ay,al⟩:=al.cons_inv
 cases al.nil_inv
 refine⟨p,_,rfl,SqT.of (s _ _ hx),rfl,x,_,rfl,y,_,rfl,rfl,?_⟩
 refine q _ λi d' h=>?_
 match i,h with
 | 0,h=>cases h;exact⟨x,rfl,ax⟩
 | 1,h=>cases h;exact⟨y,rfl,ay⟩
 | i+2,h=>exact va i d' h
def tCan (f:Ev->Option D):TE:=fun σ H Q=>∃ ρ F d,yE F H/\VAt F ρ σ/\f ρ=some d/\∀ F' H' v,Gr F H F' H'->At F' d v->Q v H'
def zkt (f:Ev->Option Bool):TT:=fun σ H Q=>∃ ρ F d,yE F H/\VAt F ρ σ/\f ρ=some d/\∀ F' H',Gr F H F' H'->Q d H'
theorem ED.can {X:Cx}{e:Expr}{f:Ev->Option D}(h:ED X e f):PE X e (tCan f):=by
 obtain⟨t,p,r⟩:=h
 rintro pins s σ H Q I ⟨ρ,F,d,h1,h2,h3,h4⟩
 exact p pins s σ H Q I (r σ ρ F H d Q h1 h2 h3 h4)
theorem TD.can {X:Cx}{e:Expr}{f:Ev->Option Bool}(h:TD X e f):PT X e (zkt f):=by
 obtain⟨t,p,r⟩:=h
 rintro pins s σ H Q I ⟨ρ,F,d,h1,h2,h3,h4⟩
 exact p pins s σ H Q I (r σ ρ F H d Q h1 h2 h3 h4)
theorem zaS {f:Ev->Option D}:RE (tCan f) f:=λ_ ρ F _ d _ h1 h2 h3 h4=>⟨ρ,F,d,h1,h2,h3,h4⟩
theorem zey {f:Ev->Option Bool}:RT (zkt f) f:=λ_ ρ F _ d _ h1 h2 h3 h4=>⟨ρ,F,d,h1,h2,h3,h4⟩
theorem Xe {X:Cx}{elt tg iter:Expr}{L M:List Str}{scope:Scope}{cl:List (Str × Addr)}{pos:Pos}{fi:Ev->Option (List D)}{b:D->Option (List (Option D))}{fe:Ev->Option D}{g:TG}
 (hc:X.calm=true) (S:xb X L M scope cl) (hi:ID X tg iter fi)
 (hgS:∀ (σ:St) (v:V) (H:Hp) (Q:St->Hp->Prop),g v (List.replicate L.length none++σ) H Q->g v (List.replicate L.length none++σ) H (fun σ2 H2=>YW (List.replicate L.length none++σ) σ2/\Q σ2 H2))
 (hrb:RB L.length g b)
 (hg:∀ s₀ H₀ ex pn,PG (W5 X L M scope cl s₀ H₀ ex pn) tg g) (he:∀ s₀ H₀ ex pn,ED (W5 X L M scope cl s₀ H₀ ex pn) elt fe)
 (hs:∀ x,foldedSetIterable iter X.env x=pure x:=by intro _;rfl):FL X (.ListComp elt [⟨tg,iter,[],0⟩] scope pos) (fLC fi b yc fe):=by
 obtain⟨wi,pi,ri⟩:=hi
 exact⟨_,zhJ hc S pi hgS hg (λ_ _ _ _=>zfq) (λ_ _ _ _=>(he _ _ _ _).can) hs,zeU ri hrb zhI zaS⟩
theorem zcd {X:Cx}{elt tg iter c:Expr}{L M:List Str}{scope:Scope}{cl:List (Str × Addr)}{pos:Pos}{fi:Ev->Option (List D)}{b:D->Option (List (Option D))}{ft:Ev->Option Bool}{fe:Ev->Option D}{g:TG}
 (hc:X.calm=true) (S:xb X L M scope cl) (hi:ID X tg iter fi)
 (hgS:∀ (σ:St) (v:V) (H:Hp) (Q:St->Hp->Prop),g v (List.replicate L.length none++σ) H Q->g v (List.replicate L.length none++σ) H (fun σ2 H2=>YW (List.replicate L.length none++σ) σ2/\Q σ2 H2))
 (hrb:RB L.length g b)
 (hg:∀ s₀ H₀ ex pn,PG (W5 X L M scope cl s₀ H₀ ex pn) tg g) (ht:∀ s₀ H₀ ex pn,TD (W5 X L M scope cl s₀ H₀ ex pn) c ft) (he:∀ s₀ H₀ ex pn,ED (W5 X L M scope cl s₀ H₀ ex pn) elt fe)
 (hs:∀ x,foldedSetIterable iter X.env x=pure x:=by intro _;rfl):FL X (.ListComp elt [⟨tg,iter,[c],0⟩] scope pos) (fLC fi b ft fe):=by
 obtain⟨wi,pi,ri⟩:=hi
 exact⟨_,zhJ hc S pi hgS hg (λ_ _ _ _=>zbl (ht _ _ _ _).can) (λ_ _ _ _=>(he _ _ _ _).can) hs,zeU ri hrb zey zaS⟩
theorem zkq {t:TE}{f:Ev->Option (List D)}(r:RF t f):RE t (yT f):=by
 intro σ ρ F H d Q s va e q
 obtain⟨ds,e1,rfl⟩:=u7.mp e
 refine r σ ρ F H ds Q s va e1 λF' H' p xs g h0 hF hH hx=>?_
 have g2:=g.show h0 hF hH
 exact q _ _ _ g2 (At.lst zn (hx.mono (λb u e=>by rw[zm (zp e hF)];exact e)))
def FLS (X:Cx)(i:Nat)(st:Stmt)(f:Ev->Option (List D)):Prop:=∃ t,PS X st (zly t (Y6 i))/\RF t f
theorem za1 {m:Bool}{i:Nat}{st:Stmt}{f:Ev->Option (List D)}(he:FLS X i st f):SD X st (xc m i (yT f)):=by
 obtain⟨t,p,r⟩:=he
 refine⟨_,p,λFb Hb F H ρ σ E rl k=>?_⟩
 unfold xc at k
 cases h:vEv m (yT f) ρ with
 | none=>rw[h]at k;exact k.elim
 | some d =>
  rw[h]at k
  exact(zkq r).at rl h λF' H' v g av=>k F' H' _ ((rl.grow g).set av)
theorem zjk {i:Nat}{x:Str}{px spos:Pos}{X:Cx}{elt tg iter:Expr}{L M:List Str}{scope:Scope}{cl:List (Str × Addr)}{pos:Pos}{fi:Ev->Option (List D)}{b:D->Option (List (Option D))}{fe:Ev->Option D}{g:TG}
 (hN:X.N.Nodup) (hi':X.N[i]?=some x) (hx:Loc X.env.scope x) (hc:X.calm=true) (S:xb X L M scope cl) (hi:ID X tg iter fi)
 (hgS:∀ (σ:St) (v:V) (H:Hp) (Q:St->Hp->Prop),g v (List.replicate L.length none++σ) H Q->g v (List.replicate L.length none++σ) H (fun σ2 H2=>YW (List.replicate L.length none++σ) σ2/\Q σ2 H2))
 (hrb:RB L.length g b)
 (hg:∀ s₀ H₀ ex pn,PG (W5 X L M scope cl s₀ H₀ ex pn) tg g) (he:∀ s₀ H₀ ex pn,ED (W5 X L M scope cl s₀ H₀ ex pn) elt fe)
 (hs:∀ x,foldedSetIterable iter X.env x=pure x:=by intro _;rfl)
 (hsw:swapsWith (.ListComp elt [⟨tg,iter,[],0⟩] scope pos) (some (.Name x px)) spos.line X.env=pure true:=by rfl)
 (hf:X.fn x=true\/X.env.scope.names.lookup x=some .local:=by first | exact .inl rfl | exact .inr rfl | assumption):FLS X i (.Assign [.Name x px] (.ListComp elt [⟨tg,iter,[],0⟩] scope pos) spos) (fLC fi b yc fe):=by
 obtain⟨wi,pi,ri⟩:=hi
 exact⟨_,zhC hN hi' hx hc S pi hgS hg (λ_ _ _ _=>zfq) (λ_ _ _ _=>(he _ _ _ _).can) hs hsw hf,zeU ri hrb zhI zaS⟩
theorem zbv {i:Nat}{x:Str}{px spos:Pos}{X:Cx}{elt tg iter c:Expr}{L M:List Str}{scope:Scope}{cl:List (Str × Addr)}{pos:Pos}{fi:Ev->Option (List D)}{b:D->Option (List (Option D))}{ft:Ev->Option Bool}{fe:Ev->Option D}{g:TG}
 (hN:X.N.Nodup) (hi':X.N[i]?=some x) (hx:Loc X.env.scope x) (hc:X.calm=true) (S:xb X L M scope cl) (hi:ID X tg iter fi)
 (hgS:∀ (σ:St) (v:V) (H:Hp) (Q:St->Hp->Prop),g v (List.replicate L.length none++σ) H Q->g v (List.replicate L.length none++σ) H (fun σ2 H2=>YW (List.replicate L.length none++σ) σ2/\Q σ2 H2))
 (hrb:RB L.length g b)
 (hg:∀ s₀ H₀ ex pn,PG (W5 X L M scope cl s₀ H₀ ex pn) tg g) (ht:∀ s₀ H₀ ex pn,TD (W5 X L M scope cl s₀ H₀ ex pn) c ft) (he:∀ s₀ H₀ ex pn,ED (W5 X L M scope cl s₀ H₀ ex pn) elt fe)
 (hs:∀ x,foldedSetIterable iter X.env x=pure x:=by intro _;rfl)
 (hsw:swapsWith (.ListComp elt [⟨tg,iter,[c],0⟩] scope pos) (some (.Name x px)) spos.line X.env=pure true:=by rfl)
 (hf:X.fn x=true\/X.env.scope.names.lookup x=some .local:=by first | exact .inl rfl | exact .inr rfl | assumption):FLS X i (.Assign [.Name x px] (.ListComp elt [⟨tg,iter,[c],0⟩] scope pos) spos) (fLC fi b ft fe):=by
 obtain⟨wi,pi,ri⟩:=hi
 exact⟨_,zhC hN hi' hx hc S pi hgS hg (λ_ _ _ _=>zbl (ht _ _ _ _).can) (λ_ _ _ _=>(he _ _ _ _).can) hs hsw hf,zeU ri hrb zey zaS⟩
def fnD (n:Nat)(g:SE->Ctl)(ds:List D):Option D:=match g (ds.map .v++List.replicate (n - ds.length) .no) with
 | .rt d=>some d
 | .nx _=>some .non
 | _=>none
def spD (m:Nat)(p:List D->Option D):Sp:=λvs H Q _=>∃ ds d F,ds.length=m/\yE F H/\AtL F ds vs/\p ds=some d/\∀ F' H' v,Gr F H F' H'->At F' d v->Q v H'
theorem zgi {F H:Hp}{N:List Str}{ds:List D}{vs:List V}(s:yE F H)(a:AtL F ds vs):Rl F H F H (ds.map .v++List.replicate (N.length - ds.length) .no) (L2.start N vs):=by
 have hl:=a.length
 have noO:∀ (i:Nat) (t:Sl),(ds.map Sl.v++List.replicate (N.length - ds.length) Sl.no)[i]?=some t->t.isO=true->False:=λi t h ho=>by
  by_cases hi:i < ds.length
  .rw[u0l (by simpa using hi),j4]at h
   cases e:ds[i]? with
   | none=>rw[e]at h;cases h
   | some d=>rw[e]at h;cases h;cases ho
  .rw[u0j (by simpa using hi),u1q]at h
   split at h <;> cases h
   cases ho
 refine⟨.refl s,λi d h=>?_,λi t h ho=>(noO i t h ho).elim,λi j p t u h _ ho=>(noO i t h ho).elim,?_⟩
 .by_cases hi:i < ds.length
  .rw[u0l (by simpa using hi),j4]at h
   cases e:ds[i]? with
   | none=>rw[e]at h;cases h
   | some d' =>
    rw[e]at h
    cases h
    obtain⟨x,hx,ax⟩:=a.get e
    refine⟨x,?_,ax⟩
    unfold L2.start
    rw[u0l (by simpa [hl]using hi),j4,hx]
    rfl
  .rw[u0j (by simpa using hi),u1q]at h
   split at h <;> cases h
 .unfold L2.start
  simp[hl]
theorem xh {P:Program}{w:World}{K:W.Frag}{mg:Str->Option Value}{base:Heap}{x qual:Str}{st:Stmt}{f:Addr}{fd:FuncData}{N ps:List Str}{k:Nat}{g:SE->Ctl}(Fu:Fun K x qual st f fd)(S:zx N ps (zk st))
 (hb:∀ (cdv:Value) (A:Around) (outer:List Env) (s:Shared) (H:Hp) (E:XK),YJ k (A.deeper (PyProof.Rows.envOfC qual (zk st) s.heap.objs.size f cdv))->SDs (zhW CX0 P w K mg base N qual (zk st) f cdv A outer s H E).nox (vc st) g) :
 xz P w K mg base CX0 (k+1) f fd ps (spD ps.length (fnD N.length g)):=by
 refine Fu.ok S (λvs H Q E h=>?_) λcdv A outer s H vs Q E hr h=>?_
 .obtain⟨ds,d,F,hl,_,a,_⟩:=h
  rw[a.length];exact hl
 .obtain⟨ds,d,F,hl,sm,a,e,q⟩:=h
  obtain⟨t,p,r⟩:=hb cdv A outer s H E hr
  refine⟨t,p,r F H F H _ _ _ (zgi sm a) ?_⟩
  unfold fnD at e
  cases hg:g (ds.map .v++List.replicate (N.length - ds.length) .no) with
  | rt d'=>rw[hg]at e;cases e;exact λF' H' v g av=>q F' H' v g av
  | nx ρ=>rw[hg]at e;cases e;exact λF' H' σ rl=>q F' H' _ rl.gr .non
  | bk ρ=>rw[hg]at e;cases e
  | ct ρ=>rw[hg]at e;cases e
  | no=>rw[hg]at e;cases e
theorem Yy {P:Program}{w:World}{K:W.Frag}{mg:Str->Option Value}{base:Heap}{f:Addr}{fd:FuncData}{ps:List Str}{k m:Nat}{p q:List D->Option D}(F:xz P w K mg base CX0 k f fd ps (spD m p))(h:∀ ds d,ds.length=m->q ds=some d->p ds=some d):xz P w K mg base CX0 k f fd ps (spD m q) :=
 F.imp λvs H Q E ⟨ds,d,F',h1,h2,h3,h4,h5⟩=>⟨ds,d,F',h1,h2,h3,h ds d h1 h4,h5⟩
def zr (m:Nat)(p:List D->Option D)(f:Ev->Option (List D)):Ev->Option D:=fun ρ=>(f ρ).bind λds=>if ds.length=m then p ds else none
theorem zdD {X:Cx}{x:Str}{k m:Nat}{f:Addr}{fd:FuncData}{ps:List Str}{p:List D->Option D}{e:Expr}{es:List Expr}{pp pos:Pos}{fa:Ev->Option (List D)}(F:xz X.prog X.w X.K X.mg X.base CX0 k f fd ps (spD m p))(hr:YJ k X.A)(hg:Gl X x)(hm:X.mg x=some (.ref f))(hk:W.keepIn X.K (.ref f)=true)(hb:zbk X.K fd ps [])
 (ha:AD X (e::es) fa) (hdb:(x == ("__debug__":Str))=false:=by decide) (he:starEach (e::es) X.env=(false,eval e X.env)::starEach es X.env:=by rfl) (hpl:(backTo pos (starEach es X.env)).any (·.1)=false:=by rfl) :
 ED X (.Call (.Name x pp) (e::es) [] pos) (zr m p fa):=by
 obtain⟨t,pa,r⟩:=ha
 refine⟨_,zjn F hr hg hm hk hb .nil zmL pa hdb he hpl,fun σ ρ F0 H d Q s va e q=>?_⟩
 obtain⟨ds,e1,e2⟩:=u4.mp e
 split at e2 <;> try cases e2
 rename_i hl
 refine r σ ρ F0 H ds _ s va e1 λF1 H1 vs g1 a1=>?_
 refine⟨ds,d,F1,hl,g1.fh,by rw[u1L];exact a1,e2,λF' H' v g av=>q F' H' v (g1.trans g) av⟩
end Dl
namespace Dl
open PySem L2
variable [KK]
section
variable {X:Cx}{a b c e:Expr}{pos:Pos}
theorem Vc:bootBuiltins "isinstance"=some (.builtin "isinstance"):=by decide +kernel
theorem Zr:bootBuiltins "len"=some (.builtin "len"):=by decide +kernel
theorem zfZ:bootBuiltins "min"=some (.builtin "min"):=by decide +kernel
theorem zkQ:bootBuiltins "max"=some (.builtin "max"):=by decide +kernel
theorem Zv:bootBuiltins "sorted"=some (.builtin "sorted"):=by decide +kernel
theorem zlH:bootBuiltins "all"=some (.builtin "all"):=by decide +kernel
theorem zls:bootBuiltins "any"=some (.builtin "any"):=by decide +kernel
theorem zb3:bootBuiltins "int"=some (.type "int"):=by decide +kernel
theorem X1:bootBuiltins "bool"=some (.type "bool"):=by decide +kernel
theorem zT:bootBuiltins "tuple"=some (.type "tuple"):=by decide +kernel
theorem Vb:bootBuiltins "list"=some (.type "list"):=by decide +kernel
theorem zh5:bootBuiltins "str"=some (.type "str"):=by decide +kernel
theorem xV:bootBuiltins "enumerate"=some (.type "enumerate"):=by decide +kernel
theorem zkw:bootBuiltins "zip"=some (.type "zip"):=by decide +kernel
theorem zhZ:bootBuiltins "set"=some (.type "set"):=by decide +kernel
def ZU (C:Int->Int->Bool)(g:Int->Int->Int):D->D->Option D
 | .int i,.int j=>if C i j=true then some (.int (g i j))else none
 | _,_=>none
def xS (g:Int->Int->Int):D->D->Option D
 | .int i,.int j=>some (.int (g i j))
 | _,_=>none
def Xh (g:Int->Int->Bool):D->D->Option D
 | .int i,.int j=>some (.bl (g i j))
 | _,_=>none
theorem Xv {C:Int->Int->Prop}{Cb:Int->Int->Bool}{g:Int->Int->Int}(h:∀ i j,Cb i j=true->C i j):OpD (rI C λi j=>.int (g i j)) (ZU Cb g):=by
 intro F H x y d e z Q s ax ay ez q
 cases d <;> try cases ez
 cases e <;> try cases ez
 unfold ZU at ez
 dsimp only at ez
 split at ez <;> cases ez
 rename_i hc
 exact⟨_,_,ax.int_inv,ay.int_inv,h _ _ hc,q F H _ (.refl s) .int⟩
theorem zak {g:Int->Int->Int}:OpD (rI0 λi j=>.int (g i j)) (xS g):=by
 intro F H x y d e z Q s ax ay ez q
 cases d <;> try cases ez
 cases e <;> try cases ez
 exact⟨_,_,ax.int_inv,ay.int_inv,q F H _ (.refl s) .int⟩
theorem y0 {g:Int->Int->Bool}:OpD (rI0 λi j=>.bl (g i j)) (Xh g):=by
 intro F H x y d e z Q s ax ay ez q
 cases d <;> try cases ez
 cases e <;> try cases ez
 exact⟨_,_,ax.int_inv,ay.int_inv,q F H _ (.refl s) .bl⟩
theorem zaB {r r':R2}{g g':D->D->Option D}(h:OpD r g)(h':OpD r' g'):OpD (λx y H Q=>r x y H Q\/r' x y H Q) (λd e=>(g d e).or (g' d e)):=by
 intro F H x y d e z Q s ax ay ez q
 dsimp only at ez
 cases hg:g d e with
 | some z'=>rw[hg]at ez;cases ez;exact .inl (h F H x y d e z Q s ax ay hg q)
 | none=>rw[hg]at ez;exact .inr (h' F H x y d e z Q s ax ay ez q)
def zlN:D->D->Option D
 | .tup a,.tup b=>if lim (a.length+b.length)=true then some (.tup (a++b))else none
 | _,_=>none
def zlE:D->D->Option (List D)
 | .lst a,.lst b=>if lim (a.length+b.length)=true then some (a++b)else none
 | _,_=>none
def zdE (d e:D):Option D:=(zlE d e).map .lst
def zj9:D->D->Option D
 | .str a,.str b=>if lim (a.length+b.length)=true then some (.str (a++b))else none
 | _,_=>none
theorem zgQ {K:W.Frag}:OpD (zhO K) zlN:=by
 intro F H x y d e z Q s ax ay ez q
 cases d <;> try cases ez
 cases e <;> try cases ez
 unfold zlN at ez
 dsimp only at ez
 split at ez <;> cases ez
 rename_i hl
 obtain⟨p,xs,rfl,hx,al⟩:=ax.tup_inv
 obtain⟨p2,ys,rfl,hy,bl⟩:=ay.tup_inv
 refine⟨p,p2,xs,ys,rfl,rfl,SqT.of (s _ _ hx),SqT.of (s _ _ hy),by rw[al.length,bl.length];exact r6 hl,λe1=>?_,λ_ e2=>?_,λ_ _ r hr=>?_⟩
 .subst e1
  have:(_:List D)=[]:=u1f.mp al.length.symm
  subst this
  exact q F H _ (.refl s) (.tup hy bl)
 .subst e2
  have:(_:List D)=[]:=u1f.mp bl.length.symm
  subst this
  rw[u1L]at q
  exact q F H _ (.refl s) (.tup hx al)
 .have g:=Gr.alloc s hr (.tup (xs++ys))
  exact q _ _ _ g (.tup zn ((al.append bl).mono g.ff))
theorem zg2:OpD rCat zdE:=by
 intro F H x y d e z Q s ax ay ez q
 cases d <;> try cases ez
 cases e <;> try cases ez
 unfold zdE zlE at ez
 dsimp only at ez
 split at ez <;> cases ez
 rename_i hl
 obtain⟨p,xs,rfl,hx,al⟩:=ax.lst_inv
 obtain⟨p2,ys,rfl,hy,bl⟩:=ay.lst_inv
 refine⟨p,p2,xs,ys,rfl,rfl,s _ _ hx,s _ _ hy,by rw[al.length,bl.length];exact r6 hl,λr hr=>?_⟩
 have g:=Gr.alloc s hr (.lst (xs++ys))
 exact q _ _ _ g (.lst zn ((al.append bl).mono g.ff))
theorem zgC:OpD (λx y H Q=>∃ i j,x=.str i/\y=.str j/\i.length+j.length<=sizeLine/\Q (.str (i++j)) H) zj9:=by
 intro F H x y d e z Q s ax ay ez q
 cases d <;> try cases ez
 cases e <;> try cases ez
 unfold zj9 at ez
 dsimp only at ez
 split at ez <;> cases ez
 rename_i hl
 exact⟨_,_,ax.str_inv,ay.str_inv,r6 hl,q F H _ (.refl s) .str⟩
def wP:D->D->Option D
 | .int i,.int j=>some (.int (i+j))
 | .tup a,.tup b=>if lim (a.length+b.length)=true then some (.tup (a++b))else none
 | .lst a,.lst b=>if lim (a.length+b.length)=true then some (.lst (a++b))else none
 | .str a,.str b=>if lim (a.length+b.length)=true then some (.str (a++b))else none
 | _,_=>none
theorem zbL {r:R2}{g g':D->D->Option D}(h:OpD r g)(k:∀ d e z,g' d e=some z->g d e=some z):OpD r g':=λF H x y d e z Q s ax ay ez q=>h F H x y d e z Q s ax ay (k d e z ez) q
theorem yO {f h:Ev->Option D}(ha:ED X a f)(hb:ED X b h):ED X (.BinOp a .Add b pos) (zj wP f h) :=
 WV (((zk0.or zgx).or zlR).or zdc) (zbL (zaB (zaB (zaB (zak (g:=λi j=>i+j)) zgQ) zg2) zgC) λd e z h=>by
  cases d <;> try cases h
  all_goals cases e <;> try cases h
  .rfl
  .unfold wP at h;dsimp only at h;split at h <;> cases h;rename_i hl;simp[xS,zlN,hl,zdE,zlE,zj9]
  .unfold wP at h;dsimp only at h;split at h <;> cases h;rename_i hl;simp[xS,zlN,hl,zdE,zlE,zj9]
  .unfold wP at h;dsimp only at h;split at h <;> cases h;rename_i hl;simp[xS,zlN,hl,zdE,zlE,zj9]) ha hb
theorem VD {F H F1 H1:Hp}{p:Addr}(g1:Gr F H F1 H1)(hp:H1 p=none):H p=none:=by
 cases e:H p with
 | none=>rfl
 | some o =>
  cases e2:F p with
  | none=>rw[(g1.kp p o e2 e).2]at hp;cases hp
  | some u=>rw[g1.fh _ _ (g1.ff _ _ e2)]at hp;cases hp
def X8 (i j:Int):Bool:=decide ((-(2 ^ 64) < i/\i < 2 ^ 64)\/(-(2 ^ 64) < j/\j < 2 ^ 64))
def zlY:D->D->Option (List D)
 | .lst a,.int k=>if -(2 ^ 63)<=k/\k < 2 ^ 63/\lim (a.length*k.toNat)=true then some (List.replicate k.toNat a).flatten else none
 | _,_=>none
def zgm (d e:D):Option D:=(zlY d e).map .lst
def v9:D->D->Option D
 | .int i,.int j=>if X8 i j=true then some (.int (i*j))else none
 | .lst a,.int k=>if -(2 ^ 63)<=k/\k < 2 ^ 63/\lim (a.length*k.toNat)=true then some (.lst (List.replicate k.toNat a).flatten)else none
 | _,_=>none
theorem zgD:OpD rRep zgm:=by
 intro F H x y d e z Q s ax ay ez q
 cases d <;> try cases ez
 cases e <;> try cases ez
 unfold zgm zlY at ez
 dsimp only at ez
 split at ez <;> cases ez
 rename_i hl
 obtain⟨p,xs,rfl,hx,al⟩:=ax.lst_inv
 refine⟨p,_,xs,rfl,ay.int_inv,s _ _ hx,hl.1,hl.2.1,by rw[al.length];exact r6 hl.2.2,λr hr=>?_⟩
 rename_i ds k
 have g:=Gr.alloc s hr (.lst (List.replicate k.toNat xs).flatten)
 exact q _ _ _ g (.lst zn ((al.rep _).mono g.ff))
theorem VW {f h:Ev->Option D}(ha:ED X a f)(hb:ED X b h):ED X (.BinOp a .Mult b pos) (zj v9 f h) :=
 WV (zln.or zkW) (zbL (zaB (Xv (Cb:=X8) (g:=λi j=>i*j) λi j h=>by have h':=r6 (show decide ((-(2 ^ 64) < i/\i < 2 ^ 64)\/(-(2 ^ 64) < j/\j < 2 ^ 64))=true from h);exact h') zgD) λd e z h=>by
  cases d <;> try cases h
  all_goals cases e <;> try cases h
  .unfold v9 at h;dsimp only at h;split at h <;> cases h;rename_i hl;simp[ZU,hl]
  .unfold v9 at h;dsimp only at h;split at h <;> cases h;rename_i hl;show(zgm _ _)=_;unfold zgm zlY;dsimp only;rw[t7 hl];rfl) ha hb
def Zi:=xS λi j=>i - j
def yn:=ZU (λ_ j=>decide (0 < j/\j < 1606938044258990275541962092341162602522202993782792835301376)) λi j=>i / j
def yW:=ZU (λ_ j=>decide (0 < j)) λi j=>i % j
def zjV:=ZU (λ_ j=>decide (0<=j)) λi j=>i / 2 ^ j.toNat
theorem WW {f h:Ev->Option D}(ha:ED X a f)(hb:ED X b h):ED X (.BinOp a .Sub b pos) (zj Zi f h):=WV zk7 zak ha hb
theorem zhg:OpR X (binaryOp .FloorDiv) (rI (λ_ j=>0 < j/\j < 1606938044258990275541962092341162602522202993782792835301376) λi j=>.int (i / j)):=opI λi j _ _ _ _ _ hc q=>by
 have h1:(0:Int) < j:=hc.1
 have h2:j < 1606938044258990275541962092341162602522202993782792835301376:=hc.2
 refine PyProof.Rows.floordiv_int (by omega) (by rw[u3r i (by omega)];exact q) (.inl (PyProof.noPylong_of_log2 ?_))
 have h0:j.natAbs≠0:=by omega
 have h3:j.natAbs < 1606938044258990275541962092341162602522202993782792835301376:=by omega
 have h4:j.natAbs.log2 < 200:=(Nat.log2_lt h0).mpr h3
 omega
theorem Ye {f h:Ev->Option D}(ha:ED X a f)(hb:ED X b h):ED X (.BinOp a .FloorDiv b pos) (zj yn f h):=WV zhg (Xv λ_ _ h=>by have h':=r6 h;exact h') ha hb
theorem xv {f h:Ev->Option D}(ha:ED X a f)(hb:ED X b h):ED X (.BinOp a .Mod b pos) (zj yW f h):=WV zlB (Xv λ_ _ h=>by have h':=r6 h;exact h') ha hb
theorem zlx {f h:Ev->Option D}(ha:ED X a f)(hb:ED X b h):ED X (.BinOp a .RShift b pos) (zj zjV f h):=WV zkC (Xv λ_ _ h=>by have h':=r6 h;exact h') ha hb
def ltD:=Xh λi j=>decide (i < j)
def leD:=Xh λi j=>decide (i<=j)
def gtD:=Xh λi j=>decide (j < i)
def geD:=Xh λi j=>decide (j<=i)
def eqS:D->D->Option Bool
 | .non,.non=>some true
 | .int i,.int j=>some (decide (i=j))
 | .bl i,.bl j=>some (decide (i=j))
 | .str i,.str j=>some (decide (i=j))
 | .non,.int _=>some false | .int _,.non=>some false | .non,.bl _=>some false | .bl _,.non=>some false | .non,.str _=>some false | .str _,.non=>some false
 | .int _,.str _=>some false | .str _,.int _=>some false | .bl _,.str _=>some false | .str _,.bl _=>some false
 | _,_=>none
def eqD (d e:D):Option D:=(eqS d e).map .bl
def neD (d e:D):Option D:=(eqS d e).map λc=>.bl (!c)
theorem zhD:OpD rEq eqD:=by
 intro F H x y d e z Q s ax ay ez q
 obtain⟨c,e1,rfl⟩:=u7.mp ez
 cases d <;> cases e <;> try cases e1
 .cases ax.non_inv;cases ay.non_inv;exact⟨rfl,q F H _ (.refl s) .bl⟩
 .cases ax.non_inv;cases ay.bl_inv;exact⟨rfl,q F H _ (.refl s) .bl⟩
 .cases ax.non_inv;cases ay.int_inv;exact⟨rfl,q F H _ (.refl s) .bl⟩
 .cases ax.non_inv;cases ay.str_inv;exact⟨rfl,q F H _ (.refl s) .bl⟩
 .cases ax.bl_inv;cases ay.non_inv;exact⟨rfl,q F H _ (.refl s) .bl⟩
 .cases ax.bl_inv;cases ay.bl_inv;refine⟨rfl,?_⟩;rw[show ∀ i j:Bool,decide (V.bl i=V.bl j)=decide (i=j)from λi j=>by simp];exact q F H _ (.refl s) .bl
 .cases ax.bl_inv;cases ay.str_inv;exact⟨rfl,q F H _ (.refl s) .bl⟩
 .cases ax.int_inv;cases ay.non_inv;exact⟨rfl,q F H _ (.refl s) .bl⟩
 .cases ax.int_inv;cases ay.int_inv;refine⟨rfl,?_⟩;rw[show ∀ i j:Int,decide (V.int i=V.int j)=decide (i=j)from λi j=>by simp];exact q F H _ (.refl s) .bl
 .cases ax.int_inv;cases ay.str_inv;exact⟨rfl,q F H _ (.refl s) .bl⟩
 .cases ax.str_inv;cases ay.non_inv;exact⟨rfl,q F H _ (.refl s) .bl⟩
 .cases ax.str_inv;cases ay.bl_inv;exact⟨rfl,q F H _ (.refl s) .bl⟩
 .cases ax.str_inv;cases ay.int_inv;exact⟨rfl,q F H _ (.refl s) .bl⟩
 .cases ax.str_inv;cases ay.str_inv;refine⟨rfl,?_⟩;rw[show ∀ i j:Str,decide (V.str i=V.str j)=decide (i=j)from λi j=>by simp];exact q F H _ (.refl s) .bl
theorem Xj:OpD rNe neD:=by
 intro F H x y d e z Q s ax ay ez q
 obtain⟨c,e1,rfl⟩:=u7.mp ez
 have:=zhD F H x y d e (.bl c) (λv H'=>∃ b,v=.bl b/\Q (.bl (!b)) H') s ax ay (by unfold eqD;rw[e1];rfl) λF' H' v g av=>⟨c,av.bl_inv,q F' H' _ g .bl⟩
 obtain⟨h1,b,h2,h3⟩:=this
 cases h2
 exact⟨h1,h3⟩
def Xo:D->D->Option D
 | d,.non=>some (.bl (match d with | .non=>true | _=>false))
 | .bl a,.bl b=>some (.bl (a == b))
 | _,_=>none
def zN:D->D->Option D
 | d,.non=>some (.bl (match d with | .non=>false | _=>true))
 | .bl a,.bl b=>some (.bl (!(a == b)))
 | _,_=>none
theorem zfu {F:Hp}{d:D}{x:V}(h:At F d x):decide (x=V.non)=(match d with | .non=>true | _=>false):=by
 cases d with
 | non=>cases h.non_inv;rfl
 | bl b=>cases h.bl_inv;rfl
 | int b=>cases h.int_inv;rfl
 | str b=>cases h.str_inv;rfl
 | tup ds=>obtain⟨a,xs,rfl,_⟩:=h.tup_inv;rfl
 | lst ds=>obtain⟨a,xs,rfl,_⟩:=h.lst_inv;rfl
 | scr ds=>obtain⟨a,rfl,_⟩:=h.scr_inv;rfl
 | dct z t ks vs=>obtain⟨a,xs,rfl,_⟩:=h.dct_inv;rfl
theorem zfS:OpD (λx y H Q=>(y=.non/\Q (.bl (decide (x=.non))) H)\/∃ i j,x=.bl i/\y=.bl j/\Q (.bl (i == j)) H) Xo:=by
 intro F H x y d e z Q s ax ay ez q
 unfold Xo at ez
 split at ez
 .cases ez
  refine .inl ⟨ay.non_inv,?_⟩
  rw[zfu ax]
  have:=q F H _ (.refl s) .bl
  cases d <;> exact this
 .cases ez
  exact .inr ⟨_,_,ax.bl_inv,ay.bl_inv,q F H _ (.refl s) .bl⟩
 .cases ez
theorem zdg:OpD (λx y H Q=>(y=.non/\Q (.bl (!decide (x=.non))) H)\/∃ i j,x=.bl i/\y=.bl j/\Q (.bl (!(i == j))) H) zN:=by
 intro F H x y d e z Q s ax ay ez q
 unfold zN at ez
 split at ez
 .cases ez
  refine .inl ⟨ay.non_inv,?_⟩
  rw[zfu ax]
  have:=q F H _ (.refl s) .bl
  cases d <;> exact this
 .cases ez
  exact .inr ⟨_,_,ax.bl_inv,ay.bl_inv,q F H _ (.refl s) .bl⟩
 .cases ez
theorem zhF:OpR X (compareOp .Is) (λx y H Q=>(y=.non/\Q (.bl (decide (x=.non))) H)\/∃ i j,x=.bl i/\y=.bl j/\Q (.bl (i == j)) H):=zj3.or zgZ
theorem zfj:OpR X (compareOp .IsNot) (λx y H Q=>(y=.non/\Q (.bl (!decide (x=.non))) H)\/∃ i j,x=.bl i/\y=.bl j/\Q (.bl (!(i == j))) H):=ziE.or zbI
def yH (g g':D->D->Option D)(f h k:Ev->Option D):Ev->Option D:=fun ρ=>(f ρ).bind λx=>(h ρ).bind λy=>((g x y).bind asB).bind λc=>if c=true then (k ρ).bind λz=>g' y z else some (.bl false)
theorem zhi {r r':R2}{g g':D->D->Option D}{ta tb tc:TE}{f h k:Ev->Option D}(hg:OpD r g)(hg':OpD r' g')(ra:RE ta f)(rb:RE tb h)(rc:RE tc k):RE (ze4 r r' ta tb tc) (yH g g' f h k):=by
 intro σ ρ F H z Q s va e q
 obtain⟨x,e1,e⟩:=u4.mp e
 obtain⟨y,e2,e⟩:=u4.mp e
 obtain⟨c,e3,e⟩:=u4.mp e
 obtain⟨cd,e3,e4⟩:=u4.mp e3
 cases XJ e4
 refine ra σ ρ F H x _ s va e1 λF1 H1 v g1 a1=>?_
 refine rb σ ρ F1 H1 y _ g1.fh (va.mono g1.ff) e2 λF2 H2 u g2 a2=>?_
 refine hg F2 H2 v u x y _ _ g2.fh (a1.mono g2.ff) a2 e3 λF3 H3 w g3 a3=>⟨c,a3.bl_inv,?_⟩
 have g123:=(g1.trans g2).trans g3
 cases c with
 | true =>
  rw[t7 rfl]at e ⊢
  obtain⟨z',e5,e6⟩:=u4.mp e
  refine rc σ ρ F3 H3 z' _ g3.fh (va.mono g123.ff) e5 λF4 H4 w4 g4 a4=>?_
  exact hg' F4 H4 u w4 y z' z Q g4.fh (a2.mono (g3.ff.trans g4.ff)) a4 e6 λF5 H5 w5 g5 a5=>q F5 H5 w5 ((g123.trans g4).trans g5) a5
 | false =>
  rw[j7 u8]at e ⊢
  cases e
  exact q F3 H3 _ g123 .bl
theorem zht {op op':CmpOp}{r r':R2}{g g':D->D->Option D}{f h k:Ev->Option D}(ho:OpR X (compareOp op) r)(ho':OpR X (compareOp op') r')(hg:OpD r g)(hg':OpD r' g')(ha:ED X a f)(hb:ED X b h)(hc:ED X c k)
 (pch:∀ {ta tb tc:TE},PE X a ta->PE X b tb->PE X c tc->PE X (.Compare a [op,op'] [b,c] pos) (ze4 r r' ta tb tc)):ED X (.Compare a [op,op'] [b,c] pos) (yH g g' f h k) :=
 let ⟨_,pa,ra⟩:=ha
 let ⟨_,pb,rb⟩:=hb
 let ⟨_,pc,rc⟩:=hc
 ⟨_,pch pa pb pc,zhi hg hg' ra rb rc⟩
def zbN:List D->Option (List Int)
 | []=>some []
 | .int b::ds=>(zbN ds).map (b::·)
 | _=>none
omit [KK] in
theorem XL:∀ {ds:List D} {bs:List Int},zbN ds=some bs->ds=bs.map .int
 | [],bs,h=>by cases h;rfl
 | d::ds,bs,h=>by
  cases d <;> try cases h
  obtain⟨cs,h1,rfl⟩:=u7.mp h
  rw[XL h1]
  rfl
def leT:D->D->Option D
 | .tup a,.tup b=>(zbN a).bind λns=>(zbN b).map λms=>.bl (HT.lexLe ns ms)
 | _,_=>none
theorem zfT {K:W.Frag}:OpD (rLeT K) leT:=by
 intro F H x y d e z Q s ax ay ez q
 cases d <;> try cases ez
 cases e <;> try cases ez
 obtain⟨ns,e1,e2⟩:=u4.mp ez
 obtain⟨ms,e3,rfl⟩:=u7.mp e2
 rw[XL e1]at ax
 rw[XL e3]at ay
 obtain⟨p,xs,rfl,hx,al⟩:=ax.tup_inv
 obtain⟨p2,ys,rfl,hy,bl⟩:=ay.tup_inv
 cases al.of_ints
 cases bl.of_ints
 exact⟨p,p2,ns,ms,rfl,rfl,SqT.of (s _ _ hx),SqT.of (s _ _ hy),q F H _ (.refl s) .bl⟩
def ixD:D->D->Option D
 | .lst ds,.int i=>atI ds i
 | .tup ds,.int i=>atI ds i
 | .scr ns,.int i=>(atI ns i).map .int
 | _,_=>none
theorem AtL.atI {F:Hp}{ds:List D}{xs:List V}{i:Int}{d:D}(al:AtL F ds xs)(h:L2.atI ds i=some d):∃ x,L2.atI xs i=some x/\At F d x:=by
 unfold L2.atI at h ⊢
 obtain⟨j,e1,e2⟩:=u4.mp h
 obtain⟨x,hx,ax⟩:=al.get e2
 exact⟨x,by rw[al.length,e1];exact hx,ax⟩
theorem zkx:OpD (rIx KK.K) ixD:=by
 intro F H x y d e z Q s ax ay ez q
 cases e <;> try (cases d <;> cases ez)
 cases ay.int_inv
 cases d with
 | lst ds =>
  obtain⟨p,xs,rfl,hx,al⟩:=ax.lst_inv
  obtain⟨v,e1,av⟩:=al.atI ez
  exact .inl ⟨p,xs,_,v,rfl,rfl,SqL.of (s _ _ hx),e1,q F H _ (.refl s) av⟩
 | tup ds =>
  obtain⟨p,xs,rfl,hx,al⟩:=ax.tup_inv
  obtain⟨v,e1,av⟩:=al.atI ez
  exact .inr (.inl ⟨p,xs,_,v,rfl,rfl,SqT.of (s _ _ hx),e1,q F H _ (.refl s) av⟩)
 | scr ns =>
  obtain⟨p,rfl,hx⟩:=ax.scr_inv
  obtain⟨n,e1,rfl⟩:=u7.mp ez
  refine .inl ⟨p,ns.map V.int,_,.int n,rfl,rfl,s.seq hx,?_,q F H _ (.refl s) .int⟩
  unfold L2.atI at e1 ⊢
  rw[u6]
  obtain⟨j,e2,e3⟩:=u4.mp e1
  rw[e2]
  show(ns.map V.int)[j]?=_
  rw[j4,e3]
  rfl
 | _=>cases ez
theorem zP {f h:Ev->Option D}(ha:ED X a f)(hb:ED X b h)(hs:zea b)(hK:X.K=KK.K:=by rfl):ED X (.Subscript a b pos) (zj ixD f h) :=
 let ⟨_,pa,ra⟩:=ha
 let ⟨_,pb,rb⟩:=hb
 ⟨_,zmM zkN pa pb hs,zhr (by rw[hK];exact zkx) ra rb⟩
def VU {α:Type}(xs:List α)(lo hi:Option Int):List α:=(xs.drop (HT.sIx xs.length 0 lo)).take (HT.sIx xs.length xs.length hi - HT.sIx xs.length 0 lo)
theorem AtL.cut {F:Hp}{ds:List D}{xs:List V}{lo hi:Option Int}(al:AtL F ds xs):AtL F (VU ds lo hi) (zaY xs lo hi):=by
 unfold VU zaY
 rw[al.length]
 exact(al.drop _).take _
def OD (X:Cx)(e:Option Expr)(f:Ev->Option (Option Int)):Prop:=∃ t,PO X e t/\∀ (σ:St) (ρ:Ev) (F H:Hp) (i:Option Int) (Q:Option Int->Hp->Prop),yE F H->VAt F ρ σ->f ρ=some i->(∀ F' H',Gr F H F' H'->Q i H')->t σ H Q
def yD:Ev->Option (Option Int):=λ_=>some none
def asI:D->Option Int
 | .int i=>some i
 | _=>none
def yo (f:Ev->Option D):Ev->Option (Option Int):=fun ρ=>((f ρ).bind asI).map some
theorem vm:OD X none yD:=⟨_,zh9,λ_ _ _ _ _ _ s _ e q=>by cases e;exact q _ _ (.refl s)⟩
theorem w8 {f:Ev->Option D}(h:ED X e f):OD X (some e) (yo f):=by
 obtain⟨t,p,r⟩:=h
 refine⟨_,zjb p,fun σ ρ F H i Q s va e q=>?_⟩
 obtain⟨j,e1,rfl⟩:=u7.mp e
 obtain⟨d,e1,e2⟩:=u4.mp e1
 cases d <;> cases e2
 exact r σ ρ F H _ _ s va e1 λF1 H1 v g1 a1=>⟨_,a1.int_inv,q F1 H1 g1⟩
def slD:D->Option Int->Option Int->Option D
 | .lst ds,lo,hi=>some (.lst (VU ds lo hi))
 | .scr ns,lo,hi=>some (.lst ((VU ns lo hi).map .int))
 | .tup ds,lo,hi=>some (.tup (VU ds lo hi))
 | _,_,_=>none
def eSl (g:D->Option Int->Option Int->Option D)(f:Ev->Option D)(l h:Ev->Option (Option Int)):Ev->Option D:=fun ρ=>(f ρ).bind λd=>(l ρ).bind λlo=>(h ρ).bind λhi=>g d lo hi
omit [KK] in
theorem zga {ns:List Int}{lo hi:Option Int}:zaY (ns.map V.int) lo hi=(VU ns lo hi).map V.int:=by
 unfold zaY VU
 rw[u6,List.map_take,List.map_drop]
end
end Dl
namespace L2
open PySem PySem.Spec PyProof.Rows
def rSlN:V->Option Int->Option Int->Hp->VK->Prop:=λx lo hi H Q=>∃ a xs,x=.ref a/\H a=some (.tup xs)/\(zaY xs lo hi=xs->Q (.ref a) H)/\∀ p,H p=none->Q (.ref p) (upd H p (.tup (zaY xs lo hi)))
theorem ziN {X:Cx}:SlR X rSlN:=by
 intro pins s σ H x v vl vu lo hi sl Q I rx hs pl pu h
 obtain⟨a,xs,rfl,hx,q1,q2⟩:=h
 by_cases hw:HT.sIx xs.length 0 lo=0/\HT.sIx xs.length xs.length hi=xs.length
 .cases rx
  obtain⟨its,r,ht,hz⟩:=I.tuple (SqT.of hx)
  have hlen:its.toArray.size=xs.length:=by rw[q5];exact r.length.symm
  refine⟨"tuple",_,u0F.lookup,ht.typeIs,?_⟩
  refine HT.own_getItem_whole ht hs pl pu (by rw[hlen];exact hw) ⟨.ref a,H,I,rfl,q1 ?_⟩
  unfold zaY
  rw[hw.1,hw.2,u4o,Nat.sub_zero,u1Y]
 .exact zke pins s σ H (.ref a) v vl vu lo hi sl Q I rx hs pl pu ⟨a,xs,rfl,SqT.of hx,hw,q2⟩
end L2
namespace Dl
open PySem L2
variable [KK]
section
variable {X:Cx}{a b c e:Expr}{pos:Pos}
theorem xM {lo hi:Option Expr}{p2:Pos}{f:Ev->Option D}{l h:Ev->Option (Option Int)}(ha:ED X a f)(hl:OD X lo l)(hh:OD X hi h)(hK:X.K=KK.K:=by rfl):ED X (.Subscript a (.Slice lo hi none p2) pos) (eSl slD f l h):=by
 obtain⟨ta,pa,ra⟩:=ha
 obtain⟨tl,ppl,rl⟩:=hl
 obtain⟨th,ph,rh⟩:=hh
 refine⟨_,zhs (zju.or ziN) pa ppl ph,fun σ ρ F H z Q s va e q=>?_⟩
 obtain⟨d,e1,e⟩:=u4.mp e
 obtain⟨i,e2,e⟩:=u4.mp e
 obtain⟨j,e3,e⟩:=u4.mp e
 refine ra σ ρ F H d _ s va e1 λF1 H1 v g1 a1=>?_
 refine rl σ ρ F1 H1 i _ g1.fh (va.mono g1.ff) e2 λF2 H2 g2=>?_
 refine rh σ ρ F2 H2 j _ g2.fh (va.mono (g1.ff.trans g2.ff)) e3 λF3 H3 g3=>?_
 have g123:=(g1.trans g2).trans g3
 have a3:=a1.mono (g2.ff.trans g3.ff)
 cases d <;> try cases e
 .obtain⟨p,xs,rfl,hx,al⟩:=a3.tup_inv
  refine .inr ⟨p,xs,rfl,g3.fh _ _ hx,λec=>?_,λr hr=>?_⟩
  .have:=al.cut (lo:=i) (hi:=j)
   rw[ec]at this
   exact q F3 H3 _ g123 (.tup hx this)
  .have g:=Gr.alloc g3.fh hr (.tup (zaY xs i j))
   exact q _ _ _ (g123.trans g) (.tup zn (al.cut.mono g.ff))
 .obtain⟨p,xs,rfl,hx,al⟩:=a3.lst_inv
  refine .inl ⟨p,xs,rfl,SqL.of (g3.fh _ _ hx),λr hr=>?_⟩
  have g:=Gr.alloc g3.fh hr (.lst (zaY xs i j))
  exact q _ _ _ (g123.trans g) (.lst zn (al.cut.mono g.ff))
 .rename_i ns _ _
  obtain⟨p,rfl,hx⟩:=a3.scr_inv
  refine .inl ⟨p,_,rfl,(by rw[hK];exact g3.fh.seq hx),λr hr=>?_⟩
  rw[zga]
  have g:=Gr.alloc g3.fh hr (.lst ((VU ns i j).map V.int))
  exact q _ _ _ (g123.trans g) (.lst zn (.ints _))
def CaD (r:List V->Hp->VK->Prop)(g:List D->Option D):Prop:=∀ (F H:Hp) (vs:List V) (ds:List D) (z:D) (Q:VK),yE F H->AtL F ds vs->g ds=some z->(∀ F' H' v,Gr F H F' H'->At F' z v->Q v H')->r vs H Q
def eFn (g:List D->Option D)(f:Ev->Option (List D)):Ev->Option D:=fun ρ=>(f ρ).bind g
def fFn (g:List D->Option (List D))(f:Ev->Option (List D)):Ev->Option (List D):=fun ρ=>(f ρ).bind g
theorem yu {x:Str}{id:String}{p:Pos}{es:List Expr}{r:List V->Hp->VK->Prop}{g:List D->Option D}{f:Ev->Option (List D)}(hc:Yb X (.builtin id) r)(hg:CaD r g)(hgl:Gl X x)(hm:X.mg x=none)(hv:bootBuiltins x=some (.builtin id))(ha:AD X (e::es) f)
 (hn:x≠"__name__":=by decide) (hdb:(x == ("__debug__":Str))=false:=by decide) (he:starEach (e::es) X.env=(false,eval e X.env)::starEach es X.env:=by rfl) (hpl:(backTo pos (starEach es X.env)).any (·.1)=false:=by rfl) :
 ED X (.Call (.Name x p) (e::es) [] pos) (eFn g f):=by
 obtain⟨t,pa,ra⟩:=ha
 refine⟨_,Xz hc hgl hm hv pa hn hdb he hpl,fun σ ρ F H z Q s va e q=>?_⟩
 obtain⟨ds,e1,e2⟩:=u4.mp e
 refine ra σ ρ F H ds _ s va e1 λF1 H1 vs g1 a1=>?_
 exact hg F1 H1 vs ds z Q g1.fh a1 e2 λF' H' v g av=>q F' H' v (g1.trans g) av
theorem xZ {x:Str}{T:String}{p:Pos}{es:List Expr}{r:List V->Hp->VK->Prop}{g:List D->Option D}{f:Ev->Option (List D)}(hc:Yb X (.type T) r)(hg:CaD r g)(hgl:Gl X x)(hm:X.mg x=none)(hv:bootBuiltins x=some (.type T))(ha:AD X (e::es) f)
 (hn:x≠"__name__":=by decide) (hdb:(x == ("__debug__":Str))=false:=by decide) (he:starEach (e::es) X.env=(false,eval e X.env)::starEach es X.env:=by rfl) (hpl:(backTo pos (starEach es X.env)).any (·.1)=false:=by rfl) :
 ED X (.Call (.Name x p) (e::es) [] pos) (eFn g f):=by
 obtain⟨t,pa,ra⟩:=ha
 refine⟨_,XN hc hgl hm hv pa hn hdb he hpl,fun σ ρ F H z Q s va e q=>?_⟩
 obtain⟨ds,e1,e2⟩:=u4.mp e
 refine ra σ ρ F H ds _ s va e1 λF1 H1 vs g1 a1=>?_
 exact hg F1 H1 vs ds z Q g1.fh a1 e2 λF' H' v g av=>q F' H' v (g1.trans g) av
def YI:List D->Option D
 | [.lst ds]=>some (.int ds.length)
 | [.tup ds]=>some (.int ds.length)
 | [.scr ds]=>some (.int ds.length)
 | _=>none
theorem vM:CaD (λxs H Q=>∃ p ys,xs=[.ref p]/\(SqL KK.K H p ys\/SqT KK.K H p ys)/\Q (.int ys.length) H) YI:=by
 intro F H vs ds z Q s al e q
 unfold YI at e
 split at e <;> cases e
 all_goals
  obtain⟨x,r,rfl,ax,ar⟩:=al.cons_inv
  cases ar.nil_inv
 .obtain⟨p,xs,rfl,hx,bl⟩:=ax.lst_inv
  exact⟨p,xs,rfl,.inl (SqL.of (s _ _ hx)),by rw[bl.length];exact q F H _ (.refl s) .int⟩
 .obtain⟨p,xs,rfl,hx,bl⟩:=ax.tup_inv
  exact⟨p,xs,rfl,.inr (SqT.of (s _ _ hx)),by rw[bl.length];exact q F H _ (.refl s) .int⟩
 .obtain⟨p,rfl,hx⟩:=ax.scr_inv
  exact⟨p,_,rfl,.inl ((s.seq hx)),by rw[u6];exact q F H _ (.refl s) .int⟩
def zlD:List D->Option D
 | [.int i,.int j]=>some (.int (if j > i then j else i))
 | _=>none
def zgG:List D->Option D
 | [.int i,.int j]=>some (.int (if j < i then j else i))
 | _=>none
theorem zcv {g:Int->Int->Int}:CaD (λxs H Q=>∃ i j,xs=[.int i,.int j]/\Q (.int (g i j)) H) (λds=>match ds with | [.int i,.int j]=>some (.int (g i j)) | _=>none):=by
 intro F H vs ds z Q s al e q
 dsimp only at e
 split at e <;> cases e
 obtain⟨x,r,rfl,ax,ar⟩:=al.cons_inv
 obtain⟨y,r,rfl,ay,ar⟩:=ar.cons_inv
 cases ar.nil_inv
 exact⟨_,_,by rw[ax.int_inv,ay.int_inv],q F H _ (.refl s) .int⟩
theorem zgb:CaD (λxs H Q=>∃ i j,xs=[.int i,.int j]/\Q (.int (if j > i then j else i)) H) zlD:=zcv (g:=λi j=>if j > i then j else i)
theorem zcr:CaD (λxs H Q=>∃ i j,xs=[.int i,.int j]/\Q (.int (if j < i then j else i)) H) zgG:=zcv (g:=λi j=>if j < i then j else i)
def zM:List D->Option D
 | [.lst ds]=>some (.tup ds)
 | [.tup ds]=>some (.tup ds)
 | _=>none
theorem xW {K:W.Frag}:CaD (λxs H Q=>∃ p ys,xs=[.ref p]/\((SqL K H p ys/\∀ l,H l=none->Q (.ref l) (upd H l (.tup ys)))\/(SqT K H p ys/\Q (.ref p) H))) zM:=by
 intro F H vs ds z Q s al e q
 unfold zM at e
 split at e <;> cases e
 all_goals
  obtain⟨x,r,rfl,ax,ar⟩:=al.cons_inv
  cases ar.nil_inv
 .obtain⟨p,xs,rfl,hx,bl⟩:=ax.lst_inv
  refine⟨p,xs,rfl,.inl ⟨SqL.of (s _ _ hx),λl hl=>?_⟩⟩
  have g:=Gr.alloc s hl (.tup xs)
  exact q _ _ _ g (.tup zn (bl.mono g.ff))
 .obtain⟨p,xs,rfl,hx,bl⟩:=ax.tup_inv
  exact⟨p,xs,rfl,.inr ⟨SqT.of (s _ _ hx),q F H _ (.refl s) (.tup hx bl)⟩⟩
def xD:List D->Option (List D)
 | [.lst ds]=>some ds
 | [.tup ds]=>some ds
 | [.scr ns]=>some (ns.map .int)
 | _=>none
theorem zbH {p:Pos} {f:Ev->Option (List D)} (hgl:Gl X "list") (hm:X.mg "list"=none) (ha:AD X [e] f) (hK:X.K=KK.K:=by rfl)
 (he:starEach [e] X.env=(false,eval e X.env)::starEach [] X.env:=by rfl) (hpl:(backTo pos (starEach [] X.env)).any (·.1)=false:=by rfl):FL X (.Call (.Name "list" p) [e] [] pos) (fFn xD f):=by
 obtain⟨t,pa,ra⟩:=ha
 refine⟨_,XN zaj hgl hm Vb pa (by decide) (by decide) he hpl,fun σ ρ F H z Q s va e q=>?_⟩
 obtain⟨ds,e1,e2⟩:=u4.mp e
 refine ra σ ρ F H ds _ s va e1 λF1 H1 vs g1 a1=>?_
 unfold xD at e2
 split at e2 <;> cases e2
 all_goals
  obtain⟨x,r,rfl,ax,ar⟩:=a1.cons_inv
  cases ar.nil_inv
 .obtain⟨p,xs,rfl,hx,bl⟩:=ax.lst_inv
  exact⟨p,xs,rfl,.inl (SqL.of (g1.fh _ _ hx)),λl hl=>q _ _ _ _ (g1.trans (Gr.hide g1.fh hl _)) (VD g1 hl) (g1.fh.free hl) zn bl⟩
 .obtain⟨p,xs,rfl,hx,bl⟩:=ax.tup_inv
  exact⟨p,xs,rfl,.inr (SqT.of (g1.fh _ _ hx)),λl hl=>q _ _ _ _ (g1.trans (Gr.hide g1.fh hl _)) (VD g1 hl) (g1.fh.free hl) zn bl⟩
 .obtain⟨p,rfl,hx⟩:=ax.scr_inv
  exact⟨p,_,rfl,.inl (by rw[hK];exact g1.fh.seq hx),λl hl=>q _ _ _ _ (g1.trans (Gr.hide g1.fh hl _)) (VD g1 hl) (g1.fh.free hl) zn (.ints _)⟩
inductive TyD (K:W.Frag) (H:Hp):V->Value->Prop where
 | of {v:V} {t:Value} (h:zce K H v t):TyD K H v t
 | dd {a:Addr} {u:HO} (h:Rd H a u) (d:(∃ kvs,u=.dK kvs)\/∃ kvs,u=.dT kvs):TyD K H (.ref a) (.type "dict")
theorem zaG {X:Cx}:Yb X (.builtin "isinstance") (λxs H Q=>∃ x n t b,xs=[x,.ty n]/\TyD X.K H x t/\W.kitOne X.K t (.type n)=some b/\Q (.bl b) H):=by
 intro pins s σ H xs us Q I r h
 obtain⟨x,n,t,b,rfl,ty,e,q⟩:=h
 cases ty with
 | of ty=>exact za2 pins s σ H _ us Q I r ⟨x,n,t,b,rfl,ty,e,q⟩
 | @dd a u h d =>
  cases r with
  | cons r1 r2 =>
   cases r2 with
   | cons r3 r4 =>
    cases r4
    cases r1
    cases r3
    have ok:=h.ok I.hok
    rcases d with ⟨kvs,rfl⟩ | ⟨kvs,rfl⟩
    .obtain⟨_,_,vs,_,p⟩:=(show yt X.prog X.w H s.heap a (.dK kvs)from ok)
     obtain⟨o,es,ep,h1,h2,_⟩:=p
     exact u0N u2O I.kIn ⟨o,h1,h2.1⟩ e (λz=>nomatch z) λtk=>⟨.bl b,H,I.tok tk,rfl,q⟩
    .obtain⟨_,_,xs,_,o,es,ep,h1,h2,_⟩:=(show yt X.prog X.w H s.heap a (.dT kvs)from ok)
     exact u0N u2O I.kIn ⟨o,h1,h2.1⟩ e (λz=>nomatch z) λtk=>⟨.bl b,H,I.tok tk,rfl,q⟩
theorem At.ty {K:W.Frag}{F H:Hp}(s:yE F H):∀ {d:D} {v:V},At F d v->(∀ ns,d≠.scr ns)->TyD K H v (.type (tyN d))
 | .non,_,h,_=>by cases h.non_inv;exact .of .non
 | .bl b,_,h,_=>by cases h.bl_inv;exact .of (.bl b)
 | .int i,_,h,_=>by cases h.int_inv;exact .of (.int i)
 | .str x,_,h,_=>by cases h.str_inv;exact .of (.str x)
 | .tup ds,_,h,_=>by obtain⟨a,xs,rfl,e,_⟩:=h.tup_inv;exact .of (.tup (s _ _ e))
 | .lst ds,_,h,_=>by obtain⟨a,xs,rfl,e,_⟩:=h.lst_inv;exact .of (.lst (s _ _ e))
 | .scr ns,_,_,n=>absurd rfl (n ns)
 | .dct z t ks vs,_,h,_=>by
  obtain⟨a,xs,rfl,d,_⟩:=h.dct_inv
  obtain⟨u,e1,e2⟩:=(d.mono s).rd
  exact .dd e2 (by
   unfold WI at e1
   split at e1
   .obtain⟨kvs,rfl,_⟩:=e1;exact .inr ⟨kvs,rfl⟩
   .obtain⟨kvs,rfl,_⟩:=e1;exact .inl ⟨kvs,rfl⟩)
inductive Ty where
 | int | bool | tuple | list | str
def Ty.nm:Ty->String
 | .int=>"int" | .bool=>"bool" | .tuple=>"tuple" | .list=>"list" | .str=>"str"
def isT:Ty->D->Bool
 | .int,.int _=>true | .int,.bl _=>true
 | .bool,.bl _=>true
 | .tuple,.tup _=>true
 | .list,.lst _=>true
 | .str,.str _=>true
 | _,_=>false
def zQ (n:Ty):D->Option D
 | .scr _=>none
 | d=>some (.bl (isT n d))
theorem zkY (K:W.Frag)(n:Ty)(d:D)(h:∀ ns,d≠.scr ns):W.kitOne K (.type (tyN d)) (.type n.nm)=some (isT n d):=by
 cases n <;> cases d <;> first | exact absurd rfl (h _) | kernel_rfl
theorem zz {p:Pos} {f:Ev->Option D} (n:Ty) (hgl:Gl X "isinstance") (hm:X.mg "isinstance"=none) (ha:ED X a f) (hb:PE X b (tC (.ty n.nm)))
 (hs:starEach [a,b] X.env=(false,eval a X.env)::starEach [b] X.env:=by rfl) (hs2:starEach [b] X.env=(false,eval b X.env)::starEach [] X.env:=by rfl) (hpl:(backTo pos (starEach [b] X.env)).any (·.1)=false:=by rfl) :
 ED X (.Call (.Name "isinstance" p) [a,b] [] pos) (eUn (zQ n) f):=by
 obtain⟨t,pa,ra⟩:=ha
 refine⟨_,Xz zaG hgl hm Vc (ZR pa (ZR hb zb9 hs2) hs) (by decide) (by decide) hs hpl,fun σ ρ F H z Q s va e q=>?_⟩
 obtain⟨d,e1,e2⟩:=u4.mp e
 refine ra σ ρ F H d _ s va e1 λF1 H1 v g1 a1=>?_
 have ns:∀ ns,d≠.scr ns:=λns h=>by subst h;cases e2
 have e3:z=.bl (isT n d):=by
  cases d <;> first | exact(p9 e2).symm | exact absurd rfl (ns _)
 subst e3
 exact⟨v,n.nm,_,_,rfl,a1.ty g1.fh ns,zkY _ n d ns,q F1 H1 _ g1 .bl⟩
def YS (m:Bool)(i:Nat)(f:Ev->Option D):SE->Ctl:=fun ρ=>match (vEv m f ρ).bind λd=>match ρ[i]? with
 | some (.o ds)=>if decide (ds.length < sizeLine)=true then some (ρ.set i (.o (ds++[d])))else none
 | _=>none with
 | some ρ'=>.nx ρ'
 | none=>.no
theorem XM {m:Bool}{i:Nat}{p pos':Pos}{f:Ev->Option D}(ho:PE X a (zjD i))(he:ED X e f)
 (hp:∀ {ta:TE} {t:TA},PE X a ta->PA X [e] t->PE X (.Call (.Attribute a "append" p) [e] [] pos') (tBM X.K "list" zeD ta t)) (hsw:swapsWith (.Call (.Attribute a "append" p) [e] [] pos') none pos.line X.env=pure false:=by rfl)
 (hs:starEach [e] X.env=(false,eval e X.env)::starEach [] X.env:=by rfl):SD X (.Expr (.Call (.Attribute a "append" p) [e] [] pos') pos) (YS m i f):=by
 obtain⟨t,pe,re⟩:=he
 refine⟨_,zbu (hp ho (ZR pe zb9 hs)) hsw,λFb Hb F H ρ σ E rl k=>?_⟩
 unfold YS at k
 cases h:(vEv m f ρ).bind λd=>match ρ[i]? with
  | some (.o ds)=>if decide (ds.length < sizeLine)=true then some (ρ.set i (.o (ds++[d])))else none
  | _=>none with
 | none=>rw[h]at k;exact k.elim
 | some ρ' =>
  rw[h]at k
  obtain⟨d,e1,e2⟩:=u4.mp h
  cases hs:ρ[i]? with
  | none=>rw[hs]at e2;cases e2
  | some sl =>
   rw[hs]at e2
   cases sl with
   | no=>cases e2
   | v _=>cases e2
   | m _ _ _=>cases e2
   | o ds =>
    dsimp only at e2
    split at e2 <;> cases e2
    rename_i hl
    obtain⟨q,xs,f1,f2,f3,f4,f5⟩:=rl.owns i ds hs
    refine⟨_,f1,.inl ⟨rfl,xs,SqL.of f4⟩,?_⟩
    refine re.at rl e1 λF' H' v g av=>?_
    have rl2:=rl.grow g
    obtain⟨q2,xs2,f1',_,_,f4',f5'⟩:=rl2.owns i ds hs
    rw[f1]at f1'
    cases f1'
    refine⟨q,xs2,v,rfl,rfl,f4',by rw[f5'.length];exact r6 hl,?_⟩
    exact k _ _ σ (rl2.mutate hs f1 (f5'.snoc av))
def Wz (i:Nat)(f:Ev->Option D):SE->Ctl:=fun ρ=>match (f (visF ρ)).bind λd=>match ρ[i]?,d with
 | some (.o ds),.lst es=>if lim (ds.length+es.length)=true then some (ρ.set i (.o (ds++es)))else none
 | _,_=>none with
 | some ρ'=>.nx ρ'
 | none=>.no
end
end Dl
namespace Dl
open PySem L2
variable [KK]
def okE:Nat->D->Bool
 | _,.scr _=>false
 | _,.dct _ _ _ _=>false
 | 0,.tup _=>false
 | 0,.lst _=>false
 | n+1,.tup ds=>ds.all (okE n)
 | n+1,.lst ds=>ds.all (okE n)
 | _,_=>true
def eqN:Nat->D->D->Bool
 | _,.non,.non=>true
 | _,.bl a,.bl b=>a == b
 | _,.bl a,.int b=>(if a then 1 else 0) == b
 | _,.int a,.bl b=>a == (if b then 1 else 0)
 | _,.int a,.int b=>a == b
 | _,.str a,.str b=>a == b
 | n+1,.tup a,.tup b=>(List.zipWith (eqN n) a b).all id&&a.length == b.length
 | n+1,.lst a,.lst b=>(List.zipWith (eqN n) a b).all id&&a.length == b.length
 | _,_,_=>false
omit [KK] in
theorem Vp {n:Nat}:∀ (a b:List D),(List.zipWith (eqN n) a b).all id=(List.range (min a.length b.length)).all λj=>eqN n (a.getD j .non) (b.getD j .non):=by
 intro a b
 have:List.zipWith (eqN n) a b=(List.range (min a.length b.length)).map λj=>eqN n (a.getD j .non) (b.getD j .non):=by
  apply u2p
  .simp
  .intro i h1 h2
   simp at h1 h2
   have g1:i < a.length:=r8 h1 (Nat.min_le_left _ _)
   have g2:i < b.length:=r8 h1 (u30 _ _)
   simp[g1,g2]
 rw[this,u1R]
 rfl
omit [KK] in
def vOf:D->V
 | .bl b=>.bl b
 | .int i=>.int i
 | .str t=>.str t
 | _=>.non
theorem x9 {F:Hp}{d:D}{x:V}(h:okE 0 d=true)(a:At F d x):x=vOf d:=by
 cases d with
 | non=>exact a.non_inv
 | bl b=>exact a.bl_inv
 | int b=>exact a.int_inv
 | str b=>exact a.str_inv
 | _=>cases h
omit [KK] in
theorem XE {d:D}(h:okE 0 d=true):zc3 (vOf d)=true:=by
 cases d <;> first | rfl | cases h
omit [KK] in
theorem Va {d:D}{p:Addr}(h:okE 0 d=true)(e:vOf d=.ref p):False:=by
 cases d <;> first | (cases h;done) | (cases e;done)
def dOfV:V->D
 | .bl b=>.bl b
 | .int i=>.int i
 | .str t=>.str t
 | _=>.non
omit [KK] in
theorem zd6 {d:D}(h:okE 0 d=true):dOfV (vOf d)=d:=by
 cases d <;> first | rfl | (cases h;done)
omit [KK] in
theorem zdI {d e:D}(h1:okE 0 d=true)(h2:okE 0 e=true)(h:vOf d=vOf e):d=e:=by
 rw[<-zd6 h1,h,zd6 h2]
omit [KK] in
theorem xY {n:Nat}{d:D}(h:okE (n+1) d=true):okE 0 d=true\/(∃ ds,d=.tup ds/\ds.all (okE n)=true)\/∃ ds,d=.lst ds/\ds.all (okE n)=true:=by
 cases d with
 | tup ds=>exact .inr (.inl ⟨ds,rfl,h⟩)
 | lst ds=>exact .inr (.inr ⟨ds,rfl,h⟩)
 | scr _=>cases h
 | dct _ _ _ _=>cases h
 | _=>exact .inl rfl
theorem zdO {F:Hp}{n:Nat}(ih:∀ {d e:D} {v:V},okE n d=true->okE n e=true->At F d v->At F e v->d=e):∀ {xs:List V} {ds es:List D},ds.all (okE n)=true->es.all (okE n)=true->AtL F ds xs->AtL F es xs->ds=es:=by
 intro xs
 induction xs with
 | nil =>
  intro ds es _ _ a1 a2
  exact(u1f.mp a1.length.symm).trans (u1f.mp a2.length.symm).symm
 | cons x xs ih2 =>
  intro ds es h1 h2 a1 a2
  cases ds with
  | nil=>cases a1.nil_inv
  | cons d ds=>cases es with
   | nil=>cases a2.nil_inv
   | cons e es =>
    obtain⟨y,r,e1,b1,c1⟩:=a1.cons_inv
    obtain⟨y2,r2,e2,b2,c2⟩:=a2.cons_inv
    cases e1
    cases e2
    rw[u26,g9]at h1 h2
    rw[ih2 h1.2 h2.2 c1 c2,ih h1.1 h2.1 b1 b2]
theorem zhX {F:Hp}:∀ (n:Nat) {d e:D} {v:V},okE n d=true->okE n e=true->At F d v->At F e v->d=e:=by
 intro n
 induction n with
 | zero =>
  intro d e v h1 h2 a1 a2
  exact zdI h1 h2 ((x9 h1 a1).symm.trans (x9 h2 a2))
 | succ n ih =>
  intro d e v h1 h2 a1 a2
  rcases xY h1 with f1 | ⟨ds,rfl,k1⟩ | ⟨ds,rfl,k1⟩
  .have e1:=x9 f1 a1
   rcases xY h2 with f2 | ⟨es,rfl,_⟩ | ⟨es,rfl,_⟩
   .exact zdI f1 f2 (e1.symm.trans (x9 f2 a2))
   .obtain⟨p,xs,e2,_⟩:=a2.tup_inv
    exact(Va f1 (e1.symm.trans e2)).elim
   .obtain⟨p,xs,e2,_⟩:=a2.lst_inv
    exact(Va f1 (e1.symm.trans e2)).elim
  .obtain⟨p,xs,e0,hx,al⟩:=a1.tup_inv
   rcases xY h2 with f2 | ⟨es,rfl,k2⟩ | ⟨es,rfl,k2⟩
   .exact(Va f2 ((x9 f2 a2).symm.trans e0)).elim
   .obtain⟨q,ys,e1,hy,bl⟩:=a2.tup_inv
    cases e0.symm.trans e1
    cases hx.symm.trans hy
    rw[zdO ih k1 k2 al bl]
   .obtain⟨q,ys,e1,hy,bl⟩:=a2.lst_inv
    cases e0.symm.trans e1
    cases hx.symm.trans hy
  .obtain⟨p,xs,e0,hx,al⟩:=a1.lst_inv
   rcases xY h2 with f2 | ⟨es,rfl,k2⟩ | ⟨es,rfl,k2⟩
   .exact(Va f2 ((x9 f2 a2).symm.trans e0)).elim
   .obtain⟨q,ys,e1,hy,bl⟩:=a2.tup_inv
    cases e0.symm.trans e1
    cases hx.symm.trans hy
   .obtain⟨q,ys,e1,hy,bl⟩:=a2.lst_inv
    cases e0.symm.trans e1
    cases hx.symm.trans hy
    rw[zdO ih k1 k2 al bl]
omit [KK] in
theorem zci:∀ (n:Nat) {d:D},okE n d=true->eqN n d d=true:=by
 intro n
 induction n with
 | zero =>
  intro d h
  cases d with
  | tup _=>cases h
  | lst _=>cases h
  | scr _=>cases h
  | dct _ _ _ _=>cases h
  | _=>first | rfl | exact r9 rfl | exact u0o _
 | succ n ih =>
  have ihl:∀ {ds:List D},ds.all (okE n)=true->(List.zipWith (eqN n) ds ds).all id=true:=by
   intro ds
   induction ds with
   | nil=>intro _;rfl
   | cons d ds ih2 =>
    intro h
    rw[u26,g9]at h
    rw[List.zipWith_cons_cons,u26,ih2 h.2,u3P]
    exact ih h.1
  intro d h
  cases d with
  | tup ds=>show((List.zipWith (eqN n) ds ds).all id&&ds.length == ds.length)=true;rw[ihl h];simp
  | lst ds=>show((List.zipWith (eqN n) ds ds).all id&&ds.length == ds.length)=true;rw[ihl h];simp
  | scr _=>cases h
  | dct _ _ _ _=>cases h
  | _=>first | rfl | exact r9 rfl | exact u0o _
theorem zhK {F:Hp}(n:Nat){d e:D}{v:V}(h1:okE n d=true)(h2:okE n e=true)(a1:At F d v)(a2:At F e v):eqN n d e=true:=by
 rw[zhX n h1 h2 a1 a2]
 exact zci n h2
omit [KK] in
theorem xK {n:Nat}{ds:List D}{j:Nat}(h:ds.all (okE n)=true)(hj:j < ds.length):okE n (ds.getD j .non)=true:=by
 have:ds.getD j .non=ds[j]:=by simp[hj]
 rw[this]
 exact u0k.mp h _ (u0x hj)
theorem AtL.nth {F:Hp}{ds:List D}{xs:List V}{us:List Value}{j:Nat}(al:AtL F ds xs)(r:yd xs us)(h:j < us.length):∃ x,At F (ds.getD j .non) x/\yG x us[j]:=by
 have hl:=al.length
 have hl2:=r.length
 have hj:j < ds.length:=by omega
 obtain⟨x,hx,ax⟩:=al.get (i:=j) (d:=ds[j]) (by simp[hj])
 obtain⟨u,hu,ru⟩:=r.get hx
 refine⟨x,by rw[show ds.getD j .non=ds[j] by simp[hj]];exact ax,?_⟩
 have:us[j]?=some us[j]:=by simp[h]
 rw[hu]at this
 cases this
 exact ru
omit [KK] in
theorem zbW {n:Nat}{d e:D}(h1:okE 0 d=true)(h2:okE 0 e=true):eqN n d e=eqV (vOf d) (vOf e):=by
 cases n <;> cases d <;> first | (cases h1;done) | skip
 all_goals cases e <;> first | (cases h2;done) | rfl
omit [KK] in
theorem zcu {n:Nat}{d:D}(ds:List D)(h:okE 0 d=true):eqN (n+1) d (.tup ds)=false/\eqN (n+1) d (.lst ds)=false/\eqN (n+1) (.tup ds) d=false/\eqN (n+1) (.lst ds) d=false:=by
 cases d <;> first | exact⟨rfl,rfl,rfl,rfl⟩ | cases h
omit [KK] in
theorem VJ {A:Around}{s:Shared}{d:D}{u:Value}{p:Addr}{its:Array Value}(h:okE 0 d=true)(r:yG (vOf d) u)(hu:A.units < cLine) :
 (s.heap.IsTuple p its->SeqAt.EqAt A s u (.ref p) false/\SeqAt.EqAt A s (.ref p) u false)/\(s.heap.IsList p its->SeqAt.EqAt A s u (.ref p) false/\SeqAt.EqAt A s (.ref p) u false):=by
 cases d with
 | non=>cases r;exact⟨λht=>⟨.none_tuple ht hu,.tuple_none ht hu⟩,λht=>⟨.none_list ht hu,.list_none ht hu⟩⟩
 | bl b=>cases r;exact⟨λht=>⟨.bool_tuple b ht hu,.tuple_bool b ht hu⟩,λht=>⟨.bool_list b ht hu,.list_bool b ht hu⟩⟩
 | int b=>obtain⟨t,rfl⟩:=r;exact⟨λht=>⟨.int_tuple b t ht hu,.tuple_int b t ht hu⟩,λht=>⟨.int_list b t ht hu,.list_int b t ht hu⟩⟩
 | str b=>obtain⟨t,rfl⟩:=r;exact⟨λht=>⟨.str_tuple b t ht hu,.tuple_str b t ht hu⟩,λht=>⟨.str_list b t ht hu,.list_str b t ht hu⟩⟩
 | _=>cases h
theorem Vj {X:Cx}{pins:List (Addr × Obj)}{σ:St}{F H:Hp}{s:Shared}(I:Inv X pins σ H s)(sm:yE F H){ds:List D}{x:V}{u:Value}(a:At F (.tup ds) x)(r:yG x u):∃ p its xs,u=.ref p/\x=.ref p/\yd xs its/\AtL F ds xs/\s.heap.IsTuple p its.toArray:=by
 obtain⟨p,xs,rfl,hx,al⟩:=a.tup_inv
 cases r
 obtain⟨its,rv,ht,hz⟩:=I.tuple (SqT.of (sm _ _ hx))
 exact⟨p,its,xs,rfl,rfl,rv,al,ht⟩
theorem W8 {X:Cx}{pins:List (Addr × Obj)}{σ:St}{F H:Hp}{s:Shared}(I:Inv X pins σ H s)(sm:yE F H){ds:List D}{x:V}{u:Value}(a:At F (.lst ds) x)(r:yG x u):∃ p its xs,u=.ref p/\x=.ref p/\yd xs its/\AtL F ds xs/\s.heap.IsList p its.toArray:=by
 obtain⟨p,xs,rfl,hx,al⟩:=a.lst_inv
 cases r
 obtain⟨its,rv,ht,hz⟩:=I.list (SqL.of (sm _ _ hx))
 exact⟨p,its,xs,rfl,rfl,rv,al,ht.isList⟩
omit [KK] in
theorem zd8 {n:Nat}(ds es:List D):((List.zipWith (eqN n) ds es).all id&&ds.length == es.length)=((List.range (min ds.length es.length)).all (λj=>eqN n (ds.getD j .non) (es.getD j .non))&&ds.length == es.length):=by rw[Vp]
theorem zaN {X:Cx}{pins:List (Addr × Obj)}{σ:St}{F H:Hp}{s:Shared}(I:Inv X pins σ H s)(sm:yE F H):∀ (n:Nat) {A:Around} {d e:D} {x y:V} {u v:Value},okE n d=true->okE n e=true->At F d x->At F e y->yG x u->yG y v->A.units+n < cLine->SeqAt.EqAt A s u v (eqN n d e):=by
 intro n
 induction n with
 | zero =>
  intro A d e x y u v h1 h2 a1 a2 r1 r2 hu
  cases x9 h1 a1
  cases x9 h2 a2
  rw[zbW h1 h2]
  exact zev r1 r2 (XE h1) (XE h2)
 | succ n ih =>
  intro A d e x y u v h1 h2 a1 a2 r1 r2 hu
  have hu0:A.units < cLine:=u0d (u0C _ _) hu
  have hu1:A.units+1+n < cLine:=by rw[Nat.add_assoc,Nat.add_comm 1 n];exact hu
  rcases xY h1 with f1 | ⟨ds,rfl,k1⟩ | ⟨ds,rfl,k1⟩
  .cases x9 f1 a1
   rcases xY h2 with f2 | ⟨es,rfl,k2⟩ | ⟨es,rfl,k2⟩
   .cases x9 f2 a2
    rw[zbW f1 f2]
    exact zev r1 r2 (XE f1) (XE f2)
   .obtain⟨q,its2,ys,rfl,_,_,_,ht2⟩:=Vj I sm a2 r2
    rw[(zcu es f1).1]
    exact((VJ f1 r1 hu0).1 ht2).1
   .obtain⟨q,its2,ys,rfl,_,_,_,ht2⟩:=W8 I sm a2 r2
    rw[(zcu es f1).2.1]
    exact((VJ f1 r1 hu0).2 ht2).1
  .obtain⟨p,its,xs,rfl,hxp,rv,al,ht⟩:=Vj I sm a1 r1
   rcases xY h2 with f2 | ⟨es,rfl,k2⟩ | ⟨es,rfl,k2⟩
   .cases x9 f2 a2
    rw[(zcu ds f2).2.2.1]
    exact((VJ f2 r2 hu0).1 ht).2
   .obtain⟨q,its2,ys,rfl,hyq,rv2,bl,ht2⟩:=Vj I sm a2 r2
    by_cases hpq:p=q
    .subst hpq
     rw[hxp]at a1
     rw[hyq]at a2
     rw[zhK (n+1) h1 h2 a1 a2]
     exact .same _
    .have hl1:its.toArray.size=ds.length:=by rw[q5,<- rv.length,al.length]
     have hl2:its2.toArray.size=es.length:=by rw[q5,<- rv2.length,bl.length]
     have:=SeqAt.RcAt.tuples (A:=A) (e:=λj=>eqN n (ds.getD j .non) (es.getD j .non)) ht ht2 hu0 λj g1 g2=>by
      obtain⟨x',ax,rx⟩:=al.nth rv (j:=j) g1
      obtain⟨y',ay,ry⟩:=bl.nth rv2 (j:=j) g2
      exact ih (xK k1 (hl1 ▸ g1)) (xK k2 (hl2 ▸ g2)) ax ay rx ry hu1
     rw[hl1,hl2]at this
     rw[show eqN (n+1) (.tup ds) (.tup es)=_ from zd8 ds es]
     exact u3w hpq this
   .obtain⟨q,its2,ys,rfl,_,_,_,ht2⟩:=W8 I sm a2 r2
    exact .tuple_list ht ht2 hu0
  .obtain⟨p,its,xs,rfl,hxp,rv,al,ht⟩:=W8 I sm a1 r1
   rcases xY h2 with f2 | ⟨es,rfl,k2⟩ | ⟨es,rfl,k2⟩
   .cases x9 f2 a2
    rw[(zcu ds f2).2.2.2]
    exact((VJ f2 r2 hu0).2 ht).2
   .obtain⟨q,its2,ys,rfl,_,_,_,ht2⟩:=Vj I sm a2 r2
    exact .list_tuple ht ht2 hu0
   .obtain⟨q,its2,ys,rfl,hyq,rv2,bl,ht2⟩:=W8 I sm a2 r2
    by_cases hpq:p=q
    .subst hpq
     rw[hxp]at a1
     rw[hyq]at a2
     rw[zhK (n+1) h1 h2 a1 a2]
     exact .same _
    .have hl1:its.toArray.size=ds.length:=by rw[q5,<- rv.length,al.length]
     have hl2:its2.toArray.size=es.length:=by rw[q5,<- rv2.length,bl.length]
     rw[show eqN (n+1) (.lst ds) (.lst es)=_ from zd8 ds es]
     by_cases hle:ds.length=es.length
     .have:=SeqAt.RcAt.lists (A:=A) (e:=λj=>eqN n (ds.getD j .non) (es.getD j .non)) ht ht2 (by rw[hl1,hl2,hle]) hu0 λj g1 g2=>by
       obtain⟨x',ax,rx⟩:=al.nth rv (j:=j) g1
       obtain⟨y',ay,ry⟩:=bl.nth rv2 (j:=j) g2
       exact ih (xK k1 (hl1 ▸ g1)) (xK k2 (hl2 ▸ g2)) ax ay rx ry hu1
      rw[hl1]at this
      rw[<-hle,u4h,u0o,u3P]
      exact u3w hpq this
     .have:=SeqAt.RcAt.lists_lengths (A:=A) ht ht2 (by rw[hl1,hl2];exact bne_iff_ne.mpr hle) hu0
      rw[u0Y.mpr hle,u1Z]
      exact u3w hpq this
def zh4 (d:D)(es:List D):Option Bool:=if okE 20 d=true/\es.all (okE 20)=true then some (es.any λe=>eqN 20 e d)else none
def inD (d e:D):Option D:=(xa e).bind λes=>(zh4 d es).map .bl
open Classical in
noncomputable def za0 (F:Hp)(d:D)(u:Value):Bool:=decide (∃ d0 x,At F d0 x/\yG x u/\okE 20 d0=true/\eqN 20 d0 d=true)
open Classical in
theorem Vy {F:Hp}{d d0:D}{x:V}{u:Value}(a:At F d0 x)(r:yG x u)(k:okE 20 d0=true):za0 F d u=eqN 20 d0 d:=by
 unfold za0
 cases h:eqN 20 d0 d with
 | true=>exact r9 ⟨d0,x,a,r,k,h⟩
 | false =>
  refine p6 ?_
  rintro⟨d1,y,a1,r1,k1,h1⟩
  have e:=r1.inj r
  subst e
  rw[zhX 20 k1 k a1 a]at h1
  rw[h1]at h
  cases h
theorem Vn {F:Hp}{d:D}:∀ {ds:List D} {xs:List V} {us:List Value},AtL F ds xs->yd xs us->ds.all (okE 20)=true->us.any (za0 F d)=ds.any λe=>eqN 20 e d
 | [],_,_,al,r,_=>by cases al.nil_inv;cases r;rfl
 | e::ds,_,_,al,r,k=>by
  obtain⟨x,xs,rfl,a1,a2⟩:=al.cons_inv
  cases r with
  | cons r1 r2 =>
   rw[u26,g9]at k
   rw[u27,u27,Vy a1 r1 k.1,Vn a2 r2 k.2]
section
variable {X:Cx}
def rInD (neg:Bool):R2:=λx y H Q=>∃ F d e es b,yE F H/\At F d x/\At F e y/\xa e=some es/\zh4 d es=some b/\Q (.bl (if neg then !b else b)) H
theorem VZ {k:Nat}(hr:YJ k X.A):OpR X (compareOp .In) (rInD false):=by
 intro pins s σ H x y v u Q I rx ry h
 obtain⟨F,d,e,es,b,sm,a1,a2,hs,hb,q⟩:=h
 unfold zh4 at hb
 split at hb <;> cases hb
 rename_i hk
 have hu:X.A.in1.units+20 < cLine:=by have:=hr.un;show X.A.units+1+20 < cLine;omega
 have mem:∀ {xs:List V} {us:List Value},AtL F es xs->yd xs us->∀ z∈us,SeqAt.EqAt X.A.in1 s z v (za0 F d z):=λ{xs us} al r z hz=>by
  obtain⟨j,hj,rfl⟩:=u07 hz
  obtain⟨x',ax,rx'⟩:=al.nth r hj
  have hj':j < es.length:=by have:=al.length;have:=r.length;omega
  have k2:=xK hk.2 hj'
  rw[Vy ax rx' k2]
  exact zaN I sm 20 k2 hk.1 ax a1 rx' rx hu
 cases e <;> cases hs
 .obtain⟨p,xs,rfl,hx,al⟩:=a2.tup_inv
  cases ry
  obtain⟨its,r,pl,hz⟩:=I.tuple (SqT.of (sm _ _ hx))
  refine SeqAt.in_tupleAt (za0 F d) pl (λz hz=>mem al r z (by simpa using hz)) ⟨.bl _,H,I,rfl,?_⟩
  rw[show its.toArray.any (za0 F d)=its.any (za0 F d) by simp,Vn al r hk.2]
  exact q
 .obtain⟨p,xs,rfl,hx,al⟩:=a2.lst_inv
  cases ry
  obtain⟨its,r,pl,hz⟩:=I.list (SqL.of (sm _ _ hx))
  refine SeqAt.in_listAt (za0 F d) pl.isList (λz hz=>mem al r z (by simpa using hz)) ⟨.bl _,H,I,rfl,?_⟩
  rw[show its.toArray.any (za0 F d)=its.any (za0 F d) by simp,Vn al r hk.2]
  exact q
theorem VV:OpD (rInD false) inD:=by
 intro F H x y d e z Q s ax ay ez q
 obtain⟨es,e1,e2⟩:=u4.mp ez
 obtain⟨b,e3,rfl⟩:=u7.mp e2
 exact⟨F,d,e,es,b,s,ax,ay,e1,e3,q F H _ (.refl s) .bl⟩
def eqG (d e:D):Option Bool:=match d,e with
 | .tup _,.tup _=>if okE 20 d=true/\okE 20 e=true then some (eqN 20 d e)else none
 | .lst _,.lst _=>if okE 20 d=true/\okE 20 e=true then some (eqN 20 d e)else none
 | _,_=>eqS d e
def v5 (d e:D):Option D:=(eqG d e).map .bl
def zlZ:R2:=λx y H Q=>∃ F d e,yE F H/\At F d x/\At F e y/\((∃ ds es,d=.tup ds/\e=.tup es)\/(∃ ds es,d=.lst ds/\e=.lst es))/\okE 20 d=true/\okE 20 e=true/\Q (.bl (eqN 20 d e)) H
theorem zlf {k:Nat}(hr:YJ k X.A):OpR X (compareOp .Eq) zlZ:=by
 intro pins s σ H x y v u Q I rx ry h
 obtain⟨F,d,e,sm,a1,a2,hk,k1,k2,q⟩:=h
 have hu:X.A.units+30 < cLine:=by have:=hr.un;omega
 rcases hk with ⟨ds,es,rfl,rfl⟩ | ⟨ds,es,rfl,rfl⟩
 .obtain⟨p,xs,rfl,hx,al⟩:=a1.tup_inv
  obtain⟨p2,ys,rfl,hy,bl⟩:=a2.tup_inv
  cases rx
  cases ry
  obtain⟨its,r,ht,hz⟩:=I.tuple (SqT.of (sm _ _ hx))
  obtain⟨its2,r2,ht2,hz2⟩:=I.tuple (SqT.of (sm _ _ hy))
  have hl1:its.toArray.size=ds.length:=by rw[q5,<- r.length,al.length]
  have hl2:its2.toArray.size=es.length:=by rw[q5,<- r2.length,bl.length]
  refine SeqAt.eq_tupleAt (e:=λj=>eqN 19 (ds.getD j .non) (es.getD j .non)) (show s.heap.IsTuple p its.toArray from ht) (show s.heap.IsTuple p2 its2.toArray from ht2) (by omega) (λj g1 g2=>?_) ⟨.bl _,H,I,rfl,?_⟩
  .obtain⟨x',ax,rx⟩:=al.nth r (j:=j) (by simpa using g1)
   obtain⟨y',ay,ry⟩:=bl.nth r2 (j:=j) (by simpa using g2)
   exact zaN I sm 19 (xK k1 (by rw[<-hl1];exact g1)) (xK k2 (by rw[<-hl2];exact g2)) ax ay (by simpa using rx) (by simpa using ry) (u0d (show X.A.units+20<=X.A.units+30 from u1W (by decide) _) hu)
  .rw[hl1,hl2,<- Vp]
   exact q
 .obtain⟨p,xs,rfl,hx,al⟩:=a1.lst_inv
  obtain⟨p2,ys,rfl,hy,bl⟩:=a2.lst_inv
  cases rx
  cases ry
  obtain⟨its,r,ht,hz⟩:=I.list (SqL.of (sm _ _ hx))
  obtain⟨its2,r2,ht2,hz2⟩:=I.list (SqL.of (sm _ _ hy))
  have hl1:its.toArray.size=ds.length:=by rw[q5,<- r.length,al.length]
  have hl2:its2.toArray.size=es.length:=by rw[q5,<- r2.length,bl.length]
  have e1:eqN 20 (.lst ds) (.lst es)=((List.range (min ds.length es.length)).all (λj=>eqN 19 (ds.getD j .non) (es.getD j .non))&&ds.length == es.length):=by
   show((List.zipWith (eqN 19) ds es).all id&&ds.length == es.length)=_
   rw[Vp]
  by_cases hle:ds.length=es.length
  .refine SeqAt.eq_listAt (e:=λj=>eqN 19 (ds.getD j .non) (es.getD j .non)) ht.isList ht2.isList (by rw[hl1,hl2];exact hle) (u0d (u0C _ 30) hu) (λj g1 g2=>?_) ⟨.bl _,H,I,rfl,?_⟩
   .obtain⟨x',ax,rx⟩:=al.nth r (j:=j) (by simpa using g1)
    obtain⟨y',ay,ry⟩:=bl.nth r2 (j:=j) (by simpa using g2)
    exact zaN I sm 19 (xK k1 (by rw[<-hl1];exact g1)) (xK k2 (by rw[<-hl2];exact g2)) ax ay (by simpa using rx) (by simpa using ry) (u0d (show X.A.units+20<=X.A.units+30 from u1W (by decide) _) hu)
   .rw[hl1]
    rw[e1,<- hle,u4h]at q
    simpa using q
  .refine SeqAt.eq_list_lengthsAt ht.isList ht2.isList (by rw[hl1,hl2];simpa using hle) (u0d (u0C _ 30) hu) ⟨.bl _,H,I,rfl,?_⟩
   have:(ds.length == es.length)=false:=by simpa using hle
   rw[e1,this,u1Z]at q
   exact q
theorem ziW:OpD zlZ (λd e=>match d,e with
 | .tup _,.tup _=>if okE 20 d=true/\okE 20 e=true then some (.bl (eqN 20 d e))else none
 | .lst _,.lst _=>if okE 20 d=true/\okE 20 e=true then some (.bl (eqN 20 d e))else none
 | _,_=>none):=by
 intro F H x y d e z Q s ax ay ez q
 dsimp only at ez
 split at ez
 .split at ez <;> cases ez
  rename_i hk
  exact⟨F,_,_,s,ax,ay,.inl ⟨_,_,rfl,rfl⟩,hk.1,hk.2,q F H _ (.refl s) .bl⟩
 .split at ez <;> cases ez
  rename_i hk
  exact⟨F,_,_,s,ax,ay,.inr ⟨_,_,rfl,rfl⟩,hk.1,hk.2,q F H _ (.refl s) .bl⟩
 .cases ez
theorem wn {k:Nat}(hr:YJ k X.A):OpR X (compareOp .Eq) (λx y H Q=>rEq x y H Q\/zlZ x y H Q):=zm2.or (zlf hr)
theorem yU:OpD (λx y H Q=>rEq x y H Q\/zlZ x y H Q) v5:=by
 refine zbL (zaB zhD ziW) λd e z h=>?_
 obtain⟨b,hb,rfl⟩:=u7.mp h
 unfold eqG at hb
 split at hb
 .split at hb <;> cases hb
  rename_i hk
  show(Option.or none (if okE 20 _=true/\okE 20 _=true then some (D.bl (eqN 20 _ _))else none))=_
  rw[t7 hk]
  rfl
 .split at hb <;> cases hb
  rename_i hk
  show(Option.or none (if okE 20 _=true/\okE 20 _=true then some (D.bl (eqN 20 _ _))else none))=_
  rw[t7 hk]
  rfl
 .show((eqD d e).or _)=_
  unfold eqD
  rw[hb]
  rfl
theorem XD {pins:List (Addr × Obj)}{σ:St}{H:Hp}{s:Shared}{a:Addr}{xs:List V}{A:Around}{Q:Value->Shared->Prop}{E:Value->Shared->Prop}(I:Inv X pins σ H s)(hh:A.handled=none)(h:SqL X.K H a xs\/SqT X.K H a xs)
 (k:∀ (it:Addr) (its:List Value) (fp wr:List Addr) (St:Nat->Heap->Prop) (s₂:Shared),yd xs its->Walks X.prog X.w A it fp wr its.length (λi v=>its[i]?=some v) St->St 0 s₂.heap->(∀ b∈fp,b < s₂.heap.objs.size) ->
  (∀ (h':Heap) (tk:Nat),(∀ b o,b∉wr->s₂.heap.get? b=some o->h'.get? b=some o)->Inv X pins σ H { s₂ with heap:=h',toks:=tk })->Q (.ref it) s₂) :
 wpAny (model X.prog X.w) A (pyIter (.ref a)) Q E s:=by
 have back:∀ {o:Obj} {s₂:Shared},s₂={ s with heap:=s.heap.push o }->∀ (h':Heap) (tk:Nat),(∀ b u,b∉[s.heap.objs.size]->s₂.heap.get? b=some u->h'.get? b=some u)->Inv X pins σ H { s₂ with heap:=h',toks:=tk }:=λ{o s₂} e h' tk kk=>by
  subst e
  exact I.kept (t':=tk) λb u z=>kk b u (by simpa using j9 (t4 z)) (u3 _ z)
 rcases h with h | h
 .obtain⟨its,rv,p,hz⟩:=I.list h
  have lt:a < s.heap.objs.size:=by obtain⟨o,n,ho,_⟩:=p;exact t4 ho
  refine u1j p.isList ?_
  have W:=Walks.list (prog:=X.prog) (w:=X.w) (A:=A) hh s.heap.objs.size a (j9 lt) its.toArray
  refine k s.heap.objs.size its [s.heap.objs.size,a] [s.heap.objs.size] (λi h=>h.IsListIter s.heap.objs.size a i/\h.IsList a its.toArray) _ rv (by simpa using W) ⟨⟨_,t6 _ rfl,rfl,rfl⟩,p.isList.at λo e=>u3 _ e⟩ (λb hb=>?_) (back rfl)
  show b < (s.heap.push _).objs.size
  rw[u0w]
  rcases j5.mp hb with rfl | hb
  .exact u2q _
  .rw[j8.mp hb];exact u01 lt
 .obtain⟨its,rv,p,hz⟩:=I.tuple h
  have p':s.heap.IsTuple a its.toArray:=p
  have lt:a < s.heap.objs.size:=by obtain⟨o,ho,_⟩:=p;exact t4 ho
  refine u0S p' ?_
  have W:=Walks.tuple (prog:=X.prog) (w:=X.w) (A:=A) hh s.heap.objs.size a (j9 lt) its.toArray
  refine k s.heap.objs.size its [s.heap.objs.size,a] [s.heap.objs.size] (λi h=>h.IsTupleIter s.heap.objs.size a i/\h.IsTuple a its.toArray) _ rv (by simpa using W) ⟨⟨_,t6 _ rfl,rfl,rfl⟩,p'.at λo e=>u3 _ e⟩ (λb hb=>?_) (back rfl)
  show b < (s.heap.push _).objs.size
  rw[u0w]
  rcases j5.mp hb with rfl | hb
  .exact u2q _
  .rw[j8.mp hb];exact u01 lt
end
end Dl
namespace Dl
open PySem L2
variable [KK]
omit [KK] in
theorem zdC {bs:List Bool}:(List.range bs.length).all (λi=>bs.getD i false)=bs.all id:=by
 have:bs=(List.range bs.length).map λi=>bs.getD i false:=by
  apply u2p
  .simp
  .intro i h1 h2
   simp[h1]
 conv=>rhs;rw[this]
 rw[u1R]
 rfl
omit [KK] in
theorem zeA {bs:List Bool}:(List.range bs.length).any (λi=>bs.getD i false)=bs.any id:=by
 have:bs=(List.range bs.length).map λi=>bs.getD i false:=by
  apply u2p
  .simp
  .intro i h1 h2
   simp[h1]
 conv=>rhs;rw[this]
 rw[u4c]
 rfl
section
variable {X:Cx}
omit [KK] in
theorem zeR {bs:List Bool}{its:List Value}{i:Nat}{v:Value}(r:yd (bs.map V.bl) its)(h:its[i]?=some v):v=.bool (bs.getD i false):=by
 have hl:=r.length
 have hi:i < its.length:=(u9.mp h).1
 rw[u6]at hl
 obtain⟨u,hu,ru⟩:=r.get (i:=i) (x:=.bl (bs[i]'(by omega))) (by rw[j4];simp[show i < bs.length by omega])
 rw[h]at hu
 cases hu
 cases ru
 simp[show i < bs.length by omega]
omit [KK] in
theorem YN {ns:List Int}{its:List Value}{i:Nat}{v:Value}(r:yd (ns.map V.int) its)(h:its[i]?=some v):∃ t,v=.int (ns.getD i 0) t:=by
 have hl:=r.length
 have hi:i < its.length:=(u9.mp h).1
 rw[u6]at hl
 obtain⟨u,hu,ru⟩:=r.get (i:=i) (x:=.int (ns[i]'(by omega))) (by rw[j4];simp[show i < ns.length by omega])
 rw[h]at hu
 cases hu
 obtain⟨t,rfl⟩:=ru
 exact⟨t,by simp[show i < ns.length by omega]⟩
theorem zd1 (hc:X.calm=true):Yb X (.builtin "all") (λxs H Q=>∃ (p:Addr) (bs:List Bool),xs=[.ref p]/\(SqL X.K H p (bs.map V.bl)\/SqT X.K H p (bs.map V.bl))/\Q (.bl (bs.all id)) H):=by
 intro pins s σ H xs us Q I r h
 obtain⟨p,bs,rfl,hq,q⟩:=h
 obtain⟨u,rfl,ru⟩:=X0 r
 cases ru
 refine call_all_walk (XD I (I.ok.hd hc) hq λit its fp wr St s₂ rv W st fpl back=>?_)
 have hl:=rv.length
 rw[u6]at hl
 refine⟨it,fp,wr,_,_,St,λi=>bs.getD i false,rfl,W,st,λi v s Q E hv hQ=>?_,λh' tk kk=>⟨.bl _,H,back h' tk kk,rfl,?_⟩⟩
 .rw[zeR rv hv]
  exact u1c hQ
 .rw[<-hl,zdC]
  exact q
theorem zeg (hc:X.calm=true):Yb X (.builtin "any") (λxs H Q=>∃ (p:Addr) (bs:List Bool),xs=[.ref p]/\(SqL X.K H p (bs.map V.bl)\/SqT X.K H p (bs.map V.bl))/\Q (.bl (bs.any id)) H):=by
 intro pins s σ H xs us Q I r h
 obtain⟨p,bs,rfl,hq,q⟩:=h
 obtain⟨u,rfl,ru⟩:=X0 r
 cases ru
 refine call_any_walk (XD I (I.ok.hd hc) hq λit its fp wr St s₂ rv W st fpl back=>?_)
 have hl:=rv.length
 rw[u6]at hl
 refine⟨it,fp,wr,_,_,St,λi=>bs.getD i false,rfl,W,st,λi v s Q E hv hQ=>?_,λh' tk kk=>⟨.bl _,H,back h' tk kk,rfl,?_⟩⟩
 .rw[zeR rv hv]
  exact u1c hQ
 .rw[<-hl,zeA]
  exact q
def zl0 (ns:List Int):Int:=(ns.max?).getD 0
def zeb (ns:List Int):Int:=(ns.min?).getD 0
omit [KK] in
theorem zfm (f:Nat→Int):∀ k i,i≤k→f i≤f (argBest (fun i j=>decide (f j < f i)) k)∧argBest (fun i j=>decide (f j < f i)) k≤k:=by
  intro k
  induction k with
  | zero => intro i hi; have : i = 0 := by omega
            subst this;exact ⟨u4q _,t5 _⟩
  | succ k ih =>
    intro i hi
    unfold argBest
    obtain ⟨h1,h2⟩:=ih (min i k) (u30 _ _)
    split
    · rename_i hc
      have hc:f (argBest (fun i j=>decide (f j < f i)) k) < f (k+1):=r6 hc
      refine ⟨?_,t5 _⟩
      by_cases hik:i≤k
      · rw [u1y hik] at h1;omega
      · have:i=k+1:=by omega
        subst this;exact u4q _
    · rename_i hc
      have hc:¬ f (argBest (fun i j=>decide (f j < f i)) k) < f (k+1):=fun z=>hc (r9 z)
      refine ⟨?_,by omega⟩
      by_cases hik:i≤k
      · rw [u1y hik] at h1;exact h1
      · have:i=k+1:=by omega
        subst this;omega
omit [KK] in
theorem zlI {ns:List Int}{m:Int}(h1:m∈ns)(h2:∀ x∈ns,x<=m):zl0 ns=m:=by
 unfold zl0
 rw[List.max?_eq_some_iff.mpr ⟨h1,h2⟩]
 rfl
omit [KK] in
theorem zkA {ns:List Int}{m:Int}(h1:m∈ns)(h2:∀ x∈ns,m<=x):zeb ns=m:=by
 unfold zeb
 rw[List.min?_eq_some_iff.mpr ⟨h1,h2⟩]
 rfl
omit [KK] in
theorem zcA {ns:List Int}{k:Nat}(h:k < ns.length):ns.getD k 0∈ns:=by
 rw[u02,j6 h]
 exact u0x h
omit [KK] in
theorem getD_at {ns:List Int}{k:Nat}(h:k < ns.length):ns.getD k 0=ns[k]:=by
 rw[u02,j6 h]
 rfl
theorem zlz (hc:X.calm=true):Yb X (.builtin "max") (λxs H Q=>∃ (p:Addr) (ns:List Int),xs=[.ref p]/\(SqL X.K H p (ns.map V.int)\/SqT X.K H p (ns.map V.int))/\ns≠[]/\Q (.int (zl0 ns)) H):=by
 intro pins s σ H xs us Q I r h
 obtain⟨p,ns,rfl,hq,hne,q⟩:=h
 obtain⟨u,rfl,ru⟩:=X0 r
 cases ru
 refine call_max_walk (XD I (I.ok.hd hc) hq λit its fp wr St s₂ rv W st fpl back=>?_)
 have hl:=rv.length
 rw[u6]at hl
 have hpos:0 < ns.length:=u3k.mpr hne
 refine⟨it,fp,wr,_,_,St,λi j=>decide (ns.getD j 0 < ns.getD i 0),rfl,W,st,fpl,by omega,λi j vi vj s Q E hi hj hQ=>?_,λv h' tk hv kk=>?_⟩
 .obtain⟨t1,rfl⟩:=YN rv hi
  obtain⟨t2,rfl⟩:=YN rv hj
  exact PyProof.Rows.gt_int hQ
 .obtain⟨t,rfl⟩:=YN rv hv
  refine⟨.int (zl0 ns),H,back h' tk kk,⟨t,?_⟩,q⟩
  have key:=zfm (λi=>ns.getD i 0) (its.length - 1)
  have hb:argBest (λi j=>decide (ns.getD j 0 < ns.getD i 0)) (its.length - 1) < ns.length:=by
   have:=(key 0 (u0D _)).2
   omega
  rw[zlI (m:=ns.getD (argBest (λi j=>decide (ns.getD j 0 < ns.getD i 0)) (its.length - 1)) 0)]
  .exact zcA hb
  .intro x hx
   obtain⟨j,hj,rfl⟩:=u07 hx
   have:=(key j (by omega)).1
   rw[<-getD_at hj]
   exact this
theorem zfL (hc:X.calm=true):Yb X (.builtin "min") (λxs H Q=>∃ (p:Addr) (ns:List Int),xs=[.ref p]/\(SqL X.K H p (ns.map V.int)\/SqT X.K H p (ns.map V.int))/\ns≠[]/\Q (.int (zeb ns)) H):=by
 intro pins s σ H xs us Q I r h
 obtain⟨p,ns,rfl,hq,hne,q⟩:=h
 obtain⟨u,rfl,ru⟩:=X0 r
 cases ru
 refine call_min_walk (XD I (I.ok.hd hc) hq λit its fp wr St s₂ rv W st fpl back=>?_)
 have hl:=rv.length
 rw[u6]at hl
 have hpos:0 < ns.length:=u3k.mpr hne
 refine⟨it,fp,wr,_,_,St,λi j=>decide (ns.getD i 0 < ns.getD j 0),rfl,W,st,fpl,by omega,λi j vi vj s Q E hi hj hQ=>?_,λv h' tk hv kk=>?_⟩
 .obtain⟨t1,rfl⟩:=YN rv hi
  obtain⟨t2,rfl⟩:=YN rv hj
  exact PyProof.Rows.lt_int hQ
 .obtain⟨t,rfl⟩:=YN rv hv
  refine⟨.int (zeb ns),H,back h' tk kk,⟨t,?_⟩,q⟩
  have key:=zfm (λi=>- ns.getD i 0) (its.length - 1)
  have e0:(λi j=>decide (ns.getD i 0 < ns.getD j 0))=λi j=>decide (-ns.getD j 0 < -ns.getD i 0):=by
   funext i j
   congr 1
   apply propext
   constructor <;> intro h <;> omega
  rw[e0]
  have hb:argBest (λi j=>decide (-ns.getD j 0 < -ns.getD i 0)) (its.length - 1) < ns.length:=by
   have:=(key 0 (u0D _)).2
   omega
  rw[zkA (m:=ns.getD (argBest (λi j=>decide (-ns.getD j 0 < -ns.getD i 0)) (its.length - 1)) 0)]
  .exact zcA hb
  .intro x hx
   obtain⟨j,hj,rfl⟩:=u07 hx
   have:=(key j (by omega)).1
   rw[<-getD_at hj]
   omega
def zh3:List D->Option (List Bool)
 | []=>some []
 | .bl b::ds=>(zh3 ds).map (b::·)
 | _=>none
def zjI:List D->Option (List Int)
 | []=>some []
 | .int b::ds=>(zjI ds).map (b::·)
 | _=>none
omit [KK] in
theorem zbn:∀ {ds:List D} {bs:List Bool},zh3 ds=some bs->ds=bs.map .bl
 | [],bs,h=>by cases h;rfl
 | d::ds,bs,h=>by
  cases d <;> try cases h
  obtain⟨cs,h1,rfl⟩:=u7.mp h
  rw[zbn h1]
  rfl
omit [KK] in
theorem zbM:∀ {ds:List D} {bs:List Int},zjI ds=some bs->ds=bs.map .int
 | [],bs,h=>by cases h;rfl
 | d::ds,bs,h=>by
  cases d <;> try cases h
  obtain⟨cs,h1,rfl⟩:=u7.mp h
  rw[zbM h1]
  rfl
omit [KK] in
theorem zhl (bs:List Bool):zh3 (bs.map .bl)=some bs:=by
 induction bs with
 | nil=>rfl
 | cons b r ih=>show(zh3 (r.map .bl)).map (b::·)=_;rw[ih];rfl
omit [KK] in
theorem zgI (bs:List Int):zjI (bs.map .int)=some bs:=by
 induction bs with
 | nil=>rfl
 | cons b r ih=>show(zjI (r.map .int)).map (b::·)=_;rw[ih];rfl
theorem AtL.of_bls {H:Hp}:∀ {ns:List Bool} {xs:List V},AtL H (ns.map D.bl) xs->xs=ns.map V.bl
 | [],_,h=>h.nil_inv
 | n::r,_,h=>by
  obtain⟨x,r',rfl,h1,h2⟩:=AtL.cons_inv (by simpa using h)
  rw[h1.bl_inv,AtL.of_bls h2]
  rfl
def zlq {α:Type}(as:List D->Option α)(g:α->Option D):List D->Option D
 | [d]=>((xa d).bind as).bind g
 | _=>none
theorem za4 {K:W.Frag}{F H:Hp}{vs:List V}{ds:List D}{z:D}{α:Type}{as:List D->Option α}{g:α->Option D}(s:yE F H)(al:AtL F ds vs)(e:zlq as g ds=some z) :
 ∃ p es xs b,vs=[.ref p]/\(SqL K H p xs\/SqT K H p xs)/\AtL F es xs/\as es=some b/\g b=some z:=by
 unfold zlq at e
 split at e
 .obtain⟨b,e1,e2⟩:=u4.mp e
  obtain⟨es,e3,e4⟩:=u4.mp e1
  obtain⟨x,r,rfl,ax,ar⟩:=al.cons_inv
  cases ar.nil_inv
  rename_i d
  cases d <;> cases e3
  .obtain⟨p,xs,rfl,hx,bl⟩:=ax.tup_inv
   exact⟨p,_,xs,b,rfl,.inr (SqT.of (s _ _ hx)),bl,e4,e2⟩
  .obtain⟨p,xs,rfl,hx,bl⟩:=ax.lst_inv
   exact⟨p,_,xs,b,rfl,.inl (SqL.of (s _ _ hx)),bl,e4,e2⟩
 .cases e
def allD:=zlq zh3 λbs=>some (.bl (bs.all id))
def zmo:=zlq zh3 λbs=>some (.bl (bs.any id))
def zhB:=zlq zjI λns=>if ns=[]then none else some (.int (zeb ns))
theorem zjd {K:W.Frag}:CaD (λxs H Q=>∃ (p:Addr) (bs:List Bool),xs=[.ref p]/\(SqL K H p (bs.map V.bl)\/SqT K H p (bs.map V.bl))/\Q (.bl (bs.all id)) H) allD:=by
 intro F H vs ds z Q s al e q
 obtain⟨p,es,xs,bs,rfl,hq,bl,e1,e2⟩:=za4 (K:=K) s al e
 cases e2
 rw[zbn e1]at bl
 rw[bl.of_bls]at hq
 exact⟨p,bs,rfl,hq,q F H _ (.refl s) .bl⟩
theorem zi3 {K:W.Frag}:CaD (λxs H Q=>∃ (p:Addr) (bs:List Bool),xs=[.ref p]/\(SqL K H p (bs.map V.bl)\/SqT K H p (bs.map V.bl))/\Q (.bl (bs.any id)) H) zmo:=by
 intro F H vs ds z Q s al e q
 obtain⟨p,es,xs,bs,rfl,hq,bl,e1,e2⟩:=za4 (K:=K) s al e
 cases e2
 rw[zbn e1]at bl
 rw[bl.of_bls]at hq
 exact⟨p,bs,rfl,hq,q F H _ (.refl s) .bl⟩
theorem zhb {K:W.Frag}:CaD (λxs H Q=>∃ (p:Addr) (ns:List Int),xs=[.ref p]/\(SqL K H p (ns.map V.int)\/SqT K H p (ns.map V.int))/\ns≠[]/\Q (.int (zeb ns)) H) zhB:=by
 intro F H vs ds z Q s al e q
 obtain⟨p,es,xs,bs,rfl,hq,bl,e1,e2⟩:=za4 (K:=K) s al e
 split at e2 <;> cases e2
 rename_i hne
 rw[zbM e1]at bl
 rw[bl.of_ints]at hq
 exact⟨p,bs,rfl,hq,hne,q F H _ (.refl s) .int⟩
end
end Dl
namespace Dl
open PySem L2
variable [KK]
section
variable {X:Cx}{tg a b c e:Expr}{pos:Pos}
def zaR:List D->List D->List D
 | x::xs,y::ys=>.tup [x,y]::zaR xs ys
 | _,_=>[]
omit [KK] in
theorem zbP:∀ (xs ys:List D) (i:Nat),(zaR xs ys)[i]?=match xs[i]?,ys[i]? with | some x,some y=>some (.tup [x,y]) | _,_=>none
 | [],ys,i=>by simp[zaR]
 | x::xs,[],i=>by simp[zaR]
 | x::xs,y::ys,0=>by simp[zaR]
 | x::xs,y::ys,i+1=>by simpa [zaR]using zbP xs ys i
omit [KK] in
theorem Wr:∀ (xs ys:List D),xs.length<=ys.length->(zaR xs ys).length=xs.length
 | [],ys,_=>by simp[zaR]
 | x::xs,[],h=>by simp at h
 | x::xs,y::ys,h=>by simp[zaR,Wr xs ys (by simpa using h)]
def xX (f:Ev->Option (List D)):Ev->Option (List D):=fun ρ=>(f ρ).bind λas=>match as with
 | [d,e]=>(xa d).bind λxs=>(xa e).bind λys=>if xs.length<=ys.length then some (zaR xs ys)else none
 | _=>none
theorem zkv {K:W.Frag}{F H:Hp}{d:D}{v:V}{ds:List D}(s:yE F H)(h:At F d v)(e:xa d=some ds):∃ b p xs,v=.ref p/\(∀ {F' H':Hp},yE F F'->yE F' H'->Sq b K H' p xs)/\AtL F ds xs:=by
 cases d <;> cases e
 .obtain⟨p,xs,rfl,hx,al⟩:=h.tup_inv
  exact⟨false,p,xs,rfl,λs1 s2=>SqT.of (s2 _ _ (s1 _ _ hx)),al⟩
 .obtain⟨p,xs,rfl,hx,al⟩:=h.lst_inv
  exact⟨true,p,xs,rfl,λs1 s2=>SqL.of (s2 _ _ (s1 _ _ hx)),al⟩
theorem zhR {es:List Expr} {k:Nat} {tp p:Pos} {f:Ev->Option (List D)} (hg:Gl X "zip") (hm:X.mg "zip"=none) (ha:AD X [a,b] f)
 (hs:starEach [a,b] X.env=[(false,eval a X.env),(false,eval b X.env)]:=by rfl) (hs2:starEach [b] X.env=[(false,eval b X.env)]:=by rfl):ID X (.Tuple es k tp) (.Call (.Name "zip" p) [a,b] [] pos) (xX f):=by
 obtain⟨t,pa,r⟩:=ha
 refine⟨_,zkF hg hm zkw pa hs hs2,fun σ ρ F H ds R s va e q=>?_⟩
 obtain⟨as,e1,e2⟩:=u4.mp e
 refine r σ ρ F H as _ s va e1 λF1 H1 v g1 a1=>?_
 split at e2
 .obtain⟨x,r',rfl,ax,ar⟩:=a1.cons_inv
  obtain⟨y,r',rfl,ay,ar⟩:=ar.cons_inv
  cases ar.nil_inv
  obtain⟨xs,e3,e2'⟩:=u4.mp e2
  obtain⟨ys,e4,e2''⟩:=u4.mp e2'
  clear e2 e2' e
  split at e2'' <;> cases e2''
  rename_i hle
  obtain⟨b1,p1,us,rfl,sq1,al⟩:=zkv (K:=X.K) g1.fh ax e3
  obtain⟨b2,p2,ws,rfl,sq2,bl⟩:=zkv (K:=X.K) g1.fh ay e4
  refine⟨b1,b2,p1,p2,us,ws,rfl,sq1 (yE.refl _) g1.fh,sq2 (yE.refl _) g1.fh,q F1 H1 _ g1 λi F2 H2 s1 s2=>?_⟩
  have q1:=sq1 s1 s2
  have q2:=sq2 s1 s2
  refine⟨λhl=>⟨us,q1,by rw[hl,Wr _ _ hle,al.length]⟩,λd hd=>?_⟩
  rw[zbP]at hd
  cases h1:xs[i]? with
  | none=>rw[h1]at hd;cases hd
  | some x =>
   cases h2:ys[i]? with
   | none=>rw[h1,h2]at hd;cases hd
   | some y =>
    rw[h1,h2]at hd
    cases hd
    obtain⟨u,hu,au⟩:=al.get h1
    obtain⟨u2,hu2,au2⟩:=bl.get h2
    refine⟨⟨us,ws,u,u2,q1,q2,hu,hu2⟩,λz H3 hz=>?_⟩
    obtain⟨T,x',y',rfl,hT,rfl,hx',hy'⟩:=hz
    have e5:=hx' us q1
    have e6:=hy' ws q2
    rw[hu]at e5
    rw[hu2]at e6
    cases e5
    cases e6
    have g3:=Gr.alloc s2 hT (.tup [u,u2])
    exact⟨_,g3,.tup zn (.cons (au.mono (s1.trans g3.ff)) (.cons (au2.mono (s1.trans g3.ff)) .nil))⟩
 .cases e2
def yV (g:List D->Option (List D))(f:Ev->Option (List D))(b:D->SE->Option SE)(h:SE->Ctl):SE->Ctl:=fun ρ=>match (f (visG ρ)).bind g with
 | some ds=>ze2 b h ds ρ
 | none=>.no
theorem Zy {p pos':Pos} {body:List Stmt} {f:Ev->Option (List D)} {b':D->SE->Option SE} {g:SE->Ctl} (hp:PassesOwn (model X.prog X.w) X.A X.env X.xe) (hc:X.calm=true) (hgl:Gl X "range") (hm:X.mg "range"=none) (ha:AD X [a] f) (hg:BD X tg b') (hb:SDs X body g)
 (hs0:starEach [a] X.env=[(false,eval a X.env)]:=by rfl) (hs:∀ x,foldedSetIterable (.Call (.Name "range" p) [a] [] pos) X.env x=pure x:=by intro _;rfl):SD X (.For tg (.Call (.Name "range" p) [a] [] pos) body [] pos') (yV YQ f b' g):=by
 obtain⟨t,pa,r⟩:=ha
 obtain⟨tg',pg,rg⟩:=hg
 obtain⟨tb,pb,rb⟩:=hb
 refine⟨_,zdG hp hc (zet hgl hm pa hs0) pg pb hs,λFb Hb F H ρ σ E rl k=>?_⟩
 unfold yV at k
 cases h:(f (visG ρ)).bind YQ with
 | none=>rw[h]at k;exact k.elim
 | some ds =>
  rw[h]at k
  obtain⟨as,e1,e2⟩:=u4.mp h
  refine r σ _ _ H as _ rl.gh rl.visG e1 λF1 H1 vs g1 a1=>?_
  have rl2:=rl.grow (rl.back g1).1
  unfold YQ at e2
  split at e2
  .split at e2 <;> cases e2
   rename_i hc
   obtain⟨x,r',rfl,ax,ar⟩:=a1.cons_inv
   cases ar.nil_inv
   exact⟨_,by rw[ax.int_inv],(yl.mp hc).1,(yl.mp hc).2,zeq (zeG 0 _) rg rb rl2 k⟩
  .cases e2
theorem zhz {p pos':Pos} {body:List Stmt} {f:Ev->Option (List D)} {b':D->SE->Option SE} {g:SE->Ctl} (hp:PassesOwn (model X.prog X.w) X.A X.env X.xe) (hc:X.calm=true) (hgl:Gl X "range") (hm:X.mg "range"=none) (ha:AD X [a,b] f) (hg:BD X tg b') (hb:SDs X body g)
 (hs0:starEach [a,b] X.env=[(false,eval a X.env),(false,eval b X.env)]:=by rfl) (hs2:starEach [b] X.env=[(false,eval b X.env)]:=by rfl) (hs:∀ x,foldedSetIterable (.Call (.Name "range" p) [a,b] [] pos) X.env x=pure x:=by intro _;rfl):SD X (.For tg (.Call (.Name "range" p) [a,b] [] pos) body [] pos') (yV Yh f b' g):=by
 obtain⟨t,pa,r⟩:=ha
 obtain⟨tg',pg,rg⟩:=hg
 obtain⟨tb,pb,rb⟩:=hb
 refine⟨_,zdG hp hc (zay hgl hm pa hs0 hs2) pg pb hs,λFb Hb F H ρ σ E rl k=>?_⟩
 unfold yV at k
 cases h:(f (visG ρ)).bind Yh with
 | none=>rw[h]at k;exact k.elim
 | some ds =>
  rw[h]at k
  obtain⟨as,e1,e2⟩:=u4.mp h
  refine r σ _ _ H as _ rl.gh rl.visG e1 λF1 H1 vs g1 a1=>?_
  have rl2:=rl.grow (rl.back g1).1
  unfold Yh at e2
  split at e2
  .split at e2 <;> cases e2
   rename_i hc
   obtain⟨x,r',rfl,ax,ar⟩:=a1.cons_inv
   obtain⟨y,r',rfl,ay,ar⟩:=ar.cons_inv
   cases ar.nil_inv
   exact⟨_,_,by rw[ax.int_inv,ay.int_inv],⟨(yl.mp hc.1).1,(yl.mp hc.1).2,(yl.mp hc.2).1,(yl.mp hc.2).2⟩,zeq (zeG _ _) rg rb rl2 k⟩
  .cases e2
end
theorem zio {P:Program}{w:World}{K:W.Frag}{mg:Str->Option Value}{base:Heap}{f:Addr}{fd:FuncData}{ps:List Str}{k m:Nat}:xz P w K mg base CX0 k f fd ps (spD m λ_=>none):=by
 refine⟨λvs H Q E h=>?_,λA outer s H args us vs Q E _ _ _ _ h=>?_⟩
 .obtain⟨_,_,_,_,_,_,e,_⟩:=h
  cases e
 .obtain⟨_,_,_,_,_,_,e,_⟩:=h
  cases e
def zkI (n:Nat)(g:(List D->Option D)->SE->Ctl):Nat->List D->Option D
 | 0=>λ_=>none
 | k+1=>fnD n (g (zkI n g k))
theorem zlw {P:Program}{w:World}{K:W.Frag}{mg:Str->Option Value}{base:Heap}{x qual:Str}{st:Stmt}{f:Addr}{fd:FuncData}{N ps:List Str}{k0:Nat}{g:(List D->Option D)->SE->Ctl}(Fu:Fun K x qual st f fd)(S:zx N ps (zk st))
 (hb:∀ (k:Nat) (r:List D->Option D),xz P w K mg base CX0 (k0+k) f fd ps (spD ps.length r)->∀ (cdv:Value) (A:Around) (outer:List Env) (s:Shared) (H:Hp) (E:XK),YJ (k0+k) (A.deeper (PyProof.Rows.envOfC qual (zk st) s.heap.objs.size f cdv))->SDs (zhW CX0 P w K mg base N qual (zk st) f cdv A outer s H E).nox (vc st) (g r)) :
 ∀ n,xz P w K mg base CX0 (k0+n) f fd ps (spD ps.length (zkI N.length g n)):=by
 intro n
 induction n with
 | zero=>exact zio
 | succ n ih=>exact xh Fu S λcdv A outer s H E hr=>hb n _ ih cdv A outer s H E hr
def zeL (K:W.Frag):Sp:=λvs H Q _=>∃ (a:Addr) (ns:List Int),vs=[.ref a]/\SqL K H a (ns.map V.int)/\ns.length<=63/\∀ H',Q (.bl true) H'
end Dl
namespace Dl
open PySem L2
theorem zkZ {P:Program}{w:World}{K:W.Frag}{mg:Str->Option Value}{base:Heap}{f:Addr}{fd:FuncData}{ps:List Str}{k:Nat}{p:List D->Option D}(F:xz P w K mg base CX0 k f fd ps (@spD ⟨K⟩ 1 p))(h:∀ ns:List Int,ns.length<=63->p [.scr ns]=some (.bl true)) :
 xz P w K mg base CX0 k f fd ps (zeL K):=by
 letI:KK:=⟨K⟩
 refine F.imp λvs H Q E hs=>?_
 obtain⟨a,ns,rfl,hq,hl,q⟩:=hs
 refine⟨[.scr ns],.bl true,H,rfl,yE.refl _,.cons ?_ .nil,h ns hl,λF' H' v _ av=>?_⟩
 .unfold At
  exact⟨a,rfl,hq⟩
 .rw[av.bl_inv]
  exact q H'
structure Def (K:W.Frag) (mg:Str->Option Value) (x:Str) (st:Stmt) (ps:List Str) (f:Addr) (fd:FuncData):Prop where
 fn:Fun K x x st f fd
 bd:zbk K fd ps []
 at_:mg x=some (.ref f)
theorem Def.kp {K:W.Frag}{mg:Str->Option Value}{x:Str}{st:Stmt}{ps:List Str}{f:Addr}{fd:FuncData}(d:Def K mg x st ps f fd):W.keepIn K (.ref f)=true:=d.fn.kp
inductive Ctl.w:Ctl->(SE->Prop)->(SE->Prop)->(SE->Prop)->(D->Prop)->Prop where
 | nx {ρ:SE} {n b k:SE->Prop} {r:D->Prop}:n ρ->Ctl.w (.nx ρ) n b k r
 | bk {ρ:SE} {n b k:SE->Prop} {r:D->Prop}:b ρ->Ctl.w (.bk ρ) n b k r
 | ct {ρ:SE} {n b k:SE->Prop} {r:D->Prop}:k ρ->Ctl.w (.ct ρ) n b k r
 | rt {d:D} {n b k:SE->Prop} {r:D->Prop}:r d->Ctl.w (.rt d) n b k r
section
variable {ρ:SE}{d:D}{n b k:SE->Prop}{r:D->Prop}
theorem Ctl.w.nxi (h:Ctl.w (.nx ρ) n b k r):n ρ:=by cases h;assumption
theorem Ctl.w.bki (h:Ctl.w (.bk ρ) n b k r):b ρ:=by cases h;assumption
theorem Ctl.w.cti (h:Ctl.w (.ct ρ) n b k r):k ρ:=by cases h;assumption
theorem Ctl.w.rti (h:Ctl.w (.rt d) n b k r):r d:=by cases h;assumption
theorem Ctl.w.noi (h:Ctl.w .no n b k r):False:=by cases h
end
abbrev noP:SE->Prop:=λ_=>False
section
variable {g h:SE->Ctl}{ρ ρ':SE}{n b k:SE->Prop}{r:D->Prop}
theorem yS (e:(g ρ).w (fun ρ'=>(h ρ').w n b k r) b k r):(zG g h ρ).w n b k r:=by
 unfold zG
 cases hg:g ρ with
 | nx ρ'=>rw[hg]at e;exact e.nxi
 | bk ρ'=>rw[hg]at e;exact .bk e.bki
 | ct ρ'=>rw[hg]at e;exact .ct e.cti
 | rt d=>rw[hg]at e;exact .rt e.rti
 | no=>rw[hg]at e;exact e.noi.elim
theorem zu (e:g ρ=.nx ρ')(q:(h ρ').w n b k r):(zG g h ρ).w n b k r:=yS (by rw[e];exact .nx q)
theorem vQ (e:g ρ=.nx ρ')(q:n ρ'):(g ρ).w n b k r:=by rw[e];exact .nx q
theorem Zp {d:D}(e:g ρ=.rt d)(q:r d):(g ρ).w n b k r:=by rw[e];exact .rt q
theorem Xq {t:Ev->Option Bool}{c:Bool}(e:t (visG ρ)=some c)(h1:c=true->(g ρ).w n b k r)(h2:c=false->(h ρ).w n b k r):(sIf t g h ρ).w n b k r:=by
 unfold sIf
 rw[e]
 cases c with
 | true=>exact h1 rfl
 | false=>exact h2 rfl
theorem ziG {i:Nat}(e:zma ρ i=ρ')(q:(g ρ').w n b k r):(sFz i g ρ).w n b k r:=by
 unfold sFz
 rw[e]
 exact q
theorem zes {bd:D->SE->Option SE}(I:Nat->SE->Prop):∀ (ds:List D) (j:Nat) (ρ:SE),I j ρ ->
 (∀ i d ρ,ds[i]?=some d->I (j+i) ρ->∃ ρ1,bd d ρ=some ρ1/\(g ρ1).w (I (j+i+1)) n (I (j+i+1)) r)->(∀ ρ,I (j+ds.length) ρ->n ρ)->(ze2 bd g ds ρ).w n b k r
 | [],j,ρ,h0,_,fin=>.nx (fin ρ h0)
 | d::ds,j,ρ,h0,step,fin=>by
  obtain⟨ρ1,e1,e2⟩:=step 0 d ρ rfl h0
  unfold ze2
  rw[e1]
  dsimp only
  have next:∀ ρ',I (j+1) ρ'->(ze2 bd g ds ρ').w n b k r:=fun ρ' h'=>zes I ds (j+1) ρ' h'
   (λi d' ρ hd hI=>by
    have:=step (i+1) d' ρ (by simpa using hd) (by rw[show j+(i+1)=j+1+i by omega];exact hI)
    rwa[show j+(i+1)+1=j+1+i+1 by omega]at this)
   (fun ρ hI=>fin ρ (by rw[i4,show j+(ds.length+1)=j+1+ds.length by omega];exact hI))
  cases hg:g ρ1 with
  | nx ρ'=>rw[hg]at e2;exact next ρ' e2.nxi
  | ct ρ'=>rw[hg]at e2;exact next ρ' e2.cti
  | bk ρ'=>rw[hg]at e2;exact .nx e2.bki
  | rt d'=>rw[hg]at e2;exact .rt e2.rti
  | no=>rw[hg]at e2;exact e2.noi.elim
theorem Xk {f:Ev->Option (List D)}{bd:D->SE->Option SE}{ds:List D}(I:Nat->SE->Prop)(e:f (visF ρ)=some ds)(h0:I 0 ρ)
 (step:∀ i d ρ,ds[i]?=some d->I i ρ->∃ ρ1,bd d ρ=some ρ1/\(g ρ1).w (I (i+1)) n (I (i+1)) r) (fin:∀ ρ,I ds.length ρ->n ρ):(v7 f bd g ρ).w n b k r:=by
 unfold v7
 rw[e]
 exact zes I ds 0 ρ h0 (λi d ρ hd hI=>by rw[u0u]at hI ⊢;exact step i d ρ hd hI) (fun ρ hI=>fin ρ (by rw[u0u]at hI;exact hI))
theorem WS {f:Ev->Option (List D)}{bd:D->SE->Option SE}{rg:List D->Option (List D)}{lo:Int}{c:Nat}(I:Nat->SE->Prop)(e:(f (visG ρ)).bind rg=some (Xm lo c))(h0:I 0 ρ)
 (step:∀ (i:Nat) ρ,i < c->I i ρ->∃ ρ1,bd (.int (lo+i)) ρ=some ρ1/\(g ρ1).w (I (i+1)) n (I (i+1)) r) (fin:∀ ρ,I c ρ->n ρ):(yV rg f bd g ρ).w n b k r:=by
 unfold yV
 rw[e]
 refine zes I (Xm lo c) 0 ρ h0 (λi d ρ hd hI=>?_) (fun ρ hI=>fin ρ ?_)
 .rw[u0u]at hI ⊢
  unfold Xm at hd
  rw[j4]at hd
  by_cases hi:i < c
  .rw[u1V hi]at hd
   cases hd
   exact step i ρ hi hI
  .rw[u0g (by simpa using hi)]at hd
   cases hd
 .rw[u0u]at hI
  rwa[show(Xm lo c).length=c by unfold Xm;simp]at hI
theorem Wl {t:Ev->Option Bool}(I:SE->Prop)(μ:SE->Nat)(step:∀ ρ,I ρ->∃ c,t (visG ρ)=some c/\(c=true->(g ρ).w (fun ρ'=>I ρ'/\μ ρ' < μ ρ) n (fun ρ'=>I ρ'/\μ ρ' < μ ρ) r)/\(c=false->n ρ)):∀ (fu:Nat) (ρ:SE),I ρ->μ ρ < fu->(vv t g fu ρ).w n b k r
 | 0,ρ,_,hf=>by omega
 | fu+1,ρ,hI,hf=>by
  obtain⟨c,e,q1,q2⟩:=step ρ hI
  unfold vv
  rw[e]
  cases c with
  | false=>exact .nx (q2 rfl)
  | true =>
   have q:=q1 rfl
   dsimp only
   cases hg:g ρ with
   | nx ρ'=>rw[hg]at q;exact Wl I μ step fu ρ' q.nxi.1 (by have:=q.nxi.2;omega)
   | ct ρ'=>rw[hg]at q;exact Wl I μ step fu ρ' q.cti.1 (by have:=q.cti.2;omega)
   | bk ρ'=>rw[hg]at q;exact .nx q.bki
   | rt d'=>rw[hg]at q;exact .rt q.rti
   | no=>rw[hg]at q;exact q.noi.elim
end
theorem VT {m:Nat}{g:SE->Ctl}{ds:List D}{d:D}{ρ:SE}(e:ds.map .v++List.replicate (m - ds.length) .no=ρ)(q:(g ρ).w (λ_=>d=.non) noP noP (λd'=>d'=d)):fnD m g ds=some d:=by
 unfold fnD
 rw[e]
 cases hg:g ρ with
 | nx ρ'=>rw[hg]at q;rw[show d=.non from q.nxi]
 | rt d'=>rw[hg]at q;rw[show d'=d from q.rti]
 | bk _=>rw[hg]at q;exact q.bki.elim
 | ct _=>rw[hg]at q;exact q.cti.elim
 | no=>rw[hg]at q;exact q.noi.elim
theorem zam {m:Bool}{i:Nat}{f:Ev->Option D}{ρ:SE}{ds:List D}{d:D}(h1:vEv m f ρ=some d)(h2:ρ[i]?=some (.o ds))(h3:ds.length<=1000):YS m i f ρ=.nx (ρ.set i (.o (ds++[d]))):=by
 unfold YS
 rw[h1,h2]
 show(match (if decide (ds.length < sizeLine)=true then some (ρ.set i (.o (ds++[d])))else none)with | some ρ'=>Ctl.nx ρ' | none=>Ctl.no)=_
 rw[t7 (r9 (vw h3))]
theorem VM {b:D->Option (List (Option D))}{t:Ev->Option Bool}{f:Ev->Option D}{ρ:Ev}{α:Type}(c:α->D)(y:α->D):∀ (xs:List α),(∀ x∈xs,∃ own,b (c x)=some own/\t (own++ρ)=some true/\f (own++ρ)=some (y x))->lcD b t f ρ (xs.map c)=some (xs.map y)
 | [],_=>rfl
 | x::xs,h=>by
  obtain⟨own,h1,h2,h3⟩:=h x o0
  show lcD b t f ρ (c x::xs.map c)=_
  unfold lcD
  rw[h1]
  simp only[i7,h2,u21,h3,VM c y xs λz hz=>h z (d9 _ hz)]
  rfl
theorem ZW {b:D->Option (List (Option D))}{t:Ev->Option Bool}{f:Ev->Option D}{ρ:Ev}{α:Type}(c:α->D)(p:α->Bool)(y:α->D):∀ (xs:List α),(∀ x∈xs,∃ own,b (c x)=some own/\t (own++ρ)=some (p x)/\(p x=true->f (own++ρ)=some (y x)))->lcD b t f ρ (xs.map c)=some ((xs.filter p).map y)
 | [],_=>rfl
 | x::xs,h=>by
  obtain⟨own,h1,h2,h3⟩:=h x o0
  have ih:=ZW c p y xs λz hz=>h z (d9 _ hz)
  show lcD b t f ρ (c x::xs.map c)=_
  unfold lcD
  rw[h1]
  simp only[i7,h2]
  cases hp:p x with
  | false =>
   rw[j7 u8,ih,List.filter_cons,j7 (by rw[hp];exact u8)]
  | true =>
   rw[t7 rfl,h3 hp,ih,List.filter_cons,t7 hp]
   rfl
mutual
def noS:D->Bool
 | .tup ds=>zh0 ds
 | .lst ds=>zh0 ds
 | .scr _=>false
 | _=>true
def zh0:List D->Bool
 | []=>true
 | d::ds=>noS d&&zh0 ds
end
theorem YH:∀ {ds:List D} {i:Nat} {d:D},zh0 ds=true->ds[i]?=some d->noS d=true
 | [],_,_,_,h=>by simp at h
 | d::ds,i,e,h,he=>by
  unfold zh0 at h
  rw[g9]at h
  cases i with
  | zero=>simp at he;subst he;exact h.1
  | succ i=>exact YH h.2 (by simpa using he)
theorem YX {n:Nat}(h:n<=1000):lim n=true:=by
 unfold lim
 exact r9 (u0R (vw h))
theorem zbs (lo:Int)(n:Nat):(Xm lo n).length=n:=by unfold Xm;simp
end Dl
namespace Dl
open PySem L2
abbrev Pr:=Int × Int
def prD (t:Pr):D:=.tup [.int t.1,.int t.2]
def zl3:D->Option Pr
 | .tup [.int a,.int b]=>some (a,b)
 | _=>none
def zas:List D->Option (List Pr)
 | []=>some []
 | d::ds=>(zl3 d).bind λt=>(zas ds).map (t::·)
theorem zik {d:D}{t:Pr}(h:zl3 d=some t):d=prD t:=by
 unfold zl3 at h
 split at h
 .cases h;rfl
 .cases h
theorem Vf:∀ {ds:List D} {ts:List Pr},zas ds=some ts->ds=ts.map prD
 | [],ts,h=>by cases h;rfl
 | d::ds,ts,h=>by
  unfold zas at h
  obtain⟨t,h1,h2⟩:=u4.mp h
  obtain⟨us,h3,rfl⟩:=u7.mp h2
  rw[zik h1,Vf h3]
  rfl
theorem zaz (ts:List Pr):zas (ts.map prD)=some ts:=by
 induction ts with
 | nil=>rfl
 | cons t ts ih =>
  show(zl3 (prD t)).bind (λu=>(zas (ts.map prD)).map (u::·))=_
  rw[ih]
  rfl
def zjR (a b:Pr):Bool:=!OwnSort.bltP b a
def Y3 (ts:List Pr):List Pr:=ts.mergeSort zjR
def leI (a b:Int):Bool:=decide (a<=b)
def zgl (ns:List Int):List Int:=ns.mergeSort leI
theorem WY {a b:Pr}:OwnSort.bltP b a=false↔zjR a b=true:=by unfold zjR;simp
theorem wY {a b:Pr}:zjR a b=true↔a.1 < b.1\/(a.1=b.1/\a.2<=b.2):=by
 rw[<-WY]
 unfold OwnSort.bltP
 rw[u0K]
 omega
theorem ZX {ts us:List Pr}(p:us.Perm ts)(h:us.Pairwise λa b=>OwnSort.bltP b a=false):us=Y3 ts:=by
 refine u1K (le:=λa b=>zjR a b=true) (λa b _ _ h1 h2=>?_) (h.imp λx=>WY.mp x) ?_ (p.trans (u3l _ _).symm)
 .rw[wY]at h1 h2
  exact u2E (by omega) (by omega)
 .exact u2B (λa b c h1 h2=>by rw[wY]at *;omega) (λa b=>by rw[u1I,wY,wY];omega) _
theorem zdh {ts us:List Int}(p:us.Perm ts)(h:us.Pairwise (·<=·)):us=zgl ts:=by
 refine u1K (le:=λa b=>leI a b=true) (λa b _ _ h1 h2=>?_) (h.imp λx=>r9 x) ?_ (p.trans (u3l _ _).symm)
 .unfold leI at h1 h2
  rw[d5]at h1 h2
  omega
 .exact u2B (λa b c h1 h2=>by unfold leI at *;rw[d5]at *;omega) (λa b=>by unfold leI;rw[u1I,d5,d5];omega) _
def Wk:List D->Option (List D)
 | [.lst ds]=>if ds.length < 64 then match zas ds with
  | some ts=>some ((Y3 ts).map prD)
  | none=>match zjI ds with
   | some ns=>some ((zgl ns).map .int)
   | none=>none
  else none
 | _=>none
variable [KK]
section
variable {X:Cx}{e:Expr}{pos:Pos}
theorem At.pr_inv {F:Hp}{t:Pr}{v:V}(h:At F (prD t) v):∃ a,v=.ref a/\F a=some (.tup [.int t.1,.int t.2]):=by
 obtain⟨a,xs,rfl,hx,al⟩:=h.tup_inv
 obtain⟨x,r,rfl,a1,al⟩:=al.cons_inv
 obtain⟨y,r,rfl,a2,al⟩:=al.cons_inv
 cases al.nil_inv
 cases a1.int_inv
 cases a2.int_inv
 exact⟨a,rfl,hx⟩
theorem zaa (hc:X.calm=true):Yb X (.builtin "sorted") (λxs H Q=>∃ F p ys ds out,xs=[.ref p]/\yE F H/\H p=some (.lst ys)/\AtL F ds ys/\Wk [.lst ds]=some out/\∀ l zs,H l=none->AtL F out zs->Q (.ref l) (upd H l (.lst zs))):=by
 intro pins s σ H xs us Q I r h
 obtain⟨F,p,ys,ds,out,rfl,sm,hp,al,hs,q⟩:=h
 obtain⟨u,rfl,ru⟩:=X0 r
 cases ru
 obtain⟨its,rv,pl,hz⟩:=I.list (SqL.of hp)
 have hlen:its.length=ds.length:=by rw[<-rv.length,al.length]
 unfold Wk at hs
 dsimp only at hs
 split at hs <;> try cases hs
 rename_i h64
 have fin:∀ (zs:List V) (ws:List Value),zs.length < 64->yd zs ws->AtL F out zs->EP X pins σ Q (.ref (s.heap.objs.size+1)) { s with heap:=PyProof.Rows.sortedAll s.heap its ws.toArray }:=λzs ws hl rz az=>by
  have hn:H (s.heap.objs.size+1)=none:=I.hok.fresh (u1x _)
  obtain⟨ep,he⟩:=PyProof.Rows.sortedAll_at s.heap its ws.toArray
  refine⟨.ref (s.heap.objs.size+1),upd H (s.heap.objs.size+1) (.lst zs),I.laid (t':=s.toks) (λb o z=>PyProof.Rows.sortedAll_old z) (u1x _) ?_,rfl,q _ zs hn az⟩
  exact⟨u0R (vw (by omega)),ws,ep,rz,he⟩
 split at hs
 .rename_i ts hts
  cases hs
  have eds:=Vf hts
  subst eds
  have look:∀ {v:Value},v∈its->∃ a t,v=.ref a/\t∈ts/\F a=some (.tup [.int t.1,.int t.2])/\OwnSort.TP s.heap v t:=λ{v} hv=>by
   obtain⟨j,hj,rfl⟩:=u07 hv
   have hj2:j < ts.length:=by rw[u6]at hlen;omega
   obtain⟨x,hx,ax⟩:=al.get (i:=j) (d:=prD ts[j]) (by rw[j4];simp[hj2])
   obtain⟨a,rfl,ha⟩:=ax.pr_inv
   obtain⟨v,hv,rvv⟩:=rv.get hx
   have e1:its[j]?=some its[j]:=by simp[hj]
   rw[hv]at e1
   cases e1
   have e2:its[j]=.ref a:=rvv
   refine⟨a,ts[j],e2,u0x hj2,ha,?_⟩
   obtain⟨us,ru,⟨o,ho,hcl,n,hd⟩,_⟩:=I.tuple (SqT.of (sm _ _ ha))
   obtain⟨u1,u2,rfl,r1,r2⟩:=zbo ru
   obtain⟨t1,rfl⟩:=r1
   obtain⟨t2,rfl⟩:=r2
   exact⟨a,o,n,t1,t2,e2,ho,hcl,hd⟩
  refine OwnSort.own_sorted pl.isList (λv hv=>let ⟨a,t,_,_,_,ht⟩:=look hv;⟨t,ht⟩) (by omega) λo2 pm ri=>?_
  obtain⟨us,l1,l2,l3⟩:=ri
  have hlo:o2.toList.length=ts.length:=by rw[pm.length_eq,hlen,u6]
  -- the values' addresses
  have zsOf:∀ (ws:List Value) (vs:List Pr),ws.length=vs.length->(∀ w∈ws,w∈its)->(∀ (i:Nat) v t,ws[i]?=some v->vs[i]?=some t->OwnSort.TP s.heap v t)->∃ zs:List V,yd zs ws/\AtL F (vs.map prD) zs:=by
   intro ws
   induction ws with
   | nil =>
    intro vs hl _ _
    cases vs with
    | nil=>exact⟨[],.nil,.nil⟩
    | cons _ _=>simp at hl
   | cons w ws ih =>
    intro vs hl hm ht
    cases vs with
    | nil=>simp at hl
    | cons t vs =>
     obtain⟨zs,z1,z2⟩:=ih vs (by simpa using hl) (λw' hw'=>hm w' (d9 _ hw')) (λi v t h1 h2=>ht (i+1) v t (by simpa using h1) (by simpa using h2))
     obtain⟨a,t',rfl,_,ha,htp⟩:=look (hm w o0)
     have et:t'=t:=htp.uniq (ht 0 _ t rfl rfl)
     subst et
     exact⟨.ref a::zs,.cons rfl z1,.cons (.tup ha (.cons .int (.cons .int .nil))) z2⟩
  obtain⟨zs,z1,z2⟩:=zsOf o2.toList us l1 (λw hw=>pm.mem_iff.mp hw) l2
  have keysPerm:us.Perm ts:=by
   -- by the keys of the values
   have kv:∀ (ws:List Value) (vs:List Pr),ws.length=vs.length->(∀ (i:Nat) v t,ws[i]?=some v->vs[i]?=some t->OwnSort.TP s.heap v t)->vs=ws.map λv=>(OwnSort.keyP s.heap v).getD (0,0):=by
    intro ws
    induction ws with
    | nil=>intro vs hl _;cases vs with
     | nil=>rfl
     | cons _ _=>simp at hl
    | cons w ws ih =>
     intro vs hl ht
     cases vs with
     | nil=>simp at hl
     | cons t vs =>
      rw[i8,OwnSort.keyP_of (ht 0 w t rfl rfl),<- ih vs (by simpa using hl) λi v t h1 h2=>ht (i+1) v t (by simpa using h1) (by simpa using h2)]
      rfl
   rw[kv _ _ l1 l2,kv its ts (by rw[hlen,u6]) λi v t h1 h2=>?_]
   .exact pm.map _
   .obtain⟨x,hx,ax⟩:=al.get (i:=i) (d:=prD t) (by rw[j4,h2];rfl)
    obtain⟨a,rfl,ha⟩:=ax.pr_inv
    obtain⟨v',hv',rvv⟩:=rv.get hx
    rw[h1]at hv'
    cases hv'
    obtain⟨us',ru',⟨o,ho,hcl,n,hd⟩,_⟩:=I.tuple (SqT.of (sm _ _ ha))
    obtain⟨u1,u2,rfl,r1,r2⟩:=zbo ru'
    obtain⟨t1,rfl⟩:=r1
    obtain⟨t2,rfl⟩:=r2
    exact⟨a,o,n,t1,t2,rvv,ho,hcl,hd⟩
  have e3:=ZX keysPerm l3
  rw[e3]at z2
  have:=fin zs o2.toList (by rw[z1.length];rw[u6]at h64;omega) z1 z2
  simpa using this
 .split at hs <;> try cases hs
  rename_i ns hns
  have eds:=zbM hns
  subst eds
  have hI:PyProof.Rows.IntsAre its ns:=vB (by rw[<-al.of_ints];exact rv)
  refine PyProof.Rows.sorted_ints pl.isList hI (by omega) λo2 ns' h1 h2 h3=>?_
  have e3:=zdh h2 h3
  subst e3
  have z1:yd ((zgl ns).map V.int) o2.toList:=XZ h1
  have:=fin ((zgl ns).map V.int) o2.toList (by rw[u6,h2.length_eq];rw[u6]at h64;omega) z1 (.ints _)
  simpa using this
theorem zae {p:Pos} {f:Ev->Option (List D)} (hc:X.calm=true) (hgl:Gl X "sorted") (hm:X.mg "sorted"=none) (ha:AD X [e] f)
 (he:starEach [e] X.env=(false,eval e X.env)::starEach [] X.env:=by rfl) (hpl:(backTo pos (starEach [] X.env)).any (·.1)=false:=by rfl):FL X (.Call (.Name "sorted" p) [e] [] pos) (fFn Wk f):=by
 obtain⟨t,pa,ra⟩:=ha
 refine⟨_,Xz (zaa hc) hgl hm Zv pa (by decide) (by decide) he hpl,fun σ ρ F H z Q s va e q=>?_⟩
 obtain⟨ds,e1,e2⟩:=u4.mp e
 refine ra σ ρ F H ds _ s va e1 λF1 H1 vs g1 a1=>?_
 have e2':=e2
 unfold Wk at e2'
 split at e2'
 .obtain⟨x,r,rfl,ax,ar⟩:=a1.cons_inv
  cases ar.nil_inv
  obtain⟨p,ys,rfl,hx,bl⟩:=ax.lst_inv
  exact⟨F1,p,ys,_,z,rfl,g1.fh,g1.fh _ _ hx,bl,e2,λl zs hl az=>q _ _ _ _ (g1.trans (Gr.hide g1.fh hl _)) (VD g1 hl) (g1.fh.free hl) zn az⟩
 .cases e2'
end
end Dl
namespace L2
open PySem PySem.Spec PyProof.Rows
section
variable {X:Cx}
def zfI:V->List V->Hp->VK->Prop:=λx vs H Q=>∃ l xs i y,x=.ref l/\vs=[.int i,y]/\H l=some (.lst xs)/\xs.length < sizeLine/\0<=i/\i < 2 ^ 63/\Q .non (upd H l (.lst (xs.take i.toNat++y::xs.drop i.toNat)))
theorem zis (its:List Value)(u:Value)(x:Int)(h0:0<=x) :
 (λxs:Array Value=>have k:=if x < 0 then (x+((xs.size:Nat):Int)).toNat else min x.toNat xs.size;(xs.extract 0 k).push u++xs.extract k) its.toArray=(its.take x.toNat++u::its.drop x.toNat).toArray:=by
 have hn:¬ x < 0:=by omega
 apply Array.ext'
 simp only[j7 hn]
 by_cases c:x.toNat<=its.length
 .simp[u1y c]
  exact u1h (by rw[u0h];exact t5 _)
 .have e:min x.toNat its.length=its.length:=by omega
  have e1:its.take x.toNat=its:=u1h (by omega)
  have e2:its.drop x.toNat=[]:=List.drop_eq_nil_of_le (by omega)
  simp[e,e1,e2]
theorem zfp:MtM X "list.insert" zfI:=by
 intro pins s σ H x vs v us Q I rx rv h
 obtain⟨l,xs,i,y,rfl,rfl,hH,hz,h0,h1,q⟩:=h
 cases rx
 obtain⟨u,w,rfl,ru,rw'⟩:=rv.two
 obtain⟨t,rfl⟩:=ru
 obtain⟨z,its,n,r,hl,e⟩:=I.lstM hH
 have hfit:¬(!Builtin.List.listFitsIndex i)=true:=by
  have:Builtin.List.listFitsIndex i=true:=fitsIndex_both (by omega) h1
  rw[this]
  exact u8
 refine u3M F.slot_list_insert ⟨_,e,rfl⟩ F.entry_list_insert (F.args_list_insert_3 _ _ _) (AutoListH.list_insert_list_int_val_1 l its.toArray n i t w hfit (by rw[q5];omega)) ⟨e,?_⟩
 refine⟨.non,_,I.lset (its':=its.take i.toNat++w::its.drop i.toNat) hH e (zis its w i h0) ((r.take _).append (.cons rw' (r.drop _))) ?_,rfl,q⟩
 rw[d6,i4,u05,u0h]
 omega
end
end L2
namespace Dl
open PySem L2
section
variable [KK]{X:Cx}{a e k:Expr}{pos:Pos}
def zmb (ds:List D)(i:Int)(d:D):List D:=ds.take i.toNat++d::ds.drop i.toNat
def zlk (m:Bool)(i:Nat)(fk f:Ev->Option D):SE->Ctl:=fun ρ=>match (vEv m fk ρ).bind λkd=>(vEv m f ρ).bind λd=>match ρ[i]?,kd with
 | some (.o ds),.int j=>if (decide (ds.length < sizeLine)&&decide (0<=j/\j < 2 ^ 63))=true then some (ρ.set i (.o (zmb ds j d)))else none
 | _,_=>none with
 | some ρ'=>.nx ρ'
 | none=>.no
theorem zkL {m:Bool}{i:Nat}{p pos':Pos}{fk f:Ev->Option D}(ho:PE X a (zjD i))(hk:ED X k fk)(he:ED X e f)
 (hp:∀ {ta:TE} {t:TA},PE X a ta->PA X [k,e] t->PE X (.Call (.Attribute a "insert" p) [k,e] [] pos') (tBM X.K "list" zfI ta t)) (hsw:swapsWith (.Call (.Attribute a "insert" p) [k,e] [] pos') none pos.line X.env=pure false:=by rfl)
 (hs:starEach [k,e] X.env=(false,eval k X.env)::starEach [e] X.env:=by rfl) (hs2:starEach [e] X.env=(false,eval e X.env)::starEach [] X.env:=by rfl):SD X (.Expr (.Call (.Attribute a "insert" p) [k,e] [] pos') pos) (zlk m i fk f):=by
 obtain⟨tk,pk,rk⟩:=hk
 obtain⟨t,pe,re⟩:=he
 refine⟨_,zbu (hp ho (ZR pk (ZR pe zb9 hs2) hs)) hsw,λFb Hb F H ρ σ E rl kk=>?_⟩
 unfold zlk at kk
 cases h:(vEv m fk ρ).bind λkd=>(vEv m f ρ).bind λd=>match ρ[i]?,kd with
  | some (.o ds),.int j=>if (decide (ds.length < sizeLine)&&decide (0<=j/\j < 2 ^ 63))=true then some (ρ.set i (.o (zmb ds j d)))else none
  | _,_=>none with
 | none=>rw[h]at kk;exact kk.elim
 | some ρ' =>
  rw[h]at kk
  obtain⟨kd,e0,e2⟩:=u4.mp h
  obtain⟨d,e1,e2⟩:=u4.mp e2
  cases hs:ρ[i]? with
  | none=>rw[hs]at e2;cases e2
  | some sl =>
   rw[hs]at e2
   cases sl with
   | no=>cases e2
   | v _=>cases e2
   | m _ _ _=>cases e2
   | o ds =>
    cases kd with
    | int j =>
     dsimp only at e2
     split at e2 <;> cases e2
     rename_i hl
     rw[g9]at hl
     have hj:=r6 hl.2
     obtain⟨q,xs,f1,f2,f3,f4,f5⟩:=rl.owns i ds hs
     refine⟨_,f1,.inl ⟨rfl,xs,SqL.of f4⟩,?_⟩
     refine rk.at rl e0 λF0 H0 vk g0 ak=>?_
     have rl1:=rl.grow g0
     refine re.at rl1 e1 λF' H' v g av=>?_
     have rl2:=rl1.grow g
     obtain⟨q2,xs2,f1',_,_,f4',f5'⟩:=rl2.owns i ds hs
     rw[f1]at f1'
     cases f1'
     cases ak.int_inv
     refine⟨q,xs2,j,v,rfl,rfl,f4',by rw[f5'.length];exact r6 hl.1,hj.1,hj.2,?_⟩
     exact kk _ _ σ (rl2.mutate hs f1 ((f5'.take _).append (.cons av (f5'.drop _))))
    | _=>cases e2
end
theorem zlb {m:Bool}{i:Nat}{fk f:Ev->Option D}{ρ:SE}{ds:List D}{d:D}{k:Int}(h0:vEv m fk ρ=some (.int k))(h1:vEv m f ρ=some d)(h2:ρ[i]?=some (.o ds))(h3:ds.length<=1000)(h4:0<=k)(h5:k<=1000):zlk m i fk f ρ=.nx (ρ.set i (.o (zmb ds k d))):=by
 unfold zlk
 rw[h0,h1,h2]
 show(match (if (decide (ds.length < sizeLine)&&decide (0<=k/\k < 2 ^ 63))=true then some (ρ.set i (.o (zmb ds k d)))else none)with | some ρ'=>Ctl.nx ρ' | none=>Ctl.no)=_
 have hs:ds.length < sizeLine:=vw h3
 rw[t7 (by rw[r9 hs,r9 ⟨h4,by omega⟩];rfl)]
end Dl
namespace Dl
open PySem L2
variable [KK]
section
variable {X:Cx}{a e:Expr}
def ze3:V->List V->Hp->VK->Prop:=λx vs H Q=>∃ G d ds y l xs j,x=.ref l/\vs=[y]/\yE G H/\G l=some (.lst xs)/\AtL G ds xs/\At G d y/\okE 20 d=true/\ds.all (okE 20)=true/\j < ds.length/\eqN 20 (ds.getD j .non) d=true/\(∀ m,m < j->eqN 20 (ds.getD m .non) d=false)/\Q (.int (j:Int)) H
theorem Vw {k:Nat}{pins:List (Addr × Obj)}{s:Shared}{σ:St}{H G:Hp}{d:D}{ds:List D}{y:V}{u:Value}{xs:List V}{us:List Value}(hr:YJ k X.A)(I:Inv X pins σ H s)(sm:yE G H)(kd:okE 20 d=true)(kds:ds.all (okE 20)=true)(ad:At G d y)(ru:yG y u)(al:AtL G ds xs)(r:yd xs us):∀ z∈us,SeqAt.EqAt X.A.in1 s z u (za0 G d z):=λz hz=>by
 have hu:X.A.in1.units+20 < cLine:=by have:=hr.un;show X.A.units+1+20 < cLine;omega
 obtain⟨j,hj,rfl⟩:=u07 hz
 obtain⟨x',ax,rx'⟩:=al.nth r hj
 have hj':j < ds.length:=by have:=al.length;have:=r.length;omega
 have k2:=xK kds hj'
 rw[Vy ax rx' k2]
 exact zaN I sm 20 k2 kd ax ad rx' ru hu
theorem Wu {k:Nat} (hr:YJ k X.A):MtM X "list.index" ze3:=by
 intro pins s σ H x vs v us Q I rx rv h
 obtain⟨G,d,ds,y,l,xs,j,rfl,rfl,sm,hx,al,ad,kd,kds,hj,hit,hno,q⟩:=h
 cases rx
 obtain⟨u,rfl,ru⟩:=rv.one
 obtain⟨z,its,n,r,hl,e⟩:=I.lstM (sm _ _ hx)
 have mem:=Vw hr I sm kd kds ad ru al r
 have hlen:its.length=ds.length:=by rw[<-hl,al.length]
 have ans:∀ m (hm:m < its.length),za0 G d its[m]=eqN 20 (ds.getD m .non) d:=λm hm=>by
  obtain⟨x',ax,rx'⟩:=al.nth r hm
  exact Vy ax rx' (xK kds (by omega))
 have hsm:((j:Nat):Int) < 2 ^ 63 - 1:=by
  have h1:j < sizeLine:=by have:=al.length;omega
  have h2:(sizeLine:Int) < 2 ^ 63 - 1:=by decide
  omega
 refine u3M u1X ⟨_,e,rfl⟩ PySem.F.entry_list_index (PySem.F.args_list_index_2 _ _) (SeqAt.list_indexAt l its.toArray n none #[] u (za0 G d) j (by rw[q5];omega) hsm ?_ ?_) ⟨e,λy hy=>mem y (by simpa using hy),?_⟩
 .show za0 G d its[j]=true
  rw[ans j (by omega)]
  exact hit
 .intro m hm hlt
  show za0 G d its[m]=false
  rw[ans m (by omega)]
  exact hno m hlt
 .exact⟨.int (j:Int),H,I.tok _,⟨_,rfl⟩,q⟩
def zf5 (c d:D):Option D:=match c with
 | .lst ds=>if okE 20 d=true/\ds.all (okE 20)=true then (ds.findIdx? λe=>eqN 20 e d).map λ(j:Nat)=>D.int (j:Int)else none
 | _=>none
def zcO (m:D->D->Option D)(f:Ev->Option D)(g:Ev->Option (List D)):Ev->Option D:=fun ρ=>(f ρ).bind λc=>(g ρ).bind λds=>match ds with
 | [d]=>m c d
 | _=>none
theorem VA {p pos':Pos}{f:Ev->Option D}{g:Ev->Option (List D)}(ha:ED X a f)(he:AD X [e] g)
 (hp:∀ {ta:TE} {t:TA},PE X a ta->PA X [e] t->PE X (.Call (.Attribute a "index" p) [e] [] pos') (tBM X.K "list" ze3 ta t)):ED X (.Call (.Attribute a "index" p) [e] [] pos') (zcO zf5 f g):=by
 obtain⟨ta,pa,ra⟩:=ha
 obtain⟨t,pe,re⟩:=he
 refine⟨_,hp pa pe,fun σ ρ F H z Q s va h0 q=>?_⟩
 obtain⟨c,e1,h1⟩:=u4.mp h0
 obtain⟨as,e2,h⟩:=u4.mp h1
 clear h0 h1
 split at h
 .rename_i d
  unfold zf5 at h
  split at h
  .rename_i ds
   split at h
   .rename_i hk
    obtain⟨j,hj,rfl⟩:=u7.mp h
    obtain⟨j1,j2,j3⟩:=u2z.mp hj
    refine ra σ ρ F H _ _ s va e1 λF1 H1 v g1 a1=>?_
    obtain⟨l,xs,rfl,hx,al⟩:=a1.lst_inv
    refine⟨.inl ⟨rfl,xs,SqL.of (g1.fh _ _ hx)⟩,?_⟩
    refine re σ ρ F1 H1 _ _ g1.fh (va.mono g1.ff) e2 λF2 H2 vs g2 a2=>?_
    obtain⟨y,r',rfl,ay,ar⟩:=a2.cons_inv
    cases ar.nil_inv
    have gd:∀ m (hm:m < ds.length),ds.getD m .non=ds[m]:=λm hm=>by rw[u02,j6 hm];rfl
    refine⟨F2,d,ds,y,l,xs,j,rfl,rfl,g2.fh,g2.ff _ _ hx,al.mono g2.ff,ay,hk.1,hk.2,j1,?_,?_,q F2 H2 _ (g1.trans g2) .int⟩
    .rw[gd j j1];exact j2
    .intro m hm
     rw[gd m (by omega)]
     have:=j3 m hm
     simpa using this
   .cases h
  .cases h
 .cases h
end
end Dl
namespace Dl
open PySem L2
def zmJ:D->Option Key
 | .int i=>some (.inl i)
 | .str x=>some (.inr x)
 | _=>none
def zgj:List D->Option (List Key)
 | []=>some []
 | d::ds=>(zmJ d).bind λk=>(zgj ds).map (k::·)
def keyT:D->Option (List Key)
 | .tup ds=>zgj ds
 | _=>none
def zjW (t:Bool)(d:D):Option (List Key):=if t=true then keyT d else (zmJ d).map ([·])
def intQ:Int->Int->Bool
 | .ofNat a,.ofNat b=>Nat.beq a b
 | .negSucc a,.negSucc b=>Nat.beq a b
 | _,_=>false
theorem zct {a b:Int}:intQ a b=true↔a=b:=by
 cases a with
 | ofNat a=>cases b with
  | ofNat b=>exact⟨λh=>(by rw[Nat.eq_of_beq_eq_true h]),λh=>(by cases h;exact Nat.beq_refl a)⟩
  | negSucc b=>exact⟨λh=>(by cases h),λh=>(by cases h)⟩
 | negSucc a=>cases b with
  | ofNat b=>exact⟨λh=>(by cases h),λh=>(by cases h)⟩
  | negSucc b=>exact⟨λh=>(by rw[Nat.eq_of_beq_eq_true h]),λh=>(by cases h;exact Nat.beq_refl a)⟩
def zgT:Key->Key->Bool
 | .inl i,.inl j=>intQ i j
 | .inr a,.inr b=>decide (a=b)
 | _,_=>false
def zl8:List Key->List Key->Bool
 | [],[]=>true
 | a::r,b::s=>match zgT a b with
  | true=>zl8 r s
  | false=>false
 | _,_=>false
theorem zav {a b:Key}:zgT a b=true↔a=b:=by
 cases a with
 | inl i=>cases b with
  | inl j=>exact⟨λh=>(by rw[zct.mp h]),λh=>(by cases h;exact zct.mpr rfl)⟩
  | inr b=>exact⟨λh=>(by cases h),λh=>(by cases h)⟩
 | inr i=>cases b with
  | inl j=>exact⟨λh=>(by cases h),λh=>(by cases h)⟩
  | inr b=>exact⟨λh=>(by rw[r6 h]),λh=>(by cases h;exact r9 rfl)⟩
theorem zcn {x y:List Key}:zl8 x y=true↔x=y:=by
 induction x generalizing y with
 | nil=>cases y with
  | nil=>exact⟨λ_=>rfl,λ_=>rfl⟩
  | cons b s=>exact⟨λh=>(by cases h),λh=>(by cases h)⟩
 | cons a r ih=>cases y with
  | nil=>exact⟨λh=>(by cases h),λh=>(by cases h)⟩
  | cons b s =>
   show(match zgT a b with | true=>zl8 r s | false=>false)=true↔_
   cases h:zgT a b with
   | true=>rw[zav.mp h];exact ih.trans ⟨λh=>(by rw[h]),λh=>(by cases h;rfl)⟩
   | false=>exact⟨λh=>(by cases h),λe=>(by cases e;rw[zav.mpr rfl]at h;cases h)⟩
def zcj (x y:List Key):Decidable (x=y):=match h:zl8 x y with
 | true=>.isTrue (zcn.mp h)
 | false=>.isFalse λe=>by rw[zcn.mpr e]at h;cases h
def Vz:List (List Key)->List D->List Key->Option D
 | k'::ks,v::vs,k=>@ite _ (k'=k) (zcj k' k) (some v) (Vz ks vs k)
 | _,_,_=>none
def zjT:List (List Key)->List D->List Key->D->List D
 | k'::ks,v::vs,k,d=>(@ite _ (k'=k) (zcj k' k) d v)::zjT ks vs k d
 | _,_,_,_=>[]
def zc0 (ks:List (List Key))(vs:List D)(k:List Key):List (List Key):=if (Vz ks vs k).isSome=true then ks else ks++[k]
def zdt (ks:List (List Key))(vs:List D)(k:List Key)(d:D):List D:=if (Vz ks vs k).isSome=true then zjT ks vs k d else vs++[d]
theorem Ww {k' k:List Key}{ks:List (List Key)}{v:D}{vs:List D}:Vz (k'::ks) (v::vs) k=if k'=k then some v else Vz ks vs k:=by
 show @ite _ (k'=k) (zcj k' k) (some v) (Vz ks vs k)=_
 by_cases h:k'=k
 .rw[t7 h,t7 h]
 .rw[j7 h,j7 h]
section
variable [KK]
theorem zaU {F:Hp}{d:D}{k:Key}{y:V}(h:zmJ d=some k)(a:At F d y):y=kV k:=by
 cases d with
 | int i=>cases h;exact a.int_inv
 | str x=>cases h;exact a.str_inv
 | _=>cases h
theorem zck {F:Hp}:∀ {ds:List D} {ks:List Key} {ys:List V},zgj ds=some ks->AtL F ds ys->ys=ks.map kV
 | [],_,_,h,a=>by cases h;exact a.nil_inv
 | d::ds,_,_,h,a=>by
  obtain⟨k,h1,h2⟩:=u4.mp h
  obtain⟨r,h3,rfl⟩:=u7.mp h2
  obtain⟨x,xs,rfl,a1,a2⟩:=a.cons_inv
  rw[zaU h1 a1,zck h3 a2]
  rfl
theorem zeZ {F:Hp}{d:D}{k:List Key}{y:V}(h:keyT d=some k)(a:At F d y):∃ b,y=.ref b/\F b=some (.tup (k.map kV)):=by
 cases d with
 | tup ds =>
  obtain⟨b,ys,rfl,hb,al⟩:=a.tup_inv
  rw[zck (show zgj ds=some k from h) al]at hb
  exact⟨b,rfl,hb⟩
 | _=>cases h
section
variable {κ:Type}[DecidableEq κ](f:κ->List Key)(hf:∀ a b,f a=f b->a=b)
include hf
theorem Vs {F:Hp}{k:κ}:∀ {kvs:List (κ × V)} {vs:List D},AtL F vs (kvs.map (·.2)) ->
 (∀ d,Vz (kvs.map λp=>f p.1) vs (f k)=some d->∃ x,zcz kvs k=some x/\At F d x)/\(Vz (kvs.map λp=>f p.1) vs (f k)=none->zcz kvs k=none)
 | [],_,_=>⟨λd h=>(by cases h),λ_=>rfl⟩
 | p::kvs,[],a=>by cases a.nil_inv
 | p::kvs,v::vs,a=>by
  obtain⟨x,r,e,a1,a2⟩:=a.cons_inv
  cases e
  have ih:=Vs (k:=k) a2
  by_cases h:p.1=k
  .rw[XB h]
   have e:Vz ((p::kvs).map λp=>f p.1) (v::vs) (f k)=some v:=by
    rw[i8,Ww,t7 (by rw[h])]
   rw[e]
   exact⟨λd z=>(by cases z;exact⟨_,rfl,a1⟩),λz=>(by cases z)⟩
  .rw[XH h]
   have e:Vz ((p::kvs).map λp=>f p.1) (v::vs) (f k)=Vz (kvs.map λp=>f p.1) vs (f k):=by
    rw[i8,Ww,j7 (λz=>h (hf _ _ z))]
   rw[e]
   exact ih
theorem zhu {F:Hp}{k:κ}{kvs:List (κ × V)}{vs:List D}(a:AtL F vs (kvs.map (·.2))):(Vz (kvs.map λp=>f p.1) vs (f k)).isSome=(zcz kvs k).isSome:=by
 obtain⟨h1,h2⟩:=Vs f hf (k:=k) a
 cases h:Vz (kvs.map λp=>f p.1) vs (f k) with
 | none=>rw[h2 h];rfl
 | some d=>obtain⟨x,e,_⟩:=h1 d h;rw[e];rfl
theorem zeW {F:Hp}{k:κ}{d:D}{y:V}(ad:At F d y):∀ {kvs:List (κ × V)} {vs:List D},AtL F vs (kvs.map (·.2)) ->
 AtL F (zjT (kvs.map λp=>f p.1) vs (f k) d) ((kvs.map λkv=>if kv.1=k then (kv.1,y)else kv).map (·.2))
 | [],_,_=>by unfold zjT;exact .nil
 | p::kvs,[],a=>by cases a.nil_inv
 | p::kvs,v::vs,a=>by
  obtain⟨x,r,e,a1,a2⟩:=a.cons_inv
  cases e
  have ih:=zeW (k:=k) ad a2
  rw[i8,i8]
  refine AtL.cons ?_ ih
  by_cases h:p.1=k
  .rw[t7 h,t7 (by rw[h])];exact ad
  .rw[j7 h,j7 (λz=>h (hf _ _ z))];exact a1
theorem zec {F:Hp}{k:κ}{d:D}{y:V}(ad:At F d y){kvs:List (κ × V)}{vs:List D}(a:AtL F vs (kvs.map (·.2))) :
 (zaX kvs k y).map (λp=>f p.1)=zc0 (kvs.map λp=>f p.1) vs (f k)/\AtL F (zdt (kvs.map λp=>f p.1) vs (f k) d) ((zaX kvs k y).map (·.2)):=by
 unfold zaX zc0 zdt
 rw[zhu f hf a,VH]
 cases h:(zcz kvs k).isSome with
 | true =>
  rw[t7 rfl,t7 rfl,t7 rfl]
  refine⟨?_,zeW f hf ad a⟩
  rw[e9]
  refine u0H λp _=>?_
  by_cases e:p.1=k
  .show f (if p.1=k then (p.1,y)else p).1=_;rw[t7 e]
  .show f (if p.1=k then (p.1,y)else p).1=_;rw[j7 e]
 | false =>
  rw[j7 u8,j7 u8,j7 u8,i6,i6]
  exact⟨rfl,a.append (.cons ad .nil)⟩
end
theorem zeh (a b:Key)(h:[a]=[b]):a=b:=by cases h;rfl
theorem zhS (a b:List Key)(h:a=b):a=b:=h
theorem zje {F H:Hp}{a:Addr}{z t:Bool}{ks:List (List Key)}{xs:List V}{vs:List D}{kd:D}{k:List Key}{y:V}(s:yE F H)(hd:Ve F a z t ks xs)(al:AtL F vs xs)(hk:zjW t kd=some k)(ak:At F kd y) :
 ∃ o,zl9 H a y o/\(∀ d,Vz ks vs k=some d->∃ x,o=some x/\At F d x)/\(Vz ks vs k=none->o=none):=by
 obtain⟨u,hd,rd⟩:=(hd.mono s).rd
 unfold WI at hd
 unfold zjW at hk
 cases t with
 | true =>
  rw[t7 rfl]at hd hk
  obtain⟨kvs,rfl,rfl,rfl⟩:=hd
  obtain⟨b,rfl,hb⟩:=zeZ hk ak
  exact⟨_,.inr ⟨kvs,k,b,rd,rfl,s _ _ hb,rfl⟩,Vs (λk=>k) zhS al⟩
 | false =>
  rw[j7 u8]at hd hk
  obtain⟨kvs,rfl,rfl,rfl⟩:=hd
  obtain⟨k0,h2,rfl⟩:=u7.mp hk
  rw[zaU h2 ak]
  exact⟨_,.inl ⟨kvs,k0,rd,rfl,rfl⟩,Vs (λk=>[k]) zeh al⟩
theorem zig {F H:Hp}{a:Addr}{o:HO}{t:Bool}{ks:List (List Key)}{xs:List V}{vs:List D}{kd d:D}{k:List Key}{y v:V}{G:Hp}(h:H a=some o)(hd:WI o t ks xs)(al:AtL F vs xs)(hk:zjW t kd=some k)(ak:At G kd y)(s:yE G H)(ad:At F d v)
 (hl:ks.length < sizeLine):∃ o',zg9 H a y v (upd H a o')/\zcs F o' (.m t (zc0 ks vs k) (zdt ks vs k d)):=by
 unfold WI at hd
 unfold zjW at hk
 cases t with
 | true =>
  rw[t7 rfl]at hd hk
  obtain⟨kvs,rfl,rfl,rfl⟩:=hd
  obtain⟨b,rfl,hb⟩:=zeZ hk ak
  obtain⟨q1,q2⟩:=zec (λk=>k) zhS (k:=k) ad al
  refine⟨_,zg9.t h (s _ _ hb) (by simpa using hl),_,?_,q2⟩
  unfold WI
  rw[t7 rfl]
  exact⟨_,rfl,q1,rfl⟩
 | false =>
  rw[j7 u8]at hd hk
  obtain⟨kvs,rfl,rfl,rfl⟩:=hd
  obtain⟨k0,h2,rfl⟩:=u7.mp hk
  rw[zaU h2 ak]
  obtain⟨q1,q2⟩:=zec (λk=>[k]) zeh (k:=k0) ad al
  refine⟨_,zg9.k h (by simpa using hl),_,?_,q2⟩
  unfold WI
  rw[j7 u8]
  exact⟨_,rfl,q1,rfl⟩
def Vv:D->D->Option D
 | .dct _ t ks vs,kd=>(zjW t kd).bind λk=>Vz ks vs k
 | _,_=>none
section
variable {X:Cx}{a b c:Expr}{pos apos:Pos}
theorem We {k:Nat}{f h:Ev->Option D}(hr:YJ k X.A)(ha:ED X a f)(hb:ED X b h)(hs:zms b):ED X (.Subscript a b pos) (zj Vv f h):=by
 obtain⟨ta,pa,ra⟩:=ha
 obtain⟨tb,pb,rb⟩:=hb
 refine⟨_,ziL (zkb hr) pa pb hs,fun σ ρ F H z Q s va e q=>?_⟩
 obtain⟨x,e1,e⟩:=u4.mp e
 obtain⟨y,e2,e⟩:=u4.mp e
 refine ra σ ρ F H x _ s va e1 λF1 H1 v g1 a1=>?_
 refine rb σ ρ F1 H1 y _ g1.fh (va.mono g1.ff) e2 λF2 H2 u g2 a2=>?_
 cases x with
 | dct z' t ks vs =>
  obtain⟨kk,h1,h2⟩:=u4.mp e
  obtain⟨p,xs,rfl,hd,al⟩:=(a1.mono g2.ff).dct_inv
  obtain⟨o,hg,h3,_⟩:=zje g2.fh hd al h1 a2
  obtain⟨w,rfl,aw⟩:=h3 z h2
  exact⟨p,w,rfl,hg,q F2 H2 w (g1.trans g2) aw⟩
 | _=>cases e
end
section
variable {X:Cx}{a e ko:Expr}{pos pos':Pos}{st:Stmt}
def zji (t:Bool)(i:Nat):SE->Ctl:=fun ρ=>.nx (ρ.set i (.m t [] []))
theorem ziX {t:Bool}{i:Nat}{x:Str}(hN:X.N.Nodup)(hi:X.N[i]?=some x)(hx:Loc X.env.scope x)(hs:swapsWith (.Dict [] [] pos) (some (.Name x pos')) pos.line X.env=pure false:=by rfl)
 (hf:X.fn x=true\/X.env.scope.names.lookup x=some .local:=by first | exact .inl rfl | exact .inr rfl | assumption) {p2:Pos} (hs:swapsWith (.Dict [] [] p2) (some (.Name x pos')) pos.line X.env=pure false:=by rfl):SD X (.Assign [.Name x pos'] (.Dict [] [] p2) pos) (zji t i):=by
 have go:∀ (o:HO),zcs (λ_=>none) o (.m t [] [])->∀ (Fb Hb F H:Hp) (ρ:SE) (σ:St) (E:zgJ),Rl Fb Hb F H ρ σ->SOk Fb Hb E (zji t i ρ)->∀ p,H p=none->E.nx (σ.set i (some (.ref p))) (upd H p o):=λo ho Fb Hb F H ρ σ E rl k p hp=>by
  have g:=Gr.hide rl.gr.fh hp o
  refine k F _ _ ((rl.grow g).setW (rl.notbase hp) (rl.gr.fh.free hp) zn (ho.mono λ_ _ z=>by cases z) (rl.notown hp))
 cases t with
 | true =>
  refine⟨_,V0 hN hi hx zgL hs hf,λFb Hb F H ρ σ E rl k=>?_⟩
  refine λp hp=>go (.dT []) ⟨[],?_,.nil⟩ Fb Hb F H ρ σ E rl k p hp
  unfold WI
  rw[t7 rfl]
  exact⟨[],rfl,rfl,rfl⟩
 | false =>
  refine⟨_,V0 hN hi hx zhw hs hf,λFb Hb F H ρ σ E rl k=>?_⟩
  refine λp hp=>go (.dK []) ⟨[],?_,.nil⟩ Fb Hb F H ρ σ E rl k p hp
  unfold WI
  rw[j7 u8]
  exact⟨[],rfl,rfl,rfl⟩
def zjP (ρ:SE)(i:Nat)(kd d:D):Option SE:=match ρ[i]? with
 | some (.m t ks vs)=>(zjW t kd).bind λk=>if decide (ks.length < sizeLine)=true then some (ρ.set i (.m t (zc0 ks vs k) (zdt ks vs k d)))else none
 | _=>none
def zc6 (m:Bool)(i:Nat)(fk fe:Ev->Option D):SE->Ctl:=fun ρ=>match (vEv m fe ρ).bind λd=>(fk (visG ρ)).bind λkd=>zjP ρ i kd d with
 | some ρ'=>.nx ρ'
 | none=>.no
theorem zdK {k:Nat}{m:Bool}{i:Nat}{fk fe:Ev->Option D}(hr:YJ k X.A)(he:ED X e fe)(ho:PE X a (zjD i))(hk:ED X ko fk)(hs:swapsWith e (some (.Subscript a ko pos')) pos.line X.env=pure false:=by rfl):SD X (.Assign [.Subscript a ko pos'] e pos) (zc6 m i fk fe):=by
 obtain⟨t,p,r⟩:=he
 obtain⟨tk,pk,rk⟩:=hk
 refine⟨_,ziT (zkb hr) ho pk p hs,λFb Hb F H ρ σ E rl k=>?_⟩
 unfold zc6 at k
 cases h:(vEv m fe ρ).bind λd=>(fk (visG ρ)).bind λkd=>zjP ρ i kd d with
 | none=>rw[h]at k;exact k.elim
 | some ρ' =>
  rw[h]at k
  obtain⟨d,e1,e2⟩:=u4.mp h
  obtain⟨kd,e3,e2⟩:=u4.mp e2
  unfold zjP at e2
  split at e2
  .rename_i tt ks vs hs
   obtain⟨kk,e4,e5⟩:=u4.mp e2
   have hl:decide (ks.length < sizeLine)=true:=by
    cases hh:decide (ks.length < sizeLine) with
    | true=>rfl
    | false=>rw[hh,j7 u8]at e5;cases e5
   rw[t7 hl]at e5
   cases e5
   refine r.at rl e1 λF' H' v g av=>?_
   have rl2:=rl.grow g
   obtain⟨q,o,f1,_⟩:=rl2.ows i _ hs rfl
   refine⟨_,f1,?_⟩
   refine rk σ _ _ H' _ _ rl2.gh rl2.visG e3 λF3 H3 v3 g3 av3=>?_
   obtain⟨gb,_⟩:=rl2.back g3
   have rl3:=rl2.grow gb
   obtain⟨q3,o3,f1',_,_,f4,xs,f5,f6⟩:=rl3.ows i _ hs rfl
   rw[f1]at f1'
   cases f1'
   obtain⟨o',hp,hw⟩:=zig f4 f5 f6 e4 av3 g3.fh (av.mono gb.ff) (r6 hl)
   exact⟨q,_,rfl,hp,k _ _ σ (rl3.mutW hs rfl f1 hw)⟩
  .cases e2
def zdr (i:Nat)(f:Ev->Option (List D)):SE->Ctl:=fun ρ=>match f (visG ρ) with
 | some ds=>if zhy ds=true then .nx (ρ.set i (.v (.lst ds)))else .no
 | none=>.no
theorem ziw {i:Nat}{t:TE}{f:Ev->Option (List D)}(r:RF t f):RS (zly t (Y6 i)) (zdr i f):=λFb Hb F H ρ σ E rl k=>by
 unfold zdr at k
 cases h:f (visG ρ) with
 | none=>rw[h]at k;exact k.elim
 | some ds =>
  rw[h]at k
  dsimp only at k
  split at k
  .rename_i hn
   refine r σ _ _ H ds _ rl.gh rl.visG h λF' H' q xs g h0 hF hH hx=>?_
   obtain⟨gb,fl⟩:=rl.back g
   have rl2:=rl.grow gb
   have hF2:fOf ρ σ F' q=none:=by
    unfold fOf
    split
    .rfl
    .exact hF
   have g2:=gb.show h0 hF2 hH
   exact k _ _ _ ((rl.grow g2).set (.lst zn ((hx.flat fl hn).mono λb u e=>by rw[zm (zp e hF2)];exact e)))
  .exact k.elim
theorem zgV {i:Nat}{f:Ev->Option (List D)}(he:FLS X i st f):SD X st (zdr i f):=by
 obtain⟨t,p,r⟩:=he
 exact⟨_,p,ziw r⟩
end
end
end Dl
namespace Dl
open PySem L2
variable [KK]
section
variable {X:Cx}
def rNeL:R2:=λx y H Q=>∃ F ds es,yE F H/\At F (.lst ds) x/\At F (.lst es) y/\okE 20 (.lst ds)=true/\okE 20 (.lst es)=true/\Q (.bl (!eqN 20 (.lst ds) (.lst es))) H
theorem zdZ {k:Nat}(hr:YJ k X.A):OpR X (compareOp .NotEq) rNeL:=by
 intro pins s σ H x y v u Q I rx ry h
 obtain⟨F,ds,es,sm,a1,a2,k1,k2,q⟩:=h
 have hu:X.A.units+30 < cLine:=by have:=hr.un;omega
 obtain⟨p,xs,rfl,hx,al⟩:=a1.lst_inv
 obtain⟨p2,ys,rfl,hy,bl⟩:=a2.lst_inv
 cases rx
 cases ry
 obtain⟨its,r,ht,hz⟩:=I.list (SqL.of (sm _ _ hx))
 obtain⟨its2,r2,ht2,hz2⟩:=I.list (SqL.of (sm _ _ hy))
 have hl1:its.toArray.size=ds.length:=by rw[q5,<- r.length,al.length]
 have hl2:its2.toArray.size=es.length:=by rw[q5,<- r2.length,bl.length]
 have e1:eqN 20 (.lst ds) (.lst es)=((List.range (min ds.length es.length)).all (λj=>eqN 19 (ds.getD j .non) (es.getD j .non))&&ds.length == es.length):=by
  show((List.zipWith (eqN 19) ds es).all id&&ds.length == es.length)=_
  rw[Vp]
 by_cases hle:ds.length=es.length
 .refine SeqAt.RcNeAt.lists (e:=λj=>eqN 19 (ds.getD j .non) (es.getD j .non)) ht.isList ht2.isList (by rw[hl1,hl2];exact hle) (u0d (u0C _ 30) hu) (λj g1 g2=>?_) _ _ _ _ ⟨.bl _,H,I,rfl,?_⟩
  .obtain⟨x',ax,rx⟩:=al.nth r (j:=j) (by simpa using g1)
   obtain⟨y',ay,ry⟩:=bl.nth r2 (j:=j) (by simpa using g2)
   exact zaN I sm 19 (xK k1 (by rw[<-hl1];exact g1)) (xK k2 (by rw[<-hl2];exact g2)) ax ay (by simpa using rx) (by simpa using ry) (u0d (show X.A.units+20<=X.A.units+30 from u1W (by decide) _) hu)
  .rw[hl1]
   rw[e1,<- hle,u4h]at q
   simpa using q
 .refine SeqAt.RcNeAt.lists_lengths ht.isList ht2.isList (by rw[hl1,hl2];simpa using hle) (u0d (u0C _ 30) hu) _ _ _ _ ⟨.bl _,H,I,rfl,?_⟩
  have:(ds.length == es.length)=false:=by simpa using hle
  rw[e1,this,u1Z]at q
  exact q
end
def zf2:D->D->Option D
 | .lst ds,.lst es=>if (okE 20 (.lst ds)&&okE 20 (.lst es))=true then some (.bl (!eqN 20 (.lst ds) (.lst es)))else none
 | _,_=>none
theorem za7:OpD rNeL zf2:=by
 intro F H x y d e z Q s ax ay ez q
 unfold zf2 at ez
 split at ez
 .split at ez <;> cases ez
  rename_i hk
  rw[g9]at hk
  exact⟨F,_,_,s,ax,ay,hk.1,hk.2,q F H _ (.refl s) .bl⟩
 .cases ez
end Dl
namespace L2
open PySem PySem.Spec PyProof.Rows
section
variable {prog:Program}{w:World}{A:Around}{E:Value->Shared->Prop}{s:Shared}{d it:Addr}{o:Obj}{es:Array DictEntry}{ep i:Nat}
theorem raw_iter {Q:Value->Shared->Prop}(hs:(d == sysModules)=false)(ho:s.heap.get? d=some o)(hc:o.ExactDict)(hd:o.data=.dict es ep)
 (hQ:Q (.ref s.heap.objs.size) { s with heap:=s.heap.push { cls:=.type "dict_keyiterator",data:=.fields #[.ref d,.int 0 0,.int es.size 0,.int ep 0] } }):wpAny (model prog w) A (pyIter (.ref d)) Q E s:=by
 have hT:s.TypeIs (.ref d) "dict":=⟨o,ho,hc.1⟩
 refine u2R hT PySem.F.slot_dict_iter (u0a PySem.F.slot_dict_iter hT PySem.F.entry_dict_iter ?_ (PySem.F.args_dict_iter_1 _))
 unfold Builtin.«dict.__iter__»
 refine u0 ?_
 unfold Builtin.Dict.dictSlotNone
 refine u0 (wpAny_notOrdered_dict hT ?_)
 show wpAny _ _ (pure (Value.ref d)) _ _ s
 refine u5 ?_
 show wpAny _ _ (Builtin.Dict.showsAll d>>=_) _ _ s
 unfold Builtin.Dict.showsAll
 rw[j7 (by rw[hs];exact u8)]
 refine u0 (u5 (u0 (u3O ho hd (u0 (wpAny_dictEpoch ho hd ?_)))))
 refine u0 (i9 (u5 ⟨_,rfl,"dict_keyiterator",_,⟨_,t6 _ rfl,rfl⟩,u0P.lookup,?_⟩))
 simpa [rawInt]using hQ
theorem raw_next {e:DictEntry}{Q:Option Value->Shared->Prop}(hit:s.heap.IsKeyIter it d i es.size ep)(ho:s.heap.get? d=some o)(hd:o.data=.dict es ep)(hx:es[i]?=some e)
 (hQ:∀ h',h'.IsKeyIter it d (i+1) es.size ep->Heap.SameBut it s.heap h'->Q (some e.key) { s with heap:=h' }):wpAny (model prog w) A (pyNext (.ref it)) Q E s:=by
 obtain⟨oi,hoi,hci,hdi⟩:=id hit
 unfold pyNext
 refine u0 (u1r (u0b (name:=Str.ofString "__next__") hit.typeIs u0P
  (u0a u0P hit.typeIs u2v ?_ (u2m _))))
 refine u0 (u5 ?_)
 refine u0 ?_
 refine u0 ?_
 first | refine u0 (u1p hit.typeIs (u5 ?_)) | refine u0 (u1Q hit.typeIs (u5 ?_))
 refine u0 (u2n hoi hdi ?_)
 have hown:Builtin.Dict_items.ownsTuple "dict_keyiterator"=false:=by decide
 simp only[hown,u1e,u29]
 show wpAny _ _ (if (Value.ref d == Value.none)=true then _ else _) _ _ s
 rw[j7 (show ¬ ((Value.ref d == Value.none)=true)from u8)]
 refine u0 (u5 (u0 (u3O ho hd ?_)))
 rw[j7 (by simp)]
 refine u0 (u5 (u0 (wpAny_dictEpoch ho hd ?_)))
 rw[j7 (by simp)]
 refine u5 ?_
 simp only[show ¬ ((i:Int) < 0)from by omega,u29,i5,hx]
 refine u0 ?_
 first | refine u0 (u1p hit.typeIs (u5 ?_)) | refine u0 (u1Q hit.typeIs (u5 ?_))
 refine u0 (wpAny_isOneOf_keyiter hit.typeIs ?_)
 show wpAny _ _ (setField (.ref it) 1 (rawInt ((i:Int)+1))>>=_) _ _ s
 refine u0 (u3D hoi hdi (by simp) ?_)
 have hit':(s.heap.update it (Obj.mapFields (·.setIfInBounds 1 (rawInt ((i:Int)+1))))).IsKeyIter it d (i+1) es.size ep :=
  ⟨_,b6 _ hoi (Obj.isFreed_of_fields (u2D hdi _)),(Obj.cls_mapFields ..).trans hci,by rw[u2D hdi];simp[rawInt]⟩
 refine u0 (u0n ?_)
 refine u0 (wpAny_isOneOf_keyiter (s:={ s with heap:=s.heap.update it (Obj.mapFields (·.setIfInBounds 1 (rawInt ((i:Int)+1)))) }) hit'.typeIs ?_)
 show wpAny _ _ (pure e.key) _ _ _
 exact u5 (u5 ⟨_,rfl,u5 (hQ _ hit' (u06 ..))⟩)
theorem raw_end {Q:Option Value->Shared->Prop}(hh:A.handled=none)(hit:s.heap.IsKeyIter it d i es.size ep)(ho:s.heap.get? d=some o)(hd:o.data=.dict es ep)(hx:es.size<=i)
 (hQ:∀ h',Heap.ExtBut it s.heap h'->Q none { s with heap:=h' }):wpAny (model prog w) A (pyNext (.ref it)) Q E s:=by
 obtain⟨oi,hoi,hci,hdi⟩:=id hit
 unfold pyNext
 refine u0 (u1r (u0b (name:=Str.ofString "__next__") hit.typeIs u0P
  (u0a u0P hit.typeIs u2v ?_ (u2m _))))
 refine u0 (u5 ?_)
 refine u0 ?_
 refine u0 ?_
 first | refine u0 (u1p hit.typeIs (u5 ?_)) | refine u0 (u1Q hit.typeIs (u5 ?_))
 refine u0 (u2n hoi hdi ?_)
 have hown:Builtin.Dict_items.ownsTuple "dict_keyiterator"=false:=by decide
 simp only[hown,u1e,u29]
 show wpAny _ _ (if (Value.ref d == Value.none)=true then _ else _) _ _ s
 rw[j7 (show ¬ ((Value.ref d == Value.none)=true)from u8)]
 refine u0 (u5 (u0 (u3O ho hd ?_)))
 rw[j7 (by simp)]
 refine u0 (u5 (u0 (wpAny_dictEpoch ho hd ?_)))
 rw[j7 (by simp)]
 refine u5 ?_
 simp only[show ¬ ((i:Int) < 0)from by omega,u29,i5,u2H hx]
 refine u0 ?_
 first | refine u0 (u1p hit.typeIs (u5 ?_)) | refine u0 (u1Q hit.typeIs (u5 ?_))
 show wpAny _ _ (setField (.ref it) 0 .none>>=_) _ _ s
 refine u0 (u3D hoi hdi (by simp) ?_)
 show wpAny _ _ (newExc (.type "StopIteration") []>>=_) _ _ _
 refine u0 ?_
 simp only[newExc,newTuple]
 refine u0 (i9 ?_ (by size_fits))
 refine u0 (m:=firstArgMember _ _) (u1a (a:=Value.none) (by first | rfl | (simp only[firstArgMember];rfl)) ?_)
 refine i9 ?_ (by size_fits)
 simp only[raiseNew]
 refine u0 (u3T ?_)
 rw[show A.in1.handled=none from hh]
 refine u0 (u5 (wpAny_throw ?_))
 refine u0 (u1B (T:="StopIteration") (b:=true) ⟨_,t6 _ rfl,rfl⟩ u2U ?_)
 exact u5 (hQ _ (((u06 ..).extBut.push _).push _))
end
def zkD:HO->Nat
 | .dK kvs=>kvs.length
 | .dT kvs=>kvs.length
 | _=>0
def Wo (u:HO):Prop:=(∃ kvs,u=.dK kvs)\/∃ kvs,u=.dT kvs
def zge (H:Hp)(u:HO)(i:Nat)(x:V):Prop:=match u with
 | .dK kvs=>∃ p,kvs[i]?=some p/\x=kV p.1
 | .dT kvs=>∃ p b,kvs[i]?=some p/\x=.ref b/\H b=some (.tup (p.1.map kV))
 | _=>False
theorem zk5 {P:Program}{w:World}{k:Key}{v:Value}(h:(y8 P w).is k v=true):yG (kV k) v:=by
 rcases zX h with ⟨i,t,rfl,rfl⟩ | ⟨x,t,rfl,rfl⟩
 .exact⟨t,rfl⟩
 .exact⟨t,rfl⟩
structure DObj (H:Hp) (a:Addr) (ob:Obj) (u:HO) (es:Array DictEntry) (ep:Nat):Prop where
 sys:(a == sysModules)=false
 exact_:ob.ExactDict
 data:ob.data=.dict es ep
 size:es.size=zkD u
theorem VP {P:Program}{w:World}{H:Hp}{h:Heap}{a:Addr}{ob:Obj}{u:HO}(ok:yt P w H h a (.frz ob u))(hu:Wo u):h.get? a=some ob/\∃ es ep,DObj H a ob u es ep/\∀ (i:Nat) (e:DictEntry),es[i]?=some e->∃ x,yG x e.key/\zge H u i x:=by
 obtain⟨e0,ok⟩:=ok
 rcases hu with ⟨kvs,rfl⟩ | ⟨kvs,rfl⟩
 .obtain⟨_,sys,vs,kv,o,es,ep,e1,ex,dt,ko,pr,nd⟩:=ok
  rw[e0]at e1
  cases e1
  have hl:es.size=vs.length:=by rw[<-pr.length];simp
  refine⟨e0,es,ep,⟨sys,ex,dt,by rw[hl,<- kv.length];rfl⟩,λi e he=>?_⟩
  have hi:i < kvs.length:=by
   have:=(u2h.mp he).1
   rw[kv.length];omega
  have hv:i < vs.length:=by rw[<-kv.length];exact hi
  have h1:=pr.get? (i:=i) (e:=e) (k:=vs[i].1) (v:=vs[i].2) (by simpa using he) (by simp[hv])
  have hk:kvs[i].1=vs[i].1:=by
   have:=u1d (λl=>l[i]?) kv.keys
   simp only[j4]at this
   rw[j6 hi,j6 hv]at this
   exact p9 this
  exact⟨kV kvs[i].1,by rw[hk];exact zk5 h1.1,kvs[i],j6 hi,rfl⟩
 .obtain⟨_,sys,xs,pr,o,es,ep,e1,ex,dt,he,nd⟩:=ok
  rw[e0]at e1
  cases e1
  have hl:es.size=xs.length:=by rw[<-t9,he,u6]
  have hp:=u28 pr
  refine⟨e0,es,ep,⟨sys,ex,dt,by rw[hl,<- hp];rfl⟩,λi e hei=>?_⟩
  have hx:i < xs.length:=by
   have:=(u2h.mp hei).1
   omega
  have hi:i < kvs.length:=by omega
  have e2:e=entryOfKey (tupleKind (y8 P w)) xs[i]:=by
   have:es.toList[i]?=some e:=by simpa using hei
   rw[he,j4,j6 hx]at this
   exact(p9 this).symm
  have rel:∀ {l:List (List Key × V)} {m:List (List Key × Addr × Value)},Paired (λp q=>p.1=q.1/\H q.2.1=some (.tup (p.1.map kV))/\yG p.2 q.2.2) l m->∀ (j:Nat) (h1:j < l.length) (h2:j < m.length),l[j].1=m[j].1/\H m[j].2.1=some (.tup (l[j].1.map kV)):=λ{l m} r=>by
   induction r with
   | nil=>intro j h1;simp at h1
   | cons h t ih =>
    intro j h1 h2
    cases j with
    | zero=>exact⟨h.1,h.2.1⟩
    | succ j=>exact ih j (by simpa using h1) (by simpa using h2)
  obtain⟨_,r2⟩:=rel pr i hi hx
  subst e2
  exact⟨.ref xs[i].2.1,rfl,kvs[i],xs[i].2.1,j6 hi,rfl,r2⟩
def Itf (a:Addr)(ob:Obj)(u:HO):It :=
 ⟨λi H=>H a=some (.frz ob u)/\i < zkD u,λi H x H'=>H'=H/\zge H u i x,λi H=>H a=some (.frz ob u)/\zkD u<=i⟩
theorem zd5 {P:Program}{w:World}{K:W.Frag}{tg:Expr}{a it:Addr}{ob:Obj}{u:HO}{es:Array DictEntry}{ep:Nat}(hu:Wo u)(hn:es.size=zkD u)(hd:ob.data=.dict es ep):zhN P w K tg (Itf a ob u) [it] it (λi h=>h.IsKeyIter it a i es.size ep) where
 mem:=by simp
 obj:=λi h st b hb=>by
  have e:b=it:=by simpa using hb
  subst e
  obtain⟨o,e,c,d⟩:=st
  exact⟨o,e,λv z=>by rw[d]at z;cases z⟩
 keep:=λi h h' st k=>by
  obtain⟨o,e,r⟩:=st
  exact⟨o,k it (by simp) o e,r⟩
 item:=by
  intro X hP hw hK hc i pins s σ H E I hf st hg
  subst hP hw hK
  obtain⟨e1,hi⟩:=hg
  obtain⟨e0,es',ep',D,ky⟩:=VP (I.hok a _ e1) hu
  have e2:=D.data
  rw[hd]at e2
  cases e2
  obtain⟨f0,f1,f2,f3,f4,f5⟩:=hf it (by simp)
  have hlt:i < es.size:=by omega
  obtain⟨x,rx,kx⟩:=ky i es[i] (u0p hlt)
  refine raw_next st e0 hd (u0p hlt) λh' st' sb=>?_
  have I1:Inv X pins σ H { s with heap:=h' }:=I.turned (t':=s.toks) (λb o hb e=>(sb.2 b hb).trans e) f0 f1 f3 f4 f5
  obtain⟨o,e,c,d⟩:=id st'
  exact⟨_,rfl,zgW (s:={ s with heap:=h' }) e c d (by decide) ⟨x,H,I1,rx,⟨rfl,kx⟩,st',λb hb=>(hf b hb).1⟩⟩
 done:=by
  intro X hP hw hK hc i pins s σ H E I hf st hg
  subst hP hw hK
  obtain⟨e1,hi⟩:=hg
  obtain⟨e0,es',ep',D,ky⟩:=VP (I.hok a _ e1) hu
  obtain⟨f0,f1,f2,f3,f4,f5⟩:=hf it (by simp)
  exact raw_end (I.ok.hd hc) st e0 hd (by omega) λh' eb=>⟨rfl,I.turned (t':=s.toks) (λb o hb e=>eb b o hb e) f0 f1 f3 f4 f5⟩
 self:=λ_ _ _ _ _ st h=>wpAny_pyIter_keyiter st h
section
variable {X:Cx}{tg:Expr}
def zmP (tl:TE):TI:=fun σ H R=>tl σ H λx H1=>∃ a ob u,x=.ref a/\H1 a=some (.frz ob u)/\Wo u/\R (Itf a ob u) H1
theorem zit {l:Expr}{tl:TE}(hl:PE X l tl):PI X tg l (zmP tl):=by
 intro pins s σ H R I h
 refine thn (hl pins s σ H _ I h) λv s1 hh9=>?_
 obtain⟨x,H1,I1,r1,q1⟩:=hh9
 obtain⟨a,ob,u,e,e1,hu,q⟩:=q1
 subst e
 cases r1
 obtain⟨e0,es,ep,D,_⟩:=VP (I1.hok a _ e1) hu
 refine raw_iter D.sys e0 D.exact_ D.data ?_
 refine⟨s1.heap.objs.size,[s1.heap.objs.size],_,_,H1,rfl,I1.kept (t':=s1.toks) λb o e=>u3 _ e,zd5 hu D.size D.data,⟨_,t6 _ rfl,rfl,rfl⟩,λb hb=>?_,q⟩
 have e:b=s1.heap.objs.size:=by simpa using hb
 subst e
 exact I1.fpOk (t5 _) (I1.hok.fresh (t5 _))
theorem Inv.frz {pins:List (Addr × Obj)}{σ:St}{H:Hp}{s:Shared}{p:Addr}{u:HO}(I:Inv X pins σ H s)(e:H p=some u)(hu:Wo u):∃ ob,Inv X pins σ (upd H p (.frz ob u)) s:=by
 have ok:=I.hok p u e
 have mu:Mut (H p):=by
  rw[e]
  rcases hu with ⟨kvs,rfl⟩ | ⟨kvs,rfl⟩ <;> exact True.intro
 rcases hu with ⟨kvs,rfl⟩ | ⟨kvs,rfl⟩
 .obtain⟨z,sys,vs,kv,o,es,ep,e1,r⟩:=ok
  refine⟨o,I.write (h':=s.heap) (t':=s.toks) mu (.inl rfl) (λb u _ e=>e) ⟨o,e1⟩ ⟨e1,z,sys,vs,kv,o,es,ep,e1,r⟩⟩
 .obtain⟨z,sys,xs,pr,o,es,ep,e1,r⟩:=ok
  refine⟨o,I.write (h':=s.heap) (t':=s.toks) mu (.inl rfl) (λb u _ e=>e) ⟨o,e1⟩ ⟨e1,z,sys,xs,?_,o,es,ep,e1,r⟩⟩
  exact KT.keeps pr λb ys eb=>by
   rw[zm (zkJ eb e (λz=>nomatch z))]
   exact eb
def tFrz (i:Nat)(t:TS):TS:=λE σ H=>∃ p u,σ[i]?=some (some (.ref p))/\H p=some u/\Wo u/\∀ ob,t E σ (upd H p (.frz ob u))
theorem ziH {sts:List Stmt}{t:TS}(i:Nat)(h:PSs X sts t):PSs X sts (tFrz i t):=by
 intro pins s σ H E I q
 obtain⟨p,u,_,e,hu,q⟩:=q
 obtain⟨ob,I2⟩:=I.frz e hu
 exact h pins s σ _ E I2 (q ob)
end
end L2
namespace Dl
open PySem L2
def k1D:Key->D
 | .inl i=>.int i
 | .inr x=>.str x
def Z8 (t:Bool)(k:List Key):D:=if t=true then .tup (k.map k1D)else match k with
 | [a]=>k1D a
 | _=>.non
def zh7:D->Option (List D)
 | .dct true t ks _=>some (ks.map (Z8 t))
 | _=>none
section
variable [KK]
theorem zdY {F:Hp}(k:Key):At F (k1D k) (kV k):=by
 cases k with
 | inl i=>exact .int
 | inr x=>exact .str
theorem zbb {F:Hp}:∀ ks:List Key,AtL F (ks.map k1D) (ks.map kV)
 | []=>.nil
 | k::ks=>.cons (zdY k) (zbb ks)
theorem Wf {u:HO}{t:Bool}{ks:List (List Key)}{xs:List V}(h:WI u t ks xs):Wo u/\zkD u=ks.length:=by
 unfold WI at h
 cases t with
 | true=>rw[t7 rfl]at h;obtain⟨kvs,rfl,rfl,_⟩:=h;exact⟨.inr ⟨_,rfl⟩,by rw[u6];rfl⟩
 | false=>rw[j7 u8]at h;obtain⟨kvs,rfl,rfl,_⟩:=h;exact⟨.inl ⟨_,rfl⟩,by rw[u6];rfl⟩
theorem Gr.see {F H:Hp}{b:Addr}{ys:List V}(s:yE F H)(h:H b=some (.tup ys)):∃ F',Gr F H F' H/\F' b=some (.tup ys):=by
 cases e:F b with
 | some o =>
  have:=s _ _ e
  rw[h]at this
  cases this
  exact⟨F,.refl s,e⟩
 | none =>
  refine⟨upd F b (.tup ys),⟨λp o z=>?_,λp o z=>?_,λp o z1 z2=>⟨?_,z2⟩⟩,zn⟩
  .rw[zm (zp z e)];exact z
  .by_cases hp:p=b
   .subst hp;rw[zn]at z;cases z;exact h
   .rw[zm hp]at z;exact s p o z
  .by_cases hp:p=b
   .subst hp
    rw[h]at z2
    cases z2
    exact .inr ⟨⟨_,rfl⟩,zn⟩
   .exact .inl (by rw[zm hp];exact z1)
theorem zkG {F:Hp}{a:Addr}{ob:Obj}{u:HO}{t:Bool}{ks:List (List Key)}{xs:List V}(h:F a=some (.frz ob u))(hd:WI u t ks xs):zjN (Itf a ob u) F (ks.map (Z8 t)):=by
 intro i F2 H2 s1 s2
 have e2:=s2 _ _ (s1 _ _ h)
 obtain⟨_,hl⟩:=Wf hd
 refine⟨λhi=>⟨e2,by rw[hl,hi,u6];exact t5 _⟩,λd hdi=>?_⟩
 rw[j4]at hdi
 obtain⟨k,hk,rfl⟩:=u7.mp hdi
 refine⟨⟨e2,by rw[hl];exact(u9.mp hk).1⟩,λx H3 hy=>?_⟩
 obtain⟨rfl,hy⟩:=hy
 unfold WI at hd
 cases t with
 | true =>
  rw[t7 rfl]at hd
  obtain⟨kvs,rfl,rfl,_⟩:=hd
  obtain⟨p,b,hp,rfl,hb⟩:=hy
  rw[j4,hp]at hk
  cases hk
  obtain⟨F3,g,hF⟩:=Gr.see s2 hb
  exact⟨F3,g,.tup hF (zbb _)⟩
 | false =>
  rw[j7 u8]at hd
  obtain⟨kvs,rfl,rfl,_⟩:=hd
  obtain⟨p,hp,rfl⟩:=hy
  rw[j4,hp]at hk
  cases hk
  exact⟨F2,.refl s2,zdY _⟩
section
variable {X:Cx}{tg a b e k v:Expr}{pos pos':Pos}{sts:List Stmt}
def zl4 (f:Ev->Option D):Ev->Option (List D):=fun ρ=>(f ρ).bind zh7
theorem zi4 {f:Ev->Option D}(ha:ED X a f):ID X tg a (zl4 f):=by
 obtain⟨t,p,r⟩:=ha
 refine⟨_,zit p,fun σ ρ F H ds R s va e q=>?_⟩
 obtain⟨d,e1,e2⟩:=u4.mp e
 refine r σ ρ F H d _ s va e1 λF1 H1 v g1 a1=>?_
 unfold zh7 at e2
 split at e2
 .cases e2
  obtain⟨p,xs,rfl,⟨u,hd,hz⟩,_⟩:=a1.dct_inv
  rw[t7 rfl]at hz
  obtain⟨ob,hz⟩:=hz
  exact⟨p,ob,u,rfl,g1.fh _ _ hz,(Wf hd).1,q F1 H1 _ g1 (zkG hz hd)⟩
 .cases e2
def zmB (i:Nat)(g:SE->Ctl):SE->Ctl:=fun ρ=>match ρ[i]? with
 | some (.m t ks vs)=>g (ρ.set i (.v (.dct true t ks vs)))
 | _=>.no
theorem Rl.fzM {Fb Hb F H:Hp}{ρ:SE}{σ:St}{i:Nat}{t:Bool}{ks:List (List Key)}{vs:List D}(r:Rl Fb Hb F H ρ σ)(h:ρ[i]?=some (.m t ks vs)) :
 ∃ p u,σ[i]?=some (some (.ref p))/\H p=some u/\Wo u/\∀ ob,Rl Fb Hb (upd F p (.frz ob u)) (upd H p (.frz ob u)) (ρ.set i (.v (.dct true t ks vs))) σ:=by
 obtain⟨p,u,e1,e2,e3,e4,xs,hd,al⟩:=r.ows i _ h rfl
 refine⟨p,u,e1,e4,(Wf hd).1,λob=>?_⟩
 have hi:i < ρ.length:=(u9.mp h).1
 have sF:yE F (upd F p (.frz ob u)):=λb o e=>by rw[zm (zp e e3)];exact e
 have nj:∀ {j:Nat} {s:Sl},(ρ.set i (.v (.dct true t ks vs)))[j]?=some s->s.isO=true->i≠j:=λ{j s} h ht e=>by
  subst e
  rw[u0B hi]at h
  cases h
  cases ht
 refine⟨⟨r.gr.ff.trans sF,λb o z=>?_,λb o z1 z2=>?_⟩,λj d z=>?_,λj s z ht=>?_,λj k q s s' h1 h2 o1 o2 h3 h4=>?_,by simp[r.len]⟩
 .by_cases hb:b=p
  .subst hb;rw[zn]at z ⊢;exact z
  .rw[zm hb]at z ⊢;exact r.gr.fh b o z
 .have hb:b≠p:=zp z2 e2
  obtain⟨x,y⟩:=r.gr.kp b o z1 z2
  refine⟨?_,by rw[zm hb];exact y⟩
  unfold Hid
  rw[zm hb]
  exact x
 .by_cases hj:i=j
  .subst hj
   rw[u0B hi]at z
   cases z
   refine⟨_,e1,?_⟩
   unfold At
   exact⟨p,xs,rfl,⟨u,hd,by rw[t7 rfl];exact⟨ob,zn⟩⟩,al.mono sF⟩
  .rw[d7 hj]at z
   obtain⟨v,f1,f2⟩:=r.vals j d z
   exact⟨v,f1,f2.mono sF⟩
 .have hj:=nj z ht
  rw[d7 hj]at z
  obtain⟨q,y,f1,f2,f3,f4,f5⟩:=r.ows j s z ht
  have hq:q≠p:=λw=>hj (r.dis i j p _ s h z rfl ht e1 (by rw[<-w];exact f1))
  exact⟨q,y,f1,f2,by rw[zm hq];exact f3,by rw[zm hq];exact f4,f5.mono sF⟩
 .have a1:=nj h1 o1
  have a2:=nj h2 o2
  rw[d7 a1]at h1
  rw[d7 a2]at h2
  exact r.dis j k q s s' h1 h2 o1 o2 h3 h4
theorem zi5 {g:SE->Ctl}(i:Nat)(h:SDs X sts g):SDs X sts (zmB i g):=by
 obtain⟨t,p,r⟩:=h
 refine⟨_,ziH i p,λFb Hb F H ρ σ E rl k=>?_⟩
 unfold zmB at k
 split at k
 .rename_i tt ks vs hs
  obtain⟨q,u,e1,e2,e3,e4⟩:=rl.fzM hs
  exact⟨q,u,e1,e2,e3,λob=>r Fb Hb _ _ _ σ E (e4 ob) k⟩
 .exact k.elim
end
end
end Dl
namespace L2
open PySem PySem.Spec PyProof.Rows
def zdz (X:Cx)(x0:Str)(M:List Str)(scope:Scope)(cl:List (Str × Addr))(s₀:Shared)(H₀:Hp)(ex:List Addr)(pn:List (Addr × Obj)):Cx :=
 { X with N:=[x0]++M,s₀:=s₀,H₀:=H₀,env:=compEnvC scope ((x0,s₀.heap.objs.size+1)::cl) s₀.heap.objs.size X.env,outer:=X.stack,stack:=X.stack,ex:=ex,fn:=λy=>y == x0,pn:=pn,xe:=λ_ _=>False }
structure YO (X:Cx) (x0:Str) (M:List Str) (scope:Scope) (cl:List (Str × Addr)):Prop where
 clos:closureFor scope X.env=pure cl
 laid:∀ n,cellsFrom n scope.names cl=(x0,n)::cl
 push:∀ h,pushCells h scope.names=h.push { cls:=.type "cell",data:=.cell none }
 kind:scope.kind=.function
 names:∀ y∈scope.names,y.2=.local->scope.names.lookup y.1=some .local
 sub:∀ y c,cl.lookup y=some c->X.env.cells.lookup y=some c
 has:∀ y,((relabel scope X.env).names.lookup y=some .cell\/(relabel scope X.env).names.lookup y=some .free)->y=x0\/∃ c,cl.lookup y=some c
 mlen:M.length=X.N.length
 ne:∀ (i:Nat) y,M[i]?=some y->Vis (relabel scope X.env) y->y≠x0
 msk:∀ (i:Nat) y,M[i]?=some y->Vis (relabel scope X.env) y->X.N[i]?=some y
 vis:∀ (i:Nat) y,M[i]?=some y->Vis (relabel scope X.env) y->((relabel scope X.env).names.lookup y=some .cell\/(relabel scope X.env).names.lookup y=some .free)
 out:∀ (i:Nat) y,M[i]?=some y->Vis (relabel scope X.env) y->Vis X.env.scope y/\X.env.kindOf y≠some .local
theorem Y5 (x0:Str)(a:Addr)(cl:List (Str × Addr))(y:Str):((x0,a)::cl).lookup y=if y=x0 then some a else cl.lookup y:=by
 rw[List.lookup_cons]
 by_cases h:y=x0
 .rw[t7 h,show(y == x0)=true from u3b.mpr h]
 .rw[j7 h,show(y == x0)=false from u0Y.mpr h]
theorem Vd {M:Model} {A:Around} {E:Value->Shared->Prop} {s:Shared} {scope:Scope} {globals:Addr} {cl:List (Str × Addr)} {qual:Str} {env:Env} {x0:Str} {Q:Env->Shared->Prop} (laid:∀ n,cellsFrom n scope.names cl=(x0,n)::cl) (push:∀ h,pushCells h scope.names=h.push { cls:=.type "cell",data:=.cell none })
 (hQ:Q (newEnv scope s.heap.objs.size globals ((x0,s.heap.objs.size+1)::cl) qual none .none (some env) builtinsNs) { s with heap:=(s.heap.push { cls:=.type "dict",data:=.dict #[] }).push { cls:=.type "cell",data:=.cell none } }) :
 wpAny M A (newFunctionEnv scope globals cl [] qual none .none (some env)) Q E s:=by
 simp only[newFunctionEnv,Option.isSome_some,u21]
 refine u0 (wpAny_alloc ?_)
 refine u0 (wpAny_layCells _ (λname kind cells=>by cases hkc:kind == NameKind.cell <;> simp[hkc]) _ _ _ _ ?_)
 rw[laid,push,show({ s with heap:=s.heap.push { cls:=.type "dict",data:=.dict #[] } }:Shared).heap.objs.size=s.heap.objs.size+1 from u0w ..]
 simp only[u2T]
 exact u0 (u5 (u5 hQ))
theorem zg0 {use:Option (Value->Sem Unit)}{Qf:Value->Shared->Prop}{X:Cx}{elt tg iter:Expr}{ifs:List Expr}{x0:Str}{M:List Str}{scope:Scope}{cl:List (Str × Addr)}{pos:Pos}{wi:TI}{g:TG}{tt:TT}{te:TE}
 (hc:X.calm=true) (S:YO X x0 M scope cl) (hi:PI X tg iter wi)
 (hgS:∀ (σ:St) (v:V) (H:Hp) (Q:St->Hp->Prop),g v (List.replicate 1 none++σ) H Q->g v (List.replicate 1 none++σ) H (fun σ2 H2=>YW (List.replicate 1 none++σ) σ2/\Q σ2 H2))
 (hg:∀ s₀ H₀ ex pn,PG (zdz X x0 M scope cl s₀ H₀ ex pn) tg g) (ht:∀ s₀ H₀ ex pn,PIf (zdz X x0 M scope cl s₀ H₀ ex pn) ifs tt) (he:∀ s₀ H₀ ex pn,PE (zdz X x0 M scope cl s₀ H₀ ex pn) elt te)
 (hs:∀ x,foldedSetIterable iter X.env x=pure x:=by intro _;rfl) :
 ∀ (pos':Pos) (pins:List (Addr × Obj)) (s:Shared) (σ:St) (H:Hp) (Q:VK),Inv X pins σ H s->tLC wi 1 g tt te σ H Q ->
  (∀ (D C:Addr) (H':Hp) (s':Shared),Inv X pins σ H' s'->(∃ m,s'.heap.Ns C m)->zaT X pins H' C->Q (.ref D) H'->compPost (model X.prog X.w) X.A X.xe use Qf (.ref D) C (.ok .next) s') ->
  wpAny (model X.prog X.w) X.A (comprehension (.ListComp elt [⟨tg,iter,ifs,0⟩] scope pos) scope X.env pos' (newList []) false (eval iter X.env) use) Qf X.xe s:=by
 intro pos' pins s σ H Q I h fin
 refine wpAny_comprehension_free (use:=use) rfl hs S.clos S.kind S.names (thn (hi pins s σ H _ I h) λv s1 h1=>thn h1 λitv s2 h2=>?_)
 obtain⟨it,fp,tn,J,H2,e,I2,T,st2,f2,q⟩:=h2
 subst e
 have hD:H2 s2.heap.objs.size=none:=I2.hok.fresh (t5 _)
 obtain⟨W,⟨m0,w0⟩,turn⟩:=q _ hD
 refine i9 (Vd S.laid S.push ?_)
 have I3:Inv X pins σ (upd H2 s2.heap.objs.size (.lst [])) { s2 with heap:=s2.heap.push { cls:=.type "list",data:=.seq ([]:List Value).toArray } }:=by
  refine I2.laid (t':=s2.toks) (λb u e=>u3 _ e) (t5 _) ?_
  exact⟨u0D _,[],0,.nil,t6 _ rfl⟩
 generalize hs3:({ s2 with heap:=s2.heap.push { cls:=.type "list",data:=.seq ([]:List Value).toArray } }:Shared)=s3 at I3 ⊢
 generalize hh1:(s3.heap.push { cls:=.type "dict",data:=.dict #[] }).push { cls:=.type "cell",data:=.cell none }=h₁
 have hns₁:h₁.Ns s3.heap.objs.size λ_=>none:=by
  rw[<-hh1]
  exact(Heap.Ns.new s3.heap (.type "dict")).keeps λb o e=>u3 _ e
 have hcell₁:h₁.IsCell (s3.heap.objs.size+1) none:=by
  rw[<-hh1]
  refine⟨{ cls:=.type "cell",data:=.cell none },?_,rfl⟩
  rw[<-show(s3.heap.push { cls:=.type "dict",data:=.dict #[] }).objs.size=s3.heap.objs.size+1 from u0w ..]
  exact t6 _ rfl
 have hobj:∀ b∈fp,b < s2.heap.objs.size:=λb hb=>by
  obtain⟨o,ho,_⟩:=T.obj _ _ st2 b hb
  exact t4 ho
 have hz3:s3.heap.objs.size=s2.heap.objs.size+1:=by rw[<-hs3];exact u0w ..
 have k23:∀ b o,s2.heap.get? b=some o->s3.heap.get? b=some o:=λb o e=>by rw[<-hs3];exact u3 _ e
 have k34:∀ b o,s3.heap.get? b=some o->h₁.get? b=some o:=λb o e=>by rw[<-hh1];exact u3 _ (u3 _ e)
 generalize hH3:upd H2 s2.heap.objs.size (.lst [])=H3 at I3 w0
 have hfp3:∀ b∈fp,H3 b=none:=λb hb=>by
  rw[<-hH3,zm (j9 (hobj b hb))]
  exact(f2 b hb).1
 have nfs:∀ b∈fp,b∉frs X.stack:=λb hb z=>by
  obtain⟨_,n1,n2,_⟩:=f2 b hb
  rcases j5.mp (I3.stkSub b z)with e | e
  .exact n1 e
  .exact n2 e
 let Y:Cx:=zdz X x0 M scope cl s3 H3 fp (X.pn++pins)
 have old:∀ y c,cl.lookup y=some c->c≠s3.heap.objs.size+1:=λy c e z=>by
  obtain⟨v,o,ho,_⟩:=I3.cell y c (S.sub y c e)
  have:=t4 ho
  rw[z]at this
  exact absurd this (u4A.mpr (u1x _))
 have OkY:Y.Ok:=by
  refine⟨I.ok.mod,S.kind,I.ok.glob,I.ok.blt,t5 _,?inj,?has,?cab,I.ok.hd,I.ok.frames,.inl rfl,?exf,
   λb o e=>I3.bs b o e,b9 I.ok.bsz I3.sz,?noex,nfs,I3.stack,I3.stkFree⟩
  case inj =>
   intro x y c h1 h2
   have h1:((x0,s3.heap.objs.size+1)::cl).lookup x=some c:=h1
   have h2:((x0,s3.heap.objs.size+1)::cl).lookup y=some c:=h2
   rw[Y5]at h1 h2
   by_cases ex:x=x0
   .by_cases ey:y=x0
    .rw[ex,ey]
    .rw[t7 ex]at h1
     rw[j7 ey]at h2
     exact absurd (p9 h1) (old y c h2).symm
   .rw[j7 ex]at h1
    by_cases ey:y=x0
    .rw[t7 ey]at h2
     exact absurd (p9 h2) (old x c h1).symm
    .rw[j7 ey]at h2
     exact I.ok.inj x y c (S.sub x c h1) (S.sub y c h2)
  case has =>
   intro x hx
   show ∃ c,((x0,s3.heap.objs.size+1)::cl).lookup x=some c
   rw[Y5]
   rcases S.has x hx with e | ⟨c,e⟩
   .rw[t7 e];exact⟨_,rfl⟩
   .split
    .exact⟨_,rfl⟩
    .exact⟨c,e⟩
  case cab =>
   intro x c hf h1
   have h1:((x0,s3.heap.objs.size+1)::cl).lookup x=some c:=h1
   rw[Y5,t7 (u3b.mp hf)]at h1
   cases h1
   exact u1x _
  case exf =>
   refine λb hb=>⟨?_,λx c e z=>?_⟩
   .show b≠s3.heap.objs.size
    exact j9 (r8 (hobj b hb) (by rw[hz3];exact u1x _))
   .have e:((x0,s3.heap.objs.size+1)::cl).lookup x=some c:=e
    rw[Y5]at e
    split at e
    .cases e
     have h1:=hobj b hb
     rw[hz3]at z
     rw[<-z]at h1
     exact absurd h1 (u4A.mpr (b9 (u1x _) (u1x _)))
    .exact(f2 b hb).2.2.2.2.1 x c (S.sub x c e) z
  case noex =>
   intro b o e hb
   rcases(f2 b hb).2.2.2.1 with z | z
   .exact I.ok.noex b o e z
   .have h1:=t4 e
    have h2:=I.ok.bsz
    exact absurd (r8 h1 (b9 h2 z)) (u0J _)
 have I4:Inv Y [] (List.replicate 1 none++σ) H3 { s3 with heap:=h₁ }:=by
  refine⟨OkY,rfl,I3.bare,Un.kept k34,⟨_,hns₁,λi y v e1 e2 e3=>?_⟩,λx c e=>?_,I3.hok.fresh (t5 _),λx c e=>?freeC,λp hp=>?_,I3.hok.kept k34,?_⟩
  .have hi:¬ i < 1:=λhlt=>by
    rw[u0l (by simpa using hlt),u1q]at e2
    split at e2 <;> cases e2
   have e0':M[i - 1]?=some y:=by
    have e1:([x0]++M)[i]?=some y:=e1
    rw[u0j (show 1<=i by omega)]at e1
    exact e1
   have e2':σ[i - 1]?=some (some v):=by rw[u0j (by simpa using u0s hi)]at e2;simpa using e2
   have e1':=S.msk _ y e0' e3
   obtain⟨ov,ok⟩:=S.out _ y e0' e3
   obtain⟨m,hn,hl⟩:=I3.loc
   obtain⟨u,ru,lk⟩:=hl _ y v e1' e2' ov
   refine⟨u,ru,?_⟩
   rcases lk with ⟨hk,_⟩ | ⟨_,c,hc',hcell⟩
   .exact absurd hk ok
   .have kn:=S.vis _ y e0' e3
    obtain⟨c',hc2⟩:=(S.has y kn).resolve_left (S.ne _ y e0' e3)
    have:=S.sub y c' hc2
    rw[hc']at this
    cases this
    refine .inr ⟨kn,c,(show((x0,s3.heap.objs.size+1)::cl).lookup y=some c by rw[Y5,j7 (S.ne _ y e0' e3)];exact hc2),?_⟩
    obtain⟨o,ho,hd⟩:=hcell
    exact⟨o,k34 _ _ ho,hd⟩
  .have e:((x0,s3.heap.objs.size+1)::cl).lookup x=some c:=e
   rw[Y5]at e
   split at e
   .cases e
    exact⟨_,hcell₁⟩
   .obtain⟨v,o,ho,hd⟩:=I3.cell x c (S.sub x c e)
    exact⟨v,o,k34 _ _ ho,hd⟩
  .have e:((x0,s3.heap.objs.size+1)::cl).lookup x=some c:=e
   rw[Y5]at e
   split at e
   .cases e
    exact I3.hok.fresh (u1x _)
   .exact I3.freeC x c (S.sub x c e)
  .have hp':p∈X.pn++pins:=by simpa [Y,zdz]using hp
   obtain⟨a1,a2,a3,a4,a5⟩:=I3.pin p hp'
   refine⟨k34 _ _ a1,a2,j9 (t4 a1),λz=>?_,a5⟩
   rcases j5.mp (I3.stkSub p.1 z)with e | e
   .exact a3 e
   .exact a4 e
  .show(List.replicate 1 none++σ).length=([x0]++M).length
   rw[d6,d6,u2Y,I.len,S.mlen]
   rfl
 have fpY:∀ {H':Hp},(∀ b∈fp,H' b=none)->∀ b∈fp,zaT Y [] H' b:=λ{H'} hn b hb=>by
  refine⟨hn b hb,(OkY.exf b hb).1,nfs b hb,.inl hb,(OkY.exf b hb).2,λp hp=>?_⟩
  have hp':p∈X.pn++pins:=by simpa [Y,zdz]using hp
  exact(f2 b hb).2.2.2.2.2 p hp'
 have st4:tn 0 h₁:=T.keep _ _ _ st2 λb hb o e=>k34 b o (k23 b o e)
 -- behind the loop
 have back:∀ (H':Hp) (s':Shared),Inv Y [] (List.replicate 1 none++σ) H' s'->Q (.ref s2.heap.objs.size) H'->compPost (model X.prog X.w) X.A X.xe use Qf (.ref s2.heap.objs.size) s3.heap.objs.size (.ok .next) s':=λH' s' J' q'=>by
  obtain⟨m,hn,_⟩:=J'.loc
  refine fin _ _ H' s' (I3.call' (ch:=fp) J'.os J'.base J'.hok J'.bare λb hb=>?_) ⟨m,hn⟩ (I3.fpOk (t5 _) J'.free) q'
  obtain⟨_,n1,_,n3,n4,n5⟩:=f2 b hb
  exact⟨n3,n1,n4,n5⟩
 have loop:codeAny (model X.prog X.w) X.A (.compLoop (.ListComp elt [⟨tg,iter,ifs,0⟩] scope pos) 0 (.ref it) (.ref s2.heap.objs.size) (compEnvC scope ((x0,s3.heap.objs.size+1)::cl) s3.heap.objs.size X.env))
  (compPost (model X.prog X.w) X.A X.xe use Qf (.ref s2.heap.objs.size) s3.heap.objs.size) { s3 with heap:=h₁ }:=by
  refine wj (λn s'=>∃ i ys H',Inv Y [] (List.replicate 1 none++σ) H' s'/\tn i s'.heap/\(∀ b∈fp,H' b=none)/\W i n ys H') ?_ m0 ⟨0,[],H3,I4,st4,hfp3,w0⟩
  rintro n s5 ⟨i,ys,H5,I5,st5,fr5,w5⟩
  rcases turn i n ys H5 w5 with ⟨stop,qn⟩ | ⟨go,hlen,step⟩
  .refine thn (T.done Y rfl rfl rfl hc i [] s5 _ H5 _ I5 (fpY fr5) st5 stop) λr s6 hh9=>?_
   obtain⟨hr,I6⟩:=hh9
   subst hr
   exact back H5 s6 I6 qn
  .refine thn (T.item Y rfl rfl rfl hc i [] s5 _ H5 _ I5 (fpY fr5) st5 go) λr s6 hh9=>?_
   obtain⟨u,hr,h6⟩:=hh9
   subst hr
   refine thn h6 λ_ s7 hh9=>?_
   obtain⟨x,H7,I7,r7,y7,st7,fr7⟩:=hh9
   have I7':=I7.pinned (fpY fr7) (T.obj _ _ st7)
   have g7:=hgS σ x H7 _ (step x H7 y7)
   refine thn (hg _ _ _ _ _ s7 _ H7 x u _ I7' r7 g7) λ_ s8 hh9=>?_
   obtain⟨σ8,H8,I8,sub8,q8⟩:=hh9
   have again:∀ {σ9:St} {H9:Hp} {s9:Shared} {zs:List V},Inv Y ([]++Xd fp s7.heap) σ9 H9 s9->YW (List.replicate 1 none++σ) σ9->(∃ m',m' < n/\W (i+1) m' zs H9) ->
    ∃ m,m < n/\∃ i ys H',Inv Y [] (List.replicate 1 none++σ) H' s9/\tn i s9.heap/\(∀ b∈fp,H' b=none)/\W i m ys H':=λ{σ9 H9 s9 zs} I9 sub9 w9=>by
    obtain⟨m',hm,w9⟩:=w9
    refine⟨m',hm,i+1,zs,H9,(I9.sub sub9).unpinned,T.keep _ _ _ st7 λb hb o e=>(I9.pin (b,o) (p7 _ (p7 _ (xA hb e)))).1,λb hb=>?_,w9⟩
    obtain⟨o,e,d⟩:=T.obj _ _ st7 b hb
    exact(I9.pin (b,o) (p7 _ (p7 _ (xA hb e)))).2.1
   refine thn (ht _ _ _ _ _ s8 σ8 H8 _ I8 q8) λb s9 hh9=>?_
   obtain⟨H9,I9,q9⟩:=hh9
   cases b with
   | false =>
    rw[j7 u8]at q9
    rw[j7 u8]
    exact again I9 sub8 q9
   | true =>
    rw[t7 rfl]at q9
    rw[t7 rfl]
    refine thn (he _ _ _ _ _ s9 σ8 H9 _ I9 q9) λy s10 hh9=>?_
    obtain⟨yv,H10,I10,r10,hD10,w10⟩:=hh9
    obtain⟨z10,its,k,rv,e10⟩:ys.length<=sizeLine/\∃ (its:List Value) (n:Nat),yd ys its/\s10.heap.get? s2.heap.objs.size=some { cls:=.type "list",data:=.seq its.toArray n }:=I10.hok _ _ hD10
    have hl10:s10.heap.PlainList s2.heap.objs.size its.toArray:=⟨k,e10⟩
    refine wpAny_list_append_plain (hsz:=by rw[q5,<- rv.length];exact z10) hl10 λh11 hl11 sb11=>?_
    obtain⟨k',e11⟩:=hl11
    have I11:Inv Y ([]++Xd fp s7.heap) σ8 (upd H10 s2.heap.objs.size (.lst (ys++[yv]))) { s10 with heap:=h11 }:=by
     refine I10.write (x:=s2.heap.objs.size) (e:=s2.heap.objs.size) (t':=s10.toks) (by rw[hD10];exact True.intro) (.inl rfl) (λb u hb e=>(sb11.2 b hb).trans e) ⟨_,e11⟩ ?_
     refine⟨by rw[d6];show ys.length+1<=sizeLine;exact hlen,its++[y],k',rv.append (.cons r10 .nil),?_⟩
     rw[e11]
     simp
    exact again I11 sub8 w10
 exact codeAny_compStart_list loop (T.self _ 0 _ _ _ st4 loop)
theorem zkp {X:Cx}{elt tg iter:Expr}{ifs:List Expr}{x0:Str}{M:List Str}{scope:Scope}{cl:List (Str × Addr)}{pos:Pos}{wi:TI}{g:TG}{tt:TT}{te:TE}
 (hc:X.calm=true) (S:YO X x0 M scope cl) (hi:PI X tg iter wi)
 (hgS:∀ (σ:St) (v:V) (H:Hp) (Q:St->Hp->Prop),g v (List.replicate 1 none++σ) H Q->g v (List.replicate 1 none++σ) H (fun σ2 H2=>YW (List.replicate 1 none++σ) σ2/\Q σ2 H2))
 (hg:∀ s₀ H₀ ex pn,PG (zdz X x0 M scope cl s₀ H₀ ex pn) tg g) (ht:∀ s₀ H₀ ex pn,PIf (zdz X x0 M scope cl s₀ H₀ ex pn) ifs tt) (he:∀ s₀ H₀ ex pn,PE (zdz X x0 M scope cl s₀ H₀ ex pn) elt te)
 (hs:∀ x,foldedSetIterable iter X.env x=pure x:=by intro _;rfl) :
 PE X (.ListComp elt [⟨tg,iter,ifs,0⟩] scope pos) (tLC wi 1 g tt te):=by
 intro pins s σ H Q I h
 rw[eval_ListComp]
 refine zg0 hc S hi hgS hg ht he hs _ pins s σ H Q I h λD C H' s' I' ⟨m,hn⟩ f q=>⟨m,hn,λh' sb=>⟨.ref D,_,I'.letGo f sb,rfl,q⟩⟩
def W3 (names rn dn:List (Str × NameKind))(x0:Str)(N M cn:List Str):Bool :=
 names.all (λy=>decide (y.2=.local->names.lookup y.1=some .local)) &&
 rn.all (λy=>decide ((y.2=.cell\/y.2=.free)->y.1=x0\/y.1∈cn)) &&
 (M.length == N.length)&&(M.zip N).all (λp=>decide ((rn.lookup p.1=some .local\/rn.lookup p.1=some .cell\/rn.lookup p.1=some .free)->p.1=p.2)) &&
 M.all (λy=>decide ((rn.lookup y=some .local\/rn.lookup y=some .cell\/rn.lookup y=some .free) ->
  y≠x0/\(rn.lookup y=some .cell\/rn.lookup y=some .free)/\(dn.lookup y=some .local\/dn.lookup y=some .cell\/dn.lookup y=some .free)/\dn.lookup y≠some .local))
theorem zj4 {X:Cx}{x0:Str}{N M cn:List Str}{scope:Scope}{cl:List (Str × Addr)}{rn dn:List (Str × NameKind)}(hr:(relabel scope X.env).names=rn)(hd:X.env.scope.names=dn)(hN:X.N=N)
 (clos:closureFor scope X.env=pure cl) (laid:∀ n,cellsFrom n scope.names cl=(x0,n)::cl) (push:∀ h,pushCells h scope.names=h.push { cls:=.type "cell",data:=.cell none }) (kind:scope.kind=.function) (hc:cl.map Prod.fst=cn) (good:W3 scope.names rn dn x0 N M cn=true) (sub:∀ p∈cl,X.env.cells.lookup p.1=some p.2):YO X x0 M scope cl:=by
 unfold W3 at good
 simp only[g9,u0k,d5]at good
 obtain⟨⟨⟨⟨g2,g3⟩,g5⟩,g6⟩,g4⟩:=good
 have g5:M.length=N.length:=by simpa using g5
 refine⟨clos,laid,push,kind,g2,λy c h=>sub (y,c) (u0A h),λy h=>?_,by rw[hN];exact g5,λi y e v=>?_,λi y e v=>?_,λi y e v=>?_,λi y e v=>?_⟩
 .rw[hr]at h
  have hy:y=x0\/y∈cn:=by
   rcases h with h | h
   .exact g3 _ (u0A h) (.inl rfl)
   .exact g3 _ (u0A h) (.inr rfl)
  exact hy.imp id λhy=>ve (by rw[hc];exact hy)
 .unfold Vis at v
  rw[hr]at v
  exact(g4 y (d8 e) v).1
 .unfold Vis at v
  rw[hr]at v
  have hi:=(u9.mp e).1
  have hj:i < N.length:=by rw[<-g5];exact hi
  have hz:(M.zip N)[i]?=some (y,N[i]):=by
   rw[u1m]
   exact⟨e,j6 hj⟩
  have:=g6 _ (d8 hz) v
  rw[hN,j6 hj]
  exact u1d some this.symm
 .unfold Vis at v
  rw[hr]at v ⊢
  exact(g4 y (d8 e) v).2.1
 .unfold Vis at v
  rw[hr]at v
  obtain⟨_,_,k1,k2⟩:=g4 y (d8 e) v
  refine⟨?_,?_⟩
  .unfold Vis;rw[hd];exact k1
  .show X.env.scope.names.lookup y≠_;rw[hd];exact k2
end L2
namespace Dl
open PySem L2
variable [KK]
theorem zjg {X:Cx}{elt tg iter c:Expr}{x0:Str}{M:List Str}{scope:Scope}{cl:List (Str × Addr)}{pos:Pos}{fi:Ev->Option (List D)}{b:D->Option (List (Option D))}{ft:Ev->Option Bool}{fe:Ev->Option D}{g:TG}
 (hc:X.calm=true) (S:YO X x0 M scope cl) (hi:ID X tg iter fi)
 (hgS:∀ (σ:St) (v:V) (H:Hp) (Q:St->Hp->Prop),g v (List.replicate 1 none++σ) H Q->g v (List.replicate 1 none++σ) H (fun σ2 H2=>YW (List.replicate 1 none++σ) σ2/\Q σ2 H2))
 (hrb:RB 1 g b)
 (hg:∀ s₀ H₀ ex pn,PG (zdz X x0 M scope cl s₀ H₀ ex pn) tg g) (ht:∀ s₀ H₀ ex pn,TD (zdz X x0 M scope cl s₀ H₀ ex pn) c ft) (he:∀ s₀ H₀ ex pn,ED (zdz X x0 M scope cl s₀ H₀ ex pn) elt fe)
 (hs:∀ x,foldedSetIterable iter X.env x=pure x:=by intro _;rfl):FL X (.ListComp elt [⟨tg,iter,[c],0⟩] scope pos) (fLC fi b ft fe):=by
 obtain⟨wi,pi,ri⟩:=hi
 exact⟨_,zkp hc S pi hgS hg (λ_ _ _ _=>zbl (ht _ _ _ _).can) (λ_ _ _ _=>(he _ _ _ _).can) hs,zeU ri hrb zey zaS⟩
end Dl
namespace OwnSet
open PySem
def ksOf (m:Nat):List Nat:=(List.range 8).filter λi=>m.testBit i
def tabOf (led:Bool)(ks:List Nat):SetTable:={ mask:=if ks.length<=4 then 7 else 31,place:=ks.toArray,dummies:=#[],finger:=0,led:=led,moves:=if ks.length<=4 then 0 else 1,plain:=true }
def Y0 (led:Bool)(ks:List Nat)(k:Nat):SetTable:={ tabOf led ks with place:=(ks.filter (· < k)++k::ks.filter (k < ·)).toArray }
theorem zgk:∀ (m:_root_.Fin 256) (k:_root_.Fin 8),m.val.testBit k.val=false->ksOf (m.val ||| 1 <<< k.val)=(ksOf m.val).filter (· < k.val)++k.val::(ksOf m.val).filter (k.val < ·):=by decide +kernel
theorem zc9:∀ (m:_root_.Fin 256) (k:_root_.Fin 8),m.val.testBit k.val=false->∀ led:Bool,(tabOf led (ksOf m.val)).freeSlot (k.val:Int)=some (k.val,false):=by decide +kernel
theorem zd0:∀ (m:_root_.Fin 256) (k:_root_.Fin 8),m.val.testBit k.val=false->∀ led:Bool,(tabOf led (ksOf m.val)).put k.val=(Y0 led (ksOf m.val) k.val,((ksOf m.val).filter (· < k.val)).length):=by decide +kernel
theorem W2:∀ (m:_root_.Fin 256) (k:_root_.Fin 8),m.val.testBit k.val=false->∀ led:Bool,(Y0 led (ksOf m.val) k.val).fits ((ksOf m.val).length+1)=true/\(Y0 led (ksOf m.val) k.val).tooFull=decide ((ksOf m.val).length=4):=by decide +kernel
theorem ze8:∀ (m:_root_.Fin 256) (k:_root_.Fin 8),m.val.testBit k.val=false->∀ led:Bool,(ksOf m.val).length≠4->Y0 led (ksOf m.val) k.val=tabOf led (ksOf (m.val ||| 1 <<< k.val)):=by decide +kernel
theorem za6:∀ (m:_root_.Fin 256),(ksOf m.val).length=5->∀ (k:_root_.Fin 8) (led:Bool),((ksOf m.val).contains k.val)=true->(Y0 led ((ksOf m.val).filter (·≠k.val)) k.val).relaid ((ksOf m.val).map λi:Nat=>(i:Int)).toArray (SetTable.grown 5)=some (tabOf led (ksOf m.val),#[0,1,2,3,4]):=by decide +kernel
theorem XQ:∀ (m:_root_.Fin 256) (i:_root_.Fin 9),i.val<=(ksOf m.val).length->SetTable.below (ksOf m.val).toArray (if i.val=0 then 0 else (ksOf m.val).getD (i.val - 1) 0+1)=i.val:=by decide +kernel
theorem W0:∀ (m:_root_.Fin 256) (k:_root_.Fin 8),m.val.testBit k.val=false->ksOf m.val=(ksOf m.val).filter (· < k.val)++(ksOf m.val).filter (k.val < ·)/\(ksOf m.val).all (λj=>decide (j≠k.val))=true/\(ksOf m.val).length<=7:=by decide +kernel
def esL (ks:List Nat)(tk:Nat->Tok):List (Int × Value):=ks.map λk:Nat=>((k:Int),Value.int (k:Int) (tk k))
def vA (ks:List Nat)(tk:Nat->Tok):Array (Int × Value):=(esL ks tk).toArray
theorem yi (ks:List Nat)(tk:Nat->Tok):(vA ks tk).size=ks.length:=by unfold vA esL;rw[q5,u6]
def yr (h:Heap) (a:Addr) (led:Bool) (m:Nat):Prop:=∃ (ep:Nat) (tk:Nat->Tok),h.get? a=some { cls:=.type "set",dict:=none,data:=.set (vA (ksOf m) tk) ep (tabOf led (ksOf m)),slots:=#[] }
theorem Vu {α:Type}(xs:List α)(p:Nat)(x:α):SetTable.insertAt xs.toArray p x=(xs.take p++x::xs.drop p).toArray:=by
 unfold SetTable.insertAt
 apply Array.ext'
 simp
 exact u1h (by rw[u0h];exact t5 _)
theorem zkj {m k:Nat}(hm:m < 256)(hk:k < 8)(hb:m.testBit k=false)(tk:Nat->Tok)(t0:Tok) :
 SetTable.insertAt (vA (ksOf m) tk) ((ksOf m).filter (· < k)).length ((k:Int),Value.int (k:Int) t0)=vA (ksOf (m ||| 1 <<< k)) (λj=>if j=k then t0 else tk j):=by
 obtain⟨s1,s2,_⟩:=W0 ⟨m,hm⟩ ⟨k,hk⟩ hb
 have s3:=zgk ⟨m,hm⟩ ⟨k,hk⟩ hb
 simp only at s1 s2 s3
 have e:∀ ks:List Nat,(∀ j∈ks,j≠k)->esL ks (λj=>if j=k then t0 else tk j)=esL ks tk:=λks h=>by
  unfold esL
  exact u0H λj hj=>by show((j:Int),Value.int (j:Int) (if j=k then t0 else tk j))=_;rw[j7 (h j hj)]
 have n1:∀ j∈(ksOf m).filter (· < k),j≠k:=λj hj=>r6 (u0k.mp s2 j (u0c.mp hj).1)
 have n2:∀ j∈(ksOf m).filter (k < ·),j≠k:=λj hj=>r6 (u0k.mp s2 j (u0c.mp hj).1)
 generalize (ksOf m).filter (· < k)=A at *
 generalize (ksOf m).filter (k < ·)=B at *
 unfold vA
 rw[Vu,s3,s1]
 congr 1
 have l1:A.length=(esL A tk).length:=by unfold esL;rw[u6]
 rw[show esL (A++B) tk=esL A tk++esL B tk from i6,l1,List.take_left,List.drop_left]
 rw[show esL (A++k::B) (λj=>if j=k then t0 else tk j)=esL A (λj=>if j=k then t0 else tk j)++((k:Int),Value.int (k:Int) (if k=k then t0 else tk k))::esL B (λj=>if j=k then t0 else tk j)from i6,e _ n1,e _ n2,t7 rfl]
theorem VC:∀ (m:_root_.Fin 256) (k:_root_.Fin 8),m.val.testBit k.val=false->(ksOf (m.val ||| 1 <<< k.val)).length=(ksOf m.val).length+1/\(ksOf (m.val ||| 1 <<< k.val)).filter (·≠k.val)=ksOf m.val/\(ksOf (m.val ||| 1 <<< k.val)).contains k.val=true/\(m.val ||| 1 <<< k.val) < 256:=by decide +kernel
theorem YG:∀ k:_root_.Fin 8,hashInt (k.val:Int)=(k.val:Int):=by decide +kernel
theorem YD:∀ (m:_root_.Fin 256) (led:Bool),(tabOf led (ksOf m.val)).fits (ksOf m.val).length=true:=by decide +kernel
theorem V4 {m k:Nat}(hm:m < 256)(hk:k < 8)(hb:m.testBit k=false)(led:Bool)(tk:Nat->Tok)(t0:Tok) :
 layNew (tabOf led (ksOf m)) (vA (ksOf m) tk) (k:Int) (.int (k:Int) t0)=(vA (ksOf (m ||| 1 <<< k)) (λj=>if j=k then t0 else tk j),Y0 led (ksOf m) k,false,false):=by
 have f1:=zc9 ⟨m,hm⟩ ⟨k,hk⟩ hb led
 have f2:=zd0 ⟨m,hm⟩ ⟨k,hk⟩ hb led
 have f3:=(W2 ⟨m,hm⟩ ⟨k,hk⟩ hb led).1
 have f4:=(VC ⟨m,hm⟩ ⟨k,hk⟩ hb).1
 simp only at f1 f2 f3 f4
 unfold layNew
 rw[f1]
 dsimp only
 rw[f2]
 dsimp only
 rw[zkj hm hk hb,yi,f4]
 unfold SetTable.orStandIn
 rw[t7 f3,f3]
 rfl
theorem zhq {α:Type}(a b c d e:α):(#[0,1,2,3,4]:Array Nat).filterMap (λi=>(#[a,b,c,d,e]:Array α)[i]?)=#[a,b,c,d,e]:=by
 simp[Array.filterMap]
theorem zfd {m k:Nat}(hm:m < 256)(hk:k < 8)(hb:m.testBit k=false)(h4:(ksOf m).length=4)(led:Bool)(tk:Nat->Tok) :
 relayAll (Y0 led (ksOf m) k) (vA (ksOf (m ||| 1 <<< k)) tk) (SetTable.grown (vA (ksOf (m ||| 1 <<< k)) tk).size)=(vA (ksOf (m ||| 1 <<< k)) tk,tabOf led (ksOf (m ||| 1 <<< k)),false):=by
 obtain⟨l1,l2,l3,l4⟩:=VC ⟨m,hm⟩ ⟨k,hk⟩ hb
 simp only at l1 l2 l3 l4
 have l5:(ksOf (m ||| 1 <<< k)).length=5:=by rw[l1,h4]
 have r:=za6 ⟨m ||| 1 <<< k,l4⟩ l5 ⟨k,hk⟩ led l3
 have fz:=YD ⟨m ||| 1 <<< k,l4⟩ led
 simp only at r fz
 rw[l2]at r
 have eh:(vA (ksOf (m ||| 1 <<< k)) tk).map (·.1)=((ksOf (m ||| 1 <<< k)).map λi:Nat=>(i:Int)).toArray:=by
  unfold vA esL
  rw[List.map_toArray,e9]
  rfl
 unfold relayAll
 rw[yi,l5,eh,r]
 dsimp only
 have e5:(#[0,1,2,3,4]:Array Nat).filterMap (λi=>(vA (ksOf (m ||| 1 <<< k)) tk)[i]?)=vA (ksOf (m ||| 1 <<< k)) tk:=by
  generalize ksOf (m ||| 1 <<< k)=ks at l5
  match ks,l5 with
  | [a,b,c,d,e],_=>exact zhq _ _ _ _ _
 rw[e5,yi,fz]
 exact t7 (by decide +kernel)
section
variable {prog:Program}{w:World}{A:Around}{E:Value->Shared->Prop}{s:Shared}
theorem vV (prog:Program)(w:World){m:Nat}(tk:Nat->Tok):ElemsOf (intKind prog w) (vA (ksOf m) tk).toList:=λe he=>by
 unfold vA esL at he
 obtain⟨k,hk,rfl⟩:=b0.mp he
 have h8:k < 8:=u1s.mp (u0c.mp hk).1
 exact⟨⟨(k:Int),u3c _ _ _ _,(YG ⟨k,h8⟩).symm⟩,rfl⟩
theorem zdl {m k:Nat}(tk:Nat->Tok)(hb:m.testBit k=false):(vA (ksOf m) tk).toList.findIdx? (λe=>(intKind prog w).is (k:Int) e.2)=none:=by
 refine u1F.mpr λe he=>?_
 unfold vA esL at he
 obtain⟨j,hj,rfl⟩:=b0.mp he
 show(Value.int (j:Int) (tk j)).isInt (k:Int)=false
 have hjk:j≠k:=λe=>by
  have:=(u0c.mp hj).2
  rw[e,hb]at this
  cases this
 simp only[Value.isInt]
 first | exact u0Y.mpr (λe=>hjk (u3R e)) | exact p6 (λe=>hjk (u3R e)) | (simp;omega)
theorem zkT {a:Addr}{m k:Nat}{led:Bool}{t0:Tok}{Q:Bool->Shared->Prop}(hm:m < 256)(hk:k < 8)(hb:m.testBit k=false)(hS:yr s.heap a led m)
 (h:∀ h',Heap.SameBut a s.heap h'->yr h' a led (m ||| 1 <<< k)->Q true { s with heap:=h' }) :
 wpAny (model prog w) A (setAddHashed a (.int (k:Int) t0) (k:Int)) Q E s:=by
 obtain⟨ep,tk,ho⟩:=hS
 have fz:=YD ⟨m,hm⟩ led
 simp only at fz
 have hf:(tabOf led (ksOf m)).fits (vA (ksOf m) tk).size=true:=by rw[yi];exact fz
 have h7:=(W0 ⟨m,hm⟩ ⟨k,hk⟩ hb).2.2
 simp only at h7
 have hsz:(vA (ksOf m) tk).size < scanBound:=by rw[yi];exact u0d h7 (by decide)
 have hfl:=W2 ⟨m,hm⟩ ⟨k,hk⟩ hb led
 have hlen:=VC ⟨m,hm⟩ ⟨k,hk⟩ hb
 simp only at hfl hlen
 have hsz':(vA (ksOf (m ||| 1 <<< k)) (λj=>if j=k then t0 else tk j)).size<=sizeLine:=by
  rw[yi,hlen.1,u1i]
  omega
 have eh:(k:Int)=(intKind prog w).hash (k:Int):=(YG ⟨k,hk⟩).symm
 unfold setAddHashed setAddHashedIn
 refine u0n (u0 (u2g ho rfl hf ?_))
 dsimp only
 rw[byScan_of (knd:=intKind prog w) (x:=.int (k:Int) t0) rfl hsz (vV prog w tk)]
 simp only[↓reduceIte]
 unfold setAddByScan
 refine u0 ?_
 refine u0 (u1P ?_)
 have scan:=λ(Q':ScanMet->Shared->Prop) (q:Q' .absent s)=>wpAny_setScan_of (knd:=intKind prog w) (A:=A) (E:=E) (adding:=true) (Q:=Q') (x:=.int (k:Int) t0) (k:=(k:Int)) (u3c _ _ _ _) ho rfl hf (vV prog w tk) (by rw[zdl tk hb];exact q)
 rw[<-eh]at scan
 refine u0 (scan _ ?_)
 dsimp only
 rw[V4 hm hk hb]
 dsimp only
 refine u0 (u5 ?_)
 rw[show(Y0 led (ksOf m) k).plain=true from rfl]
 simp only[↓reduceIte]
 refine u0 ?_
 rw[hashByValue_scannable 8 (show(Value.int (k:Int) t0).scannable=true from rfl)]
 refine u5 ?_
 rw[show plainKind (Value.int (k:Int) t0)=true from rfl]
 simp only[↓reduceIte]
 refine u0 (u2S ho rfl ?_ hsz')
 have ho1:=b6 (Obj.putSet (vA (ksOf (m ||| 1 <<< k)) (λj=>if j=k then t0 else tk j)) (Y0 led (ksOf m) k)) ho rfl
 have sb1:=u06 s.heap a (Obj.putSet (vA (ksOf (m ||| 1 <<< k)) (λj=>if j=k then t0 else tk j)) (Y0 led (ksOf m) k))
 rw[hfl.2]
 by_cases h4:(ksOf m).length=4
 .rw[r9 h4]
  simp only[u3A,Bool.and_self,↓reduceIte]
  rw[zfd hm hk hb h4]
  dsimp only
  refine u0 (u5 ?_)
  refine u0 (u2S ho1 rfl ?_ hsz')
  have ho2:=b6 (Obj.putSet (vA (ksOf (m ||| 1 <<< k)) (λj=>if j=k then t0 else tk j)) (tabOf led (ksOf (m ||| 1 <<< k)))) ho1 rfl
  refine u5 ?_
  dsimp only
  exact u5 (h _ (sb1.trans (u06 _ a _)) ⟨_,_,ho2⟩)
 .rw[p6 h4]
  simp only[u3A,u1Z,u1e,↓reduceIte]
  refine u5 ?_
  dsimp only
  have md:=ze8 ⟨m,hm⟩ ⟨k,hk⟩ hb led h4
  simp only at md
  rw[md]at ho1 sb1 ⊢
  exact u5 (h _ sb1 ⟨_,_,ho1⟩)
end
theorem zdV:∀ (m:_root_.Fin 256) (k:_root_.Fin 8),m.val.testBit k.val=true->m.val ||| 1 <<< k.val=m.val/\k.val∈ksOf m.val:=by decide +kernel
theorem zmm:∀ (m:_root_.Fin 256) (k:_root_.Fin 8),m.val ||| 1 <<< k.val < 256:=by decide +kernel
theorem len_small:∀ m:_root_.Fin 256,(ksOf m.val).length<=8:=by decide +kernel
section
variable {prog:Program}{w:World}{A:Around}{E:Value->Shared->Prop}{s:Shared}
theorem zjr {a:Addr}{m k:Nat}{led:Bool}{t0:Tok}{Q:Bool->Shared->Prop}(hm:m < 256)(hk:k < 8)(hb:m.testBit k=true)(hS:yr s.heap a led m)(h:Q false s) :
 wpAny (model prog w) A (setAddHashed a (.int (k:Int) t0) (k:Int)) Q E s:=by
 obtain⟨ep,tk,ho⟩:=hS
 have fz:=YD ⟨m,hm⟩ led
 have h8:=len_small ⟨m,hm⟩
 have hin:=(zdV ⟨m,hm⟩ ⟨k,hk⟩ hb).2
 simp only at fz h8 hin
 have hf:(tabOf led (ksOf m)).fits (vA (ksOf m) tk).size=true:=by rw[yi];exact fz
 have hsz:(vA (ksOf m) tk).size < scanBound:=by rw[yi];exact u0d h8 (by decide)
 have eh:(k:Int)=(intKind prog w).hash (k:Int):=(YG ⟨k,hk⟩).symm
 obtain⟨j,hj⟩:∃ j,(vA (ksOf m) tk).toList.findIdx? (λe=>(intKind prog w).is (k:Int) e.2)=some j:=by
  cases hr:(vA (ksOf m) tk).toList.findIdx? (λe=>(intKind prog w).is (k:Int) e.2) with
  | some j=>exact⟨j,rfl⟩
  | none =>
   have:=u1F.mp hr ((k:Int),Value.int (k:Int) (tk k)) (by unfold vA esL;exact b0.mpr ⟨k,hin,rfl⟩)
   rw[u3c]at this
   cases this
 unfold setAddHashed setAddHashedIn
 refine u0n (u0 (u2g ho rfl hf ?_))
 dsimp only
 rw[byScan_of (knd:=intKind prog w) (x:=.int (k:Int) t0) rfl hsz (vV prog w tk)]
 simp only[↓reduceIte]
 unfold setAddByScan
 refine u0 ?_
 refine u0 (u1P ?_)
 have scan:=λ(Q':ScanMet->Shared->Prop) (q:Q' (.found (0+j)) s)=>wpAny_setScan_of (knd:=intKind prog w) (A:=A) (E:=E) (adding:=true) (Q:=Q') (x:=.int (k:Int) t0) (k:=(k:Int)) (u3c _ _ _ _) ho rfl hf (vV prog w tk) (by rw[hj];exact q)
 rw[<-eh]at scan
 refine u0 (scan _ ?_)
 dsimp only
 exact u5 (u5 h)
theorem zlQ {a:Addr}{m k:Nat}{led:Bool}{t0:Tok}{Q:Bool->Shared->Prop}(hm:m < 256)(hk:k < 8)(hS:yr s.heap a led m)
 (h:∀ b h',Heap.SameBut a s.heap h'->yr h' a led (m ||| 1 <<< k)->Q b { s with heap:=h' }) :
 wpAny (model prog w) A (setAddHashed a (.int (k:Int) t0) (k:Int)) Q E s:=by
 cases hb:m.testBit k with
 | false=>exact zkT hm hk hb hS λh' sb S=>h true h' sb S
 | true =>
  have e:=(zdV ⟨m,hm⟩ ⟨k,hk⟩ hb).1
  simp only at e
  exact zjr hm hk hb hS (h false s.heap (Heap.SameBut.refl a s.heap) (e.symm ▸ hS))
end
def bitsTo (val:Nat->Nat):Nat->Nat
 | 0=>0
 | i+1=>bitsTo val i ||| 1 <<< val i
theorem bitsTo_lt {val:Nat->Nat}(h:∀ i,val i < 8):∀ i,bitsTo val i < 256
 | 0=>(by decide:0 < 256)
 | i+1=>zmm ⟨bitsTo val i,bitsTo_lt h i⟩ ⟨val i,h i⟩
theorem yr.at {h h':Heap}{a:Addr}{led:Bool}{m:Nat}(x:yr h a led m)(k:∀ o,h.get? a=some o->h'.get? a=some o):yr h' a led m:=by
 obtain⟨ep,tk,e⟩:=x
 exact⟨ep,tk,k _ e⟩
section
variable {prog:Program}{w:World}{A:Around}{R:Result->Shared->Prop}{I:Addr}{fp wr:List Addr}{G:Array GenState->Array GenState->Prop}{n:Nat}{P:Nat->Value->Prop}{St:Nat->Shared->Prop}
theorem zjv (W:WalksS prog w A.in1 I fp wr G n P St)(S:Addr)(led:Bool)(hSf:S∉fp)(val:Nat->Nat)(h8:∀ i,val i < 8)(hval:∀ i v,P i v->∃ t,v=.int (val i:Int) t) :
 ∀ (k i:Nat) (s:Shared),n - i=k->i<=n->St i s->yr s.heap S led (bitsTo val i) ->
  (∀ s',Moved (S::wr) G s s'->yr s'.heap S led (bitsTo val n)->R (.ok (.ret .none)) s') ->
  codeAny (model prog w) A (.builtin "set.update.loop" ⟨[.ref S,.ref I],[]⟩) R s:=by
 have hSw:S∉wr:=λh=>hSf (W.sub _ h)
 have hsub:∀ b∈wr,b∈S::wr:=λb hb=>d9 _ hb
 intro k
 induction k with
 | zero =>
  intro i s hk hi hst hS hR
  obtain rfl:i=n:=by omega
  refine u0O u04 ?_
  rw[u0v u0q _]
  show wpAny _ A.in1 (pyNext (.ref I)>>=_) _ _ s
  refine u0 (W.done s _ _ hst λs' hm=>?_)
  show wpAny _ A.in1 (ret Value.none) _ _ s'
  exact u5 (hR s' (hm.mono hsub) (hS.at λo e=>hm.heap S o hSw e))
 | succ k ih =>
  intro i s hk hi hst hS hR
  have hlt:i < n:=by omega
  refine u0O u04 ?_
  rw[u0v u0q _]
  show wpAny _ A.in1 (pyNext (.ref I)>>=_) _ _ s
  refine u0 (W.item i s _ _ hlt hst λv s' hP hst' hm=>?_)
  obtain⟨t,rfl⟩:=hval i v hP
  have hS':yr s'.heap S led (bitsTo val i):=hS.at λo e=>hm.heap S o hSw e
  show wpAny _ A.in1 (holding [Value.int (val i:Int) t] (setAdd S (.int (val i:Int) t))>>=_) _ _ s'
  refine u0 (u0n ?_)
  unfold setAdd
  refine u0n ?_
  have ph:=λ(Q':Int->Shared->Prop) (q:Q' ((val i:Int)) { s' with toks:=s'.toks+1 })=>(intKind prog w).pyHash (A:=A.in1) (E:=λe s'=>R (.error e) s') (s:=s') (k:=(val i:Int)) (v:=.int (val i:Int) t) (Q:=Q') (u3c _ _ _ _) (by show Q' (hashInt (val i:Int)) _;rw[YG ⟨val i,h8 i⟩];exact q)
  refine u0 (ph _ ?_)
  refine zlQ (s:={ s' with toks:=s'.toks+1 }) (bitsTo_lt h8 i) (h8 i) hS' λb h' hsb hS2=>?_
  refine u5 ⟨u1D u0q _,ih (i+1) _ (by omega) hlt (W.frame _ s' _ _ hst' (u1x _) λb hb o e=>?_) hS2 λs'' hm'' hS''=>?_⟩
  .rw[hsb.2 b (λh:b=S=>hSf (by rw[<-h];exact hb))];exact e
  .refine hR s'' (Moved.trans W.gtrans ((hm.mono hsub).then_heap (u1x _) λb o hb e=>?_) hm'') hS''
   rw[hsb.2 b (λh:b=S=>hb (by rw[h];exact o0))];exact e
end
section
variable {prog:Program}{w:World}{A:Around}{E:Value->Shared->Prop}{s:Shared}
abbrev ledOf (w:World):Bool:=!w.params.followText "set-order"
theorem own_set_new (a:Value){Q1:Value->Shared->Prop}
 (h:Q1 (.ref s.heap.objs.size) { s with heap:=s.heap.push { cls:=.type "set",dict:=none,data:=.set #[] 0 (.fresh 0 0 (ledOf w)) } }) :
 codeAny (model prog w) A (.call (.builtin "set.__new__") ⟨[.type "set",a],[]⟩) (wants Q1 E) s:=by
 refine codeAny_of_tree ?_
 show wpAny _ A.in1 (do checkBuiltinCall "set.__new__" ⟨[.type "set",a],[]⟩;again (.builtin "set.__new__" ⟨[.type "set",a],[]⟩)) _ _ s
 refine u0 (u1a (F.newCall_set_1 a) (u5 ⟨u1D F.plain_set_new _,u0O F.entry_set_new ?_⟩))
 rw[u0v F.plain_set_new _]
 unfold Builtin.«set.__new__» Builtin.Frozenset.newClass
 have hsub:=sub_set_self
 obtain⟨hp,g,d,tk,os⟩:=s
 dsimp only
 wp_walk
 refine u0t (u5 ?_)
 dsimp only
 simp only[newObj]
 refine u0 (wpAny_alloc (u5 ?_))
 exact u5 h
end
theorem zbh (h:Heap) (led:Bool) {a:Addr} (e:h.get? a=some { cls:=.type "set",dict:=none,data:=.set #[] 0 (.fresh 0 0 led) }):yr h a led 0:=⟨0,λ_=>0,e⟩
section
variable {prog:Program}{w:World}{A:Around}{E:Value->Shared->Prop}{s:Shared}
theorem zat {l a:Addr} {items:Array Value} {val:Nat->Nat} {led:Bool} {R:Result->Shared->Prop} (hh:A.handled=none) (hS:s.heap.get? a=some { cls:=.type "set",dict:=none,data:=.set #[] 0 (.fresh 0 0 led) })
 (hl:s.heap.IsList l items) (hla:l≠a) (h8:∀ i,val i < 8) (hval:∀ (i:Nat) (v:Value),items[i]?=some v->∃ t,v=.int (val i:Int) t)
 (h:∀ (h':Heap) (tk:Nat),yr h' a led (bitsTo val items.size)->(∀ b o,b≠a->b < s.heap.objs.size->s.heap.get? b=some o->h'.get? b=some o)->R (.ok (.ret .none)) { s with heap:=h',toks:=tk }) :
 wpAny (model prog w) A.in1 (Builtin.«set.__init__» ⟨[.ref a,.ref l],[]⟩) (λfin s'=>match fin with | .done f=>R (.ok f) s' | .again c'=>c'.quiet=true/\codeAny (model prog w) A c' R s') (λe s'=>R (.error e) s') s:=by
 have hT:s.TypeIs (.ref a) "set":=⟨_,hS,rfl⟩
 obtain⟨ol,hol,hcl,nl,hdl⟩:=id hl
 obtain⟨ocls,odict,odata,oslots⟩:=ol
 simp only at hcl hdl
 subst hcl hdl
 have hsls:=F.sub_list_set
 have hslf:=F.sub_list_frozenset
 have hne:(Value.type "list" == Value.type "dict")=false:=by decide
 have hlS:l < s.heap.objs.size:=t4 hol
 have haS:a < s.heap.objs.size:=t4 hS
 unfold Builtin.«set.__init__» noKeywords Builtin.Frozenset.updateFrom
 generalize hPI:pyIter=PI
 wp_walk
 subst hPI
 refine u1j hl ?_
 refine u0 (u2o ?_)
 have hh3:A.in1.in1.handled=none:=by simp[hh]
 refine zjv ((Walks.list hh3 _ l (j9 hlS) items).toS) a led (λhm=>?_) val h8 hval items.size 0 _ rfl (u0D _) ⟨⟨_,t6 _ rfl,rfl,rfl⟩,hl.push _⟩ (zbh _ led (u3 _ hS)) λs' hm hS'=>?_
 .rcases j5.mp hm with e | e
  .exact j9 haS e
  .exact hla (j8.mp e).symm
 .obtain⟨h',g',d',tk',os'⟩:=s'
  have eg:g'=s.gens:=hm.gens
  have ed:d'=s.drawn:=hm.drawn
  have eo:os'=s.os:=hm.os
  subst eg ed eo
  show wpAny _ _ _ _ _ _
  refine u5 ?_
  show wpAny _ _ (ret Value.none) _ _ _
  refine u5 (h h' tk' hS' λb o hb hlt e=>hm.heap b o (λhmem=>?_) (u3 _ e))
  rcases j5.mp hmem with z | z
  .exact hb z
  .exact j9 hlt (j8.mp z)
set_option maxHeartbeats 4000000 in
theorem own_call_set {l:Addr}{items:Array Value}{val:Nat->Nat}{Q:Value->Shared->Prop}(hh:A.handled=none)(hl:s.heap.IsList l items)(h8:∀ i,val i < 8)(hval:∀ (i:Nat) (v:Value),items[i]?=some v->∃ t,v=.int (val i:Int) t)
 (h:∀ (h':Heap) (tk:Nat),yr h' s.heap.objs.size (ledOf w) (bitsTo val items.size)->(∀ b o,s.heap.get? b=some o->h'.get? b=some o)->Q (.ref s.heap.objs.size) { s with heap:=h',toks:=tk }) :
 wpAny (model prog w) A (call (.type "set") [.ref l]) Q E s:=by
 obtain⟨c,tl,hmro⟩:=u0W.mro
 have hmade:=u0W.made
 have hsub:=u0W.sub
 refine wpAny_call (codeAny_of_tree ?_)
 show wpAny _ _ (callAny (.type "set") _) _ _ _
 refine u5 ⟨Code.quiet_builtin _ (by decide +kernel),u0O F.entry_type_call ?_⟩
 rw[Around.under_plain (weight_type_call_type "set" [.ref l] []) rfl]
 have h1:=u0W.notType
 have h2:=u0W.canCreate
 have hct:=F.typeCall_set_1 (.ref l)
 repeat (any_goals (first | assumption | wp_step))
 refine u2y (own_set_new (.ref l) (E:=E) (Q1:=λobj s1=>obj=.ref s.heap.objs.size/\s1={ s with heap:=s.heap.push { cls:=.type "set",dict:=none,data:=.set #[] 0 (.fresh 0 0 (ledOf w)) } }) ⟨rfl,rfl⟩) λr s1 hr=>?_
 cases r with
 | error e=>exact hr
 | ok fl =>
  cases fl with
  | ret obj =>
   obtain⟨rfl,rfl⟩:=hr
   have hS:(s.heap.push { cls:=.type "set",dict:=none,data:=.set #[] 0 (.fresh 0 0 (ledOf w)) }).get? s.heap.objs.size=some { cls:=.type "set",dict:=none,data:=.set #[] 0 (.fresh 0 0 (ledOf w)) }:=t6 _ rfl
   have hT:Shared.TypeIs { s with heap:=s.heap.push { cls:=.type "set",dict:=none,data:=.set #[] 0 (.fresh 0 0 (ledOf w)) } } (.ref s.heap.objs.size) "set":=⟨_,hS,rfl⟩
   have hli:=u0W.init.lookup
   have hbi:=u0W.init.bind (.ref s.heap.objs.size)
   repeat (any_goals (first | assumption | wp_step))
   refine u2y (codeAny_call_builtin (R:=wants (λr s2=>r=.none/\∃ h' tk,s2={ s with heap:=h',toks:=tk }/\yr h' s.heap.objs.size (ledOf w) (bitsTo val items.size)/\∀ b o,s.heap.get? b=some o->h'.get? b=some o) E) u0W.init.plain F.entry_set_init (check_set_init_1 hT ?_)) λr2 s2 hr2=>?_
   .have hll:l < s.heap.objs.size:=by obtain⟨o,ho,_⟩:=hl;exact t4 ho
    refine zat (by simp[hh]) hS (hl.push _) (j9 hll) h8 hval λh' tk S k=>⟨rfl,h',tk,rfl,S,λb o e=>k b o (j9 (t4 e)) ?_ (u3 _ e)⟩
    rw[u0w]
    exact u01 (t4 e)
   .cases r2 with
    | error e=>exact hr2
    | ok fl2 =>
     cases fl2 with
     | ret r =>
      obtain⟨rfl,h',tk,rfl,S,k⟩:=hr2
      repeat (any_goals (first | assumption | wp_step))
      exact h _ _ S k
     | _=>exact hr2.elim
  | _=>exact hr.elim
end
theorem zch:Manifest.owners.lookup (String.ofList ['r','o','t','a','r','e','t','i','_','t','e','s'].reverse)=some Manifest.sig_set_iterator:=by kernel_rfl
theorem wG:Slot "set_iterator" "__next__" "set_iterator.__next__" :=
 .of (owner:="set_iterator") (n:="__next__") (by rw[typeLookup_type,builtinLookup_eq_fast];kernel_rfl) (by decide +kernel) (by decide +kernel) (by decide +kernel)
  (by first | exact .inl (by decide +kernel) | exact .inr (by decide +kernel)) (by rw[isSubtype_type];kernel_rfl)
theorem zfh:Slot "set_iterator" "__iter__" "set_iterator.__iter__" :=
 .of (owner:="set_iterator") (n:="__iter__") (by rw[typeLookup_type,builtinLookup_eq_fast];kernel_rfl) (by decide +kernel) (by decide +kernel) (by decide +kernel)
  (by first | exact .inl (by decide +kernel) | exact .inr (by decide +kernel)) (by rw[isSubtype_type];kernel_rfl)
theorem wo:entryFor table "set_iterator.__next__"=some Builtin.«set_iterator.__next__»:=entryFor_of_tree (by kernel_rfl)
theorem Vg:entryFor table "set_iterator.__iter__"=some Builtin.«dict_keyiterator.__iter__» :=
 entryFor_alias (id':="dict_keyiterator.__iter__") (by kernel_rfl) (by first | rfl | decide +kernel | (unfold String.splitOn;simp +decide [String.splitOnAux])) (by decide +kernel) (by kernel_rfl)
theorem Y1:entryFor table "set.__iter__"=some Builtin.«frozenset.__iter__» :=
 entryFor_alias (id':="frozenset.__iter__") (by kernel_rfl) (by first | rfl | decide +kernel | (unfold String.splitOn;simp +decide [String.splitOnAux])) (by decide +kernel) (by kernel_rfl)
theorem wZ (a:Value):argsOk "set_iterator.__next__" ⟨[a],[]⟩:=by
 unfold argsOk;rw[signature?_of (id:="set_iterator.__next__") (n:=['_','_','t','x','e','n','_','_']) (o:=['r','o','t','a','r','e','t','i','_','t','e','s']) (by kernel_rfl) zch];kernel_rfl
theorem V2 (a:Value):argsOk "set_iterator.__iter__" ⟨[a],[]⟩:=by
 unfold argsOk;rw[signature?_of (id:="set_iterator.__iter__") (n:=['_','_','r','e','t','i','_','_']) (o:=['r','o','t','a','r','e','t','i','_','t','e','s']) (by kernel_rfl) zch];kernel_rfl
def y9 (h:Heap) (a:Addr) (led:Bool) (m ep:Nat) (tk:Nat->Tok):Prop:=h.get? a=some { cls:=.type "set",dict:=none,data:=.set (vA (ksOf m) tk) ep (tabOf led (ksOf m)),slots:=#[] }
abbrev wI (h:Heap) (I a:Addr) (slot i n ep:Nat):Prop:=h.get? I=some { cls:=.type "set_iterator",dict:=none,data:=.fields #[rawInt (slot:Int),rawInt (i:Int),.ref a,rawInt (n:Int),rawInt (ep:Int)],slots:=#[] }
theorem YB (c:Bool):¬ ((!true&&c)=true):=by cases c <;> decide
theorem zan (b c:Bool):¬ ((!b&&(!true&&c))=true):=by cases b <;> cases c <;> decide
section
variable {prog:Program}{w:World}{A:Around}{E:Value->Shared->Prop}{s:Shared}
theorem yw {a:Addr}{m ep:Nat}{led:Bool}{tk:Nat->Tok}{Q:(Array (Int × Value) × Nat × SetTable)->Shared->Prop}(hm:m < 256)(hS:y9 s.heap a led m ep tk)(h:Q (vA (ksOf m) tk,ep,tabOf led (ksOf m)) s):wpAny (model prog w) A (setState a) Q E s:=by
 have fz:=YD ⟨m,hm⟩ led
 simp only at fz
 exact u2g hS rfl (by rw[yi];exact fz) h
theorem Yw {a:Addr}{m ep:Nat}{led:Bool}{tk:Nat->Tok}{Q:Value->Shared->Prop}(hm:m < 256)(hS:y9 s.heap a led m ep tk)
 (h:Q (.ref s.heap.objs.size) { s with heap:=s.heap.push { cls:=.type "set_iterator",data:=.fields #[rawInt ((0:Nat):Int),rawInt ((0:Nat):Int),.ref a,rawInt ((ksOf m).length:Int),rawInt (ep:Int)] } }) :
 wpAny (model prog w) A (pyIter (.ref a)) Q E s:=by
 have hT:s.TypeIs (.ref a) "set":=⟨_,hS,rfl⟩
 refine u2R hT u3f (u0a u3f hT Y1 ?_ (F.args_set_iter_1 _))
 unfold Builtin.«frozenset.__iter__»
 refine u0 (u1a (a:=a) rfl ?_)
 unfold Builtin.Frozenset.sizeOf setEntries
 refine u0 (u0 (u0 (yw hm hS (u5 (u5 ?_)))))
 unfold setDrawn
 refine u0 (u0 (yw hm hS ?_))
 dsimp only
 unfold setsByText
 refine u0 (u0 (u0t (u5 ?_)))
 refine u5 ?_
 dsimp only
 split
 .rename_i hd
  exact absurd hd (zan _ _)
 .refine u0 (u5 ?_)
  unfold setEpoch
  refine u0 (u0 (yw hm hS (u5 ?_)))
  dsimp only
  rw[yi]
  refine u0 (i9 (u5 ⟨_,rfl,"set_iterator",_,⟨_,t6 _ rfl,rfl⟩,wG.lookup,?_⟩))
  exact h
def yK (w:World) (a:Addr) (m ep:Nat) (tk:Nat->Tok):Array (Int × Value):=if w.params.followText "set-order"=true then pickOrder (w.params.setOrder a ep) (vA (ksOf m) tk)else vA (ksOf m) tk
def slotAt (w:World) (m i:Nat):Nat:=if w.params.followText "set-order"=true then 0 else if i=0 then 0 else (ksOf m).getD (i - 1) 0+1
theorem Y4 {a:Addr}{m ep i:Nat}{tk:Nat->Tok}{e:Int × Value}{Q:Option (Value × Nat)->Shared->Prop}(hm:m < 256)(hS:y9 s.heap a (ledOf w) m ep tk)(hi:i < (ksOf m).length)(he:(yK w a m ep tk)[i]?=some e)
 (h:Q (some (e.2,slotAt w m (i+1))) s):wpAny (model prog w) A (setNext a (slotAt w m i) i ep) Q E s:=by
 unfold setNext
 refine u0 (yw hm hS ?_)
 dsimp only
 unfold setsByText
 refine u0 (u0 (u0t (u5 ?_)))
 dsimp only
 unfold yK at he
 unfold slotAt at h ⊢
 by_cases bt:w.params.followText "set-order"=true
 .have bt':(model prog w).w.params.followText "set-order"=true:=bt
  rw[t7 bt]at he h ⊢
  rw[t7 bt']
  rw[j7 (by simp)]
  unfold setWalk
  refine u0 (u0 (yw hm hS ?_))
  dsimp only
  unfold setsByText
  refine u0 (u0 (u0t (u5 ?_)))
  dsimp only
  rw[t7 bt']
  refine u0 (u0t (u5 ?_))
  refine u5 ?_
  show Q (((pickOrder (w.params.setOrder a ep) (vA (ksOf m) tk))[i]?).map λe=>(e.2,0)) s
  rw[he]
  exact h
 .have bt':¬ (model prog w).w.params.followText "set-order"=true:=bt
  rw[j7 bt]at he h ⊢
  rw[j7 bt']
  have hb:=XQ ⟨m,hm⟩ ⟨i,r8 hi (b9 (len_small ⟨m,hm⟩) (by decide))⟩ (u0R hi)
  simp only at hb
  have hl:ledOf w=true:=by unfold ledOf;rw[u2J.mpr bt];rfl
  rw[hl]
  split
  .rename_i hd
   exact absurd hd (YB _)
  .refine u0 (u1a (a:=()) rfl ?_)
   refine u5 ?_
   show Q (match (vA (ksOf m) tk)[SetTable.below (ksOf m).toArray (if i=0 then 0 else (ksOf m).getD (i - 1) 0+1)]?,(ksOf m).toArray[SetTable.below (ksOf m).toArray (if i=0 then 0 else (ksOf m).getD (i - 1) 0+1)]? with | some (_,x),some j=>some (x,j+1) | _,_=>none) s
   rw[hb,he,show(ksOf m).toArray[i]?=some ((ksOf m).getD i 0) by simp[hi]]
   rw[j7 (Nat.succ_ne_zero i)]at h
   exact h
end
theorem WZ {α:Type}:∀ (l:List α) (i:Nat) (h:i < l.length),(l[i]::l.eraseIdx i).Perm l
 | x::l,0,_=>u1k _
 | x::l,i+1,h=>(List.Perm.swap x (l[i]'(Nat.lt_of_succ_lt_succ h)) (l.eraseIdx i)).trans (List.Perm.cons x (WZ l i (Nat.lt_of_succ_lt_succ h)))
theorem ziA {α:Type}(next:Nat->Nat):∀ (fuel k:Nat) (left:List α) (out:Array α),left.length=fuel->(pickOrder.go next fuel k left out).toList.Perm (out.toList++left):=by
 intro fuel
 induction fuel with
 | zero =>
  intro k left out h
  rw[u1f.mp h,u1L]
  exact u1k _
 | succ f ih =>
  intro k left out h
  have hlt:next k % left.length < left.length:=Nat.mod_lt _ (by rw[h];exact Nat.succ_pos f)
  unfold pickOrder.go
  rw[j6 hlt]
  dsimp only
  refine(ih (k+1) _ _ (by rw[List.length_eraseIdx_of_lt hlt,h];rfl)).trans ?_
  rw[Array.toList_push,u3G]
  exact List.Perm.append_left _ (WZ _ _ hlt)
theorem VX {α:Type}(next:Nat->Nat)(xs:Array α):(pickOrder next xs).toList.Perm xs.toList:=by
 unfold pickOrder
 exact ziA next xs.size 0 xs.toList #[] (by rw[t9])
theorem YL (w:World)(a:Addr)(m ep:Nat)(tk:Nat->Tok):(yK w a m ep tk).toList.Perm (vA (ksOf m) tk).toList:=by
 unfold yK
 split
 .exact VX _ _
 .exact u1k _
theorem wV (w:World)(a:Addr)(m ep:Nat)(tk:Nat->Tok):(yK w a m ep tk).size=(ksOf m).length:=by
 rw[<-t9,(YL w a m ep tk).length_eq,t9,yi]
section
variable {prog:Program}{w:World}{A:Around}{E:Value->Shared->Prop}{s:Shared}
theorem wA {a:Addr}{m ep:Nat}{tk:Nat->Tok}{Q:Option (Value × Nat)->Shared->Prop}(hm:m < 256)(hS:y9 s.heap a (ledOf w) m ep tk)(h:Q none s):wpAny (model prog w) A (setNext a (slotAt w m (ksOf m).length) (ksOf m).length ep) Q E s:=by
 have he:(yK w a m ep tk)[(ksOf m).length]?=none:=u2H (by rw[wV];exact t5 _)
 unfold setNext
 refine u0 (yw hm hS ?_)
 dsimp only
 unfold setsByText
 refine u0 (u0 (u0t (u5 ?_)))
 dsimp only
 unfold yK at he
 unfold slotAt
 by_cases bt:w.params.followText "set-order"=true
 .have bt':(model prog w).w.params.followText "set-order"=true:=bt
  rw[t7 bt]at he ⊢
  rw[t7 bt',j7 (by simp)]
  unfold setWalk
  refine u0 (u0 (yw hm hS ?_))
  dsimp only
  unfold setsByText
  refine u0 (u0 (u0t (u5 ?_)))
  dsimp only
  rw[t7 bt']
  refine u0 (u0t (u5 ?_))
  refine u5 ?_
  show Q (((pickOrder (w.params.setOrder a ep) (vA (ksOf m) tk))[(ksOf m).length]?).map λe=>(e.2,0)) s
  rw[he]
  exact h
 .have bt':¬ (model prog w).w.params.followText "set-order"=true:=bt
  rw[j7 bt]at he ⊢
  rw[j7 bt']
  have hb:=XQ ⟨m,hm⟩ ⟨(ksOf m).length,u0d (len_small ⟨m,hm⟩) (by decide)⟩ (t5 _)
  simp only at hb
  have hl:ledOf w=true:=by unfold ledOf;rw[u2J.mpr bt];rfl
  rw[hl]
  split
  .rename_i hd
   exact absurd hd (YB _)
  .refine u0 (u1a (a:=()) rfl ?_)
   refine u5 ?_
   show Q (match (vA (ksOf m) tk)[SetTable.below (ksOf m).toArray (if (ksOf m).length=0 then 0 else (ksOf m).getD ((ksOf m).length - 1) 0+1)]?,(ksOf m).toArray[SetTable.below (ksOf m).toArray (if (ksOf m).length=0 then 0 else (ksOf m).getD ((ksOf m).length - 1) 0+1)]? with | some (_,x),some j=>some (x,j+1) | _,_=>none) s
   rw[hb,he]
   exact h
theorem X6 {I a:Addr}{slot i n ep:Nat}{Q:Value->Shared->Prop}(he:wI s.heap I a slot i n ep)(h:Q (.ref I) s):wpAny (model prog w) A (pyIter (.ref I)) Q E s:=by
 have hT:s.TypeIs (.ref I) "set_iterator":=⟨_,he,rfl⟩
 refine u2R hT zfh (u0a zfh hT Vg ?_ (V2 _))
 show wpAny _ _ (ret (.ref I)) _ _ s
 exact u5 ⟨_,rfl,"set_iterator",_,hT,wG.lookup,h⟩
theorem Zb {I a:Addr}{m ep i:Nat}{tk:Nat->Tok}{e:Int × Value}{Q:Option Value->Shared->Prop}(hm:m < 256)(hI:wI s.heap I a (slotAt w m i) i (ksOf m).length ep)(hS:y9 s.heap a (ledOf w) m ep tk)(hi:i < (ksOf m).length)(he:(yK w a m ep tk)[i]?=some e)
 (hQ:∀ h',wI h' I a (slotAt w m (i+1)) (i+1) (ksOf m).length ep->Heap.SameBut I s.heap h'->Q (some e.2) { s with heap:=h' }):wpAny (model prog w) A (pyNext (.ref I)) Q E s:=by
 have hT:s.TypeIs (.ref I) "set_iterator":=⟨_,hI,rfl⟩
 unfold pyNext
 refine u0 (u1r (u0b (name:=Str.ofString "__next__") hT wG (u0a wG hT wo ?_ (wZ _))))
 unfold Builtin.«set_iterator.__next__»
 refine u0 (u1a (a:=(Value.ref I,[])) rfl ?_)
 try dsimp only
 refine u0 (u2n hI rfl ?_)
 show wpAny _ _ (setEntries a>>=_) _ _ s
 unfold setEntries
 refine u0 (u0 (yw hm hS (u5 ?_)))
 dsimp only
 rw[yi,j7 (by simp)]
 show wpAny _ _ (setNext a ((slotAt w m i:Int)).toNat ((i:Int)).toNat ((ep:Int)).toNat>>=_) _ _ s
 rw[i5,i5,i5]
 refine u0 (Y4 hm hS hi he ?_)
 dsimp only
 refine u0 (u0G hI (by simp) λh1 he1 hs1=>?_)
 refine u0 (u0G he1 (by simp) λh2 he2 hs2=>?_)
 exact u5 ⟨_,rfl,u5 (hQ h2 he2 (hs1.trans hs2))⟩
theorem ZT {I a:Addr}{m ep:Nat}{tk:Nat->Tok}{Q:Option Value->Shared->Prop}(hh:A.handled=none)(hm:m < 256)(hI:wI s.heap I a (slotAt w m (ksOf m).length) (ksOf m).length (ksOf m).length ep)(hS:y9 s.heap a (ledOf w) m ep tk)
 (hQ:∀ h',Heap.ExtBut I s.heap h'->Q none { s with heap:=h' }):wpAny (model prog w) A (pyNext (.ref I)) Q E s:=by
 have hT:s.TypeIs (.ref I) "set_iterator":=⟨_,hI,rfl⟩
 unfold pyNext
 refine u0 (u1r (u0b (name:=Str.ofString "__next__") hT wG (u0a wG hT wo ?_ (wZ _))))
 unfold Builtin.«set_iterator.__next__»
 refine u0 (u1a (a:=(Value.ref I,[])) rfl ?_)
 try dsimp only
 refine u0 (u2n hI rfl ?_)
 show wpAny _ _ (setEntries a>>=_) _ _ s
 unfold setEntries
 refine u0 (u0 (yw hm hS (u5 ?_)))
 dsimp only
 rw[yi,j7 (by simp)]
 show wpAny _ _ (setNext a ((slotAt w m (ksOf m).length:Int)).toNat (((ksOf m).length:Int)).toNat ((ep:Int)).toNat>>=_) _ _ s
 rw[i5,i5,i5]
 refine u0 (wA hm hS ?_)
 dsimp only
 refine u0 (u0G hI (by simp) λh1 he1 hs1=>?_)
 refine u0 ?_
 simp only[newExc,newTuple]
 refine u0 (i9 ?_ (by size_fits))
 refine u0 (m:=firstArgMember _ _) (u1a (a:=Value.none) (by first | rfl | (simp only[firstArgMember];rfl)) ?_)
 refine i9 ?_ (by size_fits)
 simp only[raiseNew]
 refine u0 (u3T ?_)
 first | rw[show A.in1.handled=none from hh] | rw[hh]
 refine u0 (u5 (wpAny_throw ?_))
 refine u0 (u1B (T:="StopIteration") (b:=true) ⟨_,t6 _ rfl,rfl⟩ u2U ?_)
 exact u5 (hQ _ ((hs1.extBut.push _).push _))
theorem y9.at {h h':Heap}{a:Addr}{led:Bool}{m ep:Nat}{tk:Nat->Tok}(x:y9 h a led m ep tk)(k:∀ o,h.get? a=some o->h'.get? a=some o):y9 h' a led m ep tk:=k _ x
theorem Yz (hh:A.handled=none)(I a:Addr)(hne:a≠I){m ep:Nat}{tk:Nat->Tok}(hm:m < 256) :
 Walks prog w A I [I,a] [I] (ksOf m).length (λi v=>∃ e,(yK w a m ep tk)[i]?=some e/\v=e.2) (λi h=>i<=(ksOf m).length/\wI h I a (slotAt w m i) i (ksOf m).length ep/\y9 h a (ledOf w) m ep tk) where
 sub:=λb hb=>by simp at hb;simp[hb]
 frame:=λ_ _ _ x hk=>by
  obtain⟨h1,h2,h3⟩:=x
  exact⟨h1,hk I (by simp) _ h2,h3.at λo e=>hk a (by simp) o e⟩
 item:=λi s Q E hi x hQ=>by
  obtain⟨h1,h2,h3⟩:=x
  have hx:(yK w a m ep tk)[i]?=some ((yK w a m ep tk)[i]'(by rw[wV];exact hi)):=u0p _
  refine Zb hm h2 h3 hi hx λh' he' hs'=>?_
  exact hQ _ h' s.toks ⟨_,hx,rfl⟩ ⟨hi,he',h3.at λo e=>(hs'.2 a hne).trans e⟩ λb o hb eo=>hs'.extBut b o (λh=>hb (by simp[h])) eo
 done:=λs Q E x hQ=>by
  obtain⟨h1,h2,h3⟩:=x
  exact ZT hh hm h2 h3 λh' he'=>hQ h' s.toks λb o hb eo=>he' b o (λh=>hb (by simp[h])) eo
 self:=λ_ _ _ _ x hQ=>X6 x.2.1 hQ
theorem Yi {a:Addr}{m ep:Nat}{led:Bool}{tk:Nat->Tok}{Q:Bool->Shared->Prop}(hS:y9 s.heap a led m ep tk)(hQ:Q false s):wpAny (model prog w) A (Builtin.List.listLengthHint (.ref a)) Q E s:=by
 have hT:s.TypeIs (.ref a) "set":=⟨_,hS,rfl⟩
 unfold Builtin.List.listLengthHint
 refine u0 (u3o hT F.slot_set_len.lookup ?_)
 try dsimp only
 have hsp:splitId "set.__len__"=some ("set","__len__"):=by decide +kernel
 rw[hsp]
 try dsimp only
 refine u0 (u1B (T:="set") (b:=true) hT sub_set_self ?_)
 rw[j7 (by decide)]
 show wpAny _ _ (if true=true then _ else _) _ _ _
 rw[t7 rfl]
 refine u0 (u1U hT ?_)
 dsimp only
 exact u5 hQ
theorem wE {a:Addr}{m ep:Nat}{tk:Nat->Tok}{Q:List Value->Shared->Prop}(hh:A.handled=none)(hm:m < 256)(hS:y9 s.heap a (ledOf w) m ep tk)
 (hQ:∀ s',(∀ b o,s.heap.get? b=some o->s'.heap.get? b=some o)->s'.gens=s.gens->s'.drawn=s.drawn->s'.os=s.os->Q ((yK w a m ep tk).toList.map (·.2)) s'):wpAny (model prog w) A (collect (.ref a)) Q E s:=by
 have hlt:a < s.heap.objs.size:=t4 hS
 have hSa:s.heap.objs.size≠a:=u1S hlt
 have h8:(ksOf m).length<=sizeLine:=b9 (len_small ⟨m,hm⟩) (by rw[u1i];decide)
 unfold collect
 refine u0 (u2o (u0O u2V ?_))
 rw[u0v u2W _]
 show wpAny _ A.in1 (newList []>>=λl=>again (.builtin "list.__iadd__" ⟨[l,.ref a],[]⟩)) _ _ s
 refine u0 (i9 ?_)
 refine u5 ⟨u1D u1J _,u0O u3E ?_⟩
 rw[u0v u1J _]
 have hS1:y9 (s.heap.push { cls:=.type "list",data:=.seq ([]:List Value).toArray }) a (ledOf w) m ep tk:=u3 _ hS
 have hL1:(s.heap.push { cls:=.type "list",data:=.seq ([]:List Value).toArray }).get? s.heap.objs.size=some { cls:=.type "list",data:=.seq ([]:List Value).toArray }:=t6 _ rfl
 generalize hh1:s.heap.push { cls:=.type "list",data:=.seq ([]:List Value).toArray }=h1 at hS1 hL1 ⊢
 have k1:∀ b o,s.heap.get? b=some o->h1.get? b=some o:=λb o e=>by rw[<-hh1];exact u3 _ e
 have hz1:h1.objs.size=s.heap.objs.size+1:=by rw[<-hh1];exact u0w ..
 show wpAny _ A.in1 (Builtin.List.listExtendWith (.ref s.heap.objs.size) (.ref a) (.ref s.heap.objs.size)) _ _ _
 unfold Builtin.List.listExtendWith
 refine u0 (u1U (T:="set") ⟨_,hS1,rfl⟩ ?_)
 have g1:Builtin.List.listSameRef (.ref s.heap.objs.size) (.ref a)=false:=by simp[Builtin.List.listSameRef,hSa]
 have g2:(Value.type "set" == Value.type "list")=false:=by decide
 have g3:(Value.type "set" == Value.type "tuple")=false:=by decide
 simp only[g1,g2,g3,u3Q,u1e,u29]
 refine u0 (Yw hm hS1 ?_)
 have hI2:wI (h1.push { cls:=.type "set_iterator",data:=.fields #[rawInt ((0:Nat):Int),rawInt ((0:Nat):Int),.ref a,rawInt ((ksOf m).length:Int),rawInt (ep:Int)] }) h1.objs.size a 0 0 (ksOf m).length ep:=t6 _ rfl
 have hS2:y9 (h1.push { cls:=.type "set_iterator",data:=.fields #[rawInt ((0:Nat):Int),rawInt ((0:Nat):Int),.ref a,rawInt ((ksOf m).length:Int),rawInt (ep:Int)] }) a (ledOf w) m ep tk:=u3 _ hS1
 have hL2:=u3 { cls:=.type "set_iterator",data:=.fields #[rawInt ((0:Nat):Int),rawInt ((0:Nat):Int),.ref a,rawInt ((ksOf m).length:Int),rawInt (ep:Int)] } hL1
 generalize hh2:h1.push { cls:=.type "set_iterator",data:=.fields #[rawInt ((0:Nat):Int),rawInt ((0:Nat):Int),.ref a,rawInt ((ksOf m).length:Int),rawInt (ep:Int)] }=h2 at hI2 hS2 hL2 ⊢
 have k2:∀ b o,h1.get? b=some o->h2.get? b=some o:=λb o e=>by rw[<-hh2];exact u3 _ e
 refine u0 (u0n (Yi hS2 ?_))
 show wpAny _ A.in1 (if true=true then _ else _) _ _ _
 rw[t7 rfl]
 refine u0 (u1P (u0 ?_))
 show wpAny _ A.in1 (updateSeq s.heap.objs.size (·.push .none)>>=λ_=>updateSeq s.heap.objs.size (·.pop)) _ _ _
 refine u0 (u2c hL2 rfl ?_)
 have hL3:=b6 (Obj.mapSeq (·.push Value.none)) hL2 rfl
 refine u2c (hz:=by seq_fits) hL3 rfl ?_
 have hL4:=b6 (Obj.mapSeq (·.pop)) hL3 rfl
 have oth:∀ b o,b≠s.heap.objs.size->h2.get? b=some o->((h2.update s.heap.objs.size (Obj.mapSeq (·.push Value.none))).update s.heap.objs.size (Obj.mapSeq (·.pop))).get? b=some o :=
  λb o hb e=>(p8 _ _ (u0M hb)).trans ((p8 _ _ (u0M hb)).trans e)
 have hIne:h1.objs.size≠s.heap.objs.size:=by rw[hz1];exact u31 _
 have hIa:a≠h1.objs.size:=by rw[hz1];exact j9 (u01 hlt)
 have W:=Yz (prog:=prog) (w:=w) (A:=A.in1) (ep:=ep) (tk:=tk) hh h1.objs.size a hIa hm
 have hsl:slotAt w m 0=0:=by unfold slotAt;split <;> rfl
 refine u5 ⟨u1D u3e _,u24 W.toS h8 _ (λhmem=>?_) _ (ksOf m).length 0 _ #[] _ rfl (u0D _) ⟨u0D _,by rw[hsl];exact oth _ _ hIne hI2,hS2.at λo e=>oth _ _ (u0M hSa) e⟩ hL4 (ItemsOf.nil _) λs' acc' c' hmv hS' hacc=>?_⟩
 .rcases j5.mp hmem with e | e
  .exact hIne e.symm
  .exact hSa (j8.mp e)
 .show wpAny _ A (load s.heap.objs.size>>=_) _ _ s'
  refine u0 (wpAny_load hS' ?_)
  refine u5 ?_
  have e1:acc'.toList=(yK w a m ep tk).toList.map (·.2):=by
   apply u1t
   intro i
   by_cases hi:i < (ksOf m).length
   .have q1:acc'[i]?=some (acc'[i]'(by rw[hacc.1];exact hi)):=u0p _
    obtain⟨e,q2,q3⟩:=hacc.2 i _ q1
    rw[j4,u0V,u0V,q1,q2,q3]
    rfl
   .rw[u0g (by rw[t9,hacc.1];exact u0s hi),u0g (by rw[u6,t9,wV];exact u0s hi)]
  rw[e1]
  refine hQ s' (λb o e=>hmv.heap b o (λhmem=>?_) (oth b o (j9 (t4 e)) (k2 b o (k1 b o e)))) hmv.gens hmv.drawn hmv.os
  rcases j5.mp hmem with z | z
  .exact j9 (t4 e) z
  .have:=t4 e
   rw[j8.mp z,hz1]at this
   exact absurd (u2M this) (u0J _)
end
end OwnSet
namespace OwnSet
open PySem PyProof.Rows
theorem Zw:∀ (l:List (Int × Value)),(∀ e∈l,∃ t,e.2=.int e.1 t)->PyProof.Rows.IntsAre (l.map (·.2)) (l.map (·.1))
 | [],_=>.nil
 | e::l,h=>by
  obtain⟨t,et⟩:=h e o0
  rw[i8,i8,et]
  exact .cons _ t (Zw l λx hx=>h x (d9 _ hx))
theorem zen (m:Nat):((ksOf m).map λi:Nat=>(i:Int)).Pairwise (·<=·):=by
 rw[u0Q]
 exact((List.pairwise_lt_range (n:=8)).filter _).imp λh=>Int.ofNat_le.mpr (u0R h)
theorem zgf (w:World)(a:Addr)(m ep:Nat)(tk:Nat->Tok):PyProof.Rows.IntsAre ((yK w a m ep tk).toList.map (·.2)) ((yK w a m ep tk).toList.map (·.1))/\((yK w a m ep tk).toList.map (·.1)).Perm ((ksOf m).map λi:Nat=>(i:Int)):=by
 constructor
 .refine Zw _ λe he=>?_
  have:=(YL w a m ep tk).mem_iff.mp he
  unfold vA esL at this
  obtain⟨k,_,rfl⟩:=b0.mp this
  exact⟨_,rfl⟩
 .have:=(YL w a m ep tk).map (·.1)
  unfold vA esL at this
  rw[e9]at this
  exact this
section
variable {prog:Program}{w:World}{A:Around}{E:Value->Shared->Prop}{s:Shared}
theorem own_sorted_set {a:Addr}{m ep:Nat}{tk:Nat->Tok}{Q:Value->Shared->Prop}(hh:A.handled=none)(hm:m < 256)(hS:y9 s.heap a (ledOf w) m ep tk)
 (h:∀ (h1 h':Heap) (tk':Nat) (out:Array Value) (c:Nat),IntsAre out.toList ((ksOf m).map λi:Nat=>(i:Int))->(∀ b o,s.heap.get? b=some o->h1.get? b=some o)->(∀ b o,h1.get? b=some o->h'.get? b=some o) ->
  h'.get? h1.objs.size=some { cls:=.type "list",dict:=none,data:=.seq out c,slots:=#[] }->Q (.ref h1.objs.size) { s with heap:=h',toks:=tk' }) :
 wpAny (model prog w) A (call (.builtin "sorted") [.ref a]) Q E s:=by
 refine u1E u2w u2l u2k (u2j _) ?_
 unfold Builtin.«sorted»
 refine u0 (m:=checkCount "sorted" 1 1 _) (u5 ?_)
 refine u0 (wE hh hm hS λs' k g1 g2 g3=>?_)
 obtain⟨h1,g',d',tk1,os'⟩:=s'
 have e1:g'=s.gens:=g1
 have e2:d'=s.drawn:=g2
 have e3:os'=s.os:=g3
 subst e1 e2 e3
 obtain⟨hI,hp⟩:=zgf w a m ep tk
 have h64:((yK w a m ep tk).toList.map (·.2)).length < 64:=by
  rw[u6,t9,wV]
  exact u0d (len_small ⟨m,hm⟩) (by decide)
 generalize (yK w a m ep tk).toList.map (·.2)=vs at *
 generalize (yK w a m ep tk).toList.map (·.1)=ns at *
 refine u0 (u3a ?_)
 have hoL:(h1.push (PyProof.Rows.seqObj "list" vs.toArray 0)).get? h1.objs.size=some (PyProof.Rows.seqObj "list" vs.toArray 0):=t6 _ rfl
 refine u0 (u0n (u0a u2b ⟨_,hoL,rfl⟩ u14 (PyProof.Rows.list_sort_tree hoL hI h64 λout ns' a1 a2 a3=>⟨_,rfl,?_⟩) (u2a _)))
 have es:ns'=(ksOf m).map λi:Nat=>(i:Int):=W.ksm_same (a2.trans hp) a3 (zen m)
 subst es
 have hlt:h1.objs.size < (h1.push (PyProof.Rows.seqObj "list" vs.toArray 0)).objs.size:=t4 hoL
 have hn:∀ b o,b≠h1.objs.size->(h1.push (PyProof.Rows.seqObj "list" vs.toArray 0)).get? b=some o->(PyProof.Rows.sortedHeap (h1.push (PyProof.Rows.seqObj "list" vs.toArray 0)) h1.objs.size vs out).get? b=some o:=λb o hb e=>by
  unfold PyProof.Rows.sortedHeap
  exact(p8 _ _ (u0M hb)).trans (u3 _ (u3 _ ((p8 _ _ (u0M hb)).trans e)))
 have hL:∃ c,(PyProof.Rows.sortedHeap (h1.push (PyProof.Rows.seqObj "list" vs.toArray 0)) h1.objs.size vs out).get? h1.objs.size=some { cls:=.type "list",dict:=none,data:=.seq out c,slots:=#[] }:=by
  unfold PyProof.Rows.sortedHeap
  have u1:=b6 (Obj.mapSeq λ_=>(#[]:Array Value)) hoL rfl
  have u2:=u3 (PyProof.Rows.seqObj "list" #[] 0) (u3 (PyProof.Rows.seqObj "tuple" vs.toArray 0) u1)
  exact⟨_,b6 (Obj.mapSeq λ_=>out) u2 rfl⟩
 obtain⟨c,hL⟩:=hL
 exact u5 ⟨_,rfl,h h1 _ _ out c a1 k (λb o e=>hn b o (j9 (t4 e)) (u3 _ e)) hL⟩
end
end OwnSet
namespace L2
open PySem PySem.Spec PyProof.Rows
def ziI (ks:List Nat):List Nat:=OwnSet.ksOf (OwnSet.bitsTo (λi=>ks.getD i 0) ks.length)
theorem zfN (val:Nat->Nat)(k:Nat):∀ n:Nat,(OwnSet.bitsTo val n).testBit k=true↔∃ i,i < n/\val i=k
 | 0=>by
  show(0:Nat).testBit k=true↔_
  rw[u2s]
  exact⟨(λh=>by cases h),λh=>by obtain⟨i,hi,_⟩:=h;exact absurd hi (u4i i)⟩
 | n+1=>by
  show(OwnSet.bitsTo val n ||| 1 <<< val n).testBit k=true↔_
  rw[u3C,u1I,zfN val k n,u2N,u2u,d5]
  constructor
  .rintro(⟨i,hi,e⟩ | e)
   .exact⟨i,u01 hi,e⟩
   .exact⟨n,u2q n,e⟩
  .rintro⟨i,hi,e⟩
   rcases Nat.lt_succ_iff_lt_or_eq.mp hi with h | h
   .exact .inl ⟨i,h,e⟩
   .subst h;exact .inr e
theorem zcp {ks:List Nat}(h8:∀ k∈ks,k < 8){k:Nat}:k∈ziI ks↔k∈ks:=by
 unfold ziI OwnSet.ksOf
 rw[u0c,u1s,zfN]
 constructor
 .rintro⟨_,i,hi,e⟩
  rw[show ks.getD i 0=ks[i] by simp[hi]]at e
  rw[<-e]
  exact u0x hi
 .intro hk
  obtain⟨i,hi,e⟩:=u22.mp hk
  exact⟨h8 k hk,i,hi,by rw[show ks.getD i 0=ks[i] by simp[hi]];exact e⟩
def tSS (K:W.Frag)(ta:TE):TE:=fun σ H Q=>ta σ H λx H1=>∃ a ks,x=.ref a/\SqL K H1 a ((ks.map λk:Nat=>(k:Int)).map V.int)/\(∀ k∈ks,k < 8)/\∀ l,H1 l=none->Q (.ref l) (upd H1 l (.lst (((ziI ks).map λk:Nat=>(k:Int)).map V.int)))
theorem zdw {X:Cx} {a:Expr} {ta:TE} {p1 p2 pos1 pos2:Pos} (hc:X.calm=true) (hg1:Gl X "sorted") (hm1:X.mg "sorted"=none) (hb1:bootBuiltins "sorted"=some (.builtin "sorted")) (hg2:Gl X "set") (hm2:X.mg "set"=none) (hb2:bootBuiltins "set"=some (.type "set")) (ha:PE X a ta)
 (hs:starEach [a] X.env=[(false,eval a X.env)]:=by rfl) (hs2:starEach [.Call (.Name "set" p2) [a] [] pos2] X.env=[(false,eval (.Call (.Name "set" p2) [a] [] pos2) X.env)]:=by rfl):PE X (.Call (.Name "sorted" p1) [.Call (.Name "set" p2) [a] [] pos2] [] pos1) (tSS X.K ta):=by
 intro pins s σ H Q I h
 refine Call_ (Yn I hg1 hm1 hb1 (u1T (Q:=EP X pins σ Q) ?_ hs2 rfl))
 rw[hs2]
 show wpAny _ _ (spliced ((false,eval (.Call (.Name "set" p2) [a] [] pos2) X.env)::[])) _ _ _
 refine u10 ?_
 refine Call_ (Yn I hg2 hm2 hb2 (u0E ?_ hs rfl))
 rw[hs]
 show wpAny _ _ (spliced ((false,eval a X.env)::[])) _ _ _
 refine u10 (thn (ha pins s σ H _ I h) λv s1 hh9=>?_)
 obtain⟨x,H1,I1,r1,q1⟩:=hh9
 obtain⟨t,ks,rfl,hx,hk,q⟩:=q1
 cases r1
 obtain⟨its,rv,pt,hz⟩:=I1.list hx
 have hlen:its.toArray.size=ks.length:=by rw[q5,<- rv.length,u6,u6]
 have h8:∀ i,ks.getD i 0 < 8:=λi=>by
  by_cases hi:i < ks.length
  .rw[show ks.getD i 0=ks[i] by simp[hi]];exact hk _ (u0x hi)
  .rw[show ks.getD i 0=0 by simp[u0s hi]];decide
 have hval:∀ (i:Nat) (v:Value),its.toArray[i]?=some v->∃ t,v=.int ((ks.getD i 0:Nat):Int) t:=λi v hv=>by
  have hv':its[i]?=some v:=by simpa using hv
  have hi:i < ks.length:=by have:=(u9.mp hv').1;rw[q5]at hlen;omega
  obtain⟨u,hu,ru⟩:=rv.get (i:=i) (x:=V.int ((ks.getD i 0:Nat):Int)) (by simp[hi])
  rw[hv']at hu
  cases hu
  obtain⟨t,e⟩:=ru
  exact⟨t,e⟩
 refine u2d ?_
 refine OwnSet.own_call_set (I.ok.hd hc) pt.isList h8 hval λh2 tk2 hS2 k2=>?_
 refine u2d ?_
 obtain⟨ep,tk,hS2⟩:=hS2
 refine OwnSet.own_sorted_set (I.ok.hd hc) (OwnSet.bitsTo_lt h8 _) hS2 λh3 h4 tk4 out c a1 k3 k4 hL=>?_
 have I2:Inv X pins σ H1 { s1 with heap:=h3,toks:=tk4 }:=I1.kept λb u e=>k3 b u (k2 b u e)
 rw[hlen]at a1
 have rl:=XZ a1
 refine⟨.ref h3.objs.size,_,I2.laid (t':=tk4) (λb o e=>k4 b o e) (t5 _) (show yt X.prog X.w _ h4 _ (.lst (((ziI ks).map λk:Nat=>(k:Int)).map V.int)) from⟨?_,out.toList,c,rl,by simpa using hL⟩),rfl,q _ (I2.hok.fresh (t5 _))⟩
 rw[u6,u6]
 exact b9 (OwnSet.len_small ⟨_,OwnSet.bitsTo_lt h8 ks.length⟩) (by rw[u1i];decide)
end L2
namespace Dl
open PySem L2 PySem.Spec PyProof.Rows
variable [KK]{X:Cx}{e:Expr}
def Y7:List D->Option (List Nat)
 | []=>some []
 | .int i::ds=>if 0<=i/\i < 8 then (Y7 ds).map (i.toNat::·)else none
 | _=>none
omit [KK] in
theorem zcP:∀ {ds:List D} {ks:List Nat},Y7 ds=some ks->ds=(ks.map λk:Nat=>(k:Int)).map D.int/\∀ k∈ks,k < 8:=by
 intro ds
 induction ds with
 | nil=>intro ks h;cases h;exact⟨rfl,λk hk=>by cases hk⟩
 | cons d ds ih =>
  intro ks h
  cases d with
  | int i =>
   unfold Y7 at h
   by_cases c:0<=i/\i < 8
   .rw[t7 c]at h
    obtain⟨ls,e1,rfl⟩:=u7.mp h
    obtain⟨e2,e3⟩:=ih e1
    refine⟨?_,λk hk=>?_⟩
    .rw[i8,i8,<- e2,Int.toNat_of_nonneg c.1]
    .rcases j5.mp hk with rfl | hk
     .omega
     .exact e3 k hk
   .rw[j7 c]at h;cases h
  | _=>cases h
omit [KK] in
theorem zba {ks:List Nat}(h:∀ k∈ks,k < 8):Y7 ((ks.map λk:Nat=>(k:Int)).map D.int)=some ks:=by
 induction ks with
 | nil=>rfl
 | cons k ks ih =>
  show(if 0<=(k:Int)/\(k:Int) < 8 then (Y7 ((ks.map λk:Nat=>(k:Int)).map D.int)).map ((k:Int).toNat::·)else none)=_
  rw[t7 ⟨u11 k,by have:=h k o0;omega⟩,ih λx hx=>h x (d9 _ hx),i5]
  rfl
def ssD:D->Option (List D)
 | .lst ds=>(Y7 ds).map λks=>((ziI ks).map λk:Nat=>(k:Int)).map D.int
 | _=>none
def fSS (f:Ev->Option D):Ev->Option (List D):=fun ρ=>(f ρ).bind ssD
theorem zds {p1 p2 pos1 pos2:Pos} {f:Ev->Option D} (hc:X.calm=true) (hg1:Gl X "sorted") (hm1:X.mg "sorted"=none) (hg2:Gl X "set") (hm2:X.mg "set"=none) (ha:ED X e f)
 (hs:starEach [e] X.env=[(false,eval e X.env)]:=by rfl) (hs2:starEach [.Call (.Name "set" p2) [e] [] pos2] X.env=[(false,eval (.Call (.Name "set" p2) [e] [] pos2) X.env)]:=by rfl) :
 FL X (.Call (.Name "sorted" p1) [.Call (.Name "set" p2) [e] [] pos2] [] pos1) (fSS f):=by
 obtain⟨t,pa,ra⟩:=ha
 refine⟨_,zdw hc hg1 hm1 Zv hg2 hm2 zhZ pa hs hs2,fun σ ρ F H z Q s va e q=>?_⟩
 obtain⟨d,e1,e2⟩:=u4.mp e
 refine ra σ ρ F H d _ s va e1 λF1 H1 v g1 a1=>?_
 unfold ssD at e2
 split at e2 <;> try cases e2
 rename_i ds
 obtain⟨ks,e3,rfl⟩:=u7.mp e2
 obtain⟨e4,e5⟩:=zcP e3
 subst e4
 obtain⟨p,xs,rfl,hx,bl⟩:=a1.lst_inv
 have ex:=bl.of_ints
 subst ex
 exact⟨p,ks,rfl,SqL.of (g1.fh _ _ hx),e5,λl hl=>q _ _ _ _ (g1.trans (Gr.hide g1.fh hl _)) (VD g1 hl) (g1.fh.free hl) zn (.ints _)⟩
end Dl
namespace L2
open PySem PySem.Spec PyProof.Rows
open Sem (wp)
section
variable {prog:Program}{w:World}{A:Around}{E:Value->Shared->Prop}{h:Heap}{g:Array GenState}{d:Drawn}{t:Nat}{os:OsState}
 {nm q:Str} {C N fI:Addr} {bs bm:List Value} {hdct:Bool} {sn:List Str} {sub:List Value} {ab:Bool} {col:Option Bool} {dd:Option Addr} {k0 k1 k2 k3 k5:Option Value} {mN:Str->Option Value} {us:List Value} {oI:Obj}
end
end L2
namespace L2
open PySem PySem.Spec PyProof.Rows
section
variable {prog:Program}{w:World}{A:Around}{E:Value->Shared->Prop}{s:Shared}{env:Env}
 {nm q:Str} {C N fI:Addr} {bs bm:List Value} {hdct:Bool} {sn:List Str} {sub:List Value} {ab:Bool} {col:Option Bool} {dd:Option Addr} {k0 k1 k2 k3 k5:Option Value} {mN:Str->Option Value} {oI:Obj}
end
end L2
namespace OwnDk
open PySem
section
variable {prog:Program}{w:World}{A:Around}{E:Value->Shared->Prop}{s:Shared}
theorem own_dk_walks (hh:A.handled=none)(I a:Addr)(hne:a≠I){ob:Obj}{es:Array DictEntry}{ep:Nat}(hd:ob.data=.dict es ep) :
 Walks prog w A I [I,a] [I] es.size (λi v=>∃ e,es[i]?=some e/\v=e.key) (λi h=>h.IsKeyIter I a i es.size ep/\h.get? a=some ob) where
 sub:=λb hb=>by simp at hb;simp[hb]
 frame:=λ_ _ _ x hk=>⟨x.1.at λo e=>hk I (by simp) o e,hk a (by simp) _ x.2⟩
 item:=λi s Q E hi x hQ=>by
  have hx:es[i]?=some (es[i]'hi):=u0p _
  refine L2.raw_next x.1 x.2 hd hx λh' he' hs'=>?_
  exact hQ _ h' s.toks ⟨_,hx,rfl⟩ ⟨he',(hs'.2 a hne).trans x.2⟩ λb o hb eo=>hs'.extBut b o (λh=>hb (by simp[h])) eo
 done:=λs Q E x hQ=>L2.raw_end hh x.1 x.2 hd (t5 _) λh' he'=>hQ h' s.toks λb o hb eo=>he' b o (λh=>hb (by simp[h])) eo
 self:=λ_ _ _ _ x hQ=>wpAny_pyIter_keyiter x.1 hQ
theorem Xt {a:Addr}{ob:Obj}{es:Array DictEntry}{ep:Nat}{Q:List Value->Shared->Prop}(hh:A.handled=none)(hs:(a == sysModules)=false)(hS:s.heap.get? a=some ob)(hc:ob.ExactDict)(hd:ob.data=.dict es ep)(h8:es.size<=sizeLine)
 (hQ:∀ s',(∀ b o,s.heap.get? b=some o->s'.heap.get? b=some o)->s'.gens=s.gens->s'.drawn=s.drawn->s'.os=s.os->Q (es.toList.map (·.key)) s'):wpAny (model prog w) A (collect (.ref a)) Q E s:=by
 have hlt:a < s.heap.objs.size:=t4 hS
 have hSa:s.heap.objs.size≠a:=u1S hlt
 unfold collect
 refine u0 (u2o (u0O u2V ?_))
 rw[u0v u2W _]
 show wpAny _ A.in1 (newList []>>=λl=>again (.builtin "list.__iadd__" ⟨[l,.ref a],[]⟩)) _ _ s
 refine u0 (i9 ?_)
 refine u5 ⟨u1D u1J _,u0O u3E ?_⟩
 rw[u0v u1J _]
 have hS1:(s.heap.push { cls:=.type "list",data:=.seq ([]:List Value).toArray }).get? a=some ob:=u3 _ hS
 have hL1:(s.heap.push { cls:=.type "list",data:=.seq ([]:List Value).toArray }).get? s.heap.objs.size=some { cls:=.type "list",data:=.seq ([]:List Value).toArray }:=t6 _ rfl
 generalize hh1:s.heap.push { cls:=.type "list",data:=.seq ([]:List Value).toArray }=h1 at hS1 hL1 ⊢
 have k1:∀ b o,s.heap.get? b=some o->h1.get? b=some o:=λb o e=>by rw[<-hh1];exact u3 _ e
 have hz1:h1.objs.size=s.heap.objs.size+1:=by rw[<-hh1];exact u0w ..
 show wpAny _ A.in1 (Builtin.List.listExtendWith (.ref s.heap.objs.size) (.ref a) (.ref s.heap.objs.size)) _ _ _
 unfold Builtin.List.listExtendWith
 refine u0 (u1U (T:="dict") ⟨_,hS1,hc.1⟩ ?_)
 have g1:Builtin.List.listSameRef (.ref s.heap.objs.size) (.ref a)=false:=by simp[Builtin.List.listSameRef,hSa]
 have g2:(Value.type "dict" == Value.type "list")=false:=by decide
 have g3:(Value.type "dict" == Value.type "tuple")=false:=by decide
 simp only[g1,g2,g3,u3Q,u1e,u29]
 refine u0 (L2.raw_iter hs hS1 hc hd ?_)
 have hI2:(h1.push { cls:=.type "dict_keyiterator",data:=.fields #[.ref a,.int 0 0,.int es.size 0,.int ep 0] }).IsKeyIter h1.objs.size a 0 es.size ep:=⟨_,t6 _ rfl,rfl,rfl⟩
 have hS2:(h1.push { cls:=.type "dict_keyiterator",data:=.fields #[.ref a,.int 0 0,.int es.size 0,.int ep 0] }).get? a=some ob:=u3 _ hS1
 have hL2:=u3 { cls:=.type "dict_keyiterator",data:=.fields #[.ref a,.int 0 0,.int es.size 0,.int ep 0] } hL1
 generalize hh2:h1.push { cls:=.type "dict_keyiterator",data:=.fields #[.ref a,.int 0 0,.int es.size 0,.int ep 0] }=h2 at hI2 hS2 hL2 ⊢
 have k2:∀ b o,h1.get? b=some o->h2.get? b=some o:=λb o e=>by rw[<-hh2];exact u3 _ e
 refine u0 (u0n (PySem.W.kdl_hint_dict ⟨_,hS2,hc.1⟩ ?_))
 show wpAny _ A.in1 (if true=true then _ else _) _ _ _
 rw[t7 rfl]
 refine u0 (u1P (u0 ?_))
 show wpAny _ A.in1 (updateSeq s.heap.objs.size (·.push .none)>>=λ_=>updateSeq s.heap.objs.size (·.pop)) _ _ _
 refine u0 (u2c hL2 rfl ?_)
 have hL3:=b6 (Obj.mapSeq (·.push Value.none)) hL2 rfl
 refine u2c (hz:=by seq_fits) hL3 rfl ?_
 have hL4:=b6 (Obj.mapSeq (·.pop)) hL3 rfl
 have oth:∀ b o,b≠s.heap.objs.size->h2.get? b=some o->((h2.update s.heap.objs.size (Obj.mapSeq (·.push Value.none))).update s.heap.objs.size (Obj.mapSeq (·.pop))).get? b=some o :=
  λb o hb e=>(p8 _ _ (u0M hb)).trans ((p8 _ _ (u0M hb)).trans e)
 have hIne:h1.objs.size≠s.heap.objs.size:=by rw[hz1];exact u31 _
 have hIa:a≠h1.objs.size:=by rw[hz1];exact j9 (u01 hlt)
 have W:=own_dk_walks (prog:=prog) (w:=w) (A:=A.in1) hh h1.objs.size a hIa hd
 refine u5 ⟨u1D u3e _,u24 W.toS h8 _ (λhmem=>?_) _ es.size 0 _ #[] _ rfl (u0D _) ⟨hI2.at λo e=>oth _ _ hIne e,oth _ _ (u0M hSa) hS2⟩ hL4 (ItemsOf.nil _) λs' acc' c' hmv hS' hacc=>?_⟩
 .rcases j5.mp hmem with e | e
  .exact hIne e.symm
  .exact hSa (j8.mp e)
 .show wpAny _ A (load s.heap.objs.size>>=_) _ _ s'
  refine u0 (wpAny_load hS' ?_)
  refine u5 ?_
  have e1:acc'.toList=es.toList.map (·.key):=by
   apply u1t
   intro i
   by_cases hi:i < es.size
   .have q1:acc'[i]?=some (acc'[i]'(by rw[hacc.1];exact hi)):=u0p _
    obtain⟨e,q2,q3⟩:=hacc.2 i _ q1
    rw[j4,u0V,u0V,q1,q2,q3]
    rfl
   .rw[u0g (by rw[t9,hacc.1];exact u0s hi),u0g (by rw[u6,t9];exact u0s hi)]
  rw[e1]
  refine hQ s' (λb o e=>hmv.heap b o (λhmem=>?_) (oth b o (j9 (t4 e)) (k2 b o (k1 b o e)))) hmv.gens hmv.drawn hmv.os
  rcases j5.mp hmem with z | z
  .exact j9 (t4 e) z
  .have:=t4 e
   rw[j8.mp z,hz1]at this
   exact absurd (u2M this) (u0J _)
theorem own_sorted_dict {a:Addr}{ob:Obj}{es:Array DictEntry}{ep:Nat}{Q:Value->Shared->Prop}(hh:A.handled=none)(hs:(a == sysModules)=false)(hS:s.heap.get? a=some ob)(hc:ob.ExactDict)(hd:ob.data=.dict es ep)(h64:es.size < 64)(hT:∀ v∈es.toList.map (·.key),∃ t,OwnSortT.TT s.heap v t)
 (h:∀ (h1 h':Heap) (tk':Nat) (out:Array Value) (c:Nat),out.toList.Perm (es.toList.map (·.key))->OwnSortT.Rise s.heap out.toList->(∀ b o,s.heap.get? b=some o->h1.get? b=some o)->(∀ b o,h1.get? b=some o->h'.get? b=some o) ->
  h'.get? h1.objs.size=some { cls:=.type "list",dict:=none,data:=.seq out c,slots:=#[] }->Q (.ref h1.objs.size) { s with heap:=h',toks:=tk' }) :
 wpAny (model prog w) A (call (.builtin "sorted") [.ref a]) Q E s:=by
 refine u1E u2w u2l u2k (u2j _) ?_
 unfold Builtin.«sorted»
 refine u0 (m:=checkCount "sorted" 1 1 _) (u5 (u0 (Xt hh hs hS hc hd (b9 (u0R h64) (by rw[u1i];decide)) λs' k g1 g2 g3=>?_)))
 obtain⟨h1,g',d',tk1,os'⟩:=s'
 have e1:g'=s.gens:=g1
 have e2:d'=s.drawn:=g2
 have e3:os'=s.os:=g3
 subst e1 e2 e3
 have h64:(es.toList.map (·.key)).length < 64:=by rw[u6,t9];exact h64
 generalize es.toList.map (·.key)=vs at *
 refine u0 (u3a ?_)
 have hoL:(h1.push (PyProof.Rows.seqObj "list" vs.toArray 0)).get? h1.objs.size=some (PyProof.Rows.seqObj "list" vs.toArray 0):=t6 _ rfl
 have up:∀ b o,s.heap.get? b=some o->(h1.push (PyProof.Rows.seqObj "list" vs.toArray 0)).get? b=some o:=λb o e=>u3 _ (k b o e)
 refine u0 (u0n (u0a u2b ⟨_,hoL,rfl⟩ u14 (OwnSortT.ownT_list_sort hoL (λv hv=>let ⟨t,ht⟩:=hT v hv;⟨t,ht.keep up⟩) h64 λout p1 p2=>⟨_,rfl,?_⟩) (u2a _)))
 have rise:OwnSortT.Rise s.heap out.toList:=by
  obtain⟨ts,q1,q2,q3⟩:=p2
  refine⟨ts,q1,λi v t hv ht=>?_,q3⟩
  obtain⟨t0,ht0⟩:=hT v (p1.mem_iff.mp (d8 hv))
  rw[(q2 i v t hv ht).uniq (ht0.keep up)]
  exact ht0
 have hn:∀ b o,b≠h1.objs.size->(h1.push (PyProof.Rows.seqObj "list" vs.toArray 0)).get? b=some o->(PyProof.Rows.sortedHeap (h1.push (PyProof.Rows.seqObj "list" vs.toArray 0)) h1.objs.size vs out).get? b=some o:=λb o hb e=>by
  unfold PyProof.Rows.sortedHeap
  exact(p8 _ _ (u0M hb)).trans (u3 _ (u3 _ ((p8 _ _ (u0M hb)).trans e)))
 have hL:∃ c,(PyProof.Rows.sortedHeap (h1.push (PyProof.Rows.seqObj "list" vs.toArray 0)) h1.objs.size vs out).get? h1.objs.size=some { cls:=.type "list",dict:=none,data:=.seq out c,slots:=#[] }:=by
  unfold PyProof.Rows.sortedHeap
  have u1:=b6 (Obj.mapSeq λ_=>(#[]:Array Value)) hoL rfl
  have u2:=u3 (PyProof.Rows.seqObj "list" #[] 0) (u3 (PyProof.Rows.seqObj "tuple" vs.toArray 0) u1)
  exact⟨_,b6 (Obj.mapSeq λ_=>out) u2 rfl⟩
 obtain⟨c,hL⟩:=hL
 exact u5 ⟨_,rfl,h h1 _ _ out c p1 rise k (λb o e=>hn b o (j9 (t4 e)) (u3 _ e)) hL⟩
end
end OwnDk
namespace Dl
open PySem L2
def zg6:List Key->Option (List Int)
 | []=>some []
 | .inl i::r=>(zg6 r).map (i::·)
 | _=>none
def zal:List (List Key)->Option (List (List Int))
 | []=>some []
 | k::ks=>match zg6 k with
  | some (i::t)=>(zal ks).map ((i::t)::·)
  | _=>none
theorem zgz:∀ {k:List Key} {t:List Int},zg6 k=some t->k=t.map Sum.inl:=by
 intro k
 induction k with
 | nil=>intro t h;cases h;rfl
 | cons a k ih =>
  intro t h
  cases a with
  | inl i =>
   obtain⟨r,e,rfl⟩:=u7.mp h
   rw[ih e]
   rfl
  | inr x=>cases h
theorem zgp:∀ {ks:List (List Key)} {ts:List (List Int)},zal ks=some ts->ks=ts.map (λt=>t.map Sum.inl)/\∀ t∈ts,t≠[]:=by
 intro ks
 induction ks with
 | nil=>intro ts h;cases h;exact⟨rfl,λt h=>by cases h⟩
 | cons k ks ih =>
  intro ts h
  unfold zal at h
  split at h
  .rename_i i t e
   obtain⟨r,e2,rfl⟩:=u7.mp h
   obtain⟨h1,h2⟩:=ih e2
   refine⟨by rw[h1,zgz e];rfl,λu hu=>?_⟩
   rcases j5.mp hu with rfl | hu
   .exact List.cons_ne_nil _ _
   .exact h2 u hu
  .cases h
def zjS (t:List Int):List (List Int)->List (List Int)
 | []=>[t]
 | u::us=>if HT.lexLt u t=true then u::zjS t us else t::u::us
def vZ:List (List Int)->List (List Int)
 | []=>[]
 | t::ts=>zjS t (vZ ts)
theorem V7 (t:List Int):∀ us:List (List Int),(zjS t us).Perm (t::us):=by
 intro us
 induction us with
 | nil=>exact u1k _
 | cons u us ih =>
  unfold zjS
  split
  .exact(ih.cons u).trans (List.Perm.swap _ _ _)
  .exact u1k _
theorem vX:∀ ts:List (List Int),(vZ ts).Perm ts:=by
 intro ts
 induction ts with
 | nil=>exact u1k _
 | cons t ts ih=>exact(V7 t _).trans (ih.cons t)
theorem zdH (t:List Int):∀ us:List (List Int),us.Pairwise (λa b=>HT.lexLt b a=false)->(zjS t us).Pairwise λa b=>HT.lexLt b a=false:=by
 intro us
 induction us with
 | nil=>intro _;exact List.pairwise_singleton _ _
 | cons u us ih =>
  intro h
  rw[u1g]at h
  unfold zjS
  by_cases c:HT.lexLt u t=true
  .rw[t7 c]
   refine u1g.mpr ⟨λv hv=>?_,ih h.2⟩
   rcases j5.mp ((V7 t us).mem_iff.mp hv)with rfl | hv
   .cases e:HT.lexLt v u with
    | false=>rfl
    | true =>
     have:=OwnSortT.lex_trans _ _ _ c e
     rw[OwnSortT.lex_irr]at this
     cases this
   .exact h.1 v hv
  .rw[j7 c]
   have c:HT.lexLt u t=false:=by cases e:HT.lexLt u t with
    | false=>rfl
    | true=>exact absurd e c
   refine u1g.mpr ⟨λv hv=>?_,u1g.mpr h⟩
   rcases j5.mp hv with rfl | hv
   .exact c
   .cases e:HT.lexLt v t with
    | false=>rfl
    | true =>
     rcases OwnSortT.lex_neg v u t e with z | z
     .rw[h.1 v hv]at z;cases z
     .rw[c]at z;cases z
theorem XS:∀ ts:List (List Int),(vZ ts).Pairwise λa b=>HT.lexLt b a=false:=by
 intro ts
 induction ts with
 | nil=>exact List.Pairwise.nil
 | cons t ts ih=>exact zdH t _ ih
theorem zbf {ts us:List (List Int)}(p:us.Perm ts)(h:us.Pairwise λa b=>HT.lexLt b a=false):us=vZ ts :=
 u1K (le:=λa b=>HT.lexLt b a=false) (λa b _ _ h1 h2=>OwnSortT.lex_total _ _ h2 h1) h (XS ts) (p.trans (vX ts).symm)
def zkg (t:List Int):D:=.tup (t.map .int)
def zb6:List D->Option (List D)
 | [.dct _ true ks _]=>if ks.length < 64 then (zal ks).map λts=>(vZ ts).map zkg else none
 | _=>none
variable [KK]
section
variable {X:Cx}{e:Expr}{pos:Pos}
theorem Gr.seeL {H:Hp}:∀ {F:Hp} (bs:List (Addr × List V)),yE F H->(∀ b∈bs,H b.1=some (.tup b.2))->∃ F',Gr F H F' H/\∀ b∈bs,F' b.1=some (.tup b.2):=by
 intro F bs
 induction bs generalizing F with
 | nil=>intro s _;exact⟨F,.refl s,λb h=>by cases h⟩
 | cons b bs ih =>
  intro s h
  obtain⟨F1,g1,e1⟩:=Gr.see s (h b o0)
  obtain⟨F2,g2,e2⟩:=ih g1.fh λc hc=>h c (d9 _ hc)
  refine⟨F2,g1.trans g2,λc hc=>?_⟩
  rcases j5.mp hc with rfl | hc
  .exact g2.ff _ _ e1
  .exact e2 c hc
theorem V1 (hc:X.calm=true):Yb X (.builtin "sorted") (λxs H Q=>∃ F a z ks ys ts,xs=[.ref a]/\yE F H/\Ve F a z true ks ys/\ks.length < 64/\zal ks=some ts/\∀ l zs F',H l=none->Gr F H F' H->AtL F' ((vZ ts).map zkg) zs->Q (.ref l) (upd H l (.lst zs))):=by
 intro pins s σ H xs us Q I r h
 obtain⟨F,a,z,ks,ys,ts,rfl,sm,hd,h64,hk,q⟩:=h
 obtain⟨u,rfl,ru⟩:=X0 r
 cases ru
 obtain⟨rfl,hne⟩:=zgp hk
 rw[u6]at h64
 obtain⟨u,hu,hz⟩:=hd.mono sm
 unfold WI at hu
 rw[t7 rfl]at hu
 obtain⟨kvs,rfl,hks,-⟩:=hu
 have ok:yt X.prog X.w H s.heap a (.dT kvs):=by
  cases z with
  | true=>rw[t7 rfl]at hz;obtain⟨ob,e⟩:=hz;exact(show yt X.prog X.w H s.heap a (.frz ob (.dT kvs))from I.hok a _ e).2
  | false=>rw[j7 u8]at hz;exact I.hok a _ hz
 obtain⟨_,sys,xs,pr,o,es,ep,e1,ex,dt,he,nd⟩:=ok
 have hp:=u28 pr
 have hkl:kvs.length=ts.length:=by have:=u1d List.length hks;rw[u6,u6]at this;exact this
 have hkeys:es.toList.map (·.key)=xs.map λq=>Value.ref q.2.1:=by rw[he,e9];rfl
 have hsz:es.size < 64:=by rw[<-t9,he,u6];omega
 have rel:∀ {l:List (List Key × V)} {m:List (List Key × Addr × Value)},Paired (λp q=>p.1=q.1/\H q.2.1=some (.tup (p.1.map kV))/\yG p.2 q.2.2) l m->∀ (j:Nat) (h1:j < l.length) (h2:j < m.length),l[j].1=m[j].1/\H m[j].2.1=some (.tup (l[j].1.map kV)):=λ{l m} r=>by
  induction r with
  | nil=>intro j h1;simp at h1
  | cons h t ih =>
   intro j h1 h2
   cases j with
   | zero=>exact⟨h.1,h.2.1⟩
   | succ j=>exact ih j (by simpa using h1) (by simpa using h2)
 have atJ:∀ (j:Nat) (h1:j < ts.length) (h2:j < xs.length),H xs[j].2.1=some (.tup (ts[j].map V.int)):=λj h1 h2=>by
  have h3:j < kvs.length:=by omega
  obtain⟨-,r2⟩:=rel pr j h3 h2
  have e3:kvs[j].1=ts[j].map Sum.inl:=by
   have:=u1d (λl=>l[j]?) hks
   simp only[j4]at this
   rw[j6 h3,j6 h1]at this
   exact p9 this
  rw[r2,e3,e9]
  rfl
 have look:∀ {v:Value},v∈(xs.map λq=>Value.ref q.2.1)->∃ b t,v=.ref b/\t∈ts/\H b=some (.tup (t.map V.int))/\OwnSortT.TT s.heap v t:=λ{v} hv=>by
  obtain⟨j,hj,rfl⟩:=u07 hv
  rw[u6]at hj
  have hj2:j < ts.length:=by omega
  have hb:=atJ j hj2 hj
  rw[u3X]
  obtain⟨us,ru,⟨o,ho,hcl,n,hd⟩,_⟩:=I.tuple (SqT.of hb)
  exact⟨xs[j].2.1,ts[j],rfl,u0x hj2,hb,xs[j].2.1,o,n,us,rfl,ho,hcl,hd,vB ru,hne _ (u0x hj2)⟩
 refine OwnDk.own_sorted_dict (I.ok.hd hc) sys e1 ex dt hsz (λv hv=>by rw[hkeys]at hv;obtain⟨b,t,-,-,-,ht⟩:=look hv;exact⟨t,ht⟩) λh1 h' tk out c pm ri k1 k2 hL=>?_
 rw[hkeys]at pm
 obtain⟨us,l1,l2,l3⟩:=ri
 have zsOf:∀ (ws:List Value) (vs:List (List Int)),ws.length=vs.length->(∀ w∈ws,w∈xs.map λq=>Value.ref q.2.1)->(∀ (i:Nat) v t,ws[i]?=some v->vs[i]?=some t->OwnSortT.TT s.heap v t)->∃ bs:List (Addr × List Int),bs.map (·.2)=vs/\yd (bs.map λb=>V.ref b.1) ws/\∀ b∈bs,H b.1=some (.tup (b.2.map V.int)):=by
  intro ws
  induction ws with
  | nil =>
   intro vs hl _ _
   cases vs with
   | nil=>exact⟨[],rfl,.nil,λb h=>by cases h⟩
   | cons _ _=>simp at hl
  | cons w ws ih =>
   intro vs hl hm ht
   cases vs with
   | nil=>simp at hl
   | cons t vs =>
    obtain⟨bs,z0,z1,z2⟩:=ih vs (by simpa using hl) (λw' hw'=>hm w' (d9 _ hw')) (λi v t h1 h2=>ht (i+1) v t (by simpa using h1) (by simpa using h2))
    obtain⟨a,t',rfl,_,ha,htp⟩:=look (hm w o0)
    have et:t'=t:=htp.uniq (ht 0 _ t rfl rfl)
    subst et
    exact⟨(a,t')::bs,by rw[i8,z0],.cons rfl z1,λb hb=>by
     rcases j5.mp hb with rfl | hb
     .exact ha
     .exact z2 b hb⟩
 obtain⟨bs,z0,z1,z2⟩:=zsOf out.toList us l1 (λw hw=>pm.mem_iff.mp hw) l2
 have keysPerm:us.Perm ts:=by
  have kv:∀ (ws:List Value) (vs:List (List Int)),ws.length=vs.length->(∀ (i:Nat) v t,ws[i]?=some v->vs[i]?=some t->OwnSortT.TT s.heap v t)->vs=ws.map λv=>(OwnSortT.keyTT s.heap v).getD []:=by
   intro ws
   induction ws with
   | nil=>intro vs hl _;cases vs with
    | nil=>rfl
    | cons _ _=>simp at hl
   | cons w ws ih =>
    intro vs hl ht
    cases vs with
    | nil=>simp at hl
    | cons t vs =>
     rw[i8,OwnSortT.keyTT_of (ht 0 w t rfl rfl),<- ih vs (by simpa using hl) λi v t h1 h2=>ht (i+1) v t (by simpa using h1) (by simpa using h2)]
     rfl
  rw[kv _ _ l1 l2,kv (xs.map λq=>Value.ref q.2.1) ts (by rw[u6];omega) λi v t h1 h2=>?_]
  .exact pm.map _
  .obtain⟨hi,e2⟩:=u9.mp h1
   obtain⟨hi2,e3⟩:=u9.mp h2
   rw[u6]at hi
   have hb:=atJ i hi2 hi
   rw[e3]at hb
   obtain⟨us',ru',⟨o,ho,hcl,n,hd⟩,_⟩:=I.tuple (SqT.of hb)
   exact⟨xs[i].2.1,o,n,us',by rw[<-e2,u3X],ho,hcl,hd,vB ru',hne t (by rw[<-e3];exact u0x hi2)⟩
 have e3:=zbf keysPerm l3
 subst e3
 obtain⟨F',g,hF⟩:=Gr.seeL (bs.map λb=>(b.1,b.2.map V.int)) sm λb hb=>by
  obtain⟨c,hc,rfl⟩:=b0.mp hb
  exact z2 c hc
 have az:AtL F' ((vZ ts).map zkg) (bs.map λb=>V.ref b.1):=by
  rw[<-z0]
  clear z0 z1 pm l1 l2
  induction bs with
  | nil=>exact .nil
  | cons b bs ih=>exact .cons (.tup (hF (b.1,b.2.map V.int) (b0.mpr ⟨b,o0,rfl⟩)) (.ints _)) (ih (λc hc=>z2 c (d9 _ hc)) (λc hc=>by
   obtain⟨d,hd,rfl⟩:=b0.mp hc
   exact hF _ (b0.mpr ⟨d,d9 _ hd,rfl⟩)))
 have I2:Inv X pins σ H { s with heap:=h1,toks:=tk }:=I.kept λb u e=>k1 b u e
 have hlo:(bs.map λb=>V.ref b.1).length<=sizeLine:=by
  have hh:bs.length=(vZ ts).length:=by rw[<-z0,u6]
  rw[u6,hh,(vX ts).length_eq,u1i]
  omega
 exact⟨.ref h1.objs.size,_,I2.laid (t':=tk) (λb o e=>k2 b o e) (t5 _) (show yt X.prog X.w _ h' _ (.lst (bs.map λb=>V.ref b.1)) from⟨hlo,out.toList,c,z1,by simpa using hL⟩),rfl,q _ _ F' (I2.hok.fresh (t5 _)) g az⟩
theorem zdd {p:Pos} {f:Ev->Option (List D)} (hc:X.calm=true) (hgl:Gl X "sorted") (hm:X.mg "sorted"=none) (ha:AD X [e] f)
 (he:starEach [e] X.env=(false,eval e X.env)::starEach [] X.env:=by rfl) (hpl:(backTo pos (starEach [] X.env)).any (·.1)=false:=by rfl):FL X (.Call (.Name "sorted" p) [e] [] pos) (fFn zb6 f):=by
 obtain⟨t,pa,ra⟩:=ha
 refine⟨_,Xz (V1 hc) hgl hm Zv pa (by decide) (by decide) he hpl,fun σ ρ F H z Q s va e q=>?_⟩
 obtain⟨ds,e1,e2⟩:=u4.mp e
 refine ra σ ρ F H ds _ s va e1 λF1 H1 vs g1 a1=>?_
 have e2':=e2
 unfold zb6 at e2'
 split at e2'
 .rename_i z' ks ws
  split at e2' <;> try cases e2'
  rename_i h64
  obtain⟨ts,e3,rfl⟩:=u7.mp e2'
  obtain⟨x,r,rfl,ax,ar⟩:=a1.cons_inv
  cases ar.nil_inv
  obtain⟨p,ys,rfl,hx,bl⟩:=ax.dct_inv
  refine⟨F1,p,z',ks,ys,ts,rfl,g1.fh,hx,(by omega),e3,λl zs F' hl g az=>?_⟩
  have g2:=g1.trans g
  exact q _ _ _ _ (g2.trans (Gr.hide g2.fh hl _)) (VD g2 hl) (g2.fh.free hl) zn az
 .cases e2'
end
end Dl
namespace Dl
open PySem L2
def b3:D->Option (List (Option D))
 | .tup [x,y,z]=>some [some x,some y,some z]
 | _=>none
end Dl
namespace Dl
open PySem L2
variable [KK]
theorem edv {X:Cx} (i:Nat) {x:Str} {pos:Pos} (hN:X.N[i]?=some x:=by rfl) (hv:Vis X.env.scope x:=by first | exact Or.inl rfl | exact Or.inr (Or.inl rfl) | exact Or.inr (Or.inr rfl)) (hd:(x == ("__debug__":Str))=false:=by decide)
 (hcd:(x == ("__classdict__":Str))=false:=by decide):ED X (.Name x pos) (zd i):=zlM i (pv i hN hv hd hcd)
theorem zo {X:Cx}{x:Str}{j k m:Nat}{f:Addr}{fd:FuncData}{ps:List Str}{st:Stmt}{p:List D->Option D}{e:Expr}{es:List Expr}{pp pos:Pos}{fa:Ev->Option (List D)}(F:xz X.prog X.w X.K X.mg X.base CX0 j f fd ps (spD m p))(hr:YJ k X.A)(hg:Gl X x)(d:Def X.K X.mg x st ps f fd)
 (ha:AD X (e::es) fa) (hj:j<=k:=by decide) (hdb:(x == ("__debug__":Str))=false:=by decide) (he:starEach (e::es) X.env=(false,eval e X.env)::starEach es X.env:=by rfl) (hpl:(backTo pos (starEach es X.env)).any (·.1)=false:=by rfl) :
 ED X (.Call (.Name x pp) (e::es) [] pos) (zr m p fa):=zdD (F.mono hj) hr hg d.at_ d.kp d.bd ha hdb he hpl
end Dl
namespace L2
open PySem PySem.Spec PyProof.Rows
theorem Wo.nf {u:HO}(h:Wo u):(∀ o v,u≠.frz o v)/\(∀ xs,u≠.tup xs)/\∀ ps,u≠.tbl ps:=by
 rcases h with ⟨kvs,rfl⟩ | ⟨kvs,rfl⟩ <;> exact⟨λ_ _ z=>(by cases z),λ_ z=>(by cases z),λ_ z=>by cases z⟩
theorem Inv.thaw {X:Cx}{pins:List (Addr × Obj)}{σ:St}{H:Hp}{s:Shared}{p:Addr}{ob:Obj}{u:HO}(I:Inv X pins σ H s)(e:H p=some (.frz ob u))(h0:∀ o v,X.H₀ p≠some (.frz o v)):Inv X pins σ (upd H p u) s:=by
 have ne:∀ {b:Addr} {o:Option HO},H b=o->o≠some (.frz ob u)->b≠p:=λ{b o} h n z=>n (by rw[<-h,z,e])
 refine⟨I.ok,I.os,I.bare,⟨I.base.keep,I.base.slot,λb o q n hx=>?_,I.base.there,λb xs q=>?_,λb o v q=>?_,λb ps q=>?_⟩,I.loc,I.cell,?_,λx c q=>?_,λq hq=>?_,λb o q=>?_,I.len⟩
 .have z:=I.base.free b o q n hx
  rw[zm (ne z (by simp))];exact z
 .have z:=I.base.tups b xs q
  rw[zm (ne z (by simp))];exact z
 .have z:=I.base.frzs b o v q
  rw[zm (λ(w:b=p)=>h0 o v (w ▸ q))];exact z
 .obtain⟨more,z⟩:=I.base.tbls b ps q
  exact⟨more,by rw[zm (ne z (by simp))];exact z⟩
 .rw[zm (ne I.free (by simp))];exact I.free
 .have z:=I.freeC x c q
  rw[zm (ne z (by simp))];exact z
 .obtain⟨a1,a2,a3⟩:=I.pin q hq
  exact⟨a1,by rw[zm (ne a2 (by simp))];exact a2,a3⟩
 .have own:∀ {c:Addr} {a:Addr},H c=some (.own a)->(upd H p u) c=some (.own a):=λ{c a} hc=>by rw[zm (ne hc (by simp))];exact hc
  have tup:∀ {c:Addr} {xs:List V},H c=some (.tup xs)->(upd H p u) c=some (.tup xs):=λ{c xs} hc=>by rw[zm (ne hc (by simp))];exact hc
  by_cases c:b=p
  .subst c
   rw[zn]at q
   cases q
   have ok:yt X.prog X.w H s.heap b (.frz ob u):=I.hok b _ e
   exact ok.2.stay (λ_ _ _ z=>z) (λ_ z=>own z) λ_ _ z=>tup z
  .rw[zm c]at q
   exact(I.hok b o q).stay (λ_ _ _ z=>z) (λ_ z=>own z) λ_ _ z=>tup z
def zmx (i:Nat)(t:TS):TS:=λD σ H=>∃ p u,σ[i]?=some (some (.ref p))/\H p=some u/\Wo u/\∀ ob,t { nx:=fun σ' H'=>H' p=some (.frz ob u)/\D.nx σ' (upd H' p u),rt:=λ_ _=>False } σ (upd H p (.frz ob u))
theorem zjq {X:Cx}{st:Stmt}{t:TS}(i:Nat)(h:PS X st t):PS X st (zmx i t):=by
 intro pins s σ H D I q
 obtain⟨p,u,_,e,hu,q⟩:=q
 obtain⟨ob,I2⟩:=I.frz e hu
 have h0:∀ o v,X.H₀ p≠some (.frz o v):=λo v z=>by
  have:=I.base.frzs p o v z
  rw[e]at this
  exact hu.nf.1 o v (p9 this)
 refine thn (h pins s σ _ _ I2 (q ob)) λfl s' hs=>?_
 cases fl with
 | next =>
  obtain⟨σ',H',I',e',n'⟩:=hs
  exact⟨σ',_,I'.thaw e' h0,n'⟩
 | brk=>obtain⟨_,_,_,z⟩:=hs;exact z.elim
 | cont=>obtain⟨_,_,_,z⟩:=hs;exact z.elim
 | ret v=>obtain⟨_,_,_,_,_,z⟩:=hs;exact z.elim
end L2
namespace Dl
open PySem L2
variable [KK]
mutual
def noM:D->Bool
 | .tup ds=>zi7 ds
 | .lst ds=>zi7 ds
 | .dct _ _ _ _=>false
 | _=>true
def zi7:List D->Bool
 | []=>true
 | d::ds=>noM d&&zi7 ds
end
def less (F:Hp)(p:Addr):Hp:=λb=>if b=p then none else F b
theorem ZL {F:Hp}{p b:Addr}(h:b≠p):less F p b=F b:=by unfold less;rw[j7 h]
theorem zeP {F:Hp}{p:Addr}:less F p p=none:=by unfold less;rw[t7 rfl]
theorem zie {F:Hp}{p b:Addr}{o:HO}(h:less F p b=some o):b≠p/\F b=some o:=by
 unfold less at h
 split at h
 .cases h
 .rename_i n;exact⟨n,h⟩
section
variable {F:Hp}{p:Addr}{ob:Obj}{u:HO}(hF:F p=some (.frz ob u))(hu:Wo u)
include hF hu
mutual
theorem At.less:∀ {d:D} {v:V},noM d=true->At F d v->At (less F p) d v
 | .non,_,_,a=>by unfold At at a ⊢;exact a
 | .bl _,_,_,a=>by unfold At at a ⊢;exact a
 | .int _,_,_,a=>by unfold At at a ⊢;exact a
 | .str _,_,_,a=>by unfold At at a ⊢;exact a
 | .tup ds,_,n,a=>by
  unfold At at a ⊢
  unfold noM at n
  obtain⟨q,xs,e,hx,hl⟩:=a
  exact⟨q,xs,e,by rw[ZL λz=>by rw[z,hF]at hx;cases hx];exact hx,AtL.less n hl⟩
 | .lst ds,_,n,a=>by
  unfold At at a ⊢
  unfold noM at n
  obtain⟨q,xs,e,hx,hl⟩:=a
  exact⟨q,xs,e,by rw[ZL λz=>by rw[z,hF]at hx;cases hx];exact hx,AtL.less n hl⟩
 | .scr ns,_,_,a=>by
  unfold At at a ⊢
  obtain⟨q,e,hx⟩:=a
  refine⟨q,e,?_⟩
  rcases hx with hx | hx
  .refine .inl ?_
   rcases hx with hx | ⟨o,hx⟩
   .exact .inl (by rw[ZL λz=>by rw[z,hF]at hx;cases hx];exact hx)
   .refine .inr ⟨o,?_⟩
    rw[ZL λz=>?_]
    .exact hx
    .rw[z,hF]at hx
     have e2:=p9 hx
     injection e2 with _ e3
     rcases hu with ⟨kvs,rfl⟩ | ⟨kvs,rfl⟩ <;> cases e3
  .exact .inr hx
 | .dct _ _ _ _,_,n,_=>by unfold noM at n;cases n
theorem AtL.less:∀ {ds:List D} {xs:List V},zi7 ds=true->AtL F ds xs->AtL (less F p) ds xs
 | [],_,_,a=>by unfold AtL at a ⊢;exact a
 | d::ds,_,n,a=>by
  unfold AtL at a ⊢
  unfold zi7 at n
  rw[g9]at n
  obtain⟨x,r,e,a1,a2⟩:=a
  exact⟨x,r,e,At.less n.1 a1,AtL.less n.2 a2⟩
end
end
theorem zjJ {F H F' H':Hp}{p:Addr}{ob:Obj}{u:HO}(hF:F p=none)(hH:H p=some u)(g:Gr (upd F p (.frz ob u)) (upd H p (.frz ob u)) F' H'):Gr F H (less F' p) (upd H' p u):=by
 refine⟨λb o q=>?_,λb o q=>?_,λb o q1 q2=>?_⟩
 .have n:b≠p:=zp q hF
  rw[ZL n]
  exact g.ff b o (by rw[zm n];exact q)
 .obtain⟨n,q⟩:=zie q
  rw[zm n]
  exact g.fh b o q
 .by_cases n:b=p
  .subst n
   rw[hH]at q2
   cases q2
   exact⟨.inl zeP,zn⟩
  .obtain⟨x,y⟩:=g.kp b o (by rw[zm n];exact q1) (by rw[zm n];exact q2)
   refine⟨?_,by rw[zm n];exact y⟩
   unfold Hid
   rw[ZL n]
   exact x
section
variable {X:Cx}{e:Expr}{pos pos':Pos}
def zc1 (i j:Nat)(f:Ev->Option D):SE->Ctl:=fun ρ=>match ρ[i]? with
 | some (.m t ks vs)=>(match f (visF (ρ.set i (.v (.dct true t ks vs)))) with
  | some d=>if noM d=true then .nx (ρ.set j (.v d))else .no
  | none=>.no)
 | _=>.no
theorem zf0 {i j:Nat}{x:Str}{f:Ev->Option D}(hN:X.N.Nodup)(hi:X.N[j]?=some x)(hx:Loc X.env.scope x)(he:ED X e f)(hs:swapsWith e (some (.Name x pos')) pos.line X.env=pure false:=by rfl)
 (hf:X.fn x=true\/X.env.scope.names.lookup x=some .local:=by first | exact .inl rfl | exact .inr rfl | assumption):SD X (.Assign [.Name x pos'] e pos) (zc1 i j f):=by
 obtain⟨t,p,r⟩:=he
 refine⟨_,zjq i (V0 hN hi hx p hs hf),λFb Hb F H ρ σ E rl k=>?_⟩
 unfold zc1 at k
 split at k
 .rename_i tt ks vs hs
  split at k
  .rename_i d hd
   split at k
   .rename_i hn
    obtain⟨q,u,e1,e2,e3,e4⟩:=rl.fzM hs
    have hF:F q=none:=by
     obtain⟨q',o',f1,_,f3,_⟩:=rl.ows i _ hs rfl
     rw[e1]at f1
     cases f1
     exact f3
    refine⟨q,u,e1,e2,e3,λob=>?_⟩
    refine r σ _ _ _ d _ (e4 ob).gr.fh (e4 ob).visF hd λF' H' v g a=>?_
    have hq:F' q=some (.frz ob u):=g.ff _ _ zn
    refine⟨g.fh _ _ hq,?_⟩
    exact k _ _ _ ((rl.grow (zjJ hF e2 g)).set (At.less hq e3 hn a))
   .exact k.elim
  .exact k.elim
 .exact k.elim
end
end Dl
namespace L2
open PySem PySem.Spec PyProof.Rows
theorem zgA {prog:Program}{w:World}{a:Addr}{ob:Obj}{es:Array DictEntry}{ep:Nat}(hs:(a == sysModules)=false)(hc:ob.ExactDict)(hd:ob.data=.dict es ep) :
 PySem.W.KdlSrc prog w "dict" a a es.size (λi v=>∃ e,es[i]?=some e/\v=e.key) (λh=>h.get? a=some ob) where
 type:=λ_ hm=>⟨_,hm,hc.1⟩
 there:=λ_ hm=>⟨t4 hm,t4 hm⟩
 keep:=λ_ _ hm hk=>hk a (.inl rfl) _ hm
 notList:=by decide
 notTuple:=by decide
 hint:=λ_ _ _ _ hm hq=>W.kdl_hint_dict ⟨_,hm,hc.1⟩ hq
 iter:=λ_ _ hh hm=>⟨_,_,(λ_ _ hq=>raw_iter hs hm hc hd hq),OwnDk.own_dk_walks hh _ a (j9 (t4 hm)) hd,⟨⟨_,t6 _ rfl,rfl,rfl⟩,u3 _ hm⟩⟩
end L2
namespace Dl
open PySem L2 PySem.Spec PyProof.Rows
variable [KK]
theorem zjz {F H:Hp}{u:HO}{t:Bool}{ks:List (List Key)}{ys:List V}{i:Nat}{x:V}{k:List Key}(s:yE F H)(hd:WI u t ks ys)(hk:ks[i]?=some k)(hy:zge H u i x):∃ F',Gr F H F' H/\At F' (Z8 t k) x:=by
 unfold WI at hd
 cases t with
 | true =>
  rw[t7 rfl]at hd
  obtain⟨kvs,rfl,rfl,_⟩:=hd
  obtain⟨p,b,hp,rfl,hb⟩:=hy
  rw[j4,hp]at hk
  cases hk
  obtain⟨F3,g,hF⟩:=Gr.see s hb
  exact⟨F3,g,.tup hF (zbb _)⟩
 | false =>
  rw[j7 u8]at hd
  obtain⟨kvs,rfl,rfl,_⟩:=hd
  obtain⟨p,hp,rfl⟩:=hy
  rw[j4,hp]at hk
  cases hk
  exact⟨F,.refl s,zdY _⟩
theorem zeJ {H:Hp}{u:HO}{t:Bool}{ks:List (List Key)}{ys:List V}(hd:WI u t ks ys):∀ (vs:List Value) (i:Nat) (F:Hp),yE F H->(∀ (j:Nat) (v:Value),vs[j]?=some v->∃ x,yG x v/\zge H u (i+j) x)->i+vs.length=ks.length->∃ zs F',Gr F H F' H/\AtL F' ((ks.drop i).map (Z8 t)) zs/\yd zs vs:=by
 intro vs
 induction vs with
 | nil =>
  intro i F s _ hl
  refine⟨[],F,.refl s,?_,.nil⟩
  rw[List.drop_eq_nil_of_le (by simp at hl;omega)]
  exact .nil
 | cons v vs ih =>
  intro i F s h hl
  have hi:i < ks.length:=by rw[i4]at hl;omega
  obtain⟨x,rx,kx⟩:=h 0 v rfl
  obtain⟨F1,g1,a1⟩:=zjz s hd (j6 hi) kx
  obtain⟨zs,F2,g2,a2,r2⟩:=ih (i+1) F1 g1.fh (λj w hw=>by
   obtain⟨y,ry,ky⟩:=h (j+1) w (by simpa using hw)
   exact⟨y,ry,by rw[show i+1+j=i+(j+1) by omega];exact ky⟩) (by rw[i4]at hl;omega)
  refine⟨x::zs,F2,g1.trans g2,?_,.cons rx r2⟩
  rw[u1l hi]
  exact .cons (a1.mono g2.ff) a2
theorem zcS {X:Cx} (hc:X.calm=true):Yb X (.type "list") (λxs H Q=>∃ F a ob u t ks ys,xs=[.ref a]/\yE F H/\H a=some (.frz ob u)/\WI u t ks ys/\ks.length<=sizeLine/\∀ l zs F',H l=none->Gr F H F' H->AtL F' (ks.map (Z8 t)) zs->Q (.ref l) (upd H l (.lst zs))):=by
 intro pins s σ H xs us Q I r h
 obtain⟨F,a,ob,u,t,ks,ys,rfl,sm,ha,hd,hz,q⟩:=h
 obtain⟨v,rfl,rv⟩:=X0 r
 cases rv
 obtain⟨e0,es,ep,dd,ky⟩:=VP (I.hok a _ ha) (Wf hd).1
 have hn:es.size=ks.length:=dd.size.trans (Wf hd).2
 refine W.kdl_call (zgA dd.sys dd.exact_ dd.data) (I.ok.hd hc) e0 (by omega) λh' tk acc c kp hl it=>?_
 obtain⟨zs,F',g,al,rl⟩:=zeJ hd acc.toList 0 F sm (λj v hv=>by
  obtain⟨e,he,rfl⟩:=it.2 j v (by simpa using hv)
  rw[u0u]
  exact ky j e he) (by rw[u0u,t9,it.1,hn])
 rw[u4o]at al
 have hzl:zs.length<=sizeLine:=by rw[rl.length,t9,it.1];omega
 refine⟨.ref s.heap.objs.size,_,I.laid (t':=tk) kp (t5 _) (show yt X.prog X.w _ h' _ (.lst zs) from⟨hzl,acc.toList,c,rl,?_⟩),rfl,q _ _ F' (I.hok.fresh (t5 _)) g al⟩
 rw[hl]
def zb5:List D->Option (List D)
 | [.dct true t ks _]=>if ks.length<=100000 then some (ks.map (Z8 t))else none
 | _=>none
theorem zgP {X:Cx} {e:Expr} {p pos:Pos} {f:Ev->Option (List D)} (hc:X.calm=true) (hgl:Gl X "list") (hm:X.mg "list"=none) (ha:AD X [e] f)
 (he:starEach [e] X.env=(false,eval e X.env)::starEach [] X.env:=by rfl) (hpl:(backTo pos (starEach [] X.env)).any (·.1)=false:=by rfl):FL X (.Call (.Name "list" p) [e] [] pos) (fFn zb5 f):=by
 obtain⟨t,pa,ra⟩:=ha
 refine⟨_,XN (zcS hc) hgl hm Vb pa (by decide) (by decide) he hpl,fun σ ρ F H z Q s va e q=>?_⟩
 obtain⟨ds,e1,e2⟩:=u4.mp e
 refine ra σ ρ F H ds _ s va e1 λF1 H1 vs g1 a1=>?_
 unfold zb5 at e2
 split at e2 <;> try cases e2
 rename_i tt ks ws
 split at e2 <;> cases e2
 rename_i hk
 obtain⟨x,r,rfl,ax,ar⟩:=a1.cons_inv
 cases ar.nil_inv
 obtain⟨a,ys,rfl,⟨u,hd,hz⟩,_⟩:=ax.dct_inv
 rw[t7 rfl]at hz
 obtain⟨ob,hz⟩:=hz
 refine⟨F1,a,ob,u,tt,ks,ys,rfl,g1.fh,g1.fh _ _ hz,hd,by rw[u1i];omega,λl zs F' hl g al=>?_⟩
 exact q _ _ _ _ (g1.trans (g.trans (Gr.hide g.fh hl _))) (VD g1 hl) (g.fh.free hl) zn al
end Dl
namespace OwnSetP
open PySem
def hs (c:Nat):Int:=reduceHash (Builtin.Tuple.tupleHashOf [hashInt ((c / 8:Nat):Int),hashInt ((c % 8:Nat):Int)])
theorem zgg:((List.range 64).map hs).Nodup:=by decide +kernel
theorem zka {a b:Nat}(ha:a < 64)(hb:b < 64)(h:hs a=hs b):a=b:=by
 have nd:=u0Q.mp zgg
 rcases Nat.lt_trichotomy a b with l | e | l
 .have:=u03.mp nd a b (by rw[u0r];omega) (by rw[u0r];omega) l
  rw[u13,u13]at this
  exact absurd h this
 .exact e
 .have:=u03.mp nd b a (by rw[u0r];omega) (by rw[u0r];omega) l
  rw[u13,u13]at this
  exact absurd h.symm this
def zdx (mask:Nat):Nat->Nat->Nat->Nat->Nat->Nat
 | 0,_,_,_,_=>0
 | n+1,j,more,i,pt=>(if more > 0 then zdx mask n (j+1) (more - 1) i pt else zdx mask n (SetTable.leap mask i pt).1 (SetTable.runEnd mask (SetTable.leap mask i pt).1 - (SetTable.leap mask i pt).1) (SetTable.leap mask i pt).1 (SetTable.leap mask i pt).2) ||| 1 <<< j
def zjO (mask:Nat):Nat->Nat->Nat->Nat
 | 0,_,_=>0
 | n+1,i,pt=>zjO mask n (SetTable.leap mask i pt).1 (SetTable.leap mask i pt).2 ||| (2 ^ (SetTable.runEnd mask i+1 - i) - 1) <<< i
def zaE (mask:Nat)(h:Int):Bool:=zjO mask (SetTable.turns mask) (SetTable.bits h % (mask+1)) (SetTable.bits h) &&& (2 ^ (mask+1) - 1) == 2 ^ (mask+1) - 1
theorem zjo:∀ c:_root_.Fin 64,zaE 7 (hs c.val)=true/\zaE 31 (hs c.val)=true/\zaE 127 (hs c.val)=true:=by decide +kernel
theorem zbT {a b x:Nat}:(a ||| b).testBit x=true↔a.testBit x=true\/b.testBit x=true:=by rw[u3C,u1I]
theorem zeB {mask x:Nat}:∀ (a b j more i pt:Nat),a<=b->(zdx mask a j more i pt).testBit x=true->(zdx mask b j more i pt).testBit x=true:=by
 intro a
 induction a with
 | zero =>
  intro b j more i pt _ h
  have h:(0:Nat).testBit x=true:=h
  rw[u2s]at h
  cases h
 | succ a ih =>
  intro b j more i pt hb h
  obtain⟨b,rfl⟩:∃ c,b=c+1:=⟨b - 1,by omega⟩
  unfold zdx at h ⊢
  rw[zbT]at h ⊢
  refine h.imp_left λh=>?_
  by_cases c:more > 0
  .rw[t7 c]at h ⊢;exact ih _ _ _ _ _ (by omega) h
  .rw[j7 c]at h ⊢;exact ih _ _ _ _ _ (by omega) h
theorem zc2 {mask x:Nat}(f i pt:Nat):∀ m j:Nat,((j<=x/\x<=j+m)\/(zdx mask f (SetTable.leap mask i pt).1 (SetTable.runEnd mask (SetTable.leap mask i pt).1 - (SetTable.leap mask i pt).1) (SetTable.leap mask i pt).1 (SetTable.leap mask i pt).2).testBit x=true)->(zdx mask (f+m+1) j m i pt).testBit x=true:=by
 intro m
 induction m with
 | zero =>
  intro j h
  unfold zdx
  rw[zbT,j7 (u0J 0)]
  refine h.symm.imp id λh=>?_
  rw[u2N,u2u]
  exact r9 (by omega)
 | succ m ih =>
  intro j h
  rw[show f+(m+1)+1=(f+m+1)+1 by omega]
  unfold zdx
  rw[zbT,t7 (Nat.succ_pos m)]
  by_cases c:x=j
  .right
   rw[u2N,u2u]
   exact r9 c.symm
  .left
   exact ih (j+1) (h.imp_left λh=>by omega)
theorem zkf {mask x:Nat}:∀ n i pt:Nat,(zjO mask n i pt).testBit x=true->(zdx mask (10*n) i (SetTable.runEnd mask i - i) i pt).testBit x=true:=by
 intro n
 induction n with
 | zero =>
  intro i pt h
  have h:(0:Nat).testBit x=true:=h
  rw[u2s]at h
  cases h
 | succ n ih =>
  intro i pt h
  unfold zjO at h
  rw[zbT]at h
  have hm:SetTable.runEnd mask i - i<=9/\i<=SetTable.runEnd mask i:=by unfold SetTable.runEnd;split <;> omega
  refine zeB (10*n+(SetTable.runEnd mask i - i)+1) _ _ _ _ _ (by omega) (zc2 (10*n) i pt _ i ?_)
  rcases h with h | h
  .exact .inr (ih _ _ h)
  .left
   rw[Nat.testBit_shiftLeft,g9,u19]at h
   have h1:=r6 h.1
   have h2:=r6 h.2
   omega
theorem zco {mask m j:Nat}(h:(m &&& (2 ^ (mask+1) - 1) == 2 ^ (mask+1) - 1)=true)(hj:j<=mask):m.testBit j=true:=by
 have e:(m &&& (2 ^ (mask+1) - 1)).testBit j=true:=by
  rw[eq_of_beq h,u19]
  exact r9 (by omega)
 rw[Nat.testBit_and,g9]at e
 exact e.1
theorem zbm (j:Nat):SetTable.has #[] j=false:=rfl
theorem zaK {t:SetTable}{j i:Nat}(h:t.slot j=.live i):t.place[i]?=some j:=by
 unfold SetTable.slot at h
 dsimp only at h
 split at h
 .rename_i c
  cases h
  exact eq_of_beq c
 .split at h <;> cases h
theorem zf6 {t:SetTable}{j:Nat}(h:t.slot j=.empty):t.place[SetTable.below t.place j]?≠some j:=by
 unfold SetTable.slot at h
 dsimp only at h
 split at h
 .cases h
 .rename_i c
  intro e
  rw[e]at c
  exact c (u0o _)
theorem zih {t:SetTable}{j:Nat}(hd:t.dummies=#[])(h:t.slot j≠.empty):j∈t.place.toList:=by
 cases e:t.slot j with
 | empty=>exact absurd e h
 | dummy =>
  unfold SetTable.slot at e
  dsimp only at e
  split at e
  .cases e
  .rw[hd,zbm]at e
   cases e
 | live i =>
  have:=zaK e
  rw[<-u0V]at this
  exact d8 this
theorem zmc {t:SetTable}{f:Nat->Int}{h:Int}(hd:t.dummies=#[])(hf:∀ i,i < t.place.size->f i≠h):∀ (fuel:Nat) (p:SetTable.Probe),p.dummy=none->(∃ j,SetTable.probe.go t f h fuel p=some (.empty j none)/\t.slot j=.empty)\/∀ j,(zdx t.mask fuel p.j p.more p.i p.perturb).testBit j=true->t.slot j≠.empty:=by
 intro fuel
 induction fuel with
 | zero =>
  intro p _
  refine .inr λj hj=>?_
  have:(0:Nat).testBit j=true:=hj
  rw[u2s]at this
  cases this
 | succ n ih =>
  intro p hp
  cases e:t.slot p.j with
  | empty =>
   refine .inl ⟨p.j,?_,e⟩
   unfold SetTable.probe.go
   rw[e,hp]
  | dummy =>
   exfalso
   have:=e
   unfold SetTable.slot at this
   dsimp only at this
   split at this
   .cases this
   .rw[hd,zbm]at this
    cases this
  | live i =>
   have hi:i < t.place.size:=by
    have:=zaK e
    exact(u2h.mp this).1
   have hne:(f i == h)=false:=u4j (hf i hi)
   have hgo:SetTable.probe.go t f h (n+1) p=SetTable.probe.go t f h n (t.advance p):=by
    rw[SetTable.probe.go,e]
    dsimp only
    rw[hne]
    rfl
   have hdm:(t.advance p).dummy=none:=by
    unfold SetTable.advance
    split <;> exact hp
   rw[hgo]
   refine(ih (t.advance p) hdm).imp id λhh j hj=>?_
   unfold zdx at hj
   rw[u3C,u1I]at hj
   rcases hj with hj | hj
   .refine hh j ?_
    unfold SetTable.advance
    by_cases c:p.more > 0
    .rw[t7 c]at hj ⊢
     exact hj
    .rw[j7 c]at hj ⊢
     exact hj
   .rw[u2N,u2u]at hj
    have:=r6 hj
    subst this
    rw[e]
    exact λz=>by cases z
theorem zgd {t:SetTable}{f:Nat->Int}{h:Int}(hd:t.dummies=#[])(hf:∀ i,i < t.place.size->f i≠h)(full:zaE t.mask h=true)(fit:t.place.size<=t.mask):∃ j,t.probe f h (t.probeStart h)=some (.empty j none)/\t.slot j=.empty:=by
 rcases zmc hd hf (10*SetTable.turns t.mask) (t.probeStart h) rfl with r | r
 .exact r
 .exfalso
  have all:∀ j∈List.range (t.mask+1),j∈t.place.toList:=λj hj=>zih hd (r j (zkf _ _ _ (zco full (by have:=u1s.mp hj;omega))))
  have:=List.nodup_range.length_le_of_subset all
  rw[u0r,t9]at this
  omega
theorem VN {xs:Array Nat}(hr:xs.toList.Pairwise (· < ·)){d i k:Nat}(hik:i < k)(hk:k < xs.size):xs.getD i d < xs.getD k d:=by
 have h1:xs.getD i d=xs.toList[i]'(by rw[t9];omega):=by simp[Array.getD,show i < xs.size by omega]
 have h2:xs.getD k d=xs.toList[k]'(by rw[t9];omega):=by simp[Array.getD,hk]
 rw[h1,h2]
 exact u03.mp hr i k _ _ hik
structure Bel (xs:Array Nat) (j r:Nat):Prop where
 le:r<=xs.size
 lo:∀ i,i < r->xs.getD i j < j
 hi:∀ i,r<=i->i < xs.size->¬ xs.getD i j < j
theorem zha {xs:Array Nat}{j:Nat}(hr:xs.toList.Pairwise (· < ·)):∀ fuel lo hi,hi - lo<=fuel->lo<=hi->hi<=xs.size->(∀ i,i < lo->xs.getD i j < j)->(∀ i,hi<=i->i < xs.size->¬ xs.getD i j < j)->Bel xs j (SetTable.below.go xs j fuel lo hi):=by
 intro fuel
 induction fuel with
 | zero =>
  intro lo hi hf hl hs h1 h2
  have e:lo=hi:=by omega
  subst e
  exact⟨hs,h1,h2⟩
 | succ n ih =>
  intro lo hi hf hl hs h1 h2
  unfold SetTable.below.go
  by_cases c:lo < hi
  .rw[t7 c]
   dsimp only
   by_cases d:xs.getD ((lo+hi) / 2) j < j
   .rw[t7 d]
    refine ih _ _ (by omega) (by omega) hs (λi hi'=>?_) h2
    by_cases e:i=(lo+hi) / 2
    .subst e;exact d
    .exact u4g (VN hr (by omega) (by omega)) d
   .rw[j7 d]
    refine ih _ _ (by omega) (by omega) (by omega) h1 (λi hi' hz=>?_)
    by_cases e:i=(lo+hi) / 2
    .subst e;exact d
    .have:=VN (d:=j) hr (i:=(lo+hi) / 2) (k:=i) (by omega) hz
     omega
  .rw[j7 c]
   have e:lo=hi:=by omega
   subst e
   exact⟨hs,h1,h2⟩
theorem zcc {xs:Array Nat}(j:Nat)(hr:xs.toList.Pairwise (· < ·)):Bel xs j (SetTable.below xs j) :=
 zha hr xs.size 0 xs.size (t5 _) (u0D _) (t5 _) (λi h=>absurd h (u4i i)) (λi h1 h2=>absurd h2 (u4A.mpr h1))
theorem zcC {xs:Array Nat}(hr:xs.toList.Pairwise (· < ·)){i:Nat}(hi:i<=xs.size):SetTable.below xs (if i=0 then 0 else xs.getD (i - 1) 0+1)=i:=by
 obtain⟨j,hj⟩:∃ j,(if i=0 then 0 else xs.getD (i - 1) 0+1)=j:=⟨_,rfl⟩
 rw[hj]
 have b:=zcc j hr
 have gd:∀ k,k < xs.size->xs.getD k j=xs.getD k 0:=λk hk=>by simp[Array.getD,hk]
 rcases Nat.lt_trichotomy (SetTable.below xs j) i with l | e | l
 .have:=b.hi (i - 1) (by omega) (by omega)
  rw[j7 (by omega)]at hj
  rw[gd _ (by omega)]at this
  omega
 .exact e
 .have:=b.lo i l
  have hz:i < xs.size:=by have:=b.le;omega
  rw[gd _ hz]at this
  by_cases c:i=0
  .rw[t7 c]at hj;omega
  .rw[j7 c]at hj
   have:=VN (d:=0) hr (i:=i - 1) (k:=i) (by omega) hz
   omega
theorem zgo {t:SetTable}{j:Nat}(hr:t.place.toList.Pairwise (· < ·))(he:t.slot j=.empty):(SetTable.insertAt t.place (SetTable.below t.place j) j).toList.Pairwise (· < ·):=by
 have b:=zcc j hr
 have ne:=zf6 he
 generalize SetTable.below t.place j=p at b ne ⊢
 rw[SetTable.toList_insertAt]
 have at':∀ k,(hk:k < t.place.toList.length)->t.place.getD k j=t.place.toList[k]:=λk hk=>by
  rw[t9]at hk
  simp[Array.getD,hk]
 have lo:∀ a∈t.place.toList.take p,a < j:=λa ha=>by
  obtain⟨k,hk,e⟩:=List.mem_take_iff_getElem.mp ha
  have h:=b.lo k (by omega)
  rw[at' k (by omega),e]at h
  exact h
 have hi:∀ a∈t.place.toList.drop p,j < a:=λa ha=>by
  obtain⟨k,hk,e⟩:=List.mem_drop_iff_getElem.mp ha
  have hz:p+k < t.place.size:=by rw[t9]at hk;omega
  have h:=b.hi (p+k) (by omega) hz
  rw[at' _ (by rw[t9];omega),e]at h
  rcases Nat.lt_or_eq_of_le (u0s h)with l | l
  .exact l
  .exfalso
   subst l
   cases k with
   | zero =>
    refine ne ?_
    rw[<-u0V]
    exact u9.mpr ⟨by rw[t9];omega,e⟩
   | succ k =>
    have h1:=b.hi p (t5 _) (by omega)
    have h2:=VN (d:=j) hr (i:=p) (k:=p+(k+1)) (by omega) hz
    rw[at' (p+(k+1)) (by rw[t9];omega),e]at h2
    exact h1 h2
 refine List.pairwise_append.mpr ⟨hr.sublist (u2L _ _),u1g.mpr ⟨hi,hr.sublist (List.drop_sublist _ _)⟩,λa ha c hc=>?_⟩
 rcases j5.mp hc with rfl | hc
 .exact lo a ha
 .exact u4g (lo a ha) (hi c hc)
theorem zir {mask:Nat}{owner:Array (Option Nat)}:∀ (fuel i pt:Nat),(∃ j,SetTable.layClean.free mask owner fuel i pt=some j/\owner.getD j (some 0)=none)\/∀ j,(zjO mask fuel i pt).testBit j=true->owner.getD j (some 0)≠none:=by
 intro fuel
 induction fuel with
 | zero =>
  intro i pt
  refine .inr λj hj=>?_
  have:(0:Nat).testBit j=true:=hj
  rw[u2s]at this
  cases this
 | succ n ih =>
  intro i pt
  unfold SetTable.layClean.free
  cases e:(List.range (SetTable.runEnd mask i+1 - i)).find? λk=>(owner.getD (i+k) (some 0)).isNone with
  | some k =>
   refine .inl ⟨i+k,rfl,?_⟩
   exact Option.isNone_iff_eq_none.mp (List.find?_some (p:=λk=>(owner.getD (i+k) (some 0)).isNone) e)
  | none =>
   refine(ih (SetTable.leap mask i pt).1 (SetTable.leap mask i pt).2).imp id λhh j hj=>?_
   unfold zjO at hj
   rw[u3C,u1I]at hj
   rcases hj with hj | hj
   .exact hh j hj
   .rw[Nat.testBit_shiftLeft,g9,u19]at hj
    have h1:=r6 hj.1
    have h2:=r6 hj.2
    have:=List.find?_eq_none.mp e (j - i) (u1s.mpr h2)
    rw[show i+(j - i)=j by omega]at this
    intro z
    rw[z]at this
    exact this rfl
def Wh (o:Array (Option Nat)):List Nat:=o.toList.filterMap id
theorem zf1 {o:Array (Option Nat)}{j k:Nat}(h:o.getD j (some 0)=none):(Wh (o.setIfInBounds j (some k))).Perm (k::Wh o):=by
 have hj:j < o.size:=by
  refine Nat.lt_of_not_le λc=>?_
  have:o.getD j (some 0)=some 0:=by simp[Array.getD,u4A.mpr c]
  rw[this]at h
  cases h
 have hjl:j < o.toList.length:=by rw[t9];exact hj
 have e0:o.toList[j]=none:=by
  have:o.getD j (some 0)=o.toList[j]:=by simp[Array.getD,hj]
  rw[<-this];exact h
 unfold Wh
 rw[Array.toList_setIfInBounds]
 have e1:o.toList=o.toList.take j++o.toList[j]::o.toList.drop (j+1):=by rw[List.getElem_cons_drop,u18]
 have e2:o.toList.set j (some k)=o.toList.take j++some k::o.toList.drop (j+1):=List.set_eq_take_append_cons_drop.trans (t7 hjl)
 rw[e2,List.filterMap_append,u3I (f:=id) (a:=some k) (b:=k) rfl]
 refine List.perm_middle.trans (List.Perm.cons k ?_)
 have e3:o.toList.filterMap id=(o.toList.take j).filterMap id++(o.toList.drop (j+1)).filterMap id:=by
  rw[e0]at e1
  exact(u1d (List.filterMap id) e1).trans (by rw[List.filterMap_append,u3H rfl])
 rw[e3]
theorem zcR {mask:Nat}{o:Array (Option Nat)}(hz:o.size=mask+1)(h:∀ j,j<=mask->o.getD j (some 0)≠none):(Wh o).length=mask+1:=by
 unfold Wh
 have:∀ x∈o.toList,x≠none:=λx hx=>by
  obtain⟨i,hi,e⟩:=u22.mp hx
  have hi':i < o.size:=by rw[t9]at hi;exact hi
  have:=h i (by omega)
  have e2:o.getD i (some 0)=o.toList[i]:=by simp[Array.getD,hi']
  rw[e2,e]at this
  exact this
 have key:∀ l:List (Option Nat),(∀ x∈l,x≠none)->(l.filterMap id).length=l.length:=λl=>by
  induction l with
  | nil=>intro _;rfl
  | cons x l ih =>
   intro hx
   cases x with
   | none=>exact absurd rfl (hx none o0)
   | some v=>rw[u3I (f:=id) (a:=some v) (b:=v) rfl,i4,i4,ih λy hy=>hx y (d9 _ hy)]
 rw[key _ this,t9,hz]
theorem zkR {mask:Nat}(L:List Int):∀ (o:Array (Option Nat)) (k:Nat),o.size=mask+1->(Wh o).Perm (List.range k)->(∀ h∈L,zaE mask h=true)->k+L.length<=mask ->
 ∃ o',L.foldl (λ(acc:Option (Array (Option Nat) × Nat)) h=>do
  let (owner,k)<-acc
  let j<-SetTable.layClean.free mask owner (SetTable.turns mask) (SetTable.bits h % (mask+1)) (SetTable.bits h)
  pure (owner.setIfInBounds j (some k),k+1)) (some (o,k))=some (o',k+L.length)/\o'.size=mask+1/\(Wh o').Perm (List.range (k+L.length)):=by
 induction L with
 | nil=>intro o k hz hp _ _;exact⟨o,rfl,hz,hp⟩
 | cons h L ih =>
  intro o k hz hp hf hk
  rw[i4]at hk
  rcases zir (mask:=mask) (owner:=o) (SetTable.turns mask) (SetTable.bits h % (mask+1)) (SetTable.bits h)with ⟨j,e1,e2⟩ | r
  .obtain⟨o',h1,h2,h3⟩:=ih (o.setIfInBounds j (some k)) (k+1) (by rw[Array.size_setIfInBounds];exact hz) ((zf1 e2).trans (by rw[u4f];exact(List.Perm.cons k hp).trans (List.perm_append_singleton k _).symm)) (λx hx=>hf x (d9 _ hx)) (by omega)
   refine⟨o',?_,h2,by rw[i4,show k+(L.length+1)=k+1+L.length by omega];exact h3⟩
   rw[List.foldl_cons,i4,show k+(L.length+1)=k+1+L.length by omega,<- h1]
   congr 1
   show(SetTable.layClean.free mask o (SetTable.turns mask) (SetTable.bits h % (mask+1)) (SetTable.bits h)).bind _=_
   rw[e1]
   rfl
  .exfalso
   have hfull:=hf h o0
   have:=zcR hz λj hj=>r j (zco hfull hj)
   rw[hp.length_eq,u0r]at this
   omega
theorem zeK (n:Nat):Wh (Array.replicate n none)=[]:=by
 unfold Wh
 rw[Array.toList_replicate]
 induction n with
 | zero=>rfl
 | succ n ih=>rw[u08,u3H rfl,ih]
theorem zib {mask finger moves:Nat}{led plain:Bool}{L:Array Int}(hf:∀ h∈L.toList,zaE mask h=true)(hl:L.size<=mask) :
 ∃ t order,SetTable.laid mask finger moves led plain L=some (t,order)/\t.mask=mask/\t.place.toList.Pairwise (· < ·)/\t.dummies=#[]/\t.place.size=L.size/\t.led=led/\t.plain=plain/\order.toList.Perm (List.range L.size):=by
 obtain⟨o,h1,h2,h3⟩:=zkR (mask:=mask) L.toList (Array.replicate (mask+1) none) 0 (by rw[Array.size_replicate]) (by rw[zeK];exact u1k _) hf (by rw[t9];omega)
 rw[u0u,t9]at h3
 have hc:SetTable.layClean mask L=some o:=by
  unfold SetTable.layClean
  rw[<-Array.foldl_toList]
  exact u1d (Option.map (·.1)) h1
 obtain⟨live,hlive⟩:∃ live,(List.range (mask+1)).filterMap (λj=>(o.getD j none).map (j,·))=live:=⟨_,rfl⟩
 have e2:live.map (·.2)=Wh o:=by
  rw[<-hlive,List.map_filterMap]
  have:(λx=>Option.map (λy:Nat × Nat=>y.2) ((o.getD x none).map (x,·)))=λx=>o.getD x none:=by
   funext x
   cases o.getD x none <;> rfl
  rw[this]
  unfold Wh
  have e3:o.toList=(List.range (mask+1)).map λx=>o.getD x none:=by
   apply u2p
   .rw[u6,u0r,t9,h2]
   .intro i hi1 hi2
    rw[u3X,u13]
    rw[t9]at hi1
    simp[Array.getD,hi1]
  rw[e3,List.filterMap_map]
  rfl
 have e1:(live.map (·.1)).Pairwise (· < ·):=by
  have:live.map (·.1)=(List.range (mask+1)).filter λj=>(o.getD j none).isSome:=by
   rw[<-hlive,List.map_filterMap,<- List.filterMap_eq_filter]
   congr 1
   funext x
   unfold Option.guard
   dsimp only
   by_cases c:(o.getD x none).isSome=true
   .rw[t7 c]
    obtain⟨v,e⟩:=u1o.mp c
    rw[e]
    rfl
   .rw[j7 c,Option.not_isSome_iff_eq_none.mp c]
    rfl
  rw[this]
  exact List.pairwise_lt_range.filter _
 have e4:live.length=L.size:=by
  have:=u1d List.length e2
  rw[u6,h3.length_eq,u0r]at this
  exact this
 refine⟨{ mask,place:=(live.map (·.1)).toArray,dummies:=#[],finger,led,moves,plain },(live.map (·.2)).toArray,?_,rfl,e1,rfl,?_,rfl,rfl,?_⟩
 .unfold SetTable.laid
  rw[hc]
  show some (_ ,_)=_
  rw[hlive]
 .rw[q5,u6,e4]
 .show(live.map (·.2)).Perm _
  rw[e2]
  exact h3
structure ZO (led:Bool) (t:SetTable) (n:Nat):Prop where
 rise:t.place.toList.Pairwise (· < ·)
 dum:t.dummies=#[]
 msk:t.mask=7\/t.mask=31\/t.mask=127
 size:t.place.size=n
 room:n*5 < t.mask*3
 led:t.led=led
 plain:t.plain=true
def GAt (h:Heap) (a:Addr) (es:Array (Int × Value)) (ep:Nat) (t:SetTable):Prop:=h.get? a=some { cls:=.type "set",dict:=none,data:=.set es ep t,slots:=#[] }
def zda (h:Heap)(a:Addr)(led:Bool)(L:List (Int × Value)):Prop:=∃ es ep t,GAt h a es ep t/\es.toList.Perm L/\ZO led t es.size
def IsPr (h:Heap) (q:Addr) (c:Nat):Prop:=∃ o n t1 t2,h.get? q=some o/\o.cls=.type "tuple"/\o.data=.seq #[.int ((c / 8:Nat):Int) t1,.int ((c % 8:Nat):Int) t2] n
theorem ZO.fits {led:Bool}{t:SetTable}{n:Nat}(h:ZO led t n):t.fits n=true:=by
 unfold SetTable.fits SetTable.fill
 rw[h.dum,h.size]
 have:=h.room
 have e1:(n == n)=true:=u0o n
 rw[e1,Bool.true_and]
 exact r9 (by show n+0<=_;omega)
section
variable {prog:Program}{w:World}{A:Around}{E:Value->Shared->Prop}{s:Shared}
theorem x3 {a:Addr}{es:Array (Int × Value)}{ep:Nat}{t:SetTable}{led:Bool}{Q:(Array (Int × Value) × Nat × SetTable)->Shared->Prop}(ho:GAt s.heap a es ep t)(ht:ZO led t es.size)(h:Q (es,ep,t) s):wpAny (model prog w) A (setState a) Q E s:=u2g ho rfl ht.fits h
theorem zbz (n:Nat)(k:Int)(t:Tok):hashByValue n (.int k t)=pure true:=by cases n <;> rfl
theorem zhm {q:Addr}{c:Nat}{Q:Bool->Shared->Prop}(hq:IsPr s.heap q c)(h:Q true s):wpAny (model prog w) A (hashByValue 8 (.ref q)) Q E s:=by
 obtain⟨o,n,t1,t2,ho,hc,hd⟩:=hq
 have hT:s.TypeIs (.ref q) "tuple":=⟨o,ho,hc⟩
 unfold hashByValue
 refine u0 (u3o hT F.slot_tuple_hash.lookup ?_)
 dsimp only
 refine u0 (u1H ho hd ?_)
 show wpAny _ _ (forIn #[Value.int ((c / 8:Nat):Int) t1,.int ((c % 8:Nat):Int) t2] _ _>>=_) _ _ _
 refine u0 ?_
 rw[<-Array.forIn_toList]
 refine wpAny_forIn_list _ (λrest r s'=>r.1=none/\s'=s/\∀ x∈rest,∃ k t,x=Value.int k t) _ ?_ ?_ _ _ ⟨rfl,rfl,λx hx=>?_⟩
 .rintro x rest r s' ⟨hr,rfl,hx⟩
  obtain⟨k,t,rfl⟩:=hx x o0
  rw[zbz]
  refine u0 (u5 ?_)
  exact u5 ⟨rfl,rfl,λy hy=>hx y (d9 _ hy)⟩
 .rintro r s' ⟨hr,rfl,-⟩
  rw[hr]
  exact u5 h
 .rcases j5.mp hx with rfl | hx
  .exact⟨_,_,rfl⟩
  .exact⟨_,_,j8.mp hx⟩
theorem zkO (prog:Program)(w:World){h:Heap}{q:Addr}{c:Nat}(hq:IsPr h q c):IsTupleKey (intKind prog w) h [((c / 8:Nat):Int),((c % 8:Nat):Int)] q:=by
 obtain⟨o,n,t1,t2,ho,hc,hd⟩:=hq
 exact⟨o,_,n,ho,hc,hd,.cons (u3c _ _ _ _) (.cons (u3c _ _ _ _) .nil)⟩
theorem zjj {q:Addr}{c:Nat}{Q:Int->Shared->Prop}(hu:A.units < cLine)(hq:IsPr s.heap q c)(h:Q (hs c) { s with toks:=s.toks+3 }):wpAny (model prog w) A (pyHash (.ref q)) Q E s :=
 wpAny_pyHash_tuple hu (zkO prog w hq) h
def zmd (L:List (Int × Value)):Prop:=∀ e∈L,∃ c,c < 64/\e.1=hs c
theorem zdB {mask c:Nat}(hm:mask=7\/mask=31\/mask=127)(hc:c < 64):zaE mask (hs c)=true:=by
 have:=zjo ⟨c,hc⟩
 rcases hm with rfl | rfl | rfl
 .exact this.1
 .exact this.2.1
 .exact this.2.2
theorem zjw {mask:Nat}(hm:mask=7\/mask=31\/mask=127):(mask % 2 == 0)=false:=by rcases hm with rfl | rfl | rfl <;> rfl
theorem zgc {a:Addr}{es:Array (Int × Value)}{ep:Nat}{t:SetTable}{led:Bool}{c:Nat}{x:Value}{Q:SetFound->Shared->Prop}(ho:GAt s.heap a es ep t)(ht:ZO led t es.size)(hc:c < 64)(hn:∀ e∈es.toList,e.1≠hs c)
 (h:∀ j,t.slot j=.empty->Q (.free j false) s):wpAny (model prog w) A (setSearch a x (hs c) true) Q E s:=by
 unfold setSearch setSearchFrom
 refine u0 (x3 ho ht ?_)
 dsimp only
 unfold SetTable.gaveWay
 rw[zjw ht.msk]
 have hf:∀ i,i < t.place.size->(es[i]?.map (·.1)).getD 0≠hs c:=λi hi=>by
  rw[ht.size]at hi
  rw[u0p hi]
  exact hn es[i] (by rw[<-Array.getElem_toList];exact u0x _)
 obtain⟨j,e1,e2⟩:=zgd (f:=λi=>(es[i]?.map (·.1)).getD 0) ht.dum hf (zdB ht.msk hc) (by have:=ht.room;rw[ht.size];omega)
 generalize hr:t.probe _ (hs c) _=r
 have er:r=some (.empty j none):=hr.symm.trans e1
 rw[er]
 exact u5 (h j e2)
theorem zcT {t:SetTable}(hd:t.dummies=#[]):t.tooFull=decide (t.place.size*5 >= t.mask*3):=by
 unfold SetTable.tooFull SetTable.fill
 rw[hd]
 rfl
theorem zdv {mask n:Nat}(hm:mask=7\/mask=31\/mask=127)(hn:n<=63)(hr:n*5 < mask*3)(hf:(n+1)*5 >= mask*3):∃ m',SetTable.sizeAbove (SetTable.grown (n+1)) - 1=m'/\(m'=31\/m'=127)/\(n+1)*5 < m'*3/\SetTable.sizeAbove (SetTable.grown (n+1))<=1000:=by
 rcases hm with rfl | rfl | rfl
 .obtain rfl:n=4:=by omega
  exact⟨31,by decide,.inl rfl,by decide,by decide⟩
 .obtain rfl:n=18:=by omega
  exact⟨127,by decide,.inr rfl,by decide,by decide⟩
 .omega
theorem zm5 {a q:Addr}{led:Bool}{c:Nat}{L:List (Int × Value)}{Q:Bool->Shared->Prop}(hS:zda s.heap a led L)(hL:zmd L)(hl:L.length<=63)(hq:IsPr s.heap q c)(hqa:q≠a)(hc:c < 64)(hn:∀ e∈L,e.1≠hs c)
 (h:∀ h',Heap.SameBut a s.heap h'->zda h' a led (L++[(hs c,.ref q)])->Q true { s with heap:=h' }) :
 wpAny (model prog w) A (setAddHashed a (.ref q) (hs c)) Q E s:=by
 obtain⟨es,ep,t,ho,hp,ht⟩:=hS
 have hes:es.size<=63:=by rw[<-t9,hp.length_eq];exact hl
 have hnn:∀ e∈es.toList,e.1≠hs c:=λe he=>hn e (hp.mem_iff.mp he)
 unfold setAddHashed setAddHashedIn
 refine u0n (u0 (x3 ho ht ?_))
 dsimp only
 rw[show byScan (.ref q) es=false from rfl]
 simp only[u1e,↓reduceIte]
 refine u0 (zgc ho ht hc hnn λj hj=>?_)
 dsimp only
 refine u0 (x3 ho ht ?_)
 dsimp only
 obtain⟨es1,hes1⟩:∃ es1,SetTable.insertAt es (SetTable.below t.place j) (hs c,Value.ref q)=es1:=⟨_,rfl⟩
 have hp1:es1.toList.Perm (L++[(hs c,.ref q)]):=by
  rw[<-hes1]
  refine(SetTable.insertAt_perm _ _ _).trans ?_
  rw[Array.toList_push]
  exact hp.append_right _
 have hz1:es1.size=es.size+1:=by
  rw[<-t9,hp1.length_eq,d6,<- hp.length_eq,t9]
  rfl
 obtain⟨t1,ht1⟩:∃ t1:SetTable,({ t with place:=SetTable.insertAt t.place (SetTable.below t.place j) j,dummies:=#[] }:SetTable)=t1:=⟨_,rfl⟩
 have hput:t.put j=(t1,SetTable.below t.place j):=by
  unfold SetTable.put
  dsimp only
  rw[ht.dum,zbm,<- ht1]
  rfl
 have r1:t1.place.toList.Pairwise (· < ·):=by rw[<-ht1];exact zgo ht.rise hj
 have z1:t1.place.size=es.size+1:=by
  rw[<-ht1]
  show(SetTable.insertAt t.place (SetTable.below t.place j) j).size=_
  rw[<-t9,(SetTable.insertAt_perm _ _ _).length_eq,t9,Array.size_push,ht.size]
 have d1:t1.dummies=#[]:=by rw[<-ht1]
 have m1:t1.mask=t.mask:=by rw[<-ht1]
 have l1:t1.led=led:=by rw[<-ht1];exact ht.led
 have p1:t1.plain=true:=by rw[<-ht1];exact ht.plain
 rw[hput]
 dsimp only
 rw[hes1,p1]
 simp only[↓reduceIte]
 refine u0 (zhm hq ?_)
 simp only[↓reduceIte]
 refine u0 (u2S ho rfl ?_ (by rw[hz1,u1i];omega))
 have ho1:GAt (s.heap.update a (Obj.putSet es1 t1)) a es1 (ep+1) t1:=b6 (Obj.putSet es1 t1) ho rfl
 have sb1:=u06 s.heap a (Obj.putSet es1 t1)
 rw[zcT d1,z1,m1]
 by_cases cf:(es.size+1)*5 >= t.mask*3
 .rw[r9 cf]
  simp only[u3A,Bool.and_self,↓reduceIte]
  obtain⟨m',e1,e2,e3,e4⟩:=zdv ht.msk hes ht.room cf
  unfold setRelay
  have fit1:t1.fits es1.size=true:=by
   unfold SetTable.fits SetTable.fill
   rw[d1,z1,hz1,m1,u0o,Bool.true_and]
   have:=ht.room
   have:=ht.msk
   exact r9 (by show es.size+1+0<=_;omega)
  refine u0 (u0 (u2g ho1 rfl fit1 ?_))
  dsimp only
  rw[j7 (by rw[u1i];omega)]
  have hfull:∀ h∈(es1.map (·.1)).toList,zaE m' h=true:=λh hh=>by
   rw[Array.toList_map]at hh
   obtain⟨e,he,rfl⟩:=b0.mp hh
   have:∃ c,c < 64/\e.1=hs c:=by
    rcases u0X.mp (hp1.mem_iff.mp he)with z | z
    .exact hL e z
    .rw[j8.mp z];exact⟨c,hc,rfl⟩
   obtain⟨c',hc',ec⟩:=this
   rw[ec]
   exact zdB (.inr e2) hc'
  have hsz:(es1.map (·.1)).size=es1.size:=u4n ..
  obtain⟨t2,order,f1,f2,f3,f4,f5,f6,f7,f8⟩:=zib (finger:=t1.finger) (moves:=t1.movedTo m') (led:=t1.led) (plain:=t1.plain) hfull (by rw[hsz,hz1];omega)
  rw[hsz]at f5 f8
  have hrel:t1.relaid (es1.map (·.1)) (SetTable.grown (es.size+1))=some (t2,order):=by
   unfold SetTable.relaid
   rw[e1]
   exact f1
  rw[hrel]
  obtain⟨es2,hes2⟩:∃ es2,order.filterMap (es1[·]?)=es2:=⟨_,rfl⟩
  have hp2:es2.toList.Perm es1.toList:=by
   rw[<-hes2,Array.toList_filterMap]
   exact(f8.filterMap _).trans (by rw[filterMap_getElem?_range])
  have hz2:es2.size=es1.size:=by rw[<-t9,hp2.length_eq,t9]
  have hro:∀ x:Sem (Array (Int × Value) × SetTable),x=(do
   if (order.filterMap (es1[·]?)).size != es1.size then unsupported "internal:set-table-lost-an-element"
   pure (order.filterMap (es1[·]?),t2))->x=pure (es2,t2):=λx hx=>by
   rw[hx,hes2,hz2,bne_self_eq_false]
   rfl
  refine u0 (u1a (a:=(es2,t2)) (hro _ rfl) ?_)
  refine u2S ho1 rfl ?_ (by rw[hz2,hz1,u1i];omega)
  have ho2:GAt ((s.heap.update a (Obj.putSet es1 t1)).update a (Obj.putSet es2 t2)) a es2 (ep+1+1) t2:=b6 (Obj.putSet es2 t2) ho1 rfl
  have sb2:=u06 (s.heap.update a (Obj.putSet es1 t1)) a (Obj.putSet es2 t2)
  refine u5 (h _ (sb1.trans sb2) ⟨es2,_,t2,ho2,hp2.trans hp1,f3,f4,.inr (by rw[f2];exact e2),by rw[f5,hz2],by rw[hz2,hz1,f2];exact e3,by rw[f6];exact l1,by rw[f7];exact p1⟩)
 .rw[p6 cf]
  simp only[u3A,u1Z,u1e,↓reduceIte]
  refine u5 (h _ sb1 ⟨es1,ep+1,t1,ho1,hp1,r1,d1,by rw[m1];exact ht.msk,by rw[z1,hz1],by rw[hz1,m1];omega,l1,p1⟩)
end
def rowsTo (cd:Nat->Nat)(qa:Nat->Addr)(i:Nat):List (Int × Value):=(List.range i).map λk=>(hs (cd k),Value.ref (qa k))
theorem zbE (cd:Nat->Nat)(qa:Nat->Addr)(i:Nat):rowsTo cd qa (i+1)=rowsTo cd qa i++[(hs (cd i),.ref (qa i))]:=by
 unfold rowsTo
 rw[u4f,i6]
 rfl
theorem rowsTo_len (cd:Nat->Nat)(qa:Nat->Addr)(i:Nat):(rowsTo cd qa i).length=i:=by
 unfold rowsTo
 rw[u6,u0r]
theorem IsPr.at {h h':Heap}{q:Addr}{c:Nat}(x:IsPr h q c)(k:∀ o,h.get? q=some o->h'.get? q=some o):IsPr h' q c:=by
 obtain⟨o,n,t1,t2,e,r⟩:=x
 exact⟨o,n,t1,t2,k _ e,r⟩
theorem zda.at {h h':Heap}{a:Addr}{led:Bool}{L:List (Int × Value)}(x:zda h a led L)(k:∀ o,h.get? a=some o->h'.get? a=some o):zda h' a led L:=by
 obtain⟨es,ep,t,e,r⟩:=x
 exact⟨es,ep,t,k _ e,r⟩
theorem zeI (h:Heap) (led:Bool) {a:Addr} (e:h.get? a=some { cls:=.type "set",dict:=none,data:=.set #[] 0 (.fresh 0 0 led) }):zda h a led []:=⟨#[],0,.fresh 0 0 led,e,u1k _,List.Pairwise.nil,rfl,.inl rfl,rfl,(by show 0*5 < 7*3;decide),rfl,rfl⟩
section
variable {prog:Program}{w:World}{A:Around}{R:Result->Shared->Prop}{I:Addr}{fp wr:List Addr}{G:Array GenState->Array GenState->Prop}{n:Nat}{P:Nat->Value->Prop}{St:Nat->Shared->Prop}
theorem zfg (W:WalksS prog w A.in1 I fp wr G n P St)(S:Addr)(led:Bool)(hSf:S∉fp)(hu:A.units+1 < cLine)(cd:Nat->Nat)(qa:Nat->Addr)(h64:∀ i,cd i < 64)(hinj:∀ i j,i < j->j < n->cd i≠cd j)(hn:n<=64)(hval:∀ i v,P i v->v=.ref (qa i))(hqa:∀ i,i < n->qa i∉S::wr) :
 ∀ (k i:Nat) (s:Shared),n - i=k->i<=n->St i s->(∀ j,j < n->IsPr s.heap (qa j) (cd j))->zda s.heap S led (rowsTo cd qa i) ->
  (∀ s',Moved (S::wr) G s s'->zda s'.heap S led (rowsTo cd qa n)->R (.ok (.ret .none)) s') ->
  codeAny (model prog w) A (.builtin "set.update.loop" ⟨[.ref S,.ref I],[]⟩) R s:=by
 have hSw:S∉wr:=λh=>hSf (W.sub _ h)
 have hsub:∀ b∈wr,b∈S::wr:=λb hb=>d9 _ hb
 intro k
 induction k with
 | zero =>
  intro i s hk hi hst hT hS hR
  obtain rfl:i=n:=by omega
  refine u0O u04 ?_
  rw[u0v u0q _]
  show wpAny _ A.in1 (pyNext (.ref I)>>=_) _ _ s
  refine u0 (W.done s _ _ hst λs' hm=>?_)
  show wpAny _ A.in1 (ret Value.none) _ _ s'
  exact u5 (hR s' (hm.mono hsub) (hS.at λo e=>hm.heap S o hSw e))
 | succ k ih =>
  intro i s hk hi hst hT hS hR
  have hlt:i < n:=by omega
  refine u0O u04 ?_
  rw[u0v u0q _]
  show wpAny _ A.in1 (pyNext (.ref I)>>=_) _ _ s
  refine u0 (W.item i s _ _ hlt hst λv s' hP hst' hm=>?_)
  obtain rfl:=hval i v hP
  have hS':zda s'.heap S led (rowsTo cd qa i):=hS.at λo e=>hm.heap S o hSw e
  have hT':∀ j,j < n->IsPr s'.heap (qa j) (cd j):=λj hj=>(hT j hj).at λo e=>hm.heap _ o (λz=>hqa j hj (d9 _ z)) e
  show wpAny _ A.in1 (holding [Value.ref (qa i)] (setAdd S (.ref (qa i)))>>=_) _ _ s'
  refine u0 (u0n ?_)
  unfold setAdd
  refine u0n ?_
  refine u0 (zjj hu (hT' i hlt) ?_)
  have hne:qa i≠S:=λe=>hqa i hlt (by rw[e];exact o0)
  refine zm5 (s:={ s' with toks:=s'.toks+3 }) hS' (λe he=>?_) (by rw[rowsTo_len];omega) (hT' i hlt) hne (h64 i) (λe he=>?_) λh' hsb hS2=>?_
  .obtain⟨j,_,rfl⟩:=b0.mp he
   exact⟨cd j,h64 j,rfl⟩
  .obtain⟨j,hj,rfl⟩:=b0.mp he
   exact λz=>hinj j i (u1s.mp hj) hlt (zka (h64 j) (h64 i) z)
  rw[<-zbE]at hS2
  refine u5 ⟨u1D u0q _,ih (i+1) _ (by omega) hlt (W.frame _ s' _ _ hst' (u0C _ _) λb hb o e=>?_) (λj hj=>(hT' j hj).at λo e=>?_) hS2 λs'' hm'' hS''=>?_⟩
  .rw[hsb.2 b (λh:b=S=>hSf (by rw[<-h];exact hb))];exact e
  .rw[hsb.2 (qa j) (λh:qa j=S=>hqa j hj (by rw[h];exact o0))];exact e
  .refine hR s'' (Moved.trans W.gtrans ((hm.mono hsub).then_heap (u0C _ _) λb o hb e=>?_) hm'') hS''
   rw[hsb.2 b (λh:b=S=>hb (by rw[h];exact o0))];exact e
end
section
variable {prog:Program}{w:World}{A:Around}{E:Value->Shared->Prop}{s:Shared}
theorem ziK {l a:Addr} {items:Array Value} {led:Bool} {cd:Nat->Nat} {qa:Nat->Addr} {R:Result->Shared->Prop} (hh:A.handled=none) (hu:A.units+8 < cLine) (hS:s.heap.get? a=some { cls:=.type "set",dict:=none,data:=.set #[] 0 (.fresh 0 0 led) })
 (hl:s.heap.IsTuple l items\/s.heap.IsList l items) (hla:l≠a) (h64:∀ i,cd i < 64) (hinj:∀ i j,i < j->j < items.size->cd i≠cd j) (hn:items.size<=64) (hval:∀ (i:Nat) (v:Value),items[i]?=some v->v=.ref (qa i))
 (hqa:∀ i,i < items.size->qa i≠a/\IsPr s.heap (qa i) (cd i))
 (h:∀ (h':Heap) (tk:Nat),zda h' a led (rowsTo cd qa items.size)->(∀ b o,b≠a->b < s.heap.objs.size->s.heap.get? b=some o->h'.get? b=some o)->R (.ok (.ret .none)) { s with heap:=h',toks:=tk }) :
 wpAny (model prog w) A.in1 (Builtin.«set.__init__» ⟨[.ref a,.ref l],[]⟩) (λfin s'=>match fin with | .done f=>R (.ok f) s' | .again c'=>c'.quiet=true/\codeAny (model prog w) A c' R s') (λe s'=>R (.error e) s') s:=by
 have hT:s.TypeIs (.ref a) "set":=⟨_,hS,rfl⟩
 have haS:a < s.heap.objs.size:=t4 hS
 have lt:∀ i,i < items.size->qa i < s.heap.objs.size:=λi hi=>by obtain⟨_,o,n,t1,t2,e,_⟩:=hqa i hi;exact t4 e
 have fin:∀ (s':Shared),s'.gens=s.gens->s'.drawn=s.drawn->s'.os=s.os->zda s'.heap a led (rowsTo cd qa items.size)->(∀ b o,b≠a->b < s.heap.objs.size->s.heap.get? b=some o->s'.heap.get? b=some o)->R (.ok (.ret .none)) s':=λs' e1 e2 e3 S k=>by
  obtain⟨h',g',d',tk',os'⟩:=s'
  have eg:g'=s.gens:=e1
  have ed:d'=s.drawn:=e2
  have eo:os'=s.os:=e3
  subst eg ed eo
  exact h h' tk' S k
 have hh3:A.in1.in1.handled=none:=by simp[hh]
 rcases hl with hl | hl
 .obtain⟨ol,hol,hcl,nl,hdl⟩:=id hl
  obtain⟨ocls,odict,odata,oslots⟩:=ol
  simp only at hcl hdl
  subst hcl hdl
  have hsls:=F.sub_tuple_set
  have hslf:=F.sub_tuple_frozenset
  have hne:(Value.type "tuple" == Value.type "dict")=false:=by decide
  have hlS:l < s.heap.objs.size:=t4 hol
  unfold Builtin.«set.__init__» noKeywords Builtin.Frozenset.updateFrom
  generalize hPI:pyIter=PI
  wp_walk
  subst hPI
  refine u0S hl ?_
  refine u0 (u2o ?_)
  refine zfg ((Walks.tuple hh3 _ l (j9 hlS) items).toS) a led (λhm=>?_) (by show A.units+1+1 < _;omega) cd qa h64 hinj hn hval (λi hi hm=>?_) items.size 0 _ rfl (u0D _) ⟨⟨_,t6 _ rfl,rfl,rfl⟩,hl.push _⟩ (λj hj=>(hqa j hj).2.at λo e=>u3 _ e) (zeI _ led (u3 _ hS)) λs' hm hS'=>?_
  .rcases j5.mp hm with e | e
   .exact j9 haS e
   .exact hla (j8.mp e).symm
  .rcases j5.mp hm with e | e
   .exact(hqa i hi).1 e
   .exact j9 (lt i hi) (j8.mp e)
  .show wpAny _ _ _ _ _ _
   refine u5 ?_
   show wpAny _ _ (ret Value.none) _ _ _
   refine u5 (fin s' hm.gens hm.drawn hm.os hS' λb o hb hlt e=>hm.heap b o (λhmem=>?_) (u3 _ e))
   rcases j5.mp hmem with z | z
   .exact hb z
   .exact j9 hlt (j8.mp z)
 .obtain⟨ol,hol,hcl,nl,hdl⟩:=id hl
  obtain⟨ocls,odict,odata,oslots⟩:=ol
  simp only at hcl hdl
  subst hcl hdl
  have hsls:=F.sub_list_set
  have hslf:=F.sub_list_frozenset
  have hne:(Value.type "list" == Value.type "dict")=false:=by decide
  have hlS:l < s.heap.objs.size:=t4 hol
  unfold Builtin.«set.__init__» noKeywords Builtin.Frozenset.updateFrom
  generalize hPI:pyIter=PI
  wp_walk
  subst hPI
  refine u1j hl ?_
  refine u0 (u2o ?_)
  refine zfg ((Walks.list hh3 _ l (j9 hlS) items).toS) a led (λhm=>?_) (by show A.units+1+1 < _;omega) cd qa h64 hinj hn hval (λi hi hm=>?_) items.size 0 _ rfl (u0D _) ⟨⟨_,t6 _ rfl,rfl,rfl⟩,hl.push _⟩ (λj hj=>(hqa j hj).2.at λo e=>u3 _ e) (zeI _ led (u3 _ hS)) λs' hm hS'=>?_
  .rcases j5.mp hm with e | e
   .exact j9 haS e
   .exact hla (j8.mp e).symm
  .rcases j5.mp hm with e | e
   .exact(hqa i hi).1 e
   .exact j9 (lt i hi) (j8.mp e)
  .show wpAny _ _ _ _ _ _
   refine u5 ?_
   show wpAny _ _ (ret Value.none) _ _ _
   refine u5 (fin s' hm.gens hm.drawn hm.os hS' λb o hb hlt e=>hm.heap b o (λhmem=>?_) (u3 _ e))
   rcases j5.mp hmem with z | z
   .exact hb z
   .exact j9 hlt (j8.mp z)
set_option maxHeartbeats 4000000 in
theorem sp_call {l:Addr}{items:Array Value}{cd:Nat->Nat}{qa:Nat->Addr}{Q:Value->Shared->Prop}(hh:A.handled=none)(hu:A.units+64 < cLine)(hl:s.heap.IsTuple l items\/s.heap.IsList l items)(h64:∀ i,cd i < 64)(hinj:∀ i j,i < j->j < items.size->cd i≠cd j)(hn:items.size<=64)(hval:∀ (i:Nat) (v:Value),items[i]?=some v->v=.ref (qa i))(hqa:∀ i,i < items.size->IsPr s.heap (qa i) (cd i))
 (h:∀ (h':Heap) (tk:Nat),zda h' s.heap.objs.size (OwnSet.ledOf w) (rowsTo cd qa items.size)->(∀ b o,s.heap.get? b=some o->h'.get? b=some o)->Q (.ref s.heap.objs.size) { s with heap:=h',toks:=tk }) :
 wpAny (model prog w) A (call (.type "set") [.ref l]) Q E s:=by
 obtain⟨c,tl,hmro⟩:=u0W.mro
 have hmade:=u0W.made
 have hsub:=u0W.sub
 refine wpAny_call (codeAny_of_tree ?_)
 show wpAny _ _ (callAny (.type "set") _) _ _ _
 refine u5 ⟨Code.quiet_builtin _ (by decide +kernel),u0O F.entry_type_call ?_⟩
 rw[Around.under_plain (weight_type_call_type "set" [.ref l] []) rfl]
 have h1:=u0W.notType
 have h2:=u0W.canCreate
 have hct:=F.typeCall_set_1 (.ref l)
 repeat (any_goals (first | assumption | wp_step))
 refine u2y (OwnSet.own_set_new (.ref l) (E:=E) (Q1:=λobj s1=>obj=.ref s.heap.objs.size/\s1={ s with heap:=s.heap.push { cls:=.type "set",dict:=none,data:=.set #[] 0 (.fresh 0 0 (OwnSet.ledOf w)) } }) ⟨rfl,rfl⟩) λr s1 hr=>?_
 cases r with
 | error e=>exact hr
 | ok fl =>
  cases fl with
  | ret obj =>
   obtain⟨rfl,rfl⟩:=hr
   have hS:(s.heap.push { cls:=.type "set",dict:=none,data:=.set #[] 0 (.fresh 0 0 (OwnSet.ledOf w)) }).get? s.heap.objs.size=some { cls:=.type "set",dict:=none,data:=.set #[] 0 (.fresh 0 0 (OwnSet.ledOf w)) }:=t6 _ rfl
   have hT:Shared.TypeIs { s with heap:=s.heap.push { cls:=.type "set",dict:=none,data:=.set #[] 0 (.fresh 0 0 (OwnSet.ledOf w)) } } (.ref s.heap.objs.size) "set":=⟨_,hS,rfl⟩
   have hli:=u0W.init.lookup
   have hbi:=u0W.init.bind (.ref s.heap.objs.size)
   repeat (any_goals (first | assumption | wp_step))
   refine u2y (codeAny_call_builtin (R:=wants (λr s2=>r=.none/\∃ h' tk,s2={ s with heap:=h',toks:=tk }/\zda h' s.heap.objs.size (OwnSet.ledOf w) (rowsTo cd qa items.size)/\∀ b o,s.heap.get? b=some o->h'.get? b=some o) E) u0W.init.plain F.entry_set_init (check_set_init_1 hT ?_)) λr2 s2 hr2=>?_
   .have hll:l < s.heap.objs.size:=by rcases hl with ⟨o,ho,_⟩ | ⟨o,ho,_⟩ <;> exact t4 ho
    refine ziK (by simp[hh]) (by show A.units+1+8 < cLine;omega) hS (hl.imp (·.push _) (·.push _)) (j9 hll) h64 hinj hn hval (λi hi=>⟨λe=>?_,(hqa i hi).at λo e=>u3 _ e⟩) λh' tk S k=>⟨rfl,h',tk,rfl,S,λb o e=>k b o (j9 (t4 e)) ?_ (u3 _ e)⟩
    .obtain⟨o,n,t1,t2,e2,_⟩:=hqa i hi
     exact j9 (t4 e2) e
    .rw[u0w]
     exact u01 (t4 e)
   .cases r2 with
    | error e=>exact hr2
    | ok fl2 =>
     cases fl2 with
     | ret r =>
      obtain⟨rfl,h',tk,rfl,S,k⟩:=hr2
      repeat (any_goals (first | assumption | wp_step))
      exact h _ _ S k
     | _=>exact hr2.elim
  | _=>exact hr.elim
end
end OwnSetP
namespace OwnSetP
open PySem OwnSet
section
variable {prog:Program}{w:World}{A:Around}{E:Value->Shared->Prop}{s:Shared}
theorem GAt.at {h h':Heap}{a:Addr}{es:Array (Int × Value)}{ep:Nat}{t:SetTable}(x:GAt h a es ep t)(k:∀ o,h.get? a=some o->h'.get? a=some o):GAt h' a es ep t:=k _ x
theorem Yw {a:Addr}{es:Array (Int × Value)}{ep:Nat}{t:SetTable}{led:Bool}{Q:Value->Shared->Prop}(hm:ZO led t es.size)(hS:GAt s.heap a es ep t)
 (h:Q (.ref s.heap.objs.size) { s with heap:=s.heap.push { cls:=.type "set_iterator",data:=.fields #[rawInt ((0:Nat):Int),rawInt ((0:Nat):Int),.ref a,rawInt (es.size:Int),rawInt (ep:Int)] } }) :
 wpAny (model prog w) A (pyIter (.ref a)) Q E s:=by
 have hT:s.TypeIs (.ref a) "set":=⟨_,hS,rfl⟩
 obtain⟨mk,pl,du,fi,le,mo,pn⟩:=t
 obtain rfl:pn=true:=hm.plain
 refine u2R hT u3f (u0a u3f hT Y1 ?_ (F.args_set_iter_1 _))
 unfold Builtin.«frozenset.__iter__»
 refine u0 (u1a (a:=a) rfl ?_)
 unfold Builtin.Frozenset.sizeOf setEntries
 refine u0 (u0 (u0 (x3 hS hm (u5 (u5 ?_)))))
 unfold setDrawn
 refine u0 (u0 (x3 hS hm ?_))
 dsimp only
 unfold setsByText
 refine u0 (u0 (u0t (u5 ?_)))
 refine u5 ?_
 dsimp only
 split
 .rename_i hd
  exact absurd hd (zan _ _)
 .refine u0 (u5 ?_)
  unfold setEpoch
  refine u0 (u0 (x3 hS hm (u5 ?_)))
  dsimp only
  refine u0 (i9 (u5 ⟨_,rfl,"set_iterator",_,⟨_,t6 _ rfl,rfl⟩,wG.lookup,?_⟩))
  exact h
def yK (w:World) (a:Addr) (es:Array (Int × Value)) (ep:Nat):Array (Int × Value):=if w.params.followText "set-order"=true then pickOrder (w.params.setOrder a ep) es else es
def slotAt (w:World) (t:SetTable) (i:Nat):Nat:=if w.params.followText "set-order"=true then 0 else if i=0 then 0 else t.place.getD (i - 1) 0+1
theorem Y4 {a:Addr}{es:Array (Int × Value)}{ep i:Nat}{t:SetTable}{e:Int × Value}{Q:Option (Value × Nat)->Shared->Prop}(hm:ZO (ledOf w) t es.size)(hS:GAt s.heap a es ep t)(hi:i < es.size)(he:(yK w a es ep)[i]?=some e)
 (h:Q (some (e.2,slotAt w t (i+1))) s):wpAny (model prog w) A (setNext a (slotAt w t i) i ep) Q E s:=by
 obtain⟨mk,pl,du,fi,le,mo,pn⟩:=t
 obtain rfl:pn=true:=hm.plain
 obtain rfl:le=ledOf w:=hm.led
 unfold setNext
 refine u0 (x3 hS hm ?_)
 dsimp only
 unfold setsByText
 refine u0 (u0 (u0t (u5 ?_)))
 dsimp only
 unfold yK at he
 unfold slotAt at h ⊢
 by_cases bt:w.params.followText "set-order"=true
 .have bt':(model prog w).w.params.followText "set-order"=true:=bt
  rw[t7 bt]at he h ⊢
  rw[t7 bt']
  rw[j7 (by simp)]
  unfold setWalk
  refine u0 (u0 (x3 hS hm ?_))
  dsimp only
  unfold setsByText
  refine u0 (u0 (u0t (u5 ?_)))
  dsimp only
  rw[t7 bt']
  refine u0 (u0t (u5 ?_))
  refine u5 ?_
  show Q (((pickOrder (w.params.setOrder a ep) es)[i]?).map λe=>(e.2,0)) s
  rw[he]
  exact h
 .have bt':¬ (model prog w).w.params.followText "set-order"=true:=bt
  rw[j7 bt]at he h ⊢
  rw[j7 bt']
  have hb:=zcC hm.rise (i:=i) (by rw[hm.size];exact u0R hi)
  have hl:ledOf w=true:=by unfold ledOf;rw[u2J.mpr bt];rfl
  rw[hl]
  split
  .rename_i hd
   exact absurd hd (YB _)
  .refine u0 (u1a (a:=()) rfl ?_)
   refine u5 ?_
   show Q (match es[SetTable.below pl (if i=0 then 0 else pl.getD (i - 1) 0+1)]?,pl[SetTable.below pl (if i=0 then 0 else pl.getD (i - 1) 0+1)]? with | some (_,x),some j=>some (x,j+1) | _,_=>none) s
   rw[hb,he,show pl[i]?=some (pl.getD i 0) by have hz:pl.size=es.size:=hm.size;simp[hz,hi]]
   rw[j7 (Nat.succ_ne_zero i)]at h
   exact h
end
theorem YL (w:World)(a:Addr)(es:Array (Int × Value))(ep:Nat):(yK w a es ep).toList.Perm es.toList:=by
 unfold yK
 split
 .exact VX _ _
 .exact u1k _
theorem wV (w:World)(a:Addr)(es:Array (Int × Value))(ep:Nat):(yK w a es ep).size=es.size:=by
 rw[<-t9,(YL w a es ep).length_eq,t9]
section
variable {prog:Program}{w:World}{A:Around}{E:Value->Shared->Prop}{s:Shared}
theorem wA {a:Addr}{es:Array (Int × Value)}{ep:Nat}{t:SetTable}{Q:Option (Value × Nat)->Shared->Prop}(hm:ZO (ledOf w) t es.size)(hS:GAt s.heap a es ep t)(h:Q none s):wpAny (model prog w) A (setNext a (slotAt w t es.size) es.size ep) Q E s:=by
 have he:(yK w a es ep)[es.size]?=none:=u2H (by rw[wV];exact t5 _)
 obtain⟨mk,pl,du,fi,le,mo,pn⟩:=t
 obtain rfl:pn=true:=hm.plain
 obtain rfl:le=ledOf w:=hm.led
 unfold setNext
 refine u0 (x3 hS hm ?_)
 dsimp only
 unfold setsByText
 refine u0 (u0 (u0t (u5 ?_)))
 dsimp only
 unfold yK at he
 unfold slotAt
 by_cases bt:w.params.followText "set-order"=true
 .have bt':(model prog w).w.params.followText "set-order"=true:=bt
  rw[t7 bt]at he ⊢
  rw[t7 bt',j7 (by simp)]
  unfold setWalk
  refine u0 (u0 (x3 hS hm ?_))
  dsimp only
  unfold setsByText
  refine u0 (u0 (u0t (u5 ?_)))
  dsimp only
  rw[t7 bt']
  refine u0 (u0t (u5 ?_))
  refine u5 ?_
  show Q (((pickOrder (w.params.setOrder a ep) es)[es.size]?).map λe=>(e.2,0)) s
  rw[he]
  exact h
 .have bt':¬ (model prog w).w.params.followText "set-order"=true:=bt
  rw[j7 bt]at he ⊢
  rw[j7 bt']
  have hb:=zcC hm.rise (i:=es.size) (by rw[hm.size];exact t5 _)
  have hl:ledOf w=true:=by unfold ledOf;rw[u2J.mpr bt];rfl
  rw[hl]
  split
  .rename_i hd
   exact absurd hd (YB _)
  .refine u0 (u1a (a:=()) rfl ?_)
   refine u5 ?_
   show Q (match es[SetTable.below pl (if es.size=0 then 0 else pl.getD (es.size - 1) 0+1)]?,pl[SetTable.below pl (if es.size=0 then 0 else pl.getD (es.size - 1) 0+1)]? with | some (_,x),some j=>some (x,j+1) | _,_=>none) s
   rw[hb,he]
   exact h
theorem Zb {I a:Addr}{es:Array (Int × Value)}{ep i:Nat}{t:SetTable}{e:Int × Value}{Q:Option Value->Shared->Prop}(hm:ZO (ledOf w) t es.size)(hI:wI s.heap I a (slotAt w t i) i es.size ep)(hS:GAt s.heap a es ep t)(hi:i < es.size)(he:(yK w a es ep)[i]?=some e)
 (hQ:∀ h',wI h' I a (slotAt w t (i+1)) (i+1) es.size ep->Heap.SameBut I s.heap h'->Q (some e.2) { s with heap:=h' }):wpAny (model prog w) A (pyNext (.ref I)) Q E s:=by
 have hT:s.TypeIs (.ref I) "set_iterator":=⟨_,hI,rfl⟩
 unfold pyNext
 refine u0 (u1r (u0b (name:=Str.ofString "__next__") hT wG (u0a wG hT wo ?_ (wZ _))))
 unfold Builtin.«set_iterator.__next__»
 refine u0 (u1a (a:=(Value.ref I,[])) rfl ?_)
 try dsimp only
 refine u0 (u2n hI rfl ?_)
 show wpAny _ _ (setEntries a>>=_) _ _ s
 unfold setEntries
 refine u0 (u0 (x3 hS hm (u5 ?_)))
 dsimp only
 rw[j7 (by simp)]
 show wpAny _ _ (setNext a ((slotAt w t i:Int)).toNat ((i:Int)).toNat ((ep:Int)).toNat>>=_) _ _ s
 rw[i5,i5,i5]
 refine u0 (Y4 hm hS hi he ?_)
 dsimp only
 refine u0 (u0G hI (by simp) λh1 he1 hs1=>?_)
 refine u0 (u0G he1 (by simp) λh2 he2 hs2=>?_)
 exact u5 ⟨_,rfl,u5 (hQ h2 he2 (hs1.trans hs2))⟩
theorem ZT {I a:Addr}{es:Array (Int × Value)}{ep:Nat}{t:SetTable}{Q:Option Value->Shared->Prop}(hh:A.handled=none)(hm:ZO (ledOf w) t es.size)(hI:wI s.heap I a (slotAt w t es.size) es.size es.size ep)(hS:GAt s.heap a es ep t)
 (hQ:∀ h',Heap.ExtBut I s.heap h'->Q none { s with heap:=h' }):wpAny (model prog w) A (pyNext (.ref I)) Q E s:=by
 have hT:s.TypeIs (.ref I) "set_iterator":=⟨_,hI,rfl⟩
 unfold pyNext
 refine u0 (u1r (u0b (name:=Str.ofString "__next__") hT wG (u0a wG hT wo ?_ (wZ _))))
 unfold Builtin.«set_iterator.__next__»
 refine u0 (u1a (a:=(Value.ref I,[])) rfl ?_)
 try dsimp only
 refine u0 (u2n hI rfl ?_)
 show wpAny _ _ (setEntries a>>=_) _ _ s
 unfold setEntries
 refine u0 (u0 (x3 hS hm (u5 ?_)))
 dsimp only
 rw[j7 (by simp)]
 show wpAny _ _ (setNext a ((slotAt w t es.size:Int)).toNat ((es.size:Int)).toNat ((ep:Int)).toNat>>=_) _ _ s
 rw[i5,i5,i5]
 refine u0 (wA hm hS ?_)
 dsimp only
 refine u0 (u0G hI (by simp) λh1 he1 hs1=>?_)
 refine u0 ?_
 simp only[newExc,newTuple]
 refine u0 (i9 ?_ (by size_fits))
 refine u0 (m:=firstArgMember _ _) (u1a (a:=Value.none) (by first | rfl | (simp only[firstArgMember];rfl)) ?_)
 refine i9 ?_ (by size_fits)
 simp only[raiseNew]
 refine u0 (u3T ?_)
 first | rw[show A.in1.handled=none from hh] | rw[hh]
 refine u0 (u5 (wpAny_throw ?_))
 refine u0 (u1B (T:="StopIteration") (b:=true) ⟨_,t6 _ rfl,rfl⟩ u2U ?_)
 exact u5 (hQ _ ((hs1.extBut.push _).push _))
theorem Yz (hh:A.handled=none)(I a:Addr)(hne:a≠I){es:Array (Int × Value)}{ep:Nat}{t:SetTable}(hm:ZO (ledOf w) t es.size) :
 Walks prog w A I [I,a] [I] es.size (λi v=>∃ e,(yK w a es ep)[i]?=some e/\v=e.2) (λi h=>i<=es.size/\wI h I a (slotAt w t i) i es.size ep/\GAt h a es ep t) where
 sub:=λb hb=>by simp at hb;simp[hb]
 frame:=λ_ _ _ x hk=>by
  obtain⟨h1,h2,h3⟩:=x
  exact⟨h1,hk I (by simp) _ h2,GAt.at h3 λo e=>hk a (by simp) o e⟩
 item:=λi s Q E hi x hQ=>by
  obtain⟨h1,h2,h3⟩:=x
  have hx:(yK w a es ep)[i]?=some ((yK w a es ep)[i]'(by rw[wV];exact hi)):=u0p _
  refine Zb hm h2 h3 hi hx λh' he' hs'=>?_
  exact hQ _ h' s.toks ⟨_,hx,rfl⟩ ⟨hi,he',GAt.at h3 λo e=>(hs'.2 a hne).trans e⟩ λb o hb eo=>hs'.extBut b o (λh=>hb (by simp[h])) eo
 done:=λs Q E x hQ=>by
  obtain⟨h1,h2,h3⟩:=x
  exact ZT hh hm h2 h3 λh' he'=>hQ h' s.toks λb o hb eo=>he' b o (λh=>hb (by simp[h])) eo
 self:=λ_ _ _ _ x hQ=>X6 x.2.1 hQ
theorem Yi {a:Addr}{es:Array (Int × Value)}{ep:Nat}{t:SetTable}{Q:Bool->Shared->Prop}(hS:GAt s.heap a es ep t)(hQ:Q false s):wpAny (model prog w) A (Builtin.List.listLengthHint (.ref a)) Q E s:=by
 have hT:s.TypeIs (.ref a) "set":=⟨_,hS,rfl⟩
 unfold Builtin.List.listLengthHint
 refine u0 (u3o hT F.slot_set_len.lookup ?_)
 try dsimp only
 have hsp:splitId "set.__len__"=some ("set","__len__"):=by decide +kernel
 rw[hsp]
 try dsimp only
 refine u0 (u1B (T:="set") (b:=true) hT sub_set_self ?_)
 rw[j7 (by decide)]
 show wpAny _ _ (if true=true then _ else _) _ _ _
 rw[t7 rfl]
 refine u0 (u1U hT ?_)
 dsimp only
 exact u5 hQ
theorem wE {a:Addr}{es:Array (Int × Value)}{ep:Nat}{t:SetTable}{Q:List Value->Shared->Prop}(hh:A.handled=none)(hm:ZO (ledOf w) t es.size)(hS:GAt s.heap a es ep t)
 (hQ:∀ s',(∀ b o,s.heap.get? b=some o->s'.heap.get? b=some o)->s'.gens=s.gens->s'.drawn=s.drawn->s'.os=s.os->Q ((yK w a es ep).toList.map (·.2)) s'):wpAny (model prog w) A (collect (.ref a)) Q E s:=by
 have hlt:a < s.heap.objs.size:=t4 hS
 have hSa:s.heap.objs.size≠a:=u1S hlt
 have h8:es.size<=sizeLine:=by have:=hm.room;have:=hm.msk;rw[u1i];omega
 unfold collect
 refine u0 (u2o (u0O u2V ?_))
 rw[u0v u2W _]
 show wpAny _ A.in1 (newList []>>=λl=>again (.builtin "list.__iadd__" ⟨[l,.ref a],[]⟩)) _ _ s
 refine u0 (i9 ?_)
 refine u5 ⟨u1D u1J _,u0O u3E ?_⟩
 rw[u0v u1J _]
 have hS1:GAt (s.heap.push { cls:=.type "list",data:=.seq ([]:List Value).toArray }) a es ep t:=u3 _ hS
 have hL1:(s.heap.push { cls:=.type "list",data:=.seq ([]:List Value).toArray }).get? s.heap.objs.size=some { cls:=.type "list",data:=.seq ([]:List Value).toArray }:=t6 _ rfl
 generalize hh1:s.heap.push { cls:=.type "list",data:=.seq ([]:List Value).toArray }=h1 at hS1 hL1 ⊢
 have k1:∀ b o,s.heap.get? b=some o->h1.get? b=some o:=λb o e=>by rw[<-hh1];exact u3 _ e
 have hz1:h1.objs.size=s.heap.objs.size+1:=by rw[<-hh1];exact u0w ..
 show wpAny _ A.in1 (Builtin.List.listExtendWith (.ref s.heap.objs.size) (.ref a) (.ref s.heap.objs.size)) _ _ _
 unfold Builtin.List.listExtendWith
 refine u0 (u1U (T:="set") ⟨_,hS1,rfl⟩ ?_)
 have g1:Builtin.List.listSameRef (.ref s.heap.objs.size) (.ref a)=false:=by simp[Builtin.List.listSameRef,hSa]
 have g2:(Value.type "set" == Value.type "list")=false:=by decide
 have g3:(Value.type "set" == Value.type "tuple")=false:=by decide
 simp only[g1,g2,g3,u3Q,u1e,u29]
 refine u0 (Yw hm hS1 ?_)
 have hI2:wI (h1.push { cls:=.type "set_iterator",data:=.fields #[rawInt ((0:Nat):Int),rawInt ((0:Nat):Int),.ref a,rawInt (es.size:Int),rawInt (ep:Int)] }) h1.objs.size a 0 0 es.size ep:=t6 _ rfl
 have hS2:GAt (h1.push { cls:=.type "set_iterator",data:=.fields #[rawInt ((0:Nat):Int),rawInt ((0:Nat):Int),.ref a,rawInt (es.size:Int),rawInt (ep:Int)] }) a es ep t:=u3 _ hS1
 have hL2:=u3 { cls:=.type "set_iterator",data:=.fields #[rawInt ((0:Nat):Int),rawInt ((0:Nat):Int),.ref a,rawInt (es.size:Int),rawInt (ep:Int)] } hL1
 generalize hh2:h1.push { cls:=.type "set_iterator",data:=.fields #[rawInt ((0:Nat):Int),rawInt ((0:Nat):Int),.ref a,rawInt (es.size:Int),rawInt (ep:Int)] }=h2 at hI2 hS2 hL2 ⊢
 have k2:∀ b o,h1.get? b=some o->h2.get? b=some o:=λb o e=>by rw[<-hh2];exact u3 _ e
 refine u0 (u0n (Yi hS2 ?_))
 show wpAny _ A.in1 (if true=true then _ else _) _ _ _
 rw[t7 rfl]
 refine u0 (u1P (u0 ?_))
 show wpAny _ A.in1 (updateSeq s.heap.objs.size (·.push .none)>>=λ_=>updateSeq s.heap.objs.size (·.pop)) _ _ _
 refine u0 (u2c hL2 rfl ?_)
 have hL3:=b6 (Obj.mapSeq (·.push Value.none)) hL2 rfl
 refine u2c (hz:=by seq_fits) hL3 rfl ?_
 have hL4:=b6 (Obj.mapSeq (·.pop)) hL3 rfl
 have oth:∀ b o,b≠s.heap.objs.size->h2.get? b=some o->((h2.update s.heap.objs.size (Obj.mapSeq (·.push Value.none))).update s.heap.objs.size (Obj.mapSeq (·.pop))).get? b=some o :=
  λb o hb e=>(p8 _ _ (u0M hb)).trans ((p8 _ _ (u0M hb)).trans e)
 have hIne:h1.objs.size≠s.heap.objs.size:=by rw[hz1];exact u31 _
 have hIa:a≠h1.objs.size:=by rw[hz1];exact j9 (u01 hlt)
 have W:=Yz (prog:=prog) (w:=w) (A:=A.in1) (ep:=ep) hh h1.objs.size a hIa hm
 have hsl:slotAt w t 0=0:=by unfold slotAt;split <;> rfl
 refine u5 ⟨u1D u3e _,u24 W.toS h8 _ (λhmem=>?_) _ es.size 0 _ #[] _ rfl (u0D _) ⟨u0D _,by rw[hsl];exact oth _ _ hIne hI2,GAt.at hS2 λo e=>oth _ _ (u0M hSa) e⟩ hL4 (ItemsOf.nil _) λs' acc' c' hmv hS' hacc=>?_⟩
 .rcases j5.mp hmem with e | e
  .exact hIne e.symm
  .exact hSa (j8.mp e)
 .show wpAny _ A (load s.heap.objs.size>>=_) _ _ s'
  refine u0 (wpAny_load hS' ?_)
  refine u5 ?_
  have e1:acc'.toList=(yK w a es ep).toList.map (·.2):=by
   apply u1t
   intro i
   by_cases hi:i < es.size
   .have q1:acc'[i]?=some (acc'[i]'(by rw[hacc.1];exact hi)):=u0p _
    obtain⟨e,q2,q3⟩:=hacc.2 i _ q1
    rw[j4,u0V,u0V,q1,q2,q3]
    rfl
   .rw[u0g (by rw[t9,hacc.1];exact u0s hi),u0g (by rw[u6,t9,wV];exact u0s hi)]
  rw[e1]
  refine hQ s' (λb o e=>hmv.heap b o (λhmem=>?_) (oth b o (j9 (t4 e)) (k2 b o (k1 b o e)))) hmv.gens hmv.drawn hmv.os
  rcases j5.mp hmem with z | z
  .exact j9 (t4 e) z
  .have:=t4 e
   rw[j8.mp z,hz1]at this
   exact absurd (u2M this) (u0J _)
theorem sp_sorted {a:Addr}{es:Array (Int × Value)}{ep:Nat}{t:SetTable}{Q:Value->Shared->Prop}(hh:A.handled=none)(hm:ZO (ledOf w) t es.size)(hS:GAt s.heap a es ep t)(hT:∀ v∈es.toList.map (·.2),∃ p,OwnSort.TP s.heap v p)(h64:es.size < 64)
 (h:∀ (h1 h':Heap) (tk':Nat) (out:Array Value) (c:Nat),out.toList.Perm (es.toList.map (·.2))->OwnSort.Rise s.heap out.toList->(∀ b o,s.heap.get? b=some o->h1.get? b=some o)->(∀ b o,h1.get? b=some o->h'.get? b=some o) ->
  h'.get? h1.objs.size=some { cls:=.type "list",dict:=none,data:=.seq out c,slots:=#[] }->Q (.ref h1.objs.size) { s with heap:=h',toks:=tk' }) :
 wpAny (model prog w) A (call (.builtin "sorted") [.ref a]) Q E s:=by
 refine u1E u2w u2l u2k (u2j _) ?_
 unfold Builtin.«sorted»
 refine u0 (m:=checkCount "sorted" 1 1 _) (u5 ?_)
 refine u0 (wE hh hm hS λs' k g1 g2 g3=>?_)
 obtain⟨h1,g',d',tk1,os'⟩:=s'
 have e1:g'=s.gens:=g1
 have e2:d'=s.drawn:=g2
 have e3:os'=s.os:=g3
 subst e1 e2 e3
 have hp:=(YL w a es ep).map (·.2)
 have hl64:((yK w a es ep).toList.map (·.2)).length < 64:=by rw[hp.length_eq,u6,t9];exact h64
 generalize (yK w a es ep).toList.map (·.2)=vs at *
 refine u0 (u3a ?_)
 have hoL:(h1.push (PyProof.Rows.seqObj "list" vs.toArray 0)).get? h1.objs.size=some (PyProof.Rows.seqObj "list" vs.toArray 0):=t6 _ rfl
 have up:∀ b o,s.heap.get? b=some o->(h1.push (PyProof.Rows.seqObj "list" vs.toArray 0)).get? b=some o:=λb o e=>u3 _ (k b o e)
 refine u0 (u0n (u0a u2b ⟨_,hoL,rfl⟩ u14 (OwnSort.own_list_sort hoL (λv hv=>let ⟨p,hp'⟩:=hT v (hp.mem_iff.mp hv);⟨p,hp'.keep up⟩) hl64 λout p1 p2=>⟨_,rfl,?_⟩) (u2a _)))
 have hn:∀ b o,b≠h1.objs.size->(h1.push (PyProof.Rows.seqObj "list" vs.toArray 0)).get? b=some o->(PyProof.Rows.sortedHeap (h1.push (PyProof.Rows.seqObj "list" vs.toArray 0)) h1.objs.size vs out).get? b=some o:=λb o hb e=>by
  unfold PyProof.Rows.sortedHeap
  exact(p8 _ _ (u0M hb)).trans (u3 _ (u3 _ ((p8 _ _ (u0M hb)).trans e)))
 have hL:∃ c,(PyProof.Rows.sortedHeap (h1.push (PyProof.Rows.seqObj "list" vs.toArray 0)) h1.objs.size vs out).get? h1.objs.size=some { cls:=.type "list",dict:=none,data:=.seq out c,slots:=#[] }:=by
  unfold PyProof.Rows.sortedHeap
  have u1:=b6 (Obj.mapSeq λ_=>(#[]:Array Value)) hoL rfl
  have u2:=u3 (PyProof.Rows.seqObj "list" #[] 0) (u3 (PyProof.Rows.seqObj "tuple" vs.toArray 0) u1)
  exact⟨_,b6 (Obj.mapSeq λ_=>out) u2 rfl⟩
 obtain⟨c,hL⟩:=hL
 refine u5 ⟨_,rfl,h h1 _ _ out c (p1.trans hp) ?_ k (λb o e=>hn b o (j9 (t4 e)) (u3 _ e)) hL⟩
 obtain⟨ts,q1,q2,q3⟩:=p2
 refine⟨ts,q1,λi v t hv ht=>?_,q3⟩
 obtain⟨t0,ht0⟩:=hT v (hp.mem_iff.mp (p1.mem_iff.mp (d8 hv)))
 rw[(q2 i v t hv ht).uniq (ht0.keep up)]
 exact ht0
end
end OwnSetP
namespace Dl
open PySem L2 PySem.Spec PyProof.Rows
def prC (t:Pr):Nat:=8*t.1.toNat+t.2.toNat
def smP (t:Pr):Bool:=decide (0<=t.1/\t.1 < 8/\0<=t.2/\t.2 < 8)
def zlL:List Pr->Bool
 | []=>true
 | t::ts=>ts.all (λu=>decide (u≠t))&&zlL ts
theorem zb8 {ts:List Pr}:zlL ts=true↔ts.Nodup:=by
 induction ts with
 | nil=>exact⟨λ_=>u1G,λ_=>rfl⟩
 | cons t ts ih =>
  show(ts.all (λu=>decide (u≠t))&&zlL ts)=true↔_
  rw[g9,ih,u0z,u0k]
  refine and_congr_left λ_=>⟨λh c=>?_,λh u hu=>r9 λe=>h (e ▸ hu)⟩
  exact r6 (h t c) rfl
theorem zbO {t:Pr}(h:smP t=true):prC t < 64/\((prC t / 8:Nat):Int)=t.1/\((prC t % 8:Nat):Int)=t.2:=by
 have:=r6 h
 unfold prC
 omega
theorem zjm {t u:Pr}(h:smP t=true)(g:smP u=true)(e:prC t=prC u):t=u:=by
 obtain⟨-,a,b⟩:=zbO h
 obtain⟨-,c,d⟩:=zbO g
 rw[e]at a b
 exact u2E (a.symm.trans c) (b.symm.trans d)
def zj7 (ds:List D):Option (List D):=(zas ds).bind λts=>if (ts.length < 64/\ts.all smP=true)/\zlL ts=true then some ((Y3 ts).map prD)else none
def sspD:D->Option (List D)
 | .lst ds=>zj7 ds
 | .tup ds=>zj7 ds
 | _=>none
theorem zfM {ds out:List D}(h:zj7 ds=some out):∃ ts,ds=ts.map prD/\ts.length < 64/\(∀ t∈ts,smP t=true)/\ts.Nodup/\out=(Y3 ts).map prD:=by
 obtain⟨ts,h1,h2⟩:=u4.mp h
 by_cases c:(ts.length < 64/\ts.all smP=true)/\zlL ts=true
 .rw[t7 c]at h2
  cases h2
  exact⟨ts,Vf h1,c.1.1,u0k.mp c.1.2,zb8.mp c.2,rfl⟩
 .rw[j7 c]at h2
  cases h2
theorem zi2 {ts:List Pr}(h1:ts.length < 64)(h2:∀ t∈ts,smP t=true)(h3:ts.Nodup):zj7 (ts.map prD)=some ((Y3 ts).map prD):=by
 unfold zj7
 rw[zaz]
 exact t7 ⟨⟨h1,u0k.mpr h2⟩,zb8.mpr h3⟩
variable [KK]{X:Cx}{e:Expr}
def tSP (K:W.Frag)(ta:TE):TE:=fun σ H Q=>ta σ H λx H1=>∃ F p ys ts,x=.ref p/\yE F H1/\(SqT K H1 p ys\/SqL K H1 p ys)/\AtL F (ts.map prD) ys/\ts.length < 64/\(∀ t∈ts,smP t=true)/\ts.Nodup/\∀ l zs,H1 l=none->AtL F ((Y3 ts).map prD) zs->Q (.ref l) (upd H1 l (.lst zs))
theorem zbC {k:Nat} {a:Expr} {ta:TE} {p1 p2 pos1 pos2:Pos} (hr:YJ k X.A) (hg1:Gl X "sorted") (hm1:X.mg "sorted"=none) (hg2:Gl X "set") (hm2:X.mg "set"=none) (ha:PE X a ta)
 (hs:starEach [a] X.env=[(false,eval a X.env)]:=by rfl) (hs2:starEach [.Call (.Name "set" p2) [a] [] pos2] X.env=[(false,eval (.Call (.Name "set" p2) [a] [] pos2) X.env)]:=by rfl):PE X (.Call (.Name "sorted" p1) [.Call (.Name "set" p2) [a] [] pos2] [] pos1) (tSP X.K ta):=by
 intro pins s σ H Q I h
 refine Call_ (Yn I hg1 hm1 Zv (u1T (Q:=EP X pins σ Q) ?_ hs2 rfl))
 rw[hs2]
 show wpAny _ _ (spliced ((false,eval (.Call (.Name "set" p2) [a] [] pos2) X.env)::[])) _ _ _
 refine u10 ?_
 refine Call_ (Yn I hg2 hm2 zhZ (u0E ?_ hs rfl))
 rw[hs]
 show wpAny _ _ (spliced ((false,eval a X.env)::[])) _ _ _
 refine u10 (thn (ha pins s σ H _ I h) λv s1 hh9=>?_)
 obtain⟨x,H1,I1,r1,q1⟩:=hh9
 obtain⟨F,t,ys,ts,rfl,sm,hx,al,h64,hsm,hnd,q⟩:=q1
 cases r1
 obtain⟨its,rv,pt⟩:∃ its,yd ys its/\(s1.heap.IsTuple t its.toArray\/s1.heap.IsList t its.toArray):=by
  rcases hx with hx | hx
  .obtain⟨its,rv,pt,_⟩:=I1.tuple hx
   exact⟨its,rv,.inl pt⟩
  .obtain⟨its,rv,pt,_⟩:=I1.list hx
   exact⟨its,rv,.inr pt.isList⟩
 have hlen:its.length=ts.length:=by rw[<-rv.length,al.length,u6]
 have look:∀ i,(hi:i < ts.length)->∃ b,its[i]?=some (.ref b)/\F b=some (.tup [.int ts[i].1,.int ts[i].2])/\OwnSort.TP s1.heap (.ref b) ts[i]/\OwnSetP.IsPr s1.heap b (prC ts[i]):=λi hi=>by
  obtain⟨x,hx,ax⟩:=al.get (i:=i) (d:=prD ts[i]) (by rw[j4];simp[hi])
  obtain⟨b,rfl,hb⟩:=ax.pr_inv
  obtain⟨v,hv,rvv⟩:=rv.get hx
  have rvv:v=.ref b:=rvv
  subst rvv
  obtain⟨us,ru,⟨o,ho,hcl,n,hd⟩,_⟩:=I1.tuple (SqT.of (sm _ _ hb))
  obtain⟨u1,u2,rfl,r1,r2⟩:=zbo ru
  obtain⟨t1,rfl⟩:=r1
  obtain⟨t2,rfl⟩:=r2
  obtain⟨_,c1,c2⟩:=zbO (hsm _ (u0x hi))
  exact⟨b,hv,hb,⟨b,o,n,t1,t2,rfl,ho,hcl,hd⟩,o,n,t1,t2,ho,hcl,by rw[c1,c2];exact hd⟩
 obtain⟨qa,hqa⟩:∃ qa:Nat->Addr,∀ i,(hi:i < ts.length)->its[i]?=some (.ref (qa i))/\F (qa i)=some (.tup [.int ts[i].1,.int ts[i].2])/\OwnSort.TP s1.heap (.ref (qa i)) ts[i]/\OwnSetP.IsPr s1.heap (qa i) (prC ts[i]):=by
  refine⟨λi=>if hi:i < ts.length then (look i hi).choose else 0,λi hi=>?_⟩
  dsimp only
  rw[dif_pos hi]
  exact(look i hi).choose_spec
 obtain⟨cd,hcd⟩:∃ cd:Nat->Nat,∀ i,cd i=prC (ts.getD i (0,0)):=⟨_,λ_=>rfl⟩
 have cdi:∀ i,(hi:i < ts.length)->cd i=prC ts[i]:=λi hi=>by rw[hcd,show ts.getD i (0,0)=ts[i] by simp[hi]]
 have c64:∀ i,cd i < 64:=λi=>by
  by_cases hi:i < ts.length
  .rw[cdi i hi];exact(zbO (hsm _ (u0x hi))).1
  .rw[hcd,show ts.getD i (0,0)=(0,0) by simp[u0s hi]];decide
 have hz:its.toArray.size=ts.length:=by rw[q5,hlen]
 have cinj:∀ i j,i < j->j < its.toArray.size->cd i≠cd j:=λi j hij hj e=>by
  rw[hz]at hj
  rw[cdi i (by omega),cdi j hj]at e
  exact u03.mp hnd i j (by omega) hj hij (zjm (hsm _ (u0x _)) (hsm _ (u0x _)) e)
 refine u2d ?_
 refine OwnSetP.sp_call (cd:=cd) (qa:=qa) hr.hd hr.units pt c64 cinj (by rw[hz];omega) (λi v hv=>?_) (λi hi=>?_) λh2 tk2 hS2 k2=>?_
 .have hv':its[i]?=some v:=by simpa using hv
  have hi:i < ts.length:=by have:=(u9.mp hv').1;omega
  rw[(hqa i hi).1]at hv'
  exact(p9 hv').symm
 .rw[hz]at hi
  rw[cdi i hi]
  exact(hqa i hi).2.2.2
 refine u2d ?_
 rw[hz]at hS2
 obtain⟨es,ep,tb,ho,hp,ht⟩:=hS2
 have hpv:(es.toList.map (·.2)).Perm its:=by
  refine(hp.map _).trans ?_
  unfold OwnSetP.rowsTo
  rw[e9]
  have:its=(List.range ts.length).map ((λx:Int × Value=>x.2) ∘ λk=>(OwnSetP.hs (cd k),Value.ref (qa k))):=by
   apply u1t
   intro i
   by_cases hi:i < ts.length
   .rw[(hqa i hi).1,j4,u1V hi]
    rfl
   .rw[u0g (by omega),u0g (by rw[u6,u0r];omega)]
  rw[<-this]
 have hTP:∀ v∈its,∃ b t,v=.ref b/\t∈ts/\F b=some (.tup [.int t.1,.int t.2])/\OwnSort.TP s1.heap v t:=λv hv=>by
  obtain⟨i,hi,rfl⟩:=u07 hv
  have hi2:i < ts.length:=by omega
  obtain⟨e1,e2,e3,_⟩:=hqa i hi2
  have e1':its[i]=.ref (qa i):=by rw[j6 hi]at e1;exact p9 e1
  exact⟨qa i,ts[i],e1',u0x hi2,e2,by rw[e1'];exact e3⟩
 refine OwnSetP.sp_sorted hr.hd ht ho (λv hv=>?_) (by rw[<-t9,hp.length_eq,OwnSetP.rowsTo_len];exact h64) λh3 h4 tk4 out c pm ri k3 k4 hL=>?_
 .obtain⟨b,t,_,_,_,ht⟩:=hTP v (hpv.mem_iff.mp hv)
  exact⟨t,ht.keep k2⟩
 have pm:=pm.trans hpv
 obtain⟨us,l1,l2,l3⟩:=ri
 have l2':∀ (i:Nat) v t,out.toList[i]?=some v->us[i]?=some t->OwnSort.TP s1.heap v t:=λi v t h1 h2=>by
  obtain⟨b,t0,_,_,_,ht0⟩:=hTP v (pm.mem_iff.mp (d8 h1))
  rw[(l2 i v t h1 h2).uniq (ht0.keep k2)]
  exact ht0
 have zsOf:∀ (ws:List Value) (vs:List Pr),ws.length=vs.length->(∀ w∈ws,w∈its)->(∀ (i:Nat) v t,ws[i]?=some v->vs[i]?=some t->OwnSort.TP s1.heap v t)->∃ zs:List V,yd zs ws/\AtL F (vs.map prD) zs:=by
  intro ws
  induction ws with
  | nil =>
   intro vs hl _ _
   cases vs with
   | nil=>exact⟨[],.nil,.nil⟩
   | cons _ _=>simp at hl
  | cons w ws ih =>
   intro vs hl hm ht
   cases vs with
   | nil=>simp at hl
   | cons t vs =>
    obtain⟨zs,z1,z2⟩:=ih vs (by simpa using hl) (λw' hw'=>hm w' (d9 _ hw')) (λi v t h1 h2=>ht (i+1) v t (by simpa using h1) (by simpa using h2))
    obtain⟨a,t',rfl,_,ha,htp⟩:=hTP w (hm w o0)
    have et:t'=t:=htp.uniq (ht 0 _ t rfl rfl)
    subst et
    exact⟨.ref a::zs,.cons rfl z1,.cons (.tup ha (.cons .int (.cons .int .nil))) z2⟩
 have kv:∀ (ws:List Value) (vs:List Pr),ws.length=vs.length->(∀ (i:Nat) v t,ws[i]?=some v->vs[i]?=some t->OwnSort.TP s1.heap v t)->vs=ws.map λv=>(OwnSort.keyP s1.heap v).getD (0,0):=by
  intro ws
  induction ws with
  | nil=>intro vs hl _;cases vs with
   | nil=>rfl
   | cons _ _=>simp at hl
  | cons w ws ih =>
   intro vs hl ht
   cases vs with
   | nil=>simp at hl
   | cons t vs =>
    rw[i8,OwnSort.keyP_of (ht 0 w t rfl rfl),<- ih vs (by simpa using hl) λi v t h1 h2=>ht (i+1) v t (by simpa using h1) (by simpa using h2)]
    rfl
 obtain⟨zs,z1,z2⟩:=zsOf out.toList us l1 (λw hw=>pm.mem_iff.mp hw) l2'
 have keysPerm:us.Perm ts:=by
  rw[kv _ _ l1 l2',kv its ts hlen λi v t h1 h2=>?_]
  .exact pm.map _
  .obtain⟨hi,e⟩:=u9.mp h2
   obtain⟨e1,_,e3,_⟩:=hqa i hi
   rw[e1]at h1
   cases h1
   rw[<-e]
   exact e3
 rw[ZX keysPerm l3]at z2
 have I2:Inv X pins σ H1 { s1 with heap:=h3,toks:=tk4 }:=I1.kept λb u e=>k3 b u (k2 b u e)
 refine⟨.ref h3.objs.size,_,I2.laid (t':=tk4) (λb o e=>k4 b o e) (t5 _) (show yt X.prog X.w _ h4 _ (.lst zs) from⟨?_,out.toList,c,z1,by simpa using hL⟩),rfl,q _ zs (I2.hok.fresh (t5 _)) z2⟩
 have:zs.length=out.toList.length:=z1.length
 rw[this,l1,keysPerm.length_eq]
 exact u0R (vw (by omega))
def fSP (f:Ev->Option D):Ev->Option (List D):=fun ρ=>(f ρ).bind sspD
theorem zbr {k:Nat} {p1 p2 pos1 pos2:Pos} {f:Ev->Option D} (hr:YJ k X.A) (hg1:Gl X "sorted") (hm1:X.mg "sorted"=none) (hg2:Gl X "set") (hm2:X.mg "set"=none) (ha:ED X e f)
 (hs:starEach [e] X.env=[(false,eval e X.env)]:=by rfl) (hs2:starEach [.Call (.Name "set" p2) [e] [] pos2] X.env=[(false,eval (.Call (.Name "set" p2) [e] [] pos2) X.env)]:=by rfl) :
 FL X (.Call (.Name "sorted" p1) [.Call (.Name "set" p2) [e] [] pos2] [] pos1) (fSP f):=by
 obtain⟨t,pa,ra⟩:=ha
 refine⟨_,zbC hr hg1 hm1 hg2 hm2 pa hs hs2,fun σ ρ F H z Q s va e q=>?_⟩
 obtain⟨d,e1,e2⟩:=u4.mp e
 refine ra σ ρ F H d _ s va e1 λF1 H1 v g1 a1=>?_
 cases d with
 | lst ds =>
  obtain⟨ts,rfl,h1,h2,h3,rfl⟩:=zfM e2
  obtain⟨p,xs,rfl,hx,bl⟩:=a1.lst_inv
  exact⟨F1,p,xs,ts,rfl,g1.fh,.inr (SqL.of (g1.fh _ _ hx)),bl,h1,h2,h3,λl zs hl az=>q _ _ _ _ (g1.trans (Gr.hide g1.fh hl _)) (VD g1 hl) (g1.fh.free hl) zn az⟩
 | tup ds =>
  obtain⟨ts,rfl,h1,h2,h3,rfl⟩:=zfM e2
  obtain⟨p,xs,rfl,hx,bl⟩:=a1.tup_inv
  exact⟨F1,p,xs,ts,rfl,g1.fh,.inl (SqT.of (g1.fh _ _ hx)),bl,h1,h2,h3,λl zs hl az=>q _ _ _ _ (g1.trans (Gr.hide g1.fh hl _)) (VD g1 hl) (g1.fh.free hl) zn az⟩
 | _=>cases e2
end Dl
namespace Mz
open PySem Dl
abbrev Tie:=Int × Int
def ltP (s t:Tie):Prop:=s.1 < t.1\/(s.1=t.1/\s.2 < t.2)
instance (s t:Tie):Decidable (ltP s t):=by unfold ltP;infer_instance
theorem zfV {a b c:Tie}(h:ltP a b)(k:ltP b c):ltP a c:=by
 unfold ltP at *
 omega
def zc (t:Tie):D:=.tup [.int t.1,.int t.2]
theorem ze0 {s t:Tie}(h:zc s=zc t):s=t:=by
 unfold zc at h
 injection h with h
 injection h with h1 h2
 injection h2 with h2 _
 injection h1 with h1
 injection h2 with h2
 exact u2E h1 h2
def ye (many:Int)(ties:List Tie):D:=.tup [.int many,.tup (ties.map zc)]
structure vG (many:Int) (ties:List Tie):Prop where
 lo:1<=many
 hi:many<=8
 rng:∀ t∈ties,0<=t.1/\t.1 < t.2/\t.2 < many
 srt:ties.Pairwise ltP
def leP (s t:Tie):Bool:=if s.1=t.1 then (if s.2=t.2 then true else decide (s.2<=t.2))else decide (s.1<=t.1)
theorem Zz {s t:Tie}:leP s t=false↔ltP t s:=by
 unfold leP ltP
 by_cases h:s.1=t.1
 .rw[t7 h]
  by_cases k:s.2=t.2
  .rw[t7 k];simp;omega
  .rw[j7 k,u0K];omega
 .rw[j7 h,u0K];omega
def YZ:D->Option Tie
 | .tup [.int a,.int b]=>some (a,b)
 | _=>none
theorem Yq (t:Tie):YZ (zc t)=some t:=rfl
theorem Wt {d:D}{t:Tie}(h:YZ d=some t):d=zc t:=by
 unfold YZ at h
 split at h
 .cases h;rfl
 .cases h
def inR (m a:Int):Bool:=decide (0<=a)&&decide (a<=m - 1)
def wd (m:Int)(d:D):Bool:=match YZ d with
 | some t=>inR m t.1&&inR m t.2&&!decide (t.1=t.2)
 | none=>false
def zaL (p:Option Tie)(t:Tie):Bool:=match p with
 | some q=>!leP t q
 | none=>true
def ym (m:Int):Option Tie->List D->Bool
 | _,[]=>true
 | p,d::r=>match YZ d with
  | some t=>wd m d&&!decide (t.2 < t.1)&&zaL p t&&ym m (some t) r
  | none=>false
def YK (m:Int):D->Bool
 | .tup ts=>ym m none ts
 | _=>false
def YU:D->Bool
 | .tup [.int m,t]=>decide (1<=m)&&decide (m<=8)&&YK m t
 | _=>false
theorem Xg (m:Int):∀ (ts:List D) (p:Option Tie),ym m p ts=true↔∃ l:List Tie,ts=l.map zc/\(∀ t∈l,0<=t.1/\t.1 < t.2/\t.2 < m)/\(∀ q,p=some q->∀ t∈l,ltP q t)/\l.Pairwise ltP:=by
 intro ts
 induction ts with
 | nil =>
  intro p
  refine⟨λ_=>⟨[],rfl,by simp,by simp,.nil⟩,λ_=>rfl⟩
 | cons d r ih =>
  intro p
  unfold ym
  cases e:YZ d with
  | none =>
   refine Iff.intro (λh=>nomatch h) (λhh=>?_)
   obtain⟨l,h,_⟩:=hh
   cases l with
   | nil=>cases h
   | cons t l' =>
    rw[i8]at h
    injection h with h1 _
    rw[h1,Yq]at e
    cases e
  | some t =>
   have ed:=Wt e
   subst ed
   simp only[wd,Yq,g9,Bool.not_eq_true',u0K,inR,d5]
   rw[ih (some t)]
   constructor
   .rintro⟨⟨⟨⟨⟨h1,h2⟩,h3⟩,h4⟩,h5⟩,l,rfl,hr,hq,hs⟩
    refine⟨t::l,rfl,?_,?_,u1g.mpr ⟨hq t rfl,hs⟩⟩
    .intro u hu
     rcases j5.mp hu with rfl | hu
     .omega
     .exact hr u hu
    .rintro q rfl u hu
     have hqt:ltP q t:=Zz.mp (by simpa [zaL]using h5)
     rcases j5.mp hu with rfl | hu
     .exact hqt
     .exact zfV hqt (hq t rfl u hu)
   .rintro⟨l,h,hr,hq,hs⟩
    cases l with
    | nil=>cases h
    | cons u l' =>
     rw[i8]at h
     injection h with h1 h2
     have hu:=ze0 h1
     subst hu
     have hb:=hr t (by simp)
     refine⟨⟨⟨⟨⟨by omega,by omega⟩,by omega⟩,by omega⟩,?_⟩,l',h2,λv hv=>hr v (by simp[hv]),λq hqe v hv=>?_,(u1g.mp hs).2⟩
     .cases p with
      | none=>rfl
      | some q =>
       have:=Zz.mpr (hq q rfl t (by simp))
       simp[zaL,this]
     .cases hqe
      exact(u1g.mp hs).1 v hv
theorem Z0 (d:D):YU d=true↔∃ m ties,d=ye m ties/\vG m ties:=by
 constructor
 .intro h
  unfold YU at h
  split at h
  .rename_i m t
   simp only[g9,d5]at h
   obtain⟨⟨h1,h2⟩,h3⟩:=h
   unfold YK at h3
   split at h3
   .rename_i ts
    obtain⟨l,rfl,hr,_,hs⟩:=(Xg m ts none).mp h3
    exact⟨m,l,rfl,h1,h2,hr,hs⟩
   .cases h3
  .cases h
 .rintro⟨m,ties,rfl,w⟩
  unfold ye YU YK
  simp only[g9,d5]
  exact⟨⟨w.lo,w.hi⟩,(Xg m _ none).mpr ⟨ties,rfl,w.rng,by simp,w.srt⟩⟩
theorem zi1 {d:D}(h:∀ m ties,d=ye m ties->¬ vG m ties):YU d=false:=by
 cases e:YU d with
 | false=>rfl
 | true =>
  obtain⟨m,ties,rfl,w⟩:=(Z0 d).mp e
  exact absurd w (h m ties rfl)
def xw (n:Nat):List Tie:=(List.range n).flatMap λa=>(List.range (n - (a+1))).map λ(j:Nat)=>((a:Int),(a:Int)+1+(j:Int))
theorem Wp:∀ n:Nat,n<=8->(xw n).Pairwise ltP/\(∀ t∈xw n,0<=t.1/\t.1 < t.2/\t.2 < (n:Int))/\(xw n).length<=28:=by
 have h:∀ n:_root_.Fin 9,(xw n.val).Pairwise ltP/\(∀ t∈xw n.val,0<=t.1/\t.1 < t.2/\t.2 < (n.val:Int))/\(xw n.val).length<=28:=by decide +kernel
 exact λn hn=>h ⟨n,by omega⟩
end Mz
namespace Mz
open Dl
def zbj (i j:Nat):List Tie:=(List.range j).map λ(k:Nat)=>((i:Int),(i:Int)+1+(k:Int))
def xF (n i:Nat):List Tie:=(List.range i).flatMap λa=>zbj a (n - (a+1))
theorem zfB (n:Nat):xw n=xF n n:=rfl
theorem Z7 (n i:Nat):xF n (i+1)=xF n i++zbj i (n - (i+1)):=by
 unfold xF
 rw[u4f,List.flatMap_append]
 simp
theorem Z5 (i j:Nat):(zbj i j).length=j:=by unfold zbj;simp
theorem zdo (n:Nat)(hn:n<=8):∀ i:Nat,(xF n i).length<=8*i:=by
 intro i
 induction i with
 | zero=>simp[xF]
 | succ i ih =>
  rw[Z7,d6,Z5]
  omega
def zbB (c k:Int):Int :=
 let a:=(c % 2147483647+977*k+1)*48271 % 2147483647
 let b:=a*a % 2147483629
 (b+40692*(k+3))*69621 % 2147483647 / 8
theorem zcH {P:Nat->Prop}:∀ k,P k->∃ j,P j/\∀ i,P i->j<=i:=by
 intro k
 induction k using Nat.strongRecOn with
 | _ k ih =>
  intro h
  by_cases c:∃ i,i < k/\P i
  .obtain⟨i,hi,h2⟩:=c
   exact ih i hi h2
  .exact⟨k,h,λi hi=>u0s λz=>c ⟨i,z,hi⟩⟩
theorem zhP {n:Nat}{i:Int}(h0:0<=i)(h1:i < n):L2.ixN n i=some i.toNat:=by
 unfold L2.ixN
 rw[t7 h0,t7 h1]
theorem zfX {α:Type}{xs:List α}{i:Int}{x:α}(h0:0<=i)(h:xs[i.toNat]?=some x):L2.atI xs i=some x:=by
 have:=(u9.mp h).1
 unfold L2.atI
 rw[zhP h0 (by omega)]
 exact h
theorem zhY {m:Bool}{i:Nat}{fk fe:Ev->Option D}{ρ:SE}{ds:List D}{d:D}{k:Int}(h1:vEv m fe ρ=some d)(h2:fk (visG ρ)=some (.int k))(h3:ρ[i]?=some (.o ds))(h4:0<=k)(h5:k < ds.length) :
 ZH m i fk fe ρ=.nx (ρ.set i (.o (ds.set k.toNat d))):=by
 unfold ZH
 rw[h1,h2,h3]
 show(match ((L2.ixN ds.length k).map λj=>ρ.set i (Sl.o (ds.set j d)))with | some ρ'=>Ctl.nx ρ' | none=>Ctl.no)=_
 rw[zhP h4 h5]
 rfl
theorem YF (ts:List Tie):(Y3 ts).Perm ts:=u3l _ _
theorem Xi {ts:List Tie}(h:ts.Nodup):(Y3 ts).Pairwise ltP:=by
 have h1:(Y3 ts).Pairwise λa b=>zjR a b=true:=u2B (λa b c h1 h2=>by rw[wY]at *;omega) (λa b=>by rw[u1I,wY,wY];omega) _
 have h2:(Y3 ts).Nodup:=(YF ts).nodup_iff.mpr h
 refine(h1.and h2).imp λ{a b} hh=>?_
 obtain⟨x,y⟩:=hh
 rw[wY]at x
 unfold ltP
 rcases x with x | x
 .exact .inl x
 .refine .inr ⟨x.1,?_⟩
  have:a.2≠b.2:=λe=>y (u2E x.1 e)
  omega
theorem zmy {m:Bool}{i:Nat}{fk fe:Ev->Option D}{ρ:SE}{n b kk:SE->Prop}{r:D->Prop}(ds:List D)(d:D)(k:Int)(h1:vEv m fe ρ=some d)(h2:fk (visG ρ)=some (.int k))(h3:ρ[i]?=some (.o ds))(h4:0<=k)(h5:k < ds.length)(q:n (ρ.set i (.o (ds.set k.toNat d)))) :
 (ZH m i fk fe ρ).w n b kk r:=vQ (zhY h1 h2 h3 h4 h5) q
theorem zg4 {α:Type}(xs:List α)(lo hi:Option Int):(VU xs lo hi).length<=xs.length:=by
 unfold VU
 rw[u05,u0h]
 omega
theorem zb4 {a b:List D}(h:a.length+b.length<=1000):wP (.lst a) (.lst b)=some (.lst (a++b)):=by
 show(if lim (a.length+b.length)=true then _ else none)=_
 rw[t7 (YX h)]
theorem vW {m:Bool}{i:Nat}{f:Ev->Option D}{ρ ρ':SE}{d:D}(h:vEv m f ρ=some d)(h2:ρ.set i (.v d)=ρ':=by rfl):xc m i f ρ=.nx ρ':=by
 unfold xc
 rw[h,<- h2]
theorem zfr {f:Ev->Option D}{ρ:SE}{d:D}(h:f (visG ρ)=some d):ZJ f ρ=.nx ρ:=by
 unfold ZJ
 rw[h]
theorem xo {f:Ev->Option D}{ρ:SE}{d:D}(h:f (visG ρ)=some d):yj f ρ=.rt d:=by
 unfold yj
 rw[h]
theorem W7 {i:Nat}{f:Ev->Option (List D)}{ρ ρ':SE}{ds:List D}(h:f (visF ρ)=some ds)(h2:ρ.set i (.o ds)=ρ':=by rfl):Yt i f ρ=.nx ρ':=by
 unfold Yt
 rw[h,<- h2]
theorem zY {a b:Int}:neD (.int a) (.int b)=some (.bl (!decide (a=b))):=rfl
theorem XA {a m x:Int}(h:0 < m)(hx:a % m=x):0<=x/\x < m:=by
 subst hx
 exact⟨u3h _ (by omega),u3t _ h⟩
theorem zlv {m:Int}{n:Nat}(h:m=((n+1:Nat):Int))(h7:n<=7):Yh [.int 1,.int m]=some (Xm 1 n):=by
 show(if zf3 1=true/\zf3 m=true then some (Xm 1 (m - 1).toNat)else none)=_
 rw[t7 ⟨yl.mpr ⟨by omega,by omega⟩,yl.mpr ⟨by omega,by omega⟩⟩,show(m - 1).toNat=n by omega]
theorem zI {a b:Int}:v5 (.int a) (.int b)=some (.bl (decide (a=b))):=rfl
theorem ya {a b:Bool}:v5 (.bl a) (.bl b)=some (.bl (decide (a=b))):=rfl
theorem zJ {a b:PySem.Str}:v5 (.str a) (.str b)=some (.bl (decide (a=b))):=rfl
theorem zH {a b:Int}:wP (.int a) (.int b)=some (.int (a+b)):=rfl
theorem zlP {α:Type}(xs:List α)(k:Nat):VU xs none (some (k:Int))=xs.take k:=by
 unfold VU
 rw[HT.sIx_none,u4o,Nat.sub_zero,HT.sIx_nat]
 by_cases h:k<=xs.length
 .rw[u1y h]
 .rw[u3Z (by omega),u1h (t5 _),u1h (by omega)]
theorem zer {α:Type}(xs:List α)(k:Nat):VU xs (some (k:Int)) none=xs.drop k:=by
 unfold VU
 rw[HT.sIx_none,HT.sIx_nat]
 by_cases h:k<=xs.length
 .rw[u1y h,u1h (by rw[u0h];omega)]
 .rw[u3Z (by omega),Nat.sub_self,List.take_zero,List.drop_of_length_le (by omega)]
section
variable {ρ:Ev}{f g h:Ev->Option D}{a:Ev->Option (List D)}{t u:Ev->Option Bool}{d e x y z:D}{ds es:List D}{b c:Bool}
theorem wl:zv ρ=some []:=rfl
theorem zZ (h1:f ρ=some d)(h2:a ρ=some ds):zb f a ρ=some (d::ds):=by unfold zb;rw[h1,h2];rfl
theorem x8 {n:Nat}{p:List D->Option D}(h1:a ρ=some ds)(h2:p ds=some d)(hl:ds.length=n:=by rfl):zr n p a ρ=some d:=by
 unfold zr
 rw[h1,i7,t7 hl,h2]
theorem wB {i n:Nat}{p:List D->Option D}{σ σ':SE}(h1:a (visF σ)=some ds)(h2:p ds=some d)(hl:ds.length=n:=by rfl)(h3:σ.set i (.v d)=σ':=by rfl):xc false i (zr n p a) σ=.nx σ':=vW (show zr n p a (visF σ)=some d from x8 h1 h2 hl) h3
theorem zdm {i:Nat}{f:Ev->Option D}{σ σ':SE}(h:f (visF σ)=some d)(h3:σ.set i (.v d)=σ':=by rfl):xc false i f σ=.nx σ':=vW (show f (visF σ)=some d from h) h3
theorem zy {k:D->D->Option D}(h1:f ρ=some x)(h2:g ρ=some y)(h3:k x y=some z):zj k f g ρ=some z:=by unfold zj;rw[h1,h2];exact h3
theorem wg (h1:a ρ=some ds):yT a ρ=some (.lst ds):=by unfold yT;rw[h1];rfl
theorem za9 {k:List D->Option D}(h1:a ρ=some ds)(h2:k ds=some d):eFn k a ρ=some d:=by unfold eFn;rw[h1];exact h2
theorem zhU {k:List D->Option (List D)}(h1:a ρ=some ds)(h2:k ds=some es):fFn k a ρ=some es:=by unfold fFn;rw[h1];exact h2
theorem ziB (h1:a ρ=some ds)(hl:ds.length<=1000):yF a ρ=some ds:=by unfold yF;rw[h1,i7,t7 (YX hl)]
theorem zh2 (h1:a ρ=some ds)(hl:ds.length<=1000):vU a ρ=some (.tup ds):=by unfold vU;rw[h1,i7,t7 (YX hl)]
theorem zmk (h1:f ρ=some d)(h2:ssD d=some ds):fSS f ρ=some ds:=by unfold fSS;rw[h1];exact h2
theorem V6 (h1:f ρ=some d)(h2:xa d=some ds):iOf f ρ=some ds:=by unfold iOf;rw[h1];exact h2
theorem zk4 (h1:f ρ=some (.bl b))(h2:g ρ=some (.bl c)):Yc f g ρ=some (.bl (b&&c)):=by unfold Yc;rw[h1,h2];cases b <;> rfl
theorem vg (h1:f ρ=some (.bl b)):tOf f ρ=some b:=by unfold tOf;rw[h1];rfl
theorem zdA (h1:t ρ=some b):yb t ρ=some (!b):=by unfold yb;rw[h1];rfl
theorem zlG (h1:t ρ=some b)(h2:u ρ=some c):yk t u ρ=some (b&&c):=by unfold yk;rw[h1,h2];cases b <;> rfl
theorem zjL (h1:t ρ=some false):yk t u ρ=some false:=by unfold yk;rw[h1];rfl
theorem ziV (h1:t ρ=some true)(h2:u ρ=some c):yk t u ρ=some c:=by unfold yk;rw[h1];exact h2
theorem zd7 (h1:t ρ=some false)(h2:u ρ=some c):Yd t u ρ=some c:=by unfold Yd;rw[h1];exact h2
end
end Mz
namespace Mz
open PySem L2 Dl
def top (i:Nat):Stmt:=PySem.Challenge.pw_twoforone_k17_whole_leaned.main.body.getD i (.Pass ⟨0,0,0,0⟩)
abbrev Za:Stmt:=top 6
abbrev xj:Stmt:=top 7
abbrev xJ:Stmt:=top 8
abbrev Ze:Stmt:=top 9
abbrev ZI:Stmt:=top 11
abbrev Y9:Stmt:=top 12
abbrev Wn:Stmt:=top 13
abbrev vp:Stmt:=top 14
abbrev vb:Stmt:=top 15
abbrev Z4:Stmt:=top 17
abbrev wF:Stmt:=top 20
abbrev xB:Stmt:=top 21
abbrev wc:Stmt:=top 22
abbrev vS:Stmt:=top 23
abbrev X9:Stmt:=top 24
abbrev ZV:Stmt:=top 25
abbrev vh:Stmt:=top 26
abbrev XY:Stmt:=top 27
abbrev vR:Stmt:=top 29
abbrev Yg:Stmt:=top 30
abbrev vf:Stmt:=top 31
abbrev xC:Stmt:=top 32
abbrev wJ:Stmt:=top 33
abbrev wf:Stmt:=top 34
abbrev wa:Stmt:=top 35
abbrev vN:Stmt:=top 36
abbrev Yj:Stmt:=top 37
abbrev x5:Stmt:=top 38
abbrev Yv:Stmt:=top 39
abbrev zfJ:Stmt:=top 40
theorem zbG:zx ["thing"] ["thing"] (zk Za):=⟨rfl,rfl,rfl,by decide +kernel,rfl,by decide +kernel,by decide +kernel⟩
theorem ZA:zx ["thing","least","most"] ["thing","least","most"] (zk xj):=⟨rfl,rfl,rfl,by decide +kernel,rfl,by decide +kernel,by decide +kernel⟩
theorem ZM:zx ["thing"] ["thing"] (zk xJ):=⟨rfl,rfl,rfl,by decide +kernel,rfl,by decide +kernel,by decide +kernel⟩
theorem zbK:zx ["many","thing"] ["many","thing"] (zk Ze):=⟨rfl,rfl,rfl,by decide +kernel,rfl,by decide +kernel,by decide +kernel⟩
theorem zcG:zx ["many","thing"] ["many","thing"] (zk ZI):=⟨rfl,rfl,rfl,by decide +kernel,rfl,by decide +kernel,by decide +kernel⟩
theorem Zc:zx ["many","thing","at","tie"] ["many","thing"] (zk Y9):=⟨rfl,rfl,rfl,by decide +kernel,rfl,by decide +kernel,by decide +kernel⟩
theorem zfC:zx ["thing"] ["thing"] (zk Wn):=⟨rfl,rfl,rfl,by decide +kernel,rfl,by decide +kernel,by decide +kernel⟩
theorem WN:zx ["thing"] ["thing"] (zk vp):=⟨rfl,rfl,rfl,by decide +kernel,rfl,by decide +kernel,by decide +kernel⟩
theorem WA:zx ["one","other"] ["one","other"] (zk vb):=⟨rfl,rfl,rfl,by decide +kernel,rfl,by decide +kernel,by decide +kernel⟩
theorem zcK:zx ["web","thing"] ["web","thing"] (zk Z4):=⟨rfl,rfl,rfl,by decide +kernel,rfl,by decide +kernel,by decide +kernel⟩
theorem Wb:zx ["web","thing"] ["web","thing"] (zk wF):=⟨rfl,rfl,rfl,by decide +kernel,rfl,by decide +kernel,by decide +kernel⟩
theorem xH:zx ["web","thing","at","row"] ["web","thing"] (zk xB):=⟨rfl,rfl,rfl,by decide +kernel,rfl,by decide +kernel,by decide +kernel⟩
theorem Xl:zx ["web","thing"] ["web","thing"] (zk wc):=⟨rfl,rfl,rfl,by decide +kernel,rfl,by decide +kernel,by decide +kernel⟩
theorem VG:zx ["times"] ["times"] (zk vS):=⟨rfl,rfl,rfl,by decide +kernel,rfl,by decide +kernel,by decide +kernel⟩
theorem zdR:zx ["places","steps"] ["places","steps"] (zk X9):=⟨rfl,rfl,rfl,by decide +kernel,rfl,by decide +kernel,by decide +kernel⟩
theorem xL:zx ["steps","places","kept","way","onward"] ["steps"] (zk ZV):=⟨rfl,rfl,rfl,by decide +kernel,rfl,by decide +kernel,by decide +kernel⟩
theorem WF:zx ["ring"] ["ring"] (zk vh):=⟨rfl,rfl,rfl,by decide +kernel,rfl,by decide +kernel,by decide +kernel⟩
theorem xU:zx ["web","tally","times","row","ring","steps","fewest","step"] ["web","tally"] (zk XY):=⟨rfl,rfl,rfl,by decide +kernel,rfl,by decide +kernel,by decide +kernel⟩
theorem wx:zx ["many","found","a"] ["many"] (zk vR):=⟨rfl,rfl,rfl,by decide +kernel,rfl,by decide +kernel,by decide +kernel⟩
theorem wQ:zx ["cell","k","number"] ["cell","k"] (zk Yg):=⟨rfl,rfl,rfl,by decide +kernel,rfl,by decide +kernel,by decide +kernel⟩
theorem xN:zx ["many","cell","ties","k","tie"] ["many","cell"] (zk vf):=⟨rfl,rfl,rfl,by decide +kernel,rfl,by decide +kernel,by decide +kernel⟩
theorem yR:zx ["many","cell","ties","k","tie"] ["many","cell"] (zk xC):=⟨rfl,rfl,rfl,by decide +kernel,rfl,by decide +kernel,by decide +kernel⟩
theorem zC:zx ["many","cell","most","left","heap","digits","k","stones"] ["many","cell","most"] (zk wJ):=⟨rfl,rfl,rfl,by decide +kernel,rfl,by decide +kernel,by decide +kernel⟩
theorem yy:zx ["web","cell","most","every","found","k","step"] ["web","cell","most"] (zk wf):=⟨rfl,rfl,rfl,by decide +kernel,rfl,by decide +kernel,by decide +kernel⟩
theorem yB:zx ["tally","left","turn","tails"] ["tally"] (zk wa):=⟨rfl,rfl,rfl,by decide +kernel,rfl,by decide +kernel,by decide +kernel⟩
theorem Vl:zx ["found"] ["found"] (zk vN):=⟨rfl,rfl,rfl,by decide +kernel,rfl,by decide +kernel,by decide +kernel⟩
theorem xf:zx ["heap","tally","found","a","b","times","turn"] ["heap","tally"] (zk Yj):=⟨rfl,rfl,rfl,by decide +kernel,rfl,by decide +kernel,by decide +kernel⟩
theorem x6:zx ["web","cell","most","order","place"] ["web","cell","most"] (zk x5):=⟨rfl,rfl,rfl,by decide +kernel,rfl,by decide +kernel,by decide +kernel⟩
theorem Yf:zx ["found","due","one","other"] ["found","due"] (zk Yv):=⟨rfl,rfl,rfl,by decide +kernel,rfl,by decide +kernel,by decide +kernel⟩
theorem v6:zx ["script","cell","web","heap","tally","found","heads","row","more","ahead","behind"] ["script"] (zk zfJ):=⟨rfl,rfl,rfl,by decide +kernel,rfl,by decide +kernel,by decide +kernel⟩
structure Adr where
 f_is_whole:Addr
 e_is_whole:FuncData
 f_is_whole_within:Addr
 e_is_whole_within:FuncData
 f_is_place_count:Addr
 e_is_place_count:FuncData
 f_is_place:Addr
 e_is_place:FuncData
 f_is_pair:Addr
 e_is_pair:FuncData
 f_are_ties:Addr
 e_are_ties:FuncData
 f_is_web:Addr
 e_is_web:FuncData
 f_must_be_web:Addr
 e_must_be_web:FuncData
 f_tie_between:Addr
 e_tie_between:FuncData
 f_is_step:Addr
 e_is_step:FuncData
 f_is_tally_row:Addr
 e_is_tally_row:FuncData
 f_are_tally_rows:Addr
 e_are_tally_rows:FuncData
 f_must_be_tally:Addr
 e_must_be_tally:FuncData
 f_tally_from:Addr
 e_tally_from:FuncData
 f_led_on:Addr
 e_led_on:FuncData
 f_ring_of:Addr
 e_ring_of:FuncData
 f_steps_round:Addr
 e_steps_round:FuncData
 f_leaned:Addr
 e_leaned:FuncData
 f__law_pairs:Addr
 e__law_pairs:FuncData
 f__law_stir:Addr
 e__law_stir:FuncData
 f__law_web_by:Addr
 e__law_web_by:FuncData
 f__law_joined_by:Addr
 e__law_joined_by:FuncData
 f__law_heap_by:Addr
 e__law_heap_by:FuncData
 f__law_tally_by:Addr
 e__law_tally_by:FuncData
 f__law_has_ring:Addr
 e__law_has_ring:FuncData
 f__law_whole:Addr
 e__law_whole:FuncData
 f__law_left:Addr
 e__law_left:FuncData
 f__law_ringless:Addr
 e__law_ringless:FuncData
 f__law_same:Addr
 e__law_same:FuncData
 f_law:Addr
 e_law:FuncData
 t_MOST_PLACES:Tok
 t_MOST_TIMES:Tok
structure Txt (K:W.Frag) (mg:Str->Option Value) (ad:Adr):Prop where
 d_is_whole:Def K mg "is_whole" Za ["thing"] ad.f_is_whole ad.e_is_whole
 d_is_whole_within:Def K mg "is_whole_within" xj ["thing","least","most"] ad.f_is_whole_within ad.e_is_whole_within
 d_is_place_count:Def K mg "is_place_count" xJ ["thing"] ad.f_is_place_count ad.e_is_place_count
 d_is_place:Def K mg "is_place" Ze ["many","thing"] ad.f_is_place ad.e_is_place
 d_is_pair:Def K mg "is_pair" ZI ["many","thing"] ad.f_is_pair ad.e_is_pair
 d_are_ties:Def K mg "are_ties" Y9 ["many","thing"] ad.f_are_ties ad.e_are_ties
 d_is_web:Def K mg "is_web" Wn ["thing"] ad.f_is_web ad.e_is_web
 d_must_be_web:Def K mg "must_be_web" vp ["thing"] ad.f_must_be_web ad.e_must_be_web
 d_tie_between:Def K mg "tie_between" vb ["one","other"] ad.f_tie_between ad.e_tie_between
 d_is_step:Def K mg "is_step" Z4 ["web","thing"] ad.f_is_step ad.e_is_step
 d_is_tally_row:Def K mg "is_tally_row" wF ["web","thing"] ad.f_is_tally_row ad.e_is_tally_row
 d_are_tally_rows:Def K mg "are_tally_rows" xB ["web","thing"] ad.f_are_tally_rows ad.e_are_tally_rows
 d_must_be_tally:Def K mg "must_be_tally" wc ["web","thing"] ad.f_must_be_tally ad.e_must_be_tally
 d_tally_from:Def K mg "tally_from" vS ["times"] ad.f_tally_from ad.e_tally_from
 d_led_on:Def K mg "led_on" X9 ["places","steps"] ad.f_led_on ad.e_led_on
 d_ring_of:Def K mg "ring_of" ZV ["steps"] ad.f_ring_of ad.e_ring_of
 d_steps_round:Def K mg "steps_round" vh ["ring"] ad.f_steps_round ad.e_steps_round
 d_leaned:Def K mg "leaned" XY ["web","tally"] ad.f_leaned ad.e_leaned
 d__law_pairs:Def K mg "_law_pairs" vR ["many"] ad.f__law_pairs ad.e__law_pairs
 d__law_stir:Def K mg "_law_stir" Yg ["cell","k"] ad.f__law_stir ad.e__law_stir
 d__law_web_by:Def K mg "_law_web_by" vf ["many","cell"] ad.f__law_web_by ad.e__law_web_by
 d__law_joined_by:Def K mg "_law_joined_by" xC ["many","cell"] ad.f__law_joined_by ad.e__law_joined_by
 d__law_heap_by:Def K mg "_law_heap_by" wJ ["many","cell","most"] ad.f__law_heap_by ad.e__law_heap_by
 d__law_tally_by:Def K mg "_law_tally_by" wf ["web","cell","most"] ad.f__law_tally_by ad.e__law_tally_by
 d__law_has_ring:Def K mg "_law_has_ring" wa ["tally"] ad.f__law_has_ring ad.e__law_has_ring
 d__law_whole:Def K mg "_law_whole" vN ["found"] ad.f__law_whole ad.e__law_whole
 d__law_left:Def K mg "_law_left" Yj ["heap","tally"] ad.f__law_left ad.e__law_left
 d__law_ringless:Def K mg "_law_ringless" x5 ["web","cell","most"] ad.f__law_ringless ad.e__law_ringless
 d__law_same:Def K mg "_law_same" Yv ["found","due"] ad.f__law_same ad.e__law_same
 d_law:Def K mg "law" zfJ ["script"] ad.f_law ad.e_law
 g_MOST_PLACES:mg "MOST_PLACES"=some (Value.int 8 ad.t_MOST_PLACES)
 g_MOST_TIMES:mg "MOST_TIMES"=some (Value.int 300 ad.t_MOST_TIMES)
 z_all:mg "all"=none
 z_any:mg "any"=none
 z_bool:mg "bool"=none
 z_enumerate:mg "enumerate"=none
 z_int:mg "int"=none
 z_isinstance:mg "isinstance"=none
 z_len:mg "len"=none
 z_list:mg "list"=none
 z_max:mg "max"=none
 z_min:mg "min"=none
 z_range:mg "range"=none
 z_set:mg "set"=none
 z_sorted:mg "sorted"=none
 z_str:mg "str"=none
 z_tuple:mg "tuple"=none
 z_zip:mg "zip"=none
theorem zmH:(["b","many","found","a"]:List Str).Nodup:=by decide +kernel
theorem zm3:(["other","many","cell","ties","k","tie"]:List Str).Nodup:=by decide +kernel
theorem zj8:(["a","b","web","cell","most","every","found","k","step"]:List Str).Nodup:=by decide +kernel
theorem zmZ:(["place","places","steps"]:List Str).Nodup:=by decide +kernel
theorem zmt:(["step","place","places","steps"]:List Str).Nodup:=by decide +kernel
theorem zkS:(["step","steps","places","kept","way","onward"]:List Str).Nodup:=by decide +kernel
theorem zmG:(["row","web","cell","most","order","place"]:List Str).Nodup:=by decide +kernel
theorem zgU:(["a","b","tally","left","turn","tails"]:List Str).Nodup:=by decide +kernel
theorem zmD:(["row","tally","left","turn","tails"]:List Str).Nodup:=by decide +kernel
theorem zmV:(["step","times"]:List Str).Nodup:=by decide +kernel
theorem zhH:(["at","place","ring"]:List Str).Nodup:=by decide +kernel
theorem zhL:(["step","web","tally","times","row","ring","steps","fewest","·step"]:List Str).Nodup:=by decide +kernel
theorem zjX:(["other","script","cell","web","heap","tally","found","heads","row","more","ahead","behind"]:List Str).Nodup:=by decide +kernel
theorem zlW:(["part","script","cell","web","heap","tally","found","heads","row","more","ahead","behind"]:List Str).Nodup:=by decide +kernel
def VL:D->Bool
 | .int _=>true
 | _=>false
def yP (d:D)(lo hi:Int):Bool:=match d with
 | .int i=>decide (lo<=i)&&decide (i<=hi)
 | _=>false
section
variable {P:Program}{w:World}{K:W.Frag}{mg:Str->Option Value}{base:Heap}{ad:Adr}
def vD:List D->Option D
 | [d]=>if noS d=true then some (.bl (VL d))else none
 | _=>none
def Z3:SE->Ctl :=
 (yj (Yc (eUn (zQ .int) (zd 0)) (Xp (eUn (zQ .bool) (zd 0)))))
def zc4:List D->Option D:=fnD 1 Z3
theorem zkc {α:Type}{ds:List α}(h:ds.length=1):∃ a,ds=[a]:=by match ds,h with | [a],_=>exact⟨a,rfl⟩
theorem ziJ {α:Type}{ds:List α}(h:ds.length=2):∃ a b,ds=[a,b]:=by match ds,h with | [a,b],_=>exact⟨a,b,rfl⟩
theorem len3 {α:Type}{ds:List α}(h:ds.length=3):∃ a b c,ds=[a,b,c]:=by match ds,h with | [a,b,c],_=>exact⟨a,b,c,rfl⟩
theorem ifS {c:Bool}{x y:D}(h:(if c=true then some x else none)=some y):c=true/\x=y:=by
 split at h
 .cases h
  exact⟨by assumption,rfl⟩
 .cases h
theorem za8:∀ ds d,ds.length=1->vD ds=some d->zc4 ds=some d:=by
 intro ds d hl h
 obtain⟨a,rfl⟩:=zkc hl
 obtain⟨hn,rfl⟩:=ifS h
 cases a <;> first | rfl | cases hn
theorem zbc (T:Txt K mg ad):xz P w K mg base CX0 1 ad.f_is_whole ad.e_is_whole ["thing"] (@spD ⟨K⟩ 1 vD):=by
 letI:KK:=⟨K⟩
 refine Yy (xh (N:=["thing"]) (ps:=["thing"]) T.d_is_whole.fn zbG (g:=Z3) λcdv A outer s H E hr=>?_) za8
 unfold Z3
 exact(zi (zw (vt (zz .int rfl T.z_isinstance (edv 0) (zR (v:=.ty "int") rfl T.z_int zb3 rfl)) (Ys (zfG (zz .bool rfl T.z_isinstance (edv 0) (zR (v:=.ty "bool") rfl T.z_bool X1 rfl)))))))
def yg:SE->Ctl :=
 (yj (Yc (zr 1 vD (zb (zd 0) zv)) (yH leD leD (zd 1) (zd 0) (zd 2))))
def vE:List D->Option D:=fnD 3 yg
def zt:List D->Option D
 | [d,.int lo,.int hi]=>if noS d=true then some (.bl (yP d lo hi))else none
 | _=>none
theorem Vo {a:D}{lo hi:Int}(hn:noS a=true)(hw:VL a=false):vE [a,.int lo,.int hi]=some (.bl false):=by
 have e:vD [a]=some (.bl false):=by
  show(if noS a=true then some (D.bl (VL a))else none)=_
  rw[t7 hn,hw]
 refine VT (ρ:=[.v a,.v (.int lo),.v (.int hi)]) rfl ?_
 unfold yg
 refine Zp (xo ?_) rfl
 show(((vD [a]).bind asB).bind λc=>if c=true then _ else some (D.bl false))=_
 rw[e]
 rfl
theorem Zo:∀ ds d,ds.length=3->zt ds=some d->vE ds=some d:=by
 intro ds d hl h
 obtain⟨a,b,c,rfl⟩:=len3 hl
 cases b <;> try cases h
 cases c <;> try cases h
 rename_i lo hi
 obtain⟨hn,rfl⟩:=ifS h
 cases a with
 | scr _=>cases hn
 | int i =>
  refine VT (ρ:=[.v (.int i),.v (.int lo),.v (.int hi)]) rfl ?_
  unfold yg
  refine Zp (xo ?_) rfl
  show(if decide (lo<=i)=true then some (D.bl (decide (i<=hi)))else some (.bl false))=some (.bl (decide (lo<=i)&&decide (i<=hi)))
  cases decide (lo<=i) <;> rfl
 | tup es=>exact Vo hn rfl
 | lst es=>exact Vo hn rfl
 | dct z t ks vs=>exact Vo hn rfl
 | non=>rfl
 | bl _=>rfl
 | str _=>rfl
theorem xu (T:Txt K mg ad):xz P w K mg base CX0 2 ad.f_is_whole_within ad.e_is_whole_within ["thing","least","most"] (@spD ⟨K⟩ 3 zt):=by
 letI:KK:=⟨K⟩
 have G_is_whole:=zbc (P:=P) (w:=w) (base:=base) T
 refine Yy (xh (N:=["thing","least","most"]) (ps:=["thing","least","most"]) T.d_is_whole_within.fn ZA (g:=yg) λcdv A outer s H E hr=>?_) Zo
 unfold yg
 exact(zi (zw (vt (zo G_is_whole hr rfl T.d_is_whole (za (edv 0) zh)) (Ys (zht zgv zgv y0 y0 (edv 1) (edv 0) (edv 2) (λa b c=>zgw zgv zgv a b c))))))
def y4:SE->Ctl :=
 (yj (zr 3 zt (zb (zd 0) (zb (eC (.int 1)) (zb (eC (.int 8)) zv)))))
def x4:List D->Option D:=fnD 1 y4
def yC:List D->Option D
 | [d]=>if noS d=true then some (.bl (yP d 1 8))else none
 | _=>none
theorem ZP:∀ ds d,ds.length=1->yC ds=some d->x4 ds=some d:=by
 intro ds d hl h
 obtain⟨a,rfl⟩:=zkc hl
 have e:x4 [a]=zt [a,.int 1,.int 8]:=by
  cases h2:zt [a,.int 1,.int 8] <;> simp[x4,y4,fnD,zG,yj,vn,sIf,xc,ZJ,sNo,zE,WO,Yt,YS,Wz,ZH,vEv,visF,visG,Sl.f,Sl.g,zd,eC,zj,Yc,eOr,Xp,eIf,eUn,Xw,vU,yT,yF,zb,zv,zr,eFn,fFn,tOf,yk,Yd,yb,asB,asI,zH,Zi,v9,yn,yW,ZU,xS,ltD,leD,gtD,geD,Xh,zI,ya,zJ,zY,Xo,zN,ixD,YI,zQ,isT,eSl,yD,yo,yH,xa,iOf,v7,yV,Xs,YQ,Yh,yh,xX,fLC,yc,zM,xD,zL,Zg,yp,Zh,b1,b2,h2]
 rw[e]
 exact h
theorem ZS (T:Txt K mg ad):xz P w K mg base CX0 3 ad.f_is_place_count ad.e_is_place_count ["thing"] (@spD ⟨K⟩ 1 yC):=by
 letI:KK:=⟨K⟩
 have G_is_whole_within:=xu (P:=P) (w:=w) (base:=base) T
 refine Yy (xh (N:=["thing"]) (ps:=["thing"]) T.d_is_place_count.fn ZM (g:=y4) λcdv A outer s H E hr=>?_) ZP
 unfold y4
 exact(zi (zw (zo G_is_whole_within hr rfl T.d_is_whole_within (za (edv 0) (za (zf zg) (za (zf (zeY (v:=.int 8) rfl T.g_MOST_PLACES ⟨_,rfl⟩)) zh))))))
def YC:SE->Ctl :=
 (yj (zr 3 zt (zb (zd 1) (zb (eC (.int 0)) (zb (zj Zi (zd 0) (eC (.int 1))) zv)))))
def ZZ:List D->Option D:=fnD 2 YC
def xg:List D->Option D
 | [.int m,d]=>if noS d=true then some (.bl (yP d 0 (m - 1)))else none
 | _=>none
theorem zbx:∀ ds d,ds.length=2->xg ds=some d->ZZ ds=some d:=by
 intro ds d hl h
 obtain⟨a,b,rfl⟩:=ziJ hl
 cases a <;> try cases h
 rename_i m
 have e:ZZ [.int m,b]=zt [b,.int 0,.int (m - 1)]:=by
  cases h2:zt [b,.int 0,.int (m - 1)] <;> simp[ZZ,YC,fnD,zG,yj,vn,sIf,xc,ZJ,sNo,zE,WO,Yt,YS,Wz,ZH,vEv,visF,visG,Sl.f,Sl.g,zd,eC,zj,Yc,eOr,Xp,eIf,eUn,Xw,vU,yT,yF,zb,zv,zr,eFn,fFn,tOf,yk,Yd,yb,asB,asI,zH,Zi,v9,yn,yW,ZU,xS,ltD,leD,gtD,geD,Xh,zI,ya,zJ,zY,Xo,zN,ixD,YI,zQ,isT,eSl,yD,yo,yH,xa,iOf,v7,yV,Xs,YQ,Yh,yh,xX,fLC,yc,zM,xD,zL,Zg,yp,Zh,b1,b2,h2]
 rw[e]
 exact h
theorem zbt (T:Txt K mg ad):xz P w K mg base CX0 3 ad.f_is_place ad.e_is_place ["many","thing"] (@spD ⟨K⟩ 2 xg):=by
 letI:KK:=⟨K⟩
 have G_is_whole_within:=xu (P:=P) (w:=w) (base:=base) T
 refine Yy (xh (N:=["many","thing"]) (ps:=["many","thing"]) T.d_is_place.fn zbK (g:=YC) λcdv A outer s H E hr=>?_) zbx
 unfold YC
 exact(zi (zw (zo G_is_whole_within hr rfl T.d_is_whole_within (za (edv 1) (za (zf zg) (za (WW (edv 0) (zf zg)) zh))))))
theorem zjc {d:D}{lo hi:Int}(h:∀ i,d≠.int i):yP d lo hi=false:=by
 cases d <;> first | rfl | exact absurd rfl (h _)
theorem zaC {d:D}{lo hi:Int}(h:yP d lo hi=true):∃ i,d=.int i:=by
 cases d with
 | int i=>exact⟨i,rfl⟩
 | _=>cases h
def ZF:SE->Ctl :=
 (zG (sIf (Yd (yb (tOf (eUn (zQ .tuple) (zd 1)))) (tOf (zj neD (eFn YI (zb (zd 1) zv)) (eC (.int 2))))) (yj (eC (.bl false))) zE)
  (yj (Yc (zr 2 xg (zb (zd 0) (zb (zj ixD (zd 1) (eC (.int 0))) zv))) (Yc (zr 2 xg (zb (zd 0) (zb (zj ixD (zd 1) (eC (.int 1))) zv))) (zj neD (zj ixD (zd 1) (eC (.int 0))) (zj ixD (zd 1) (eC (.int 1))))))))
def zeC:List D->Option D:=fnD 2 ZF
def yN:List D->Option D
 | [.int m,d]=>if noS d=true then some (.bl (wd m d))else none
 | _=>none
theorem zhh {m:Int}{x y:D}(h:yP x 0 (m - 1)=false):wd m (.tup [x,y])=false:=by
 cases x with
 | int i =>
  cases y with
  | int j =>
   show(inR m i&&inR m j&&!decide (i=j))=false
   rw[show inR m i=false from h]
   rfl
  | _=>rfl
 | _=>rfl
theorem zgs {m:Int}{x y:D}(h:yP y 0 (m - 1)=false):wd m (.tup [x,y])=false:=by
 cases x with
 | int i =>
  cases y with
  | int j =>
   show(inR m i&&inR m j&&!decide (i=j))=false
   rw[show inR m j=false from h,u1Z]
   rfl
  | _=>rfl
 | _=>rfl
theorem zcN:∀ ds d,ds.length=2->yN ds=some d->zeC ds=some d:=by
 intro ds d hl h
 obtain⟨a,b,rfl⟩:=ziJ hl
 cases a <;> try cases h
 rename_i m
 obtain⟨hn,rfl⟩:=ifS h
 clear h
 cases b with
 | tup es =>
  refine VT (ρ:=[.v (.int m),.v (.tup es)]) rfl ?_
  unfold ZF
  by_cases hl:es.length=2
  .obtain⟨x,y,rfl⟩:=ziJ hl
   have hx:noS x=true:=YH (ds:=[x,y]) (i:=0) hn rfl
   have hy:noS y=true:=YH (ds:=[x,y]) (i:=1) hn rfl
   have e0:xg [.int m,x]=some (.bl (yP x 0 (m - 1))):=by
    show(if noS x=true then some (D.bl (yP x 0 (m - 1)))else none)=_
    rw[t7 hx]
   have e1:xg [.int m,y]=some (.bl (yP y 0 (m - 1))):=by
    show(if noS y=true then some (D.bl (yP y 0 (m - 1)))else none)=_
    rw[t7 hy]
   refine zu (ρ':=[.v (.int m),.v (.tup [x,y])]) rfl (Zp (xo ?_) rfl)
   show(((xg [.int m,x]).bind asB).bind λc=>if c=true then (((xg [.int m,y]).bind asB).bind λc=>if c=true then neD x y else some (D.bl false))else some (D.bl false))=_
   rw[e0,e1]
   cases h1:yP x 0 (m - 1) with
   | false=>rw[zhh h1];rfl
   | true =>
    cases h2:yP y 0 (m - 1) with
    | false=>rw[zgs h2];rfl
    | true =>
     obtain⟨i,rfl⟩:=zaC h1
     obtain⟨j,rfl⟩:=zaC h2
     show some (D.bl (!decide (i=j)))=some (.bl (inR m i&&inR m j&&!decide (i=j)))
     rw[show inR m i=true from h1,show inR m j=true from h2]
     rfl
  .have e:wd m (.tup es)=false:=by
    unfold wd YZ
    split
    .rename_i t ht
     split at ht
     .rename_i e'
      injection e' with e'
      rw[e']at hl
      exact absurd rfl hl
     .cases ht
    .rfl
   rw[e]
   refine yS (Xq (c:=true) ?_ (λ_=>Zp rfl rfl) λz=>by cases z)
   show some (!decide ((es.length:Int)=2))=_
   rw[p6 (show ¬ (es.length:Int)=2 from λh=>hl (u3R h))]
   rfl
 | scr _=>cases hn
 | _=>rfl
theorem WR (T:Txt K mg ad):xz P w K mg base CX0 4 ad.f_is_pair ad.e_is_pair ["many","thing"] (@spD ⟨K⟩ 2 yN):=by
 letI:KK:=⟨K⟩
 have G_is_place:=zbt (P:=P) (w:=w) (base:=base) T
 refine Yy (xh (N:=["many","thing"]) (ps:=["many","thing"]) T.d_is_pair.fn zcG (g:=ZF) λcdv A outer s H E hr=>?_) zcN
 unfold ZF
 exact(ze (yX (zcw (WL (wH (yZ (zz .tuple rfl T.z_isinstance (edv 1) (zR (v:=.ty "tuple") rfl T.z_tuple zT rfl)))) (Z9 (zF V5 Xj (zB _) (yu zS vM rfl T.z_len Zr (za (edv 1) zh)) (zf zg))))) (zi (zw (wz wD))) zA)
  (zi (zw (vt (zo G_is_place hr rfl T.d_is_place (za (edv 0) (za (zP (edv 1) (zf zg) (λ_ _=>rfl)) zh))) (vt (zo G_is_place hr rfl T.d_is_place (za (edv 0) (za (zP (edv 1) (zf zg) (λ_ _=>rfl)) zh))) (Ys (Zl V5 Xj (zB _) (zP (edv 1) (zf zg) (λ_ _=>rfl)) (zP (edv 1) (zf zg) (λ_ _=>rfl)))))))))
def zaI (ds:List D):Nat->Option Tie
 | 0=>none
 | k+1=>(ds[k]?).bind YZ
def Yl:SE->Ctl :=
 (zG (sIf (Yd (yb (tOf (zr 2 yN (zb (zd 0) (zb (zd 3) zv))))) (tOf (zj gtD (zj ixD (zd 3) (eC (.int 0))) (zj ixD (zd 3) (eC (.int 1)))))) (yj (eC (.bl false))) zE)
  (sIf (yk (tOf (zj gtD (zd 2) (eC (.int 0)))) (tOf (zj leT (zd 3) (zj ixD (zd 1) (zj Zi (zd 2) (eC (.int 1))))))) (yj (eC (.bl false))) zE))
def vz:SE->Ctl :=
 (zG (sIf (yb (tOf (eUn (zQ .tuple) (zd 1)))) (yj (eC (.bl false))) zE)
  (zG (v7 (yh (zb (zd 1) zv)) (Zg 2 (yp (zL 2) (yp (zL 3) Zh))) Yl)
  (yj (eC (.bl true)))))
def zde:List D->Option D:=fnD 4 vz
def vx:List D->Option D
 | [.int m,d]=>if noS d=true then some (.bl (YK m d))else none
 | _=>none
theorem WK {m:Int}{d:D}(h:wd m d=true):∃ t,d=zc t:=by
 unfold wd at h
 split at h
 .rename_i t ht
  exact⟨t,Wt ht⟩
 .cases h
theorem za3:∀ ds d,ds.length=2->vx ds=some d->zde ds=some d:=by
 intro ds d hl h
 obtain⟨a,b,rfl⟩:=ziJ hl
 cases a <;> try cases h
 rename_i m
 obtain⟨hn,rfl⟩:=ifS h
 clear h hl
 cases b with
 | scr _=>cases hn
 | tup es =>
  refine VT (g:=vz) rfl ?_
  unfold vz
  refine zu rfl ?_
  refine yS (Xk (ds:=Zm 0 es) (λi ρ=>∃ o1 o2,ρ=[.v (.int m),.v (.tup es),o1,o2]/\ym m none es=ym m (zaI es i) (es.drop i)/\∀ k,i=k+1->∃ p,es[k]?=some (zc p)) rfl
   ⟨.no,.no,rfl,rfl,λk e=>by cases e⟩ ?_ ?_)
  .rintro i d ρ hd ⟨o1,o2,rfl,hp,hk⟩
   rw[wM]at hd
   obtain⟨dx,hdx,rfl⟩:=u7.mp hd
   rw[u0u]
   refine⟨_,rfl,?_⟩
   have hdrop:es.drop i=dx::es.drop (i+1):=by
    obtain⟨h1,h2⟩:=u9.mp hdx
    rw[u1l h1,h2]
   have hnx:noS dx=true:=YH hn hdx
   unfold Yl
   cases hpr:wd m dx with
   | false =>
    have e1:yN [.int m,dx]=some (.bl false):=by
     show(if noS dx=true then some (D.bl (wd m dx))else none)=_
     rw[t7 hnx,hpr]
    refine yS (Xq (c:=true) (show(((yN [.int m,dx]).bind asB).map (!·)).bind (λc=>if c=true then some true else _)=_ by rw[e1];rfl) (λ_=>Zp rfl ?_) (λz=>by cases z))
    have e:ym m none es=false:=by
     rw[hp,hdrop]
     unfold ym
     split
     .rw[hpr];rfl
     .rfl
    show D.bl false=.bl (ym m none es)
    rw[e]
   | true =>
    obtain⟨t,rfl⟩:=WK hpr
    have e1:yN [.int m,zc t]=some (.bl true):=by
     show(if noS (zc t)=true then some (D.bl (wd m (zc t)))else none)=_
     rw[t7 hnx,hpr]
    have step:ym m none es=(!decide (t.2 < t.1)&&zaL (zaI es i) t&&ym m (some t) (es.drop (i+1))):=by
     rw[hp,hdrop]
     conv=>lhs;unfold ym
     rw[Yq,hpr]
     rfl
    have prevS:zaI es (i+1)=some t:=by
     show(es[i]?).bind YZ=some t
     rw[hdx]
     rfl
    refine yS (Xq (c:=decide (t.2 < t.1)) (show(((yN [.int m,zc t]).bind asB).map (!·)).bind (λc=>if c=true then some true else some (decide (t.2 < t.1)))=_ by rw[e1];rfl) (λc=>Zp rfl ?_) (λc=>vQ rfl ?_))
    .show D.bl false=.bl (ym m none es)
     rw[step,c]
     rfl
    .cases i with
     | zero =>
      refine Xq (c:=false) rfl (λz=>by cases z) (λ_=>vQ rfl ?_)
      refine⟨_,_,rfl,?_,λk e=>?_⟩
      .rw[prevS,step,c]
       rfl
      .cases e
       exact⟨t,hdx⟩
     | succ j =>
      obtain⟨p,hpk⟩:=hk j rfl
      have prevK:zaI es (j+1)=some p:=by
       show(es[j]?).bind YZ=some p
       rw[hpk]
       rfl
      rw[prevK]at step
      have ea:atI es ((((j+1:Nat):Int)) - 1)=some (zc p):=by
       rw[show(((j+1:Nat):Int)) - 1=(j:Nat)from Int.add_sub_cancel (j:Int) 1]
       exact zfv hpk
      have okP:zaL (some p) t=!leP t p:=rfl
      refine Xq (c:=leP t p) ?_ (λc2=>Zp rfl ?_) (λc2=>vQ rfl ?_)
      .have z:decide ((0:Int) < ((j+1:Nat):Int))=true:=r9 (Int.natCast_pos.mpr (Nat.succ_pos j))
       show((some (decide ((0:Int) < ((j+1:Nat):Int)))).bind λc=>if c=true then (((atI es (((j+1:Nat):Int) - 1)).bind λy=>leT (zc t) y).bind asB)else some false)=_
       rw[z,ea]
       rfl
      .show D.bl false=.bl (ym m none es)
       rw[step,okP,c2,c]
       rfl
      .refine⟨_,_,rfl,?_,λk' e=>?_⟩
       .rw[prevS,step,okP,c2,c]
        rfl
       .cases e
        exact⟨t,hdx⟩
  .rintro ρ ⟨o1,o2,rfl,hp,hk⟩
   refine Zp rfl ?_
   show D.bl true=.bl (ym m none es)
   rw[hp,wX,u3W]
   cases zaI es es.length <;> rfl
 | _=>rfl
theorem zbw (T:Txt K mg ad):xz P w K mg base CX0 5 ad.f_are_ties ad.e_are_ties ["many","thing"] (@spD ⟨K⟩ 2 vx):=by
 letI:KK:=⟨K⟩
 have G_is_pair:=WR (P:=P) (w:=w) (base:=base) T
 refine Yy (xh (N:=["many","thing","at","tie"]) (ps:=["many","thing"]) T.d_are_ties.fn Zc (g:=vz) λcdv A outer s H E hr=>?_) za3
 unfold vz Yl
 exact(ze (yX (wH (yZ (zz .tuple rfl T.z_isinstance (edv 1) (zR (v:=.ty "tuple") rfl T.z_tuple zT rfl)))) (zi (zw (wz wD))) zA)
  (ze (Yx u0e rfl (XW rfl T.z_enumerate xV (za (edv 1) zh)) (Ws rfl (yq (zK (zq (i:=2) Zc.nd rfl (Or.inl rfl))) (yq (zK (zq (i:=3) Zc.nd rfl (Or.inl rfl))) Zd))) (ze (yX (zcw (WL (wH (yZ (zo G_is_pair hr rfl T.d_is_pair (za (edv 0) (za (edv 3) zh))))) (Z9 (zF zdb y0 (zB _) (zP (edv 3) (zf zg) (λ_ _=>rfl)) (zP (edv 3) (zf zg) (λ_ _=>rfl)))))) (zi (zw (wz wD))) zA)
  (zi (yX (zcw (W6 (zF zdb y0 (zB _) (edv 2) (zf zg)) (Z1 (zF (zh6 hr.units0) zfT (zB _) (edv 3) (zP (edv 1) (WW (edv 2) (zf zg)) (λ_ _=>rfl)))))) (zi (zw (wz wD))) zA))))
  (zi (zw (wz wD)))))
def YE:SE->Ctl :=
 (zG (sIf (Yd (yb (tOf (eUn (zQ .tuple) (zd 0)))) (tOf (zj neD (eFn YI (zb (zd 0) zv)) (eC (.int 2))))) (yj (eC (.bl false))) zE)
  (yj (Yc (zr 1 yC (zb (zj ixD (zd 0) (eC (.int 0))) zv)) (zr 2 vx (zb (zj ixD (zd 0) (eC (.int 0))) (zb (zj ixD (zd 0) (eC (.int 1))) zv))))))
def XC:List D->Option D:=fnD 1 YE
def Zk:List D->Option D
 | [d]=>if noS d=true then some (.bl (YU d))else none
 | _=>none
theorem zfz {x y:D}:YU (.tup [x,y])=(yP x 1 8&&match x with | .int m=>YK m y | _=>false):=by
 cases x <;> rfl
theorem zeu:∀ ds d,ds.length=1->Zk ds=some d->XC ds=some d:=by
 intro ds d hl h
 obtain⟨a,rfl⟩:=zkc hl
 obtain⟨hn,rfl⟩:=ifS h
 clear h hl
 cases a with
 | scr _=>cases hn
 | tup es =>
  by_cases hl:es.length=2
  .obtain⟨x,y,rfl⟩:=ziJ hl
   have hx:noS x=true:=YH (ds:=[x,y]) (i:=0) hn rfl
   have hy:noS y=true:=YH (ds:=[x,y]) (i:=1) hn rfl
   have ec:yC [x]=some (.bl (yP x 1 8)):=by simp[yC,hx]
   rw[zfz]
   by_cases ix:∃ i,x=.int i
   .obtain⟨i,rfl⟩:=ix
    have et:vx [.int i,y]=some (.bl (YK i y)):=by simp[vx,hy]
    cases hc:yP (.int i) 1 8 <;> rw[hc]at ec <;> simp[XC,YE,fnD,zG,yj,vn,sIf,xc,ZJ,sNo,zE,WO,Yt,YS,Wz,ZH,vEv,visF,visG,Sl.f,Sl.g,zd,eC,zj,Yc,eOr,Xp,eIf,eUn,Xw,vU,yT,yF,zb,zv,zr,eFn,fFn,tOf,yk,Yd,yb,asB,asI,zH,Zi,v9,yn,yW,ZU,xS,ltD,leD,gtD,geD,Xh,zI,ya,zJ,zY,Xo,zN,ixD,YI,zQ,isT,eSl,yD,yo,yH,xa,iOf,v7,yV,Xs,YQ,Yh,yh,xX,fLC,yc,zM,xD,zL,Zg,yp,Zh,b1,b2,ec,et,atI,ixN]
   .have n2:yP x 1 8=false:=zjc λj hj=>ix ⟨j,hj⟩
    rw[n2]at ec ⊢
    simp[XC,YE,fnD,zG,yj,vn,sIf,xc,ZJ,sNo,zE,WO,Yt,YS,Wz,ZH,vEv,visF,visG,Sl.f,Sl.g,zd,eC,zj,Yc,eOr,Xp,eIf,eUn,Xw,vU,yT,yF,zb,zv,zr,eFn,fFn,tOf,yk,Yd,yb,asB,asI,zH,Zi,v9,yn,yW,ZU,xS,ltD,leD,gtD,geD,Xh,zI,ya,zJ,zY,Xo,zN,ixD,YI,zQ,isT,eSl,yD,yo,yH,xa,iOf,v7,yV,Xs,YQ,Yh,yh,xX,fLC,yc,zM,xD,zL,Zg,yp,Zh,b1,b2,ec,atI,ixN]
  .have e:YU (.tup es)=false:=zi1 λm ties h _=>by
    unfold ye at h
    injection h with h
    rw[h]at hl
    exact hl rfl
   rw[e]
   have:¬ (es.length:Int)=2:=by omega
   simp[XC,YE,fnD,zG,yj,vn,sIf,xc,ZJ,sNo,zE,WO,Yt,YS,Wz,ZH,vEv,visF,visG,Sl.f,Sl.g,zd,eC,zj,Yc,eOr,Xp,eIf,eUn,Xw,vU,yT,yF,zb,zv,zr,eFn,fFn,tOf,yk,Yd,yb,asB,asI,zH,Zi,v9,yn,yW,ZU,xS,ltD,leD,gtD,geD,Xh,zI,ya,zJ,zY,Xo,zN,ixD,YI,zQ,isT,eSl,yD,yo,yH,xa,iOf,v7,yV,Xs,YQ,Yh,yh,xX,fLC,yc,zM,xD,zL,Zg,yp,Zh,b1,b2,this]
 | _=>rfl
theorem zeF (T:Txt K mg ad):xz P w K mg base CX0 6 ad.f_is_web ad.e_is_web ["thing"] (@spD ⟨K⟩ 1 Zk):=by
 letI:KK:=⟨K⟩
 have G_is_place_count:=ZS (P:=P) (w:=w) (base:=base) T
 have G_are_ties:=zbw (P:=P) (w:=w) (base:=base) T
 refine Yy (xh (N:=["thing"]) (ps:=["thing"]) T.d_is_web.fn zfC (g:=YE) λcdv A outer s H E hr=>?_) zeu
 unfold YE
 exact(ze (yX (zcw (WL (wH (yZ (zz .tuple rfl T.z_isinstance (edv 0) (zR (v:=.ty "tuple") rfl T.z_tuple zT rfl)))) (Z9 (zF V5 Xj (zB _) (yu zS vM rfl T.z_len Zr (za (edv 0) zh)) (zf zg))))) (zi (zw (wz wD))) zA)
  (zi (zw (vt (zo G_is_place_count hr rfl T.d_is_place_count (za (zP (edv 0) (zf zg) (λ_ _=>rfl)) zh)) (Ys (zo G_are_ties hr rfl T.d_are_ties (za (zP (edv 0) (zf zg) (λ_ _=>rfl)) (za (zP (edv 0) (zf zg) (λ_ _=>rfl)) zh))))))))
theorem ziY (m:Int)(ts:List Tie):noS (ye m ts)=true:=by
 have:∀ ts:List Tie,zh0 (ts.map zc)=true:=by
  intro ts
  induction ts with
  | nil=>rfl
  | cons t ts ih=>show(noS (zc t)&&zh0 (ts.map zc))=true;rw[ih];rfl
 show(noS (.int m)&&(noS (.tup (ts.map zc))&&true))=true
 rw[show noS (.tup (ts.map zc))=zh0 (ts.map zc)from rfl,this ts]
 rfl
def wu:SE->Ctl :=
 (sIf (yb (tOf (zr 1 Zk (zb (zd 0) zv)))) sNo zE)
def ZD:List D->Option D:=fnD 1 wu
def xn:List D->Option D
 | [d]=>if YU d=true then some .non else none
 | _=>none
theorem WJ:∀ ds d,ds.length=1->xn ds=some d->ZD ds=some d:=by
 intro ds d hl h
 obtain⟨a,rfl⟩:=zkc hl
 obtain⟨hw,rfl⟩:=ifS h
 obtain⟨m,ts,rfl,_⟩:=(Z0 a).mp hw
 have e:Zk [ye m ts]=some (.bl true):=by simp[Zk,ziY m ts,hw]
 simp[ZD,wu,fnD,zG,yj,vn,sIf,xc,ZJ,sNo,zE,WO,Yt,YS,Wz,ZH,vEv,visF,visG,Sl.f,Sl.g,zd,eC,zj,Yc,eOr,Xp,eIf,eUn,Xw,vU,yT,yF,zb,zv,zr,eFn,fFn,tOf,yk,Yd,yb,asB,asI,zH,Zi,v9,yn,yW,ZU,xS,ltD,leD,gtD,geD,Xh,zI,ya,zJ,zY,Xo,zN,ixD,YI,zQ,isT,eSl,yD,yo,yH,xa,iOf,v7,yV,Xs,YQ,Yh,yh,xX,fLC,yc,zM,xD,zL,Zg,yp,Zh,b1,b2,e]
theorem Wy (T:Txt K mg ad):xz P w K mg base CX0 7 ad.f_must_be_web ad.e_must_be_web ["thing"] (@spD ⟨K⟩ 1 xn):=by
 letI:KK:=⟨K⟩
 have G_is_web:=zeF (P:=P) (w:=w) (base:=base) T
 refine Yy (xh (N:=["thing"]) (ps:=["thing"]) T.d_must_be_web.fn WN (g:=wu) λcdv A outer s H E hr=>?_) WJ
 unfold wu
 exact(zi (yX (wH (yZ (zo G_is_web hr rfl T.d_is_web (za (edv 0) zh)))) (zi zbU) zA))
def VS (a b:Int):Tie:=(if b < a then b else a,if b > a then b else a)
def vI:SE->Ctl :=
 (yj (vU (zb (eFn zgG (zb (zd 0) (zb (zd 1) zv))) (zb (eFn zlD (zb (zd 0) (zb (zd 1) zv))) zv))))
def Vt:List D->Option D:=fnD 2 vI
def yQ:List D->Option D
 | [.int a,.int b]=>some (zc (VS a b))
 | _=>none
theorem WH:∀ ds d,ds.length=2->yQ ds=some d->Vt ds=some d:=by
 intro ds d hl h
 obtain⟨a,b,rfl⟩:=ziJ hl
 cases a <;> try cases h
 cases b <;> try cases h
 rfl
theorem WG (T:Txt K mg ad):xz P w K mg base CX0 1 ad.f_tie_between ad.e_tie_between ["one","other"] (@spD ⟨K⟩ 2 yQ):=by
 letI:KK:=⟨K⟩
 refine Yy (xh (N:=["one","other"]) (ps:=["one","other"]) T.d_tie_between.fn WA (g:=vI) λcdv A outer s H E hr=>?_) WH
 unfold vI
 exact(zi (zw (YY (za (yu (zaM rfl) zcr rfl T.z_min zfZ (za (edv 0) (za (edv 1) zh))) (za (yu (zdJ rfl) zgb rfl T.z_max zkQ (za (edv 0) (za (edv 1) zh))) zh)))))
theorem zdP (ts:List Tie):(ts.map zc).all (okE 20)=true:=by
 rw[u1R,u0k]
 exact λt _=>rfl
theorem zcq (s t:Tie):eqN 20 (zc s) (zc t)=decide (s=t):=by
 have:eqN 20 (zc s) (zc t)=((s.1 == t.1)&&((s.2 == t.2)&&true)&&true):=rfl
 rw[this,u3P,u3P]
 by_cases h:s=t
 .subst h
  simp
 .rw[p6 h,Bool.and_eq_false_iff]
  by_cases h1:s.1=t.1
  .exact .inr (u0Y.mpr λh2=>h (u2E h1 h2))
  .exact .inl (u0Y.mpr h1)
theorem zg5 (t:Tie)(ts:List Tie):inD (zc t) (.tup (ts.map zc))=some (.bl (decide (t∈ts))):=by
 show(zh4 (zc t) (ts.map zc)).map D.bl=_
 unfold zh4
 rw[t7 ⟨rfl,zdP ts⟩]
 show some (D.bl ((ts.map zc).any λe=>eqN 20 e (zc t)))=_
 rw[u4c]
 congr 2
 rw[u1u,u3V,d5]
 constructor
 .rintro⟨s,hs,h⟩
  have h:eqN 20 (zc s) (zc t)=true:=h
  rw[zcq,d5]at h
  subst h
  exact hs
 .exact λh=>⟨t,h,by show eqN 20 (zc t) (zc t)=true;rw[zcq];exact r9 rfl⟩
end
theorem za5 {m:Nat}{g:SE->Ctl}{ds:List D}{R:D->Prop}{ρ:SE}(e:ds.map .v++List.replicate (m - ds.length) .no=ρ)(q:(g ρ).w (λ_=>R .non) noP noP R):∃ d,fnD m g ds=some d/\R d:=by
 unfold fnD
 rw[e]
 cases hg:g ρ with
 | nx ρ'=>rw[hg]at q;exact⟨_,rfl,q.nxi⟩
 | rt d'=>rw[hg]at q;exact⟨_,rfl,q.rti⟩
 | bk _=>rw[hg]at q;exact q.bki.elim
 | ct _=>rw[hg]at q;exact q.cti.elim
 | no=>rw[hg]at q;exact q.noi.elim
section
variable {P:Program}{w:World}{K:W.Frag}{mg:Str->Option Value}{base:Heap}{ad:Adr}
def vY:SE->Ctl :=
 (zG (xc false 2 (zj yW (zj v9 (zj wP (zj wP (zj yW (zd 0) (eC (.int 2147483647))) (zj v9 (eC (.int 977)) (zd 1))) (eC (.int 1))) (eC (.int 48271))) (eC (.int 2147483647))))
  (zG (xc false 2 (zj yW (zj v9 (zd 2) (zd 2)) (eC (.int 2147483629))))
  (zG (xc false 2 (zj yW (zj v9 (zj wP (zd 2) (zj v9 (eC (.int 40692)) (zj wP (zd 1) (eC (.int 3))))) (eC (.int 69621))) (eC (.int 2147483647))))
  (yj (zj yn (zd 2) (eC (.int 8)))))))
def zbq:List D->Option D:=fnD 3 vY
def zD:List D->Option D
 | [.int c,.int k]=>some (.int (zbB c k))
 | _=>none
theorem zaW {i j:Int}(h1:-(2 ^ 64) < i)(h2:i < 2 ^ 64):X8 i j=true:=r9 (.inl ⟨h1,h2⟩)
theorem zfE {i j:Int}(h1:-(2 ^ 64) < j)(h2:j < 2 ^ 64):X8 i j=true:=r9 (.inr ⟨h1,h2⟩)
theorem XR {i j:Int}(h:X8 i j=true):v9 (.int i) (.int j)=some (.int (i*j)):=by
 show(if X8 i j=true then _ else none)=_
 rw[t7 h]
theorem y6 {i j:Int}(h:0 < j):yW (.int i) (.int j)=some (.int (i % j)):=by
 show(if decide (0 < j)=true then _ else none)=_
 rw[t7 (r9 h)]
theorem Zs {i j:Int}(h:0 < j)(h2:j < 1606938044258990275541962092341162602522202993782792835301376):yn (.int i) (.int j)=some (.int (i / j)):=by
 show(if decide (0 < j/\j < 1606938044258990275541962092341162602522202993782792835301376)=true then _ else none)=_
 rw[t7 (r9 ⟨h,h2⟩)]
theorem zaD:∀ ds d,ds.length=2->zD ds=some d->zbq ds=some d:=by
 intro ds d hl h
 obtain⟨a,b,rfl⟩:=ziJ hl
 cases a <;> try cases h
 cases b <;> try cases h
 rename_i c k
 have h1:=u3h ((c % 2147483647+977*k+1)*48271) (show(2147483647:Int)≠0 by decide)
 have h2:=u3t ((c % 2147483647+977*k+1)*48271) (show(0:Int) < 2147483647 by decide)
 have m1:X8 977 k=true:=zaW (by decide) (by decide)
 have m2:X8 (c % 2147483647+977*k+1) 48271=true:=zfE (by decide) (by decide)
 obtain⟨x,hx⟩:∃ x,(c % 2147483647+977*k+1)*48271 % 2147483647=x:=⟨_,rfl⟩
 rw[hx]at h1 h2
 have m3:X8 x x=true:=zaW (Int.lt_of_lt_of_le (by decide) h1) (Int.lt_trans h2 (by decide))
 have m4:X8 40692 (k+3)=true:=zaW (by decide) (by decide)
 have m5:∀ x,X8 x 69621=true:=λx=>zfE (by decide) (by decide)
 obtain⟨y,hy⟩:∃ y,x*x % 2147483629=y:=⟨_,rfl⟩
 obtain⟨z,hz⟩:∃ z,(y+40692*(k+3))*69621 % 2147483647=z:=⟨_,rfl⟩
 have hst:zbB c k=z / 8:=by
  show((((c % 2147483647+977*k+1)*48271 % 2147483647)*((c % 2147483647+977*k+1)*48271 % 2147483647) % 2147483629+40692*(k+3))*69621 % 2147483647 / 8)=_
  rw[hx,hy,hz]
 rw[hst]
 refine VT (ρ:=[.v (.int c),.v (.int k),.no]) rfl ?_
 unfold vY
 refine zu (ρ':=[.v (.int c),.v (.int k),.v (.int x)]) (vW ?_) ?_
 .show(((((yW (.int c) (.int 2147483647)).bind λa=>(v9 (.int 977) (.int k)).bind λb=>wP a b).bind λa=>wP a (.int 1)).bind λa=>v9 a (.int 48271)).bind λa=>yW a (.int 2147483647))=_
  rw[y6 (by decide),XR m1]
  show((v9 (.int (c % 2147483647+977*k+1)) (.int 48271)).bind λa=>yW a (.int 2147483647))=_
  rw[XR m2,<- hx]
  exact y6 (by decide)
 refine zu (ρ':=[.v (.int c),.v (.int k),.v (.int y)]) (vW ?_) ?_
 .show((v9 (.int x) (.int x)).bind λa=>yW a (.int 2147483629))=_
  rw[XR m3,<- hy]
  exact y6 (by decide)
 refine zu (ρ':=[.v (.int c),.v (.int k),.v (.int z)]) (vW ?_) ?_
 .show((((v9 (.int 40692) (.int (k+3))).bind λb=>wP (.int y) b).bind λa=>v9 a (.int 69621)).bind λa=>yW a (.int 2147483647))=_
  rw[XR m4]
  show((v9 (.int (y+40692*(k+3))) (.int 69621)).bind λa=>yW a (.int 2147483647))=_
  rw[XR (m5 _),<- hz]
  exact y6 (by decide)
 exact Zp (xo (show yn (.int z) (.int 8)=_ from Zs (by decide) (by decide))) rfl
theorem xT (T:Txt K mg ad):xz P w K mg base CX0 1 ad.f__law_stir ad.e__law_stir ["cell","k"] (@spD ⟨K⟩ 2 zD):=by
 letI:KK:=⟨K⟩
 refine Yy (xh (N:=["cell","k","number"]) (ps:=["cell","k"]) T.d__law_stir.fn wQ (g:=vY) λcdv A outer s H E hr=>?_) zaD
 unfold vY
 exact(ze (yA (m:=false) (i:=2) wQ.nd rfl (Or.inl rfl) (xv (VW (yO (yO (xv (edv 0) (zf zg)) (VW (zf zg) (edv 1))) (zf zg)) (zf zg)) (zf zg)))
  (ze (yA (m:=false) (i:=2) wQ.nd rfl (Or.inl rfl) (xv (VW (edv 2) (edv 2)) (zf zg)))
  (ze (yA (m:=false) (i:=2) wQ.nd rfl (Or.inl rfl) (xv (VW (yO (edv 2) (VW (zf zg) (yO (edv 1) (zf zg)))) (zf zg)) (zf zg)))
  (zi (zw (Ye (edv 2) (zf zg)))))))
theorem zdq {i j:Int}(h1:0<=i)(h2:i<=1000)(h3:0<=j)(h4:j<=60):Yh [.int i,.int j]=some (Xm i (j - i).toNat):=by
 show(if zf3 i=true/\zf3 j=true then some (Xm i (j - i).toNat)else none)=_
 rw[t7 ⟨yl.mpr ⟨by(clear h4 h3 h2;omega),by(clear h4 h3;omega)⟩,yl.mpr ⟨by omega,by omega⟩⟩]
theorem vC {j:Int}(h3:0<=j)(h4:j<=1000000):YQ [.int j]=some (Xm 0 j.toNat):=by
 show(if zf3 j=true then some (Xm 0 j.toNat)else none)=_
 rw[t7 (yl.mpr ⟨by omega,by omega⟩)]
def vAt (ns:List Int)(i:Int):Int:=ns.getD i.toNat 0
theorem zcf {ns:List Int}{i:Int}(h0:0<=i)(h1:i < ns.length):atI (ns.map D.int) i=some (.int (vAt ns i)):=by
 unfold vAt
 obtain⟨k,hk⟩:∃ k:Nat,i=k:=⟨i.toNat,by omega⟩
 subst hk
 refine zfv ?_
 rw[i5,j4,j6 (by omega),u02,j6 (by omega)]
 rfl
theorem zli {ns:List Int}{i m:Int}(h:0<=i/\i < m)(hl:(ns.length:Int)=m):atI (ns.map D.int) i=some (.int (vAt ns i)):=zcf h.1 (by omega)
def vo:SE->Ctl :=
 (xc false 1 (zj wP (zd 1) (yT (fLC (Xs Yh (zb (zj wP (zd 2) (eC (.int 1))) (zb (zd 0) zv))) b1 yc (vU (zb (zd 3) (zb (zd 0) zv)))))))
def wR:SE->Ctl :=
 (zG (xc false 1 (yT (yF zv)))
  (zG (yV YQ (zb (zd 0) zv) (zL 2) vo)
  (yj (zd 1))))
def zax:List D->Option D:=fnD 3 wR
def xR:List D->Option D
 | [.int n]=>if decide (0<=n/\n<=8)=true then some (.lst ((xw n.toNat).map zc))else none
 | _=>none
theorem VE:∀ ds d,ds.length=1->xR ds=some d->zax ds=some d:=by
 intro ds d hl h
 obtain⟨a,rfl⟩:=zkc hl
 cases a <;> try cases h
 rename_i n
 obtain⟨hn,rfl⟩:=ifS h
 have hn:0<=n/\n<=8:=r6 hn
 clear h hl
 obtain⟨k,hk⟩:∃ k:Nat,n.toNat=k:=⟨_,rfl⟩
 have hk8:k<=8:=by omega
 have hkn:n=(k:Int):=by omega
 rw[hk]
 have hr:YQ [.int n]=some (Xm 0 k):=by rw[vC hn.1 (by omega),hk]
 clear hk
 refine VT (ρ:=[.v (.int n),.no,.no]) rfl ?_
 unfold wR
 have e0:xc false 1 (yT (yF zv)) [.v (.int n),.no,.no]=.nx [.v (.int n),.v (.lst []),.no]:=rfl
 refine zu e0 (yS (WS (lo:=0) (c:=k) (λi ρ=>∃ o2,ρ=[.v (.int n),.v (.lst ((xF k i).map zc)),o2]) hr ⟨.no,rfl⟩ ?_ ?_))
 .rintro i ρ hi ⟨o2,rfl⟩
  refine⟨_,rfl,?_⟩
  obtain⟨x,hx⟩:∃ x:Int,(0:Int)+(i:Int)=x:=⟨_,rfl⟩
  rw[hx]
  unfold vo
  refine vQ (ρ':=[.v (.int n),.v (.lst ((xF k (i+1)).map zc)),.v (.int x)]) (vW (d:=.lst ((xF k (i+1)).map zc)) ?_) ⟨_,rfl⟩
  have e:fLC (Xs Yh (zb (zj wP (zd 2) (eC (.int 1))) (zb (zd 0) zv))) b1 yc (vU (zb (zd 3) (zb (zd 0) zv))) [some (.int n),some (.lst ((xF k i).map zc)),some (.int x)]=some ((zbj i (k - (i+1))).map zc):=by
   have e1:Yh [.int (x+1),.int n]=some (Xm (x+1) (k - (i+1))):=by
    rw[zdq (by omega) (by omega) (by omega) (by omega)]
    have et:(n - (x+1)).toNat=k - (i+1):=by omega
    rw[et]
   unfold fLC
   show(Yh [.int (x+1),.int n]).bind _=_
   rw[e1]
   show(if lim (Xm (x+1) (k - (i+1))).length=true then _ else none)=_
   rw[t7 (YX (by rw[zbs];omega))]
   unfold zbj
   rw[e9]
   refine VM (λj:Nat=>D.int (x+1+(j:Int))) _ (List.range (k - (i+1))) λj _=>⟨[some (.int (x+1+(j:Int)))],rfl,rfl,?_⟩
   show some (D.tup [.int x,.int (x+1+(j:Int))])=some (D.tup [.int (i:Int),.int ((i:Int)+1+(j:Int))])
   rw[<-hx,Int.zero_add]
  show(((fLC (Xs Yh (zb (zj wP (zd 2) (eC (.int 1))) (zb (zd 0) zv))) b1 yc (vU (zb (zd 3) (zb (zd 0) zv))) [some (.int n),some (.lst ((xF k i).map zc)),some (.int x)]).map D.lst).bind λy=>wP (.lst ((xF k i).map zc)) y)=_
  rw[e]
  show wP (.lst ((xF k i).map zc)) (.lst ((zbj i (k - (i+1))).map zc))=_
  rw[zb4 (by rw[u6,u6,Z5];have:=zdo k hk8 i;omega),Z7,i6]
 .rintro ρ ⟨o2,rfl⟩
  refine Zp rfl ?_
  rw[zfB]
theorem Vm (T:Txt K mg ad):xz P w K mg base CX0 1 ad.f__law_pairs ad.e__law_pairs ["many"] (@spD ⟨K⟩ 1 xR):=by
 letI:KK:=⟨K⟩
 refine Yy (xh (N:=["many","found","a"]) (ps:=["many"]) T.d__law_pairs.fn wx (g:=wR) λcdv A outer s H E hr=>?_) VE
 unfold wR vo
 exact(ze (yA (m:=false) (i:=1) wx.nd rfl (Or.inl rfl) (ww (YV zh)))
  (ze (Zy u0e rfl rfl T.z_range (za (edv 0) zh) (zK (zq (i:=2) wx.nd rfl (Or.inr rfl))) (zi (yA (m:=false) (i:=1) wx.nd rfl (Or.inl rfl) (yO (edv 1) (ww (Xe (L:=["b"]) (M:=["many","found","a"]) rfl (wk (by rfl) (by rfl) (by rfl) (by with_unfolding_all rfl) (by rfl) (by rfl) (by kernel_rfl) (all_cons rfl yI)) (zex rfl T.z_range (za (yO (edv 2) (zf zg)) (za (edv 0) zh))) gs1 rb1 (λ_ _ _ _=>(zq (i:=0) zmH rfl (Or.inl rfl) (.inr rfl))) (λ_ _ _ _=>(YY (za (edv 3) (za (edv 0) zh))))))))))
  (zi (zw (edv 1)))))
def xt:SE->Ctl :=
 (zG (sIf (yk (tOf (zj v5 (zj yW (zd 1) (eC (.int 2))) (eC (.int 0)))) (tOf (zj v5 (zj yW (zj zjV (zj yn (zd 1) (eC (.int 2))) (zd 3)) (eC (.int 2))) (eC (.int 1))))) (YS false 2 (zd 4)) zE)
  (sIf (yk (tOf (zj v5 (zj yW (zd 1) (eC (.int 2))) (eC (.int 1)))) (tOf (zj ltD (zj yW (zr 2 zD (zb (zd 1) (zb (zd 3) zv))) (eC (.int 5))) (zj wP (eC (.int 2)) (zj yW (zj yn (zd 1) (eC (.int 2))) (eC (.int 2))))))) (YS false 2 (zd 4)) zE))
def xl:SE->Ctl :=
 (zG (Yt 2 (yF zv))
  (zG (v7 (yh (zb (zr 1 xR (zb (zd 0) zv)) zv)) (Zg 2 (yp (zL 3) (yp (zL 4) Zh))) xt)
  (sFz 2 (yj (vU (zb (zd 0) (zb (eFn zM (zb (zd 2) zv)) zv)))))))
def wv:List D->Option D:=fnD 5 xl
theorem ziS {a k:Int}(h:0<=k):zjV (.int a) (.int k)=some (.int (a / 2 ^ k.toNat)):=by
 show(if decide (0<=k)=true then some (D.int (a / 2 ^ k.toNat))else none)=_
 rw[t7 (r9 h)]
theorem zlu {ρ:Ev}{c x:Int}(h1:ρ[1]?=some (some (.int c)))(h3:ρ[3]?=some (some (.int x)))(hx:0<=x) :
 (∃ b,yk (tOf (zj v5 (zj yW (zd 1) (eC (.int 2))) (eC (.int 0)))) (tOf (zj v5 (zj yW (zj zjV (zj yn (zd 1) (eC (.int 2))) (zd 3)) (eC (.int 2))) (eC (.int 1)))) ρ=some (decide (c % 2=0)&&b)) /\
 ∃ b,yk (tOf (zj v5 (zj yW (zd 1) (eC (.int 2))) (eC (.int 1)))) (tOf (zj ltD (zj yW (zr 2 zD (zb (zd 1) (zb (zd 3) zv))) (eC (.int 5))) (zj wP (eC (.int 2)) (zj yW (zj yn (zd 1) (eC (.int 2))) (eC (.int 2)))))) ρ=some (decide (c % 2=1)&&b):=by
 have v1:zd 1 ρ=some (.int c):=by unfold zd;rw[h1];rfl
 have v3:zd 3 ρ=some (.int x):=by unfold zd;rw[h3];rfl
 have f2:yn (.int c) (.int 2)=some (.int (c / 2)):=Zs (by decide) (by decide)
 have m0:∀ k:Int,tOf (zj v5 (zj yW (zd 1) (eC (.int 2))) (eC (.int k))) ρ=some (decide (c % 2=k)):=λk=>by
  show(((zd 1 ρ).bind λa=>yW a (.int 2)).bind λy=>v5 y (.int k)).bind asB=_
  rw[v1,i7,y6 (by decide)]
  rfl
 constructor
 .refine⟨decide (c / 2 / 2 ^ x.toNat % 2=1),?_⟩
  have m2:tOf (zj v5 (zj yW (zj zjV (zj yn (zd 1) (eC (.int 2))) (zd 3)) (eC (.int 2))) (eC (.int 1))) ρ=some (decide (c / 2 / 2 ^ x.toNat % 2=1)):=by
   show(((((zd 1 ρ).bind λa=>yn a (.int 2)).bind λa=>(zd 3 ρ).bind λb=>zjV a b).bind λa=>yW a (.int 2)).bind λy=>v5 y (.int 1)).bind asB=_
   rw[v1,v3,i7,f2,i7,i7,ziS hx,i7,y6 (by decide)]
   rfl
  unfold yk
  rw[m0,i7,m2]
  cases decide (c % 2=0) <;> rfl
 .refine⟨decide (zbB c x % 5 < 2+c / 2 % 2),?_⟩
  have es:zr 2 zD (zb (zd 1) (zb (zd 3) zv)) ρ=some (.int (zbB c x)):=by
   unfold zr zb
   rw[v1,v3]
   rfl
  have m2:tOf (zj ltD (zj yW (zr 2 zD (zb (zd 1) (zb (zd 3) zv))) (eC (.int 5))) (zj wP (eC (.int 2)) (zj yW (zj yn (zd 1) (eC (.int 2))) (eC (.int 2))))) ρ=some (decide (zbB c x % 5 < 2+c / 2 % 2)):=by
   show((((zr 2 zD (zb (zd 1) (zb (zd 3) zv)) ρ).bind λa=>yW a (.int 5)).bind λa=>((((zd 1 ρ).bind λa=>yn a (.int 2)).bind λa=>yW a (.int 2)).bind λy=>wP (.int 2) y).bind λb=>ltD a b)).bind asB=_
   rw[es,v1,i7,i7,y6 (by decide),f2,i7,i7,y6 (by decide)]
   rfl
  unfold yk
  rw[m0,i7,m2]
  cases decide (c % 2=1) <;> rfl
theorem zmA {n c x:Int}{ts:List Tie}{t:Tie}{N B C:SE->Prop}{R:D->Prop}(hx:0<=x)(hl:(ts.map zc).length<=1000)
 (q1:N [.v (.int n),.v (.int c),.o (ts.map zc),.v (.int x),.v (zc t)]) (q2:N [.v (.int n),.v (.int c),.o ((ts++[t]).map zc),.v (.int x),.v (zc t)]) :
 (xt [.v (.int n),.v (.int c),.o (ts.map zc),.v (.int x),.v (zc t)]).w N B C R:=by
 rw[i6]at q2
 unfold xt
 obtain⟨⟨b1,e1⟩,b2,e2⟩:=zlu (ρ:=visG [.v (.int n),.v (.int c),.o (ts.map zc),.v (.int x),.v (zc t)]) (c:=c) (x:=x) rfl rfl hx
 obtain⟨_,b3,e3⟩:=zlu (ρ:=visG [.v (.int n),.v (.int c),.o (ts.map zc++[zc t]),.v (.int x),.v (zc t)]) (c:=c) (x:=x) rfl rfl hx
 have ap:=zam (m:=false) (i:=2) (f:=zd 4) (ρ:=[.v (.int n),.v (.int c),.o (ts.map zc),.v (.int x),.v (zc t)]) (ds:=ts.map zc) (d:=zc t) rfl rfl hl
 refine yS (Xq e1 (λk=>vQ ap ?_) (λ_=>vQ rfl (Xq e2 (λ_=>vQ ap q2) (λ_=>vQ rfl q1))))
 refine Xq e3 (λk3=>?_) (λ_=>vQ rfl q2)
 have h0:c % 2=0:=r6 (Bool.and_eq_true_iff.mp k).1
 have h1:c % 2=1:=r6 (Bool.and_eq_true_iff.mp k3).1
 exact absurd (h0.symm.trans h1) (by decide)
theorem zfH {n c:Int}(h1:1<=n)(h8:n<=8):∃ ts,wv [.int n,.int c]=some (ye n ts)/\ts.Sublist (xw n.toNat):=by
 have key:=za5 (m:=5) (g:=xl) (ds:=[.int n,.int c]) (R:=λd=>∃ ts:List Tie,d=ye n ts/\ts.Sublist (xw n.toNat)) rfl ?_
 .obtain⟨d,e,ts,rfl,hs⟩:=key
  exact⟨ts,e,hs⟩
 unfold xl
 refine zu rfl ?_
 have ep:xR [.int n]=some (.lst ((xw n.toNat).map zc)):=by
  show(if decide (0<=n/\n<=8)=true then some (D.lst ((xw n.toNat).map zc))else none)=_
  rw[t7 (r9 ⟨by omega,by omega⟩)]
 have h28:=(Wp n.toNat (by omega)).2.2
 refine yS (Xk (ds:=Zm 0 ((xw n.toNat).map zc)) (λi ρ=>∃ ts o3 o4,ρ=[.v (.int n),.v (.int c),.o (ts.map zc),o3,o4]/\ts.Sublist ((xw n.toNat).take i)) ?_ ⟨[],.no,.no,rfl,List.nil_sublist _⟩ ?_ ?_)
 .show((xR [.int n]).bind λd=>(some []:Option (List D)).map (d::·)).bind _=_
  rw[ep]
  rfl
 .rintro i d ρ hd ⟨ts,o3,o4,rfl,hs⟩
  rw[wM]at hd
  obtain⟨dx,hdx,rfl⟩:=u7.mp hd
  rw[j4]at hdx
  obtain⟨t,ht,rfl⟩:=u7.mp hdx
  rw[u0u]
  have htake:(xw n.toNat).take (i+1)=(xw n.toNat).take i++[t]:=by rw[List.take_succ,ht];rfl
  have hlen:ts.length<=28:=b9 hs.length_le (b9 (List.length_take_le _ _) (by have:=(u9.mp ht).1;omega))
  refine⟨_,rfl,zmA (u11 i) (by rw[u6];omega) ⟨ts,_,_,rfl,?_⟩ ⟨ts++[t],_,_,rfl,?_⟩⟩
  .rw[htake];exact hs.trans (u3K _ _)
  .rw[htake];exact hs.append (u3F _)
 .rintro ρ ⟨ts,o3,o4,rfl,hs⟩
  exact ziG rfl (Zp rfl ⟨ts,rfl,hs.trans (u2L _ _)⟩)
theorem WE (T:Txt K mg ad):xz P w K mg base CX0 2 ad.f__law_web_by ad.e__law_web_by ["many","cell"] (@spD ⟨K⟩ 2 wv):=by
 letI:KK:=⟨K⟩
 have G__law_pairs:=Vm (P:=P) (w:=w) (base:=base) T
 have G__law_stir:=xT (P:=P) (w:=w) (base:=base) T
 refine xh (N:=["many","cell","ties","k","tie"]) (ps:=["many","cell"]) T.d__law_web_by.fn xN (g:=xl) λcdv A outer s H E hr=>?_
 unfold xl xt
 exact(ze (Xc (i:=2) xN.nd rfl (Or.inl rfl) (YV zh))
  (ze (Yx u0e rfl (XW rfl T.z_enumerate xV (za (zo G__law_pairs hr rfl T.d__law_pairs (za (edv 0) zh)) zh)) (Ws rfl (yq (zK (zq (i:=3) xN.nd rfl (Or.inl rfl))) (yq (zK (zq (i:=4) xN.nd rfl (Or.inl rfl))) Zd))) (ze (yX (zcw (W6 (zF (wn hr) yU (zB _) (xv (edv 1) (zf zg)) (zf zg)) (Z1 (zF (wn hr) yU (zB _) (xv (zlx (Ye (edv 1) (zf zg)) (edv 3)) (zf zg)) (zf zg))))) (zi (XM (m:=false) (pv 2) (edv 4) (λa b=>Wd u0m u0T u0U wK a b))) zA)
  (zi (yX (zcw (W6 (zF (wn hr) yU (zB _) (xv (edv 1) (zf zg)) (zf zg)) (Z1 (zF zgn y0 (zB _) (xv (zo G__law_stir hr rfl T.d__law_stir (za (edv 1) (za (edv 3) zh))) (zf zg)) (yO (zf zg) (xv (Ye (edv 1) (zf zg)) (zf zg))))))) (zi (XM (m:=false) (pv 2) (edv 4) (λa b=>Wd u0m u0T u0U wK a b))) zA))))
  (Wj 2 (zi (zw (YY (za (edv 0) (za (xZ zV xW rfl T.z_tuple zT (za (edv 2) zh)) zh))))))))
def wy (r:List D->Option D):SE->Ctl :=
 (sIf (yb (tOf (zr 2 r (zb (zd 2) (zb (zd 3) zv))))) (yj (eC (.bl false))) zE)
def zW (r:List D->Option D):SE->Ctl :=
 (zG (sIf (tOf (zj Xo (zd 1) (eC .non))) (yj (zj Xo (zd 0) (eC .non))) zE)
  (zG (sIf (tOf (eUn (zQ .bool) (zd 1))) (yj (Yc (eUn (zQ .bool) (zd 0)) (zj v5 (zd 0) (zd 1)))) zE)
  (zG (sIf (tOf (eUn (zQ .int) (zd 1))) (yj (Yc (eUn (zQ .int) (zd 0)) (Yc (Xp (eUn (zQ .bool) (zd 0))) (zj v5 (zd 0) (zd 1))))) zE)
  (zG (sIf (tOf (eUn (zQ .str) (zd 1))) (yj (Yc (eUn (zQ .str) (zd 0)) (zj v5 (zd 0) (zd 1)))) zE)
  (zG (sIf (Yd (tOf (zj neD (eUn (zQ .list) (zd 1)) (eUn (zQ .list) (zd 0)))) (tOf (zj neD (eUn (zQ .tuple) (zd 1)) (eUn (zQ .tuple) (zd 0))))) (yj (eC (.bl false))) zE)
  (zG (sIf (tOf (zj neD (eFn YI (zb (zd 0) zv)) (eFn YI (zb (zd 1) zv)))) (yj (eC (.bl false))) zE)
  (zG (v7 (xX (zb (zd 0) (zb (zd 1) zv))) (Zg 2 (yp (zL 2) (yp (zL 3) Zh))) (wy r))
  (yj (eC (.bl true))))))))))
def vP:List D->Option D:=zkI 4 zW 6
theorem zaJ (ds:List D):zaR ds ds=ds.map λd=>.tup [d,d]:=by
 induction ds with
 | nil=>rfl
 | cons d ds ih=>show D.tup [d,d]::zaR ds ds=_;rw[ih];rfl
theorem zaO {r:List D->Option D}{d:D}(hr:∀ es,(d=.tup es\/d=.lst es)->∀ e∈es,r [e,e]=some (.bl true))(hn:∀ ns,d≠.scr ns)(hd:∀ z t ks vs,d≠.dct z t ks vs):fnD 4 (zW r) [d,d]=some (.bl true):=by
 cases d with
 | scr ns=>exact absurd rfl (hn ns)
 | dct z t ks vs=>exact absurd rfl (hd z t ks vs)
 | non=>rfl
 | bl b=>cases b <;> rfl
 | int i=>simp[zW,fnD,zG,yj,vn,sIf,xc,ZJ,sNo,zE,WO,Yt,YS,Wz,ZH,vEv,visF,visG,Sl.f,Sl.g,zd,eC,zj,Yc,eOr,Xp,eIf,eUn,Xw,vU,yT,yF,zb,zv,zr,eFn,fFn,tOf,yk,Yd,yb,asB,asI,zH,Zi,v9,yn,yW,ZU,xS,ltD,leD,gtD,geD,Xh,zI,ya,zJ,zY,Xo,zN,ixD,YI,zQ,isT,eSl,yD,yo,yH,xa,iOf,v7,yV,Xs,YQ,Yh,yh,xX,fLC,yc,zM,xD,zL,Zg,yp,Zh,b1,b2]
 | str x=>simp[zW,fnD,zG,yj,vn,sIf,xc,ZJ,sNo,zE,WO,Yt,YS,Wz,ZH,vEv,visF,visG,Sl.f,Sl.g,zd,eC,zj,Yc,eOr,Xp,eIf,eUn,Xw,vU,yT,yF,zb,zv,zr,eFn,fFn,tOf,yk,Yd,yb,asB,asI,zH,Zi,v9,yn,yW,ZU,xS,ltD,leD,gtD,geD,Xh,zI,ya,zJ,zY,Xo,zN,ixD,YI,zQ,isT,eSl,yD,yo,yH,xa,iOf,v7,yV,Xs,YQ,Yh,yh,xX,fLC,yc,zM,xD,zL,Zg,yp,Zh,b1,b2]
 | tup es =>
  refine VT (ρ:=[.v (.tup es),.v (.tup es),.no,.no]) rfl ?_
  unfold zW
  refine zu rfl (zu rfl (zu rfl (zu rfl (zu rfl (yS (Xq (c:=false) (by simp[fnD,zG,yj,vn,sIf,xc,ZJ,sNo,zE,WO,Yt,YS,Wz,ZH,vEv,visF,visG,Sl.f,Sl.g,zd,eC,zj,Yc,eOr,Xp,eIf,eUn,Xw,vU,yT,yF,zb,zv,zr,eFn,fFn,tOf,yk,Yd,yb,asB,asI,zH,Zi,v9,yn,yW,ZU,xS,ltD,leD,gtD,geD,Xh,zI,ya,zJ,zY,Xo,zN,ixD,YI,zQ,isT,eSl,yD,yo,yH,xa,iOf,v7,yV,Xs,YQ,Yh,yh,xX,fLC,yc,zM,xD,zL,Zg,yp,Zh,b1,b2]) (λz=>by cases z) λ_=>vQ rfl ?_))))))
  refine yS (Xk (ds:=zaR es es) (λi ρ=>∃ o1 o2,ρ=[.v (.tup es),.v (.tup es),o1,o2]) (by simp[fnD,zG,yj,vn,sIf,xc,ZJ,sNo,zE,WO,Yt,YS,Wz,ZH,vEv,visF,visG,Sl.f,Sl.g,zd,eC,zj,Yc,eOr,Xp,eIf,eUn,Xw,vU,yT,yF,zb,zv,zr,eFn,fFn,tOf,yk,Yd,yb,asB,asI,zH,Zi,v9,yn,yW,ZU,xS,ltD,leD,gtD,geD,Xh,zI,ya,zJ,zY,Xo,zN,ixD,YI,zQ,isT,eSl,yD,yo,yH,xa,iOf,v7,yV,Xs,YQ,Yh,yh,xX,fLC,yc,zM,xD,zL,Zg,yp,Zh,b1,b2]) ⟨_,_,rfl⟩ ?_ ?_)
  .rintro i d ρ hd ⟨o1,o2,rfl⟩
   rw[zaJ,j4]at hd
   obtain⟨e,he,rfl⟩:=u7.mp hd
   have hre:=hr es (.inl rfl) e (d8 he)
   refine⟨_,rfl,?_⟩
   unfold wy
   refine Xq (c:=false) (by simp[fnD,zG,yj,vn,sIf,xc,ZJ,sNo,zE,WO,Yt,YS,Wz,ZH,vEv,visF,visG,Sl.f,Sl.g,zd,eC,zj,Yc,eOr,Xp,eIf,eUn,Xw,vU,yT,yF,zb,zv,zr,eFn,fFn,tOf,yk,Yd,yb,asB,asI,zH,Zi,v9,yn,yW,ZU,xS,ltD,leD,gtD,geD,Xh,zI,ya,zJ,zY,Xo,zN,ixD,YI,zQ,isT,eSl,yD,yo,yH,xa,iOf,v7,yV,Xs,YQ,Yh,yh,xX,fLC,yc,zM,xD,zL,Zg,yp,Zh,b1,b2,hre]) (λz=>by cases z) λ_=>vQ rfl ⟨_,_,rfl⟩
  .rintro ρ ⟨o1,o2,rfl⟩
   exact Zp rfl rfl
 | lst es =>
  refine VT (ρ:=[.v (.lst es),.v (.lst es),.no,.no]) rfl ?_
  unfold zW
  refine zu rfl (zu rfl (zu rfl (zu rfl (zu rfl (yS (Xq (c:=false) (by simp[fnD,zG,yj,vn,sIf,xc,ZJ,sNo,zE,WO,Yt,YS,Wz,ZH,vEv,visF,visG,Sl.f,Sl.g,zd,eC,zj,Yc,eOr,Xp,eIf,eUn,Xw,vU,yT,yF,zb,zv,zr,eFn,fFn,tOf,yk,Yd,yb,asB,asI,zH,Zi,v9,yn,yW,ZU,xS,ltD,leD,gtD,geD,Xh,zI,ya,zJ,zY,Xo,zN,ixD,YI,zQ,isT,eSl,yD,yo,yH,xa,iOf,v7,yV,Xs,YQ,Yh,yh,xX,fLC,yc,zM,xD,zL,Zg,yp,Zh,b1,b2]) (λz=>by cases z) λ_=>vQ rfl ?_))))))
  refine yS (Xk (ds:=zaR es es) (λi ρ=>∃ o1 o2,ρ=[.v (.lst es),.v (.lst es),o1,o2]) (by simp[fnD,zG,yj,vn,sIf,xc,ZJ,sNo,zE,WO,Yt,YS,Wz,ZH,vEv,visF,visG,Sl.f,Sl.g,zd,eC,zj,Yc,eOr,Xp,eIf,eUn,Xw,vU,yT,yF,zb,zv,zr,eFn,fFn,tOf,yk,Yd,yb,asB,asI,zH,Zi,v9,yn,yW,ZU,xS,ltD,leD,gtD,geD,Xh,zI,ya,zJ,zY,Xo,zN,ixD,YI,zQ,isT,eSl,yD,yo,yH,xa,iOf,v7,yV,Xs,YQ,Yh,yh,xX,fLC,yc,zM,xD,zL,Zg,yp,Zh,b1,b2]) ⟨_,_,rfl⟩ ?_ ?_)
  .rintro i d ρ hd ⟨o1,o2,rfl⟩
   rw[zaJ,j4]at hd
   obtain⟨e,he,rfl⟩:=u7.mp hd
   have hre:=hr es (.inr rfl) e (d8 he)
   refine⟨_,rfl,?_⟩
   unfold wy
   refine Xq (c:=false) (by simp[fnD,zG,yj,vn,sIf,xc,ZJ,sNo,zE,WO,Yt,YS,Wz,ZH,vEv,visF,visG,Sl.f,Sl.g,zd,eC,zj,Yc,eOr,Xp,eIf,eUn,Xw,vU,yT,yF,zb,zv,zr,eFn,fFn,tOf,yk,Yd,yb,asB,asI,zH,Zi,v9,yn,yW,ZU,xS,ltD,leD,gtD,geD,Xh,zI,ya,zJ,zY,Xo,zN,ixD,YI,zQ,isT,eSl,yD,yo,yH,xa,iOf,v7,yV,Xs,YQ,Yh,yh,xX,fLC,yc,zM,xD,zL,Zg,yp,Zh,b1,b2,hre]) (λz=>by cases z) λ_=>vQ rfl ⟨_,_,rfl⟩
  .rintro ρ ⟨o1,o2,rfl⟩
   exact Zp rfl rfl
theorem zeO:∀ (n:Nat) {d:D},okE n d=true->zkI 4 zW (n+1) [d,d]=some (.bl true):=by
 intro n
 induction n with
 | zero =>
  intro d h
  refine zaO (λes he=>?_) (λns e=>by subst e;cases h) (λ_ _ _ _ e=>by subst e;cases h)
  rcases he with rfl | rfl <;> cases h
 | succ n ih =>
  intro d h
  refine zaO (λes he e hm=>?_) (λns e=>by subst e;cases h) (λ_ _ _ _ e=>by subst e;cases h)
  rcases he with rfl | rfl
  .exact ih (u0k.mp h e hm)
  .exact ih (u0k.mp h e hm)
theorem zkk {d:D}(h:okE 5 d=true):vP [d,d]=some (.bl true):=zeO 5 h
theorem zaF (T:Txt K mg ad):xz P w K mg base CX0 7 ad.f__law_same ad.e__law_same ["found","due"] (@spD ⟨K⟩ 2 vP):=by
 letI:KK:=⟨K⟩
 have R:∀ n,xz P w K mg base CX0 (1+n) ad.f__law_same ad.e__law_same ["found","due"] (spD 2 (zkI 4 zW n)):=by
  refine zlw (P:=P) (w:=w) (mg:=mg) (base:=base) (k0:=1) (g:=zW) T.d__law_same.fn Yf λk r hrec cdv A outer s H E hr=>?_
  unfold zW wy
  exact(ze (yX (zF zhF zfS (zB _) (edv 1) (zcD zb2)) (zi (zw (Zl zhF zfS (zB _) (edv 0) (zcD zb2)))) zA)
   (ze (yX (yZ (zz .bool rfl T.z_isinstance (edv 1) (zR (v:=.ty "bool") rfl T.z_bool X1 rfl))) (zi (zw (vt (zz .bool rfl T.z_isinstance (edv 0) (zR (v:=.ty "bool") rfl T.z_bool X1 rfl)) (Ys (Zl (wn hr) yU (zB _) (edv 0) (edv 1)))))) zA)
   (ze (yX (yZ (zz .int rfl T.z_isinstance (edv 1) (zR (v:=.ty "int") rfl T.z_int zb3 rfl))) (zi (zw (vt (zz .int rfl T.z_isinstance (edv 0) (zR (v:=.ty "int") rfl T.z_int zb3 rfl)) (vt (zfG (zz .bool rfl T.z_isinstance (edv 0) (zR (v:=.ty "bool") rfl T.z_bool X1 rfl))) (Ys (Zl (wn hr) yU (zB _) (edv 0) (edv 1))))))) zA)
   (ze (yX (yZ (zz .str rfl T.z_isinstance (edv 1) (zR (v:=.ty "str") rfl T.z_str zh5 rfl))) (zi (zw (vt (zz .str rfl T.z_isinstance (edv 0) (zR (v:=.ty "str") rfl T.z_str zh5 rfl)) (Ys (Zl (wn hr) yU (zB _) (edv 0) (edv 1)))))) zA)
   (ze (yX (zcw (WL (zF V5 Xj (zB _) (zz .list rfl T.z_isinstance (edv 1) (zR (v:=.ty "list") rfl T.z_list Vb rfl)) (zz .list rfl T.z_isinstance (edv 0) (zR (v:=.ty "list") rfl T.z_list Vb rfl))) (Z9 (zF V5 Xj (zB _) (zz .tuple rfl T.z_isinstance (edv 1) (zR (v:=.ty "tuple") rfl T.z_tuple zT rfl)) (zz .tuple rfl T.z_isinstance (edv 0) (zR (v:=.ty "tuple") rfl T.z_tuple zT rfl)))))) (zi (zw (wz wD))) zA)
   (ze (yX (zF V5 Xj (zB _) (yu zS vM rfl T.z_len Zr (za (edv 0) zh)) (yu zS vM rfl T.z_len Zr (za (edv 1) zh))) (zi (zw (wz wD))) zA)
   (ze (Yx u0e rfl (zhR rfl T.z_zip (za (edv 0) (za (edv 1) zh))) (Ws rfl (yq (zK (zq (i:=2) Yf.nd rfl (Or.inl rfl))) (yq (zK (zq (i:=3) Yf.nd rfl (Or.inl rfl))) Zd))) (zi (yX (wH (yZ (zdD hrec hr rfl T.d__law_same.at_ T.d__law_same.kp T.d__law_same.bd (za (edv 2) (za (edv 3) zh))))) (zi (zw (wz wD))) zA)))
   (zi (zw (wz wD))))))))))
 exact R 6
def wb:SE->Ctl :=
 (zG (xc false 7 (zj yW (zr 2 zD (zb (zd 1) (zb (zj wP (eC (.int 60)) (zd 6)) zv))) (zj wP (zd 3) (eC (.int 1)))))
  (zG (sIf (tOf (zj v5 (zj yW (zd 1) (eC (.int 2))) (eC (.int 0)))) (zG (xc false 7 (eFn zgG (zb (zd 3) (zb (zj yW (zd 5) (zj wP (zd 2) (eC (.int 1)))) zv))))
  (xc false 5 (zj yn (zd 5) (zj wP (zd 2) (eC (.int 1)))))) zE)
  (zG (YS false 4 (zd 7))
  (xc false 3 (zj Zi (zd 3) (zd 7))))))
def yY:SE->Ctl :=
 (zG (xc false 3 (zd 2))
  (zG (Yt 4 (yF zv))
  (zG (xc false 5 (zj yn (zd 1) (eC (.int 2))))
  (zG (yV YQ (zb (zd 0) zv) (zL 6) wb)
  (sFz 4 (yj (eFn zM (zb (zd 4) zv))))))))
def w6:List D->Option D:=fnD 8 yY
theorem zcW {n c mo:Int}(h0:0<=n)(h8:n<=8)(hm0:0<=mo)(hm:mo<=1000):∃ ns:List Int,w6 [.int n,.int c,.int mo]=some (.tup (ns.map .int))/\(ns.length:Int)=n/\(∀ x∈ns,0<=x)/\ns.sum<=mo:=by
 have key:=za5 (m:=8) (g:=yY) (ds:=[.int n,.int c,.int mo]) (R:=λd=>∃ ns:List Int,d=.tup (ns.map .int)/\(ns.length:Int)=n/\(∀ x∈ns,0<=x)/\ns.sum<=mo) (ρ:=[.v (.int n),.v (.int c),.v (.int mo),.no,.no,.no,.no,.no]) rfl ?_
 .obtain⟨d,e,ns,rfl,h⟩:=key
  exact⟨ns,e,h⟩
 unfold yY
 refine zu rfl (zu (ρ':=[.v (.int n),.v (.int c),.v (.int mo),.v (.int mo),.o [],.no,.no,.no]) (by simp[fnD,zG,yj,vn,sIf,xc,ZJ,sNo,zE,WO,Yt,YS,Wz,ZH,vEv,visF,visG,Sl.f,Sl.g,zd,eC,zj,Yc,eOr,Xp,eIf,eUn,Xw,vU,yT,yF,zb,zv,zr,eFn,fFn,tOf,yk,Yd,yb,asB,asI,zH,Zi,v9,yn,yW,ZU,xS,ltD,leD,gtD,geD,Xh,zI,ya,zJ,zY,Xo,zN,ixD,YI,zQ,isT,eSl,yD,yo,yH,xa,iOf,v7,yV,Xs,YQ,Yh,yh,xX,fLC,yc,zM,xD,zL,Zg,yp,Zh,b1,b2,YX]) (zu (ρ':=[.v (.int n),.v (.int c),.v (.int mo),.v (.int mo),.o [],.v (.int (c / 2)),.no,.no]) (by simp[fnD,zG,yj,vn,sIf,xc,ZJ,sNo,zE,WO,Yt,YS,Wz,ZH,vEv,visF,visG,Sl.f,Sl.g,zd,eC,zj,Yc,eOr,Xp,eIf,eUn,Xw,vU,yT,yF,zb,zv,zr,eFn,fFn,tOf,yk,Yd,yb,asB,asI,zH,Zi,v9,yn,yW,ZU,xS,ltD,leD,gtD,geD,Xh,zI,ya,zJ,zY,Xo,zN,ixD,YI,zQ,isT,eSl,yD,yo,yH,xa,iOf,v7,yV,Xs,YQ,Yh,yh,xX,fLC,yc,zM,xD,zL,Zg,yp,Zh,b1,b2]) ?_))
 refine yS (WS (lo:=0) (c:=n.toNat) (λi ρ=>∃ (le dg:Int) (ns:List Int) (o1 o2:Sl),ρ=[.v (.int n),.v (.int c),.v (.int mo),.v (.int le),.o (ns.map .int),.v (.int dg),o1,o2]/\ns.length=i/\(∀ x∈ns,0<=x)/\0<=le/\ns.sum+le=mo) (vC h0 (by omega)) ⟨mo,c / 2,[],.no,.no,rfl,rfl,by simp,hm0,by simp⟩ ?_ ?_)
 .rintro i ρ hi ⟨le,dg,ns,o1,o2,rfl,hl,hnn,hle,hs⟩
  obtain⟨x,hx⟩:∃ x:Int,(0:Int)+(i:Int)=x:=⟨_,rfl⟩
  rw[hx]
  refine⟨_,rfl,?_⟩
  unfold wb
  obtain⟨st,hst⟩:∃ st:Int,zbB c (60+x)=st:=⟨_,rfl⟩
  have hlo:0<=st % (le+1):=u3h _ (by omega)
  have hhi:st % (le+1) < le+1:=u3t _ (by omega)
  have es:zD [.int c,.int (60+x)]=some (.int st):=by rw[<-hst];rfl
  have hz:decide ((ns.map D.int).length < sizeLine)=true:=r9 (vw (by rw[u6];omega))
  have fin:∀ (s2 dg2:Int),0<=s2->s2<=le->(zG (YS false 4 (zd 7)) (xc false 3 (zj Zi (zd 3) (zd 7))) [.v (.int n),.v (.int c),.v (.int mo),.v (.int le),.o (ns.map .int),.v (.int dg2),.v (.int x),.v (.int s2)]).w
   (fun ρ=>∃ (le dg:Int) (ns:List Int) (o1 o2:Sl),ρ=[.v (.int n),.v (.int c),.v (.int mo),.v (.int le),.o (ns.map .int),.v (.int dg),o1,o2]/\ns.length=i+1/\(∀ x∈ns,0<=x)/\0<=le/\ns.sum+le=mo)
   (fun ρ'=>(sFz 4 (yj (eFn zM (zb (zd 4) zv))) ρ').w (λ_=>∃ ns:List Int,D.non=.tup (ns.map .int)/\(ns.length:Int)=n/\(∀ x∈ns,0<=x)/\ns.sum<=mo) noP noP λd=>∃ ns:List Int,d=.tup (ns.map .int)/\(ns.length:Int)=n/\(∀ x∈ns,0<=x)/\ns.sum<=mo)
   (fun ρ=>∃ (le dg:Int) (ns:List Int) (o1 o2:Sl),ρ=[.v (.int n),.v (.int c),.v (.int mo),.v (.int le),.o (ns.map .int),.v (.int dg),o1,o2]/\ns.length=i+1/\(∀ x∈ns,0<=x)/\0<=le/\ns.sum+le=mo)
   (λd=>∃ ns:List Int,d=.tup (ns.map .int)/\(ns.length:Int)=n/\(∀ x∈ns,0<=x)/\ns.sum<=mo):=λs2 dg2 g1 g2=>by
   refine zu (ρ':=[.v (.int n),.v (.int c),.v (.int mo),.v (.int le),.o ((ns++[s2]).map .int),.v (.int dg2),.v (.int x),.v (.int s2)]) ?_ (vQ rfl ⟨le - s2,dg2,ns++[s2],_,_,rfl,?_,?_,by omega,?_⟩)
   .show(match (if decide ((ns.map D.int).length < sizeLine)=true then some ([.v (.int n),.v (.int c),.v (.int mo),.v (.int le),.o (ns.map .int++[.int s2]),.v (.int dg2),.v (.int x),.v (.int s2)]:SE)else none)with | some ρ'=>Ctl.nx ρ' | none=>Ctl.no)=_
    rw[t7 hz,i6]
    rfl
   .rw[d6,hl];rfl
   .intro y hy
    rcases u0X.mp hy with hy | hy
    .exact hnn y hy
    .rw[j8.mp hy];exact g1
   .rw[List.sum_append]
    simp
    omega
  have hm1:(0:Int) < le+1:=by omega
  refine zu (ρ':=[.v (.int n),.v (.int c),.v (.int mo),.v (.int le),.o (ns.map .int),.v (.int dg),.v (.int x),.v (.int (st % (le+1)))]) (by simp[fnD,zG,yj,vn,sIf,xc,ZJ,sNo,zE,WO,Yt,YS,Wz,ZH,vEv,visF,visG,Sl.f,Sl.g,zd,eC,zj,Yc,eOr,Xp,eIf,eUn,Xw,vU,yT,yF,zb,zv,zr,eFn,fFn,tOf,yk,Yd,yb,asB,asI,zH,Zi,v9,yn,yW,ZU,xS,ltD,leD,gtD,geD,Xh,zI,ya,zJ,zY,Xo,zN,ixD,YI,zQ,isT,eSl,yD,yo,yH,xa,iOf,v7,yV,Xs,YQ,Yh,yh,xX,fLC,yc,zM,xD,zL,Zg,yp,Zh,b1,b2,es,hm1]) ?_
  by_cases hc:c % 2=0
  .have hm2:(0:Int) < mo+1:=by omega
   have hm3:mo+1 < 1606938044258990275541962092341162602522202993782792835301376:=by omega
   refine yS (Xq (c:=true) (by simp[fnD,zG,yj,vn,sIf,xc,ZJ,sNo,zE,WO,Yt,YS,Wz,ZH,vEv,visF,visG,Sl.f,Sl.g,zd,eC,zj,Yc,eOr,Xp,eIf,eUn,Xw,vU,yT,yF,zb,zv,zr,eFn,fFn,tOf,yk,Yd,yb,asB,asI,zH,Zi,v9,yn,yW,ZU,xS,ltD,leD,gtD,geD,Xh,zI,ya,zJ,zY,Xo,zN,ixD,YI,zQ,isT,eSl,yD,yo,yH,xa,iOf,v7,yV,Xs,YQ,Yh,yh,xX,fLC,yc,zM,xD,zL,Zg,yp,Zh,b1,b2,hc]) (λ_=>?_) (λz=>by cases z))
   refine zu (ρ':=[.v (.int n),.v (.int c),.v (.int mo),.v (.int le),.o (ns.map .int),.v (.int dg),.v (.int x),.v (.int (if dg % (mo+1) < le then dg % (mo+1)else le))]) (by simp[fnD,zG,yj,vn,sIf,xc,ZJ,sNo,zE,WO,Yt,YS,Wz,ZH,vEv,visF,visG,Sl.f,Sl.g,zd,eC,zj,Yc,eOr,Xp,eIf,eUn,Xw,vU,yT,yF,zb,zv,zr,eFn,fFn,tOf,yk,Yd,yb,asB,asI,zH,Zi,v9,yn,yW,ZU,xS,ltD,leD,gtD,geD,Xh,zI,ya,zJ,zY,Xo,zN,ixD,YI,zQ,isT,eSl,yD,yo,yH,xa,iOf,v7,yV,Xs,YQ,Yh,yh,xX,fLC,yc,zM,xD,zL,Zg,yp,Zh,b1,b2,hm2,zgG]) (vQ (ρ':=[.v (.int n),.v (.int c),.v (.int mo),.v (.int le),.o (ns.map .int),.v (.int (dg / (mo+1))),.v (.int x),.v (.int (if dg % (mo+1) < le then dg % (mo+1)else le))]) (by simp[fnD,zG,yj,vn,sIf,xc,ZJ,sNo,zE,WO,Yt,YS,Wz,ZH,vEv,visF,visG,Sl.f,Sl.g,zd,eC,zj,Yc,eOr,Xp,eIf,eUn,Xw,vU,yT,yF,zb,zv,zr,eFn,fFn,tOf,yk,Yd,yb,asB,asI,zH,Zi,v9,yn,yW,ZU,xS,ltD,leD,gtD,geD,Xh,zI,ya,zJ,zY,Xo,zN,ixD,YI,zQ,isT,eSl,yD,yo,yH,xa,iOf,v7,yV,Xs,YQ,Yh,yh,xX,fLC,yc,zM,xD,zL,Zg,yp,Zh,b1,b2,hm2,hm3]) ?_)
   have p1:0<=dg % (mo+1):=u3h _ (by omega)
   exact fin _ _ (by split <;> omega) (by split <;> omega)
  .refine yS (Xq (c:=false) (by simp[fnD,zG,yj,vn,sIf,xc,ZJ,sNo,zE,WO,Yt,YS,Wz,ZH,vEv,visF,visG,Sl.f,Sl.g,zd,eC,zj,Yc,eOr,Xp,eIf,eUn,Xw,vU,yT,yF,zb,zv,zr,eFn,fFn,tOf,yk,Yd,yb,asB,asI,zH,Zi,v9,yn,yW,ZU,xS,ltD,leD,gtD,geD,Xh,zI,ya,zJ,zY,Xo,zN,ixD,YI,zQ,isT,eSl,yD,yo,yH,xa,iOf,v7,yV,Xs,YQ,Yh,yh,xX,fLC,yc,zM,xD,zL,Zg,yp,Zh,b1,b2,hc]) (λz=>by cases z) (λ_=>vQ rfl ?_))
   exact fin _ _ hlo (by omega)
 .rintro ρ ⟨le,dg,ns,o1,o2,rfl,hl,hnn,hle,hs⟩
  refine ziG rfl (Zp rfl ⟨ns,rfl,by omega,hnn,by omega⟩)
theorem Wg (T:Txt K mg ad):xz P w K mg base CX0 2 ad.f__law_heap_by ad.e__law_heap_by ["many","cell","most"] (@spD ⟨K⟩ 3 w6):=by
 letI:KK:=⟨K⟩
 have G__law_stir:=xT (P:=P) (w:=w) (base:=base) T
 refine xh (N:=["many","cell","most","left","heap","digits","k","stones"]) (ps:=["many","cell","most"]) T.d__law_heap_by.fn zC (g:=yY) λcdv A outer s H E hr=>?_
 unfold yY wb
 exact(ze (yA (m:=false) (i:=3) zC.nd rfl (Or.inl rfl) (edv 2))
  (ze (Xc (i:=4) zC.nd rfl (Or.inl rfl) (YV zh))
  (ze (yA (m:=false) (i:=5) zC.nd rfl (Or.inl rfl) (Ye (edv 1) (zf zg)))
  (ze (Zy u0e rfl rfl T.z_range (za (edv 0) zh) (zK (zq (i:=6) zC.nd rfl (Or.inl rfl))) (ze (yA (m:=false) (i:=7) zC.nd rfl (Or.inl rfl) (xv (zo G__law_stir hr rfl T.d__law_stir (za (edv 1) (za (yO (zf zg) (edv 6)) zh))) (yO (edv 3) (zf zg))))
  (ze (yX (zF (wn hr) yU (zB _) (xv (edv 1) (zf zg)) (zf zg)) (ze (yA (m:=false) (i:=7) zC.nd rfl (Or.inl rfl) (yu (zaM rfl) zcr rfl T.z_min zfZ (za (edv 3) (za (xv (edv 5) (yO (edv 2) (zf zg))) zh))))
  (zi (yA (m:=false) (i:=5) zC.nd rfl (Or.inl rfl) (Ye (edv 5) (yO (edv 2) (zf zg)))))) zA)
  (ze (XM (m:=false) (pv 4) (edv 7) (λa b=>Wd u0m u0T u0U wK a b))
  (zi (yA (m:=false) (i:=3) zC.nd rfl (Or.inl rfl) (WW (edv 3) (edv 7))))))))
  (Wj 4 (zi (zw (xZ zV xW rfl T.z_tuple zT (za (edv 4) zh)))))))))
theorem WP {ts:List Tie}(h:ts.length < 64):Wk [.lst (ts.map zc)]=some ((Y3 ts).map zc):=by
 show(if (ts.map zc).length < 64 then _ else none)=_
 rw[t7 (by rw[u6];exact h),show zas (ts.map zc)=some ts from zaz ts]
 rfl
structure zhG (n:Int) (i:Nat) (ts:List Tie):Prop where
 rng:∀ t∈ts,0<=t.1/\t.1 < t.2/\t.2 < n
 nd:ts.Nodup
 has:∀ k:Int,1<=k->k<=(i:Int)->∃ t∈ts,t.2=k
 len:ts.length<=28+i
theorem zhG.yes {n x:Int}{i:Nat}{ts:List Tie}(h:zhG n i ts)(hx:x=1+(i:Int)){t:Tie}(ht:t∈ts)(e:t.2=x):zhG n (i+1) ts :=
 ⟨h.rng,h.nd,λk k1 k2=>by
  by_cases c:k=x
  .exact⟨t,ht,by rw[e,c]⟩
  .exact h.has k k1 (by omega),Nat.le_succ_of_le h.len⟩
theorem zhG.add {n x j:Int}{i:Nat}{ts:List Tie}(h:zhG n i ts)(hx:x=1+(i:Int))(hn:x < n)(j0:0<=j)(j1:j < x)(hno:∀ t∈ts,t.2≠x):zhG n (i+1) (ts++[(j,x)]):=by
 refine⟨λt ht=>?_,?_,λk k1 k2=>?_,?_⟩
 .rcases u0X.mp ht with ht | ht
  .exact h.rng t ht
  .cases j8.mp ht;exact⟨j0,j1,hn⟩
 .refine u2e.mpr ⟨h.nd,u0z.mpr ⟨u0i,u1G⟩,λa ha b hb e=>?_⟩
  cases j8.mp hb
  exact hno a ha (by rw[e])
 .by_cases c:k=x
  .exact⟨(j,x),u0X.mpr (.inr (j8.mpr rfl)),c.symm⟩
  .obtain⟨t,ht,e⟩:=h.has k k1 (by omega)
   exact⟨t,u0X.mpr (.inl ht),e⟩
 .rw[d6]
  exact u2r h.len
theorem zlA {ρ:Ev}{ts:List Tie}{x:Int}(h2:ρ[2]?=some (some (.lst (ts.map zc))))(h3:ρ[3]?=some (some (.int x)))(hl:ts.length<=1000):fLC (iOf (zd 2)) b1 (tOf (zj v5 (zj ixD (zd 0) (eC (.int 1))) (zd 4))) (zd 0) ρ=some ((ts.filter λt=>decide (t.2=x)).map zc):=by
 have e2:zd 2 ρ=some (.lst (ts.map zc)):=by unfold zd;rw[h2];rfl
 unfold fLC
 show(((zd 2 ρ).bind xa).bind λds=>if lim ds.length=true then _ else none)=_
 rw[e2]
 show(if lim (ts.map zc).length=true then _ else none)=_
 rw[t7 (YX (by rw[u6];exact hl))]
 refine ZW zc (λt=>decide (t.2=x)) zc ts λt _=>⟨[some (zc t)],rfl,?_,λ_=>rfl⟩
 have e3:zd 4 ([some (zc t)]++ρ)=some (.int x):=by
  unfold zd
  rw[show([some (zc t)]++ρ)[4]?=ρ[3]? from rfl,h3]
  rfl
 show((some (D.int t.2)).bind λa=>(zd 4 ([some (zc t)]++ρ)).bind λb=>v5 a b).bind asB=_
 rw[e3]
 rfl
def xx:SE->Ctl :=
 (zG (xc false 4 (vU (zb (zj yW (zr 2 zD (zb (zd 1) (zb (zj wP (eC (.int 50)) (zd 3)) zv))) (zd 3)) (zb (zd 3) zv))))
  (sIf (tOf (zj v5 (eFn YI (zb (yT (fLC (iOf (zd 2)) b1 (tOf (zj v5 (zj ixD (zd 0) (eC (.int 1))) (zd 4))) (zd 0))) zv)) (eC (.int 0)))) (YS false 2 (zd 4)) zE))
def yz:SE->Ctl :=
 (zG (Yt 2 (fFn xD (zb (zj ixD (zr 2 wv (zb (zd 0) (zb (zd 1) zv))) (eC (.int 1))) zv)))
  (zG (yV Yh (zb (eC (.int 1)) (zb (zd 0) zv)) (zL 3) xx)
  (sFz 2 (yj (vU (zb (zd 0) (zb (eFn zM (zb (yT (fFn Wk (zb (zd 2) zv))) zv)) zv)))))))
def we:List D->Option D:=fnD 5 yz
theorem zaf {n c:Int}(h1:1<=n)(h8:n<=8):∃ ts,we [.int n,.int c]=some (ye n ts)/\vG n ts/\(∀ x:Int,1<=x->x < n->∃ t∈ts,t.2=x):=by
 obtain⟨ts0,ew,hsub⟩:=zfH (n:=n) (c:=c) h1 h8
 obtain⟨k,hk⟩:∃ k:Nat,n=((k+1:Nat):Int):=⟨(n - 1).toNat,by omega⟩
 have hk7:k<=7:=by omega
 obtain⟨q1,q2,q3⟩:=Wp n.toNat (by omega)
 have key:=za5 (m:=5) (g:=yz) (ds:=[.int n,.int c]) (R:=λd=>∃ ts:List Tie,d=ye n (Y3 ts)/\zhG n k ts) (ρ:=[.v (.int n),.v (.int c),.no,.no,.no]) rfl ?_
 .obtain⟨d,e,ts,rfl,hj⟩:=key
  have hp:=YF ts
  have hr:∀ t∈Y3 ts,0<=t.1/\t.1 < t.2/\t.2 < n:=λt ht=>hj.rng t (hp.mem_iff.mp ht)
  refine⟨_,e,⟨h1,h8,hr,Xi hj.nd⟩,λx x1 x2=>?_⟩
  obtain⟨t,ht,e2⟩:=hj.has x x1 (by omega)
  exact⟨t,hp.mem_iff.mpr ht,e2⟩
 unfold yz
 refine zu (ρ':=[.v (.int n),.v (.int c),.o (ts0.map zc),.no,.no]) (W7 (ds:=ts0.map zc) ?_) ?_
 .show(((wv [.int n,.int c]).bind λx=>ixD x (.int 1)).bind λd=>(some []).map (d::·)).bind xD=_
  rw[ew]
  rfl
 have hrng:Yh [.int 1,.int n]=some (Xm 1 k):=zlv hk hk7
 refine yS (WS (lo:=1) (c:=k) (λi ρ=>∃ (ts:List Tie) (o3 o4:Sl),ρ=[.v (.int n),.v (.int c),.o (ts.map zc),o3,o4]/\zhG n i ts) hrng ⟨ts0,_,_,rfl,⟨λt ht=>?_,(q1.sublist hsub).imp λ{a b} h e=>by subst e;exact absurd (Zz.mpr h) (by unfold leP;simp),λk k1 k2=>absurd (Int.le_trans k1 k2) (by decide),b9 hsub.length_le q3⟩⟩ ?_ ?_)
 .have:=q2 t (hsub.subset ht)
  omega
 .rintro i ρ hi ⟨ts,o3,o4,rfl,hj⟩
  obtain⟨x,hx⟩:∃ x:Int,x=(1:Int)+(i:Int):=⟨_,rfl⟩
  rw[<-hx]
  refine⟨[.v (.int n),.v (.int c),.o (ts.map zc),.v (.int x),o4],rfl,?_⟩
  unfold xx
  obtain⟨j,hjj⟩:∃ j:Int,zbB c (50+x) % x=j:=⟨_,rfl⟩
  have xp:0 < x:=by omega
  obtain⟨j0,j1⟩:=XA xp hjj
  have hl:=hj.len
  refine zu (ρ':=[.v (.int n),.v (.int c),.o (ts.map zc),.v (.int x),.v (zc (j,x))]) (vW (d:=zc (j,x)) ?_) ?_
  .have m1:yW (.int (zbB c (50+x))) (.int x)=some (.int j):=by rw[y6 xp,hjj]
   show((yW (.int (zbB c (50+x))) (.int x)).bind λd=>(some [D.int x]).map (d::·)).bind _=_
   rw[m1]
   rfl
  refine Xq (c:=decide ((((ts.filter λt=>decide (t.2=x)).map zc).length:Int)=0)) ?_ (λc0=>?_) (λc0=>?_)
  .have el':=zlA (ρ:=visG [.v (.int n),.v (.int c),.o (ts.map zc),.v (.int x),.v (zc (j,x))]) (ts:=ts) (x:=x) rfl rfl (by omega)
   show(((((fLC (iOf (zd 2)) b1 (tOf (zj v5 (zj ixD (zd 0) (eC (.int 1))) (zd 4))) (zd 0) _).map D.lst).bind λd=>(some []).map (d::·)).bind YI).bind λa=>v5 a (.int 0)).bind asB=_
   rw[el']
   rfl
  .refine vQ (zam (ds:=ts.map zc) (d:=zc (j,x)) rfl rfl (by rw[u6];omega)) ⟨ts++[(j,x)],.v (.int x),.v (zc (j,x)),?_,hj.add hx (by omega) j0 j1 λt ht e=>?_⟩
   .rw[i6];rfl
   .have h0:=r6 c0
    have:t∈ts.filter λt=>decide (t.2=x):=u0c.mpr ⟨ht,r9 e⟩
    rw[u6]at h0
    rw[u1f.mp (u3R h0)]at this
    cases this
  .obtain⟨t,ht⟩:∃ t,t∈ts.filter λt=>decide (t.2=x):=by
    rcases hf:ts.filter λt=>decide (t.2=x)with _ | ⟨t,r⟩
    .rw[hf]at c0;cases c0
    .exact⟨t,by rw[hf];exact o0⟩
   obtain⟨t1,t2⟩:=u0c.mp ht
   exact vQ rfl ⟨ts,_,_,rfl,hj.yes hx t1 (r6 t2)⟩
 .rintro ρ ⟨ts,o3,o4,rfl,hj⟩
  have hl:=hj.len
  have e5:=WP (ts:=ts) (by omega)
  refine ziG (ρ':=[.v (.int n),.v (.int c),.v (.lst (ts.map zc)),o3,o4]) rfl ?_
  refine Zp (xo (d:=ye n (Y3 ts)) ?_) ⟨ts,rfl,hj⟩
  show((((((Wk [.lst (ts.map zc)]).map D.lst).bind λd=>(some []).map (d::·)).bind zM).bind λd=>(some []).map (d::·)).map (D.int n::·)).bind _=_
  rw[e5]
  rfl
theorem ZQ (T:Txt K mg ad):xz P w K mg base CX0 3 ad.f__law_joined_by ad.e__law_joined_by ["many","cell"] (@spD ⟨K⟩ 2 we):=by
 letI:KK:=⟨K⟩
 have G__law_stir:=xT (P:=P) (w:=w) (base:=base) T
 have G__law_web_by:=WE (P:=P) (w:=w) (base:=base) T
 refine xh (N:=["many","cell","ties","k","tie"]) (ps:=["many","cell"]) T.d__law_joined_by.fn yR (g:=yz) λcdv A outer s H E hr=>?_
 unfold yz xx
 exact(ze (Xc (i:=2) yR.nd rfl (Or.inl rfl) (zbH rfl T.z_list (za (zP (zo G__law_web_by hr rfl T.d__law_web_by (za (edv 0) (za (edv 1) zh))) (zf zg) (λ_ _=>rfl)) zh)))
  (ze (zhz u0e rfl rfl T.z_range (za (zf zg) (za (edv 0) zh)) (zK (zq (i:=3) yR.nd rfl (Or.inr rfl))) (ze (yA (m:=false) (i:=4) yR.nd rfl (Or.inl rfl) (YY (za (xv (zo G__law_stir hr rfl T.d__law_stir (za (edv 1) (za (yO (zf zg) (edv 3)) zh))) (edv 3)) (za (edv 3) zh))))
  (zi (yX (zF (wn hr) yU (zB _) (yu zS vM rfl T.z_len Zr (za (ww (zcd (L:=["other"]) (M:=["many","cell","ties","k","tie"]) rfl (wk (by rfl) (by rfl) (by rfl) (by with_unfolding_all rfl) (by rfl) (by rfl) (by kernel_rfl) (all_cons rfl yI)) (xr (edv 2)) gs1 rb1 (λ_ _ _ _=>(zq (i:=0) zm3 rfl (Or.inl rfl) (.inr rfl))) (λ_ _ _ _=>(zF (wn hr) yU (zB _) (zP (edv 0) (zf zg) (λ_ _=>rfl)) (edv 4))) (λ_ _ _ _=>(edv 0)))) zh)) (zf zg)) (zi (XM (m:=false) (pv 2) (edv 4) (λa b=>Wd u0m u0T u0U wK a b))) zA))))
  (Wj 2 (zi (zw (YY (za (edv 0) (za (xZ zV xW rfl T.z_tuple zT (za (ww (zae rfl rfl T.z_sorted (za (edv 2) zh))) zh)) zh))))))))
theorem zb0 {m:Int}{ts:List Tie}{a b:Int}(ok:vG m ts)(h:VS a b∈ts):(0<=a/\a < m)/\(0<=b/\b < m)/\a≠b:=by
 have:=ok.rng _ h
 unfold VS at this
 dsimp only at this
 split at this <;> split at this <;> omega
def Zu:SE->Ctl :=
 (yj (Yc (zr 2 yN (zb (zj ixD (zd 0) (eC (.int 0))) (zb (zd 1) zv))) (zj inD (zr 2 yQ (zb (zj ixD (zd 1) (eC (.int 0))) (zb (zj ixD (zd 1) (eC (.int 1))) zv))) (zj ixD (zd 0) (eC (.int 1))))))
def ZB:List D->Option D:=fnD 2 Zu
theorem zcX {m:Int}{ts:List Tie}(ok:vG m ts)(a b:Int):ZB [ye m ts,.tup [.int a,.int b]]=some (.bl (decide (VS a b∈ts))):=by
 have ep:yN [.int m,.tup [.int a,.int b]]=some (.bl (inR m a&&inR m b&&!decide (a=b))):=rfl
 have et:yQ [.int a,.int b]=some (zc (VS a b)):=rfl
 have ei:=zg5 (VS a b) ts
 have em:ixD (ye m ts) (.int 0)=some (.int m):=rfl
 have e1:ixD (ye m ts) (.int 1)=some (.tup (ts.map zc)):=rfl
 have ea:ixD (.tup [.int a,.int b]) (.int 0)=some (.int a):=rfl
 have eb:ixD (.tup [.int a,.int b]) (.int 1)=some (.int b):=rfl
 refine VT (ρ:=[.v (ye m ts),.v (.tup [.int a,.int b])]) rfl ?_
 unfold Zu
 refine Zp (xo ?_) rfl
 cases hp:inR m a&&inR m b&&!decide (a=b) with
 | true =>
  rw[hp]at ep
  show(((yN [.int m,.tup [.int a,.int b]]).bind asB).bind λc=>if c=true then ((yQ [.int a,.int b]).bind λt=>inD t (.tup (ts.map zc)))else some (D.bl false))=_
  rw[ep,et]
  exact ei
 | false =>
  have:¬ VS a b∈ts:=λh=>by
   obtain⟨h1,h2,h3⟩:=zb0 ok h
   have:(inR m a&&inR m b&&!decide (a=b))=true:=by
    unfold inR
    simp only[g9,d5,Bool.not_eq_true',u0K]
    omega
   rw[this]at hp
   cases hp
  rw[p6 this]
  rw[hp]at ep
  show(((yN [.int m,.tup [.int a,.int b]]).bind asB).bind λc=>if c=true then ((yQ [.int a,.int b]).bind λt=>inD t (.tup (ts.map zc)))else some (D.bl false))=_
  rw[ep]
  rfl
theorem zcL (T:Txt K mg ad):xz P w K mg base CX0 5 ad.f_is_step ad.e_is_step ["web","thing"] (@spD ⟨K⟩ 2 ZB):=by
 letI:KK:=⟨K⟩
 have G_is_pair:=WR (P:=P) (w:=w) (base:=base) T
 have G_tie_between:=WG (P:=P) (w:=w) (base:=base) T
 refine xh (N:=["web","thing"]) (ps:=["web","thing"]) T.d_is_step.fn zcK (g:=Zu) λcdv A outer s H E hr=>?_
 unfold Zu
 exact(zi (zw (vt (zo G_is_pair hr rfl T.d_is_pair (za (zP (edv 0) (zf zg) (λ_ _=>rfl)) (za (edv 1) zh))) (Ys (Zl (VZ hr) VV (by with_unfolding_all rfl) (zo G_tie_between hr rfl T.d_tie_between (za (zP (edv 1) (zf zg) (λ_ _=>rfl)) (za (zP (edv 1) (zf zg) (λ_ _=>rfl)) zh))) (zP (edv 0) (zf zg) (λ_ _=>rfl)))))))
theorem zfl {m:Int}{ts:List Tie}{t:Tie}(ok:vG m ts)(ht:t∈ts):VS t.1 t.2=t/\VS t.2 t.1=t:=by
 have h:=(ok.rng t ht).2.1
 unfold VS
 exact⟨by rw[j7 (by omega),t7 h],by rw[t7 h,j7 (by omega)]⟩
abbrev TR:=Int × Int × Int
def trD (r:TR):D:=.tup [.int r.1,.int r.2.1,.int r.2.2]
def trP (r:TR):Tie:=(r.1,r.2.1)
structure vd (ts:List Tie) (rs:List TR):Prop where
 row:∀ r∈rs,VS r.1 r.2.1∈ts/\1<=r.2.2/\r.2.2<=300
 srt:rs.Pairwise λa b=>ltP (trP a) (trP b)
 len:rs.length<=1000
def xO:SE->Ctl :=
 (zG (sIf (Yd (yb (tOf (eUn (zQ .tuple) (zd 1)))) (tOf (zj neD (eFn YI (zb (zd 1) zv)) (eC (.int 3))))) (yj (eC (.bl false))) zE)
  (yj (Yc (zr 2 ZB (zb (zd 0) (zb (eSl slD (zd 1) yD (yo (eC (.int 2)))) zv))) (zr 3 zt (zb (zj ixD (zd 1) (eC (.int 2))) (zb (eC (.int 1)) (zb (eC (.int 300)) zv)))))))
def xQ:List D->Option D:=fnD 2 xO
theorem XU {m:Int}{ts:List Tie}(ok:vG m ts)(r:TR):xQ [ye m ts,trD r]=some (.bl (decide (VS r.1 r.2.1∈ts)&&(decide (1<=r.2.2)&&decide (r.2.2<=300)))):=by
 have es:=zcX ok r.1 r.2.1
 have ew:zt [.int r.2.2,.int 1,.int 300]=some (.bl (decide (1<=r.2.2)&&decide (r.2.2<=300))):=rfl
 refine VT (ρ:=[.v (ye m ts),.v (trD r)]) rfl ?_
 unfold xO
 refine yS (Xq (c:=false) rfl (λz=>by cases z) (λ_=>vQ rfl ?_))
 refine Zp (xo ?_) rfl
 show(((ZB [ye m ts,.tup [.int r.1,.int r.2.1]]).bind asB).bind λc=>if c=true then zt [.int r.2.2,.int 1,.int 300]else some (.bl false))=_
 rw[es,ew]
 cases decide (VS r.1 r.2.1∈ts) <;> rfl
theorem Wi (T:Txt K mg ad):xz P w K mg base CX0 6 ad.f_is_tally_row ad.e_is_tally_row ["web","thing"] (@spD ⟨K⟩ 2 xQ):=by
 letI:KK:=⟨K⟩
 have G_is_whole_within:=xu (P:=P) (w:=w) (base:=base) T
 have G_is_step:=zcL (P:=P) (w:=w) (base:=base) T
 refine xh (N:=["web","thing"]) (ps:=["web","thing"]) T.d_is_tally_row.fn Wb (g:=xO) λcdv A outer s H E hr=>?_
 unfold xO
 exact(ze (yX (zcw (WL (wH (yZ (zz .tuple rfl T.z_isinstance (edv 1) (zR (v:=.ty "tuple") rfl T.z_tuple zT rfl)))) (Z9 (zF V5 Xj (zB _) (yu zS vM rfl T.z_len Zr (za (edv 1) zh)) (zf zg))))) (zi (zw (wz wD))) zA)
  (zi (zw (vt (zo G_is_step hr rfl T.d_is_step (za (edv 0) (za (xM (edv 1) vm (w8 (zf zg))) zh))) (Ys (zo G_is_whole_within hr rfl T.d_is_whole_within (za (zP (edv 1) (zf zg) (λ_ _=>rfl)) (za (zf zg) (za (zf (zeY (v:=.int 300) rfl T.g_MOST_TIMES ⟨_,rfl⟩)) zh)))))))))
def xi:SE->Ctl :=
 (zG (sIf (yb (tOf (zr 2 xQ (zb (zd 0) (zb (zd 3) zv))))) (yj (eC (.bl false))) zE)
  (sIf (yk (tOf (zj gtD (zd 2) (eC (.int 0)))) (tOf (zj leT (eSl slD (zd 3) yD (yo (eC (.int 2)))) (eSl slD (zj ixD (zd 1) (zj Zi (zd 2) (eC (.int 1)))) yD (yo (eC (.int 2))))))) (yj (eC (.bl false))) zE))
def y3:SE->Ctl :=
 (zG (sIf (yb (tOf (eUn (zQ .tuple) (zd 1)))) (yj (eC (.bl false))) zE)
  (zG (v7 (yh (zb (zd 1) zv)) (Zg 2 (yp (zL 2) (yp (zL 3) Zh))) xi)
  (yj (eC (.bl true)))))
def yx:List D->Option D:=fnD 4 y3
theorem V8 {m:Int}{ts:List Tie}{rs:List TR}(ok:vG m ts)(h:vd ts rs):yx [ye m ts,.tup (rs.map trD)]=some (.bl true):=by
 refine VT (ρ:=[.v (ye m ts),.v (.tup (rs.map trD)),.no,.no]) rfl ?_
 unfold y3
 refine yS (Xq (c:=false) rfl (λz=>by cases z) (λ_=>vQ rfl ?_))
 refine yS (Xk (ds:=Zm 0 (rs.map trD)) (λ_ ρ=>∃ o2 o3:Sl,ρ=[.v (ye m ts),.v (.tup (rs.map trD)),o2,o3]) rfl ⟨_,_,rfl⟩ ?_ ?_)
 .rintro i d ρ hd ⟨o2,o3,rfl⟩
  rw[wM,j4,u0u]at hd
  obtain⟨x,hx,rfl⟩:=u7.mp hd
  obtain⟨r,hr,rfl⟩:=u7.mp hx
  obtain⟨h1,h2,h3⟩:=h.row r (d8 hr)
  have e1:=XU ok r
  rw[r9 h1,r9 h2,r9 h3]at e1
  refine⟨[.v (ye m ts),.v (.tup (rs.map trD)),.v (.int (i:Int)),.v (trD r)],rfl,?_⟩
  unfold xi
  refine yS (Xq (c:=false) ?_ (λz=>by cases z) (λ_=>vQ rfl ?_))
  .show(((xQ [ye m ts,trD r]).bind asB).map (!·))=_
   rw[e1]
   rfl
  refine Xq (c:=false) ?_ (λz=>by cases z) (λ_=>vQ rfl ⟨_,_,rfl⟩)
  cases i with
  | zero=>rfl
  | succ j =>
   obtain⟨q,hq⟩:∃ q,rs[j]?=some q:=⟨_,j6 (u2M (u9.mp hr).1)⟩
   have hlt:ltP (trP q) (trP r):=by
    obtain⟨a1,a2⟩:=u9.mp hr
    obtain⟨b1,b2⟩:=u9.mp hq
    have:=u03.mp h.srt j (j+1) b1 a1 (u2q j)
    rwa[a2,b2]at this
   have e2:L2.atI (rs.map trD) (((j+1:Nat):Int) - 1)=some (trD q):=zfX (by omega) (by rw[show(((j+1:Nat):Int) - 1).toNat=j by omega,j4,hq];rfl)
   have e3:leT (zc (trP r)) (zc (trP q))=some (.bl false):=by
    show some (D.bl (leP (trP r) (trP q)))=_
    rw[Zz.mpr hlt]
   have e4:gtD (.int ((j+1:Nat):Int)) (.int 0)=some (.bl true):=by
    show some (D.bl (decide (0 < ((j+1:Nat):Int))))=_
    rw[r9 (by omega)]
   show((gtD (.int ((j+1:Nat):Int)) (.int 0)).bind asB).bind (λc=>if c=true then (((L2.atI (rs.map trD) (((j+1:Nat):Int) - 1)).bind λx=>(slD x none (some 2))).bind λy=>leT (zc (trP r)) y).bind asB else some false)=_
   rw[e4,e2]
   show((leT (zc (trP r)) (zc (trP q))).bind asB)=_
   rw[e3]
   rfl
 .rintro ρ ⟨o2,o3,rfl⟩
  exact Zp rfl rfl
theorem Z2 (T:Txt K mg ad):xz P w K mg base CX0 7 ad.f_are_tally_rows ad.e_are_tally_rows ["web","thing"] (@spD ⟨K⟩ 2 yx):=by
 letI:KK:=⟨K⟩
 have G_is_tally_row:=Wi (P:=P) (w:=w) (base:=base) T
 refine xh (N:=["web","thing","at","row"]) (ps:=["web","thing"]) T.d_are_tally_rows.fn xH (g:=y3) λcdv A outer s H E hr=>?_
 unfold y3 xi
 exact(ze (yX (wH (yZ (zz .tuple rfl T.z_isinstance (edv 1) (zR (v:=.ty "tuple") rfl T.z_tuple zT rfl)))) (zi (zw (wz wD))) zA)
  (ze (Yx u0e rfl (XW rfl T.z_enumerate xV (za (edv 1) zh)) (Ws rfl (yq (zK (zq (i:=2) xH.nd rfl (Or.inl rfl))) (yq (zK (zq (i:=3) xH.nd rfl (Or.inl rfl))) Zd))) (ze (yX (wH (yZ (zo G_is_tally_row hr rfl T.d_is_tally_row (za (edv 0) (za (edv 3) zh))))) (zi (zw (wz wD))) zA)
  (zi (yX (zcw (W6 (zF zdb y0 (zB _) (edv 2) (zf zg)) (Z1 (zF (zh6 hr.units0) zfT (zB _) (xM (edv 3) vm (w8 (zf zg))) (xM (zP (edv 1) (WW (edv 2) (zf zg)) (λ_ _=>rfl)) vm (w8 (zf zg))))))) (zi (zw (wz wD))) zA))))
  (zi (zw (wz wD)))))
def xk:SE->Ctl :=
 (sIf (yb (tOf (zr 2 yx (zb (zd 0) (zb (zd 1) zv))))) sNo zE)
def wO:List D->Option D:=fnD 2 xk
theorem WB {m:Int}{ts:List Tie}{d:D}(h:yx [ye m ts,d]=some (.bl true)):wO [ye m ts,d]=some .non:=by
 refine VT (ρ:=[.v (ye m ts),.v d]) rfl ?_
 unfold xk
 refine Xq (c:=false) ?_ (λz=>by cases z) (λ_=>vQ rfl rfl)
 show(((yx [ye m ts,d]).bind asB).map (!·))=_
 rw[h]
 rfl
theorem Xn (T:Txt K mg ad):xz P w K mg base CX0 8 ad.f_must_be_tally ad.e_must_be_tally ["web","thing"] (@spD ⟨K⟩ 2 wO):=by
 letI:KK:=⟨K⟩
 have G_are_tally_rows:=Z2 (P:=P) (w:=w) (base:=base) T
 refine xh (N:=["web","thing"]) (ps:=["web","thing"]) T.d_must_be_tally.fn Xl (g:=xk) λcdv A outer s H E hr=>?_
 unfold xk
 exact(zi (yX (wH (yZ (zo G_are_tally_rows hr rfl T.d_are_tally_rows (za (edv 0) (za (edv 1) zh))))) (zi zbU) zA))
def Ya (hs:List Int)(r:TR):List Int:=(hs.set r.1.toNat (vAt hs r.1 - 2*r.2.2)).set r.2.1.toNat (vAt (hs.set r.1.toNat (vAt hs r.1 - 2*r.2.2)) r.2.1+r.2.2)
theorem zU (hs:List Int)(r:TR):(Ya hs r).length=hs.length:=by
 unfold Ya
 rw[u2A,u2A]
def Yr (hs:List Int)(rs:List TR):List Int:=rs.foldl Ya hs
def zl6 (m:Int)(r:TR):Prop:=(0<=r.1/\r.1 < m)/\(0<=r.2.1/\r.2.1 < m)/\r.1≠r.2.1/\1<=r.2.2/\r.2.2<=300
theorem vd.trIn {m:Int}{ts:List Tie}{rs:List TR}(ok:vG m ts)(h:vd ts rs):∀ r∈rs,zl6 m r:=λr hr =>
 let x:=h.row r hr
 let y:=zb0 ok x.1
 ⟨y.1,y.2.1,y.2.2,x.2.1,x.2.2⟩
theorem zew {hs:List Int}{rs:List TR}{i:Nat}{r:TR}(h:rs[i]?=some r):Yr hs (rs.take (i+1))=Ya (Yr hs (rs.take i)) r:=by
 unfold Yr
 rw[u2f,h,List.foldl_append]
 rfl
theorem zaV {ns:List Int}{i j x:Int}(hi:0<=i)(hl:i < ns.length)(hj:0<=j):vAt (ns.set i.toNat x) j=if j=i then x else vAt ns j:=by
 unfold vAt
 rw[u02,u1N,u02]
 by_cases h:j=i
 .subst h
  rw[t7 rfl,t7 (by omega),t7 rfl]
  rfl
 .rw[j7 (by omega),j7 h]
theorem zfQ {ns ms:List Int}(hl:ns.length=ms.length)(h:∀ x:Int,0<=x->x < ns.length->vAt ns x=vAt ms x):ns=ms:=by
 refine u2p hl λi h1 h2=>?_
 have:=h (i:Int) (u11 i) (Int.ofNat_lt.mpr h1)
 unfold vAt at this
 rw[i5,Dl.getD_at h1,Dl.getD_at h2]at this
 exact this
theorem wL {gs:List Int}{m a b n j:Int}(hg:(gs.length:Int)=m)(ha:0<=a/\a < m)(hb:0<=b/\b < m)(hne:a≠b)(hj:0<=j):vAt (Ya gs (a,b,n)) j=if j=b then vAt gs b+n else if j=a then vAt gs a - 2*n else vAt gs j:=by
 unfold Ya
 show vAt ((gs.set a.toNat (vAt gs a - 2*n)).set b.toNat (vAt (gs.set a.toNat (vAt gs a - 2*n)) b+n)) j=_
 rw[zaV hb.1 (by rw[u2A];omega) hj,zaV ha.1 (by omega) hb.1,j7 (u0M hne)]
 by_cases c:j=b
 .rw[t7 c,t7 c]
 .rw[j7 c,j7 c,zaV ha.1 (by omega) hj]
theorem zdp {gs:List Int}{m a b:Int}(hg:(gs.length:Int)=m)(ha:0<=a/\a < m)(hb:0<=b/\b < m)(hne:a≠b):Ya gs (a,b,0)=gs:=by
 refine zfQ (zU _ _) λx x0 x1=>?_
 rw[wL hg ha hb hne x0]
 split
 .rename_i e;rw[e,Int.add_zero]
 .split
  .rename_i e;rw[e,Int.mul_zero,Int.sub_zero]
  .rfl
theorem zee {gs:List Int}{m a b n:Int}(hg:(gs.length:Int)=m)(ha:0<=a/\a < m)(hb:0<=b/\b < m)(hne:a≠b):Ya (Ya gs (a,b,n)) (a,b,1)=Ya gs (a,b,n+1):=by
 refine zfQ (by rw[zU,zU,zU]) λx x0 x1=>?_
 have hg':((Ya gs (a,b,n)).length:Int)=m:=by rw[zU];exact hg
 rw[wL hg' ha hb hne x0,wL hg ha hb hne x0,wL hg ha hb hne hb.1,wL hg ha hb hne ha.1,wL hg ha hb hne x0,t7 rfl,j7 hne,t7 rfl]
 split
 .omega
 .split <;> omega
def vH:SE->Ctl :=
 (zG (ZH true 2 (zd 3) (zj Zi (zj ixD (zd 2) (zd 3)) (eC (.int 2))))
  (ZH true 2 (zd 4) (zj wP (zj ixD (zd 2) (zd 4)) (eC (.int 1)))))
def vF:SE->Ctl :=
 (yV YQ (zb (zd 5) zv) (zL 6) vH)
def vT:SE->Ctl :=
 (zG (Yt 2 (fFn xD (zb (zd 0) zv)))
  (zG (v7 (iOf (zd 1)) (Zg 3 (yp (zL 3) (yp (zL 4) (yp (zL 5) Zh)))) vF)
  (sFz 2 (yj (eFn zM (zb (zd 2) zv))))))
def xy:List D->Option D:=fnD 7 vT
theorem X7 {m:Int}{hs:List Int}{rs:List TR}(hl:(hs.length:Int)=m)(h8:m<=8)(hr:∀ r∈rs,zl6 m r):xy [.tup (hs.map .int),.tup (rs.map trD)]=some (.tup ((Yr hs rs).map .int)):=by
 refine VT (ρ:=[.v (.tup (hs.map .int)),.v (.tup (rs.map trD)),.no,.no,.no,.no,.no]) rfl ?_
 unfold vT
 refine zu (ρ':=[.v (.tup (hs.map .int)),.v (.tup (rs.map trD)),.o (hs.map .int),.no,.no,.no,.no]) (W7 (ds:=hs.map .int) rfl) ?_
 refine yS (Xk (ds:=rs.map trD) (λi ρ=>∃ o3 o4 o5 o6:Sl,ρ=[.v (.tup (hs.map .int)),.v (.tup (rs.map trD)),.o ((Yr hs (rs.take i)).map .int),o3,o4,o5,o6]/\((Yr hs (rs.take i)).length:Int)=m) rfl ⟨_,_,_,_,rfl,hl⟩ ?_ ?_)
 .rintro i d ρ hd ⟨o3,o4,o5,o6,rfl,hg⟩
  rw[j4]at hd
  obtain⟨r,hr',rfl⟩:=u7.mp hd
  obtain⟨p1,p2,p3,p4,p5⟩:=hr r (d8 hr')
  rw[zew hr']
  obtain⟨gs,hgs⟩:∃ gs,Yr hs (rs.take i)=gs:=⟨_,rfl⟩
  rw[hgs]at hg ⊢
  obtain⟨a,b,n⟩:=r
  dsimp only at p1 p2 p3 p4 p5
  refine⟨[.v (.tup (hs.map .int)),.v (.tup (rs.map trD)),.o (gs.map .int),.v (.int a),.v (.int b),.v (.int n),o6],rfl,?_⟩
  unfold vF
  refine WS (lo:=0) (c:=n.toNat) (λj ρ=>∃ o6:Sl,ρ=[.v (.tup (hs.map .int)),.v (.tup (rs.map trD)),.o ((Ya gs (a,b,(j:Int))).map .int),.v (.int a),.v (.int b),.v (.int n),o6]) (vC (by omega) (by omega)) ⟨o6,?_⟩ ?_ ?_
  .rw[show((0:Nat):Int)=0 from rfl,zdp hg p1 p2 p3]
  .rintro j ρ hj ⟨o6,rfl⟩
   rw[show((j+1:Nat):Int)=(j:Int)+1 from rfl,<- zee hg p1 p2 p3]
   obtain⟨g0,hg0⟩:∃ g0,Ya gs (a,b,(j:Int))=g0:=⟨_,rfl⟩
   have hl0:(g0.length:Int)=m:=by rw[<-hg0,zU];exact hg
   rw[hg0]
   refine⟨[.v (.tup (hs.map .int)),.v (.tup (rs.map trD)),.o (g0.map .int),.v (.int a),.v (.int b),.v (.int n),.v (.int ((0:Int)+(j:Int)))],rfl,?_⟩
   unfold vH
   refine zu (zhY (m:=true) (ds:=g0.map .int) (d:=.int (vAt g0 a - 2)) (k:=a) ?_ rfl rfl p1.1 (by rw[u6];omega)) ?_
   .show(Option.bind (zj Zi _ (eC (.int 2)) (visG [.v (.tup (hs.map .int)),.v (.tup (rs.map trD)),.o (g0.map .int),.v (.int a),.v (.int b),.v (.int n),.v (.int ((0:Int)+(j:Int)))])) λd=>if noL d=true then some d else none)=_
    rw[zy (x:=.int (vAt g0 a)) (y:=.int 2) (z:=.int (vAt g0 a - 2)) (zy (x:=.lst (g0.map .int)) (y:=.int a) rfl rfl (zli p1 hl0)) rfl rfl]
    rfl
   rw[<-List.map_set]
   obtain⟨g1,hg1⟩:∃ g1,g0.set a.toNat (vAt g0 a - 2)=g1:=⟨_,rfl⟩
   have hl1:(g1.length:Int)=m:=by rw[<-hg1,u2A];exact hl0
   have e5:Ya g0 (a,b,1)=g1.set b.toNat (vAt g1 b+1):=by
    rw[<-hg1]
    rfl
   rw[hg1,e5]
   refine zmy (g1.map .int) (.int (vAt g1 b+1)) b ?_ rfl rfl p2.1 (by rw[u6];omega) ⟨.v (.int ((0:Int)+(j:Int))),?_⟩
   .show(Option.bind (zj wP _ (eC (.int 1)) (visG [.v (.tup (hs.map .int)),.v (.tup (rs.map trD)),.o (g1.map .int),.v (.int a),.v (.int b),.v (.int n),.v (.int ((0:Int)+(j:Int)))])) λd=>if noL d=true then some d else none)=_
    rw[zy (x:=.int (vAt g1 b)) (y:=.int 1) (z:=.int (vAt g1 b+1)) (zy (x:=.lst (g1.map .int)) (y:=.int b) rfl rfl (zli p2 hl1)) rfl rfl]
    rfl
   .rw[List.map_set]
    rfl
  .rintro ρ ⟨o6,rfl⟩
   rw[show((n.toNat:Nat):Int)=n by omega]
   exact⟨_,_,_,_,rfl,by rw[zU];exact hg⟩
 .rintro ρ ⟨o3,o4,o5,o6,rfl,hg⟩
  rw[u6,u1Y]
  exact ziG rfl (Zp rfl rfl)
theorem zai (T:Txt K mg ad):xz P w K mg base CX0 1 ad.f__law_left ad.e__law_left ["heap","tally"] (@spD ⟨K⟩ 2 xy):=by
 letI:KK:=⟨K⟩
 refine xh (N:=["heap","tally","found","a","b","times","turn"]) (ps:=["heap","tally"]) T.d__law_left.fn xf (g:=vT) λcdv A outer s H E hr=>?_
 unfold vT vF vH
 exact(ze (Xc (i:=2) xf.nd rfl (Or.inl rfl) (zbH rfl T.z_list (za (edv 0) zh)))
  (ze (Yx u0e rfl (xr (edv 1)) (Ws rfl (yq (zK (zq (i:=3) xf.nd rfl (Or.inl rfl))) (yq (zK (zq (i:=4) xf.nd rfl (Or.inl rfl))) (yq (zK (zq (i:=5) xf.nd rfl (Or.inl rfl))) Zd)))) (zi (Zy u0e rfl rfl T.z_range (za (edv 5) zh) (zK (zq (i:=6) xf.nd rfl (Or.inl rfl))) (ze (zhV (m:=true) (WW (zP (edv 2) (edv 3) (λ_ _=>rfl)) (zf zg)) (pv 2) (edv 3))
  (zi (zhV (m:=true) (yO (zP (edv 2) (edv 4) (λ_ _=>rfl)) (zf zg)) (pv 2) (edv 4)))))))
  (Wj 2 (zi (zw (xZ zV xW rfl T.z_tuple zT (za (edv 2) zh)))))))
theorem zhE {a b:Tie}(h:ltP a b):a≠b:=λe=>by
 subst e
 unfold ltP at h
 omega
theorem zcM {n:Nat}{t:Tie}(h:0<=t.1/\t.1 < t.2/\t.2 < (n:Int)):t∈xw n:=by
 unfold xw
 rw[List.mem_flatMap]
 refine⟨t.1.toNat,u1s.mpr (by omega),b0.mpr ⟨(t.2 - t.1 - 1).toNat,u1s.mpr (by omega),u2E ?_ ?_⟩⟩
 .show((t.1.toNat:Nat):Int)=t.1
  omega
 .show((t.1.toNat:Nat):Int)+1+(((t.2 - t.1 - 1).toNat:Nat):Int)=t.2
  omega
theorem zkd {m:Int}{ts:List Tie}(ok:vG m ts):ts.length<=28:=by
 have hm1:=ok.lo
 have hm8:=ok.hi
 have nd:ts.Nodup:=ok.srt.imp zhE
 refine b9 (nd.length_le_of_subset (l₂:=xw m.toNat) λt ht=>zcM ?_) (Wp m.toNat (by omega)).2.2
 have:=ok.rng t ht
 omega
def swP (t:Tie):Tie:=(t.2,t.1)
def wW (ts:List Tie):List Tie:=Y3 (ts++ts.map swP)
theorem zbJ {m:Int}{ts:List Tie}(ok:vG m ts):(ts++ts.map swP).Nodup:=by
 have nd:ts.Nodup:=ok.srt.imp zhE
 refine u2e.mpr ⟨nd,?_,λa ha b hb e=>?_⟩
 .show List.Pairwise (·≠·) (ts.map swP)
  rw[u0Q]
  exact nd.imp λ{a b} h e=>h (u2E (u1d Prod.snd e) (u1d Prod.fst e))
 .obtain⟨t,ht,rfl⟩:=b0.mp hb
  have h1:=(ok.rng a ha).2.1
  have h2:=(ok.rng t ht).2.1
  rw[e]at h1
  exact absurd h1 (by show ¬ t.2 < t.1;omega)
theorem zdL {m:Int}{ts:List Tie}(ok:vG m ts):(wW ts).Pairwise ltP:=Xi (zbJ ok)
theorem zfo {m:Int}{ts:List Tie}(ok:vG m ts){t:Tie}(h:t∈wW ts):VS t.1 t.2∈ts:=by
 rcases u0X.mp ((YF _).mem_iff.mp h)with h | h
 .rw[(zfl ok h).1];exact h
 .obtain⟨s,hs,rfl⟩:=b0.mp h
  show VS s.2 s.1∈ts
  rw[(zfl ok hs).2];exact hs
theorem ze5 {m:Int}{ts:List Tie}(ok:vG m ts):(wW ts).length<=56:=by
 have:=zkd ok
 unfold wW
 rw[(YF _).length_eq,d6,u6]
 omega
def xG:SE->Ctl :=
 (sIf (tOf (zj v5 (zj yW (zr 2 zD (zb (zd 1) (zb (zj wP (eC (.int 300)) (zd 5)) zv))) (eC (.int 2))) (eC (.int 1)))) (YS false 4 (zj wP (zd 6) (vU (zb (zj wP (eC (.int 1)) (zj yW (zr 2 zD (zb (zd 1) (zb (zj wP (eC (.int 360)) (zd 5)) zv))) (zd 2))) zv)))) zE)
def yL:SE->Ctl :=
 (zG (xc false 3 (yT (fFn Wk (zb (zj wP (yT (fFn xD (zb (zj ixD (zd 0) (eC (.int 1))) zv))) (yT (fLC (iOf (zj ixD (zd 0) (eC (.int 1)))) b2 yc (vU (zb (zd 1) (zb (zd 0) zv)))))) zv))))
  (zG (Yt 4 (yF zv))
  (zG (v7 (yh (zb (zd 3) zv)) (Zg 2 (yp (zL 5) (yp (zL 6) Zh))) xG)
  (sFz 4 (yj (eFn zM (zb (zd 4) zv)))))))
def yM:List D->Option D:=fnD 7 yL
theorem zaP {m:Int}{ts:List Tie}{c mo:Int}(ok:vG m ts)(h1:1<=mo)(h3:mo<=300):∃ rs:List TR,yM [ye m ts,.int c,.int mo]=some (.tup (rs.map trD))/\vd ts rs/\rs.length<=56/\∀ r∈rs,r.2.2<=mo:=by
 have h28:=zkd ok
 have h56:=ze5 ok
 have key:=za5 (m:=7) (g:=yL) (ds:=[ye m ts,.int c,.int mo]) (R:=λd=>∃ rs:List TR,d=.tup (rs.map trD)/\(rs.map trP).Sublist (wW ts)/\∀ r∈rs,1<=r.2.2/\r.2.2<=mo) (ρ:=[.v (ye m ts),.v (.int c),.v (.int mo),.no,.no,.no,.no]) rfl ?_
 .obtain⟨d,e,rs,rfl,hs,hr⟩:=key
  refine⟨rs,e,⟨λr hr'=>⟨zfo ok (hs.subset (b0.mpr ⟨r,hr',rfl⟩)),(hr r hr').1,Int.le_trans (hr r hr').2 h3⟩,u0Q.mp ((zdL ok).sublist hs),?_⟩,?_,λr hr'=>(hr r hr').2⟩
  all_goals
   have:=hs.length_le
   rw[u6]at this
   omega
 unfold yL
 refine zu (ρ':=[.v (ye m ts),.v (.int c),.v (.int mo),.v (.lst ((wW ts).map zc)),.no,.no,.no]) (vW (d:=.lst ((wW ts).map zc)) ?_) ?_
 .have e1:fLC (iOf (zj ixD (zd 0) (eC (.int 1)))) b2 yc (vU (zb (zd 1) (zb (zd 0) zv))) (visG [.v (ye m ts),.v (.int c),.v (.int mo),.no,.no,.no,.no])=some ((ts.map swP).map zc):=by
   unfold fLC
   show(if lim (ts.map zc).length=true then _ else none)=_
   rw[t7 (YX (by rw[u6];omega)),e9]
   exact VM zc (zc ∘ swP) ts λt _=>⟨[some (.int t.1),some (.int t.2)],rfl,rfl,rfl⟩
  show(((((fLC (iOf (zj ixD (zd 0) (eC (.int 1)))) b2 yc (vU (zb (zd 1) (zb (zd 0) zv))) (visG [.v (ye m ts),.v (.int c),.v (.int mo),.no,.no,.no,.no])).map D.lst).bind λy=>wP (.lst (ts.map zc)) y).bind λd=>(some []).map (d::·)).bind Wk).map D.lst=_
  rw[e1]
  show(((if lim ((ts.map zc).length+((ts.map swP).map zc).length)=true then some (D.lst (ts.map zc++(ts.map swP).map zc))else none).bind λd=>(some []).map (d::·)).bind Wk).map D.lst=_
  rw[t7 (YX (by simp only[u6];omega)),<- i6]
  show(Wk [.lst ((ts++ts.map swP).map zc)]).map D.lst=_
  rw[WP (by rw[d6,u6];omega)]
  rfl
 refine zu (ρ':=[.v (ye m ts),.v (.int c),.v (.int mo),.v (.lst ((wW ts).map zc)),.o [],.no,.no]) (W7 (ds:=[]) rfl) ?_
 refine yS (Xk (ds:=Zm 0 ((wW ts).map zc)) (λi ρ=>∃ (rs:List TR) (o5 o6:Sl),ρ=[.v (ye m ts),.v (.int c),.v (.int mo),.v (.lst ((wW ts).map zc)),.o (rs.map trD),o5,o6]/\(rs.map trP).Sublist ((wW ts).take i)/\∀ r∈rs,1<=r.2.2/\r.2.2<=mo) rfl ⟨[],_,_,rfl,u3F _,λr hr=>by cases hr⟩ ?_ ?_)
 .rintro i d ρ hd ⟨rs,o5,o6,rfl,hs,hr⟩
  rw[wM,j4,u0u]at hd
  obtain⟨x,hx,rfl⟩:=u7.mp hd
  obtain⟨t,ht,rfl⟩:=u7.mp hx
  have hl:rs.length<=56:=by
   have a1:=hs.length_le
   rw[u6]at a1
   exact b9 a1 (b9 (u2L _ _).length_le h56)
  have htk:(wW ts).take (i+1)=(wW ts).take i++[t]:=by rw[u2f,ht];rfl
  refine⟨[.v (ye m ts),.v (.int c),.v (.int mo),.v (.lst ((wW ts).map zc)),.o (rs.map trD),.v (.int (i:Int)),.v (zc t)],rfl,?_⟩
  unfold xG
  refine Xq (c:=decide (zbB c (300+(i:Int)) % 2=1)) ?_ (λ_=>?_) (λ_=>vQ rfl ⟨rs,_,_,rfl,by rw[htk];exact hs.trans (u3K _ _),hr⟩)
  .show(((yW (.int (zbB c (300+(i:Int)))) (.int 2)).bind λa=>v5 a (.int 1)).bind asB)=_
   rw[y6 (by decide)]
   rfl
  obtain⟨v,hv⟩:∃ v:Int,zbB c (360+(i:Int)) % mo=v:=⟨_,rfl⟩
  obtain⟨v0,v1⟩:=XA (by omega) hv
  refine vQ (zam (ds:=rs.map trD) (d:=trD (t.1,t.2,1+v)) ?_ rfl (by rw[u6];omega)) ⟨rs++[(t.1,t.2,1+v)],_,_,by rw[i6];rfl,?_,λr hr'=>?_⟩
  .show((some (zc t)).bind λa=>((((yW (.int (zbB c (360+(i:Int)))) (.int mo)).bind λb=>wP (.int 1) b).bind λd=>(some []).map (d::·)).bind λds=>if lim ds.length=true then some (D.tup ds)else none).bind λb=>wP a b)=_
   rw[y6 (by omega),hv]
   rfl
  .rw[htk,i6]
   exact hs.append (u3F _)
  .rcases u0X.mp hr' with h | h
   .exact hr r h
   .rw[j8.mp h]
    exact⟨by show 1<=1+v;omega,by show 1+v<=mo;omega⟩
 .rintro ρ ⟨rs,o5,o6,rfl,hs,hr⟩
  rw[wX,u6,u1Y]at hs
  exact ziG rfl (Zp rfl ⟨rs,rfl,hs,hr⟩)
theorem v8 (T:Txt K mg ad):xz P w K mg base CX0 2 ad.f__law_tally_by ad.e__law_tally_by ["web","cell","most"] (@spD ⟨K⟩ 3 yM):=by
 letI:KK:=⟨K⟩
 have G__law_stir:=xT (P:=P) (w:=w) (base:=base) T
 refine xh (N:=["web","cell","most","every","found","k","step"]) (ps:=["web","cell","most"]) T.d__law_tally_by.fn yy (g:=yL) λcdv A outer s H E hr=>?_
 unfold yL xG
 exact(ze (yA (m:=false) (i:=3) yy.nd rfl (Or.inl rfl) (ww (zae rfl rfl T.z_sorted (za (yO (ww (zbH rfl T.z_list (za (zP (edv 0) (zf zg) (λ_ _=>rfl)) zh))) (ww (Xe (L:=["a","b"]) (M:=["web","cell","most","every","found","k","step"]) rfl (wk (by rfl) (by rfl) (by rfl) (by with_unfolding_all rfl) (by rfl) (by rfl) (by kernel_rfl) yI) (xr (zP (edv 0) (zf zg) (λ_ _=>rfl))) gs2 rb2 (λ_ _ _ _=>(V9 rfl (wt (zq (i:=0) zj8 rfl (Or.inl rfl) (.inr rfl)) (wt (zq (i:=1) zj8 rfl (Or.inl rfl) (.inr rfl)) XV)))) (λ_ _ _ _=>(YY (za (edv 1) (za (edv 0) zh))))))) zh))))
  (ze (Xc (i:=4) yy.nd rfl (Or.inl rfl) (YV zh))
  (ze (Yx u0e rfl (XW rfl T.z_enumerate xV (za (edv 3) zh)) (Ws rfl (yq (zK (zq (i:=5) yy.nd rfl (Or.inl rfl))) (yq (zK (zq (i:=6) yy.nd rfl (Or.inl rfl))) Zd))) (zi (yX (zF (wn hr) yU (zB _) (xv (zo G__law_stir hr rfl T.d__law_stir (za (edv 1) (za (yO (zf zg) (edv 5)) zh))) (zf zg)) (zf zg)) (zi (XM (m:=false) (pv 4) (yO (edv 6) (YY (za (yO (zf zg) (xv (zo G__law_stir hr rfl T.d__law_stir (za (edv 1) (za (yO (zf zg) (edv 5)) zh))) (edv 2))) zh))) (λa b=>Wd u0m u0T u0U wK a b))) zA)))
  (Wj 4 (zi (zw (xZ zV xW rfl T.z_tuple zT (za (edv 4) zh))))))))
theorem Wa {it:Ev->Option (List D)}{b:D->Option (List (Option D))}{t:Ev->Option Bool}{f:Ev->Option D}{ρ:Ev}{α:Type}{c:α->D}{p:α->Bool}{y:α->D}{xs:List α}(h1:it ρ=some (xs.map c))(hl:xs.length<=1000)(h:∀ x∈xs,∃ own,b (c x)=some own/\t (own++ρ)=some (p x)/\(p x=true->f (own++ρ)=some (y x))):fLC it b t f ρ=some ((xs.filter p).map y):=by
 unfold fLC
 rw[h1,i7,t7 (YX (by rw[u6];exact hl))]
 exact ZW c p y xs h
theorem W4 {it:Ev->Option (List D)}{b:D->Option (List (Option D))}{t:Ev->Option Bool}{f:Ev->Option D}{ρ:Ev}{α:Type}{c y:α->D}{xs:List α}(h1:it ρ=some (xs.map c))(hl:xs.length<=1000)(h:∀ x∈xs,∃ own,b (c x)=some own/\t (own++ρ)=some true/\f (own++ρ)=some (y x)):fLC it b t f ρ=some (xs.map y):=by
 unfold fLC
 rw[h1,i7,t7 (YX (by rw[u6];exact hl))]
 exact VM c y xs h
theorem zag (ns:List Int):(ns.map D.int).all (okE 20)=true:=by
 rw[u1R,u0k]
 exact λx _=>rfl
theorem zhn (x:Int)(ns:List Int):zh4 (.int x) (ns.map .int)=some (decide (x∈ns)):=by
 unfold zh4
 rw[t7 ⟨rfl,zag ns⟩,u4c]
 congr 1
 rw[u1u,u3V,d5]
 constructor
 .rintro⟨s,hs,h⟩
  have h:(s == x)=true:=h
  rw[u3b]at h
  subst h
  exact hs
 .exact λh=>⟨x,h,(show(x == x)=true from u0o x)⟩
theorem zl5 (x:Int)(ns:List Int):inD (.int x) (.lst (ns.map .int))=some (.bl (decide (x∈ns))):=by
 show(zh4 (.int x) (ns.map .int)).map D.bl=_
 rw[zhn]
 rfl
theorem zf9 {α:Type}(f:α->Bool)(l:List α):zmo [.lst (l.map λx=>.bl (f x))]=some (.bl (l.any f)):=by
 have:zh3 (l.map λx=>D.bl (f x))=some (l.map f):=by
  have:=zhl (l.map f)
  rwa[e9]at this
 show((zh3 (l.map λx=>D.bl (f x))).bind λbs=>some (D.bl (bs.any id)))=_
 rw[this]
 show some (D.bl ((l.map f).any id))=_
 rw[u4c]
 rfl
theorem zil:∀ (q p:List Int),((List.zipWith (eqN 19) (q.map D.int) (p.map D.int)).all id&&(q.map D.int).length == (p.map D.int).length)=decide (q=p):=by
 intro q
 induction q with
 | nil =>
  intro p
  cases p <;> rfl
 | cons a q ih =>
  intro p
  cases p with
  | nil=>rfl
  | cons b p =>
   have:=ih p
   show((a == b&&(List.zipWith (eqN 19) (q.map D.int) (p.map D.int)).all id)&&((q.map D.int).length+1 == (p.map D.int).length+1))=_
   rw[Bool.and_assoc,show((q.map D.int).length+1 == (p.map D.int).length+1)=((q.map D.int).length == (p.map D.int).length) by rw[u1u,u3b,u3b];omega,this]
   rw[u1u,g9,u3b,d5,d5,List.cons.injEq]
theorem zcb (ns:List Int):okE 20 (.lst (ns.map .int))=true:=by
 show(ns.map D.int).all (okE 19)=true
 rw[u1R,u0k]
 exact λx _=>rfl
theorem ziZ (q p:List Int):zf2 (.lst (q.map .int)) (.lst (p.map .int))=some (.bl (!decide (q=p))):=by
 show(if (okE 20 (.lst (q.map .int))&&okE 20 (.lst (p.map .int)))=true then some (D.bl (!((List.zipWith (eqN 19) (q.map D.int) (p.map D.int)).all id&&(q.map D.int).length == (p.map D.int).length)))else none)=_
 rw[zcb,zcb,t7 (show(true&&true)=true from rfl),zil]
def XF (P:List Int)(E:List Tie):List Int:=P.filter λp=>E.any λs=>decide (s.1=p)&&decide (s.2∈P)
theorem XT {P:List Int}{E:List Tie}{p:Int}:p∈XF P E↔p∈P/\∃ s∈E,s.1=p/\s.2∈P:=by
 unfold XF
 rw[u0c,u3V]
 simp only[g9,d5]
def XG:SE->Ctl :=
 (yj (yT (fLC (iOf (zd 0)) b1 (tOf (eFn zmo (zb (yT (fLC (iOf (zd 2)) b1 yc (Yc (zj v5 (zj ixD (zd 0) (eC (.int 0))) (zd 1)) (zj inD (zj ixD (zd 0) (eC (.int 1))) (zd 2))))) zv))) (zd 0))))
def Zj:List D->Option D:=fnD 2 XG
theorem zaQ {P:List Int}{E:List Tie}(hP:P.length<=1000)(hE:E.length<=1000):Zj [.lst (P.map .int),.lst (E.map zc)]=some (.lst ((XF P E).map .int)):=by
 refine VT (ρ:=[.v (.lst (P.map .int)),.v (.lst (E.map zc))]) rfl ?_
 unfold XG
 refine Zp (xo (wg (Wa (c:=D.int) (xs:=P) (p:=λp=>E.any λs=>decide (s.1=p)&&decide (s.2∈P)) (y:=D.int) rfl hP λp _=>⟨[some (.int p)],rfl,?_,λ_=>rfl⟩))) rfl
 refine vg (za9 (ds:=[.lst (E.map λs=>.bl (decide (s.1=p)&&decide (s.2∈P)))]) (zZ (wg (W4 (c:=zc) (xs:=E) rfl hE λs _=>⟨[some (zc s)],rfl,rfl,?_⟩)) wl) (zf9 _ _))
 exact zk4 (zy (x:=.int s.1) (y:=.int p) rfl rfl rfl) (zy (x:=.int s.2) (y:=.lst (P.map .int)) rfl rfl (zl5 _ _))
theorem zfY (T:Txt K mg ad):xz P w K mg base CX0 1 ad.f_led_on ad.e_led_on ["places","steps"] (@spD ⟨K⟩ 2 Zj):=by
 letI:KK:=⟨K⟩
 refine xh (N:=["places","steps"]) (ps:=["places","steps"]) T.d_led_on.fn zdR (g:=XG) λcdv A outer s H E hr=>?_
 unfold XG
 exact(zi (zw (ww (zjg (x0:="place") (M:=["places","steps"]) rfl (zj4 (by rfl) (by rfl) (by rfl) (by with_unfolding_all rfl) (λ_=>rfl) (λ_=>rfl) (by rfl) (by rfl) (by kernel_rfl) (all_cons rfl (all_cons rfl yI))) (xr (edv 0)) gs1 rb1 (λ_ _ _ _=>(zq (i:=0) zmZ rfl (Or.inr rfl) (.inl rfl))) (λ_ _ _ _=>(yZ (yu (zeg rfl) zi3 rfl T.z_any zls (za (ww (Xe (L:=["step"]) (M:=["place","places","steps"]) rfl (wk (by rfl) (by rfl) (by rfl) (by with_unfolding_all rfl) (by rfl) (by rfl) (by kernel_rfl) (all_cons rfl (all_cons rfl yI))) (xr (edv 2)) gs1 rb1 (λ_ _ _ _=>(zq (i:=0) zmt rfl (Or.inl rfl) (.inr rfl))) (λ_ _ _ _=>(vt (Zl (wn hr) yU (zB _) (zP (edv 0) (zf zg) (λ_ _=>rfl)) (edv 1)) (Ys (Zl (VZ hr) VV (by with_unfolding_all rfl) (zP (edv 0) (zf zg) (λ_ _=>rfl)) (edv 2))))))) zh)))) (λ_ _ _ _=>(edv 0))))))
def zlO (ρ:SE):Nat:=match ρ[1]? with
 | some (Sl.v (D.lst ds))=>ds.length
 | _=>0
def zhd (E:List Tie)(P:List Int):Nat->List Int
 | 0=>P
 | n+1=>XF (zhd E P n) E
def zdy (E:List Tie):List Int:=(ziI (E.map λs=>s.1.toNat)).map λk:Nat=>(k:Int)
def SmE (E:List Tie):Prop:=∀ s∈E,0<=s.1/\s.1 < 8
theorem zix {E:List Tie}(h:SmE E){p:Int}:p∈zdy E↔∃ s∈E,s.1=p:=by
 unfold zdy
 have h8:∀ k∈E.map λs=>s.1.toNat,k < 8:=λk hk=>by
  obtain⟨s,hs,rfl⟩:=b0.mp hk
  have:=h s hs
  omega
 rw[b0]
 constructor
 .rintro⟨k,hk,rfl⟩
  obtain⟨s,hs,rfl⟩:=b0.mp ((zcp h8).mp hk)
  exact⟨s,hs,by have:=h s hs;omega⟩
 .rintro⟨s,hs,rfl⟩
  exact⟨s.1.toNat,(zcp h8).mpr (b0.mpr ⟨s,hs,rfl⟩),by have:=h s hs;omega⟩
theorem ziU (E:List Tie):(zdy E).length<=8:=by
 unfold zdy ziI OwnSet.ksOf
 rw[u6]
 exact b9 (u1b _ _) (by rw[u0r];exact t5 _)
theorem zlC {P:List Int}{E:List Tie}(h:XF P E≠P):(XF P E).length < P.length:=by
 have hs:(XF P E).Sublist P:=List.filter_sublist
 exact u2C hs.length_le λe=>h (hs.eq_of_length e)
def vL:SE->Ctl :=
 (zG (zdr 4 (fLC (iOf (zd 0)) b1 (yk (tOf (zj v5 (zj ixD (zd 0) (eC (.int 0))) (zj ixD (zd 4) (eUn Xw (eC (.int 1)))))) (tOf (zj inD (zj ixD (zd 0) (eC (.int 1))) (zd 2)))) (zj ixD (zd 0) (eC (.int 1)))))
  (zG (sIf (tOf (zj inD (zj ixD (zd 4) (eC (.int 0))) (zd 3))) (yj (eFn zM (zb (eSl slD (zd 3) (yo (zcO zf5 (zd 3) (zb (zj ixD (zd 4) (eC (.int 0))) zv))) yD) zv))) zE)
  (YS false 3 (zj ixD (zd 4) (eC (.int 0))))))
def vK:SE->Ctl :=
 (zG (xc false 1 (zd 2))
  (xc false 2 (zr 2 Zj (zb (zd 1) (zb (zd 0) zv)))))
def Yk:SE->Ctl :=
 (zG (xc false 1 (yT (fSS (yT (fLC (iOf (zd 0)) b1 yc (zj ixD (zd 0) (eC (.int 0))))))))
  (zG (xc false 2 (zr 2 Zj (zb (zd 1) (zb (zd 0) zv))))
  (zG (vv (tOf (zj zf2 (zd 2) (zd 1))) vK 20)
  (zG (sIf (tOf (zj v5 (eFn YI (zb (zd 1) zv)) (eC (.int 0)))) (yj (eC .non)) zE)
  (zG (Yt 3 (yF (zb (zj ixD (zd 1) (eC (.int 0))) zv)))
  (vv (tOf (eC (.bl true))) vL 20))))))
def vq:List D->Option D:=fnD 5 Yk
theorem zfF {E:List Tie}{N B C:SE->Prop}{R:D->Prop}{g:SE->Ctl}(hE:E.length<=1000)(h8:SmE E)(hg:∀ P j,P=zhd E (zdy E) j->j+P.length<=8->XF P E=P->(g [.v (.lst (E.map zc)),.v (.lst (P.map .int)),.v (.lst (P.map .int)),.no,.no]).w N B C R) :
 (zG (xc false 1 (yT (fSS (yT (fLC (iOf (zd 0)) b1 yc (zj ixD (zd 0) (eC (.int 0))))))))
 (zG (xc false 2 (zr 2 Zj (zb (zd 1) (zb (zd 0) zv))))
 (zG (vv (tOf (zj zf2 (zd 2) (zd 1))) vK 20) g)) [.v (.lst (E.map zc)),.no,.no,.no,.no]).w N B C R:=by
 have e1:yT (fSS (yT (fLC (iOf (zd 0)) b1 yc (zj ixD (zd 0) (eC (.int 0)))))) (visF [.v (.lst (E.map zc)),.no,.no,.no,.no])=some (.lst ((zdy E).map .int)):=by
  refine wg (zmk (d:=.lst (((E.map λs=>s.1.toNat).map λk:Nat=>(k:Int)).map .int)) (wg ?_) ?_)
  .rw[e9,e9]
   refine W4 (c:=zc) (xs:=E) rfl hE λs hs=>⟨[some (zc s)],rfl,rfl,?_⟩
   show some (D.int s.1)=some (D.int ((s.1.toNat:Nat):Int))
   rw[Int.toNat_of_nonneg (h8 s hs).1]
  .show(Y7 _).map _=_
   rw[zba λk hk=>?_]
   .rfl
   .obtain⟨s,hs,rfl⟩:=b0.mp hk
    have:=h8 s hs
    omega
 refine zu (zdm e1) ?_
 have hl:=ziU E
 refine zu (ρ':=[.v (.lst (E.map zc)),.v (.lst ((zdy E).map .int)),.v (.lst ((XF (zdy E) E).map .int)),.no,.no]) (wB (ds:=[_,_]) rfl (zaQ (by omega) hE)) ?_
 refine yS (Wl (fun ρ=>∃ P j,ρ=[.v (.lst (E.map zc)),.v (.lst (P.map .int)),.v (.lst ((XF P E).map .int)),.no,.no]/\P=zhd E (zdy E) j/\j+P.length<=8) zlO ?_ 20 _ ⟨zdy E,0,rfl,rfl,by omega⟩ ?_)
 .rintro ρ ⟨P,j,rfl,hP,hj⟩
  refine⟨!decide (XF P E=P),vg (zy (x:=.lst ((XF P E).map .int)) (y:=.lst (P.map .int)) rfl rfl (ziZ _ _)),λc=>?_,λc=>?_⟩
  .have hne:XF P E≠P:=λe=>by rw[r9 e]at c;cases c
   have hlt:=zlC hne
   unfold vK
   refine zu (ρ':=[.v (.lst (E.map zc)),.v (.lst ((XF P E).map .int)),.v (.lst ((XF P E).map .int)),.no,.no]) rfl ?_
   refine vQ (ρ':=[.v (.lst (E.map zc)),.v (.lst ((XF P E).map .int)),.v (.lst ((XF (XF P E) E).map .int)),.no,.no]) (wB (ds:=[_,_]) rfl (zaQ (by omega) hE)) ⟨⟨XF P E,j+1,rfl,by rw[hP];rfl,by omega⟩,?_⟩
   show((XF P E).map D.int).length < (P.map D.int).length
   rw[u6,u6]
   exact hlt
  .have he:XF P E=P:=by
    by_cases z:XF P E=P
    .exact z
    .rw[p6 z]at c;cases c
   rw[he]
   exact hg P j hP hj he
 .show((zdy E).map D.int).length < 20
  rw[u6]
  omega
def zj2 (E:List Tie):List Tie:=E.filter λs=>decide (s.2∈E.map λq=>q.1)
def wU (E:List Tie):Nat->List Tie
 | 0=>E
 | n+1=>zj2 (wU E n)
theorem vO {E:List Tie}{s:Tie}:s∈zj2 E↔s∈E/\∃ q∈E,q.1=s.2:=by
 unfold zj2
 rw[u0c,d5,b0]
theorem zgO (E:List Tie):∀ n s,s∈wU E n->s∈E:=by
 intro n
 induction n with
 | zero=>exact λs h=>h
 | succ n ih=>exact λs h=>ih s (vO.mp h).1
theorem zfa (E:List Tie)(j:Nat):∀ n s,s∈wU E (j+n)->s∈wU E j:=by
 intro n
 induction n with
 | zero=>exact λs h=>h
 | succ n ih=>exact λs h=>ih s (vO.mp h).1
theorem zgX {E:List Tie}{P:List Int}(hf:XF P E=P):∀ n s,s∈E->s.1∈P->s.2∈P->s∈wU E n:=by
 intro n
 induction n with
 | zero=>exact λs h _ _=>h
 | succ n ih =>
  intro s h h1 h2
  refine vO.mpr ⟨ih s h h1 h2,?_⟩
  have h3:=h2
  rw[<-hf]at h3
  obtain⟨-,q,hq,e,hq2⟩:=XT.mp h3
  exact⟨q,ih q hq (by rw[e];exact h2) hq2,e⟩
theorem zfK {E:List Tie}(h8:SmE E):∀ n s,s∈wU E n->s.1∈zhd E (zdy E) n:=by
 intro n
 induction n with
 | zero=>exact λs h=>(zix h8).mpr ⟨s,h,rfl⟩
 | succ n ih =>
  intro s h
  obtain⟨h1,q,hq,e⟩:=vO.mp h
  exact XT.mpr ⟨ih s h1,s,zgO E n s h1,rfl,by rw[<-e];exact ih q hq⟩
structure Xa (E:List Tie) (R:List Int):Prop where
 two:2<=R.length
 eight:R.length<=8
 nd:R.Nodup
 sm:∀ p∈R,0<=p/\p < 8
 go:∀ (i:Nat) (a b:Int),R[i]?=some a->(R.drop 1++R.take 1)[i]?=some b->(a,b)∈E
structure zej (E:List Tie) (P W:List Int):Prop where
 ne:W≠[]
 nd:W.Nodup
 sub:∀ p∈W,p∈P
 go:∀ (i:Nat) (a b:Int),W[i]?=some a->W[i+1]?=some b->(a,b)∈E
theorem Vk {W P:List Int}(nd:W.Nodup)(h:∀ p∈W,p∈P):W.length<=P.length:=nd.length_le_of_subset h
theorem zbD {E:List Tie}{P W:List Int}{la o:Int}{j:Nat}(hw:zej E P W)(hP:P.length<=8)(hsm:∀ p∈P,0<=p/\p < 8)(hla:W.getLast?=some la)(hE:(la,o)∈E)(hne:la≠o)(hj:W[j]?=some o):Xa E (W.drop j):=by
 have hlen:=Vk hw.nd hw.sub
 obtain⟨hj1,hj2⟩:=u9.mp hj
 have hlast:W[W.length - 1]?=some la:=by rw[<-u3B];exact hla
 have hlt:j+1 < W.length:=by
  by_cases c:j=W.length - 1
  .rw[c,hlast]at hj
   cases hj
   exact absurd rfl hne
  .omega
 refine⟨by rw[u0h];omega,by rw[u0h];omega,hw.nd.sublist (List.drop_sublist _ _),λp hp=>hsm p (hw.sub p (List.mem_of_mem_drop hp)),λi a b ha hb=>?_⟩
 have hil:=(u9.mp ha).1
 rw[u0h]at hil
 rw[u12]at ha
 have hd1:((W.drop j).drop 1).length=W.length - j - 1:=by rw[u0h,u0h]
 by_cases c:i < W.length - j - 1
 .rw[u0l (by rw[hd1];exact c),u12,u12]at hb
  exact hw.go (j+i) a b ha (by rw[<-hb];congr 1;omega)
 .rw[u0j (by rw[hd1];omega),hd1]at hb
  have e0:i - (W.length - j - 1)=0:=by omega
  rw[e0,u3J (by decide),u12,Nat.add_zero,hj]at hb
  rw[show j+i=W.length - 1 by omega,hlast]at ha
  cases ha
  cases hb
  exact hE
theorem zej.more {E:List Tie}{P W:List Int}{la o:Int}(hw:zej E P W)(hla:W.getLast?=some la)(hE:(la,o)∈E)(ho:o∈P)(hn:o∉W):zej E P (W++[o]):=by
 have hlast:W[W.length - 1]?=some la:=by rw[<-u3B];exact hla
 have hpos:=u3k.mpr hw.ne
 refine⟨by simp,u2e.mpr ⟨hw.nd,by simp,λa ha b hb e=>hn (by rw[<-j8.mp hb,<- e];exact ha)⟩,λp hp=>?_,λi a b ha hb=>?_⟩
 .rcases u0X.mp hp with h | h
  .exact hw.sub p h
  .rw[j8.mp h];exact ho
 .have hil:=(u9.mp hb).1
  rw[d6,u17]at hil
  rw[u0l (by omega)]at ha
  by_cases c:i+1 < W.length
  .rw[u0l c]at hb
   exact hw.go i a b ha hb
  .rw[u0j (by omega),show i+1 - W.length=0 by omega]at hb
   rw[show i=W.length - 1 by omega,hlast]at ha
   cases ha
   cases hb
   exact hE
def xE:SE->Ctl :=
 (zlk false 3 (zj yW (zr 2 zD (zb (zd 1) (zb (zj wP (eC (.int 420)) (zd 4)) zv))) (zj wP (zd 4) (eC (.int 1)))) (zd 4))
def yJ:SE->Ctl :=
 (zG (Yt 3 (yF zv))
  (zG (yV YQ (zb (zj ixD (zd 0) (eC (.int 0))) zv) (zL 4) xE)
  (sFz 3 (yj (eFn zM (zb (yT (fLC (iOf (zr 3 yM (zb (zd 0) (zb (zd 1) (zb (zd 2) zv))))) b1 (tOf (zj ltD (zcO zf5 (zd 4) (zb (zj ixD (zd 0) (eC (.int 0))) zv)) (zcO zf5 (zd 4) (zb (zj ixD (zd 0) (eC (.int 1))) zv)))) (zd 0))) zv))))))
def wN:List D->Option D:=fnD 5 yJ
theorem zem (O:List Int)(x:Int):(O.map D.int).findIdx? (λe=>eqN 20 e (.int x))=O.findIdx? (λy=>y == x):=by
 rw[List.findIdx?_map]
 rfl
theorem zeQ {O:List Int}{x:Int}(h:x∈O):zf5 (.lst (O.map .int)) (.int x)=some (.int (((O.findIdx? λy=>y == x).getD 0:Nat):Int)):=by
 show(if okE 20 (.int x)=true/\(O.map D.int).all (okE 20)=true then ((O.map D.int).findIdx? λe=>eqN 20 e (.int x)).map λ(j:Nat)=>D.int (j:Int)else none)=_
 rw[t7 ⟨rfl,zag O⟩,zem]
 cases e:O.findIdx? λy=>y == x with
 | none =>
  have:=u1F.mp e x h
  rw[u0o]at this
  cases this
 | some j=>rfl
theorem vd.filter {ts:List Tie}{rs:List TR}(h:vd ts rs)(p:TR->Bool):vd ts (rs.filter p) :=
 ⟨λr hr=>h.row r (u0c.mp hr).1,h.srt.filter p,b9 (u1b _ _) h.len⟩
theorem zbp {m:Int}{ts:List Tie}{c mo:Int}(ok:vG m ts)(h1:1<=mo)(h3:mo<=300):∃ (rs0:List TR) (p:TR->Bool) (rank:Int->Int),yM [ye m ts,.int c,.int mo]=some (.tup (rs0.map trD))/\(vd ts rs0/\rs0.length<=56/\∀ r∈rs0,r.2.2<=mo)/\wN [ye m ts,.int c,.int mo]=some (.tup ((rs0.filter p).map trD))/\∀ r∈rs0.filter p,rank r.1 < rank r.2.1:=by
 obtain⟨rs0,et,hT,hT2⟩:=zaP (c:=c) ok h1 h3
 have hm1:=ok.lo
 have hm8:=ok.hi
 have key:=za5 (m:=5) (g:=yJ) (ds:=[ye m ts,.int c,.int mo]) (R:=λd=>∃ (p:TR->Bool) (rank:Int->Int),d=.tup ((rs0.filter p).map trD)/\∀ r∈rs0.filter p,rank r.1 < rank r.2.1) (ρ:=[.v (ye m ts),.v (.int c),.v (.int mo),.no,.no]) rfl ?_
 .obtain⟨d,e,p,rank,rfl,hr⟩:=key
  exact⟨rs0,p,rank,et,⟨hT,hT2⟩,e,hr⟩
 unfold yJ
 refine zu (ρ':=[.v (ye m ts),.v (.int c),.v (.int mo),.o [],.no]) rfl ?_
 refine yS (WS (lo:=0) (c:=m.toNat) (λi ρ=>∃ (O:List Int) (o4:Sl),ρ=[.v (ye m ts),.v (.int c),.v (.int mo),.o (O.map .int),o4]/\O.length=i/\∀ x:Int,x∈O↔0<=x/\x < (i:Int)) (show YQ [.int m]=some (Xm 0 m.toNat)from vC (by omega) (by omega)) ⟨[],_,rfl,rfl,λx=>⟨(λh=>by cases h),(λh=>by omega)⟩⟩ ?_ ?_)
 .rintro i ρ hi ⟨O,o4,rfl,hl,hO⟩
  refine⟨[.v (ye m ts),.v (.int c),.v (.int mo),.o (O.map .int),.v (.int ((0:Int)+(i:Int)))],rfl,?_⟩
  unfold xE
  obtain⟨k,hk⟩:∃ k:Int,zbB c (420+(0+(i:Int))) % (0+(i:Int)+1)=k:=⟨_,rfl⟩
  obtain⟨k0,k1⟩:=XA (by omega) hk
  have ek:zj yW (zr 2 zD (zb (zd 1) (zb (zj wP (eC (.int 420)) (zd 4)) zv))) (zj wP (zd 4) (eC (.int 1))) (visF [.v (ye m ts),.v (.int c),.v (.int mo),.o (O.map .int),.v (.int ((0:Int)+(i:Int)))])=some (.int k):=zy (x:=.int (zbB c (420+(0+(i:Int))))) (y:=.int (0+(i:Int)+1)) rfl rfl (by rw[y6 (by omega),hk])
  refine vQ (zlb (ds:=O.map .int) (d:=.int ((0:Int)+(i:Int))) (k:=k) ek rfl rfl (by rw[u6];omega) k0 (by omega)) ⟨O.take k.toNat++((0:Int)+(i:Int))::O.drop k.toNat,.v (.int ((0:Int)+(i:Int))),?_,?_,λx=>?_⟩
  .show [Sl.v (ye m ts),.v (.int c),.v (.int mo),.o ((O.map D.int).take k.toNat++D.int ((0:Int)+(i:Int))::(O.map D.int).drop k.toNat),.v (.int ((0:Int)+(i:Int)))]=_
   rw[i6,i8,List.map_take,List.map_drop]
  .rw[d6,i4,u05,u0h]
   omega
  .have hx:=hO x
   have hmem:x∈O.take k.toNat++((0:Int)+(i:Int))::O.drop k.toNat↔x=(0:Int)+(i:Int)\/x∈O:=by
    rw[u0X,j5]
    have:x∈O↔x∈O.take k.toNat\/x∈O.drop k.toNat:=by rw[<-u0X,u18]
    rw[this]
    constructor
    .rintro(h | h | h)
     .exact .inr (.inl h)
     .exact .inl h
     .exact .inr (.inr h)
    .rintro(h | h | h)
     .exact .inr (.inl h)
     .exact .inl h
     .exact .inr (.inr h)
   rw[hmem,hx]
   omega
 .rintro ρ ⟨O,o4,rfl,hl,hO⟩
  refine ziG (ρ':=[.v (ye m ts),.v (.int c),.v (.int mo),.v (.lst (O.map .int)),o4]) rfl ?_
  have hin:=hT.trIn ok
  refine Zp (xo (za9 (ds:=[.lst ((rs0.filter λr=>decide ((((O.findIdx? λy=>y == r.1).getD 0:Nat):Int) < (((O.findIdx? λy=>y == r.2.1).getD 0:Nat):Int))).map trD)]) (zZ (wg (Wa (c:=trD) (xs:=rs0) (V6 (x8 (ds:=[_,_,_]) rfl et) rfl) hT.len λr hr=>⟨[some (trD r)],rfl,?_,λ_=>rfl⟩)) wl) rfl)) ⟨_,λx=>(((O.findIdx? λy=>y == x).getD 0:Nat):Int),rfl,λr hr=>r6 (u0c.mp hr).2⟩
  obtain⟨q1,q2,-,-,-⟩:=hin r hr
  have g1:r.1∈O:=(hO _).mpr (by omega)
  have g2:r.2.1∈O:=(hO _).mpr (by omega)
  refine vg (zy (x:=.int (((O.findIdx? λy=>y == r.1).getD 0:Nat):Int)) (y:=.int (((O.findIdx? λy=>y == r.2.1).getD 0:Nat):Int)) ?_ ?_ rfl)
  .show zf5 (.lst (O.map .int)) (.int r.1)=_
   exact zeQ g1
  .show zf5 (.lst (O.map .int)) (.int r.2.1)=_
   exact zeQ g2
theorem Xr (T:Txt K mg ad):xz P w K mg base CX0 3 ad.f__law_ringless ad.e__law_ringless ["web","cell","most"] (@spD ⟨K⟩ 3 wN):=by
 letI:KK:=⟨K⟩
 have G__law_stir:=xT (P:=P) (w:=w) (base:=base) T
 have G__law_tally_by:=v8 (P:=P) (w:=w) (base:=base) T
 refine xh (N:=["web","cell","most","order","place"]) (ps:=["web","cell","most"]) T.d__law_ringless.fn x6 (g:=yJ) λcdv A outer s H E hr=>?_
 unfold yJ xE
 exact(ze (Xc (i:=3) x6.nd rfl (Or.inr rfl) (YV zh))
  (ze (Zy u0e rfl rfl T.z_range (za (zP (edv 0) (zf zg) (λ_ _=>rfl)) zh) (zK (zq (i:=4) x6.nd rfl (Or.inl rfl))) (zi (zkL (m:=false) (pv 3) (xv (zo G__law_stir hr rfl T.d__law_stir (za (edv 1) (za (yO (zf zg) (edv 4)) zh))) (yO (edv 4) (zf zg))) (edv 4) (λa b=>Wd u0m PySem.F.slot_list_insert PySem.F.type_list_insert zfp a b))))
  (Wj 3 (zi (zw (xZ zV xW rfl T.z_tuple zT (za (ww (zcd (L:=["row"]) (M:=["web","cell","most","order","place"]) rfl (wk (by rfl) (by rfl) (by rfl) (by with_unfolding_all rfl) (by rfl) (by rfl) (by kernel_rfl) (all_cons rfl yI)) (xr (zo G__law_tally_by hr rfl T.d__law_tally_by (za (edv 0) (za (edv 1) (za (edv 2) zh))))) gs1 rb1 (λ_ _ _ _=>(zq (i:=0) zmG rfl (Or.inl rfl) (.inr rfl))) (λ_ _ _ _=>(zF zgn y0 (zB _) (VA (edv 4) (za (zP (edv 0) (zf zg) (λ_ _=>rfl)) zh) (λa b=>Wd u0m u1X u2G (Wu hr) a b)) (VA (edv 4) (za (zP (edv 0) (zf zg) (λ_ _=>rfl)) zh) (λa b=>Wd u0m u1X u2G (Wu hr) a b)))) (λ_ _ _ _=>(edv 0)))) zh)))))))
theorem zfU {i:Nat}{f:Ev->Option (List D)}{ρ ρ':SE}{ds:List D}(h:f (visG ρ)=some ds)(hn:zhy ds=true)(h2:ρ.set i (.v (.lst ds))=ρ':=by rfl):zdr i f ρ=.nx ρ':=by
 unfold zdr
 rw[h]
 show(if zhy ds=true then Ctl.nx (ρ.set i (.v (.lst ds)))else .no)=_
 rw[t7 hn,h2]
theorem zdk (ns:List Int):zhy (ns.map .int)=true:=by
 induction ns with
 | nil=>rfl
 | cons n ns ih=>show(noL (.int n)&&zhy (ns.map .int))=true;rw[ih];rfl
theorem zg8 {α:Type}(xs:List α)(x:α):L2.atI (xs++[x]) (-1)=some x:=by
 have e:L2.ixN (xs++[x]).length (-1)=some xs.length:=by
  unfold L2.ixN
  rw[d6]
  simp
  omega
 unfold L2.atI
 rw[e]
 simp
def zlm (ρ:SE):Nat:=match ρ[3]? with
 | some (Sl.o ds)=>9 - ds.length
 | _=>0
theorem zjB {W:List Int}{o:Int}(h:o∈W):W[(W.findIdx? λy=>y == o).getD 0]?=some o:=by
 cases e:W.findIdx? λy=>y == o with
 | none =>
  have:=u1F.mp e o h
  rw[u0o]at this
  cases this
 | some j =>
  obtain⟨h1,h2,-⟩:=u2z.mp e
  show W[j]?=some o
  rw[j6 h1,u3b.mp h2]
theorem zku {E:List Tie}{P:List Int}{N B C:SE->Prop}{R:D->Prop}(hE:E.length<=1000)(hP:P.length<=8)(hsm:∀ p∈P,0<=p/\p < 8)(hf:XF P E=P)(hne:P≠[])(hd:∀ s∈E,s.1≠s.2)(hR:∀ L,Xa E L->R (.tup (L.map .int))):((zG (sIf (tOf (zj v5 (eFn YI (zb (zd 1) zv)) (eC (.int 0)))) (yj (eC .non)) zE)
 (zG (Yt 3 (yF (zb (zj ixD (zd 1) (eC (.int 0))) zv)))
 (vv (tOf (eC (.bl true))) vL 20))) [.v (.lst (E.map zc)),.v (.lst (P.map .int)),.v (.lst (P.map .int)),.no,.no]).w N B C R:=by
 obtain⟨p0,P',rfl⟩:∃ p0 P',P=p0::P':=by
  cases P with
  | nil=>exact absurd rfl hne
  | cons p P=>exact⟨p,P,rfl⟩
 refine yS (Xq (c:=false) ?_ (λz=>by cases z) (λ_=>vQ rfl ?_))
 .refine(vg (zy (x:=.int (((p0::P').map D.int).length:Int)) (y:=.int 0) (za9 (ds:=[.lst ((p0::P').map .int)]) rfl rfl) rfl rfl)).trans ?_
  rw[u6,i4,p6 (by omega)]
 obtain⟨P,hPe⟩:∃ P,p0::P'=P:=⟨_,rfl⟩
 have hp0:p0∈P:=by rw[<-hPe];exact o0
 refine zu (ρ':=[.v (.lst (E.map zc)),.v (.lst (P.map .int)),.v (.lst (P.map .int)),.o ([p0].map .int),.no]) ?_ ?_
 .rw[<-hPe]
  exact W7 (ds:=[.int p0]) (ziB (zZ (zy (x:=.lst ((p0::P').map .int)) (y:=.int 0) rfl rfl (zfX (by decide) rfl)) wl) (by show 1<=1000;decide))
 rw[hPe]at hP hsm hf
 refine Wl (fun ρ=>∃ (W:List Int) (o4:Sl),ρ=[.v (.lst (E.map zc)),.v (.lst (P.map .int)),.v (.lst (P.map .int)),.o (W.map .int),o4]/\zej E P W) zlm ?_ 20 _ ⟨[p0],_,rfl,⟨by simp,by simp,λp hp=>by rw[j8.mp hp];exact hp0,λi a b _ hb=>by simp at hb⟩⟩ (by show 9 - 1 < 20;decide)
 rintro ρ ⟨W,o4,rfl,hw⟩
 refine⟨true,rfl,λ_=>?_,λz=>by cases z⟩
 have hlen:=Vk hw.nd hw.sub
 obtain⟨W',la,hW⟩:∃ W' la,W=W'++[la]:=⟨W.dropLast,W.getLast hw.ne,(List.dropLast_concat_getLast hw.ne).symm⟩
 have hla:W.getLast?=some la:=by rw[hW,List.getLast?_append];rfl
 have hlaP:la∈P:=hw.sub la (by rw[hW];exact p7 _ o0)
 unfold vL
 obtain⟨Q,hQ⟩:∃ Q,(E.filter λs=>decide (s.1=la)&&decide (s.2∈P))=Q:=⟨_,rfl⟩
 have eo:fLC (iOf (zd 0)) b1 (yk (tOf (zj v5 (zj ixD (zd 0) (eC (.int 0))) (zj ixD (zd 4) (eUn Xw (eC (.int 1)))))) (tOf (zj inD (zj ixD (zd 0) (eC (.int 1))) (zd 2)))) (zj ixD (zd 0) (eC (.int 1))) (visG [.v (.lst (E.map zc)),.v (.lst (P.map .int)),.v (.lst (P.map .int)),.o (W.map .int),o4])=some ((Q.map λs=>s.2).map .int):=by
  rw[<-hQ,e9]
  refine Wa (c:=zc) (xs:=E) rfl hE λs _=>⟨[some (zc s)],rfl,?_,λ_=>rfl⟩
  refine zlG (vg (zy (x:=.int s.1) (y:=.int la) rfl (zy (x:=.lst (W.map .int)) (y:=.int (-1)) rfl rfl ?_) rfl)) (vg (zy (x:=.int s.2) (y:=.lst (P.map .int)) rfl rfl (zl5 _ _)))
  show L2.atI (W.map D.int) (-1)=_
  rw[hW,i6]
  exact zg8 _ _
 obtain⟨s,Q',hs⟩:∃ s Q',Q=s::Q':=by
  have h1:=hlaP
  rw[<-hf]at h1
  obtain⟨-,s,hsE,e1,e2⟩:=XT.mp h1
  have:s∈Q:=by
   rw[<-hQ,u0c,g9,d5,d5]
   exact⟨hsE,e1,e2⟩
  cases Q with
  | nil=>cases this
  | cons q Q=>exact⟨q,Q,rfl⟩
 have hsQ:s∈Q:=by rw[hs];exact o0
 rw[<-hQ,u0c,g9,d5,d5]at hsQ
 obtain⟨hsE,e1,e2⟩:=hsQ
 have hso:(la,s.2)∈E:=by rw[<-e1];exact hsE
 refine zu (ρ':=[.v (.lst (E.map zc)),.v (.lst (P.map .int)),.v (.lst (P.map .int)),.o (W.map .int),.v (.lst (.int s.2::(Q'.map λs=>s.2).map .int))]) (zfU eo (zdk _) (by rw[hs];rfl)) ?_
 have e4:∀ ρ:Ev,zd 4 ρ=some (.lst (.int s.2::(Q'.map λs=>s.2).map .int))->zj ixD (zd 4) (eC (.int 0)) ρ=some (.int s.2):=fun ρ h=>zy (x:=.lst (.int s.2::(Q'.map λs=>s.2).map .int)) (y:=.int 0) h rfl (zfX (by decide) rfl)
 refine yS (Xq (c:=decide (s.2∈W)) (vg (zy (x:=.int s.2) (y:=.lst (W.map .int)) (e4 _ rfl) rfl (zl5 _ _))) (λc=>?_) (λc=>vQ rfl ?_))
 .have c:=r6 c
  refine Zp (xo (d:=.tup ((W.drop ((W.findIdx? λy=>y == s.2).getD 0)).map .int)) ?_) (hR _ (zbD hw hP hsm hla hso (by rw[<-e1];exact hd s hsE) (zjB c)))
  refine za9 (ds:=[.lst ((W.drop ((W.findIdx? λy=>y == s.2).getD 0)).map .int)]) (zZ ?_ wl) rfl
  have ei:yo (zcO zf5 (zd 3) (zb (zj ixD (zd 4) (eC (.int 0))) zv)) (visG [.v (.lst (E.map zc)),.v (.lst (P.map .int)),.v (.lst (P.map .int)),.o (W.map .int),.v (.lst (.int s.2::(Q'.map λs=>s.2).map .int))])=some (some (((W.findIdx? λy=>y == s.2).getD 0:Nat):Int)):=by
   unfold yo zcO
   rw[zZ (e4 _ rfl) wl]
   show((zf5 (.lst (W.map .int)) (.int s.2)).bind asI).map some=_
   rw[zeQ c]
   rfl
  unfold eSl
  rw[ei]
  show some (D.lst (VU (W.map D.int) (some (((W.findIdx? λy=>y == s.2).getD 0:Nat):Int)) none))=_
  rw[zer,List.map_drop]
 .have c:=u3x c
  have hw2:=hw.more hla hso e2 c
  have hlen2:=Vk hw2.nd hw2.sub
  rw[d6,u17]at hlen2
  refine vQ (zam (ds:=W.map .int) (d:=.int s.2) (show zj ixD (zd 4) (eC (.int 0)) (visF [.v (.lst (E.map zc)),.v (.lst (P.map .int)),.v (.lst (P.map .int)),.o (W.map .int),.v (.lst (.int s.2::(Q'.map λs=>s.2).map .int))])=_ from e4 _ rfl) rfl (by rw[u6];omega)) ⟨⟨W++[s.2],.v (.lst (.int s.2::(Q'.map λs=>s.2).map .int)),by rw[i6];rfl,hw2⟩,?_⟩
  show 9 - (W.map D.int++[D.int s.2]).length < 9 - (W.map D.int).length
  rw[d6,u6,u17]
  omega
theorem zdi {E:List Tie}(hE:E.length<=1000)(h8:SmE E)(hd:∀ s∈E,s.1≠s.2):(vq [.lst (E.map zc)]=some .non/\wU E 9=[])\/∃ L,vq [.lst (E.map zc)]=some (.tup (L.map .int))/\Xa E L/\wU E 9≠[]:=by
 have key:=za5 (m:=5) (g:=Yk) (ds:=[.lst (E.map zc)]) (R:=λd=>(d=.non/\wU E 9=[])\/∃ L:List Int,d=.tup (L.map .int)/\Xa E L/\wU E 9≠[]) (ρ:=[.v (.lst (E.map zc)),.no,.no,.no,.no]) rfl ?_
 .obtain⟨d,e,⟨rfl,h⟩ | ⟨L,rfl,h⟩⟩:=key
  .exact .inl ⟨e,h⟩
  .exact .inr ⟨L,e,h⟩
 unfold Yk
 refine zfF hE h8 λP j hP hj hf=>?_
 have hsm:∀ p∈P,0<=p/\p < 8:=λp hp=>by
  rw[<-hf]at hp
  obtain⟨-,s,hs,rfl,-⟩:=XT.mp hp
  exact h8 s hs
 by_cases c:P=[]
 .subst c
  refine yS (Xq (c:=true) rfl (λ_=>Zp rfl (.inl ⟨rfl,?_⟩)) (λz=>by cases z))
  refine u2X.mpr λs hs=>?_
  have h1:=zfa E j (9 - j) s (by rw[show j+(9 - j)=9 by omega];exact hs)
  have h2:=zfK h8 j s h1
  rw[<-hP]at h2
  cases h2
 .refine zku hE (by omega) hsm hf c hd λL hL=>.inr ⟨L,rfl,hL,?_⟩
  obtain⟨p,hp⟩:=List.exists_mem_of_ne_nil _ c
  have h1:=hp
  rw[<-hf]at h1
  obtain⟨-,s,hs,rfl,h2⟩:=XT.mp h1
  intro e
  have:=zgX hf 9 s hs hp h2
  rw[e]at this
  cases this
theorem zcV (T:Txt K mg ad):xz P w K mg base CX0 2 ad.f_ring_of ad.e_ring_of ["steps"] (@spD ⟨K⟩ 1 vq):=by
 letI:KK:=⟨K⟩
 have G_led_on:=zfY (P:=P) (w:=w) (base:=base) T
 refine xh (N:=["steps","places","kept","way","onward"]) (ps:=["steps"]) T.d_ring_of.fn xL (g:=Yk) λcdv A outer s H E hr=>?_
 unfold Yk vK vL
 exact(ze (yA (m:=false) (i:=1) xL.nd rfl (Or.inr rfl) (ww (zds rfl rfl T.z_sorted rfl T.z_set (ww (Xe (L:=["step"]) (M:=["steps","places","kept","way","onward"]) rfl (wk (by rfl) (by rfl) (by rfl) (by with_unfolding_all rfl) (by rfl) (by rfl) (by kernel_rfl) yI) (xr (edv 0)) gs1 rb1 (λ_ _ _ _=>(zq (i:=0) zkS rfl (Or.inl rfl) (.inr rfl))) (λ_ _ _ _=>(zP (edv 0) (zf zg) (λ_ _=>rfl))))))))
  (ze (yA (m:=false) (i:=2) xL.nd rfl (Or.inl rfl) (zo G_led_on hr rfl T.d_led_on (za (edv 1) (za (edv 0) zh))))
  (ze (VQ 20 u0e (zF (zdZ hr) za7 (zB _) (edv 2) (edv 1)) (ze (yA (m:=false) (i:=1) xL.nd rfl (Or.inr rfl) (edv 2))
  (zi (yA (m:=false) (i:=2) xL.nd rfl (Or.inl rfl) (zo G_led_on hr rfl T.d_led_on (za (edv 1) (za (edv 0) zh)))))))
  (ze (yX (zF (wn hr) yU (zB _) (yu zS vM rfl T.z_len Zr (za (edv 1) zh)) (zf zg)) (zi (zw (zcD zb2))) zA)
  (ze (Xc (i:=3) xL.nd rfl (Or.inr rfl) (YV (za (zP (edv 1) (zf zg) (λ_ _=>rfl)) zh)))
  (zi (VQ 20 u0e (yZ (wz wD)) (ze (zgV (i:=4) (zbv (L:=["step"]) (M:=["steps","places","kept","way","onward"]) xL.nd rfl (Or.inl rfl) rfl (wk (by rfl) (by rfl) (by rfl) (by with_unfolding_all rfl) (by rfl) (by rfl) (by kernel_rfl) (all_cons rfl (all_cons rfl yI))) (xr (edv 0)) gs1 rb1 (λ_ _ _ _=>(zq (i:=0) zkS rfl (Or.inl rfl) (.inr rfl))) (λ_ _ _ _=>(zcw (W6 (zF (wn hr) yU (zB _) (zP (edv 0) (zf zg) (λ_ _=>rfl)) (zP (edv 4) (zll (zf zg)) (λ_ _=>rfl))) (Z1 (zF (VZ hr) VV (by with_unfolding_all rfl) (zP (edv 0) (zf zg) (λ_ _=>rfl)) (edv 2)))))) (λ_ _ _ _=>(zP (edv 0) (zf zg) (λ_ _=>rfl)))))
  (ze (yX (zF (VZ hr) VV (by with_unfolding_all rfl) (zP (edv 4) (zf zg) (λ_ _=>rfl)) (edv 3)) (zi (zw (xZ zV xW rfl T.z_tuple zT (za (xM (edv 3) (w8 (VA (edv 3) (za (zP (edv 4) (zf zg) (λ_ _=>rfl)) zh) (λa b=>Wd u0m u1X u2G (Wu hr) a b))) vm) zh)))) zA)
  (zi (XM (m:=false) (pv 3) (zP (edv 4) (zf zg) (λ_ _=>rfl)) (λa b=>Wd u0m u0T u0U wK a b))))))))))))
def tdl (r:TR)(x:Int):Int:=(if x=r.2.1 then r.2.2 else 0) - (if x=r.1 then 2*r.2.2 else 0)
def tsd (R:List TR)(x:Int):Int:=(R.map λr=>tdl r x).sum
theorem xP (r:TR)(R:List TR)(x:Int):tsd (r::R) x=tdl r x+tsd R x:=rfl
theorem zjx (R S:List TR)(x:Int):tsd (R++S) x=tsd R x+tsd S x:=by
 unfold tsd
 rw[i6,List.sum_append]
theorem zgy {R S:List TR}(h:R.Perm S)(x:Int):tsd R x=tsd S x:=by
 induction h with
 | nil=>rfl
 | cons r _ ih=>rw[xP,xP,ih]
 | swap a b l=>rw[xP,xP,xP,xP];omega
 | trans _ _ h1 h2=>rw[h1,h2]
theorem zk8 {g:List Int}{m:Int}{r:TR}{x:Int}(hg:(g.length:Int)=m)(hr:zl6 m r)(hx:0<=x):vAt (Ya g r) x=vAt g x+tdl r x:=by
 obtain⟨a,b,n⟩:=r
 obtain⟨p1,p2,p3,p4,p5⟩:=hr
 dsimp only at p1 p2 p3 p4 p5
 rw[wL hg p1 p2 p3 hx]
 show _=vAt g x+((if x=b then n else 0) - (if x=a then 2*n else 0))
 by_cases c:x=b
 .subst c
  rw[t7 rfl,t7 rfl,j7 (λe=>p3 e.symm)]
  omega
 .rw[j7 c,j7 c]
  by_cases d:x=a
  .subst d
   rw[t7 rfl,t7 rfl]
   omega
  .rw[j7 d,j7 d]
   omega
theorem VY (R:List TR):∀ g:List Int,(Yr g R).length=g.length:=by
 induction R with
 | nil=>intro g;rfl
 | cons r R ih=>intro g;show(Yr (Ya g r) R).length=_;rw[ih,zU]
theorem zh1 {m x:Int}(hx:0<=x):∀ (R:List TR) (g:List Int),(g.length:Int)=m->(∀ r∈R,zl6 m r)->vAt (Yr g R) x=vAt g x+tsd R x:=by
 intro R
 induction R with
 | nil=>intro g _ _;show vAt g x=vAt g x+0;omega
 | cons r R ih =>
  intro g hg hr
  show vAt (Yr (Ya g r) R) x=_
  rw[ih (Ya g r) (by rw[zU];exact hg) (λq hq=>hr q (d9 _ hq)),zk8 hg (hr r o0) hx,xP]
  omega
def zlY (R:List TR):List Tie:=R.flatMap λr=>List.replicate r.2.2.toNat (trP r)
theorem zle {m:Int}{ts:List Tie}(ok:vG m ts):xn [ye m ts]=some .non:=by
 have hw:YU (ye m ts)=true:=(Z0 _).mpr ⟨_,_,rfl,ok⟩
 simp only[xn]
 rw[t7 hw]
theorem zia {ρ:Ev}{i:Nat}{rs:List TR}(h:zd i ρ=some (.tup (rs.map trD)))(hl:rs.length<=1000):yT (fLC (iOf (zd i)) b1 yc (eSl slD (zd 0) yD (yo (eC (.int 2))))) ρ=some (.lst ((rs.map trP).map zc)):=by
 rw[e9]
 exact wg (W4 (c:=trD) (xs:=rs) (V6 h rfl) hl λr _=>⟨[some (trD r)],rfl,rfl,rfl⟩)
def xI:SE->Ctl :=
 (zG (xc false 3 (yT (fLC (iOf (zd 1)) b2 yc (zd 0))))
  (xc false 1 (yT (fLC (iOf (zd 1)) b2 (tOf (zj inD (zd 1) (zd 5))) (vU (zb (zd 0) (zb (zd 1) zv)))))))
def xq:SE->Ctl :=
 (zG (xc false 1 (yT (fLC (iOf (zd 0)) b1 yc (eSl slD (zd 0) yD (yo (eC (.int 2)))))))
  (zG (yV YQ (zb (eC (.int 9)) zv) (zL 2) xI)
  (yj (zj zf2 (zd 1) (yT (yF zv))))))
def yf:List D->Option D:=fnD 4 xq
theorem zkP (l:List Tie):zf2 (.lst (l.map zc)) (.lst [])=some (.bl (!decide (l=[]))):=by
 have hk:okE 20 (.lst (l.map zc))=true:=by
  show(l.map zc).all (okE 19)=true
  rw[u1R,u0k]
  exact λt _=>rfl
 show(if (okE 20 (.lst (l.map zc))&&true)=true then _ else none)=_
 rw[hk,t7 (show(true&&true)=true from rfl)]
 cases l <;> rfl
theorem zgq (E:List Tie)(n:Nat):(wU E n).length<=E.length:=by
 induction n with
 | zero=>exact t5 _
 | succ n ih=>exact b9 (u1b _ _) ih
theorem Wv {rs:List TR}(hl:rs.length<=1000):yf [.tup (rs.map trD)]=some (.bl (!decide (wU (rs.map trP) 9=[]))):=by
 refine VT (ρ:=[.v (.tup (rs.map trD)),.no,.no,.no]) rfl ?_
 unfold xq
 refine zu (ρ':=[.v (.tup (rs.map trD)),.v (.lst ((rs.map trP).map zc)),.no,.no]) (zdm (zia rfl hl)) ?_
 obtain⟨E,hE⟩:∃ E,rs.map trP=E:=⟨_,rfl⟩
 have hEl:E.length<=1000:=by rw[<-hE,u6];exact hl
 rw[hE]
 refine yS (WS (lo:=0) (c:=9) (λi ρ=>∃ o2 o3:Sl,ρ=[.v (.tup (rs.map trD)),.v (.lst ((wU E i).map zc)),o2,o3]) (show YQ [.int 9]=some (Xm 0 9)from vC (by decide) (by decide)) ⟨_,_,rfl⟩ ?_ ?_)
 .rintro i ρ hi ⟨o2,o3,rfl⟩
  refine⟨[.v (.tup (rs.map trD)),.v (.lst ((wU E i).map zc)),.v (.int ((0:Int)+(i:Int))),o3],rfl,?_⟩
  unfold xI
  have hcl:(wU E i).length<=1000:=b9 (zgq E i) hEl
  have e3:yT (fLC (iOf (zd 1)) b2 yc (zd 0)) (visF [.v (.tup (rs.map trD)),.v (.lst ((wU E i).map zc)),.v (.int ((0:Int)+(i:Int))),o3])=some (.lst (((wU E i).map λq=>q.1).map .int)):=by
   rw[e9]
   exact wg (W4 (c:=zc) (xs:=wU E i) rfl hcl λs _=>⟨[some (.int s.1),some (.int s.2)],rfl,rfl,rfl⟩)
  refine zu (ρ':=[.v (.tup (rs.map trD)),.v (.lst ((wU E i).map zc)),.v (.int ((0:Int)+(i:Int))),.v (.lst (((wU E i).map λq=>q.1).map .int))]) (zdm e3) ?_
  have e1:yT (fLC (iOf (zd 1)) b2 (tOf (zj inD (zd 1) (zd 5))) (vU (zb (zd 0) (zb (zd 1) zv)))) (visF [.v (.tup (rs.map trD)),.v (.lst ((wU E i).map zc)),.v (.int ((0:Int)+(i:Int))),.v (.lst (((wU E i).map λq=>q.1).map .int))])=some (.lst ((wU E (i+1)).map zc)):=by
   refine wg (Wa (c:=zc) (xs:=wU E i) rfl hcl λs _=>⟨[some (.int s.1),some (.int s.2)],rfl,?_,λ_=>rfl⟩)
   exact vg (zy (x:=.int s.2) (y:=.lst (((wU E i).map λq=>q.1).map .int)) rfl rfl (zl5 _ _))
  exact vQ (zdm e1) ⟨_,_,rfl⟩
 .rintro ρ ⟨o2,o3,rfl⟩
  exact Zp (xo (zy (x:=.lst ((wU E 9).map zc)) (y:=.lst []) rfl rfl (zkP _))) rfl
theorem Xu (T:Txt K mg ad):xz P w K mg base CX0 1 ad.f__law_has_ring ad.e__law_has_ring ["tally"] (@spD ⟨K⟩ 1 yf):=by
 letI:KK:=⟨K⟩
 refine xh (N:=["tally","left","turn","tails"]) (ps:=["tally"]) T.d__law_has_ring.fn yB (g:=xq) λcdv A outer s H E hr=>?_
 unfold xq xI
 exact(ze (za1 (m:=false) (i:=1) (zjk (L:=["row"]) (M:=["tally","left","turn","tails"]) yB.nd rfl (Or.inl rfl) rfl (wk (by rfl) (by rfl) (by rfl) (by with_unfolding_all rfl) (by rfl) (by rfl) (by kernel_rfl) yI) (xr (edv 0)) gs1 rb1 (λ_ _ _ _=>(zq (i:=0) zmD rfl (Or.inl rfl) (.inr rfl))) (λ_ _ _ _=>(xM (edv 0) vm (w8 (zf zg))))))
  (ze (Zy u0e rfl rfl T.z_range (za (zf zg) zh) (zK (zq (i:=2) yB.nd rfl (Or.inl rfl))) (ze (yA (m:=false) (i:=3) yB.nd rfl (Or.inr rfl) (ww (Xe (L:=["a","b"]) (M:=["tally","left","turn","tails"]) rfl (wk (by rfl) (by rfl) (by rfl) (by with_unfolding_all rfl) (by rfl) (by rfl) (by kernel_rfl) yI) (xr (edv 1)) gs2 rb2 (λ_ _ _ _=>(V9 rfl (wt (zq (i:=0) zgU rfl (Or.inl rfl) (.inr rfl)) (wt (zq (i:=1) zgU rfl (Or.inl rfl) (.inr rfl)) XV)))) (λ_ _ _ _=>(edv 0)))))
  (zi (za1 (m:=false) (i:=1) (zbv (L:=["a","b"]) (M:=["tally","left","turn","tails"]) yB.nd rfl (Or.inl rfl) rfl (wk (by rfl) (by rfl) (by rfl) (by with_unfolding_all rfl) (by rfl) (by rfl) (by kernel_rfl) (all_cons rfl yI)) (xr (edv 1)) gs2 rb2 (λ_ _ _ _=>(V9 rfl (wt (zq (i:=0) zgU rfl (Or.inl rfl) (.inr rfl)) (wt (zq (i:=1) zgU rfl (Or.inl rfl) (.inr rfl)) XV)))) (λ_ _ _ _=>(zF (VZ hr) VV (by with_unfolding_all rfl) (edv 1) (edv 5))) (λ_ _ _ _=>(YY (za (edv 0) (za (edv 1) zh)))))))))
  (zi (zw (Zl (zdZ hr) za7 (zB _) (edv 1) (ww (YV zh)))))))
abbrev Tm:=List (Tie × Int)
def tkK (s:Tie):List Key:=[.inl s.1,.inl s.2]
theorem zdM {s u:Tie}(h:tkK s=tkK u):s=u:=by
 unfold tkK at h
 injection h with h1 h2
 injection h2 with h2 _
 exact u2E (Sum.inl.inj h1) (Sum.inl.inj h2)
def tmK (T:Tm):List (List Key):=T.map λe=>tkK e.1
def tmV (T:Tm):List D:=T.map λe=>.int e.2
def Z6:Tm->Tie->Option Int
 | [],_=>none
 | e::T,s=>if e.1=s then some e.2 else Z6 T s
def tv (T:Tm)(s:Tie):Int:=(Z6 T s).getD 0
def zf4 (T:Tm)(s:Tie)(n:Int):Tm:=T.map λe=>if e.1=s then (e.1,n)else e
def WX (T:Tm)(s:Tie)(n:Int):Tm:=if (Z6 T s).isSome=true then zf4 T s n else T++[(s,n)]
theorem zbd (s:Tie):∀ T:Tm,Vz (tmK T) (tmV T) (tkK s)=(Z6 T s).map .int
 | []=>rfl
 | e::T=>by
  refine Ww.trans ?_
  show(if tkK e.1=tkK s then some (D.int e.2)else Vz (tmK T) (tmV T) (tkK s))=(if e.1=s then some e.2 else Z6 T s).map D.int
  by_cases h:e.1=s
  .rw[t7 h,t7 (by rw[h])];rfl
  .rw[j7 h,j7 (λz=>h (zdM z)),zbd s T]
theorem zdW (s:Tie)(n:Int):∀ T:Tm,zjT (tmK T) (tmV T) (tkK s) (.int n)=tmV (zf4 T s n)
 | []=>rfl
 | e::T=>by
  show(@ite _ (tkK e.1=tkK s) (zcj (tkK e.1) (tkK s)) (D.int n) (D.int e.2))::zjT (tmK T) (tmV T) (tkK s) (.int n)=D.int (if e.1=s then (e.1,n)else e).2::tmV (zf4 T s n)
  rw[zdW s n T]
  congr 1
  by_cases h:e.1=s
  .rw[t7 h,t7 (by rw[h])]
  .rw[j7 h,j7 (λz=>h (zdM z))]
theorem Zx (s:Tie)(n:Int)(T:Tm):(zf4 T s n).map (·.1)=T.map (·.1):=by
 unfold zf4
 rw[e9]
 refine u0H λe _=>?_
 show(if e.1=s then (e.1,n)else e).1=e.1
 split <;> rfl
theorem zgB {T U:Tm}(h:T.map (·.1)=U.map (·.1)):tmK T=tmK U:=by
 have e:∀ T:Tm,tmK T=(T.map (·.1)).map tkK:=λT=>by unfold tmK;rw[e9];rfl
 rw[e,e,h]
theorem zfw {m:Bool}{i:Nat}{fk fe:Ev->Option D}{ρ ρ':SE}{T:Tm}{s:Tie}{n:Int}(h1:vEv m fe ρ=some (.int n))(h2:fk (visG ρ)=some (zc s))(h3:ρ[i]?=some (.m true (tmK T) (tmV T)))(h5:T.length<=1000)
 (h6:ρ.set i (.m true (tmK (WX T s n)) (tmV (WX T s n)))=ρ'):zc6 m i fk fe ρ=.nx ρ':=by
 have hz:T.length < sizeLine:=by rw[u1i];omega
 have e:zjP ρ i (zc s) (.int n)=some ρ':=by
  unfold zjP
  rw[h3]
  show(some (tkK s)).bind (λk=>if decide ((tmK T).length < sizeLine)=true then some (ρ.set i (.m true (zc0 (tmK T) (tmV T) k) (zdt (tmK T) (tmV T) k (.int n))))else none)=_
  rw[i7,t7 (r9 (by unfold tmK;rw[u6];exact hz)),<- h6]
  unfold zc0 zdt
  rw[zbd,Option.isSome_map]
  unfold WX
  by_cases c:(Z6 T s).isSome=true
  .rw[t7 c,t7 c,t7 c,zdW,zgB (Zx s n T)]
  .rw[j7 c,j7 c,j7 c]
   unfold tmK tmV
   rw[i6,i6]
   rfl
 unfold zc6
 rw[h1,h2]
 show(match zjP ρ i (zc s) (.int n)with | some ρ'=>Ctl.nx ρ' | none=>Ctl.no)=_
 rw[e]
theorem Wq {z:Bool}{T:Tm}{s:Tie}{n:Int}(h:Z6 T s=some n):Vv (.dct z true (tmK T) (tmV T)) (zc s)=some (.int n):=by
 show(some (tkK s)).bind (λk=>Vz (tmK T) (tmV T) k)=_
 rw[i7,zbd,h]
 rfl
theorem zbZ {s:Tie}{n:Int}:∀ {T:Tm},Z6 T s=some n->(s,n)∈T
 | [],h=>by cases h
 | e::T,h=>by
  have h:(if e.1=s then some e.2 else Z6 T s)=some n:=h
  by_cases c:e.1=s
  .rw[t7 c]at h
   cases h
   subst c
   exact .head _
  .rw[j7 c]at h
   exact .tail _ (zbZ h)
theorem wC {s:Tie}:∀ {T:Tm},s∈T.map (·.1)->(Z6 T s).isSome=true
 | [],h=>by cases h
 | e::T,h=>by
  show(if e.1=s then some e.2 else Z6 T s).isSome=true
  by_cases c:e.1=s
  .rw[t7 c];rfl
  .rw[j7 c]
   rcases j5.mp h with z | z
   .exact absurd z.symm c
   .exact wC z
theorem zft {s:Tie}{T:Tm}(h:¬ (Z6 T s).isSome=true):s∉T.map (·.1):=λz=>h (wC z)
theorem YM {e:Tie × Int}:∀ {T:Tm},(T.map (·.1)).Nodup->e∈T->Z6 T e.1=some e.2
 | [],_,h=>by cases h
 | a::T,nd,h=>by
  rw[i8,u0z]at nd
  show(if a.1=e.1 then some a.2 else Z6 T e.1)=some e.2
  rcases j5.mp h with rfl | h
  .rw[t7 rfl]
  .have hm:e.1∈T.map (·.1):=u0I h
   rw[j7 (λz:a.1=e.1=>nd.1 (by rw[z];exact hm)),YM nd.2 h]
theorem V3 {T:Tm}{s:Tie}{n:Int}(nd:(T.map (·.1)).Nodup):((WX T s n).map (·.1)).Nodup:=by
 unfold WX
 by_cases c:(Z6 T s).isSome=true
 .rw[t7 c,Zx];exact nd
 .rw[j7 c,i6]
  refine u2e.mpr ⟨nd,u0z.mpr ⟨u0i,u1G⟩,λa ha b hb z=>?_⟩
  have hb:b=s:=j8.mp hb
  subst hb z
  exact zft c ha
def zeE (e:Tie × Int):TR:=(e.1.1,e.1.2,e.2)
def tmR (T:Tm):List TR:=T.map zeE
theorem zjp (a b n k x:Int):tdl (a,b,n+k) x=tdl (a,b,n) x+tdl (a,b,k) x:=by
 unfold tdl
 dsimp only
 split <;> split <;> omega
theorem zgh (a b x:Int):tdl (a,b,0) x=0:=by
 unfold tdl
 dsimp only
 split <;> split <;> rfl
theorem zeo {s:Tie}{n x:Int}:∀ {T:Tm},(T.map (·.1)).Nodup->(Z6 T s).isSome=true->tsd (tmR (zf4 T s n)) x=tsd (tmR T) x+tdl (s.1,s.2,n - tv T s) x
 | [],_,h=>by cases h
 | a::T,nd,h=>by
  rw[i8,u0z]at nd
  have e0:tmR (zf4 (a::T) s n)=zeE (if a.1=s then (a.1,n)else a)::tmR (zf4 T s n):=rfl
  have e1:tmR (a::T)=zeE a::tmR T:=rfl
  rw[e0,e1,xP,xP]
  by_cases c:a.1=s
  .have hT:zf4 T s n=T:=by
    unfold zf4
    refine(u0H λe he=>?_).trans (u4r T)
    have hm:e.1∈T.map (·.1):=u0I he
    rw[j7 (λz:e.1=s=>nd.1 (by rw[c,<- z];exact hm))];rfl
   have hv:tv (a::T) s=a.2:=by unfold tv;show(if a.1=s then some a.2 else Z6 T s).getD 0=_;rw[t7 c];rfl
   rw[t7 c,hT,hv]
   subst c
   have:=zjp a.1.1 a.1.2 a.2 (n - a.2) x
   rw[show a.2+(n - a.2)=n by omega]at this
   show tdl (a.1.1,a.1.2,n) x+_=tdl (a.1.1,a.1.2,a.2) x+_+_
   rw[this]
   omega
  .have h2:(Z6 T s).isSome=true:=by
    have h:(if a.1=s then some a.2 else Z6 T s).isSome=true:=h
    rwa[j7 c]at h
   have hv:tv (a::T) s=tv T s:=by unfold tv;show(if a.1=s then some a.2 else Z6 T s).getD 0=_;rw[j7 c]
   rw[j7 c,zeo nd.2 h2,hv]
   omega
theorem zjC {T:Tm}{s:Tie}{n x:Int}(nd:(T.map (·.1)).Nodup):tsd (tmR (WX T s n)) x=tsd (tmR T) x+tdl (s.1,s.2,n - tv T s) x:=by
 unfold WX
 by_cases c:(Z6 T s).isSome=true
 .rw[t7 c];exact zeo nd c
 .rw[j7 c]
  have:tv T s=0:=by unfold tv;cases e:Z6 T s with
   | none=>rfl
   | some y=>rw[e]at c;exact absurd rfl c
  unfold tmR
  rw[i6,zjx,this,Int.sub_zero]
  show _+(tdl (s.1,s.2,n) x+0)=_
  rw[Int.add_zero]
def zlr:List Int->Tie
 | [a,b]=>(a,b)
 | _=>(0,0)
def zjU (e:Tie × Int):List Int:=[e.1.1,e.1.2]
def zfD (T:Tm):List Tie:=(vZ (T.map zjU)).map zlr
theorem Yu (T:Tm):(zfD T).Perm (T.map (·.1)):=by
 have:=(vX (T.map zjU)).map zlr
 rw[e9]at this
 exact this
theorem X3 {T:Tm}{l:List Int}(h:l∈vZ (T.map zjU)):∃ a b,l=[a,b]:=by
 obtain⟨e,_,rfl⟩:=b0.mp ((vX _).mem_iff.mp h)
 exact⟨_,_,rfl⟩
theorem lexP {a b c d:Int}(h:HT.lexLt [c,d] [a,b]=false)(hne:((a,b):Tie)≠(c,d)):ltP (a,b) (c,d):=by
 rw[HT.lexLt_cons]at h
 show a < c\/(a=c/\b < d)
 by_cases e:c=a
 .rw[t7 e,HT.lexLt_cons]at h
  subst e
  by_cases e2:d=b
  .subst e2;exact absurd rfl hne
  .rw[j7 e2]at h
   have:=u3x h
   exact .inr ⟨rfl,by omega⟩
 .rw[j7 e]at h
  have:=u3x h
  exact .inl (by omega)
theorem zjG {T:Tm}(nd:(T.map (·.1)).Nodup):(zfD T).Pairwise ltP:=by
 have n2:(zfD T).Nodup:=(Yu T).nodup_iff.mpr nd
 unfold zfD at n2 ⊢
 have n3:=u0Q.mp n2
 rw[u0Q]
 refine((XS (T.map zjU)).and n3).imp_of_mem λ{l k} hl hk h=>?_
 obtain⟨a,b,rfl⟩:=X3 hl
 obtain⟨c,d,rfl⟩:=X3 hk
 exact lexP h.1 h.2
theorem zcE:∀ T:Tm,zal (tmK T)=some (T.map zjU)
 | []=>rfl
 | e::T=>by
  show(match zg6 (tkK e.1)with | some (i::t)=>(zal (tmK T)).map ((i::t)::·) | _=>none)=_
  rw[zcE T]
  rfl
def ziQ (T:Tm)(s:Tie):TR:=(s.1,s.2,tv T s)
def Wx (T:Tm):List TR:=((zfD T).filter λs=>decide (0 < tv T s)).map (ziQ T)
theorem ziR {T:Tm}{z:Bool}(h:T.length < 64):zb6 [.dct z true (tmK T) (tmV T)]=some ((zfD T).map zc):=by
 show(if (tmK T).length < 64 then (zal (tmK T)).map λts=>(vZ ts).map zkg else none)=_
 rw[t7 (by unfold tmK;rw[u6];exact h),zcE]
 show some ((vZ (T.map zjU)).map zkg)=_
 congr 1
 unfold zfD
 rw[e9]
 refine u0H λl hl=>?_
 obtain⟨a,b,rfl⟩:=X3 hl
 rfl
theorem zdS {T:Tm}{s:Tie}(h:s∈zfD T):Z6 T s=some (tv T s):=by
 obtain⟨n,hn⟩:=u1o.mp (wC ((Yu T).mem_iff.mp h))
 unfold tv
 rw[hn]
 rfl
def wT:SE->Ctl :=
 (yj (eFn zM (zb (yT (fLC (iOf (yT (fFn zb6 (zb (zd 0) zv)))) b1 (tOf (zj gtD (zj Vv (zd 1) (zd 0)) (eC (.int 0)))) (vU (zb (zj ixD (zd 0) (eC (.int 0))) (zb (zj ixD (zd 0) (eC (.int 1))) (zb (zj Vv (zd 1) (zd 0)) zv)))))) zv)))
def wS:List D->Option D:=fnD 1 wT
theorem Vh {T:Tm}(h64:T.length < 64):wS [.dct true true (tmK T) (tmV T)]=some (.tup ((Wx T).map trD)):=by
 refine VT (ρ:=[.v (.dct true true (tmK T) (tmV T))]) rfl ?_
 unfold wT
 refine Zp (xo (za9 (ds:=[.lst ((Wx T).map trD)]) (zZ (wg ?_) wl) rfl)) rfl
 unfold Wx
 rw[e9]
 have hl:(zfD T).length<=1000:=by rw[(Yu T).length_eq,u6];omega
 refine Wa (c:=zc) (p:=λs=>decide (0 < tv T s)) (y:=trD ∘ ziQ T) (xs:=zfD T) ?_ hl λs hs=>⟨[some (zc s)],rfl,?_,λ_=>?_⟩
 .exact V6 (d:=.lst ((zfD T).map zc)) (wg (zhU (ds:=[.dct true true (tmK T) (tmV T)]) (zZ rfl wl) (ziR h64))) rfl
 .exact vg (zy (x:=.int (tv T s)) (y:=.int 0) (zy (x:=.dct true true (tmK T) (tmV T)) (y:=zc s) rfl rfl (Wq (zdS hs))) rfl rfl)
 .exact zh2 (ds:=[.int s.1,.int s.2,.int (tv T s)]) (zZ (zy (x:=zc s) (y:=.int 0) rfl rfl rfl) (zZ (zy (x:=zc s) (y:=.int 1) rfl rfl rfl) (zZ (zy (x:=.dct true true (tmK T) (tmV T)) (y:=zc s) rfl rfl (Wq (zdS hs))) wl))) (by show 3<=1000;decide)
theorem Vr (T:Txt K mg ad):xz P w K mg base CX0 1 ad.f_tally_from ad.e_tally_from ["times"] (@spD ⟨K⟩ 1 wS):=by
 letI:KK:=⟨K⟩
 refine xh (N:=["times"]) (ps:=["times"]) T.d_tally_from.fn VG (g:=wT) λcdv A outer s H E hr=>?_
 unfold wT
 exact(zi (zw (xZ zV xW rfl T.z_tuple zT (za (ww (zcd (L:=["step"]) (M:=["times"]) rfl (wk (by rfl) (by rfl) (by rfl) (by with_unfolding_all rfl) (by rfl) (by rfl) (by kernel_rfl) (all_cons rfl yI)) (xr (ww (zdd rfl rfl T.z_sorted (za (edv 0) zh)))) gs1 rb1 (λ_ _ _ _=>(zq (i:=0) zmV rfl (Or.inl rfl) (.inr rfl))) (λ_ _ _ _=>(zF zdb y0 (zB _) (We hr (edv 1) (edv 0) (λ_ _=>rfl)) (zf zg))) (λ_ _ _ _=>(YY (za (zP (edv 0) (zf zg) (λ_ _=>rfl)) (za (zP (edv 0) (zf zg) (λ_ _=>rfl)) (za (We hr (edv 1) (edv 0) (λ_ _=>rfl)) zh))))))) zh))))
theorem Zn {T:Tm}(nd:(T.map (·.1)).Nodup):(Wx T).Perm ((T.filter λe=>decide (0 < e.2)).map zeE):=by
 have h1:=((Yu T).filter λs=>decide (0 < tv T s)).map (ziQ T)
 refine h1.trans (List.Perm.of_eq ?_)
 rw[List.filter_map,e9]
 have hv:∀ e∈T,tv T e.1=e.2:=λe he=>by unfold tv;rw[YM nd he];rfl
 have e1:T.filter ((λs=>decide (0 < tv T s)) ∘ λe=>e.1)=T.filter λe=>decide (0 < e.2):=List.filter_congr λe he=>by
  show decide (0 < tv T e.1)=_
  rw[hv e he]
 rw[e1]
 refine u0H λe he=>?_
 show(e.1.1,e.1.2,tv T e.1)=_
 rw[hv e (u0c.mp he).1]
 rfl
theorem Vx {T:Tm}(nd:(T.map (·.1)).Nodup){r:TR}(h:r∈Wx T):∃ e∈T,0 < e.2/\zeE e=r:=by
 obtain⟨e,he,z⟩:=b0.mp ((Zn nd).mem_iff.mp h)
 obtain⟨he,h0⟩:=u0c.mp he
 exact⟨e,he,r6 h0,z⟩
theorem zcx (T:Tm):(Wx T).length<=T.length:=by
 unfold Wx
 rw[u6]
 exact b9 (u1b _ _) (by rw[(Yu T).length_eq,u6];exact t5 _)
theorem zhT {ts:List Tie}{T:Tm}(nd:(T.map (·.1)).Nodup)(hs:∀ e∈T,VS e.1.1 e.1.2∈ts/\e.2<=300)(h64:T.length < 64):vd ts (Wx T):=by
 refine⟨λr hr=>?_,?_,by have:=zcx T;omega⟩
 .obtain⟨e,he,h0,rfl⟩:=Vx nd hr
  have:=hs e he
  exact⟨this.1,by show 1<=e.2;omega,this.2⟩
 .unfold Wx
  rw[u0Q]
  exact(zjG nd).filter _
theorem zdT {x:Int}:∀ {T:Tm},(∀ e∈T,0<=e.2)->tsd ((T.filter λe=>decide (0 < e.2)).map zeE) x=tsd (tmR T) x
 | [],_=>rfl
 | e::T,h=>by
  have ih:=zdT (x:=x) (T:=T) λe he=>h e (.tail _ he)
  have e1:tmR (e::T)=zeE e::tmR T:=rfl
  rw[e1,xP,<- ih]
  by_cases c:0 < e.2
  .rw[u0y (by simpa using c)]
   rfl
  .rw[u0Z (by simpa using c)]
   have h0:e.2=0:=by have:=h e (.head _);omega
   have:tdl (zeE e) x=0:=by unfold zeE;rw[h0];exact zgh _ _ _
   omega
theorem zlJ {T:Tm}(nd:(T.map (·.1)).Nodup)(h:∀ e∈T,0<=e.2)(x:Int):tsd (Wx T) x=tsd (tmR T) x:=(zgy (Zn nd) x).trans (zdT h)
theorem vEvT {f:Ev->Option D}{ρ:SE}{d:D}(h:f (visG ρ)=some d)(hn:noL d=true):vEv true f ρ=some d:=by
 unfold vEv
 rw[t7 rfl,h,i7,t7 hn]
def rnd (L:List Int):List Tie:=L.zip (L.drop 1++L.take 1)
theorem zbQ {L:List Int}{i:Nat}(hi:i < L.length):(rnd L)[i]?=some (L.getD i 0,L.getD ((i+1) % L.length) 0):=by
 unfold rnd
 rw[u1m]
 refine⟨by rw[j6 hi,Dl.getD_at hi],?_⟩
 by_cases c:i+1 < L.length
 .rw[Nat.mod_eq_of_lt c,u0l (by rw[u0h];omega),u12,Nat.add_comm 1 i,j6 c,Dl.getD_at c]
 .have e:i+1=L.length:=by omega
  have h0:0 < L.length:=by omega
  rw[e,Nat.mod_self,u0j (by rw[u0h];omega),u0h,show i - (L.length - 1)=0 by omega,List.getElem?_take,t7 (by decide),j6 h0,Dl.getD_at h0]
theorem Vq (L:List Int):(rnd L).length=L.length:=by
 unfold rnd
 rw[List.length_zip,d6,u0h,u05]
 omega
theorem zj0 (L:List Int):(List.range L.length).map (λi:Nat=>((L.getD i 0,L.getD ((i+1) % L.length) 0):Tie))=rnd L:=by
 refine u1t λi=>?_
 by_cases c:i < L.length
 .rw[zbQ c,j4,u1V c]
  rfl
 .rw[u0g (by rw[u6,u0r];omega),u0g (by rw[Vq];omega)]
theorem zfe (L:List Int):Zm 0 (L.map .int)=(List.range L.length).map λi:Nat=>D.tup [.int (i:Int),.int (L.getD i 0)]:=by
 refine u1t λi=>?_
 rw[wM,u0u,j4]
 by_cases c:i < L.length
 .rw[j6 c,j4,u1V c]
  show some (D.tup [.int (i:Int),.int L[i]])=some (D.tup [.int (i:Int),.int (L.getD i 0)])
  rw[Dl.getD_at c]
 .rw[u0g (by omega),u0g (by rw[u6,u0r];omega)]
  rfl
def wq:SE->Ctl :=
 (yj (yT (fLC (yh (zb (zd 0) zv)) b2 yc (vU (zb (zd 1) (zb (zj ixD (zd 2) (zj yW (zj wP (zd 0) (eC (.int 1))) (eFn YI (zb (zd 2) zv)))) zv))))))
def vJ:List D->Option D:=fnD 1 wq
theorem WC {L:List Int}(h8:L.length<=8):vJ [.tup (L.map .int)]=some (.lst ((rnd L).map zc)):=by
 refine VT (ρ:=[.v (.tup (L.map .int))]) rfl ?_
 unfold wq
 refine Zp (xo (d:=.lst ((rnd L).map zc)) (wg ?_)) rfl
 rw[<-zj0,e9]
 refine W4 (c:=λi:Nat=>D.tup [.int (i:Int),.int (L.getD i 0)]) (xs:=List.range L.length) ?_ (by rw[u0r];omega) λi hi=>⟨[some (.int (i:Int)),some (.int (L.getD i 0))],rfl,rfl,?_⟩
 .show some (Zm 0 (L.map .int))=_
  rw[zfe]
 .have hi:=u1s.mp hi
  have hl:0 < (L.length:Int):=by omega
  obtain⟨j,hj⟩:∃ j:Nat,(i+1) % L.length=j:=⟨_,rfl⟩
  have hjl:j < L.length:=by rw[<-hj];exact Nat.mod_lt _ (by omega)
  have ej:((i:Int)+1) % (L.length:Int)=(j:Int):=by
   rw[<-hj]
   exact(Int.natCast_emod (i+1) L.length).symm
  refine zh2 (ds:=[.int (L.getD i 0),.int (L.getD ((i+1) % L.length) 0)]) (zZ rfl (zZ (zy (x:=.tup (L.map .int)) (y:=.int (j:Int)) rfl (zy (x:=.int ((i:Int)+1)) (y:=.int (L.length:Int)) (zy (x:=.int (i:Int)) (y:=.int 1) rfl rfl rfl) (za9 (ds:=[.tup (L.map .int)]) (zZ rfl wl) ?_) (by rw[y6 hl,ej])) ?_) wl)) (by show 2<=1000;decide)
  .show some (D.int ((L.map D.int).length:Int))=_
   rw[u6]
  .show L2.atI (L.map D.int) (j:Int)=_
   rw[zcf (by omega) (by omega),hj]
   rfl
theorem WM (T:Txt K mg ad):xz P w K mg base CX0 1 ad.f_steps_round ad.e_steps_round ["ring"] (@spD ⟨K⟩ 1 vJ):=by
 letI:KK:=⟨K⟩
 refine xh (N:=["ring"]) (ps:=["ring"]) T.d_steps_round.fn WF (g:=wq) λcdv A outer s H E hr=>?_
 unfold wq
 exact(zi (zw (ww (Xe (L:=["at","place"]) (M:=["ring"]) rfl (wk (by rfl) (by rfl) (by rfl) (by with_unfolding_all rfl) (by rfl) (by rfl) (by kernel_rfl) (all_cons rfl yI)) (XW rfl T.z_enumerate xV (za (edv 0) zh)) gs2 rb2 (λ_ _ _ _=>(V9 rfl (wt (zq (i:=0) zhH rfl (Or.inl rfl) (.inr rfl)) (wt (zq (i:=1) zhH rfl (Or.inl rfl) (.inr rfl)) XV)))) (λ_ _ _ _=>(YY (za (edv 1) (za (zP (edv 2) (xv (yO (edv 0) (zf zg)) (yu zS vM rfl T.z_len Zr (za (edv 2) zh))) (λ_ _=>rfl)) zh))))))))
def vy (T:Tm)(f:Int)(R:List Tie):Tm:=R.foldl (λT s=>WX T s (tv T s - f)) T
theorem ziz {T:Tm}{s:Tie}{n:Int}(h:s∈T.map (·.1)):WX T s n=T.map λe=>if e.1=s then (e.1,n)else e:=by
 unfold WX
 rw[t7 (wC h)]
 rfl
theorem zb1 {f:Int}:∀ {R:List Tie} {T:Tm},(T.map (·.1)).Nodup->R.Nodup->(∀ s∈R,s∈T.map (·.1))->vy T f R=T.map λe=>(e.1,if e.1∈R then e.2 - f else e.2)
 | [],T,_,_,_=>by
  refine((u0H λe _=>?_).trans (u4r T)).symm
  rw[j7 u0i]
  rfl
 | s::R,T,nd,nR,h=>by
  have hs:=h s (.head _)
  obtain⟨n1,n2⟩:=u0z.mp nR
  have hk:(WX T s (tv T s - f)).map (·.1)=T.map (·.1):=by
   unfold WX
   rw[t7 (wC hs),Zx]
  show vy (WX T s (tv T s - f)) f R=_
  rw[zb1 (V3 nd) n2 (λu hu=>by rw[hk];exact h u (.tail _ hu)),ziz hs,e9]
  refine u0H λe he=>?_
  have hv:tv T e.1=e.2:=by unfold tv;rw[YM nd he];rfl
  show((if e.1=s then (e.1,tv T s - f)else e).1,if (if e.1=s then (e.1,tv T s - f)else e).1∈R then (if e.1=s then (e.1,tv T s - f)else e).2 - f else (if e.1=s then (e.1,tv T s - f)else e).2)=_
  by_cases c:e.1=s
  .rw[t7 c]
   show(e.1,if e.1∈R then _ else tv T s - f)=_
   rw[j7 (by rw[c];exact n1),t7 (by rw[c];exact .head _),<- c,hv]
  .rw[j7 c]
   by_cases c2:e.1∈R
   .rw[t7 c2,t7 (.tail _ c2)]
   .rw[j7 c2,j7 λz=>(j5.mp z).elim c c2]
theorem Wm {f:Int}:∀ {R:List Tie} {T:Tm},(∀ s∈R,s∈T.map (·.1))->(vy T f R).map (·.1)=T.map (·.1)
 | [],_,_=>rfl
 | s::R,T,h=>by
  have hk:(WX T s (tv T s - f)).map (·.1)=T.map (·.1):=by
   unfold WX
   rw[t7 (wC (h s (.head _))),Zx]
  show(vy (WX T s (tv T s - f)) f R).map (·.1)=_
  rw[Wm λu hu=>by rw[hk];exact h u (.tail _ hu),hk]
theorem zbY {f x:Int}:∀ {R:List Tie} {T:Tm},(T.map (·.1)).Nodup->tsd (tmR (vy T f R)) x=tsd (tmR T) x+tsd (R.map λs=>((s.1,s.2,-f):TR)) x
 | [],T,_=>by show _=_+0;rw[Int.add_zero];rfl
 | s::R,T,nd=>by
  show tsd (tmR (vy (WX T s (tv T s - f)) f R)) x=_+(tdl (s.1,s.2,-f) x+tsd (R.map _) x)
  rw[zbY (V3 nd),zjC nd,show tv T s - f - tv T s=-f by omega]
  omega
theorem ze6 {f x:Int}:∀ {A B:List Int},A.length=B.length->tsd ((A.zip B).map λs=>((s.1,s.2,-f):TR)) x=2*f*(A.count x:Nat) - f*(B.count x:Nat)
 | [],[],_=>by show(0:Int)=2*f*0 - f*0;omega
 | a::A,b::B,h=>by
  have ih:=ze6 (f:=f) (x:=x) (A:=A) (B:=B) (by simpa using h)
  show tdl (a,b,-f) x+tsd ((A.zip B).map _) x=_
  rw[ih,List.count_cons,List.count_cons]
  unfold tdl
  dsimp only
  by_cases c1:x=a
  .subst c1
   by_cases c2:x=b
   .subst c2
    rw[t7 rfl,t7 rfl,t7 (u0o x),u1v,u1v,u2t,u2t]
    show _=_+2*f*1 - (_+f*1)
    omega
   .rw[j7 c2,t7 rfl,t7 (u0o x),j7 (by simpa using λz=>c2 z.symm),u1v,u1v,u2t,u2t]
    show _=_+2*f*1 - (_+f*0)
    omega
  .by_cases c2:x=b
   .subst c2
    rw[t7 rfl,j7 c1,j7 (by simpa using λz=>c1 z.symm),t7 (u0o x),u1v,u1v,u2t,u2t]
    show _=_+2*f*0 - (_+f*1)
    omega
   .rw[j7 c2,j7 c1,j7 (by simpa using λz=>c1 z.symm),j7 (by simpa using λz=>c2 z.symm),u1v,u1v,u2t,u2t]
    show _=_+2*f*0 - (_+f*0)
    omega
theorem zjt {L:List Int}{f x:Int}(hf:0<=f):0<=tsd ((rnd L).map λs=>((s.1,s.2,-f):TR)) x:=by
 unfold rnd
 have hp:(L.drop 1++L.take 1).Perm L:=List.perm_append_comm.trans (by rw[u18])
 rw[ze6 hp.length_eq.symm,hp.count_eq]
 have h0:0<=f*(L.count x:Int):=Int.mul_nonneg hf (by omega)
 have e:2*f*(L.count x:Int)=2*(f*(L.count x:Int)):=Int.mul_assoc ..
 rw[e]
 omega
theorem zfA {L:List Int}(nd:L.Nodup):(rnd L).Nodup:=by
 have e:(rnd L).map (·.1)=L:=by
  unfold rnd
  rw[List.map_fst_zip]
  rw[d6,u0h,u05]
  omega
 have:((rnd L).map (·.1)).Nodup:=by rw[e];exact nd
 exact(u0Q.mp this).imp λh z=>h (by rw[z])
theorem zbV {E:List Tie}{L:List Int}(h:Xa E L){s:Tie}(hs:s∈rnd L):s∈E:=by
 obtain⟨i,hi,e⟩:=u22.mp hs
 have e2:(rnd L)[i]?=some s:=by rw[j6 hi,e]
 unfold rnd at e2
 obtain⟨e3,e4⟩:=u1m.mp e2
 exact h.go i s.1 s.2 e3 e4
def VR (T:Tm):List Tie:=(T.filter λe=>decide (0 < e.2)).map (·.1)
theorem ZE {T:Tm}{s:Tie}(h:s∈VR T):∃ e∈T,e.1=s/\0 < e.2:=by
 obtain⟨e,he,z⟩:=b0.mp h
 obtain⟨he,h0⟩:=u0c.mp he
 exact⟨e,he,z,r6 h0⟩
theorem zb7 {g:Tie × Int->Tie × Int}:∀ {T:Tm},(∀ e∈T,0 < (g e).2->0 < e.2)->(∃ e∈T,0 < e.2/\¬ 0 < (g e).2)->((T.map g).filter λe=>decide (0 < e.2)).length < (T.filter λe=>decide (0 < e.2)).length
 | [],_,⟨_,h,_⟩=>by cases h
 | a::T,h,hx=>by
  have le:∀ {U:Tm},(∀ e∈U,0 < (g e).2->0 < e.2)->((U.map g).filter λe=>decide (0 < e.2)).length<=(U.filter λe=>decide (0 < e.2)).length:=λ{U}=>by
   induction U with
   | nil=>intro _;exact t5 _
   | cons b U ih =>
    intro hU
    have ih:=ih λe he=>hU e (.tail _ he)
    have hb:=hU b (.head _)
    rw[i8]
    by_cases c:0 < (g b).2
    .rw[u0y (by simpa using c),u0y (by simpa using hb c),i4,i4]
     omega
    .rw[u0Z (by simpa using c)]
     by_cases c2:0 < b.2
     .rw[u0y (by simpa using c2),i4];omega
     .rw[u0Z (by simpa using c2)];exact ih
  have hT:∀ e∈T,0 < (g e).2->0 < e.2:=λe he=>h e (.tail _ he)
  have ha:=h a (.head _)
  rw[i8]
  obtain⟨e,he,e1,e2⟩:=hx
  rcases j5.mp he with rfl | he
  .rw[u0Z (by simpa using e2),u0y (by simpa using e1),i4]
   have:=le hT
   omega
  .have ih:=zb7 hT ⟨e,he,e1,e2⟩
   by_cases c:0 < (g a).2
   .rw[u0y (by simpa using c),u0y (by simpa using ha c),i4,i4]
    omega
   .rw[u0Z (by simpa using c)]
    by_cases c2:0 < a.2
    .rw[u0y (by simpa using c2),i4];omega
    .rw[u0Z (by simpa using c2)];exact ih
def isP:D->Bool
 | .int n=>decide (0 < n)
 | _=>false
def muP (ρ:SE):Nat:=match ρ[2]? with
 | some (Sl.m _ _ vs)=>(vs.filter isP).length
 | _=>0
theorem zic (T:Tm):((tmV T).filter isP).length=(T.filter λe=>decide (0 < e.2)).length:=by
 unfold tmV
 rw[List.filter_map,u6]
 rfl
theorem zi6 {ns:List Int}(h:ns≠[]):zhB [.lst (ns.map .int)]=some (.int (zeb ns)):=by
 show(zjI (ns.map D.int)).bind _=_
 rw[zgI]
 cases ns with
 | nil=>exact absurd rfl h
 | cons a l=>rfl
theorem zjf {ns:List Int}(h:ns≠[]):zeb ns∈ns/\∀ x∈ns,zeb ns<=x:=by
 unfold zeb
 cases e:ns.min? with
 | none=>exact absurd (List.min?_eq_none_iff.mp e) h
 | some m=>exact List.min?_eq_some_iff.mp e
theorem zjh {ρ:Ev}{T:Tm}(nd:(T.map (·.1)).Nodup)(hl:T.length<=1000)(h2:zd 2 ρ=some (.dct true true (tmK T) (tmV T)))(h3:∀ d,zd 3 (some d::ρ)=some (.dct true true (tmK T) (tmV T))):yT (fLC (zl4 (zd 2)) b1 (tOf (zj gtD (zj Vv (zd 3) (zd 0)) (eC (.int 0)))) (zd 0)) ρ=some (.lst ((VR T).map zc)):=by
 unfold VR
 rw[e9]
 refine wg (Wa (c:=λe:Tie × Int=>zc e.1) (p:=λe=>decide (0 < e.2)) (y:=zc ∘ λe:Tie × Int=>e.1) (xs:=T) ?_ hl λe he=>⟨[some (zc e.1)],rfl,?_,λ_=>rfl⟩)
 .unfold zl4
  rw[h2,i7]
  show some ((tmK T).map (Z8 true))=_
  unfold tmK
  rw[e9]
  rfl
 .exact vg (zy (x:=.int e.2) (y:=.int 0) (zy (x:=.dct true true (tmK T) (tmV T)) (y:=zc e.1) (h3 _) rfl (Wq (YM nd he))) rfl rfl)
theorem zcl {i j:Nat}{f:Ev->Option D}{ρ ρ':SE}{t:Bool}{ks:List (List Key)}{vs:List D}{d:D}(h:ρ[i]?=some (.m t ks vs))(hf:f (visF (ρ.set i (.v (.dct true t ks vs))))=some d)(hn:noM d=true)(h2:ρ.set j (.v d)=ρ'):zc1 i j f ρ=.nx ρ':=by
 unfold zc1
 rw[h]
 dsimp only
 rw[hf]
 dsimp only
 rw[t7 hn,h2]
theorem zez (l:List Int):zi7 (l.map .int)=true:=by
 induction l with
 | nil=>rfl
 | cons a l ih=>show(true&&zi7 (l.map .int))=true;rw[ih];rfl
def RgD (E:List Tie)(d:D):Prop:=(d=.non/\wU E 9=[])\/∃ L,d=.tup (L.map .int)/\Xa E L
theorem zeX {E:List Tie}{d:D}(h:RgD E d):noM d=true:=by
 rcases h with ⟨rfl,_⟩ | ⟨L,rfl,_⟩
 .rfl
 .exact zez L
structure Y8 (ts:List Tie) (rs:List TR) (T:Tm):Prop where
 keys:T.map (·.1)=rs.map trP
 val:∀ e∈T,0<=e.2/\e.2<=300
 sd:∀ x,tsd rs x<=tsd (tmR T) x
 le:∀ e∈T,∃ r∈rs,trP r=e.1/\e.2<=r.2.2
section
variable {m:Int}{ts:List Tie}{rs:List TR}
theorem Ym (hT:vd ts rs):(rs.map trP).Nodup:=by
 refine u0Q.mpr (hT.srt.imp λ{a b} h z=>?_)
 have h:(trP a).1 < (trP b).1\/((trP a).1=(trP b).1/\(trP a).2 < (trP b).2):=h
 rw[z]at h
 omega
theorem Y8.nd (hT:vd ts rs){T:Tm}(h:Y8 ts rs T):(T.map (·.1)).Nodup:=by rw[h.keys];exact Ym hT
theorem Y8.len {T:Tm}(h:Y8 ts rs T):T.length=rs.length:=by have:=u1d List.length h.keys;rw[u6,u6]at this;exact this
theorem Y8.step (hT:vd ts rs){T:Tm}(h:Y8 ts rs T){e:Tie × Int}(he:e∈T):VS e.1.1 e.1.2∈ts:=by
 have:e.1∈rs.map trP:=by rw[<-h.keys];exact u0I he
 obtain⟨r,hr,z⟩:=b0.mp this
 rw[<-z]
 exact(hT.row r hr).1
theorem Y8.ring (ok:vG m ts)(hT:vd ts rs)(h56:rs.length<=56){T:Tm}(h:Y8 ts rs T):∃ d,vq [.lst ((VR T).map zc)]=some d/\RgD (VR T) d:=by
 have hl:(VR T).length<=1000:=by
  unfold VR
  rw[u6]
  have:=u1b (λe:Tie × Int=>decide (0 < e.2)) T
  have:=h.len
  omega
 have rng:∀ s∈VR T,(0<=s.1/\s.1 < m)/\(0<=s.2/\s.2 < m)/\s.1≠s.2:=λs hs=>by
  obtain⟨e,he,rfl,_⟩:=ZE hs
  have r:=ok.rng _ (h.step hT he)
  unfold VS at r
  dsimp only at r
  split at r <;> split at r <;> omega
 have hm:=ok.hi
 rcases zdi hl (λs hs=>by have:=rng s hs;omega) (λs hs=>(rng s hs).2.2)with ⟨e,c⟩ | ⟨L,e,R,_⟩
 .exact⟨_,e,.inl ⟨rfl,c⟩⟩
 .exact⟨_,e,.inr ⟨L,rfl,R⟩⟩
theorem Y8.out (hT:vd ts rs){T:Tm}(h:Y8 ts rs T){L:List Int}(R:Xa (VR T) L){f:Int}(h0:0 < f)(hf:∀ s∈rnd L,f<=tv T s)(hx:∃ s∈rnd L,f=tv T s) :
 Y8 ts rs (vy T f (rnd L))/\((vy T f (rnd L)).filter λe=>decide (0 < e.2)).length < (T.filter λe=>decide (0 < e.2)).length:=by
 have nd:=h.nd hT
 have hin:∀ s∈rnd L,s∈T.map (·.1):=λs hs=>by
  obtain⟨e,he,rfl,_⟩:=ZE (zbV R hs)
  exact u0I he
 have em:=zb1 (f:=f) nd (zfA R.nd) hin
 have hv:∀ e∈T,tv T e.1=e.2:=λe he=>by unfold tv;rw[YM nd he];rfl
 refine⟨⟨by rw[Wm hin];exact h.keys,λe he=>?_,λx=>?_,?_⟩,?_⟩
 .rw[em]at he
  obtain⟨a,ha,rfl⟩:=b0.mp he
  have va:=h.val a ha
  show 0<=(if a.1∈rnd L then a.2 - f else a.2)/\(if a.1∈rnd L then a.2 - f else a.2)<=300
  split
  .rename_i c
   have:=hf _ c
   rw[hv a ha]at this
   omega
  .exact va
 .rw[zbY nd]
  have:=h.sd x
  have:=zjt (L:=L) (x:=x) (Int.le_of_lt h0)
  omega
 .intro e he
  rw[em]at he
  obtain⟨a,ha,rfl⟩:=b0.mp he
  obtain⟨r,hr,e1,e2⟩:=h.le a ha
  refine⟨r,hr,e1,?_⟩
  show(if a.1∈rnd L then a.2 - f else a.2)<=_
  split <;> omega
 .rw[em]
  refine zb7 (λe he z=>?_) ?_
  .have va:=h.val e he
   have z:0 < (if e.1∈rnd L then e.2 - f else e.2):=z
   split at z <;> omega
  .obtain⟨s,hs,es⟩:=hx
   obtain⟨e,he,rfl,e0⟩:=ZE (zbV R hs)
   refine⟨e,he,e0,?_⟩
   show ¬ 0 < (if e.1∈rnd L then e.2 - f else e.2)
   rw[t7 hs,es,hv e he]
   omega
end
theorem zfR {L:List Int}{s:Tie}(h:s∈rnd L):∃ q∈rnd L,q.1=s.2:=by
 obtain⟨i,hi,e⟩:=List.mem_iff_getElem?.mp h |>.imp λi e=>(⟨by
  have:=(u9.mp e).1
  rw[Vq]at this
  exact this,e⟩:i < L.length/\(rnd L)[i]?=some s)
 rw[zbQ hi]at e
 cases e
 have hj:(i+1) % L.length < L.length:=Nat.mod_lt _ (by omega)
 exact⟨_,d8 (zbQ hj),rfl⟩
theorem zhf {E:List Tie}{L:List Int}(R:Xa E L)(z:wU E 9=[]):False:=by
 have key:∀ n s,s∈rnd L->s∈wU E n:=by
  intro n
  induction n with
  | zero=>exact λs hs=>zbV R hs
  | succ n ih =>
   intro s hs
   obtain⟨q,hq,e⟩:=zfR hs
   show s∈zj2 (wU E n)
   rw[vO]
   exact⟨ih s hs,q,ih q hq,e⟩
 have h2:=R.two
 have:(rnd L)[0]?=some _:=zbQ (L:=L) (i:=0) (by omega)
 have:=key 9 _ (d8 this)
 rw[z]at this
 cases this
def ZK:SE->Ctl :=
 (zc6 true 2 (zd 7) (zj Zi (zj Vv (zd 2) (zd 7)) (zd 6)))
def ZY:SE->Ctl :=
 (zG (xc false 5 (zr 1 vJ (zb (zd 4) zv)))
  (zG (xc true 6 (eFn zhB (zb (yT (fLC (iOf (zd 5)) b1 yc (zj Vv (zd 3) (zd 0)))) zv)))
  (zG (v7 (iOf (zd 5)) (zL 7) ZK)
  (zc1 2 4 (zr 1 vq (zb (yT (fLC (zl4 (zd 2)) b1 (tOf (zj gtD (zj Vv (zd 3) (zd 0)) (eC (.int 0)))) (zd 0))) zv))))))
def ZN:SE->Ctl :=
 (zc6 false 2 (eSl slD (zd 3) yD (yo (eC (.int 2)))) (zj ixD (zd 3) (eC (.int 2))))
def Zq:SE->Ctl :=
 (zG (ZJ (zr 1 xn (zb (zd 0) zv)))
  (zG (ZJ (zr 2 wO (zb (zd 0) (zb (zd 1) zv))))
  (zG (zji true 2)
  (zG (v7 (iOf (zd 1)) (zL 3) ZN)
  (zG (zc1 2 4 (zr 1 vq (zb (yT (fFn zb5 (zb (zd 2) zv))) zv)))
  (zG (vv (tOf (zj zN (zd 4) (eC .non))) ZY 60)
  (zmB 2 (yj (zr 1 wS (zb (zd 2) zv))))))))))
def Xx:List D->Option D:=fnD 8 Zq
theorem zeH {m:Int}{ts:List Tie}{rs:List TR}(ok:vG m ts)(hT:vd ts rs)(h56:rs.length<=56):∃ T:Tm,Xx [ye m ts,.tup (rs.map trD)]=some (.tup ((Wx T).map trD))/\Y8 ts rs T/\wU (VR T) 9=[]/\(wU (rs.map trP) 9=[]->T=rs.map λr=>(trP r,r.2.2)):=by
 have nd0:=Ym hT
 have key:=za5 (m:=8) (g:=Zq) (ds:=[ye m ts,.tup (rs.map trD)]) (R:=λd=>∃ T:Tm,d=.tup ((Wx T).map trD)/\Y8 ts rs T/\wU (VR T) 9=[]/\(wU (rs.map trP) 9=[]->T=rs.map λr=>(trP r,r.2.2))) (ρ:=[.v (ye m ts),.v (.tup (rs.map trD)),.no,.no,.no,.no,.no,.no]) rfl ?_
 .obtain⟨d,e,T,rfl,h1,h2⟩:=key
  exact⟨T,e,h1,h2⟩
 unfold Zq
 refine zu (zfr (d:=.non) (zle ok)) ?_
 refine zu (zfr (d:=.non) (WB (V8 ok hT))) ?_
 refine zu (ρ':=[.v (ye m ts),.v (.tup (rs.map trD)),.m true (tmK []) (tmV []),.no,.no,.no,.no,.no]) rfl ?_
 obtain⟨T0,hT0⟩:∃ T0:Tm,rs.map (λr=>(trP r,r.2.2))=T0:=⟨_,rfl⟩
 rw[hT0]
 have hk0:T0.map (·.1)=rs.map trP:=by rw[<-hT0,e9];rfl
 refine yS (Xk (ds:=rs.map trD) (λi ρ=>∃ o3:Sl,ρ=[.v (ye m ts),.v (.tup (rs.map trD)),.m true (tmK (T0.take i)) (tmV (T0.take i)),o3,.no,.no,.no,.no]) rfl ⟨_,rfl⟩ ?_ ?_)
 .rintro i d ρ hd ⟨o3,rfl⟩
  rw[j4]at hd
  obtain⟨r,hr,rfl⟩:=u7.mp hd
  have hi:T0[i]?=some (trP r,r.2.2):=by rw[<-hT0,j4,hr];rfl
  have hil:i < T0.length:=(u9.mp hi).1
  refine⟨[.v (ye m ts),.v (.tup (rs.map trD)),.m true (tmK (T0.take i)) (tmV (T0.take i)),.v (trD r),.no,.no,.no,.no],rfl,?_⟩
  unfold ZN
  have hl:T0.length=rs.length:=by have:=u1d List.length hk0;rw[u6,u6]at this;exact this
  have ep:WX (T0.take i) (trP r) r.2.2=T0.take (i+1):=by
   unfold WX
   rw[j7,u2f,hi]
   .rfl
   .intro z
    obtain⟨n,hn⟩:=u1o.mp z
    have hm:=zbZ hn
    have nd:(T0.map (·.1)).Nodup:=by rw[hk0];exact nd0
    rw[<-u18 i T0,i6,u2e]at nd
    refine nd.2.2 _ (u0I hm) (trP r) ?_ rfl
    refine b0.mpr ⟨(trP r,r.2.2),?_,rfl⟩
    rw[u1l hil]
    have:T0[i]=(trP r,r.2.2):=by rw[j6 hil]at hi;exact p9 hi
    rw[this]
    exact .head _
  refine vQ (zfw (T:=T0.take i) (s:=trP r) (n:=r.2.2) rfl rfl rfl (by rw[u05];omega) rfl) ⟨.v (trD r),?_⟩
  rw[ep]
  rfl
 rintro ρ ⟨o3,rfl⟩
 have hl0:T0.length=rs.length:=by have:=u1d List.length hk0;rw[u6,u6]at this;exact this
 rw[u6,<- hl0,u1Y]
 have I0:Y8 ts rs T0:=by
  refine⟨hk0,λe he=>?_,λx=>?_,?_⟩
  .rw[<-hT0]at he
   obtain⟨r,hr,rfl⟩:=b0.mp he
   have:=hT.row r hr
   exact⟨by show 0<=r.2.2;omega,this.2.2⟩
  .have:tmR T0=rs:=by
    rw[<-hT0]
    unfold tmR
    rw[e9]
    exact(u0H λr _=>rfl).trans (u4r rs)
   rw[this]
   exact u4q _
  .intro e he
   rw[<-hT0]at he
   obtain⟨r,hr,rfl⟩:=b0.mp he
   exact⟨r,hr,rfl,u4q _⟩
 have hp0:VR T0=T0.map (·.1):=by
  unfold VR
  rw[List.filter_eq_self.mpr λe he=>?_]
  rw[<-hT0]at he
  obtain⟨r,hr,rfl⟩:=b0.mp he
  have:=hT.row r hr
  exact r9 (show 0 < r.2.2 by omega)
 obtain⟨d0,ed0,hd0⟩:=I0.ring ok hT h56
 have nd:=I0.nd hT
 have el0:yT (fFn zb5 (zb (zd 2) zv)) (visF [.v (ye m ts),.v (.tup (rs.map trD)),.v (.dct true true (tmK T0) (tmV T0)),o3,.no,.no,.no,.no])=some (.lst ((VR T0).map zc)):=by
  refine wg (zhU (ds:=[.dct true true (tmK T0) (tmV T0)]) (zZ rfl wl) ?_)
  show(if (tmK T0).length<=100000 then some ((tmK T0).map (Z8 true))else none)=_
  rw[t7 (by unfold tmK;rw[u6];omega),hp0]
  unfold tmK
  rw[e9,e9]
  rfl
 refine zu (ρ':=[.v (ye m ts),.v (.tup (rs.map trD)),.m true (tmK T0) (tmV T0),o3,.v d0,.no,.no,.no]) (zcl rfl (x8 (ds:=[.lst ((VR T0).map zc)]) (zZ el0 wl) ed0) (zeX hd0) rfl) ?_
 refine yS (Wl (fun ρ=>∃ (T:Tm) (d:D) (o5 o6 o7:Sl),ρ=[.v (ye m ts),.v (.tup (rs.map trD)),.m true (tmK T) (tmV T),o3,.v d,o5,o6,o7]/\Y8 ts rs T/\RgD (VR T) d/\(wU (rs.map trP) 9=[]->T=T0)) muP ?_ 60 _ ⟨T0,d0,_,_,_,rfl,I0,hd0,λ_=>rfl⟩ ?_)
 .rintro ρ ⟨T,d,o5,o6,o7,rfl,I,hd,hS⟩
  have nd:=I.nd hT
  have hlT:=I.len
  rcases hd with ⟨rfl,hc⟩ | ⟨L,rfl,R⟩
  .refine⟨false,rfl,(λz=>by cases z),λ_=>?_⟩
   show(yj (zr 1 wS (zb (zd 2) zv)) [.v (ye m ts),.v (.tup (rs.map trD)),.v (.dct true true (tmK T) (tmV T)),o3,.v .non,o5,o6,o7]).w _ _ _ _
   exact Zp (xo (x8 (ds:=[.dct true true (tmK T) (tmV T)]) rfl (Vh (by omega)))) ⟨T,rfl,I,hc,hS⟩
  .refine⟨true,rfl,λ_=>?_,λz=>by cases z⟩
   have hin:∀ s∈rnd L,∃ e∈T,e.1=s/\0 < e.2:=λs hs=>ZE (zbV R hs)
   have htv:∀ s∈rnd L,Z6 T s=some (tv T s)/\0 < tv T s:=λs hs=>by
    obtain⟨e,he,rfl,e0⟩:=hin s hs
    have:=YM nd he
    unfold tv
    rw[this]
    exact⟨rfl,e0⟩
   have hne:(rnd L).map (tv T)≠[]:=λz=>by
    have h1:=u1d List.length z
    rw[u6,Vq]at h1
    have:=R.two
    have h1:L.length=0:=h1
    omega
   obtain⟨f,hf⟩:∃ f:Int,zeb ((rnd L).map (tv T))=f:=⟨_,rfl⟩
   obtain⟨m1,m2⟩:=zjf hne
   rw[hf]at m1 m2
   obtain⟨s0,hs0,e0⟩:=b0.mp m1
   have f0:0 < f:=by rw[<-e0];exact(htv s0 hs0).2
   have hfle:∀ s∈rnd L,f<=tv T s:=λs hs=>m2 _ (u0I hs)
   obtain⟨I2,mu2⟩:=I.out hT R f0 hfle ⟨s0,hs0,e0.symm⟩
   unfold ZY
   refine zu (ρ':=[.v (ye m ts),.v (.tup (rs.map trD)),.m true (tmK T) (tmV T),o3,.v (.tup (L.map .int)),.v (.lst ((rnd L).map zc)),o6,o7]) (zdm (x8 (ds:=[.tup (L.map .int)]) rfl (WC R.eight))) ?_
   have hrl:(rnd L).length<=8:=by rw[Vq];exact R.eight
   have em:vEv true (eFn zhB (zb (yT (fLC (iOf (zd 5)) b1 yc (zj Vv (zd 3) (zd 0)))) zv)) [.v (ye m ts),.v (.tup (rs.map trD)),.m true (tmK T) (tmV T),o3,.v (.tup (L.map .int)),.v (.lst ((rnd L).map zc)),o6,o7]=some (.int f):=by
    refine vEvT (za9 (ds:=[.lst (((rnd L).map (tv T)).map .int)]) (zZ (wg ?_) wl) (by rw[zi6 hne,hf])) rfl
    rw[e9]
    exact W4 (c:=zc) (y:=D.int ∘ tv T) (xs:=rnd L) (V6 (d:=.lst ((rnd L).map zc)) rfl rfl) (by omega) λs hs=>⟨[some (zc s)],rfl,rfl,zy (x:=.dct false true (tmK T) (tmV T)) (y:=zc s) rfl rfl (Wq (htv s hs).1)⟩
   refine zu (ρ':=[.v (ye m ts),.v (.tup (rs.map trD)),.m true (tmK T) (tmV T),o3,.v (.tup (L.map .int)),.v (.lst ((rnd L).map zc)),.v (.int f),o7]) (vW em) ?_
   refine yS (Xk (ds:=(rnd L).map zc) (λi ρ=>∃ o7:Sl,ρ=[.v (ye m ts),.v (.tup (rs.map trD)),.m true (tmK (vy T f ((rnd L).take i))) (tmV (vy T f ((rnd L).take i))),o3,.v (.tup (L.map .int)),.v (.lst ((rnd L).map zc)),.v (.int f),o7]) rfl ⟨_,rfl⟩ ?_ ?_)
   .rintro i d ρ hd ⟨o7,rfl⟩
    rw[j4]at hd
    obtain⟨s,hs,rfl⟩:=u7.mp hd
    refine⟨[.v (ye m ts),.v (.tup (rs.map trD)),.m true (tmK (vy T f ((rnd L).take i))) (tmV (vy T f ((rnd L).take i))),o3,.v (.tup (L.map .int)),.v (.lst ((rnd L).map zc)),.v (.int f),.v (zc s)],rfl,?_⟩
    have er:vy T f ((rnd L).take (i+1))=WX (vy T f ((rnd L).take i)) s (tv (vy T f ((rnd L).take i)) s - f):=by
     unfold vy
     rw[u2f,hs,List.foldl_append]
     rfl
    have hk:∀ u∈(rnd L).take i,u∈T.map (·.1):=λu hu=>by
     obtain⟨e,he,z,_⟩:=hin u (List.mem_of_mem_take hu)
     rw[<-z]
     exact u0I he
    have hkeys:=Wm (f:=f) hk
    have hlen:(vy T f ((rnd L).take i)).length=T.length:=by have:=u1d List.length hkeys;rw[u6,u6]at this;exact this
    have hsm:(Z6 (vy T f ((rnd L).take i)) s).isSome=true:=wC (by
     rw[hkeys]
     obtain⟨e,he,z,_⟩:=hin s (d8 hs)
     rw[<-z]
     exact u0I he)
    rw[er]
    generalize vy T f ((rnd L).take i)=U at hlen hsm ⊢
    have hu:Z6 U s=some (tv U s):=by
     obtain⟨n,hn⟩:=u1o.mp hsm
     unfold tv
     rw[hn]
     rfl
    unfold ZK
    exact vQ (zfw (T:=U) (s:=s) (n:=tv U s - f) (vEvT (zy (x:=.int (tv U s)) (y:=.int f) (zy (x:=.dct false true (tmK U) (tmV U)) (y:=zc s) rfl rfl (Wq hu)) rfl rfl) rfl) rfl rfl (by omega) rfl) ⟨_,rfl⟩
   .rintro ρ ⟨o7,rfl⟩
    rw[u6,u1Y]
    obtain⟨d',ed',hd'⟩:=I2.ring ok hT h56
    have nd2:=I2.nd hT
    have hl2:=I2.len
    generalize vy T f (rnd L)=U at I2 mu2 ed' hd' nd2 hl2 ⊢
    have ev:=zjh (ρ:=visF [.v (ye m ts),.v (.tup (rs.map trD)),.v (.dct true true (tmK U) (tmV U)),o3,.v (.tup (L.map .int)),.v (.lst ((rnd L).map zc)),.v (.int f),o7]) (T:=U) nd2 (by omega) rfl (λ_=>rfl)
    refine vQ (zcl rfl (x8 (ds:=[.lst ((VR U).map zc)]) (zZ ev wl) ed') (zeX hd') rfl) ⟨⟨U,d',_,_,_,rfl,I2,hd',λz=>?_⟩,?_⟩
    .exfalso
     have hS:=hS z
     rw[hS,hp0,hk0]at R
     exact zhf R z
    .show((tmV U).filter isP).length < ((tmV T).filter isP).length
     rw[zic,zic]
     exact mu2
 .show((tmV T0).filter isP).length < 60
  rw[zic]
  have:=u1b (λe:Tie × Int=>decide (0 < e.2)) T0
  omega
theorem zeS (T:Txt K mg ad):xz P w K mg base CX0 9 ad.f_leaned ad.e_leaned ["web","tally"] (@spD ⟨K⟩ 2 Xx):=by
 letI:KK:=⟨K⟩
 have G_must_be_web:=Wy (P:=P) (w:=w) (base:=base) T
 have G_must_be_tally:=Xn (P:=P) (w:=w) (base:=base) T
 have G_tally_from:=Vr (P:=P) (w:=w) (base:=base) T
 have G_ring_of:=zcV (P:=P) (w:=w) (base:=base) T
 have G_steps_round:=WM (P:=P) (w:=w) (base:=base) T
 refine xh (N:=["web","tally","times","row","ring","steps","fewest","step"]) (ps:=["web","tally"]) T.d_leaned.fn xU (g:=Zq) λcdv A outer s H E hr=>?_
 unfold Zq ZN ZY ZK
 exact(ze (zd3 (zo G_must_be_web hr rfl T.d_must_be_web (za (edv 0) zh)))
  (ze (zd3 (zo G_must_be_tally hr rfl T.d_must_be_tally (za (edv 0) (za (edv 1) zh))))
  (ze (ziX (t:=true) (i:=2) xU.nd rfl (Or.inr rfl))
  (ze (Yx u0e rfl (xr (edv 1)) (zK (zq (i:=3) xU.nd rfl (Or.inl rfl))) (zi (zdK (m:=false) hr (zP (edv 3) (zf zg) (λ_ _=>rfl)) (pv 2) (xM (edv 3) vm (w8 (zf zg))))))
  (ze (zf0 (i:=2) (j:=4) xU.nd rfl (Or.inl rfl) (zo G_ring_of hr rfl T.d_ring_of (za (ww (zgP rfl rfl T.z_list (za (edv 2) zh))) zh)))
  (ze (VQ 60 u0e (zF zfj zdg (zB _) (edv 4) (zcD zb2)) (ze (yA (m:=false) (i:=5) xU.nd rfl (Or.inl rfl) (zo G_steps_round hr rfl T.d_steps_round (za (edv 4) zh)))
  (ze (yA (m:=true) (i:=6) xU.nd rfl (Or.inl rfl) (yu (zfL rfl) zhb rfl T.z_min zfZ (za (ww (Xe (L:=["step"]) (M:=["web","tally","times","row","ring","steps","fewest","·step"]) rfl (wk (by rfl) (by rfl) (by rfl) (by with_unfolding_all rfl) (by rfl) (by rfl) (by kernel_rfl) (all_cons rfl yI)) (xr (edv 5)) gs1 rb1 (λ_ _ _ _=>(zq (i:=0) zhL rfl (Or.inl rfl) (.inr rfl))) (λ_ _ _ _=>(We hr (edv 3) (edv 0) (λ_ _=>rfl))))) zh)))
  (ze (Yx u0e rfl (xr (edv 5)) (zK (zq (i:=7) xU.nd rfl (Or.inl rfl))) (zi (zdK (m:=true) hr (WW (We hr (edv 2) (edv 7) (λ_ _=>rfl)) (edv 6)) (pv 2) (edv 7))))
  (zi (zf0 (i:=2) (j:=4) xU.nd rfl (Or.inl rfl) (zo G_ring_of hr rfl T.d_ring_of (za (ww (zcd (L:=["step"]) (M:=["web","tally","times","row","ring","steps","fewest","·step"]) rfl (wk (by rfl) (by rfl) (by rfl) (by with_unfolding_all rfl) (by rfl) (by rfl) (by kernel_rfl) (all_cons rfl yI)) (zi4 (edv 2)) gs1 rb1 (λ_ _ _ _=>(zq (i:=0) zhL rfl (Or.inl rfl) (.inr rfl))) (λ_ _ _ _=>(zF zdb y0 (zB _) (We hr (edv 3) (edv 0) (λ_ _=>rfl)) (zf zg))) (λ_ _ _ _=>(edv 0)))) zh))))))))
  (zi5 2 (zi (zw (zo G_tally_from hr rfl T.d_tally_from (za (edv 2) zh)))))))))))
def Yp:SE->Ctl :=
 (yj (Yc (eUn (zQ .int) (zd 0)) (Xp (eUn (zQ .bool) (zd 0)))))
def Xf:List D->Option D:=fnD 1 Yp
theorem VO (T:Txt K mg ad):xz P w K mg base CX0 1 ad.f__law_whole ad.e__law_whole ["found"] (@spD ⟨K⟩ 1 Xf):=by
 letI:KK:=⟨K⟩
 refine xh (N:=["found"]) (ps:=["found"]) T.d__law_whole.fn Vl (g:=Yp) λcdv A outer s H E hr=>?_
 unfold Yp
 exact(zi (zw (vt (zz .int rfl T.z_isinstance (edv 0) (zR (v:=.ty "int") rfl T.z_int zb3 rfl)) (Ys (zfG (zz .bool rfl T.z_isinstance (edv 0) (zR (v:=.ty "bool") rfl T.z_bool X1 rfl)))))))
theorem zao (E:List Tie)(n:Nat):wU E (n+1)=zj2 (wU E n):=rfl
theorem zcI {E G:List Tie}(h:∀ s,s∈E↔s∈G):∀ n s,s∈wU E n↔s∈wU G n:=by
 intro n
 induction n with
 | zero=>exact h
 | succ n ih =>
  intro s
  rw[zao,zao,vO,vO,ih]
  constructor
  .rintro⟨a,q,hq,e⟩;exact⟨a,q,(ih q).mp hq,e⟩
  .rintro⟨a,q,hq,e⟩;exact⟨a,q,(ih q).mpr hq,e⟩
theorem zgN {E G:List Tie}(h:∀ s,s∈E↔s∈G)(h9:wU E 9=[]):wU G 9=[]:=by
 refine u2X.mpr λs hs=>?_
 have:=(zcI h 9 s).mpr hs
 rw[h9]at this
 cases this
theorem zjs {T:Tm}(nd:(T.map (·.1)).Nodup)(s:Tie):s∈(Wx T).map trP↔s∈VR T:=by
 constructor
 .intro h
  obtain⟨r,hr,rfl⟩:=b0.mp h
  obtain⟨e,he,e0,rfl⟩:=Vx nd hr
  exact b0.mpr ⟨e,u0c.mpr ⟨he,r9 e0⟩,rfl⟩
 .intro h
  obtain⟨e,he,rfl,e0⟩:=ZE h
  exact b0.mpr ⟨zeE e,(Zn nd).mem_iff.mpr (b0.mpr ⟨e,u0c.mpr ⟨he,r9 e0⟩,rfl⟩),rfl⟩
theorem ziv {ts:List Tie}{rs:List TR}(hT:vd ts rs)(h:rs.length<=56):Wx (rs.map λr=>(trP r,r.2.2))=rs:=by
 obtain⟨T,hTT⟩:∃ T:Tm,rs.map (λr=>(trP r,r.2.2))=T:=⟨_,rfl⟩
 have hk:T.map (·.1)=rs.map trP:=by rw[<-hTT,e9];rfl
 have nd:(T.map (·.1)).Nodup:=by rw[hk];exact Ym hT
 have hl:T.length<=56:=by rw[<-hTT,u6];exact h
 have pos:T.filter (λe=>decide (0 < e.2))=T:=List.filter_eq_self.mpr λe he=>by
  rw[<-hTT]at he
  obtain⟨r,hr,rfl⟩:=b0.mp he
  have:=hT.row r hr
  exact r9 (show 0 < r.2.2 by omega)
 have hp:=Zn nd
 rw[pos]at hp
 have e1:T.map zeE=rs:=by
  rw[<-hTT,e9]
  exact(u0H λr _=>rfl).trans (u4r rs)
 rw[e1]at hp
 have hS:vd ts (Wx T):=zhT nd (λe he=>by
  rw[<-hTT]at he
  obtain⟨r,hr,rfl⟩:=b0.mp he
  have:=hT.row r hr
  exact⟨this.1,this.2.2⟩) (by omega)
 rw[hTT]
 refine u1K (le:=λa b=>ltP (trP a) (trP b)) (λa b _ _ h1 h2=>?_) hS.srt hT.srt hp
 unfold ltP at h1 h2
 omega
theorem zmU (s t:Tie):v5 (zc s) (zc t)=some (.bl (decide (s=t))):=by
 have e:v5 (zc s) (zc t)=some (.bl ((s.1 == t.1&&(s.2 == t.2&&true))&&true)):=rfl
 rw[e]
 congr 2
 by_cases c:s=t
 .subst c
  rw[r9 rfl,u0o,u0o]
  rfl
 .rw[p6 c]
  by_cases d:s.1=t.1
  .have:¬ s.2=t.2:=λe=>c (u2E d e)
   rw[u4j this]
   cases (s.1 == t.1) <;> rfl
  .rw[u4j d]
   rfl
theorem zjy {ts:List Tie}{rs:List TR}{r0:TR}{s:Tie}(hT:vd ts rs)(h0:r0∈rs)(e:trP r0=s):rs.filter (λq=>decide (trP q=s))=[r0]:=by
 have nd:=Ym hT
 have key:∀ l:List TR,(l.map trP).Nodup->r0∈l->l.filter (λq=>decide (trP q=s))=[r0]:=by
  intro l
  induction l with
  | nil=>intro _ h;cases h
  | cons a l ih =>
   intro hn hm
   obtain⟨n1,n2⟩:=u0z.mp hn
   rcases j5.mp hm with rfl | hm
   .rw[u0y (p:=λq=>decide (trP q=s)) (r9 e),List.filter_eq_nil_iff.mpr λq hq z=>?_]
    exact n1 (by rw[e,<- r6 z];exact u0I hq)
   .rw[u0Z (p:=λq=>decide (trP q=s)) (λz=>?_),ih n2 hm]
    exact n1 (by rw[r6 z,<- e];exact u0I hm)
 exact key rs nd h0
theorem zgE:∀ (l s:List Int),zaR (l.map .int) (s.map .int)=(l.zip s).map zc:=by
 intro l
 induction l with
 | nil=>intro s;rfl
 | cons a l ih =>
  intro s
  cases s with
  | nil=>rfl
  | cons b s =>
   show D.tup [.int a,.int b]::zaR (l.map .int) (s.map .int)=_
   rw[ih]
   rfl
theorem zi0 (rs:List TR):okE 5 (.tup (rs.map trD))=true:=by
 show(rs.map trD).all (okE 4)=true
 rw[u1R,u0k]
 exact λ_ _=>rfl
theorem zif (l:List Tie):okE 20 (.lst (l.map zc))=true:=by
 show(l.map zc).all (okE 19)=true
 rw[u1R,u0k]
 exact λ_ _=>rfl
theorem zhj {l:List D}(h:okE 20 (.lst l)=true):zf2 (.lst l) (.lst l)=some (.bl false):=by
 show(if (okE 20 (.lst l)&&okE 20 (.lst l))=true then some (D.bl (!eqN 20 (.lst l) (.lst l)))else none)=_
 rw[h,t7 (show(true&&true)=true from rfl),zci 20 h]
 rfl
theorem WT {t:Ev->Option Bool}{g:SE->Ctl}{ρ:SE}(e:t (visG ρ)=some false):sIf t g zE ρ=.nx ρ:=by
 unfold sIf
 rw[e]
 rfl
def VF:SE->Ctl :=
 (sIf (tOf (zj ltD (zd 10) (zd 9))) (yj (eC (.bl false))) zE)
def X5:SE->Ctl :=
 (zG (sIf (Yd (yb (tOf (eUn (zQ .tuple) (zd 7)))) (Yd (tOf (zj neD (eFn YI (zb (zd 7) zv)) (eC (.int 3)))) (yb (tOf (eFn allD (zb (yT (fLC (iOf (zd 7)) b1 yc (zr 1 Xf (zb (zd 0) zv)))) zv)))))) (yj (eC (.bl false))) zE)
  (zG (xc false 8 (yT (fLC (iOf (zd 4)) b1 (tOf (zj v5 (eSl slD (zd 0) yD (yo (eC (.int 2)))) (eSl slD (zd 8) yD (yo (eC (.int 2)))))) (zj ixD (zd 0) (eC (.int 2))))))
  (zG (sIf (Yd (tOf (zj v5 (zd 8) (yT (yF zv)))) (Yd (tOf (zj ltD (zj ixD (zd 7) (eC (.int 2))) (eC (.int 1)))) (tOf (zj gtD (zj ixD (zd 7) (eC (.int 2))) (zj ixD (zd 8) (eC (.int 0))))))) (yj (eC (.bl false))) zE)
  (YS false 6 (eSl slD (zd 7) yD (yo (eC (.int 2))))))))
def Vi:SE->Ctl :=
 (zG (xc false 2 (zr 2 we (zb (zj wP (eC (.int 2)) (zj yW (zj yn (zd 1) (eC (.int 64))) (eC (.int 6)))) (zb (zj yn (zd 1) (eC (.int 384))) zv))))
  (zG (xc false 3 (zr 3 w6 (zb (zj ixD (zd 2) (eC (.int 0))) (zb (zd 1) (zb (eC (.int 60)) zv)))))
  (zG (xc false 4 (zr 3 yM (zb (zd 2) (zb (zd 1) (zb (eC (.int 6)) zv)))))
  (zG (sIf (tOf (zj v5 (zj yW (zj yn (zd 1) (eC (.int 2))) (eC (.int 3))) (eC (.int 1)))) (xc false 4 (zr 3 wN (zb (zd 2) (zb (zd 1) (zb (eC (.int 6)) zv))))) zE)
  (zG (xc false 5 (zr 2 Xx (zb (zd 2) (zb (zd 4) zv))))
  (zG (sIf (Yd (yb (tOf (eUn (zQ .tuple) (zd 5)))) (tOf (zr 1 yf (zb (zd 5) zv)))) (yj (eC (.bl false))) zE)
  (zG (sIf (yk (yb (tOf (zr 1 yf (zb (zd 4) zv)))) (yb (tOf (zr 2 vP (zb (zd 5) (zb (zd 4) zv)))))) (yj (eC (.bl false))) zE)
  (zG (Yt 6 (yF zv))
  (zG (v7 (iOf (zd 5)) (zL 7) X5)
  (sFz 6 (zG (sIf (tOf (zj zf2 (zd 6) (yT (fSP (zd 6))))) (yj (eC (.bl false))) zE)
  (v7 (xX (zb (zr 2 xy (zb (zd 3) (zb (zd 4) zv))) (zb (zr 2 xy (zb (zd 3) (zb (zd 5) zv))) zv))) (Zg 2 (yp (zL 9) (yp (zL 10) Zh))) VF))))))))))))
def zf8:SE->Ctl :=
 (zG (v7 (iOf (zj wP (eSl slD (zd 0) yD (yo (eC (.int 8)))) (yT (yF (zb (eC (.int 0)) (zb (eC (.int 7)) (zb (eC (.int 14)) zv))))))) (zL 1) Vi)
  (yj (eC (.bl true))))
def zlK:List D->Option D:=fnD 11 zf8
theorem ziy {s h:D}{z m:Int}{ts:List Tie}{rs R:List TR}{H:List D}{r r0:TR}{o8 o9 o10:Sl}{N B C:SE->Prop}{Rr:D->Prop}(hT:vd ts rs)(h56:rs.length<=56)(h0:r0∈rs)(e0:trP r0=trP r)(h1:1<=r.2.2)(h2:r.2.2<=r0.2.2)(hH:H.length<=900)
 (hN:N [.v s,.v (.int z),.v (ye m ts),.v h,.v (.tup (rs.map trD)),.v (.tup (R.map trD)),.o (H++[zc (trP r)]),.v (trD r),.v (.lst [.int r0.2.2]),o9,o10]) :
 (X5 [.v s,.v (.int z),.v (ye m ts),.v h,.v (.tup (rs.map trD)),.v (.tup (R.map trD)),.o H,.v (trD r),o8,o9,o10]).w N B C Rr:=by
 obtain⟨a,b,n⟩:=r
 unfold X5
 refine zu (WT rfl) ?_
 have em:yT (fLC (iOf (zd 4)) b1 (tOf (zj v5 (eSl slD (zd 0) yD (yo (eC (.int 2)))) (eSl slD (zd 8) yD (yo (eC (.int 2)))))) (zj ixD (zd 0) (eC (.int 2)))) (visF [.v s,.v (.int z),.v (ye m ts),.v h,.v (.tup (rs.map trD)),.v (.tup (R.map trD)),.o H,.v (trD (a,b,n)),o8,o9,o10])=some (.lst [.int r0.2.2]):=by
  refine wg ?_
  have e:=Wa (it:=iOf (zd 4)) (b:=b1) (t:=tOf (zj v5 (eSl slD (zd 0) yD (yo (eC (.int 2)))) (eSl slD (zd 8) yD (yo (eC (.int 2)))))) (f:=zj ixD (zd 0) (eC (.int 2))) (ρ:=visF [.v s,.v (.int z),.v (ye m ts),.v h,.v (.tup (rs.map trD)),.v (.tup (R.map trD)),.o H,.v (trD (a,b,n)),o8,o9,o10]) (c:=trD) (p:=λq=>decide (trP q=trP (a,b,n))) (y:=λq=>D.int q.2.2) (xs:=rs) rfl (by omega) λq _=>⟨[some (trD q)],rfl,vg (zy (x:=zc (trP q)) (y:=zc (trP (a,b,n))) rfl rfl (zmU _ _)),λ_=>rfl⟩
  rw[zjy hT h0 e0]at e
  exact e
 refine zu (ρ':=[.v s,.v (.int z),.v (ye m ts),.v h,.v (.tup (rs.map trD)),.v (.tup (R.map trD)),.o H,.v (trD (a,b,n)),.v (.lst [.int r0.2.2]),o9,o10]) (zdm em) ?_
 have t2:ltD (.int n) (.int 1)=some (.bl false):=by
  show some (D.bl (decide (n < 1)))=_
  rw[p6 (by have h1:1<=n:=h1;omega)]
 have t3:gtD (.int n) (.int r0.2.2)=some (.bl false):=by
  show some (D.bl (decide (n > r0.2.2)))=_
  rw[p6 (by have h2:n<=r0.2.2:=h2;omega)]
 refine zu (WT (zd7 (vg (zy (x:=.lst [.int r0.2.2]) (y:=.lst []) rfl rfl rfl)) (zd7 (vg (zy (x:=.int n) (y:=.int 1) rfl rfl t2)) (vg (zy (x:=.int n) (y:=.int r0.2.2) rfl rfl t3))))) ?_
 exact vQ (zam (ds:=H) (d:=zc (a,b)) rfl rfl (by omega)) hN
theorem zin (s:D)(z:Int)(o2 o3 o4 o5 o6 o7 o8 o9 o10:Sl)(n b:SE->Prop)(r:D->Prop)(I:SE->Prop)(hI:∀ o2 o3 o4 o5 o6 o7 o8 o9 o10,I [.v s,.v (.int z),o2,o3,o4,o5,o6,o7,o8,o9,o10]):(Vi [.v s,.v (.int z),o2,o3,o4,o5,o6,o7,o8,o9,o10]).w I b n r:=by
 obtain⟨q,hq⟩:∃ q:Int,z / 64 % 6=q:=⟨_,rfl⟩
 obtain⟨q0,q1⟩:=XA (by decide) hq
 obtain⟨m,hm⟩:∃ m:Int,2+q=m:=⟨_,rfl⟩
 obtain⟨ts,ew,ok,-⟩:=zaf (n:=m) (c:=z / 384) (by omega) (by omega)
 obtain⟨h,eh,hl,hn,hs⟩:=zcW (n:=m) (c:=z) (mo:=60) (by omega) (by omega) (by decide) (by decide)
 obtain⟨rs0,p,rank,et,⟨hT0,h056,h6⟩,er,-⟩:=zbp (c:=z) (mo:=6) ok (by decide) (by decide)
 unfold Vi
 refine zu (ρ':=[.v s,.v (.int z),.v (ye m ts),o3,o4,o5,o6,o7,o8,o9,o10]) (wB (ds:=[.int m,.int (z / 384)]) (zZ (zy (x:=.int 2) (y:=.int q) rfl (zy (x:=.int (z / 64)) (y:=.int 6) (zy (x:=.int z) (y:=.int 64) rfl rfl (Zs (by decide) (by decide))) rfl (by rw[y6 (by decide),hq])) (by rw[zH,hm])) (zZ (zy (x:=.int z) (y:=.int 384) rfl rfl (Zs (by decide) (by decide))) wl)) ew) ?_
 refine zu (ρ':=[.v s,.v (.int z),.v (ye m ts),.v (.tup (h.map .int)),o4,o5,o6,o7,o8,o9,o10]) (wB (ds:=[.int m,.int z,.int 60]) rfl eh) ?_
 refine zu (ρ':=[.v s,.v (.int z),.v (ye m ts),.v (.tup (h.map .int)),.v (.tup (rs0.map trD)),o5,o6,o7,o8,o9,o10]) (wB (ds:=[ye m ts,.int z,.int 6]) rfl et) ?_
 have rest:∀ rs:List TR,vd ts rs->rs.length<=56->((zG (xc false 5 (zr 2 Xx (zb (zd 2) (zb (zd 4) zv))))
  (zG (sIf (Yd (yb (tOf (eUn (zQ .tuple) (zd 5)))) (tOf (zr 1 yf (zb (zd 5) zv)))) (yj (eC (.bl false))) zE)
  (zG (sIf (yk (yb (tOf (zr 1 yf (zb (zd 4) zv)))) (yb (tOf (zr 2 vP (zb (zd 5) (zb (zd 4) zv)))))) (yj (eC (.bl false))) zE)
  (zG (Yt 6 (yF zv))
  (zG (v7 (iOf (zd 5)) (zL 7) X5)
  (sFz 6 (zG (sIf (tOf (zj zf2 (zd 6) (yT (fSP (zd 6))))) (yj (eC (.bl false))) zE)
  (v7 (xX (zb (zr 2 xy (zb (zd 3) (zb (zd 4) zv))) (zb (zr 2 xy (zb (zd 3) (zb (zd 5) zv))) zv))) (Zg 2 (yp (zL 9) (yp (zL 10) Zh))) VF)))))))) [.v s,.v (.int z),.v (ye m ts),.v (.tup (h.map .int)),.v (.tup (rs.map trD)),o5,o6,o7,o8,o9,o10]).w I b n r:=λrs hT h56=>by
  obtain⟨T,e3,L,h9,hS⟩:=zeH ok hT h56
  have nd:=L.nd hT
  have tl:T.length<=56:=by rw[L.len];exact h56
  have hR:vd ts (Wx T):=zhT nd (λe he=>⟨L.step hT he,(L.val e he).2⟩) (by omega)
  have hRs:∀ x,tsd rs x<=tsd (Wx T) x:=λx=>by rw[zlJ nd (λe he=>(L.val e he).1) x];exact L.sd x
  have hRl:(Wx T).length<=56:=b9 (zcx _) tl
  have hcut:wU ((Wx T).map trP) 9=[]:=zgN (λs=>(zjs nd s).symm) h9
  have hle:∀ r∈Wx T,∃ r0∈rs,trP r0=trP r/\r.2.2<=r0.2.2:=λr hr=>by
   obtain⟨e,he,e0,rfl⟩:=Vx nd hr
   obtain⟨r0,h0,a1,a2⟩:=L.le e he
   exact⟨r0,h0,a1,a2⟩
  have hsame:wU (rs.map trP) 9=[]->Wx T=rs:=λc=>by rw[hS c];exact ziv hT h56
  generalize Wx T=R at *
  have e4:=Wv (rs:=R) (by omega)
  have e5:=Wv (rs:=rs) (by omega)
  rw[r9 hcut]at e4
  refine zu (ρ':=[.v s,.v (.int z),.v (ye m ts),.v (.tup (h.map .int)),.v (.tup (rs.map trD)),.v (.tup (R.map trD)),o6,o7,o8,o9,o10]) (wB (ds:=[ye m ts,.tup (rs.map trD)]) rfl e3) ?_
  refine zu (WT (zd7 rfl (vg (x8 (ds:=[.tup (R.map trD)]) rfl e4)))) ?_
  refine zu (WT ?_) ?_
  .by_cases c:wU (rs.map trP) 9=[]
   .rw[r9 c]at e5
    refine ziV (zdA (b:=false) (vg (x8 (ds:=[.tup (rs.map trD)]) rfl e5))) (zdA (b:=true) (vg (x8 (ds:=[.tup (R.map trD),.tup (rs.map trD)]) rfl ?_)))
    rw[hsame c]
    exact zkk (zi0 rs)
   .rw[p6 c]at e5
    exact zjL (zdA (b:=true) (vg (x8 (ds:=[.tup (rs.map trD)]) rfl e5)))
  refine zu (ρ':=[.v s,.v (.int z),.v (ye m ts),.v (.tup (h.map .int)),.v (.tup (rs.map trD)),.v (.tup (R.map trD)),.o [],o7,o8,o9,o10]) rfl ?_
  refine yS (Xk (ds:=R.map trD) (λi ρ=>∃ o7 o8 o9 o10,ρ=[.v s,.v (.int z),.v (ye m ts),.v (.tup (h.map .int)),.v (.tup (rs.map trD)),.v (.tup (R.map trD)),.o (((R.take i).map trP).map zc),o7,o8,o9,o10]) rfl ⟨_,_,_,_,rfl⟩ ?_ ?_)
  .rintro i d ρ hd ⟨o7,o8,o9,o10,rfl⟩
   rw[j4]at hd
   obtain⟨r,hr,rfl⟩:=u7.mp hd
   obtain⟨r0,h0,a1,a2⟩:=hle r (d8 hr)
   refine⟨[.v s,.v (.int z),.v (ye m ts),.v (.tup (h.map .int)),.v (.tup (rs.map trD)),.v (.tup (R.map trD)),.o (((R.take i).map trP).map zc),.v (trD r),o8,o9,o10],rfl,?_⟩
   refine ziy hT h56 h0 a1 (hR.row r (d8 hr)).2.1 a2 (by rw[u6,u6,u05];omega) ⟨.v (trD r),.v (.lst [.int r0.2.2]),o9,o10,?_⟩
   have:(R.take (i+1)).map trP=(R.take i).map trP++[trP r]:=by rw[u2f,hr,i6];rfl
   rw[this,i6]
   rfl
  rintro ρ ⟨o7,o8,o9,o10,rfl⟩
  rw[u6,u1Y]
  have hsrt:(R.map trP).Pairwise ltP:=u0Q.mpr hR.srt
  have hnd:=Ym hR
  have essp:sspD (.lst ((R.map trP).map zc))=some ((R.map trP).map zc):=by
   have e:=zi2 (ts:=R.map trP) (by rw[u6];omega) (λt ht=>?_) hnd
   .rw[<-ZX (u1k (R.map trP)) (hsrt.imp λ{a b} x=>by
     unfold ltP at x
     unfold OwnSort.bltP
     exact p6 (by omega))]at e
    exact e
   .obtain⟨r,hr,rfl⟩:=b0.mp ht
    have t:=(hR.trIn ok) r hr
    obtain⟨p1,p2,p3,p4,p5⟩:=t
    have:=ok.hi
    exact r9 (show 0<=r.1/\r.1 < 8/\0<=r.2.1/\r.2.1 < 8 by omega)
  refine ziG (ρ':=[.v s,.v (.int z),.v (ye m ts),.v (.tup (h.map .int)),.v (.tup (rs.map trD)),.v (.tup (R.map trD)),.v (.lst ((R.map trP).map zc)),o7,o8,o9,o10]) rfl ?_
  have ef:∀ ρ:Ev,zd 6 ρ=some (.lst ((R.map trP).map zc))->yT (fSP (zd 6)) ρ=some (.lst ((R.map trP).map zc)):=fun ρ hv=>by
   refine wg ?_
   unfold fSP
   rw[hv]
   exact essp
  refine zu (WT (vg (zy (x:=.lst ((R.map trP).map zc)) (y:=.lst ((R.map trP).map zc)) rfl (ef _ rfl) (zhj (zif _))))) ?_
  have l1:=X7 (rs:=rs) hl ok.hi (hT.trIn ok)
  have l2:=X7 (rs:=R) hl ok.hi (hR.trIn ok)
  have z1:(Yr h rs).length=h.length:=VY _ _
  have z2:(Yr h R).length=h.length:=VY _ _
  have hge:∀ x,0<=x->vAt (Yr h rs) x<=vAt (Yr h R) x:=λx x0=>by
   rw[zh1 x0 rs h hl (hT.trIn ok),zh1 x0 R h hl (hR.trIn ok)]
   have:=hRs x
   omega
  generalize Yr h rs=A at *
  generalize Yr h R=G at *
  refine Xk (ds:=(A.zip G).map zc) (λ_ ρ=>∃ o9 o10,ρ=[.v s,.v (.int z),.v (ye m ts),.v (.tup (h.map .int)),.v (.tup (rs.map trD)),.v (.tup (R.map trD)),.v (.lst ((R.map trP).map zc)),o7,o8,o9,o10]) ?_ ⟨_,_,rfl⟩ ?_ ?_
  .unfold xX
   rw[zZ (x8 (ds:=[.tup (h.map .int),.tup (rs.map trD)]) rfl l1) (zZ (x8 (ds:=[.tup (h.map .int),.tup (R.map trD)]) rfl l2) wl)]
   show(if (A.map D.int).length<=(G.map D.int).length then some (zaR (A.map D.int) (G.map D.int))else none)=_
   rw[t7 (by rw[u6,u6];omega),zgE]
  .rintro i d ρ hd ⟨o9,o10,rfl⟩
   rw[j4]at hd
   obtain⟨⟨u,v⟩,huv,rfl⟩:=u7.mp hd
   obtain⟨hu,hv⟩:=u1m.mp huv
   obtain⟨hi1,hu⟩:=u9.mp hu
   obtain⟨hi2,hv⟩:=u9.mp hv
   have key:=hge (i:Int) (u11 i)
   unfold vAt at key
   rw[i5,Dl.getD_at hi1,Dl.getD_at hi2,hu,hv]at key
   refine⟨[.v s,.v (.int z),.v (ye m ts),.v (.tup (h.map .int)),.v (.tup (rs.map trD)),.v (.tup (R.map trD)),.v (.lst ((R.map trP).map zc)),o7,o8,.v (.int u),.v (.int v)],rfl,?_⟩
   unfold VF
   have t2:ltD (.int v) (.int u)=some (.bl false):=by
    show some (D.bl (decide (v < u)))=_
    rw[p6 (by have key:u<=v:=key;omega)]
   exact vQ (WT (vg (zy (x:=.int v) (y:=.int u) rfl rfl t2))) ⟨_,_,rfl⟩
  .rintro ρ ⟨o9,o10,rfl⟩
   exact hI _ _ _ _ _ _ _ _ _
 refine yS (Xq (c:=decide (z / 2 % 3=1)) (vg (zy (x:=.int (z / 2 % 3)) (y:=.int 1) (zy (x:=.int (z / 2)) (y:=.int 3) (zy (x:=.int z) (y:=.int 2) rfl rfl (Zs (by decide) (by decide))) rfl (y6 (by decide))) rfl rfl)) (λ_=>?_) λ_=>vQ rfl (rest rs0 hT0 h056))
 exact vQ (ρ':=[.v s,.v (.int z),.v (ye m ts),.v (.tup (h.map .int)),.v (.tup ((rs0.filter p).map trD)),o5,o6,o7,o8,o9,o10]) (wB (ds:=[ye m ts,.int z,.int 6]) rfl er) (rest _ (hT0.filter p) (b9 (u1b _ _) h056))
theorem zhA (ns:List Int)(h:ns.length<=63):zlK [.scr ns]=some (.bl true):=by
 refine VT (ρ:=[.v (.scr ns),.no,.no,.no,.no,.no,.no,.no,.no,.no,.no]) rfl ?_
 unfold zf8
 obtain⟨xs,hxs⟩:∃ xs:List Int,(VU ns none (some 8))++[0,7,14]=xs:=⟨_,rfl⟩
 have hl:((VU ns none (some 8)).map D.int).length+[D.int 0,.int 7,.int 14].length<=1000:=by rw[u6];have:=zg4 ns none (some 8);show _+3<=1000;omega
 refine yS (Xk (ds:=xs.map .int) (λi ρ=>∃ o1 o2 o3 o4 o5 o6 o7 o8 o9 o10,ρ=[.v (.scr ns),o1,o2,o3,o4,o5,o6,o7,o8,o9,o10]) ?_ ⟨_,_,_,_,_,_,_,_,_,_,rfl⟩ ?_ ?_)
 .refine V6 (d:=.lst (xs.map .int)) (zy (x:=.lst ((VU ns none (some 8)).map D.int)) (y:=.lst [.int 0,.int 7,.int 14]) rfl rfl ?_) rfl
  rw[zb4 hl,<- hxs,i6]
  rfl
 .rintro i d ρ hd ⟨o1,o2,o3,o4,o5,o6,o7,o8,o9,o10,rfl⟩
  rw[j4]at hd
  obtain⟨z,hz,rfl⟩:=u7.mp hd
  exact⟨_,rfl,zin _ _ _ _ _ _ _ _ _ _ _ _ _ _ _ λ_ _ _ _ _ _ _ _ _=>⟨_,_,_,_,_,_,_,_,_,_,rfl⟩⟩
 .rintro ρ ⟨o1,o2,o3,o4,o5,o6,o7,o8,o9,o10,rfl⟩
  exact Zp rfl rfl
theorem zk3 (T:Txt K mg ad):xz P w K mg base CX0 20 ad.f_law ad.e_law ["script"] (zeL K):=by
 letI:KK:=⟨K⟩
 have G_leaned:=zeS (P:=P) (w:=w) (base:=base) T
 have G__law_joined_by:=ZQ (P:=P) (w:=w) (base:=base) T
 have G__law_heap_by:=Wg (P:=P) (w:=w) (base:=base) T
 have G__law_tally_by:=v8 (P:=P) (w:=w) (base:=base) T
 have G__law_has_ring:=Xu (P:=P) (w:=w) (base:=base) T
 have G__law_whole:=VO (P:=P) (w:=w) (base:=base) T
 have G__law_left:=zai (P:=P) (w:=w) (base:=base) T
 have G__law_ringless:=Xr (P:=P) (w:=w) (base:=base) T
 have G__law_same:=zaF (P:=P) (w:=w) (base:=base) T
 refine(zkZ (p:=zlK) (xh (N:=["script","cell","web","heap","tally","found","heads","row","more","ahead","behind"]) (ps:=["script"]) T.d_law.fn v6 (g:=zf8) λcdv A outer s H E hr=>?_) zhA).mono (j:=10) (by decide)
 unfold zf8 Vi X5 VF
 exact(ze (Yx u0e rfl (xr (yO (xM (edv 0) vm (w8 (zf zg))) (ww (YV (za (zf zg) (za (zf zg) (za (zf zg) zh))))))) (zK (zq (i:=1) v6.nd rfl (Or.inl rfl))) (ze (yA (m:=false) (i:=2) v6.nd rfl (Or.inl rfl) (zo G__law_joined_by hr rfl T.d__law_joined_by (za (yO (zf zg) (xv (Ye (edv 1) (zf zg)) (zf zg))) (za (Ye (edv 1) (zf zg)) zh))))
  (ze (yA (m:=false) (i:=3) v6.nd rfl (Or.inl rfl) (zo G__law_heap_by hr rfl T.d__law_heap_by (za (zP (edv 2) (zf zg) (λ_ _=>rfl)) (za (edv 1) (za (zf zg) zh)))))
  (ze (yA (m:=false) (i:=4) v6.nd rfl (Or.inl rfl) (zo G__law_tally_by hr rfl T.d__law_tally_by (za (edv 2) (za (edv 1) (za (zf zg) zh)))))
  (ze (yX (zF (wn hr) yU (zB _) (xv (Ye (edv 1) (zf zg)) (zf zg)) (zf zg)) (zi (yA (m:=false) (i:=4) v6.nd rfl (Or.inl rfl) (zo G__law_ringless hr rfl T.d__law_ringless (za (edv 2) (za (edv 1) (za (zf zg) zh)))))) zA)
  (ze (yA (m:=false) (i:=5) v6.nd rfl (Or.inl rfl) (zo G_leaned hr rfl T.d_leaned (za (edv 2) (za (edv 4) zh))))
  (ze (yX (zcw (WL (wH (yZ (zz .tuple rfl T.z_isinstance (edv 5) (zR (v:=.ty "tuple") rfl T.z_tuple zT rfl)))) (Z9 (yZ (zo G__law_has_ring hr rfl T.d__law_has_ring (za (edv 5) zh)))))) (zi (zw (wz wD))) zA)
  (ze (yX (zcw (W6 (wH (yZ (zo G__law_has_ring hr rfl T.d__law_has_ring (za (edv 4) zh)))) (Z1 (wH (yZ (zo G__law_same hr rfl T.d__law_same (za (edv 5) (za (edv 4) zh)))))))) (zi (zw (wz wD))) zA)
  (ze (Xc (i:=6) v6.nd rfl (Or.inl rfl) (YV zh))
  (ze (Yx u0e rfl (xr (edv 5)) (zK (zq (i:=7) v6.nd rfl (Or.inr rfl))) (ze (yX (zcw (WL (wH (yZ (zz .tuple rfl T.z_isinstance (edv 7) (zR (v:=.ty "tuple") rfl T.z_tuple zT rfl)))) (WL (zF V5 Xj (zB _) (yu zS vM rfl T.z_len Zr (za (edv 7) zh)) (zf zg)) (Z9 (wH (yZ (yu (zd1 rfl) zjd rfl T.z_all zlH (za (ww (Xe (L:=["part"]) (M:=["script","cell","web","heap","tally","found","heads","row","more","ahead","behind"]) rfl (wk (by rfl) (by rfl) (by rfl) (by with_unfolding_all rfl) (by rfl) (by rfl) (by kernel_rfl) yI) (xr (edv 7)) gs1 rb1 (λ_ _ _ _=>(zq (i:=0) zlW rfl (Or.inl rfl) (.inr rfl))) (λ_ _ _ _=>(zo G__law_whole hr rfl T.d__law_whole (za (edv 0) zh))))) zh)))))))) (zi (zw (wz wD))) zA)
  (ze (za1 (m:=false) (i:=8) (zbv (L:=["other"]) (M:=["script","cell","web","heap","tally","found","heads","row","more","ahead","behind"]) v6.nd rfl (Or.inl rfl) rfl (wk (by rfl) (by rfl) (by rfl) (by with_unfolding_all rfl) (by rfl) (by rfl) (by kernel_rfl) (all_cons rfl yI)) (xr (edv 4)) gs1 rb1 (λ_ _ _ _=>(zq (i:=0) zjX rfl (Or.inl rfl) (.inr rfl))) (λ_ _ _ _=>(zF (wn hr) yU (zB _) (xM (edv 0) vm (w8 (zf zg))) (xM (edv 8) vm (w8 (zf zg))))) (λ_ _ _ _=>(zP (edv 0) (zf zg) (λ_ _=>rfl)))))
  (ze (yX (zcw (WL (zF (wn hr) yU (zB _) (edv 8) (ww (YV zh))) (WL (zF zgn y0 (zB _) (zP (edv 7) (zf zg) (λ_ _=>rfl)) (zf zg)) (Z9 (zF zdb y0 (zB _) (zP (edv 7) (zf zg) (λ_ _=>rfl)) (zP (edv 8) (zf zg) (λ_ _=>rfl))))))) (zi (zw (wz wD))) zA)
  (zi (XM (m:=false) (pv 6) (xM (edv 7) vm (w8 (zf zg))) (λa b=>Wd u0m u0T u0U wK a b)))))))
  (Wj 6 (ze (yX (zF (zdZ hr) za7 (zB _) (edv 6) (ww (zbr hr rfl T.z_sorted rfl T.z_set (edv 6)))) (zi (zw (wz wD))) zA)
  (zi (Yx u0e rfl (zhR rfl T.z_zip (za (zo G__law_left hr rfl T.d__law_left (za (edv 3) (za (edv 4) zh))) (za (zo G__law_left hr rfl T.d__law_left (za (edv 3) (za (edv 5) zh))) zh))) (Ws rfl (yq (zK (zq (i:=9) v6.nd rfl (Or.inl rfl))) (yq (zK (zq (i:=10) v6.nd rfl (Or.inl rfl))) Zd))) (zi (yX (zF zgn y0 (zB _) (edv 10) (edv 9)) (zi (zw (wz wD))) zA))))))))))))))))
  (zi (zw (wz wD))))
end
theorem zmN {us:List Value}(h:us.length=1):∃ x0,us=[x0]:=by
 cases us with
 | nil=>cases h
 | cons x0 us =>
  cases us with
  | nil=>exact⟨x0,rfl⟩
  | cons _ _=>cases h
theorem zmu {us:List Value}(h:us.length=2):∃ x0 x1,us=[x0,x1]:=by
 cases us with
 | nil=>cases h
 | cons x0 us =>
  cases us with
  | nil=>cases h
  | cons x1 us =>
   cases us with
   | nil=>exact⟨x0,x1,rfl⟩
   | cons _ _=>cases h
theorem zm1 {us:List Value}(h:us.length=3):∃ x0 x1 x2,us=[x0,x1,x2]:=by
 cases us with
 | nil=>cases h
 | cons x0 us =>
  cases us with
  | nil=>cases h
  | cons x1 us =>
   cases us with
   | nil=>cases h
   | cons x2 us =>
    cases us with
    | nil=>exact⟨x0,x1,x2,rfl⟩
    | cons _ _=>cases h
abbrev Lk (x:Str)(st:Stmt)(oc:Value)(od:Option Addr)(kV dc pm:Value)(an:Option Addr)(cd ct:Value)(sl:Array (Option Value)):Option Obj:=some ⟨oc,od,.func (W.fnOf x x (Y2 st) (vc st) (zk st) .none kV dc pm an cd ct),sl⟩
theorem mkD {K:W.Frag}{h:Heap}{mg:Str->Option Value}{x:Str}{st:Stmt}{ps:List Str}{f:Addr}{oc kV dc pm cd ct:Value}{od an:Option Addr}{sl:Array (Option Value)}(X:K.In h)(G:h.Ns mainGlobals mg)(a:W.nsIn K mainGlobals x=some (some (.ref f)))(l:K.lookup f=Lk x st oc od kV dc pm an cd ct sl)(c:W.codeIn K cd x=true)(k:W.keepIn K (.ref f)=true)
 (b:∀ (kV doc pm:Value) (an:Option Addr) (cdv ct:Value) (us:List Value),us.length=ps.length->bindArgs (W.fnOf x x (Y2 st) (vc st) (zk st) .none kV doc pm an cdv ct) ⟨us,[]⟩=pure (ps.zip us)):Def K mg x st ps f (W.fnOf x x (Y2 st) (vc st) (zk st) .none kV dc pm an cd ct):=⟨zhQ l c k,(zhQ l c k).binds b,u3S X G a⟩
theorem bn1 {F:Value->Value->Value->Option Addr->Value->Value->List Value->Prop}(h:∀ a b c d e f x0,F a b c d e f [x0]):∀ a b c d e f us,us.length=1->F a b c d e f us:=λa b c d e f us hl=>by obtain⟨x0,rfl⟩:=zmN hl;exact h a b c d e f x0
theorem bn2 {F:Value->Value->Value->Option Addr->Value->Value->List Value->Prop}(h:∀ a b c d e f x0 x1,F a b c d e f [x0,x1]):∀ a b c d e f us,us.length=2->F a b c d e f us:=λa b c d e f us hl=>by obtain⟨x0,x1,rfl⟩:=zmu hl;exact h a b c d e f x0 x1
theorem bn3 {F:Value->Value->Value->Option Addr->Value->Value->List Value->Prop}(h:∀ a b c d e f x0 x1 x2,F a b c d e f [x0,x1,x2]):∀ a b c d e f us,us.length=3->F a b c d e f us:=λa b c d e f us hl=>by obtain⟨x0,x1,x2,rfl⟩:=zm1 hl;exact h a b c d e f x0 x1 x2
theorem all_mk {l:W.OpenLaw} {w:World} {K:W.Frag} {h:Heap} {mg:Str->Option Value} {fa f0 f1 f2 f3 f4 f5 f6 f7 f8 f9 f10 f11 f12 f13 f14 f15 f16 f17 f18 f19 f20 f21 f22 f23 f24 f25 f26 f27 f28 f29:Addr} (X:K.In h) (G:h.Ns mainGlobals mg) (hfa:mg "law"=some (.ref fa))
 {od0 an0 od1 an1 od2 an2 od3 an3 od4 an4 od5 an5 od6 an6 od7 an7 od8 an8 od9 an9 od10 an10 od11 an11 od12 an12 od13 an13 od14 an14 od15 an15 od16 an16 od17 an17 od18 an18 od19 an19 od20 an20 od21 an21 od22 an22 od23 an23 od24 an24 od25 an25 od26 an26 od27 an27 od28 an28 od29 an29:Option Addr} {sl0 sl1 sl2 sl3 sl4 sl5 sl6 sl7 sl8 sl9 sl10 sl11 sl12 sl13 sl14 sl15 sl16 sl17 sl18 sl19 sl20 sl21 sl22 sl23 sl24 sl25 sl26 sl27 sl28 sl29:Array (Option Value)} {oc0 kV0 dc0 pm0 ct0 cd0 oc1 kV1 dc1 pm1 ct1 cd1 oc2 kV2 dc2 pm2 ct2 cd2 oc3 kV3 dc3 pm3 ct3 cd3 oc4 kV4 dc4 pm4 ct4 cd4 oc5 kV5 dc5 pm5 ct5 cd5 oc6 kV6 dc6 pm6 ct6 cd6 oc7 kV7 dc7 pm7 ct7 cd7 oc8 kV8 dc8 pm8 ct8 cd8 oc9 kV9 dc9 pm9 ct9 cd9 oc10 kV10 dc10 pm10 ct10 cd10 oc11 kV11 dc11 pm11 ct11 cd11 oc12 kV12 dc12 pm12 ct12 cd12 oc13 kV13 dc13 pm13 ct13 cd13 oc14 kV14 dc14 pm14 ct14 cd14 oc15 kV15 dc15 pm15 ct15 cd15 oc16 kV16 dc16 pm16 ct16 cd16 oc17 kV17 dc17 pm17 ct17 cd17 oc18 kV18 dc18 pm18 ct18 cd18 oc19 kV19 dc19 pm19 ct19 cd19 oc20 kV20 dc20 pm20 ct20 cd20 oc21 kV21 dc21 pm21 ct21 cd21 oc22 kV22 dc22 pm22 ct22 cd22 oc23 kV23 dc23 pm23 ct23 cd23 oc24 kV24 dc24 pm24 ct24 cd24 oc25 kV25 dc25 pm25 ct25 cd25 oc26 kV26 dc26 pm26 ct26 cd26 oc27 kV27 dc27 pm27 ct27 cd27 oc28 kV28 dc28 pm28 ct28 cd28 oc29 kV29 dc29 pm29 ct29 cd29:Value} {tk0:Tok} {tk1:Tok}
 (a0:W.nsIn K mainGlobals "is_whole"=some (some (.ref f0))) (l0:K.lookup f0=Lk "is_whole" Za oc0 od0 kV0 dc0 pm0 an0 cd0 ct0 sl0) (c0:W.codeIn K cd0 "is_whole"=true) (k0:W.keepIn K (.ref f0)=true)
 (a1:W.nsIn K mainGlobals "is_whole_within"=some (some (.ref f1))) (l1:K.lookup f1=Lk "is_whole_within" xj oc1 od1 kV1 dc1 pm1 an1 cd1 ct1 sl1) (c1:W.codeIn K cd1 "is_whole_within"=true) (k1:W.keepIn K (.ref f1)=true)
 (a2:W.nsIn K mainGlobals "is_place_count"=some (some (.ref f2))) (l2:K.lookup f2=Lk "is_place_count" xJ oc2 od2 kV2 dc2 pm2 an2 cd2 ct2 sl2) (c2:W.codeIn K cd2 "is_place_count"=true) (k2:W.keepIn K (.ref f2)=true)
 (a3:W.nsIn K mainGlobals "is_place"=some (some (.ref f3))) (l3:K.lookup f3=Lk "is_place" Ze oc3 od3 kV3 dc3 pm3 an3 cd3 ct3 sl3) (c3:W.codeIn K cd3 "is_place"=true) (k3:W.keepIn K (.ref f3)=true)
 (a4:W.nsIn K mainGlobals "is_pair"=some (some (.ref f4))) (l4:K.lookup f4=Lk "is_pair" ZI oc4 od4 kV4 dc4 pm4 an4 cd4 ct4 sl4) (c4:W.codeIn K cd4 "is_pair"=true) (k4:W.keepIn K (.ref f4)=true)
 (a5:W.nsIn K mainGlobals "are_ties"=some (some (.ref f5))) (l5:K.lookup f5=Lk "are_ties" Y9 oc5 od5 kV5 dc5 pm5 an5 cd5 ct5 sl5) (c5:W.codeIn K cd5 "are_ties"=true) (k5:W.keepIn K (.ref f5)=true)
 (a6:W.nsIn K mainGlobals "is_web"=some (some (.ref f6))) (l6:K.lookup f6=Lk "is_web" Wn oc6 od6 kV6 dc6 pm6 an6 cd6 ct6 sl6) (c6:W.codeIn K cd6 "is_web"=true) (k6:W.keepIn K (.ref f6)=true)
 (a7:W.nsIn K mainGlobals "must_be_web"=some (some (.ref f7))) (l7:K.lookup f7=Lk "must_be_web" vp oc7 od7 kV7 dc7 pm7 an7 cd7 ct7 sl7) (c7:W.codeIn K cd7 "must_be_web"=true) (k7:W.keepIn K (.ref f7)=true)
 (a8:W.nsIn K mainGlobals "tie_between"=some (some (.ref f8))) (l8:K.lookup f8=Lk "tie_between" vb oc8 od8 kV8 dc8 pm8 an8 cd8 ct8 sl8) (c8:W.codeIn K cd8 "tie_between"=true) (k8:W.keepIn K (.ref f8)=true)
 (a9:W.nsIn K mainGlobals "is_step"=some (some (.ref f9))) (l9:K.lookup f9=Lk "is_step" Z4 oc9 od9 kV9 dc9 pm9 an9 cd9 ct9 sl9) (c9:W.codeIn K cd9 "is_step"=true) (k9:W.keepIn K (.ref f9)=true)
 (a10:W.nsIn K mainGlobals "is_tally_row"=some (some (.ref f10))) (l10:K.lookup f10=Lk "is_tally_row" wF oc10 od10 kV10 dc10 pm10 an10 cd10 ct10 sl10) (c10:W.codeIn K cd10 "is_tally_row"=true) (k10:W.keepIn K (.ref f10)=true)
 (a11:W.nsIn K mainGlobals "are_tally_rows"=some (some (.ref f11))) (l11:K.lookup f11=Lk "are_tally_rows" xB oc11 od11 kV11 dc11 pm11 an11 cd11 ct11 sl11) (c11:W.codeIn K cd11 "are_tally_rows"=true) (k11:W.keepIn K (.ref f11)=true)
 (a12:W.nsIn K mainGlobals "must_be_tally"=some (some (.ref f12))) (l12:K.lookup f12=Lk "must_be_tally" wc oc12 od12 kV12 dc12 pm12 an12 cd12 ct12 sl12) (c12:W.codeIn K cd12 "must_be_tally"=true) (k12:W.keepIn K (.ref f12)=true)
 (a13:W.nsIn K mainGlobals "tally_from"=some (some (.ref f13))) (l13:K.lookup f13=Lk "tally_from" vS oc13 od13 kV13 dc13 pm13 an13 cd13 ct13 sl13) (c13:W.codeIn K cd13 "tally_from"=true) (k13:W.keepIn K (.ref f13)=true)
 (a14:W.nsIn K mainGlobals "led_on"=some (some (.ref f14))) (l14:K.lookup f14=Lk "led_on" X9 oc14 od14 kV14 dc14 pm14 an14 cd14 ct14 sl14) (c14:W.codeIn K cd14 "led_on"=true) (k14:W.keepIn K (.ref f14)=true)
 (a15:W.nsIn K mainGlobals "ring_of"=some (some (.ref f15))) (l15:K.lookup f15=Lk "ring_of" ZV oc15 od15 kV15 dc15 pm15 an15 cd15 ct15 sl15) (c15:W.codeIn K cd15 "ring_of"=true) (k15:W.keepIn K (.ref f15)=true)
 (a16:W.nsIn K mainGlobals "steps_round"=some (some (.ref f16))) (l16:K.lookup f16=Lk "steps_round" vh oc16 od16 kV16 dc16 pm16 an16 cd16 ct16 sl16) (c16:W.codeIn K cd16 "steps_round"=true) (k16:W.keepIn K (.ref f16)=true)
 (a17:W.nsIn K mainGlobals "leaned"=some (some (.ref f17))) (l17:K.lookup f17=Lk "leaned" XY oc17 od17 kV17 dc17 pm17 an17 cd17 ct17 sl17) (c17:W.codeIn K cd17 "leaned"=true) (k17:W.keepIn K (.ref f17)=true)
 (a18:W.nsIn K mainGlobals "_law_pairs"=some (some (.ref f18))) (l18:K.lookup f18=Lk "_law_pairs" vR oc18 od18 kV18 dc18 pm18 an18 cd18 ct18 sl18) (c18:W.codeIn K cd18 "_law_pairs"=true) (k18:W.keepIn K (.ref f18)=true)
 (a19:W.nsIn K mainGlobals "_law_stir"=some (some (.ref f19))) (l19:K.lookup f19=Lk "_law_stir" Yg oc19 od19 kV19 dc19 pm19 an19 cd19 ct19 sl19) (c19:W.codeIn K cd19 "_law_stir"=true) (k19:W.keepIn K (.ref f19)=true)
 (a20:W.nsIn K mainGlobals "_law_web_by"=some (some (.ref f20))) (l20:K.lookup f20=Lk "_law_web_by" vf oc20 od20 kV20 dc20 pm20 an20 cd20 ct20 sl20) (c20:W.codeIn K cd20 "_law_web_by"=true) (k20:W.keepIn K (.ref f20)=true)
 (a21:W.nsIn K mainGlobals "_law_joined_by"=some (some (.ref f21))) (l21:K.lookup f21=Lk "_law_joined_by" xC oc21 od21 kV21 dc21 pm21 an21 cd21 ct21 sl21) (c21:W.codeIn K cd21 "_law_joined_by"=true) (k21:W.keepIn K (.ref f21)=true)
 (a22:W.nsIn K mainGlobals "_law_heap_by"=some (some (.ref f22))) (l22:K.lookup f22=Lk "_law_heap_by" wJ oc22 od22 kV22 dc22 pm22 an22 cd22 ct22 sl22) (c22:W.codeIn K cd22 "_law_heap_by"=true) (k22:W.keepIn K (.ref f22)=true)
 (a23:W.nsIn K mainGlobals "_law_tally_by"=some (some (.ref f23))) (l23:K.lookup f23=Lk "_law_tally_by" wf oc23 od23 kV23 dc23 pm23 an23 cd23 ct23 sl23) (c23:W.codeIn K cd23 "_law_tally_by"=true) (k23:W.keepIn K (.ref f23)=true)
 (a24:W.nsIn K mainGlobals "_law_has_ring"=some (some (.ref f24))) (l24:K.lookup f24=Lk "_law_has_ring" wa oc24 od24 kV24 dc24 pm24 an24 cd24 ct24 sl24) (c24:W.codeIn K cd24 "_law_has_ring"=true) (k24:W.keepIn K (.ref f24)=true)
 (a25:W.nsIn K mainGlobals "_law_whole"=some (some (.ref f25))) (l25:K.lookup f25=Lk "_law_whole" vN oc25 od25 kV25 dc25 pm25 an25 cd25 ct25 sl25) (c25:W.codeIn K cd25 "_law_whole"=true) (k25:W.keepIn K (.ref f25)=true)
 (a26:W.nsIn K mainGlobals "_law_left"=some (some (.ref f26))) (l26:K.lookup f26=Lk "_law_left" Yj oc26 od26 kV26 dc26 pm26 an26 cd26 ct26 sl26) (c26:W.codeIn K cd26 "_law_left"=true) (k26:W.keepIn K (.ref f26)=true)
 (a27:W.nsIn K mainGlobals "_law_ringless"=some (some (.ref f27))) (l27:K.lookup f27=Lk "_law_ringless" x5 oc27 od27 kV27 dc27 pm27 an27 cd27 ct27 sl27) (c27:W.codeIn K cd27 "_law_ringless"=true) (k27:W.keepIn K (.ref f27)=true)
 (a28:W.nsIn K mainGlobals "_law_same"=some (some (.ref f28))) (l28:K.lookup f28=Lk "_law_same" Yv oc28 od28 kV28 dc28 pm28 an28 cd28 ct28 sl28) (c28:W.codeIn K cd28 "_law_same"=true) (k28:W.keepIn K (.ref f28)=true)
 (a29:W.nsIn K mainGlobals "law"=some (some (.ref f29))) (l29:K.lookup f29=Lk "law" zfJ oc29 od29 kV29 dc29 pm29 an29 cd29 ct29 sl29) (c29:W.codeIn K cd29 "law"=true) (k29:W.keepIn K (.ref f29)=true)
 (gg0:W.nsIn K mainGlobals "MOST_PLACES"=some (some (.int 8 tk0)))
 (gg1:W.nsIn K mainGlobals "MOST_TIMES"=some (some (.int 300 tk1)))
 (z0:W.nsIn K mainGlobals "all"=some none)
 (z1:W.nsIn K mainGlobals "any"=some none)
 (z2:W.nsIn K mainGlobals "bool"=some none)
 (z3:W.nsIn K mainGlobals "enumerate"=some none)
 (z4:W.nsIn K mainGlobals "int"=some none)
 (z5:W.nsIn K mainGlobals "isinstance"=some none)
 (z6:W.nsIn K mainGlobals "len"=some none)
 (z7:W.nsIn K mainGlobals "list"=some none)
 (z8:W.nsIn K mainGlobals "max"=some none)
 (z9:W.nsIn K mainGlobals "min"=some none)
 (z10:W.nsIn K mainGlobals "range"=some none)
 (z11:W.nsIn K mainGlobals "set"=some none)
 (z12:W.nsIn K mainGlobals "sorted"=some none)
 (z13:W.nsIn K mainGlobals "str"=some none)
 (z14:W.nsIn K mainGlobals "tuple"=some none)
 (z15:W.nsIn K mainGlobals "zip"=some none)
 : ∃ fd:FuncData,(∀ (s:Shared) (v:Value),BindsTo s fd ⟨[v],[]⟩ [("script",v)])/\∀ base:Heap,K.In base->base.Ns mainGlobals mg->xz l.prog w K mg base CX0 20 fa fd ["script"] (zeL K):=by
 have e:=hfa.symm.trans (u3S X G a29)
 cases e
 have T:Txt K mg ⟨_,_,_,_,_,_,_,_,_,_,_,_,_,_,_,_,_,_,_,_,_,_,_,_,_,_,_,_,_,_,_,_,_,_,_,_,_,_,_,_,_,_,_,_,_,_,_,_,_,_,_,_,_,_,_,_,_,_,_,_,tk0,tk1⟩:=⟨
  mkD X G a0 l0 c0 k0 (bn1 λ_ _ _ _ _ _ _=>rfl),
  mkD X G a1 l1 c1 k1 (bn3 λ_ _ _ _ _ _ _ _ _=>rfl),
  mkD X G a2 l2 c2 k2 (bn1 λ_ _ _ _ _ _ _=>rfl),
  mkD X G a3 l3 c3 k3 (bn2 λ_ _ _ _ _ _ _ _=>rfl),
  mkD X G a4 l4 c4 k4 (bn2 λ_ _ _ _ _ _ _ _=>rfl),
  mkD X G a5 l5 c5 k5 (bn2 λ_ _ _ _ _ _ _ _=>rfl),
  mkD X G a6 l6 c6 k6 (bn1 λ_ _ _ _ _ _ _=>rfl),
  mkD X G a7 l7 c7 k7 (bn1 λ_ _ _ _ _ _ _=>rfl),
  mkD X G a8 l8 c8 k8 (bn2 λ_ _ _ _ _ _ _ _=>rfl),
  mkD X G a9 l9 c9 k9 (bn2 λ_ _ _ _ _ _ _ _=>rfl),
  mkD X G a10 l10 c10 k10 (bn2 λ_ _ _ _ _ _ _ _=>rfl),
  mkD X G a11 l11 c11 k11 (bn2 λ_ _ _ _ _ _ _ _=>rfl),
  mkD X G a12 l12 c12 k12 (bn2 λ_ _ _ _ _ _ _ _=>rfl),
  mkD X G a13 l13 c13 k13 (bn1 λ_ _ _ _ _ _ _=>rfl),
  mkD X G a14 l14 c14 k14 (bn2 λ_ _ _ _ _ _ _ _=>rfl),
  mkD X G a15 l15 c15 k15 (bn1 λ_ _ _ _ _ _ _=>rfl),
  mkD X G a16 l16 c16 k16 (bn1 λ_ _ _ _ _ _ _=>rfl),
  mkD X G a17 l17 c17 k17 (bn2 λ_ _ _ _ _ _ _ _=>rfl),
  mkD X G a18 l18 c18 k18 (bn1 λ_ _ _ _ _ _ _=>rfl),
  mkD X G a19 l19 c19 k19 (bn2 λ_ _ _ _ _ _ _ _=>rfl),
  mkD X G a20 l20 c20 k20 (bn2 λ_ _ _ _ _ _ _ _=>rfl),
  mkD X G a21 l21 c21 k21 (bn2 λ_ _ _ _ _ _ _ _=>rfl),
  mkD X G a22 l22 c22 k22 (bn3 λ_ _ _ _ _ _ _ _ _=>rfl),
  mkD X G a23 l23 c23 k23 (bn3 λ_ _ _ _ _ _ _ _ _=>rfl),
  mkD X G a24 l24 c24 k24 (bn1 λ_ _ _ _ _ _ _=>rfl),
  mkD X G a25 l25 c25 k25 (bn1 λ_ _ _ _ _ _ _=>rfl),
  mkD X G a26 l26 c26 k26 (bn2 λ_ _ _ _ _ _ _ _=>rfl),
  mkD X G a27 l27 c27 k27 (bn3 λ_ _ _ _ _ _ _ _ _=>rfl),
  mkD X G a28 l28 c28 k28 (bn2 λ_ _ _ _ _ _ _ _=>rfl),
  mkD X G a29 l29 c29 k29 (bn1 λ_ _ _ _ _ _ _=>rfl),
  u3S X G gg0,
  u3S X G gg1,
  u0f X G z0,
  u0f X G z1,
  u0f X G z2,
  u0f X G z3,
  u0f X G z4,
  u0f X G z5,
  u0f X G z6,
  u0f X G z7,
  u0f X G z8,
  u0f X G z9,
  u0f X G z10,
  u0f X G z11,
  u0f X G z12,
  u0f X G z13,
  u0f X G z14,
  u0f X G z15⟩
 exact⟨_,λs v=>.of_eq rfl,λbase _ _=>zk3 T⟩
theorem walk {l:W.OpenLaw}{q:Program}{loose:List Str}{XP:(Str->Option Value)->Heap->Prop}{YP:World->Heap->Prop}{d:DefRec}{K:Params->W.Frag}(hn:l.most=some 63)(hdf:d.params.defaults=[])
 (hY:∀ (w:World) (h:Heap),YP w h->(K w.params).In h)
 (F:∀ (w:World) (mg:Str->Option Value) (fa:Addr) (h:Heap),(K w.params).In h->h.Ns mainGlobals mg->mg d.name=some (.ref fa) ->
  ∃ fd:FuncData,(∀ (s:Shared) (u:Value),BindsTo s fd ⟨[u],[]⟩ [("script",u)])/\∀ base:Heap,(K w.params).In base->base.Ns mainGlobals mg->xz l.prog w (K w.params) mg base CX0 20 fa fd ["script"] (zeL (K w.params))) :
 PySem.W.WalkO q loose XP YP l.row.toRowW d [] (λf vs=>PySem.call f vs) :=
 L2.walk_of (n:=63) (k:=20) (x:="script") (CX:=λ_=>CX0) (sp:=λw=>zeL (K w.params)) hn (by decide) hdf ⟨rfl,by decide,by decide⟩ hY F (λ_ _ a ns hl _ hS=>⟨a,ns,rfl,hS,hl,λ_=>rfl⟩) λ_ _ _ _ _ z=>z
end Mz
open PySem PySem.W PyProof.Rows
theorem PySem.W.Fast.tw8121879844469628213:True:=⟨⟩
theorem PySem.W.Fast.tw17005784431115140389:True:=⟨⟩
theorem PySem.W.Fast.tw13277289076847409940:True:=⟨⟩
theorem PySem.W.Fast.tw15235648135245338141:True:=⟨⟩
theorem PySem.W.Fast.tw3237580548255697901:True:=⟨⟩
theorem PySem.W.Fast.tw13575463386655529888:True:=⟨⟩
theorem PySem.W.Fast.tw5788996522307451388:True:=⟨⟩
theorem PySem.W.Fast.tw906950259579083234:True:=⟨⟩
theorem PySem.W.Fast.tw7535066094044903881:True:=⟨⟩
theorem PySem.W.Fast.tw5447733515886581305:True:=⟨⟩
theorem PySem.W.Fast.tw8021707516525743481:True:=⟨⟩
theorem PySem.W.Fast.tw545807875894668174:True:=⟨⟩
theorem PySem.W.Fast.tw18205073062841736378:True:=⟨⟩
theorem PySem.W.Fast.tw13020127741118726627:True:=⟨⟩
theorem PySem.W.Fast.tw7596173336477219914:True:=⟨⟩
theorem PySem.W.Fast.tw5564388958893580307:True:=⟨⟩
theorem PySem.W.Fast.tw1439549969047144410:True:=⟨⟩
theorem PySem.W.Fast.tw7482008758646495119:True:=⟨⟩
set_option maxRecDepth 100000 in
set_option maxHeartbeats 0 in
theorem PySem.Challenge.cw_twoforone_k17_whole_leaned_holds : PySem.Challenge.rw_twoforone_k17_whole_leaned.Holds := by
  w_on;o_law;k_head;(case hw=>w_witness2)
  k_fill
  refine Mz.walk (l:=PySem.Challenge.rw_twoforone_k17_whole_leaned) rfl rfl (fun w h Y=>PySem.W.kIn_of Y) ?F
  case F =>
    intro w mg fa h KX G hmg
    refine' Mz.all_mk KX G hmg ?a0 ?l0 ?c0 ?k0 ?a1 ?l1 ?c1 ?k1 ?a2 ?l2 ?c2 ?k2 ?a3 ?l3 ?c3 ?k3 ?a4 ?l4 ?c4 ?k4 ?a5 ?l5 ?c5 ?k5 ?a6 ?l6 ?c6 ?k6 ?a7 ?l7 ?c7 ?k7 ?a8 ?l8 ?c8 ?k8 ?a9 ?l9 ?c9 ?k9 ?a10 ?l10 ?c10 ?k10 ?a11 ?l11 ?c11 ?k11 ?a12 ?l12 ?c12 ?k12 ?a13 ?l13 ?c13 ?k13 ?a14 ?l14 ?c14 ?k14 ?a15 ?l15 ?c15 ?k15 ?a16 ?l16 ?c16 ?k16 ?a17 ?l17 ?c17 ?k17 ?a18 ?l18 ?c18 ?k18 ?a19 ?l19 ?c19 ?k19 ?a20 ?l20 ?c20 ?k20 ?a21 ?l21 ?c21 ?k21 ?a22 ?l22 ?c22 ?k22 ?a23 ?l23 ?c23 ?k23 ?a24 ?l24 ?c24 ?k24 ?a25 ?l25 ?c25 ?k25 ?a26 ?l26 ?c26 ?k26 ?a27 ?l27 ?c27 ?k27 ?a28 ?l28 ?c28 ?k28 ?a29 ?l29 ?c29 ?k29 ?gg0 ?gg1 ?z0 ?z1 ?z2 ?z3 ?z4 ?z5 ?z6 ?z7 ?z8 ?z9 ?z10 ?z11 ?z12 ?z13 ?z14 ?z15
    case a0 | l0 | c0 | k0 | a1 | l1 | c1 | k1 | a2 | l2 | c2 | k2 | a3 | l3 | c3 | k3 | a4 | l4 | c4 | k4 | a5 | l5 | c5 | k5 | a6 | l6 | c6 | k6 | a7 | l7 | c7 | k7 | a8 | l8 | c8 | k8 | a9 | l9 | c9 | k9 | a10 | l10 | c10 | k10 | a11 | l11 | c11 | k11 | a12 | l12 | c12 | k12 | a13 | l13 | c13 | k13 | a14 | l14 | c14 | k14 | a15 | l15 | c15 | k15 | a16 | l16 | c16 | k16 | a17 | l17 | c17 | k17 | a18 | l18 | c18 | k18 | a19 | l19 | c19 | k19 | a20 | l20 | c20 | k20 | a21 | l21 | c21 | k21 | a22 | l22 | c22 | k22 | a23 | l23 | c23 | k23 | a24 | l24 | c24 | k24 | a25 | l25 | c25 | k25 | a26 | l26 | c26 | k26 | a27 | l27 | c27 | k27 | a28 | l28 | c28 | k28 | a29 | l29 | c29 | k29 | gg0 | gg1 | z0 | z1 | z2 | z3 | z4 | z5 | z6 | z7 | z8 | z9 | z10 | z11 | z12 | z13 | z14 | z15=>k_is
