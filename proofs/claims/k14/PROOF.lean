import PyProof.Rows.All
import Wide.All
import OpenK.AllK
import Wide.FinOn
import Lean
import PyProof.EqAt
import PyProof.EqKinds
import PyProof.TupleCall
import PyProof.NeKinds
import PySem.Challenge.RW_twoforone_k14_tallies_looked_at
set_option Elab.async false
set_option linter.all false
set_option maxRecDepth 100000
set_option maxHeartbeats 4000000
def u03:=@PySem.Around.under_plainId
def p7:=@Array.getElem?_eq_getElem
def u0N:=@Array.getElem?_eq_some_iff
def h9:=@Array.getElem?_toList
def u1w:=@Array.getElem_toList
def t7:=@Array.length_toList
def u2N:=@Array.mem_toList_iff
def u3d:=@Array.perm_iff_toList_perm
def u4d:=@Array.size_map
def u2O:=@Array.size_replicate
def u1A:=@Array.size_setIfInBounds
def u3y:=@Array.toList_push
def p4:=@Bool.and_eq_true
def u1g:=@Bool.and_false
def u3K:=@Bool.and_true
def u3z:=@Bool.eq_false_iff
def u1B:=@Bool.eq_iff_iff
def u0x:=@Bool.false_eq_true
def u8:=@Bool.false_ne_true
def u2v:=@Bool.not_eq_true'
def u1P:=@Bool.or_eq_true
def u14:=@PySem.Calls.call_function_entry
def u1O:=@PySem.Calls.spliced_cons
def u2w:=@PySem.Calls.spliced_nil
def u2i:=@PySem.Code.quiet_builtin
def u1Q:=@PySem.F.called_set
def u2x:=@PySem.F.plain_list_iadd
def u1q:=@PySem.F.slot_tuple_iterator_next
def u2X:=@PySem.F.slot_zip_next
def u1j:=@PySem.Heap.SameBut.update
def u4:=@PySem.Heap.get?_push_of_some
def j7:=@PySem.Heap.get?_push_size
def u0d:=@PySem.Heap.get?_update_other
def p9:=@PySem.Heap.get?_update_self
def t9:=@PySem.Heap.lt_size
def u0Q:=@PySem.Heap.size_push
def u3f:=@Int.fdiv_eq_ediv_of_nonneg
def u4g:=@Int.le_refl
def u0E:=@Int.toNat_natCast
def u2y:=@PyProof.Rows.KeyOrd.kle_of_klt
def u1k:=@PyProof.Rows.KeyOrd.kle_refl
def u2I:=@PyProof.Rows.KeyOrd.kle_trans
def u1C:=@List.Perm.eq_of_pairwise
def u0Y:=@List.Perm.refl
def u2j:=@List.all_cons
def u0B:=@List.all_eq_true
def u2c:=@List.all_map
def u2T:=@List.any_cons
def u1W:=@List.append_assoc
def u0k:=@List.append_nil
def u1v:=@List.drop_eq_getElem_cons
def u2J:=@List.drop_length
def u2K:=@List.ext_getElem
def u3A:=@List.ext_getElem?
def u2Y:=@List.filterMap_cons
def u3B:=@List.filterMap_cons_none
def u2d:=@List.filterMap_cons_some
def u1R:=@List.find?_cons
def u1D:=@List.flatten_cons
def u34:=@List.foldl_cons
def u2Z:=@List.forIn_cons
def u3p:=@List.forIn_nil
def o0:=@List.forall_mem_cons
def u3g:=@List.getD_eq_getElem?_getD
def u0o:=@List.getElem?_append_left
def u0i:=@List.getElem?_append_right
def r9:=@List.getElem?_eq_getElem
def u1t:=@List.getElem?_eq_none
def t6:=@List.getElem?_eq_some_iff
def d6:=@List.getElem?_map
def u20:=@List.getElem?_range
def u1J:=@List.getElem?_replicate
def u1X:=@List.getElem?_set
def d7:=@List.getElem?_set_ne
def i6:=@List.getElem?_set_self
def u15:=@List.getElem?_zip_eq_some
def u1d:=@List.getElem_map
def u0e:=@List.getElem_mem
def u05:=@List.getElem_of_mem
def u1c:=@List.getElem_range
def d9:=@List.length_append
def u0g:=@List.length_cons
def u3S:=@List.length_drop
def u0Z:=@List.length_eq_zero_iff
def u7:=@List.length_map
def u21:=@List.length_nil
def u0q:=@List.length_range
def u04:=@List.length_take
def p6:=@List.map_append
def u06:=@List.map_congr_left
def i8:=@List.map_cons
def u0H:=@List.map_map
def u35:=@List.map_nil
def u3L:=@List.map_take
def u0r:=@List.mem_append
def u0O:=@List.mem_append_left
def u0a:=@List.mem_append_right
def j5:=@List.mem_cons
def b0:=@List.mem_cons_of_mem
def g9:=@List.mem_cons_self
def u1l:=@List.mem_filter
def u1u:=@List.mem_filterMap
def u1x:=@List.mem_iff_getElem
def u0b:=@List.mem_map
def u1m:=@List.mem_map_of_mem
def b6:=@List.mem_of_getElem?
def u1y:=@List.mem_of_mem_take
def u0R:=@List.mem_range
def j9:=@List.mem_singleton
def u22:=@List.mergeSort_perm
def u2z:=@List.nodup_append
def u0s:=@List.nodup_cons
def u08:=@List.nodup_nil
def p5:=@List.not_mem_nil
def u23:=@List.of_mem_zip
def u00:=@List.pairwise_cons
def i9:=@List.pairwise_iff_getElem
def u0X:=@List.pairwise_map
def u2k:=@List.pairwise_mergeSort
def u2l:=@List.pairwise_singleton
def u36:=@List.range_succ
def u0T:=@List.replicate_succ
def j6:=@List.size_toArray
def u1Y:=@List.take_add_one
def u1r:=@List.take_length
def u3C:=@List.take_sublist
def u3T:=@List.zipIdx_cons
def u2m:=@List.zip_cons_cons
def u1K:=@Nat.add_le_add_left
def u0p:=@Nat.le_add_right
def u24:=@Nat.le_antisymm
def u0I:=@Nat.le_of_lt
def u0t:=@Nat.le_of_lt_succ
def u0K:=@Nat.le_of_not_lt
def j3:=@Nat.le_refl
def u13:=@Nat.le_sub_one_of_lt
def u25:=@Nat.le_succ
def i4:=@Nat.le_trans
def u0y:=@Nat.lt_irrefl
def u0l:=@Nat.lt_of_le_of_lt
def u3k:=@Nat.lt_of_le_of_ne
def r6:=@Nat.lt_of_lt_of_le
def u3D:=@Nat.lt_of_succ_lt
def u2r:=@Nat.lt_of_succ_lt_succ
def u0u:=@Nat.lt_succ_of_lt
def u1s:=@Nat.lt_succ_self
def u37:=@Nat.lt_trans
def u1Z:=@Nat.lt_trichotomy
def u1S:=@Nat.min_eq_left
def u3U:=@Nat.min_le_right
def u38:=@Nat.min_self
def u1T:=@Nat.ne_of_gt
def r8:=@Nat.ne_of_lt
def u3E:=@Nat.one_shiftLeft
def u2P:=@Nat.sub_le_sub_right
def u1N:=@Nat.succ_le_succ
def u2E:=@Nat.succ_pos
def u4e:=@Nat.testBit_or
def u26:=@Nat.testBit_two_pow
def u1U:=@Nat.testBit_two_pow_sub_one
def u0f:=@Nat.zero_add
def u0F:=@Nat.zero_le
def u3F:=@Nat.zero_lt_of_lt
def u2L:=@Nat.zero_testBit
def u0P:=@Ne.symm
def u2n:=@PySem.Obj.data_mapFields
def u5:=@Option.bind_eq_some_iff
def b9:=@Option.bind_some
def u0v:=@Option.isSome_iff_exists
def u9:=@Option.map_eq_some_iff
def u0m:=@Option.some.inj
def u3M:=@PySem.Paired.length
def u01:=@PySem.PassesOwn.never
def u10:=@Prod.ext
def u16:=@PyProof.Rows.F.entry_set_update_loop
def u0S:=@PyProof.Rows.F.plain_set_update_loop
def u27:=@PyProof.Rows.args_list_sort
def u3q:=@PyProof.Rows.args_sorted1
def u2F:=@PyProof.Rows.callWith_builtin1
def u0J:=@PyProof.Rows.callWith_type1
def u2U:=@PyProof.Rows.entry_list_sort
def u3r:=@PyProof.Rows.entry_sorted
def u3G:=@PyProof.Rows.kind_sorted
def u3s:=@PyProof.Rows.plain_sorted
def u28:=@PyProof.Rows.slot_list_sort
def u0w:=@PyProof.Rows.slot_tuple_getitem
def u17:=@PySem.F.args_dict_keyiterator_next_1
def u3t:=@PySem.F.args_list_count_2
def u2e:=@PySem.F.args_tuple_add_2
def u29:=@PySem.F.attrBase_ValueError
def u2a:=@PySem.F.entry_dict_keyiterator_next
def u3H:=@PySem.F.entry_list_count
def u2o:=@PySem.F.entry_tuple_add
def u3h:=@PySem.F.excBase_ValueError
def u0L:=@PySem.F.plainAttrs_list
def u2G:=@PySem.F.slot_dict_get
def u0D:=@PySem.F.slot_dict_keyiterator_next
def u1E:=@PySem.F.slot_list_append
def u1L:=@PySem.F.slot_list_count
def u2s:=@PySem.F.slot_tuple_add
def u1F:=@PySem.F.type_list_append
def u2t:=@PySem.W.cellsFrom_some
def u2b:=@PySem.W.hideAll_get
def u2Q:=@PySem.W.hideAll_none
def u0C:=@PySem.W.kia_one
def u2A:=@PySem.W.kitx_dict
def u2R:=@PySem.W.looks_findIn
def p8:=@PySem.W.mg_none_of
def u0n:=@PySem.W.mg_of
def u0U:=@PySem.mem_of_lookup
def u3l:=@PySem.SeqAt.EqAt.int_int
def u3m:=@PySem.SeqAt.EqAt.of_refs
def u2u:=@PySem.SetTable.insertAt_perm
def u2f:=@PySem.SetTable.toList_insertAt
def u0V:=@beq_eq_false_iff_ne
def u1V:=@beq_false_of_ne
def u1G:=@beq_iff_eq
def u0h:=@beq_self_eq_true
def u2V:=@PySem.call_meets
def u1b:=@PySem.codeAny_builtin
def u1z:=@PySem.codeAny_call_builtin
def u2g:=@PySem.codeAny_mono
def u0M:=@congrArg
def u3V:=@decide_eq_decide
def g0:=@decide_eq_false
def u0z:=@decide_eq_false_iff_not
def j8:=@decide_eq_true
def p0:=@decide_eq_true_eq
def u4q:=@dif_pos
def u18:=@if_false
def j4:=@if_neg
def q5:=@if_pos
def u3a:=@if_true
def u3u:=@PySem.isSubtype_stop
def u2B:=@not_false_eq_true
def u4f:=@not_or
def d8:=@of_decide_eq_true
def u1p:=@or_false
def u3n:=@PyProof.Rows.pairsOf_size
def u11:=@PySem.plainId_quiet
def u1n:=@PySem.sizeLine_eq
def u3o:=@PySem.tupleKind_room_in1
def u2p:=@PySem.wpAny_Call_Name_kw
def u1e:=@PySem.wpAny_askSetting
def u09:=@PySem.wpAny_attempt
def u0:=@PySem.wpAny_bind
def u2C:=@PySem.wpAny_call
def e9:=@PySem.wpAny_callSpecial?_slot
def i7:=@PySem.wpAny_call_entry
def u3I:=@PySem.wpAny_dictEntries
def u3b:=@PySem.wpAny_execs_nil
def u0W:=@PySem.wpAny_field
def u3v:=@PySem.wpAny_fieldsOf
def u2M:=@PySem.wpAny_forIn_list
def i5:=@PySem.wpAny_holding
def u19:=@PySem.wpAny_isInstance
def u1o:=@PySem.wpAny_loadPart'
def u12:=@PySem.wpAny_loadPart_at
def u0j:=@PySem.wpAny_mono
def u3Q:=@PySem.wpAny_newList
def u0c:=@PySem.wpAny_newObj_type
def u1M:=@PySem.wpAny_of_eq
def u2q:=@PySem.wpAny_passesOwn
def u6:=@PySem.wpAny_pure
def u2D:=@PySem.wpAny_pyIter_enum
def u1i:=@PySem.wpAny_pyIter_list
def u3J:=@PySem.wpAny_pyIter_slot
def u0G:=@PySem.wpAny_pyIter_tuple
def u2h:=@PySem.wpAny_rule
def u3w:=@PySem.wpAny_runValue
def u1h:=@PySem.wpAny_seqItems
def u3x:=@PySem.wpAny_setField
def u02:=@PySem.wpAny_setField_rec
def u3R:=@PySem.wpAny_standAt
def u07:=@PySem.wpAny_truthy_bool
def u1f:=@PySem.wpAny_typeNameOfWhole_keyiter
def u1H:=@PySem.wpAny_typeNameOf_keyiter
def u1I:=@PySem.wpAny_typeOf
def u3c:=@PySem.wpAny_updateSeq
def u0A:=@PyProof.Rows.wpS_bind
def u2H:=@PyProof.Rows.wpS_forRange
def u1a:=@PyProof.Rows.wpS_pure
namespace L2
open PySem PySem.Spec PyProof.Rows
abbrev Key:=Sum Int Str
def zcJ:Key->Value->Bool
 | .inl k,v=>Value.isInt k v
 | .inr x,v=>Value.isStrOf x v
def keyH (w:World):Key->Int
 | .inl k=>hashInt k
 | .inr x=>hashStr w x
theorem yp:∀ {k:Key} {v:Value},zcJ k v=true->(∃ i t,k=Sum.inl i/\v=Value.int i t)\/(∃ x t,k=Sum.inr x/\v=Value.str x t)
 | .inl i,v,h=>by
  obtain⟨t,e⟩:=Value.isInt_shape (k:=i) (v:=v) h
  exact .inl ⟨i,t,rfl,e⟩
 | .inr x,v,h=>by
  obtain⟨t,e⟩:=Value.isStrOf_shape (x:=x) (v:=v) h
  exact .inr ⟨x,t,rfl,e⟩
theorem zfc (i:Int)(t:Tok):zcJ (.inl i) (.int i t)=true:=by simp[zcJ,Value.isInt]
theorem zeh (x:Str)(t:Tok):zcJ (.inr x) (.str x t)=true:=by simp[zcJ,Value.isStrOf]
theorem zkE (a b:Int):decide ((Sum.inl a:Key)=Sum.inl b)=(a == b):=by
 by_cases e:a=b
 .subst e;simp
 .have h:¬ (Sum.inl a:Key)=Sum.inl b:=λq=>e (Sum.inl.inj q)
  rw[g0 h]
  exact(u0V.mpr e).symm
theorem zlz (a b:Str):decide ((Sum.inr a:Key)=Sum.inr b)=decide (a=b):=by
 by_cases e:a=b
 .subst e;simp
 .have h:¬ (Sum.inr a:Key)=Sum.inr b:=λq=>e (Sum.inr.inj q)
  rw[g0 h,g0 e]
theorem zks (a:Int)(b:Str):decide ((Sum.inl a:Key)=Sum.inr b)=false:=g0 (λq=>nomatch q)
theorem zlj (a:Str)(b:Int):decide ((Sum.inr a:Key)=Sum.inl b)=false:=g0 (λq=>nomatch q)
def yZ (prog:Program)(w:World):PySem.KeyKind prog w Key where
 is:=zcJ
 hash:=keyH w
 inj:=λv a b ha hb=>by
  rcases yp ha with ⟨i,t,rfl,rfl⟩ | ⟨x,t,rfl,rfl⟩
  .rcases yp hb with ⟨j,u,rfl,e⟩ | ⟨y,u,rfl,e⟩
   .injection e with e1 _;rw[e1]
   .exact nomatch e
  .rcases yp hb with ⟨j,u,rfl,e⟩ | ⟨y,u,rfl,e⟩
   .exact nomatch e
   .injection e with e1 _;rw[e1]
 byValue:=λk v h=>by
  rcases yp h with ⟨i,t,rfl,rfl⟩ | ⟨x,t,rfl,rfl⟩ <;> rfl
 pyHash:=λhv h=>by
  rcases yp hv with ⟨i,t,rfl,rfl⟩ | ⟨x,t,rfl,rfl⟩
  .exact wpAny_pyHash_int h
  .exact wpAny_pyHash_str h
 eqBool:=λhu hv h=>by
  rcases yp hu with ⟨i,t,rfl,rfl⟩ | ⟨x,t,rfl,rfl⟩
  .rcases yp hv with ⟨j,u,rfl,rfl⟩ | ⟨y,u,rfl,rfl⟩
   .rw[zkE]at h;exact wpAny_eqBool_int h
   .rw[zks]at h;exact SeqAt.EqAt.int_str i t y u _ _ _ _ h
  .rcases yp hv with ⟨j,u,rfl,rfl⟩ | ⟨y,u,rfl,rfl⟩
   .rw[zlj]at h;exact SeqAt.EqAt.str_int x t j u _ _ _ _ h
   .rw[zlz]at h;exact wpAny_eqBool_str h
 «strs»:=λk x t v h=>by
  rcases yp h with ⟨i,u,rfl,e⟩ | ⟨y,u,rfl,e⟩
  .exact nomatch e
  .injection e with e1 _
   subst e1
   cases v <;> rfl
theorem zaG (prog:Program)(w:World)(i:Int)(t:Tok):(yZ prog w).is (.inl i) (.int i t)=true:=zfc i t
theorem zbc (prog:Program)(w:World)(x:Str)(t:Tok):(yZ prog w).is (.inr x) (.str x t)=true:=zeh x t
inductive V where
 | non | bl (b:Bool) | int (i:Int) | str (x:Str) | byt (b:Array UInt8) | flt (b:UInt64) | ref (a:Addr) | ty (n:String)
 deriving DecidableEq
def yH:V->Value->Prop
 | .non,u=>u=Value.none
 | .bl b,u=>u=Value.bool b
 | .int i,u=>∃ t,u=Value.int i t
 | .str x,u=>∃ t,u=Value.str x t
 | .byt b,u=>∃ t,u=Value.bytes b t
 | .flt b,u=>∃ t,u=Value.float b t
 | .ref a,u=>u=Value.ref a
 | .ty n,u=>u=Value.type n
abbrev yt:List V->List Value->Prop:=Paired yH
theorem yt.length {xs:List V}{us:List Value}(r:yt xs us):xs.length=us.length:=u3M r
theorem yt.get:∀ {xs:List V} {us:List Value} {i:Nat} {x:V},yt xs us->xs[i]?=some x->∃ u,us[i]?=some u/\yH x u
 | _,_,_,_,.nil,e=>by simp at e
 | _,_,0,_,.cons r _,e=>by simp at e;subst e;exact⟨_,rfl,r⟩
 | _,_,i+1,x,.cons _ t,e=>by
  obtain⟨u,h1,h2⟩:=yt.get (i:=i) (x:=x) t (by simpa using e)
  exact⟨u,by simpa using h1,h2⟩
theorem yt.append:∀ {xs ys:List V} {us ws:List Value},yt xs us->yt ys ws->yt (xs++ys) (us++ws):=by
 intro xs ys us ws h s
 induction h with
 | nil=>exact s
 | cons r t ih=>exact .cons r ih
theorem yt.take:∀ {xs:List V} {us:List Value} (n:Nat),yt xs us->yt (xs.take n) (us.take n)
 | _,_,0,_=>.nil
 | _,_,_+1,.nil=>.nil
 | _,_,n+1,.cons r t=>.cons r (yt.take n t)
theorem yt.drop:∀ {xs:List V} {us:List Value} (n:Nat),yt xs us->yt (xs.drop n) (us.drop n)
 | _,_,0,r=>r
 | _,_,_+1,.nil=>.nil
 | _,_,n+1,.cons _ t=>yt.drop n t
def zaE:Option V->Option Value->Prop
 | some v,some u=>yH v u
 | none,none=>True
 | _,_=>False
def KV {κ:Type}:List (κ × V)->List (κ × Value)->Prop:=Paired λ(p:κ × V) (q:κ × Value)=>p.1=q.1/\yH p.2 q.2
def kV:Key->V
 | .inl i=>.int i
 | .inr x=>.str x
inductive HO where
 | lst (xs:List V)
 | tup (xs:List V)
 | dK (kvs:List (Key × V)) | dT (kvs:List (List Key × V))
 | set (S:Int->Bool) (n:Nat)
 | ins (C dx:Addr) (fs:List (Str × V))
 | own (x:Addr)
 | xd (fs:List (Str × V))
 | met (f x:Addr)
 | rng (lo hi:Int)
 | frz (o:Obj) (u:HO)
 | tbl (ps:Array Value)
 | ext (φ:Heap->Prop)
abbrev Hp:=Addr->Option HO
def upd (H:Hp)(a:Addr)(o:HO):Hp:=λb=>if b=a then some o else H b
theorem zn {H:Hp}{a:Addr}{o:HO}:upd H a o a=some o:=by unfold upd;rw[q5 rfl]
theorem zm {H:Hp}{a b:Addr}{o:HO}(h:b≠a):upd H a o b=H b:=by unfold upd;rw[j4 h]
theorem ze4 {H:Hp}{a:Addr}{o u:HO}:upd (upd H a o) a u=upd H a u:=by
 funext b;unfold upd;split <;> rfl
theorem zlu {H:Hp}{a b:Addr}{o u:HO}(h:H a=some o)(h':H b=some u)(d:o≠u):a≠b:=by
 intro e;subst e;rw[h]at h';exact d (u0m h')
theorem zj {H:Hp}{a b:Addr}{o:HO}(h:H a=some o)(h':H b=none):a≠b:=by
 intro e;subst e;rw[h]at h';cases h'
section
variable (P:Program)(w:World)
def yk (H:Hp)(h:Heap)(a:Addr):HO->Prop
 | .lst xs=>xs.length<=sizeLine/\∃ (its:List Value) (n:Nat),yt xs its/\h.get? a=some { cls:=.type "list",data:=.seq its.toArray n }
 | .tup xs=>xs.length<=sizeLine/\∃ its:List Value,yt xs its/\IsTup h a its.toArray
 | .dK kvs=>kvs.length<=sizeLine/\(a == sysModules)=false/\∃ vs,KV kvs vs/\h.DictOf (yZ P w) a vs
 | .dT kvs=>kvs.length<=sizeLine/\(a == sysModules)=false/\∃ xs:List (List Key × Addr × Value),
  Paired (λ(p:List Key × V) (q:List Key × Addr × Value)=>p.1=q.1/\H q.2.1=some (.tup (p.1.map kV))/\yH p.2 q.2.2) kvs xs /\
  ∃ o es ep,h.get? a=some o/\o.ExactDict/\o.data=.dict es ep/\es.toList=xs.map (entryOfKey (tupleKind (yZ P w)))/\(xs.map (·.1)).Nodup
 | .set S n=>h.SetOf (intKind P w) a S n
 | .ins C dx fs=>H dx=some (.own a)/\fs.length<=1000/\dx≠a/\h.get? a=some (W.instObj C dx) /\
  ∃ mA,h.Ns1 dx mA/\(∀ f,zaE (fs.lookup f) (mA f))/\PySem.Within mA (fs.map (·.1))
 | .own _=>∃ o,h.get? a=some o
 | .xd fs=>∃ mA,h.Ns1 a mA/\∀ f,zaE (fs.lookup f) (mA f)
 | .rng lo hi=>∃ t u v,h.get? a=some { cls:=.type "range",data:=.fields #[.int lo t,.int hi u,.int 1 v] }
 | .frz o u=>h.get? a=some o/\yk H h a u
 | .tbl ps=>h.get? a=some { cls:=.none,data:=.fields ps }
 | .met f x=>h.get? a=some (W.methodObj (.ref f) (.ref x))
 | .ext φ=>φ h/\(∃ o,h.get? a=some o)/\∀ h1 h2:Heap,φ h1->(∀ o,h1.get? a=some o->h2.get? a=some o)->φ h2
def HOk (H:Hp)(h:Heap):Prop:=∀ a o,H a=some o->yk P w H h a o
end
section
variable {P:Program}{w:World}{H H':Hp}{h h':Heap}{a:Addr}{o:HO}
theorem yk.lt (x:yk P w H h a o):a < h.objs.size:=by
 cases o with
 | lst xs=>obtain⟨_,_,_,_,e⟩:=x;exact t9 e
 | tup xs=>obtain⟨_,_,_,p⟩:=x;exact p.lt
 | dK kvs=>obtain⟨_,_,_,_,o,_,_,e,_⟩:=x;exact t9 e
 | dT kvs=>obtain⟨_,_,_,_,o,_,_,e,_⟩:=x;exact t9 e
 | set S n=>obtain⟨o,_,_,_,e,_⟩:=x;exact t9 e
 | ins C dx fs=>obtain⟨_,_,_,e,_⟩:=x;exact t9 e
 | own y=>obtain⟨_,e⟩:=x;exact t9 e
 | xd fs=>obtain⟨_,⟨_,_,_,e,_⟩,_⟩:=x;exact t9 e
 | rng lo hi=>obtain⟨_,_,_,e⟩:=x;exact t9 e
 | frz ob u=>obtain⟨e,_⟩:=x;exact t9 e
 | tbl ps=>exact t9 (show h.get? a=some _ from x)
 | met f y=>exact t9 (show h.get? a=some _ from x)
 | ext φ=>obtain⟨_,⟨_,e⟩,_⟩:=x;exact t9 e
theorem Paired.mapP {α β:Type}{F G:α->β->Prop}:∀ {l₁:List α} {l₂:List β},Paired F l₁ l₂->(∀ a b,F a b->G a b)->Paired G l₁ l₂:=by
 intro l1 l2 h f
 induction h with
 | nil=>exact .nil
 | cons r t ih=>exact .cons (f _ _ r) ih
theorem yk.stay (x:yk P w H h a o)(k:∀ b u,(b=a\/H b=some (.own a))->h.get? b=some u->h'.get? b=some u)
 (ho:∀ b,H b=some (.own a)->H' b=some (.own a)) (ht:∀ b xs,H b=some (.tup xs)->H' b=some (.tup xs)):yk P w H' h' a o:=by
 induction o with
 | lst xs=>obtain⟨z,its,n,r,e⟩:=x;exact⟨z,its,n,r,k _ _ (.inl rfl) e⟩
 | tup xs=>obtain⟨z,its,r,ob,e,c⟩:=x;exact⟨z,its,r,ob,k _ _ (.inl rfl) e,c⟩
 | dK kvs=>obtain⟨z,y,vs,r,ob,es,ep,e,c⟩:=x;exact⟨z,y,vs,r,ob,es,ep,k _ _ (.inl rfl) e,c⟩
 | dT kvs =>
  obtain⟨z,y,xs,r,ob,es,ep,e,c⟩:=x
  exact⟨z,y,xs,Paired.mapP r λp q z=>⟨z.1,ht _ _ z.2.1,z.2.2⟩,ob,es,ep,k _ _ (.inl rfl) e,c⟩
 | set S n=>obtain⟨ob,es,ep,t,e,c⟩:=x;exact⟨ob,es,ep,t,k _ _ (.inl rfl) e,c⟩
 | ins C dx fs =>
  obtain⟨d,z,ne,e,mA,⟨od,es,ep,e2,c⟩,r⟩:=x
  exact⟨ho _ d,z,ne,k _ _ (.inl rfl) e,mA,⟨od,es,ep,k _ _ (.inr d) e2,c⟩,r⟩
 | own y=>obtain⟨ob,e⟩:=x;exact⟨ob,k _ _ (.inl rfl) e⟩
 | xd fs=>obtain⟨mA,⟨od,es,ep,e,c⟩,r⟩:=x;exact⟨mA,⟨od,es,ep,k _ _ (.inl rfl) e,c⟩,r⟩
 | rng lo hi=>obtain⟨t,u,v,e⟩:=x;exact⟨t,u,v,k _ _ (.inl rfl) e⟩
 | frz ob u ih=>obtain⟨e,q⟩:=x;exact⟨k _ _ (.inl rfl) e,ih q⟩
 | tbl ps =>
  have e:h.get? a=some { cls:=.none,data:=.fields ps }:=x
  show h'.get? a=some { cls:=.none,data:=.fields ps }
  exact k a _ (.inl rfl) e
 | met f y =>
  have e:h.get? a=some (W.methodObj (.ref f) (.ref y)):=x
  show h'.get? a=some (W.methodObj (.ref f) (.ref y))
  exact k a _ (.inl rfl) e
 | ext φ=>obtain⟨p,⟨o,e⟩,st⟩:=x;exact⟨st _ _ p λo q=>k _ _ (.inl rfl) q,⟨o,k _ _ (.inl rfl) e⟩,st⟩
theorem HOk.lt (x:HOk P w H h)(e:H a=some o):a < h.objs.size:=(x a o e).lt
theorem HOk.fresh (x:HOk P w H h)(e:h.objs.size<=a):H a=none:=by
 cases q:H a with
 | none=>rfl
 | some u=>exact absurd (r6 (x.lt q) e) (u0y _)
theorem HOk.kept (x:HOk P w H h)(k:∀ b u,h.get? b=some u->h'.get? b=some u):HOk P w H h':=λa o e =>
 (x a o e).stay (λb u _ q=>k b u q) (λ_ q=>q) λ_ _ q=>q
theorem HOk.laid (x:HOk P w H h)(k:∀ b u,h.get? b=some u->h'.get? b=some u)(hp:h.objs.size<=a)(new:yk P w (upd H a o) h' a o):HOk P w (upd H a o) h':=λb u e=>by
 have hn:=x.fresh hp
 by_cases hb:b=a
 .subst hb;rw[zn]at e;cases e;exact new
 .rw[zm hb]at e
  exact(x b u e).stay (λc v _ q=>k c v q) (λc q=>by rw[zm (zj q hn)];exact q) λc xs q=>by rw[zm (zj q hn)];exact q
end
def Rd (H:Hp)(a:Addr)(u:HO):Prop:=H a=some u\/∃ o,H a=some (.frz o u)
theorem Rd.ok {P:Program}{w:World}{H:Hp}{h:Heap}{a:Addr}{u:HO}(r:Rd H a u)(x:HOk P w H h):yk P w H h a u:=by
 rcases r with r | ⟨o,r⟩
 .exact x a u r
 .obtain⟨_,q⟩:=x a _ r
  exact q
def Mut:Option HO->Prop
 | some (.lst _)=>True
 | some (.dK _)=>True
 | some (.dT _)=>True
 | some (.set _ _)=>True
 | some (.ins _ _ _)=>True
 | some (.ext _)=>True
 | _=>False
section
variable {P:Program}{w:World}{H:Hp}{h h':Heap}{x e:Addr}{o':HO}
theorem HOk.write (ok:HOk P w H h)(mu:Mut (H x))(he:e=x\/H e=some (.own x))(k:∀ b u,b≠e->h.get? b=some u->h'.get? b=some u)(heo:∃ u,h'.get? e=some u)
 (new:yk P w (upd H x o') h' x o'):HOk P w (upd H x o') h':=λb u q=>by
 have nown:∀ c y,H c=some (.own y)->c≠x:=λc y r z=>by subst z;rw[r]at mu;exact mu
 have ntup:∀ c xs,H c=some (.tup xs)->c≠x:=λc xs r z=>by subst z;rw[r]at mu;exact mu
 by_cases hb:b=x
 .subst hb;rw[zn]at q;cases q;exact new
 .rw[zm hb]at q
  by_cases hbe:b=e
  .have q':H b=some (.own x):=by
    rcases he with z | z
    .exact absurd (hbe.trans z) hb
    .rw[hbe];exact z
   rw[q]at q';cases q'
   obtain⟨v,hv⟩:=heo
   exact⟨v,by rw[hbe];exact hv⟩
  .refine(ok b u q).stay (λc v hc r=>k c v ?_ r) (λc r=>by rw[zm (nown c b r)];exact r) λc xs r=>by rw[zm (ntup c xs r)];exact r
   rcases hc with rfl | hc
   .exact hbe
   .rintro rfl
    rcases he with z | z
    .exact nown c b hc z
    .rw[hc]at z;cases z;exact hb rfl
end
structure Un (fs ex:List Addr) (H H':Hp) (h h':Heap):Prop where
 keep:∀ b o,h.get? b=some o->H b=none->b∉fs->b∉ex->h'.get? b=some o
 slot:∀ b o,h.get? b=some o->H b=none->b∈fs->b∉ex->∃ sl,h'.get? b=some { o with slots:=sl }
 free:∀ b o,h.get? b=some o->H b=none->b∉ex->H' b=none
 there:∀ b o,h.get? b=some o->b∉ex->∃ o',h'.get? b=some o'
 tups:∀ b xs,H b=some (.tup xs)->H' b=some (.tup xs)
 frzs:∀ b o u,H b=some (.frz o u)->H' b=some (.frz o u)
 tbls:∀ b ps,H b=some (.tbl ps)->∃ more,H' b=some (.tbl (ps++more))
section
variable {fs fs' ex ex':List Addr}{H H1 H2:Hp}{h h1 h2 h':Heap}{a x e:Addr}{o:HO}
theorem Un.any (u:Un fs ex H H1 h h1){b:Addr}{ob:Obj}(q:h.get? b=some ob)(n:H b=none)(hx:b∉ex):∃ sl,h1.get? b=some { ob with slots:=sl }:=by
 by_cases hb:b∈fs
 .exact u.slot b ob q n hb hx
 .exact⟨ob.slots,u.keep b ob q n hb hx⟩
theorem Un.kept (k:∀ b u,h.get? b=some u->h'.get? b=some u):Un fs ex H H h h' :=
 ⟨λb ob q _ _ _=>k b ob q,λb ob q _ _ _=>⟨ob.slots,k b ob q⟩,λ_ _ _ n _=>n,λb ob q _=>⟨ob,k b ob q⟩,λ_ _ q=>q,λ_ _ _ q=>q,λ_ ps q=>⟨#[],by rw[q];simp⟩⟩
theorem Un.refl:Un fs ex H H h h:=Un.kept λ_ _ q=>q
theorem Un.laid (k:∀ b u,h.get? b=some u->h'.get? b=some u)(hp:h.objs.size<=a)(hn:H a=none):Un fs ex H (upd H a o) h h' where
 keep:=λb u q _ _ _=>k b u q
 slot:=λb u q _ _ _=>⟨u.slots,k b u q⟩
 free:=λb u q n _=>by rw[zm (r8 (r6 (t9 q) hp))];exact n
 there:=λb u q _=>⟨u,k b u q⟩
 tups:=λb xs q=>by rw[zm (zj q hn)];exact q
 frzs:=λb u xs q=>by rw[zm (zj q hn)];exact q
 tbls:=λb ps q=>⟨#[],by rw[zm (zj q hn),q];simp⟩
theorem Un.write (mu:Mut (H x))(he:e=x\/H e=some (.own x))(k:∀ b u,b≠e->h.get? b=some u->h'.get? b=some u)(heo:∃ u,h'.get? e=some u):Un fs ex H (upd H x o) h h':=by
 have hx:∀ b,H b=none->b≠x:=λb n z=>by subst z;rw[n]at mu;exact mu
 have hb:∀ b,H b=none->b≠e:=λb n z=>by
  subst z
  rcases he with r | r
  .exact hx b n r
  .rw[n]at r;cases r
 have hm:∀ b u,H b=some u->¬ Mut (some u)->b≠x:=λb u q nm z=>by subst z;rw[q]at mu;exact nm mu
 refine⟨λb u q n _ _=>k b u (hb b n) q,λb u q n _ _=>⟨u.slots,k b u (hb b n) q⟩,λb u q n _=>by rw[zm (hx b n)];exact n,λb u q _=>?_,
  λb xs q=>by rw[zm (hm b _ q λz=>z)];exact q,λb u xs q=>by rw[zm (hm b _ q λz=>z)];exact q,λb ps q=>⟨#[],by rw[zm (hm b _ q λz=>z),q];simp⟩⟩
 by_cases hbe:b=e
 .subst hbe;exact heo
 .exact⟨u,k b u hbe q⟩
end
def trk (h:Heap)(H:Hp):List Addr:=(List.range h.objs.size).filter λa=>(H a).isSome
def zgf (h:Heap)(H:Hp):Heap:=W.hideAll h (trk h H)
theorem zel (h:Heap)(H:Hp):(zgf h H).objs.size=h.objs.size:=W.hideAll_size _ _
theorem zgZ {h:Heap}{H:Hp}{b:Addr}{o:Obj}(e:h.get? b=some o)(n:H b=none):(zgf h H).get? b=some o :=
 u2b _ e λhm=>by
  have q:(H b).isSome=true:=(u1l.mp hm).2
  rw[n]at q;simp at q
theorem zif {h:Heap}{H:Hp}{b:Addr}{o:Obj}(e:(zgf h H).get? b=some o):h.get? b=some o/\H b=none:=by
 have e':h.get? b=some o:=W.of_hideAll (trk h H) e
 refine⟨e',?_⟩
 cases q:H b with
 | none=>rfl
 | some x =>
  have hm:b∈trk h H:=u1l.mpr ⟨u0R.mpr (t9 e'),by simp[q]⟩
  have z:(zgf h H).get? b=none:=u2Q (trk h H) hm
  rw[z]at e;cases e
def zig (g h:Heap)(L:Addr):List (Addr × Obj):=(List.range h.objs.size).filterMap λa=>if a=L\/(g.get? a).isSome=true then none else (h.get? a).map λo=>(a,o)
def rest (g h:Heap)(L d:Addr):List (Addr × Obj):=(zig g h L).filter λp=>decide (p.1≠d)
structure Mod (K:W.Frag) (mg:Str->Option Value) (base:Heap):Prop where
 kin:K.In base
 glob:base.Ns mainGlobals mg
 blt:∃ mb,base.Ns builtinsNs mb/\∀ x:Str,x≠"__name__"->mb x=bootBuiltins x
 nolimit:base.NoLimit
structure Cx where
 prog:Program
 w:World
 K:W.Frag
 mg:Str->Option Value
 base:Heap
 A:Around
 N:List Str
 s₀:Shared
 H₀:Hp
 env:Env
 outer:List Env
 stack:List Env
 ex:List Addr
 fn:Str->Bool
 calm:Bool
 pn:List (Addr × Obj)
 xe:Value->Shared->Prop
def frs (l:List Env):List Addr:=l.filterMap (·.frame)
abbrev Cx.fs (X:Cx):List Addr:=frs X.outer
def Vis (sc:Scope)(x:Str):Prop:=sc.names.lookup x=some .local\/sc.names.lookup x=some .cell\/sc.names.lookup x=some .free
def Loc (sc:Scope)(x:Str):Prop:=sc.names.lookup x=some .local\/sc.names.lookup x=some .cell
def Look (env:Env)(h:Heap)(m:Str->Option Value)(x:Str)(u:Value):Prop :=
 (env.kindOf x=some .local/\m x=some u)\/((env.kindOf x=some .cell\/env.kindOf x=some .free)/\∃ c,env.cells.lookup x=some c/\h.IsCell c (some u))
structure Cx.Ok (X:Cx):Prop where
 mod:Mod X.K X.mg X.base
 kind:X.env.scope.kind=.function
 glob:X.env.globals=mainGlobals
 blt:X.env.builtins=builtinsNs
 above:X.s₀.heap.objs.size<=X.env.locals
 inj:∀ x y c,X.env.cells.lookup x=some c->X.env.cells.lookup y=some c->x=y
 has:∀ x,(X.env.kindOf x=some .cell\/X.env.kindOf x=some .free)->∃ c,X.env.cells.lookup x=some c
 cab:∀ x c,X.fn x=true->X.env.cells.lookup x=some c->X.s₀.heap.objs.size<=c
 hd:X.calm=true->X.A.handled=none
 frames:X.A.frames=some X.stack
 stk:X.stack=X.outer\/(X.stack=X.env::X.outer/\X.env.frame=some X.env.locals)
 exf:∀ b∈X.ex,b≠X.env.locals/\∀ x c,X.env.cells.lookup x=some c->c≠b
 bs:∀ b o,X.base.get? b=some o->X.s₀.heap.get? b=some o/\X.H₀ b=none
 bsz:X.base.objs.size<=X.s₀.heap.objs.size
 noex:∀ b o,X.base.get? b=some o->b∉X.ex
 exfs:∀ b∈X.ex,b∉X.fs
 funs:X.s₀.heap.FunFrames X.base X.outer
 frf:∀ b∈X.fs,X.H₀ b=none
structure Inv (X:Cx) (pins:List (Addr × Obj)) (σ:List (Option V)) (H:Hp) (s:Shared):Prop where
 ok:X.Ok
 os:s.os=X.s₀.os
 bare:AllBare s.gens
 base:Un X.fs X.ex X.H₀ H X.s₀.heap s.heap
 loc:∃ m,s.heap.Ns X.env.locals m/\∀ (i:Nat) (x:Str) (v:V),X.N[i]?=some x->σ[i]?=some (some v)->Vis X.env.scope x->∃ u,yH v u/\Look X.env s.heap m x u
 cell:∀ x c,X.env.cells.lookup x=some c->∃ v,s.heap.IsCell c v
 free:H X.env.locals=none
 freeC:∀ x c,X.env.cells.lookup x=some c->H c=none
 pin:∀ p∈X.pn++pins,s.heap.get? p.1=some p.2/\H p.1=none/\p.1≠X.env.locals/\p.1∉X.fs/\∀ v,p.2.data≠.cell v
 hok:HOk X.prog X.w H s.heap
 len:σ.length=X.N.length
section
variable {X:Cx}{pins:List (Addr × Obj)}{σ:List (Option V)}{H H':Hp}{s:Shared}{h':Heap}
theorem Cx.Ok.nofr (ok:X.Ok){b:Addr}{o:Obj}(e:X.base.get? b=some o):b∉X.fs:=λhb=>by
 have:=(ok.funs.mem hb).1
 rw[e]at this;cases this
theorem Inv.bs (I:Inv X pins σ H s):∀ b o,X.base.get? b=some o->s.heap.get? b=some o/\H b=none:=λb o e =>
 ⟨I.base.keep b o (I.ok.bs b o e).1 (I.ok.bs b o e).2 (I.ok.nofr e) (I.ok.noex b o e),I.base.free b o (I.ok.bs b o e).1 (I.ok.bs b o e).2 (I.ok.noex b o e)⟩
theorem Inv.bk (I:Inv X pins σ H s):∀ b o,X.base.get? b=some o->s.heap.get? b=some o:=λb o e=>(I.bs b o e).1
theorem Inv.mod (I:Inv X pins σ H s):Mod X.K X.mg X.base:=I.ok.mod
theorem Inv.kIn (I:Inv X pins σ H s):X.K.In s.heap:=I.ok.mod.kin.keeps I.bk
theorem Inv.fr (I:Inv X pins σ H s):∃ m,Fr X.base X.env.locals s.heap m :=
 let ⟨m,hn,_⟩:=I.loc
 ⟨m,hn,I.bk,i4 I.ok.bsz I.ok.above⟩
theorem Inv.lt (I:Inv X pins σ H s):X.env.locals < s.heap.objs.size:=let ⟨_,hn,_⟩:=I.loc;hn.lt
theorem Inv.sz (I:Inv X pins σ H s):X.s₀.heap.objs.size<=s.heap.objs.size:=i4 I.ok.above (u0I I.lt)
theorem Inv.nofs (I:Inv X pins σ H s){a:Addr}(h:s.heap.objs.size<=a):a∉X.fs:=λhb=>by
 obtain⟨_,o,ho,_⟩:=I.ok.funs.mem hb
 exact absurd (r6 (t9 ho) (i4 I.sz h)) (u0y _)
theorem Inv.cne (I:Inv X pins σ H s):∀ x c,X.env.cells.lookup x=some c->c≠X.env.locals:=λx c e z=>by
 obtain⟨v,o,ho,hd⟩:=I.cell x c e
 obtain⟨m,⟨o',es,ep,ho',hd',_⟩,_⟩:=I.loc
 rw[z,ho']at ho;cases ho;rw[hd']at hd;cases hd
theorem Inv.funs (I:Inv X pins σ H s):s.heap.FunFrames X.base X.outer:=by
 have all:∀ (l:List Env),(∀ b∈frs l,b∈X.fs)->X.s₀.heap.FunFrames X.base l->s.heap.FunFrames X.base l:=by
  intro l
  induction l with
  | nil=>intro _ _;trivial
  | cons env r ih =>
   intro hs hl
   obtain⟨hk,⟨L,o,hf,hn,ho,hd⟩,hr⟩:=hl
   have hL:L∈X.fs:=hs L (by unfold frs;rw[u2Y,hf];exact g9)
   obtain⟨sl,e⟩:=I.base.slot L o ho (I.ok.frf L hL) hL λz=>I.ok.exfs L z hL
   exact⟨hk,⟨L,_,hf,hn,e,hd⟩,ih (λb hb=>hs b (by unfold frs;rw[u2Y,hf];exact b0 _ hb)) hr⟩
 exact all X.outer (λ_ hb=>hb) I.ok.funs
theorem Inv.stack (I:Inv X pins σ H s):s.heap.FunFrames X.base X.stack:=by
 rcases I.ok.stk with e | ⟨e,hf⟩
 .rw[e];exact I.funs
 .rw[e]
  obtain⟨m,hn,_⟩:=I.loc
  refine .cons (by rw[I.ok.kind];decide) hf hn ?_ I.funs
  exact Heap.get?_none_of_le (i4 I.ok.bsz I.ok.above)
theorem Inv.stkSub (I:Inv X pins σ H s):∀ b∈frs X.stack,b∈X.env.locals::X.fs:=λb hb=>by
 rcases I.ok.stk with e | ⟨e,hf⟩
 .rw[e]at hb;exact b0 _ hb
 .rw[e]at hb
  unfold frs at hb
  rw[u2Y,hf]at hb
  exact hb
theorem Inv.stkFree (I:Inv X pins σ H s):∀ b∈frs X.stack,H b=none:=λb hb=>by
 rcases j5.mp (I.stkSub b hb)with e | hb
 .rw[e];exact I.free
 .obtain⟨_,o,ho,_⟩:=I.ok.funs.mem hb
  exact I.base.free b o ho (I.ok.frf b hb) λz=>I.ok.exfs b z hb
theorem Inv.step {g':Array GenState}{t':Nat}{d':Drawn}{ch:List Addr}(I:Inv X pins σ H s)
 (hch:∀ b∈ch,(b∈X.ex\/X.s₀.heap.objs.size<=b)/\b≠X.env.locals/\(∀ x c,X.env.cells.lookup x=some c->c≠b)/\∀ p∈X.pn++pins,p.1≠b)
 (keep:∀ b o,b≠X.env.locals->b∉X.fs->b∉ch->s.heap.get? b=some o->H b=none->h'.get? b=some o)
 (slot:∀ b o,b≠X.env.locals->b∈X.fs->b∉ch->s.heap.get? b=some o->H b=none->∃ sl,h'.get? b=some { o with slots:=sl }) (free:∀ b o,b∉ch->s.heap.get? b=some o->H b=none->H' b=none)
 (there:∀ b o,b∉ch->s.heap.get? b=some o->∃ o',h'.get? b=some o')
 (tups:∀ b xs,H b=some (.tup xs)->H' b=some (.tup xs)) (frzs:∀ b o u,H b=some (.frz o u)->H' b=some (.frz o u)) (tbls:∀ b ps,H b=some (.tbl ps)->∃ more,H' b=some (.tbl (ps++more)))
 (ns:∀ m,s.heap.Ns X.env.locals m->h'.Ns X.env.locals m) (hok:HOk X.prog X.w H' h') (hg:AllBare g') :
 Inv X pins σ H' { s with heap:=h',gens:=g',drawn:=d',toks:=t' }:=by
 have neL:∀ b o,X.s₀.heap.get? b=some o->b≠X.env.locals:=λb o e=>r8 (r6 (t9 e) I.ok.above)
 have neC:∀ b o,X.s₀.heap.get? b=some o->b∉X.ex->b∉ch:=λb o e hx hb=>by
  rcases(hch b hb).1 with z | z
  .exact hx z
  .exact absurd (r6 (t9 e) z) (u0y _)
 have cellK:∀ x c,X.env.cells.lookup x=some c->∀ v,s.heap.IsCell c v->h'.IsCell c v:=λx c e v ⟨o,ho,hd⟩=>by
  have nch:c∉ch:=λz=>(hch c z).2.2.1 x c e rfl
  by_cases hc:c∈X.fs
  .obtain⟨sl,q⟩:=slot c o (I.cne x c e) hc nch ho (I.freeC x c e)
   exact⟨_,q,hd⟩
  .exact⟨o,keep c o (I.cne x c e) hc nch ho (I.freeC x c e),hd⟩
 refine⟨I.ok,I.os,hg,⟨λb o e n hb hx=>?_,λb o e n hb hx=>?_,λb o e n hx=>?_,λb o e hx=>?_,λb xs e=>tups b xs (I.base.tups b xs e),λb o xs e=>frzs b o xs (I.base.frzs b o xs e),λb ps e=>?_⟩,?_,λx c e=>?_,?_,λx c e=>?_,λp hp=>?_,hok,I.len⟩
 .exact keep b o (neL b o e) hb (neC b o e hx) (I.base.keep b o e n hb hx) (I.base.free b o e n hx)
 .obtain⟨sl,e1⟩:=I.base.slot b o e n hb hx
  obtain⟨sl',e2⟩:=slot b _ (neL b o e) hb (neC b o e hx) e1 (I.base.free b o e n hx)
  exact⟨sl',e2⟩
 .obtain⟨o',e1⟩:=I.base.there b o e hx
  exact free b o' (neC b o e hx) e1 (I.base.free b o e n hx)
 .obtain⟨o',e1⟩:=I.base.there b o e hx
  exact there b o' (neC b o e hx) e1
 .obtain⟨m1,e1⟩:=I.base.tbls b ps e
  obtain⟨m2,e2⟩:=tbls b _ e1
  exact⟨m1++m2,by rw[e2,Array.append_assoc]⟩
 .obtain⟨m,hn,hl⟩:=I.loc
  refine⟨m,ns m hn,λi x v e1 e2 e3=>?_⟩
  obtain⟨u,r,l⟩:=hl i x v e1 e2 e3
  refine⟨u,r,?_⟩
  rcases l with l | ⟨k,c,e,z⟩
  .exact .inl l
  .exact .inr ⟨k,c,e,cellK x c e _ z⟩
 .obtain⟨v,z⟩:=I.cell x c e
  exact⟨v,cellK x c e v z⟩
 .obtain⟨m,⟨o,_,_,ho,_⟩,_⟩:=I.loc
  exact free _ o (λz=>(hch _ z).2.1 rfl) ho I.free
 .obtain⟨v,o,ho,hd⟩:=I.cell x c e
  exact free c o (λz=>(hch c z).2.2.1 x c e rfl) ho (I.freeC x c e)
 .obtain⟨e,n,ne,nf,d⟩:=I.pin p hp
  have nch:p.1∉ch:=λz=>(hch p.1 z).2.2.2 p hp rfl
  exact⟨keep p.1 p.2 ne nf nch e n,free p.1 p.2 nch e n,ne,nf,d⟩
theorem Inv.un {t':Nat}(I:Inv X pins σ H s)(u:Un X.fs [] H H' s.heap h')(hok:HOk X.prog X.w H' h'):Inv X pins σ H' { s with heap:=h',toks:=t' }:=by
 obtain⟨m,⟨o,es,ep,ho,r⟩,_⟩:=id I.loc
 obtain⟨sl,hL⟩:=u.any ho I.free (by simp)
 exact I.step (g':=s.gens) (d':=s.drawn) (ch:=[]) (λ_ z=>nomatch z) (λb o _ hb _ e n=>u.keep b o e n hb (by simp)) (λb o _ hb _ e n=>u.slot b o e n hb (by simp)) (λb o _ e n=>u.free b o e n (by simp)) (λb o _ e=>u.there b o e (by simp)) u.tups u.frzs u.tbls (λm' hm=>by
  obtain⟨o',es',ep',ho',r'⟩:=hm
  rw[ho]at ho';cases ho'
  exact⟨_,es',ep',hL,r'⟩) hok I.bare
theorem Inv.call {g':Array GenState}{t':Nat}{d':Drawn}{ch:List Addr}(I:Inv X pins σ H s)(u:Un (frs X.stack) ch H H' s.heap h')(hok:HOk X.prog X.w H' h')(hg:AllBare g')
 (hch:∀ b∈ch,(b∈X.ex\/X.s₀.heap.objs.size<=b)/\b≠X.env.locals/\(∀ x c,X.env.cells.lookup x=some c->c≠b)/\∀ p∈X.pn++pins,p.1≠b) :
 Inv X pins σ H' { s with heap:=h',gens:=g',drawn:=d',toks:=t' }:=by
 obtain⟨m,⟨o,es,ep,ho,r⟩,_⟩:=id I.loc
 obtain⟨sl,hL⟩:=u.any ho I.free λz=>(hch _ z).2.1 rfl
 exact I.step (ch:=ch) hch (λb o hL hb hc e n=>u.keep b o e n (λz=>(j5.mp (I.stkSub b z)).elim hL hb) hc) (λb o _ _ hc e n=>u.any e n hc) (λb o hc e n=>u.free b o e n hc) (λb o hc e=>u.there b o e hc) u.tups u.frzs u.tbls (λm' hm=>by
  obtain⟨o',es',ep',ho',r'⟩:=hm
  rw[ho]at ho';cases ho'
  exact⟨_,es',ep',hL,r'⟩) hok hg
theorem Inv.turned {t':Nat}{it:Addr}(I:Inv X pins σ H s)(k:∀ b o,b≠it->s.heap.get? b=some o->h'.get? b=some o)(hn:H it=none)(hL:it≠X.env.locals)
 (h1:it∈X.ex\/X.s₀.heap.objs.size<=it) (h2:∀ x c,X.env.cells.lookup x=some c->c≠it) (h3:∀ p∈X.pn++pins,p.1≠it):Inv X pins σ H { s with heap:=h',toks:=t' }:=by
 have nit:∀ b u,H b=some u->b≠it:=λb u e z=>by rw[z,hn]at e;cases e
 refine I.step (g':=s.gens) (d':=s.drawn) (ch:=[it]) (λb hb=>?_) (λb o _ _ hc e _=>k b o (λz=>hc (by simp[z])) e) (λb o _ _ hc e _=>⟨o.slots,k b o (λz=>hc (by simp[z])) e⟩) (λ_ _ _ _ n=>n)
  (λb o hc e=>⟨o,k b o (λz=>hc (by simp[z])) e⟩) (λ_ _ e=>e) (λ_ _ _ e=>e) (λb ps e=>⟨#[],by rw[e];simp⟩) (λm hm=>?_) (λb u e=>?_) I.bare
 .have e:b=it:=by simpa using hb
  subst e
  exact⟨h1,hL,h2,h3⟩
 .obtain⟨o,es,ep,ho,r⟩:=hm
  exact⟨o,es,ep,k _ o (u0P hL) ho,r⟩
 .refine(I.hok b u e).stay (λc v hc q=>k c v ?_ q) (λ_ q=>q) λ_ _ q=>q
  rcases hc with z | z
  .rw[z];exact nit b u e
  .exact nit c _ z
theorem Inv.tok (I:Inv X pins σ H s)(t:Nat):Inv X pins σ H { s with toks:=t }:=I.un (h':=s.heap) (t':=t) Un.refl I.hok
theorem Inv.kept {t':Nat}(I:Inv X pins σ H s)(k:∀ b u,s.heap.get? b=some u->h'.get? b=some u):Inv X pins σ H { s with heap:=h',toks:=t' }:=I.un (Un.kept k) (I.hok.kept k)
theorem Inv.laid {a:Addr}{o:HO}{t':Nat}(I:Inv X pins σ H s)(k:∀ b u,s.heap.get? b=some u->h'.get? b=some u)(hp:s.heap.objs.size<=a)(new:yk X.prog X.w (upd H a o) h' a o) :
 Inv X pins σ (upd H a o) { s with heap:=h',toks:=t' }:=I.un (Un.laid k hp (I.hok.fresh hp)) (I.hok.laid k hp new)
theorem Inv.write {x e:Addr}{o:HO}{t':Nat}(I:Inv X pins σ H s)(mu:Mut (H x))(he:e=x\/H e=some (.own x))(k:∀ b u,b≠e->s.heap.get? b=some u->h'.get? b=some u)(heo:∃ u,h'.get? e=some u)
 (new:yk X.prog X.w (upd H x o) h' x o):Inv X pins σ (upd H x o) { s with heap:=h',toks:=t' }:=I.un (Un.write mu he k heo) (I.hok.write mu he k heo new)
theorem Inv.weak {σ':List (Option V)}(I:Inv X pins σ H s)(hl:σ'.length=σ.length)(w:∀ (i:Nat) v,σ'[i]?=some (some v)->σ[i]?=some (some v)):Inv X pins σ' H s :=
 ⟨I.ok,I.os,I.bare,I.base,let ⟨m,hn,hl'⟩:=I.loc;⟨m,hn,λi x v e1 e2 e3=>hl' i x v e1 (w i v e2) e3⟩,I.cell,I.free,I.freeC,I.pin,I.hok,hl.trans I.len⟩
theorem Inv.pins_of {pins':List (Addr × Obj)}(I:Inv X pins σ H s)(h:∀ p∈pins',s.heap.get? p.1=some p.2/\H p.1=none/\p.1≠X.env.locals/\p.1∉X.fs/\∀ v,p.2.data≠.cell v):Inv X pins' σ H s :=
 ⟨I.ok,I.os,I.bare,I.base,I.loc,I.cell,I.free,I.freeC,λp hp=>(u0r.mp hp).elim (λz=>I.pin p (u0O _ z)) (h p),I.hok,I.len⟩
theorem W4 {N:List Str}(hN:N.Nodup){i j:Nat}{x:Str}(a:N[i]?=some x)(b:N[j]?=some x):i=j:=by
 obtain⟨h1,e1⟩:=t6.mp a
 obtain⟨h2,e2⟩:=t6.mp b
 exact(List.getElem_inj hN).mp (e1.trans e2.symm)
theorem zeL {M:Model}{A:Around}{E:Value->Shared->Prop}{i:Nat}{x:Str}{v:V}{u:Value}{Q:Unit->Shared->Prop}(I:Inv X pins σ H s)(hN:X.N.Nodup)(hi:X.N[i]?=some x)(hx:Loc X.env.scope x)(r:yH v u)
 (h:∀ s',Inv X pins (σ.set i (some v)) H s'->(∃ a,Heap.SameBut a s.heap s'.heap/\(a=X.env.locals\/X.env.cells.lookup x=some a))->Q () s') (hf:X.fn x=true\/X.env.scope.names.lookup x=some .local:=by first | exact .inl rfl | exact .inr rfl | assumption):wpAny M A (storeName X.env x u) Q E s:=by
 obtain⟨m,hn,hl⟩:=id I.loc
 have hcls:(X.env.scope.kind == .class||(X.env.scope.kind == .module&&X.env.locals != X.env.globals))=false:=by rw[I.ok.kind];rfl
 have hiσ:i < σ.length:=by rw[I.len];exact(t6.mp hi).1
 have cne:=I.cne
 have tracked:∀ {a:Addr} {h':Heap},(∃ o,s.heap.get? a=some o/\H a=none)->Heap.SameBut a s.heap h'->HOk X.prog X.w H h':=λ{a h'} ha hs b ob e=>by
  obtain⟨_,_,hfree⟩:=ha
  refine(I.hok b ob e).stay (λc w' hc q=>(hs.2 c ?_).trans q) (λ_ q=>q) λ_ _ q=>q
  rintro rfl
  rcases hc with rfl | hc
  .rw[hfree]at e;cases e
  .rw[hfree]at hc;cases hc
 rcases hx with hk | hk
 .refine wpAny_storeName_local hk hn (λh' hn' hs=>?_) hcls
  obtain⟨oL,_,_,hoL,_⟩:=id hn
  refine h _ ⟨I.ok,I.os,I.bare,⟨λb o e n hb hx=>?_,λb o e n hb hx=>?_,I.base.free,λb o e hx=>?_,I.base.tups,I.base.frzs,I.base.tbls⟩,⟨_,hn',λj y v' e1 e2 e3=>?_⟩,λy c e=>?_,I.free,I.freeC,λp hp=>?_,tracked ⟨oL,hoL,I.free⟩ hs,by simpa using I.len⟩ ⟨_,hs,.inl rfl⟩
  .exact(hs.2 b (r8 (r6 (t9 e) I.ok.above))).trans (I.base.keep b o e n hb hx)
  .obtain⟨sl,e1⟩:=I.base.slot b o e n hb hx
   exact⟨sl,(hs.2 b (r8 (r6 (t9 e) I.ok.above))).trans e1⟩
  .obtain⟨o',e1⟩:=I.base.there b o e hx
   exact⟨o',(hs.2 b (r8 (r6 (t9 e) I.ok.above))).trans e1⟩
  .by_cases hj:j=i
   .subst hj
    rw[hi]at e1;cases e1
    rw[i6 hiσ]at e2
    cases e2
    exact⟨u,r,.inl ⟨hk,by simp⟩⟩
   .rw[d7 (u0P hj)]at e2
    obtain⟨u',r',q⟩:=hl j y v' e1 e2 e3
    refine⟨u',r',?_⟩
    rcases q with ⟨k,e⟩ | ⟨k,c,e,z⟩
    .refine .inl ⟨k,?_⟩
     have:y≠x:=λe=>hj (W4 hN e1 (e ▸ hi))
     simp[this,e]
    .exact .inr ⟨k,c,e,z.sameBut hs (cne y c e)⟩
  .obtain⟨w',z⟩:=I.cell y c e
   exact⟨w',z.sameBut hs (cne y c e)⟩
  .obtain⟨e,n,ne,nf,d⟩:=I.pin p hp
   exact⟨(hs.2 p.1 ne).trans e,n,ne,nf,d⟩
 .have hfn:X.fn x=true:=by
   rcases hf with z | z
   .exact z
   .rw[z]at hk;cases hk
  obtain⟨c,hc⟩:=I.ok.has x (.inl hk)
  obtain⟨w',z⟩:=I.cell x c hc
  refine wpAny_storeName_cell I.ok.kind hk hc z (λh' hc' hs=>?_)
  obtain⟨oc,hoc,hocd⟩:=id z
  refine h { s with heap:=h' } ⟨I.ok,I.os,I.bare,⟨λb o e n hb hx=>?_,λb o e n hb hx=>?_,I.base.free,λb o e hx=>?_,I.base.tups,I.base.frzs,I.base.tbls⟩,⟨m,hn.sameBut hs (u0P (cne x c hc)),λj y v' e1 e2 e3=>?_⟩,λy c' e=>?_,I.free,I.freeC,λp hp=>?_,tracked ⟨oc,hoc,I.freeC x c hc⟩ hs,by simpa using I.len⟩ ⟨c,hs,.inr hc⟩
  .exact(hs.2 b (r8 (r6 (t9 e) (I.ok.cab x c hfn hc)))).trans (I.base.keep b o e n hb hx)
  .obtain⟨sl,e1⟩:=I.base.slot b o e n hb hx
   exact⟨sl,(hs.2 b (r8 (r6 (t9 e) (I.ok.cab x c hfn hc)))).trans e1⟩
  .obtain⟨o',e1⟩:=I.base.there b o e hx
   exact⟨o',(hs.2 b (r8 (r6 (t9 e) (I.ok.cab x c hfn hc)))).trans e1⟩
  .by_cases hj:j=i
   .subst hj
    rw[hi]at e1;cases e1
    rw[i6 hiσ]at e2
    cases e2
    exact⟨u,r,.inr ⟨.inl hk,c,hc,hc'⟩⟩
   .rw[d7 (u0P hj)]at e2
    obtain⟨u',r',q⟩:=hl j y v' e1 e2 e3
    refine⟨u',r',?_⟩
    rcases q with q | ⟨k,c',e,z'⟩
    .exact .inl q
    .refine .inr ⟨k,c',e,z'.sameBut hs ?_⟩
     rintro rfl
     exact hj (W4 hN e1 (I.ok.inj _ _ _ e hc ▸ hi))
  .by_cases hcc:c'=c
   .subst hcc;exact⟨_,hc'⟩
   .obtain⟨w2,z2⟩:=I.cell y c' e
    exact⟨w2,z2.sameBut hs hcc⟩
  .obtain⟨e,n,ne,nf,d⟩:=I.pin p hp
   refine⟨(hs.2 p.1 ?_).trans e,n,ne,nf,d⟩
   intro q
   rw[q,hoc]at e
   have q':oc=p.2:=u0m e
   exact d w' (by rw[<-q'];exact hocd)
theorem WR {M:Model}{A:Around}{E:Value->Shared->Prop}{i:Nat}{x:Str}{v:V}{u:Value}{Q:Unit->Shared->Prop}(I:Inv X pins σ H s)(hN:X.N.Nodup)(hi:X.N[i]?=some x)(hx:Loc X.env.scope x)(r:yH v u)
 (h:∀ s',Inv X pins (σ.set i (some v)) H s'->Q () s') (hf:X.fn x=true\/X.env.scope.names.lookup x=some .local:=by first | exact .inl rfl | exact .inr rfl | assumption):wpAny M A (storeName X.env x u) Q E s :=
 zeL I hN hi hx r (λs' I' _=>h s' I') hf
theorem Inv.call' {s':Shared}{ch:List Addr}(I:Inv X pins σ H s)(ho:s'.os=s.os)(u:Un (frs X.stack) ch H H' s.heap s'.heap)(hok:HOk X.prog X.w H' s'.heap)(hg:AllBare s'.gens)
 (hch:∀ b∈ch,(b∈X.ex\/X.s₀.heap.objs.size<=b)/\b≠X.env.locals/\(∀ x c,X.env.cells.lookup x=some c->c≠b)/\∀ p∈X.pn++pins,p.1≠b):Inv X pins σ H' s':=by
 obtain⟨h',g',d',t',o'⟩:=s'
 have e:o'=s.os:=ho
 subst e
 exact I.call (g':=g') (t':=t') (d':=d') u hok hg hch
end
abbrev XK:=Value->Option Addr->Hp->Prop
abbrev St:=List (Option V)
abbrev VK:=V->Hp->Prop
abbrev TE:=St->Hp->VK->Prop
abbrev TT:=St->Hp->(Bool->Hp->Prop)->Prop
abbrev TA:=St->Hp->(List V->Hp->Prop)->Prop
structure zaq where
 nx:St->Hp->Prop
 rt:VK
 bk:St->Hp->Prop:=λ_ _=>False
 ct:St->Hp->Prop:=λ_ _=>False
abbrev TS:=zaq->St->Hp->Prop
def EP (X:Cx)(pins:List (Addr × Obj))(σ:St)(Q:VK)(u:Value)(s':Shared):Prop:=∃ v H',Inv X pins σ H' s'/\yH v u/\Q v H'
def TP (X:Cx)(pins:List (Addr × Obj))(σ:St)(Q:Bool->Hp->Prop)(b:Bool)(s':Shared):Prop:=∃ H',Inv X pins σ H' s'/\Q b H'
def AP (X:Cx)(pins:List (Addr × Obj))(σ:St)(Q:List V->Hp->Prop)(us:List Value)(s':Shared):Prop:=∃ vs H',Inv X pins σ H' s'/\yt vs us/\Q vs H'
def SP (X:Cx)(pins:List (Addr × Obj))(D:zaq)(f:Flow)(s':Shared):Prop :=
 match f with
 | .next=>∃ σ' H',Inv X pins σ' H' s'/\D.nx σ' H'
 | .brk=>∃ σ' H',Inv X pins σ' H' s'/\D.bk σ' H'
 | .cont=>∃ σ' H',Inv X pins σ' H' s'/\D.ct σ' H'
 | .ret u=>∃ v σ' H',Inv X pins σ' H' s'/\yH v u/\D.rt v H'
def PE (X:Cx)(e:Expr)(t:TE):Prop :=
 ∀ (pins:List (Addr × Obj)) (s:Shared) (σ:St) (H:Hp) (Q:VK),Inv X pins σ H s->t σ H Q->wpAny (model X.prog X.w) X.A (eval e X.env) (EP X pins σ Q) X.xe s
def PT (X:Cx)(e:Expr)(t:TT):Prop :=
 ∀ (pins:List (Addr × Obj)) (s:Shared) (σ:St) (H:Hp) (Q:Bool->Hp->Prop),Inv X pins σ H s->t σ H Q->wpAny (model X.prog X.w) X.A (isTrue e X.env (eval e X.env)) (TP X pins σ Q) X.xe s
def PW (X:Cx)(e:Expr)(t:TT):Prop :=
 ∀ (whole:Sem Value) (pins:List (Addr × Obj)) (s:Shared) (σ:St) (H:Hp) (Q:Bool->Hp->Prop),Inv X pins σ H s->t σ H Q->wpAny (model X.prog X.w) X.A (isTrue e X.env whole) (TP X pins σ Q) X.xe s
theorem PW.pt {X:Cx}{e:Expr}{t:TT}(h:PW X e t):PT X e t:=h _
def PA (X:Cx)(es:List Expr)(t:TA):Prop :=
 ∀ (pos:Pos) (pins:List (Addr × Obj)) (s:Shared) (σ:St) (H:Hp) (Q:List V->Hp->Prop),Inv X pins σ H s->t σ H Q->wpAny (model X.prog X.w) X.A (spliced (backTo pos (starEach es X.env))) (AP X pins σ Q) X.xe s
def PS (X:Cx)(st:Stmt)(t:TS):Prop :=
 ∀ (pins:List (Addr × Obj)) (s:Shared) (σ:St) (H:Hp) (D:zaq),Inv X pins σ H s->t D σ H->wpAny (model X.prog X.w) X.A (exec st X.env) (SP X pins D) X.xe s
def PSs (X:Cx)(st:List Stmt)(t:TS):Prop :=
 ∀ (pins:List (Addr × Obj)) (s:Shared) (σ:St) (H:Hp) (D:zaq),Inv X pins σ H s->t D σ H->wpAny (model X.prog X.w) X.A (execs st X.env) (SP X pins D) X.xe s
theorem thn {α:Type}{t:Sem α}{Q Q':α->Shared->Prop}{M:Model}{A:Around}{E:Value->Shared->Prop}{s:Shared}(h:wpAny M A t Q E s)(hQ:∀ a s,Q a s->Q' a s):wpAny M A t Q' E s:=u0j h hQ λ_ _ x=>x
section
variable {X:Cx}
theorem bin {a b:Expr}{ta tb:TE}(ha:PE X a ta)(hb:PE X b tb){pins:List (Addr × Obj)}{s:Shared}{σ:St}{H:Hp}{R:V->V->Hp->Prop}(I:Inv X pins σ H s)(h:ta σ H λx H1=>tb σ H1 λy H2=>R x y H2)
 {α:Type} {Q:α->Shared->Prop} {f:Value->Value->Sem α}
 (hf:∀ v u s2 x y H2,Inv X pins σ H2 s2->yH x v->yH y u->R x y H2->wpAny (model X.prog X.w) X.A (f v u) Q X.xe s2) :
 wpAny (model X.prog X.w) X.A (eval a X.env) (λv s₁=>wpAny (model X.prog X.w) X.A (eval b X.env) (λu s₂=>wpAny (model X.prog X.w) X.A (f v u) Q X.xe s₂) X.xe s₁) X.xe s:=by
 refine thn (ha pins s σ H _ I h) λv s1 hh9=>?_
 obtain⟨x,H1,I1,r1,q1⟩:=hh9
 refine thn (hb pins s1 σ H1 _ I1 q1) λu s2 hh9=>?_
 obtain⟨y,H2,I2,r2,q2⟩:=hh9
 exact hf v u s2 x y H2 I2 r1 r2 q2
def zaz (i:Nat):TE:=fun σ H Q=>∃ v,σ[i]?=some (some v)/\Q v H
def tC (v:V):TE:=λ_ H Q=>Q v H
theorem zkj {i:Nat} {x:Str} {pos:Pos} (hN:X.N[i]?=some x) (hv:Vis X.env.scope x) (hd:(x == ("__debug__":Str))=false:=by decide) (hcd:(x == ("__classdict__":Str))=false:=by decide):PE X (.Name x pos) (zaz i):=by
 intro pins s σ H Q I h
 obtain⟨v,e,h⟩:=h
 obtain⟨m,hn,hl⟩:=I.loc
 obtain⟨u,r,l⟩:=hl i x v hN e hv
 have fin:EP X pins σ Q u s:=⟨v,H,I,r,h⟩
 rcases l with ⟨hk,hm⟩ | ⟨hk,c,hc,hcell⟩
 .exact wpAny_Name (wpAny_loadName_local I.ok.kind hk hn hm fin) hd
 .rcases hk with hk | hk
  .exact wpAny_Name (wpAny_loadName_cell I.ok.kind hk hc hcell fin) hd
  .exact wpAny_Name (wpAny_loadName_free I.ok.kind hk hc hcell fin hcd) hd
theorem zd {i j pos}:PE X (.Constant (.int i) j pos) (tC (.int i)):=λ_ _ _ H _ I h=>wpAny_Constant_int ⟨.int i,H,I.tok _,⟨_,rfl⟩,h⟩
theorem xg {b j pos}:PE X (.Constant (.bool b) j pos) (tC (.bl b)):=λ_ _ _ H _ I h=>Constant_bool ⟨.bl b,H,I,rfl,h⟩
theorem Xo {j pos}:PE X (.Constant .none j pos) (tC .non):=λ_ _ _ H _ I h=>Constant_none ⟨.non,H,I,rfl,h⟩
theorem zhU {x j pos}:PE X (.Constant (.str x) j pos) (tC (.str x)):=λ_ _ _ H _ I h=>Calls.Constant_str ⟨.str x,H,I.tok _,⟨_,rfl⟩,h⟩
def Gl (X:Cx)(x:Str):Prop:=X.env.kindOf x=some .globalImplicit
theorem Xd {E:Value->Shared->Prop}{pins:List (Addr × Obj)}{s:Shared}{σ:St}{H:Hp}{x:Str}{u:Value}{pos:Pos}{Q:Value->Shared->Prop}(I:Inv X pins σ H s)(hg:Gl X x)(hm:X.mg x=some u)(h:Q u s)
 (hd:(x == ("__debug__":Str))=false:=by decide):wpAny (model X.prog X.w) X.A (eval (.Name x pos) X.env) Q E s :=
 Calls.Name_function_global I.ok.kind hg (Calls.loadGlobal_global (by rw[I.ok.glob];exact I.mod.glob.keeps I.bk) hm h) hd
theorem YN {E:Value->Shared->Prop}{pins:List (Addr × Obj)}{s:Shared}{σ:St}{H:Hp}{x:Str}{u:Value}{pos:Pos}{Q:Value->Shared->Prop}(I:Inv X pins σ H s)(hg:Gl X x)(hm:X.mg x=none)(hv:bootBuiltins x=some u)(h:Q u s)
 (hn:x≠"__name__":=by decide) (hd:(x == ("__debug__":Str))=false:=by decide):wpAny (model X.prog X.w) X.A (eval (.Name x pos) X.env) Q E s:=by
 obtain⟨mb,h1,h2⟩:=I.mod.blt
 exact Calls.Name_function_global I.ok.kind hg (Calls.loadGlobal_builtin (by rw[I.ok.glob];exact I.mod.glob.keeps I.bk) hm (by rw[I.ok.blt];exact h1.keeps I.bk) ((h2 x hn).trans hv) h) hd
theorem y9 {x:Str} {v:V} {u:Value} {pos:Pos} (hg:Gl X x) (hm:X.mg x=some u) (r:yH v u) (hd:(x == ("__debug__":Str))=false:=by decide):PE X (.Name x pos) (tC v) :=
 λ_ _ _ H _ I h=>Xd I hg hm ⟨v,H,I,r,h⟩ hd
theorem zJ {x:Str} {v:V} {u:Value} {pos:Pos} (hg:Gl X x) (hm:X.mg x=none) (hv:bootBuiltins x=some u) (r:yH v u) (hn:x≠"__name__":=by decide) (hd:(x == ("__debug__":Str))=false:=by decide):PE X (.Name x pos) (tC v) :=
 λ_ _ _ H _ I h=>YN I hg hm hv ⟨v,H,I,r,h⟩ hn hd
variable {a b:Expr}{ta tb:TE}{pos:Pos}
def PC (X:Cx)(op:CmpOp)(a b:Expr)(t:TE):Prop :=
 ∀ (pins:List (Addr × Obj)) (s:Shared) (σ:St) (H:Hp) (Q:VK),Inv X pins σ H s->t σ H Q ->
  wpAny (model X.prog X.w) X.A (eval a X.env) (λv s₁=>wpAny (model X.prog X.w) X.A (eval b X.env) (λu s₂=>wpAny (model X.prog X.w) X.A (compareOp op v u) (EP X pins σ Q) X.xe s₂) X.xe s₁) X.xe s
theorem zg4 (b:Expr){op:CmpOp}(h:op≠.In)(h2:op≠.NotIn):behindInMarks op b=false:=by
 have e1:(op == CmpOp.In)=false:=by cases op <;> first | rfl | exact absurd rfl h
 have e2:(op == CmpOp.NotIn)=false:=by cases op <;> first | rfl | exact absurd rfl h2
 cases b <;> simp[behindInMarks,e1,e2]
def tB (t:TE):TT:=fun σ H Q=>t σ H λx H1=>∃ c,x=.bl c/\Q c H1
theorem pt_cmp {op:CmpOp}{t:TE}(h:PC X op a b t)(h1:behindInMarks op b=false:=by first | exact zg4 _ (by decide) (by decide) | rfl):PT X (.Compare a [op] [b] pos) (tB t):=by
 intro pins s σ H Q I hw
 refine wpAny_isTrue_Compare1 (thn (h pins s σ H _ I hw) λv s1 h1=>thn h1 λu s2 h2=>thn h2 λc s3 hh9=>?_) h1
 obtain⟨x,H1,I1,r1,q1⟩:=hh9
 obtain⟨d,rfl,q⟩:=q1
 cases r1
 exact u07 ⟨H1,I1,q⟩
theorem zhF {e:Expr}{t:TE}(h:PE X e t)(he:∀ whole,isTrue e X.env whole=(do let v<-whole;standAt e.pos;holding [v] (truthy v)):=by intro _;rfl):PT X e (tB t):=by
 intro pins s σ H Q I hw
 refine isTrue_plain (thn (h pins s σ H _ I hw) λv s1 hh9=>?_) (he _)
 obtain⟨x,H1,I1,r1,q1⟩:=hh9
 obtain⟨d,rfl,q⟩:=q1
 cases r1
 exact u07 ⟨H1,I1,q⟩
variable {tA tB':TT}{rest:List Expr}
def tAnd (t u:TT):TT:=fun σ H Q=>t σ H λc H1=>if c=true then u σ H1 Q else Q false H1
def tOr (t u:TT):TT:=fun σ H Q=>t σ H λc H1=>if c=true then Q true H1 else u σ H1 Q
def tNot (t:TT):TT:=fun σ H Q=>t σ H λc H1=>Q (!c) H1
theorem zjc (ha:PT X a tA):PW X (.BoolOp .And [a] pos) tA:=by
 intro wh pins s σ H Q I h
 refine isTrue_and (thn (ha pins s σ H Q I h) λc s1 e=>?_)
 cases c with
 | true=>exact isTrue_and_nil e
 | false=>exact e
theorem zhH (ha:PT X a tA):PW X (.BoolOp .Or [a] pos) tA:=by
 intro wh pins s σ H Q I h
 refine isTrue_or (thn (ha pins s σ H Q I h) λc s1 e=>?_)
 cases c with
 | false=>exact isTrue_or_nil e
 | true=>exact e
theorem zla (ha:PT X a tA)(hb:PW X (.BoolOp .And (b::rest) pos) tB'):PW X (.BoolOp .And (a::b::rest) pos) (tAnd tA tB'):=by
 intro wh pins s σ H Q I h
 refine isTrue_and (thn (ha pins s σ H _ I h) λc s1 hh9=>?_)
 obtain⟨H1,I1,q1⟩:=hh9
 cases c with
 | true=>exact hb wh pins s1 σ H1 Q I1 q1
 | false=>exact⟨H1,I1,q1⟩
theorem zlG (ha:PT X a tA)(hb:PW X (.BoolOp .Or (b::rest) pos) tB'):PW X (.BoolOp .Or (a::b::rest) pos) (tOr tA tB'):=by
 intro wh pins s σ H Q I h
 refine isTrue_or (thn (ha pins s σ H _ I h) λc s1 hh9=>?_)
 obtain⟨H1,I1,q1⟩:=hh9
 cases c with
 | true=>exact⟨H1,I1,q1⟩
 | false=>exact hb wh pins s1 σ H1 Q I1 q1
theorem zhK (ha:PT X a tA):PT X (.UnaryOp .Not a pos) (tNot tA):=by
 intro pins s σ H Q I h
 exact isTrue_not (ha pins s σ H (λc H1=>Q (!c) H1) I h)
def zmJ (ta tb:TE):TE:=fun σ H Q=>ta σ H λx H1=>∃ c,x=.bl c/\if c=true then tb σ H1 Q else Q (.bl false) H1
def zmw (ta:TE):TE:=fun σ H Q=>ta σ H λx H1=>∃ c,x=.bl c/\Q (.bl (!c)) H1
theorem zj0 {op}{t:TE}(h:PE X a t):PE X (.BoolOp op [a] pos) t:=λpins s σ H Q I hw=>BoolOp_one (h pins s σ H Q I hw)
theorem zlL (ha:PE X a ta)(hb:PE X (.BoolOp .And (b::rest) pos) tb):PE X (.BoolOp .And (a::b::rest) pos) (zmJ ta tb):=by
 intro pins s σ H Q I h
 refine BoolOp_and (thn (ha pins s σ H _ I h) λv s1 hh9=>?_)
 obtain⟨x,H1,I1,r1,q1⟩:=hh9
 obtain⟨c,rfl,q1⟩:=q1
 cases r1
 refine u07 ?_
 cases c with
 | true=>exact hb pins s1 σ H1 Q I1 q1
 | false=>exact⟨.bl false,H1,I1,rfl,q1⟩
theorem zlb (ha:PE X a ta):PE X (.UnaryOp .Not a pos) (zmw ta):=by
 intro pins s σ H Q I h
 refine UnaryOp_ (thn (ha pins s σ H _ I h) λv s1 hh9=>?_)
 obtain⟨x,H1,I1,r1,q1⟩:=hh9
 obtain⟨c,rfl,q1⟩:=q1
 cases r1
 exact not_of (u07 ⟨.bl (!c),H1,I1,rfl,q1⟩)
end
def SqL (K:W.Frag)(H:Hp)(a:Addr)(xs:List V):Prop :=
 Rd H a (.lst xs) \/
  ∃ (o:Obj) (its:Array Value) (n:Nat),K.lookup a=some o/\o.cls=.type "list"/\o.dict=none/\o.data=.seq its n/\its.size<=sizeLine/\yt xs its.toList
def SqT (K:W.Frag)(H:Hp)(a:Addr)(xs:List V):Prop :=
 Rd H a (.tup xs) \/
  ∃ (o:Obj) (its:Array Value) (n:Nat),K.lookup a=some o/\o.cls=.type "tuple"/\o.data=.seq its n/\its.size<=sizeLine/\yt xs its.toList
def absV:Value->Option V
 | .none=>some .non
 | .bool b=>some (.bl b)
 | .int i _=>some (.int i)
 | .str x _=>some (.str x)
 | .bytes b _=>some (.byt b)
 | .float b _=>some (.flt b)
 | .ref a=>some (.ref a)
 | .type n=>some (.ty n)
 | _=>none
theorem yH.abs {x:V}{u:Value}(r:yH x u):absV u=some x:=by
 cases x with
 | non=>cases r;rfl
 | bl _=>cases r;rfl
 | int _=>obtain⟨t,rfl⟩:=r;rfl
 | str _=>obtain⟨t,rfl⟩:=r;rfl
 | byt _=>obtain⟨t,rfl⟩:=r;rfl
 | flt _=>obtain⟨t,rfl⟩:=r;rfl
 | ref _=>cases r;rfl
 | ty _=>cases r;rfl
theorem yH.inj {x y:V}{u:Value}(r:yH x u)(q:yH y u):x=y:=u0m (r.abs.symm.trans q.abs)
theorem yt.inj:∀ {xs ys:List V} {us:List Value},yt xs us->yt ys us->xs=ys:=by
 intro xs ys us h
 induction h generalizing ys with
 | nil=>intro h2;cases h2;rfl
 | cons r t ih=>intro h2;cases h2 with | cons r' t'=>rw[r.inj r',ih t']
section
variable {X:Cx}{pins:List (Addr × Obj)}{σ:St}{H:Hp}{s:Shared}{a:Addr}{xs ys:List V}
theorem SqL.of {K:W.Frag}(h:H a=some (.lst xs)):SqL K H a xs:=.inl (.inl h)
theorem SqT.of {K:W.Frag}(h:H a=some (.tup xs)):SqT K H a xs:=.inl (.inl h)
theorem Inv.list (I:Inv X pins σ H s)(h:SqL X.K H a xs):∃ its:List Value,yt xs its/\PlainL s.heap a its.toArray/\xs.length<=sizeLine:=by
 rcases h with h | ⟨o,its,n,hk,hc,hd,hs,hz,r⟩
 .obtain⟨z,its,n,r,e⟩:=h.ok I.hok
  exact⟨its,r,⟨_,n,e,rfl,rfl,rfl⟩,z⟩
 .refine⟨its.toList,r,⟨o,n,I.kIn a o hk,hc,hd,by simpa using hs⟩,?_⟩
  have e:=r.length
  simp only[t7]at e
  omega
theorem Inv.tuple (I:Inv X pins σ H s)(h:SqT X.K H a xs):∃ its:List Value,yt xs its/\IsTup s.heap a its.toArray/\xs.length<=sizeLine:=by
 rcases h with h | ⟨o,its,n,hk,hc,hs,hz,r⟩
 .obtain⟨z,its,r,p⟩:=h.ok I.hok
  exact⟨its,r,p,z⟩
 .refine⟨its.toList,r,⟨o,I.kIn a o hk,hc,n,by simpa using hs⟩,?_⟩
  have e:=r.length
  simp only[t7]at e
  omega
theorem Inv.list_inj (I:Inv X pins σ H s)(h:SqL X.K H a xs)(h':SqL X.K H a ys):xs=ys:=by
 obtain⟨its,r,⟨o,n,e,_,_,d⟩,_⟩:=I.list h
 obtain⟨its',r',⟨o',n',e',_,_,d'⟩,_⟩:=I.list h'
 rw[e]at e';cases e'
 rw[d]at d'
 injection d' with d1 _
 have:its=its':=by simpa using u0M Array.toList d1
 subst this
 exact r.inj r'
theorem Inv.tuple_inj (I:Inv X pins σ H s)(h:SqT X.K H a xs)(h':SqT X.K H a ys):xs=ys:=by
 obtain⟨its,r,⟨o,e,_,n,d⟩,_⟩:=I.tuple h
 obtain⟨its',r',⟨o',e',_,n',d'⟩,_⟩:=I.tuple h'
 rw[e]at e';cases e'
 rw[d]at d'
 injection d' with d1 _
 have:its=its':=by simpa using u0M Array.toList d1
 subst this
 exact r.inj r'
end
abbrev Cx.wish (X:Cx)(E:Value->Shared->Prop):Cx:={ X with xe:=E }
abbrev Cx.nox (X:Cx):Cx:=X.wish λ_ _=>False
theorem Cx.Ok.wish {X:Cx}(ok:X.Ok)(E:Value->Shared->Prop):(X.wish E).Ok :=
 ⟨ok.mod,ok.kind,ok.glob,ok.blt,ok.above,ok.inj,ok.has,ok.cab,ok.hd,ok.frames,ok.stk,ok.exf,ok.bs,ok.bsz,ok.noex,ok.exfs,ok.funs,ok.frf⟩
theorem Cx.Ok.unwish {X:Cx}{E:Value->Shared->Prop}(ok:(X.wish E).Ok):X.Ok :=
 ⟨ok.mod,ok.kind,ok.glob,ok.blt,ok.above,ok.inj,ok.has,ok.cab,ok.hd,ok.frames,ok.stk,ok.exf,ok.bs,ok.bsz,ok.noex,ok.exfs,ok.funs,ok.frf⟩
section
variable {X:Cx}{pins:List (Addr × Obj)}{σ:St}{H:Hp}{s:Shared}{E:Value->Shared->Prop}
theorem Inv.wish (I:Inv X pins σ H s)(E:Value->Shared->Prop):Inv (X.wish E) pins σ H s:=⟨I.ok.wish E,I.os,I.bare,I.base,I.loc,I.cell,I.free,I.freeC,I.pin,I.hok,I.len⟩
theorem Inv.unwish (I:Inv (X.wish E) pins σ H s):Inv X pins σ H s:=⟨I.ok.unwish,I.os,I.bare,I.base,I.loc,I.cell,I.free,I.freeC,I.pin,I.hok,I.len⟩
theorem SP.unwish {D:zaq}{f:Flow}{s':Shared}(h:SP (X.wish E) pins D f s'):SP X pins D f s':=by
 cases f with
 | next=>obtain⟨σ',H',I,q⟩:=h;exact⟨σ',H',I.unwish,q⟩
 | brk=>obtain⟨σ',H',I,q⟩:=h;exact⟨σ',H',I.unwish,q⟩
 | cont=>obtain⟨σ',H',I,q⟩:=h;exact⟨σ',H',I.unwish,q⟩
 | ret u=>obtain⟨v,σ',H',I,r,q⟩:=h;exact⟨v,σ',H',I.unwish,r,q⟩
theorem PSs.nox {st:List Stmt}{t:TS}(h:PSs X.nox st t):PSs X st t:=λpins s σ H D I hw =>
 u0j (h pins s σ H D (I.wish _) hw) (λ_ _ q=>q.unwish) λ_ _ z=>False.elim z
end
section
variable {X:Cx}{st:Stmt}{rest:List Stmt}{t u:TS}{e:Expr}{te:TE}{pos:Pos}
def ziR:TS:=λD σ H=>D.nx σ H
def zmk (t u:TS):TS:=λD σ H=>t { D with nx:=u D } σ H
theorem zbg:PSs X [] ziR:=λ_ _ σ H _ I h=>u3b ⟨σ,H,I,h⟩
theorem we (h1:PS X st t)(h2:PSs X rest u):PSs X (st::rest) (zmk t u):=by
 intro pins s σ H D I h
 refine wpAny_execs_cons (thn (h1 pins s σ H { D with nx:=u D } I h) λf s1 q=>?_)
 cases f with
 | next =>
  obtain⟨σ',H',I',q⟩:=q
  exact h2 pins s1 σ' H' D I' q
 | ret v=>exact q
 | brk=>exact q
 | cont=>exact q
theorem Yw (h1:PS X st t):PSs X [st] t:=by
 intro pins s σ H D I h
 refine wpAny_execs_cons (thn (h1 pins s σ H D I h) λf s1 q=>?_)
 cases f with
 | next=>exact u3b q
 | ret v=>exact q
 | brk=>exact q
 | cont=>exact q
theorem Inv.quiet {pins:List (Addr × Obj)}{σ:St}{H:Hp}{s:Shared}(I:Inv X pins σ H s):interactive X.env=false:=by simp[interactive,I.ok.kind]
def zmh (te:TE):TS:=λD σ H=>te σ H λ_ H1=>D.nx σ H1
theorem zaX (he:PE X e te)(hs:swapsWith e none pos.line X.env=pure false:=by rfl):PS X (.Expr e pos) (zmh te):=by
 intro pins s σ H D I h
 exact wpAny_Expr_any (thn (he pins s σ H _ I h) λv s1 ⟨x,H1,I1,r1,q1⟩=>⟨σ,H1,I1,q1⟩) I.quiet hs
def zmG (te:TE):TS:=λD σ H=>te σ H D.rt
theorem V0 (he:PE X e te):PS X (.Return (some e) pos) (zmG te):=by
 intro pins s σ H D I h
 exact wpAny_Return_some (thn (he pins s σ H _ I h) λv s1 ⟨x,H1,I1,r1,q1⟩=>⟨x,σ,H1,I1,r1,q1⟩)
def zmr (c:TT)(t u:TS):TS:=λD σ H=>c σ H λb H1=>if b=true then t D σ H1 else u D σ H1
theorem zg2 {c:Expr}{a b:List Stmt}{tc:TT}(hc:PT X c tc)(ha:PSs X a t)(hb:PSs X b u):PS X (.If c a b pos) (zmr tc t u):=by
 intro pins s σ H D I h
 refine wpAny_If (thn (hc pins s σ H _ I h) λd s1 hh9=>?_)
 obtain⟨H1,I1,q1⟩:=hh9
 cases d with
 | true=>exact ha pins s1 σ H1 D I1 q1
 | false=>exact hb pins s1 σ H1 D I1 q1
def zkA:TS:=λ_ _ _=>False
theorem zcf:PS X st zkA:=λ_ _ _ _ _ _ h=>h.elim
end
abbrev TG:=V->St->Hp->(St->Hp->Prop)->Prop
abbrev TGs:=List V->St->Hp->(St->Hp->Prop)->Prop
def PG (X:Cx)(target:Expr)(t:TG):Prop :=
 ∀ (pins:List (Addr × Obj)) (s:Shared) (σ:St) (H:Hp) (v:V) (u:Value) (Q:St->Hp->Prop),Inv X pins σ H s->yH v u->t v σ H Q ->
  wpAny (model X.prog X.w) X.A (assign target X.env u) (λ_ s'=>∃ σ' H',Inv X pins σ' H' s'/\Q σ' H') X.xe s
def PGs (X:Cx)(ts:List Expr)(t:TGs):Prop :=
 ∀ (pins:List (Addr × Obj)) (s:Shared) (σ:St) (H:Hp) (vs:List V) (us:List Value) (Q:St->Hp->Prop),Inv X pins σ H s->yt vs us->t vs σ H Q ->
  wpAny (model X.prog X.w) X.A (assignInOrder ((assignEach ts X.env).map (·.2)) us) (λ_ s'=>∃ σ' H',Inv X pins σ' H' s'/\Q σ' H') X.xe s
section
variable {X:Cx}{pos:Pos}
def YX (i:Nat):TG:=λv σ H Q=>Q (σ.set i (some v)) H
theorem zO {i:Nat}{x:Str}(hN:X.N.Nodup)(hi:X.N[i]?=some x)(hx:Loc X.env.scope x)(hf:X.fn x=true\/X.env.scope.names.lookup x=some .local:=by first | exact .inl rfl | exact .inr rfl | assumption):PG X (.Name x pos) (YX i):=by
 intro pins s σ H v u Q I r h
 exact wpAny_assign_Name (WR I hN hi hx r (λs' I'=>⟨_,H,I',h⟩) hf)
def zlZ:TGs:=λvs σ H Q=>vs=[]/\Q σ H
def zbj (t:TG)(u:TGs):TGs:=λvs σ H Q=>∃ v r,vs=v::r/\t v σ H fun σ' H'=>u r σ' H' Q
theorem zem:PGs X [] zlZ:=by
 intro pins s σ H vs us Q I r h
 obtain⟨e,h⟩:=h
 subst e
 cases r
 exact assignInOrder_nil ⟨σ,H,I,h⟩
theorem Vd {e:Expr}{es:List Expr}{t:TG}{u:TGs}(h1:PG X e t)(h2:PGs X es u)
 (hs:(assignEach (e::es) X.env).map (·.2)=assign e X.env::(assignEach es X.env).map (·.2):=by rfl):PGs X (e::es) (zbj t u):=by
 intro pins s σ H vs us Q I r h
 obtain⟨v,vr,e1,h⟩:=h
 subst e1
 cases r with
 | cons r rr =>
  rw[hs]
  refine assignInOrder_cons (thn (h1 pins s σ H _ _ _ I r h) λ_ s1 hh9=>?_)
  obtain⟨σ1,H1,I1,q1⟩:=hh9
  exact h2 pins s1 σ1 H1 _ _ Q I1 rr q1
def zlT (K:W.Frag)(n:Nat)(t:TGs):TG:=λv σ H Q=>∃ a xs,v=.ref a/\SqT K H a xs/\xs.length=n/\t xs σ H Q
theorem zh5 {es:List Expr}{k:Nat}{t:TGs}{n:Nat}(hc:X.calm=true)(h:PGs X es t)
 (hn:(assignEach es X.env).length=n:=by rfl) (hst:(assignEach es X.env).findIdx? (·.1)=none:=by rfl):PG X (.Tuple es k pos) (zlT X.K n t):=by
 intro pins s σ H v u Q I r hw
 obtain⟨a,xs,e1,hq,hl,hw⟩:=hw
 subst e1
 cases r
 obtain⟨its,rv,ht,hz⟩:=I.tuple hq
 refine assign_Tuple_tuple (I.ok.hd hc) ht (by simp[hn,<- hl,rv.length]) hst λh' hx=>?_
 have I1:Inv X pins σ H { s with heap:=h' }:=I.kept (t':=s.toks) λb o e=>hx b o (r8 (t9 e)) e
 exact h pins _ σ H xs _ Q I1 (by simpa using rv) hw
def zmC (te:TE)(g:TG):TS:=λD σ H=>te σ H λx H1=>g x σ H1 D.nx
theorem ZC {i:Nat}{x:Str}{e:Expr}{te:TE}{pos':Pos}(hN:X.N.Nodup)(hi:X.N[i]?=some x)(hx:Loc X.env.scope x)(he:PE X e te)(hs:swapsWith e (some (.Name x pos')) pos.line X.env=pure false:=by rfl)(hf:X.fn x=true\/X.env.scope.names.lookup x=some .local:=by first | exact .inl rfl | exact .inr rfl | assumption) :
 PS X (.Assign [.Name x pos'] e pos) (zmC te (YX i)):=by
 intro pins s σ H D I h
 refine wpAny_Assign_Name (thn (he pins s σ H _ I h) λv s1 hh9=>?_) hs
 obtain⟨y,H1,I1,r1,q1⟩:=hh9
 exact WR I1 hN hi hx r1 (λs2 I2=>⟨_,H1,I2,q1⟩) hf
end
structure It where
 go:Nat->Hp->Prop
 yld:Nat->Hp->V->Hp->Prop
 stop:Nat->Hp->Prop
def zbX (X:Cx)(pins:List (Addr × Obj))(H:Hp)(b:Addr):Prop :=
 H b=none/\b≠X.env.locals/\b∉X.fs/\(b∈X.ex\/X.s₀.heap.objs.size<=b)/\(∀ x c,X.env.cells.lookup x=some c->c≠b)/\∀ p∈X.pn++pins,p.1≠b
theorem Inv.fpOk {X:Cx}{pins:List (Addr × Obj)}{σ:St}{H H':Hp}{s:Shared}{b:Addr}(I:Inv X pins σ H s)(hb:s.heap.objs.size<=b)(hn:H' b=none):zbX X pins H' b:=by
 refine⟨hn,u1T (r6 I.lt hb),I.nofs hb,.inr (i4 I.sz hb),λx c e z=>?_,λp hp z=>?_⟩
 .obtain⟨v,q⟩:=I.cell x c e
  exact absurd (r6 q.lt (by rw[z];exact hb)) (u0y _)
 .exact absurd (r6 (t9 (I.pin p hp).1) (by rw[z];exact hb)) (u0y _)
structure zjp (P:Program) (w:World) (K:W.Frag) (tg:Expr) (J:It) (fp:List Addr) (it:Addr) (tn:Nat->Heap->Prop):Prop where
 mem:it∈fp
 obj:∀ i h,tn i h->∀ b∈fp,∃ o,h.get? b=some o/\∀ v,o.data≠.cell v
 keep:∀ i h h',tn i h->(∀ b∈fp,∀ o,h.get? b=some o->h'.get? b=some o)->tn i h'
 item:∀ (X:Cx),X.prog=P->X.w=w->X.K=K->X.calm=true->∀ (i:Nat) (pins:List (Addr × Obj)) (s:Shared) (σ:St) (H:Hp) (E:Value->Shared->Prop),Inv X pins σ H s->(∀ b∈fp,zbX X pins H b)->tn i s.heap->J.go i H ->
  wpAny (model P w) X.A (pyNext (.ref it)) (λr s1=>∃ u,r=some u /\
   wpAny (model P w) X.A (letOwnedTupleGo tg (.ref it) u) (λ_ s2=>∃ x H',Inv X pins σ H' s2/\yH x u/\J.yld i H x H'/\tn (i+1) s2.heap/\∀ b∈fp,H' b=none) E s1) E s
 done:∀ (X:Cx),X.prog=P->X.w=w->X.K=K->X.calm=true->∀ (i:Nat) (pins:List (Addr × Obj)) (s:Shared) (σ:St) (H:Hp) (E:Value->Shared->Prop),Inv X pins σ H s->(∀ b∈fp,zbX X pins H b)->tn i s.heap->J.stop i H ->
  wpAny (model P w) X.A (pyNext (.ref it)) (λr s1=>r=none/\Inv X pins σ H s1) E s
 self:∀ (A:Around) (i:Nat) (s:Shared) (Q:Value->Shared->Prop) (E:Value->Shared->Prop),tn i s.heap->Q (.ref it) s->wpAny (model P w) A (pyIter (.ref it)) Q E s
abbrev TI:=St->Hp->(It->Hp->Prop)->Prop
def PIE (X:Cx)(pins:List (Addr × Obj))(σ:St)(tg:Expr)(R:It->Hp->Prop)(itv:Value)(s2:Shared):Prop :=
 ∃ (it:Addr) (fp:List Addr) (tn:Nat->Heap->Prop) (J:It) (H':Hp),itv=.ref it/\Inv X pins σ H' s2/\zjp X.prog X.w X.K tg J fp it tn/\tn 0 s2.heap/\(∀ b∈fp,zbX X pins H' b)/\R J H'
def PI (X:Cx)(tg iter:Expr)(wi:TI):Prop :=
 ∀ (pins:List (Addr × Obj)) (s:Shared) (σ:St) (H:Hp) (R:It->Hp->Prop),Inv X pins σ H s->wi σ H R ->
  wpAny (model X.prog X.w) X.A (eval iter X.env) (λv s1=>wpAny (model X.prog X.w) X.A (pyIter v) (PIE X pins σ tg R) X.xe s1) X.xe s
theorem ziE {M:Model}{A:Around}{E:Value→Shared→Prop}{s:Shared}{tg:Expr}{it:Addr}{u:Value}{o:Obj}{n:String}{vs:Array Value}{Q:Unit→Shared→Prop}(ho:s.heap.get? it=some o)(hc:o.cls=.type n)(hd:o.data=.fields vs)
    (hn:["enumerate","zip","dict_itemiterator","dict_reverseitemiterator","odict_iterator","itertools.zip_longest","itertools.pairwise"].contains n=false) (hQ:Q () s):wpAny M A (letOwnedTupleGo tg (.ref it) u) Q E s:=by
  unfold letOwnedTupleGo
  cases tg <;> first
    | exact u6 hQ
    | (cases u <;> first
        | exact u6 hQ
        | (refine u0 (wpAny_load ho ?_)
           rw [hc,hd]
           show wpAny M A (if (["enumerate","zip","dict_itemiterator","dict_reverseitemiterator","odict_iterator","itertools.zip_longest","itertools.pairwise"].contains n&&vs[0]? == some (rawInt _))=true then _ else _) Q E s
           rw [j4 (by intro h;rw [hn,Bool.false_and] at h;cases h)]
           exact u6 hQ))
def Itl (K:W.Frag)(a:Addr):It :=
 ⟨λi H=>∃ xs x,SqL K H a xs/\xs[i]?=some x,λi H x H'=>H'=H/\∀ xs,SqL K H a xs->xs[i]?=some x,λi H=>∃ xs,SqL K H a xs/\xs.length<=i⟩
def Itt (K:W.Frag)(a:Addr):It :=
 ⟨λi H=>∃ xs x,SqT K H a xs/\xs[i]?=some x,λi H x H'=>H'=H/\∀ xs,SqT K H a xs->xs[i]?=some x,λi H=>∃ xs,SqT K H a xs/\xs.length<=i⟩
def Itr (lo:Int)(n:Nat):It:=⟨λi _=>i < n,λi H x H'=>H'=H/\x=.int (lo+i),λi _=>n<=i⟩
theorem zdJ {P:Program}{w:World}{K:W.Frag}{tg:Expr}(a it:Addr):zjp P w K tg (Itl K a) [it] it (λi h=>h.IsListIter it a i) where
 mem:=by simp
 obj:=λi h st b hb=>by
  have e:b=it:=by simpa using hb
  subst e
  obtain⟨o,e,c,d⟩:=st
  exact⟨o,e,λv z=>by rw[d]at z;cases z⟩
 keep:=λi h h' st k=>st.at λo e=>k it (by simp) o e
 item:=by
  intro X hP hw hK hc i pins s σ H E I hf st hg
  subst hP hw hK
  obtain⟨xs,x,hq,hx⟩:=hg
  obtain⟨its,rv,p,hz⟩:=I.list hq
  obtain⟨u,hu,ru⟩:=rv.get hx
  obtain⟨f0,f1,f2,f3,f4,f5⟩:=hf it (by simp)
  refine wpAny_pyNext_list_item st p.isList (x:=u) (by simpa using hu) λh' st' sb=>?_
  have I1:Inv X pins σ H { s with heap:=h' }:=I.turned (t':=s.toks) (λb o hb e=>(sb.2 b hb).trans e) f0 f1 f3 f4 f5
  obtain⟨o,e,c,d⟩:=id st'
  exact⟨u,rfl,ziE (s:={ s with heap:=h' }) e c d (by decide) ⟨x,H,I1,ru,⟨rfl,λys hy=>by rw[I.list_inj hy hq];exact hx⟩,st',λb hb=>(hf b hb).1⟩⟩
 done:=by
  intro X hP hw hK hc i pins s σ H E I hf st hg
  subst hP hw hK
  obtain⟨xs,hq,hx⟩:=hg
  obtain⟨its,rv,p,hz⟩:=I.list hq
  obtain⟨f0,f1,f2,f3,f4,f5⟩:=hf it (by simp)
  have hl:=rv.length
  exact wpAny_pyNext_list_end (I.ok.hd hc) st p.isList (by simp;omega) λh' eb=>⟨rfl,I.turned (t':=s.toks) (λb o hb e=>eb b o hb e) f0 f1 f3 f4 f5⟩
 self:=λ_ _ _ _ _ st h=>wpAny_pyIter_listiter st h
theorem zcZ {P:Program}{w:World}{K:W.Frag}{tg:Expr}(a it:Addr):zjp P w K tg (Itt K a) [it] it (λi h=>h.IsTupleIter it a i) where
 mem:=by simp
 obj:=λi h st b hb=>by
  have e:b=it:=by simpa using hb
  subst e
  obtain⟨o,e,c,d⟩:=st
  exact⟨o,e,λv z=>by rw[d]at z;cases z⟩
 keep:=λi h h' st k=>st.at λo e=>k it (by simp) o e
 item:=by
  intro X hP hw hK hc i pins s σ H E I hf st hg
  subst hP hw hK
  obtain⟨xs,x,hq,hx⟩:=hg
  obtain⟨its,rv,p,hz⟩:=I.tuple hq
  obtain⟨u,hu,ru⟩:=rv.get hx
  obtain⟨f0,f1,f2,f3,f4,f5⟩:=hf it (by simp)
  refine wpAny_pyNext_tuple_item st (show s.heap.IsTuple a its.toArray from p) (x:=u) (by simpa using hu) λh' st' sb=>?_
  have I1:Inv X pins σ H { s with heap:=h' }:=I.turned (t':=s.toks) (λb o hb e=>(sb.2 b hb).trans e) f0 f1 f3 f4 f5
  obtain⟨o,e,c,d⟩:=id st'
  exact⟨u,rfl,ziE (s:={ s with heap:=h' }) e c d (by decide) ⟨x,H,I1,ru,⟨rfl,λys hy=>by rw[I.tuple_inj hy hq];exact hx⟩,st',λb hb=>(hf b hb).1⟩⟩
 done:=by
  intro X hP hw hK hc i pins s σ H E I hf st hg
  subst hP hw hK
  obtain⟨xs,hq,hx⟩:=hg
  obtain⟨its,rv,p,hz⟩:=I.tuple hq
  obtain⟨f0,f1,f2,f3,f4,f5⟩:=hf it (by simp)
  have hl:=rv.length
  exact wpAny_pyNext_tuple_end (I.ok.hd hc) st (show s.heap.IsTuple a its.toArray from p) (by simp;omega) λh' eb=>⟨rfl,I.turned (t':=s.toks) (λb o hb e=>eb b o hb e) f0 f1 f3 f4 f5⟩
 self:=λ_ _ _ _ _ st h=>wpAny_pyIter_tupleiter st h
theorem zc9 {P:Program}{w:World}{K:PySem.W.Frag}{tg:Expr}(it:Addr)(lo:Int)(n:Nat):zjp P w K tg (Itr lo n) [it] it (λi h=>IsRangeIter h it (lo+(i:Nat)*1) ((n:Int) - (i:Nat)) 1) where
 mem:=by simp
 obj:=λi h st b hb=>by
  have e:b=it:=by simpa using hb
  subst e
  exact⟨_,st,λv z=>by
   have z':Data.fields _=Data.cell v:=z
   cases z'⟩
 keep:=λi h h' st k=>k it (by simp) _ st
 item:=by
  intro X hP hw hK hc i pins s σ H E I hf st hg
  subst hP hw hK
  obtain⟨f0,f1,f2,f3,f4,f5⟩:=hf it (by simp)
  have W:=Walks.range (prog:=X.prog) (w:=X.w) (I.ok.hd hc) it lo 1 n
  refine W.item i s _ _ hg st λv h' tk hv st' kk=>?_
  obtain⟨t,rfl⟩:=hv
  have I1:Inv X pins σ H { s with heap:=h',toks:=tk }:=I.turned (λb o hb e=>kk b o (by simpa using hb) e) f0 f1 f3 f4 f5
  refine⟨_,rfl,ziE (s:={ s with heap:=h',toks:=tk }) (n:="range_iterator") st' rfl rfl (by decide) ⟨.int (lo+i),H,I1,⟨t,?_⟩,⟨rfl,rfl⟩,st',λb hb=>(hf b hb).1⟩⟩
  rw[Int.mul_one]
 done:=by
  intro X hP hw hK hc i pins s σ H E I hf st hg
  subst hP hw hK
  obtain⟨f0,f1,f2,f3,f4,f5⟩:=hf it (by simp)
  exact wpAny_pyNext_range_end (I.ok.hd hc) st (by have:n<=i:=hg;omega) λh' eb=>⟨rfl,I.turned (t':=s.toks) (λb o hb e=>eb b o hb e) f0 f1 f3 f4 f5⟩
 self:=λ_ _ _ _ _ st h=>wpAny_pyIter_rangeiter st h
section
variable {X:Cx}{tg:Expr}
theorem zbI {pins:List (Addr × Obj)}{σ:St}{H:Hp}{s:Shared}{R:It->Hp->Prop}{E:Value->Shared->Prop}{lo hi:Int}{t u v:Tok}{tk:Nat}(I:Inv X pins σ H s)(h1:-(2 ^ 62)<=lo)(h2:lo < 2 ^ 62)(h3:-(2 ^ 62)<=hi)(h4:hi < 2 ^ 62)
 (q:R (Itr lo (hi - lo).toNat) H):wpAny (model X.prog X.w) X.A (pyIter (.ref s.heap.objs.size)) (PIE X pins σ tg R) E { s with heap:=s.heap.push { cls:=.type "range",data:=.fields #[.int lo t,.int hi u,.int 1 v] },toks:=tk }:=by
 refine wpAny_pyIter_range (IsRange.new ..) (small_one h1 h2 h3 h4) ?_
 have I1:Inv X pins σ H { s with heap:=s.heap.push { cls:=.type "range",data:=.fields #[.int lo t,.int hi u,.int 1 v] },toks:=tk }:=I.kept λb o e=>u4 _ e
 refine⟨(s.heap.push { cls:=.type "range",data:=.fields #[.int lo t,.int hi u,.int 1 v] }).objs.size,[(s.heap.push { cls:=.type "range",data:=.fields #[.int lo t,.int hi u,.int 1 v] }).objs.size],_,_,H,rfl,
  I1.kept (t':=tk) λb o e=>u4 _ e,zc9 _ lo (hi - lo).toNat,?_,λb hb=>?_,q⟩
 .have e1:lo+((0:Nat):Int)*1=lo:=by simp
  have e2:(((hi - lo).toNat:Nat):Int) - ((0:Nat):Int)=Builtin.Range.rangeSize lo hi 1:=by rw[rangeSize_one];split <;> omega
  show IsRangeIter _ _ (lo+((0:Nat):Int)*1) ((((hi - lo).toNat:Nat):Int) - ((0:Nat):Int)) 1
  rw[e1,e2]
  exact j7 _ rfl
 .have e:b=(s.heap.push { cls:=.type "range",data:=.fields #[.int lo t,.int hi u,.int 1 v] }).objs.size:=by simpa using hb
  subst e
  exact I1.fpOk (j3 _) (I1.hok.fresh (j3 _))
def zmK (ta:TA):TI:=fun σ H R=>ta σ H λvs H1=>∃ j:Int,vs=[.int j]/\-(2 ^ 62)<=j/\j < 2 ^ 62/\R (Itr 0 j.toNat) H1
def zmn (ta:TA):TI:=fun σ H R=>ta σ H λvs H1=>∃ i j:Int,vs=[.int i,.int j]/\(-(2 ^ 62)<=i/\i < 2 ^ 62/\-(2 ^ 62)<=j/\j < 2 ^ 62)/\R (Itr i (j - i).toNat) H1
theorem VV {a:Expr} {ta:TA} {p pos:Pos} (hg:Gl X "range") (hm:X.mg "range"=none) (ha:PA X [a] ta) (hs:starEach [a] X.env=[(false,eval a X.env)]:=by rfl):PI X tg (.Call (.Name "range" p) [a] [] pos) (zmK ta):=by
 intro pins s σ H R I h
 refine Call_ (YN I hg hm boot_range (u0J (thn (ha pos pins s σ H _ I h) λus s1 hh9=>?_) hs rfl))
 obtain⟨vs,H1,I1,r1,q1⟩:=hh9
 obtain⟨j,e,q1,q2,q⟩:=q1
 subst e
 cases r1 with
 | cons r rr =>
  cases rr
  obtain⟨t,rfl⟩:=r
  exact call_range_1 (zbI I1 (by omega) (by omega) q1 q2 (by simpa using q))
theorem zac {a b:Expr} {ta:TA} {p pos:Pos} (hg:Gl X "range") (hm:X.mg "range"=none) (ha:PA X [a,b] ta) (hs:starEach [a,b] X.env=[(false,eval a X.env),(false,eval b X.env)]:=by rfl) (hs2:starEach [b] X.env=[(false,eval b X.env)]:=by rfl) :
 PI X tg (.Call (.Name "range" p) [a,b] [] pos) (zmn ta):=by
 intro pins s σ H R I h
 refine Call_ (YN I hg hm boot_range (u0J (thn (ha pos pins s σ H _ I h) λus s1 hh9=>?_) (by rw[hs,hs2]) (by rw[hs2];rfl)))
 obtain⟨vs,H1,I1,r1,q1⟩:=hh9
 obtain⟨i,j,e,⟨q1,q2,q3,q4⟩,q⟩:=q1
 subst e
 cases r1 with
 | cons r rr =>
  cases rr with
  | cons r' rr =>
   cases rr
   obtain⟨t,rfl⟩:=r
   obtain⟨t',rfl⟩:=r'
   exact call_range_2 (zbI I1 q1 q2 q3 q4 q)
def tFor (wi:TI)(g:TG)(tb:TS):TS:=λD σ H=>wi σ H λJ H1=>∃ W:Nat->Nat->St->Hp->Prop,(∃ m,W 0 m σ H1)/\∀ i m σ H,W i m σ H ->
 (J.stop i H/\D.nx σ H)\/(J.go i H/\∃ N:St->Hp->Prop,(∀ σ' H',N σ' H'->∃ m',m' < m/\W (i+1) m' σ' H')/\∀ x H',J.yld i H x H'->g x σ H' fun σ2 H2=>tb { D with nx:=N,ct:=N,bk:=D.nx } σ2 H2)
def Wn (fp:List Addr)(h:Heap):List (Addr × Obj):=fp.filterMap λb=>(h.get? b).map λo=>(b,o)
theorem Yb {fp:List Addr}{h:Heap}{b:Addr}{o:Obj}(hb:b∈fp)(e:h.get? b=some o):(b,o)∈Wn fp h:=u1u.mpr ⟨b,hb,by rw[e];rfl⟩
theorem zeZ {fp:List Addr}{h:Heap}{p:Addr × Obj}(hp:p∈Wn fp h):p.1∈fp/\h.get? p.1=some p.2:=by
 obtain⟨b,hb,e⟩:=u1u.mp hp
 cases q:h.get? b with
 | none=>rw[q]at e;cases e
 | some o =>
  rw[q]at e
  have e':(b,o)=p:=u0m e
  subst e'
  exact⟨hb,q⟩
theorem Inv.pinned {pins:List (Addr × Obj)}{σ:St}{H:Hp}{s:Shared}{fp:List Addr}(I:Inv X pins σ H s)(hf:∀ b∈fp,zbX X pins H b)(ho:∀ b∈fp,∃ o,s.heap.get? b=some o/\∀ v,o.data≠.cell v):Inv X (pins++Wn fp s.heap) σ H s :=
 I.pins_of λp hp=>(u0r.mp hp).elim (λz=>I.pin p (u0a _ z)) λz=>by
  obtain⟨hb,e⟩:=zeZ z
  obtain⟨f0,f1,f2,_⟩:=hf p.1 hb
  obtain⟨o,e',d⟩:=ho p.1 hb
  rw[e]at e';cases e'
  exact⟨e,f0,f1,f2,d⟩
theorem Inv.unpinned {pins pl:List (Addr × Obj)}{σ:St}{H:Hp}{s:Shared}(I:Inv X (pins++pl) σ H s):Inv X pins σ H s:=I.pins_of λp hp=>I.pin p (u0a _ (u0O _ hp))
theorem zbT {iter:Expr}{body:List Stmt}{wi:TI}{g:TG}{tb:TS}{pos:Pos}(hp:PassesOwn (model X.prog X.w) X.A X.env X.xe)(hc:X.calm=true)(hi:PI X tg iter wi)(hg:PG X tg g)(hb:PSs X body tb)
 (hs:∀ x,foldedSetIterable iter X.env x=pure x:=by intro _;rfl):PS X (.For tg iter body [] pos) (tFor wi g tb):=by
 intro pins s σ H D I h
 refine wpAny_For (thn (hi pins s σ H _ I h) λv s1 h1=>thn h1 λitv s2 h2=>?_) hs
 obtain⟨it,fp,tn,J,H2,e,I2,T,st2,f2,W,⟨m0,w0⟩,turn⟩:=h2
 subst e
 -- what stays true of the iterator's objects through the loop
 have stat:∀ {H':Hp},(∀ b∈fp,H' b=none)->∀ b∈fp,zbX X pins H' b:=λhn b hb=>⟨hn b hb,(f2 b hb).2⟩
 refine codeAny_forLoop_any (λn s'=>∃ i σ' H',Inv X pins σ' H' s'/\tn i s'.heap/\(∀ b∈fp,H' b=none)/\W i n σ' H') ?_ m0 ⟨0,σ,H2,I2,st2,λb hb=>(f2 b hb).1,w0⟩
 rintro n s3 ⟨i,σ3,H3,I3,st3,fr3,w3⟩
 rcases turn i n σ3 H3 w3 with ⟨stop,qn⟩ | ⟨go,N,hN,step⟩
 .refine u2q hp (thn (T.done X rfl rfl rfl hc i pins s3 σ3 H3 X.xe I3 (stat fr3) st3 stop) λr s4 hh9=>?_)
  obtain⟨hr,I4⟩:=hh9
  subst hr
  exact u3b ⟨σ3,H3,I4,qn⟩
 .refine u2q hp (thn (T.item X rfl rfl rfl hc i pins s3 σ3 H3 X.xe I3 (stat fr3) st3 go) λr s4 hh9=>?_)
  obtain⟨u,hr,h4⟩:=hh9
  subst hr
  refine u2q hp (thn h4 λ_ s5 hh9=>?_)
  obtain⟨x,H5,I5,r5,y5,st5,fr5⟩:=hh9
  have I5':=I5.pinned (stat fr5) (T.obj _ _ st5)
  refine u2q hp (thn (hg _ s5 σ3 H5 x u _ I5' r5 (step x H5 y5)) λ_ s6 hh9=>?_)
  obtain⟨σ6,H6,I6,q6⟩:=hh9
  refine u2q hp (thn (hb _ s6 σ6 H6 _ I6 q6) λf s7 q7=>?_)
  have again:∀ {σ7:St} {H7:Hp},Inv X (pins++Wn fp s5.heap) σ7 H7 s7->N σ7 H7->∃ m,m < n/\∃ i σ' H',Inv X pins σ' H' s7/\tn i s7.heap/\(∀ b∈fp,H' b=none)/\W i m σ' H':=λ{σ7 H7} I7 n7=>by
   obtain⟨m',hm,w7⟩:=hN σ7 H7 n7
   refine⟨m',hm,i+1,σ7,H7,I7.unpinned,T.keep _ _ _ st5 λb hb o e=>(I7.pin (b,o) (u0a _ (u0a _ (Yb hb e)))).1,λb hb=>?_,w7⟩
   obtain⟨o,e,d⟩:=T.obj _ _ st5 b hb
   exact(I7.pin (b,o) (u0a _ (u0a _ (Yb hb e)))).2.1
  cases f with
  | next=>obtain⟨σ7,H7,I7,n7⟩:=q7;exact again I7 n7
  | cont=>obtain⟨σ7,H7,I7,n7⟩:=q7;exact again I7 n7
  | brk=>obtain⟨σ7,H7,I7,q7⟩:=q7;exact⟨σ7,H7,I7.unpinned,q7⟩
  | ret v=>obtain⟨x7,σ7,H7,I7,r7,q7⟩:=q7;exact⟨x7,σ7,H7,I7.unpinned,r7,q7⟩
end
abbrev R2:=V->V->Hp->VK->Prop
def OpR (X:Cx)(f:Value->Value->Sem Value)(r:R2):Prop :=
 ∀ (pins:List (Addr × Obj)) (s:Shared) (σ:St) (H:Hp) (x y:V) (v u:Value) (Q:VK),Inv X pins σ H s->yH x v->yH y u->r x y H Q ->
  wpAny (model X.prog X.w) X.A (f v u) (EP X pins σ Q) X.xe s
def UnR (X:Cx)(f:Value->Sem Value)(r:V->Hp->VK->Prop):Prop :=
 ∀ (pins:List (Addr × Obj)) (s:Shared) (σ:St) (H:Hp) (x:V) (v:Value) (Q:VK),Inv X pins σ H s->yH x v->r x H Q ->
  wpAny (model X.prog X.w) X.A (f v) (EP X pins σ Q) X.xe s
def vH (X:Cx)(f:Value)(r:List V->Hp->VK->Prop):Prop :=
 ∀ (pins:List (Addr × Obj)) (s:Shared) (σ:St) (H:Hp) (xs:List V) (us:List Value) (Q:VK),Inv X pins σ H s->yt xs us->r xs H Q ->
  wpAny (model X.prog X.w) X.A (call f us) (EP X pins σ Q) X.xe s
def tOp (r:R2)(ta tb:TE):TE:=fun σ H Q=>ta σ H λx H1=>tb σ H1 λy H2=>r x y H2 Q
def tUn (r:V->Hp->VK->Prop)(ta:TE):TE:=fun σ H Q=>ta σ H λx H1=>r x H1 Q
def rI (C:Int->Int->Prop)(g:Int->Int->V):R2:=λx y H Q=>∃ i j,x=.int i/\y=.int j/\C i j/\Q (g i j) H
def rI0 (g:Int->Int->V):R2:=λx y H Q=>∃ i j,x=.int i/\y=.int j/\Q (g i j) H
def rU (g:Int->V):V->Hp->VK->Prop:=λx H Q=>∃ i,x=.int i/\Q (g i) H
section
variable {X:Cx}{a b c:Expr}{ta tb tc:TE}{pos:Pos}
theorem zmM (ha:PE X a ta)(hb:PE X b tb){pins:List (Addr × Obj)}{s:Shared}{σ:St}{H:Hp}{R:V->V->Hp->Prop}(I:Inv X pins σ H s)
 (h:ta σ H λx H1=>tb σ H1 λy H2=>R x y H2) {Q:Value->Shared->Prop} {f:Value->Value->Sem Value}
 (hf:∀ v u s2 x y H2,Inv X pins σ H2 s2->yH x v->yH y u->R x y H2->wpAny (model X.prog X.w) X.A (f v u) Q X.xe s2) :
 wpAny (model X.prog X.w) X.A (eval a X.env) (λv s₁=>wpAny (model X.prog X.w) X.A (eval b X.env) (λu s₂=>wpAny (model X.prog X.w) X.A (f v u) Q X.xe s₂) X.xe s₁) X.xe s:=by
 refine thn (ha pins s σ H _ I h) λv s1 hh9=>?_
 obtain⟨x,H1,I1,r1,q1⟩:=hh9
 refine thn (hb pins s1 σ H1 _ I1 q1) λu s2 hh9=>?_
 obtain⟨y,H2,I2,r2,q2⟩:=hh9
 exact hf v u s2 x y H2 I2 r1 r2 q2
theorem zhy {op:Operator}{r:R2}(ho:OpR X (binaryOp op) r)(ha:PE X a ta)(hb:PE X b tb):PE X (.BinOp a op b pos) (tOp r ta tb):=by
 intro pins s σ H Q I h
 exact wpAny_BinOp (zmM ha hb I h λv u s2 x y H2 I2 rx ry q=>ho pins s2 σ H2 x y v u Q I2 rx ry q)
theorem ziF {op:UnaryOp}{r:V->Hp->VK->Prop}(ho:UnR X (unaryOp op) r)(ha:PE X a ta):PE X (.UnaryOp op a pos) (tUn r ta):=by
 intro pins s σ H Q I h
 exact UnaryOp_ (thn (ha pins s σ H _ I h) λv s1 ⟨x,H1,I1,r1,q1⟩=>ho pins s1 σ H1 x v Q I1 r1 q1)
theorem opI {f:Value->Value->Sem Value}{C:Int->Int->Prop}{g:Int->Int->Int}
 (rule:∀ (i j:Int) (t u:Tok) (s:Shared) (Q:Value->Shared->Prop) (E:Value->Shared->Prop),C i j->Q (.int (g i j) s.toks) { s with toks:=s.toks+1 }->wpAny (model X.prog X.w) X.A (f (.int i t) (.int j u)) Q E s) :
 OpR X f (rI C λi j=>.int (g i j)):=by
 intro pins s σ H x y v u Q I rx ry h
 obtain⟨i,j,rfl,rfl,hc,q⟩:=h
 obtain⟨t,rfl⟩:=rx
 obtain⟨t',rfl⟩:=ry
 exact rule i j t t' s _ _ hc ⟨.int (g i j),H,I.tok _,⟨_,rfl⟩,q⟩
theorem opI0 {f:Value->Value->Sem Value}{g:Int->Int->Int}
 (rule:∀ (i j:Int) (t u:Tok) (s:Shared) (Q:Value->Shared->Prop) (E:Value->Shared->Prop),Q (.int (g i j) s.toks) { s with toks:=s.toks+1 }->wpAny (model X.prog X.w) X.A (f (.int i t) (.int j u)) Q E s) :
 OpR X f (rI0 λi j=>.int (g i j)):=by
 intro pins s σ H x y v u Q I rx ry h
 obtain⟨i,j,rfl,rfl,q⟩:=h
 obtain⟨t,rfl⟩:=rx
 obtain⟨t',rfl⟩:=ry
 exact rule i j t t' s _ _ ⟨.int (g i j),H,I.tok _,⟨_,rfl⟩,q⟩
theorem zmV {f:Value->Value->Sem Value}{g:Int->Int->Bool}
 (rule:∀ (i j:Int) (t u:Tok) (s:Shared) (Q:Value->Shared->Prop) (E:Value->Shared->Prop),Q (.bool (g i j)) s->wpAny (model X.prog X.w) X.A (f (.int i t) (.int j u)) Q E s) :
 OpR X f (rI0 λi j=>.bl (g i j)):=by
 intro pins s σ H x y v u Q I rx ry h
 obtain⟨i,j,rfl,rfl,q⟩:=h
 obtain⟨t,rfl⟩:=rx
 obtain⟨t',rfl⟩:=ry
 exact rule i j t t' s _ _ ⟨.bl (g i j),H,I,rfl,q⟩
def zmS (i j:Int):Prop:=(-(2 ^ 64) < i/\i < 2 ^ 64)\/(-(2 ^ 64) < j/\j < 2 ^ 64)
theorem zmS.ok {i j:Int}(h:zmS i j):IntMulOk i j:=by
 rcases h with ⟨h1,h2⟩ | ⟨h1,h2⟩
 .exact .of_left (intBits_le_64 h1 h2)
 .exact .of_right (intBits_le_64 h1 h2)
theorem zcY (k:Nat):(0:Int)<=2 ^ k:=by
 rw[two_pow_cast]
 exact Int.natCast_nonneg _
theorem zk8:OpR X (binaryOp .Add) (rI0 λi j=>.int (i+j)):=opI0 λ_ _ _ _ _ _ _ q=>add_int q
theorem zkN:OpR X (binaryOp .Sub) (rI0 λi j=>.int (i - j)):=opI0 λ_ _ _ _ _ _ _ q=>sub_int q
theorem zkV:OpR X (binaryOp .Mult) (rI zmS λi j=>.int (i*j)):=opI λ_ _ _ _ _ _ _ hc q=>mul_int q hc.ok
theorem zkb:OpR X (binaryOp .Mod) (rI (λ_ j=>0 < j) λi j=>.int (i % j)):=opI λi j _ _ _ _ _ hc q=>by
 have h1:(0:Int) < j:=hc
 exact mod_int' (by omega) (by rw[Int.fmod_eq_emod_of_nonneg i (by omega)];exact q)
theorem zkX:OpR X (binaryOp .RShift) (rI (λ_ j=>0<=j) λi j=>.int (i / 2 ^ j.toNat)):=opI λi j _ _ _ _ _ hc q =>
 rshift_int hc (by rw[u3f i (zcY _)];exact q)
theorem unI {f:Value->Sem Value}{g:Int->Int}
 (rule:∀ (i:Int) (t:Tok) (s:Shared) (Q:Value->Shared->Prop) (E:Value->Shared->Prop),Q (.int (g i) s.toks) { s with toks:=s.toks+1 }->wpAny (model X.prog X.w) X.A (f (.int i t)) Q E s) :
 UnR X f (rU λi=>.int (g i)):=by
 intro pins s σ H x v Q I rx h
 obtain⟨i,rfl,q⟩:=h
 obtain⟨t,rfl⟩:=rx
 exact rule i t s _ _ ⟨.int (g i),H,I.tok _,⟨_,rfl⟩,q⟩
theorem zdi:UnR X (unaryOp .USub) (rU λi=>.int (-i)):=unI λ_ _ _ _ _ q=>neg_int q
end
def scal:V->V->Bool
 | .non,.non=>true | .non,.int _=>true | .int _,.non=>true | .non,.bl _=>true | .bl _,.non=>true | .non,.str _=>true | .str _,.non=>true
 | .int _,.int _=>true | .bl _,.bl _=>true | .str _,.str _=>true | .byt _,.byt _=>true
 | .int _,.str _=>true | .str _,.int _=>true | .bl _,.str _=>true | .str _,.bl _=>true
 | _,_=>false
def rEq:R2:=λx y H Q=>scal x y=true/\Q (.bl (decide (x=y))) H
def rNe:R2:=λx y H Q=>scal x y=true/\Q (.bl (!decide (x=y))) H
theorem WK {i j:Int}:decide (V.int i=V.int j)=(i == j):=by
 rw[u1B]
 simp
theorem zhL {i j:Bool}:decide (V.bl i=V.bl j)=(i == j):=by
 rw[u1B]
 simp
theorem zeu {i j:Str}:decide (V.str i=V.str j)=(i == j):=by
 rw[u1B]
 simp
theorem zdj {i j:Array UInt8}:decide (V.byt i=V.byt j)=(i.toList == j.toList):=by
 rw[u1B]
 cases i
 cases j
 simp
section
variable {X:Cx}{a b c:Expr}{ta tb tc:TE}{pos:Pos}
theorem zU {pins:List (Addr × Obj)}{σ:St}{H:Hp}{s:Shared}{Q:VK}{k k':Bool}(I:Inv X pins σ H s)(q:Q (.bl k) H)(e:k=k'):EP X pins σ Q (.bool k') s:=by
 subst e
 exact⟨.bl k,H,I,rfl,q⟩
theorem zlw:OpR X (compareOp .Eq) rEq:=by
 intro pins s σ H x y v u Q I rx ry h
 obtain⟨hs,q⟩:=h
 cases x with
 | non =>
  cases rx
  cases y with
  | non=>cases ry;exact PySem.EqNone.eq_none_none (zU I q (by simp))
  | bl j=>cases ry;exact PySem.EqNone.eq_none_bool (zU I q (by simp))
  | int j=>obtain⟨t',rfl⟩:=ry;exact PySem.EqNone.eq_none_int (zU I q (by simp))
  | str j=>obtain⟨t',rfl⟩:=ry;exact PySem.EqNone.eq_none_str (zU I q (by simp))
  | _=>exact absurd (show false=true from hs) u8
 | bl i =>
  cases rx
  cases y with
  | non=>cases ry;exact PySem.EqNone.eq_bool_none (zU I q (by simp))
  | bl j=>cases ry;exact eq_bool (zU I q zhL)
  | str j=>obtain⟨t',rfl⟩:=ry;exact PySem.EqMixed.eq_bool_str (zU I q (by simp))
  | _=>exact absurd (show false=true from hs) u8
 | int i =>
  obtain⟨t,rfl⟩:=rx
  cases y with
  | non=>cases ry;exact PySem.EqNone.eq_int_none (zU I q (by simp))
  | int j=>obtain⟨t',rfl⟩:=ry;exact eq_int (zU I q WK)
  | str j=>obtain⟨t',rfl⟩:=ry;exact PySem.EqMixed.eq_int_str (zU I q (by simp))
  | _=>exact absurd (show false=true from hs) u8
 | str i =>
  obtain⟨t,rfl⟩:=rx
  cases y with
  | non=>cases ry;exact PySem.EqNone.eq_str_none (zU I q (by simp))
  | bl j=>cases ry;exact PySem.EqMixed.eq_str_bool (zU I q (by simp))
  | int j=>obtain⟨t',rfl⟩:=ry;exact PySem.EqMixed.eq_str_int (zU I q (by simp))
  | str j=>obtain⟨t',rfl⟩:=ry;exact eq_str (zU I q zeu)
  | _=>exact absurd (show false=true from hs) u8
 | byt i =>
  obtain⟨t,rfl⟩:=rx
  cases y with
  | byt j=>obtain⟨t',rfl⟩:=ry;exact W.eq_bytes (zU I q zdj)
  | _=>exact absurd (show false=true from hs) u8
 | _=>cases y <;> exact absurd (show false=true from hs) u8
theorem XI:OpR X (compareOp .NotEq) rNe:=by
 intro pins s σ H x y v u Q I rx ry h
 obtain⟨hs,q⟩:=h
 cases x with
 | non =>
  cases rx
  cases y with
  | non=>cases ry;exact PySem.EqNone.ne_none_none (zU I q (by simp))
  | bl j=>cases ry;exact PySem.EqNone.ne_none_bool (zU I q (by simp))
  | int j=>obtain⟨t',rfl⟩:=ry;exact PySem.EqNone.ne_none_int (zU I q (by simp))
  | str j=>obtain⟨t',rfl⟩:=ry;exact PySem.EqNone.ne_none_str (zU I q (by simp))
  | _=>exact absurd (show false=true from hs) u8
 | bl i =>
  cases rx
  cases y with
  | non=>cases ry;exact PySem.EqNone.ne_bool_none (zU I q (by simp))
  | bl j=>cases ry;exact ne_bool (zU I q (u0M not zhL))
  | str j=>obtain⟨t',rfl⟩:=ry;exact PySem.EqMixed.ne_bool_str (zU I q (by simp))
  | _=>exact absurd (show false=true from hs) u8
 | int i =>
  obtain⟨t,rfl⟩:=rx
  cases y with
  | non=>cases ry;exact PySem.EqNone.ne_int_none (zU I q (by simp))
  | int j=>obtain⟨t',rfl⟩:=ry;exact ne_int (zU I q (u0M not WK))
  | str j=>obtain⟨t',rfl⟩:=ry;exact PySem.EqMixed.ne_int_str (zU I q (by simp))
  | _=>exact absurd (show false=true from hs) u8
 | str i =>
  obtain⟨t,rfl⟩:=rx
  cases y with
  | non=>cases ry;exact PySem.EqNone.ne_str_none (zU I q (by simp))
  | bl j=>cases ry;exact PySem.EqMixed.ne_str_bool (zU I q (by simp))
  | int j=>obtain⟨t',rfl⟩:=ry;exact PySem.EqMixed.ne_str_int (zU I q (by simp))
  | str j=>obtain⟨t',rfl⟩:=ry;exact ne_str (zU I q (u0M not zeu))
  | _=>exact absurd (show false=true from hs) u8
 | byt i =>
  obtain⟨t,rfl⟩:=rx
  cases y with
  | byt j=>obtain⟨t',rfl⟩:=ry;exact W.ne_bytes (zU I q (u0M not zdj))
  | _=>exact absurd (show false=true from hs) u8
 | _=>cases y <;> exact absurd (show false=true from hs) u8
theorem zjU:OpR X (compareOp .Lt) (rI0 λi j=>.bl (decide (i < j))):=zmV λ_ _ _ _ _ _ _ q=>lt_int q
theorem zhv:OpR X (compareOp .LtE) (rI0 λi j=>.bl (decide (i<=j))):=zmV λ_ _ _ _ _ _ _ q=>le_int q
theorem zfl:OpR X (compareOp .Gt) (rI0 λi j=>.bl (decide (j < i))):=zmV λ_ _ _ _ _ _ _ q=>gt_int q
theorem zj7:OpR X (compareOp .Is) (λx y H Q=>y=.non/\Q (.bl (decide (x=.non))) H):=by
 intro pins s σ H x y v u Q I rx ry h
 obtain⟨rfl,q⟩:=h
 cases ry
 refine is_none_gen (zU I q ?_)
 cases x <;> first
  | (cases rx;rfl)
  | (obtain⟨t,rfl⟩:=rx;rfl)
theorem zjE:OpR X (compareOp .IsNot) (λx y H Q=>y=.non/\Q (.bl (!decide (x=.non))) H):=by
 intro pins s σ H x y v u Q I rx ry h
 obtain⟨rfl,q⟩:=h
 cases ry
 refine isnot_none_gen (zU I q ?_)
 cases x <;> first
  | (cases rx;rfl)
  | (obtain⟨t,rfl⟩:=rx;rfl)
theorem OpR.or {f:Value->Value->Sem Value}{r r':R2}(h:OpR X f r)(h':OpR X f r'):OpR X f (λx y H Q=>r x y H Q\/r' x y H Q):=by
 intro pins s σ H x y v u Q I rx ry q
 rcases q with q | q
 .exact h pins s σ H x y v u Q I rx ry q
 .exact h' pins s σ H x y v u Q I rx ry q
theorem zN (b:Expr){op:CmpOp}(h:op≠.In:=by decide)(h2:op≠.NotIn:=by decide):behindInMarks op b=false:=by
 have e1:(op == CmpOp.In)=false:=by cases op <;> first | rfl | exact absurd rfl h
 have e2:(op == CmpOp.NotIn)=false:=by cases op <;> first | rfl | exact absurd rfl h2
 cases b <;> simp[behindInMarks,e1,e2]
theorem ziW {op:CmpOp}{r:R2}(ho:OpR X (compareOp op) r)(ha:PE X a ta)(hb:PE X b tb)(hm:behindInMarks op b=false):PE X (.Compare a [op] [b] pos) (tOp r ta tb):=by
 intro pins s σ H Q I h
 exact wpAny_Compare1 (zmM ha hb I h λv u s2 x y H2 I2 rx ry q=>ho pins s2 σ H2 x y v u Q I2 rx ry q) hm
def zfW (t:TE):TT:=fun σ H Q=>t σ H λx H'=>∃ k,x=.bl k/\Q k H'
theorem zaA {op:CmpOp}{r:R2}(ho:OpR X (compareOp op) r)(ha:PE X a ta)(hb:PE X b tb)(hm:behindInMarks op b=false):PT X (.Compare a [op] [b] pos) (zfW (tOp r ta tb)):=by
 intro pins s σ H Q I h
 refine wpAny_isTrue_Compare1 (thn (ha pins s σ H _ I h) λv s1 ⟨x,H1,I1,r1,q1⟩=>thn (hb pins s1 σ H1 _ I1 q1) λu s2 ⟨y,H2,I2,r2,q2⟩ =>
  thn (ho pins s2 σ H2 x y v u _ I2 r1 r2 q2) λc s3 ⟨z,H3,I3,r3,k,e,q3⟩=>?_) hm
 subst e
 cases r3
 exact u07 ⟨H3,I3,q3⟩
def zdv (r r':R2)(ta tb tc:TE):TE:=fun σ H Q=>ta σ H λx H1=>tb σ H1 λy H2=>r x y H2 λz H3=>∃ k,z=.bl k /\
 (if k=true then tc σ H3 λw' H4=>r' y w' H4 Q else Q (.bl false) H3)
theorem zgV {op op':CmpOp}{r r':R2}(ho:OpR X (compareOp op) r)(ho':OpR X (compareOp op') r')(ha:PE X a ta)(hb:PE X b tb)(hc:PE X c tc)
 (hm:lastMarks [op,op'] [b,c]=false:=by with_unfolding_all rfl):PE X (.Compare a [op,op'] [b,c] pos) (zdv r r' ta tb tc):=by
 intro pins s σ H Q I h
 refine Compare_chain (thn (ha pins s σ H _ I h) λv s1 ⟨x,H1,I1,r1,q1⟩=>chain_link (thn (hb pins s1 σ H1 _ I1 q1) λu s2 ⟨y,H2,I2,r2,q2⟩ =>
  thn (ho pins s2 σ H2 x y v u _ I2 r1 r2 q2) λd s3 ⟨z,H3,I3,r3,k,e,q3⟩=>?_)) hm
 subst e
 cases r3
 refine u07 ?_
 cases k with
 | false=>exact ite_ff ⟨.bl false,H3,I3,rfl,q3⟩
 | true=>exact ite_tt (chain_last (thn (hc pins s3 σ H3 _ I3 q3) λw' s4 ⟨z',H4,I4,r4,q4⟩=>ho' pins s4 σ H4 y z' u w' Q I4 r2 r4 q4))
theorem zas:(sizeLine:Nat) < 2 ^ 63:=by rw[u1n];decide
theorem zcE:OpR X (binaryOp .Add) (λx y H Q=>∃ i j,x=.str i/\y=.str j/\i.length+j.length<=sizeLine/\Q (.str (i++j)) H):=by
 intro pins s σ H x y v u Q I rx ry h
 obtain⟨i,j,rfl,rfl,hz,q⟩:=h
 obtain⟨t,rfl⟩:=rx
 obtain⟨t',rfl⟩:=ry
 exact add_str (λt' tk=>⟨.str (i++j),H,I.tok _,⟨_,rfl⟩,q⟩) hz
theorem WN {x:V}{us:List Value}(r:yt [x] us):∃ u,us=[u]/\yH x u:=by
 cases r with
 | cons r1 r2=>cases r2;exact⟨_,rfl,r1⟩
theorem zbr {x y:V}{us:List Value}(r:yt [x,y] us):∃ u w',us=[u,w']/\yH x u/\yH y w':=by
 cases r with
 | cons r1 r2 =>
  cases r2 with
  | cons r3 r4=>cases r4;exact⟨_,_,rfl,r1,r3⟩
theorem ze8 (hc:X.calm=true):vH X (.builtin "max") (λxs H Q=>∃ i j,xs=[.int i,.int j]/\Q (.int (if j > i then j else i)) H):=by
 intro pins s σ H xs us Q I r h
 obtain⟨i,j,rfl,q⟩:=h
 obtain⟨u,w',rfl,⟨t,rfl⟩,⟨t',rfl⟩⟩:=zbr r
 refine max_two_ints (I.ok.hd hc) λh' tk k=>⟨_,H,I.kept k,?_,q⟩
 by_cases hj:j > i
 .rw[q5 hj,q5 hj];exact⟨_,rfl⟩
 .rw[j4 hj,j4 hj];exact⟨_,rfl⟩
theorem zdW (hc:X.calm=true):vH X (.builtin "min") (λxs H Q=>∃ i j,xs=[.int i,.int j]/\Q (.int (if j < i then j else i)) H):=by
 intro pins s σ H xs us Q I r h
 obtain⟨i,j,rfl,q⟩:=h
 obtain⟨u,w',rfl,⟨t,rfl⟩,⟨t',rfl⟩⟩:=zbr r
 refine min_two_ints (I.ok.hd hc) λh' tk k=>⟨_,H,I.kept k,?_,q⟩
 by_cases hj:j < i
 .rw[q5 hj,q5 hj];exact⟨_,rfl⟩
 .rw[j4 hj,j4 hj];exact⟨_,rfl⟩
end
structure zmA (h:Heap) (x dx C:Addr) (mA:Str->Option Value):Prop where
 obj:h.get? x=some (W.instObj C dx)
 ns:h.Ns1 dx mA
 ne:dx≠x
theorem VR {h:Heap}{dx:Addr}{mA:Str->Option Value}(n:h.Ns1 dx mA):∃ od,h.get? dx=some od/\∀ name,W.lookIn name od=some (mA name):=by
 obtain⟨o,es,ep,ho,hd,hk,_,hm⟩:=n
 refine⟨o,ho,λname=>?_⟩
 have e:=hm name
 unfold nsFind findBy at e
 rw[<-Array.find?_toList]at e
 unfold W.lookIn
 rw[hd]
 dsimp only
 split
 .rename_i y q
  rw[q]at e
  exact u0M some e
 .rename_i q
  rw[q]at e
  have a:es.toList.any (·.refKey)=false:=by
   rw[List.any_eq_false]
   intro y hy
   obtain⟨z,t,hkey⟩:=hk y (u2N.mp hy)
   simp[DictEntry.refKey,hkey]
  have a':¬ es.toList.any (·.refKey)=true:=by rw[a];exact u8
  rw[j4 a']
  exact u0M some e
theorem zmA.look {h:Heap}{x dx C:Addr}{mA:Str->Option Value}(I:zmA h x dx C mA):∃ od,PySem.W.InstAt h x (W.instObj C dx) C (some od)/\∀ name,W.lookIn name od=some (mA name) :=
 let ⟨od,ho,hl⟩:=VR I.ns
 ⟨od,⟨I.obj,rfl,rfl,ho⟩,hl⟩
theorem zaE.some_of {v:V}{o:Option Value}(r:zaE (some v) o):∃ u,o=some u/\yH v u:=by
 cases o with
 | none=>exact(show False from r).elim
 | some u=>exact⟨u,rfl,r⟩
theorem zfh {v:V}{u:Value}(r:yH v u):W.handedIn u=true:=by
 cases v with
 | non=>cases (show u=Value.none from r);rfl
 | bl b=>cases (show u=Value.bool b from r);rfl
 | int i=>obtain⟨t,e⟩:=(show ∃ t,u=Value.int i t from r);cases e;rfl
 | str x=>obtain⟨t,e⟩:=(show ∃ t,u=Value.str x t from r);cases e;rfl
 | byt b=>obtain⟨t,e⟩:=(show ∃ t,u=Value.bytes b t from r);cases e;rfl
 | flt b=>obtain⟨t,e⟩:=(show ∃ t,u=Value.float b t from r);cases e;rfl
 | ref a=>cases (show u=Value.ref a from r);rfl
 | ty n=>cases (show u=Value.type n from r);rfl
section
variable {P:Program}{w:World}{H H':Hp}{h h':Heap}{a C dx:Addr}{fs fs':List (Str × V)}
theorem ziz (hok:HOk P w H h)(e:H a=some (.ins C dx fs)):∃ mA,zmA h a dx C mA/\(∀ f,zaE (fs.lookup f) (mA f))/\PySem.Within mA (fs.map (·.1))/\fs.length<=1000/\H dx=some (.own a):=by
 obtain⟨d,z,ne,ob,mA,n,r,q⟩:=(show yk P w H h a (.ins C dx fs)from hok a _ e)
 exact⟨mA,⟨ob,n,ne⟩,r,q,z,d⟩
end
structure Cls (K:W.Frag) (C:Addr):Prop where
 pg:W.plainGet K C Str.empty=true
 hd:W.hasDictIn K C=true
 po:W.plainOver K C=true
 sa:W.findIn K (.ref C) "__setattr__"=some (some (.builtin "object.__setattr__"))
theorem Cls.get {K:W.Frag}{C:Addr}(c:Cls K C)(f:Str):W.plainGet K C f=true:=c.pg
def Wh (K:W.Frag)(C:Addr)(f:Str):Prop:=W.findIn K (.ref C) f=some none
section
variable {X:Cx}{pins:List (Addr × Obj)}{σ:St}{H:Hp}{s:Shared}{a C dx:Addr}{fs:List (Str × V)}{f:Str}{v:V}{A:Around}{E:Value->Shared->Prop}
theorem zjd {prog:Program}{w:World}{env:Env}{e:Expr}{f:Str}{pos:Pos}{s:Shared}{Q:Value->Shared->Prop}(hb:attributeBase e f env (eval e env)=eval e env)
 (h:wpAny (model prog w) A (eval e env) (λo s₁=>wpAny (model prog w) A (getAttr o f true) Q E s₁) E s):wpAny (model prog w) A (eval (.Attribute e f pos) env) Q E s :=
 Attribute_any_ h (by rw[arm_eval_Attribute,hb])
end
section
variable {X:Cx}{pins:List (Addr × Obj)}{σ:St}{H:Hp}{s:Shared}{A:Around}{E:Value->Shared->Prop}{Q:Value->Shared->Prop}{c:Value}{b:Bool}
inductive zbD (K:W.Frag) (H:Hp):V->Value->Prop where
 | non:zbD K H .non (.type "NoneType")
 | bl (x:Bool):zbD K H (.bl x) (.type "bool")
 | int (i:Int):zbD K H (.int i) (.type "int")
 | str (x:Str):zbD K H (.str x) (.type "str")
 | flt (x:UInt64):zbD K H (.flt x) (.type "float")
 | lst {a:Addr} {xs:List V} (e:H a=some (.lst xs)):zbD K H (.ref a) (.type "list")
 | frz {a:Addr} {o:Obj} {xs:List V} (e:H a=some (.frz o (.lst xs))):zbD K H (.ref a) (.type "list")
 | tup {a:Addr} {xs:List V} (e:H a=some (.tup xs)):zbD K H (.ref a) (.type "tuple")
 | dK {a:Addr} {kvs:List (Key × V)} (e:H a=some (.dK kvs)):zbD K H (.ref a) (.type "dict")
 | dT {a:Addr} {kvs:List (List Key × V)} (e:H a=some (.dT kvs)):zbD K H (.ref a) (.type "dict")
 | ins {a C dx:Addr} {fs:List (Str × V)} (e:H a=some (.ins C dx fs)) (cl:Cls K C) (ha:W.findIn K (.ref C) "__class__"=some (some (.builtin "object.__class__")))
  (hn:W.specialIn K (.builtin "object.__class__") "__get__"=some (some (.builtin "getset_descriptor.__get__"))) (htk:W.takesIn K (.builtin "object.__class__")=some true)
  (hm:W.mroIn K C (.type "object")=some true):zbD K H (.ref a) (.ref C)
theorem zek {x:V}{u t:Value}(I:Inv X pins σ H s)(rx:yH x u)(ty:zbD X.K H x t)(e:W.kitOne X.K t c=some b)(h:∀ tk,Q (.bool b) { s with toks:=tk }) :
 wpAny (model X.prog X.w) A (call (.builtin "isinstance") [u,c]) Q E s:=by
 cases ty with
 | non=>cases (show u=Value.none from rx);exact u0C W.kitx_none I.kIn True.intro e (λz=>nomatch z) h
 | bl y=>cases (show u=Value.bool y from rx);exact u0C W.kitx_bool I.kIn True.intro e (λz=>nomatch z) h
 | int i=>obtain⟨t,q⟩:=(show ∃ t,u=Value.int i t from rx);cases q;exact u0C W.kitx_int I.kIn True.intro e (λz=>nomatch z) h
 | str y=>obtain⟨t,q⟩:=(show ∃ t,u=Value.str y t from rx);cases q;exact u0C W.kitx_str I.kIn True.intro e (λz=>nomatch z) h
 | flt y=>obtain⟨t,q⟩:=(show ∃ t,u=Value.float y t from rx);cases q;exact u0C W.kitx_float I.kIn True.intro e (λz=>nomatch z) h
 | @lst a xs ea =>
  cases (show u=Value.ref a from rx)
  obtain⟨_,_,n,_,h1⟩:=(show yk X.prog X.w H s.heap a (.lst xs)from I.hok a _ ea)
  exact u0C W.kitx_list I.kIn ⟨_,h1,rfl⟩ e (λz=>nomatch z) h
 | @frz a ob xs ea =>
  cases (show u=Value.ref a from rx)
  obtain⟨_,_,_,n,_,h1⟩:=(show yk X.prog X.w H s.heap a (.frz ob (.lst xs))from I.hok a _ ea)
  exact u0C W.kitx_list I.kIn ⟨_,h1,rfl⟩ e (λz=>nomatch z) h
 | @tup a xs ea =>
  cases (show u=Value.ref a from rx)
  obtain⟨_,_,_,p⟩:=(show yk X.prog X.w H s.heap a (.tup xs)from I.hok a _ ea)
  obtain⟨o,h1,h2,_⟩:=p
  exact u0C W.kitx_tuple I.kIn ⟨o,h1,h2⟩ e (λz=>nomatch z) h
 | @dK a kvs ea =>
  cases (show u=Value.ref a from rx)
  obtain⟨_,_,vs,_,p⟩:=(show yk X.prog X.w H s.heap a (.dK kvs)from I.hok a _ ea)
  obtain⟨o,es,ep,h1,h2,_⟩:=p
  exact u0C u2A I.kIn ⟨o,h1,h2.1⟩ e (λz=>nomatch z) h
 | @dT a kvs ea =>
  cases (show u=Value.ref a from rx)
  obtain⟨_,_,xs,_,o,es,ep,h1,h2,_⟩:=(show yk X.prog X.w H s.heap a (.dT kvs)from I.hok a _ ea)
  exact u0C u2A I.kIn ⟨o,h1,h2.1⟩ e (λz=>nomatch z) h
 | @ins a C dx fs ea cl ha hn htk hm =>
  cases (show u=Value.ref a from rx)
  obtain⟨mA,O,_⟩:=ziz I.hok ea
  obtain⟨od,J,_⟩:=O.look
  exact u0C (W.kitx_own (cl.get _) cl.hd ha hn htk hm) I.kIn J e (λz=>nomatch z) h
end
structure wB (k:Nat) (A:Around):Prop where
 hd:A.handled=none
 dp:A.depth+3*k+5 < recursionLimit
 un:A.units+16*k+200 < cLine
theorem wB.mono {j k:Nat}{A:Around}(r:wB k A)(h:j<=k):wB j A:=⟨r.hd,by have:=r.dp;omega,by have:=r.un;omega⟩
theorem wB.deeper {k:Nat}{A:Around}(r:wB (k+1) A)(env:Env):wB k (A.deeper env) :=
 ⟨r.hd,by have:=r.dp;show A.depth+1+3*k+5 < _;omega,by have:=r.un;show A.units+3+16*k+200 < _;omega⟩
theorem zc7 {A:Around} {C:Addr} {us:List Value} {kw:List (Str × Value)}:(A.under (.builtin "type.__call__" ⟨.ref C::us,kw⟩)).depth=A.depth+1:=by
 first | rfl | simp[Around.under,Code.weight,Code.isCreation,Code.isGuard,Code.isCaller,Code.frames,Code.isFrame,guardIds]
theorem zcz {A:Around} {C:Addr} {us:List Value} {kw:List (Str × Value)}:(A.under (.builtin "type.__call__" ⟨.ref C::us,kw⟩)).units=A.units+1:=by
 first | rfl | simp[Around.under,Code.cUnits,Code.frames,Code.isFrame]
theorem wB.make {k:Nat} {A:Around} (r:wB (k+1) A) (C:Addr) (us:List Value) (kw:List (Str × Value)):wB k (A.under (.builtin "type.__call__" ⟨.ref C::us,kw⟩)) :=
 ⟨r.hd,by have:=r.dp;rw[zc7];omega,by have:=r.un;rw[zcz];omega⟩
theorem wB.depth {k:Nat}{A:Around}(r:wB k A):A.depth < recursionLimit:=by have:=r.dp;omega
theorem wB.units {k:Nat}{A:Around}(r:wB k A):A.units+64 < cLine:=by have:=r.un;omega
theorem wB.units0 {k:Nat}{A:Around}(r:wB k A):A.units < cLine:=by have:=r.un;omega
def zhX:TA:=λ_ H Q=>Q [] H
def Xb (ta:TE)(tr:TA):TA:=fun σ H Q=>ta σ H λx H1=>tr σ H1 λxs H2=>Q (x::xs) H2
section
variable {X:Cx}{e:Expr}{es:List Expr}{te:TE}{t:TA}{pos:Pos}
theorem yC:PA X [] zhX:=λ_ _ _ _ H Q I h=>u2w ⟨[],H,I,.nil,h⟩
theorem zr (ha:PE X e te)(hr:PA X es t)(hs:starEach (e::es) X.env=(false,eval e X.env)::starEach es X.env:=by rfl):PA X (e::es) (Xb te t):=by
 intro pos pins s σ H Q I h
 rw[hs]
 show wpAny _ _ (spliced ((false,eval e X.env)::backTo pos (starEach es X.env))) _ _ s
 refine u1O (thn (ha pins s σ H _ I h) λu s1 hh9=>?_)
 obtain⟨x,H1,I1,r1,q1⟩:=hh9
 exact thn (hr pos pins s1 σ H1 _ I1 q1) λus s2 ⟨xs,H2,I2,r2,q2⟩=>⟨x::xs,H2,I2,.cons r1 r2,q2⟩
def tTup (t:TA):TE:=fun σ H Q=>t σ H λxs H1=>xs.length<=sizeLine/\∀ p,H1 p=none->Q (.ref p) (upd H1 p (.tup xs))
def zmE (t:TA):TE:=fun σ H Q=>t σ H λxs H1=>xs.length<=sizeLine/\∀ p,H1 p=none->Q (.ref p) (upd H1 p (.lst xs))
theorem zk1 {x1}(h:PA X es t):PE X (.Tuple es x1 pos) (tTup t):=by
 intro pins s σ H Q I hq
 refine wpAny_Tuple_spliced (thn (h pos pins s σ H _ I hq) λus s1 ⟨xs,H1,I1,r,z,q⟩=>⟨by rw[<-r.length];exact z,?_⟩)
 have hf:H1 s1.heap.objs.size=none:=I1.hok.fresh (j3 _)
 refine⟨.ref s1.heap.objs.size,upd H1 s1.heap.objs.size (.tup xs),I1.laid (t':=s1.toks) (λb u e=>u4 _ e) (j3 _) ?_,rfl,q _ hf⟩
 exact⟨z,us,r,⟨_,j7 _ rfl,rfl,_,rfl⟩⟩
theorem Vs (h:PA X es t):PE X (.List es pos) (zmE t):=by
 intro pins s σ H Q I hq
 refine wpAny_List_spliced (thn (h pos pins s σ H _ I hq) λus s1 ⟨xs,H1,I1,r,z,q⟩=>⟨by rw[<-r.length];exact z,?_⟩)
 have hf:H1 s1.heap.objs.size=none:=I1.hok.fresh (j3 _)
 refine⟨.ref s1.heap.objs.size,upd H1 s1.heap.objs.size (.lst xs),I1.laid (t':=s1.toks) (λb u e=>u4 _ e) (j3 _) ?_,rfl,q _ hf⟩
 exact⟨z,us,0,r,j7 _ rfl⟩
end
abbrev Sp:=List V->Hp->VK->XK->Prop
abbrev CXT:=List Env->Hp->Shared->XK->Value->Shared->Prop
structure zhT (P:Program) (w:World) (K:W.Frag) (mg:Str->Option Value) (base:Heap) (A:Around) (outer:List Env) (s:Shared) (H:Hp):Prop where
 frames:A.frames=some outer
 mod:Mod K mg base
 bs:∀ b o,base.get? b=some o->s.heap.get? b=some o/\H b=none
 bsz:base.objs.size<=s.heap.objs.size
 funs:s.heap.FunFrames base outer
 frf:∀ b∈frs outer,H b=none
 hok:HOk P w H s.heap
 bare:AllBare s.gens
def CE (outer:List Env)(P:Program)(w:World)(H:Hp)(s:Shared)(Q:VK)(u:Value)(s':Shared):Prop :=
 ∃ v H',s'.os=s.os/\AllBare s'.gens/\Un (frs outer) [] H H' s.heap s'.heap/\HOk P w H' s'.heap/\yH v u/\Q v H'
def CR (CX:CXT)(outer:List Env)(P:Program)(w:World)(H:Hp)(s:Shared)(Q:VK)(E:XK)(r:Result)(s':Shared):Prop :=
 match r with
 | .ok (.ret u)=>CE outer P w H s Q u s'
 | .ok _=>False
 | .error e=>CX outer H s E e s'
structure xC (P:Program) (w:World) (K:W.Frag) (mg:Str->Option Value) (base:Heap) (CX:CXT) (k:Nat) (f:Addr) (fd:FuncData) (ps:List Str) (sp:Sp):Prop where
 len:∀ vs H Q E,sp vs H Q E->vs.length=ps.length
 run:∀ (A:Around) (outer:List Env) (s:Shared) (H:Hp) (args:Args) (us:List Value) (vs:List V) (Q:VK) (E:XK),wB k A->zhT P w K mg base A outer s H->BindsTo s fd args (ps.zip us)->yt vs us->sp vs H Q E ->
  codeAny (model P w) A (.call (.ref f) args) (CR CX outer P w H s Q E) s
theorem xC.mono {P:Program}{w:World}{K:W.Frag}{mg:Str->Option Value}{base:Heap}{CX:CXT}{j k:Nat}{f:Addr}{fd:FuncData}{ps:List Str}{sp:Sp}(F:xC P w K mg base CX j f fd ps sp)(h:j<=k) :
 xC P w K mg base CX k f fd ps sp:=⟨F.len,λA outer s H args us vs Q E hr=>F.run A outer s H args us vs Q E (hr.mono h)⟩
theorem xC.imp {P:Program}{w:World}{K:W.Frag}{mg:Str->Option Value}{base:Heap}{CX:CXT}{k:Nat}{f:Addr}{fd:FuncData}{ps:List Str}{sp sp':Sp}(F:xC P w K mg base CX k f fd ps sp)
 (h:∀ vs H Q E,sp' vs H Q E->sp vs H Q E):xC P w K mg base CX k f fd ps sp' :=
 ⟨λvs H Q E q=>F.len vs H Q E (h _ _ _ _ q),λA outer s H args us vs Q E hr he hb hv hs=>F.run A outer s H args us vs Q E hr he hb hv (h _ _ _ _ hs)⟩
theorem zhT.make {P:Program}{w:World}{K:W.Frag}{mg:Str->Option Value}{base:Heap}{A:Around}{outer:List Env}{s:Shared}{H:Hp}(e:zhT P w K mg base A outer s H)(C:Addr)(us:List Value)(kw:List (Str × Value)) :
 zhT P w K mg base (A.under (.builtin "type.__call__" ⟨.ref C::us,kw⟩)) outer s H:=⟨by first | exact e.frames | (simpa [Around.under,Code.envs,Code.isFrame,pushEnvs]using e.frames),e.mod,e.bs,e.bsz,e.funs,e.frf,e.hok,e.bare⟩
section
variable {X:Cx}{pins:List (Addr × Obj)}{σ:St}{H:Hp}{s s':Shared}
theorem Inv.env0 (I:Inv X pins σ H s):zhT X.prog X.w X.K X.mg X.base X.A X.stack s H :=
 ⟨I.ok.frames,I.ok.mod,I.bs,i4 I.ok.bsz I.sz,I.stack,I.stkFree,I.hok,I.bare⟩
theorem Inv.after {Q:VK}{u:Value}(I:Inv X pins σ H s)(h:CE X.stack X.prog X.w H s Q u s'):EP X pins σ Q u s':=by
 obtain⟨v,H',os,bare,un,hok,r,q⟩:=h
 obtain⟨hh,g,d,t,os'⟩:=s'
 obtain rfl:os'=s.os:=os
 exact⟨v,H',I.call (h':=hh) (g':=g) (d':=d) (t':=t) (ch:=[]) un hok bare (λb z=>absurd z (by simp)),r,q⟩
end
def ziO (sp:Sp)(dvs:List V)(E:XK)(t:TA):TE:=fun σ H Q=>t σ H λvs H1=>sp (vs++dvs) H1 Q E
def ZQ (K:W.Frag)(fd:FuncData)(ps:List Str)(ds:List Value):Prop :=
 ∀ (s:Shared) (us:List Value),K.In s.heap->(us++ds).length=ps.length->BindsTo s fd ⟨us,[]⟩ (ps.zip (us++ds))
theorem ZQ.all {K:W.Frag}{fd:FuncData}{ps:List Str}(h:∀ us:List Value,us.length=ps.length->bindArgs fd ⟨us,[]⟩=pure (ps.zip us)):ZQ K fd ps []:=λs us _ hl=>by
 rw[u0k]at hl ⊢
 exact .of_eq (h us hl)
def Z6 (CX:CXT)(X:Cx)(E:XK):Prop:=∀ (pins:List (Addr × Obj)) (σ:St) (H:Hp) (s:Shared) (e:Value) (s':Shared),Inv X pins σ H s->CX X.stack H s E e s'->X.xe e s'
section
variable {X:Cx}{CX:CXT}{k:Nat}{f C:Addr}{fd:FuncData}{ps:List Str}{sp:Sp}{dvs:List V}{ds:List Value}{E:XK}{x m:Str}{p pos apos:Pos}{e o:Expr}{es:List Expr}{ta:TE}{t:TA}
theorem zlv {pins:List (Addr × Obj)}{σ:St}{H:Hp}{s:Shared}{Q:VK}{us:List Value}{vs:List V}(F:xC X.prog X.w X.K X.mg X.base CX k f fd ps sp)(hr:wB k X.A)(hb:ZQ X.K fd ps ds)(hd:yt dvs ds)(hx:Z6 CX X E)
 (I:Inv X pins σ H s) (r:yt vs us) (h:sp (vs++dvs) H Q E):wpAny (model X.prog X.w) X.A (call (.ref f) us) (EP X pins σ Q) X.xe s:=by
 have r2:yt (vs++dvs) (us++ds):=r.append hd
 have hl:(us++ds).length=ps.length:=by rw[<-r2.length];exact F.len _ _ _ _ h
 refine u2C (u2g (F.run X.A X.stack s H ⟨us,[]⟩ (us++ds) (vs++dvs) Q E hr I.env0 (hb s us I.kIn hl) r2 h) λr s' hq=>?_)
 cases r with
 | error e=>exact hx pins σ H s e s' I hq
 | ok fl =>
  cases fl with
  | ret u=>exact I.after hq
  | next=>exact False.elim hq
  | brk=>exact False.elim hq
  | cont=>exact False.elim hq
theorem zeD (F:xC X.prog X.w X.K X.mg X.base CX k f fd ps sp)(hr:wB k X.A)(hg:Gl X x)(hm:X.mg x=some (.ref f))(hk:W.keepIn X.K (.ref f)=true)(hb:ZQ X.K fd ps ds)(hd:yt dvs ds)(hx:Z6 CX X E)
 (ha:PA X (e::es) t) (hdb:(x == ("__debug__":Str))=false:=by decide) (he:starEach (e::es) X.env=(false,eval e X.env)::starEach es X.env:=by rfl) (hpl:(backTo pos (starEach es X.env)).any (·.1)=false:=by rfl) :
 PE X (.Call (.Name x p) (e::es) [] pos) (ziO sp dvs E t):=by
 intro pins s σ H Q I h
 refine u2p (Xd I hg hm ?_ hdb)
 refine W.callWith_K (h₀:=X.base) I.ok.mod.kin hk (thn (ha pos pins s σ H _ I h) λus s1 ⟨vs,H1,I1,r,q⟩=>⟨I1.kIn,?_⟩) he hpl
 exact zlv F hr hb hd hx I1 r q
end
structure zC (N P:List Str) (sc:Scope):Prop where
 kind:sc.kind=.function
 co:sc.isCoroutine=false
 gen:sc.isGenerator=false
 nd:N.Nodup
 pre:N.take P.length=P
 par:∀ x∈P,sc.names.lookup x=some .local\/sc.names.lookup x=some .cell
 nofree:∀ y∈sc.names,y.2≠.free
theorem zab {kindOf:Str->Option NameKind}{x:Str}:∀ {binds:List (Str × Value)} {m:Str->Option Value},(∀ v,(x,v)∉binds)->bindL kindOf binds m x=m x
 | [],_,_=>rfl
 | (n,v)::r,m,h=>by
  unfold bindL
  rw[zab λw hw=>h w (b0 _ hw)]
  split
  .have:x≠n:=by rintro rfl;exact h v g9
   simp[this]
  .rfl
theorem zaw {kindOf:Str->Option NameKind}{x:Str}:∀ {binds:List (Str × Value)} {m:Str->Option Value},(∀ v,(x,v)∉binds)->bindC kindOf binds m x=m x
 | [],_,_=>rfl
 | (n,v)::r,m,h=>by
  unfold bindC
  rw[zaw λw hw=>h w (b0 _ hw)]
  split
  .rfl
  .have:x≠n:=by rintro rfl;exact h v g9
   simp[this]
theorem VS {kindOf:Str->Option NameKind}{x:Str}{v:Value}:∀ {P:List Str} {vs:List Value} {i:Nat} {m:Str->Option Value},P.Nodup->P[i]?=some x->vs[i]?=some v->kindOf x=some .local ->
 bindL kindOf (P.zip vs) m x=some v
 | [],_,_,_,_,h,_,_=>by simp at h
 | _::_,[],_,_,_,_,h,_=>by simp at h
 | p::P,w::vs,0,m,nd,h1,h2,hk=>by
  simp at h1 h2;subst h1;subst h2
  show bindL kindOf ((p,w)::P.zip vs) m p=_
  unfold bindL
  rw[zab λv hv=>(u0s.mp nd).1 (u23 hv).1,q5 hk]
  simp
 | p::P,w::vs,i+1,m,nd,h1,h2,hk=>by
  show bindL kindOf ((p,w)::P.zip vs) m x=_
  unfold bindL
  exact VS (i:=i) (u0s.mp nd).2 (by simpa using h1) (by simpa using h2) hk
theorem zav {kindOf:Str->Option NameKind}{x:Str}{v:Value}:∀ {P:List Str} {vs:List Value} {i:Nat} {m:Str->Option Value},P.Nodup->P[i]?=some x->vs[i]?=some v->kindOf x≠some .local ->
 bindC kindOf (P.zip vs) m x=some v
 | [],_,_,_,_,h,_,_=>by simp at h
 | _::_,[],_,_,_,_,h,_=>by simp at h
 | p::P,w::vs,0,m,nd,h1,h2,hk=>by
  simp at h1 h2;subst h1;subst h2
  show bindC kindOf ((p,w)::P.zip vs) m p=_
  unfold bindC
  rw[zaw λv hv=>(u0s.mp nd).1 (u23 hv).1,j4 hk]
  simp
 | p::P,w::vs,i+1,m,nd,h1,h2,hk=>by
  show bindC kindOf ((p,w)::P.zip vs) m x=_
  unfold bindC
  exact zav (i:=i) (u0s.mp nd).2 (by simpa using h1) (by simpa using h2) hk
def start (N:List Str)(vs:List V):St:=vs.map some++List.replicate (N.length - vs.length) none
def Y6 (CX:CXT)(P:Program)(w:World)(K:W.Frag)(mg:Str->Option Value)(base:Heap)(N:List Str)(qual:Str)(scope:Scope)(f:Addr)(cd:Value)(A:Around)(outer:List Env)(s:Shared)(H:Hp)(E:XK):Cx where
 prog:=P
 w:=w
 K:=K
 mg:=mg
 base:=base
 A:=A.deeper (envOfC qual scope s.heap.objs.size f cd)
 N:=N
 s₀:=s
 H₀:=H
 env:=envOfC qual scope s.heap.objs.size f cd
 outer:=outer
 stack:=envOfC qual scope s.heap.objs.size f cd::outer
 ex:=[]
 calm:=true
 fn:=λ_=>true
 pn:=[]
 xe:=λe s'=>wpAny (model P w) (A.deeper (envOfC qual scope s.heap.objs.size f cd)) (leaving (envOfC qual scope s.heap.objs.size f cd) e) (λ_ s''=>CX outer H s E e s'') (λe' s''=>CX outer H s E e' s'') s'
theorem zbx {sc:Scope}{n:Nat}{x:Str}(h:sc.names.lookup x=some .cell):∃ c,(cellsFrom n sc.names []).lookup x=some c:=by
 have q:=u2t sc.names n [] (.inl h)
 exact u0v.mp q
theorem VE {CX:CXT}{P:Program}{w:World}{K:W.Frag}{mg:Str->Option Value}{base:Heap}{N ps:List Str}{qual:Str}{scope:Scope}{f:Addr}{cd:Value}{A:Around}{outer:List Env}{s s1:Shared}{H:Hp}{E:XK}{us:List Value}{vs:List V}
 (S:zC N ps scope) (hd:A.handled=none) (e0:zhT P w K mg base A outer s H) (hl:vs.length=ps.length) (r:yt vs us)
 (x:InCallC s s.heap.objs.size (bindL (envOfC qual scope s.heap.objs.size f cd).kindOf (ps.zip us) λ_=>none) (cellsFrom (s.heap.objs.size+1) scope.names []) (bindC (envOfC qual scope s.heap.objs.size f cd).kindOf (ps.zip us) λ_=>none) s1) :
 Inv (Y6 CX P w K mg base N qual scope f cd A outer s H E) [] (start N vs) H s1:=by
 have hpl:ps.length<=N.length:=by have:=u0M List.length S.pre;rw[u04]at this;omega
 obtain⟨h1,tk,rfl,hk⟩:=x.done
 have noA:∀ b:Addr,b∉(Y6 CX P w K mg base N qual scope f cd A outer s H E).ex:=λb z=>absurd (show b∈([]:List Addr)from z) (by simp)
 refine⟨⟨e0.mod,S.kind,rfl,rfl,j3 _,λy z c h1 h2=>?_,λy hy=>?_,λy c _ h=>?_,λ_=>hd,Around.frames_deeper e0.frames,.inr ⟨rfl,rfl⟩,λb z=>absurd z (noA b),e0.bs,e0.bsz,λb _ _=>noA b,λb z=>absurd z (noA b),e0.funs,e0.frf⟩,
  rfl,e0.bare,Un.kept hk,⟨_,x.toInCall.ns,λi y v h1 h2 h3=>?_⟩,λy c h=>⟨_,x.cell y c h⟩,e0.hok.fresh (j3 _),λy c h=>?_,λp hp=>absurd (show p∈([]:List (Addr × Obj))from hp) (by simp),e0.hok.kept hk,?_⟩
 .exact name_of_addr x.apart (u0U h1) (u0U h2)
 .have hy:scope.names.lookup y=some .cell\/scope.names.lookup y=some .free:=hy
  rcases hy with hy | hy
  .exact zbx hy
  .exact absurd rfl (S.nofree _ (u0U hy))
 .exact u0I (x.above y c (u0U h))
 .have hi:i < vs.length:=by
   unfold start at h2
   by_cases hi:i < vs.length
   .exact hi
   .rw[u0i (by simpa using hi)]at h2
    rw[u1J]at h2
    split at h2 <;> cases h2
  have ha:vs[i]?=some v:=by
   unfold start at h2
   rw[u0o (by simpa using hi),d6]at h2
   cases e:vs[i]? with
   | none=>rw[e]at h2;cases h2
   | some a=>rw[e]at h2;cases h2;rfl
  obtain⟨u,hu,rv⟩:=r.get ha
  have hp:ps[i]?=some y:=by
   rw[<-S.pre,List.getElem?_take_of_lt (by omega)];exact h1
  have ndP:ps.Nodup:=by rw[<-S.pre];exact S.nd.sublist (u3C _ _)
  refine⟨u,rv,?_⟩
  rcases S.par y (b6 hp)with k | k
  .exact .inl ⟨k,VS ndP hp hu k⟩
  .obtain⟨c,e⟩:=zbx (n:=s.heap.objs.size+1) k
   refine .inr ⟨.inl k,c,e,?_⟩
   have q:=x.cell y c e
   rw[zav ndP hp hu (by show scope.names.lookup y≠_;rw[k];decide)]at q
   exact q
 .exact e0.hok.fresh (u0I (x.above y c (u0U h)))
 .unfold start
  show _=N.length
  rw[d9,u7,List.length_replicate]
  omega
theorem zlB {CX:CXT}{P:Program}{w:World}{K:W.Frag}{mg:Str->Option Value}{base:Heap}{k:Nat}{f:Addr}{name qual:Str}{params:Arguments}{body:List Stmt}{scope:Scope}{dV kV doc pm cdv ct oc:Value}{an od:Option Addr}
 {osl:Array (Option Value)} {N ps:List Str} {sp:Sp} (lk:K.lookup f=some ⟨oc,od,.func (W.fnOf name qual params body scope dV kV doc pm an cdv ct),osl⟩) (hcd:W.codeIn K cdv qual=true) (S:zC N ps scope)
 (len:∀ vs H Q E,sp vs H Q E->vs.length=ps.length)
 (hbody:∀ (A:Around) (outer:List Env) (s:Shared) (H:Hp) (vs:List V) (Q:VK) (E:XK),wB k (A.deeper (envOfC qual scope s.heap.objs.size f cdv))->sp vs H Q E ->
  ∃ t,PSs (Y6 CX P w K mg base N qual scope f cdv A outer s H E) body t/\t { nx:=λ_ H'=>Q .non H',rt:=Q } (start N vs) H) :
 xC P w K mg base CX (k+1) f (W.fnOf name qual params body scope dV kV doc pm an cdv ct) ps sp:=by
 refine⟨len,λA outer s H args us vs Q E hr e0 hb r hsp=>?_⟩
 have hl:=len _ _ _ _ hsp
 have KX:K.In s.heap:=e0.mod.kin.keeps λb o e=>(e0.bs b o e).1
 have lim:s.heap.NoLimit:=e0.mod.nolimit.keeps λb o e=>(e0.bs b o e).1
 have hkind:∀ y∈ps.zip us,scope.names.lookup y.1=some .local\/(scope.names.lookup y.1=some .cell/\((cellsFrom (s.heap.objs.size+1) scope.names []).lookup y.1).isSome=true):=λ⟨n,v⟩ hy=>by
  rcases S.par n (u23 hy).1 with q | q
  .exact .inl q
  .exact .inr ⟨q,u2t _ _ _ (.inl q)⟩
 refine codeAny_call_function hr.depth (KX _ _ lk) rfl S.co S.gen rfl (W.codeRec_of KX hcd) (hb _ _ _ _ ?_)
 refine wpAny_newFunctionEnv_cells S.kind hkind λenv he s1 x=>?_
 subst he
 refine⟨lim.keeps x.toInCall.keep,codeAny_func ?_⟩
 obtain⟨t,ht,hq⟩:=hbody A outer s H vs Q E (hr.deeper _) hsp
 have I:Inv (Y6 CX P w K mg base N qual scope f cdv A outer s H E) [] (start N vs) H s1:=VE S hr.hd e0 hl r x
 refine u0j (ht [] s1 (start N vs) H _ I hq) (λfl s' hs=>?_) λe s' hs=>hs
 have fin:∀ {σ':St} {H':Hp} {v:V} {u:Value},Inv (Y6 CX P w K mg base N qual scope f cdv A outer s H E) [] σ' H' s'->yH v u->Q v H'->CE outer P w H s Q u s' :=
  λ{σ' H' v u} J rv q=>⟨v,H',J.os,J.bare,J.base,J.hok,rv,q⟩
 cases fl with
 | ret u =>
  obtain⟨v,σ',H',J,rv,q⟩:=hs
  exact fin J rv q
 | next =>
  obtain⟨σ',H',J,q⟩:=hs
  exact fin (v:=V.non) (u:=Value.none) J rfl q
 | brk =>
  obtain⟨_,_,_,q⟩:=hs
  exact False.elim q
 | cont =>
  obtain⟨_,_,_,q⟩:=hs
  exact False.elim q
section
variable {X:Cx}{x:Str}{p pos:Pos}{e:Expr}{es:List Expr}{t:TA}{id T:String}{r:List V->Hp->VK->Prop}
def tCB (r:List V->Hp->VK->Prop)(t:TA):TE:=fun σ H Q=>t σ H λvs H1=>r vs H1 Q
theorem zX (hc:vH X (.builtin id) r) (hg:Gl X x) (hm:X.mg x=none) (hv:bootBuiltins x=some (.builtin id)) (ha:PA X (e::es) t) (hn:x≠"__name__":=by decide) (hdb:(x == ("__debug__":Str))=false:=by decide)
 (he:starEach (e::es) X.env=(false,eval e X.env)::starEach es X.env:=by rfl) (hpl:(backTo pos (starEach es X.env)).any (·.1)=false:=by rfl):PE X (.Call (.Name x p) (e::es) [] pos) (tCB r t):=by
 intro pins s σ H Q I h
 refine u2p (YN I hg hm hv ?_ hn hdb)
 exact u2F (thn (ha pos pins s σ H _ I h) λus s1 ⟨vs,H1,I1,r1,q1⟩=>hc pins s1 σ H1 vs us Q I1 r1 q1) he hpl
theorem Vq (hc:vH X (.type T) r) (hg:Gl X x) (hm:X.mg x=none) (hv:bootBuiltins x=some (.type T)) (ha:PA X (e::es) t) (hn:x≠"__name__":=by decide) (hdb:(x == ("__debug__":Str))=false:=by decide)
 (he:starEach (e::es) X.env=(false,eval e X.env)::starEach es X.env:=by rfl) (hpl:(backTo pos (starEach es X.env)).any (·.1)=false:=by rfl):PE X (.Call (.Name x p) (e::es) [] pos) (tCB r t):=by
 intro pins s σ H Q I h
 refine u2p (YN I hg hm hv ?_ hn hdb)
 exact u0J (thn (ha pos pins s σ H _ I h) λus s1 ⟨vs,H1,I1,r1,q1⟩=>hc pins s1 σ H1 vs us Q I1 r1 q1) he hpl
end
end L2
namespace HT
open PySem PyProof.Rows
def lexLt:List Int->List Int->Bool
 | [],[]=>false
 | [],_::_=>true
 | _::_,[]=>false
 | x::xs,y::ys=>if x=y then lexLt xs ys else decide (x < y)
theorem lexLt_cons (x y:Int)(xs ys:List Int):lexLt (x::xs) (y::ys)=if x=y then lexLt xs ys else decide (x < y):=rfl
theorem zgh (A:Around)(s:Shared)(a:Int)(t:Tok)(c:Int)(u:Tok):∃ e,SeqAt.EqAt A s (.int a t) (.int c u) e/\(e=true↔a=c) :=
 ⟨(a == c),u3l a t c u,by simp⟩
section
variable {prog:Program}{w:World}{A:Around}{E:Value->Shared->Prop}{s:Shared}
theorem cat_tup {t b:Addr}{vs ws:List Value}{Q:Value->Shared->Prop}(ht:IsTup s.heap t vs.toArray)(hb:IsTup s.heap b ws.toArray)(hv:vs≠[])
 (h1:ws=[]->Q (.ref t) s) (h2:ws≠[]->Q (.ref s.heap.objs.size) { s with heap:=s.heap.push { cls:=.type "tuple",data:=.seq (vs++ws).toArray } })
 (hsz:vs.length+ws.length<=sizeLine):wpAny (model prog w) A (binaryOp .Add (.ref t) (.ref b)) Q E s:=by
 obtain⟨⟨cls,dd,data,sl⟩,ho,hc,n,hd⟩:=id ht
 obtain⟨⟨cls2,dd2,data2,sl2⟩,ho2,hc2,n2,hd2⟩:=id hb
 simp only at hc hd hc2 hd2
 subst hc hd hc2 hd2
 have e:vs.toArray++ws.toArray=(vs++ws).toArray:=by simp
 by_cases hw:ws=[]
 .exact concat_meets ⟨_,ho,rfl⟩ ⟨_,ho2,rfl⟩ noFill_tuple_add seq_tuple_add u2s u2o (u2e _ _)
   (tuple_addW1 t b vs.toArray ws.toArray n n2 dd dd2 sl sl2 (by simpa using hv) (by simp[hw])) ⟨ho,ho2,h1 hw⟩
 .refine concat_meets ⟨_,ho,rfl⟩ ⟨_,ho2,rfl⟩ noFill_tuple_add seq_tuple_add u2s u2o (u2e _ _)
   (tuple_addW2 t b vs.toArray ws.toArray n n2 dd dd2 sl sl2 (by simpa using hv) (by simpa using hw) (by rw[j6,j6];exact hsz)) ⟨ho,ho2,?_⟩
  rw[e]
  exact h2 hw
def sIx (n d:Nat):Option Int->Nat
 | none=>d
 | some v=>if v < 0 then (v+(n:Int)).toNat else min v.toNat n
theorem sIx_none (n d:Nat):sIx n d none=d:=rfl
theorem sIx_nat (n d k:Nat):sIx n d (some (k:Int))=min k n:=by
 show(if (k:Int) < 0 then ((k:Int)+(n:Int)).toNat else min (k:Int).toNat n)=min k n
 rw[j4 (by omega),u0E]
theorem zke (n d:Nat)(hd:d<=n)(o:Option Int):sIx n d o<=n:=by
 cases o with
 | none=>exact hd
 | some v =>
  show(if v < 0 then (v+(n:Int)).toNat else min v.toNat n)<=n
  by_cases hv:v < 0
  .rw[q5 hv];omega
  .rw[j4 hv];exact u3U _ _
theorem zfy (v:Int)(n d:Nat):(if v < 0 then max (v+(n:Int)) 0 else min v (n:Int))=((sIx n d (some v):Nat):Int):=by
 show(if v < 0 then max (v+(n:Int)) 0 else min v (n:Int))=(((if v < 0 then (v+(n:Int)).toNat else min v.toNat n):Nat):Int)
 by_cases hv:v < 0
 .simp only[q5 hv];omega
 .simp only[j4 hv];omega
theorem zc0 (lo hi:Option Int)(n:Nat):Builtin.Slice.sliceAdjust lo hi 1 (n:Int)=(((sIx n 0 lo:Nat):Int),((sIx n n hi:Nat):Int)):=by
 have h1:¬ ((1:Int) < 0):=by omega
 unfold Builtin.Slice.sliceAdjust
 simp only[h1,u18]
 refine u10 ?_ ?_
 .cases lo with
  | none=>rfl
  | some v=>exact zfy v n 0
 .cases hi with
  | none=>rfl
  | some v=>exact zfy v n n
theorem zcL (i j:Nat):Builtin.Slice.slicePlaces (i:Int) (j:Int) 1=j - i:=by
 unfold Builtin.Slice.slicePlaces
 have h1:(1:Int) > 0:=by omega
 simp only[h1,u3a,Int.ediv_one]
 split <;> omega
theorem Wr {v:Value}{o:Option Int}{Q:Option Int->Shared->Prop}(p:IsPart v o)(h:Q o s):wpAny (model prog w) A (Builtin.Slice.slicePartIndex v) Q E s:=by
 cases p with
 | none=>exact slicePart_none h
 | int i t=>exact slicePart_int h
theorem vz {sl:Addr}{vl vu:Value}{lo hi:Option Int}{n:Nat}{Q:Int × Int × Nat->Shared->Prop}(hs:s.heap.IsSliceOf sl vl vu .none)(pl:IsPart vl lo)(pu:IsPart vu hi)
 (h:Q (((sIx n 0 lo:Nat):Int),1,sIx n n hi - sIx n 0 lo) s):wpAny (model prog w) A (Builtin.Slice.sliceApplied (.ref sl) (pure (n:Int))) Q E s:=by
 obtain⟨os,hos,hcs,hds⟩:=id hs
 unfold Builtin.Slice.sliceApplied Builtin.Slice.sliceFields
 refine u0 (u0 (u0W hos hds (x:=vl) rfl (u0 (u0W hos hds (x:=vu) rfl (u0 (u0W hos hds (x:=.none) rfl (u6 ?_)))))))
 refine u0 (slicePart_none ?_)
 show wpAny _ _ (if ((1:Int) == 0)=true then _ else _) _ _ s
 rw[j4 (by decide)]
 refine u0 (Wr pl (u0 (Wr pu (u0 (u6 ?_)))))
 show wpAny _ _ (match Builtin.Slice.sliceAdjust lo hi 1 (n:Int)with | (lo,hi)=>pure (lo,(1:Int),Builtin.Slice.slicePlaces lo hi 1)) _ _ s
 rw[zc0 lo hi n]
 show wpAny _ _ (pure (((sIx n 0 lo:Nat):Int),(1:Int),Builtin.Slice.slicePlaces ((sIx n 0 lo:Nat):Int) ((sIx n n hi:Nat):Int) 1)) _ _ s
 rw[zcL]
 exact u6 h
theorem zge (xs:Array Value)(i k:Nat):((List.range k).filterMap λ(m:Nat)=>xs[((i:Int)+(m:Int)*1).toNat]?).toArray=((xs.toList.drop i).take k).toArray:=by
 have e:(λ(m:Nat)=>xs[((i:Int)+(m:Int)*1).toNat]?)=λm=>xs[i+m]?:=by
  funext m
  have:((i:Int)+(m:Int)*1).toNat=i+m:=by omega
  rw[this]
 rw[e]
 have:=pick_run xs i k
 rw[List.filterMap_map]at this
 have e2:((λx=>xs[x]?) ∘ λx=>i+x)=λm=>xs[i+m]?:=rfl
 rw[e2]at this
 rw[this]
theorem getItem_tuple_cut {t sl:Addr}{items:Array Value}{vl vu:Value}{lo hi:Option Int}{Q:Value->Shared->Prop}(ht:IsTup s.heap t items)(hs:s.heap.IsSliceOf sl vl vu .none)(pl:IsPart vl lo)(pu:IsPart vu hi)
 (hw:¬ (sIx items.size 0 lo=0/\sIx items.size items.size hi=items.size))
 (h:Q (.ref s.heap.objs.size) { s with heap:=s.heap.push { cls:=.type "tuple",data:=.seq ((items.toList.drop (sIx items.size 0 lo)).take (sIx items.size items.size hi - sIx items.size 0 lo)).toArray } })
 (hsz:items.size<=sizeLine):wpAny (model prog w) A (getItem (.ref t) (.ref sl)) Q E s:=by
 have htake:sizeOk (.seq ((items.toList.drop (sIx items.size 0 lo)).take (sIx items.size items.size hi - sIx items.size 0 lo)).toArray):=by
  show((items.toList.drop (sIx items.size 0 lo)).take (sIx items.size items.size hi - sIx items.size 0 lo)).toArray.size<=sizeLine
  rw[j6,u04,u3S,t7]
  omega
 have hj:sIx items.size items.size hi<=items.size:=zke _ _ (j3 _) hi
 obtain⟨os,hos,hcs,hds⟩:=id hs
 have hTs:s.TypeIs (.ref sl) "slice":=⟨os,hos,hcs⟩
 unfold getItem
 try with_reducible refine i5 ?_
 first | refine u0 (u6 ?_) | skip
 refine u0 (wpAny_sequenceKey ht.typeIs (by decide) ?_)
 refine u0 (e9 (name:=Str.ofString "__getitem__") ht.typeIs u0w
  (i7 u0w ht.typeIs entry_tuple_getitem ?_ (args_tuple_getitem _ _)))
 show wpAny _ _ (Builtin.Tuple.tupleItemsOf (.ref t)>>=_) _ _ s
 refine u0 (tupleItemsOf_ ht ?_)
 refine u0 (u1I hTs ?_)
 rw[q5 (by decide)]
 refine u0 (vz hs pl pu ?_)
 have hno:¬ ((((sIx items.size 0 lo:Nat):Int) == 0&&(1:Int) == 1&&(sIx items.size items.size hi - sIx items.size 0 lo) == items.size)=true):=by
  intro q
  rw[p4,p4]at q
  have q1:((sIx items.size 0 lo:Nat):Int)=0:=eq_of_beq q.1.1
  have q2:sIx items.size items.size hi - sIx items.size 0 lo=items.size:=eq_of_beq q.2
  exact hw ⟨by omega,by omega⟩
 show wpAny _ _ (if (((sIx items.size 0 lo:Nat):Int) == 0&&(1:Int) == 1&&(sIx items.size items.size hi - sIx items.size 0 lo) == items.size)=true then _ else _) _ _ s
 rw[j4 hno,zge]
 first
  | exact u0 (m:=Builtin.Tuple.tupleExact _) (u0c (u6 ⟨_,rfl,u6 h⟩) htake)
  | exact u0 (m:=Builtin.Tuple.tupleExact _) (u0c (u0 (u6 (u6 ⟨_,rfl,u6 h⟩))) htake)
  | exact u0 (u0 (m:=Builtin.Tuple.tupleExact _) (u0c (u6 (u6 ⟨_,rfl,u6 h⟩)) htake))
  | exact u0 (u0 (m:=Builtin.Tuple.tupleExact _) (u0c (u6 ⟨_,rfl,u6 h⟩) htake))
end
end HT
namespace L2
open PySem PySem.Spec PyProof.Rows
abbrev TO:=St->Hp->(Option Int->Hp->Prop)->Prop
def PO (X:Cx)(e:Option Expr)(t:TO):Prop :=
 ∀ (pins:List (Addr × Obj)) (s:Shared) (σ:St) (H:Hp) (Q:Option Int->Hp->Prop),Inv X pins σ H s->t σ H Q ->
  wpAny (model X.prog X.w) X.A (evalPart e X.env) (λu s'=>∃ o H',Inv X pins σ H' s'/\IsPart u o/\Q o H') X.xe s
def zja:TO:=λ_ H Q=>Q none H
def zmF (t:TE):TO:=fun σ H Q=>t σ H λx H1=>∃ i,x=.int i/\Q (some i) H1
theorem wU {ns:List Int}:∀ {us:List Value},yt (ns.map V.int) us->IntsAre us ns:=by
 induction ns with
 | nil=>intro us r;rw[u35]at r;cases r;exact .nil
 | cons n ns ih =>
  intro us r
  rw[i8]at r
  cases r with
  | cons r1 r2 =>
   obtain⟨t,e⟩:=r1
   subst e
   exact .cons n t (ih r2)
section
variable {X:Cx}{e:Expr}{te:TE}{lo hi:Option Expr}{tl th:TO}{pos p2:Pos}
theorem ziM:PO X none zja:=by
 intro pins s σ H Q I h
 rw[evalPart_none]
 exact u6 ⟨none,H,I,.none,h⟩
theorem ziJ (h:PE X e te):PO X (some e) (zmF te):=by
 intro pins s σ H Q I hw
 rw[evalPart_some]
 refine thn (h pins s σ H _ I hw) λu s1 hh9=>?_
 obtain⟨x,H1,I1,r1,q1⟩:=hh9
 obtain⟨i,rfl,q⟩:=q1
 obtain⟨t,rfl⟩:=r1
 exact⟨some i,H1,I1,.int i t,q⟩
def SlR (X:Cx)(r:V->Option Int->Option Int->Hp->VK->Prop):Prop :=
 ∀ (pins:List (Addr × Obj)) (s:Shared) (σ:St) (H:Hp) (x:V) (v vl vu:Value) (lo hi:Option Int) (sl:Addr) (Q:VK),Inv X pins σ H s->yH x v->s.heap.IsSliceOf sl vl vu .none->IsPart vl lo->IsPart vu hi->r x lo hi H Q ->
  ∃ T id,typeLookup (.type T) "__getitem__"=pure (some (.builtin id))/\s.TypeIs v T/\wpAny (model X.prog X.w) X.A (getItem v (.ref sl)) (EP X pins σ Q) X.xe s
theorem SlR.or {r r':V->Option Int->Option Int->Hp->VK->Prop}(h:SlR X r)(h':SlR X r'):SlR X (λx lo hi H Q=>r x lo hi H Q\/r' x lo hi H Q):=by
 intro pins s σ H x v vl vu lo hi sl Q I rx hs pl pu q
 rcases q with q | q
 .exact h pins s σ H x v vl vu lo hi sl Q I rx hs pl pu q
 .exact h' pins s σ H x v vl vu lo hi sl Q I rx hs pl pu q
def tSl (r:V->Option Int->Option Int->Hp->VK->Prop)(te:TE)(tl th:TO):TE:=fun σ H Q=>te σ H λx H1=>tl σ H1 λl H2=>th σ H2 λu H3=>r x l u H3 Q
theorem zhB {r:V->Option Int->Option Int->Hp->VK->Prop}(hr:SlR X r)(he:PE X e te)(hl:PO X lo tl)(hu:PO X hi th):PE X (.Subscript e (.Slice lo hi none p2) pos) (tSl r te tl th):=by
 intro pins s σ H Q I h
 refine Subscript_ (thn (he pins s σ H _ I h) λv s1 hh9=>?_)
 obtain⟨x,H1,I1,r1,q1⟩:=hh9
 refine wpAny_Slice (thn (hl pins s1 σ H1 _ I1 q1) λvl s2 ⟨l,H2,I2,pl,q2⟩=>thn (hu pins s2 σ H2 _ I2 q2) λvu s3 hh9=>?_)
 obtain⟨u,H3,I3,pu,q3⟩:=hh9
 rw[evalPart_none]
 refine u6 ?_
 have I4:Inv X pins σ H3 { s3 with heap:=s3.heap.push { cls:=.type "slice",data:=.fields #[vl,vu,.none] } }:=I3.kept (t':=s3.toks) λb ob q=>u4 _ q
 obtain⟨T,id,hT,ht,hg⟩:=hr pins { s3 with heap:=s3.heap.push { cls:=.type "slice",data:=.fields #[vl,vu,.none] } } σ H3 x v vl vu l u s3.heap.objs.size Q I4 r1 (Heap.IsSliceOf.new ..) pl pu q3
 show wpAny (model X.prog X.w) X.A (subscriptTail e (.Slice lo hi none p2) v (.ref s3.heap.objs.size)) (EP X pins σ Q) X.xe { s3 with heap:=s3.heap.push { cls:=.type "slice",data:=.fields #[vl,vu,.none] } }
 exact tail_any (ops:=[.ref s3.heap.objs.size,v]) ht hT hg (by with_unfolding_all rfl)
def zaD (xs:List V)(lo hi:Option Int):List V:=(xs.drop (HT.sIx xs.length 0 lo)).take (HT.sIx xs.length xs.length hi - HT.sIx xs.length 0 lo)
theorem Xs (xs:List V)(lo hi:Option Int):(zaD xs lo hi).length<=xs.length:=by
 unfold zaD
 rw[u04,u3S]
 omega
def rSlT (K:W.Frag):V->Option Int->Option Int->Hp->VK->Prop:=λx lo hi H Q=>∃ a xs,x=.ref a/\SqT K H a xs /\
 ¬ (HT.sIx xs.length 0 lo=0/\HT.sIx xs.length xs.length hi=xs.length)/\∀ p,H p=none->Q (.ref p) (upd H p (.tup (zaD xs lo hi)))
theorem zkg:SlR X (rSlT X.K):=by
 intro pins s σ H x v vl vu lo hi sl Q I rx hs pl pu h
 obtain⟨a,xs,rfl,hx,hw,q⟩:=h
 cases rx
 obtain⟨its,r,ht,hz⟩:=I.tuple hx
 have hlen:its.toArray.size=xs.length:=by rw[j6];exact r.length.symm
 refine⟨"tuple",_,u0w.lookup,ht.typeIs,?_⟩
 refine HT.getItem_tuple_cut ht hs pl pu (by rw[hlen];exact hw) ?_ (by rw[hlen];exact hz)
 rw[hlen]
 refine⟨.ref s.heap.objs.size,_,I.laid (t':=s.toks) (o:=.tup (zaD xs lo hi)) (λb ob q=>u4 _ q) (j3 _) ?_,rfl,q _ (I.hok.fresh (j3 _))⟩
 exact⟨i4 (Xs xs lo hi) hz,_,(r.drop (HT.sIx xs.length 0 lo)).take (HT.sIx xs.length xs.length hi - HT.sIx xs.length 0 lo),IsTup.new _ _⟩
def zmd (K:W.Frag):R2:=λx y H Q=>∃ a b xs ys,x=.ref a/\y=.ref b/\SqT K H a xs/\SqT K H b ys/\xs≠[]/\xs.length+ys.length<=sizeLine /\
 (ys=[]->Q (.ref a) H)/\(ys≠[]->∀ p,H p=none->Q (.ref p) (upd H p (.tup (xs++ys))))
theorem yt.nil_iff {xs:List V}{us:List Value}(r:yt xs us):us=[]↔xs=[]:=by
 cases r with
 | nil=>simp
 | cons _ _=>simp
theorem zii:OpR X (binaryOp .Add) (zmd X.K):=by
 intro pins s σ H x y v u Q I rx ry h
 obtain⟨a,b,xs,ys,rfl,rfl,ha,hb,hx,hz,q1,q2⟩:=h
 cases rx
 cases ry
 obtain⟨its,r1,p1,_⟩:=I.tuple ha
 obtain⟨its2,r2,p2,_⟩:=I.tuple hb
 refine HT.cat_tup p1 p2 (λz=>hx (r1.nil_iff.mp z)) (λz=>⟨.ref a,H,I,rfl,q1 (r2.nil_iff.mp z)⟩) (λz=>?_) (by rw[<-r1.length,<- r2.length];exact hz)
 refine⟨.ref s.heap.objs.size,_,I.laid (t':=s.toks) (o:=.tup (xs++ys)) (λb ob q=>u4 _ q) (j3 _) ?_,rfl,q2 (λw=>z (r2.nil_iff.mpr w)) _ (I.hok.fresh (j3 _))⟩
 exact⟨by rw[d9];exact hz,_,r1.append r2,IsTup.new _ _⟩
end
def ixN (n:Nat)(i:Int):Option Nat:=if 0<=i then (if i < n then some i.toNat else none)else if -(n:Int)<=i then some (i+n).toNat else none
def atI {α:Type}(xs:List α)(i:Int):Option α:=(ixN xs.length i).bind λj=>xs[j]?
theorem zi4 {n:Nat}{i:Int}{j:Nat}(h:ixN n i=some j):seqIndex? i n=some j/\j < n/\-(n:Int)<=i/\i < n:=by
 unfold ixN at h
 by_cases h0:0<=i
 .rw[q5 h0]at h
  by_cases h1:i < n
  .rw[q5 h1]at h
   have e:i.toNat=j:=u0m h
   exact⟨by rw[seqIndex_of h0 h1,e],by omega,by omega,h1⟩
  .rw[j4 h1]at h;cases h
 .rw[j4 h0]at h
  by_cases h1:-(n:Int)<=i
  .rw[q5 h1]at h
   have e:(i+n).toNat=j:=u0m h
   exact⟨by rw[seqIndex_neg (by omega) h1,e],by omega,h1,by omega⟩
  .rw[j4 h1]at h;cases h
theorem zbm {α:Type}{xs:List α}{i:Int}{v:α}(h:atI xs i=some v):∃ j,seqIndex? i xs.length=some j/\xs[j]?=some v/\j < xs.length/\-(xs.length:Int)<=i/\i < xs.length:=by
 unfold atI at h
 cases e:ixN xs.length i with
 | none=>rw[e]at h;cases h
 | some j =>
  rw[e]at h
  obtain⟨h1,h2,h3,h4⟩:=zi4 e
  exact⟨j,h1,h,h2,h3,h4⟩
theorem zjo {α:Type}{xs:List α}{j:Nat}{v:α}(h:xs[j]?=some v):atI xs (j:Int)=some v:=by
 have hj:j < xs.length:=(t6.mp h).1
 have e:ixN xs.length (j:Int)=some j:=by
  unfold ixN
  rw[q5 (by omega),q5 (by omega)];simp
 unfold atI;rw[e];exact h
def zdu (b:Expr):Prop:=∀ o i,subscripted b false o i=operate [o,i] (getItem o i)
def IxR (X:Cx)(r:R2):Prop :=
 ∀ (value slice:Expr) (pins:List (Addr × Obj)) (s:Shared) (σ:St) (H:Hp) (x y:V) (v u:Value) (Q:VK),Inv X pins σ H s->yH x v->yH y u->r x y H Q ->
  subscripted slice false v u=operate [v,u] (getItem v u)->wpAny (model X.prog X.w) X.A (subscriptTail value slice v u) (EP X pins σ Q) X.xe s
def MtR (X:Cx)(id:String)(r:V->List V->Hp->VK->Prop):Prop :=
 ∀ (pins:List (Addr × Obj)) (s:Shared) (σ:St) (H:Hp) (x:V) (xs:List V) (v:Value) (us:List Value) (Q:VK),Inv X pins σ H s->yH x v->yt xs us->r x xs H Q ->
  wpAny (model X.prog X.w) X.A (call (.builtin id) (v::us)) (EP X pins σ Q) X.xe s
section
variable {X:Cx}{a b:Expr}{ta tb:TE}{pos:Pos}
theorem IxR.or {r r':R2}(h:IxR X r)(h':IxR X r'):IxR X (λx y H Q=>r x y H Q\/r' x y H Q):=by
 intro value slice pins s σ H x y v u Q I rx ry q hs
 rcases q with q | q
 .exact h value slice pins s σ H x y v u Q I rx ry q hs
 .exact h' value slice pins s σ H x y v u Q I rx ry q hs
theorem zmW {r:R2}(hr:IxR X r)(ha:PE X a ta)(hb:PE X b tb)(hs:zdu b):PE X (.Subscript a b pos) (tOp r ta tb):=by
 intro pins s σ H Q I h
 exact Subscript_ (zmM ha hb I h λv u s2 x y H2 I2 rx ry q=>hr a b pins s2 σ H2 x y v u Q I2 rx ry q (hs _ _))
def rIxL (K:W.Frag):R2:=λx y H Q=>∃ p xs i v,x=.ref p/\y=.int i/\SqL K H p xs/\atI xs i=some v/\Q v H
def rIxT (K:W.Frag):R2:=λx y H Q=>∃ p xs i v,x=.ref p/\y=.int i/\SqT K H p xs/\atI xs i=some v/\Q v H
def rIxS:R2:=λx y H Q=>∃ z i c,x=.str z/\y=.int i/\z.length<=sizeLine/\atI z.cps.toList i=some c/\Q (.str ⟨#[c]⟩) H
theorem ziK:IxR X (rIxL X.K):=by
 intro value slice pins s σ H x y v u Q I rx ry h hs
 obtain⟨p,xs,i,z,rfl,rfl,hq,he,q⟩:=h
 cases rx
 obtain⟨t,rfl⟩:=ry
 obtain⟨its,r,pl,hz⟩:=I.list hq
 obtain⟨j,h1,h2,h3,h4,h5⟩:=zbm he
 obtain⟨w,ew,rw'⟩:=r.get h2
 have hl:=r.length
 have hn:=zas
 have fin:EP X pins σ Q w s:=⟨z,H,I,rw',q⟩
 by_cases h0:0<=i
 .have hj:i.toNat=j:=by
   rw[seqIndex_of h0 h5]at h1
   exact u0m h1
  exact item_listR pl.isList h0 (by omega) (by rw[hj];simpa using ew) fin hs
 .have hj:(i+(its.toArray.size:Int)).toNat=j:=by
   rw[seqIndex_neg (by omega) h4]at h1
   rw[j6,<- hl]
   exact u0m h1
  exact subscriptTail_builtinR (x:=w) pl.isList.typeIs slot_list_getitem.lookup
   (wpAny_getItem_list_neg (Q:=λr s'=>r=w/\EP X pins σ Q r s') pl.isList (by omega) (by rw[j6] <;> omega) (by omega) (by rw[hj];simpa using ew) ⟨rfl,fin⟩) hs
theorem zlA:IxR X (rIxT X.K):=by
 intro value slice pins s σ H x y v u Q I rx ry h hs
 obtain⟨p,xs,i,z,rfl,rfl,hq,he,q⟩:=h
 cases rx
 obtain⟨t,rfl⟩:=ry
 obtain⟨its,r,pl,hz⟩:=I.tuple hq
 obtain⟨j,h1,h2,h3,h4,h5⟩:=zbm he
 obtain⟨w,ew,rw'⟩:=r.get h2
 have hl:=r.length
 have hn:=zas
 have fin:EP X pins σ Q w s:=⟨z,H,I,rw',q⟩
 exact subscriptTail_builtinR (x:=w) pl.typeIs slot_tuple_getitem.lookup
  (getItem_tuple (j:=j) (Q:=λr s'=>r=w/\EP X pins σ Q r s') pl (by omega) (by omega) (by rw[j6,<- hl];exact h1) (by simpa using ew) ⟨rfl,fin⟩) hs
theorem zkk:IxR X rIxS:=by
 intro value slice pins s σ H x y v u Q I rx ry h hs
 obtain⟨z,i,c,rfl,rfl,hz,he,q⟩:=h
 obtain⟨t,rfl⟩:=rx
 obtain⟨t',rfl⟩:=ry
 obtain⟨j,h1,h2,h3,h4,h5⟩:=zbm he
 have hl:z.cps.toList.length=z.length:=by simp[Str.length]
 rw[hl]at h1 h4 h5
 have hn:=zas
 exact tail_any (typeIs_str s z t) slot_str_getitem.lookup (getItem_str (c:=c) (by
  have e1:decide (i < -(2 ^ 63:Int))=false:=g0 (by omega)
  have e2:decide (i >= 2 ^ 63)=false:=g0 (by omega)
  rw[e1,e2,Bool.or_false]) (by rw[h1];simpa using h2) ⟨.str ⟨#[c]⟩,H,I.tok _,⟨_,rfl⟩,q⟩) hs
def rIx (K:W.Frag):R2:=λx y H Q=>rIxL K x y H Q\/rIxT K x y H Q\/rIxS x y H Q
theorem zls:IxR X (rIx X.K):=ziK.or (zlA.or zkk)
theorem Vw (lo hi:Option Int)(n:Nat):(sliceBounds lo hi none n).1=((HT.sIx n 0 lo:Nat):Int)/\(sliceBounds lo hi none n).2.1=((HT.sIx n n hi:Nat):Int)/\(sliceBounds lo hi none n).2.2=1:=by
 refine⟨?_,?_,rfl⟩
 .cases lo with
  | none=>simp[sliceBounds,HT.sIx]
  | some i =>
   simp only[sliceBounds,HT.sIx,Option.getD_none,show(1:Int) > 0 by decide,u3a]
   by_cases h:i < 0
   .simp only[h,u3a] <;> omega
   .simp only[h,u18] <;> omega
 .cases hi with
  | none=>simp[sliceBounds,HT.sIx]
  | some i =>
   simp only[sliceBounds,HT.sIx,Option.getD_none,show(1:Int) > 0 by decide,u3a]
   by_cases h:i < 0
   .simp only[h,u3a] <;> omega
   .simp only[h,u18] <;> omega
theorem Va (its:List Value)(lo hi:Option Int):slicePick its.toArray lo hi none=((its.drop (HT.sIx its.length 0 lo)).take (HT.sIx its.length its.length hi - HT.sIx its.length 0 lo)).toArray:=by
 obtain⟨h1,h2,h3⟩:=Vw lo hi its.toArray.size
 unfold slicePick
 rw[h1,h2,h3]
 simp only[sliceRange_one,pick_run,j6] <;> rfl
def rSlL (K:W.Frag):V->Option Int->Option Int->Hp->VK->Prop:=λx lo hi H Q=>∃ a xs,x=.ref a/\SqL K H a xs/\∀ p,H p=none->Q (.ref p) (upd H p (.lst (zaD xs lo hi)))
theorem zi2:SlR X (rSlL X.K):=by
 intro pins s σ H x v vl vu lo hi sl Q I rx hs pl pu h
 obtain⟨a,xs,rfl,hx,q⟩:=h
 cases rx
 obtain⟨its,r,ht,hz⟩:=I.list hx
 have hlen:=r.length
 refine⟨"list",_,slot_list_getitem.lookup,ht.isList.typeIs,?_⟩
 refine wpAny_getItem_list_slice ht.isList hs pl pu .none (by simp) ?_ (by rw[j6] <;> omega)
 rw[Va,<- hlen]
 refine⟨.ref s.heap.objs.size,_,I.laid (t':=s.toks) (o:=.lst (zaD xs lo hi)) (λb ob q=>u4 _ q) (j3 _) ?_,rfl,q _ (I.hok.fresh (j3 _))⟩
 exact⟨i4 (Xs xs lo hi) hz,_,0,(r.drop (HT.sIx xs.length 0 lo)).take (HT.sIx xs.length xs.length hi - HT.sIx xs.length 0 lo),j7 _ rfl⟩
def zcN:V->Bool
 | .non=>true
 | .bl _=>true
 | .int _=>true
 | .str _=>true
 | _=>false
def eqV:V->V->Bool
 | .non,.non=>true
 | .bl a,.bl b=>a == b
 | .bl a,.int b=>(if a then 1 else 0) == b
 | .int a,.bl b=>a == (if b then 1 else 0)
 | .int a,.int b=>a == b
 | .str a,.str b=>a == b
 | _,_=>false
theorem zdP {A:Around}{s:Shared}{y x:V}{u v:Value}(ry:yH y u)(rx:yH x v)(fy:zcN y=true)(fx:zcN x=true):SeqAt.EqAt A s u v (eqV y x):=by
 cases y with
 | non =>
  cases ry
  cases x with
  | non=>cases rx;exact SeqAt.EqAt.same _
  | bl b=>cases rx;exact SeqAt.EqAt.none_bool b
  | int b=>obtain⟨t,rfl⟩:=rx;exact SeqAt.EqAt.none_int b t
  | str b=>obtain⟨t,rfl⟩:=rx;exact SeqAt.EqAt.none_str b t
  | _=>exact absurd (show false=true from fx) u8
 | bl a =>
  cases ry
  cases x with
  | non=>cases rx;exact SeqAt.EqAt.bool_none a
  | bl b=>cases rx;exact SeqAt.EqAt.bool_bool a b
  | int b=>obtain⟨t,rfl⟩:=rx;exact SeqAt.EqAt.bool_int a b t
  | str b=>obtain⟨t,rfl⟩:=rx;exact SeqAt.EqAt.bool_str a b t
  | _=>exact absurd (show false=true from fx) u8
 | int a =>
  obtain⟨t',rfl⟩:=ry
  cases x with
  | non=>cases rx;exact SeqAt.EqAt.int_none a t'
  | bl b=>cases rx;exact SeqAt.EqAt.int_bool a t' b
  | int b=>obtain⟨t,rfl⟩:=rx;exact u3l a t' b t
  | str b=>obtain⟨t,rfl⟩:=rx;exact SeqAt.EqAt.int_str a t' b t
  | _=>exact absurd (show false=true from fx) u8
 | str a =>
  obtain⟨t',rfl⟩:=ry
  cases x with
  | non=>cases rx;exact SeqAt.EqAt.str_none a t'
  | bl b=>cases rx;exact SeqAt.EqAt.str_bool a t' b
  | int b=>obtain⟨t,rfl⟩:=rx;exact SeqAt.EqAt.str_int a t' b t
  | str b=>obtain⟨t,rfl⟩:=rx;exact SeqAt.EqAt.str_str a t' b t
  | _=>exact absurd (show false=true from fx) u8
 | _=>exact absurd (show false=true from fy) u8
def eqU (x:V)(u:Value):Bool:=match u with
 | .none=>eqV .non x
 | .bool b=>eqV (.bl b) x
 | .int i _=>eqV (.int i) x
 | .str z _=>eqV (.str z) x
 | _=>false
theorem zlf {x y:V}{u:Value}(r:yH y u)(f:zcN y=true):eqU x u=eqV y x:=by
 cases y with
 | non=>cases r;rfl
 | bl b=>cases r;rfl
 | int i=>obtain⟨t,rfl⟩:=r;rfl
 | str z=>obtain⟨t,rfl⟩:=r;rfl
 | _=>exact absurd (show false=true from f) u8
theorem WA {A:Around}{s:Shared}{x:V}{v:Value}(rx:yH x v)(fx:zcN x=true):∀ {xs:List V} {us:List Value},yt xs us->xs.all zcN=true->∀ u∈us,SeqAt.EqAt A s u v (eqU x u)
 | _,_,.nil,_=>λu hu=>by cases hu
 | y::xs,u::us,.cons r t,f=>λu' hu=>by
  rw[u2j,p4]at f
  rcases j5.mp hu with rfl | hu
  .rw[zlf r f.1];exact zdP r rx f.1 fx
  .exact WA rx fx t f.2 u' hu
theorem zM:vH X (.builtin "len") (λxs H Q=>∃ p ys,xs=[.ref p]/\(SqL X.K H p ys\/SqT X.K H p ys)/\Q (.int ys.length) H):=by
 intro pins s σ H xs us Q I r h
 obtain⟨p,ys,rfl,hq,q⟩:=h
 obtain⟨u,rfl,rx⟩:=WN r
 cases rx
 have hn:=zas
 rcases hq with hq | hq
 .obtain⟨its,r',pl,hz⟩:=I.list hq
  have hlen:=r'.length
  exact Calls.call_len_list pl.isList (by simp only[j6] <;> omega) ⟨.int ys.length,H,I.tok _,⟨s.toks+1,by rw[j6,hlen]⟩,q⟩
 .obtain⟨its,r',pl,hz⟩:=I.tuple hq
  have hlen:=r'.length
  exact len_tuple pl (by simp only[j6] <;> omega) ⟨.int ys.length,H,I.tok _,⟨s.toks+1,by rw[j6,hlen]⟩,q⟩
theorem zaf:vH X (.type "list") (λxs H Q=>∃ p ys,xs=[.ref p]/\(SqL X.K H p ys\/SqT X.K H p ys)/\∀ l,H l=none->Q (.ref l) (upd H l (.lst ys))):=by
 intro pins s σ H xs us Q I r h
 obtain⟨p,ys,rfl,hq,q⟩:=h
 obtain⟨u,rfl,rx⟩:=WN r
 cases rx
 have fin:∀ (its:List Value),yt ys its->ys.length<=sizeLine->∀ (h':Heap) (c':Nat),(∀ b o',s.heap.get? b=some o'->h'.get? b=some o') ->
  h'.get? s.heap.objs.size=some { cls:=.type "list",dict:=none,data:=.seq its.toArray c',slots:=#[] }->EP X pins σ Q (.ref s.heap.objs.size) { s with heap:=h' }:=λits r' hz h' c' kp e =>
  ⟨.ref s.heap.objs.size,_,I.laid (t':=s.toks) kp (j3 _) (show yk X.prog X.w _ h' _ (.lst ys) from⟨hz,its,c',r',e⟩),rfl,q _ (I.hok.fresh (j3 _))⟩
 rcases hq with hq | hq
 .obtain⟨its,r',pl,hz⟩:=I.list hq
  have hlen:=r'.length
  obtain⟨o,ho,hc,n,hd⟩:=pl.isList
  exact call_list_seq p (.inl rfl) ho hc hd (λh' c' kp e=>fin its r' hz h' c' kp e) (by simp only[j6] <;> omega)
 .obtain⟨its,r',pl,hz⟩:=I.tuple hq
  have hlen:=r'.length
  obtain⟨o,ho,hc,n,hd⟩:=pl
  exact call_list_seq p (.inr rfl) ho hc hd (λh' c' kp e=>fin its r' hz h' c' kp e) (by simp only[j6] <;> omega)
theorem xq:vH X (.type "tuple") (λxs H Q=>∃ p ys,xs=[.ref p]/\((SqL X.K H p ys/\∀ l,H l=none->Q (.ref l) (upd H l (.tup ys)))\/(SqT X.K H p ys/\Q (.ref p) H))):=by
 intro pins s σ H xs us Q I r h
 obtain⟨p,ys,rfl,h⟩:=h
 obtain⟨u,rfl,rx⟩:=WN r
 cases rx
 rcases h with ⟨hq,q⟩ | ⟨hq,q⟩
 .obtain⟨its,r',pl,hz⟩:=I.list hq
  have hlen:=r'.length
  refine call_tuple_list pl.isList (λh' kp=>?_) (by simp only[j6] <;> omega)
  have I1:Inv X pins σ H { s with heap:=h' }:=I.kept (t':=s.toks) kp
  have I2:Inv X pins σ (upd H h'.objs.size (.tup ys)) { s with heap:=h'.push { cls:=.type "tuple",data:=.seq its.toArray } } :=
   I1.laid (t':=s.toks) (λb o e=>u4 _ e) (j3 _) (show yk X.prog X.w _ _ _ (.tup ys) from⟨hz,its,r',IsTup.new _ _⟩)
  exact⟨.ref h'.objs.size,_,I2,rfl,q _ (I1.hok.fresh (j3 _))⟩
 .obtain⟨its,r',pl,hz⟩:=I.tuple hq
  exact call_tuple_same pl ⟨.ref p,H,I,rfl,q⟩
def tyV (K:W.Frag)(T:String)(x:V)(H:Hp):Prop:=match x with
 | .str _=>T="str"
 | .int _=>T="int"
 | .ref p=>(T="list"/\∃ xs,SqL K H p xs)\/(T="tuple"/\∃ o,K.lookup p=some o/\o.cls=.type "tuple"/\o.dict=none) \/
  (T="dict"/\((∃ kvs,H p=some (.dK kvs))\/∃ kvs,H p=some (.dT kvs)))\/(T="set"/\∃ S n,H p=some (.set S n))
 | _=>False
theorem zk4 {pins:List (Addr × Obj)}{σ:St}{H:Hp}{s:Shared}{T:String}{x:V}{v:Value}(I:Inv X pins σ H s)(r:yH x v)(ty:tyV X.K T x H) :
 s.TypeIs v T/\∀ a,v=.ref a->∃ ob,s.heap.get? a=some ob/\ob.dict=none:=by
 cases x with
 | str z =>
  obtain⟨t,rfl⟩:=r
  cases (show T="str" from ty)
  exact⟨typeIs_str s z t,λ_ e=>nomatch e⟩
 | int i =>
  obtain⟨t,rfl⟩:=r
  cases (show T="int" from ty)
  exact⟨typeIs_int s i t,λ_ e=>nomatch e⟩
 | ref p =>
  cases r
  rcases ty with ⟨rfl,xs,hq⟩ | ⟨rfl,o,hk,hc,hd⟩ | ⟨rfl,hk⟩ | ⟨rfl,S,n,hk⟩
  .obtain⟨its,_,pl,_⟩:=I.list hq
   refine⟨pl.isList.typeIs,λa e=>?_⟩
   cases e
   obtain⟨o,n,e,c,hd,_⟩:=pl
   exact⟨o,e,hd⟩
  .refine⟨⟨o,I.kIn p o hk,hc⟩,λa e=>?_⟩
   cases e
   exact⟨o,I.kIn _ o hk,hd⟩
  .have z:∃ o,s.heap.get? p=some o/\o.ExactDict:=by
    rcases hk with ⟨kvs,hk⟩ | ⟨kvs,hk⟩
    .obtain⟨_,_,_,_,o,_,_,e,ex,_⟩:=I.hok p _ hk
     exact⟨o,e,ex⟩
    .obtain⟨_,_,_,_,o,_,_,e,ex,_⟩:=I.hok p _ hk
     exact⟨o,e,ex⟩
   obtain⟨o,e,ex⟩:=z
   refine⟨⟨o,e,ex.1⟩,λa e2=>?_⟩
   cases e2
   exact⟨o,e,ex.2.1⟩
  .obtain⟨o,_,_,_,e,ex,_⟩:=I.hok p _ hk
   refine⟨⟨o,e,ex.1⟩,λa e2=>?_⟩
   cases e2
   exact⟨o,e,ex.2.1⟩
 | _=>exact False.elim ty
def tBM (K:W.Frag)(T:String)(r:V->List V->Hp->VK->Prop)(to:TE)(t:TA):TE:=fun σ H Q=>to σ H λx H1=>tyV K T x H1/\t σ H1 λxs H2=>r x xs H2 Q
variable {o e:Expr}{es:List Expr}{to:TE}{t:TA}{name:Str}{apos cpos:Pos}{T id:String}{r:V->List V->Hp->VK->Prop}
theorem zaT (pa:PlainAttrs T) (slot:Slot T name id) (hty:typeOf (.builtin id)=pure (.type "method_descriptor")) (hm:MtR X id r) (ho:PE X o to) (ha:PA X (e::es) t)
 (hbase:attributeBase o name X.env (eval o X.env)=eval o X.env:=by rfl)
 (hfew:((backTo cpos (starEach (e::es) X.env)).all (λx=>!x.1)&&(backToKw cpos (keywordEach [] X.env)).all (λx=>x.1.isSome)
  && decide ((e::es).length+([]:List Keyword).length+(if ([]:List Keyword).isEmpty then 0 else 1) < 30))=true:=by rfl)
 (hline:(apos.endLine == cpos.line)=true:=by rfl) (hs:starEach (e::es) X.env=(false,eval e X.env)::starEach es X.env:=by rfl) (hplain:(backTo cpos (starEach es X.env)).any (·.1)=false:=by rfl) :
 PE X (.Call (.Attribute o name apos) (e::es) [] cpos) (tBM X.K T r to t):=by
 intro pins s σ H Q I h
 refine wpAny_Call_method_late hbase hfew hline rfl (thn (ho pins s σ H _ I h) λv s1 hh9=>?_)
 obtain⟨x,H1,I1,r1,ty,q1⟩:=hh9
 obtain⟨h1,h2⟩:=zk4 I1 r1 ty
 refine⟨T,id,pa,slot,hty,h1,h2,?_⟩
 have hA:=ha cpos pins s1 σ H1 _ I1 q1
 rw[hs]at hA ⊢
 refine Calls.callWith_builtin (by show(false||(backTo cpos (starEach es X.env)).any (·.1))=false;rw[hplain] <;> rfl) (Calls.evalArgs_plain ?_)
 exact thn hA λus s2 ⟨vs,H2,I2,r2,q2⟩=>hm pins s2 σ H2 x vs v us Q I2 r1 r2 q2
/- xs.append(e),list.index on a module's tuple .. are MtR facts of 06m -/
end
def MtM (X:Cx)(id:String)(r:V->List V->Hp->VK->Prop):Prop :=
 ∀ (pins:List (Addr × Obj)) (s:Shared) (σ:St) (H:Hp) (x:V) (xs:List V) (v:Value) (us:List Value) (Q:VK),Inv X pins σ H s->yH x v->yt xs us->r x xs H Q ->
  wpAny (model X.prog X.w) X.A (call (.builtin id) (v::us)) (EP X pins σ Q) X.xe s
theorem yt.one:∀ {x:V} {us:List Value},yt [x] us->∃ u,us=[u]/\yH x u:=by
 intro x us h
 cases h with | cons r t=>cases t;exact⟨_,rfl,r⟩
theorem yt.rep {xs:List V}{us:List Value}(h:yt xs us):∀ k:Nat,yt (List.replicate k xs).flatten (List.replicate k us).flatten
 | 0=>.nil
 | k+1=>by
  rw[u0T,u0T,u1D,u1D]
  exact yt.append h (yt.rep h k)
theorem VF (its:List Value):∀ (k:Nat) (acc:List Value),
 List.foldl (λx1 x2=>x1++x2) acc.toArray (List.replicate k its.toArray)=(acc++(List.replicate k its).flatten).toArray
 | 0,acc=>by simp
 | k+1,acc=>by
  have e:acc.toArray++its.toArray=(acc++its).toArray:=by simp
  have e2:(acc++its)++(List.replicate k its).flatten=acc++(List.replicate (k+1) its).flatten:=by
   rw[u0T,u1D,u1W]
  rw[<-e2,<- VF its k (acc++its),<- e,u0T,u34]
section
variable {X:Cx}{pins:List (Addr × Obj)}{σ:St}{H:Hp}{s:Shared}{l b:Addr}{xs ys zs:List V}
theorem Inv.lset {its its':List Value}{n:Nat}{f:Array Value->Array Value}{t':Nat}(I:Inv X pins σ H s)(hH:H l=some (.lst xs))
 (e:s.heap.get? l=some { cls:=.type "list",data:=.seq its.toArray n }) (hf:f its.toArray=its'.toArray) (hv:yt ys its') (hz:ys.length<=sizeLine) :
 Inv X pins σ (upd H l (.lst ys)) { s with heap:=s.heap.update l (Obj.mapSeq f),toks:=t' }:=by
 have q:=PySem.IsL.update e f
 rw[hf]at q
 refine I.write (x:=l) (e:=l) (by rw[hH];exact trivial) (.inl rfl) (λb' u hb hu=>(u0d s.heap (Obj.mapSeq f) (u0P hb)).trans hu) ⟨_,q⟩ ?_
 exact⟨hz,its',_,hv,q⟩
theorem Inv.lnew {its:List Value}{t':Nat}(I:Inv X pins σ H s)(hv:yt ys its)(hz:ys.length<=sizeLine) :
 Inv X pins σ (upd H s.heap.objs.size (.lst ys)) { s with heap:=s.heap.push { cls:=.type "list",data:=.seq its.toArray },toks:=t' } :=
 I.laid (λ_ _ q=>u4 _ q) (j3 _) ⟨hz,its,0,hv,j7 _ rfl⟩
theorem Inv.fresh (I:Inv X pins σ H s):H s.heap.objs.size=none:=I.hok.fresh (j3 _)
theorem Inv.lstM (I:Inv X pins σ H s) (hH:H l=some (.lst xs)):xs.length<=sizeLine/\∃ (its:List Value) (n:Nat),yt xs its/\xs.length=its.length/\s.heap.get? l=some { cls:=.type "list",data:=.seq its.toArray n }:=by
 obtain⟨z,its,n,r,e⟩:=I.hok l _ hH
 exact⟨z,its,n,r,r.length,e⟩
theorem zcj {n:Nat}(h:n<=sizeLine):Builtin.List.listTooLong n=false:=by
 unfold Builtin.List.listTooLong
 exact g0 (by omega)
end
section
variable {X:Cx}
def zec:V->List V->Hp->VK->Prop:=λx vs H Q=>∃ l xs y,x=.ref l/\vs=[y]/\H l=some (.lst xs)/\xs.length < sizeLine/\Q .non (upd H l (.lst (xs++[y])))
theorem YV:MtM X "list.append" zec:=by
 intro pins s σ H x vs v us Q I rx rv h
 obtain⟨l,xs,y,rfl,rfl,hH,hz,q⟩:=h
 cases rx
 obtain⟨u,rfl,ru⟩:=rv.one
 obtain⟨z,its,n,r,hl,e⟩:=I.lstM hH
 refine u2V F.slot_list_append ⟨_,e,rfl⟩ F.entry_list_append (F.args_list_append_2 _ _) (PySem.list_append l its.toArray n u (by rw[j6];omega)) ⟨e,?_⟩
 refine⟨.non,_,I.lset (its':=its++[u]) hH e (by simp) (r.append (.cons ru .nil)) ?_,rfl,q⟩
 rw[d9,List.length_singleton]
 omega
def zi9:V->List V->Hp->VK->Prop:=λx vs H Q=>∃ l b xs zs,x=.ref l/\vs=[.ref b]/\H l=some (.lst xs)/\H b=some (.lst zs)/\xs.length+zs.length<=sizeLine/\Q .non (upd H l (.lst (xs++zs)))
theorem zjT:MtM X "list.extend" zi9:=by
 intro pins s σ H x vs v us Q I rx rv h
 obtain⟨l,b,xs,zs,rfl,rfl,hH,hB,hz,q⟩:=h
 cases rx
 obtain⟨u,rfl,ru⟩:=rv.one
 cases ru
 obtain⟨z,its,n,r,hl,e⟩:=I.lstM hH
 obtain⟨z2,its2,n2,r2,hl2,e2⟩:=I.lstM hB
 have hsz:its.toArray.size+its2.toArray.size<=sizeLine:=by rw[j6,j6];omega
 have hlong:¬ (!its.toArray.isEmpty&&Builtin.List.listTooLong (its.toArray.size+its2.toArray.size))=true:=by
  rw[zcj hsz,u1g]
  exact u8
 refine u2V F.slot_list_extend ⟨_,e,rfl⟩ F.entry_list_extend (F.args_list_extend_2 _ _)
  (AutoSeq1.list_extend_list_list_0 l its.toArray n b its2.toArray n2 hlong (by rw[j6];omega) (by omega)) ⟨e,e2,?_⟩
 refine⟨.non,_,I.lset (its':=its++its2) hH e (by simp) (r.append r2) ?_,rfl,q⟩
 rw[d9]
 omega
def zmi:R2:=λx y H Q=>∃ l b xs zs,x=.ref l/\y=.ref b/\H l=some (.lst xs)/\H b=some (.lst zs)/\xs.length+zs.length<=sizeLine/\∀ p,H p=none->Q (.ref p) (upd H p (.lst (xs++zs)))
theorem zcb:OpR X (binaryOp .Add) zmi:=by
 intro pins s σ H x y v u Q I rx ry h
 obtain⟨l,b,xs,zs,rfl,rfl,hH,hB,hz,q⟩:=h
 cases rx
 cases ry
 obtain⟨z,its,n,r,hl,e⟩:=I.lstM hH
 obtain⟨z2,its2,n2,r2,hl2,e2⟩:=I.lstM hB
 refine PySem.P.add_list e e2 ?_ (by rw[j6,j6];omega)
 have ea:its.toArray++its2.toArray=(its++its2).toArray:=by simp
 rw[ea]
 exact⟨.ref _,_,I.lnew (t':=s.toks) (r.append r2) (by rw[d9];omega),rfl,q _ I.fresh⟩
def rRep:R2:=λx y H Q=>∃ l k xs,x=.ref l/\y=.int k/\H l=some (.lst xs)/\-(2 ^ 63)<=k/\k < 2 ^ 63/\xs.length*k.toNat<=sizeLine /\
 ∀ p,H p=none->Q (.ref p) (upd H p (.lst (List.replicate k.toNat xs).flatten))
theorem zim {α:Type}(xs:List α)(k:Nat):(List.replicate k xs).flatten.length=k*xs.length:=by
 induction k with
 | zero=>simp
 | succ k ih=>rw[u0T,u1D,d9,ih,Nat.succ_mul,Nat.add_comm]
theorem zlk:OpR X (binaryOp .Mult) rRep:=by
 intro pins s σ H x y v u Q I rx ry h
 obtain⟨l,k,xs,rfl,rfl,hH,h1,h2,hz,q⟩:=h
 cases rx
 obtain⟨t,rfl⟩:=ry
 obtain⟨z,its,n,r,hl,e⟩:=I.lstM hH
 have hlen:its.toArray.size*k.toNat<=sizeLine:=by rw[j6,<- hl];exact hz
 have hcap:¬ its.toArray.size*k.toNat > (2 ^ 63 - 1) / 8:=by
  have:(sizeLine:Nat)<=(2 ^ 63 - 1) / 8:=by decide
  omega
 have hfit:¬ (!Builtin.List.listFitsIndex k)=true:=by
  rw[fitsIndex_both h1 h2]
  exact u8
 have hlong:¬ Builtin.List.listTooLong (its.toArray.size*k.toNat)=true:=by
  rw[zcj hlen]
  exact u8
 have hnew:List.foldl (λx1 x2=>x1++x2) #[] (List.replicate (if its.toArray.isEmpty=true then 0 else k.toNat) its.toArray)=(List.replicate k.toNat its).flatten.toArray:=by
  have f0:∀ m:Nat,List.foldl (λx1 x2=>x1++x2) #[] (List.replicate m its.toArray)=(List.replicate m its).flatten.toArray:=λm=>by
   have:=VF its m []
   rw[List.nil_append]at this
   exact this
  rw[f0]
  cases its with
  | nil=>simp
  | cons a r'=>rw[j4 (by simp)]
 refine wpAny_binaryOp_repeat_ref (T:="list") (U:="int") (by decide) ⟨_,e,rfl⟩ (λs'=>typeIs_int s' k t) noFill_list_mul F.fills_int_mul F.slot_int_rmul repeat_list F.slot_int_index.lookup
  (u2V F.slot_int_rmul (typeIs_int s k t) F.entry_int_rmul (F.args_int_rmul_2 _ _) (int___rmul___int_list k t l its.toArray n)
   ⟨e,rfl,⟨_,e,rfl⟩,u2V F.slot_list_mul ⟨_,e,rfl⟩ F.entry_list_mul (F.args_list_mul_2 _ _) (AutoListH.list___mul___list_int_3 l its.toArray n k t hfit hcap hlong) ⟨e,?_⟩⟩)
 rw[hnew]
 exact⟨.ref _,_,I.lnew (t':=s.toks) (r.rep k.toNat) (by rw[zim,Nat.mul_comm];exact hz),rfl,q _ I.fresh⟩
end
end L2
namespace Att
open PySem PySem.W PySem.Calls PyProof.Rows
theorem Xn {P:Params}{h:Heap}:∀ (ns:List Int) (vs:List Value),WellAll P h vs (ns.map WData.int)->IntsAre vs ns:=by
 intro ns
 induction ns with
 | nil =>
  intro vs w
  rw[u35]at w
  cases w
  exact .nil
 | cons n ns ih =>
  intro vs w
  rw[i8]at w
  cases w with
  | cons a b =>
   cases a
   exact .cons _ _ (ih _ b)
theorem zfn {l:OpenLaw}{n:Nat}(hn:l.most=some n){P:Params}{h:Heap}{args:List WData}{vals:List Value}
 (hpre:l.row.toRowW.claim.pre args=true) (hwl:WellAll P h vals args) :
 ∃ a vs ns,vals=[Value.ref a]/\args=[WData.list (ns.map WData.int)]/\h.get? a=some { cls:=.type "list",data:=.seq vs.toArray }/\IntsAre vs ns/\ns.length<=n:=by
 have hsh:WShape.hasAll [] args [.list .int]=true:=(pre_splitW hpre).1
 have hc:l.pre.holds [] { args:=args }=true:=(pre_splitW hpre).2
 obtain⟨d,r,rfl,h1,h2⟩:=hasAllW_cons hsh
 obtain rfl:=hasAllW_nil h2
 obtain⟨xs,rfl,h3⟩:=hasW_list h1
 obtain⟨ns,rfl⟩:=items_int h3
 have hlen:ns.length<=n:=by
  unfold OpenLaw.pre at hc
  have h4:(WTm.not (.lt (.lit (.int (n:Int))) (.len (.arg 0)))).holds [] { args:=[.list (ns.map .int)] }=true:=by
   have h4:=(holds_andW hc).1
   rw[hn]at h4
   exact h4
  have h5:=condW_of h4 (w_not (w_lt w_lit (w_len_list (w_arg rfl))))
  rw[u7]at h5
  refine u0K λq=>?_
  have q':(n:Int) < ((ns.length:Nat):Int):=by omega
  first
   | (rw[j8 q']at h5;exact absurd h5 (by decide))
   | (simp at h5;omega)
 cases hwl with
 | cons w1 w2 =>
  cases w2
  cases w1 with
  | list ho hall=>exact⟨_,_,ns,rfl,rfl,ho,Xn ns _ hall,hlen⟩
theorem zd4 (l:OpenLaw)(args:List WData):l.row.toRowW.claim.post args (.bool true) args=true :=
 postW_of (r:=l.row.toRowW) (X:=(true == true))
  (show WShape.has [] (.bool true) .bool=true by first | rfl | decide | simp[WShape.has,WShape.arms,WShape.armsAll])
  (show(WTm.eq .res (.lit (.bool true))).value [] { args:=args,res:=some (.bool true),after:=args }=some (.bool (true == true))from w_eq_bool (w_res rfl) w_lit) rfl
theorem attach_call {l:OpenLaw}{n:Nat}{q:Program}{loose:List Str}{XP:(Str->Option Value)->Heap->Prop}{YP:World->Heap->Prop}{d:DefRec}
 (hn:l.most=some n) (hdf:d.params.defaults=[])
 (call:∀ (w:World) (s₀ s₁:Shared) (mg mb:Str->Option Value) (fa:Addr) (o:Obj) (pm cd doc:Value) (a:Addr) (vs:List Value) (ns:List Int),
  Ground q loose [] XP w s₀ mg mb s₁.heap->YP w s₁.heap ->
  s₁.heap.get? fa=some o->o.data=.func (docDef d.name d.params d.body d.scope pm cd doc)->s₁.heap.CodeRec cd d.name->mg d.name=some (.ref fa) ->
  s₁.heap.get? a=some { cls:=.type "list",data:=.seq vs.toArray }->IntsAre vs ns->ns.length<=n->s₁.gens=#[] ->
  codeAny (model l.prog w) callerA (.call (.ref fa) ⟨[.ref a],[]⟩) (λr s'=>r=.ok (.ret (.bool true))/\OldK s₁.heap s'.heap/\s'.os=s₁.os/\AllBare s'.gens) s₁) :
 WalkO q loose XP YP l.row.toRowW d [] (λf vs=>PySem.call f vs):=by
 intro w s₀ s₁ mg mb G Y fa o pm cd doc dV kV ho hd hcd hD hmg hg args vals as hpre hlay hrd hwl hlo
 obtain rfl:dV=.none:=Dflts.none hD hdf
 obtain rfl:kV=.none:=Dflts.noKw hD
 obtain⟨a,vs,ns,rfl,rfl,hobj,hints,hlen⟩:=zfn hn hpre hwl
 refine enter_call (u2g (call w s₀ s₁ mg mb fa o pm cd doc a vs ns G Y ho (fd_plain hd) hcd hmg hobj hints hlen hg) λr s' hq=>?_)
 obtain⟨rfl,h2,h3,h4⟩:=hq
 exact⟨.inl ⟨.bool true,.bool true,[],rfl,λ_=>rfl,.bool true,zd4 l _,λ_=>⟨List.Pairwise.nil,λ_ hm=>(nomatch hm)⟩⟩,h2,h3,h4⟩
section
variable {prog:Program}{w:World}{A:Around}{E:Value->Shared->Prop}{s:Shared}{K:Frag}
def ledger (h:Heap)(L d:Addr):List (Addr × Obj):=(List.range h.objs.size).filterMap λa=>if a=L\/a=d then none else (h.get? a).map λo=>(a,o)
end
end Att
namespace L2
open PySem PySem.Spec PyProof.Rows
theorem VX:∀ {vs:List Value} {ns:List Int},IntsAre vs ns->yt (ns.map V.int) vs:=by
 intro vs ns h
 induction h with
 | nil=>exact .nil
 | cons n t h ih=>exact .cons ⟨t,rfl⟩ ih
def zmo (H:Hp):Prop:=∀ b,H b=none\/∃ o xs,H b=some (.frz o (.lst xs))
theorem zg9 {P:Program}{w:World}{K:W.Frag}{mg mb:Str->Option Value}{CX:CXT}{k:Nat}{fa a:Addr}{fd:FuncData}{x:Str}{sp:Sp}{s₁:Shared}{vs:List Value}{ns:List Int}
 (KX:K.In s₁.heap) (hns:s₁.heap.Ns mainGlobals mg) (hb:s₁.heap.Ns builtinsNs mb) (hbb:∀ x:Str,x≠"__name__"->mb x=bootBuiltins x) (hlim:s₁.heap.NoLimit) (hg:s₁.gens=#[])
 (ha:s₁.heap.get? a=some { cls:=.type "list",data:=.seq vs.toArray }) (hi:IntsAre vs ns) (hl:ns.length<=sizeLine) (hr:wB k callerA)
 (F:∀ base:Heap,K.In base->base.Ns mainGlobals mg->xC P w K mg base CX k fa fd [x] sp) (hbind:∀ (s:Shared) (u:Value),BindsTo s fd ⟨[u],[]⟩ [(x,u)])
 (hsp:∀ H:Hp,zmo H->SqL K H a (ns.map V.int)->sp [.ref a] H (λv _=>v=.bl true) λ_ _ _=>False)
 (hCX:∀ H e s',CX [] H s₁ (λ_ _ _=>False) e s'->False) :
 codeAny (model P w) callerA (.call (.ref fa) ⟨[.ref a],[]⟩) (λr s'=>r=.ok (.ret (.bool true))/\OldK s₁.heap s'.heap/\s'.os=s₁.os/\AllBare s'.gens) s₁:=by
 have rv:=VX hi
 have lenV:=hi.length
 -- from an abstract heap in which nothing but the script may be tracked
 have core:∀ H:Hp,zmo H->SqL K H a (ns.map V.int)->HOk P w H s₁.heap->(∀ b,H b≠none->b=a)->(H a≠none->K.lookup a=none) ->
  codeAny (model P w) callerA (.call (.ref fa) ⟨[.ref a],[]⟩) (λr s'=>r=.ok (.ret (.bool true))/\OldK s₁.heap s'.heap/\s'.os=s₁.os/\AllBare s'.gens) s₁:=by
  intro H hO hS hok hA hK
  have base_of:∀ {b:Addr} {o:Obj},s₁.heap.get? b=some o->H b=none->(zgf s₁.heap H).get? b=some o:=λe n=>zgZ e n
  have noA:∀ {b:Addr} {o:Obj} {es:Array DictEntry} {ep:Nat},s₁.heap.get? b=some o->o.data=.dict es ep->H b=none:=λ{b o es ep} e d=>by
   cases q:H b with
   | none=>rfl
   | some u =>
    have e':b=a:=hA b (by rw[q];simp)
    subst e'
    rw[ha]at e;cases e
    have d':Data.seq vs.toArray _=Data.dict es ep:=d
    cases d'
  have nsK:∀ {b:Addr} {m:Str->Option Value},s₁.heap.Ns b m->(zgf s₁.heap H).Ns b m:=λ{b m} ⟨o,es,ep,e,d,r⟩=>⟨o,es,ep,base_of e (noA e d),d,r⟩
  have hKb:K.In (zgf s₁.heap H):=λb o e=>base_of (KX b o e) (by
   cases q:H b with
   | none=>rfl
   | some u =>
    have e':b=a:=hA b (by rw[q];simp)
    subst e'
    rw[hK (by rw[q];simp)]at e;cases e)
  have hM:Mod K mg (zgf s₁.heap H):=⟨hKb,nsK hns,⟨mb,nsK hb,hbb⟩,let ⟨mc,h1,h2⟩:=hlim;⟨mc,nsK h1,h2⟩⟩
  have e0:zhT P w K mg (zgf s₁.heap H) callerA [] s₁ H:=⟨rfl,hM,λb o e=>zif e,Nat.le_of_eq (zel _ _),trivial,λb hb=>absurd (show b∈([]:List Addr)from hb) (by simp),hok,.of_eq hg⟩
  refine u2g ((F _ hKb (nsK hns)).run callerA [] s₁ H ⟨[.ref a],[]⟩ [.ref a] [.ref a] _ _ hr e0 (hbind s₁ (.ref a)) (.cons rfl .nil) (hsp H hO hS)) λr s' h=>?_
  cases r with
  | error e=>exact(hCX H e s' h).elim
  | ok fl =>
   cases fl with
   | next=>exact False.elim h
   | brk=>exact False.elim h
   | cont=>exact False.elim h
   | ret u =>
    obtain⟨v,H',os,bare,un,hok',r',q⟩:=h
    have q':v=.bl true:=q
    subst q'
    obtain rfl:u=Value.bool true:=r'
    refine⟨rfl,OldK.of_keep λb o e=>?_,os,bare⟩
    cases q:H b with
    | none=>exact un.keep b o e q (by intro z;exact absurd (show b∈([]:List Addr)from z) (by simp)) (by simp)
    | some u =>
     rcases hO b with z | ⟨ob,xs,z⟩
     .rw[q]at z;cases z
     .have z2:=un.frzs b ob _ z
      obtain⟨e1,_⟩:=hok b _ z
      obtain⟨e2,_⟩:=hok' b _ z2
      rw[e]at e1;cases e1
      exact e2
 cases hk:K.lookup a with
 | some o =>
  -- the script is one of the module's own objects
  have e:=KX a o hk
  rw[ha]at e
  cases e
  refine core (λ_=>none) (λ_=>.inl rfl) (.inr ⟨_,vs.toArray,_,hk,rfl,rfl,rfl,by rw[j6,lenV];exact hl,by simpa using rv⟩) (λb u z=>by have z':(none:Option HO)=some u:=z;cases z') (λb z=>absurd rfl z) λz=>absurd rfl z
 | none =>
  refine core (λb=>if b=a then some (.frz { cls:=.type "list",data:=.seq vs.toArray } (.lst (ns.map V.int)))else none) (λb=>?_) (.inl (.inr ⟨{ cls:=.type "list",data:=.seq vs.toArray },q5 rfl⟩)) (λb u z=>?_) (λb z=>?_) λ_=>hk
  .by_cases hb:b=a
   .exact .inr ⟨_,_,q5 hb⟩
   .exact .inl (j4 hb)
  .by_cases hb:b=a
   .have z':=(q5 hb).symm.trans z
    cases z'
    subst hb
    exact⟨ha,by rw[u7];exact hl,vs,_,rv,ha⟩
   .have z':=(j4 hb).symm.trans z
    cases z'
  .by_cases hb:b=a
   .exact hb
   .exact absurd (j4 hb) z
theorem walk_of {l:W.OpenLaw}{n k:Nat}{q:Program}{loose:List Str}{XP:(Str->Option Value)->Heap->Prop}{YP:World->Heap->Prop}{d:DefRec}{K:Params->W.Frag}{CX:World->CXT}{sp:World->Sp}{x:Str}
 (hn:l.most=some n) (hn2:n<=sizeLine) (hdf:d.params.defaults=[]) (hr:wB k callerA)
 (hY:∀ (w:World) (h:Heap),YP w h->(K w.params).In h)
 (F:∀ (w:World) (mg:Str->Option Value) (fa:Addr) (h:Heap),(K w.params).In h->h.Ns mainGlobals mg->mg d.name=some (.ref fa) ->
  ∃ fd:FuncData,(∀ (s:Shared) (u:Value),BindsTo s fd ⟨[u],[]⟩ [(x,u)]) /\
   ∀ base:Heap,(K w.params).In base->base.Ns mainGlobals mg->xC l.prog w (K w.params) mg base (CX w) k fa fd [x] (sp w))
 (hsp:∀ (w:World) (H:Hp) (a:Addr) (ns:List Int),ns.length<=n->zmo H->SqL (K w.params) H a (ns.map V.int)->sp w [.ref a] H (λv _=>v=.bl true) λ_ _ _=>False)
 (hCX:∀ (w:World) (H:Hp) (s:Shared) (e:Value) (s':Shared),CX w [] H s (λ_ _ _=>False) e s'->False) :
 PySem.W.WalkO q loose XP YP l.row.toRowW d [] (λf vs=>PySem.call f vs):=by
 refine Att.attach_call hn hdf λw s₀ s₁ mg mb fa o pm cd doc a vs ns G Y ho hd hcd hmg hobj hints hlen hg=>?_
 have KX:=hY w _ Y
 obtain⟨fd,hb,hF⟩:=F w mg fa _ KX G.T.g hmg
 exact zg9 KX G.T.g G.T.b G.T.builtins G.T.nolimit hg hobj hints (i4 hlen hn2) hr hF hb (λH hO hS=>hsp w H a ns hlen hO hS) λH e s'=>hCX w H s₁ e s'
def vS (s:Stmt):Arguments:=match s with
 | .FunctionDef _ a _ _ _ _ _ _ _ _=>a
 | _=>{ posonlyargs:=[],args:=[],vararg:=none,kwonlyargs:=[],kw_defaults:=[],kwarg:=none,defaults:=[] }
def xL (s:Stmt):List Stmt:=match s with
 | .FunctionDef _ _ b _ _ _ _ _ _ _=>b
 | _=>[]
def zk (s:Stmt):Scope:=match s with
 | .FunctionDef _ _ _ _ _ _ sc _ _ _=>sc
 | _=>{ kind:=.function,names:=[],isGenerator:=false,isCoroutine:=false }
abbrev CX0:CXT:=λ_ _ _ _ _ _=>False
abbrev E0:XK:=λ_ _ _=>False
theorem zl7 {X:Cx}:Z6 CX0 X E0:=λ_ _ _ _ _ _ _ h=>h.elim
structure Fun (K:W.Frag) (x qual:Str) (st:Stmt) (f:Addr) (fd:FuncData):Prop where
 ex:∃ (oc:Value) (od:Option Addr) (kV doc pm:Value) (an:Option Addr) (cdv ct:Value) (osl:Array (Option Value)),
  fd=W.fnOf x qual (vS st) (xL st) (zk st) .none kV doc pm an cdv ct/\K.lookup f=some ⟨oc,od,.func fd,osl⟩/\W.codeIn K cdv qual=true
 kp:W.keepIn K (.ref f)=true
section
variable {P:Program}{w:World}{K:W.Frag}{mg:Str->Option Value}{base:Heap}
theorem Fun.ok {x qual:Str}{st:Stmt}{f:Addr}{fd:FuncData}{N ps:List Str}{k:Nat}{sp:Sp}(F:Fun K x qual st f fd)(S:zC N ps (zk st))(len:∀ vs H Q E,sp vs H Q E->vs.length=ps.length)
 (hbody:∀ (cdv:Value) (A:Around) (outer:List Env) (s:Shared) (H:Hp) (vs:List V) (Q:VK) (E:XK),wB k (A.deeper (envOfC qual (zk st) s.heap.objs.size f cdv))->sp vs H Q E ->
  ∃ t,PSs (Y6 CX0 P w K mg base N qual (zk st) f cdv A outer s H E).nox (xL st) t/\t { nx:=λ_ H'=>Q .non H',rt:=Q } (start N vs) H):xC P w K mg base CX0 (k+1) f fd ps sp:=by
 obtain⟨oc,od,kV,doc,pm,an,cdv,ct,osl,rfl,lk,hcd⟩:=F.ex
 refine zlB lk hcd S len λA outer s H vs Q E hr hsp=>?_
 obtain⟨t,h,q⟩:=hbody cdv A outer s H vs Q E hr hsp
 exact⟨t,h.nox,q⟩
theorem Fun.binds {x qual:Str}{st:Stmt}{f:Addr}{fd:FuncData}{ps:List Str}(F:Fun K x qual st f fd)
 (h:∀ (kV doc pm:Value) (an:Option Addr) (cdv ct:Value) (us:List Value),us.length=ps.length->bindArgs (W.fnOf x qual (vS st) (xL st) (zk st) .none kV doc pm an cdv ct) ⟨us,[]⟩=pure (ps.zip us)):ZQ K fd ps []:=by
 obtain⟨oc,od,kV,doc,pm,an,cdv,ct,osl,rfl,lk,hcd⟩:=F.ex
 exact .all (h kV doc pm an cdv ct)
theorem zdZ {x qual:Str}{st:Stmt}{f:Addr}{oc:Value}{od an:Option Addr}{osl:Array (Option Value)}{kV doc pm cdv ct:Value}(l:K.lookup f=some ⟨oc,od,.func (W.fnOf x qual (vS st) (xL st) (zk st) .none kV doc pm an cdv ct),osl⟩)
 (c:W.codeIn K cdv qual=true) (k:W.keepIn K (.ref f)=true):Fun K x qual st f (W.fnOf x qual (vS st) (xL st) (zk st) .none kV doc pm an cdv ct):=⟨⟨oc,od,kV,doc,pm,an,cdv,ct,osl,rfl,l,c⟩,k⟩
end
theorem zjw {A:Around}{k:Nat}(hr:wB k A):A.units+1 < cLine:=u0l (u1K (by decide:1<=64) _) hr.units
theorem vN {n:Nat}(h:n<=1000):n < sizeLine:=u0l h (by decide)
section
variable {X:Cx}
theorem pv (i:Nat) {x:Str} {pos:Pos} (hN:X.N[i]?=some x:=by rfl) (hv:Vis X.env.scope x:=by first | exact Or.inl rfl | exact Or.inr (Or.inl rfl) | exact Or.inr (Or.inr rfl)) (hd:(x == ("__debug__":Str))=false:=by decide)
 (hcd:(x == ("__classdict__":Str))=false:=by decide):PE X (.Name x pos) (zaz i):=zkj hN hv hd hcd
end
def zZ (H H':Hp):Prop:=∀ b o,H b=some o->H' b=some o
theorem zZ.refl (H:Hp):zZ H H:=λ_ _ h=>h
theorem zZ.trans {H H1 H2:Hp}(a:zZ H H1)(b:zZ H1 H2):zZ H H2:=λc o h=>b c o (a c o h)
theorem zZ.free {H H':Hp}(e:zZ H H'){l:Addr}(h:H' l=Option.none):H l=Option.none:=by
 cases q:H l with
 | none=>rfl
 | some o =>
  rw[e l o q]at h
  cases h
theorem zZ.seq {K:W.Frag}{H H':Hp}{a:Addr}{xs:List V}(e:zZ H H')(h:SqL K H a xs):SqL K H' a xs:=by
 rcases h with (h | ⟨o,h⟩) | h
 .exact .inl (.inl (e _ _ h))
 .exact .inl (.inr ⟨o,e _ _ h⟩)
 .exact .inr h
section
variable {κ:Type}[DecidableEq κ]
def zb5 (kvs:List (κ × V))(k:κ):Option V:=(kvs.find? λkv=>decide (kv.1=k)).map (·.2)
def za4 (kvs:List (κ × V))(k:κ)(v:V):List (κ × V) :=
 if (kvs.any λkv=>decide (kv.1=k))=true then kvs.map (λkv=>if kv.1=k then (kv.1,v)else kv)else kvs++[(k,v)]
theorem Z1 {p:κ × V}{r:List (κ × V)}{k:κ}(e:p.1=k):zb5 (p::r) k=some p.2:=by simp[zb5,u1R,e]
theorem ZZ {p:κ × V}{r:List (κ × V)}{k:κ}(e:¬ p.1=k):zb5 (p::r) k=zb5 r k:=by simp[zb5,u1R,e]
theorem WZ (k:κ):∀ kvs:List (κ × V),(kvs.any λkv=>decide (kv.1=k))=(zb5 kvs k).isSome
 | []=>rfl
 | p::r=>by
  rw[u2T]
  by_cases e:p.1=k
  .simp only[Z1 e,j8 e,Bool.true_or,Option.isSome_some]
  .rw[ZZ e,g0 e,Bool.false_or];exact WZ k r
theorem Xe (kvs:List (κ × V))(k:κ)(v:V):(za4 kvs k v).length<=kvs.length+1:=by
 unfold za4
 split
 .rw[u7];omega
 .rw[d9,u0g,u21];omega
theorem zaE.isSome_eq {o:Option V}{u:Option Value}(r:zaE o u):o.isSome=u.isSome:=by
 cases o with
 | none=>cases u with
  | none=>rfl
  | some _=>exact(show False from r).elim
 | some _=>cases u with
  | none=>exact(show False from r).elim
  | some _=>rfl
theorem zaE.getD {o:Option V}{u:Option Value}{d:V}{d':Value}(r:zaE o u)(rd:yH d d'):yH (o.getD d) (u.getD d'):=by
 cases o with
 | none=>cases u with
  | none=>exact rd
  | some _=>exact(show False from r).elim
 | some _=>cases u with
  | none=>exact(show False from r).elim
  | some _=>exact r
theorem KV.val {kvs:List (κ × V)}{vs:List (κ × Value)}(r:KV kvs vs)(k:κ):zaE (zb5 kvs k) (valueAt vs k):=by
 unfold KV at r
 induction r with
 | nil=>exact True.intro
 | @cons p q ps qs h t ih =>
  obtain⟨h1,h2⟩:=h
  by_cases e:p.1=k
  .have e':q.1=k:=h1.symm.trans e
   have b:valueAt (q::qs) k=some q.2:=by simp[valueAt,u1R,e']
   rw[Z1 e,b];exact h2
  .have e':¬ q.1=k:=λz=>e (h1.trans z)
   have b:valueAt (q::qs) k=valueAt qs k:=by simp[valueAt,u1R,e']
   rw[ZZ e,b];exact ih
theorem KV.any {kvs:List (κ × V)}{vs:List (κ × Value)}(r:KV kvs vs)(k:κ):(kvs.any λkv=>decide (kv.1=k))=vs.any λkv=>decide (kv.1=k):=by
 unfold KV at r
 induction r with
 | nil=>rfl
 | cons h t ih=>rw[u2T,u2T,ih,h.1]
theorem KV.repl {kvs:List (κ × V)}{vs:List (κ × Value)}(r:KV kvs vs)(k:κ){y:V}{u:Value}(ry:yH y u) :
 KV (kvs.map λkv=>if kv.1=k then (kv.1,y)else kv) (vs.map λkv=>if kv.1=k then (kv.1,u)else kv):=by
 unfold KV at r ⊢
 induction r with
 | nil=>exact .nil
 | @cons p q ps qs h t ih =>
  rw[i8,i8]
  refine .cons ?_ ih
  obtain⟨h1,h2⟩:=h
  by_cases e:p.1=k
  .rw[q5 e,q5 (h1.symm.trans e)];exact⟨h1,ry⟩
  .rw[j4 e,j4 (λz=>e (h1.trans z))];exact⟨h1,h2⟩
theorem KV.put {kvs:List (κ × V)}{vs:List (κ × Value)}(r:KV kvs vs)(k:κ){y:V}{u:Value}(ry:yH y u):KV (za4 kvs k y) (stored vs k u):=by
 unfold za4 stored
 rw[r.any k]
 by_cases e:(vs.any λkv=>decide (kv.1=k))=true
 .rw[q5 e,q5 e];exact r.repl k ry
 .rw[j4 e,j4 e];exact Paired.snoc r ⟨rfl,ry⟩
theorem KV.length {kvs:List (κ × V)}{vs:List (κ × Value)}(r:KV kvs vs):kvs.length=vs.length:=u3M r
end
theorem zgr {P:Program}{w:World}{k:Key}{u:Value}(r:yH (kV k) u):(yZ P w).is k u=true:=by
 cases k with
 | inl i=>obtain⟨t,e⟩:=(show ∃ t,u=Value.int i t from r);subst e;exact zaG P w i t
 | inr x=>obtain⟨t,e⟩:=(show ∃ t,u=Value.str x t from r);subst e;exact zbc P w x t
theorem zam {P:Program}{w:World}:∀ {ks:List Key} {us:List Value},yt (ks.map kV) us->ItemsAre (yZ P w) ks us
 | [],_,r=>by rw[u35]at r;cases r;exact .nil
 | k::ks,_,r=>by
  rw[i8]at r
  cases r with
  | cons h t=>exact .cons (zgr h) (zam t)
abbrev KT (H:Hp):List (List Key × V)->List (List Key × Addr × Value)->Prop:=Paired λp q=>p.1=q.1/\H q.2.1=some (.tup (p.1.map kV))/\yH p.2 q.2.2
theorem KT.val {H:Hp}{kvs:List (List Key × V)}{xs:List (List Key × Addr × Value)}(r:KT H kvs xs)(k:List Key):zaE (zb5 kvs k) ((atKey xs k).map (·.2)):=by
 induction r with
 | nil=>exact True.intro
 | @cons p q ps qs h t ih =>
  obtain⟨h1,_,h2⟩:=h
  by_cases e:p.1=k
  .have e':q.1=k:=h1.symm.trans e
   have b:atKey (q::qs) k=some q.2:=by simp[atKey,u1R,e']
   rw[Z1 e,b];exact h2
  .have e':¬ q.1=k:=λz=>e (h1.trans z)
   have b:atKey (q::qs) k=atKey qs k:=by simp[atKey,u1R,e']
   rw[ZZ e,b];exact ih
theorem KT.repl {H:Hp}{kvs:List (List Key × V)}{xs:List (List Key × Addr × Value)}(r:KT H kvs xs)(k:List Key){y:V}{u:Value}(ry:yH y u) :
 KT H (kvs.map λkv=>if kv.1=k then (kv.1,y)else kv) (xs.map (putAt k u)):=by
 induction r with
 | nil=>exact .nil
 | @cons p q ps qs h t ih =>
  rw[i8,i8]
  refine .cons ?_ ih
  obtain⟨h1,h2,h3⟩:=h
  unfold putAt
  by_cases e:p.1=k
  .rw[q5 e,q5 (h1.symm.trans e)];exact⟨h1,h2,ry⟩
  .rw[j4 e,j4 (λz=>e (h1.trans z))];exact⟨h1,h2,h3⟩
theorem KT.put {H:Hp}{kvs:List (List Key × V)}{xs:List (List Key × Addr × Value)}(r:KT H kvs xs)(k:List Key){b:Addr}{y:V}{u:Value}(hb:H b=some (.tup (k.map kV)))(ry:yH y u) :
 KT H (za4 kvs k y) (storedH xs k b u):=by
 have e:(kvs.any λkv=>decide (kv.1=k))=(atKey xs k).isSome:=by
  rw[WZ,(r.val k).isSome_eq,Option.isSome_map]
 unfold za4 storedH
 rw[e]
 by_cases q:(atKey xs k).isSome=true
 .rw[q5 q,q5 q];exact r.repl k ry
 .rw[j4 q,j4 q];exact Paired.snoc r ⟨rfl,hb,ry⟩
theorem KT.keeps {H H':Hp}{kvs:List (List Key × V)}{xs:List (List Key × Addr × Value)}(r:KT H kvs xs)(ht:∀ b ys,H b=some (.tup ys)->H' b=some (.tup ys)):KT H' kvs xs :=
 Paired.mapP r λ_ _ z=>⟨z.1,ht _ _ z.2.1,z.2.2⟩
section
variable {P:Program}{w:World}{H:Hp}{h:Heap}{a:Addr}
theorem zjY {u:HO}(ok:HOk P w H h)(e:Rd H a u):yk P w H h a u:=e.ok ok
theorem zdD {kvs:List (Key × V)}(ok:HOk P w H h)(e:Rd H a (.dK kvs)):kvs.length<=sizeLine/\(a == sysModules)=false/\∃ vs,KV kvs vs/\h.DictOf (yZ P w) a vs :=
 show yk P w H h a (.dK kvs)from zjY ok e
theorem zmP {kvs:List (Key × V)}(ok:HOk P w H h)(e:H a=some (.dK kvs)):kvs.length<=sizeLine/\(a == sysModules)=false/\∃ vs,KV kvs vs/\h.DictOf (yZ P w) a vs:=zdD ok (.inl e)
theorem zbR {ks:List Key}(ok:HOk P w H h)(e:H a=some (.tup (ks.map kV))):(tupleKind (yZ P w)).is h ks a:=by
 obtain⟨_,its,r,o,h1,h2,n,h3⟩:=(show yk P w H h a (.tup (ks.map kV))from ok a _ e)
 exact⟨o,its.toArray,n,h1,h2,h3,by simpa using zam r⟩
theorem zdS {kvs:List (List Key × V)}(ok:HOk P w H h)(e:Rd H a (.dT kvs)):kvs.length<=sizeLine/\(a == sysModules)=false /\
 ∃ xs,KT H kvs xs/\h.DictOfH (tupleKind (yZ P w)) a xs:=by
 obtain⟨z,y,xs,r,o,es,ep,h1,h2,h3,h4,h5⟩:=(show yk P w H h a (.dT kvs)from zjY ok e)
 refine⟨z,y,xs,r,o,es,ep,h1,h2,h3,h4,λx hx=>?_,h5⟩
 have all:∀ {l:List (List Key × V)} {m:List (List Key × Addr × Value)},KT H l m->∀ x∈m,(tupleKind (yZ P w)).is h x.1 x.2.1:=by
  intro l m q
  induction q with
  | nil=>intro x hx;exact nomatch hx
  | @cons p q ps qs hq t ih =>
   intro x hx
   rcases j5.mp hx with e | hx
   .subst e
    exact zbR ok (by rw[<-hq.1];exact hq.2.1)
   .exact ih x hx
 exact all r x hx
theorem zmI {kvs:List (List Key × V)}(ok:HOk P w H h)(e:H a=some (.dT kvs)):kvs.length<=sizeLine/\(a == sysModules)=false /\
 ∃ xs,KT H kvs xs/\h.DictOfH (tupleKind (yZ P w)) a xs:=zdS ok (.inl e)
end
def zjM (H:Hp)(a:Addr)(y:V)(r:Option V):Prop :=
 (∃ kvs k,Rd H a (.dK kvs)/\y=kV k/\r=zb5 kvs k)\/∃ kvs k b,Rd H a (.dT kvs)/\y=.ref b/\H b=some (.tup (k.map kV))/\r=zb5 kvs k
def zf5 (H:Hp)(a:Addr)(y v:V)(H':Hp):Prop :=
 (∃ kvs k,H a=some (.dK kvs)/\y=kV k/\kvs.length < sizeLine/\H'=upd H a (.dK (za4 kvs k v))) \/
 ∃ kvs k b,H a=some (.dT kvs)/\y=.ref b/\H b=some (.tup (k.map kV))/\kvs.length < sizeLine/\H'=upd H a (.dT (za4 kvs k v))
theorem zf5.k {H:Hp}{a:Addr}{kvs:List (Key × V)}{k:Key}{v:V}(e:H a=some (.dK kvs))(hl:kvs.length < sizeLine):zf5 H a (kV k) v (upd H a (.dK (za4 kvs k v))):=.inl ⟨kvs,k,e,rfl,hl,rfl⟩
theorem zf5.t {H:Hp}{a b:Addr}{kvs:List (List Key × V)}{k:List Key}{v:V}(e:H a=some (.dT kvs))(eb:H b=some (.tup (k.map kV)))(hl:kvs.length < sizeLine) :
 zf5 H a (.ref b) v (upd H a (.dT (za4 kvs k v))):=.inr ⟨kvs,k,b,e,rfl,eb,hl,rfl⟩
section
variable {X:Cx}{pins:List (Addr × Obj)}{σ:St}{H:Hp}{s:Shared}{a:Addr}{y v:V}{u r:Value}{o:Option V}{A:Around}{E:Value->Shared->Prop}
theorem Inv.big (I:Inv X pins σ H s):sysModules < s.heap.objs.size:=by
 have h:mainGlobals < s.heap.objs.size:=(I.mod.glob.keeps I.bk).lt
 exact u37 (by decide) h
theorem zdp {Q:Value->Shared->Prop}(hu:A.units+1 < cLine)(I:Inv X pins σ H s)(g:zjM H a y (some v))(ry:yH y u)(h:∀ w' s',Inv X pins σ H s'->yH v w'->Q w' s') :
 wpAny (model X.prog X.w) A (getItem (.ref a) u) Q E s:=by
 rcases g with ⟨kvs,k,e,ey,l⟩ | ⟨kvs,k,b,e,ey,eb,l⟩
 .subst ey
  obtain⟨z,hd,vs,rel,dd⟩:=zdD I.hok e
  obtain⟨w',hw,rw'⟩:=zaE.some_of (v:=v) (o:=valueAt vs k) (by rw[l];exact rel.val k)
  exact wpAny_getItem_of (zgr ry) dd.mapOf hw (h w' _ (I.tok _) rw')
 .subst ey
  cases (show u=Value.ref b from ry)
  obtain⟨z,hd,xs,rel,dd⟩:=zdS I.hok e
  obtain⟨w',hw,rw'⟩:=zaE.some_of (v:=v) (o:=(atKey xs k).map (·.2)) (by rw[l];exact rel.val k)
  obtain⟨p,hp,hp2⟩:=u9.mp hw
  refine wpAny_getItem_heap (u3o hu) (zbR I.hok eb) dd hp ?_
  rw[hp2]
  exact h w' _ (I.tok _) rw'
theorem zdy {h':Heap}{t':Nat}{ob:HO}(I:Inv X pins σ H s)(mu:Mut (H a))(hs:Heap.SameBut a s.heap h')(he:∃ q,h'.get? a=some q)(new:yk X.prog X.w (upd H a ob) h' a ob) :
 Inv X pins σ (upd H a ob) { s with heap:=h',toks:=t' } :=
 I.write (x:=a) (e:=a) mu (.inl rfl) (λb q hb z=>(hs.2 b hb).trans z) he new
theorem zkY {P:Program}{w:World}{H':Hp}{h':Heap}{kvs:List (Key × V)}{vs:List (Key × Value)}(z:kvs.length<=sizeLine)(hd:(a == sysModules)=false)(rel:KV kvs vs)(dd:h'.DictOf (yZ P w) a vs) :
 yk P w H' h' a (.dK kvs):=⟨z,hd,vs,rel,dd⟩
theorem zfC {H':Hp}{Q:Unit->Shared->Prop}(hu:A.units+1 < cLine)(I:Inv X pins σ H s)(g:zf5 H a y v H')(ry:yH y u)(rv:yH v r)(h:∀ s',Inv X pins σ H' s'->Q () s') :
 wpAny (model X.prog X.w) A (setItem (.ref a) u r) Q E s:=by
 rcases g with ⟨kvs,k,e,ey,l,eH⟩ | ⟨kvs,k,b,e,ey,eb,l,eH⟩
 .subst ey eH
  obtain⟨z,hd,vs,rel,dd⟩:=zmP I.hok e
  have hz:vs.length<=sizeLine:=by rw[<-rel.length];exact z
  have hl:(za4 kvs k v).length<=sizeLine:=by have:=Xe kvs k v;omega
  refine wpAny_setItem_pairs (hsz:=hz) (zgr ry) dd λh' dd' hs=>h _ ?_
  have he:∃ q,h'.get? a=some q:=let ⟨q,_,_,hq,_⟩:=dd';⟨q,hq⟩
  exact zdy I (by rw[e];exact True.intro) hs he (zkY hl hd (rel.put k rv) dd')
 .subst ey eH
  cases (show u=Value.ref b from ry)
  obtain⟨z,hd,xs,rel,dd⟩:=zmI I.hok e
  have hz:xs.length<=sizeLine:=by rw[<-u3M rel];exact z
  have hl:(za4 kvs k v).length<=sizeLine:=by have:=Xe kvs k v;omega
  refine wpAny_setItem_heap (hsz:=hz) (u3o hu) (zbR I.hok eb) dd λh' dd' hs=>h _ ?_
  obtain⟨q,es,ep,hq,h2,h3,h4,_,h5⟩:=dd'
  refine zdy I (by rw[e];exact True.intro) hs ⟨q,hq⟩ ⟨hl,hd,_,(rel.put k eb rv).keeps λc ys ec=>?_,q,es,ep,hq,h2,h3,h4,h5⟩
  rw[zm (zlu ec e (λz=>nomatch z))]
  exact ec
end
def zmQ (i:Expr):Prop:=∀ ov iv,subscripted i false ov iv=operate [ov,iv] (getItem ov iv)
theorem zi7 {prog:Program}{w:World}{A:Around}{E:Value->Shared->Prop}{s:Shared}{env:Env}{value slice:Expr}{pos:Pos}{T id:String}{Q:Value->Shared->Prop}
 (hl:typeLookup (.type T) "__getitem__"=pure (some (.builtin id))) (hs:zmQ slice)
 (h:wpAny (model prog w) A (eval value env) (λo s₁=>wpAny (model prog w) A (eval slice env) (λi s₂=>s₂.TypeIs o T/\wpAny (model prog w) A (getItem o i) Q E s₂) E s₁) E s) :
 wpAny (model prog w) A (eval (.Subscript value slice pos) env) Q E s:=by
 refine Subscript_ (u0j h (λo s₁ h₁=>u0j h₁ (λi s₂ h₂=>?_) λ_ _ x=>x) λ_ _ x=>x)
 obtain⟨hT,h₂⟩:=h₂
 unfold subscriptTail
 refine u0 ?_
 rw[getitemInPython_of_ne hT.not_modules]
 refine u0 (wpAny_specialOf hT hl ?_)
 have fin:wpAny (model prog w) A (subscripted slice false o i) (λr s₃=>wpAny (model prog w) A (letTemporaryGo value o r>>=λ_=>pure r) Q E s₃) E s₂:=by
  rw[hs o i]
  exact wpAny_operating (u0j h₂ (λr s₃ h₃=>u0 (wpAny_letTemporaryGo (u6 h₃))) λ_ _ x=>x)
 first
  | exact u6 (u0 fin)
  | exact u0 (u6 (u0 fin))
  | exact u0 fin
theorem zbs {X:Cx} {pins:List (Addr × Obj)} {σ:St} {H:Hp} {s:Shared} {a:Addr} {y:V} {o:Option V} (I:Inv X pins σ H s) (g:zjM H a y o):s.TypeIs (.ref a) "dict":=by
 rcases g with ⟨kvs,k,e,_,_⟩ | ⟨kvs,k,b,e,_,_,_⟩
 .obtain⟨_,_,vs,_,dd⟩:=zdD I.hok e
  exact dd.typeIs
 .obtain⟨_,_,xs,_,dd⟩:=zdS I.hok e
  exact dd.typeIs
def zl6 (td ty:TE):TE:=fun σ H Q=>td σ H λx H1=>ty σ H1 λy H2=>∃ a v,x=.ref a/\zjM H2 a y (some v)/\Q v H2
def zmD (td ty tv:TE):TS:=λD σ H=>tv σ H λv H1=>td σ H1 λx H2=>ty σ H2 λy H3=>∃ a H4,x=.ref a/\zf5 H3 a y v H4/\D.nx σ H4
section
variable {X:Cx}{o i e value:Expr}{pos pos' tpos:Pos}{td ty tv:TE}
theorem zjb (hu:X.A.units+1 < cLine)(ho:PE X o td)(hi:PE X i ty)(hs:zmQ i):PE X (.Subscript o i pos) (zl6 td ty):=by
 intro pins s σ H Q I h
 refine zi7 PySem.F.slot_dict_getitem.lookup hs (thn (ho pins s σ H _ I h) λu s1 ⟨x,H1,I1,rx,q1⟩=>thn (hi pins s1 σ H1 _ I1 q1) λiv s2 hh9=>?_)
 obtain⟨y,H2,I2,ry,a,v,ex,g,q2⟩:=hh9
 subst ex
 obtain rfl:u=Value.ref a:=rx
 exact⟨zbs I2 g,zdp hu I2 g ry λw' s3 I3 rw'=>⟨v,H2,I3,rw',q2⟩⟩
theorem zin (hu:X.A.units+1 < cLine)(ho:PE X o td)(hi:PE X i ty)(hv:PE X value tv)(hs:swapsWith value (some (.Subscript o i pos')) pos.line X.env=pure false) :
 PS X (.Assign [.Subscript o i pos'] value pos) (zmD td ty tv):=by
 intro pins s σ H D I h
 refine wpAny_Assign_Subscript (thn (hv pins s σ H _ I h) λr s1 ⟨v,H1,I1,rv,q1⟩=>thn (ho pins s1 σ H1 _ I1 q1) λu s2 ⟨x,H2,I2,rx,q2⟩=>thn (hi pins s2 σ H2 _ I2 q2) λiv s3 hh9=>?_) hs
 obtain⟨y,H3,I3,ry,a,H4,ex,g,q3⟩:=hh9
 subst ex
 obtain rfl:u=Value.ref a:=rx
 exact zfC hu I3 g ry rv λs4 I4=>⟨σ,H4,I4,q3⟩
end
theorem zhr {P:Program} {w:World} {H:Hp} (h:Heap) (hb:sysModules < h.objs.size):yk P w H (h.push { cls:=.type "dict",data:=.dict #[] }) h.objs.size (.dK []) :=
 ⟨u0F _,u0V.mpr (u0P (r8 hb)),[],.nil,Heap.DictOf.new h⟩
theorem zgq {P:Program} {w:World} {H:Hp} (h:Heap) (hb:sysModules < h.objs.size):yk P w H (h.push { cls:=.type "dict",data:=.dict #[] }) h.objs.size (.dT []) :=
 ⟨u0F _,u0V.mpr (u0P (r8 hb)),[],.nil,_,#[],0,j7 _ rfl,⟨rfl,rfl,rfl⟩,rfl,rfl,u08⟩
def zj4:TE:=λ_ H Q=>∀ p,H p=none->Q (.ref p) (upd H p (.dK []))
def zlQ:TE:=λ_ H Q=>∀ p,H p=none->Q (.ref p) (upd H p (.dT []))
section
variable {X:Cx}{pos:Pos}
theorem zbH:PE X (.Dict [] [] pos) zj4:=λpins s σ H Q I h =>
 wpAny_Dict_empty ⟨.ref s.heap.objs.size,_,I.laid (a:=s.heap.objs.size) (o:=.dK []) (t':=s.toks) (λ_ _ q=>u4 _ q) (j3 _) (zhr s.heap I.big),rfl,h _ (I.hok.fresh (j3 _))⟩
theorem zhj:PE X (.Dict [] [] pos) zlQ:=λpins s σ H Q I h =>
 wpAny_Dict_empty ⟨.ref s.heap.objs.size,_,I.laid (a:=s.heap.objs.size) (o:=.dT []) (t':=s.toks) (λ_ _ q=>u4 _ q) (j3 _) (zgq s.heap I.big),rfl,h _ (I.hok.fresh (j3 _))⟩
end
structure M2 (X:Cx) (o:Expr) (m:Str) (apos:Pos) (e f:Expr) (cpos:Pos):Prop where
 base:attributeBase o m X.env (eval o X.env)=eval o X.env
 few:((backTo cpos (starEach [e,f] X.env)).all (λx=>!x.1)&&(backToKw cpos (keywordEach [] X.env)).all (λx=>x.1.isSome)
  && decide (([e,f]:List Expr).length+([]:List Keyword).length+(if ([]:List Keyword).isEmpty then 0 else 1) < 30))=true
 line:(apos.endLine == cpos.line)=true
 trees:backTo cpos (starEach [e,f] X.env)=[(false,eval e X.env),(false,eval f X.env)]
def IsD (H:Hp)(a:Addr):Prop:=(∃ kvs,Rd H a (.dK kvs))\/∃ kvs,Rd H a (.dT kvs)
theorem zj1 {X:Cx}{pins:List (Addr × Obj)}{σ:St}{H:Hp}{s:Shared}{a:Addr}(I:Inv X pins σ H s)(d:IsD H a) :
 s.TypeIs (.ref a) "dict"/\(∀ b,Value.ref a=.ref b->∃ ob,s.heap.get? b=some ob/\ob.dict=none)/\(a == sysModules)=false:=by
 rcases d with ⟨kvs,e⟩ | ⟨kvs,e⟩
 .obtain⟨_,hd,vs,_,dd⟩:=zdD I.hok e
  refine⟨dd.typeIs,λb q=>?_,hd⟩
  cases q
  obtain⟨ob,_,_,h1,h2,_⟩:=dd
  exact⟨ob,h1,h2.2.1⟩
 .obtain⟨_,hd,xs,_,dd⟩:=zdS I.hok e
  refine⟨dd.typeIs,λb q=>?_,hd⟩
  cases q
  obtain⟨ob,_,_,h1,h2,_⟩:=dd
  exact⟨ob,h1,h2.2.1⟩
section
variable {X:Cx}{pins:List (Addr × Obj)}{σ:St}{H:Hp}{s:Shared}{a:Addr}{y d:V}{u r:Value}{o:Option V}{A:Around}{E:Value->Shared->Prop}
theorem zkM {Q:Value->Shared->Prop}(hu:A.units+1 < cLine)(I:Inv X pins σ H s)(g:zjM H a y o)(ry:yH y u)(rd:yH d r)(h:∀ w' s',Inv X pins σ H s'->yH (o.getD d) w'->Q w' s') :
 wpAny (model X.prog X.w) A (call (.builtin "dict.get") [.ref a,u,r]) Q E s:=by
 rcases g with ⟨kvs,k,e,ey,l⟩ | ⟨kvs,k,b,e,ey,eb,l⟩
 .subst ey
  obtain⟨z,hd,vs,rel,dd⟩:=zdD I.hok e
  refine call_meetsIn u2G dd.typeIs PySem.F.entry_dict_get (PySem.F.args_dict_get_3 _ _ _) (meets_dict_get_default (yZ X.prog X.w) a (zgr ry) hd r) ⟨_,dd.mapOf,h _ _ (I.tok _) ?_⟩
  rw[l]
  exact(rel.val k).getD rd
 .subst ey
  cases (show u=Value.ref b from ry)
  obtain⟨z,hd,xs,rel,dd⟩:=zdS I.hok e
  refine call_meetsIn u2G dd.typeIs PySem.F.entry_dict_get (PySem.F.args_dict_get_3 _ _ _) (meetsH_dict_get_default (tupleKind (yZ X.prog X.w)) a b hd r) ⟨u3o hu,k,xs,zbR I.hok eb,dd,h _ _ (I.tok _) ?_⟩
  rw[l]
  exact(rel.val k).getD rd
end
def zkr (td ty tx:TE):TE:=fun σ H Q=>td σ H λx H1=>∃ a,x=.ref a/\IsD H1 a/\ty σ H1 λy H2=>tx σ H2 λz H3=>∃ o,zjM H3 a y o/\Q (o.getD z) H3
section
variable {X:Cx}{o e f:Expr}{apos cpos:Pos}{td ty tx:TE}
theorem zgK (hu:X.A.units+1 < cLine) (ho:PE X o td) (he:PE X e ty) (hf:PE X f tx) (m:M2 X o "get" apos e f cpos):PE X (.Call (.Attribute o "get" apos) [e,f] [] cpos) (zkr td ty tx):=by
 intro pins s σ H Q I h
 refine wpAny_Call_method m.base m.few m.line PySem.F.plainAttrs_dict u2G PySem.F.type_dict_get (thn (ho pins s σ H _ I h) λu s1 hh9=>?_)
 obtain⟨x,H1,I1,rx,a,ex,d,q1⟩:=hh9
 subst ex
 obtain rfl:u=Value.ref a:=rx
 obtain⟨t1,t2,_⟩:=zj1 I1 d
 refine⟨t1,t2,?_⟩
 rw[m.trees]
 refine Calls.callWith_builtin rfl (Calls.evalArgs_plain (u1O (thn (he pins s1 σ H1 _ I1 q1) λiv s2 ⟨y,H2,I2,ry,q2⟩ =>
  u1O (thn (hf pins s2 σ H2 _ I2 q2) λfv s3 ⟨z,H3,I3,rz,ov,g,q3⟩=>u2w ?_))))
 exact zkM hu I3 g ry rz λw' s4 I4 rw'=>⟨_,H3,I4,rw',q3⟩
end
theorem zaL {X:Cx}:vH X (.builtin "isinstance") (λxs H Q=>∃ x n t b,xs=[x,.ty n]/\zbD X.K H x t/\W.kitOne X.K t (.type n)=some b/\Q (.bl b) H):=by
 intro pins s σ H xs us Q I r h
 obtain⟨x,n,t,b,rfl,ty,e,q⟩:=h
 obtain⟨u,w',rfl,rx,rt⟩:=zbr r
 cases (show w'=Value.type n from rt)
 exact zek I rx ty e λtk=>⟨.bl b,H,I.tok _,rfl,q⟩
theorem zf6 {X:Cx}:OpR X (compareOp .Is) (λx y H Q=>∃ i j,x=.bl i/\y=.bl j/\Q (.bl (i == j)) H):=by
 intro pins s σ H x y v u Q I rx ry h
 obtain⟨i,j,rfl,rfl,q⟩:=h
 cases rx
 cases ry
 refine wpAny_is_plain (by rfl) ⟨.bl (i == j),H,I,?_,q⟩
 cases i <;> cases j <;> rfl
theorem zaB {X:Cx}:OpR X (compareOp .IsNot) (λx y H Q=>∃ i j,x=.bl i/\y=.bl j/\Q (.bl (!(i == j))) H):=by
 intro pins s σ H x y v u Q I rx ry h
 obtain⟨i,j,rfl,rfl,q⟩:=h
 cases rx
 cases ry
 refine wpAny_isNot_plain (by rfl) ⟨.bl (!(i == j)),H,I,?_,q⟩
 cases i <;> cases j <;> rfl
def zh4 (K:W.Frag):R2:=λx y H Q=>∃ a b xs ys,x=.ref a/\y=.ref b/\SqT K H a xs/\SqT K H b ys/\xs.length+ys.length<=sizeLine /\
 (xs=[]->Q (.ref b) H)/\(xs≠[]->ys=[]->Q (.ref a) H)/\(xs≠[]->ys≠[]->∀ p,H p=none->Q (.ref p) (upd H p (.tup (xs++ys))))
theorem zf9 {X:Cx}:OpR X (binaryOp .Add) (zh4 X.K):=by
 intro pins s σ H x y v u Q I rx ry h
 obtain⟨a,b,xs,ys,rfl,rfl,ha,hb,hz,q0,q1,q2⟩:=h
 by_cases hx:xs=[]
 .subst hx
  cases rx
  cases ry
  obtain⟨its,r,p,_⟩:=I.tuple ha
  obtain⟨its',r',p',_⟩:=I.tuple hb
  cases r
  obtain⟨⟨cls,dd,data,sl⟩,ho,hc,n,hd⟩:=id p
  obtain⟨⟨cls2,dd2,data2,sl2⟩,ho2,hc2,n2,hd2⟩:=id p'
  simp only at hc hd hc2 hd2
  subst hc hd hc2 hd2
  exact concat_meets ⟨_,ho,rfl⟩ ⟨_,ho2,rfl⟩ noFill_tuple_add seq_tuple_add u2s u2o (u2e _ _)
   (tuple_addW0 a b #[] its'.toArray n n2 dd dd2 sl sl2 rfl) ⟨ho,ho2,⟨.ref b,H,I,rfl,q0 rfl⟩⟩
 .refine zii pins s σ H (.ref a) (.ref b) v u Q I rx ry ⟨a,b,xs,ys,rfl,rfl,ha,hb,hx,hz,?_⟩
  exact⟨λe=>q1 hx e,λe=>q2 hx e⟩
inductive ZO:St->St->Prop where
 | nil:ZO [] []
 | non {a:Option V} {s t:St}:ZO s t->ZO (none::s) (a::t)
 | same {a:Option V} {s t:St}:ZO s t->ZO (a::s) (a::t)
theorem ZO.refl:∀ s:St,ZO s s
 | []=>.nil
 | _::r=>.same (ZO.refl r)
theorem ZO.length {s t:St}(h:ZO s t):s.length=t.length:=by
 induction h with
 | nil=>rfl
 | non _ ih=>simp[ih]
 | same _ ih=>simp[ih]
theorem ZO.get {s t:St}(h:ZO s t):∀ (i:Nat) (v:V),s[i]?=some (some v)->t[i]?=some (some v):=by
 induction h with
 | nil=>intro i v e;exact e
 | non _ ih =>
  intro i v e
  cases i with
  | zero=>simp at e
  | succ i=>simpa using ih i v (by simpa using e)
 | same _ ih =>
  intro i v e
  cases i with
  | zero=>simpa using e
  | succ i=>simpa using ih i v (by simpa using e)
theorem ZO.set {n:Nat}{v:V}:∀ {s t:St},ZO s t->s[n]?=some none->ZO s (t.set n (some v))
 | _,_,.nil,_=>.nil
 | _,_,.non (a:=a) h,e=>by
  cases n with
  | zero=>exact .non h
  | succ n=>exact .non (ZO.set h (by simpa using e))
 | _,_,.same (a:=a) h,e=>by
  cases n with
  | zero =>
   have e':a=none:=by simpa using e
   subst e'
   exact .non h
  | succ n=>exact .same (ZO.set h (by simpa using e))
theorem Inv.sub {X:Cx}{pins:List (Addr × Obj)}{σ σ':St}{H:Hp}{s:Shared}(I:Inv X pins σ H s)(h:ZO σ' σ):Inv X pins σ' H s:=I.weak h.length h.get
def PIf (X:Cx)(ifs:List Expr)(t:TT):Prop :=
 ∀ (pins:List (Addr × Obj)) (s:Shared) (σ:St) (H:Hp) (Q:Bool->Hp->Prop),Inv X pins σ H s->t σ H Q ->
  wpAny (model X.prog X.w) X.A (forIn ifs true λc r=>if r=true then do let ok<-isTrue c X.env (eval c X.env);pure (ForInStep.yield ok)else pure (ForInStep.yield r)) (TP X pins σ Q) X.xe s
def tYes:TT:=λ_ H Q=>Q true H
theorem ziw {X:Cx}:PIf X [] tYes:=by
 intro pins s σ H Q I h
 rw[u3p]
 exact u6 ⟨H,I,h⟩
theorem ziV {X:Cx}{c:Expr}{t:TT}(hc:PT X c t):PIf X [c] t:=by
 intro pins s σ H Q I h
 rw[u2Z]
 refine u0 ?_
 rw[q5 rfl]
 refine u0 (thn (hc pins s σ H Q I h) λb s1 q=>u6 ?_)
 show wpAny _ _ (forIn [] b _) _ _ _
 rw[u3p]
 exact u6 q
section
variable {prog:Program}{w:World}{A:Around}{R:Result->Shared->Prop}{s:Shared}
theorem Yf {elt target iter:Expr}{ifs:List Expr}{scope:Scope}{pos:Pos}{it acc:Value}{env:Env}(I:Nat->Shared->Prop)
 (turn:∀ n s,I n s->wpAny (model prog w) A (pyNext it) (λr s₁=>match r with
  | none=>R (.ok .next) s₁
  | some v=>wpAny (model prog w) A (letOwnedTupleGo target it v) (λ_ s₁'=>wpAny (model prog w) A (assign target env v) (λ_ s₂ =>
   wpAny (model prog w) A (forIn ifs true λc r=>if r=true then do let ok<-isTrue c env (eval c env);pure (ForInStep.yield ok)else pure (ForInStep.yield r)) (λok s₃ =>
    if ok=true then wpAny (model prog w) A (eval elt env) (λx s₄ =>
     wpAny (model prog w) A (call (.builtin "list.append") [acc,x]) (λ_ s₅=>∃ m,m < n/\I m s₅) (λ_ _=>False) s₄) (λ_ _=>False) s₃
    else ∃ m,m < n/\I m s₃) (λ_ _=>False) s₂) (λ_ _=>False) s₁') (λ_ _=>False) s₁) (λ_ _=>False) s)
 (n:Nat) (h:I n s) :
 codeAny (model prog w) A (.compLoop (.ListComp elt [⟨target,iter,ifs,0⟩] scope pos) 0 it acc env) R s:=by
 refine codeAny_loop rfl I (λn s hI=>?_) n h
 show wpAny _ A ((compTurn (.ListComp elt [⟨target,iter,ifs,0⟩] scope pos) 0 it acc env).onRaise (λx=>do noteFrame x env;theTreesLotGoes x)) _ _ s
 refine wpAny_noted ?_
 rw[compTurn_list]
 refine u0 (u3R (u0 (u0j (turn n s hI) (λr s₁ h₁=>?_) λ_ _ h'=>h'.elim)))
 cases r with
 | none=>exact u6 h₁
 | some v =>
  refine u0 (u0j h₁ (λ_ s₁' h₁'=>?_) λ_ _ h'=>h'.elim)
  refine u0 (u0j h₁' (λ_ s₂ h₂=>u0 (u0j h₂ (λok s₃ h₃=>?_) λ_ _ h'=>h'.elim)) λ_ _ h'=>h'.elim)
  cases ok with
  | false=>exact u6 ⟨rfl,h₃⟩
  | true =>
   exact u0 (u0 (u0j h₃ (λx s₄ h₄=>u0 (u0j h₄ (λ_ s₅ h₅=>u6 (u6 ⟨rfl,h₅⟩)) λ_ _ h'=>h'.elim)) λ_ _ h'=>h'.elim))
end
def tLC (wi:TI)(n:Nat)(g:TG)(tt:TT)(te:TE):TE:=fun σ H Q=>wi σ H λJ H1=>∀ D,H1 D=none->∃ W:Nat->Nat->List V->Hp->Prop,(∃ m,W 0 m [] (upd H1 D (.lst []))) /\
 ∀ i m ys H2,W i m ys H2->(J.stop i H2/\Q (.ref D) H2)\/(J.go i H2/\ys.length < sizeLine/\∀ x H3,J.yld i H2 x H3->g x (List.replicate n none++σ) H3 fun σ2 H4=>tt σ2 H4 λb H5 =>
  if b=true then te σ2 H5 λy H6=>H6 D=some (.lst ys)/\∃ m',m' < m/\W (i+1) m' (ys++[y]) (upd H6 D (.lst (ys++[y])))else ∃ m',m' < m/\W (i+1) m' ys H5)
theorem Yj {α:Type}:∀ {l:List (Str × α)} {y:Str},y∈l.map Prod.fst->∃ c,l.lookup y=some c
 | [],_,h=>by simp at h
 | (k,v)::r,y,h=>by
  by_cases e:y=k
  .exact⟨v,by simp[List.lookup,e]⟩
  .obtain⟨c,hc⟩:=Yj (l:=r) (y:=y) (by simpa [e]using h)
   have hb:(y == k)=false:=u0V.mpr e
   exact⟨c,by simp only[List.lookup,hb];exact hc⟩
theorem Yq {α:Type}{P:α->Prop}:∀ p∈([]:List α),P p:=λ_ h=>nomatch h
theorem all_cons {α:Type}{P:α->Prop}{a:α}{l:List α}(h:P a)(t:∀ p∈l,P p):∀ p∈a::l,P p:=λp hp=>by
 rcases j5.mp hp with e | hp
 .rw[e];exact h
 .exact t p hp
theorem gs1 (σ:St)(v:V)(H:Hp)(Q:St->Hp->Prop)(h:YX 0 v (List.replicate 1 none++σ) H Q):YX 0 v (List.replicate 1 none++σ) H (fun σ2 H2=>ZO (List.replicate 1 none++σ) σ2/\Q σ2 H2):=⟨.set (.refl _) rfl,h⟩
theorem gs2 {K:W.Frag}(σ:St)(v:V)(H:Hp)(Q:St->Hp->Prop)(h:zlT K 2 (zbj (YX 0) (zbj (YX 1) zlZ)) v (List.replicate 2 none++σ) H Q) :
 zlT K 2 (zbj (YX 0) (zbj (YX 1) zlZ)) v (List.replicate 2 none++σ) H (fun σ2 H2=>ZO (List.replicate 2 none++σ) σ2/\Q σ2 H2):=by
 obtain⟨a,xs,e,hq,hl,x,r,e1,y,r2,e2,e3,q⟩:=h
 exact⟨a,xs,e,hq,hl,x,r,e1,y,r2,e2,e3,.set (.set (.refl _) rfl) rfl,q⟩
def zdd (X:Cx)(L M:List Str)(scope:Scope)(cl:List (Str × Addr))(s₀:Shared)(H₀:Hp)(ex:List Addr)(pn:List (Addr × Obj)):Cx :=
 { X with N:=L++M,s₀:=s₀,H₀:=H₀,env:=compEnvC scope cl s₀.heap.objs.size X.env,outer:=X.stack,stack:=X.stack,ex:=ex,fn:=λ_=>false,pn:=pn,xe:=λ_ _=>False }
structure w8 (X:Cx) (L M:List Str) (scope:Scope) (cl:List (Str × Addr)):Prop where
 clos:closureFor scope X.env=pure cl
 cell:∀ y∈scope.names,y.2≠.cell
 kind:scope.kind=.function
 names:∀ y∈scope.names,y.2=.local->scope.names.lookup y.1=some .local
 sub:∀ y c,cl.lookup y=some c->X.env.cells.lookup y=some c
 has:∀ y,((relabel scope X.env).names.lookup y=some .cell\/(relabel scope X.env).names.lookup y=some .free)->∃ c,cl.lookup y=some c
 mlen:M.length=X.N.length
 msk:∀ (i:Nat) y,M[i]?=some y->Vis (relabel scope X.env) y->X.N[i]?=some y
 vis:∀ (i:Nat) y,M[i]?=some y->Vis (relabel scope X.env) y->((relabel scope X.env).names.lookup y=some .cell\/(relabel scope X.env).names.lookup y=some .free)
 out:∀ (i:Nat) y,M[i]?=some y->Vis (relabel scope X.env) y->Vis X.env.scope y/\X.env.kindOf y≠some .local
theorem Inv.letGo {X:Cx}{pins:List (Addr × Obj)}{σ:St}{H:Hp}{s:Shared}{C:Addr}{h':Heap}(I:Inv X pins σ H s)(f:zbX X pins H C)(sb:Heap.SameBut C s.heap h'):Inv X pins σ H { s with heap:=h' }:=by
 obtain⟨f0,f1,f2,f3,f4,f5⟩:=f
 have ne:∀ b,b∉[C]->b≠C:=λb hb z=>hb (by rw[z];exact j9.mpr rfl)
 refine I.call' (s':={ s with heap:=h' }) (ch:=[C]) rfl ⟨λb o e _ _ hx=>(sb.2 b (ne b hx)).trans e,λb o e _ _ hx=>⟨o.slots,(sb.2 b (ne b hx)).trans e⟩,λ_ _ _ n _=>n,λb o e hx=>⟨o,(sb.2 b (ne b hx)).trans e⟩,λ_ _ q=>q,λ_ _ _ q=>q,λ_ ps q=>⟨#[],by rw[q];simp⟩⟩ ?_ I.bare λb hb=>?_
 .intro b ob e
  refine(I.hok b ob e).stay (λc v hc q=>(sb.2 c ?_).trans q) (λ_ q=>q) λ_ _ q=>q
  rintro rfl
  rcases hc with z | z
  .rw[<-z,f0]at e;cases e
  .rw[f0]at z;cases z
 .rw[j9.mp hb]
  exact⟨f3,f1,f4,f5⟩
theorem zjH {use:Option (Value->Sem Unit)}{Qf:Value->Shared->Prop}{X:Cx}{elt tg iter:Expr}{ifs:List Expr}{L M:List Str}{scope:Scope}{cl:List (Str × Addr)}{pos:Pos}{wi:TI}{g:TG}{tt:TT}{te:TE}
 (hc:X.calm=true) (S:w8 X L M scope cl) (hi:PI X tg iter wi)
 (hgS:∀ (σ:St) (v:V) (H:Hp) (Q:St->Hp->Prop),g v (List.replicate L.length none++σ) H Q->g v (List.replicate L.length none++σ) H (fun σ2 H2=>ZO (List.replicate L.length none++σ) σ2/\Q σ2 H2))
 (hg:∀ s₀ H₀ ex pn,PG (zdd X L M scope cl s₀ H₀ ex pn) tg g) (ht:∀ s₀ H₀ ex pn,PIf (zdd X L M scope cl s₀ H₀ ex pn) ifs tt) (he:∀ s₀ H₀ ex pn,PE (zdd X L M scope cl s₀ H₀ ex pn) elt te)
 (hs:∀ x,foldedSetIterable iter X.env x=pure x:=by intro _;rfl) :
 ∀ (pos':Pos) (pins:List (Addr × Obj)) (s:Shared) (σ:St) (H:Hp) (Q:VK),Inv X pins σ H s->tLC wi L.length g tt te σ H Q ->
  (∀ (D C:Addr) (H':Hp) (s':Shared),Inv X pins σ H' s'->(∃ m,s'.heap.Ns C m)->zbX X pins H' C->Q (.ref D) H'->compPost (model X.prog X.w) X.A X.xe use Qf (.ref D) C (.ok .next) s') ->
  wpAny (model X.prog X.w) X.A (comprehension (.ListComp elt [⟨tg,iter,ifs,0⟩] scope pos) scope X.env pos' (newList []) false (eval iter X.env) use) Qf X.xe s:=by
 intro pos' pins s σ H Q I h fin
 refine wpAny_comprehension_free (use:=use) rfl hs S.clos S.kind S.names (thn (hi pins s σ H _ I h) λv s1 h1=>thn h1 λitv s2 h2=>?_)
 obtain⟨it,fp,tn,J,H2,e,I2,T,st2,f2,q⟩:=h2
 subst e
 have hD:H2 s2.heap.objs.size=none:=I2.hok.fresh (j3 _)
 obtain⟨W,⟨m0,w0⟩,turn⟩:=q _ hD
 refine u0c (wpAny_newFunctionEnv S.cell (by intro y hy;simp at hy) (λh₁ hns₁ hsb₁=>?_) S.kind)
 have I3:Inv X pins σ (upd H2 s2.heap.objs.size (.lst [])) { s2 with heap:=s2.heap.push { cls:=.type "list",data:=.seq ([]:List Value).toArray } }:=by
  refine I2.laid (t':=s2.toks) (λb u e=>u4 _ e) (j3 _) ?_
  exact⟨u0F _,[],0,.nil,j7 _ rfl⟩
 generalize hs3:({ s2 with heap:=s2.heap.push { cls:=.type "list",data:=.seq ([]:List Value).toArray } }:Shared)=s3 at I3 hns₁ hsb₁ ⊢
 have hobj:∀ b∈fp,b < s2.heap.objs.size:=λb hb=>by
  obtain⟨o,ho,_⟩:=T.obj _ _ st2 b hb
  exact t9 ho
 have hz3:s3.heap.objs.size=s2.heap.objs.size+1:=by rw[<-hs3];exact u0Q ..
 have k23:∀ b o,s2.heap.get? b=some o->s3.heap.get? b=some o:=λb o e=>by rw[<-hs3];exact u4 _ e
 have k34:∀ b o,s3.heap.get? b=some o->h₁.get? b=some o:=λb o e=>(hsb₁.2 b (r8 (t9 e))).trans (u4 _ e)
 generalize hH3:upd H2 s2.heap.objs.size (.lst [])=H3 at I3 w0
 have hfp3:∀ b∈fp,H3 b=none:=λb hb=>by
  rw[<-hH3,zm (r8 (hobj b hb))]
  exact(f2 b hb).1
 have nfs:∀ b∈fp,b∉frs X.stack:=λb hb z=>by
  obtain⟨_,n1,n2,_⟩:=f2 b hb
  rcases j5.mp (I3.stkSub b z)with e | e
  .exact n1 e
  .exact n2 e
 let Y:Cx:=zdd X L M scope cl s3 H3 fp (X.pn++pins)
 have OkY:Y.Ok:=by
  refine⟨I.ok.mod,S.kind,I.ok.glob,I.ok.blt,j3 _,λx y c h1 h2=>I.ok.inj x y c (S.sub x c h1) (S.sub y c h2),λx hx=>S.has x hx,(λx c h _=>absurd h u8),I.ok.hd,I.ok.frames,.inl rfl,λb hb=>⟨?_,λx c e z=>?_⟩,
   λb o e=>I3.bs b o e,i4 I.ok.bsz I3.sz,λb o e hb=>?_,nfs,I3.stack,I3.stkFree⟩
  .show b≠s3.heap.objs.size
   exact r8 (r6 (hobj b hb) (by rw[hz3];exact u25 _))
  .exact(f2 b hb).2.2.2.2.1 x c (S.sub x c e) z
  .rcases(f2 b hb).2.2.2.1 with z | z
   .exact I.ok.noex b o e z
   .have h1:=t9 e
    have h2:=I.ok.bsz
    exact absurd (r6 h1 (i4 h2 z)) (u0y _)
 have I4:Inv Y [] (List.replicate L.length none++σ) H3 { s3 with heap:=h₁,toks:=s3.toks+([]:List (Str × Value)).length }:=by
  refine⟨OkY,rfl,I3.bare,Un.kept k34,⟨_,hns₁,λi y v e1 e2 e3=>?_⟩,λx c e=>?_,I3.hok.fresh (j3 _),λx c e=>I3.freeC x c (S.sub x c e),λp hp=>?_,I3.hok.kept k34,?_⟩
  .have hi:¬ i < L.length:=λhlt=>by
    rw[u0o (by simpa using hlt),u1J]at e2
    split at e2 <;> cases e2
   have e0':M[i - L.length]?=some y:=by
    have e1:(L++M)[i]?=some y:=e1
    rw[u0i (by omega)]at e1
    exact e1
   have e2':σ[i - L.length]?=some (some v):=by rw[u0i (by simpa using u0K hi)]at e2;simpa using e2
   have e1':=S.msk _ y e0' e3
   obtain⟨ov,ok⟩:=S.out _ y e0' e3
   obtain⟨m,hn,hl⟩:=I3.loc
   obtain⟨u,ru,lk⟩:=hl _ y v e1' e2' ov
   refine⟨u,ru,?_⟩
   rcases lk with ⟨hk,_⟩ | ⟨_,c,hc',hcell⟩
   .exact absurd hk ok
   .have kn:=S.vis _ y e0' e3
    obtain⟨c',hc2⟩:=S.has y kn
    have:=S.sub y c' hc2
    rw[hc']at this
    cases this
    refine .inr ⟨kn,c,hc2,?_⟩
    obtain⟨o,ho,hd⟩:=hcell
    exact⟨o,k34 _ _ ho,hd⟩
  .obtain⟨v,o,ho,hd⟩:=I3.cell x c (S.sub x c e)
   exact⟨v,o,k34 _ _ ho,hd⟩
  .have hp':p∈X.pn++pins:=u0k (X.pn++pins) ▸ hp
   obtain⟨a1,a2,a3,a4,a5⟩:=I3.pin p hp'
   refine⟨k34 _ _ a1,a2,r8 (t9 a1),λz=>?_,a5⟩
   rcases j5.mp (I3.stkSub p.1 z)with e | e
   .exact a3 e
   .exact a4 e
  .show(List.replicate L.length none++σ).length=(L++M).length
   rw[d9,d9,List.length_replicate,I.len,S.mlen]
 have fpY:∀ {H':Hp},(∀ b∈fp,H' b=none)->∀ b∈fp,zbX Y [] H' b:=λ{H'} hn b hb=>by
  refine⟨hn b hb,(OkY.exf b hb).1,nfs b hb,.inl hb,(OkY.exf b hb).2,λp hp=>?_⟩
  have hp':p∈X.pn++pins:=u0k (X.pn++pins) ▸ hp
  exact(f2 b hb).2.2.2.2.2 p hp'
 have st4:tn 0 h₁:=T.keep _ _ _ st2 λb hb o e=>k34 b o (k23 b o e)
 -- behind the loop
 have back:∀ (H':Hp) (s':Shared),Inv Y [] (List.replicate L.length none++σ) H' s'->Q (.ref s2.heap.objs.size) H'->compPost (model X.prog X.w) X.A X.xe use Qf (.ref s2.heap.objs.size) s3.heap.objs.size (.ok .next) s':=λH' s' J' q'=>by
  obtain⟨m,hn,_⟩:=J'.loc
  refine fin _ _ H' s' (I3.call' (ch:=fp) J'.os J'.base J'.hok J'.bare λb hb=>?_) ⟨m,hn⟩ (I3.fpOk (j3 _) J'.free) q'
  obtain⟨_,n1,_,n3,n4,n5⟩:=f2 b hb
  exact⟨n3,n1,n4,n5⟩
 have loop:codeAny (model X.prog X.w) X.A (.compLoop (.ListComp elt [⟨tg,iter,ifs,0⟩] scope pos) 0 (.ref it) (.ref s2.heap.objs.size) (compEnvC scope cl s3.heap.objs.size X.env))
  (compPost (model X.prog X.w) X.A X.xe use Qf (.ref s2.heap.objs.size) s3.heap.objs.size) { s3 with heap:=h₁,toks:=s3.toks+([]:List (Str × Value)).length }:=by
  refine Yf (λn s'=>∃ i ys H',Inv Y [] (List.replicate L.length none++σ) H' s'/\tn i s'.heap/\(∀ b∈fp,H' b=none)/\W i n ys H') ?_ m0 ⟨0,[],H3,I4,st4,hfp3,w0⟩
  rintro n s5 ⟨i,ys,H5,I5,st5,fr5,w5⟩
  rcases turn i n ys H5 w5 with ⟨stop,qn⟩ | ⟨go,hlen,step⟩
  .refine thn (T.done Y rfl rfl rfl hc i [] s5 _ H5 _ I5 (fpY fr5) st5 stop) λr s6 hh9=>?_
   obtain⟨hr,I6⟩:=hh9
   subst hr
   exact back H5 s6 I6 qn
  .refine thn (T.item Y rfl rfl rfl hc i [] s5 _ H5 _ I5 (fpY fr5) st5 go) λr s6 hh9=>?_
   obtain⟨u,hr,h6⟩:=hh9
   subst hr
   refine thn h6 λ_ s7 hh9=>?_
   obtain⟨x,H7,I7,r7,y7,st7,fr7⟩:=hh9
   have I7':=I7.pinned (fpY fr7) (T.obj _ _ st7)
   have g7:=hgS σ x H7 _ (step x H7 y7)
   refine thn (hg _ _ _ _ _ s7 _ H7 x u _ I7' r7 g7) λ_ s8 hh9=>?_
   obtain⟨σ8,H8,I8,sub8,q8⟩:=hh9
   have again:∀ {σ9:St} {H9:Hp} {s9:Shared} {zs:List V},Inv Y ([]++Wn fp s7.heap) σ9 H9 s9->ZO (List.replicate L.length none++σ) σ9->(∃ m',m' < n/\W (i+1) m' zs H9) ->
    ∃ m,m < n/\∃ i ys H',Inv Y [] (List.replicate L.length none++σ) H' s9/\tn i s9.heap/\(∀ b∈fp,H' b=none)/\W i m ys H':=λ{σ9 H9 s9 zs} I9 sub9 w9=>by
    obtain⟨m',hm,w9⟩:=w9
    refine⟨m',hm,i+1,zs,H9,(I9.sub sub9).unpinned,T.keep _ _ _ st7 λb hb o e=>(I9.pin (b,o) (u0a _ (u0a _ (Yb hb e)))).1,λb hb=>?_,w9⟩
    obtain⟨o,e,d⟩:=T.obj _ _ st7 b hb
    exact(I9.pin (b,o) (u0a _ (u0a _ (Yb hb e)))).2.1
   refine thn (ht _ _ _ _ _ s8 σ8 H8 _ I8 q8) λb s9 hh9=>?_
   obtain⟨H9,I9,q9⟩:=hh9
   cases b with
   | false =>
    rw[j4 u8]at q9
    rw[j4 u8]
    exact again I9 sub8 q9
   | true =>
    rw[q5 rfl]at q9
    rw[q5 rfl]
    refine thn (he _ _ _ _ _ s9 σ8 H9 _ I9 q9) λy s10 hh9=>?_
    obtain⟨yv,H10,I10,r10,hD10,w10⟩:=hh9
    obtain⟨z10,its,k,rv,e10⟩:ys.length<=sizeLine/\∃ (its:List Value) (n:Nat),yt ys its/\s10.heap.get? s2.heap.objs.size=some { cls:=.type "list",data:=.seq its.toArray n }:=I10.hok _ _ hD10
    have hl10:s10.heap.PlainList s2.heap.objs.size its.toArray:=⟨k,e10⟩
    refine wpAny_list_append_plain (hsz:=by rw[j6,<- rv.length];exact z10) hl10 λh11 hl11 sb11=>?_
    obtain⟨k',e11⟩:=hl11
    have I11:Inv Y ([]++Wn fp s7.heap) σ8 (upd H10 s2.heap.objs.size (.lst (ys++[yv]))) { s10 with heap:=h11 }:=by
     refine I10.write (x:=s2.heap.objs.size) (e:=s2.heap.objs.size) (t':=s10.toks) (by rw[hD10];exact True.intro) (.inl rfl) (λb u hb e=>(sb11.2 b hb).trans e) ⟨_,e11⟩ ?_
     refine⟨by rw[d9];show ys.length+1<=sizeLine;exact hlen,its++[y],k',rv.append (.cons r10 .nil),?_⟩
     rw[e11]
     simp
    exact again I11 sub8 w10
 exact codeAny_compStart_list loop (T.self _ 0 _ _ _ st4 loop)
theorem zhV {X:Cx}{elt tg iter:Expr}{ifs:List Expr}{L M:List Str}{scope:Scope}{cl:List (Str × Addr)}{pos:Pos}{wi:TI}{g:TG}{tt:TT}{te:TE}
 (hc:X.calm=true) (S:w8 X L M scope cl) (hi:PI X tg iter wi)
 (hgS:∀ (σ:St) (v:V) (H:Hp) (Q:St->Hp->Prop),g v (List.replicate L.length none++σ) H Q->g v (List.replicate L.length none++σ) H (fun σ2 H2=>ZO (List.replicate L.length none++σ) σ2/\Q σ2 H2))
 (hg:∀ s₀ H₀ ex pn,PG (zdd X L M scope cl s₀ H₀ ex pn) tg g) (ht:∀ s₀ H₀ ex pn,PIf (zdd X L M scope cl s₀ H₀ ex pn) ifs tt) (he:∀ s₀ H₀ ex pn,PE (zdd X L M scope cl s₀ H₀ ex pn) elt te)
 (hs:∀ x,foldedSetIterable iter X.env x=pure x:=by intro _;rfl) :
 PE X (.ListComp elt [⟨tg,iter,ifs,0⟩] scope pos) (tLC wi L.length g tt te):=by
 intro pins s σ H Q I h
 rw[eval_ListComp]
 refine zjH hc S hi hgS hg ht he hs _ pins s σ H Q I h λD C H' s' I' ⟨m,hn⟩ f q=>⟨m,hn,λh' sb=>⟨.ref D,_,I'.letGo f sb,rfl,q⟩⟩
def Wf (names rn dn:List (Str × NameKind))(N M cn:List Str):Bool :=
 names.all (λy=>decide (y.2≠.cell))&&names.all (λy=>decide (y.2=.local->names.lookup y.1=some .local)) &&
 rn.all (λy=>decide ((y.2=.cell\/y.2=.free)->y.1∈cn)) &&
 (M.length == N.length)&&(M.zip N).all (λp=>decide ((rn.lookup p.1=some .local\/rn.lookup p.1=some .cell\/rn.lookup p.1=some .free)->p.1=p.2)) &&
 M.all (λy=>decide ((rn.lookup y=some .local\/rn.lookup y=some .cell\/rn.lookup y=some .free) ->
  (rn.lookup y=some .cell\/rn.lookup y=some .free)/\(dn.lookup y=some .local\/dn.lookup y=some .cell\/dn.lookup y=some .free)/\dn.lookup y≠some .local))
theorem Xi {X:Cx}{L N M cn:List Str}{scope:Scope}{cl:List (Str × Addr)}{rn dn:List (Str × NameKind)}(hr:(relabel scope X.env).names=rn)(hd:X.env.scope.names=dn)(hN:X.N=N)
 (clos:closureFor scope X.env=pure cl) (kind:scope.kind=.function) (hc:cl.map Prod.fst=cn) (good:Wf scope.names rn dn N M cn=true) (sub:∀ p∈cl,X.env.cells.lookup p.1=some p.2):w8 X L M scope cl:=by
 unfold Wf at good
 simp only[p4,u0B,p0]at good
 obtain⟨⟨⟨⟨⟨g1,g2⟩,g3⟩,g5⟩,g6⟩,g4⟩:=good
 have g5:M.length=N.length:=by simpa using g5
 refine⟨clos,g1,kind,g2,λy c h=>sub (y,c) (u0U h),λy h=>?_,by rw[hN];exact g5,λi y e v=>?_,λi y e v=>?_,λi y e v=>?_⟩
 .rw[hr]at h
  have hy:y∈cn:=by
   rcases h with h | h
   .exact g3 _ (u0U h) (.inl rfl)
   .exact g3 _ (u0U h) (.inr rfl)
  exact Yj (by rw[hc];exact hy)
 .unfold Vis at v
  rw[hr]at v
  have hi:=(t6.mp e).1
  have hj:i < N.length:=by rw[<-g5];exact hi
  have hz:(M.zip N)[i]?=some (y,N[i]):=by
   rw[u15]
   exact⟨e,r9 hj⟩
  have:=g6 _ (b6 hz) v
  rw[hN,r9 hj]
  exact u0M some this.symm
 .unfold Vis at v
  rw[hr]at v ⊢
  exact(g4 y (b6 e) v).1
 .unfold Vis at v
  rw[hr]at v
  obtain⟨_,k1,k2⟩:=g4 y (b6 e) v
  refine⟨?_,?_⟩
  .unfold Vis;rw[hd];exact k1
  .show X.env.scope.names.lookup y≠_;rw[hd];exact k2
end L2
namespace PySem
open Sem (wp)
open AutoSeq1 (wpAny_loadPart')
section
variable {prog:Program}{w:World}{A:Around}{E:Value->Shared->Prop}{s:Shared}
theorem vI {it l:Addr}{i:Nat}{items}{x:Value}{Q:Value->Shared->Prop}(hit:s.heap.IsTupleIter it l i)
 (hl:s.heap.IsTuple l items) (hx:items[i]?=some x)
 (hQ:∀ h',h'.IsTupleIter it l (i+1)->Heap.SameBut it s.heap h'->Q x { s with heap:=h' }) :
 wpAny (model prog w) A (Builtin.SmallTypes.nextOf (.ref it)) Q E s:=by
 obtain⟨o,ho,hc,hd⟩:=id hit
 obtain⟨ol,hol,_,nl,hdl⟩:=hl
 unfold Builtin.SmallTypes.nextOf
 refine u0 (e9 (name:=Str.ofString "__next__") hit.typeIs u1q
  (i7 u1q hit.typeIs F.entry_tuple_iterator_next ?_ (F.args_tuple_iterator_next_1 _)))
 show wpAny _ _ (field (.ref it) 0>>=_) _ _ s
 refine u0 (u0W ho hd (x:=.ref l) rfl ?_)
 show wpAny _ _ (if (Value.ref l == Value.none)=true then _ else _) _ _ s
 rw[j4 (show ¬ ((Value.ref l == Value.none)=true)from u8)]
 show wpAny _ _ (field (.ref it) 1>>=_) _ _ s
 refine u0 (u0W ho hd (x:=.int i 0) rfl ?_)
 show wpAny _ _ (seqItems? (.ref l)>>=_) _ _ s
 refine u0 (u1h hol hdl ?_)
 simp only[u0E,hx]
 refine u0 (u3x ho hd (by simp) (u6 ⟨x,rfl,u6 (hQ _ ?_ (u1j ..))⟩))
 exact⟨_,p9 _ ho (Obj.isFreed_of_fields (u2n hd _)),(Obj.cls_mapFields ..).trans hc,by
  rw[u2n hd];simp[rawInt]⟩
theorem x9 {it l:Addr}{i:Nat}{items}{Q:Value->Shared->Prop}(hh:A.handled=none)
 (hit:s.heap.IsTupleIter it l i) (hl:s.heap.IsTuple l items) (hx:items[i]?=none)
 (hE:∀ h' e,Heap.ExtBut it s.heap h'->(∃ o,h'.get? e=some o/\o.cls=.type "StopIteration")->E (.ref e) { s with heap:=h' }) :
 wpAny (model prog w) A (Builtin.SmallTypes.nextOf (.ref it)) Q E s:=by
 obtain⟨o,ho,hc,hd⟩:=id hit
 obtain⟨ol,hol,_,nl,hdl⟩:=hl
 unfold Builtin.SmallTypes.nextOf
 refine u0 (e9 (name:=Str.ofString "__next__") hit.typeIs u1q
  (i7 u1q hit.typeIs F.entry_tuple_iterator_next ?_ (F.args_tuple_iterator_next_1 _)))
 show wpAny _ _ (field (.ref it) 0>>=_) _ _ s
 refine u0 (u0W ho hd (x:=.ref l) rfl ?_)
 show wpAny _ _ (if (Value.ref l == Value.none)=true then _ else _) _ _ s
 rw[j4 (show ¬ ((Value.ref l == Value.none)=true)from u8)]
 show wpAny _ _ (field (.ref it) 1>>=_) _ _ s
 refine u0 (u0W ho hd (x:=.int i 0) rfl ?_)
 show wpAny _ _ (seqItems? (.ref l)>>=_) _ _ s
 refine u0 (u1h hol hdl ?_)
 simp only[u0E,hx]
 refine u0 (u2h (u0 (u3x ho hd (by simp) ?_)))
 show wpAny _ _ (newExc (.type "StopIteration") []>>=_) _ _ _
 refine u0 ?_
 simp only[newExc,newTuple]
 refine u0 (u0c ?_ (by size_fits))
 refine u0 (m:=firstArgMember _ _) (u1M (a:=Value.none) (by first | rfl | (simp only[firstArgMember];rfl)) ?_)
 refine u0c ?_ (by size_fits)
 simp only[raiseNew]
 refine u0 (wpAny_handled ?_)
 first | rw[show A.in1.handled=none from hh] | rw[hh]
 refine u0 (u6 (wpAny_throw ?_))
 exact hE _ _ (((u1j ..).extBut.push _).push _) ⟨_,j7 _ rfl,rfl⟩
end
theorem Yg {prog:Program}{w:World}{A:Around}{E:Value->Shared->Prop}{s:Shared}{e it l:Addr}{i:Nat}{items:Array Value}{old:Value}{Q:Option Value->Shared->Prop}(hh:A.handled=none)
 (he:IsEnum s.heap e it i old) (hit:s.heap.IsTupleIter it l i) (hl:s.heap.IsTuple l items) (hx:items[i]?=none)
 (hQ:∀ h',Heap.ExtBut it s.heap h'->Q none { s with heap:=h' }):wpAny (model prog w) A (pyNext (.ref e)) Q E s:=by
 have hT:s.TypeIs (.ref e) "enumerate":=⟨_,he,rfl⟩
 unfold pyNext
 refine u0 (u09 (e9 (name:=Str.ofString "__next__") hT F.slot_enumerate_next
  (i7 F.slot_enumerate_next hT F.entry_enumerate_next ?_ (F.args_enumerate_next_1 _))))
 show wpAny _ _ (field (.ref e) 2>>=_) _ _ _
 refine u0 (u0W he rfl (x:=.ref it) rfl ?_)
 refine u0 (x9 hh hit hl hx λh' x he' hx'=>?_)
 obtain⟨o,ho,hc⟩:=hx'
 refine u0 (u19 (T:="StopIteration") (b:=true) ⟨o,ho,hc⟩ u3u ?_)
 exact u6 (hQ _ he')
theorem vJ {prog:Program}{w:World}{A:Around}(hh:A.handled=none)(it l:Addr)(hne:l≠it)(items:Array Value) :
 Draws prog w A it [it,l] items.size (λi v=>items[i]?=some v) (λi h=>h.IsTupleIter it l i/\h.IsTuple l items) where
 live:=λ_ _ st=>let ⟨o,ho,_⟩:=st.1;⟨o,ho⟩
 frame:=λ_ _ _ st hk=>by
  obtain⟨⟨o,ho,r⟩,⟨o2,ho2,r2⟩⟩:=st
  exact⟨⟨o,hk it (by simp) o ho,r⟩,⟨o2,hk l (by simp) o2 ho2,r2⟩⟩
 item:=λi s Q E hi st hQ=>by
  refine vI st.1 st.2 (x:=items[i]) (by simp[hi]) λh' hit' hs'=>?_
  exact hQ _ h' s.toks (by simp[hi]) ⟨hit',st.2.extBut hs'.extBut hne⟩ hs'
 done:=λs Q E st hE=>x9 hh st.1 st.2 (by simp) hE
theorem Y4 (l:Addr)(items:Array Value)(n:Nat)(dd:Option Addr)(sl:Array (Option Value)) :
 Meets (Builtin.«enumerate.__new__» ⟨[.type "enumerate",.ref l],[]⟩) (λ_ R s=>s.heap.get? l=some { cls:=.type "tuple",dict:=dd,data:=.seq items n,slots:=sl } /\
  R (.ok (.ret (.ref (s.heap.push { cls:=.type "tuple_iterator",data:=.fields #[.ref l,.int 0 0] }).objs.size)))
   { s with heap:=(s.heap.push { cls:=.type "tuple_iterator",data:=.fields #[.ref l,.int 0 0] }).push { cls:=.type "enumerate",data:=.fields #[.none,.bool false,.ref s.heap.objs.size,rawInt 0,.none,.none] } }) :=
 .of_wp λprog w A R s h=>by
  obtain⟨hp,g,d,tk,os⟩:=s;obtain⟨hl,h⟩:=h
  have hsub:=sub_enumerate
  have hL:Heap.IsTuple (Shared.heap ⟨hp,g,d,tk,os⟩) l items:=⟨_,hl,rfl,n,rfl⟩
  wp_walk using u1o hl
  refine wpAny_stack_any λst=>u6 ?_
  split
  .rename_i c _ _ _ _ _
   cases (c == Value.type "enumerate")
   .wp_walk using u1o hl,u0G hL
    exact⟨_,rfl,h⟩
   .wp_walk using u1o hl,u0G hL
    exact⟨_,rfl,h⟩
  .wp_walk using u1o hl,u0G hL
   exact⟨_,rfl,h⟩
section
variable {prog:Program}{w:World}{A:Around}{E:Value->Shared->Prop}{s:Shared}
theorem Ye {l:Addr}{items:Array Value}{Q:Value->Shared->Prop}
 (hl:s.heap.IsTuple l items)
 (h:∀ h',IsEnum h' (s.heap.objs.size+1) s.heap.objs.size 0 .none->h'.IsTupleIter s.heap.objs.size l 0->h'.objs.size=s.heap.objs.size+2 ->
  (∀ b o,s.heap.get? b=some o->h'.get? b=some o)->Q (.ref (s.heap.objs.size+1)) { s with heap:=h' }) :
 wpAny (model prog w) A (call (.type "enumerate") [.ref l]) Q E s:=by
 obtain⟨⟨cls,dd,data,sl⟩,ho,hc,n,hd⟩:=hl
 simp only at hc hd
 subst hc hd
 refine callType_new F.called_enumerate (by decide) (F.typeCall_enumerate_1 _) (F.newCall_enumerate_1 _) (λobj=>F.args_object_init_2 obj _) F.entry_enumerate_new
  (Y4 l items n dd sl) ⟨ho,?_⟩
 have hz:(s.heap.push { cls:=.type "tuple_iterator",data:=.fields #[.ref l,.int 0 0] }).objs.size=s.heap.objs.size+1:=u0Q ..
 show _/\_
 rw[hz]
 have he:IsEnum ((s.heap.push { cls:=.type "tuple_iterator",data:=.fields #[.ref l,.int 0 0] }).push
  { cls:=.type "enumerate",data:=.fields #[.none,.bool false,.ref s.heap.objs.size,rawInt 0,.none,.none] }) (s.heap.objs.size+1) s.heap.objs.size 0 .none:=by
  have:=j7 (s.heap.push { cls:=.type "tuple_iterator",data:=.fields #[.ref l,.int 0 0] })
   (o:={ cls:=.type "enumerate",data:=.fields #[.none,.bool false,.ref s.heap.objs.size,rawInt 0,.none,.none] }) rfl
  rw[hz]at this;exact this
 refine⟨⟨_,he,rfl⟩,h _ he ⟨_,u4 _ (j7 _ rfl),rfl,rfl⟩ (by rw[u0Q,hz]) λb o x=>u4 _ (u4 _ x)⟩
end
end PySem
namespace L2
open PySem PySem.Spec PyProof.Rows
section
variable {X:Cx}{pins:List (Addr × Obj)}{σ:St}{H:Hp}{s:Shared}{h':Heap}
theorem Inv.grown {ch:List Addr}{T:Addr}{o:HO}{t':Nat}(I:Inv X pins σ H s)(hch:∀ b∈ch,zbX X pins H b)(hT:s.heap.objs.size<=T)(k:∀ b u,b∉ch->s.heap.get? b=some u->h'.get? b=some u)
 (new:yk X.prog X.w (upd H T o) h' T o):Inv X pins σ (upd H T o) { s with heap:=h',toks:=t' }:=by
 have hn:H T=none:=I.hok.fresh hT
 have neT:∀ b u,s.heap.get? b=some u->b≠T:=λb u e=>r8 (r6 (t9 e) hT)
 have nch:∀ b u,H b=some u->b∉ch:=λb u e z=>by rw[(hch b z).1]at e;cases e
 refine I.step (g':=s.gens) (d':=s.drawn) (ch:=ch) (λb hb=>?_) (λb u _ _ hc e _=>k b u hc e) (λb u _ _ hc e _=>⟨u.slots,k b u hc e⟩) (λb u _ e n=>by rw[zm (neT b u e)];exact n)
  (λb u hc e=>⟨u,k b u hc e⟩) (λb xs e=>by rw[zm (zj e hn)];exact e) (λb u xs e=>by rw[zm (zj e hn)];exact e) (λb ps e=>⟨#[],by rw[zm (zj e hn),e];simp⟩) (λm hm=>?_) (λb u e=>?_) I.bare
 .obtain⟨_,n1,_,n3,n4,n5⟩:=hch b hb
  exact⟨n3,n1,n4,n5⟩
 .obtain⟨ob,es,ep,ho,r⟩:=hm
  exact⟨ob,es,ep,k _ ob (λz=>(hch _ z).2.1 rfl) ho,r⟩
 .by_cases hb:b=T
  .subst hb;rw[zn]at e;cases e;exact new
  .rw[zm hb]at e
   refine(I.hok b u e).stay (λc v hc q=>k c v ?_ q) (λc q=>by rw[zm (zj q hn)];exact q) λc xs q=>by rw[zm (zj q hn)];exact q
   rcases hc with z | z
   .rw[z];exact nch b u e
   .exact nch c _ z
theorem Inv.turnedN {ch:List Addr}{t':Nat}(I:Inv X pins σ H s)(hch:∀ b∈ch,zbX X pins H b)(k:∀ b u,b∉ch->s.heap.get? b=some u->h'.get? b=some u):Inv X pins σ H { s with heap:=h',toks:=t' }:=by
 have nch:∀ b u,H b=some u->b∉ch:=λb u e z=>by rw[(hch b z).1]at e;cases e
 refine I.step (g':=s.gens) (d':=s.drawn) (ch:=ch) (λb hb=>?_) (λb u _ _ hc e _=>k b u hc e) (λb u _ _ hc e _=>⟨u.slots,k b u hc e⟩) (λb u _ e n=>n)
  (λb u hc e=>⟨u,k b u hc e⟩) (λb xs e=>e) (λb u xs e=>e) (λb ps e=>⟨#[],by rw[e];simp⟩) (λm hm=>?_) (λb u e=>?_) I.bare
 .obtain⟨_,n1,_,n3,n4,n5⟩:=hch b hb
  exact⟨n3,n1,n4,n5⟩
 .obtain⟨ob,es,ep,ho,r⟩:=hm
  exact⟨ob,es,ep,k _ ob (λz=>(hch _ z).2.1 rfl) ho,r⟩
 .refine(I.hok b u e).stay (λc v hc q=>k c v ?_ q) (λc q=>q) λc xs q=>q
  rcases hc with z | z
  .rw[z];exact nch b u e
  .exact nch c _ z
end
def Iel (K:W.Frag)(a:Addr):It :=
 ⟨λi H=>∃ xs x,SqL K H a xs/\xs[i]?=some x,λi H v H'=>∃ T x,v=.ref T/\H T=none/\H'=upd H T (.tup [.int i,x])/\∀ xs,SqL K H a xs->xs[i]?=some x,λi H=>∃ xs,SqL K H a xs/\xs.length<=i⟩
def Iet (K:W.Frag)(a:Addr):It :=
 ⟨λi H=>∃ xs x,SqT K H a xs/\xs[i]?=some x,λi H v H'=>∃ T x,v=.ref T/\H T=none/\H'=upd H T (.tup [.int i,x])/\∀ xs,SqT K H a xs->xs[i]?=some x,λi H=>∃ xs,SqT K H a xs/\xs.length<=i⟩
theorem zcA {P:Program}{w:World}{K:W.Frag}{es:List Expr}{k:Nat}{tp:Pos}(a e it:Addr)(hne:e≠it) :
 zjp P w K (.Tuple es k tp) (Iel K a) [e,it] e (λi h=>(∃ old,IsEnum h e it i old)/\h.IsListIter it a i) where
 mem:=by simp
 obj:=λi h st b hb=>by
  obtain⟨⟨old,he⟩,o,ho,_,hd⟩:=st
  rcases j5.mp hb with rfl | hb
  .exact⟨_,he,λv z=>by cases z⟩
  .rw[j9.mp hb]
   exact⟨o,ho,λv z=>by rw[hd]at z;cases z⟩
 keep:=λi h h' st kk=>by
  obtain⟨⟨old,he⟩,hit⟩:=st
  exact⟨⟨old,kk e (by simp) _ he⟩,hit.at λo q=>kk it (by simp) o q⟩
 item:=by
  intro X hP hw hK hc i pins s σ H E I hf st hg
  subst hP hw hK
  obtain⟨⟨old,he⟩,hit⟩:=st
  obtain⟨xs,x,hq,hx⟩:=hg
  obtain⟨its,rv,p,hz⟩:=I.list hq
  obtain⟨u,hu,ru⟩:=rv.get hx
  refine wpAny_pyNext_enum_item he hit p.isList (x:=u) (by simpa using hu) hne λh1 ho1 hit1 hT1 hz1 hk1=>?_
  refine⟨_,rfl,wpAny_letOwnedTupleGo_enum ho1 λh2 he2 hs2=>?_⟩
  have hfr:H s.heap.objs.size=none:=I.hok.fresh (j3 _)
  have neE:s.heap.objs.size≠e:=u1T (t9 he)
  have hT2:h2.get? s.heap.objs.size=some { cls:=.type "tuple",data:=.seq #[.int i s.toks,u] }:=(hs2.2 _ neE).trans hT1
  refine⟨.ref s.heap.objs.size,upd H s.heap.objs.size (.tup [.int i,x]),?_,rfl,⟨_,x,rfl,hfr,rfl,λys hy=>by rw[I.list_inj hy hq];exact hx⟩,⟨⟨_,by simpa using he2⟩,hit1.at λo q=>(hs2.2 it (u0P hne)).trans q⟩,λb hb=>?_⟩
  .refine I.grown (ch:=[e,it]) hf (j3 _) (λb v hb q=>?_) ?_
   .have n1:b≠e:=λz=>hb (by simp[z])
    have n2:b≠it:=λz=>hb (by simp[z])
    exact(hs2.2 b n1).trans (hk1 b v n1 n2 q)
   .exact⟨by show 2<=sizeLine;decide,[.int i s.toks,u],.cons ⟨_,rfl⟩ (.cons ru .nil),⟨_,hT2,rfl,0,rfl⟩⟩
  .obtain⟨o,hb2,_⟩:∃ o,s.heap.get? b=some o/\True:=by
    rcases j5.mp hb with rfl | hb
    .exact⟨_,he,trivial⟩
    .rw[j9.mp hb]
     obtain⟨o,ho,_⟩:=hit
     exact⟨o,ho,trivial⟩
   rw[zm (r8 (t9 hb2))]
   exact(hf b hb).1
 done:=by
  intro X hP hw hK hc i pins s σ H E I hf st hg
  subst hP hw hK
  obtain⟨⟨old,he⟩,hit⟩:=st
  obtain⟨xs,hq,hx⟩:=hg
  obtain⟨its,rv,p,hz⟩:=I.list hq
  have hl:=rv.length
  exact wpAny_pyNext_enum_end (I.ok.hd hc) he hit p.isList (by simp;omega) λh1 hx1=>⟨rfl,I.turnedN (ch:=[e,it]) (t':=s.toks) hf λb v hb q=>hx1 b v (λz=>hb (by simp[z])) q⟩
 self:=λ_ _ _ _ _ st h=>u2D st.1.choose_spec h
theorem zcH {P:Program}{w:World}{K:W.Frag}{es:List Expr}{k:Nat}{tp:Pos}(a e it:Addr)(hne:e≠it)(hai:a≠it)(hae:a≠e) :
 zjp P w K (.Tuple es k tp) (Iet K a) [e,it] e (λi h=>(∃ old,IsEnum h e it i old)/\h.IsTupleIter it a i) where
 mem:=by simp
 obj:=λi h st b hb=>by
  obtain⟨⟨old,he⟩,o,ho,_,hd⟩:=st
  rcases j5.mp hb with rfl | hb
  .exact⟨_,he,λv z=>by cases z⟩
  .rw[j9.mp hb]
   exact⟨o,ho,λv z=>by rw[hd]at z;cases z⟩
 keep:=λi h h' st kk=>by
  obtain⟨⟨old,he⟩,o,ho,r⟩:=st
  exact⟨⟨old,kk e (by simp) _ he⟩,o,kk it (by simp) o ho,r⟩
 item:=by
  intro X hP hw hK hc i pins s σ H E I hf st hg
  subst hP hw hK
  obtain⟨⟨old,he⟩,hit⟩:=st
  obtain⟨xs,x,hq,hx⟩:=hg
  obtain⟨its,rv,p,hz⟩:=I.tuple hq
  obtain⟨u,hu,ru⟩:=rv.get hx
  have p':s.heap.IsTuple a its.toArray:=p
  have D:=vJ (prog:=X.prog) (w:=X.w) (A:=X.A.in1) (I.ok.hd hc) it a hai its.toArray
  have hlt:i < its.toArray.size:=by
   obtain⟨h1,_⟩:=t6.mp hu
   simpa using h1
  refine wpAny_pyNext_enum_itemD D he ⟨hit,p'⟩ hlt hne (by simp[hne,u0P hae]) λu' h1 tk hP1 ho1 hit1 hT1 hz1 hk1=>?_
  have eu:u'=u:=by
   have:its[i]?=some u':=by simpa using hP1
   rw[hu]at this
   exact(u0m this).symm
  subst eu
  refine⟨_,rfl,wpAny_letOwnedTupleGo_enum ho1 λh2 he2 hs2=>?_⟩
  have hfr:H s.heap.objs.size=none:=I.hok.fresh (j3 _)
  have neE:s.heap.objs.size≠e:=u1T (t9 he)
  have hT2:h2.get? s.heap.objs.size=some { cls:=.type "tuple",data:=.seq #[.int i tk,u'] }:=(hs2.2 _ neE).trans hT1
  refine⟨.ref s.heap.objs.size,upd H s.heap.objs.size (.tup [.int i,x]),?_,rfl,⟨_,x,rfl,hfr,rfl,λys hy=>by rw[I.tuple_inj hy hq];exact hx⟩,⟨⟨_,by simpa using he2⟩,?_⟩,λb hb=>?_⟩
  .refine I.grown (ch:=[e,it]) hf (j3 _) (λb v hb q=>?_) ?_
   .have n1:b≠e:=λz=>hb (by simp[z])
    have n2:b≠it:=λz=>hb (by simp[z])
    exact(hs2.2 b n1).trans (hk1 b v n1 n2 q)
   .exact⟨by show 2<=sizeLine;decide,[.int i tk,u'],.cons ⟨_,rfl⟩ (.cons ru .nil),⟨_,hT2,rfl,0,rfl⟩⟩
  .obtain⟨o,ho,r⟩:=hit1.1
   exact⟨o,(hs2.2 it (u0P hne)).trans ho,r⟩
  .obtain⟨o,hb2,_⟩:∃ o,s.heap.get? b=some o/\True:=by
    rcases j5.mp hb with rfl | hb
    .exact⟨_,he,trivial⟩
    .rw[j9.mp hb]
     obtain⟨o,ho,_⟩:=hit
     exact⟨o,ho,trivial⟩
   rw[zm (r8 (t9 hb2))]
   exact(hf b hb).1
 done:=by
  intro X hP hw hK hc i pins s σ H E I hf st hg
  subst hP hw hK
  obtain⟨⟨old,he⟩,hit⟩:=st
  obtain⟨xs,hq,hx⟩:=hg
  obtain⟨its,rv,p,hz⟩:=I.tuple hq
  have hl:=rv.length
  have p':s.heap.IsTuple a its.toArray:=p
  exact Yg (I.ok.hd hc) he hit p' (by simp;omega) λh1 hx1=>⟨rfl,I.turnedN (ch:=[e,it]) (t':=s.toks) hf λb v hb q=>hx1 b v (λz=>hb (by simp[z])) q⟩
 self:=λ_ _ _ _ _ st h=>u2D st.1.choose_spec h
def zmu (K:W.Frag)(ta:TA):TI:=fun σ H R=>ta σ H λvs H1=>∃ a,vs=[.ref a]/\((∃ xs,H1 a=some (.lst xs)/\R (Iel K a) H1)\/(∃ xs,SqT K H1 a xs/\R (Iet K a) H1))
theorem zjv {X:Cx} {es:List Expr} {k:Nat} {tp:Pos} {a:Expr} {ta:TA} {p pos:Pos} (hg:Gl X "enumerate") (hm:X.mg "enumerate"=none) (hb:bootBuiltins "enumerate"=some (.type "enumerate")) (ha:PA X [a] ta)
 (hs:starEach [a] X.env=[(false,eval a X.env)]:=by rfl):PI X (.Tuple es k tp) (.Call (.Name "enumerate" p) [a] [] pos) (zmu X.K ta):=by
 intro pins s σ H R I h
 refine Call_ (YN I hg hm hb (u0J (thn (ha pos pins s σ H _ I h) λus s1 hh9=>?_) hs rfl))
 obtain⟨vs,H1,I1,r1,q1⟩:=hh9
 obtain⟨l,e,q⟩:=q1
 subst e
 obtain⟨u,rfl,ru⟩:=WN r1
 cases ru
 have hn:∀ b,s1.heap.objs.size<=b->zbX X pins H1 b:=λb hb=>I1.fpOk hb (I1.hok.fresh hb)
 have hne:s1.heap.objs.size+1≠s1.heap.objs.size:=by omega
 have hfp:∀ b∈[s1.heap.objs.size+1,s1.heap.objs.size],zbX X pins H1 b:=λb hb=>by
  rcases j5.mp hb with rfl | hb
  .exact hn _ (u25 _)
  .rw[j9.mp hb];exact hn _ (j3 _)
 rcases q with ⟨xs,hx,q⟩ | ⟨xs,hx,q⟩
 .obtain⟨_,its,n,_,e⟩:xs.length<=sizeLine/\∃ (its:List Value) (n:Nat),yt xs its/\s1.heap.get? l=some { cls:=.type "list",data:=.seq its.toArray n }:=I1.hok _ _ hx
  refine call_enumerate_1 e λh2 he hit hz hk=>u2D he ?_
  exact⟨_,_,_,_,H1,rfl,I1.kept (t':=s1.toks) hk,zcA l _ _ hne,⟨⟨_,he⟩,hit⟩,hfp,q⟩
 .obtain⟨its,_,p1,_⟩:=I1.tuple hx
  have lt:l < s1.heap.objs.size:=by
   obtain⟨o,ho,_⟩:=p1
   exact t9 ho
  refine Ye (show s1.heap.IsTuple l its.toArray from p1) λh2 he hit hz hk=>u2D he ?_
  exact⟨_,_,_,_,H1,rfl,I1.kept (t':=s1.toks) hk,zcH l _ _ hne (r8 lt) (r8 (u0u lt)),⟨⟨_,he⟩,hit⟩,hfp,q⟩
end L2
namespace HT
open PySem PyProof.Rows
def lexLe:List Int->List Int->Bool
 | [],_=>true
 | _::_,[]=>false
 | x::xs,y::ys=>if x=y then lexLe xs ys else decide (x<=y)
theorem zcO (x y:Int)(xs ys:List Int):lexLe (x::xs) (y::ys)=if x=y then lexLe xs ys else decide (x<=y):=rfl
theorem zgS (A:Around)(s:Shared)(a:Int)(t:Tok)(c:Int)(u:Tok)(prog:Program)(w:World)(E:Value->Shared->Prop)(Q:Value->Shared->Prop)(h:Q (.bool (decide (a<=c))) s) :
 wpAny (model prog w) A (richCompare .LtE (.int a t) (.int c u)) Q E s :=
 (PyProof.Rows.le_int h:wpAny (model prog w) A (compareOp .LtE (.int a t) (.int c u)) Q E s)
section
open PySem.SeqAt
open PySem.AutoSeq1 (wpAny_loadPart')
open PySem.MeetsSeq PySem.MeetsSeq2 PySem.MeetsSeq3
theorem Vg (l b:Addr)(items items2:Array Value)(n n2:Nat)(dd dd2:Option Addr)(sl sl2:Array (Option Value))(ns ms:List Int)(hi:IntsAre items.toList ns)(hj:IntsAre items2.toList ms) :
 Meets (Builtin.«tuple.__le__» ⟨[.ref l,.ref b],[]⟩)
  (λ_ R s=>s.heap.get? l=some { cls:=.type "tuple",dict:=dd,data:=.seq items n,slots:=sl }/\s.heap.get? b=some { cls:=.type "tuple",dict:=dd2,data:=.seq items2 n2,slots:=sl2 } /\
   R (.ok (.ret (.bool (lexLe ns ms)))) s) :=
 .of_wp λprog w A R s h=>by
  obtain⟨hp,g,d,tk,os⟩:=s;obtain⟨hl,hb,h⟩:=h
  have f2:=AutoSeq1.sub_tuple_tuple
  have z1:items.size=ns.length:=by rw[<-hi.length];simp
  have z2:items2.size=ms.length:=by rw[<-hj.length];simp
  wp_walk using u1o hl,u1o hb,u2M _ (λrest b s'=>b.1=none/\s'=⟨hp,g,d,tk,os⟩/\∃ (vs ws:List Value) (ns' ms':List Int),rest=vs.zip ws /\
   IntsAre vs ns'/\IntsAre ws ms'/\ns'.length+items2.size=ms'.length+items.size/\R (.ok (.ret (.bool (lexLe ns' ms')))) ⟨hp,g,d,tk,os⟩) _
  case turn =>
   rintro⟨y,x⟩ rest b s' ⟨hb',rfl,vs,ws,ns',ms',hz,hvi,hwi,hlen,hR⟩
   cases hvi with
   | nil=>rw[List.zip_nil_left]at hz;cases hz
   | cons a t hvi' =>
    cases hwi with
    | nil=>rw[List.zip_nil_right]at hz;cases hz
    | cons c u hwi' =>
     rw[u2m]at hz
     injection hz with hyx hrest
     injection hyx with hy hx
     subst hy hx
     rw[zcO]at hR
     simp only[u0g]at hlen
     obtain⟨e,he,hiff⟩:=zgh A.in1 ⟨hp,g,d,tk,os⟩ a t c u
     refine u0 (he prog w _ _ ?_)
     cases e with
     | true =>
      rw[q5 (hiff.mp rfl)]at hR
      wp_walk
      exact⟨rfl,rfl,_,_,_,_,hrest,hvi',hwi',by omega,hR⟩
     | false =>
      rw[j4 (λq=>absurd (hiff.mpr q) u8)]at hR
      have hri:=zgS A.in1 ⟨hp,g,d,tk,os⟩ a t c u prog w
      wp_walk using hri
      exact⟨_,rfl,by simpa using hR⟩
  case fin =>
   rintro⟨b1,b2⟩ s' ⟨hb',rfl,vs,ws,ns',ms',hz,hvi,hwi,hlen,hR⟩
   simp only at hb'
   subst hb'
   have hv:lexLe ns' ms'=decide (items.size<=items2.size):=by
    cases hvi with
    | nil =>
     simp only[u21]at hlen
     show true=_
     exact(j8 (by omega)).symm
    | cons a t hv =>
     cases hwi with
     | nil =>
      simp only[u21,u0g]at hlen
      show false=_
      exact(g0 (by omega)).symm
     | cons c u hw =>
      rw[u2m]at hz
      cases hz
   rw[hv]at hR
   wp_walk
   exact⟨_,rfl,by simpa [Builtin.Tuple.tupleCompareSizes]using hR⟩
  case h =>
   exact⟨rfl,rfl,items.toList,items2.toList,ns,ms,rfl,hi,hj,by omega,h⟩
end
section
variable {prog:Program}{w:World}{A:Around}{E:Value->Shared->Prop}{s:Shared}
theorem le_tupInts {l b:Addr}{items items2:Array Value}{ns ms:List Int}{Q:Value->Shared->Prop}(hl:IsTup s.heap l items)(hb:IsTup s.heap b items2)(hi:IntsAre items.toList ns)(hj:IntsAre items2.toList ms)
 (hu:A.units < cLine) (h:Q (.bool (lexLe ns ms)) s):wpAny (model prog w) A (compareOp .LtE (.ref l) (.ref b)) Q E s:=by
 obtain⟨⟨cls,dd,data,sl⟩,ho,hc,n,hd⟩:=id hl
 obtain⟨⟨cls2,dd2,data2,sl2⟩,ho2,hc2,n2,hd2⟩:=id hb
 simp only at hc hd hc2 hd2
 subst hc hd hc2 hd2
 exact richCompare_meets_room (op:=.LtE) ⟨_,ho,rfl⟩ ⟨_,ho2,rfl⟩ PySem.F.slot_tuple_le PySem.F.entry_tuple_le (PySem.F.args_tuple_le_2 _ _) (Vg l b items items2 n n2 dd dd2 sl sl2 ns ms hi hj)
  ⟨ho,ho2,show Value.bool (lexLe ns ms)≠Value.notImplemented/\Q (.bool (lexLe ns ms)) s from⟨(λx=>nomatch x),h⟩⟩ hu
end
end HT
namespace L2
open PySem PySem.Spec PyProof.Rows
def rLeT (K:W.Frag):R2:=λx y H Q=>∃ a b ns ms,x=.ref a/\y=.ref b/\SqT K H a (ns.map V.int)/\SqT K H b (ms.map V.int)/\Q (.bl (HT.lexLe ns ms)) H
theorem zhS {X:Cx}(hu:X.A.units < cLine):OpR X (compareOp .LtE) (rLeT X.K):=by
 intro pins s σ H x y v u Q I rx ry h
 obtain⟨a,b,ns,ms,rfl,rfl,ha,hb,q⟩:=h
 cases rx
 cases ry
 obtain⟨its,r1,p1,_⟩:=I.tuple ha
 obtain⟨its2,r2,p2,_⟩:=I.tuple hb
 have i1:IntsAre its.toArray.toList ns:=wU r1
 have i2:IntsAre its2.toArray.toList ms:=wU r2
 exact HT.le_tupInts p1 p2 i1 i2 hu ⟨.bl (HT.lexLe ns ms),H,I,rfl,q⟩
end L2
namespace HT
open PySem PyProof.Rows
section
variable {prog:Program}{w:World}{A:Around}{E:Value->Shared->Prop}{s:Shared}
theorem own_getItem_whole {t sl:Addr}{items:Array Value}{vl vu:Value}{lo hi:Option Int}{Q:Value->Shared->Prop}(ht:IsTup s.heap t items)(hs:s.heap.IsSliceOf sl vl vu .none)(pl:IsPart vl lo)(pu:IsPart vu hi)
 (hw:sIx items.size 0 lo=0/\sIx items.size items.size hi=items.size) (h:Q (.ref t) s):wpAny (model prog w) A (getItem (.ref t) (.ref sl)) Q E s:=by
 obtain⟨os,hos,hcs,hds⟩:=id hs
 have hTs:s.TypeIs (.ref sl) "slice":=⟨os,hos,hcs⟩
 unfold getItem
 try with_reducible refine i5 ?_
 first | refine u0 (u6 ?_) | skip
 refine u0 (wpAny_sequenceKey ht.typeIs (by decide) ?_)
 refine u0 (e9 (name:=Str.ofString "__getitem__") ht.typeIs u0w
  (i7 u0w ht.typeIs entry_tuple_getitem ?_ (args_tuple_getitem _ _)))
 show wpAny _ _ (Builtin.Tuple.tupleItemsOf (.ref t)>>=_) _ _ s
 refine u0 (tupleItemsOf_ ht ?_)
 refine u0 (u1I hTs ?_)
 rw[q5 (by decide)]
 refine u0 (vz hs pl pu ?_)
 have hyes:(((sIx items.size 0 lo:Nat):Int) == 0&&(1:Int) == 1&&(sIx items.size items.size hi - sIx items.size 0 lo) == items.size)=true:=by
  rw[hw.1,hw.2]
  simp
 show wpAny _ _ (if (((sIx items.size 0 lo:Nat):Int) == 0&&(1:Int) == 1&&(sIx items.size items.size hi - sIx items.size 0 lo) == items.size)=true then _ else _) _ _ s
 rw[q5 hyes]
 refine u0 (m:=Builtin.Tuple.tupleIsExact (.ref t)) ?_
 unfold Builtin.Tuple.tupleIsExact
 refine u0 (u1I ht.typeIs (u6 ?_))
 rw[q5 (by decide)]
 refine u0 (u2h ?_)
 first
  | exact u6 ⟨_,rfl,u6 h⟩
  | exact u0 (u6 (u6 ⟨_,rfl,u6 h⟩))
end
end HT
namespace PySem
open Sem (wp)
theorem xv {prog:Program}{w:World}{A:Around}{it a:Addr}{fp:List Addr}{n k:Nat}{P:Nat->Value->Prop}{St:Nat->Heap->Prop}(D:Draws prog w A it fp n P St){h h':Heap}(st:St k h)(sb:Heap.SameBut a h h')(na:a∉fp):St k h' :=
 D.frame _ _ _ st λb hb o e=>(sb.2 b λz=>na (z ▸ hb)).trans e
structure zgz (z TI TO i1 i2:Addr) (fp1 fp2:List Addr):Prop where
 nd:[z,TI,TO,i1,i2].Nodup
 z1:z∉fp1
 z2:z∉fp2
 o1:TO∉fp1
 o2:TO∉fp2
 i12:i1∉fp2
 i21:i2∉fp1
section
variable {prog:Program}{w:World}{A:Around}{E:Value->Shared->Prop}{s:Shared}{z TI TO i1 i2:Addr}{fp1 fp2:List Addr}{n1 n2 k1 k2:Nat}{P1 P2:Nat->Value->Prop}{St1 St2:Nat->Heap->Prop}{a b:Value}
theorem VW {Q:Value->Shared->Prop}(D1:Draws prog w A i1 fp1 n1 P1 St1)(D2:Draws prog w A i2 fp2 n2 P2 St2)(ap:zgz z TI TO i1 i2 fp1 fp2)
 (hz:IsZip s.heap z TI TO .none) (hTI:IsPair s.heap TI (.ref i1) (.ref i2)) (hTO:IsPair s.heap TO a b) (h1:St1 k1 s.heap) (h2:St2 k2 s.heap) (l1:k1 < n1) (l2:k2 < n2)
 (hQ:∀ x y h' tk,P1 k1 x->P2 k2 y->IsZip h' z TI TO (rawInt s.heap.objs.size)->IsPair h' TO x y->St1 (k1+1) h'->St2 (k2+1) h'->IsPair h' s.heap.objs.size x y ->
  (∀ c o,c∉[z,TO,i1,i2]->s.heap.get? c=some o->h'.get? c=some o)->Q (.ref s.heap.objs.size) { s with heap:=h',toks:=tk }) :
 wpAny (model prog w) A (Builtin.«zip.__next__» ⟨[.ref z],[]⟩) (λfin s'=>∃ v,fin=.done (.ret v)/\Q v s') E s:=by
 obtain⟨nd,az1,az2,ao1,ao2,a12,a21⟩:=ap
 simp only[u0s,j5,p5,u1p,u4f,u2B,u08,and_true]at nd
 obtain⟨⟨n1',n2',n3',n4'⟩,⟨n5,n6,n7⟩,⟨n8,n9⟩,n10⟩:=nd
 show wpAny _ _ (field (.ref z) 2>>=_) _ _ _
 refine u0 (u0W hz rfl (x:=.bool false) rfl ?_)
 show wpAny _ _ (field (.ref z) 3>>=_) _ _ _
 refine u0 (u0W hz rfl (x:=.ref TI) rfl (u0 (u1h hTI rfl ?_)))
 show wpAny _ _ (Builtin.SmallTypes.ownedTupleIsFree (.ref z)>>=_) _ _ _
 refine u0 ?_
 unfold Builtin.SmallTypes.ownedTupleIsFree
 refine u0 (u0W hz rfl (x:=.none) rfl (u6 ?_))
 simp only[u3a]
 refine u0 (u2h (u0 (u0W hz rfl (x:=.ref TO) rfl (u0 (u02 hz (by simp) λg1 z1 b1=>?_)))))
 refine u0 ?_
 simp only[u3T,List.zipIdx_nil,u2Z,u3p]
 refine u0 (u0 (wpAny_onRaise ?_))
 show wpAny _ _ (Builtin.SmallTypes.nextOf (.ref i1)>>=_) _ _ _
 refine u0 (D1.item k1 _ _ _ l1 (xv D1 h1 b1 az1) λx g2 tk2 px st2 b2=>u6 ?_)
 have o2:IsPair g2 TO a b:=(b2.2 TO n8).trans ((b1.2 TO (u0P n2')).trans hTO)
 refine u0 (u1h o2 rfl (u0 (wpAny_updateSeq_pair o2 λg3 o3 b3=>?_)))
 refine u0 (wpAny_letGo (u6 ?_))
 refine u0 (u0 (wpAny_onRaise ?_))
 show wpAny _ _ (Builtin.SmallTypes.nextOf (.ref i2)>>=_) _ _ _
 have s23:St2 k2 g3:=xv D2 (xv D2 (xv D2 h2 b1 az2) b2 a12) b3 ao2
 refine u0 (D2.item k2 _ _ _ l2 s23 λy g4 tk4 py st4 b4=>u6 ?_)
 have o4:IsPair g4 TO x b:=(b4.2 TO n9).trans o3
 refine u0 (u1h o4 rfl (u0 (wpAny_updateSeq_pair o4 λg5 o5 b5=>?_)))
 replace o5:IsPair g5 TO x y:=o5
 refine u0 (wpAny_letGo (u6 (u6 ?_)))
 refine u0 (u1h o5 rfl ?_)
 show wpAny _ _ (newTuple [x,y]>>=_) _ _ _
 refine u0 (wpAny_newTuple ?_)
 have hsz:g5.objs.size=s.heap.objs.size:=by rw[b5.1,b4.1,b3.1,b2.1,b1.1]
 have z5:IsZip g5 z TI TO .ellipsis:=(b5.2 z n2').trans ((b4.2 z n4').trans ((b3.2 z n2').trans ((b2.2 z n3').trans z1)))
 have zlt:z < g5.objs.size:=t9 z5
 show wpAny _ _ (Builtin.SmallTypes.ownedTupleHandOut (.ref z) (.ref g5.objs.size)>>=_) _ _ _
 refine u0 ?_
 unfold Builtin.SmallTypes.ownedTupleHandOut
 have z6:IsZip (g5.push { cls:=.type "tuple",data:=.seq #[x,y] }) z TI TO .ellipsis:=u4 _ z5
 refine u0 (u02 z6 (by simp) λg7 z7 b7=>?_)
 refine u02 z7 (by simp) λg8 z8 b8=>?_
 have up:∀ c o,c≠z->g5.get? c=some o->g8.get? c=some o:=λc o n e=>(b8.2 c n).trans ((b7.2 c n).trans (u4 _ e))
 have t8:IsPair g8 g5.objs.size x y:=(b8.2 _ (u1T zlt)).trans ((b7.2 _ (u1T zlt)).trans (j7 _ rfl))
 have e8:IsZip g8 z TI TO (rawInt g5.objs.size):=z8
 rw[hsz]at e8 t8
 refine u6 ⟨_,rfl,?_⟩
 show Q (.ref g5.objs.size) _
 rw[hsz]
 have f1:St1 (k1+1) g5:=xv D1 (xv D1 (xv D1 st2 b3 ao1) b4 a21) b5 ao1
 have f2:St2 (k2+1) g5:=xv D2 st4 b5 ao2
 refine hQ x y g8 _ px py e8 (up _ _ (u0P n2') o5) (D1.frame _ _ _ f1 λc hc o e=>up c o (λq=>az1 (q ▸ hc)) e) (D2.frame _ _ _ f2 λc hc o e=>up c o (λq=>az2 (q ▸ hc)) e) t8 λc o hc e=>?_
 simp only[j5,p5,u1p,u4f]at hc
 obtain⟨c1,c2,c3,c4⟩:=hc
 exact up c o c1 ((b5.2 c c2).trans ((b4.2 c c4).trans ((b3.2 c c2).trans ((b2.2 c c3).trans ((b1.2 c c1).trans e)))))
theorem zaI {Q:Fin->Shared->Prop}(D1:Draws prog w A i1 fp1 n1 P1 St1)(az1:z∉fp1)(nz:i1≠z)
 (hz:IsZip s.heap z TI TO .none) (hTI:IsPair s.heap TI (.ref i1) (.ref i2)) (h1:St1 n1 s.heap)
 (hE:∀ h' e,(∀ c o,c≠z->c≠i1->s.heap.get? c=some o->h'.get? c=some o)->(∃ o,h'.get? e=some o/\o.cls=.type "StopIteration")->E (.ref e) { s with heap:=h' }) :
 wpAny (model prog w) A (Builtin.«zip.__next__» ⟨[.ref z],[]⟩) Q E s:=by
 show wpAny _ _ (field (.ref z) 2>>=_) _ _ _
 refine u0 (u0W hz rfl (x:=.bool false) rfl ?_)
 show wpAny _ _ (field (.ref z) 3>>=_) _ _ _
 refine u0 (u0W hz rfl (x:=.ref TI) rfl (u0 (u1h hTI rfl ?_)))
 show wpAny _ _ (Builtin.SmallTypes.ownedTupleIsFree (.ref z)>>=_) _ _ _
 refine u0 ?_
 unfold Builtin.SmallTypes.ownedTupleIsFree
 refine u0 (u0W hz rfl (x:=.none) rfl (u6 ?_))
 simp only[u3a]
 refine u0 (u2h (u0 (u0W hz rfl (x:=.ref TO) rfl (u0 (u02 hz (by simp) λg1 z1 b1=>?_)))))
 refine u0 ?_
 simp only[u3T,List.zipIdx_nil,u2Z,u3p]
 refine u0 (u0 (wpAny_onRaise ?_))
 show wpAny _ _ (Builtin.SmallTypes.nextOf (.ref i1)>>=_) _ _ _
 refine u0 (D1.done _ _ _ (xv D1 h1 b1 az1) λg2 e b2 he=>?_)
 obtain⟨oe,hoe,hce⟩:=he
 have z2:IsZip g2 z TI TO .ellipsis:=b2 _ _ (u0P nz) z1
 have nez:e≠z:=λq=>by subst q;rw[z2]at hoe;cases hoe;simp at hce
 exact u02 z2 (by simp) λg3 _ b3=>hE g3 e (λc o c1 c2 q=>(b3.2 c c1).trans (b2 c o c2 ((b1.2 c c1).trans q))) ⟨oe,(b3.2 e nez).trans hoe,hce⟩
end
def WE (b:Bool)(h:Heap)(it l:Addr)(k:Nat):Prop:=if b=true then h.IsListIter it l k else h.IsTupleIter it l k
def zcu (b:Bool)(h:Heap)(l:Addr)(items:Array Value):Prop:=if b=true then h.IsList l items else h.IsTuple l items
theorem Xx {prog:Program}{w:World}{A:Around}(hh:A.handled=none)(b:Bool)(it l:Addr)(hne:l≠it)(items:Array Value) :
 Draws prog w A it [it,l] items.size (λi v=>items[i]?=some v) (λi h=>WE b h it l i/\zcu b h l items):=by
 cases b with
 | true=>exact Draws.list hh it l hne items
 | false=>exact vJ hh it l hne items
def zep (b:Bool) (l:Addr):Obj:={ cls:=.type (if b=true then "list_iterator" else "tuple_iterator"),data:=.fields #[.ref l,.int 0 0] }
abbrev zpA (h:Heap)(b1:Bool)(l1:Addr):Heap:=h.push (zep b1 l1)
abbrev zpB (h:Heap)(b1 b2:Bool)(l1 l2:Addr):Heap:=(zpA h b1 l1).push (zep b2 l2)
abbrev zpC (h:Heap) (b1 b2:Bool) (l1 l2:Addr):Heap:=(zpB h b1 b2 l1 l2).push (Obj.mk (.type "tuple") none (.seq #[.ref h.objs.size,.ref (zpA h b1 l1).objs.size]) #[])
abbrev zpD (h:Heap) (b1 b2:Bool) (l1 l2:Addr):Heap:=(zpC h b1 b2 l1 l2).push (Obj.mk (.type "tuple") none (.seq #[.none,.none]) #[])
abbrev zpE (h:Heap) (b1 b2:Bool) (l1 l2:Addr):Heap:=(zpD h b1 b2 l1 l2).push (Obj.mk (.type "zip") none (.fields #[.none,.bool false,.bool false,.ref (zpB h b1 b2 l1 l2).objs.size,.ref (zpC h b1 b2 l1 l2).objs.size]) #[])
theorem za6 (b1 b2:Bool)(l1 l2:Addr)(xs ys:Array Value) :
 Meets (Builtin.«zip.__new__» ⟨[.type "zip",.ref l1,.ref l2],[]⟩) (λ_ R s=>zcu b1 s.heap l1 xs/\zcu b2 s.heap l2 ys /\
  R (.ok (.ret (.ref (zpD s.heap b1 b2 l1 l2).objs.size))) { s with heap:=zpE s.heap b1 b2 l1 l2 }) :=
 .of_wp λprog w A R s h=>by
  obtain⟨hp,g,d,tk,os⟩:=s;obtain⟨hl1,hl2,h⟩:=h
  have hsub:=sub_zip
  cases b1 with
  | true =>
   have hL1:Heap.IsList (Shared.heap ⟨hp,g,d,tk,os⟩) l1 xs:=hl1
   cases b2 with
   | true =>
    have hL2:Heap.IsList (Shared.heap ⟨hp.push { cls:=.type "list_iterator",data:=.fields #[.ref l1,.int 0 0] },g,d,tk,os⟩) l2 ys:=Heap.IsList.push hl2 _
    wp_walk using u1i hL1,u1i hL2
    exact⟨_,rfl,h⟩
   | false =>
    have hL2:Heap.IsTuple (Shared.heap ⟨hp.push { cls:=.type "list_iterator",data:=.fields #[.ref l1,.int 0 0] },g,d,tk,os⟩) l2 ys:=Heap.IsTuple.push hl2 _
    wp_walk using u1i hL1,u0G hL2
    exact⟨_,rfl,h⟩
  | false =>
   have hL1:Heap.IsTuple (Shared.heap ⟨hp,g,d,tk,os⟩) l1 xs:=hl1
   cases b2 with
   | true =>
    have hL2:Heap.IsList (Shared.heap ⟨hp.push { cls:=.type "tuple_iterator",data:=.fields #[.ref l1,.int 0 0] },g,d,tk,os⟩) l2 ys:=Heap.IsList.push hl2 _
    wp_walk using u0G hL1,u1i hL2
    exact⟨_,rfl,h⟩
   | false =>
    have hL2:Heap.IsTuple (Shared.heap ⟨hp.push { cls:=.type "tuple_iterator",data:=.fields #[.ref l1,.int 0 0] },g,d,tk,os⟩) l2 ys:=Heap.IsTuple.push hl2 _
    wp_walk using u0G hL1,u0G hL2
    exact⟨_,rfl,h⟩
end PySem
namespace PySem
section
variable {prog:Program}{w:World}{A:Around}{E:Value->Shared->Prop}{s:Shared}
theorem VA {b1 b2:Bool}{l1 l2:Addr}{xs ys:Array Value}{Q:Value->Shared->Prop}(hl1:zcu b1 s.heap l1 xs)(hl2:zcu b2 s.heap l2 ys)
 (h:∀ h',IsZip h' (s.heap.objs.size+4) (s.heap.objs.size+2) (s.heap.objs.size+3) .none->IsPair h' (s.heap.objs.size+2) (.ref s.heap.objs.size) (.ref (s.heap.objs.size+1)) ->
  IsPair h' (s.heap.objs.size+3) .none .none->WE b1 h' s.heap.objs.size l1 0->WE b2 h' (s.heap.objs.size+1) l2 0 ->
  (∀ c o,s.heap.get? c=some o->h'.get? c=some o)->Q (.ref (s.heap.objs.size+4)) { s with heap:=h' }) :
 wpAny (model prog w) A (call (.type "zip") [.ref l1,.ref l2]) Q E s:=by
 refine callType_new F.called_zip (by decide) (F.typeCall_zip_2 _ _) (F.newCall_zip_2 _ _) (λobj=>F.args_object_init_3 obj _ _) F.entry_zip_new
  (za6 b1 b2 l1 l2 xs ys) ⟨hl1,hl2,?_⟩
 have z1:(zpA s.heap b1 l1).objs.size=s.heap.objs.size+1:=u0Q ..
 have z2:(zpB s.heap b1 b2 l1 l2).objs.size=s.heap.objs.size+2:=by rw[u0Q,z1]
 have z3:(zpC s.heap b1 b2 l1 l2).objs.size=s.heap.objs.size+3:=by rw[u0Q,z2]
 have z4:(zpD s.heap b1 b2 l1 l2).objs.size=s.heap.objs.size+4:=by rw[u0Q,z3]
 have g5:(zpE s.heap b1 b2 l1 l2).get? (zpD s.heap b1 b2 l1 l2).objs.size=some _:=j7 _ rfl
 have g4:(zpE s.heap b1 b2 l1 l2).get? (zpC s.heap b1 b2 l1 l2).objs.size=some _:=u4 _ (j7 _ rfl)
 have g3:(zpE s.heap b1 b2 l1 l2).get? (zpB s.heap b1 b2 l1 l2).objs.size=some _:=u4 _ (u4 _ (j7 _ rfl))
 have g2:(zpE s.heap b1 b2 l1 l2).get? (zpA s.heap b1 l1).objs.size=some (zep b2 l2):=u4 _ (u4 _ (u4 _ (j7 _ rfl)))
 have g1:(zpE s.heap b1 b2 l1 l2).get? s.heap.objs.size=some (zep b1 l1):=u4 _ (u4 _ (u4 _ (u4 _ (j7 _ rfl))))
 show _/\_
 rw[z2,z3,z4]at g5
 rw[z1,z2]at g3
 rw[z3]at g4
 rw[z1]at g2
 rw[z4]
 have it0:∀ {b:Bool} {l c:Addr},(zpE s.heap b1 b2 l1 l2).get? c=some (zep b l)->WE b (zpE s.heap b1 b2 l1 l2) c l 0:=λ{b l c} e=>by
  cases b
  .exact⟨_,e,rfl,rfl⟩
  .exact⟨_,e,rfl,rfl⟩
 exact⟨⟨_,g5,rfl⟩,h _ g5 g3 g4 (it0 g1) (it0 g2) λc o x =>
  u4 _ (u4 _ (u4 _ (u4 _ (u4 _ x))))⟩
variable {z TI TO i1 i2:Addr}{fp1 fp2:List Addr}{n1 n2 k1 k2:Nat}{P1 P2:Nat->Value->Prop}{St1 St2:Nat->Heap->Prop}{a b:Value}
theorem Yv {Q:Option Value->Shared->Prop}(D1:Draws prog w A.in1 i1 fp1 n1 P1 St1)(D2:Draws prog w A.in1 i2 fp2 n2 P2 St2)(ap:zgz z TI TO i1 i2 fp1 fp2)
 (hz:IsZip s.heap z TI TO .none) (hTI:IsPair s.heap TI (.ref i1) (.ref i2)) (hTO:IsPair s.heap TO a b) (h1:St1 k1 s.heap) (h2:St2 k2 s.heap) (l1:k1 < n1) (l2:k2 < n2)
 (hQ:∀ x y h' tk,P1 k1 x->P2 k2 y->IsZip h' z TI TO (rawInt s.heap.objs.size)->IsPair h' TO x y->St1 (k1+1) h'->St2 (k2+1) h'->IsPair h' s.heap.objs.size x y ->
  (∀ c o,c∉[z,TO,i1,i2]->s.heap.get? c=some o->h'.get? c=some o)->Q (some (.ref s.heap.objs.size)) { s with heap:=h',toks:=tk }) :
 wpAny (model prog w) A (pyNext (.ref z)) Q E s:=by
 have hT:s.TypeIs (.ref z) "zip":=⟨_,hz,rfl⟩
 unfold pyNext
 exact u0 (u09 (e9 (name:=Str.ofString "__next__") hT u2X
  (i7 u2X hT F.entry_zip_next
   (VW D1 D2 ap hz hTI hTO h1 h2 l1 l2 λx y h' tk a1 a2 a3 a4 a5 a6 a7 a8=>u6 (hQ x y h' tk a1 a2 a3 a4 a5 a6 a7 a8)) (F.args_zip_next_1 _))))
theorem YS {Q:Option Value->Shared->Prop}(D1:Draws prog w A.in1 i1 fp1 n1 P1 St1)(az1:z∉fp1)(nz:i1≠z)
 (hz:IsZip s.heap z TI TO .none) (hTI:IsPair s.heap TI (.ref i1) (.ref i2)) (h1:St1 n1 s.heap)
 (hQ:∀ h',(∀ c o,c≠z->c≠i1->s.heap.get? c=some o->h'.get? c=some o)->Q none { s with heap:=h' }):wpAny (model prog w) A (pyNext (.ref z)) Q E s:=by
 have hT:s.TypeIs (.ref z) "zip":=⟨_,hz,rfl⟩
 unfold pyNext
 refine u0 (u09 (e9 (name:=Str.ofString "__next__") hT u2X
  (i7 u2X hT F.entry_zip_next (zaI D1 az1 nz hz hTI h1 λh' e hk he=>?_) (F.args_zip_next_1 _))))
 obtain⟨o,ho,hc⟩:=he
 refine u0 (u19 (T:="StopIteration") (b:=true) ⟨o,ho,hc⟩ u3u ?_)
 exact u6 (hQ _ hk)
end
end PySem
namespace L2
open PySem PySem.Spec PyProof.Rows
def Sq (b:Bool)(K:W.Frag)(H:Hp)(a:Addr)(xs:List V):Prop:=if b=true then SqL K H a xs else SqT K H a xs
theorem Inv.sq {X:Cx}{pins:List (Addr × Obj)}{σ:St}{H:Hp}{s:Shared}{a:Addr}{xs:List V}{b:Bool}(I:Inv X pins σ H s)(h:Sq b X.K H a xs):∃ its:List Value,yt xs its/\zcu b s.heap a its.toArray/\a < s.heap.objs.size:=by
 cases b with
 | true =>
  obtain⟨its,r,p,_⟩:=I.list (show SqL X.K H a xs from h)
  exact⟨its,r,p.isList,by obtain⟨o,n,ho,_⟩:=p;exact t9 ho⟩
 | false =>
  obtain⟨its,r,p,_⟩:=I.tuple (show SqT X.K H a xs from h)
  exact⟨its,r,p,by obtain⟨o,ho,_⟩:=p;exact t9 ho⟩
theorem Inv.sq_inj {X:Cx}{pins:List (Addr × Obj)}{σ:St}{H:Hp}{s:Shared}{a:Addr}{xs ys:List V}{b:Bool}(I:Inv X pins σ H s)(h:Sq b X.K H a xs)(h':Sq b X.K H a ys):xs=ys:=by
 cases b with
 | true=>exact I.list_inj h h'
 | false=>exact I.tuple_inj h h'
def Izp (K:W.Frag)(b1 b2:Bool)(l1 l2:Addr):It :=
 ⟨λi H=>∃ xs ys x y,Sq b1 K H l1 xs/\Sq b2 K H l2 ys/\xs[i]?=some x/\ys[i]?=some y,
  λi H v H'=>∃ T x y,v=.ref T/\H T=none/\H'=upd H T (.tup [x,y])/\(∀ xs,Sq b1 K H l1 xs->xs[i]?=some x)/\(∀ ys,Sq b2 K H l2 ys->ys[i]?=some y),
  λi H=>∃ xs,Sq b1 K H l1 xs/\i=xs.length⟩
theorem YI {b:Bool}{h:Heap}{it l:Addr}{k:Nat}(x:WE b h it l k):∃ o,h.get? it=some o/\∀ v,o.data≠.cell v:=by
 cases b
 .obtain⟨o,ho,_,hd⟩:=x
  exact⟨o,ho,λv z=>by rw[hd]at z;cases z⟩
 .obtain⟨o,ho,_,hd⟩:=x
  exact⟨o,ho,λv z=>by rw[hd]at z;cases z⟩
theorem ZS {b:Bool}{h h':Heap}{it l:Addr}{k:Nat}(x:WE b h it l k)(e:∀ o,h.get? it=some o->h'.get? it=some o):WE b h' it l k:=by
 cases b
 .obtain⟨o,ho,r⟩:=x
  exact⟨o,e o ho,r⟩
 .obtain⟨o,ho,r⟩:=x
  exact⟨o,e o ho,r⟩
theorem zhu {P:Program}{w:World}{K:W.Frag}{es:List Expr}{k:Nat}{tp:Pos}(b1 b2:Bool)(l1 l2 z TI TO i1 i2:Addr)(ap:zgz z TI TO i1 i2 [i1,l1] [i2,l2])(n1:l1≠i1)(n2:l2≠i2) :
 zjp P w K (.Tuple es k tp) (Izp K b1 b2 l1 l2) [z,TI,TO,i1,i2] z (λi h=>IsZip h z TI TO .none/\IsPair h TI (.ref i1) (.ref i2)/\(∃ a b,IsPair h TO a b)/\WE b1 h i1 l1 i/\WE b2 h i2 l2 i) where
 mem:=by simp
 obj:=λi h st b hb=>by
  obtain⟨hz,hTI,⟨a,c,hTO⟩,h1,h2⟩:=st
  simp only[j5,p5,u1p]at hb
  rcases hb with rfl | rfl | rfl | rfl | rfl
  .exact⟨_,hz,λv z=>by cases z⟩
  .exact⟨_,hTI,λv z=>by cases z⟩
  .exact⟨_,hTO,λv z=>by cases z⟩
  .exact YI h1
  .exact YI h2
 keep:=λi h h' st kk=>by
  obtain⟨hz,hTI,⟨a,c,hTO⟩,h1,h2⟩:=st
  exact⟨kk z (by simp) _ hz,kk TI (by simp) _ hTI,⟨a,c,kk TO (by simp) _ hTO⟩,ZS h1 λo q=>kk i1 (by simp) o q,ZS h2 λo q=>kk i2 (by simp) o q⟩
 item:=by
  intro X hP hw hK hc i pins s σ H E I hf st hg
  subst hP hw hK
  obtain⟨hz,hTI,⟨a,c,hTO⟩,h1,h2⟩:=st
  obtain⟨xs,ys,x,y,hq1,hq2,hx,hy⟩:=hg
  obtain⟨its,rv,p,_⟩:=I.sq hq1
  obtain⟨its2,rv2,p2,_⟩:=I.sq hq2
  obtain⟨u,hu,ru⟩:=rv.get hx
  obtain⟨u2,hu2,ru2⟩:=rv2.get hy
  have hl1:i < its.toArray.size:=by simpa using (t6.mp hu).1
  have hl2:i < its2.toArray.size:=by simpa using (t6.mp hu2).1
  have hh:X.A.in1.handled=none:=I.ok.hd hc
  refine Yv (Xx hh b1 i1 l1 n1 its.toArray) (Xx hh b2 i2 l2 n2 its2.toArray) ap hz hTI hTO ⟨h1,p⟩ ⟨h2,p2⟩ hl1 hl2 λv1 v2 h' tk e1 e2 hz' hTO' s1 s2 hT' hk=>?_
  have eu:v1=u:=by
   have:its[i]?=some v1:=by simpa using e1
   rw[hu]at this
   exact(u0m this).symm
  have eu2:v2=u2:=by
   have:its2[i]?=some v2:=by simpa using e2
   rw[hu2]at this
   exact(u0m this).symm
  subst eu eu2
  obtain⟨nd,az1,az2,ao1,ao2,a12,a21⟩:=ap
  simp only[u0s,j5,p5,u1p,u4f,u2B,u08,and_true]at nd
  obtain⟨⟨m1,m2,m3,m4⟩,⟨m5,m6,m7⟩,⟨m8,m9⟩,m10⟩:=nd
  refine⟨_,rfl,wpAny_letOwnedTupleGo_zip hz' λh2' hz2 hs2=>?_⟩
  have hfr:H s.heap.objs.size=none:=I.hok.fresh (j3 _)
  have neZ:s.heap.objs.size≠z:=u1T (t9 hz)
  have hT2:IsPair h2' s.heap.objs.size v1 v2:=(hs2.2 _ neZ).trans hT'
  have hTI':IsPair h' TI (.ref i1) (.ref i2):=hk TI _ (by simp[u0P m1,m5,m6,m7]) hTI
  have lt:∀ b∈[z,TI,TO,i1,i2],b < s.heap.objs.size:=λb hb=>by
   simp only[j5,p5,u1p]at hb
   rcases hb with rfl | rfl | rfl | rfl | rfl
   .exact t9 hz
   .exact t9 hTI
   .exact t9 hTO
   .obtain⟨o,ho,_⟩:=YI h1;exact t9 ho
   .obtain⟨o,ho,_⟩:=YI h2;exact t9 ho
  refine⟨.ref s.heap.objs.size,upd H s.heap.objs.size (.tup [x,y]),?_,rfl,⟨_,x,y,rfl,hfr,rfl,λzs hz=>by rw[I.sq_inj hz hq1];exact hx,λzs hz=>by rw[I.sq_inj hz hq2];exact hy⟩,
   ⟨hz2,(hs2.2 TI (u0P m1)).trans hTI',⟨_,_,(hs2.2 TO (u0P m2)).trans hTO'⟩,ZS s1.1 λo q=>(hs2.2 i1 (u0P m3)).trans q,ZS s2.1 λo q=>(hs2.2 i2 (u0P m4)).trans q⟩,λb hb=>?_⟩
  .refine I.grown (ch:=[z,TI,TO,i1,i2]) hf (j3 _) (λb v hb q=>?_) ?_
   .have nb:b≠z:=λw=>hb (by simp[w])
    refine(hs2.2 b nb).trans (hk b v (λw=>hb ?_) q)
    simp only[j5,p5,u1p]at w ⊢
    rcases w with w | w | w | w
    .exact .inl w
    .exact .inr (.inr (.inl w))
    .exact .inr (.inr (.inr (.inl w)))
    .exact .inr (.inr (.inr (.inr w)))
   .exact⟨by show 2<=sizeLine;decide,[v1,v2],.cons ru (.cons ru2 .nil),⟨_,hT2,rfl,0,rfl⟩⟩
  .rw[zm (r8 (lt b hb))]
   exact(hf b hb).1
 done:=by
  intro X hP hw hK hc i pins s σ H E I hf st hg
  subst hP hw hK
  obtain⟨hz,hTI,⟨a,c,hTO⟩,h1,h2⟩:=st
  obtain⟨xs,hq,rfl⟩:=hg
  obtain⟨its,rv,p,_⟩:=I.sq hq
  have hl:=rv.length
  have hh:X.A.in1.handled=none:=I.ok.hd hc
  have D:=Xx (prog:=X.prog) (w:=X.w) hh b1 i1 l1 n1 its.toArray
  refine YS D ap.z1 ?_ hz hTI ⟨by rw[j6,<- hl];exact h1,p⟩ λh' hk=>⟨rfl,I.turnedN (ch:=[z,TI,TO,i1,i2]) (t':=s.toks) hf λb v hb q=>hk b v (λw=>hb (by simp[w])) (λw=>hb (by simp[w])) q⟩
  have nd:=ap.nd
  simp only[u0s,j5,p5,u1p,u4f,u2B,u08,and_true]at nd
  exact u0P nd.1.2.2.1
 self:=λ_ _ _ _ _ st h=>wpAny_pyIter_zip st.1 h
def iZip (K:W.Frag)(ta:TA):TI:=fun σ H R=>ta σ H λvs H1=>∃ b1 b2 l1 l2 xs ys,vs=[.ref l1,.ref l2]/\Sq b1 K H1 l1 xs/\Sq b2 K H1 l2 ys/\R (Izp K b1 b2 l1 l2) H1
theorem zly {X:Cx} {es:List Expr} {k:Nat} {tp:Pos} {a b:Expr} {ta:TA} {p pos:Pos} (hg:Gl X "zip") (hm:X.mg "zip"=none) (hb:bootBuiltins "zip"=some (.type "zip")) (ha:PA X [a,b] ta)
 (hs:starEach [a,b] X.env=[(false,eval a X.env),(false,eval b X.env)]:=by rfl) (hs2:starEach [b] X.env=[(false,eval b X.env)]:=by rfl):PI X (.Tuple es k tp) (.Call (.Name "zip" p) [a,b] [] pos) (iZip X.K ta):=by
 intro pins s σ H R I h
 refine Call_ (YN I hg hm hb (u0J (thn (ha pos pins s σ H _ I h) λus s1 hh9=>?_) (by rw[hs,hs2]) (by rw[hs2];rfl)))
 obtain⟨vs,H1,I1,r1,q1⟩:=hh9
 obtain⟨b1,b2,l1,l2,xs,ys,e,hq1,hq2,q⟩:=q1
 subst e
 obtain⟨u,u2,rfl,ru,ru2⟩:=zbr r1
 cases ru
 cases ru2
 obtain⟨its,rv,p1,lt1⟩:=I1.sq hq1
 obtain⟨its2,rv2,p2,lt2⟩:=I1.sq hq2
 refine VA p1 p2 λh2 hz hTI hTO hi1 hi2 hk=>wpAny_pyIter_zip hz ?_
 have hn:∀ b,s1.heap.objs.size<=b->zbX X pins H1 b:=λb hb=>I1.fpOk hb (I1.hok.fresh hb)
 have ap:zgz (s1.heap.objs.size+4) (s1.heap.objs.size+2) (s1.heap.objs.size+3) s1.heap.objs.size (s1.heap.objs.size+1) [s1.heap.objs.size,l1] [s1.heap.objs.size+1,l2]:=by
  have q1:l1≠s1.heap.objs.size:=r8 lt1
  have q2:∀ j:Nat,s1.heap.objs.size+j≠l1:=λj e=>u0y _ (r6 (by rw[<-e]at lt1;exact lt1) (u0p _ _))
  have q3:∀ j:Nat,s1.heap.objs.size+j≠l2:=λj e=>u0y _ (r6 (by rw[<-e]at lt2;exact lt2) (u0p _ _))
  have ne:∀ i j:Nat,i≠j->s1.heap.objs.size+i≠s1.heap.objs.size+j:=λi j h e=>h (Nat.add_left_cancel e)
  have n0:∀ i:Nat,i≠0->s1.heap.objs.size+i≠s1.heap.objs.size:=λi h e=>h (Nat.add_left_cancel (n:=s1.heap.objs.size) (m:=i) (k:=0) e)
  refine⟨?_,?_,?_,?_,?_,?_,?_⟩
  .simp only[u0s,j5,p5,u1p,u4f,u2B,u08,and_true]
   exact⟨⟨ne 4 2 (by decide),ne 4 3 (by decide),n0 4 (by decide),ne 4 1 (by decide)⟩,⟨ne 2 3 (by decide),n0 2 (by decide),ne 2 1 (by decide)⟩,⟨n0 3 (by decide),ne 3 1 (by decide)⟩,u0P (n0 1 (by decide))⟩
  .simp only[j5,p5,u1p,u4f];exact⟨n0 4 (by decide),q2 4⟩
  .simp only[j5,p5,u1p,u4f];exact⟨ne 4 1 (by decide),q3 4⟩
  .simp only[j5,p5,u1p,u4f];exact⟨n0 3 (by decide),q2 3⟩
  .simp only[j5,p5,u1p,u4f];exact⟨ne 3 1 (by decide),q3 3⟩
  .simp only[j5,p5,u1p,u4f];exact⟨u0P (n0 1 (by decide)),q3 0⟩
  .simp only[j5,p5,u1p,u4f];exact⟨n0 1 (by decide),q2 1⟩
 refine⟨_,_,_,_,H1,rfl,I1.kept (t':=s1.toks) hk,zhu b1 b2 l1 l2 _ _ _ _ _ ap (r8 lt1) (r8 (u0u lt2)),⟨hz,hTI,⟨_,_,hTO⟩,hi1,hi2⟩,λb hb=>?_,q⟩
 simp only[j5,p5,u1p]at hb
 rcases hb with rfl | rfl | rfl | rfl | rfl
 .exact hn _ (u0p _ _)
 .exact hn _ (u0p _ _)
 .exact hn _ (u0p _ _)
 .exact hn _ (j3 _)
 .exact hn _ (u0p _ _)
end L2
namespace OwnSort
open PySem PyProof.Rows
section pure
variable {κ:KeyKind}{xs:Array Keyed}
theorem up1 {x:Nat}(hs:SortedToK κ xs x)(hx:1<=x)(h:κ.kle (KK κ xs (x - 1)) (KK κ xs x)):SortedToK κ xs (x+1):=λi j hij hj=>by
 by_cases c:j < x
 .exact hs i j hij c
 .obtain rfl:j=x:=by omega
  by_cases d:i=j
  .rw[d];exact u1k _
  .exact u2I (hs i (j - 1) (by omega) (by omega)) h
theorem zgW {x:Nat}(hs:NonIncK κ xs x)(hx:1<=x)(h:κ.kle (KK κ xs x) (KK κ xs (x - 1))):NonIncK κ xs (x+1):=λi j hij hj=>by
 by_cases c:j < x
 .exact hs i j hij c
 .obtain rfl:j=x:=by omega
  by_cases d:i=j
  .rw[d];exact u1k _
  .exact u2I h (hs i (j - 1) (by omega) (by omega))
theorem Z9 {ys:Array Keyed}{n:Nat}(e:∀ i,KK κ ys i=KK κ xs i)(h:NonIncK κ xs n):NonIncK κ ys n:=λi j hij hj=>by rw[e,e];exact h i j hij hj
theorem turned {n:Nat}(hn:n<=xs.size)(h:NonIncK κ xs n):SortedToK κ (mirror xs 0 n ((n - 0) / 2)) n:=λi j hij hj=>by
 rw[KK_mirror hn,KK_mirror hn,q5 ⟨by omega,by omega⟩,q5 ⟨by omega,by omega⟩]
 exact h _ _ (by omega) (by omega)
theorem zcs:SortedToK κ xs 1:=λi j hij hj=>by
 obtain rfl:i=j:=by omega
 exact u1k _
theorem zcX:NonIncK κ xs 1:=λi j hij hj=>by
 obtain rfl:i=j:=by omega
 exact u1k _
end pure
structure SB (k:SortKind) (a₀:Array Keyed) (st:SortSt):Prop where
 pm:(arrOf st).Perm a₀
 kd:kindOf st=k
 fl:failedOf st=none
 pd:pendingOf st=#[]
theorem SB.sz {k:SortKind}{a₀:Array Keyed}{st:SortSt}(B:SB k a₀ st):(arrOf st).size=a₀.size:=B.pm.size_eq
theorem SB.put {k:SortKind}{a₀ xs:Array Keyed}{st:SortSt}(B:SB k a₀ st)(p:xs.Perm (arrOf st)):SB k a₀ (setArr st xs):=⟨p.trans B.pm,B.kd,B.fl,B.pd⟩
section
variable {prog:Program}{w:World}{A:Around}{E:Value->Shared->Prop}{s:Shared}{a₀:Array Keyed}{κ:KeyKind}{k:SortKind}{st:SortSt}
def LtOk (prog:Program)(w:World)(A:Around)(E:Value->Shared->Prop)(s:Shared)(a₀:Array Keyed)(κ:KeyKind)(k:SortKind):Prop :=
 ∀ (st:SortSt) (i j:Nat) (Q:Option Bool->SortSt->Prop),SB k a₀ st->i < a₀.size->j < a₀.size->Q (some (κ.blt (KK κ (arrOf st) i) (KK κ (arrOf st) j))) st->wpS (model prog w) A E s (ltAt' i j) Q st
theorem zd6 {a n:Nat}{Q:AscSt->SortSt->Prop}(L:LtOk prog w A E s a₀ κ k)(hn:n<=a₀.size)(ha:1<=a)(han:a<=n)(B:SB k a₀ st)(hs:SortedToK κ (arrOf st) a)
 (h:∀ m,a<=m->m<=n->SortedToK κ (arrOf st) m->(m=n\/κ.klt (KK κ (arrOf st) m) (KK κ (arrOf st) (m - 1)))->Q (none,m) st):wpS (model prog w) A E s (ascLoop a n) Q st:=by
 unfold ascLoop
 refine u2H (I:=λx c t=>(t=st/\c=(none,x))/\SortedToK κ (arrOf st) x) (λx c t h1 h2 hI=>?_) (λc t hI=>?_) ⟨⟨rfl,rfl⟩,hs⟩
 .obtain⟨⟨rfl,rfl⟩,hx⟩:=hI
  refine u0A (L _ x (x - 1) _ B (by omega) (by omega) ?_)
  cases c:κ.blt (KK κ (arrOf t) x) (KK κ (arrOf t) (x - 1)) with
  | true=>exact u1a (h x h1 (by omega) hx (.inr c))
  | false=>exact u1a ⟨⟨rfl,rfl⟩,up1 hx (by omega) c⟩
 .obtain⟨⟨rfl,rfl⟩,hx⟩:=hI
  have e:max a n=n:=by omega
  rw[e]at hx ⊢
  exact h n han (j3 _) hx (.inl rfl)
theorem zbU {n m:Nat}{Q:Option Nat->SortSt->Prop}(L:LtOk prog w A E s a₀ κ k)(hm:m<=a₀.size)(h1:1<=n)(hnm:n<=m)(B:SB k a₀ st)(hs:NonIncK κ (arrOf st) n)
 (h:∀ r t,SB k a₀ t->1<=r->r<=m->SortedToK κ (arrOf t) r->Q (some r) t):wpS (model prog w) A E s (tail3 n m) Q st:=by
 unfold tail3
 have B':=B.put (mirror_perm (arrOf st) 0 n ((n - 0) / 2))
 exact u0A (wpS_reverse (u0A (zd6 L hm h1 hnm B' (turned (by rw[B.sz];omega) hs) λr g1 g2 g3 _=>u1a (h r _ B' (by omega) g2 g3))))
theorem zgA {n m:Nat}{Q:DescSt->SortSt->Prop}(L:LtOk prog w A E s a₀ κ k)(hm:m<=a₀.size)(h1:1<=n)(hnm:n<=m)(B:SB k a₀ st)(hs:NonIncK κ (arrOf st) n)
 (h:∀ r q t,SB k a₀ t->n<=r->r<=m->NonIncK κ (arrOf t) r->q+1<=r->(∀ i,r - (q+1)<=i->i < r->KK κ (arrOf t) i=KK κ (arrOf t) (r - 1))->Q (none,r,q) t):wpS (model prog w) A E s (descLoop n m) Q st:=by
 unfold descLoop
 refine u2H (I:=λx c t=>∃ q,c=(none,x,q)/\SB k a₀ t/\NonIncK κ (arrOf t) x/\q+1<=x/\∀ i,x - (q+1)<=i->i < x->KK κ (arrOf t) i=KK κ (arrOf t) (x - 1))
  (λx c t g1 g2 hI=>?_) (λc t hI=>?_) ⟨0,rfl,B,hs,h1,λi c1 c2=>by rw[show i=n - 1 from u24 (u13 c2) c1]⟩
 .obtain⟨q,rfl,B1,ni,hq,he⟩:=hI
  have hxs:x < a₀.size:=r6 g2 hm
  have hxs1:x - 1 < a₀.size:=u0l (Nat.sub_le _ _) hxs
  have hx1:1<=x:=i4 h1 g1
  have hz:x<=(arrOf t).size:=by rw[B1.sz];exact u0I hxs
  refine u0A (L _ x (x - 1) _ B1 hxs hxs1 ?_)
  cases c:κ.blt (KK κ (arrOf t) x) (KK κ (arrOf t) (x - 1)) with
  | true =>
   have d:=zgW ni hx1 (u2y c)
   by_cases hq0:q > 0
   .show wpS _ _ _ _ (if q > 0 then _ else _) _ _
    rw[q5 hq0]
    exact u0A (wpS_reverse (u1a ⟨0,rfl,B1.put (mirror_perm _ _ _ _),Z9 (KK_mirror_equal hz he) d,u1N (u0F _),λi c1 c2=>by rw[show i=x+1 - 1 from u24 (u0t c2) c1]⟩))
   .show wpS _ _ _ _ (if q > 0 then _ else _) _ _
    rw[j4 hq0]
    exact u1a ⟨0,rfl,B1,d,u1N (u0F _),λi c1 c2=>by rw[show i=x+1 - 1 from u24 (u0t c2) c1]⟩
  | false =>
   refine u0A (L _ (x - 1) x _ B1 hxs1 hxs ?_)
   cases c2:κ.blt (KK κ (arrOf t) (x - 1)) (KK κ (arrOf t) x) with
   | true=>exact u1a (h x q t B1 g1 (u0I g2) ni hq he)
   | false =>
    have same:KK κ (arrOf t) x=KK κ (arrOf t) (x - 1):=KeyOrd.kle_antisymm c2 c
    refine u1a ⟨q+1,rfl,B1,zgW ni hx1 c2,u1N hq,λi d1 d2=>?_⟩
    show KK κ (arrOf t) i=KK κ (arrOf t) x
    by_cases di:i=x
    .rw[di]
    .rw[same];exact he i (by omega) (by omega)
 .obtain⟨q,rfl,B1,ni,hq,he⟩:=hI
  have e:max n m=m:=Nat.max_eq_right hnm
  rw[e]at ni hq he ⊢
  exact h m q t B1 hnm (j3 _) ni hq he
theorem ZA {n m:Nat}{Q:Option Nat->SortSt->Prop}(L:LtOk prog w A E s a₀ κ k)(hm:m<=a₀.size)(hnm:n+1<=m)(B:SB k a₀ st)(hs:NonIncK κ (arrOf st) (n+1))
 (h:∀ r t,SB k a₀ t->1<=r->r<=m->SortedToK κ (arrOf t) r->Q (some r) t):wpS (model prog w) A E s (descPart n m) Q st:=by
 unfold descPart
 refine u0A (wpS_lift (u2h ⟨rfl,u0A (zgA L hm (by omega) hnm B hs λr q t B1 r1 r2 ni hq he=>?_)⟩))
 have hz:r<=(arrOf t).size:=by rw[B1.sz];omega
 by_cases hq0:q > 0
 .show wpS _ _ _ _ (if q > 0 then _ else _) _ _
  rw[q5 hq0]
  exact u0A (wpS_reverse (zbU (n:=r) L hm (by omega) r2 (B1.put (mirror_perm _ _ _ _)) (Z9 (KK_mirror_equal hz he) ni) h))
 .show wpS _ _ _ _ (if q > 0 then _ else _) _ _
  rw[j4 hq0]
  exact zbU (n:=r) L hm (by omega) r2 B1 ni h
theorem ziY {m:Nat}{Q:Option Nat->SortSt->Prop}(L:LtOk prog w A E s a₀ κ k)(hm:m<=a₀.size)(h1:1<=m)(B:SB k a₀ st)
 (h:∀ r t,SB k a₀ t->1<=r->r<=m->SortedToK κ (arrOf t) r->Q (some r) t):wpS (model prog w) A E s (countRun' 0 m) Q st:=by
 rw[countRun0_eq]
 refine u0A (zd6 L hm (j3 1) h1 B zcs λn n1 n2 sn or=>?_)
 show wpS _ _ _ _ (if (n == m)=true then _ else if n > 1 then _ else _) _ _
 by_cases e:n=m
 .rw[q5 (by rw[e];exact u0h m)]
  exact u1a (h n st B n1 n2 sn)
 .rw[j4 (λz=>e (eq_of_beq z))]
  have lt:=or.resolve_left e
  by_cases g:n > 1
  .rw[q5 g]
   refine u0A (L _ 0 (n - 1) _ B (by omega) (by omega) ?_)
   cases c:κ.blt (KK κ (arrOf st) 0) (KK κ (arrOf st) (n - 1)) with
   | true=>exact u1a (h n st B n1 n2 sn)
   | false =>
    have hz:n<=(arrOf st).size:=by rw[B.sz];omega
    have eq:∀ i,0<=i->i < n->KK κ (arrOf st) i=KK κ (arrOf st) (n - 1):=λi _ hi =>
     KeyOrd.kle_antisymm (sn i (n - 1) (by omega) (by omega)) (u2I c (sn 0 i (by omega) hi))
    have ni:NonIncK κ (arrOf st) n:=λi j _ hj=>by rw[eq i (by omega) (by omega),eq j (by omega) hj];exact u1k _
    exact u0A (wpS_reverse (ZA L hm (by omega) (B.put (mirror_perm _ _ _ _)) (Z9 (KK_mirror_equal hz eq) (zgW ni (by omega) (u2y lt))) h))
  .rw[j4 g]
   obtain rfl:n=1:=by omega
   exact ZA L hm (by omega) B (zgW zcX (j3 1) (u2y lt)) h
theorem zlO {l u md:Nat}(h:(l+u) / 2=md)(c:¬ l >= u):l<=md/\md < u:=by
 have c':l < u:=Nat.lt_of_not_le c
 rw[<-h]
 exact⟨(Nat.le_div_iff_mul_le (by decide)).mpr (by rw[Nat.mul_two];exact u1K (u0I c') l),(Nat.div_lt_iff_lt_mul (by decide)).mpr (by rw[Nat.mul_two];exact Nat.add_lt_add_right c' u)⟩
theorem zmX {l u md x y:Nat}(m1:l<=md)(m2:md < u)(e3:u - l<=x - y):md - l<=x - (y+1) :=
 i4 (u13 (Nat.sub_lt_sub_right m1 m2)) (u2P e3 1)
theorem zml {l u md x y:Nat}(m1:l<=md)(e3:u - l<=x - y):u - (md+1)<=x - (y+1) :=
 i4 (Nat.sub_le_sub_left (u1N m1) u) (u2P e3 1)
theorem zj8 (r n:Nat):min (max (max r 1) n) n=n:=Nat.min_eq_right (Nat.le_max_right _ _)
theorem zj3 {r n:Nat}(r0:¬ r=0)(hr:r<=n):min (max r 1) n=r:=by
 rw[Nat.max_eq_left (Nat.pos_of_ne_zero r0),u1S hr]
theorem zkJ {i j r n:Nat}(hr:r=0)(hij:i<=j)(hj:j < min (max r 1) n):i=j:=by
 subst hr
 have h0:j=0:=Nat.lt_one_iff.mp (r6 hj (Nat.min_le_left _ _))
 subst h0
 exact Nat.le_zero.mp hij
theorem zjj {n r:Nat}{Q:Bool->SortSt->Prop}(L:LtOk prog w A E s a₀ κ k)(hn:n<=a₀.size)(hr:r<=n)(B:SB k a₀ st)(hs:SortedToK κ (arrOf st) r)
 (h:∀ t,SB k a₀ t->SortedToK κ (arrOf t) n->Q true t):wpS (model prog w) A E s (binarySort' 0 n r) Q st:=by
 rw[binarySort'_eq]
 refine u0A (wpS_mono (u2H (I:=λx c t=>(c=(none,())/\SB k a₀ t)/\SortedToK κ (arrOf t) (min x n)) (Q:=λc t=>(c=(none,())/\SB k a₀ t)/\SortedToK κ (arrOf t) n)
  (λx c t g1 g2 hI=>?_) (λc t hI=>?_) ⟨⟨rfl,B⟩,?_⟩) λc t hI=>?_)
 .obtain⟨⟨rfl,B1⟩,sx⟩:=hI
  rw[u1S (u0I g2)]at sx
  have hx:x < a₀.size:=r6 g2 hn
  refine u0A (wpS_mono (u2H
   (I:=λy c t'=>t'=t/\∃ l u,c=(none,l,u)/\(l<=u/\u<=x/\u - l<=x - y)/\(∀ i,i < l->κ.kle (KK κ (arrOf t) i) (KK κ (arrOf t) x))/\∀ i,u<=i->i < x->κ.klt (KK κ (arrOf t) x) (KK κ (arrOf t) i))
   (Q:=λc t'=>t'=t/\∃ l u,c=(none,l,u)/\l<=x/\(∀ i,i < l->κ.kle (KK κ (arrOf t) i) (KK κ (arrOf t) x))/\∀ i,l<=i->i < x->κ.klt (KK κ (arrOf t) x) (KK κ (arrOf t) i))
   (λy c t' y1 y2 hJ=>?_) (λc t' hJ=>?_) ⟨rfl,0,x,rfl,⟨u0F _,j3 _,j3 _⟩,λi hi=>absurd hi (Nat.not_lt_zero _),λi i1 i2=>absurd (u0l i1 i2) (u0y _)⟩) λc t' hJ=>?_)
  .obtain⟨rfl,l,u,rfl,⟨e1,e2,e3⟩,lo,up⟩:=hJ
   show wpS _ _ _ _ (if l >= u then _ else _) _ _
   by_cases c1:l >= u
   .rw[q5 c1]
    obtain rfl:l=u:=u24 e1 c1
    exact u1a ⟨rfl,l,l,rfl,e2,lo,up⟩
   .rw[j4 c1]
    generalize hmd:(l+u) / 2=md
    obtain⟨m1,m2⟩:=zlO hmd c1
    clear hmd c1 e1
    refine u0A (L _ (0+x) (0+md) _ B1 (by rw[u0f];exact hx) (by rw[u0f];exact r6 m2 (i4 e2 (u0I hx))) ?_)
    rw[u0f,u0f]
    cases c2:κ.blt (KK κ (arrOf t') x) (KK κ (arrOf t') md) with
    | true=>exact u1a ⟨rfl,l,md,rfl,⟨m1,i4 (u0I m2) e2,zmX m1 m2 e3⟩,lo,λi i1 i2=>KeyOrd.klt_of_klt_of_kle c2 (sx _ _ i1 i2)⟩
    | false=>exact u1a ⟨rfl,md+1,u,rfl,⟨m2,e2,zml m1 e3⟩,λi i1=>u2I (sx i md (u0t i1) (r6 m2 e2)) c2,up⟩
  .obtain⟨rfl,l,u,rfl,⟨e1,e2,e3⟩,lo,up⟩:=hJ
   obtain rfl:l=u:=by omega
   exact⟨rfl,l,l,rfl,e2,lo,up⟩
  .obtain⟨rfl,l,u,rfl,e2,lo,up⟩:=hJ
   show wpS _ _ _ _ (do moveDown' (0+x) (0+l);pure (ForInStep.yield (none,()))) _ _
   rw[moveDown'_eq,u0f,u0f]
   refine u0A (wpS_modify (u1a ⟨⟨rfl,B1.put (bubble_perm _ _ _)⟩,?_⟩))
   have hz:x < (arrOf t').size:=by rw[B1.sz];exact hx
   rw[u1S (Nat.succ_le_of_lt g2)]
   show SortedToK κ (bubble (arrOf t') x (x - l)) (x+1)
   intro i j hij hj
   rw[KK_bubble hz (Nat.sub_le _ _),KK_bubble hz (Nat.sub_le _ _),Nat.sub_sub_self e2]
   by_cases i1:i=l
   .rw[q5 i1]
    by_cases j1:j=l
    .rw[q5 j1];exact u1k _
    .have lj:l < j:=u3k (by rw[<-i1];exact hij) (λe=>j1 e.symm)
     rw[j4 j1,q5 ⟨lj,u0t hj⟩];exact u2y (up _ (u13 lj) (r6 (Nat.sub_lt (u3F lj) Nat.one_pos) (u0t hj)))
   .rw[j4 i1]
    by_cases i2:l < i/\i<=x
    .have lj:=r6 i2.1 hij
     rw[q5 i2,j4 (λe=>absurd lj (by rw[e];exact u0y _)),q5 ⟨lj,u0t hj⟩];exact sx _ _ (u2P hij 1) (r6 (Nat.sub_lt (u3F lj) Nat.one_pos) (u0t hj))
    .rw[j4 i2]
     have i3:i < l:=u3k (u0K λh=>i2 ⟨h,i4 hij (u0t hj)⟩) i1
     clear i2 i1
     by_cases j1:j=l
     .rw[q5 j1];exact lo i i3
     .rw[j4 j1]
      by_cases j2:l < j/\j<=x
      .rw[q5 j2];exact sx _ _ (u13 (u37 i3 j2.1)) (r6 (Nat.sub_lt (u3F j2.1) Nat.one_pos) (u0t hj))
      .rw[j4 j2];exact sx _ _ hij (r6 (u3k (u0K λh=>j2 ⟨h,u0t hj⟩) j1) e2)
 .obtain⟨⟨e1,B1⟩,sx⟩:=hI
  rw[zj8]at sx
  exact⟨⟨e1,B1⟩,sx⟩
 .by_cases r0:r=0
  .intro i j hij hj
   obtain rfl:i=j:=zkJ r0 hij hj
   exact u1k _
  .rw[zj3 r0 hr];exact hs
 .obtain⟨⟨rfl,B1⟩,sx⟩:=hI
  exact u1a (h t B1 sx)
theorem own_runs {Q:Unit->SortSt->Prop}(L:LtOk prog w A E s a₀ κ k)(B:SB k a₀ st)(h2:2<=a₀.size)(h64:a₀.size < 64)
 (h:∀ t,(arrOf t).Perm a₀->failedOf t=none->SortedToK κ (arrOf t) a₀.size->Q () t):wpS (model prog w) A E s sortRuns' Q st:=by
 rw[sortRuns'_eq]
 have mr:minRun' a₀.size a₀.size 0=a₀.size:=by
  cases e:a₀.size with
  | zero=>omega
  | succ f=>rw[minRun'_succ,q5 (by omega),Nat.add_zero]
 refine u0A (wpS_get ?_)
 simp only[B.sz,mr]
 let Dn:SortSt->Prop:=λt=>(arrOf t).Perm a₀/\failedOf t=none/\pendingOf t=#[(0,a₀.size,0)]/\SortedToK κ (arrOf t) a₀.size
 have fin:∀ t,SB k a₀ t->SortedToK κ (arrOf t) a₀.size->Dn (setPending t ((pendingOf t).push (0,a₀.size,0))):=λt B1 sx=>⟨B1.pm,B1.fl,by show(pendingOf t).push _=_;rw[B1.pd];rfl,sx⟩
 refine u0A (wpS_mono (u2H (I:=λx c t=>(x=0/\c=(none,0)/\SB k a₀ t)\/(1<=x/\c=(none,a₀.size)/\Dn t)) (Q:=λc t=>c=(none,a₀.size)/\Dn t)
  (λx c t g1 g2 hI=>?_) (λc t hI=>?_) (.inl ⟨rfl,rfl,B⟩)) λc t hI=>?_)
 .rcases hI with ⟨rfl,rfl,B1⟩ | ⟨_,rfl,D1⟩
  .show wpS _ _ _ _ (if 0 >= a₀.size then _ else _) _ _
   rw[j4 (by omega)]
   simp only[Nat.sub_zero,u38,u0f]
   refine u0A (ziY L (j3 _) (by omega) B1 λr t2 B2 r1 r2 s2=>?_)
   show wpS _ _ _ _ (if r < a₀.size then _ else _) _ _
   by_cases c1:r < a₀.size
   .rw[q5 c1]
    refine u0A (wpS_lift (u2h ⟨rfl,u0A (zjj L (j3 _) r2 B2 s2 λt3 B3 s3=>?_)⟩))
    refine u0A (wpS_get ?_)
    rw[show(pendingOf t3).back?=none by rw[B3.pd];rfl]
    exact u0A (wpS_modify (u1a (.inr ⟨by omega,rfl,fin t3 B3 s3⟩)))
   .rw[j4 c1]
    obtain rfl:r=a₀.size:=by omega
    refine u0A (wpS_get ?_)
    rw[show(pendingOf t2).back?=none by rw[B2.pd];rfl]
    exact u0A (wpS_modify (u1a (.inr ⟨by omega,rfl,fin t2 B2 s2⟩)))
  .show wpS _ _ _ _ (if a₀.size >= a₀.size then _ else _) _ _
   rw[q5 (j3 _)]
   exact u1a ⟨rfl,D1⟩
 .rcases hI with ⟨z,_,_⟩ | ⟨_,e,D1⟩
  .omega
  .exact⟨e,D1⟩
 .obtain⟨rfl,d1,d2,d3,d4⟩:=hI
  refine u0A (wpS_mono (u2H (I:=λ_ c t'=>t'=t/\c=(none,())) (Q:=λc t'=>t'=t/\c=(none,())) (λx c t' _ _ hI=>?_) (λ_ _ z=>z) ⟨rfl,rfl⟩) λc t' hI=>?_)
  .obtain⟨rfl,rfl⟩:=hI
   refine u0A (wpS_get ?_)
   rw[q5 (by rw[d3];exact j3 1)]
   exact u1a ⟨rfl,rfl⟩
  .obtain⟨rfl,rfl⟩:=hI
   exact u1a (h _ d1 d2 d4)
end
abbrev Pr:=Int × Int
def bltP (s t:Pr):Bool:=decide (s.1 < t.1\/(s.1=t.1/\s.2 < t.2))
def TP (h:Heap) (v:Value) (t:Pr):Prop:=∃ a o n tx ty,v=.ref a/\h.get? a=some o/\o.cls=.type "tuple"/\o.data=.seq #[.int t.1 tx,.int t.2 ty] n
theorem TP.uniq {h:Heap}{v:Value}{s t:Pr}(x:TP h v s)(y:TP h v t):s=t:=by
 obtain⟨a,o,n,tx,ty,rfl,e1,_,d1⟩:=x
 obtain⟨b,o2,n2,ux,uy,e,e2,_,d2⟩:=y
 cases e
 rw[e1]at e2
 cases e2
 rw[d1]at d2
 injection d2 with d2 _
 have:=u0M Array.toList d2
 simp at this
 exact u10 this.1.1 this.2.1
theorem TP.keep {h h':Heap}{v:Value}{t:Pr}(x:TP h v t)(k:∀ b o,h.get? b=some o->h'.get? b=some o):TP h' v t:=by
 obtain⟨a,o,n,tx,ty,e,e1,r⟩:=x
 exact⟨a,o,n,tx,ty,e,k _ _ e1,r⟩
open Classical in
noncomputable def keyP (h:Heap)(v:Value):Option Pr:=if x:∃ t,TP h v t then some x.choose else none
theorem keyP_of {h:Heap}{v:Value}{t:Pr}(x:TP h v t):keyP h v=some t:=by
 unfold keyP
 have y:∃ t,TP h v t:=⟨t,x⟩
 rw[u4q y,y.choose_spec.uniq x]
@[reducible] noncomputable def kindP (h:Heap):KeyKind where
 α:=Pr
 blt:=bltP
 irrefl a:=by unfold bltP;exact g0 (by omega)
 trans a b c h1 h2:=by unfold bltP at *;rw[p0]at *;omega
 negTrans a b c h:=by unfold bltP at *;rw[p0]at *;rw[p0];omega
 total a b h1 h2:=by
  unfold bltP at *
  rw[u0z]at *
  exact u10 (by omega) (by omega)
 keyOf:=keyP h
 dflt:=(0,0)
theorem zdB (b:Bool)(x y:Value):keyLt' (tuples' b) x y=(do
 let xs<-Builtin.List.listItems x
 let ys<-Builtin.List.listItems y
 for ((p,q),i)in (xs.toList.zip ys.toList).zipIdx do
  if !(<- eqBool p q)then return<-oneLt' (b&&i == 0) p q
 return xs.size < ys.size):=rfl
theorem zeO (v:Value):firstOfTuple' v=(do
 if (<- typeOf v) != .type "tuple" then return none
 return (<- Builtin.List.listItems v)[0]?):=rfl
section
variable {prog:Program}{w:World}{A:Around}{E:Value->Shared->Prop}{s:Shared}
theorem lt0 {a b:Int}{t u:Tok}{Q:Bool->Shared->Prop}(h:Q (decide (a < b)) s):wpAny (model prog w) A (oneLt' false (.int a t) (.int b u)) Q E s:=by
 rw[oneLt'_eq]
 rw[j4 u8]
 exact u0 (PyProof.Rows.lt_int (u07 h))
theorem zbQ:∀ {fs:List Value},(∀ f∈fs,∃ i t,f=.int i t)->fs.mapM typeOf=pure (fs.map λ_=>Value.type "int")
 | [],_=>by simp
 | f::fs,h=>by
  obtain⟨i,t,rfl⟩:=h f g9
  rw[List.mapM_cons,zbQ λg hg=>h g (b0 _ hg),show typeOf (.int i t)=pure (.type "int")from rfl]
  simp
end
end OwnSort
namespace OwnTim
open PySem PyProof.Rows
def ky (κ:KeyKind)(x:Keyed):κ.α:=(κ.keyOf x.1).getD κ.dflt
def LtE (prog:Program)(w:World)(A:Around)(E:Value->Shared->Prop)(s:Shared)(κ:KeyKind)(k:SortKind)(D:Keyed->Prop):Prop :=
 ∀ (st:SortSt) (x y:Keyed) (Q:Option Bool->SortSt->Prop),kindOf st=k->D x->D y->Q (some (κ.blt (ky κ x) (ky κ y))) st->wpS (model prog w) A E s (lt' x y) Q st
section
variable {prog:Program}{w:World}{A:Around}{E:Value->Shared->Prop}{s:Shared}{a₀:Array Keyed}{κ:KeyKind}{k:SortKind}{st:SortSt}
theorem zkT {xs:Array Keyed}{i:Nat}{x:Keyed}(h:xs[i]?=some x):KK κ xs i=ky κ x:=by
 unfold KK
 rw[h]
 rfl
theorem ziQ (L:LtE prog w A E s κ k (·∈a₀.toList)):OwnSort.LtOk prog w A E s a₀ κ k:=by
 intro st i j Q S hi hj q
 have look:∀ {i},i < a₀.size->∃ x,(arrOf st)[i]?=some x/\x∈a₀.toList:=λ{i} hi=>by
  have hi':i < (arrOf st).size:=by rw[S.sz];exact hi
  exact⟨(arrOf st)[i],getElem?_pos _ i hi',(u3d.mp S.pm).mem_iff.mp (by simp)⟩
 obtain⟨x,e1,m1⟩:=look hi
 obtain⟨y,e2,m2⟩:=look hj
 rw[zkT e1,zkT e2]at q
 rw[ltAt'_eq]
 refine u0A (wpS_get ?_)
 show wpS _ _ _ _ (elem' (arrOf st) i>>=λx=>elem' (arrOf st) j>>=λy=>lt' x y) Q st
 rw[elem'_eq,elem'_eq,e1,e2]
 exact u0A (u1a (u0A (u1a (L _ _ _ _ S.kd m1 m2 q))))
theorem own_runsE {Q:Unit->SortSt->Prop}(L:LtE prog w A E s κ k (·∈a₀.toList))(pm:(arrOf st).Perm a₀)(kd:kindOf st=k)(fl:failedOf st=none)(pd:pendingOf st=#[])
 (h:∀ t,(arrOf t).Perm a₀->failedOf t=none->SortedToK κ (arrOf t) a₀.size->Q () t) (h2:2<=a₀.size) (h64:a₀.size < 64):wpS (model prog w) A E s sortRuns' Q st:=OwnSort.own_runs (ziQ L) ⟨pm,kd,fl,pd⟩ h2 h64 h
end
end OwnTim
namespace OwnSortT
open PySem PyProof.Rows OwnSort
theorem lex_irr:∀ a:List Int,HT.lexLt a a=false:=by
 intro a
 induction a with
 | nil=>rfl
 | cons x xs ih=>rw[HT.lexLt_cons,q5 rfl,ih]
theorem lex_trans:∀ a b c:List Int,HT.lexLt a b=true->HT.lexLt b c=true->HT.lexLt a c=true:=by
 intro a
 induction a with
 | nil =>
  intro b c h1 h2
  cases c with
  | nil=>cases b <;> cases h2
  | cons _ _=>rfl
 | cons x xs ih =>
  intro b c h1 h2
  cases b with
  | nil=>cases h1
  | cons y ys=>cases c with
   | nil=>cases h2
   | cons z zs =>
    rw[HT.lexLt_cons]at h1 h2 ⊢
    by_cases e1:x=y
    .rw[q5 e1]at h1
     by_cases e2:y=z
     .rw[q5 e2]at h2;rw[q5 (e1.trans e2)];exact ih _ _ h1 h2
     .rw[j4 e2,p0]at h2;rw[j4 (by omega),p0];omega
    .rw[j4 e1,p0]at h1
     by_cases e2:y=z
     .rw[j4 (by omega),p0];omega
     .rw[j4 e2,p0]at h2;rw[j4 (by omega),p0];omega
theorem lex_total:∀ a b:List Int,HT.lexLt a b=false->HT.lexLt b a=false->a=b:=by
 intro a
 induction a with
 | nil =>
  intro b h1 h2
  cases b with
  | nil=>rfl
  | cons _ _=>cases h1
 | cons x xs ih =>
  intro b h1 h2
  cases b with
  | nil=>cases h2
  | cons y ys =>
   rw[HT.lexLt_cons]at h1 h2
   by_cases e:x=y
   .rw[q5 e]at h1;rw[q5 e.symm]at h2;rw[e,ih _ h1 h2]
   .rw[j4 e,u0z]at h1;rw[j4 (u0P e),u0z]at h2;omega
theorem lex_neg (a b c:List Int)(h:HT.lexLt a c=true):HT.lexLt a b=true\/HT.lexLt b c=true:=by
 cases h1:HT.lexLt a b with
 | true=>exact .inl rfl
 | false =>
  refine .inr ?_
  cases h2:HT.lexLt b a with
  | true=>exact lex_trans _ _ _ h2 h
  | false=>rw[<-lex_total _ _ h1 h2];exact h
def TT (h:Heap) (v:Value) (t:List Int):Prop:=∃ a o n its,v=.ref a/\h.get? a=some o/\o.cls=.type "tuple"/\o.data=.seq its.toArray n/\IntsAre its t/\t≠[]
theorem zff:∀ {vs:List Value} {ns ms:List Int},IntsAre vs ns->IntsAre vs ms->ns=ms:=by
 intro vs ns ms h
 induction h generalizing ms with
 | nil=>intro h2;cases h2;rfl
 | cons n t h ih=>intro h2;cases h2 with | cons n' t' h'=>rw[ih h']
theorem TT.uniq {h:Heap}{v:Value}{s t:List Int}(x:TT h v s)(y:TT h v t):s=t:=by
 obtain⟨a,o,n,its,rfl,e1,_,d1,i1,_⟩:=x
 obtain⟨b,p,m,its',e,e2,_,d2,i2,_⟩:=y
 cases e
 rw[e1]at e2
 cases e2
 rw[d1]at d2
 have e3:its.toArray=its'.toArray:=by injection d2
 cases List.toArray_inj e3
 exact zff i1 i2
theorem TT.keep {h h':Heap}{v:Value}{t:List Int}(x:TT h v t)(k:∀ b o,h.get? b=some o->h'.get? b=some o):TT h' v t:=by
 obtain⟨a,o,n,its,e,e1,r⟩:=x
 exact⟨a,o,n,its,e,k _ _ e1,r⟩
theorem TT.keepT {h h':Heap} {v:Value} {t:List Int} (x:TT h v t) (k:∀ b o,o.cls=.type "tuple"->h.get? b=some o->h'.get? b=some o):TT h' v t:=by
 obtain⟨a,o,n,its,e,e1,c,r⟩:=x
 exact⟨a,o,n,its,e,k _ _ c e1,c,r⟩
open Classical in
noncomputable def keyTT (h:Heap)(v:Value):Option (List Int):=if x:∃ t,TT h v t then some x.choose else none
theorem keyTT_of {h:Heap}{v:Value}{t:List Int}(x:TT h v t):keyTT h v=some t:=by
 unfold keyTT
 have y:∃ t,TT h v t:=⟨t,x⟩
 rw[u4q y,y.choose_spec.uniq x]
@[reducible] noncomputable def zck (h:Heap):KeyKind where
 α:=List Int
 blt:=HT.lexLt
 irrefl:=lex_irr
 trans:=lex_trans
 negTrans:=lex_neg
 total:=lex_total
 keyOf:=keyTT h
 dflt:=[]
section
variable {prog:Program}{w:World}{A:Around}{E:Value->Shared->Prop}{s:Shared}
def zjO (d:Bool):List Int->List Int->Bool
 | x::xs,y::ys=>if x=y then zjO d xs ys else decide (x < y)
 | _,_=>d
theorem ziN:∀ a b:List Int,zjO (decide (a.length < b.length)) a b=HT.lexLt a b:=by
 intro a
 induction a with
 | nil=>intro b;cases b with
  | nil=>rfl
  | cons _ _=>rfl
 | cons x xs ih=>intro b;cases b with
  | nil=>rfl
  | cons y ys =>
   rw[HT.lexLt_cons,<- ih ys]
   show(if x=y then zjO (decide (xs.length+1 < ys.length+1)) xs ys else decide (x < y))=_
   rw[show decide (xs.length+1 < ys.length+1)=decide (xs.length < ys.length) by congr 1;apply propext;omega]
def zeP (x:(Value × Value) × Nat)(_:Option Bool × Unit):Sem (ForInStep (Option Bool × Unit)):=do
 let b<-eqBool x.1.1 x.1.2
 if (!b)=true then do
  let c<-oneLt' (true&&x.2 == 0) x.1.1 x.1.2
  pure (ForInStep.done (some c,()))
 else pure (ForInStep.yield (none,()))
theorem zf8 {d:Bool}:∀ {xs:List Value} {ns:List Int} {ys:List Value} {ms:List Int} {k:Nat} {Q:Option Bool × Unit->Shared->Prop},IntsAre xs ns->IntsAre ys ms->(∀ r:Option Bool × Unit,r.1.getD d=zjO d ns ms->Q r s) ->
 wpAny (model prog w) A (forIn ((xs.zip ys).zipIdx k) ((none,()):Option Bool × Unit) zeP) Q E s:=by
 intro xs ns ys ms k Q h1
 induction h1 generalizing ys ms k with
 | nil=>intro h2 q;exact u6 (q (none,()) rfl)
 | cons x t h1 ih =>
  intro h2 q
  cases h2 with
  | nil=>exact u6 (q (none,()) rfl)
  | cons y u h2 =>
   rw[u2m,u3T,u2Z]
   refine u0 (u0 (u3l x t y u prog w E _ ?_))
   by_cases c:x=y
   .rw[show(x == y)=true by rw[c];exact u0h _]
    refine u6 (ih h2 λr hr=>q r (hr.trans ?_))
    show _=(if x=y then zjO d _ _ else decide (x < y))
    rw[q5 c]
   .rw[show(x == y)=false by simpa using c]
    have q0:Q (some (decide (x < y)),()) s:=q _ (by
     show decide (x < y)=(if x=y then zjO d _ _ else decide (x < y))
     rw[j4 c])
    cases k with
    | zero=>exact u0 (oneLt_int (u6 (u6 q0)))
    | succ k=>exact u0 (lt0 (u6 (u6 q0)))
theorem zil {x y:Value}{a b:List Int}{Q:Bool->Shared->Prop}(hx:TT s.heap x a)(hy:TT s.heap y b)(h:Q (HT.lexLt a b) s):wpAny (model prog w) A (keyLt' (tuples' true) x y) Q E s:=by
 obtain⟨p,o,n,xs,rfl,e1,_,d1,i1,_⟩:=hx
 obtain⟨q,o2,n2,ys,rfl,e2,_,d2,i2,_⟩:=hy
 rw[zdB]
 refine u0 (listItems_at e1 d1 (u0 (listItems_at e2 d2 ?_)))
 show wpAny _ _ (forIn ((xs.zip ys).zipIdx 0) ((none,()):Option Bool × Unit) zeP>>=_) _ _ _
 refine u0 (zf8 (d:=decide (xs.length < ys.length)) i1 i2 λr hr=>?_)
 have e:Q (r.1.getD (decide (xs.length < ys.length))) s:=by
  rw[hr,i1.length,i2.length,ziN];exact h
 obtain⟨r1,u⟩:=r
 cases r1 with
 | none=>exact u6 e
 | some v=>exact u6 e
theorem zgJ {vs:List Value}(hT:∀ v∈vs,∃ t,TT s.heap v t):OwnTim.LtE prog w A E s (zck s.heap) (tuples' true) (·∈(pairsOf vs).toList):=by
 intro st x y Q hk hx hy h
 have look:∀ {x:Keyed},x∈(pairsOf vs).toList->∃ t,TT s.heap x.1 t/\OwnTim.ky (zck s.heap) x=t:=λ{x} hm=>by
  rw[pairsOf_toList]at hm
  obtain⟨t,ht⟩:=hT _ (mem_zip_self hm).2
  refine⟨t,ht,?_⟩
  unfold OwnTim.ky
  show(keyTT s.heap x.1).getD _=t
  rw[keyTT_of ht]
  rfl
 obtain⟨a,ta,ka⟩:=look hx
 obtain⟨b,tb,kb⟩:=look hy
 rw[ka,kb]at h
 rw[lt'_eq]
 refine u0A (wpS_get ?_)
 rw[hk]
 exact u0A (wpS_lift (u09 (zil ta tb ⟨rfl,u1a h⟩)))
theorem Wb:∀ {vs:List Value} {Q:List (Option Value)->Shared->Prop},(∀ v∈vs,∃ t,TT s.heap v t)->(∀ fs:List Value,fs.length=vs.length->(∀ f∈fs,∃ i t,f=.int i t)->Q (fs.map some) s)->wpAny (model prog w) A (vs.mapM firstOfTuple') Q E s
 | [],Q,_,h=>by rw[List.mapM_nil];exact u6 (h [] rfl (by simp))
 | v::vs,Q,hT,h=>by
  obtain⟨t,a,o,n,its,rfl,e1,c1,d1,hi,hne⟩:=hT v g9
  obtain⟨z,zs,i0,tk,rfl,rfl⟩:∃ z zs i0 tk,its=z::zs/\z=.int i0 tk:=by
   cases hi with
   | nil=>exact absurd rfl hne
   | cons i0 tk hi=>exact⟨_,_,_,_,rfl,rfl⟩
  rw[List.mapM_cons,zeO]
  refine u0 (u0 (u1I (T:="tuple") ⟨o,e1,c1⟩ ?_))
  rw[j4 (by simp)]
  refine u0 (listItems_at e1 d1 (u6 (u0 (Wb (λu hu=>hT u (b0 _ hu)) λfs hl hf=>u6 ?_))))
  exact h (.int i0 tk::fs) (by simp[hl]) λf hf'=>by
   rcases j5.mp hf' with rfl | hf'
   .exact⟨_,_,rfl⟩
   .exact hf f hf'
theorem zfN {v₁:Value}{vs:List Value}{Q:SortKind->Shared->Prop}(hT:∀ v∈v₁::vs,∃ t,TT s.heap v t)(h:Q (tuples' true) s):wpAny (model prog w) A (keyKind' (v₁::vs).toArray) Q E s:=by
 rw[keyKind'_eq,List.mapM_toArray,<- bind_pure_comp,bind_assoc]
 refine u0 (Wb hT λfs hl hf=>u0 (u6 ?_))
 cases fs with
 | nil=>simp at hl
 | cons f fs =>
  rw[q5 (by simp)]
  have ef:((f::fs).map some).toArray.filterMap id=(f::fs).toArray:=by simp
  refine u0 (u2h ?_)
  rw[ef,oneTypeOnly'_eq,List.mapM_toArray,zbQ hf]
  simp only[map_pure,pure_bind]
  rw[show(List.map (λ_=>Value.type "int") (f::fs)).toArray[0]?=some (Value.type "int") by simp]
  have al:((List.map (λ_=>Value.type "int") (f::fs)).toArray.all λx=>x == Value.type "int")=true:=by
   simp only[List.all_toArray,u2c,u0B]
   intro _ _
   rfl
  simp only[al,u3a,pure_bind,Option.any_some]
  rw[show(Value.type "int" != Value.type "tuple")=true by decide +kernel]
  exact u6 h
end
def Rise (h:Heap)(out:List Value):Prop:=∃ ts:List (List Int),out.length=ts.length/\(∀ (i:Nat) (v:Value) (t:(List Int)),out[i]?=some v->ts[i]?=some t->TT h v t)/\ts.Pairwise λa b=>HT.lexLt b a=false
theorem zeo {h h':Heap}{vs:List Value}{xs:Array Keyed}(hT:∀ v∈vs,∃ t,TT h v t)(hk:∀ v t,TT h v t->TT h' v t)(pm:xs.Perm (pairsOf vs))(hs:SortedToK (zck h') xs (pairsOf vs).size):(xs.map (·.2)).toList.Perm vs/\Rise h (xs.map (·.2)).toList:=by
 have hl:xs.toList.Perm (vs.zip vs):=by rw[<-pairsOf_toList];exact u3d.mp pm
 have hm:∀ p∈xs.toList,p.1=p.2/\p.1∈vs:=λp hp=>mem_zip_self (hl.mem_iff.mp hp)
 have e2:(xs.map (·.2)).toList=xs.toList.map (·.2):=by simp
 rw[e2]
 refine⟨?_,xs.toList.map λp=>(keyTT h' p.1).getD ([]:List Int),by simp,λi v t hv ht=>?_,?_⟩
 .have:=hl.map (·.2)
  rwa[show(vs.zip vs).map (·.2)=vs from List.map_snd_zip (j3 _)]at this
 .rw[d6]at hv ht
  cases hx:xs.toList[i]? with
  | none=>rw[hx]at hv;cases hv
  | some p =>
   rw[hx]at hv ht
   cases hv
   cases ht
   obtain⟨q1,q2⟩:=hm p (b6 hx)
   obtain⟨t,ht⟩:=hT _ q2
   show TT h p.2 ((keyTT h' p.1).getD ([]:List Int))
   rw[keyTT_of (hk _ _ ht),<- q1]
   exact ht
 .rw[i9]
  intro i j hi hj hij
  have hi':i < xs.size:=by simpa using hi
  have hj':j < xs.size:=by simpa using hj
  have:=hs i j (u0I hij) (by rw[<-pm.size_eq];exact hj')
  unfold KK at this
  rw[getElem?_pos xs i hi',getElem?_pos xs j hj']at this
  have this:HT.lexLt ((keyTT h' xs[j].1).getD ([]:List Int)) ((keyTT h' xs[i].1).getD ([]:List Int))=false:=this
  simpa using this
section
variable {prog:Program}{w:World}{A:Around}{E:Value->Shared->Prop}{s:Shared}
theorem ownT_list_sort {a:Addr} {vs:List Value} {n:Nat} {P:Fin->Shared->Prop} (ho:s.heap.get? a=some (seqObj "list" vs.toArray n)) (hT:∀ v∈vs,∃ t,TT s.heap v t) (h64:vs.length < 64)
 (h:∀ out:Array Value,out.toList.Perm vs->Rise s.heap out.toList->P (.done (.ret .none)) { s with heap:=sortedHeap s.heap a vs out }):wpAny (model prog w) A (Builtin.«list.sort» ⟨[.ref a],[]⟩) P E s:=by
 have la:a < s.heap.objs.size:=t9 ho
 have zl:vs.toArray.size=vs.length:=j6
 obtain⟨e1,o1⟩:∃ e1,(s.heap.update a (Obj.mapSeq λ_=>#[])).get? a=some (seqObj "list" #[] e1):=⟨_,get?_update_seq ho (λ_=>#[])⟩
 have o6:(((s.heap.update a (Obj.mapSeq λ_=>#[])).push (seqObj "tuple" vs.toArray 0)).push (seqObj "list" #[] 0)).get? a=some (seqObj "list" #[] e1):=u4 _ (u4 _ o1)
 have up:∀ b o,o.cls=.type "tuple"->s.heap.get? b=some o->(((s.heap.update a (Obj.mapSeq λ_=>#[])).push (seqObj "tuple" vs.toArray 0)).push (seqObj "list" #[] 0)).get? b=some o:=λb o c e=>by
  refine u4 _ (u4 _ ((u0d _ _ λz=>?_).trans e))
  subst z
  rw[ho]at e
  cases e
  exact absurd (show Value.type "list"=Value.type "tuple" from c) (by decide +kernel)
 have hT6:∀ v∈vs,∃ t,TT (((s.heap.update a (Obj.mapSeq λ_=>#[])).push (seqObj "tuple" vs.toArray 0)).push (seqObj "list" #[] 0)) v t:=λv hv=>let ⟨t,ht⟩:=hT v hv;⟨t,ht.keepT up⟩
 rw[list_sort_plain]
 refine u0 (listItems_at ho rfl (u0 (listUpdate_at ho rfl (u0 (seqEpoch_at o1 rfl (u0 (wpAny_newTuple (u0 (u3Q (i5 ?_))))))))))
 show wpAny (model prog w) A _ P E { s with heap:=((s.heap.update a (Obj.mapSeq λ_=>#[])).push (seqObj "tuple" vs.toArray 0)).push (seqObj "list" #[] 0) }
 by_cases c2:vs.toArray.size < 2
 .rw[q5 c2,q5 c2]
  refine u0 (u6 ?_)
  dsimp only
  rw[StateT.run_pure]
  refine u0 (u6 ?_)
  obtain⟨r1,r2⟩:=zeo (xs:=pairsOf vs) hT (λv t ht=>ht) (Array.Perm.refl _) (λi j hij hj=>by
   obtain rfl:i=j:=by rw[u3n]at hj;omega
   exact u1k _)
  refine u0 (seqEpoch_at o6 rfl (u0 (listUpdate_at o6 rfl ?_ (hsz2:=by rw[u4d];show(pairsOf vs).size<=_;rw[u3n,u1n];omega))))
  rw[show(e1 != e1)=false by simp]
  exact u6 (h _ r1 r2)
 .rw[j4 c2,j4 c2]
  cases vs with
  | nil=>simp at c2
  | cons v₁ rest =>
   refine u0 (zfN hT6 ?_)
   refine u0 (u0j (OwnTim.own_runsE (st:=SortSt.mk' (tuples' true) ((v₁::rest).toArray.zip (v₁::rest).toArray) #[] 7 none) (Q:=λ_ t=>(arrOf t).Perm (pairsOf (v₁::rest))/\failedOf t=none/\SortedToK (zck _) (arrOf t) (pairsOf (v₁::rest)).size)
    (zgJ hT6) (Array.Perm.refl _) rfl rfl rfl (λt p1 p2 p3=>⟨p1,p2,p3⟩) (by rw[u3n];rw[j6]at c2;omega) (by rw[u3n];exact h64)) ?_ λ_ _ e=>e)
   rintro⟨⟨⟩,t⟩ s' ⟨rfl,p1,p2,p3⟩
   obtain⟨r1,r2⟩:=zeo hT (λv t ht=>ht.keepT up) p1 p3
   refine u0 (seqEpoch_at o6 rfl (u0 (listUpdate_at o6 rfl ?_ (hsz2:=by rw[u4d];show(arrOf t).size<=_;rw[p1.size_eq,u3n,u1n];omega))))
   rw[p2,show(e1 != e1)=false by simp]
   exact u6 (h _ r1 r2)
theorem ownT_sorted {l:Addr}{vs:List Value}{Q:Value->Shared->Prop}(hl:s.heap.IsList l vs.toArray)(hT:∀ v∈vs,∃ t,TT s.heap v t)(h64:vs.length < 64)
 (h:∀ out:Array Value,out.toList.Perm vs->Rise s.heap out.toList->Q (.ref (s.heap.objs.size+1)) { s with heap:=sortedAll s.heap vs out }):wpAny (model prog w) A (call (.builtin "sorted") [.ref l]) Q E s:=by
 have z1:((s.heap.push (seqObj "list" #[] 0)).update s.heap.objs.size (Obj.mapSeq (·++vs.toArray))).objs.size=s.heap.objs.size+1:=(Heap.size_update ..).trans (size_push' _ _)
 have oL:(((s.heap.push (seqObj "list" #[] 0)).update s.heap.objs.size (Obj.mapSeq (·++vs.toArray))).push (seqObj "list" vs.toArray 0)).get? (s.heap.objs.size+1)=some (seqObj "list" vs.toArray 0):=z1 ▸ j7 _ rfl
 have up:∀ b o,s.heap.get? b=some o->(((s.heap.push (seqObj "list" #[] 0)).update s.heap.objs.size (Obj.mapSeq (·++vs.toArray))).push (seqObj "list" vs.toArray 0)).get? b=some o:=λb o e =>
  u4 _ ((u0d _ _ λz=>by subst z;exact absurd (t9 e) (u0y _)).trans (u4 _ e))
 refine u14 kind_sorted plain_sorted entry_sorted (args_sorted1 _) ?_
 unfold Builtin.«sorted»
 refine u0 (m:=checkCount "sorted" 1 1 _) (u6 (u0 (collect_list hl (u0 (u3Q ?_)))))
 show wpAny _ _ _ _ _ (Shared.mk (((s.heap.push (seqObj "list" #[] 0)).update s.heap.objs.size (Obj.mapSeq (·++vs.toArray))).push (seqObj "list" vs.toArray 0)) s.gens s.drawn s.toks s.os)
 rw[z1]
 refine u0 (i5 (i7 slot_list_sort ⟨_,oL,rfl⟩ entry_list_sort (ownT_list_sort oL (λv hv=>let ⟨t,ht⟩:=hT v hv;⟨t,ht.keep up⟩) h64 λout p1 p2=>⟨_,rfl,u6 ⟨_,rfl,h out p1 ?_⟩⟩) (args_list_sort _)))
 obtain⟨ts,q1,q2,q3⟩:=p2
 refine⟨ts,q1,λi v t hv ht=>?_,q3⟩
 obtain⟨t0,ht0⟩:=hT v (p1.mem_iff.mp (b6 hv))
 rw[(q2 i v t hv ht).uniq (ht0.keep up)]
 exact ht0
end
end OwnSortT
namespace OwnSort
open PySem PyProof.Rows
def Rise (h:Heap)(out:List Value):Prop:=∃ ts:List Pr,out.length=ts.length/\(∀ (i:Nat) (v:Value) (t:Pr),out[i]?=some v->ts[i]?=some t->TP h v t)/\ts.Pairwise λa b=>bltP b a=false
theorem TP.tt {h:Heap}{v:Value}{t:Pr}(x:TP h v t):OwnSortT.TT h v [t.1,t.2]:=by
 obtain⟨a,o,n,tx,ty,e1,e2,e3,e4⟩:=x
 exact⟨a,o,n,[.int t.1 tx,.int t.2 ty],e1,e2,e3,e4,.cons _ _ (.cons _ _ .nil),List.cons_ne_nil _ _⟩
theorem zgG (a b:Pr):HT.lexLt [a.1,a.2] [b.1,b.2]=bltP a b:=by
 rw[HT.lexLt_cons,HT.lexLt_cons]
 unfold bltP
 by_cases c:a.1=b.1
 .rw[q5 c]
  by_cases c2:a.2=b.2
  .rw[q5 c2,g0 (by omega)];rfl
  .rw[j4 c2,u3V];omega
 .rw[j4 c,u3V];omega
theorem V5 {h:Heap}{vs out:List Value}(hT:∀ v∈vs,∃ t,TP h v t)(pm:out.Perm vs)(r:OwnSortT.Rise h out):Rise h out:=by
 obtain⟨ts,l1,l2,l3⟩:=r
 have key:∀ (i:Nat) (v:Value) (t:List Int),out[i]?=some v->ts[i]?=some t->∃ p:Pr,TP h v p/\t=[p.1,p.2]:=λi v t h1 h2=>by
  obtain⟨p,hp⟩:=hT v (pm.mem_iff.mp (b6 h1))
  exact⟨p,hp,OwnSortT.TT.uniq (l2 i v t h1 h2) hp.tt⟩
 have ex:∀ t∈ts,∃ p:Pr,t=[p.1,p.2]:=λt ht=>by
  obtain⟨i,hi,rfl⟩:=u05 ht
  obtain⟨p,_,e⟩:=key i out[i] ts[i] (r9 (by omega)) (r9 hi)
  exact⟨p,e⟩
 refine⟨ts.map λt=>(t.getD 0 0,t.getD 1 0),by rw[u7,l1],λi v t h1 h2=>?_,?_⟩
 .rw[d6]at h2
  obtain⟨u,hu,rfl⟩:=u9.mp h2
  obtain⟨p,hp,rfl⟩:=key i v u h1 hu
  exact hp
 .rw[u0X]
  refine l3.imp_of_mem λ{a b} ha hb hab=>?_
  obtain⟨p,rfl⟩:=ex a ha
  obtain⟨q,rfl⟩:=ex b hb
  rw[zgG]at hab
  exact hab
section
variable {prog:Program}{w:World}{A:Around}{E:Value->Shared->Prop}{s:Shared}
theorem own_list_sort {a:Addr} {vs:List Value} {n:Nat} {P:Fin->Shared->Prop} (ho:s.heap.get? a=some (seqObj "list" vs.toArray n)) (hT:∀ v∈vs,∃ t,TP s.heap v t) (h64:vs.length < 64)
 (h:∀ out:Array Value,out.toList.Perm vs->Rise s.heap out.toList->P (.done (.ret .none)) { s with heap:=sortedHeap s.heap a vs out }):wpAny (model prog w) A (Builtin.«list.sort» ⟨[.ref a],[]⟩) P E s :=
 OwnSortT.ownT_list_sort ho (λv hv=>(hT v hv).imp' (λt=>[t.1,t.2]) λ_ ht=>ht.tt) (by omega) λout p r=>h out p (V5 hT p r)
theorem own_sorted {l:Addr}{vs:List Value}{Q:Value->Shared->Prop}(hl:s.heap.IsList l vs.toArray)(hT:∀ v∈vs,∃ t,TP s.heap v t)(h64:vs.length < 64)
 (h:∀ out:Array Value,out.toList.Perm vs->Rise s.heap out.toList->Q (.ref (s.heap.objs.size+1)) { s with heap:=sortedAll s.heap vs out }):wpAny (model prog w) A (call (.builtin "sorted") [.ref l]) Q E s :=
 OwnSortT.ownT_sorted hl (λv hv=>(hT v hv).imp' (λt=>[t.1,t.2]) λ_ ht=>ht.tt) (by omega) λout p r=>h out p (V5 hT p r)
end
end OwnSort
namespace Dl
open PySem L2
class KK where
 K:W.Frag
inductive D where
 | non | bl (b:Bool) | int (i:Int) | str (x:Str) | tup (ds:List D) | lst (ds:List D) | scr (ns:List Int)
  | dct (z t:Bool) (ks:List (List Key)) (vs:List D)
 deriving Inhabited
section
variable [KK]
def VM (o:HO)(t:Bool)(ks:List (List Key))(xs:List V):Prop :=
 if t=true then ∃ kvs,o=.dT kvs/\kvs.map (·.1)=ks/\kvs.map (·.2)=xs else ∃ kvs:List (Key × V),o=.dK kvs/\kvs.map (λp=>[p.1])=ks/\kvs.map (·.2)=xs
def X0 (H:Hp)(a:Addr)(z t:Bool)(ks:List (List Key))(xs:List V):Prop :=
 ∃ u,VM u t ks xs/\if z=true then ∃ ob,H a=some (.frz ob u)else H a=some u
theorem X0.mono {H H':Hp}{a:Addr}{z t:Bool}{ks:List (List Key)}{xs:List V}(s:zZ H H')(h:X0 H a z t ks xs):X0 H' a z t ks xs:=by
 obtain⟨u,h1,h2⟩:=h
 refine⟨u,h1,?_⟩
 cases z with
 | true =>
  rw[q5 rfl]at h2 ⊢
  obtain⟨ob,h2⟩:=h2
  exact⟨ob,s _ _ h2⟩
 | false =>
  rw[j4 u8]at h2 ⊢
  exact s _ _ h2
theorem X0.rd {H:Hp}{a:Addr}{z t:Bool}{ks:List (List Key)}{xs:List V}(h:X0 H a z t ks xs):∃ u,VM u t ks xs/\Rd H a u:=by
 obtain⟨u,h1,h2⟩:=h
 refine⟨u,h1,?_⟩
 cases z with
 | true =>
  rw[q5 rfl]at h2
  obtain⟨ob,h2⟩:=h2
  exact .inr ⟨ob,h2⟩
 | false =>
  rw[j4 u8]at h2
  exact .inl h2
mutual
def At (H:Hp):D->V->Prop
 | .non,v=>v=.non
 | .bl b,v=>v=.bl b
 | .int i,v=>v=.int i
 | .str x,v=>v=.str x
 | .tup ds,v=>∃ a xs,v=.ref a/\H a=some (.tup xs)/\AtL H ds xs
 | .lst ds,v=>∃ a xs,v=.ref a/\H a=some (.lst xs)/\AtL H ds xs
 | .scr ns,v=>∃ a,v=.ref a/\SqL KK.K H a (ns.map V.int)
 | .dct z t ks vs,v=>∃ a xs,v=.ref a/\X0 H a z t ks xs/\AtL H vs xs
def AtL (H:Hp):List D->List V->Prop
 | [],xs=>xs=[]
 | d::ds,xs=>∃ x r,xs=x::r/\At H d x/\AtL H ds r
end
mutual
theorem At.mono {H H':Hp}(s:zZ H H'):∀ {d:D} {v:V},At H d v->At H' d v
 | .non,_,h=>by unfold At at h ⊢;exact h
 | .bl _,_,h=>by unfold At at h ⊢;exact h
 | .int _,_,h=>by unfold At at h ⊢;exact h
 | .str _,_,h=>by unfold At at h ⊢;exact h
 | .tup ds,_,h=>by
  unfold At at h ⊢
  obtain⟨a,xs,e,hx,hl⟩:=h
  exact⟨a,xs,e,s _ _ hx,AtL.mono s hl⟩
 | .lst ds,_,h=>by
  unfold At at h ⊢
  obtain⟨a,xs,e,hx,hl⟩:=h
  exact⟨a,xs,e,s _ _ hx,AtL.mono s hl⟩
 | .scr ns,_,h=>by
  unfold At at h ⊢
  obtain⟨a,e,hx⟩:=h
  exact⟨a,e,s.seq hx⟩
 | .dct z t ks vs,_,h=>by
  unfold At at h ⊢
  obtain⟨a,xs,e,hx,hl⟩:=h
  exact⟨a,xs,e,hx.mono s,AtL.mono s hl⟩
theorem AtL.mono {H H':Hp}(s:zZ H H'):∀ {ds:List D} {xs:List V},AtL H ds xs->AtL H' ds xs
 | [],_,h=>by unfold AtL at h ⊢;exact h
 | d::ds,_,h=>by
  unfold AtL at h ⊢
  obtain⟨x,r,e,h1,h2⟩:=h
  exact⟨x,r,e,At.mono s h1,AtL.mono s h2⟩
end
mutual
def noL:D->Bool
 | .tup ds=>zl2 ds
 | .lst _=>false
 | .scr _=>false
 | .dct _ _ _ _=>false
 | _=>true
def zl2:List D->Bool
 | []=>true
 | d::ds=>noL d&&zl2 ds
end
mutual
theorem At.flat {G F:Hp}(h:∀ q xs,G q=some (.tup xs)->F q=some (.tup xs)):∀ {d:D} {v:V},noL d=true->At G d v->At F d v
 | .non,_,_,a=>by unfold At at a ⊢;exact a
 | .bl _,_,_,a=>by unfold At at a ⊢;exact a
 | .int _,_,_,a=>by unfold At at a ⊢;exact a
 | .str _,_,_,a=>by unfold At at a ⊢;exact a
 | .tup ds,_,n,a=>by
  unfold At at a ⊢
  unfold noL at n
  obtain⟨p,xs,e,hx,hl⟩:=a
  exact⟨p,xs,e,h _ _ hx,AtL.flat h n hl⟩
 | .lst ds,_,n,_=>by unfold noL at n;cases n
 | .scr ds,_,n,_=>by unfold noL at n;cases n
 | .dct _ _ _ _,_,n,_=>by unfold noL at n;cases n
theorem AtL.flat {G F:Hp}(h:∀ q xs,G q=some (.tup xs)->F q=some (.tup xs)):∀ {ds:List D} {xs:List V},zl2 ds=true->AtL G ds xs->AtL F ds xs
 | [],_,_,a=>by unfold AtL at a ⊢;exact a
 | d::ds,_,n,a=>by
  unfold AtL at a ⊢
  unfold zl2 at n
  rw[p4]at n
  obtain⟨x,r,e,h1,h2⟩:=a
  exact⟨x,r,e,At.flat h n.1 h1,AtL.flat h n.2 h2⟩
end
section
variable {H H':Hp}{d:D}{ds es:List D}{v x:V}{xs ys:List V}
theorem At.int {i:Int}:At H (.int i) (.int i):=by unfold At;rfl
theorem At.bl {b:Bool}:At H (.bl b) (.bl b):=by unfold At;rfl
theorem At.non:At H .non .non:=by unfold At;rfl
theorem At.str {y:Str}:At H (.str y) (.str y):=by unfold At;rfl
theorem At.tup {a:Addr}(h:H a=some (.tup xs))(hl:AtL H ds xs):At H (.tup ds) (.ref a):=by unfold At;exact⟨a,xs,rfl,h,hl⟩
theorem At.lst {a:Addr}(h:H a=some (.lst xs))(hl:AtL H ds xs):At H (.lst ds) (.ref a):=by unfold At;exact⟨a,xs,rfl,h,hl⟩
theorem AtL.nil:AtL H [] []:=by unfold AtL;rfl
theorem AtL.cons (h:At H d x)(hl:AtL H ds xs):AtL H (d::ds) (x::xs):=by unfold AtL;exact⟨x,xs,rfl,h,hl⟩
theorem At.int_inv {i:Int}(h:At H (.int i) v):v=.int i:=by unfold At at h;exact h
theorem At.bl_inv {b:Bool}(h:At H (.bl b) v):v=.bl b:=by unfold At at h;exact h
theorem At.non_inv (h:At H .non v):v=.non:=by unfold At at h;exact h
theorem At.str_inv {y:Str}(h:At H (.str y) v):v=.str y:=by unfold At at h;exact h
theorem At.tup_inv (h:At H (.tup ds) v):∃ a xs,v=.ref a/\H a=some (.tup xs)/\AtL H ds xs:=by unfold At at h;exact h
theorem At.lst_inv (h:At H (.lst ds) v):∃ a xs,v=.ref a/\H a=some (.lst xs)/\AtL H ds xs:=by unfold At at h;exact h
theorem At.scr_inv {ns:List Int}(h:At H (.scr ns) v):∃ a,v=.ref a/\SqL KK.K H a (ns.map V.int):=by unfold At at h;exact h
theorem At.dct_inv {z t:Bool}{ks:List (List Key)}{vs:List D}(h:At H (.dct z t ks vs) v):∃ a xs,v=.ref a/\X0 H a z t ks xs/\AtL H vs xs:=by unfold At at h;exact h
theorem AtL.nil_inv (h:AtL H [] xs):xs=[]:=by unfold AtL at h;exact h
theorem AtL.cons_inv (h:AtL H (d::ds) xs):∃ x r,xs=x::r/\At H d x/\AtL H ds r:=by unfold AtL at h;exact h
theorem AtL.length:∀ {ds:List D} {xs:List V},AtL H ds xs->xs.length=ds.length
 | [],_,h=>by rw[h.nil_inv];rfl
 | _::_,_,h=>by
  obtain⟨x,r,rfl,_,h2⟩:=h.cons_inv
  rw[u0g,u0g,AtL.length h2]
theorem AtL.get:∀ {ds:List D} {xs:List V} {i:Nat} {d:D},AtL H ds xs->ds[i]?=some d->∃ x,xs[i]?=some x/\At H d x
 | [],_,_,_,_,e=>by simp at e
 | _::_,_,i,_,h,e=>by
  obtain⟨x,r,rfl,h1,h2⟩:=h.cons_inv
  cases i with
  | zero =>
   simp at e
   subst e
   exact⟨x,rfl,h1⟩
  | succ i =>
   obtain⟨y,hy,ha⟩:=AtL.get (i:=i) h2 (by simpa using e)
   exact⟨y,by simpa using hy,ha⟩
theorem AtL.append:∀ {ds es:List D} {xs ys:List V},AtL H ds xs->AtL H es ys->AtL H (ds++es) (xs++ys)
 | [],_,_,_,h,k=>by rw[h.nil_inv];exact k
 | _::_,_,_,_,h,k=>by
  obtain⟨x,r,rfl,h1,h2⟩:=h.cons_inv
  exact .cons h1 (AtL.append h2 k)
theorem AtL.snoc (h:AtL H ds xs)(k:At H d v):AtL H (ds++[d]) (xs++[v]):=h.append (.cons k .nil)
theorem AtL.take:∀ (n:Nat) {ds:List D} {xs:List V},AtL H ds xs->AtL H (ds.take n) (xs.take n)
 | 0,_,_,_=>by simpa using AtL.nil
 | n+1,[],_,h=>by rw[h.nil_inv];simpa using AtL.nil
 | n+1,_::_,_,h=>by
  obtain⟨x,r,rfl,h1,h2⟩:=h.cons_inv
  rw[List.take_succ_cons,List.take_succ_cons]
  exact .cons h1 (AtL.take n h2)
theorem AtL.drop:∀ (n:Nat) {ds:List D} {xs:List V},AtL H ds xs->AtL H (ds.drop n) (xs.drop n)
 | 0,_,_,h=>h
 | n+1,[],_,h=>by rw[h.nil_inv];simpa using AtL.nil
 | n+1,_::_,_,h=>by
  obtain⟨x,r,rfl,h1,h2⟩:=h.cons_inv
  rw[List.drop_succ_cons,List.drop_succ_cons]
  exact AtL.drop n h2
theorem AtL.rep (h:AtL H ds xs):∀ k:Nat,AtL H (List.replicate k ds).flatten (List.replicate k xs).flatten
 | 0=>.nil
 | k+1=>by
  rw[u0T,u0T,u1D,u1D]
  exact h.append (AtL.rep h k)
theorem AtL.ints (ns:List Int):AtL H (ns.map D.int) (ns.map V.int):=by
 induction ns with
 | nil=>exact .nil
 | cons n r ih=>exact .cons .int ih
theorem AtL.of_ints:∀ {ns:List Int} {xs:List V},AtL H (ns.map D.int) xs->xs=ns.map V.int
 | [],_,h=>h.nil_inv
 | n::r,_,h=>by
  obtain⟨x,r',rfl,h1,h2⟩:=AtL.cons_inv (by simpa using h)
  rw[h1.int_inv,AtL.of_ints h2]
  rfl
end
def tyN:D->String
 | .non=>"NoneType" | .bl _=>"bool" | .int _=>"int" | .str _=>"str" | .tup _=>"tuple" | .lst _=>"list" | .scr _=>"list" | .dct _ _ _ _=>"dict"
def Hid (F':Hp)(p:Addr)(o:HO):Prop:=F' p=none\/((∃ xs,o=.tup xs)/\F' p=some o)
def Keep (F H F' H':Hp):Prop:=∀ p o,F p=none->H p=some o->Hid F' p o/\H' p=some o
structure Gr (F H F' H':Hp):Prop where
 ff:zZ F F'
 fh:zZ F' H'
 kp:Keep F H F' H'
theorem Gr.refl {F H:Hp}(s:zZ F H):Gr F H F H:=⟨zZ.refl _,s,λ_ _ a b=>⟨.inl a,b⟩⟩
theorem Gr.trans {F H F1 H1 F2 H2:Hp}(a:Gr F H F1 H1)(b:Gr F1 H1 F2 H2):Gr F H F2 H2 :=
 ⟨a.ff.trans b.ff,b.fh,λp o e1 e2=>by
  obtain⟨x,y⟩:=a.kp p o e1 e2
  rcases x with x | ⟨x1,x2⟩
  .exact b.kp p o x y
  .exact⟨.inr ⟨x1,b.ff _ _ x2⟩,b.fh _ _ (b.ff _ _ x2)⟩⟩
theorem Gr.kl {F H F' H':Hp}{p:Addr}{o:HO}(g:Gr F H F' H')(n:∀ xs,o≠.tup xs)(e1:F p=none)(e2:H p=some o):F' p=none/\H' p=some o:=by
 obtain⟨x,y⟩:=g.kp p o e1 e2
 rcases x with x | ⟨⟨xs,x1⟩,_⟩
 .exact⟨x,y⟩
 .exact absurd x1 (n xs)
theorem Gr.alloc {F H:Hp}{p:Addr}(s:zZ F H)(h:H p=none)(o:HO):Gr F H (upd F p o) (upd H p o):=by
 have hF:F p=none:=s.free h
 refine⟨λb u q=>?_,λb u q=>?_,λb u q r=>?_⟩
 .rw[zm (zj q hF)];exact q
 .by_cases e:b=p
  .subst e;rw[zn]at q ⊢;exact q
  .rw[zm e]at q ⊢;exact s b u q
 .have e:b≠p:=zj r h
  rw[zm e];exact⟨.inl (by rw[zm e];exact q),r⟩
theorem Gr.hide {F H:Hp}{p:Addr}(s:zZ F H)(h:H p=none)(o:HO):Gr F H F (upd H p o):=by
 refine⟨zZ.refl _,λb u q=>?_,λb u q r=>?_⟩
 .rw[zm (zj (s b u q) h)];exact s b u q
 .have e:b≠p:=zj r h
  rw[zm e];exact⟨.inl q,r⟩
theorem Gr.show {F H:Hp}{p:Addr}{o:HO}{F0 H0:Hp}(g:Gr F0 H0 F H)(h0:H0 p=none)(hF:F p=none)(h:H p=some o):Gr F0 H0 (upd F p o) H:=by
 refine⟨λb u q=>?_,λb u q=>?_,λb u q r=>?_⟩
 .have:=g.ff b u q
  rw[zm (zj this hF)];exact this
 .by_cases e:b=p
  .subst e;rw[zn]at q;rw[<-q];exact h
  .rw[zm e]at q;exact g.fh b u q
 .have e:b≠p:=zj r h0
  obtain⟨x,y⟩:=g.kp b u q r
  refine⟨?_,y⟩
  unfold Hid
  rw[zm e]
  exact x
abbrev Ev:=List (Option D)
def VAt (F:Hp)(ρ:Ev)(σ:St):Prop:=∀ (i:Nat) (d:D),ρ[i]?=some (some d)->∃ v,σ[i]?=some (some v)/\At F d v
theorem VAt.mono {F F':Hp}{ρ:Ev}{σ:St}(h:VAt F ρ σ)(s:zZ F F'):VAt F' ρ σ:=λi d e=>let ⟨v,e1,a⟩:=h i d e;⟨v,e1,a.mono s⟩
def RE (t:TE)(f:Ev->Option D):Prop :=
 ∀ (σ:St) (ρ:Ev) (F H:Hp) (d:D) (Q:VK),zZ F H->VAt F ρ σ->f ρ=some d->(∀ F' H' v,Gr F H F' H'->At F' d v->Q v H')->t σ H Q
def RT (t:TT)(f:Ev->Option Bool):Prop :=
 ∀ (σ:St) (ρ:Ev) (F H:Hp) (b:Bool) (Q:Bool->Hp->Prop),zZ F H->VAt F ρ σ->f ρ=some b->(∀ F' H',Gr F H F' H'->Q b H')->t σ H Q
def RA (t:TA)(f:Ev->Option (List D)):Prop :=
 ∀ (σ:St) (ρ:Ev) (F H:Hp) (ds:List D) (Q:List V->Hp->Prop),zZ F H->VAt F ρ σ->f ρ=some ds->(∀ F' H' vs,Gr F H F' H'->AtL F' ds vs->Q vs H')->t σ H Q
def RF (t:TE)(f:Ev->Option (List D)):Prop :=
 ∀ (σ:St) (ρ:Ev) (F H:Hp) (ds:List D) (Q:VK),zZ F H->VAt F ρ σ->f ρ=some ds->(∀ F' H' p xs,Gr F H F' H'->H p=none->F' p=none->H' p=some (.lst xs)->AtL F' ds xs->Q (.ref p) H')->t σ H Q
def ED (X:Cx)(e:Expr)(f:Ev->Option D):Prop:=∃ t,PE X e t/\RE t f
def TD (X:Cx)(e:Expr)(f:Ev->Option Bool):Prop:=∃ t,PT X e t/\RT t f
def WD (X:Cx)(e:Expr)(f:Ev->Option Bool):Prop:=∃ t,PW X e t/\RT t f
def AD (X:Cx)(es:List Expr)(f:Ev->Option (List D)):Prop:=∃ t,PA X es t/\RA t f
def FL (X:Cx)(e:Expr)(f:Ev->Option (List D)):Prop:=∃ t,PE X e t/\RF t f
section
variable {X:Cx}{a b c:Expr}{pos:Pos}
def x8 (f:Ev->Option (List D)):Ev->Option D:=fun ρ=>(f ρ).map .lst
theorem x3 {f:Ev->Option (List D)}(h:FL X a f):ED X a (x8 f):=by
 obtain⟨t,ht,r⟩:=h
 refine⟨t,ht,fun σ ρ F H d Q s va e q=>?_⟩
 obtain⟨ds,e1,rfl⟩:=u9.mp e
 refine r σ ρ F H ds Q s va e1 λF' H' p xs g h0 hF hH hx=>?_
 have g2:=g.show h0 hF hH
 exact q _ _ _ g2 (At.lst zn (hx.mono (λb u e=>by rw[zm (zj e hF)];exact e)))
def zg (i:Nat):Ev->Option D:=fun ρ=>(ρ[i]?).getD none
theorem zk0 (i:Nat)(h:PE X a (zaz i)):ED X a (zg i):=by
 refine⟨_,h,fun σ ρ F H d Q s va e q=>?_⟩
 have e':ρ[i]?=some (some d):=by
  unfold zg at e
  cases h:ρ[i]? with
  | none=>rw[h]at e;cases e
  | some x=>rw[h]at e;cases x with
   | none=>cases e
   | some y=>cases e;rfl
 obtain⟨v,e1,a1⟩:=va i d e'
 exact⟨v,e1,q _ _ _ (.refl s) a1⟩
def eC (d:D):Ev->Option D:=λ_=>some d
theorem ze {i:Int}(h:PE X a (tC (.int i))):ED X a (eC (.int i)):=⟨_,h,λ_ _ _ _ _ _ s _ e q=>by cases e;exact q _ _ _ (.refl s) .int⟩
theorem xB {i:Bool}(h:PE X a (tC (.bl i))):ED X a (eC (.bl i)):=⟨_,h,λ_ _ _ _ _ _ s _ e q=>by cases e;exact q _ _ _ (.refl s) .bl⟩
theorem zhN {i:Str}(h:PE X a (tC (.str i))):ED X a (eC (.str i)):=⟨_,h,λ_ _ _ _ _ _ s _ e q=>by cases e;exact q _ _ _ (.refl s) .str⟩
theorem XD (h:PE X a (tC .non)):ED X a (eC .non):=⟨_,h,λ_ _ _ _ _ _ s _ e q=>by cases e;exact q _ _ _ (.refl s) .non⟩
def OpD (r:R2)(g:D->D->Option D):Prop :=
 ∀ (F H:Hp) (x y:V) (d e z:D) (Q:VK),zZ F H->At F d x->At F e y->g d e=some z->(∀ F' H' v,Gr F H F' H'->At F' z v->Q v H')->r x y H Q
def zp (g:D->D->Option D)(f h:Ev->Option D):Ev->Option D:=fun ρ=>(f ρ).bind λx=>(h ρ).bind λy=>g x y
theorem zhl {r:R2}{g:D->D->Option D}{ta tb:TE}{f h:Ev->Option D}(hg:OpD r g)(ra:RE ta f)(rb:RE tb h):RE (tOp r ta tb) (zp g f h):=by
 intro σ ρ F H z Q s va e q
 obtain⟨x,e1,e⟩:=u5.mp e
 obtain⟨y,e2,e⟩:=u5.mp e
 refine ra σ ρ F H x _ s va e1 λF1 H1 v g1 a1=>?_
 refine rb σ ρ F1 H1 y _ g1.fh (va.mono g1.ff) e2 λF2 H2 u g2 a2=>?_
 exact hg F2 H2 v u x y z Q g2.fh (a1.mono g2.ff) a2 e λF3 H3 w g3 a3=>q F3 H3 w ((g1.trans g2).trans g3) a3
theorem Wu {op:Operator}{r:R2}{g:D->D->Option D}{f h:Ev->Option D}(ho:OpR X (binaryOp op) r)(hg:OpD r g)(ha:ED X a f)(hb:ED X b h):ED X (.BinOp a op b pos) (zp g f h) :=
 let ⟨_,pa,ra⟩:=ha
 let ⟨_,pb,rb⟩:=hb
 ⟨_,zhy ho pa pb,zhl hg ra rb⟩
theorem ZG {op:CmpOp}{r:R2}{g:D->D->Option D}{f h:Ev->Option D}(ho:OpR X (compareOp op) r)(hg:OpD r g)(hm:behindInMarks op b=false)(ha:ED X a f)(hb:ED X b h):ED X (.Compare a [op] [b] pos) (zp g f h) :=
 let ⟨_,pa,ra⟩:=ha
 let ⟨_,pb,rb⟩:=hb
 ⟨_,ziW ho pa pb hm,zhl hg ra rb⟩
def asB:D->Option Bool
 | .bl b=>some b
 | _=>none
theorem Z4 {d:D}{b:Bool}(h:asB d=some b):d=.bl b:=by
 cases d <;> first | (cases h;rfl) | cases h
def tOf (f:Ev->Option D):Ev->Option Bool:=fun ρ=>(f ρ).bind asB
theorem zk9 {t:TE}{f:Ev->Option D}(r:RE t f):RT (zfW t) (tOf f):=by
 intro σ ρ F H b Q s va e q
 obtain⟨x,e1,e⟩:=u5.mp e
 cases Z4 e
 exact r σ ρ F H _ _ s va e1 λF1 H1 v g1 a1=>⟨b,a1.bl_inv,q F1 H1 g1⟩
theorem yl {op:CmpOp}{r:R2}{g:D->D->Option D}{f h:Ev->Option D}(ho:OpR X (compareOp op) r)(hg:OpD r g)(hm:behindInMarks op b=false)(ha:ED X a f)(hb:ED X b h):TD X (.Compare a [op] [b] pos) (tOf (zp g f h)) :=
 let ⟨_,pa,ra⟩:=ha
 let ⟨_,pb,rb⟩:=hb
 ⟨_,zaA ho pa pb hm,zk9 (zhl hg ra rb)⟩
theorem yj {f:Ev->Option D}(ha:ED X a f)(he:∀ whole,isTrue a X.env whole=(do let v<-whole;standAt a.pos;holding [v] (truthy v)):=by intro _;rfl):TD X a (tOf f) :=
 let ⟨_,pa,ra⟩:=ha
 ⟨_,zhF pa he,zk9 ra⟩
def x5 (f g:Ev->Option Bool):Ev->Option Bool:=fun ρ=>(f ρ).bind λc=>if c=true then g ρ else some false
def vD (f g:Ev->Option Bool):Ev->Option Bool:=fun ρ=>(f ρ).bind λc=>if c=true then some true else g ρ
def yd (f:Ev->Option Bool):Ev->Option Bool:=fun ρ=>(f ρ).map (!·)
theorem W7 {f:Ev->Option Bool}(ha:TD X a f):WD X (.BoolOp .And [a] pos) f:=let ⟨_,pa,ra⟩:=ha;⟨_,zjc pa,ra⟩
theorem Y0 {f:Ev->Option Bool}(ha:TD X a f):WD X (.BoolOp .Or [a] pos) f:=let ⟨_,pa,ra⟩:=ha;⟨_,zhH pa,ra⟩
theorem zcq {rest:List Expr}{f g:Ev->Option Bool}(ha:TD X a f)(hb:WD X (.BoolOp .And (b::rest) pos) g):WD X (.BoolOp .And (a::b::rest) pos) (x5 f g):=by
 obtain⟨ta,pa,ra⟩:=ha
 obtain⟨tb,pb,rb⟩:=hb
 refine⟨_,zla pa pb,fun σ ρ F H z Q s va e q=>?_⟩
 obtain⟨x,e1,e⟩:=u5.mp e
 refine ra σ ρ F H x _ s va e1 λF1 H1 g1=>?_
 cases x with
 | true =>
  rw[q5 rfl]at e ⊢
  exact rb σ ρ F1 H1 z Q g1.fh (va.mono g1.ff) e λF2 H2 g2=>q F2 H2 (g1.trans g2)
 | false =>
  rw[j4 u8]at e ⊢
  cases e
  exact q F1 H1 g1
theorem Zj {rest:List Expr}{f g:Ev->Option Bool}(ha:TD X a f)(hb:WD X (.BoolOp .Or (b::rest) pos) g):WD X (.BoolOp .Or (a::b::rest) pos) (vD f g):=by
 obtain⟨ta,pa,ra⟩:=ha
 obtain⟨tb,pb,rb⟩:=hb
 refine⟨_,zlG pa pb,fun σ ρ F H z Q s va e q=>?_⟩
 obtain⟨x,e1,e⟩:=u5.mp e
 refine ra σ ρ F H x _ s va e1 λF1 H1 g1=>?_
 cases x with
 | false =>
  rw[j4 u8]at e ⊢
  exact rb σ ρ F1 H1 z Q g1.fh (va.mono g1.ff) e λF2 H2 g2=>q F2 H2 (g1.trans g2)
 | true =>
  rw[q5 rfl]at e ⊢
  cases e
  exact q F1 H1 g1
theorem zcP {f:Ev->Option Bool}(h:WD X a f):TD X a f:=let ⟨_,p,r⟩:=h;⟨_,p.pt,r⟩
theorem yB {f:Ev->Option Bool}(ha:TD X a f):TD X (.UnaryOp .Not a pos) (yd f):=by
 obtain⟨ta,pa,ra⟩:=ha
 refine⟨_,zhK pa,fun σ ρ F H z Q s va e q=>?_⟩
 obtain⟨x,e1,rfl⟩:=u9.mp e
 exact ra σ ρ F H x _ s va e1 λF1 H1 g1=>q F1 H1 g1
def Zr (f g:Ev->Option D):Ev->Option D:=fun ρ=>((f ρ).bind asB).bind λc=>if c=true then g ρ else some (.bl false)
def eOr (f g:Ev->Option D):Ev->Option D:=fun ρ=>((f ρ).bind asB).bind λc=>if c=true then some (.bl true)else g ρ
def Vo (f:Ev->Option D):Ev->Option D:=fun ρ=>((f ρ).bind asB).map λc=>.bl (!c)
theorem Ym {op}{f:Ev->Option D}(ha:ED X a f):ED X (.BoolOp op [a] pos) f:=let ⟨_,pa,ra⟩:=ha;⟨_,zj0 pa,ra⟩
theorem vB {rest:List Expr}{f g:Ev->Option D}(ha:ED X a f)(hb:ED X (.BoolOp .And (b::rest) pos) g):ED X (.BoolOp .And (a::b::rest) pos) (Zr f g):=by
 obtain⟨ta,pa,ra⟩:=ha
 obtain⟨tb,pb,rb⟩:=hb
 refine⟨_,zlL pa pb,fun σ ρ F H z Q s va e q=>?_⟩
 obtain⟨x,e1,e⟩:=u5.mp e
 obtain⟨y,e1,e2⟩:=u5.mp e1
 cases Z4 e2
 refine ra σ ρ F H _ _ s va e1 λF1 H1 v g1 a1=>⟨x,a1.bl_inv,?_⟩
 cases x with
 | true =>
  rw[q5 rfl]at e ⊢
  exact rb σ ρ F1 H1 z Q g1.fh (va.mono g1.ff) e λF2 H2 w g2 a2=>q F2 H2 w (g1.trans g2) a2
 | false =>
  rw[j4 u8]at e ⊢
  cases e
  exact q F1 H1 _ g1 .bl
theorem zfB {f:Ev->Option D}(ha:ED X a f):ED X (.UnaryOp .Not a pos) (Vo f):=by
 obtain⟨ta,pa,ra⟩:=ha
 refine⟨_,zlb pa,fun σ ρ F H z Q s va e q=>?_⟩
 obtain⟨x,e1,rfl⟩:=u9.mp e
 obtain⟨y,e1,e2⟩:=u5.mp e1
 cases Z4 e2
 exact ra σ ρ F H _ _ s va e1 λF1 H1 v g1 a1=>⟨x,a1.bl_inv,q F1 H1 _ g1 .bl⟩
def eIf (t:Ev->Option Bool)(f g:Ev->Option D):Ev->Option D:=fun ρ=>(t ρ).bind λc=>if c=true then f ρ else g ρ
def eUn (g:D->Option D)(f:Ev->Option D):Ev->Option D:=fun ρ=>(f ρ).bind g
def VB:D->Option D
 | .int i=>some (.int (-i))
 | _=>none
theorem zhJ {f:Ev->Option D}(ha:ED X a f):ED X (.UnaryOp .USub a pos) (eUn VB f):=by
 obtain⟨ta,pa,ra⟩:=ha
 refine⟨_,ziF zdi pa,fun σ ρ F H z Q s va e q=>?_⟩
 obtain⟨x,e1,e⟩:=u5.mp e
 cases x <;> try cases e
 exact ra σ ρ F H _ _ s va e1 λF1 H1 v g1 a1=>⟨_,a1.int_inv,q F1 H1 _ g1 .int⟩
def zt:Ev->Option (List D):=λ_=>some []
def zb (f:Ev->Option D)(g:Ev->Option (List D)):Ev->Option (List D):=fun ρ=>(f ρ).bind λd=>(g ρ).map (d::·)
theorem zf:AD X [] zt:=⟨_,yC,λ_ _ _ _ _ _ s _ e q=>by cases e;exact q _ _ _ (.refl s) .nil⟩
theorem za {e:Expr}{es:List Expr}{f:Ev->Option D}{g:Ev->Option (List D)}(ha:ED X e f)(hr:AD X es g)(hs:starEach (e::es) X.env=(false,eval e X.env)::starEach es X.env:=by rfl):AD X (e::es) (zb f g):=by
 obtain⟨ta,pa,ra⟩:=ha
 obtain⟨tb,pb,rb⟩:=hr
 refine⟨_,zr pa pb hs,fun σ ρ F H z Q s va e q=>?_⟩
 obtain⟨x,e1,e⟩:=u5.mp e
 obtain⟨ds,e2,rfl⟩:=u9.mp e
 refine ra σ ρ F H x _ s va e1 λF1 H1 v g1 a1=>?_
 exact rb σ ρ F1 H1 ds _ g1.fh (va.mono g1.ff) e2 λF2 H2 w g2 a2=>q F2 H2 _ (g1.trans g2) (.cons (a1.mono g2.ff) a2)
def lim (n:Nat):Bool:=decide (n<=sizeLine)
def xV (g:Ev->Option (List D)):Ev->Option D:=fun ρ=>(g ρ).bind λds=>if lim ds.length=true then some (.tup ds)else none
def y6 (g:Ev->Option (List D)):Ev->Option (List D):=fun ρ=>(g ρ).bind λds=>if lim ds.length=true then some ds else none
theorem yh {es:List Expr}{x1}{g:Ev->Option (List D)}(h:AD X es g):ED X (.Tuple es x1 pos) (xV g):=by
 obtain⟨ta,pa,ra⟩:=h
 refine⟨_,zk1 pa,fun σ ρ F H z Q s va e q=>?_⟩
 obtain⟨ds,e1,e⟩:=u5.mp e
 split at e <;> cases e
 rename_i hl
 refine ra σ ρ F H ds _ s va e1 λF1 H1 vs g1 a1=>⟨by rw[a1.length];exact d8 hl,λp hp=>?_⟩
 have g2:=Gr.alloc g1.fh hp (.tup vs)
 exact q _ _ _ (g1.trans g2) (.tup zn (a1.mono g2.ff))
theorem vx {es:List Expr}{g:Ev->Option (List D)}(h:AD X es g):FL X (.List es pos) (y6 g):=by
 obtain⟨ta,pa,ra⟩:=h
 refine⟨_,Vs pa,fun σ ρ F H z Q s va e q=>?_⟩
 obtain⟨ds,e1,e⟩:=u5.mp e
 split at e <;> cases e
 rename_i hl
 refine ra σ ρ F H _ _ s va e1 λF1 H1 vs g1 a1=>⟨by rw[a1.length];exact d8 hl,λp hp=>?_⟩
 have g2:=Gr.hide g1.fh hp (.lst vs)
 have h0:H p=none:=by
  cases e:H p with
  | none=>rfl
  | some o =>
   cases e2:F p with
   | none=>rw[(g1.kp p o e2 e).2]at hp;cases hp
   | some u=>rw[g1.fh _ _ (g1.ff _ _ e2)]at hp;cases hp
 exact q _ _ _ _ (g1.trans g2) h0 (g1.fh.free hp) zn a1
end
end
end Dl
namespace Dl
open PySem L2
variable [KK]
inductive Sl where
 | no | v (d:D) | o (ds:List D) | m (t:Bool) (ks:List (List Key)) (vs:List D)
 deriving Inhabited
abbrev SE:=List Sl
def Sl.f:Sl->Option D
 | .v d=>some d
 | _=>none
def Sl.g:Sl->Option D
 | .v d=>some d
 | .o ds=>some (.lst ds)
 | .m t ks vs=>some (.dct false t ks vs)
 | .no=>none
def Sl.isO:Sl->Bool
 | .o _=>true
 | .m _ _ _=>true
 | _=>false
def visF (ρ:SE):Ev:=ρ.map Sl.f
def visG (ρ:SE):Ev:=ρ.map Sl.g
def zbF (F:Hp)(o:HO):Sl->Prop
 | .o ds=>∃ xs,o=.lst xs/\AtL F ds xs
 | .m t ks ds=>∃ xs,VM o t ks xs/\AtL F ds xs
 | _=>False
theorem zbF.mono {F F':Hp}{o:HO}{s:Sl}(h:zbF F o s)(k:zZ F F'):zbF F' o s:=by
 cases s with
 | no=>exact h
 | v d=>exact h
 | o ds=>obtain⟨xs,e,a⟩:=h;exact⟨xs,e,a.mono k⟩
 | m t ks ds=>obtain⟨xs,e,a⟩:=h;exact⟨xs,e,a.mono k⟩
theorem zbF.isO {F:Hp}{o:HO}{s:Sl}(h:zbF F o s):s.isO=true:=by
 cases s with
 | no=>exact h.elim
 | v d=>exact h.elim
 | o ds=>rfl
 | m t ks ds=>rfl
theorem zbF.ntup {F:Hp}{o:HO}{s:Sl}(h:zbF F o s)(xs:List V):o≠.tup xs:=by
 cases s with
 | no=>exact h.elim
 | v d=>exact h.elim
 | o ds=>obtain⟨ys,rfl,_⟩:=h;intro e;cases e
 | m t ks ds =>
  obtain⟨ys,e,_⟩:=h
  unfold VM at e
  split at e
  .obtain⟨kvs,rfl,_⟩:=e;intro e;cases e
  .obtain⟨kvs,rfl,_⟩:=e;intro e;cases e
theorem zbF.at {F G:Hp}{o:HO}{s:Sl}{d:D}{p:Addr}(h:zbF F o s)(e:s.g=some d)(hp:G p=some o)(k:zZ F G):At G d (.ref p):=by
 cases s with
 | no=>exact h.elim
 | v d=>exact h.elim
 | o ds =>
  cases e
  obtain⟨xs,rfl,a⟩:=h
  exact .lst hp (a.mono k)
 | m t ks ds =>
  cases e
  obtain⟨xs,e,a⟩:=h
  unfold At
  exact⟨p,xs,rfl,⟨o,e,hp⟩,a.mono k⟩
structure Rl (Fb Hb F H:Hp) (ρ:SE) (σ:St):Prop where
 gr:Gr Fb Hb F H
 vals:∀ (i:Nat) (d:D),ρ[i]?=some (.v d)->∃ v,σ[i]?=some (some v)/\At F d v
 ows:∀ (i:Nat) (s:Sl),ρ[i]?=some s->s.isO=true->∃ p o,σ[i]?=some (some (.ref p))/\Hb p=none/\F p=none/\H p=some o/\zbF F o s
 dis:∀ (i j:Nat) (p:Addr) (s t:Sl),ρ[i]?=some s->ρ[j]?=some t->s.isO=true->t.isO=true->σ[i]?=some (some (.ref p))->σ[j]?=some (some (.ref p))->i=j
 len:ρ.length=σ.length
section
variable {Fb Hb F H F' H':Hp}{ρ ρ':SE}{σ σ':St}
theorem Rl.owns (r:Rl Fb Hb F H ρ σ)(i:Nat)(ds:List D)(e:ρ[i]?=some (.o ds)):∃ p xs,σ[i]?=some (some (.ref p))/\Hb p=none/\F p=none/\H p=some (.lst xs)/\AtL F ds xs:=by
 obtain⟨p,o,e1,e2,e3,e4,xs,rfl,a⟩:=r.ows i _ e rfl
 exact⟨p,xs,e1,e2,e3,e4,a⟩
theorem Rl.grow (r:Rl Fb Hb F H ρ σ)(g:Gr F H F' H'):Rl Fb Hb F' H' ρ σ:=by
 refine⟨r.gr.trans g,λi d e=>?_,λi s e h=>?_,r.dis,r.len⟩
 .obtain⟨v,e1,a⟩:=r.vals i d e
  exact⟨v,e1,a.mono g.ff⟩
 .obtain⟨p,o,e1,e2,e3,e4,a⟩:=r.ows i s e h
  obtain⟨k1,k2⟩:=g.kl a.ntup e3 e4
  exact⟨p,o,e1,e2,k1,k2,a.mono g.ff⟩
theorem Rl.visF (r:Rl Fb Hb F H ρ σ):VAt F (visF ρ) σ:=λi d e=>by
 unfold Dl.visF at e
 rw[d6]at e
 cases h:ρ[i]? with
 | none=>rw[h]at e;cases e
 | some x =>
  rw[h]at e
  cases x with
  | no=>cases e
  | v d' =>
   cases e
   exact r.vals i d h
  | o ds=>cases e
  | m t ks ds=>cases e
def Own (ρ:SE)(σ:St)(p:Addr):Prop:=∃ (i:Nat) (s:Sl),ρ[i]?=some s/\s.isO=true/\σ[i]?=some (some (.ref p))
open Classical in
noncomputable def gOf (ρ:SE)(σ:St)(F H:Hp):Hp:=λp=>if Own ρ σ p then H p else F p
open Classical in
noncomputable def fOf (ρ:SE)(σ:St)(G:Hp):Hp:=λp=>if Own ρ σ p then none else G p
theorem Rl.own (r:Rl Fb Hb F H ρ σ){p:Addr}(h:Own ρ σ p):Hb p=none/\F p=none/\∃ o,H p=some o/\∀ xs,o≠.tup xs:=by
 obtain⟨i,s,e1,e2,e3⟩:=h
 obtain⟨q,o,e4,e5,e6,e7,a⟩:=r.ows i s e1 e2
 rw[e3]at e4
 cases e4
 exact⟨e5,e6,o,e7,a.ntup⟩
theorem Rl.notown (r:Rl Fb Hb F H ρ σ){q:Addr}(h:H q=none)(j:Nat)(s:Sl)(e1:ρ[j]?=some s)(e2:s.isO=true):σ[j]?≠some (some (.ref q)):=λe=>by
 obtain⟨p,o,f1,_,_,f4,_⟩:=r.ows j s e1 e2
 rw[e]at f1
 cases f1
 rw[h]at f4
 cases f4
theorem Rl.notbase (r:Rl Fb Hb F H ρ σ){q:Addr}(h:H q=none):Hb q=none:=by
 cases z:Hb q with
 | none=>rfl
 | some o =>
  cases z2:Fb q with
  | none=>rw[(r.gr.kp q o z2 z).2]at h;cases h
  | some u=>rw[r.gr.fh _ _ (r.gr.ff _ _ z2)]at h;cases h
theorem Rl.fg (r:Rl Fb Hb F H ρ σ):zZ F (gOf ρ σ F H):=λp o e=>by
 unfold gOf
 split
 .exact r.gr.fh p o e
 .exact e
theorem Rl.gh (r:Rl Fb Hb F H ρ σ):zZ (gOf ρ σ F H) H:=λp o e=>by
 unfold gOf at e
 split at e
 .exact e
 .exact r.gr.fh p o e
theorem Rl.visG (r:Rl Fb Hb F H ρ σ):VAt (gOf ρ σ F H) (visG ρ) σ:=λi d e=>by
 unfold Dl.visG at e
 rw[d6]at e
 cases h:ρ[i]? with
 | none=>rw[h]at e;cases e
 | some x =>
  rw[h]at e
  have e:x.g=some d:=u0m e
  have own:x.isO=true->∃ v,σ[i]?=some (some v)/\At (gOf ρ σ F H) d v:=λhx=>by
   obtain⟨p,o,e1,e2,e3,e4,a⟩:=r.ows i x h hx
   refine⟨_,e1,a.at e ?_ r.fg⟩
   unfold gOf
   rw[q5 ⟨i,x,h,hx,e1⟩]
   exact e4
  cases x with
  | no=>cases e
  | v d' =>
   cases e
   obtain⟨v,e1,a⟩:=r.vals i d h
   exact⟨v,e1,a.mono r.fg⟩
  | o ds=>exact own rfl
  | m t ks ds=>exact own rfl
theorem Rl.back {G':Hp}(r:Rl Fb Hb F H ρ σ)(g:Gr (gOf ρ σ F H) H G' H'):Gr F H (fOf ρ σ G') H'/\∀ q xs,G' q=some (.tup xs)->fOf ρ σ G' q=some (.tup xs):=by
 refine⟨⟨λp o e=>?_,λp o e=>?_,λp o e1 e2=>?_⟩,λq xs e=>?_⟩
 .unfold fOf
  rw[j4 (λh=>by rw[(r.own h).2.1]at e;cases e)]
  exact g.ff p o (r.fg p o e)
 .unfold fOf at e
  split at e
  .cases e
  .exact g.fh p o e
 .by_cases h:Own ρ σ p
  .refine⟨.inl (by unfold fOf;rw[q5 h]),g.fh p o (g.ff p o ?_)⟩
   unfold gOf
   rw[q5 h]
   exact e2
  .obtain⟨x,y⟩:=g.kp p o (by unfold gOf;rw[j4 h];exact e1) e2
   refine⟨?_,y⟩
   unfold Hid fOf
   rw[j4 h]
   exact x
 .unfold fOf
  rw[j4 (λh=>?_)]
  .exact e
  .obtain⟨_,_,o,e2,n⟩:=r.own h
   have:G' q=some o:=g.ff q _ (by unfold gOf;rw[q5 h];exact e2)
   rw[this]at e
   cases e
   exact n xs rfl
theorem Rl.out {G':Hp}(r:Rl Fb Hb F H ρ σ)(g:Gr (gOf ρ σ F H) H G' H'):Gr Fb Hb G' H':=by
 refine⟨λp o e=>g.ff p o (r.fg p o (r.gr.ff p o e)),g.fh,λp o e1 e2=>?_⟩
 obtain⟨k1,k2⟩:=r.gr.kp p o e1 e2
 have e3:gOf ρ σ F H p=F p:=by
  unfold gOf
  rw[j4 (λh=>by rw[(r.own h).1]at e2;cases e2)]
 rcases k1 with k1 | ⟨k1,k3⟩
 .exact g.kp p o (by rw[e3];exact k1) k2
 .have:=g.ff p o (by rw[e3];exact k3)
  exact⟨.inr ⟨k1,this⟩,g.fh _ _ this⟩
theorem Rl.set (r:Rl Fb Hb F H ρ σ){i:Nat}{d:D}{v:V}(a:At F d v):Rl Fb Hb F H (ρ.set i (.v d)) (σ.set i (some v)):=by
 have nj:∀ {j:Nat} {s:Sl},(ρ.set i (.v d))[j]?=some s->s.isO=true->i≠j:=λ{j s} h ho e=>by
  subst e
  rw[u1X]at h
  simp only[u3a]at h
  split at h <;> cases h
  cases ho
 refine⟨r.gr,λj e h=>?_,λj s h ho=>?_,λj k p s t h1 h2 o1 o2 h3 h4=>?_,by simp[r.len]⟩
 .by_cases hj:i=j
  .subst hj
   rw[u1X]at h
   simp only[u3a]at h
   split at h
   .rename_i hl
    cases h
    refine⟨v,?_,a⟩
    rw[u1X]
    simp[<-r.len,hl]
   .cases h
  .rw[d7 hj]at h ⊢
   exact r.vals j e h
 .have hj:=nj h ho
  rw[d7 hj]at h ⊢
  exact r.ows j s h ho
 .have a1:=nj h1 o1
  have a2:=nj h2 o2
  rw[d7 a1]at h1 h3
  rw[d7 a2]at h2 h4
  exact r.dis j k p s t h1 h2 o1 o2 h3 h4
theorem Rl.setW (r:Rl Fb Hb F H ρ σ){i:Nat}{w:Sl}{p:Addr}{o:HO}(h0:Hb p=none)(hF:F p=none)(hH:H p=some o)(a:zbF F o w)
 (nw:∀ (j:Nat) (s:Sl),ρ[j]?=some s->s.isO=true->σ[j]?≠some (some (.ref p))):Rl Fb Hb F H (ρ.set i w) (σ.set i (some (.ref p))):=by
 have at_i:∀ {s:Sl},(ρ.set i w)[i]?=some s->i < ρ.length/\s=w:=λ{s} h=>by
  rw[u1X]at h
  simp only[u3a]at h
  split at h
  .rename_i hl
   cases h
   exact⟨hl,rfl⟩
  .cases h
 have st_i:i < ρ.length->(σ.set i (some (V.ref p)))[i]?=some (some (.ref p)):=λhl=>by
  rw[u1X]
  simp[<-r.len,hl]
 refine⟨r.gr,λj e h=>?_,λj s h ho=>?_,λj k q s t h1 h2 o1 o2 h3 h4=>?_,by simp[r.len]⟩
 .by_cases hj:i=j
  .subst hj
   have e:=(at_i h).2
   have:=a.isO
   rw[<-e]at this
   cases this
  .rw[d7 hj]at h ⊢
   exact r.vals j e h
 .by_cases hj:i=j
  .subst hj
   obtain⟨hl,e⟩:=at_i h
   subst e
   exact⟨p,o,st_i hl,h0,hF,hH,a⟩
  .rw[d7 hj]at h ⊢
   exact r.ows j s h ho
 .by_cases hj:i=j
  .subst hj
   by_cases hk:i=k
   .exact hk
   .obtain⟨hl,_⟩:=at_i h1
    rw[st_i hl]at h3
    cases h3
    rw[d7 hk]at h2 h4
    exact absurd h4 (nw k t h2 o2)
  .by_cases hk:i=k
   .subst hk
    obtain⟨hl,_⟩:=at_i h2
    rw[st_i hl]at h4
    cases h4
    rw[d7 hj]at h1 h3
    exact absurd h3 (nw j s h1 o1)
   .rw[d7 hj]at h1 h3
    rw[d7 hk]at h2 h4
    exact r.dis j k q s t h1 h2 o1 o2 h3 h4
theorem Rl.setO (r:Rl Fb Hb F H ρ σ){i:Nat}{ds:List D}{p:Addr}{xs:List V}(h0:Hb p=none)(hF:F p=none)(hH:H p=some (.lst xs))(a:AtL F ds xs)
 (nw:∀ (j:Nat) (s:Sl),ρ[j]?=some s->s.isO=true->σ[j]?≠some (some (.ref p))):Rl Fb Hb F H (ρ.set i (.o ds)) (σ.set i (some (.ref p))):=r.setW h0 hF hH ⟨xs,rfl,a⟩ nw
theorem Rl.mutW (r:Rl Fb Hb F H ρ σ){i:Nat}{w w':Sl}{p:Addr}{o':HO}(e:ρ[i]?=some w)(hw:w.isO=true)(e1:σ[i]?=some (some (.ref p)))(a:zbF F o' w'):Rl Fb Hb F (upd H p o') (ρ.set i w') σ:=by
 obtain⟨q,o,e2,h0,hF,hH,_⟩:=r.ows i w e hw
 rw[e1]at e2
 cases e2
 have hi:i < ρ.length:=(t6.mp e).1
 have neP:∀ {j:Nat} {s:Sl} {q:Addr},i≠j->ρ[j]?=some s->s.isO=true->σ[j]?=some (some (.ref q))->q≠p:=λ{j s q} hne h1 ho h2 z=>by
  subst z
  exact hne (r.dis i j q w s e h1 hw ho e1 h2)
 refine⟨⟨r.gr.ff,λb o z=>?_,λb o z1 z2=>?_⟩,λj d h=>?_,λj s h ho=>?_,λj k q s t h1 h2 o1 o2 h3 h4=>?_,by simp[r.len]⟩
 .rw[zm (zj z hF)]
  exact r.gr.fh b o z
 .rw[zm (zj z2 h0)]
  exact r.gr.kp b o z1 z2
 .by_cases hj:i=j
  .subst hj
   rw[i6 hi]at h
   cases h
   exact(Bool.noConfusion a.isO)
  .rw[d7 hj]at h
   exact r.vals j d h
 .by_cases hj:i=j
  .subst hj
   rw[i6 hi]at h
   cases h
   exact⟨p,o',e1,h0,hF,zn,a⟩
  .rw[d7 hj]at h
   obtain⟨q,z,f1,f2,f3,f4,f5⟩:=r.ows j s h ho
   refine⟨q,z,f1,f2,f3,?_,f5⟩
   rw[zm (neP hj h ho f1)]
   exact f4
 .have back:∀ {j:Nat} {s:Sl},(ρ.set i w')[j]?=some s->s.isO=true->∃ s',ρ[j]?=some s'/\s'.isO=true:=λ{j s} h ho=>by
   by_cases hj:i=j
   .subst hj;exact⟨w,e,hw⟩
   .rw[d7 hj]at h;exact⟨s,h,ho⟩
  obtain⟨f1,g1,g1'⟩:=back h1 o1
  obtain⟨f2,g2,g2'⟩:=back h2 o2
  exact r.dis j k q f1 f2 g1 g2 g1' g2' h3 h4
theorem Rl.mutate (r:Rl Fb Hb F H ρ σ){i:Nat}{ds es:List D}{p:Addr}{ys:List V}(e:ρ[i]?=some (.o ds))(e1:σ[i]?=some (some (.ref p)))(a:AtL F es ys):Rl Fb Hb F (upd H p (.lst ys)) (ρ.set i (.o es)) σ :=
 r.mutW e rfl e1 ⟨ys,rfl,a⟩
def Sl.fz:Sl->Sl
 | .o ds=>.v (.lst ds)
 | .m t ks vs=>.v (.dct false t ks vs)
 | s=>s
def zl4 (ρ:SE)(i:Nat):SE:=ρ.set i ((ρ[i]?).getD .no).fz
theorem Rl.freeze (r:Rl Fb Hb F H ρ σ)(i:Nat):∃ F',Rl Fb Hb F' H (zl4 ρ i) σ:=by
 unfold zl4
 cases h:ρ[i]? with
 | none =>
  refine⟨F,?_⟩
  rw[List.set_eq_of_length_le (List.getElem?_eq_none_iff.mp h)]
  exact r
 | some s =>
  have hi:i < ρ.length:=(t6.mp h).1
  have same:s.fz=s->∃ F',Rl Fb Hb F' H (ρ.set i ((some s).getD .no).fz) σ:=λe=>by
   refine⟨F,?_⟩
   show Rl Fb Hb F H (ρ.set i s.fz) σ
   rw[e]
   have:ρ.set i s=ρ:=by
    apply u3A
    intro j
    by_cases hj:i=j
    .subst hj;rw[i6 hi,h]
    .rw[d7 hj]
   rw[this]
   exact r
  have give:∀ d,s.isO=true->s.g=some d->s.fz=.v d->∃ F',Rl Fb Hb F' H (ρ.set i ((some s).getD .no).fz) σ:=λd ho hg hz=>by
   obtain⟨p,o,e1,e2,e3,e4,a⟩:=r.ows i s h ho
   have sF:zZ F (upd F p o):=λb u e=>by rw[zm (zj e e3)];exact e
   show ∃ F',Rl Fb Hb F' H (ρ.set i s.fz) σ
   rw[hz]
   have nj:∀ {j:Nat} {t:Sl},(ρ.set i (.v d))[j]?=some t->t.isO=true->i≠j:=λ{j t} h ht e=>by
    subst e
    rw[i6 hi]at h
    cases h
    cases ht
   refine⟨upd F p o,r.gr.show e2 e3 e4,λj e z=>?_,λj t z ht=>?_,λj k q t u h1 h2 o1 o2 h3 h4=>?_,by simp[r.len]⟩
   .by_cases hj:i=j
    .subst hj
     rw[i6 hi]at z
     cases z
     exact⟨_,e1,a.at hg zn sF⟩
    .rw[d7 hj]at z
     obtain⟨v,f1,f2⟩:=r.vals j e z
     exact⟨v,f1,f2.mono sF⟩
   .have hj:=nj z ht
    rw[d7 hj]at z
    obtain⟨q,y,f1,f2,f3,f4,f5⟩:=r.ows j t z ht
    refine⟨q,y,f1,f2,?_,f4,f5.mono sF⟩
    rw[zm (λw=>hj (r.dis i j p s t h z ho ht e1 (by rw[<-w];exact f1)))]
    exact f3
   .have a1:=nj h1 o1
    have a2:=nj h2 o2
    rw[d7 a1]at h1
    rw[d7 a2]at h2
    exact r.dis j k q t u h1 h2 o1 o2 h3 h4
  cases s with
  | no=>exact same rfl
  | v d=>exact same rfl
  | o ds=>exact give _ rfl rfl rfl
  | m t ks ds=>exact give _ rfl rfl rfl
end
inductive Ctl where
 | nx (ρ:SE) | rt (d:D) | bk (ρ:SE) | ct (ρ:SE) | no
 deriving Inhabited
def SOk (Fb Hb:Hp)(E:zaq):Ctl->Prop
 | .nx ρ=>∀ F H σ,Rl Fb Hb F H ρ σ->E.nx σ H
 | .bk ρ=>∀ F H σ,Rl Fb Hb F H ρ σ->E.bk σ H
 | .ct ρ=>∀ F H σ,Rl Fb Hb F H ρ σ->E.ct σ H
 | .rt d=>∀ F H v,Gr Fb Hb F H->At F d v->E.rt v H
 | .no=>False
def RS (t:TS)(g:SE->Ctl):Prop:=∀ (Fb Hb F H:Hp) (ρ:SE) (σ:St) (E:zaq),Rl Fb Hb F H ρ σ->SOk Fb Hb E (g ρ)->t E σ H
def SD (X:Cx)(st:Stmt)(g:SE->Ctl):Prop:=∃ t,PS X st t/\RS t g
def SDs (X:Cx)(sts:List Stmt)(g:SE->Ctl):Prop:=∃ t,PSs X sts t/\RS t g
section
variable {X:Cx}{st:Stmt}{sts:List Stmt}{a b c e:Expr}{pos pos':Pos}
def zV:SE->Ctl:=.nx
def yn (g h:SE->Ctl):SE->Ctl:=fun ρ=>match g ρ with
 | .nx ρ'=>h ρ'
 | .rt d=>.rt d
 | .bk ρ'=>.bk ρ'
 | .ct ρ'=>.ct ρ'
 | .no=>.no
theorem zE:SDs X [] zV:=⟨_,zbg,λ_ _ F H ρ σ E r h=>h F H σ r⟩
theorem zh {g h:SE->Ctl}(h1:SD X st g)(h2:SDs X sts h):SDs X (st::sts) (yn g h):=by
 obtain⟨t,p,r⟩:=h1
 obtain⟨u,p2,r2⟩:=h2
 refine⟨_,we p p2,λFb Hb F H ρ σ E rl k=>?_⟩
 refine r Fb Hb F H ρ σ { E with nx:=u E } rl ?_
 unfold yn at k
 cases e:g ρ with
 | nx ρ' =>
  rw[e]at k
  exact λF' H' σ' rl'=>r2 Fb Hb F' H' ρ' σ' E rl' k
 | rt d=>rw[e]at k;exact k
 | bk d=>rw[e]at k;exact k
 | ct d=>rw[e]at k;exact k
 | no=>rw[e]at k;exact k
theorem zi {g:SE->Ctl}(h1:SD X st g):SDs X [st] g:=let ⟨_,p,r⟩:=h1;⟨_,Yw p,r⟩
def sFz (i:Nat)(g:SE->Ctl):SE->Ctl:=fun ρ=>g (zl4 ρ i)
theorem zea {g:SE->Ctl}(i:Nat)(h:SDs X sts g):SDs X sts (sFz i g):=by
 obtain⟨t,p,r⟩:=h
 refine⟨_,p,λFb Hb F H ρ σ E rl k=>?_⟩
 obtain⟨F',rl'⟩:=rl.freeze i
 exact r Fb Hb F' H _ σ E rl' k
def sNo:SE->Ctl:=λ_=>.no
theorem YR:SD X st sNo:=⟨_,zcf,λ_ _ _ _ _ _ _ _ h=>h.elim⟩
def yR (f:Ev->Option D):SE->Ctl:=fun ρ=>match f (visG ρ) with
 | some d=>.rt d
 | none=>.no
theorem zz {f:Ev->Option D}(h:ED X e f):SD X (.Return (some e) pos) (yR f):=by
 obtain⟨t,p,r⟩:=h
 refine⟨_,V0 p,λFb Hb F H ρ σ E rl k=>?_⟩
 unfold yR at k
 cases h:f (visG ρ) with
 | none=>rw[h]at k;exact k.elim
 | some d =>
  rw[h]at k
  exact r σ _ _ H d _ rl.gh rl.visG h λF' H' v g av=>k F' H' v (rl.out g) av
def YE:SE->Ctl:=λ_=>.rt .non
def vEv (m:Bool)(f:Ev->Option D)(ρ:SE):Option D:=if m=true then (f (visG ρ)).bind λd=>if noL d=true then some d else none else f (visF ρ)
theorem RE.at {Fb Hb F H:Hp}{ρ:SE}{σ:St}{m:Bool}{f:Ev->Option D}{t:TE}{d:D}{Q:VK}(r:RE t f)(rl:Rl Fb Hb F H ρ σ)(h:vEv m f ρ=some d)(q:∀ F' H' v,Gr F H F' H'->At F' d v->Q v H'):t σ H Q:=by
 unfold vEv at h
 cases m with
 | false =>
  rw[j4 u8]at h
  exact r σ _ _ H d _ rl.gr.fh rl.visF h q
 | true =>
  rw[q5 rfl]at h
  obtain⟨d',h1,h2⟩:=u5.mp h
  split at h2 <;> cases h2
  rename_i hn
  refine r σ _ _ H d _ rl.gh rl.visG h1 λF' H' v g av=>?_
  obtain⟨g2,fl⟩:=rl.back g
  exact q _ H' v g2 (av.flat fl hn)
def wS (m:Bool)(i:Nat)(f:Ev->Option D):SE->Ctl:=fun ρ=>match vEv m f ρ with
 | some d=>.nx (ρ.set i (.v d))
 | none=>.no
theorem yV {m:Bool}{i:Nat}{x:Str}{f:Ev->Option D}(hN:X.N.Nodup)(hi:X.N[i]?=some x)(hx:Loc X.env.scope x)(he:ED X e f)(hs:swapsWith e (some (.Name x pos')) pos.line X.env=pure false:=by rfl)
 (hf:X.fn x=true\/X.env.scope.names.lookup x=some .local:=by first | exact .inl rfl | exact .inr rfl | assumption):SD X (.Assign [.Name x pos'] e pos) (wS m i f):=by
 obtain⟨t,p,r⟩:=he
 refine⟨_,ZC hN hi hx p hs hf,λFb Hb F H ρ σ E rl k=>?_⟩
 unfold wS at k
 cases h:vEv m f ρ with
 | none=>rw[h]at k;exact k.elim
 | some d =>
  rw[h]at k
  exact r.at rl h λF' H' v g av=>k F' H' _ ((rl.grow g).set av)
def XT (f:Ev->Option D):SE->Ctl:=fun ρ=>match f (visG ρ) with
 | some _=>.nx ρ
 | none=>.no
theorem Vj {f:Ev->Option D}(he:ED X e f)(hs:swapsWith e none pos.line X.env=pure false:=by rfl):SD X (.Expr e pos) (XT f):=by
 obtain⟨t,p,r⟩:=he
 refine⟨_,zaX p hs,λFb Hb F H ρ σ E rl k=>?_⟩
 unfold XT at k
 cases h:f (visG ρ) with
 | none=>rw[h]at k;exact k.elim
 | some d =>
  rw[h]at k
  exact r σ _ _ H d _ rl.gh rl.visG h λF' H' v g av=>k _ H' σ (rl.grow (rl.back g).1)
def X4 (i:Nat)(f:Ev->Option (List D)):SE->Ctl:=fun ρ=>match f (visF ρ) with
 | some ds=>.nx (ρ.set i (.o ds))
 | none=>.no
theorem zd9 {i:Nat}{x:Str}{f:Ev->Option (List D)}(hN:X.N.Nodup)(hi:X.N[i]?=some x)(hx:Loc X.env.scope x)(he:FL X e f)(hs:swapsWith e (some (.Name x pos')) pos.line X.env=pure false:=by rfl)
 (hf:X.fn x=true\/X.env.scope.names.lookup x=some .local:=by first | exact .inl rfl | exact .inr rfl | assumption):SD X (.Assign [.Name x pos'] e pos) (X4 i f):=by
 obtain⟨t,p,r⟩:=he
 refine⟨_,ZC hN hi hx p hs hf,λFb Hb F H ρ σ E rl k=>?_⟩
 unfold X4 at k
 cases h:f (visF ρ) with
 | none=>rw[h]at k;exact k.elim
 | some ds =>
  rw[h]at k
  refine r σ _ _ H ds _ rl.gr.fh rl.visF h λF' H' q xs g h0 hF hH hx=>?_
  have rl2:=rl.grow g
  exact k F' H' _ (rl2.setO (rl.notbase h0) hF hH hx (rl.notown h0))
def sIf (t:Ev->Option Bool)(g h:SE->Ctl):SE->Ctl:=fun ρ=>match t (visG ρ) with
 | some true=>g ρ
 | some false=>h ρ
 | none=>.no
theorem yU {as bs:List Stmt}{t:Ev->Option Bool}{g h:SE->Ctl}(hc:TD X c t)(ha:SDs X as g)(hb:SDs X bs h):SD X (.If c as bs pos) (sIf t g h):=by
 obtain⟨tc,pc,rc⟩:=hc
 obtain⟨ta,pa,ra⟩:=ha
 obtain⟨tb,pb,rb⟩:=hb
 refine⟨_,zg2 pc pa pb,λFb Hb F H ρ σ E rl k=>?_⟩
 unfold sIf at k
 cases h:t (visG ρ) with
 | none=>rw[h]at k;exact k.elim
 | some d =>
  rw[h]at k
  refine rc σ _ _ H d _ rl.gh rl.visG h λF' H' g=>?_
  have rl2:=rl.grow (rl.back g).1
  cases d with
  | true=>rw[q5 rfl];exact ra Fb Hb _ H' ρ σ E rl2 k
  | false=>rw[j4 u8];exact rb Fb Hb _ H' ρ σ E rl2 k
def RG (t:TG)(b:D->SE->Option SE):Prop:=∀ (Fb Hb F H:Hp) (ρ ρ':SE) (σ:St) (d:D) (v:V) (Q:St->Hp->Prop),Rl Fb Hb F H ρ σ->At F d v->b d ρ=some ρ'->(∀ σ',Rl Fb Hb F H ρ' σ'->Q σ' H)->t v σ H Q
def RGs (t:TGs)(b:List D->SE->Option SE):Prop:=∀ (Fb Hb F H:Hp) (ρ ρ':SE) (σ:St) (ds:List D) (vs:List V) (Q:St->Hp->Prop),Rl Fb Hb F H ρ σ->AtL F ds vs->b ds ρ=some ρ'->(∀ σ',Rl Fb Hb F H ρ' σ'->Q σ' H)->t vs σ H Q
def BD (X:Cx)(tg:Expr)(b:D->SE->Option SE):Prop:=∃ t,PG X tg t/\RG t b
def BDs (X:Cx)(tgs:List Expr)(b:List D->SE->Option SE):Prop:=∃ t,PGs X tgs t/\RGs t b
def yW (i:Nat):D->SE->Option SE:=λd ρ=>some (ρ.set i (.v d))
theorem yK {i:Nat}(h:PG X a (YX i)):BD X a (yW i):=by
 refine⟨_,h,λFb Hb F H ρ ρ' σ d v Q rl av e q=>?_⟩
 cases e
 exact q _ (rl.set av)
def X6:List D->SE->Option SE
 | [],ρ=>some ρ
 | _,_=>none
def xH (b:D->SE->Option SE)(c:List D->SE->Option SE):List D->SE->Option SE
 | d::ds,ρ=>(b d ρ).bind (c ds)
 | [],_=>none
theorem Zf:BDs X [] X6:=by
 refine⟨_,zem,λFb Hb F H ρ ρ' σ ds vs Q rl av e q=>?_⟩
 cases ds with
 | nil=>cases e;exact⟨av.nil_inv,q _ rl⟩
 | cons _ _=>cases e
theorem yX {es:List Expr}{b:D->SE->Option SE}{c:List D->SE->Option SE}(h1:BD X e b)(h2:BDs X es c)
 (hs:(assignEach (e::es) X.env).map (·.2)=assign e X.env::(assignEach es X.env).map (·.2):=by rfl):BDs X (e::es) (xH b c):=by
 obtain⟨t,p,r⟩:=h1
 obtain⟨u,p2,r2⟩:=h2
 refine⟨_,Vd p p2 hs,λFb Hb F H ρ ρ' σ ds vs Q rl av e q=>?_⟩
 cases ds with
 | nil=>cases e
 | cons d ds =>
  obtain⟨x,xs,rfl,a1,a2⟩:=av.cons_inv
  obtain⟨ρ1,e1,e2⟩:=u5.mp e
  exact⟨x,xs,rfl,r Fb Hb F H ρ ρ1 σ d x _ rl a1 e1 fun σ1 rl1=>r2 Fb Hb F H ρ1 ρ' σ1 ds xs Q rl1 a2 e2 q⟩
def XR (n:Nat)(c:List D->SE->Option SE):D->SE->Option SE
 | .tup ds,ρ=>if ds.length=n then c ds ρ else none
 | _,_=>none
theorem Ws {es:List Expr}{k:Nat}{n:Nat}{c:List D->SE->Option SE}(hc:X.calm=true)(h:BDs X es c)
 (hn:(assignEach es X.env).length=n:=by rfl) (hst:(assignEach es X.env).findIdx? (·.1)=none:=by rfl):BD X (.Tuple es k pos) (XR n c):=by
 obtain⟨t,p,r⟩:=h
 refine⟨_,zh5 hc p hn hst,λFb Hb F H ρ ρ' σ d v Q rl av e q=>?_⟩
 cases d with
 | tup ds =>
  unfold XR at e
  dsimp only at e
  split at e
  .rename_i hl
   obtain⟨a,xs,rfl,hx,al⟩:=av.tup_inv
   exact⟨a,xs,rfl,SqT.of (rl.gr.fh _ _ hx),by rw[al.length];exact hl,r Fb Hb F H ρ ρ' σ ds xs Q rl al e q⟩
  .cases e
 | _=>cases e
def zcg (m:Bool)(f:Ev->Option D)(b:D->SE->Option SE):SE->Ctl:=fun ρ=>match (vEv m f ρ).bind λd=>b d ρ with
 | some ρ'=>.nx ρ'
 | none=>.no
def zb4 (m:Bool)(i:Nat)(fk fe:Ev->Option D):SE->Ctl:=fun ρ=>match (vEv m fe ρ).bind λd=>(fk (visG ρ)).bind λk=>match ρ[i]?,k with
 | some (.o ds),.int k=>(ixN ds.length k).map λj=>ρ.set i (.o (ds.set j d))
 | _,_=>none with
 | some ρ'=>.nx ρ'
 | none=>.no
end
end Dl
namespace L2
open PySem PySem.Spec PyProof.Rows
section
variable {X:Cx}{tg:Expr}
def iSeq (K:W.Frag)(tl:TE):TI:=fun σ H R=>tl σ H λx H1=>(∃ a,x=.ref a/\(∃ xs,SqL K H1 a xs)/\R (Itl K a) H1)\/(∃ a,x=.ref a/\(∃ xs,SqT K H1 a xs)/\R (Itt K a) H1)
theorem zlI {l:Expr}{tl:TE}(hl:PE X l tl):PI X tg l (iSeq X.K tl):=by
 intro pins s σ H R I h
 refine thn (hl pins s σ H _ I h) λv s1 hh9=>?_
 obtain⟨x,H1,I1,r1,q1⟩:=hh9
 rcases q1 with ⟨a,e,⟨xs,hq⟩,q⟩ | ⟨a,e,⟨xs,hq⟩,q⟩
 .subst e
  cases r1
  obtain⟨its,rv,p,hz⟩:=I1.list hq
  refine u1i p.isList ?_
  refine⟨s1.heap.objs.size,[s1.heap.objs.size],_,_,H1,rfl,I1.kept (t':=s1.toks) λb o e=>u4 _ e,zdJ a _,⟨_,j7 _ rfl,rfl,rfl⟩,λb hb=>?_,q⟩
  have e:b=s1.heap.objs.size:=by simpa using hb
  subst e
  exact I1.fpOk (j3 _) (I1.hok.fresh (j3 _))
 .subst e
  cases r1
  obtain⟨its,rv,p,hz⟩:=I1.tuple hq
  refine u0G (show s1.heap.IsTuple a its.toArray from p) ?_
  refine⟨s1.heap.objs.size,[s1.heap.objs.size],_,_,H1,rfl,I1.kept (t':=s1.toks) λb o e=>u4 _ e,zcZ a _,⟨_,j7 _ rfl,rfl,rfl⟩,λb hb=>?_,q⟩
  have e:b=s1.heap.objs.size:=by simpa using hb
  subst e
  exact I1.fpOk (j3 _) (I1.hok.fresh (j3 _))
end
end L2
namespace Dl
open PySem L2
variable [KK]
def zky (J:It)(F:Hp)(ds:List D):Prop:=∀ (i:Nat) (F2 H2:Hp),zZ F F2->zZ F2 H2->(i=ds.length->J.stop i H2) /\
 ∀ d,ds[i]?=some d->J.go i H2/\∀ x H3,J.yld i H2 x H3->∃ F3,Gr F2 H2 F3 H3/\At F3 d x
def RI (wi:TI)(f:Ev->Option (List D)):Prop :=
 ∀ (σ:St) (ρ:Ev) (F H:Hp) (ds:List D) (R:It->Hp->Prop),zZ F H->VAt F ρ σ->f ρ=some ds->(∀ F' H' J,Gr F H F' H'->zky J F' ds->R J H')->wi σ H R
def ID (X:Cx)(tg iter:Expr)(f:Ev->Option (List D)):Prop:=∃ wi,PI X tg iter wi/\RI wi f
def wc:D->Option (List D)
 | .lst ds=>some ds
 | .tup ds=>some ds
 | _=>none
section
variable {X:Cx}{tg a b c e:Expr}{pos:Pos}
theorem zkF {K:W.Frag}{F:Hp}{p:Addr}{xs:List V}{ds:List D}(h:F p=some (.lst xs))(al:AtL F ds xs):zky (Itl K p) F ds:=by
 intro i F2 H2 s1 s2
 have q:SqL K H2 p xs:=SqL.of (s2 _ _ (s1 _ _ h))
 refine⟨λhl=>⟨xs,q,by rw[al.length,hl];exact j3 _⟩,λd hd=>?_⟩
 obtain⟨x,hx,ax⟩:=al.get hd
 refine⟨⟨xs,x,q,hx⟩,λy H3 hy=>?_⟩
 obtain⟨rfl,hy⟩:=hy
 have:=hy xs q
 rw[hx]at this
 cases this
 exact⟨F2,.refl s2,ax.mono s1⟩
theorem zlE {K:W.Frag}{F:Hp}{p:Addr}{xs:List V}{ds:List D}(h:F p=some (.tup xs))(al:AtL F ds xs):zky (Itt K p) F ds:=by
 intro i F2 H2 s1 s2
 have q:SqT K H2 p xs:=SqT.of (s2 _ _ (s1 _ _ h))
 refine⟨λhl=>⟨xs,q,by rw[al.length,hl];exact j3 _⟩,λd hd=>?_⟩
 obtain⟨x,hx,ax⟩:=al.get hd
 refine⟨⟨xs,x,q,hx⟩,λy H3 hy=>?_⟩
 obtain⟨rfl,hy⟩:=hy
 have:=hy xs q
 rw[hx]at this
 cases this
 exact⟨F2,.refl s2,ax.mono s1⟩
def iOf (f:Ev->Option D):Ev->Option (List D):=fun ρ=>(f ρ).bind wc
theorem XF {f:Ev->Option D}(ha:ED X a f):ID X tg a (iOf f):=by
 obtain⟨t,p,r⟩:=ha
 refine⟨_,zlI p,fun σ ρ F H ds R s va e q=>?_⟩
 obtain⟨d,e1,e2⟩:=u5.mp e
 refine r σ ρ F H d _ s va e1 λF1 H1 v g1 a1=>?_
 cases d <;> try cases e2
 .obtain⟨p,xs,rfl,hx,al⟩:=a1.tup_inv
  exact .inr ⟨p,rfl,⟨xs,SqT.of (g1.fh _ _ hx)⟩,q F1 H1 _ g1 (zlE hx al)⟩
 .obtain⟨p,xs,rfl,hx,al⟩:=a1.lst_inv
  exact .inl ⟨p,rfl,⟨xs,SqL.of (g1.fh _ _ hx)⟩,q F1 H1 _ g1 (zkF hx al)⟩
def ZW (lo:Int)(n:Nat):List D:=(List.range n).map λk:Nat=>.int (lo+k)
theorem zbL {F:Hp}(lo:Int)(n:Nat):zky (Itr lo n) F (ZW lo n):=by
 intro i F2 H2 s1 s2
 have hlen:(ZW lo n).length=n:=by unfold ZW;simp
 refine⟨λhl=>by rw[hlen]at hl;rw[hl];exact j3 _,λd hd=>?_⟩
 have hi:i < n:=by
  have:=(t6.mp hd).1
  omega
 refine⟨hi,λy H3 hy=>?_⟩
 obtain⟨rfl,rfl⟩:=hy
 refine⟨F2,.refl s2,?_⟩
 unfold ZW at hd
 rw[d6,u20 hi]at hd
 cases hd
 exact .int
@[irreducible] def zfQ (j:Int):Bool:=decide (-(2 ^ 62)<=j/\j < 2 ^ 62)
omit [KK] in
theorem yc {j:Int}:zfQ j=true↔-(2 ^ 62)<=j/\j < 2 ^ 62:=by unfold zfQ;exact decide_eq_true_iff
def Y5:List D->Option (List D)
 | [.int j]=>if zfQ j=true then some (ZW 0 j.toNat)else none
 | _=>none
def Y7:List D->Option (List D)
 | [.int i,.int j]=>if zfQ i=true/\zfQ j=true then some (ZW i (j - i).toNat)else none
 | _=>none
def XQ (g:List D->Option (List D))(f:Ev->Option (List D)):Ev->Option (List D):=fun ρ=>(f ρ).bind g
theorem zd1 {p:Pos} {f:Ev->Option (List D)} (hg:Gl X "range") (hm:X.mg "range"=none) (ha:AD X [a] f) (hs:starEach [a] X.env=[(false,eval a X.env)]:=by rfl):ID X tg (.Call (.Name "range" p) [a] [] pos) (XQ Y5 f):=by
 obtain⟨t,pa,r⟩:=ha
 refine⟨_,VV hg hm pa hs,fun σ ρ F H ds R s va e q=>?_⟩
 obtain⟨d,e1,e2⟩:=u5.mp e
 refine r σ ρ F H d _ s va e1 λF1 H1 v g1 a1=>?_
 unfold Y5 at e2
 split at e2
 .split at e2
  .cases e2
   rename_i hc
   obtain⟨x,r',rfl,ax,ar⟩:=a1.cons_inv
   cases ar.nil_inv
   exact⟨_,by rw[ax.int_inv],(yc.mp hc).1,(yc.mp hc).2,q F1 H1 _ g1 (zbL 0 _)⟩
  .cases e2
 .cases e2
theorem zeX {p:Pos} {f:Ev->Option (List D)} (hg:Gl X "range") (hm:X.mg "range"=none) (ha:AD X [a,b] f) (hs:starEach [a,b] X.env=[(false,eval a X.env),(false,eval b X.env)]:=by rfl) (hs2:starEach [b] X.env=[(false,eval b X.env)]:=by rfl) :
 ID X tg (.Call (.Name "range" p) [a,b] [] pos) (XQ Y7 f):=by
 obtain⟨t,pa,r⟩:=ha
 refine⟨_,zac hg hm pa hs hs2,fun σ ρ F H ds R s va e q=>?_⟩
 obtain⟨d,e1,e2⟩:=u5.mp e
 refine r σ ρ F H d _ s va e1 λF1 H1 v g1 a1=>?_
 unfold Y7 at e2
 split at e2
 .split at e2
  .cases e2
   rename_i hc
   obtain⟨x,r',rfl,ax,ar⟩:=a1.cons_inv
   obtain⟨y,r',rfl,ay,ar⟩:=ar.cons_inv
   cases ar.nil_inv
   exact⟨_,_,by rw[ax.int_inv,ay.int_inv],⟨(yc.mp hc.1).1,(yc.mp hc.1).2,(yc.mp hc.2).1,(yc.mp hc.2).2⟩,q F1 H1 _ g1 (zbL _ _)⟩
  .cases e2
 .cases e2
def YC (n:Nat):List D->List D
 | []=>[]
 | d::ds=>.tup [.int n,d]::YC (n+1) ds
omit [KK] in
theorem xA (ds:List D):∀ (n i:Nat),(YC n ds)[i]?=(ds[i]?).map λd=>.tup [.int ((n+i:Nat):Int),d]:=by
 induction ds with
 | nil=>intro n i;simp[YC]
 | cons d ds ih =>
  intro n i
  cases i with
  | zero=>simp[YC]
  | succ i =>
   show(YC (n+1) ds)[i]?=(ds[i]?).map _
   rw[ih]
   have:n+1+i=n+(i+1):=by omega
   rw[this]
omit [KK] in
theorem xf (ds:List D):∀ n,(YC n ds).length=ds.length:=by
 induction ds with
 | nil=>intro n;rfl
 | cons d ds ih=>intro n;simp[YC,ih]
def xc (f:Ev->Option (List D)):Ev->Option (List D):=fun ρ=>(f ρ).bind λas=>match as with
 | [d]=>(wc d).map (YC 0)
 | _=>none
theorem Xt {es:List Expr} {k:Nat} {tp p:Pos} {f:Ev->Option (List D)} (hg:Gl X "enumerate") (hm:X.mg "enumerate"=none) (hb:bootBuiltins "enumerate"=some (.type "enumerate")) (ha:AD X [a] f)
 (hs:starEach [a] X.env=[(false,eval a X.env)]:=by rfl):ID X (.Tuple es k tp) (.Call (.Name "enumerate" p) [a] [] pos) (xc f):=by
 obtain⟨t,pa,r⟩:=ha
 refine⟨_,zjv hg hm hb pa hs,fun σ ρ F H ds R s va e q=>?_⟩
 obtain⟨as,e1,e2⟩:=u5.mp e
 refine r σ ρ F H as _ s va e1 λF1 H1 v g1 a1=>?_
 split at e2
 .obtain⟨x,r',rfl,ax,ar⟩:=a1.cons_inv
  cases ar.nil_inv
  obtain⟨es,e3,rfl⟩:=u9.mp e2
  rename_i d
  cases d <;> try cases e3
  .obtain⟨p,xs,rfl,hx,al⟩:=ax.tup_inv
   refine⟨p,rfl,.inr ⟨xs,SqT.of (g1.fh _ _ hx),q F1 H1 _ g1 λi F2 H2 s1 s2=>?_⟩⟩
   have qq:SqT X.K H2 p xs:=SqT.of (s2 _ _ (s1 _ _ hx))
   refine⟨λhl=>⟨xs,qq,by rw[al.length,hl,xf];exact j3 _⟩,λd hd=>?_⟩
   rw[xA]at hd
   obtain⟨d',hd',rfl⟩:=u9.mp hd
   obtain⟨x,hxi,ax⟩:=al.get hd'
   refine⟨⟨xs,x,qq,hxi⟩,λy H3 hy=>?_⟩
   obtain⟨T,y,rfl,hT,rfl,hy⟩:=hy
   have:=hy xs qq
   rw[hxi]at this
   cases this
   have g3:=Gr.alloc s2 hT (.tup [.int i,x])
   exact⟨_,g3,.tup zn (.cons (by rw[u0f];exact .int) (.cons (ax.mono (s1.trans g3.ff)) .nil))⟩
  .obtain⟨p,xs,rfl,hx,al⟩:=ax.lst_inv
   refine⟨p,rfl,.inl ⟨xs,g1.fh _ _ hx,q F1 H1 _ g1 λi F2 H2 s1 s2=>?_⟩⟩
   have qq:SqL X.K H2 p xs:=SqL.of (s2 _ _ (s1 _ _ hx))
   refine⟨λhl=>⟨xs,qq,by rw[al.length,hl,xf];exact j3 _⟩,λd hd=>?_⟩
   rw[xA]at hd
   obtain⟨d',hd',rfl⟩:=u9.mp hd
   obtain⟨x,hxi,ax⟩:=al.get hd'
   refine⟨⟨xs,x,qq,hxi⟩,λy H3 hy=>?_⟩
   obtain⟨T,y,rfl,hT,rfl,hy⟩:=hy
   have:=hy xs qq
   rw[hxi]at this
   cases this
   have g3:=Gr.alloc s2 hT (.tup [.int i,x])
   exact⟨_,g3,.tup zn (.cons (by rw[u0f];exact .int) (.cons (ax.mono (s1.trans g3.ff)) .nil))⟩
 .cases e2
def hb2 (F1 Hb:Hp):Hp:=λp=>match F1 p with
 | some o=>some o
 | none=>Hb p
theorem ZY {F1 Hb:Hp}{p:Addr}(h:F1 p=none):hb2 F1 Hb p=Hb p:=by unfold hb2;rw[h]
theorem zgo {F1 Hb:Hp}{p:Addr}{o:HO}(h:F1 p=some o):hb2 F1 Hb p=some o:=by unfold hb2;rw[h]
theorem Gr.up {Fb Hb F1 H1 F H:Hp}(g1:Gr Fb Hb F1 H1)(g:Gr F1 (hb2 F1 Hb) F H):Gr Fb Hb F H:=by
 refine⟨g1.ff.trans g.ff,g.fh,λp o e1 e2=>?_⟩
 rcases(g1.kp p o e1 e2).1 with n | ⟨n1,n2⟩
 .exact g.kp p o n (by rw[ZY n];exact e2)
 .exact⟨.inr ⟨n1,g.ff _ _ n2⟩,g.fh _ _ (g.ff _ _ n2)⟩
theorem Gr.dn {Fb Hb F1 F H:Hp}(g:Gr Fb Hb F H)(s1:zZ Fb F1)(s:zZ F1 F):Gr F1 (hb2 F1 Hb) F H:=by
 refine⟨s,g.fh,λp o e1 e2=>?_⟩
 rw[ZY e1]at e2
 exact g.kp p o (s1.free e1) e2
theorem Rl.up {Fb Hb F1 H1 F H:Hp}{ρ:SE}{σ:St}(g1:Gr Fb Hb F1 H1)(r:Rl F1 (hb2 F1 Hb) F H ρ σ):Rl Fb Hb F H ρ σ:=by
 refine⟨g1.up r.gr,r.vals,λi s e ho=>?_,r.dis,r.len⟩
 obtain⟨p,o,e1,e2,e3⟩:=r.ows i s e ho
 refine⟨p,o,e1,?_,e3⟩
 cases h:F1 p with
 | none=>rw[ZY h]at e2;exact e2
 | some o=>rw[zgo h]at e2;cases e2
theorem Rl.dn {Fb Hb F1 F H:Hp}{ρ:SE}{σ:St}(r:Rl Fb Hb F H ρ σ)(s1:zZ Fb F1)(s:zZ F1 F):Rl F1 (hb2 F1 Hb) F H ρ σ:=by
 refine⟨r.gr.dn s1 s,r.vals,λi t e ho=>?_,r.dis,r.len⟩
 obtain⟨p,o,e1,e2,e3,e4⟩:=r.ows i t e ho
 refine⟨p,o,e1,?_,e3,e4⟩
 rw[ZY (s.free e3)]
 exact e2
def zdY (b:D->SE->Option SE)(g:SE->Ctl):List D->SE->Ctl
 | [],ρ=>.nx ρ
 | d::ds,ρ=>match b d ρ with
  | none=>.no
  | some ρ1=>match g ρ1 with
   | .nx ρ'=>zdY b g ds ρ'
   | .ct ρ'=>zdY b g ds ρ'
   | .bk ρ'=>.nx ρ'
   | .rt d=>.rt d
   | .no=>.no
def ZK (f:Ev->Option (List D))(b:D->SE->Option SE)(g:SE->Ctl):SE->Ctl:=fun ρ=>match f (visF ρ) with
 | some ds=>zdY b g ds ρ
 | none=>.no
theorem zej {Fb Hb F1 H1:Hp}{ρ:SE}{σ:St}{E:zaq}{J:It}{g:TG}{tb:TS}{ds:List D}{b:D->SE->Option SE}{gb:SE->Ctl}(hit:zky J F1 ds)(rg:RG g b)(rb:RS tb gb)(rl0:Rl Fb Hb F1 H1 ρ σ)(k:SOk Fb Hb E (zdY b gb ds ρ)) :
 ∃ W:Nat->Nat->St->Hp->Prop,(∃ m,W 0 m σ H1)/\∀ i m σ H,W i m σ H ->
  (J.stop i H/\E.nx σ H)\/(J.go i H/\∃ N:St->Hp->Prop,(∀ σ' H',N σ' H'->∃ m',m' < m/\W (i+1) m' σ' H')/\∀ x H',J.yld i H x H'->g x σ H' fun σ2 H2=>tb { E with nx:=N,ct:=N,bk:=E.nx } σ2 H2):=by
 refine⟨λi m σ H=>m=ds.length - i/\i<=ds.length/\∃ F ρ,zZ F1 F/\Rl Fb Hb F H ρ σ/\SOk Fb Hb E (zdY b gb (ds.drop i) ρ),⟨ds.length,by simp,u0F _,F1,ρ,zZ.refl _,rl0,k⟩,?_⟩
 rintro i m σ H ⟨rfl,hi,F,ρ,s1,rl,k⟩
 obtain⟨stop,go⟩:=hit i F H s1 rl.gr.fh
 by_cases hlt:i < ds.length
 .have hd:ds.drop i=ds[i]::ds.drop (i+1):=u1v hlt
  rw[hd]at k
  unfold zdY at k
  obtain⟨g1,g2⟩:=go ds[i] (by simp[hlt])
  refine .inr ⟨g1,fun σ H=>∃ F ρ,zZ F1 F/\Rl Fb Hb F H ρ σ/\SOk Fb Hb E (zdY b gb (ds.drop (i+1)) ρ),fun σ' H' w=>⟨ds.length - (i+1),by omega,rfl,hlt,w⟩,λx H' hy=>?_⟩
  obtain⟨F3,g3,a3⟩:=g2 x H' hy
  cases hb:b ds[i] ρ with
  | none=>rw[hb]at k;exact k.elim
  | some ρ1 =>
   rw[hb]at k
   dsimp only at k
   refine rg Fb Hb F3 H' ρ ρ1 σ _ x _ (rl.grow g3) a3 hb fun σ2 rl2=>?_
   have s3:=s1.trans g3.ff
   refine rb F1 (hb2 F1 Hb) F3 H' ρ1 σ2 _ (rl2.dn rl0.gr.ff s3) ?_
   cases hg:gb ρ1 with
   | nx ρ'=>rw[hg]at k;exact λF4 H4 σ4 r4=>⟨F4,ρ',r4.gr.ff,r4.up rl0.gr,k⟩
   | ct ρ'=>rw[hg]at k;exact λF4 H4 σ4 r4=>⟨F4,ρ',r4.gr.ff,r4.up rl0.gr,k⟩
   | bk ρ'=>rw[hg]at k;exact λF4 H4 σ4 r4=>k F4 H4 σ4 (r4.up rl0.gr)
   | rt d=>rw[hg]at k;exact λF4 H4 v g4 a4=>k F4 H4 v (rl0.gr.up g4) a4
   | no=>rw[hg]at k;exact k.elim
 .have e:i=ds.length:=by omega
  subst e
  rw[u2J]at k
  exact .inl ⟨stop rfl,k F H σ rl⟩
theorem Xh {iter:Expr}{body:List Stmt}{f:Ev->Option (List D)}{b:D->SE->Option SE}{g:SE->Ctl}(hp:PassesOwn (model X.prog X.w) X.A X.env X.xe)(hc:X.calm=true)(hi:ID X tg iter f)(hg:BD X tg b)(hb:SDs X body g)
 (hs:∀ x,foldedSetIterable iter X.env x=pure x:=by intro _;rfl):SD X (.For tg iter body [] pos) (ZK f b g):=by
 obtain⟨wi,pi,ri⟩:=hi
 obtain⟨tg',pg,rg⟩:=hg
 obtain⟨tb,pb,rb⟩:=hb
 refine⟨_,zbT hp hc pi pg pb hs,λFb Hb F H ρ σ E rl k=>?_⟩
 unfold ZK at k
 cases h:f (visF ρ) with
 | none=>rw[h]at k;exact k.elim
 | some ds =>
  rw[h]at k
  exact ri σ _ _ H ds _ rl.gr.fh rl.visF h λF1 H1 J g1 ok=>zej ok rg rb (rl.grow g1) k
end
def lcD (b:D->Option (List (Option D)))(t:Ev->Option Bool)(f:Ev->Option D)(ρ:Ev):List D->Option (List D)
 | []=>some []
 | d::ds=>(b d).bind λown=>(t (own++ρ)).bind λc=>if c=true then (f (own++ρ)).bind λy=>(lcD b t f ρ ds).map (y::·)else lcD b t f ρ ds
def fLC (i:Ev->Option (List D))(b:D->Option (List (Option D)))(t:Ev->Option Bool)(f:Ev->Option D):Ev->Option (List D):=fun ρ=>(i ρ).bind λds=>if lim ds.length=true then lcD b t f ρ ds else none
def b1:D->Option (List (Option D)):=λd=>some [some d]
def b2:D->Option (List (Option D))
 | .tup [x,y]=>some [some x,some y]
 | _=>none
def RB (n:Nat)(t:TG)(b:D->Option (List (Option D))):Prop:=∀ (σ:St) (ρ:Ev) (F H:Hp) (d:D) (v:V) (own:List (Option D)) (Q:St->Hp->Prop),zZ F H->VAt F ρ σ->At F d v->b d=some own->(∀ σ',VAt F (own++ρ) σ'->Q σ' H)->t v (List.replicate n none++σ) H Q
def wg:Ev->Option Bool:=λ_=>some true
theorem zkR:RT tYes wg:=λ_ _ _ _ _ _ s _ e q=>by cases e;exact q _ _ (.refl s)
theorem zlS {wi:TI}{n:Nat}{g:TG}{tt:TT}{te:TE}{fi:Ev->Option (List D)}{b:D->Option (List (Option D))}{ft:Ev->Option Bool}{fe:Ev->Option D}(ri:RI wi fi)(rg:RB n g b)(rt:RT tt ft)(re:RE te fe) :
 RF (tLC wi n g tt te) (fLC fi b ft fe):=by
 intro σ ρ F H out Q s va e q
 obtain⟨ds,e1,e2⟩:=u5.mp e
 split at e2 <;> try cases e2
 rename_i hlim
 have hlim:ds.length<=sizeLine:=d8 hlim
 refine ri σ ρ F H ds _ s va e1 λF1 H1 J g1 ok=>?_
 intro P hP
 have hF1:F1 P=none:=g1.fh.free hP
 have hH0:H P=none:=by
  cases e:H P with
  | none=>rfl
  | some o =>
   cases e2:F P with
   | none=>rw[(g1.kp P o e2 e).2]at hP;cases hP
   | some u=>rw[g1.fh _ _ (g1.ff _ _ e2)]at hP;cases hP
 refine⟨λi m ys H2=>m=ds.length - i/\i<=ds.length/\∃ F2 done,Gr F1 H1 F2 H2/\Gr F1 (upd H1 P (.lst [])) F2 (upd H2 P (.lst []))/\F2 P=none/\H2 P=some (.lst ys)/\AtL F2 done ys/\done.length<=i/\∃ more,lcD b ft fe ρ (ds.drop i)=some more/\done++more=out,⟨ds.length,by simp,u0F _,F1,[],Gr.hide g1.fh hP _,?_,hF1,zn,.nil,u0F _,out,e2,rfl⟩,?_⟩
 .rw[ze4]
  exact .refl λb u z=>by rw[zm (zj z hF1)];exact g1.fh b u z
 rintro i m ys H2 ⟨rfl,hi,F2,done,g2,g2',hF2,hH2,al,hdl,more,hm,hout⟩
 obtain⟨stop,go⟩:=ok i F2 H2 g2.ff g2.fh
 by_cases hlt:i < ds.length
 .have hd:ds.drop i=ds[i]::ds.drop (i+1):=u1v hlt
  rw[hd]at hm
  unfold lcD at hm
  obtain⟨own,hb,hm⟩:=u5.mp hm
  obtain⟨cb,hc,hm⟩:=u5.mp hm
  obtain⟨k1,k2⟩:=go ds[i] (by simp[hlt])
  refine .inr ⟨k1,by rw[al.length];omega,λx H3 hy=>?_⟩
  obtain⟨F3,g3,a3⟩:=k2 x H3 hy
  refine rg σ ρ F3 H3 ds[i] x own _ g3.fh (va.mono (g1.ff.trans (g2.ff.trans g3.ff))) a3 hb fun σ4 va4=>?_
  refine rt σ4 _ F3 H3 cb _ g3.fh va4 hc λF5 H5 g5=>?_
  have g35:=g3.trans g5
  obtain⟨n5,h5⟩:=g35.kl (λ_ e=>by cases e) hF2 hH2
  have keep2:∀ {F6 H6:Hp} {o:HO},Gr F2 H2 F6 H6->F6 P=none->Gr F1 (upd H1 P (.lst [])) F6 (upd (upd H6 P o) P (.lst [])):=λ{F6 H6 o} g6 n6=>by
   rw[ze4]
   refine⟨g2.ff.trans g6.ff,λb u z=>?_,λb u z1 z2=>?_⟩
   .rw[zm (zj z n6)];exact g6.fh b u z
   .by_cases hbP:b=P
    .subst hbP
     rw[zn]at z2 ⊢
     exact⟨.inl n6,z2⟩
    .rw[zm hbP]at z2 ⊢
     exact(g2.trans g6).kp b u z1 z2
  have keep1:∀ {F6 H6:Hp} {o:HO},Gr F2 H2 F6 H6->F6 P=none->Gr F1 H1 F6 (upd H6 P o):=λ{F6 H6 o} g6 n6=>by
   refine⟨g2.ff.trans g6.ff,λb u z=>?_,λb u z1 z2=>?_⟩
   .rw[zm (zj z n6)];exact g6.fh b u z
   .rw[zm (zj z2 hP)]
    exact(g2.trans g6).kp b u z1 z2
  cases cb with
  | false =>
   rw[j4 u8]at hm ⊢
   have ups:H5=upd H5 P (.lst ys):=by
    funext b
    by_cases hbP:b=P
    .subst hbP;rw[zn];exact h5
    .rw[zm hbP]
   refine⟨ds.length - (i+1),by omega,rfl,hlt,F5,done,?_,?_,n5,h5,al.mono g35.ff,by omega,more,hm,hout⟩
   .rw[ups];exact keep1 g35 n5
   .have:=keep2 (o:=.lst ys) g35 n5
    rw[<-ups]at this
    exact this
  | true =>
   rw[q5 rfl]at hm ⊢
   obtain⟨y,hy,hm⟩:=u5.mp hm
   obtain⟨rest,hm',rfl⟩:=u9.mp hm
   refine re σ4 _ F5 H5 y _ g5.fh (va4.mono g5.ff) hy λF6 H6 v g6 a6=>?_
   have g36:=g35.trans g6
   obtain⟨n6,h6⟩:=g36.kl (λ_ e=>by cases e) hF2 hH2
   refine⟨h6,ds.length - (i+1),by omega,rfl,hlt,F6,done++[y],keep1 g36 n6,keep2 g36 n6,n6,zn,(al.mono g36.ff).snoc a6,by rw[d9];simp;omega,rest,hm',by rw[<-hout,u1W];rfl⟩
 .have e:i=ds.length:=by omega
  subst e
  rw[u2J]at hm
  cases hm
  rw[u0k]at hout
  subst hout
  exact .inl ⟨stop rfl,q F2 H2 P ys (g1.trans g2) hH0 hF2 hH2 al⟩
theorem rb1:RB 1 (YX 0) b1:=by
 intro σ ρ F H d v own Q s va av e q
 cases e
 refine q _ λi d' h=>?_
 cases i with
 | zero=>cases h;exact⟨v,rfl,av⟩
 | succ i=>exact va i d' h
theorem rb2 {K:W.Frag}:RB 2 (zlT K 2 (zbj (YX 0) (zbj (YX 1) zlZ))) b2:=by
 intro σ ρ F H d v own Q s va av e q
 unfold b2 at e
 split at e <;> cases e
 obtain⟨p,xs,rfl,hx,al⟩:=av.tup_inv
 obtain⟨x,r,rfl,ax,al⟩:=al.cons_inv
 obtain⟨y,r,rfl,ay,al⟩:=al.cons_inv
 cases al.nil_inv
 refine⟨p,_,rfl,SqT.of (s _ _ hx),rfl,x,_,rfl,y,_,rfl,rfl,?_⟩
 refine q _ λi d' h=>?_
 match i,h with
 | 0,h=>cases h;exact⟨x,rfl,ax⟩
 | 1,h=>cases h;exact⟨y,rfl,ay⟩
 | i+2,h=>exact va i d' h
def tCan (f:Ev->Option D):TE:=fun σ H Q=>∃ ρ F d,zZ F H/\VAt F ρ σ/\f ρ=some d/\∀ F' H' v,Gr F H F' H'->At F' d v->Q v H'
def zlC (f:Ev->Option Bool):TT:=fun σ H Q=>∃ ρ F d,zZ F H/\VAt F ρ σ/\f ρ=some d/\∀ F' H',Gr F H F' H'->Q d H'
theorem ED.can {X:Cx}{e:Expr}{f:Ev->Option D}(h:ED X e f):PE X e (tCan f):=by
 obtain⟨t,p,r⟩:=h
 rintro pins s σ H Q I ⟨ρ,F,d,h1,h2,h3,h4⟩
 exact p pins s σ H Q I (r σ ρ F H d Q h1 h2 h3 h4)
theorem TD.can {X:Cx}{e:Expr}{f:Ev->Option Bool}(h:TD X e f):PT X e (zlC f):=by
 obtain⟨t,p,r⟩:=h
 rintro pins s σ H Q I ⟨ρ,F,d,h1,h2,h3,h4⟩
 exact p pins s σ H Q I (r σ ρ F H d Q h1 h2 h3 h4)
theorem zhE {f:Ev->Option D}:RE (tCan f) f:=λ_ ρ F _ d _ h1 h2 h3 h4=>⟨ρ,F,d,h1,h2,h3,h4⟩
theorem zkB {f:Ev->Option Bool}:RT (zlC f) f:=λ_ ρ F _ d _ h1 h2 h3 h4=>⟨ρ,F,d,h1,h2,h3,h4⟩
theorem zbP {X:Cx}{elt tg iter:Expr}{L M:List Str}{scope:Scope}{cl:List (Str × Addr)}{pos:Pos}{fi:Ev->Option (List D)}{b:D->Option (List (Option D))}{fe:Ev->Option D}{g:TG}
 (hc:X.calm=true) (S:w8 X L M scope cl) (hi:ID X tg iter fi)
 (hgS:∀ (σ:St) (v:V) (H:Hp) (Q:St->Hp->Prop),g v (List.replicate L.length none++σ) H Q->g v (List.replicate L.length none++σ) H (fun σ2 H2=>ZO (List.replicate L.length none++σ) σ2/\Q σ2 H2))
 (hrb:RB L.length g b)
 (hg:∀ s₀ H₀ ex pn,PG (zdd X L M scope cl s₀ H₀ ex pn) tg g) (he:∀ s₀ H₀ ex pn,ED (zdd X L M scope cl s₀ H₀ ex pn) elt fe)
 (hs:∀ x,foldedSetIterable iter X.env x=pure x:=by intro _;rfl):FL X (.ListComp elt [⟨tg,iter,[],0⟩] scope pos) (fLC fi b wg fe):=by
 obtain⟨wi,pi,ri⟩:=hi
 exact⟨_,zhV hc S pi hgS hg (λ_ _ _ _=>ziw) (λ_ _ _ _=>(he _ _ _ _).can) hs,zlS ri hrb zkR zhE⟩
theorem zfJ {X:Cx}{elt tg iter c:Expr}{L M:List Str}{scope:Scope}{cl:List (Str × Addr)}{pos:Pos}{fi:Ev->Option (List D)}{b:D->Option (List (Option D))}{ft:Ev->Option Bool}{fe:Ev->Option D}{g:TG}
 (hc:X.calm=true) (S:w8 X L M scope cl) (hi:ID X tg iter fi)
 (hgS:∀ (σ:St) (v:V) (H:Hp) (Q:St->Hp->Prop),g v (List.replicate L.length none++σ) H Q->g v (List.replicate L.length none++σ) H (fun σ2 H2=>ZO (List.replicate L.length none++σ) σ2/\Q σ2 H2))
 (hrb:RB L.length g b)
 (hg:∀ s₀ H₀ ex pn,PG (zdd X L M scope cl s₀ H₀ ex pn) tg g) (ht:∀ s₀ H₀ ex pn,TD (zdd X L M scope cl s₀ H₀ ex pn) c ft) (he:∀ s₀ H₀ ex pn,ED (zdd X L M scope cl s₀ H₀ ex pn) elt fe)
 (hs:∀ x,foldedSetIterable iter X.env x=pure x:=by intro _;rfl):FL X (.ListComp elt [⟨tg,iter,[c],0⟩] scope pos) (fLC fi b ft fe):=by
 obtain⟨wi,pi,ri⟩:=hi
 exact⟨_,zhV hc S pi hgS hg (λ_ _ _ _=>ziV (ht _ _ _ _).can) (λ_ _ _ _=>(he _ _ _ _).can) hs,zlS ri hrb zkB zhE⟩
def fnD (n:Nat)(g:SE->Ctl)(ds:List D):Option D:=match g (ds.map .v++List.replicate (n - ds.length) .no) with
 | .rt d=>some d
 | .nx _=>some .non
 | _=>none
def spD (m:Nat)(p:List D->Option D):Sp:=λvs H Q _=>∃ ds d F,ds.length=m/\zZ F H/\AtL F ds vs/\p ds=some d/\∀ F' H' v,Gr F H F' H'->At F' d v->Q v H'
theorem zbZ {F H:Hp}{N:List Str}{ds:List D}{vs:List V}(s:zZ F H)(a:AtL F ds vs):Rl F H F H (ds.map .v++List.replicate (N.length - ds.length) .no) (L2.start N vs):=by
 have hl:=a.length
 have noO:∀ (i:Nat) (t:Sl),(ds.map Sl.v++List.replicate (N.length - ds.length) Sl.no)[i]?=some t->t.isO=true->False:=λi t h ho=>by
  by_cases hi:i < ds.length
  .rw[u0o (by simpa using hi),d6]at h
   cases e:ds[i]? with
   | none=>rw[e]at h;cases h
   | some d=>rw[e]at h;cases h;cases ho
  .rw[u0i (by simpa using hi),u1J]at h
   split at h <;> cases h
   cases ho
 refine⟨.refl s,λi d h=>?_,λi t h ho=>(noO i t h ho).elim,λi j p t u h _ ho=>(noO i t h ho).elim,?_⟩
 .by_cases hi:i < ds.length
  .rw[u0o (by simpa using hi),d6]at h
   cases e:ds[i]? with
   | none=>rw[e]at h;cases h
   | some d' =>
    rw[e]at h
    cases h
    obtain⟨x,hx,ax⟩:=a.get e
    refine⟨x,?_,ax⟩
    unfold L2.start
    rw[u0o (by simpa [hl]using hi),d6,hx]
    rfl
  .rw[u0i (by simpa using hi),u1J]at h
   split at h <;> cases h
 .unfold L2.start
  simp[hl]
theorem xQ {P:Program}{w:World}{K:W.Frag}{mg:Str->Option Value}{base:Heap}{x qual:Str}{st:Stmt}{f:Addr}{fd:FuncData}{N ps:List Str}{k:Nat}{g:SE->Ctl}(Fu:Fun K x qual st f fd)(S:zC N ps (zk st))
 (hb:∀ (cdv:Value) (A:Around) (outer:List Env) (s:Shared) (H:Hp) (E:XK),wB k (A.deeper (PyProof.Rows.envOfC qual (zk st) s.heap.objs.size f cdv))->SDs (Y6 CX0 P w K mg base N qual (zk st) f cdv A outer s H E).nox (xL st) g) :
 xC P w K mg base CX0 (k+1) f fd ps (spD ps.length (fnD N.length g)):=by
 refine Fu.ok S (λvs H Q E h=>?_) λcdv A outer s H vs Q E hr h=>?_
 .obtain⟨ds,d,F,hl,_,a,_⟩:=h
  rw[a.length];exact hl
 .obtain⟨ds,d,F,hl,sm,a,e,q⟩:=h
  obtain⟨t,p,r⟩:=hb cdv A outer s H E hr
  refine⟨t,p,r F H F H _ _ _ (zbZ sm a) ?_⟩
  unfold fnD at e
  cases hg:g (ds.map .v++List.replicate (N.length - ds.length) .no) with
  | rt d'=>rw[hg]at e;cases e;exact λF' H' v g av=>q F' H' v g av
  | nx ρ=>rw[hg]at e;cases e;exact λF' H' σ rl=>q F' H' _ rl.gr .non
  | bk ρ=>rw[hg]at e;cases e
  | ct ρ=>rw[hg]at e;cases e
  | no=>rw[hg]at e;cases e
theorem vZ {P:Program}{w:World}{K:W.Frag}{mg:Str->Option Value}{base:Heap}{f:Addr}{fd:FuncData}{ps:List Str}{k m:Nat}{p q:List D->Option D}(F:xC P w K mg base CX0 k f fd ps (spD m p))(h:∀ ds d,ds.length=m->q ds=some d->p ds=some d):xC P w K mg base CX0 k f fd ps (spD m q) :=
 F.imp λvs H Q E ⟨ds,d,F',h1,h2,h3,h4,h5⟩=>⟨ds,d,F',h1,h2,h3,h ds d h1 h4,h5⟩
def zv (m:Nat)(p:List D->Option D)(f:Ev->Option (List D)):Ev->Option D:=fun ρ=>(f ρ).bind λds=>if ds.length=m then p ds else none
theorem zeG {X:Cx}{x:Str}{k m:Nat}{f:Addr}{fd:FuncData}{ps:List Str}{p:List D->Option D}{e:Expr}{es:List Expr}{pp pos:Pos}{fa:Ev->Option (List D)}(F:xC X.prog X.w X.K X.mg X.base CX0 k f fd ps (spD m p))(hr:wB k X.A)(hg:Gl X x)(hm:X.mg x=some (.ref f))(hk:W.keepIn X.K (.ref f)=true)(hb:ZQ X.K fd ps [])
 (ha:AD X (e::es) fa) (hdb:(x == ("__debug__":Str))=false:=by decide) (he:starEach (e::es) X.env=(false,eval e X.env)::starEach es X.env:=by rfl) (hpl:(backTo pos (starEach es X.env)).any (·.1)=false:=by rfl) :
 ED X (.Call (.Name x pp) (e::es) [] pos) (zv m p fa):=by
 obtain⟨t,pa,r⟩:=ha
 refine⟨_,zeD F hr hg hm hk hb .nil zl7 pa hdb he hpl,fun σ ρ F0 H d Q s va e q=>?_⟩
 obtain⟨ds,e1,e2⟩:=u5.mp e
 split at e2 <;> try cases e2
 rename_i hl
 refine r σ ρ F0 H ds _ s va e1 λF1 H1 vs g1 a1=>?_
 refine⟨ds,d,F1,hl,g1.fh,by rw[u0k];exact a1,e2,λF' H' v g av=>q F' H' v (g1.trans g) av⟩
end Dl
namespace Dl
open PySem L2
variable [KK]
section
variable {X:Cx}{a b c e:Expr}{pos:Pos}
theorem zx:bootBuiltins "isinstance"=some (.builtin "isinstance"):=by decide +kernel
theorem vQ:bootBuiltins "len"=some (.builtin "len"):=by decide +kernel
theorem zhO:bootBuiltins "min"=some (.builtin "min"):=by decide +kernel
theorem zhD:bootBuiltins "max"=some (.builtin "max"):=by decide +kernel
theorem Xm:bootBuiltins "sorted"=some (.builtin "sorted"):=by decide +kernel
theorem zlP:bootBuiltins "all"=some (.builtin "all"):=by decide +kernel
theorem zci:bootBuiltins "int"=some (.type "int"):=by decide +kernel
theorem Xk:bootBuiltins "bool"=some (.type "bool"):=by decide +kernel
theorem yq:bootBuiltins "tuple"=some (.type "tuple"):=by decide +kernel
theorem Zc:bootBuiltins "list"=some (.type "list"):=by decide +kernel
theorem zhR:bootBuiltins "str"=some (.type "str"):=by decide +kernel
theorem xT:bootBuiltins "enumerate"=some (.type "enumerate"):=by decide +kernel
theorem zj9:bootBuiltins "zip"=some (.type "zip"):=by decide +kernel
theorem zkD:bootBuiltins "set"=some (.type "set"):=by decide +kernel
def Wd (C:Int->Int->Bool)(g:Int->Int->Int):D->D->Option D
 | .int i,.int j=>if C i j=true then some (.int (g i j))else none
 | _,_=>none
def vp (g:Int->Int->Int):D->D->Option D
 | .int i,.int j=>some (.int (g i j))
 | _,_=>none
def WQ (g:Int->Int->Bool):D->D->Option D
 | .int i,.int j=>some (.bl (g i j))
 | _,_=>none
theorem Z3 {C:Int->Int->Prop}{Cb:Int->Int->Bool}{g:Int->Int->Int}(h:∀ i j,Cb i j=true->C i j):OpD (rI C λi j=>.int (g i j)) (Wd Cb g):=by
 intro F H x y d e z Q s ax ay ez q
 cases d <;> try cases ez
 cases e <;> try cases ez
 unfold Wd at ez
 dsimp only at ez
 split at ez <;> cases ez
 rename_i hc
 exact⟨_,_,ax.int_inv,ay.int_inv,h _ _ hc,q F H _ (.refl s) .int⟩
theorem zae {g:Int->Int->Int}:OpD (rI0 λi j=>.int (g i j)) (vp g):=by
 intro F H x y d e z Q s ax ay ez q
 cases d <;> try cases ez
 cases e <;> try cases ez
 exact⟨_,_,ax.int_inv,ay.int_inv,q F H _ (.refl s) .int⟩
theorem wl {g:Int->Int->Bool}:OpD (rI0 λi j=>.bl (g i j)) (WQ g):=by
 intro F H x y d e z Q s ax ay ez q
 cases d <;> try cases ez
 cases e <;> try cases ez
 exact⟨_,_,ax.int_inv,ay.int_inv,q F H _ (.refl s) .bl⟩
theorem V4 {r r':R2}{g g':D->D->Option D}(h:OpD r g)(h':OpD r' g'):OpD (λx y H Q=>r x y H Q\/r' x y H Q) (λd e=>(g d e).or (g' d e)):=by
 intro F H x y d e z Q s ax ay ez q
 dsimp only at ez
 cases hg:g d e with
 | some z'=>rw[hg]at ez;cases ez;exact .inl (h F H x y d e z Q s ax ay hg q)
 | none=>rw[hg]at ez;exact .inr (h' F H x y d e z Q s ax ay ez q)
def zjX:D->D->Option D
 | .tup a,.tup b=>if lim (a.length+b.length)=true then some (.tup (a++b))else none
 | _,_=>none
def zde:D->D->Option (List D)
 | .lst a,.lst b=>if lim (a.length+b.length)=true then some (a++b)else none
 | _,_=>none
def ze9 (d e:D):Option D:=(zde d e).map .lst
def zkL:D->D->Option D
 | .str a,.str b=>if lim (a.length+b.length)=true then some (.str (a++b))else none
 | _,_=>none
theorem zgd {K:W.Frag}:OpD (zh4 K) zjX:=by
 intro F H x y d e z Q s ax ay ez q
 cases d <;> try cases ez
 cases e <;> try cases ez
 unfold zjX at ez
 dsimp only at ez
 split at ez <;> cases ez
 rename_i hl
 obtain⟨p,xs,rfl,hx,al⟩:=ax.tup_inv
 obtain⟨p2,ys,rfl,hy,bl⟩:=ay.tup_inv
 refine⟨p,p2,xs,ys,rfl,rfl,SqT.of (s _ _ hx),SqT.of (s _ _ hy),by rw[al.length,bl.length];exact d8 hl,λe1=>?_,λ_ e2=>?_,λ_ _ r hr=>?_⟩
 .subst e1
  have:(_:List D)=[]:=u0Z.mp al.length.symm
  subst this
  exact q F H _ (.refl s) (.tup hy bl)
 .subst e2
  have:(_:List D)=[]:=u0Z.mp bl.length.symm
  subst this
  rw[u0k]at q
  exact q F H _ (.refl s) (.tup hx al)
 .have g:=Gr.alloc s hr (.tup (xs++ys))
  exact q _ _ _ g (.tup zn ((al.append bl).mono g.ff))
theorem zg0:OpD zmi ze9:=by
 intro F H x y d e z Q s ax ay ez q
 cases d <;> try cases ez
 cases e <;> try cases ez
 unfold ze9 zde at ez
 dsimp only at ez
 split at ez <;> cases ez
 rename_i hl
 obtain⟨p,xs,rfl,hx,al⟩:=ax.lst_inv
 obtain⟨p2,ys,rfl,hy,bl⟩:=ay.lst_inv
 refine⟨p,p2,xs,ys,rfl,rfl,s _ _ hx,s _ _ hy,by rw[al.length,bl.length];exact d8 hl,λr hr=>?_⟩
 have g:=Gr.alloc s hr (.lst (xs++ys))
 exact q _ _ _ g (.lst zn ((al.append bl).mono g.ff))
theorem zhq:OpD (λx y H Q=>∃ i j,x=.str i/\y=.str j/\i.length+j.length<=sizeLine/\Q (.str (i++j)) H) zkL:=by
 intro F H x y d e z Q s ax ay ez q
 cases d <;> try cases ez
 cases e <;> try cases ez
 unfold zkL at ez
 dsimp only at ez
 split at ez <;> cases ez
 rename_i hl
 exact⟨_,_,ax.str_inv,ay.str_inv,d8 hl,q F H _ (.refl s) .str⟩
def yQ:D->D->Option D
 | .int i,.int j=>some (.int (i+j))
 | .tup a,.tup b=>if lim (a.length+b.length)=true then some (.tup (a++b))else none
 | .lst a,.lst b=>if lim (a.length+b.length)=true then some (.lst (a++b))else none
 | .str a,.str b=>if lim (a.length+b.length)=true then some (.str (a++b))else none
 | _,_=>none
theorem zaJ {r:R2}{g g':D->D->Option D}(h:OpD r g)(k:∀ d e z,g' d e=some z->g d e=some z):OpD r g':=λF H x y d e z Q s ax ay ez q=>h F H x y d e z Q s ax ay (k d e z ez) q
theorem zH {f h:Ev->Option D}(ha:ED X a f)(hb:ED X b h):ED X (.BinOp a .Add b pos) (zp yQ f h) :=
 Wu (((zk8.or zf9).or zcb).or zcE) (zaJ (V4 (V4 (V4 (zae (g:=λi j=>i+j)) zgd) zg0) zhq) λd e z h=>by
  cases d <;> try cases h
  all_goals cases e <;> try cases h
  .rfl
  .unfold yQ at h;dsimp only at h;split at h <;> cases h;rename_i hl;simp[vp,zjX,hl,ze9,zde,zkL]
  .unfold yQ at h;dsimp only at h;split at h <;> cases h;rename_i hl;simp[vp,zjX,hl,ze9,zde,zkL]
  .unfold yQ at h;dsimp only at h;split at h <;> cases h;rename_i hl;simp[vp,zjX,hl,ze9,zde,zkL]) ha hb
theorem zbl {F H F1 H1:Hp}{p:Addr}(g1:Gr F H F1 H1)(hp:H1 p=none):H p=none:=by
 cases e:H p with
 | none=>rfl
 | some o =>
  cases e2:F p with
  | none=>rw[(g1.kp p o e2 e).2]at hp;cases hp
  | some u=>rw[g1.fh _ _ (g1.ff _ _ e2)]at hp;cases hp
def Xa (i j:Int):Bool:=decide ((-(2 ^ 64) < i/\i < 2 ^ 64)\/(-(2 ^ 64) < j/\j < 2 ^ 64))
def zlY:D->D->Option (List D)
 | .lst a,.int k=>if -(2 ^ 63)<=k/\k < 2 ^ 63/\lim (a.length*k.toNat)=true then some (List.replicate k.toNat a).flatten else none
 | _,_=>none
def zf7 (d e:D):Option D:=(zlY d e).map .lst
def Yu:D->D->Option D
 | .int i,.int j=>if Xa i j=true then some (.int (i*j))else none
 | .lst a,.int k=>if -(2 ^ 63)<=k/\k < 2 ^ 63/\lim (a.length*k.toNat)=true then some (.lst (List.replicate k.toNat a).flatten)else none
 | _,_=>none
theorem zgE:OpD rRep zf7:=by
 intro F H x y d e z Q s ax ay ez q
 cases d <;> try cases ez
 cases e <;> try cases ez
 unfold zf7 zlY at ez
 dsimp only at ez
 split at ez <;> cases ez
 rename_i hl
 obtain⟨p,xs,rfl,hx,al⟩:=ax.lst_inv
 refine⟨p,_,xs,rfl,ay.int_inv,s _ _ hx,hl.1,hl.2.1,by rw[al.length];exact d8 hl.2.2,λr hr=>?_⟩
 rename_i ds k
 have g:=Gr.alloc s hr (.lst (List.replicate k.toNat xs).flatten)
 exact q _ _ _ g (.lst zn ((al.rep _).mono g.ff))
theorem Wc {f h:Ev->Option D}(ha:ED X a f)(hb:ED X b h):ED X (.BinOp a .Mult b pos) (zp Yu f h) :=
 Wu (zkV.or zlk) (zaJ (V4 (Z3 (Cb:=Xa) (g:=λi j=>i*j) λi j h=>by have h':=d8 (show decide ((-(2 ^ 64) < i/\i < 2 ^ 64)\/(-(2 ^ 64) < j/\j < 2 ^ 64))=true from h);exact h') zgE) λd e z h=>by
  cases d <;> try cases h
  all_goals cases e <;> try cases h
  .unfold Yu at h;dsimp only at h;split at h <;> cases h;rename_i hl;simp[Wd,hl]
  .unfold Yu at h;dsimp only at h;split at h <;> cases h;rename_i hl;show(zf7 _ _)=_;unfold zf7 zlY;dsimp only;rw[q5 hl];rfl) ha hb
def Wl:=vp λi j=>i - j
def xo:=Wd (λ_ j=>decide (0 < j/\j < 1606938044258990275541962092341162602522202993782792835301376)) λi j=>i / j
def xh:=Wd (λ_ j=>decide (0 < j)) λi j=>i % j
def zjN:=Wd (λ_ j=>decide (0<=j)) λi j=>i / 2 ^ j.toNat
theorem zfr {f h:Ev->Option D}(ha:ED X a f)(hb:ED X b h):ED X (.BinOp a .Sub b pos) (zp Wl f h):=Wu zkN zae ha hb
theorem zg6:OpR X (binaryOp .FloorDiv) (rI (λ_ j=>0 < j/\j < 1606938044258990275541962092341162602522202993782792835301376) λi j=>.int (i / j)):=opI λi j _ _ _ _ _ hc q=>by
 have h1:(0:Int) < j:=hc.1
 have h2:j < 1606938044258990275541962092341162602522202993782792835301376:=hc.2
 refine PyProof.Rows.floordiv_int (by omega) (by rw[u3f i (by omega)];exact q) (.inl (PyProof.noPylong_of_log2 ?_))
 have h0:j.natAbs≠0:=by omega
 have h3:j.natAbs < 1606938044258990275541962092341162602522202993782792835301376:=by omega
 have h4:j.natAbs.log2 < 200:=(Nat.log2_lt h0).mpr h3
 omega
theorem XJ {f h:Ev->Option D}(ha:ED X a f)(hb:ED X b h):ED X (.BinOp a .FloorDiv b pos) (zp xo f h):=Wu zg6 (Z3 λ_ _ h=>by have h':=d8 h;exact h') ha hb
theorem xu {f h:Ev->Option D}(ha:ED X a f)(hb:ED X b h):ED X (.BinOp a .Mod b pos) (zp xh f h):=Wu zkb (Z3 λ_ _ h=>by have h':=d8 h;exact h') ha hb
theorem zkz {f h:Ev->Option D}(ha:ED X a f)(hb:ED X b h):ED X (.BinOp a .RShift b pos) (zp zjN f h):=Wu zkX (Z3 λ_ _ h=>by have h':=d8 h;exact h') ha hb
def ltD:=WQ λi j=>decide (i < j)
def leD:=WQ λi j=>decide (i<=j)
def gtD:=WQ λi j=>decide (j < i)
def geD:=WQ λi j=>decide (j<=i)
def eqS:D->D->Option Bool
 | .non,.non=>some true
 | .int i,.int j=>some (decide (i=j))
 | .bl i,.bl j=>some (decide (i=j))
 | .str i,.str j=>some (decide (i=j))
 | .non,.int _=>some false | .int _,.non=>some false | .non,.bl _=>some false | .bl _,.non=>some false | .non,.str _=>some false | .str _,.non=>some false
 | .int _,.str _=>some false | .str _,.int _=>some false | .bl _,.str _=>some false | .str _,.bl _=>some false
 | _,_=>none
def eqD (d e:D):Option D:=(eqS d e).map .bl
def neD (d e:D):Option D:=(eqS d e).map λc=>.bl (!c)
theorem zhZ:OpD rEq eqD:=by
 intro F H x y d e z Q s ax ay ez q
 obtain⟨c,e1,rfl⟩:=u9.mp ez
 cases d <;> cases e <;> try cases e1
 .cases ax.non_inv;cases ay.non_inv;exact⟨rfl,q F H _ (.refl s) .bl⟩
 .cases ax.non_inv;cases ay.bl_inv;exact⟨rfl,q F H _ (.refl s) .bl⟩
 .cases ax.non_inv;cases ay.int_inv;exact⟨rfl,q F H _ (.refl s) .bl⟩
 .cases ax.non_inv;cases ay.str_inv;exact⟨rfl,q F H _ (.refl s) .bl⟩
 .cases ax.bl_inv;cases ay.non_inv;exact⟨rfl,q F H _ (.refl s) .bl⟩
 .cases ax.bl_inv;cases ay.bl_inv;refine⟨rfl,?_⟩;rw[show ∀ i j:Bool,decide (V.bl i=V.bl j)=decide (i=j)from λi j=>by simp];exact q F H _ (.refl s) .bl
 .cases ax.bl_inv;cases ay.str_inv;exact⟨rfl,q F H _ (.refl s) .bl⟩
 .cases ax.int_inv;cases ay.non_inv;exact⟨rfl,q F H _ (.refl s) .bl⟩
 .cases ax.int_inv;cases ay.int_inv;refine⟨rfl,?_⟩;rw[show ∀ i j:Int,decide (V.int i=V.int j)=decide (i=j)from λi j=>by simp];exact q F H _ (.refl s) .bl
 .cases ax.int_inv;cases ay.str_inv;exact⟨rfl,q F H _ (.refl s) .bl⟩
 .cases ax.str_inv;cases ay.non_inv;exact⟨rfl,q F H _ (.refl s) .bl⟩
 .cases ax.str_inv;cases ay.bl_inv;exact⟨rfl,q F H _ (.refl s) .bl⟩
 .cases ax.str_inv;cases ay.int_inv;exact⟨rfl,q F H _ (.refl s) .bl⟩
 .cases ax.str_inv;cases ay.str_inv;refine⟨rfl,?_⟩;rw[show ∀ i j:Str,decide (V.str i=V.str j)=decide (i=j)from λi j=>by simp];exact q F H _ (.refl s) .bl
theorem Yk:OpD rNe neD:=by
 intro F H x y d e z Q s ax ay ez q
 obtain⟨c,e1,rfl⟩:=u9.mp ez
 have:=zhZ F H x y d e (.bl c) (λv H'=>∃ b,v=.bl b/\Q (.bl (!b)) H') s ax ay (by unfold eqD;rw[e1];rfl) λF' H' v g av=>⟨c,av.bl_inv,q F' H' _ g .bl⟩
 obtain⟨h1,b,h2,h3⟩:=this
 cases h2
 exact⟨h1,h3⟩
def Vp:D->D->Option D
 | d,.non=>some (.bl (match d with | .non=>true | _=>false))
 | .bl a,.bl b=>some (.bl (a == b))
 | _,_=>none
def yL:D->D->Option D
 | d,.non=>some (.bl (match d with | .non=>false | _=>true))
 | .bl a,.bl b=>some (.bl (!(a == b)))
 | _,_=>none
theorem zeB {F:Hp}{d:D}{x:V}(h:At F d x):decide (x=V.non)=(match d with | .non=>true | _=>false):=by
 cases d with
 | non=>cases h.non_inv;rfl
 | bl b=>cases h.bl_inv;rfl
 | int b=>cases h.int_inv;rfl
 | str b=>cases h.str_inv;rfl
 | tup ds=>obtain⟨a,xs,rfl,_⟩:=h.tup_inv;rfl
 | lst ds=>obtain⟨a,xs,rfl,_⟩:=h.lst_inv;rfl
 | scr ds=>obtain⟨a,rfl,_⟩:=h.scr_inv;rfl
 | dct z t ks vs=>obtain⟨a,xs,rfl,_⟩:=h.dct_inv;rfl
theorem zfm:OpD (λx y H Q=>(y=.non/\Q (.bl (decide (x=.non))) H)\/∃ i j,x=.bl i/\y=.bl j/\Q (.bl (i == j)) H) Vp:=by
 intro F H x y d e z Q s ax ay ez q
 unfold Vp at ez
 split at ez
 .cases ez
  refine .inl ⟨ay.non_inv,?_⟩
  rw[zeB ax]
  have:=q F H _ (.refl s) .bl
  cases d <;> exact this
 .cases ez
  exact .inr ⟨_,_,ax.bl_inv,ay.bl_inv,q F H _ (.refl s) .bl⟩
 .cases ez
theorem zcQ:OpD (λx y H Q=>(y=.non/\Q (.bl (!decide (x=.non))) H)\/∃ i j,x=.bl i/\y=.bl j/\Q (.bl (!(i == j))) H) yL:=by
 intro F H x y d e z Q s ax ay ez q
 unfold yL at ez
 split at ez
 .cases ez
  refine .inl ⟨ay.non_inv,?_⟩
  rw[zeB ax]
  have:=q F H _ (.refl s) .bl
  cases d <;> exact this
 .cases ez
  exact .inr ⟨_,_,ax.bl_inv,ay.bl_inv,q F H _ (.refl s) .bl⟩
 .cases ez
theorem zhQ:OpR X (compareOp .Is) (λx y H Q=>(y=.non/\Q (.bl (decide (x=.non))) H)\/∃ i j,x=.bl i/\y=.bl j/\Q (.bl (i == j)) H):=zj7.or zf6
theorem zdr:OpR X (compareOp .IsNot) (λx y H Q=>(y=.non/\Q (.bl (!decide (x=.non))) H)\/∃ i j,x=.bl i/\y=.bl j/\Q (.bl (!(i == j))) H):=zjE.or zaB
def xP (g g':D->D->Option D)(f h k:Ev->Option D):Ev->Option D:=fun ρ=>(f ρ).bind λx=>(h ρ).bind λy=>((g x y).bind asB).bind λc=>if c=true then (k ρ).bind λz=>g' y z else some (.bl false)
theorem zgb {r r':R2}{g g':D->D->Option D}{ta tb tc:TE}{f h k:Ev->Option D}(hg:OpD r g)(hg':OpD r' g')(ra:RE ta f)(rb:RE tb h)(rc:RE tc k):RE (zdv r r' ta tb tc) (xP g g' f h k):=by
 intro σ ρ F H z Q s va e q
 obtain⟨x,e1,e⟩:=u5.mp e
 obtain⟨y,e2,e⟩:=u5.mp e
 obtain⟨c,e3,e⟩:=u5.mp e
 obtain⟨cd,e3,e4⟩:=u5.mp e3
 cases Z4 e4
 refine ra σ ρ F H x _ s va e1 λF1 H1 v g1 a1=>?_
 refine rb σ ρ F1 H1 y _ g1.fh (va.mono g1.ff) e2 λF2 H2 u g2 a2=>?_
 refine hg F2 H2 v u x y _ _ g2.fh (a1.mono g2.ff) a2 e3 λF3 H3 w g3 a3=>⟨c,a3.bl_inv,?_⟩
 have g123:=(g1.trans g2).trans g3
 cases c with
 | true =>
  rw[q5 rfl]at e ⊢
  obtain⟨z',e5,e6⟩:=u5.mp e
  refine rc σ ρ F3 H3 z' _ g3.fh (va.mono g123.ff) e5 λF4 H4 w4 g4 a4=>?_
  exact hg' F4 H4 u w4 y z' z Q g4.fh (a2.mono (g3.ff.trans g4.ff)) a4 e6 λF5 H5 w5 g5 a5=>q F5 H5 w5 ((g123.trans g4).trans g5) a5
 | false =>
  rw[j4 u8]at e ⊢
  cases e
  exact q F3 H3 _ g123 .bl
theorem zhA {op op':CmpOp}{r r':R2}{g g':D->D->Option D}{f h k:Ev->Option D}(ho:OpR X (compareOp op) r)(ho':OpR X (compareOp op') r')(hg:OpD r g)(hg':OpD r' g')(ha:ED X a f)(hb:ED X b h)(hc:ED X c k)
 (pch:∀ {ta tb tc:TE},PE X a ta->PE X b tb->PE X c tc->PE X (.Compare a [op,op'] [b,c] pos) (zdv r r' ta tb tc)):ED X (.Compare a [op,op'] [b,c] pos) (xP g g' f h k) :=
 let ⟨_,pa,ra⟩:=ha
 let ⟨_,pb,rb⟩:=hb
 let ⟨_,pc,rc⟩:=hc
 ⟨_,pch pa pb pc,zgb hg hg' ra rb rc⟩
def zbV:List D->Option (List Int)
 | []=>some []
 | .int b::ds=>(zbV ds).map (b::·)
 | _=>none
omit [KK] in
theorem Xf:∀ {ds:List D} {bs:List Int},zbV ds=some bs->ds=bs.map .int
 | [],bs,h=>by cases h;rfl
 | d::ds,bs,h=>by
  cases d <;> try cases h
  obtain⟨cs,h1,rfl⟩:=u9.mp h
  rw[Xf h1]
  rfl
def leT:D->D->Option D
 | .tup a,.tup b=>(zbV a).bind λns=>(zbV b).map λms=>.bl (HT.lexLe ns ms)
 | _,_=>none
theorem zfI {K:W.Frag}:OpD (rLeT K) leT:=by
 intro F H x y d e z Q s ax ay ez q
 cases d <;> try cases ez
 cases e <;> try cases ez
 obtain⟨ns,e1,e2⟩:=u5.mp ez
 obtain⟨ms,e3,rfl⟩:=u9.mp e2
 rw[Xf e1]at ax
 rw[Xf e3]at ay
 obtain⟨p,xs,rfl,hx,al⟩:=ax.tup_inv
 obtain⟨p2,ys,rfl,hy,bl⟩:=ay.tup_inv
 cases al.of_ints
 cases bl.of_ints
 exact⟨p,p2,ns,ms,rfl,rfl,SqT.of (s _ _ hx),SqT.of (s _ _ hy),q F H _ (.refl s) .bl⟩
def ixD:D->D->Option D
 | .lst ds,.int i=>atI ds i
 | .tup ds,.int i=>atI ds i
 | .scr ns,.int i=>(atI ns i).map .int
 | _,_=>none
theorem AtL.atI {F:Hp}{ds:List D}{xs:List V}{i:Int}{d:D}(al:AtL F ds xs)(h:L2.atI ds i=some d):∃ x,L2.atI xs i=some x/\At F d x:=by
 unfold L2.atI at h ⊢
 obtain⟨j,e1,e2⟩:=u5.mp h
 obtain⟨x,hx,ax⟩:=al.get e2
 exact⟨x,by rw[al.length,e1];exact hx,ax⟩
theorem zkp:OpD (rIx KK.K) ixD:=by
 intro F H x y d e z Q s ax ay ez q
 cases e <;> try (cases d <;> cases ez)
 cases ay.int_inv
 cases d with
 | lst ds =>
  obtain⟨p,xs,rfl,hx,al⟩:=ax.lst_inv
  obtain⟨v,e1,av⟩:=al.atI ez
  exact .inl ⟨p,xs,_,v,rfl,rfl,SqL.of (s _ _ hx),e1,q F H _ (.refl s) av⟩
 | tup ds =>
  obtain⟨p,xs,rfl,hx,al⟩:=ax.tup_inv
  obtain⟨v,e1,av⟩:=al.atI ez
  exact .inr (.inl ⟨p,xs,_,v,rfl,rfl,SqT.of (s _ _ hx),e1,q F H _ (.refl s) av⟩)
 | scr ns =>
  obtain⟨p,rfl,hx⟩:=ax.scr_inv
  obtain⟨n,e1,rfl⟩:=u9.mp ez
  refine .inl ⟨p,ns.map V.int,_,.int n,rfl,rfl,s.seq hx,?_,q F H _ (.refl s) .int⟩
  unfold L2.atI at e1 ⊢
  rw[u7]
  obtain⟨j,e2,e3⟩:=u5.mp e1
  rw[e2]
  show(ns.map V.int)[j]?=_
  rw[d6,e3]
  rfl
 | _=>cases ez
theorem yu {f h:Ev->Option D}(ha:ED X a f)(hb:ED X b h)(hs:zdu b)(hK:X.K=KK.K:=by rfl):ED X (.Subscript a b pos) (zp ixD f h) :=
 let ⟨_,pa,ra⟩:=ha
 let ⟨_,pb,rb⟩:=hb
 ⟨_,zmW zls pa pb hs,zhl (by rw[hK];exact zkp) ra rb⟩
def ZL {α:Type}(xs:List α)(lo hi:Option Int):List α:=(xs.drop (HT.sIx xs.length 0 lo)).take (HT.sIx xs.length xs.length hi - HT.sIx xs.length 0 lo)
theorem AtL.cut {F:Hp}{ds:List D}{xs:List V}{lo hi:Option Int}(al:AtL F ds xs):AtL F (ZL ds lo hi) (zaD xs lo hi):=by
 unfold ZL zaD
 rw[al.length]
 exact(al.drop _).take _
def OD (X:Cx)(e:Option Expr)(f:Ev->Option (Option Int)):Prop:=∃ t,PO X e t/\∀ (σ:St) (ρ:Ev) (F H:Hp) (i:Option Int) (Q:Option Int->Hp->Prop),zZ F H->VAt F ρ σ->f ρ=some i->(∀ F' H',Gr F H F' H'->Q i H')->t σ H Q
def zY:Ev->Option (Option Int):=λ_=>some none
def asI:D->Option Int
 | .int i=>some i
 | _=>none
def zP (f:Ev->Option D):Ev->Option (Option Int):=fun ρ=>((f ρ).bind asI).map some
theorem zT:OD X none zY:=⟨_,ziM,λ_ _ _ _ _ _ s _ e q=>by cases e;exact q _ _ (.refl s)⟩
theorem zK {f:Ev->Option D}(h:ED X e f):OD X (some e) (zP f):=by
 obtain⟨t,p,r⟩:=h
 refine⟨_,ziJ p,fun σ ρ F H i Q s va e q=>?_⟩
 obtain⟨j,e1,rfl⟩:=u9.mp e
 obtain⟨d,e1,e2⟩:=u5.mp e1
 cases d <;> cases e2
 exact r σ ρ F H _ _ s va e1 λF1 H1 v g1 a1=>⟨_,a1.int_inv,q F1 H1 g1⟩
def slD:D->Option Int->Option Int->Option D
 | .lst ds,lo,hi=>some (.lst (ZL ds lo hi))
 | .scr ns,lo,hi=>some (.lst ((ZL ns lo hi).map .int))
 | .tup ds,lo,hi=>some (.tup (ZL ds lo hi))
 | _,_,_=>none
def eSl (g:D->Option Int->Option Int->Option D)(f:Ev->Option D)(l h:Ev->Option (Option Int)):Ev->Option D:=fun ρ=>(f ρ).bind λd=>(l ρ).bind λlo=>(h ρ).bind λhi=>g d lo hi
omit [KK] in
theorem zgL {ns:List Int}{lo hi:Option Int}:zaD (ns.map V.int) lo hi=(ZL ns lo hi).map V.int:=by
 unfold zaD ZL
 rw[u7,u3L,List.map_drop]
end
end Dl
namespace L2
open PySem PySem.Spec PyProof.Rows
def rSlN:V->Option Int->Option Int->Hp->VK->Prop:=λx lo hi H Q=>∃ a xs,x=.ref a/\H a=some (.tup xs)/\(zaD xs lo hi=xs->Q (.ref a) H)/\∀ p,H p=none->Q (.ref p) (upd H p (.tup (zaD xs lo hi)))
theorem zjk {X:Cx}:SlR X rSlN:=by
 intro pins s σ H x v vl vu lo hi sl Q I rx hs pl pu h
 obtain⟨a,xs,rfl,hx,q1,q2⟩:=h
 by_cases hw:HT.sIx xs.length 0 lo=0/\HT.sIx xs.length xs.length hi=xs.length
 .cases rx
  obtain⟨its,r,ht,hz⟩:=I.tuple (SqT.of hx)
  have hlen:its.toArray.size=xs.length:=by rw[j6];exact r.length.symm
  refine⟨"tuple",_,u0w.lookup,ht.typeIs,?_⟩
  refine HT.own_getItem_whole ht hs pl pu (by rw[hlen];exact hw) ⟨.ref a,H,I,rfl,q1 ?_⟩
  unfold zaD
  rw[hw.1,hw.2,List.drop_zero,Nat.sub_zero,u1r]
 .exact zkg pins s σ H (.ref a) v vl vu lo hi sl Q I rx hs pl pu ⟨a,xs,rfl,SqT.of hx,hw,q2⟩
end L2
namespace Dl
open PySem L2
variable [KK]
section
variable {X:Cx}{a b c e:Expr}{pos:Pos}
theorem zF {lo hi:Option Expr}{p2:Pos}{f:Ev->Option D}{l h:Ev->Option (Option Int)}(ha:ED X a f)(hl:OD X lo l)(hh:OD X hi h)(hK:X.K=KK.K:=by rfl):ED X (.Subscript a (.Slice lo hi none p2) pos) (eSl slD f l h):=by
 obtain⟨ta,pa,ra⟩:=ha
 obtain⟨tl,ppl,rl⟩:=hl
 obtain⟨th,ph,rh⟩:=hh
 refine⟨_,zhB (zi2.or zjk) pa ppl ph,fun σ ρ F H z Q s va e q=>?_⟩
 obtain⟨d,e1,e⟩:=u5.mp e
 obtain⟨i,e2,e⟩:=u5.mp e
 obtain⟨j,e3,e⟩:=u5.mp e
 refine ra σ ρ F H d _ s va e1 λF1 H1 v g1 a1=>?_
 refine rl σ ρ F1 H1 i _ g1.fh (va.mono g1.ff) e2 λF2 H2 g2=>?_
 refine rh σ ρ F2 H2 j _ g2.fh (va.mono (g1.ff.trans g2.ff)) e3 λF3 H3 g3=>?_
 have g123:=(g1.trans g2).trans g3
 have a3:=a1.mono (g2.ff.trans g3.ff)
 cases d <;> try cases e
 .obtain⟨p,xs,rfl,hx,al⟩:=a3.tup_inv
  refine .inr ⟨p,xs,rfl,g3.fh _ _ hx,λec=>?_,λr hr=>?_⟩
  .have:=al.cut (lo:=i) (hi:=j)
   rw[ec]at this
   exact q F3 H3 _ g123 (.tup hx this)
  .have g:=Gr.alloc g3.fh hr (.tup (zaD xs i j))
   exact q _ _ _ (g123.trans g) (.tup zn (al.cut.mono g.ff))
 .obtain⟨p,xs,rfl,hx,al⟩:=a3.lst_inv
  refine .inl ⟨p,xs,rfl,SqL.of (g3.fh _ _ hx),λr hr=>?_⟩
  have g:=Gr.alloc g3.fh hr (.lst (zaD xs i j))
  exact q _ _ _ (g123.trans g) (.lst zn (al.cut.mono g.ff))
 .rename_i ns _ _
  obtain⟨p,rfl,hx⟩:=a3.scr_inv
  refine .inl ⟨p,_,rfl,(by rw[hK];exact g3.fh.seq hx),λr hr=>?_⟩
  rw[zgL]
  have g:=Gr.alloc g3.fh hr (.lst ((ZL ns i j).map V.int))
  exact q _ _ _ (g123.trans g) (.lst zn (.ints _))
def CaD (r:List V->Hp->VK->Prop)(g:List D->Option D):Prop:=∀ (F H:Hp) (vs:List V) (ds:List D) (z:D) (Q:VK),zZ F H->AtL F ds vs->g ds=some z->(∀ F' H' v,Gr F H F' H'->At F' z v->Q v H')->r vs H Q
def eFn (g:List D->Option D)(f:Ev->Option (List D)):Ev->Option D:=fun ρ=>(f ρ).bind g
def fFn (g:List D->Option (List D))(f:Ev->Option (List D)):Ev->Option (List D):=fun ρ=>(f ρ).bind g
theorem yi {x:Str}{id:String}{p:Pos}{es:List Expr}{r:List V->Hp->VK->Prop}{g:List D->Option D}{f:Ev->Option (List D)}(hc:vH X (.builtin id) r)(hg:CaD r g)(hgl:Gl X x)(hm:X.mg x=none)(hv:bootBuiltins x=some (.builtin id))(ha:AD X (e::es) f)
 (hn:x≠"__name__":=by decide) (hdb:(x == ("__debug__":Str))=false:=by decide) (he:starEach (e::es) X.env=(false,eval e X.env)::starEach es X.env:=by rfl) (hpl:(backTo pos (starEach es X.env)).any (·.1)=false:=by rfl) :
 ED X (.Call (.Name x p) (e::es) [] pos) (eFn g f):=by
 obtain⟨t,pa,ra⟩:=ha
 refine⟨_,zX hc hgl hm hv pa hn hdb he hpl,fun σ ρ F H z Q s va e q=>?_⟩
 obtain⟨ds,e1,e2⟩:=u5.mp e
 refine ra σ ρ F H ds _ s va e1 λF1 H1 vs g1 a1=>?_
 exact hg F1 H1 vs ds z Q g1.fh a1 e2 λF' H' v g av=>q F' H' v (g1.trans g) av
theorem vP {x:Str}{T:String}{p:Pos}{es:List Expr}{r:List V->Hp->VK->Prop}{g:List D->Option D}{f:Ev->Option (List D)}(hc:vH X (.type T) r)(hg:CaD r g)(hgl:Gl X x)(hm:X.mg x=none)(hv:bootBuiltins x=some (.type T))(ha:AD X (e::es) f)
 (hn:x≠"__name__":=by decide) (hdb:(x == ("__debug__":Str))=false:=by decide) (he:starEach (e::es) X.env=(false,eval e X.env)::starEach es X.env:=by rfl) (hpl:(backTo pos (starEach es X.env)).any (·.1)=false:=by rfl) :
 ED X (.Call (.Name x p) (e::es) [] pos) (eFn g f):=by
 obtain⟨t,pa,ra⟩:=ha
 refine⟨_,Vq hc hgl hm hv pa hn hdb he hpl,fun σ ρ F H z Q s va e q=>?_⟩
 obtain⟨ds,e1,e2⟩:=u5.mp e
 refine ra σ ρ F H ds _ s va e1 λF1 H1 vs g1 a1=>?_
 exact hg F1 H1 vs ds z Q g1.fh a1 e2 λF' H' v g av=>q F' H' v (g1.trans g) av
def Yi:List D->Option D
 | [.lst ds]=>some (.int ds.length)
 | [.tup ds]=>some (.int ds.length)
 | [.scr ds]=>some (.int ds.length)
 | _=>none
theorem wy:CaD (λxs H Q=>∃ p ys,xs=[.ref p]/\(SqL KK.K H p ys\/SqT KK.K H p ys)/\Q (.int ys.length) H) Yi:=by
 intro F H vs ds z Q s al e q
 unfold Yi at e
 split at e <;> cases e
 all_goals
  obtain⟨x,r,rfl,ax,ar⟩:=al.cons_inv
  cases ar.nil_inv
 .obtain⟨p,xs,rfl,hx,bl⟩:=ax.lst_inv
  exact⟨p,xs,rfl,.inl (SqL.of (s _ _ hx)),by rw[bl.length];exact q F H _ (.refl s) .int⟩
 .obtain⟨p,xs,rfl,hx,bl⟩:=ax.tup_inv
  exact⟨p,xs,rfl,.inr (SqT.of (s _ _ hx)),by rw[bl.length];exact q F H _ (.refl s) .int⟩
 .obtain⟨p,rfl,hx⟩:=ax.scr_inv
  exact⟨p,_,rfl,.inl ((s.seq hx)),by rw[u7];exact q F H _ (.refl s) .int⟩
def zjW:List D->Option D
 | [.int i,.int j]=>some (.int (if j > i then j else i))
 | _=>none
def zkH:List D->Option D
 | [.int i,.int j]=>some (.int (if j < i then j else i))
 | _=>none
theorem zbM {g:Int->Int->Int}:CaD (λxs H Q=>∃ i j,xs=[.int i,.int j]/\Q (.int (g i j)) H) (λds=>match ds with | [.int i,.int j]=>some (.int (g i j)) | _=>none):=by
 intro F H vs ds z Q s al e q
 dsimp only at e
 split at e <;> cases e
 obtain⟨x,r,rfl,ax,ar⟩:=al.cons_inv
 obtain⟨y,r,rfl,ay,ar⟩:=ar.cons_inv
 cases ar.nil_inv
 exact⟨_,_,by rw[ax.int_inv,ay.int_inv],q F H _ (.refl s) .int⟩
theorem zhw:CaD (λxs H Q=>∃ i j,xs=[.int i,.int j]/\Q (.int (if j > i then j else i)) H) zjW:=zbM (g:=λi j=>if j > i then j else i)
theorem zgC:CaD (λxs H Q=>∃ i j,xs=[.int i,.int j]/\Q (.int (if j < i then j else i)) H) zkH:=zbM (g:=λi j=>if j < i then j else i)
def yI:List D->Option D
 | [.lst ds]=>some (.tup ds)
 | [.tup ds]=>some (.tup ds)
 | _=>none
theorem v4 {K:W.Frag}:CaD (λxs H Q=>∃ p ys,xs=[.ref p]/\((SqL K H p ys/\∀ l,H l=none->Q (.ref l) (upd H l (.tup ys)))\/(SqT K H p ys/\Q (.ref p) H))) yI:=by
 intro F H vs ds z Q s al e q
 unfold yI at e
 split at e <;> cases e
 all_goals
  obtain⟨x,r,rfl,ax,ar⟩:=al.cons_inv
  cases ar.nil_inv
 .obtain⟨p,xs,rfl,hx,bl⟩:=ax.lst_inv
  refine⟨p,xs,rfl,.inl ⟨SqL.of (s _ _ hx),λl hl=>?_⟩⟩
  have g:=Gr.alloc s hl (.tup xs)
  exact q _ _ _ g (.tup zn (bl.mono g.ff))
 .obtain⟨p,xs,rfl,hx,bl⟩:=ax.tup_inv
  exact⟨p,xs,rfl,.inr ⟨SqT.of (s _ _ hx),q F H _ (.refl s) (.tup hx bl)⟩⟩
def wx:List D->Option (List D)
 | [.lst ds]=>some ds
 | [.tup ds]=>some ds
 | [.scr ns]=>some (ns.map .int)
 | _=>none
theorem Xc {p:Pos} {f:Ev->Option (List D)} (hgl:Gl X "list") (hm:X.mg "list"=none) (ha:AD X [e] f) (hK:X.K=KK.K:=by rfl)
 (he:starEach [e] X.env=(false,eval e X.env)::starEach [] X.env:=by rfl) (hpl:(backTo pos (starEach [] X.env)).any (·.1)=false:=by rfl):FL X (.Call (.Name "list" p) [e] [] pos) (fFn wx f):=by
 obtain⟨t,pa,ra⟩:=ha
 refine⟨_,Vq zaf hgl hm Zc pa (by decide) (by decide) he hpl,fun σ ρ F H z Q s va e q=>?_⟩
 obtain⟨ds,e1,e2⟩:=u5.mp e
 refine ra σ ρ F H ds _ s va e1 λF1 H1 vs g1 a1=>?_
 unfold wx at e2
 split at e2 <;> cases e2
 all_goals
  obtain⟨x,r,rfl,ax,ar⟩:=a1.cons_inv
  cases ar.nil_inv
 .obtain⟨p,xs,rfl,hx,bl⟩:=ax.lst_inv
  exact⟨p,xs,rfl,.inl (SqL.of (g1.fh _ _ hx)),λl hl=>q _ _ _ _ (g1.trans (Gr.hide g1.fh hl _)) (zbl g1 hl) (g1.fh.free hl) zn bl⟩
 .obtain⟨p,xs,rfl,hx,bl⟩:=ax.tup_inv
  exact⟨p,xs,rfl,.inr (SqT.of (g1.fh _ _ hx)),λl hl=>q _ _ _ _ (g1.trans (Gr.hide g1.fh hl _)) (zbl g1 hl) (g1.fh.free hl) zn bl⟩
 .obtain⟨p,rfl,hx⟩:=ax.scr_inv
  exact⟨p,_,rfl,.inl (by rw[hK];exact g1.fh.seq hx),λl hl=>q _ _ _ _ (g1.trans (Gr.hide g1.fh hl _)) (zbl g1 hl) (g1.fh.free hl) zn (.ints _)⟩
inductive TyD (K:W.Frag) (H:Hp):V->Value->Prop where
 | of {v:V} {t:Value} (h:zbD K H v t):TyD K H v t
 | dd {a:Addr} {u:HO} (h:Rd H a u) (d:(∃ kvs,u=.dK kvs)\/∃ kvs,u=.dT kvs):TyD K H (.ref a) (.type "dict")
theorem V3 {X:Cx}:vH X (.builtin "isinstance") (λxs H Q=>∃ x n t b,xs=[x,.ty n]/\TyD X.K H x t/\W.kitOne X.K t (.type n)=some b/\Q (.bl b) H):=by
 intro pins s σ H xs us Q I r h
 obtain⟨x,n,t,b,rfl,ty,e,q⟩:=h
 cases ty with
 | of ty=>exact zaL pins s σ H _ us Q I r ⟨x,n,t,b,rfl,ty,e,q⟩
 | @dd a u h d =>
  cases r with
  | cons r1 r2 =>
   cases r2 with
   | cons r3 r4 =>
    cases r4
    cases r1
    cases r3
    have ok:=h.ok I.hok
    rcases d with ⟨kvs,rfl⟩ | ⟨kvs,rfl⟩
    .obtain⟨_,_,vs,_,p⟩:=(show yk X.prog X.w H s.heap a (.dK kvs)from ok)
     obtain⟨o,es,ep,h1,h2,_⟩:=p
     exact u0C u2A I.kIn ⟨o,h1,h2.1⟩ e (λz=>nomatch z) λtk=>⟨.bl b,H,I.tok tk,rfl,q⟩
    .obtain⟨_,_,xs,_,o,es,ep,h1,h2,_⟩:=(show yk X.prog X.w H s.heap a (.dT kvs)from ok)
     exact u0C u2A I.kIn ⟨o,h1,h2.1⟩ e (λz=>nomatch z) λtk=>⟨.bl b,H,I.tok tk,rfl,q⟩
theorem At.ty {K:W.Frag}{F H:Hp}(s:zZ F H):∀ {d:D} {v:V},At F d v->(∀ ns,d≠.scr ns)->TyD K H v (.type (tyN d))
 | .non,_,h,_=>by cases h.non_inv;exact .of .non
 | .bl b,_,h,_=>by cases h.bl_inv;exact .of (.bl b)
 | .int i,_,h,_=>by cases h.int_inv;exact .of (.int i)
 | .str x,_,h,_=>by cases h.str_inv;exact .of (.str x)
 | .tup ds,_,h,_=>by obtain⟨a,xs,rfl,e,_⟩:=h.tup_inv;exact .of (.tup (s _ _ e))
 | .lst ds,_,h,_=>by obtain⟨a,xs,rfl,e,_⟩:=h.lst_inv;exact .of (.lst (s _ _ e))
 | .scr ns,_,_,n=>absurd rfl (n ns)
 | .dct z t ks vs,_,h,_=>by
  obtain⟨a,xs,rfl,d,_⟩:=h.dct_inv
  obtain⟨u,e1,e2⟩:=(d.mono s).rd
  exact .dd e2 (by
   unfold VM at e1
   split at e1
   .obtain⟨kvs,rfl,_⟩:=e1;exact .inr ⟨kvs,rfl⟩
   .obtain⟨kvs,rfl,_⟩:=e1;exact .inl ⟨kvs,rfl⟩)
inductive Ty where
 | int | bool | tuple | list | str
def Ty.nm:Ty->String
 | .int=>"int" | .bool=>"bool" | .tuple=>"tuple" | .list=>"list" | .str=>"str"
def isT:Ty->D->Bool
 | .int,.int _=>true | .int,.bl _=>true
 | .bool,.bl _=>true
 | .tuple,.tup _=>true
 | .list,.lst _=>true
 | .str,.str _=>true
 | _,_=>false
def ya (n:Ty):D->Option D
 | .scr _=>none
 | d=>some (.bl (isT n d))
theorem zlh (K:W.Frag)(n:Ty)(d:D)(h:∀ ns,d≠.scr ns):W.kitOne K (.type (tyN d)) (.type n.nm)=some (isT n d):=by
 cases n <;> cases d <;> first | exact absurd rfl (h _) | kernel_rfl
theorem zw {p:Pos} {f:Ev->Option D} (n:Ty) (hgl:Gl X "isinstance") (hm:X.mg "isinstance"=none) (ha:ED X a f) (hb:PE X b (tC (.ty n.nm)))
 (hs:starEach [a,b] X.env=(false,eval a X.env)::starEach [b] X.env:=by rfl) (hs2:starEach [b] X.env=(false,eval b X.env)::starEach [] X.env:=by rfl) (hpl:(backTo pos (starEach [b] X.env)).any (·.1)=false:=by rfl) :
 ED X (.Call (.Name "isinstance" p) [a,b] [] pos) (eUn (ya n) f):=by
 obtain⟨t,pa,ra⟩:=ha
 refine⟨_,zX V3 hgl hm zx (zr pa (zr hb yC hs2) hs) (by decide) (by decide) hs hpl,fun σ ρ F H z Q s va e q=>?_⟩
 obtain⟨d,e1,e2⟩:=u5.mp e
 refine ra σ ρ F H d _ s va e1 λF1 H1 v g1 a1=>?_
 have ns:∀ ns,d≠.scr ns:=λns h=>by subst h;cases e2
 have e3:z=.bl (isT n d):=by
  cases d <;> first | exact(u0m e2).symm | exact absurd rfl (ns _)
 subst e3
 exact⟨v,n.nm,_,_,rfl,a1.ty g1.fh ns,zlh _ n d ns,q F1 H1 _ g1 .bl⟩
def XU (m:Bool)(i:Nat)(f:Ev->Option D):SE->Ctl:=fun ρ=>match (vEv m f ρ).bind λd=>match ρ[i]? with
 | some (.o ds)=>if decide (ds.length < sizeLine)=true then some (ρ.set i (.o (ds++[d])))else none
 | _=>none with
 | some ρ'=>.nx ρ'
 | none=>.no
theorem zcr {m:Bool}{i:Nat}{p pos':Pos}{f:Ev->Option D}(ho:PE X a (zaz i))(he:ED X e f)
 (hp:∀ {ta:TE} {t:TA},PE X a ta->PA X [e] t->PE X (.Call (.Attribute a "append" p) [e] [] pos') (tBM X.K "list" zec ta t)) (hsw:swapsWith (.Call (.Attribute a "append" p) [e] [] pos') none pos.line X.env=pure false:=by rfl)
 (hs:starEach [e] X.env=(false,eval e X.env)::starEach [] X.env:=by rfl):SD X (.Expr (.Call (.Attribute a "append" p) [e] [] pos') pos) (XU m i f):=by
 obtain⟨t,pe,re⟩:=he
 refine⟨_,zaX (hp ho (zr pe yC hs)) hsw,λFb Hb F H ρ σ E rl k=>?_⟩
 unfold XU at k
 cases h:(vEv m f ρ).bind λd=>match ρ[i]? with
  | some (.o ds)=>if decide (ds.length < sizeLine)=true then some (ρ.set i (.o (ds++[d])))else none
  | _=>none with
 | none=>rw[h]at k;exact k.elim
 | some ρ' =>
  rw[h]at k
  obtain⟨d,e1,e2⟩:=u5.mp h
  cases hs:ρ[i]? with
  | none=>rw[hs]at e2;cases e2
  | some sl =>
   rw[hs]at e2
   cases sl with
   | no=>cases e2
   | v _=>cases e2
   | m _ _ _=>cases e2
   | o ds =>
    dsimp only at e2
    split at e2 <;> cases e2
    rename_i hl
    obtain⟨q,xs,f1,f2,f3,f4,f5⟩:=rl.owns i ds hs
    refine⟨_,f1,.inl ⟨rfl,xs,SqL.of f4⟩,?_⟩
    refine re.at rl e1 λF' H' v g av=>?_
    have rl2:=rl.grow g
    obtain⟨q2,xs2,f1',_,_,f4',f5'⟩:=rl2.owns i ds hs
    rw[f1]at f1'
    cases f1'
    refine⟨q,xs2,v,rfl,rfl,f4',by rw[f5'.length];exact d8 hl,?_⟩
    exact k _ _ σ (rl2.mutate hs f1 (f5'.snoc av))
def zcc (i:Nat)(f:Ev->Option D):SE->Ctl:=fun ρ=>match (f (visF ρ)).bind λd=>match ρ[i]?,d with
 | some (.o ds),.lst es=>if lim (ds.length+es.length)=true then some (ρ.set i (.o (ds++es)))else none
 | _,_=>none with
 | some ρ'=>.nx ρ'
 | none=>.no
end
end Dl
namespace Dl
open PySem L2
variable [KK]
def okE:Nat->D->Bool
 | _,.scr _=>false
 | _,.dct _ _ _ _=>false
 | 0,.tup _=>false
 | 0,.lst _=>false
 | n+1,.tup ds=>ds.all (okE n)
 | n+1,.lst ds=>ds.all (okE n)
 | _,_=>true
def eqN:Nat->D->D->Bool
 | _,.non,.non=>true
 | _,.bl a,.bl b=>a == b
 | _,.bl a,.int b=>(if a then 1 else 0) == b
 | _,.int a,.bl b=>a == (if b then 1 else 0)
 | _,.int a,.int b=>a == b
 | _,.str a,.str b=>a == b
 | n+1,.tup a,.tup b=>(List.zipWith (eqN n) a b).all id&&a.length == b.length
 | n+1,.lst a,.lst b=>(List.zipWith (eqN n) a b).all id&&a.length == b.length
 | _,_,_=>false
omit [KK] in
theorem Wx {n:Nat}:∀ (a b:List D),(List.zipWith (eqN n) a b).all id=(List.range (min a.length b.length)).all λj=>eqN n (a.getD j .non) (b.getD j .non):=by
 intro a b
 have:List.zipWith (eqN n) a b=(List.range (min a.length b.length)).map λj=>eqN n (a.getD j .non) (b.getD j .non):=by
  apply u2K
  .simp
  .intro i h1 h2
   simp at h1 h2
   have g1:i < a.length:=r6 h1 (Nat.min_le_left _ _)
   have g2:i < b.length:=r6 h1 (u3U _ _)
   simp[g1,g2]
 rw[this,u2c]
 rfl
omit [KK] in
def vOf:D->V
 | .bl b=>.bl b
 | .int i=>.int i
 | .str t=>.str t
 | _=>.non
theorem xX {F:Hp}{d:D}{x:V}(h:okE 0 d=true)(a:At F d x):x=vOf d:=by
 cases d with
 | non=>exact a.non_inv
 | bl b=>exact a.bl_inv
 | int b=>exact a.int_inv
 | str b=>exact a.str_inv
 | _=>cases h
omit [KK] in
theorem ZV {d:D}(h:okE 0 d=true):zcN (vOf d)=true:=by
 cases d <;> first | rfl | cases h
omit [KK] in
theorem WY {d:D}{p:Addr}(h:okE 0 d=true)(e:vOf d=.ref p):False:=by
 cases d <;> first | (cases h;done) | (cases e;done)
def dOfV:V->D
 | .bl b=>.bl b
 | .int i=>.int i
 | .str t=>.str t
 | _=>.non
omit [KK] in
theorem zdU {d:D}(h:okE 0 d=true):dOfV (vOf d)=d:=by
 cases d <;> first | rfl | (cases h;done)
omit [KK] in
theorem zfG {d e:D}(h1:okE 0 d=true)(h2:okE 0 e=true)(h:vOf d=vOf e):d=e:=by
 rw[<-zdU h1,h,zdU h2]
omit [KK] in
theorem xS {n:Nat}{d:D}(h:okE (n+1) d=true):okE 0 d=true\/(∃ ds,d=.tup ds/\ds.all (okE n)=true)\/∃ ds,d=.lst ds/\ds.all (okE n)=true:=by
 cases d with
 | tup ds=>exact .inr (.inl ⟨ds,rfl,h⟩)
 | lst ds=>exact .inr (.inr ⟨ds,rfl,h⟩)
 | scr _=>cases h
 | dct _ _ _ _=>cases h
 | _=>exact .inl rfl
theorem ze5 {F:Hp}{n:Nat}(ih:∀ {d e:D} {v:V},okE n d=true->okE n e=true->At F d v->At F e v->d=e):∀ {xs:List V} {ds es:List D},ds.all (okE n)=true->es.all (okE n)=true->AtL F ds xs->AtL F es xs->ds=es:=by
 intro xs
 induction xs with
 | nil =>
  intro ds es _ _ a1 a2
  exact(u0Z.mp a1.length.symm).trans (u0Z.mp a2.length.symm).symm
 | cons x xs ih2 =>
  intro ds es h1 h2 a1 a2
  cases ds with
  | nil=>cases a1.nil_inv
  | cons d ds=>cases es with
   | nil=>cases a2.nil_inv
   | cons e es =>
    obtain⟨y,r,e1,b1,c1⟩:=a1.cons_inv
    obtain⟨y2,r2,e2,b2,c2⟩:=a2.cons_inv
    cases e1
    cases e2
    rw[u2j,p4]at h1 h2
    rw[ih2 h1.2 h2.2 c1 c2,ih h1.1 h2.1 b1 b2]
theorem zhG {F:Hp}:∀ (n:Nat) {d e:D} {v:V},okE n d=true->okE n e=true->At F d v->At F e v->d=e:=by
 intro n
 induction n with
 | zero =>
  intro d e v h1 h2 a1 a2
  exact zfG h1 h2 ((xX h1 a1).symm.trans (xX h2 a2))
 | succ n ih =>
  intro d e v h1 h2 a1 a2
  rcases xS h1 with f1 | ⟨ds,rfl,k1⟩ | ⟨ds,rfl,k1⟩
  .have e1:=xX f1 a1
   rcases xS h2 with f2 | ⟨es,rfl,_⟩ | ⟨es,rfl,_⟩
   .exact zfG f1 f2 (e1.symm.trans (xX f2 a2))
   .obtain⟨p,xs,e2,_⟩:=a2.tup_inv
    exact(WY f1 (e1.symm.trans e2)).elim
   .obtain⟨p,xs,e2,_⟩:=a2.lst_inv
    exact(WY f1 (e1.symm.trans e2)).elim
  .obtain⟨p,xs,e0,hx,al⟩:=a1.tup_inv
   rcases xS h2 with f2 | ⟨es,rfl,k2⟩ | ⟨es,rfl,k2⟩
   .exact(WY f2 ((xX f2 a2).symm.trans e0)).elim
   .obtain⟨q,ys,e1,hy,bl⟩:=a2.tup_inv
    cases e0.symm.trans e1
    cases hx.symm.trans hy
    rw[ze5 ih k1 k2 al bl]
   .obtain⟨q,ys,e1,hy,bl⟩:=a2.lst_inv
    cases e0.symm.trans e1
    cases hx.symm.trans hy
  .obtain⟨p,xs,e0,hx,al⟩:=a1.lst_inv
   rcases xS h2 with f2 | ⟨es,rfl,k2⟩ | ⟨es,rfl,k2⟩
   .exact(WY f2 ((xX f2 a2).symm.trans e0)).elim
   .obtain⟨q,ys,e1,hy,bl⟩:=a2.tup_inv
    cases e0.symm.trans e1
    cases hx.symm.trans hy
   .obtain⟨q,ys,e1,hy,bl⟩:=a2.lst_inv
    cases e0.symm.trans e1
    cases hx.symm.trans hy
    rw[ze5 ih k1 k2 al bl]
omit [KK] in
theorem zcp:∀ (n:Nat) {d:D},okE n d=true->eqN n d d=true:=by
 intro n
 induction n with
 | zero =>
  intro d h
  cases d with
  | tup _=>cases h
  | lst _=>cases h
  | scr _=>cases h
  | dct _ _ _ _=>cases h
  | _=>first | rfl | exact j8 rfl | exact u0h _
 | succ n ih =>
  have ihl:∀ {ds:List D},ds.all (okE n)=true->(List.zipWith (eqN n) ds ds).all id=true:=by
   intro ds
   induction ds with
   | nil=>intro _;rfl
   | cons d ds ih2 =>
    intro h
    rw[u2j,p4]at h
    rw[List.zipWith_cons_cons,u2j,ih2 h.2,u3K]
    exact ih h.1
  intro d h
  cases d with
  | tup ds=>show((List.zipWith (eqN n) ds ds).all id&&ds.length == ds.length)=true;rw[ihl h];simp
  | lst ds=>show((List.zipWith (eqN n) ds ds).all id&&ds.length == ds.length)=true;rw[ihl h];simp
  | scr _=>cases h
  | dct _ _ _ _=>cases h
  | _=>first | rfl | exact j8 rfl | exact u0h _
theorem zhM {F:Hp}(n:Nat){d e:D}{v:V}(h1:okE n d=true)(h2:okE n e=true)(a1:At F d v)(a2:At F e v):eqN n d e=true:=by
 rw[zhG n h1 h2 a1 a2]
 exact zcp n h2
omit [KK] in
theorem xW {n:Nat}{ds:List D}{j:Nat}(h:ds.all (okE n)=true)(hj:j < ds.length):okE n (ds.getD j .non)=true:=by
 have:ds.getD j .non=ds[j]:=by simp[hj]
 rw[this]
 exact u0B.mp h _ (u0e hj)
theorem AtL.nth {F:Hp}{ds:List D}{xs:List V}{us:List Value}{j:Nat}(al:AtL F ds xs)(r:yt xs us)(h:j < us.length):∃ x,At F (ds.getD j .non) x/\yH x us[j]:=by
 have hl:=al.length
 have hl2:=r.length
 have hj:j < ds.length:=by omega
 obtain⟨x,hx,ax⟩:=al.get (i:=j) (d:=ds[j]) (by simp[hj])
 obtain⟨u,hu,ru⟩:=r.get hx
 refine⟨x,by rw[show ds.getD j .non=ds[j] by simp[hj]];exact ax,?_⟩
 have:us[j]?=some us[j]:=by simp[h]
 rw[hu]at this
 cases this
 exact ru
omit [KK] in
theorem zbG {n:Nat}{d e:D}(h1:okE 0 d=true)(h2:okE 0 e=true):eqN n d e=eqV (vOf d) (vOf e):=by
 cases n <;> cases d <;> first | (cases h1;done) | skip
 all_goals cases e <;> first | (cases h2;done) | rfl
omit [KK] in
theorem zb1 {n:Nat}{d:D}(ds:List D)(h:okE 0 d=true):eqN (n+1) d (.tup ds)=false/\eqN (n+1) d (.lst ds)=false/\eqN (n+1) (.tup ds) d=false/\eqN (n+1) (.lst ds) d=false:=by
 cases d <;> first | exact⟨rfl,rfl,rfl,rfl⟩ | cases h
omit [KK] in
theorem W2 {A:Around}{s:Shared}{d:D}{u:Value}{p:Addr}{its:Array Value}(h:okE 0 d=true)(r:yH (vOf d) u)(hu:A.units < cLine) :
 (s.heap.IsTuple p its->SeqAt.EqAt A s u (.ref p) false/\SeqAt.EqAt A s (.ref p) u false)/\(s.heap.IsList p its->SeqAt.EqAt A s u (.ref p) false/\SeqAt.EqAt A s (.ref p) u false):=by
 cases d with
 | non=>cases r;exact⟨λht=>⟨.none_tuple ht hu,.tuple_none ht hu⟩,λht=>⟨.none_list ht hu,.list_none ht hu⟩⟩
 | bl b=>cases r;exact⟨λht=>⟨.bool_tuple b ht hu,.tuple_bool b ht hu⟩,λht=>⟨.bool_list b ht hu,.list_bool b ht hu⟩⟩
 | int b=>obtain⟨t,rfl⟩:=r;exact⟨λht=>⟨.int_tuple b t ht hu,.tuple_int b t ht hu⟩,λht=>⟨.int_list b t ht hu,.list_int b t ht hu⟩⟩
 | str b=>obtain⟨t,rfl⟩:=r;exact⟨λht=>⟨.str_tuple b t ht hu,.tuple_str b t ht hu⟩,λht=>⟨.str_list b t ht hu,.list_str b t ht hu⟩⟩
 | _=>cases h
theorem WS {X:Cx}{pins:List (Addr × Obj)}{σ:St}{F H:Hp}{s:Shared}(I:Inv X pins σ H s)(sm:zZ F H){ds:List D}{x:V}{u:Value}(a:At F (.tup ds) x)(r:yH x u):∃ p its xs,u=.ref p/\x=.ref p/\yt xs its/\AtL F ds xs/\s.heap.IsTuple p its.toArray:=by
 obtain⟨p,xs,rfl,hx,al⟩:=a.tup_inv
 cases r
 obtain⟨its,rv,ht,hz⟩:=I.tuple (SqT.of (sm _ _ hx))
 exact⟨p,its,xs,rfl,rfl,rv,al,ht⟩
theorem WP {X:Cx}{pins:List (Addr × Obj)}{σ:St}{F H:Hp}{s:Shared}(I:Inv X pins σ H s)(sm:zZ F H){ds:List D}{x:V}{u:Value}(a:At F (.lst ds) x)(r:yH x u):∃ p its xs,u=.ref p/\x=.ref p/\yt xs its/\AtL F ds xs/\s.heap.IsList p its.toArray:=by
 obtain⟨p,xs,rfl,hx,al⟩:=a.lst_inv
 cases r
 obtain⟨its,rv,ht,hz⟩:=I.list (SqL.of (sm _ _ hx))
 exact⟨p,its,xs,rfl,rfl,rv,al,ht.isList⟩
omit [KK] in
theorem zdC {n:Nat}(ds es:List D):((List.zipWith (eqN n) ds es).all id&&ds.length == es.length)=((List.range (min ds.length es.length)).all (λj=>eqN n (ds.getD j .non) (es.getD j .non))&&ds.length == es.length):=by rw[Wx]
theorem zal {X:Cx}{pins:List (Addr × Obj)}{σ:St}{F H:Hp}{s:Shared}(I:Inv X pins σ H s)(sm:zZ F H):∀ (n:Nat) {A:Around} {d e:D} {x y:V} {u v:Value},okE n d=true->okE n e=true->At F d x->At F e y->yH x u->yH y v->A.units+n < cLine->SeqAt.EqAt A s u v (eqN n d e):=by
 intro n
 induction n with
 | zero =>
  intro A d e x y u v h1 h2 a1 a2 r1 r2 hu
  cases xX h1 a1
  cases xX h2 a2
  rw[zbG h1 h2]
  exact zdP r1 r2 (ZV h1) (ZV h2)
 | succ n ih =>
  intro A d e x y u v h1 h2 a1 a2 r1 r2 hu
  have hu0:A.units < cLine:=u0l (u0p _ _) hu
  have hu1:A.units+1+n < cLine:=by rw[Nat.add_assoc,Nat.add_comm 1 n];exact hu
  rcases xS h1 with f1 | ⟨ds,rfl,k1⟩ | ⟨ds,rfl,k1⟩
  .cases xX f1 a1
   rcases xS h2 with f2 | ⟨es,rfl,k2⟩ | ⟨es,rfl,k2⟩
   .cases xX f2 a2
    rw[zbG f1 f2]
    exact zdP r1 r2 (ZV f1) (ZV f2)
   .obtain⟨q,its2,ys,rfl,_,_,_,ht2⟩:=WS I sm a2 r2
    rw[(zb1 es f1).1]
    exact((W2 f1 r1 hu0).1 ht2).1
   .obtain⟨q,its2,ys,rfl,_,_,_,ht2⟩:=WP I sm a2 r2
    rw[(zb1 es f1).2.1]
    exact((W2 f1 r1 hu0).2 ht2).1
  .obtain⟨p,its,xs,rfl,hxp,rv,al,ht⟩:=WS I sm a1 r1
   rcases xS h2 with f2 | ⟨es,rfl,k2⟩ | ⟨es,rfl,k2⟩
   .cases xX f2 a2
    rw[(zb1 ds f2).2.2.1]
    exact((W2 f2 r2 hu0).1 ht).2
   .obtain⟨q,its2,ys,rfl,hyq,rv2,bl,ht2⟩:=WS I sm a2 r2
    by_cases hpq:p=q
    .subst hpq
     rw[hxp]at a1
     rw[hyq]at a2
     rw[zhM (n+1) h1 h2 a1 a2]
     exact .same _
    .have hl1:its.toArray.size=ds.length:=by rw[j6,<- rv.length,al.length]
     have hl2:its2.toArray.size=es.length:=by rw[j6,<- rv2.length,bl.length]
     have:=SeqAt.RcAt.tuples (A:=A) (e:=λj=>eqN n (ds.getD j .non) (es.getD j .non)) ht ht2 hu0 λj g1 g2=>by
      obtain⟨x',ax,rx⟩:=al.nth rv (j:=j) g1
      obtain⟨y',ay,ry⟩:=bl.nth rv2 (j:=j) g2
      exact ih (xW k1 (hl1 ▸ g1)) (xW k2 (hl2 ▸ g2)) ax ay rx ry hu1
     rw[hl1,hl2]at this
     rw[show eqN (n+1) (.tup ds) (.tup es)=_ from zdC ds es]
     exact u3m hpq this
   .obtain⟨q,its2,ys,rfl,_,_,_,ht2⟩:=WP I sm a2 r2
    exact .tuple_list ht ht2 hu0
  .obtain⟨p,its,xs,rfl,hxp,rv,al,ht⟩:=WP I sm a1 r1
   rcases xS h2 with f2 | ⟨es,rfl,k2⟩ | ⟨es,rfl,k2⟩
   .cases xX f2 a2
    rw[(zb1 ds f2).2.2.2]
    exact((W2 f2 r2 hu0).2 ht).2
   .obtain⟨q,its2,ys,rfl,_,_,_,ht2⟩:=WS I sm a2 r2
    exact .list_tuple ht ht2 hu0
   .obtain⟨q,its2,ys,rfl,hyq,rv2,bl,ht2⟩:=WP I sm a2 r2
    by_cases hpq:p=q
    .subst hpq
     rw[hxp]at a1
     rw[hyq]at a2
     rw[zhM (n+1) h1 h2 a1 a2]
     exact .same _
    .have hl1:its.toArray.size=ds.length:=by rw[j6,<- rv.length,al.length]
     have hl2:its2.toArray.size=es.length:=by rw[j6,<- rv2.length,bl.length]
     rw[show eqN (n+1) (.lst ds) (.lst es)=_ from zdC ds es]
     by_cases hle:ds.length=es.length
     .have:=SeqAt.RcAt.lists (A:=A) (e:=λj=>eqN n (ds.getD j .non) (es.getD j .non)) ht ht2 (by rw[hl1,hl2,hle]) hu0 λj g1 g2=>by
       obtain⟨x',ax,rx⟩:=al.nth rv (j:=j) g1
       obtain⟨y',ay,ry⟩:=bl.nth rv2 (j:=j) g2
       exact ih (xW k1 (hl1 ▸ g1)) (xW k2 (hl2 ▸ g2)) ax ay rx ry hu1
      rw[hl1]at this
      rw[<-hle,u38,u0h,u3K]
      exact u3m hpq this
     .have:=SeqAt.RcAt.lists_lengths (A:=A) ht ht2 (by rw[hl1,hl2];exact bne_iff_ne.mpr hle) hu0
      rw[u0V.mpr hle,u1g]
      exact u3m hpq this
def zk7 (d:D)(es:List D):Option Bool:=if okE 20 d=true/\es.all (okE 20)=true then some (es.any λe=>eqN 20 e d)else none
def inD (d e:D):Option D:=(wc e).bind λes=>(zk7 d es).map .bl
open Classical in
noncomputable def zcl (F:Hp)(d:D)(u:Value):Bool:=decide (∃ d0 x,At F d0 x/\yH x u/\okE 20 d0=true/\eqN 20 d0 d=true)
open Classical in
theorem W1 {F:Hp}{d d0:D}{x:V}{u:Value}(a:At F d0 x)(r:yH x u)(k:okE 20 d0=true):zcl F d u=eqN 20 d0 d:=by
 unfold zcl
 cases h:eqN 20 d0 d with
 | true=>exact j8 ⟨d0,x,a,r,k,h⟩
 | false =>
  refine g0 ?_
  rintro⟨d1,y,a1,r1,k1,h1⟩
  have e:=r1.inj r
  subst e
  rw[zhG 20 k1 k a1 a]at h1
  rw[h1]at h
  cases h
theorem WH {F:Hp}{d:D}:∀ {ds:List D} {xs:List V} {us:List Value},AtL F ds xs->yt xs us->ds.all (okE 20)=true->us.any (zcl F d)=ds.any λe=>eqN 20 e d
 | [],_,_,al,r,_=>by cases al.nil_inv;cases r;rfl
 | e::ds,_,_,al,r,k=>by
  obtain⟨x,xs,rfl,a1,a2⟩:=al.cons_inv
  cases r with
  | cons r1 r2 =>
   rw[u2j,p4]at k
   rw[u2T,u2T,W1 a1 r1 k.1,WH a2 r2 k.2]
section
variable {X:Cx}
def rInD (neg:Bool):R2:=λx y H Q=>∃ F d e es b,zZ F H/\At F d x/\At F e y/\wc e=some es/\zk7 d es=some b/\Q (.bl (if neg then !b else b)) H
theorem zeK {k:Nat}(hr:wB k X.A):OpR X (compareOp .In) (rInD false):=by
 intro pins s σ H x y v u Q I rx ry h
 obtain⟨F,d,e,es,b,sm,a1,a2,hs,hb,q⟩:=h
 unfold zk7 at hb
 split at hb <;> cases hb
 rename_i hk
 have hu:X.A.in1.units+20 < cLine:=by have:=hr.un;show X.A.units+1+20 < cLine;omega
 have mem:∀ {xs:List V} {us:List Value},AtL F es xs->yt xs us->∀ z∈us,SeqAt.EqAt X.A.in1 s z v (zcl F d z):=λ{xs us} al r z hz=>by
  obtain⟨j,hj,rfl⟩:=u05 hz
  obtain⟨x',ax,rx'⟩:=al.nth r hj
  have hj':j < es.length:=by have:=al.length;have:=r.length;omega
  have k2:=xW hk.2 hj'
  rw[W1 ax rx' k2]
  exact zal I sm 20 k2 hk.1 ax a1 rx' rx hu
 cases e <;> cases hs
 .obtain⟨p,xs,rfl,hx,al⟩:=a2.tup_inv
  cases ry
  obtain⟨its,r,pl,hz⟩:=I.tuple (SqT.of (sm _ _ hx))
  refine SeqAt.in_tupleAt (zcl F d) pl (λz hz=>mem al r z (by simpa using hz)) ⟨.bl _,H,I,rfl,?_⟩
  rw[show its.toArray.any (zcl F d)=its.any (zcl F d) by simp,WH al r hk.2]
  exact q
 .obtain⟨p,xs,rfl,hx,al⟩:=a2.lst_inv
  cases ry
  obtain⟨its,r,pl,hz⟩:=I.list (SqL.of (sm _ _ hx))
  refine SeqAt.in_listAt (zcl F d) pl.isList (λz hz=>mem al r z (by simpa using hz)) ⟨.bl _,H,I,rfl,?_⟩
  rw[show its.toArray.any (zcl F d)=its.any (zcl F d) by simp,WH al r hk.2]
  exact q
theorem zdt:OpD (rInD false) inD:=by
 intro F H x y d e z Q s ax ay ez q
 obtain⟨es,e1,e2⟩:=u5.mp ez
 obtain⟨b,e3,rfl⟩:=u9.mp e2
 exact⟨F,d,e,es,b,s,ax,ay,e1,e3,q F H _ (.refl s) .bl⟩
def eqG (d e:D):Option Bool:=match d,e with
 | .tup _,.tup _=>if okE 20 d=true/\okE 20 e=true then some (eqN 20 d e)else none
 | .lst _,.lst _=>if okE 20 d=true/\okE 20 e=true then some (eqN 20 d e)else none
 | _,_=>eqS d e
def ZP (d e:D):Option D:=(eqG d e).map .bl
def zlV:R2:=λx y H Q=>∃ F d e,zZ F H/\At F d x/\At F e y/\((∃ ds es,d=.tup ds/\e=.tup es)\/(∃ ds es,d=.lst ds/\e=.lst es))/\okE 20 d=true/\okE 20 e=true/\Q (.bl (eqN 20 d e)) H
theorem zk2 {k:Nat}(hr:wB k X.A):OpR X (compareOp .Eq) zlV:=by
 intro pins s σ H x y v u Q I rx ry h
 obtain⟨F,d,e,sm,a1,a2,hk,k1,k2,q⟩:=h
 have hu:X.A.units+30 < cLine:=by have:=hr.un;omega
 rcases hk with ⟨ds,es,rfl,rfl⟩ | ⟨ds,es,rfl,rfl⟩
 .obtain⟨p,xs,rfl,hx,al⟩:=a1.tup_inv
  obtain⟨p2,ys,rfl,hy,bl⟩:=a2.tup_inv
  cases rx
  cases ry
  obtain⟨its,r,ht,hz⟩:=I.tuple (SqT.of (sm _ _ hx))
  obtain⟨its2,r2,ht2,hz2⟩:=I.tuple (SqT.of (sm _ _ hy))
  have hl1:its.toArray.size=ds.length:=by rw[j6,<- r.length,al.length]
  have hl2:its2.toArray.size=es.length:=by rw[j6,<- r2.length,bl.length]
  refine SeqAt.eq_tupleAt (e:=λj=>eqN 19 (ds.getD j .non) (es.getD j .non)) (show s.heap.IsTuple p its.toArray from ht) (show s.heap.IsTuple p2 its2.toArray from ht2) (by omega) (λj g1 g2=>?_) ⟨.bl _,H,I,rfl,?_⟩
  .obtain⟨x',ax,rx⟩:=al.nth r (j:=j) (by simpa using g1)
   obtain⟨y',ay,ry⟩:=bl.nth r2 (j:=j) (by simpa using g2)
   exact zal I sm 19 (xW k1 (by rw[<-hl1];exact g1)) (xW k2 (by rw[<-hl2];exact g2)) ax ay (by simpa using rx) (by simpa using ry) (u0l (show X.A.units+20<=X.A.units+30 from u1K (by decide) _) hu)
  .rw[hl1,hl2,<- Wx]
   exact q
 .obtain⟨p,xs,rfl,hx,al⟩:=a1.lst_inv
  obtain⟨p2,ys,rfl,hy,bl⟩:=a2.lst_inv
  cases rx
  cases ry
  obtain⟨its,r,ht,hz⟩:=I.list (SqL.of (sm _ _ hx))
  obtain⟨its2,r2,ht2,hz2⟩:=I.list (SqL.of (sm _ _ hy))
  have hl1:its.toArray.size=ds.length:=by rw[j6,<- r.length,al.length]
  have hl2:its2.toArray.size=es.length:=by rw[j6,<- r2.length,bl.length]
  have e1:eqN 20 (.lst ds) (.lst es)=((List.range (min ds.length es.length)).all (λj=>eqN 19 (ds.getD j .non) (es.getD j .non))&&ds.length == es.length):=by
   show((List.zipWith (eqN 19) ds es).all id&&ds.length == es.length)=_
   rw[Wx]
  by_cases hle:ds.length=es.length
  .refine SeqAt.eq_listAt (e:=λj=>eqN 19 (ds.getD j .non) (es.getD j .non)) ht.isList ht2.isList (by rw[hl1,hl2];exact hle) (u0l (u0p _ 30) hu) (λj g1 g2=>?_) ⟨.bl _,H,I,rfl,?_⟩
   .obtain⟨x',ax,rx⟩:=al.nth r (j:=j) (by simpa using g1)
    obtain⟨y',ay,ry⟩:=bl.nth r2 (j:=j) (by simpa using g2)
    exact zal I sm 19 (xW k1 (by rw[<-hl1];exact g1)) (xW k2 (by rw[<-hl2];exact g2)) ax ay (by simpa using rx) (by simpa using ry) (u0l (show X.A.units+20<=X.A.units+30 from u1K (by decide) _) hu)
   .rw[hl1]
    rw[e1,<- hle,u38]at q
    simpa using q
  .refine SeqAt.eq_list_lengthsAt ht.isList ht2.isList (by rw[hl1,hl2];simpa using hle) (u0l (u0p _ 30) hu) ⟨.bl _,H,I,rfl,?_⟩
   have:(ds.length == es.length)=false:=by simpa using hle
   rw[e1,this,u1g]at q
   exact q
theorem zjz:OpD zlV (λd e=>match d,e with
 | .tup _,.tup _=>if okE 20 d=true/\okE 20 e=true then some (.bl (eqN 20 d e))else none
 | .lst _,.lst _=>if okE 20 d=true/\okE 20 e=true then some (.bl (eqN 20 d e))else none
 | _,_=>none):=by
 intro F H x y d e z Q s ax ay ez q
 dsimp only at ez
 split at ez
 .split at ez <;> cases ez
  rename_i hk
  exact⟨F,_,_,s,ax,ay,.inl ⟨_,_,rfl,rfl⟩,hk.1,hk.2,q F H _ (.refl s) .bl⟩
 .split at ez <;> cases ez
  rename_i hk
  exact⟨F,_,_,s,ax,ay,.inr ⟨_,_,rfl,rfl⟩,hk.1,hk.2,q F H _ (.refl s) .bl⟩
 .cases ez
theorem YL {k:Nat}(hr:wB k X.A):OpR X (compareOp .Eq) (λx y H Q=>rEq x y H Q\/zlV x y H Q):=zlw.or (zk2 hr)
theorem vh:OpD (λx y H Q=>rEq x y H Q\/zlV x y H Q) ZP:=by
 refine zaJ (V4 zhZ zjz) λd e z h=>?_
 obtain⟨b,hb,rfl⟩:=u9.mp h
 unfold eqG at hb
 split at hb
 .split at hb <;> cases hb
  rename_i hk
  show(Option.or none (if okE 20 _=true/\okE 20 _=true then some (D.bl (eqN 20 _ _))else none))=_
  rw[q5 hk]
  rfl
 .split at hb <;> cases hb
  rename_i hk
  show(Option.or none (if okE 20 _=true/\okE 20 _=true then some (D.bl (eqN 20 _ _))else none))=_
  rw[q5 hk]
  rfl
 .show((eqD d e).or _)=_
  unfold eqD
  rw[hb]
  rfl
theorem WT {pins:List (Addr × Obj)}{σ:St}{H:Hp}{s:Shared}{a:Addr}{xs:List V}{A:Around}{Q:Value->Shared->Prop}{E:Value->Shared->Prop}(I:Inv X pins σ H s)(hh:A.handled=none)(h:SqL X.K H a xs\/SqT X.K H a xs)
 (k:∀ (it:Addr) (its:List Value) (fp wr:List Addr) (St:Nat->Heap->Prop) (s₂:Shared),yt xs its->Walks X.prog X.w A it fp wr its.length (λi v=>its[i]?=some v) St->St 0 s₂.heap->(∀ b∈fp,b < s₂.heap.objs.size) ->
  (∀ (h':Heap) (tk:Nat),(∀ b o,b∉wr->s₂.heap.get? b=some o->h'.get? b=some o)->Inv X pins σ H { s₂ with heap:=h',toks:=tk })->Q (.ref it) s₂) :
 wpAny (model X.prog X.w) A (pyIter (.ref a)) Q E s:=by
 have back:∀ {o:Obj} {s₂:Shared},s₂={ s with heap:=s.heap.push o }->∀ (h':Heap) (tk:Nat),(∀ b u,b∉[s.heap.objs.size]->s₂.heap.get? b=some u->h'.get? b=some u)->Inv X pins σ H { s₂ with heap:=h',toks:=tk }:=λ{o s₂} e h' tk kk=>by
  subst e
  exact I.kept (t':=tk) λb u z=>kk b u (by simpa using r8 (t9 z)) (u4 _ z)
 rcases h with h | h
 .obtain⟨its,rv,p,hz⟩:=I.list h
  have lt:a < s.heap.objs.size:=by obtain⟨o,n,ho,_⟩:=p;exact t9 ho
  refine u1i p.isList ?_
  have W:=Walks.list (prog:=X.prog) (w:=X.w) (A:=A) hh s.heap.objs.size a (r8 lt) its.toArray
  refine k s.heap.objs.size its [s.heap.objs.size,a] [s.heap.objs.size] (λi h=>h.IsListIter s.heap.objs.size a i/\h.IsList a its.toArray) _ rv (by simpa using W) ⟨⟨_,j7 _ rfl,rfl,rfl⟩,p.isList.at λo e=>u4 _ e⟩ (λb hb=>?_) (back rfl)
  show b < (s.heap.push _).objs.size
  rw[u0Q]
  rcases j5.mp hb with rfl | hb
  .exact u1s _
  .rw[j9.mp hb];exact u0u lt
 .obtain⟨its,rv,p,hz⟩:=I.tuple h
  have p':s.heap.IsTuple a its.toArray:=p
  have lt:a < s.heap.objs.size:=by obtain⟨o,ho,_⟩:=p;exact t9 ho
  refine u0G p' ?_
  have W:=Walks.tuple (prog:=X.prog) (w:=X.w) (A:=A) hh s.heap.objs.size a (r8 lt) its.toArray
  refine k s.heap.objs.size its [s.heap.objs.size,a] [s.heap.objs.size] (λi h=>h.IsTupleIter s.heap.objs.size a i/\h.IsTuple a its.toArray) _ rv (by simpa using W) ⟨⟨_,j7 _ rfl,rfl,rfl⟩,p'.at λo e=>u4 _ e⟩ (λb hb=>?_) (back rfl)
  show b < (s.heap.push _).objs.size
  rw[u0Q]
  rcases j5.mp hb with rfl | hb
  .exact u1s _
  .rw[j9.mp hb];exact u0u lt
end
end Dl
namespace Dl
open PySem L2
variable [KK]
omit [KK] in
theorem zfK {bs:List Bool}:(List.range bs.length).all (λi=>bs.getD i false)=bs.all id:=by
 have:bs=(List.range bs.length).map λi=>bs.getD i false:=by
  apply u2K
  .simp
  .intro i h1 h2
   simp[h1]
 conv=>rhs;rw[this]
 rw[u2c]
 rfl
section
variable {X:Cx}
omit [KK] in
theorem ziS {bs:List Bool}{its:List Value}{i:Nat}{v:Value}(r:yt (bs.map V.bl) its)(h:its[i]?=some v):v=.bool (bs.getD i false):=by
 have hl:=r.length
 have hi:i < its.length:=(t6.mp h).1
 rw[u7]at hl
 obtain⟨u,hu,ru⟩:=r.get (i:=i) (x:=.bl (bs[i]'(by omega))) (by rw[d6];simp[show i < bs.length by omega])
 rw[h]at hu
 cases hu
 cases ru
 simp[show i < bs.length by omega]
omit [KK] in
theorem v6 {ns:List Int}{its:List Value}{i:Nat}{v:Value}(r:yt (ns.map V.int) its)(h:its[i]?=some v):∃ t,v=.int (ns.getD i 0) t:=by
 have hl:=r.length
 have hi:i < its.length:=(t6.mp h).1
 rw[u7]at hl
 obtain⟨u,hu,ru⟩:=r.get (i:=i) (x:=.int (ns[i]'(by omega))) (by rw[d6];simp[show i < ns.length by omega])
 rw[h]at hu
 cases hu
 obtain⟨t,rfl⟩:=ru
 exact⟨t,by simp[show i < ns.length by omega]⟩
theorem zee (hc:X.calm=true):vH X (.builtin "all") (λxs H Q=>∃ (p:Addr) (bs:List Bool),xs=[.ref p]/\(SqL X.K H p (bs.map V.bl)\/SqT X.K H p (bs.map V.bl))/\Q (.bl (bs.all id)) H):=by
 intro pins s σ H xs us Q I r h
 obtain⟨p,bs,rfl,hq,q⟩:=h
 obtain⟨u,rfl,ru⟩:=WN r
 cases ru
 refine call_all_walk (WT I (I.ok.hd hc) hq λit its fp wr St s₂ rv W st fpl back=>?_)
 have hl:=rv.length
 rw[u7]at hl
 refine⟨it,fp,wr,_,_,St,λi=>bs.getD i false,rfl,W,st,λi v s Q E hv hQ=>?_,λh' tk kk=>⟨.bl _,H,back h' tk kk,rfl,?_⟩⟩
 .rw[ziS rv hv]
  exact u07 hQ
 .rw[<-hl,zfK]
  exact q
def zgH (ns:List Int):Int:=(ns.max?).getD 0
def zgP (ns:List Int):Int:=(ns.min?).getD 0
omit [KK] in
theorem zeS (f:Nat→Int):∀ k i,i≤k→f i≤f (argBest (fun i j=>decide (f j < f i)) k)∧argBest (fun i j=>decide (f j < f i)) k≤k:=by
  intro k
  induction k with
  | zero => intro i hi; have : i = 0 := by omega
            subst this;exact ⟨u4g _,j3 _⟩
  | succ k ih =>
    intro i hi
    unfold argBest
    obtain ⟨h1,h2⟩:=ih (min i k) (u3U _ _)
    split
    · rename_i hc
      have hc:f (argBest (fun i j=>decide (f j < f i)) k) < f (k+1):=d8 hc
      refine ⟨?_,j3 _⟩
      by_cases hik:i≤k
      · rw [u1S hik] at h1;omega
      · have:i=k+1:=by omega
        subst this;exact u4g _
    · rename_i hc
      have hc:¬ f (argBest (fun i j=>decide (f j < f i)) k) < f (k+1):=fun z=>hc (j8 z)
      refine ⟨?_,by omega⟩
      by_cases hik:i≤k
      · rw [u1S hik] at h1;exact h1
      · have:i=k+1:=by omega
        subst this;omega
omit [KK] in
theorem zlJ {ns:List Int}{m:Int}(h1:m∈ns)(h2:∀ x∈ns,x<=m):zgH ns=m:=by
 unfold zgH
 rw[List.max?_eq_some_iff.mpr ⟨h1,h2⟩]
 rfl
omit [KK] in
theorem zkh {ns:List Int}{m:Int}(h1:m∈ns)(h2:∀ x∈ns,m<=x):zgP ns=m:=by
 unfold zgP
 rw[List.min?_eq_some_iff.mpr ⟨h1,h2⟩]
 rfl
omit [KK] in
theorem zbK {ns:List Int}{k:Nat}(h:k < ns.length):ns.getD k 0∈ns:=by
 rw[u3g,r9 h]
 exact u0e h
omit [KK] in
theorem zer {ns:List Int}{k:Nat}(h:k < ns.length):ns.getD k 0=ns[k]:=by
 rw[u3g,r9 h]
 rfl
theorem zef (hc:X.calm=true):vH X (.builtin "max") (λxs H Q=>∃ (p:Addr) (ns:List Int),xs=[.ref p]/\(SqL X.K H p (ns.map V.int)\/SqT X.K H p (ns.map V.int))/\ns≠[]/\Q (.int (zgH ns)) H):=by
 intro pins s σ H xs us Q I r h
 obtain⟨p,ns,rfl,hq,hne,q⟩:=h
 obtain⟨u,rfl,ru⟩:=WN r
 cases ru
 refine call_max_walk (WT I (I.ok.hd hc) hq λit its fp wr St s₂ rv W st fpl back=>?_)
 have hl:=rv.length
 rw[u7]at hl
 have hpos:0 < ns.length:=List.length_pos_iff.mpr hne
 refine⟨it,fp,wr,_,_,St,λi j=>decide (ns.getD j 0 < ns.getD i 0),rfl,W,st,fpl,by omega,λi j vi vj s Q E hi hj hQ=>?_,λv h' tk hv kk=>?_⟩
 .obtain⟨t1,rfl⟩:=v6 rv hi
  obtain⟨t2,rfl⟩:=v6 rv hj
  exact PyProof.Rows.gt_int hQ
 .obtain⟨t,rfl⟩:=v6 rv hv
  refine⟨.int (zgH ns),H,back h' tk kk,⟨t,?_⟩,q⟩
  have key:=zeS (λi=>ns.getD i 0) (its.length - 1)
  have hb:argBest (λi j=>decide (ns.getD j 0 < ns.getD i 0)) (its.length - 1) < ns.length:=by
   have:=(key 0 (u0F _)).2
   omega
  rw[zlJ (m:=ns.getD (argBest (λi j=>decide (ns.getD j 0 < ns.getD i 0)) (its.length - 1)) 0)]
  .exact zbK hb
  .intro x hx
   obtain⟨j,hj,rfl⟩:=u05 hx
   have:=(key j (by omega)).1
   rw[<-zer hj]
   exact this
theorem zeg (hc:X.calm=true):vH X (.builtin "min") (λxs H Q=>∃ (p:Addr) (ns:List Int),xs=[.ref p]/\(SqL X.K H p (ns.map V.int)\/SqT X.K H p (ns.map V.int))/\ns≠[]/\Q (.int (zgP ns)) H):=by
 intro pins s σ H xs us Q I r h
 obtain⟨p,ns,rfl,hq,hne,q⟩:=h
 obtain⟨u,rfl,ru⟩:=WN r
 cases ru
 refine call_min_walk (WT I (I.ok.hd hc) hq λit its fp wr St s₂ rv W st fpl back=>?_)
 have hl:=rv.length
 rw[u7]at hl
 have hpos:0 < ns.length:=List.length_pos_iff.mpr hne
 refine⟨it,fp,wr,_,_,St,λi j=>decide (ns.getD i 0 < ns.getD j 0),rfl,W,st,fpl,by omega,λi j vi vj s Q E hi hj hQ=>?_,λv h' tk hv kk=>?_⟩
 .obtain⟨t1,rfl⟩:=v6 rv hi
  obtain⟨t2,rfl⟩:=v6 rv hj
  exact PyProof.Rows.lt_int hQ
 .obtain⟨t,rfl⟩:=v6 rv hv
  refine⟨.int (zgP ns),H,back h' tk kk,⟨t,?_⟩,q⟩
  have key:=zeS (λi=>- ns.getD i 0) (its.length - 1)
  have e0:(λi j=>decide (ns.getD i 0 < ns.getD j 0))=λi j=>decide (-ns.getD j 0 < -ns.getD i 0):=by
   funext i j
   congr 1
   apply propext
   constructor <;> intro h <;> omega
  rw[e0]
  have hb:argBest (λi j=>decide (-ns.getD j 0 < -ns.getD i 0)) (its.length - 1) < ns.length:=by
   have:=(key 0 (u0F _)).2
   omega
  rw[zkh (m:=ns.getD (argBest (λi j=>decide (-ns.getD j 0 < -ns.getD i 0)) (its.length - 1)) 0)]
  .exact zbK hb
  .intro x hx
   obtain⟨j,hj,rfl⟩:=u05 hx
   have:=(key j (by omega)).1
   rw[<-zer hj]
   omega
def zmB:List D->Option (List Bool)
 | []=>some []
 | .bl b::ds=>(zmB ds).map (b::·)
 | _=>none
def zlH:List D->Option (List Int)
 | []=>some []
 | .int b::ds=>(zlH ds).map (b::·)
 | _=>none
omit [KK] in
theorem zd2:∀ {ds:List D} {bs:List Bool},zmB ds=some bs->ds=bs.map .bl
 | [],bs,h=>by cases h;rfl
 | d::ds,bs,h=>by
  cases d <;> try cases h
  obtain⟨cs,h1,rfl⟩:=u9.mp h
  rw[zd2 h1]
  rfl
omit [KK] in
theorem WF:∀ {ds:List D} {bs:List Int},zlH ds=some bs->ds=bs.map .int
 | [],bs,h=>by cases h;rfl
 | d::ds,bs,h=>by
  cases d <;> try cases h
  obtain⟨cs,h1,rfl⟩:=u9.mp h
  rw[WF h1]
  rfl
theorem AtL.of_bls {H:Hp}:∀ {ns:List Bool} {xs:List V},AtL H (ns.map D.bl) xs->xs=ns.map V.bl
 | [],_,h=>h.nil_inv
 | n::r,_,h=>by
  obtain⟨x,r',rfl,h1,h2⟩:=AtL.cons_inv (by simpa using h)
  rw[h1.bl_inv,AtL.of_bls h2]
  rfl
def zlN {α:Type}(as:List D->Option α)(g:α->Option D):List D->Option D
 | [d]=>((wc d).bind as).bind g
 | _=>none
theorem za9 {K:W.Frag}{F H:Hp}{vs:List V}{ds:List D}{z:D}{α:Type}{as:List D->Option α}{g:α->Option D}(s:zZ F H)(al:AtL F ds vs)(e:zlN as g ds=some z) :
 ∃ p es xs b,vs=[.ref p]/\(SqL K H p xs\/SqT K H p xs)/\AtL F es xs/\as es=some b/\g b=some z:=by
 unfold zlN at e
 split at e
 .obtain⟨b,e1,e2⟩:=u5.mp e
  obtain⟨es,e3,e4⟩:=u5.mp e1
  obtain⟨x,r,rfl,ax,ar⟩:=al.cons_inv
  cases ar.nil_inv
  rename_i d
  cases d <;> cases e3
  .obtain⟨p,xs,rfl,hx,bl⟩:=ax.tup_inv
   exact⟨p,_,xs,b,rfl,.inr (SqT.of (s _ _ hx)),bl,e4,e2⟩
  .obtain⟨p,xs,rfl,hx,bl⟩:=ax.lst_inv
   exact⟨p,_,xs,b,rfl,.inl (SqL.of (s _ _ hx)),bl,e4,e2⟩
 .cases e
def allD:=zlN zmB λbs=>some (.bl (bs.all id))
def zlr:=zlN zlH λns=>if ns=[]then none else some (.int (zgH ns))
def zle:=zlN zlH λns=>if ns=[]then none else some (.int (zgP ns))
theorem ziA {K:W.Frag}:CaD (λxs H Q=>∃ (p:Addr) (bs:List Bool),xs=[.ref p]/\(SqL K H p (bs.map V.bl)\/SqT K H p (bs.map V.bl))/\Q (.bl (bs.all id)) H) allD:=by
 intro F H vs ds z Q s al e q
 obtain⟨p,es,xs,bs,rfl,hq,bl,e1,e2⟩:=za9 (K:=K) s al e
 cases e2
 rw[zd2 e1]at bl
 rw[bl.of_bls]at hq
 exact⟨p,bs,rfl,hq,q F H _ (.refl s) .bl⟩
theorem zg5 {K:W.Frag}:CaD (λxs H Q=>∃ (p:Addr) (ns:List Int),xs=[.ref p]/\(SqL K H p (ns.map V.int)\/SqT K H p (ns.map V.int))/\ns≠[]/\Q (.int (zgH ns)) H) zlr:=by
 intro F H vs ds z Q s al e q
 obtain⟨p,es,xs,bs,rfl,hq,bl,e1,e2⟩:=za9 (K:=K) s al e
 split at e2 <;> cases e2
 rename_i hne
 rw[WF e1]at bl
 rw[bl.of_ints]at hq
 exact⟨p,bs,rfl,hq,hne,q F H _ (.refl s) .int⟩
theorem zgi {K:W.Frag}:CaD (λxs H Q=>∃ (p:Addr) (ns:List Int),xs=[.ref p]/\(SqL K H p (ns.map V.int)\/SqT K H p (ns.map V.int))/\ns≠[]/\Q (.int (zgP ns)) H) zle:=by
 intro F H vs ds z Q s al e q
 obtain⟨p,es,xs,bs,rfl,hq,bl,e1,e2⟩:=za9 (K:=K) s al e
 split at e2 <;> cases e2
 rename_i hne
 rw[WF e1]at bl
 rw[bl.of_ints]at hq
 exact⟨p,bs,rfl,hq,hne,q F H _ (.refl s) .int⟩
end
end Dl
namespace Dl
open PySem L2
variable [KK]
section
variable {X:Cx}{tg a b c e:Expr}{pos:Pos}
def zbA:List D->List D->List D
 | x::xs,y::ys=>.tup [x,y]::zbA xs ys
 | _,_=>[]
omit [KK] in
theorem zbB:∀ (xs ys:List D) (i:Nat),(zbA xs ys)[i]?=match xs[i]?,ys[i]? with | some x,some y=>some (.tup [x,y]) | _,_=>none
 | [],ys,i=>by simp[zbA]
 | x::xs,[],i=>by simp[zbA]
 | x::xs,y::ys,0=>by simp[zbA]
 | x::xs,y::ys,i+1=>by simpa [zbA]using zbB xs ys i
omit [KK] in
theorem XG:∀ (xs ys:List D),xs.length<=ys.length->(zbA xs ys).length=xs.length
 | [],ys,_=>by simp[zbA]
 | x::xs,[],h=>by simp at h
 | x::xs,y::ys,h=>by simp[zbA,XG xs ys (by simpa using h)]
def Yh (f:Ev->Option (List D)):Ev->Option (List D):=fun ρ=>(f ρ).bind λas=>match as with
 | [d,e]=>(wc d).bind λxs=>(wc e).bind λys=>if xs.length<=ys.length then some (zbA xs ys)else none
 | _=>none
theorem zkc {K:W.Frag}{F H:Hp}{d:D}{v:V}{ds:List D}(s:zZ F H)(h:At F d v)(e:wc d=some ds):∃ b p xs,v=.ref p/\(∀ {F' H':Hp},zZ F F'->zZ F' H'->Sq b K H' p xs)/\AtL F ds xs:=by
 cases d <;> cases e
 .obtain⟨p,xs,rfl,hx,al⟩:=h.tup_inv
  exact⟨false,p,xs,rfl,λs1 s2=>SqT.of (s2 _ _ (s1 _ _ hx)),al⟩
 .obtain⟨p,xs,rfl,hx,al⟩:=h.lst_inv
  exact⟨true,p,xs,rfl,λs1 s2=>SqL.of (s2 _ _ (s1 _ _ hx)),al⟩
theorem zlq {es:List Expr} {k:Nat} {tp p:Pos} {f:Ev->Option (List D)} (hg:Gl X "zip") (hm:X.mg "zip"=none) (ha:AD X [a,b] f)
 (hs:starEach [a,b] X.env=[(false,eval a X.env),(false,eval b X.env)]:=by rfl) (hs2:starEach [b] X.env=[(false,eval b X.env)]:=by rfl):ID X (.Tuple es k tp) (.Call (.Name "zip" p) [a,b] [] pos) (Yh f):=by
 obtain⟨t,pa,r⟩:=ha
 refine⟨_,zly hg hm zj9 pa hs hs2,fun σ ρ F H ds R s va e q=>?_⟩
 obtain⟨as,e1,e2⟩:=u5.mp e
 refine r σ ρ F H as _ s va e1 λF1 H1 v g1 a1=>?_
 split at e2
 .obtain⟨x,r',rfl,ax,ar⟩:=a1.cons_inv
  obtain⟨y,r',rfl,ay,ar⟩:=ar.cons_inv
  cases ar.nil_inv
  obtain⟨xs,e3,e2'⟩:=u5.mp e2
  obtain⟨ys,e4,e2''⟩:=u5.mp e2'
  clear e2 e2' e
  split at e2'' <;> cases e2''
  rename_i hle
  obtain⟨b1,p1,us,rfl,sq1,al⟩:=zkc (K:=X.K) g1.fh ax e3
  obtain⟨b2,p2,ws,rfl,sq2,bl⟩:=zkc (K:=X.K) g1.fh ay e4
  refine⟨b1,b2,p1,p2,us,ws,rfl,sq1 (zZ.refl _) g1.fh,sq2 (zZ.refl _) g1.fh,q F1 H1 _ g1 λi F2 H2 s1 s2=>?_⟩
  have q1:=sq1 s1 s2
  have q2:=sq2 s1 s2
  refine⟨λhl=>⟨us,q1,by rw[hl,XG _ _ hle,al.length]⟩,λd hd=>?_⟩
  rw[zbB]at hd
  cases h1:xs[i]? with
  | none=>rw[h1]at hd;cases hd
  | some x =>
   cases h2:ys[i]? with
   | none=>rw[h1,h2]at hd;cases hd
   | some y =>
    rw[h1,h2]at hd
    cases hd
    obtain⟨u,hu,au⟩:=al.get h1
    obtain⟨u2,hu2,au2⟩:=bl.get h2
    refine⟨⟨us,ws,u,u2,q1,q2,hu,hu2⟩,λz H3 hz=>?_⟩
    obtain⟨T,x',y',rfl,hT,rfl,hx',hy'⟩:=hz
    have e5:=hx' us q1
    have e6:=hy' ws q2
    rw[hu]at e5
    rw[hu2]at e6
    cases e5
    cases e6
    have g3:=Gr.alloc s2 hT (.tup [u,u2])
    exact⟨_,g3,.tup zn (.cons (au.mono (s1.trans g3.ff)) (.cons (au2.mono (s1.trans g3.ff)) .nil))⟩
 .cases e2
def wz (g:List D->Option (List D))(f:Ev->Option (List D))(b:D->SE->Option SE)(h:SE->Ctl):SE->Ctl:=fun ρ=>match (f (visG ρ)).bind g with
 | some ds=>zdY b h ds ρ
 | none=>.no
theorem zb7 {p pos':Pos} {body:List Stmt} {f:Ev->Option (List D)} {b':D->SE->Option SE} {g:SE->Ctl} (hp:PassesOwn (model X.prog X.w) X.A X.env X.xe) (hc:X.calm=true) (hgl:Gl X "range") (hm:X.mg "range"=none) (ha:AD X [a] f) (hg:BD X tg b') (hb:SDs X body g)
 (hs0:starEach [a] X.env=[(false,eval a X.env)]:=by rfl) (hs:∀ x,foldedSetIterable (.Call (.Name "range" p) [a] [] pos) X.env x=pure x:=by intro _;rfl):SD X (.For tg (.Call (.Name "range" p) [a] [] pos) body [] pos') (wz Y5 f b' g):=by
 obtain⟨t,pa,r⟩:=ha
 obtain⟨tg',pg,rg⟩:=hg
 obtain⟨tb,pb,rb⟩:=hb
 refine⟨_,zbT hp hc (VV hgl hm pa hs0) pg pb hs,λFb Hb F H ρ σ E rl k=>?_⟩
 unfold wz at k
 cases h:(f (visG ρ)).bind Y5 with
 | none=>rw[h]at k;exact k.elim
 | some ds =>
  rw[h]at k
  obtain⟨as,e1,e2⟩:=u5.mp h
  refine r σ _ _ H as _ rl.gh rl.visG e1 λF1 H1 vs g1 a1=>?_
  have rl2:=rl.grow (rl.back g1).1
  unfold Y5 at e2
  split at e2
  .split at e2 <;> cases e2
   rename_i hc
   obtain⟨x,r',rfl,ax,ar⟩:=a1.cons_inv
   cases ar.nil_inv
   exact⟨_,by rw[ax.int_inv],(yc.mp hc).1,(yc.mp hc).2,zej (zbL 0 _) rg rb rl2 k⟩
  .cases e2
theorem zgn {p pos':Pos} {body:List Stmt} {f:Ev->Option (List D)} {b':D->SE->Option SE} {g:SE->Ctl} (hp:PassesOwn (model X.prog X.w) X.A X.env X.xe) (hc:X.calm=true) (hgl:Gl X "range") (hm:X.mg "range"=none) (ha:AD X [a,b] f) (hg:BD X tg b') (hb:SDs X body g)
 (hs0:starEach [a,b] X.env=[(false,eval a X.env),(false,eval b X.env)]:=by rfl) (hs2:starEach [b] X.env=[(false,eval b X.env)]:=by rfl) (hs:∀ x,foldedSetIterable (.Call (.Name "range" p) [a,b] [] pos) X.env x=pure x:=by intro _;rfl):SD X (.For tg (.Call (.Name "range" p) [a,b] [] pos) body [] pos') (wz Y7 f b' g):=by
 obtain⟨t,pa,r⟩:=ha
 obtain⟨tg',pg,rg⟩:=hg
 obtain⟨tb,pb,rb⟩:=hb
 refine⟨_,zbT hp hc (zac hgl hm pa hs0 hs2) pg pb hs,λFb Hb F H ρ σ E rl k=>?_⟩
 unfold wz at k
 cases h:(f (visG ρ)).bind Y7 with
 | none=>rw[h]at k;exact k.elim
 | some ds =>
  rw[h]at k
  obtain⟨as,e1,e2⟩:=u5.mp h
  refine r σ _ _ H as _ rl.gh rl.visG e1 λF1 H1 vs g1 a1=>?_
  have rl2:=rl.grow (rl.back g1).1
  unfold Y7 at e2
  split at e2
  .split at e2 <;> cases e2
   rename_i hc
   obtain⟨x,r',rfl,ax,ar⟩:=a1.cons_inv
   obtain⟨y,r',rfl,ay,ar⟩:=ar.cons_inv
   cases ar.nil_inv
   exact⟨_,_,by rw[ax.int_inv,ay.int_inv],⟨(yc.mp hc.1).1,(yc.mp hc.1).2,(yc.mp hc.2).1,(yc.mp hc.2).2⟩,zej (zbL _ _) rg rb rl2 k⟩
  .cases e2
end
theorem zi6 {P:Program}{w:World}{K:W.Frag}{mg:Str->Option Value}{base:Heap}{f:Addr}{fd:FuncData}{ps:List Str}{k m:Nat}:xC P w K mg base CX0 k f fd ps (spD m λ_=>none):=by
 refine⟨λvs H Q E h=>?_,λA outer s H args us vs Q E _ _ _ _ h=>?_⟩
 .obtain⟨_,_,_,_,_,_,e,_⟩:=h
  cases e
 .obtain⟨_,_,_,_,_,_,e,_⟩:=h
  cases e
def zjZ (n:Nat)(g:(List D->Option D)->SE->Ctl):Nat->List D->Option D
 | 0=>λ_=>none
 | k+1=>fnD n (g (zjZ n g k))
theorem zkW {P:Program}{w:World}{K:W.Frag}{mg:Str->Option Value}{base:Heap}{x qual:Str}{st:Stmt}{f:Addr}{fd:FuncData}{N ps:List Str}{k0:Nat}{g:(List D->Option D)->SE->Ctl}(Fu:Fun K x qual st f fd)(S:zC N ps (zk st))
 (hb:∀ (k:Nat) (r:List D->Option D),xC P w K mg base CX0 (k0+k) f fd ps (spD ps.length r)->∀ (cdv:Value) (A:Around) (outer:List Env) (s:Shared) (H:Hp) (E:XK),wB (k0+k) (A.deeper (PyProof.Rows.envOfC qual (zk st) s.heap.objs.size f cdv))->SDs (Y6 CX0 P w K mg base N qual (zk st) f cdv A outer s H E).nox (xL st) (g r)) :
 ∀ n,xC P w K mg base CX0 (k0+n) f fd ps (spD ps.length (zjZ N.length g n)):=by
 intro n
 induction n with
 | zero=>exact zi6
 | succ n ih=>exact xQ Fu S λcdv A outer s H E hr=>hb n _ ih cdv A outer s H E hr
def zfP (K:W.Frag):Sp:=λvs H Q _=>∃ (a:Addr) (ns:List Int),vs=[.ref a]/\SqL K H a (ns.map V.int)/\ns.length<=63/\∀ H',Q (.bl true) H'
end Dl
namespace Dl
open PySem L2
theorem zld {P:Program}{w:World}{K:W.Frag}{mg:Str->Option Value}{base:Heap}{f:Addr}{fd:FuncData}{ps:List Str}{k:Nat}{p:List D->Option D}(F:xC P w K mg base CX0 k f fd ps (@spD ⟨K⟩ 1 p))(h:∀ ns:List Int,ns.length<=63->p [.scr ns]=some (.bl true)) :
 xC P w K mg base CX0 k f fd ps (zfP K):=by
 letI:KK:=⟨K⟩
 refine F.imp λvs H Q E hs=>?_
 obtain⟨a,ns,rfl,hq,hl,q⟩:=hs
 refine⟨[.scr ns],.bl true,H,rfl,zZ.refl _,.cons ?_ .nil,h ns hl,λF' H' v _ av=>?_⟩
 .unfold At
  exact⟨a,rfl,hq⟩
 .rw[av.bl_inv]
  exact q H'
structure Def (K:W.Frag) (mg:Str->Option Value) (x:Str) (st:Stmt) (ps:List Str) (f:Addr) (fd:FuncData):Prop where
 fn:Fun K x x st f fd
 bd:ZQ K fd ps []
 at_:mg x=some (.ref f)
theorem Def.kp {K:W.Frag}{mg:Str->Option Value}{x:Str}{st:Stmt}{ps:List Str}{f:Addr}{fd:FuncData}(d:Def K mg x st ps f fd):W.keepIn K (.ref f)=true:=d.fn.kp
inductive Ctl.w:Ctl->(SE->Prop)->(SE->Prop)->(SE->Prop)->(D->Prop)->Prop where
 | nx {ρ:SE} {n b k:SE->Prop} {r:D->Prop}:n ρ->Ctl.w (.nx ρ) n b k r
 | bk {ρ:SE} {n b k:SE->Prop} {r:D->Prop}:b ρ->Ctl.w (.bk ρ) n b k r
 | ct {ρ:SE} {n b k:SE->Prop} {r:D->Prop}:k ρ->Ctl.w (.ct ρ) n b k r
 | rt {d:D} {n b k:SE->Prop} {r:D->Prop}:r d->Ctl.w (.rt d) n b k r
section
variable {ρ:SE}{d:D}{n b k:SE->Prop}{r:D->Prop}
theorem Ctl.w.nxi (h:Ctl.w (.nx ρ) n b k r):n ρ:=by cases h;assumption
theorem Ctl.w.bki (h:Ctl.w (.bk ρ) n b k r):b ρ:=by cases h;assumption
theorem Ctl.w.cti (h:Ctl.w (.ct ρ) n b k r):k ρ:=by cases h;assumption
theorem Ctl.w.rti (h:Ctl.w (.rt d) n b k r):r d:=by cases h;assumption
theorem Ctl.w.noi (h:Ctl.w .no n b k r):False:=by cases h
end
abbrev noP:SE->Prop:=λ_=>False
section
variable {g h:SE->Ctl}{ρ ρ':SE}{n b k:SE->Prop}{r:D->Prop}
theorem zR (e:(g ρ).w (fun ρ'=>(h ρ').w n b k r) b k r):(yn g h ρ).w n b k r:=by
 unfold yn
 cases hg:g ρ with
 | nx ρ'=>rw[hg]at e;exact e.nxi
 | bk ρ'=>rw[hg]at e;exact .bk e.bki
 | ct ρ'=>rw[hg]at e;exact .ct e.cti
 | rt d=>rw[hg]at e;exact .rt e.rti
 | no=>rw[hg]at e;exact e.noi.elim
theorem zI (e:g ρ=.nx ρ')(q:(h ρ').w n b k r):(yn g h ρ).w n b k r:=zR (by rw[e];exact .nx q)
theorem vC (e:g ρ=.nx ρ')(q:n ρ'):(g ρ).w n b k r:=by rw[e];exact .nx q
theorem wK {d:D}(e:g ρ=.rt d)(q:r d):(g ρ).w n b k r:=by rw[e];exact .rt q
theorem wC {t:Ev->Option Bool}{c:Bool}(e:t (visG ρ)=some c)(h1:c=true->(g ρ).w n b k r)(h2:c=false->(h ρ).w n b k r):(sIf t g h ρ).w n b k r:=by
 unfold sIf
 rw[e]
 cases c with
 | true=>exact h1 rfl
 | false=>exact h2 rfl
theorem zl5 {i:Nat}(e:zl4 ρ i=ρ')(q:(g ρ').w n b k r):(sFz i g ρ).w n b k r:=by
 unfold sFz
 rw[e]
 exact q
theorem zfo {bd:D->SE->Option SE}(I:Nat->SE->Prop):∀ (ds:List D) (j:Nat) (ρ:SE),I j ρ ->
 (∀ i d ρ,ds[i]?=some d->I (j+i) ρ->∃ ρ1,bd d ρ=some ρ1/\(g ρ1).w (I (j+i+1)) n (I (j+i+1)) r)->(∀ ρ,I (j+ds.length) ρ->n ρ)->(zdY bd g ds ρ).w n b k r
 | [],j,ρ,h0,_,fin=>.nx (fin ρ h0)
 | d::ds,j,ρ,h0,step,fin=>by
  obtain⟨ρ1,e1,e2⟩:=step 0 d ρ rfl h0
  unfold zdY
  rw[e1]
  dsimp only
  have next:∀ ρ',I (j+1) ρ'->(zdY bd g ds ρ').w n b k r:=fun ρ' h'=>zfo I ds (j+1) ρ' h'
   (λi d' ρ hd hI=>by
    have:=step (i+1) d' ρ (by simpa using hd) (by rw[show j+(i+1)=j+1+i by omega];exact hI)
    rwa[show j+(i+1)+1=j+1+i+1 by omega]at this)
   (fun ρ hI=>fin ρ (by rw[u0g,show j+(ds.length+1)=j+1+ds.length by omega];exact hI))
  cases hg:g ρ1 with
  | nx ρ'=>rw[hg]at e2;exact next ρ' e2.nxi
  | ct ρ'=>rw[hg]at e2;exact next ρ' e2.cti
  | bk ρ'=>rw[hg]at e2;exact .nx e2.bki
  | rt d'=>rw[hg]at e2;exact .rt e2.rti
  | no=>rw[hg]at e2;exact e2.noi.elim
theorem WJ {f:Ev->Option (List D)}{bd:D->SE->Option SE}{ds:List D}(I:Nat->SE->Prop)(e:f (visF ρ)=some ds)(h0:I 0 ρ)
 (step:∀ i d ρ,ds[i]?=some d->I i ρ->∃ ρ1,bd d ρ=some ρ1/\(g ρ1).w (I (i+1)) n (I (i+1)) r) (fin:∀ ρ,I ds.length ρ->n ρ):(ZK f bd g ρ).w n b k r:=by
 unfold ZK
 rw[e]
 exact zfo I ds 0 ρ h0 (λi d ρ hd hI=>by rw[u0f]at hI ⊢;exact step i d ρ hd hI) (fun ρ hI=>fin ρ (by rw[u0f]at hI;exact hI))
theorem zfs {f:Ev->Option (List D)}{bd:D->SE->Option SE}{rg:List D->Option (List D)}{lo:Int}{c:Nat}(I:Nat->SE->Prop)(e:(f (visG ρ)).bind rg=some (ZW lo c))(h0:I 0 ρ)
 (step:∀ (i:Nat) ρ,i < c->I i ρ->∃ ρ1,bd (.int (lo+i)) ρ=some ρ1/\(g ρ1).w (I (i+1)) n (I (i+1)) r) (fin:∀ ρ,I c ρ->n ρ):(wz rg f bd g ρ).w n b k r:=by
 unfold wz
 rw[e]
 refine zfo I (ZW lo c) 0 ρ h0 (λi d ρ hd hI=>?_) (fun ρ hI=>fin ρ ?_)
 .rw[u0f]at hI ⊢
  unfold ZW at hd
  rw[d6]at hd
  by_cases hi:i < c
  .rw[u20 hi]at hd
   cases hd
   exact step i ρ hi hI
  .rw[u1t (by simpa using hi)]at hd
   cases hd
 .rw[u0f]at hI
  rwa[show(ZW lo c).length=c by unfold ZW;simp]at hI
end
theorem ZT {m:Nat}{g:SE->Ctl}{ds:List D}{d:D}{ρ:SE}(e:ds.map .v++List.replicate (m - ds.length) .no=ρ)(q:(g ρ).w (λ_=>d=.non) noP noP (λd'=>d'=d)):fnD m g ds=some d:=by
 unfold fnD
 rw[e]
 cases hg:g ρ with
 | nx ρ'=>rw[hg]at q;rw[show d=.non from q.nxi]
 | rt d'=>rw[hg]at q;rw[show d'=d from q.rti]
 | bk _=>rw[hg]at q;exact q.bki.elim
 | ct _=>rw[hg]at q;exact q.cti.elim
 | no=>rw[hg]at q;exact q.noi.elim
theorem zdI {m:Bool}{i:Nat}{f:Ev->Option D}{ρ:SE}{ds:List D}{d:D}(h1:vEv m f ρ=some d)(h2:ρ[i]?=some (.o ds))(h3:ds.length<=1000):XU m i f ρ=.nx (ρ.set i (.o (ds++[d]))):=by
 unfold XU
 rw[h1,h2]
 show(match (if decide (ds.length < sizeLine)=true then some (ρ.set i (.o (ds++[d])))else none)with | some ρ'=>Ctl.nx ρ' | none=>Ctl.no)=_
 rw[q5 (j8 (vN h3))]
theorem zaP {b:D->Option (List (Option D))}{t:Ev->Option Bool}{f:Ev->Option D}{ρ:Ev}{α:Type}(c:α->D)(y:α->D):∀ (xs:List α),(∀ x∈xs,∃ own,b (c x)=some own/\t (own++ρ)=some true/\f (own++ρ)=some (y x))->lcD b t f ρ (xs.map c)=some (xs.map y)
 | [],_=>rfl
 | x::xs,h=>by
  obtain⟨own,h1,h2,h3⟩:=h x g9
  show lcD b t f ρ (c x::xs.map c)=_
  unfold lcD
  rw[h1]
  simp only[b9,h2,u3a,h3,zaP c y xs λz hz=>h z (b0 _ hz)]
  rfl
theorem Zn {b:D->Option (List (Option D))}{t:Ev->Option Bool}{f:Ev->Option D}{ρ:Ev}{α:Type}(c:α->D)(p:α->Bool)(y:α->D):∀ (xs:List α),(∀ x∈xs,∃ own,b (c x)=some own/\t (own++ρ)=some (p x)/\(p x=true->f (own++ρ)=some (y x)))->lcD b t f ρ (xs.map c)=some ((xs.filter p).map y)
 | [],_=>rfl
 | x::xs,h=>by
  obtain⟨own,h1,h2,h3⟩:=h x g9
  have ih:=Zn c p y xs λz hz=>h z (b0 _ hz)
  show lcD b t f ρ (c x::xs.map c)=_
  unfold lcD
  rw[h1]
  simp only[b9,h2]
  cases hp:p x with
  | false =>
   rw[j4 u8,ih,List.filter_cons,j4 (by rw[hp];exact u8)]
  | true =>
   rw[q5 rfl,h3 hp,ih,List.filter_cons,q5 hp]
   rfl
mutual
def noS:D->Bool
 | .tup ds=>zh3 ds
 | .lst ds=>zh3 ds
 | .scr _=>false
 | _=>true
def zh3:List D->Bool
 | []=>true
 | d::ds=>noS d&&zh3 ds
end
theorem v5:∀ {ds:List D} {i:Nat} {d:D},zh3 ds=true->ds[i]?=some d->noS d=true
 | [],_,_,_,h=>by simp at h
 | d::ds,i,e,h,he=>by
  unfold zh3 at h
  rw[p4]at h
  cases i with
  | zero=>simp at he;subst he;exact h.1
  | succ i=>exact v5 h.2 (by simpa using he)
theorem YW {n:Nat}(h:n<=1000):lim n=true:=by
 unfold lim
 exact j8 (u0I (vN h))
theorem zbn (lo:Int)(n:Nat):(ZW lo n).length=n:=by unfold ZW;simp
end Dl
namespace Dl
open PySem L2
abbrev Pr:=Int × Int
def prD (t:Pr):D:=.tup [.int t.1,.int t.2]
def zlU:D->Option Pr
 | .tup [.int a,.int b]=>some (a,b)
 | _=>none
def zak:List D->Option (List Pr)
 | []=>some []
 | d::ds=>(zlU d).bind λt=>(zak ds).map (t::·)
theorem zir {d:D}{t:Pr}(h:zlU d=some t):d=prD t:=by
 unfold zlU at h
 split at h
 .cases h;rfl
 .cases h
theorem WV:∀ {ds:List D} {ts:List Pr},zak ds=some ts->ds=ts.map prD
 | [],ts,h=>by cases h;rfl
 | d::ds,ts,h=>by
  unfold zak at h
  obtain⟨t,h1,h2⟩:=u5.mp h
  obtain⟨us,h3,rfl⟩:=u9.mp h2
  rw[zir h1,WV h3]
  rfl
theorem zaj (ts:List Pr):zak (ts.map prD)=some ts:=by
 induction ts with
 | nil=>rfl
 | cons t ts ih =>
  show(zlU (prD t)).bind (λu=>(zak (ts.map prD)).map (u::·))=_
  rw[ih]
  rfl
def zjJ (a b:Pr):Bool:=!OwnSort.bltP b a
def vf (ts:List Pr):List Pr:=ts.mergeSort zjJ
def leI (a b:Int):Bool:=decide (a<=b)
def zf1 (ns:List Int):List Int:=ns.mergeSort leI
theorem Wp {a b:Pr}:OwnSort.bltP b a=false↔zjJ a b=true:=by unfold zjJ;simp
theorem wD {a b:Pr}:zjJ a b=true↔a.1 < b.1\/(a.1=b.1/\a.2<=b.2):=by
 rw[<-Wp]
 unfold OwnSort.bltP
 rw[u0z]
 omega
theorem Zg {ts us:List Pr}(p:us.Perm ts)(h:us.Pairwise λa b=>OwnSort.bltP b a=false):us=vf ts:=by
 refine u1C (le:=λa b=>zjJ a b=true) (λa b _ _ h1 h2=>?_) (h.imp λx=>Wp.mp x) ?_ (p.trans (u22 _ _).symm)
 .rw[wD]at h1 h2
  exact u10 (by omega) (by omega)
 .exact u2k (λa b c h1 h2=>by rw[wD]at *;omega) (λa b=>by rw[u1P,wD,wD];omega) _
theorem zc2 {ts us:List Int}(p:us.Perm ts)(h:us.Pairwise (·<=·)):us=zf1 ts:=by
 refine u1C (le:=λa b=>leI a b=true) (λa b _ _ h1 h2=>?_) (h.imp λx=>j8 x) ?_ (p.trans (u22 _ _).symm)
 .unfold leI at h1 h2
  rw[p0]at h1 h2
  omega
 .exact u2k (λa b c h1 h2=>by unfold leI at *;rw[p0]at *;omega) (λa b=>by unfold leI;rw[u1P,p0,p0];omega) _
def Vk:List D->Option (List D)
 | [.lst ds]=>if ds.length < 64 then match zak ds with
  | some ts=>some ((vf ts).map prD)
  | none=>match zlH ds with
   | some ns=>some ((zf1 ns).map .int)
   | none=>none
  else none
 | _=>none
variable [KK]
section
variable {X:Cx}{e:Expr}{pos:Pos}
theorem At.pr_inv {F:Hp}{t:Pr}{v:V}(h:At F (prD t) v):∃ a,v=.ref a/\F a=some (.tup [.int t.1,.int t.2]):=by
 obtain⟨a,xs,rfl,hx,al⟩:=h.tup_inv
 obtain⟨x,r,rfl,a1,al⟩:=al.cons_inv
 obtain⟨y,r,rfl,a2,al⟩:=al.cons_inv
 cases al.nil_inv
 cases a1.int_inv
 cases a2.int_inv
 exact⟨a,rfl,hx⟩
theorem V9 (hc:X.calm=true):vH X (.builtin "sorted") (λxs H Q=>∃ F p ys ds out,xs=[.ref p]/\zZ F H/\H p=some (.lst ys)/\AtL F ds ys/\Vk [.lst ds]=some out/\∀ l zs,H l=none->AtL F out zs->Q (.ref l) (upd H l (.lst zs))):=by
 intro pins s σ H xs us Q I r h
 obtain⟨F,p,ys,ds,out,rfl,sm,hp,al,hs,q⟩:=h
 obtain⟨u,rfl,ru⟩:=WN r
 cases ru
 obtain⟨its,rv,pl,hz⟩:=I.list (SqL.of hp)
 have hlen:its.length=ds.length:=by rw[<-rv.length,al.length]
 unfold Vk at hs
 dsimp only at hs
 split at hs <;> try cases hs
 rename_i h64
 have fin:∀ (zs:List V) (ws:List Value),zs.length < 64->yt zs ws->AtL F out zs->EP X pins σ Q (.ref (s.heap.objs.size+1)) { s with heap:=PyProof.Rows.sortedAll s.heap its ws.toArray }:=λzs ws hl rz az=>by
  have hn:H (s.heap.objs.size+1)=none:=I.hok.fresh (u25 _)
  obtain⟨ep,he⟩:=PyProof.Rows.sortedAll_at s.heap its ws.toArray
  refine⟨.ref (s.heap.objs.size+1),upd H (s.heap.objs.size+1) (.lst zs),I.laid (t':=s.toks) (λb o z=>PyProof.Rows.sortedAll_old z) (u25 _) ?_,rfl,q _ zs hn az⟩
  exact⟨u0I (vN (by omega)),ws,ep,rz,he⟩
 split at hs
 .rename_i ts hts
  cases hs
  have eds:=WV hts
  subst eds
  have look:∀ {v:Value},v∈its->∃ a t,v=.ref a/\t∈ts/\F a=some (.tup [.int t.1,.int t.2])/\OwnSort.TP s.heap v t:=λ{v} hv=>by
   obtain⟨j,hj,rfl⟩:=u05 hv
   have hj2:j < ts.length:=by rw[u7]at hlen;omega
   obtain⟨x,hx,ax⟩:=al.get (i:=j) (d:=prD ts[j]) (by rw[d6];simp[hj2])
   obtain⟨a,rfl,ha⟩:=ax.pr_inv
   obtain⟨v,hv,rvv⟩:=rv.get hx
   have e1:its[j]?=some its[j]:=by simp[hj]
   rw[hv]at e1
   cases e1
   have e2:its[j]=.ref a:=rvv
   refine⟨a,ts[j],e2,u0e hj2,ha,?_⟩
   obtain⟨us,ru,⟨o,ho,hcl,n,hd⟩,_⟩:=I.tuple (SqT.of (sm _ _ ha))
   obtain⟨u1,u2,rfl,r1,r2⟩:=zbr ru
   obtain⟨t1,rfl⟩:=r1
   obtain⟨t2,rfl⟩:=r2
   exact⟨a,o,n,t1,t2,e2,ho,hcl,hd⟩
  refine OwnSort.own_sorted pl.isList (λv hv=>let ⟨a,t,_,_,_,ht⟩:=look hv;⟨t,ht⟩) (by omega) λo2 pm ri=>?_
  obtain⟨us,l1,l2,l3⟩:=ri
  have hlo:o2.toList.length=ts.length:=by rw[pm.length_eq,hlen,u7]
  -- the values' addresses
  have zsOf:∀ (ws:List Value) (vs:List Pr),ws.length=vs.length->(∀ w∈ws,w∈its)->(∀ (i:Nat) v t,ws[i]?=some v->vs[i]?=some t->OwnSort.TP s.heap v t)->∃ zs:List V,yt zs ws/\AtL F (vs.map prD) zs:=by
   intro ws
   induction ws with
   | nil =>
    intro vs hl _ _
    cases vs with
    | nil=>exact⟨[],.nil,.nil⟩
    | cons _ _=>simp at hl
   | cons w ws ih =>
    intro vs hl hm ht
    cases vs with
    | nil=>simp at hl
    | cons t vs =>
     obtain⟨zs,z1,z2⟩:=ih vs (by simpa using hl) (λw' hw'=>hm w' (b0 _ hw')) (λi v t h1 h2=>ht (i+1) v t (by simpa using h1) (by simpa using h2))
     obtain⟨a,t',rfl,_,ha,htp⟩:=look (hm w g9)
     have et:t'=t:=htp.uniq (ht 0 _ t rfl rfl)
     subst et
     exact⟨.ref a::zs,.cons rfl z1,.cons (.tup ha (.cons .int (.cons .int .nil))) z2⟩
  obtain⟨zs,z1,z2⟩:=zsOf o2.toList us l1 (λw hw=>pm.mem_iff.mp hw) l2
  have keysPerm:us.Perm ts:=by
   -- by the keys of the values
   have kv:∀ (ws:List Value) (vs:List Pr),ws.length=vs.length->(∀ (i:Nat) v t,ws[i]?=some v->vs[i]?=some t->OwnSort.TP s.heap v t)->vs=ws.map λv=>(OwnSort.keyP s.heap v).getD (0,0):=by
    intro ws
    induction ws with
    | nil=>intro vs hl _;cases vs with
     | nil=>rfl
     | cons _ _=>simp at hl
    | cons w ws ih =>
     intro vs hl ht
     cases vs with
     | nil=>simp at hl
     | cons t vs =>
      rw[i8,OwnSort.keyP_of (ht 0 w t rfl rfl),<- ih vs (by simpa using hl) λi v t h1 h2=>ht (i+1) v t (by simpa using h1) (by simpa using h2)]
      rfl
   rw[kv _ _ l1 l2,kv its ts (by rw[hlen,u7]) λi v t h1 h2=>?_]
   .exact pm.map _
   .obtain⟨x,hx,ax⟩:=al.get (i:=i) (d:=prD t) (by rw[d6,h2];rfl)
    obtain⟨a,rfl,ha⟩:=ax.pr_inv
    obtain⟨v',hv',rvv⟩:=rv.get hx
    rw[h1]at hv'
    cases hv'
    obtain⟨us',ru',⟨o,ho,hcl,n,hd⟩,_⟩:=I.tuple (SqT.of (sm _ _ ha))
    obtain⟨u1,u2,rfl,r1,r2⟩:=zbr ru'
    obtain⟨t1,rfl⟩:=r1
    obtain⟨t2,rfl⟩:=r2
    exact⟨a,o,n,t1,t2,rvv,ho,hcl,hd⟩
  have e3:=Zg keysPerm l3
  rw[e3]at z2
  have:=fin zs o2.toList (by rw[z1.length];rw[u7]at h64;omega) z1 z2
  simpa using this
 .split at hs <;> try cases hs
  rename_i ns hns
  have eds:=WF hns
  subst eds
  have hI:PyProof.Rows.IntsAre its ns:=wU (by rw[<-al.of_ints];exact rv)
  refine PyProof.Rows.sorted_ints pl.isList hI (by omega) λo2 ns' h1 h2 h3=>?_
  have e3:=zc2 h2 h3
  subst e3
  have z1:yt ((zf1 ns).map V.int) o2.toList:=VX h1
  have:=fin ((zf1 ns).map V.int) o2.toList (by rw[u7,h2.length_eq];rw[u7]at h64;omega) z1 (.ints _)
  simpa using this
theorem zau {p:Pos} {f:Ev->Option (List D)} (hc:X.calm=true) (hgl:Gl X "sorted") (hm:X.mg "sorted"=none) (ha:AD X [e] f)
 (he:starEach [e] X.env=(false,eval e X.env)::starEach [] X.env:=by rfl) (hpl:(backTo pos (starEach [] X.env)).any (·.1)=false:=by rfl):FL X (.Call (.Name "sorted" p) [e] [] pos) (fFn Vk f):=by
 obtain⟨t,pa,ra⟩:=ha
 refine⟨_,zX (V9 hc) hgl hm Xm pa (by decide) (by decide) he hpl,fun σ ρ F H z Q s va e q=>?_⟩
 obtain⟨ds,e1,e2⟩:=u5.mp e
 refine ra σ ρ F H ds _ s va e1 λF1 H1 vs g1 a1=>?_
 have e2':=e2
 unfold Vk at e2'
 split at e2'
 .obtain⟨x,r,rfl,ax,ar⟩:=a1.cons_inv
  cases ar.nil_inv
  obtain⟨p,ys,rfl,hx,bl⟩:=ax.lst_inv
  exact⟨F1,p,ys,_,z,rfl,g1.fh,g1.fh _ _ hx,bl,e2,λl zs hl az=>q _ _ _ _ (g1.trans (Gr.hide g1.fh hl _)) (zbl g1 hl) (g1.fh.free hl) zn az⟩
 .cases e2'
end
end Dl
namespace Dl
open PySem L2
variable [KK]
section
variable {X:Cx}{a e:Expr}
def zdX:V->List V->Hp->VK->Prop:=λx vs H Q=>∃ G d ds y l xs,x=.ref l/\vs=[y]/\zZ G H/\G l=some (.lst xs)/\AtL G ds xs/\At G d y/\okE 20 d=true/\ds.all (okE 20)=true/\Q (.int ((ds.countP λe=>eqN 20 e d:Nat):Int)) H
theorem We {F:Hp}{d:D}:∀ {ds:List D} {xs:List V} {us:List Value},AtL F ds xs->yt xs us->ds.all (okE 20)=true->us.countP (zcl F d)=ds.countP λe=>eqN 20 e d
 | [],_,_,al,r,_=>by cases al.nil_inv;cases r;rfl
 | e::ds,_,_,al,r,k=>by
  obtain⟨x,xs,rfl,a1,a2⟩:=al.cons_inv
  cases r with
  | cons r1 r2 =>
   rw[u2j,p4]at k
   rw[List.countP_cons,List.countP_cons,W1 a1 r1 k.1,We a2 r2 k.2]
theorem WA {k:Nat}{pins:List (Addr × Obj)}{s:Shared}{σ:St}{H G:Hp}{d:D}{ds:List D}{y:V}{u:Value}{xs:List V}{us:List Value}(hr:wB k X.A)(I:Inv X pins σ H s)(sm:zZ G H)(kd:okE 20 d=true)(kds:ds.all (okE 20)=true)(ad:At G d y)(ru:yH y u)(al:AtL G ds xs)(r:yt xs us):∀ z∈us,SeqAt.EqAt X.A.in1 s z u (zcl G d z):=λz hz=>by
 have hu:X.A.in1.units+20 < cLine:=by have:=hr.un;show X.A.units+1+20 < cLine;omega
 obtain⟨j,hj,rfl⟩:=u05 hz
 obtain⟨x',ax,rx'⟩:=al.nth r hj
 have hj':j < ds.length:=by have:=al.length;have:=r.length;omega
 have k2:=xW kds hj'
 rw[W1 ax rx' k2]
 exact zal I sm 20 k2 kd ax ad rx' ru hu
theorem zd7 {k:Nat} (hr:wB k X.A):MtM X "list.count" zdX:=by
 intro pins s σ H x vs v us Q I rx rv h
 obtain⟨G,d,ds,y,l,xs,rfl,rfl,sm,hx,al,ad,kd,kds,q⟩:=h
 cases rx
 obtain⟨u,rfl,ru⟩:=rv.one
 obtain⟨z,its,n,r,hl,e⟩:=I.lstM (sm _ _ hx)
 have mem:=WA hr I sm kd kds ad ru al r
 refine u2V u1L ⟨_,e,rfl⟩ u3H (u3t _ _) (SeqAt.list_countAt l its.toArray n none #[] u (zcl G d)) ⟨e,λy hy=>mem y (by simpa using hy),?_⟩
 refine⟨.int _,H,I.tok _,⟨_,rfl⟩,?_⟩
 have:(its.toArray.toList.countP (zcl G d))=ds.countP λe=>eqN 20 e d:=We al r kds
 rw[this]
 exact q
def idxD (c d:D):Option D:=match c with
 | .lst ds=>if okE 20 d=true/\ds.all (okE 20)=true then (ds.findIdx? λe=>eqN 20 e d).map λ(j:Nat)=>D.int (j:Int)else none
 | _=>none
def zkq (c d:D):Option D:=match c with
 | .lst ds=>if okE 20 d=true/\ds.all (okE 20)=true then some (.int ((ds.countP λe=>eqN 20 e d:Nat):Int))else none
 | _=>none
def zfX (m:D->D->Option D)(f:Ev->Option D)(g:Ev->Option (List D)):Ev->Option D:=fun ρ=>(f ρ).bind λc=>(g ρ).bind λds=>match ds with
 | [d]=>m c d
 | _=>none
theorem zf2 {p pos':Pos}{f:Ev->Option D}{g:Ev->Option (List D)}(ha:ED X a f)(he:AD X [e] g)
 (hp:∀ {ta:TE} {t:TA},PE X a ta->PA X [e] t->PE X (.Call (.Attribute a "count" p) [e] [] pos') (tBM X.K "list" zdX ta t)):ED X (.Call (.Attribute a "count" p) [e] [] pos') (zfX zkq f g):=by
 obtain⟨ta,pa,ra⟩:=ha
 obtain⟨t,pe,re⟩:=he
 refine⟨_,hp pa pe,fun σ ρ F H z Q s va h0 q=>?_⟩
 obtain⟨c,e1,h1⟩:=u5.mp h0
 obtain⟨as,e2,h⟩:=u5.mp h1
 clear h0 h1
 split at h
 .rename_i d
  unfold zkq at h
  split at h
  .rename_i ds
   split at h <;> cases h
   rename_i hk
   refine ra σ ρ F H _ _ s va e1 λF1 H1 v g1 a1=>?_
   obtain⟨l,xs,rfl,hx,al⟩:=a1.lst_inv
   refine⟨.inl ⟨rfl,xs,SqL.of (g1.fh _ _ hx)⟩,?_⟩
   refine re σ ρ F1 H1 _ _ g1.fh (va.mono g1.ff) e2 λF2 H2 vs g2 a2=>?_
   obtain⟨y,r',rfl,ay,ar⟩:=a2.cons_inv
   cases ar.nil_inv
   exact⟨F2,d,ds,y,l,xs,rfl,rfl,g2.fh,g2.ff _ _ hx,al.mono g2.ff,ay,hk.1,hk.2,q F2 H2 _ (g1.trans g2) .int⟩
  .cases h
 .cases h
end
end Dl
namespace Dl
open PySem L2
def zmp:D->Option Key
 | .int i=>some (.inl i)
 | .str x=>some (.inr x)
 | _=>none
def zfT:List D->Option (List Key)
 | []=>some []
 | d::ds=>(zmp d).bind λk=>(zfT ds).map (k::·)
def keyT:D->Option (List Key)
 | .tup ds=>zfT ds
 | _=>none
def zjG (t:Bool)(d:D):Option (List Key):=if t=true then keyT d else (zmp d).map ([·])
def intQ:Int->Int->Bool
 | .ofNat a,.ofNat b=>Nat.beq a b
 | .negSucc a,.negSucc b=>Nat.beq a b
 | _,_=>false
theorem zb9 {a b:Int}:intQ a b=true↔a=b:=by
 cases a with
 | ofNat a=>cases b with
  | ofNat b=>exact⟨λh=>(by rw[Nat.eq_of_beq_eq_true h]),λh=>(by cases h;exact Nat.beq_refl a)⟩
  | negSucc b=>exact⟨λh=>(by cases h),λh=>(by cases h)⟩
 | negSucc a=>cases b with
  | ofNat b=>exact⟨λh=>(by cases h),λh=>(by cases h)⟩
  | negSucc b=>exact⟨λh=>(by rw[Nat.eq_of_beq_eq_true h]),λh=>(by cases h;exact Nat.beq_refl a)⟩
def zgm:Key->Key->Bool
 | .inl i,.inl j=>intQ i j
 | .inr a,.inr b=>decide (a=b)
 | _,_=>false
def zlX:List Key->List Key->Bool
 | [],[]=>true
 | a::r,b::s=>match zgm a b with
  | true=>zlX r s
  | false=>false
 | _,_=>false
theorem VG {a b:Key}:zgm a b=true↔a=b:=by
 cases a with
 | inl i=>cases b with
  | inl j=>exact⟨λh=>(by rw[zb9.mp h]),λh=>(by cases h;exact zb9.mpr rfl)⟩
  | inr b=>exact⟨λh=>(by cases h),λh=>(by cases h)⟩
 | inr i=>cases b with
  | inl j=>exact⟨λh=>(by cases h),λh=>(by cases h)⟩
  | inr b=>exact⟨λh=>(by rw[d8 h]),λh=>(by cases h;exact j8 rfl)⟩
theorem zbJ {x y:List Key}:zlX x y=true↔x=y:=by
 induction x generalizing y with
 | nil=>cases y with
  | nil=>exact⟨λ_=>rfl,λ_=>rfl⟩
  | cons b s=>exact⟨λh=>(by cases h),λh=>(by cases h)⟩
 | cons a r ih=>cases y with
  | nil=>exact⟨λh=>(by cases h),λh=>(by cases h)⟩
  | cons b s =>
   show(match zgm a b with | true=>zlX r s | false=>false)=true↔_
   cases h:zgm a b with
   | true=>rw[VG.mp h];exact ih.trans ⟨λh=>(by rw[h]),λh=>(by cases h;rfl)⟩
   | false=>exact⟨λh=>(by cases h),λe=>(by cases e;rw[VG.mpr rfl]at h;cases h)⟩
def zbN (x y:List Key):Decidable (x=y):=match h:zlX x y with
 | true=>.isTrue (zbJ.mp h)
 | false=>.isFalse λe=>by rw[zbJ.mpr e]at h;cases h
def Xg:List (List Key)->List D->List Key->Option D
 | k'::ks,v::vs,k=>@ite _ (k'=k) (zbN k' k) (some v) (Xg ks vs k)
 | _,_,_=>none
def zjQ:List (List Key)->List D->List Key->D->List D
 | k'::ks,v::vs,k,d=>(@ite _ (k'=k) (zbN k' k) d v)::zjQ ks vs k d
 | _,_,_,_=>[]
def zdb (ks:List (List Key))(vs:List D)(k:List Key):List (List Key):=if (Xg ks vs k).isSome=true then ks else ks++[k]
def zcB (ks:List (List Key))(vs:List D)(k:List Key)(d:D):List D:=if (Xg ks vs k).isSome=true then zjQ ks vs k d else vs++[d]
theorem Z5 {k' k:List Key}{ks:List (List Key)}{v:D}{vs:List D}:Xg (k'::ks) (v::vs) k=if k'=k then some v else Xg ks vs k:=by
 show @ite _ (k'=k) (zbN k' k) (some v) (Xg ks vs k)=_
 by_cases h:k'=k
 .rw[q5 h,q5 h]
 .rw[j4 h,j4 h]
section
variable [KK]
theorem zbk {F:Hp}{d:D}{k:Key}{y:V}(h:zmp d=some k)(a:At F d y):y=kV k:=by
 cases d with
 | int i=>cases h;exact a.int_inv
 | str x=>cases h;exact a.str_inv
 | _=>cases h
theorem zch {F:Hp}:∀ {ds:List D} {ks:List Key} {ys:List V},zfT ds=some ks->AtL F ds ys->ys=ks.map kV
 | [],_,_,h,a=>by cases h;exact a.nil_inv
 | d::ds,_,_,h,a=>by
  obtain⟨k,h1,h2⟩:=u5.mp h
  obtain⟨r,h3,rfl⟩:=u9.mp h2
  obtain⟨x,xs,rfl,a1,a2⟩:=a.cons_inv
  rw[zbk h1 a1,zch h3 a2]
  rfl
theorem zd0 {F:Hp}{d:D}{k:List Key}{y:V}(h:keyT d=some k)(a:At F d y):∃ b,y=.ref b/\F b=some (.tup (k.map kV)):=by
 cases d with
 | tup ds =>
  obtain⟨b,ys,rfl,hb,al⟩:=a.tup_inv
  rw[zch (show zfT ds=some k from h) al]at hb
  exact⟨b,rfl,hb⟩
 | _=>cases h
section
variable {κ:Type}[DecidableEq κ](f:κ->List Key)(hf:∀ a b,f a=f b->a=b)
include hf
theorem WM {F:Hp}{k:κ}:∀ {kvs:List (κ × V)} {vs:List D},AtL F vs (kvs.map (·.2)) ->
 (∀ d,Xg (kvs.map λp=>f p.1) vs (f k)=some d->∃ x,zb5 kvs k=some x/\At F d x)/\(Xg (kvs.map λp=>f p.1) vs (f k)=none->zb5 kvs k=none)
 | [],_,_=>⟨λd h=>(by cases h),λ_=>rfl⟩
 | p::kvs,[],a=>by cases a.nil_inv
 | p::kvs,v::vs,a=>by
  obtain⟨x,r,e,a1,a2⟩:=a.cons_inv
  cases e
  have ih:=WM (k:=k) a2
  by_cases h:p.1=k
  .rw[Z1 h]
   have e:Xg ((p::kvs).map λp=>f p.1) (v::vs) (f k)=some v:=by
    rw[i8,Z5,q5 (by rw[h])]
   rw[e]
   exact⟨λd z=>(by cases z;exact⟨_,rfl,a1⟩),λz=>(by cases z)⟩
  .rw[ZZ h]
   have e:Xg ((p::kvs).map λp=>f p.1) (v::vs) (f k)=Xg (kvs.map λp=>f p.1) vs (f k):=by
    rw[i8,Z5,j4 (λz=>h (hf _ _ z))]
   rw[e]
   exact ih
theorem zgN {F:Hp}{k:κ}{kvs:List (κ × V)}{vs:List D}(a:AtL F vs (kvs.map (·.2))):(Xg (kvs.map λp=>f p.1) vs (f k)).isSome=(zb5 kvs k).isSome:=by
 obtain⟨h1,h2⟩:=WM f hf (k:=k) a
 cases h:Xg (kvs.map λp=>f p.1) vs (f k) with
 | none=>rw[h2 h];rfl
 | some d=>obtain⟨x,e,_⟩:=h1 d h;rw[e];rfl
theorem ze3 {F:Hp}{k:κ}{d:D}{y:V}(ad:At F d y):∀ {kvs:List (κ × V)} {vs:List D},AtL F vs (kvs.map (·.2)) ->
 AtL F (zjQ (kvs.map λp=>f p.1) vs (f k) d) ((kvs.map λkv=>if kv.1=k then (kv.1,y)else kv).map (·.2))
 | [],_,_=>by unfold zjQ;exact .nil
 | p::kvs,[],a=>by cases a.nil_inv
 | p::kvs,v::vs,a=>by
  obtain⟨x,r,e,a1,a2⟩:=a.cons_inv
  cases e
  have ih:=ze3 (k:=k) ad a2
  rw[i8,i8]
  refine AtL.cons ?_ ih
  by_cases h:p.1=k
  .rw[q5 h,q5 (by rw[h])];exact ad
  .rw[j4 h,j4 (λz=>h (hf _ _ z))];exact a1
theorem zeb {F:Hp}{k:κ}{d:D}{y:V}(ad:At F d y){kvs:List (κ × V)}{vs:List D}(a:AtL F vs (kvs.map (·.2))) :
 (za4 kvs k y).map (λp=>f p.1)=zdb (kvs.map λp=>f p.1) vs (f k)/\AtL F (zcB (kvs.map λp=>f p.1) vs (f k) d) ((za4 kvs k y).map (·.2)):=by
 unfold za4 zdb zcB
 rw[zgN f hf a,WZ]
 cases h:(zb5 kvs k).isSome with
 | true =>
  rw[q5 rfl,q5 rfl,q5 rfl]
  refine⟨?_,ze3 f hf ad a⟩
  rw[u0H]
  refine u06 λp _=>?_
  by_cases e:p.1=k
  .show f (if p.1=k then (p.1,y)else p).1=_;rw[q5 e]
  .show f (if p.1=k then (p.1,y)else p).1=_;rw[j4 e]
 | false =>
  rw[j4 u8,j4 u8,j4 u8,p6,p6]
  exact⟨rfl,a.append (.cons ad .nil)⟩
end
theorem zft (a b:Key)(h:[a]=[b]):a=b:=by cases h;rfl
theorem zh7 (a b:List Key)(h:a=b):a=b:=h
theorem zdx {F H:Hp}{a:Addr}{z t:Bool}{ks:List (List Key)}{xs:List V}{vs:List D}{kd:D}{k:List Key}{y:V}(s:zZ F H)(hd:X0 F a z t ks xs)(al:AtL F vs xs)(hk:zjG t kd=some k)(ak:At F kd y) :
 ∃ o,zjM H a y o/\(∀ d,Xg ks vs k=some d->∃ x,o=some x/\At F d x)/\(Xg ks vs k=none->o=none):=by
 obtain⟨u,hd,rd⟩:=(hd.mono s).rd
 unfold VM at hd
 unfold zjG at hk
 cases t with
 | true =>
  rw[q5 rfl]at hd hk
  obtain⟨kvs,rfl,rfl,rfl⟩:=hd
  obtain⟨b,rfl,hb⟩:=zd0 hk ak
  exact⟨_,.inr ⟨kvs,k,b,rd,rfl,s _ _ hb,rfl⟩,WM (λk=>k) zh7 al⟩
 | false =>
  rw[j4 u8]at hd hk
  obtain⟨kvs,rfl,rfl,rfl⟩:=hd
  obtain⟨k0,h2,rfl⟩:=u9.mp hk
  rw[zbk h2 ak]
  exact⟨_,.inl ⟨kvs,k0,rd,rfl,rfl⟩,WM (λk=>[k]) zft al⟩
theorem zje {F H:Hp}{a:Addr}{o:HO}{t:Bool}{ks:List (List Key)}{xs:List V}{vs:List D}{kd d:D}{k:List Key}{y v:V}{G:Hp}(h:H a=some o)(hd:VM o t ks xs)(al:AtL F vs xs)(hk:zjG t kd=some k)(ak:At G kd y)(s:zZ G H)(ad:At F d v)
 (hl:ks.length < sizeLine):∃ o',zf5 H a y v (upd H a o')/\zbF F o' (.m t (zdb ks vs k) (zcB ks vs k d)):=by
 unfold VM at hd
 unfold zjG at hk
 cases t with
 | true =>
  rw[q5 rfl]at hd hk
  obtain⟨kvs,rfl,rfl,rfl⟩:=hd
  obtain⟨b,rfl,hb⟩:=zd0 hk ak
  obtain⟨q1,q2⟩:=zeb (λk=>k) zh7 (k:=k) ad al
  refine⟨_,zf5.t h (s _ _ hb) (by simpa using hl),_,?_,q2⟩
  unfold VM
  rw[q5 rfl]
  exact⟨_,rfl,q1,rfl⟩
 | false =>
  rw[j4 u8]at hd hk
  obtain⟨kvs,rfl,rfl,rfl⟩:=hd
  obtain⟨k0,h2,rfl⟩:=u9.mp hk
  rw[zbk h2 ak]
  obtain⟨q1,q2⟩:=zeb (λk=>[k]) zft (k:=k0) ad al
  refine⟨_,zf5.k h (by simpa using hl),_,?_,q2⟩
  unfold VM
  rw[j4 u8]
  exact⟨_,rfl,q1,rfl⟩
def zgt:D->D->Option D
 | .dct _ t ks vs,kd=>(zjG t kd).bind λk=>Xg ks vs k
 | _,_=>none
section
variable {X:Cx}{a b c:Expr}{pos apos:Pos}
theorem zdz {k:Nat}{f h:Ev->Option D}(hr:wB k X.A)(ha:ED X a f)(hb:ED X b h)(hs:zmQ b):ED X (.Subscript a b pos) (zp zgt f h):=by
 obtain⟨ta,pa,ra⟩:=ha
 obtain⟨tb,pb,rb⟩:=hb
 refine⟨_,zjb (zjw hr) pa pb hs,fun σ ρ F H z Q s va e q=>?_⟩
 obtain⟨x,e1,e⟩:=u5.mp e
 obtain⟨y,e2,e⟩:=u5.mp e
 refine ra σ ρ F H x _ s va e1 λF1 H1 v g1 a1=>?_
 refine rb σ ρ F1 H1 y _ g1.fh (va.mono g1.ff) e2 λF2 H2 u g2 a2=>?_
 cases x with
 | dct z' t ks vs =>
  obtain⟨kk,h1,h2⟩:=u5.mp e
  obtain⟨p,xs,rfl,hd,al⟩:=(a1.mono g2.ff).dct_inv
  obtain⟨o,hg,h3,_⟩:=zdx g2.fh hd al h1 a2
  obtain⟨w,rfl,aw⟩:=h3 z h2
  exact⟨p,w,rfl,hg,q F2 H2 w (g1.trans g2) aw⟩
 | _=>cases e
def zkl (x kd d:D):Option D:=match x with
 | .dct _ t ks vs=>(zjG t kd).map λk=>(Xg ks vs k).getD d
 | _=>none
def zgv (f g h:Ev->Option D):Ev->Option D:=fun ρ=>(f ρ).bind λx=>(g ρ).bind λy=>(h ρ).bind λz=>zkl x y z
theorem zkQ {H:Hp}{a:Addr}{z t:Bool}{ks:List (List Key)}{xs:List V}(h:X0 H a z t ks xs):IsD H a:=by
 obtain⟨u,h,rd⟩:=h.rd
 unfold VM at h
 cases t with
 | true=>rw[q5 rfl]at h;obtain⟨kvs,rfl,_⟩:=h;exact .inr ⟨kvs,rd⟩
 | false=>rw[j4 u8]at h;obtain⟨kvs,rfl,_⟩:=h;exact .inl ⟨kvs,rd⟩
theorem zeT {k:Nat} {f g h:Ev->Option D} (hr:wB k X.A) (ha:ED X a f) (hb:ED X b g) (hc:ED X c h) (m:M2 X a "get" apos b c pos):ED X (.Call (.Attribute a "get" apos) [b,c] [] pos) (zgv f g h):=by
 obtain⟨ta,pa,ra⟩:=ha
 obtain⟨tb,pb,rb⟩:=hb
 obtain⟨tc,pc,rc⟩:=hc
 refine⟨_,zgK (zjw hr) pa pb pc m,fun σ ρ F H z Q s va e q=>?_⟩
 obtain⟨x,e1,e⟩:=u5.mp e
 obtain⟨y,e2,e⟩:=u5.mp e
 obtain⟨w,e3,e⟩:=u5.mp e
 refine ra σ ρ F H x _ s va e1 λF1 H1 v g1 a1=>?_
 cases x with
 | dct z' t ks vs =>
  obtain⟨kk,h1,rfl⟩:=u9.mp e
  obtain⟨p,xs,rfl,hd,al⟩:=a1.dct_inv
  refine⟨p,rfl,zkQ (hd.mono g1.fh),?_⟩
  refine rb σ ρ F1 H1 y _ g1.fh (va.mono g1.ff) e2 λF2 H2 u g2 a2=>?_
  refine rc σ ρ F2 H2 w _ g2.fh (va.mono (g1.trans g2).ff) e3 λF3 H3 u3 g3 a3=>?_
  have s13:=g2.ff.trans g3.ff
  obtain⟨o,hg,h3,h4⟩:=zdx g3.fh (hd.mono s13) (al.mono s13) h1 (a2.mono g3.ff)
  refine⟨o,hg,q F3 H3 _ ((g1.trans g2).trans g3) ?_⟩
  cases h:Xg ks vs kk with
  | none=>rw[h4 h];exact a3
  | some d=>obtain⟨w',rfl,aw⟩:=h3 d h;exact aw
 | _=>cases e
theorem zjr:ED X (.Dict [] [] pos) (eC (.dct false false [] [])):=by
 refine⟨_,zbH,fun σ ρ F H z Q s va e q=>?_⟩
 cases e
 intro p hp
 refine q _ _ _ (Gr.alloc s hp _) ?_
 unfold At
 refine⟨p,[],rfl,⟨_,?_,zn⟩,.nil⟩
 unfold VM
 rw[j4 u8]
 exact⟨[],rfl,rfl,rfl⟩
end
section
variable {X:Cx}{a e ko:Expr}{pos pos':Pos}{st:Stmt}
def zho (t:Bool)(i:Nat):SE->Ctl:=fun ρ=>.nx (ρ.set i (.m t [] []))
theorem zdk {t:Bool}{i:Nat}{x:Str}(hN:X.N.Nodup)(hi:X.N[i]?=some x)(hx:Loc X.env.scope x)(hs:swapsWith (.Dict [] [] pos) (some (.Name x pos')) pos.line X.env=pure false:=by rfl)
 (hf:X.fn x=true\/X.env.scope.names.lookup x=some .local:=by first | exact .inl rfl | exact .inr rfl | assumption) {p2:Pos} (hs:swapsWith (.Dict [] [] p2) (some (.Name x pos')) pos.line X.env=pure false:=by rfl):SD X (.Assign [.Name x pos'] (.Dict [] [] p2) pos) (zho t i):=by
 have go:∀ (o:HO),zbF (λ_=>none) o (.m t [] [])->∀ (Fb Hb F H:Hp) (ρ:SE) (σ:St) (E:zaq),Rl Fb Hb F H ρ σ->SOk Fb Hb E (zho t i ρ)->∀ p,H p=none->E.nx (σ.set i (some (.ref p))) (upd H p o):=λo ho Fb Hb F H ρ σ E rl k p hp=>by
  have g:=Gr.hide rl.gr.fh hp o
  refine k F _ _ ((rl.grow g).setW (rl.notbase hp) (rl.gr.fh.free hp) zn (ho.mono λ_ _ z=>by cases z) (rl.notown hp))
 cases t with
 | true =>
  refine⟨_,ZC hN hi hx zhj hs hf,λFb Hb F H ρ σ E rl k=>?_⟩
  refine λp hp=>go (.dT []) ⟨[],?_,.nil⟩ Fb Hb F H ρ σ E rl k p hp
  unfold VM
  rw[q5 rfl]
  exact⟨[],rfl,rfl,rfl⟩
 | false =>
  refine⟨_,ZC hN hi hx zbH hs hf,λFb Hb F H ρ σ E rl k=>?_⟩
  refine λp hp=>go (.dK []) ⟨[],?_,.nil⟩ Fb Hb F H ρ σ E rl k p hp
  unfold VM
  rw[j4 u8]
  exact⟨[],rfl,rfl,rfl⟩
def zjL (ρ:SE)(i:Nat)(kd d:D):Option SE:=match ρ[i]? with
 | some (.m t ks vs)=>(zjG t kd).bind λk=>if decide (ks.length < sizeLine)=true then some (ρ.set i (.m t (zdb ks vs k) (zcB ks vs k d)))else none
 | _=>none
def zcW (m:Bool)(i:Nat)(fk fe:Ev->Option D):SE->Ctl:=fun ρ=>match (vEv m fe ρ).bind λd=>(fk (visG ρ)).bind λkd=>zjL ρ i kd d with
 | some ρ'=>.nx ρ'
 | none=>.no
theorem zew {k:Nat}{m:Bool}{i:Nat}{fk fe:Ev->Option D}(hr:wB k X.A)(he:ED X e fe)(ho:PE X a (zaz i))(hk:ED X ko fk)(hs:swapsWith e (some (.Subscript a ko pos')) pos.line X.env=pure false:=by rfl):SD X (.Assign [.Subscript a ko pos'] e pos) (zcW m i fk fe):=by
 obtain⟨t,p,r⟩:=he
 obtain⟨tk,pk,rk⟩:=hk
 refine⟨_,zin (zjw hr) ho pk p hs,λFb Hb F H ρ σ E rl k=>?_⟩
 unfold zcW at k
 cases h:(vEv m fe ρ).bind λd=>(fk (visG ρ)).bind λkd=>zjL ρ i kd d with
 | none=>rw[h]at k;exact k.elim
 | some ρ' =>
  rw[h]at k
  obtain⟨d,e1,e2⟩:=u5.mp h
  obtain⟨kd,e3,e2⟩:=u5.mp e2
  unfold zjL at e2
  split at e2
  .rename_i tt ks vs hs
   obtain⟨kk,e4,e5⟩:=u5.mp e2
   have hl:decide (ks.length < sizeLine)=true:=by
    cases hh:decide (ks.length < sizeLine) with
    | true=>rfl
    | false=>rw[hh,j4 u8]at e5;cases e5
   rw[q5 hl]at e5
   cases e5
   refine r.at rl e1 λF' H' v g av=>?_
   have rl2:=rl.grow g
   obtain⟨q,o,f1,_⟩:=rl2.ows i _ hs rfl
   refine⟨_,f1,?_⟩
   refine rk σ _ _ H' _ _ rl2.gh rl2.visG e3 λF3 H3 v3 g3 av3=>?_
   obtain⟨gb,_⟩:=rl2.back g3
   have rl3:=rl2.grow gb
   obtain⟨q3,o3,f1',_,_,f4,xs,f5,f6⟩:=rl3.ows i _ hs rfl
   rw[f1]at f1'
   cases f1'
   obtain⟨o',hp,hw⟩:=zje f4 f5 f6 e4 av3 g3.fh (av.mono gb.ff) (d8 hl)
   exact⟨q,_,rfl,hp,k _ _ σ (rl3.mutW hs rfl f1 hw)⟩
  .cases e2
end
end
end Dl
namespace Dl
open PySem L2
variable [KK]
section
variable {X:Cx}
def rNeL:R2:=λx y H Q=>∃ F ds es,zZ F H/\At F (.lst ds) x/\At F (.lst es) y/\okE 20 (.lst ds)=true/\okE 20 (.lst es)=true/\Q (.bl (!eqN 20 (.lst ds) (.lst es))) H
theorem zkt {k:Nat}(hr:wB k X.A):OpR X (compareOp .NotEq) rNeL:=by
 intro pins s σ H x y v u Q I rx ry h
 obtain⟨F,ds,es,sm,a1,a2,k1,k2,q⟩:=h
 have hu:X.A.units+30 < cLine:=by have:=hr.un;omega
 obtain⟨p,xs,rfl,hx,al⟩:=a1.lst_inv
 obtain⟨p2,ys,rfl,hy,bl⟩:=a2.lst_inv
 cases rx
 cases ry
 obtain⟨its,r,ht,hz⟩:=I.list (SqL.of (sm _ _ hx))
 obtain⟨its2,r2,ht2,hz2⟩:=I.list (SqL.of (sm _ _ hy))
 have hl1:its.toArray.size=ds.length:=by rw[j6,<- r.length,al.length]
 have hl2:its2.toArray.size=es.length:=by rw[j6,<- r2.length,bl.length]
 have e1:eqN 20 (.lst ds) (.lst es)=((List.range (min ds.length es.length)).all (λj=>eqN 19 (ds.getD j .non) (es.getD j .non))&&ds.length == es.length):=by
  show((List.zipWith (eqN 19) ds es).all id&&ds.length == es.length)=_
  rw[Wx]
 by_cases hle:ds.length=es.length
 .refine SeqAt.RcNeAt.lists (e:=λj=>eqN 19 (ds.getD j .non) (es.getD j .non)) ht.isList ht2.isList (by rw[hl1,hl2];exact hle) (u0l (u0p _ 30) hu) (λj g1 g2=>?_) _ _ _ _ ⟨.bl _,H,I,rfl,?_⟩
  .obtain⟨x',ax,rx⟩:=al.nth r (j:=j) (by simpa using g1)
   obtain⟨y',ay,ry⟩:=bl.nth r2 (j:=j) (by simpa using g2)
   exact zal I sm 19 (xW k1 (by rw[<-hl1];exact g1)) (xW k2 (by rw[<-hl2];exact g2)) ax ay (by simpa using rx) (by simpa using ry) (u0l (show X.A.units+20<=X.A.units+30 from u1K (by decide) _) hu)
  .rw[hl1]
   rw[e1,<- hle,u38]at q
   simpa using q
 .refine SeqAt.RcNeAt.lists_lengths ht.isList ht2.isList (by rw[hl1,hl2];simpa using hle) (u0l (u0p _ 30) hu) _ _ _ _ ⟨.bl _,H,I,rfl,?_⟩
  have:(ds.length == es.length)=false:=by simpa using hle
  rw[e1,this,u1g]at q
  exact q
end
def zl3:D->D->Option D
 | .lst ds,.lst es=>if (okE 20 (.lst ds)&&okE 20 (.lst es))=true then some (.bl (!eqN 20 (.lst ds) (.lst es)))else none
 | _,_=>none
theorem zjm:OpD rNeL zl3:=by
 intro F H x y d e z Q s ax ay ez q
 unfold zl3 at ez
 split at ez
 .split at ez <;> cases ez
  rename_i hk
  rw[p4]at hk
  exact⟨F,_,_,s,ax,ay,hk.1,hk.2,q F H _ (.refl s) .bl⟩
 .cases ez
end Dl
namespace L2
open PySem PySem.Spec PyProof.Rows
section
variable {prog:Program}{w:World}{A:Around}{E:Value->Shared->Prop}{s:Shared}{d it:Addr}{o:Obj}{es:Array DictEntry}{ep i:Nat}
theorem raw_iter {Q:Value->Shared->Prop}(hs:(d == sysModules)=false)(ho:s.heap.get? d=some o)(hc:o.ExactDict)(hd:o.data=.dict es ep)
 (hQ:Q (.ref s.heap.objs.size) { s with heap:=s.heap.push { cls:=.type "dict_keyiterator",data:=.fields #[.ref d,.int 0 0,.int es.size 0,.int ep 0] } }):wpAny (model prog w) A (pyIter (.ref d)) Q E s:=by
 have hT:s.TypeIs (.ref d) "dict":=⟨o,ho,hc.1⟩
 refine u3J hT PySem.F.slot_dict_iter (i7 PySem.F.slot_dict_iter hT PySem.F.entry_dict_iter ?_ (PySem.F.args_dict_iter_1 _))
 unfold Builtin.«dict.__iter__»
 refine u0 ?_
 unfold Builtin.Dict.dictSlotNone
 refine u0 (wpAny_notOrdered_dict hT ?_)
 show wpAny _ _ (pure (Value.ref d)) _ _ s
 refine u6 ?_
 show wpAny _ _ (Builtin.Dict.showsAll d>>=_) _ _ s
 unfold Builtin.Dict.showsAll
 rw[j4 (by rw[hs];exact u8)]
 refine u0 (u6 (u0 (u3I ho hd (u0 (wpAny_dictEpoch ho hd ?_)))))
 refine u0 (u0c (u6 ⟨_,rfl,"dict_keyiterator",_,⟨_,j7 _ rfl,rfl⟩,u0D.lookup,?_⟩))
 simpa [rawInt]using hQ
theorem raw_next {e:DictEntry}{Q:Option Value->Shared->Prop}(hit:s.heap.IsKeyIter it d i es.size ep)(ho:s.heap.get? d=some o)(hd:o.data=.dict es ep)(hx:es[i]?=some e)
 (hQ:∀ h',h'.IsKeyIter it d (i+1) es.size ep->Heap.SameBut it s.heap h'->Q (some e.key) { s with heap:=h' }):wpAny (model prog w) A (pyNext (.ref it)) Q E s:=by
 obtain⟨oi,hoi,hci,hdi⟩:=id hit
 unfold pyNext
 refine u0 (u09 (e9 (name:=Str.ofString "__next__") hit.typeIs u0D
  (i7 u0D hit.typeIs u2a ?_ (u17 _))))
 refine u0 (u6 ?_)
 refine u0 ?_
 refine u0 ?_
 first | refine u0 (u1f hit.typeIs (u6 ?_)) | refine u0 (u1H hit.typeIs (u6 ?_))
 refine u0 (u3v hoi hdi ?_)
 have hown:Builtin.Dict_items.ownsTuple "dict_keyiterator"=false:=by decide
 simp only[hown,u0x,u18]
 show wpAny _ _ (if (Value.ref d == Value.none)=true then _ else _) _ _ s
 rw[j4 (show ¬ ((Value.ref d == Value.none)=true)from u8)]
 refine u0 (u6 (u0 (u3I ho hd ?_)))
 rw[j4 (by simp)]
 refine u0 (u6 (u0 (wpAny_dictEpoch ho hd ?_)))
 rw[j4 (by simp)]
 refine u6 ?_
 simp only[show ¬ ((i:Int) < 0)from by omega,u18,u0E,hx]
 refine u0 ?_
 first | refine u0 (u1f hit.typeIs (u6 ?_)) | refine u0 (u1H hit.typeIs (u6 ?_))
 refine u0 (wpAny_isOneOf_keyiter hit.typeIs ?_)
 show wpAny _ _ (setField (.ref it) 1 (rawInt ((i:Int)+1))>>=_) _ _ s
 refine u0 (u3x hoi hdi (by simp) ?_)
 have hit':(s.heap.update it (Obj.mapFields (·.setIfInBounds 1 (rawInt ((i:Int)+1))))).IsKeyIter it d (i+1) es.size ep :=
  ⟨_,p9 _ hoi (Obj.isFreed_of_fields (u2n hdi _)),(Obj.cls_mapFields ..).trans hci,by rw[u2n hdi];simp[rawInt]⟩
 refine u0 (i5 ?_)
 refine u0 (wpAny_isOneOf_keyiter (s:={ s with heap:=s.heap.update it (Obj.mapFields (·.setIfInBounds 1 (rawInt ((i:Int)+1)))) }) hit'.typeIs ?_)
 show wpAny _ _ (pure e.key) _ _ _
 exact u6 (u6 ⟨_,rfl,u6 (hQ _ hit' (u1j ..))⟩)
theorem raw_end {Q:Option Value->Shared->Prop}(hh:A.handled=none)(hit:s.heap.IsKeyIter it d i es.size ep)(ho:s.heap.get? d=some o)(hd:o.data=.dict es ep)(hx:es.size<=i)
 (hQ:∀ h',Heap.ExtBut it s.heap h'->Q none { s with heap:=h' }):wpAny (model prog w) A (pyNext (.ref it)) Q E s:=by
 obtain⟨oi,hoi,hci,hdi⟩:=id hit
 unfold pyNext
 refine u0 (u09 (e9 (name:=Str.ofString "__next__") hit.typeIs u0D
  (i7 u0D hit.typeIs u2a ?_ (u17 _))))
 refine u0 (u6 ?_)
 refine u0 ?_
 refine u0 ?_
 first | refine u0 (u1f hit.typeIs (u6 ?_)) | refine u0 (u1H hit.typeIs (u6 ?_))
 refine u0 (u3v hoi hdi ?_)
 have hown:Builtin.Dict_items.ownsTuple "dict_keyiterator"=false:=by decide
 simp only[hown,u0x,u18]
 show wpAny _ _ (if (Value.ref d == Value.none)=true then _ else _) _ _ s
 rw[j4 (show ¬ ((Value.ref d == Value.none)=true)from u8)]
 refine u0 (u6 (u0 (u3I ho hd ?_)))
 rw[j4 (by simp)]
 refine u0 (u6 (u0 (wpAny_dictEpoch ho hd ?_)))
 rw[j4 (by simp)]
 refine u6 ?_
 simp only[show ¬ ((i:Int) < 0)from by omega,u18,u0E,Array.getElem?_eq_none hx]
 refine u0 ?_
 first | refine u0 (u1f hit.typeIs (u6 ?_)) | refine u0 (u1H hit.typeIs (u6 ?_))
 show wpAny _ _ (setField (.ref it) 0 .none>>=_) _ _ s
 refine u0 (u3x hoi hdi (by simp) ?_)
 show wpAny _ _ (newExc (.type "StopIteration") []>>=_) _ _ _
 refine u0 ?_
 simp only[newExc,newTuple]
 refine u0 (u0c ?_ (by size_fits))
 refine u0 (m:=firstArgMember _ _) (u1M (a:=Value.none) (by first | rfl | (simp only[firstArgMember];rfl)) ?_)
 refine u0c ?_ (by size_fits)
 simp only[raiseNew]
 refine u0 (wpAny_handled ?_)
 rw[show A.in1.handled=none from hh]
 refine u0 (u6 (wpAny_throw ?_))
 refine u0 (u19 (T:="StopIteration") (b:=true) ⟨_,j7 _ rfl,rfl⟩ u3u ?_)
 exact u6 (hQ _ (((u1j ..).extBut.push _).push _))
end
def dLen:HO->Nat
 | .dK kvs=>kvs.length
 | .dT kvs=>kvs.length
 | _=>0
def zhC (u:HO):Prop:=(∃ kvs,u=.dK kvs)\/∃ kvs,u=.dT kvs
section
variable {X:Cx}{tg:Expr}
theorem Inv.frz {pins:List (Addr × Obj)}{σ:St}{H:Hp}{s:Shared}{p:Addr}{u:HO}(I:Inv X pins σ H s)(e:H p=some u)(hu:zhC u):∃ ob,Inv X pins σ (upd H p (.frz ob u)) s:=by
 have ok:=I.hok p u e
 have mu:Mut (H p):=by
  rw[e]
  rcases hu with ⟨kvs,rfl⟩ | ⟨kvs,rfl⟩ <;> exact True.intro
 rcases hu with ⟨kvs,rfl⟩ | ⟨kvs,rfl⟩
 .obtain⟨z,sys,vs,kv,o,es,ep,e1,r⟩:=ok
  refine⟨o,I.write (h':=s.heap) (t':=s.toks) mu (.inl rfl) (λb u _ e=>e) ⟨o,e1⟩ ⟨e1,z,sys,vs,kv,o,es,ep,e1,r⟩⟩
 .obtain⟨z,sys,xs,pr,o,es,ep,e1,r⟩:=ok
  refine⟨o,I.write (h':=s.heap) (t':=s.toks) mu (.inl rfl) (λb u _ e=>e) ⟨o,e1⟩ ⟨e1,z,sys,xs,?_,o,es,ep,e1,r⟩⟩
  exact KT.keeps pr λb ys eb=>by
   rw[zm (zlu eb e (λz=>nomatch z))]
   exact eb
def tFrz (i:Nat)(t:TS):TS:=λE σ H=>∃ p u,σ[i]?=some (some (.ref p))/\H p=some u/\zhC u/\∀ ob,t E σ (upd H p (.frz ob u))
theorem zjg {sts:List Stmt}{t:TS}(i:Nat)(h:PSs X sts t):PSs X sts (tFrz i t):=by
 intro pins s σ H E I q
 obtain⟨p,u,_,e,hu,q⟩:=q
 obtain⟨ob,I2⟩:=I.frz e hu
 exact h pins s σ _ E I2 (q ob)
end
end L2
namespace Dl
open PySem L2
section
variable [KK]
theorem zi1 {u:HO}{t:Bool}{ks:List (List Key)}{xs:List V}(h:VM u t ks xs):zhC u/\dLen u=ks.length:=by
 unfold VM at h
 cases t with
 | true=>rw[q5 rfl]at h;obtain⟨kvs,rfl,rfl,_⟩:=h;exact⟨.inr ⟨_,rfl⟩,by rw[u7];rfl⟩
 | false=>rw[j4 u8]at h;obtain⟨kvs,rfl,rfl,_⟩:=h;exact⟨.inl ⟨_,rfl⟩,by rw[u7];rfl⟩
theorem Gr.see {F H:Hp}{b:Addr}{ys:List V}(s:zZ F H)(h:H b=some (.tup ys)):∃ F',Gr F H F' H/\F' b=some (.tup ys):=by
 cases e:F b with
 | some o =>
  have:=s _ _ e
  rw[h]at this
  cases this
  exact⟨F,.refl s,e⟩
 | none =>
  refine⟨upd F b (.tup ys),⟨λp o z=>?_,λp o z=>?_,λp o z1 z2=>⟨?_,z2⟩⟩,zn⟩
  .rw[zm (zj z e)];exact z
  .by_cases hp:p=b
   .subst hp;rw[zn]at z;cases z;exact h
   .rw[zm hp]at z;exact s p o z
  .by_cases hp:p=b
   .subst hp
    rw[h]at z2
    cases z2
    exact .inr ⟨⟨_,rfl⟩,zn⟩
   .exact .inl (by rw[zm hp];exact z1)
section
variable {X:Cx}{tg a b e k v:Expr}{pos pos':Pos}{sts:List Stmt}
def zl9 (i:Nat)(g:SE->Ctl):SE->Ctl:=fun ρ=>match ρ[i]? with
 | some (.m t ks vs)=>g (ρ.set i (.v (.dct true t ks vs)))
 | _=>.no
theorem Rl.fzM {Fb Hb F H:Hp}{ρ:SE}{σ:St}{i:Nat}{t:Bool}{ks:List (List Key)}{vs:List D}(r:Rl Fb Hb F H ρ σ)(h:ρ[i]?=some (.m t ks vs)) :
 ∃ p u,σ[i]?=some (some (.ref p))/\H p=some u/\zhC u/\∀ ob,Rl Fb Hb (upd F p (.frz ob u)) (upd H p (.frz ob u)) (ρ.set i (.v (.dct true t ks vs))) σ:=by
 obtain⟨p,u,e1,e2,e3,e4,xs,hd,al⟩:=r.ows i _ h rfl
 refine⟨p,u,e1,e4,(zi1 hd).1,λob=>?_⟩
 have hi:i < ρ.length:=(t6.mp h).1
 have sF:zZ F (upd F p (.frz ob u)):=λb o e=>by rw[zm (zj e e3)];exact e
 have nj:∀ {j:Nat} {s:Sl},(ρ.set i (.v (.dct true t ks vs)))[j]?=some s->s.isO=true->i≠j:=λ{j s} h ht e=>by
  subst e
  rw[i6 hi]at h
  cases h
  cases ht
 refine⟨⟨r.gr.ff.trans sF,λb o z=>?_,λb o z1 z2=>?_⟩,λj d z=>?_,λj s z ht=>?_,λj k q s s' h1 h2 o1 o2 h3 h4=>?_,by simp[r.len]⟩
 .by_cases hb:b=p
  .subst hb;rw[zn]at z ⊢;exact z
  .rw[zm hb]at z ⊢;exact r.gr.fh b o z
 .have hb:b≠p:=zj z2 e2
  obtain⟨x,y⟩:=r.gr.kp b o z1 z2
  refine⟨?_,by rw[zm hb];exact y⟩
  unfold Hid
  rw[zm hb]
  exact x
 .by_cases hj:i=j
  .subst hj
   rw[i6 hi]at z
   cases z
   refine⟨_,e1,?_⟩
   unfold At
   exact⟨p,xs,rfl,⟨u,hd,by rw[q5 rfl];exact⟨ob,zn⟩⟩,al.mono sF⟩
  .rw[d7 hj]at z
   obtain⟨v,f1,f2⟩:=r.vals j d z
   exact⟨v,f1,f2.mono sF⟩
 .have hj:=nj z ht
  rw[d7 hj]at z
  obtain⟨q,y,f1,f2,f3,f4,f5⟩:=r.ows j s z ht
  have hq:q≠p:=λw=>hj (r.dis i j p _ s h z rfl ht e1 (by rw[<-w];exact f1))
  exact⟨q,y,f1,f2,by rw[zm hq];exact f3,by rw[zm hq];exact f4,f5.mono sF⟩
 .have a1:=nj h1 o1
  have a2:=nj h2 o2
  rw[d7 a1]at h1
  rw[d7 a2]at h2
  exact r.dis j k q s s' h1 h2 o1 o2 h3 h4
theorem zjl {g:SE->Ctl}(i:Nat)(h:SDs X sts g):SDs X sts (zl9 i g):=by
 obtain⟨t,p,r⟩:=h
 refine⟨_,zjg i p,λFb Hb F H ρ σ E rl k=>?_⟩
 unfold zl9 at k
 split at k
 .rename_i tt ks vs hs
  obtain⟨q,u,e1,e2,e3,e4⟩:=rl.fzM hs
  exact⟨q,u,e1,e2,e3,λob=>r Fb Hb _ _ _ σ E (e4 ob) k⟩
 .exact k.elim
end
end
end Dl
namespace OwnSet
open PySem
theorem YG {α:Type}(a b c d e:α):(#[0,1,2,3,4]:Array Nat).filterMap (λi=>(#[a,b,c,d,e]:Array α)[i]?)=#[a,b,c,d,e]:=by
 simp[Array.filterMap]
section
variable {prog:Program}{w:World}{A:Around}{E:Value->Shared->Prop}{s:Shared}
abbrev ledOf (w:World):Bool:=!w.params.followText "set-order"
theorem own_set_new (a:Value){Q1:Value->Shared->Prop}
 (h:Q1 (.ref s.heap.objs.size) { s with heap:=s.heap.push { cls:=.type "set",dict:=none,data:=.set #[] 0 (.fresh 0 0 (ledOf w)) } }) :
 codeAny (model prog w) A (.call (.builtin "set.__new__") ⟨[.type "set",a],[]⟩) (wants Q1 E) s:=by
 refine codeAny_of_tree ?_
 show wpAny _ A.in1 (do checkBuiltinCall "set.__new__" ⟨[.type "set",a],[]⟩;again (.builtin "set.__new__" ⟨[.type "set",a],[]⟩)) _ _ s
 refine u0 (u1M (F.newCall_set_1 a) (u6 ⟨u11 F.plain_set_new _,u1b F.entry_set_new ?_⟩))
 rw[u03 F.plain_set_new _]
 unfold Builtin.«set.__new__» Builtin.Frozenset.newClass
 have hsub:=sub_set_self
 obtain⟨hp,g,d,tk,os⟩:=s
 dsimp only
 wp_walk
 refine u1e (u6 ?_)
 dsimp only
 simp only[newObj]
 refine u0 (wpAny_alloc (u6 ?_))
 exact u6 h
end
theorem zby:Manifest.owners.lookup (String.ofList ['r','o','t','a','r','e','t','i','_','t','e','s'].reverse)=some Manifest.sig_set_iterator:=by kernel_rfl
theorem Y9:Slot "set_iterator" "__next__" "set_iterator.__next__" :=
 .of (owner:="set_iterator") (n:="__next__") (by rw[typeLookup_type,builtinLookup_eq_fast];kernel_rfl) (by decide +kernel) (by decide +kernel) (by decide +kernel)
  (by first | exact .inl (by decide +kernel) | exact .inr (by decide +kernel)) (by rw[isSubtype_type];kernel_rfl)
theorem zdH:Slot "set_iterator" "__iter__" "set_iterator.__iter__" :=
 .of (owner:="set_iterator") (n:="__iter__") (by rw[typeLookup_type,builtinLookup_eq_fast];kernel_rfl) (by decide +kernel) (by decide +kernel) (by decide +kernel)
  (by first | exact .inl (by decide +kernel) | exact .inr (by decide +kernel)) (by rw[isSubtype_type];kernel_rfl)
theorem Y2:entryFor table "set_iterator.__next__"=some Builtin.«set_iterator.__next__»:=entryFor_of_tree (by kernel_rfl)
theorem WW:entryFor table "set_iterator.__iter__"=some Builtin.«dict_keyiterator.__iter__» :=
 entryFor_alias (id':="dict_keyiterator.__iter__") (by kernel_rfl) (by first | rfl | decide +kernel | (unfold String.splitOn;simp +decide [String.splitOnAux])) (by decide +kernel) (by kernel_rfl)
theorem X2:entryFor table "set.__iter__"=some Builtin.«frozenset.__iter__» :=
 entryFor_alias (id':="frozenset.__iter__") (by kernel_rfl) (by first | rfl | decide +kernel | (unfold String.splitOn;simp +decide [String.splitOnAux])) (by decide +kernel) (by kernel_rfl)
theorem ZD (a:Value):argsOk "set_iterator.__next__" ⟨[a],[]⟩:=by
 unfold argsOk;rw[signature?_of (id:="set_iterator.__next__") (n:=['_','_','t','x','e','n','_','_']) (o:=['r','o','t','a','r','e','t','i','_','t','e','s']) (by kernel_rfl) zby];kernel_rfl
theorem Vz (a:Value):argsOk "set_iterator.__iter__" ⟨[a],[]⟩:=by
 unfold argsOk;rw[signature?_of (id:="set_iterator.__iter__") (n:=['_','_','r','e','t','i','_','_']) (o:=['r','o','t','a','r','e','t','i','_','t','e','s']) (by kernel_rfl) zby];kernel_rfl
abbrev Zu (h:Heap) (I a:Addr) (slot i n ep:Nat):Prop:=h.get? I=some { cls:=.type "set_iterator",dict:=none,data:=.fields #[rawInt (slot:Int),rawInt (i:Int),.ref a,rawInt (n:Int),rawInt (ep:Int)],slots:=#[] }
theorem X9 (c:Bool):¬ ((!true&&c)=true):=by cases c <;> decide
theorem zfa (b c:Bool):¬ ((!b&&(!true&&c))=true):=by cases b <;> cases c <;> decide
theorem Wq {α:Type}:∀ (l:List α) (i:Nat) (h:i < l.length),(l[i]::l.eraseIdx i).Perm l
 | x::l,0,_=>u0Y _
 | x::l,i+1,h=>(List.Perm.swap x (l[i]'(u2r h)) (l.eraseIdx i)).trans (List.Perm.cons x (Wq l i (u2r h)))
theorem ziu {α:Type}(next:Nat->Nat):∀ (fuel k:Nat) (left:List α) (out:Array α),left.length=fuel->(pickOrder.go next fuel k left out).toList.Perm (out.toList++left):=by
 intro fuel
 induction fuel with
 | zero =>
  intro k left out h
  rw[u0Z.mp h,u0k]
  exact u0Y _
 | succ f ih =>
  intro k left out h
  have hlt:next k % left.length < left.length:=Nat.mod_lt _ (by rw[h];exact u2E f)
  unfold pickOrder.go
  rw[r9 hlt]
  dsimp only
  refine(ih (k+1) _ _ (by rw[List.length_eraseIdx_of_lt hlt,h];rfl)).trans ?_
  rw[u3y,u1W]
  exact List.Perm.append_left _ (Wq _ _ hlt)
theorem zeq {α:Type}(next:Nat->Nat)(xs:Array α):(pickOrder next xs).toList.Perm xs.toList:=by
 unfold pickOrder
 exact ziu next xs.size 0 xs.toList #[] (by rw[t7])
section
variable {prog:Program}{w:World}{A:Around}{E:Value->Shared->Prop}{s:Shared}
theorem za1 {I a:Addr}{slot i n ep:Nat}{Q:Value->Shared->Prop}(he:Zu s.heap I a slot i n ep)(h:Q (.ref I) s):wpAny (model prog w) A (pyIter (.ref I)) Q E s:=by
 have hT:s.TypeIs (.ref I) "set_iterator":=⟨_,he,rfl⟩
 refine u3J hT zdH (i7 zdH hT WW ?_ (Vz _))
 show wpAny _ _ (ret (.ref I)) _ _ s
 exact u6 ⟨_,rfl,"set_iterator",_,hT,Y9.lookup,h⟩
end
end OwnSet
namespace L2
open PySem PySem.Spec PyProof.Rows
def KD {α:Type}:Sem α->Prop
 | .pure _=>True
 | .raise _=>True
 | .unsupported _=>True
 | .finish _=>True
 | .rule _ k=>KD (k ())
 | .at _ k=>KD (k ())
 | .load _ _ k=>∀ o,KD (k o)
 | .update _ _ f k=>(∀ o,(f o).dict=o.dict)/\KD (k ())
 | .loadIfAlive _ k=>∀ o,KD (k o)
 | .point _ k=>KD (k ())
 | .register _ _=>True
 | .alloc _ k=>∀ a,KD (k a)
 | .fresh k=>∀ t,KD (k t)
 | .ask k=>∀ x,KD (k x)
 | .handled _ k=>∀ x,KD (k x)
 | .stack k=>∀ x,KD (k x)
 | .thread k=>∀ n,KD (k n)
 | .choose _ _ _=>False
 | .os _ _ _=>False
 | .call _ _ _ _ _=>False
 | .newGen _ _=>False
 | .genState _ _=>False
 | .resume _ _ _ _=>False
 | .yield _ _ _ _=>False
 | .fork _ _=>False
 | .await _ _ _ _ _=>False
theorem zia {α β:Type}(f:α->Sem β)(hf:∀ a,KD (f a)):∀ (m:Sem α),KD m->KD (m.bind f):=by
 intro m
 induction m with
 | pure a=>intro _;exact hf a
 | raise e=>intro _;trivial
 | unsupported w=>intro _;trivial
 | finish e=>intro _;trivial
 | rule t k ih=>intro h;exact ih () h
 | «at» p k ih=>intro h;exact ih () h
 | load a p k ih=>intro h o;exact ih o (h o)
 | update a p g k ih=>intro h;exact⟨h.1,ih () h.2⟩
 | loadIfAlive a k ih=>intro h o;exact ih o (h o)
 | point l k ih=>intro h;exact ih () h
 | register a k ih=>intro h;trivial
 | alloc o k ih=>intro h a;exact ih a (h a)
 | fresh k ih=>intro h a;exact ih a (h a)
 | ask k ih=>intro h a;exact ih a (h a)
 | handled o k ih=>intro h a;exact ih a (h a)
 | stack k ih=>intro h a;exact ih a (h a)
 | thread k ih=>intro h a;exact ih a (h a)
 | choose s n k ih=>intro h;exact h.elim
 | os q l k ih=>intro h;exact h.elim
 | call c h g l k ih=>intro h;exact h.elim
 | newGen c k ih=>intro h;exact h.elim
 | genState g k ih=>intro h;exact h.elim
 | resume g r l k ih=>intro h;exact h.elim
 | yield v g l k ih=>intro h;exact h.elim
 | fork c k ih=>intro h;exact h.elim
 | await a f d l k ih=>intro h;exact h.elim
theorem zS {α β:Type}{m:Sem α}{f:α->Sem β}(hm:KD m)(hf:∀ a,KD (f a)):KD (m>>=f):=zia f hf m hm
def DK (h h':Heap):Prop:=∀ (b:Nat) (o:Obj),h.objs[b]?=some o->∃ o':Obj,h'.objs[b]?=some o'/\o'.dict=o.dict
theorem DK.refl (h:Heap):DK h h:=λ_ o e=>⟨o,e,rfl⟩
theorem DK.trans {h1 h2 h3:Heap}(a:DK h1 h2)(b:DK h2 h3):DK h1 h3:=λp o e=>by
 obtain⟨o1,e1,d1⟩:=a p o e
 obtain⟨o2,e2,d2⟩:=b p o1 e1
 exact⟨o2,e2,d2.trans d1⟩
theorem DK.push (h:Heap)(o:Obj):DK h (h.push o):=λb u e=>by
 refine⟨u,?_,rfl⟩
 obtain⟨objs,l⟩:=h
 show(objs.push o)[b]?=some u
 have hb:b < objs.size:=(u0N.mp e).1
 rw[Array.getElem?_push_lt hb]
 exact(u0N.mp e).2 ▸ rfl
theorem DK.update (h:Heap)(a:Addr){f:Obj->Obj}(hf:∀ o,(f o).dict=o.dict):DK h (h.update a f):=λb u e=>by
 obtain⟨objs,l⟩:=h
 show ∃ o',(objs.modify a f)[b]?=some o'/\_
 rw[Array.getElem?_modify]
 have e:objs[b]?=some u:=e
 split
 .rw[e];exact⟨f u,rfl,hf u⟩
 .rw[e];exact⟨u,rfl,rfl⟩
theorem ze7 {h:Heap}{b:Addr}{o:Obj}(e:h.get? b=some o):h.objs[b]?=some o:=by
 unfold Heap.get? at e
 split at e
 .cases e
 .exact e
theorem DK.of {h h':Heap}{b:Addr}{o o':Obj}(k:DK h h')(e:h.get? b=some o)(e':h'.get? b=some o'):o'.dict=o.dict:=by
 obtain⟨o2,e2,d⟩:=k b o (ze7 e)
 rw[ze7 e']at e2
 cases e2
 exact d
theorem zmU {α:Type}(M:Model)(Γ:PySem.Ctx):∀ (m:Sem α) (Q:α->Pos->Shared->Prop) (E:Value->Pos->Shared->Prop) (p:Pos) (s s0:Shared),KD m->DK s0.heap s.heap->Sem.wp M Γ m Q E p s ->
 Sem.wp M Γ m (λa p s'=>Q a p s'/\DK s0.heap s'.heap) (λe p s'=>E e p s'/\DK s0.heap s'.heap) p s:=by
 intro m
 induction m with
 | pure a=>intro Q E p s s0 _ k h;exact⟨h,k⟩
 | raise e=>intro Q E p s s0 _ k h;exact⟨h,k⟩
 | unsupported w=>intro Q E p s s0 _ k h;exact h
 | finish e=>intro Q E p s s0 _ k h;exact h
 | rule t k ih=>intro Q E p s s0 c d h;exact ih () Q E p s s0 c d h
 | «at» p k ih=>intro Q E p s s0 c d h;exact ih () Q E _ s s0 c d h
 | load a p k ih =>
  intro Q E p s s0 c d h
  obtain⟨o,e,h⟩:=h
  exact⟨o,e,ih o Q E p s s0 (c o) d h⟩
 | update a p g k ih =>
  intro Q E p s s0 c d h
  obtain⟨e,h⟩:=h
  exact⟨e,ih () Q E p _ s0 c.2 (d.trans (.update s.heap a c.1)) h⟩
 | loadIfAlive a k ih=>intro Q E p s s0 c d h;exact ih _ Q E p s s0 (c _) d h
 | point l k ih=>intro Q E p s s0 c d h;exact ih () Q E p s s0 c d h
 | register a k ih=>intro Q E p s s0 c d h;exact h
 | alloc o k ih=>intro Q E p s s0 c d h;exact ih _ Q E p _ s0 (c _) (d.trans (.push s.heap o)) h
 | fresh k ih=>intro Q E p s s0 c d h;exact ih _ Q E p _ s0 (c _) d h
 | ask k ih=>intro Q E p s s0 c d h;exact ih _ Q E p s s0 (c _) d h
 | handled o k ih=>intro Q E p s s0 c d h;exact ih _ Q E p s s0 (c _) d h
 | stack k ih=>intro Q E p s s0 c d h;exact ih _ Q E p s s0 (c _) d h
 | thread k ih=>intro Q E p s s0 c d h;exact ih _ Q E p s s0 (c _) d h
 | choose s n k ih=>intro Q E p s s0 c;exact c.elim
 | os q l k ih=>intro Q E p s s0 c;exact c.elim
 | call c h g l k ih=>intro Q E p s s0 c;exact c.elim
 | newGen c k ih=>intro Q E p s s0 c;exact c.elim
 | genState g k ih=>intro Q E p s s0 c;exact c.elim
 | resume g r l k ih=>intro Q E p s s0 c;exact c.elim
 | yield v g l k ih=>intro Q E p s s0 c;exact c.elim
 | fork c k ih=>intro Q E p s s0 c;exact c.elim
 | await a f d l k ih=>intro Q E p s s0 c;exact c.elim
theorem zkf {α:Type}{M:Model}{A:Around}{t:Sem α}{Q:α->Shared->Prop}{E:Value->Shared->Prop}{s:Shared}(c:KD t)(h:wpAny M A t Q E s) :
 wpAny M A t (λa s'=>Q a s'/\DK s.heap s'.heap) (λe s'=>E e s'/\DK s.heap s'.heap) s:=fun Γ p hΓ=>zmU M Γ t _ _ p s s c (.refl _) (h Γ p hΓ)
theorem WC {α:Type}{M:Model}{A:Around}{t:Sem α}{Q Q':α->Shared->Prop}{E:Value->Shared->Prop}{s:Shared}(c:KD t)(h:wpAny M A t Q E s)(k:∀ a s',Q a s'->DK s.heap s'.heap->Q' a s'):wpAny M A t Q' E s :=
 u0j (zkf c h) (λa s' x=>k a s' x.1 x.2) λ_ _ x=>x.1
theorem zaW (v:Value):KD (fieldsOf v):=by
 unfold fieldsOf
 split
 .refine zS (λ_=>trivial) λo=>?_
  split <;> trivial
 .trivial
theorem Z2 (v:Value)(i:Nat):KD (field v i):=by
 unfold field
 refine zS (zaW v) λvs=>?_
 split <;> trivial
theorem X7 (f:Array Value->Array Value)(o:Obj):(Obj.mapFields f o).dict=o.dict:=by
 obtain⟨c,d,x,s⟩:=o
 cases x <;> rfl
theorem Yr (v:Value)(i:Nat)(x:Value):KD (setField v i x):=by
 unfold setField
 split
 .unfold updateField
  refine zS (λ_=>trivial) λo=>?_
  split
  .split
   .exact⟨X7 _,trivial⟩
   .trivial
  .trivial
 .trivial
theorem vX (e:Value)(f:Option Addr):KD (setFlight e f):=by
 unfold setFlight
 refine zS (Z2 e 1) λtb=>?_
 split
 .exact Yr _ _ _
 .trivial
theorem zad (ty:String)(vs:List Value):KD (newFields ty vs):=by
 have last:KD (newObjAsIs (Value.type ty) (Data.fields vs.toArray)):=zS (λ_=>trivial) λ_=>trivial
 unfold newFields newObj
 show KD (if vs.toArray.size > sizeLine+2 then _ else _)
 by_cases h:vs.toArray.size > sizeLine+2
 .rw[q5 h]
  exact zS (show KD (unsupported (α:=Unit) _)from trivial) λ_=>last
 .rw[j4 h]
  exact last
theorem zaZ (a b c d e:Value)(pl:List Value):KD (EntryCells.newEntry a b c d e pl):=zad _ _
theorem zga (f:Addr)(b:Bool):KD (entryPlaceOf f b):=by
 unfold entryPlaceOf
 refine zS (λ_=>trivial) λacts=>?_
 split <;> trivial
theorem Vy:KD frameEnvs:=by
 unfold frameEnvs
 exact zS (λ_=>trivial) λ_=>trivial
theorem zg3:∀ l:List Env,KD (readyFrames l):=by
 intro l
 induction l with
 | nil=>trivial
 | cons env outer ih =>
  unfold readyFrames
  split
  .refine zS (λ_=>trivial) λo=>?_
   split
   .trivial
   .refine zS ?_ λb=>zS ?_ λbk=>zS ⟨λo=>rfl,trivial⟩ λ_=>ih
    .unfold behindIsImport
     split
     .trivial
     .split
      .trivial
      .exact zS (Z2 _ _) λ_=>trivial
    .unfold keptBack
     split
     .split
      .trivial
      .unfold underTheClaimsCaller
       exact zS (λ_=>trivial) λ_=>trivial
     .trivial
  .trivial
theorem zc5 (env:Env):KD (PySem.frameOf env):=by
 unfold PySem.frameOf
 refine zS Vy λl=>zS ?_ λo=>?_
 .unfold frameObject
  split
  .trivial
  .exact zS (zg3 _) λ_=>trivial
 .split <;> trivial
theorem Zx (e:Value)(env:Env):KD (noteFrame e env):=by
 unfold noteFrame
 split
 .rename_i f hf
  refine zS (Z2 e 1) λhead=>?_
  have last:KD (do setField e 1 (<- EntryCells.newEntry head (<- PySem.frameOf env) .none (rawInt f) .none (<- entryPlaceOf f (head != .none)))):=zS (zc5 env) λ_=>zS (zga _ _) λ_=>zS (zaZ _ _ _ _ _ _) λ_=>Yr _ _ _
  by_cases h:(head != Value.none)=true
  .dsimp only
   rw[q5 h]
   refine zS (Z2 head 3) λx=>?_
   split
   .trivial
   .exact zS (Yr _ _ _) λ_=>last
  .dsimp only
   rw[j4 h]
   exact last
 .trivial
theorem zcV (env:Env)(e:Value):KD (leaving env e):=zS (Zx e env) λ_=>vX e none
end L2
namespace L2
open PySem PySem.Spec PyProof.Rows
open Sem (wp)
abbrev exH (h:Heap) (C:Addr) (us:List Value):Heap:=(h.push { cls:=.type "tuple",data:=.seq us.toArray }).push { cls:=.ref C,data:=.fields #[.ref h.objs.size,.none,.none,.none,.bool false,.none] }
theorem ww {h:Heap}{C:Addr}{us:List Value}{b:Addr}{o:Obj}(e:h.get? b=some o):(exH h C us).get? b=some o:=u4 _ (u4 _ e)
theorem zh1 (h:Heap)(C:Addr)(us:List Value):(exH h C us).get? (h.objs.size+1)=some { cls:=.ref C,data:=.fields #[.ref h.objs.size,.none,.none,.none,.bool false,.none] }:=by heap_get
section
variable {prog:Program}{w:World}{A:Around}{E:Value->Shared->Prop}{h:Heap}{g:Array GenState}{d:Drawn}{t:Nat}{os:OsState}
 {nm q:Str} {C N fI:Addr} {bs bm:List Value} {hdct:Bool} {sn:List Str} {sub:List Value} {ab:Bool} {col:Option Bool} {dd:Option Addr} {k0 k1 k2 k3 k5:Option Value} {mN:Str->Option Value} {us:List Value} {oI:Obj}
theorem zc3 {R:Fin->Shared->Prop} (T:OwnTail h [.type "ValueError",.type "Exception",.type "BaseException",.type "object"] bm) (hC:h.get? C=some (excClassObj nm q C N bs bm hdct sn sub ab col dd k0 k1 k2 k3 k5 "ValueError.__new__")) (hN:h.Ns N mN) (hi:mN "__init__"=some (.ref fI)) (hf:h.get? fI=some oI) (hc:oI.cls=.type "function")
 (k:wpAny (model prog w) A (call (.ref fI) (.ref (h.objs.size+1)::us)) (λr s'=>r=.none/\R (.done (.ret (.ref (h.objs.size+1)))) s') E ⟨exH h C us,g,d,t,os⟩) (hu:us.length<=sizeLine) :
 wpAny (model prog w) A (Builtin.«type.__call__» ⟨.ref C::us,[]⟩) R E ⟨h,g,d,t,os⟩:=by
 have FV:=u3h
 repeat (first | with_reducible refine wpAny_madeBy_exc hC ?_ | with_reducible refine u12 hC ?_ | wp_step)
 refine codeAny_call_builtin_code (u2i _ FV.quiet) (wpAny_check_new_subU FV (by decide) T hC (codeAny_exc_new_subU FV (by decide) FV T hC ?_ hu))
 show wpAny _ _ _ _ _ _
 have gC:=ww (us:=us) (C:=C) hC
 have gf:=ww (us:=us) (C:=C) hf
 have gN:(exH h C us).Ns N mN:=let ⟨ob,ens,epo,e1,r1⟩:=hN;⟨ob,ens,epo,ww e1,r1⟩
 have gT:=T.keeps (h':=exH h C us) λb o e=>ww e
 have ge:=zh1 h C us
 have inC:(Value.ref C::bm).contains (.ref C)=true:=by simp
 unfold isInstance
 repeat (first | (with_reducible refine wpAny_isSubtype_exc gC ?_;rw[inC]) | with_reducible refine u12 ge ?_ | wp_step)
 show wpAny _ _ (typeLookup (.ref C) _) _ _ _
 refine wpAny_typeLookup_tail gC gN gT FV.mroIs FV.init.lookup ?_
 rw[hi]
 refine i5 (u0 ?_)
 unfold bindSpecial
 refine u0 (u1I (T:="function") ⟨_,gf,hc⟩ ?_)
 rw[q5 (by decide)]
 refine u6 (u0 (u0j k (λr s' hr=>?_) λ_ _ z=>z))
 obtain⟨rfl,hr⟩:=hr
 wp_walk
 exact hr
theorem zfO {R:Value->Shared->Prop} (T:OwnTail h [.type "ValueError",.type "Exception",.type "BaseException",.type "object"] bm) (hC:h.get? C=some (excClassObj nm q C N bs bm hdct sn sub ab col dd k0 k1 k2 k3 k5 "ValueError.__new__")) (hN:h.Ns N mN) (hi:mN "__init__"=some (.ref fI)) (hf:h.get? fI=some oI) (hc:oI.cls=.type "function")
 (k:wpAny (model prog w) (A.under (.builtin "type.__call__" ⟨.ref C::us,[]⟩)) (call (.ref fI) (.ref (h.objs.size+1)::us)) (λr s'=>r=.none/\R (.ref (h.objs.size+1)) s') E ⟨exH h C us,g,d,t,os⟩) (hu:us.length<=sizeLine) :
 wpAny (model prog w) A (call (.ref C) us) R E ⟨h,g,d,t,os⟩:=by
 have l1:=tc_lookup
 have l2:=tc_bind (.ref C)
 have tp:(⟨h,g,d,t,os⟩:Shared).TypeIs (.ref C) "type":=⟨_,hC,rfl⟩
 refine u2C (codeAny_of_tree ?_)
 show wpAny _ _ (callAny (.ref C) _) _ _ _
 repeat (any_goals (first | with_reducible refine u12 hC ?_ | assumption | wp_step))
 refine⟨rfl,codeAny_call_builtin_at (u2i _ (by decide +kernel)) entry_typeCall (wpAny_check_type_call_sub hC (zc3 T hC hN hi hf hc ?_ hu))⟩
 exact k
end
theorem zcv {M:Model}{A:Around}{E:Value->Shared->Prop}{env:Env}{s:Shared}{x:Sem Value}{Q:Flow->Shared->Prop}{nm q:Str}{C N:Addr}{bs bm:List Value}{hdct:Bool}{sn:List Str}{sub:List Value}{ab:Bool}{col:Option Bool}{dd:Option Addr}{k0 k1 k2 k3 k5:Option Value}{newId:String}
 (hb:bm.contains (.type "BaseException")=true) (hh:A.handled=none) (h:wpAny M A x (λv s1=>∃ e t od sl,v=.ref e/\s1.heap.get? C=some (excClassObj nm q C N bs bm hdct sn sub ab col dd k0 k1 k2 k3 k5 newId) /\
  s1.heap.get? e=some { cls:=.ref C,dict:=od,data:=.fields #[.ref t,.none,.none,.none,.bool false,.none],slots:=sl }/\E (.ref e) s1) E s):wpAny M A (raiseStmt env (some x) none) Q E s:=by
 have inB:(Value.ref C::bm).contains (.type "BaseException")=true:=by rw[List.contains_cons,hb,Bool.or_true]
 unfold raiseStmt
 refine u0 (u0j h (λv s1 z=>?_) λ_ _ z=>z)
 obtain⟨e,t,od,sl,rfl,gC,ge,hE⟩:=z
 obtain⟨hp,gg,dd',tk,os⟩:=s1
 repeat (first | with_reducible refine u12 gC ?_ | with_reducible refine u12 ge ?_ | (with_reducible refine wpAny_isSubtype_exc gC ?_;rw[inB]) | wp_step)
 exact wpAny_raiseNew_none hh hE
end L2
namespace L2
open PySem PySem.Spec PyProof.Rows
section
variable {prog:Program}{w:World}{A:Around}{E:Value->Shared->Prop}{s:Shared}{env:Env}
 {nm q:Str} {C N fI:Addr} {bs bm:List Value} {hdct:Bool} {sn:List Str} {sub:List Value} {ab:Bool} {col:Option Bool} {dd:Option Addr} {k0 k1 k2 k3 k5:Option Value} {mN:Str->Option Value} {oI:Obj}
theorem zcT {x:Str} {np cpos pos:Pos} {args:List Expr} {Q:Flow->Shared->Prop} (hb:bm.contains (.type "BaseException")=true) (hh:A.handled=none) (hpl:(backTo cpos (starEach args env)).any (·.1)=false) (hi:mN "__init__"=some (.ref fI)) (hc:oI.cls=.type "function")
 (h:wpAny (model prog w) A (eval (.Name x np) env) (λf s1=>f=.ref C/\wpAny (model prog w) A (evalArgs (.ref C) true (backTo cpos (starEach args env)) []) (λa s2=>a.kw=[]/\a.pos.length<=sizeLine /\
  s2.heap.get? C=some (excClassObj nm q C N bs bm hdct sn sub ab col dd k0 k1 k2 k3 k5 "ValueError.__new__")/\s2.heap.Ns N mN/\OwnTail s2.heap [.type "ValueError",.type "Exception",.type "BaseException",.type "object"] bm/\s2.heap.get? fI=some oI /\
  wpAny (model prog w) (A.under (.builtin "type.__call__" ⟨.ref C::a.pos,[]⟩)) (call (.ref fI) (.ref (s2.heap.objs.size+1)::a.pos)) (λr s3=>r=.none/\∃ t od sl,s3.heap.get? C=some (excClassObj nm q C N bs bm hdct sn sub ab col dd k0 k1 k2 k3 k5 "ValueError.__new__") /\
   s3.heap.get? (s2.heap.objs.size+1)=some { cls:=.ref C,dict:=od,data:=.fields #[.ref t,.none,.none,.none,.bool false,.none],slots:=sl }/\E (.ref (s2.heap.objs.size+1)) s3) E { s2 with heap:=exH s2.heap C a.pos }) E s1) E s) :
 wpAny (model prog w) A (exec (.Raise (some (.Call (.Name x np) args [] cpos)) none pos) env) Q E s:=by
 rw[arm_exec_Raise]
 refine u0 (u3R (zcv (C:=C) (nm:=nm) (q:=q) (N:=N) (bs:=bs) (bm:=bm) (hdct:=hdct) (sn:=sn) (sub:=sub) (ab:=ab) (col:=col) (dd:=dd) (k0:=k0) (k1:=k1) (k2:=k2) (k3:=k3) (k5:=k5) (newId:="ValueError.__new__") hb hh (u0 (u0j (wpAny_Call_ofName (u0j h (λf s1 z=>?_) λ_ _ z=>z)) (λv s3 z=>u0 (u3R (u6 z))) λ_ _ z=>z))))
 obtain⟨rfl,z⟩:=z
 unfold callWith
 refine u0 (i5 (u0j z (λa s2 y=>u0 (u3R ?_)) λ_ _ z=>z))
 obtain⟨us,kw⟩:=a
 obtain⟨ekw,hlen,gC,gN,gT,gf,run⟩:=y
 obtain rfl:kw=[]:=ekw
 obtain⟨hp,g,d,tk,os⟩:=s2
 simp only[hpl]
 refine u0 (wpAny_keeperOf_exc gC (u0 (zfO gT gC gN hi gf hc (u0j run (λr s3 y=>?_) λ_ _ z=>z) hlen)))
 obtain⟨rfl,t,od,sl,hC3,he3,hE⟩:=y
 exact⟨rfl,u0 (i5 (wpAny_point (u6 ⟨_,t,od,sl,rfl,hC3,he3,hE⟩)))⟩
end
def zj6 (K:W.Frag)(C f:Addr):Bool:=match K.lookup C with
 | some ⟨.type "type",_,.cls cd,sl⟩=>(match cd.mro,sl.toList with
  | .ref C'::bm,[_,_,_,_,some (.builtin n),_]=>(C' == C)&&(n == "ValueError.__new__"&&(!cd.hasDel&&(cd.hasDict&&(W.tailIn K [.type "ValueError",.type "Exception",.type "BaseException",.type "object"] bm&&(W.nsOkIn K cd.ns&&(W.nsIn K cd.ns "__init__" == some (some (.ref f))&&(match K.lookup f with | some of=>of.cls == .type "function" | none=>false)))))))
  | _,_=>false)
 | _=>false
theorem zie {K:W.Frag}{h:Heap}{N:Addr}{m:Str->Option Value}{n:Str}{v:Value}(X:K.In h)(G:h.Ns N m)(e:W.nsIn K N n=some (some v)):m n=some v:=by
 obtain⟨ob,ens,epo,ho,hd,_,hf⟩:=G
 unfold W.nsIn at e
 split at e
 .rename_i ql
  have z:=(X _ _ ql).symm.trans ho
  cases z
  cases hd
  split at e
  .rename_i en he
   cases e
   rw[<-hf]
   unfold nsFind findBy
   rw[<-Array.find?_toList,he]
   rfl
  .split at e <;> cases e
 .cases e
theorem zgT {K:W.Frag}{h0:Heap}{C f:Addr}(X:K.In h0)(e:zj6 K C f=true) :
 ∃ bm N nm q bs sn sub ab col dd k0 k1 k2 k3 k5 mN oI,h0.get? C=some (excClassObj nm q C N bs bm true sn sub ab col dd k0 k1 k2 k3 k5 "ValueError.__new__")/\h0.Ns N mN/\mN "__init__"=some (.ref f)/\OwnTail h0 [.type "ValueError",.type "Exception",.type "BaseException",.type "object"] bm/\h0.get? f=some oI/\oI.cls=.type "function":=by
 unfold zj6 at e
 split at e
 .rename_i dd cd sl ho
  split at e
  .rename_i C' bm k0 k1 k2 k3 n k5 hm hs
   simp only[p4,u1G,u2v]at e
   obtain⟨rfl,rfl,hdel,hdict,ht,hok,hi,hf⟩:=e
   obtain⟨nm,bs,mro,ns,qn,hd,sn,sub,ab,col,del⟩:=cd
   dsimp only at hm hdel hdict hok hi
   subst hm hdel hdict
   have hsl:sl=#[k0,k1,k2,k3,some (.builtin "ValueError.__new__"),k5]:=by
    obtain⟨l⟩:=sl
    simp only at hs
    rw[hs]
   subst hsl
   split at hf
   .rename_i oI hoI
    exact⟨bm,ns,nm,qn,bs,sn,sub,ab,col,dd,k0,k1,k2,k3,k5,h0.nsMap ns,oI,X _ _ ho,.of_isNs (W.isNs_of_in X hok),zie X (.of_isNs (W.isNs_of_in X hok)) hi,W.tail_of_in X ht,X _ _ hoI,u1G.mp hf⟩
   .cases hf
  .cases e
 .cases e
end L2
namespace L2
open PySem PySem.Spec PyProof.Rows PySem.Builtin PySem.Builtin.ObjectAttr
abbrev veV:List Value:=[.type "ValueError",.type "Exception",.type "BaseException",.type "object"]
def zdO:List Value->Bool
 | .ref _::r=>zdO r
 | l=>l == veV
theorem zfD (self:Value):∀ {l:List Value},zdO l=true->refuseLoop self "__setattr__" l=pure ():=by
 intro l
 induction l with
 | nil=>intro e;cases e
 | cons v r ih =>
  intro e
  cases v with
  | ref c=>rw[refuseLoop_ref];exact ih e
  | _=>exact u1G.mp (show((_:List Value) == veV)=true from e) ▸ PySem.F.store_ValueError.passes self
theorem zdN:∀ {l:List Value},zdO l=true->l.contains (.type "object")=true/\l.isEmpty=false:=by
 intro l
 induction l with
 | nil=>intro e;cases e
 | cons v r ih =>
  intro e
  refine⟨?_,rfl⟩
  cases v with
  | ref c=>rw[List.contains_cons,(ih e).1,Bool.or_true]
  | _=>rw[u1G.mp (show((_:List Value) == veV)=true from e)];decide +kernel
def VQ (K:W.Frag) (C:Addr):Bool:=(W.clsIn K C).any (λcd=>zdO cd.mro&&cd.hasDict)&&W.findIn K (.ref C) "__setattr__" == some (some (.builtin "object.__setattr__"))&&W.findIn K (.ref C) "__getattribute__" == some (some (.builtin "BaseException.__getattribute__"))&&W.findIn K (.ref C) "__getattr__" == some none&&W.subIn K (.ref C) (.type "BaseException") == some true
structure vy (K:W.Frag) (C:Addr):Prop where
 cls:∃ cd,W.clsIn K C=some cd/\zdO cd.mro=true/\cd.hasDict=true
 sa:W.findIn K (.ref C) "__setattr__"=some (some (.builtin "object.__setattr__"))
 ga:W.findIn K (.ref C) "__getattribute__"=some (some (.builtin "BaseException.__getattribute__"))
 gt:W.findIn K (.ref C) "__getattr__"=some none
 sb:W.subIn K (.ref C) (.type "BaseException")=some true
theorem vy.of {K:W.Frag}{C:Addr}(h:VQ K C=true):vy K C:=by
 unfold VQ at h
 simp only[p4,u1G]at h
 obtain⟨cd,e,h2⟩:=W.any_some h.1.1.1.1
 rw[p4]at h2
 exact⟨⟨cd,e,h2.1,h2.2⟩,h.1.1.1.2,h.1.1.2,h.1.2,h.2⟩
section
variable {prog:Program}{w:World}{A:Around}{E:Value->Shared->Prop}{s:Shared}{K:W.Frag}{x C:Addr}{ox:Obj}{od:Option Obj}{name:Str}{v:Value}
theorem zjf {tk:Tok}{R:Result->Shared->Prop}(X:K.In s.heap)(I:PySem.W.InstAt s.heap x ox C od)(hp:vy K C)(ha:W.findIn K (.ref C) name=some none)
 (h:wpAny (model prog w) A.in1 (storeInOwnDict (.ref x) (.ref C) (.str name tk) name v false) (λfin s'=>match fin with | .done f=>R (.ok f) s' | .again c'=>c'.quiet=true/\codeAny (model prog w) A c' R s') (λe s'=>R (.error e) s') s) :
 codeAny (model prog w) A (.call (.builtin "object.__setattr__") ⟨[.ref x,.str name tk,v],[]⟩) R s:=by
 have SO:=PySem.F.store_object
 obtain⟨cd,hc,ho,_⟩:=hp.cls
 obtain⟨hin,hne⟩:=zdN ho
 have isO:PySem.W.Looks (model prog w) s.heap (isInstance (.ref x) (.type "object")) true:=I.type.andThen (W.looks_mroIn X (by unfold W.mroIn;rw[hc,b9,j4 (by rw[hne];decide),hin]))
 refine u1z SO.slot.plain SO.entry (@W.check_slot (model prog w) _ _ s "object.__setattr__" "object" "__setattr__" (.ref x) [.str name tk,v] [] _ SO.kind SO.split isO (SO.args (.ref x) (.str name tk) v) ?_)
 have lm:PySem.W.Looks (model prog w) s.heap (mroOf (.ref C)) cd.mro:=(W.looks_clsIn X hc).andThen .now
 have lt:PySem.W.Looks (model prog w) s.heap (storeTaker? none) none:=.now
 rw[W.osa_eq,refuse_eq]
 refine u0 (u0 (I.type.here (u0 (lm.here ?_))))
 rw[zfD _ ho]
 exact u6 (u0 (I.type.here (u0 ((u2R X ha).here (u0 (lt.here h))))))
theorem zji {Q:Unit->Shared->Prop}(X:K.In s.heap)(I:PySem.W.InstAt s.heap x ox C od)(hp:vy K C)(ha:W.findIn K (.ref C) name=some none)
 (h:wpAny (model prog w) A.in1 (storeInOwnDict (.ref x) (.ref C) (.str name s.toks) name v false) (λfin s'=>match fin with | .done (.ret _)=>Q () s' | _=>False) E { s with toks:=s.toks+1 }) :
 wpAny (model prog w) A (setAttr (.ref x) name v) Q E s:=by
 refine W.set_plain X I hp.sa (zjf (s:={ s with toks:=s.toks+1 }) X I hp ha (u0j h (λfin s' z=>?_) λ_ _ z=>z))
 cases fin with
 | again c=>exact z.elim
 | done f=>cases f <;> first | exact z | exact z.elim
theorem zcw {M:Model} {nameV:Value} {Q:Unit->Shared->Prop} (X:K.In s.heap) (I:PySem.W.InstAt s.heap x ox C od) (hb:W.subIn K (.ref C) (.type "BaseException")=some true) (hq:Q () s):wpAny M A (checkBuiltinCall "BaseException.__getattribute__" ⟨[.ref x,nameV],[]⟩) Q E s:=by
 have hk:builtinKind "BaseException.__getattribute__"=some .slot:=by decide +kernel
 have hsp:splitId "BaseException.__getattribute__"=some ("BaseException","__getattribute__"):=by decide +kernel
 have ha:=PySem.F.args_bexc_ga (.ref x) nameV
 have L0:=I.type (M:=M)
 have L1:PySem.W.Looks M s.heap (isSubtype (.ref C) (.type "BaseException")) true:=W.looks_subIn X hb
 simp only[checkBuiltinCall,hk,hsp]
 refine u0 ?_
 unfold isInstance
 refine u0 (L0.here (L1.here ?_))
 repeat (first | assumption | wp_step)
theorem zgs {Q:Unit->Shared->Prop}(X:K.In s.heap)(hx:s.heap.get? x=some ox)(hcl:ox.cls=.ref C)(hno:W.notCls ox=true)(hd:ox.dict=none)(hp:vy K C)(ha:W.findIn K (.ref C) name=some none)
 (h:∀ h':Heap,h'.get? x=some { ox with dict:=some s.heap.objs.size }->h'.Ns1 s.heap.objs.size (λy=>if y=name then some v else none)->(∀ b o,b≠x->s.heap.get? b=some o->h'.get? b=some o)->Q () { s with heap:=h',toks:=s.toks+2 }) :
 wpAny (model prog w) A (setAttr (.ref x) name v) Q E s:=by
 have I:PySem.W.InstAt s.heap x ox C none:=⟨hx,hcl,hno,by rw[hd];trivial⟩
 refine zji X I hp ha ?_
 obtain⟨cd,hc,_,hh⟩:=hp.cls
 have lc:=W.looks_clsIn (M:=model prog w) X hc
 unfold storeInOwnDict
 refine u0 (u6 ?_)
 have hmod:(Value.ref C == Value.type "module")=false:=rfl
 simp only[hmod]
 unfold ownDictForStores instanceDict
 refine u0 ?_
 refine u0 (wpAny_loadPart hx ?_)
 obtain⟨oc,odi,oda,osl⟩:=ox
 dsimp only at hcl hd
 subst hcl hd
 dsimp only
 refine u0 (lc.here (s:={ s with toks:=s.toks+1 }) ?_)
 rw[hh]
 rw[j4 (by decide),j4 (by simp[typeHasDict])]
 have nc:∀ c,oda≠.cls c:=λc e=>by rw[e]at hno;cases hno
 split
 .rename_i c;exact absurd rfl (nc c)
 have gx:(s.heap.push { cls:=.type "dict",data:=.dict #[] }).get? x=some ⟨.ref C,none,oda,osl⟩:=u4 _ hx
 have xs:x≠s.heap.objs.size:=r8 (t9 hx)
 refine u0 (wpAny_alloc' (u0 (wpAny_update' gx (u6 ?_))))
 generalize eh:((s.heap.push { cls:=Value.type "dict",data:=Data.dict #[] }).update x λo=>{ cls:=o.cls,dict:=some s.heap.objs.size,data:=o.data,slots:=o.slots })=h1
 have gd:h1.get? s.heap.objs.size=some { cls:=.type "dict",data:=.dict #[] }:=by rw[<-eh];exact(Heap.get?_update_ne _ _ _ _ xs.symm).trans (Heap.get?_push_at rfl rfl)
 have gn:h1.Ns s.heap.objs.size (λ_=>none):=⟨_,#[],_,gd,rfl,λe he=>absurd he (by simp),λ_=>rfl⟩
 show wpAny _ _ (storeInDict s.heap.objs.size (.str name s.toks) name v) _ _ _
 unfold storeInDict newKeyGuard
 refine u0 (u6 (u0 (wpAny_nsSet1 (Heap.Ns1.of_empty gn) λh' hn' hs=>?_)))
 obtain⟨oD,eD,pD,hoD,hdD,hcD⟩:=hn'.count (Within.cons name v Within.nil)
 refine u0 (wpAny_lookBehind hoD (by rw[hdD];exact pastItsLine_dict (i4 hcD (by rw[u0g,u21,u1n];omega))) (u6 (h h' ?_ hn' λb o hb e=>?_)))
 .refine(hs.2 x xs).trans ?_
  rw[<-eh]
  refine p9 _ gx ?_
  have fr:=(Heap.get?_some_iff.mp hx).2
  cases oda <;> first | rfl | exact fr
 .refine(hs.2 b (r8 (t9 e))).trans ?_
  rw[<-eh]
  exact(Heap.get?_update_ne _ _ _ _ hb).trans (u4 _ e)
theorem zjy {f:Str}{b:Bool}{Q:Value->Shared->Prop}(X:K.In s.heap)(I:PySem.W.InstAt s.heap x ox C od)(hp:vy K C)(hf:W.findObj K C od f=some (.value v))(hv:W.handedIn v=true)
 (h:Q v { s with toks:=s.toks+1 }):wpAny (model prog w) A (getAttr (.ref x) f b) Q E s:=by
 obtain⟨hh,g,d,t,os⟩:=s
 have L0:=I.type (M:=model prog w)
 have L1:=u2R (M:=model prog w) X hp.ga
 have L2:=u2R (M:=model prog w) X hp.gt
 have L3:=W.looks_find (M:=model prog w) X I hf
 have fb:=u29.ga.bind (.ref x)
 have hx2:(Value.builtin "BaseException.__getattribute__" == Value.builtin "object.__getattribute__")=false:=by decide +kernel
 have hx3:(b&&onTheHeap (Value.builtin "BaseException.__getattribute__"))=false:=by cases b <;> rfl
 unfold getAttr getAttrBy
 refine u0 (wpAny_mkText (i5 (u0 (L0.at (u0 (L1.at ?_))))))
 dsimp only
 rw[hx2,u1g,j4 u8]
 unfold getAttrByItsOwn
 refine u0 ?_
 show wpAny _ _ (typeLookup (.ref C) "__getattr__") _ _ _
 refine L2.at (u0 (u09 (i5 ?_)))
 unfold callGetattribute
 rw[hx3,j4 u8]
 unfold boundAndCalled
 rw[fb]
 refine u0 (u6 ?_)
 refine u2C (u1z u29.ga.plain PySem.F.entry_bexc_ga ?_)
 refine zcw X I hp.sb ?_
 refine u0 (u6 (u0 (u6 (u0 (L0.at (u0 (L3.at ?_)))))))
 refine u6 ?_
 show wpAny _ _ (handedOut v) _ _ _
 rw[W.handedOut_of hv];exact u6 h
end
end L2
namespace L2
open PySem PySem.Spec PyProof.Rows
section
variable {P:Program}{w:World}{H H':Hp}{h h':Heap}{a:Addr}{o:HO}
theorem yk.ex (x:yk P w H h a o):∃ u,h.get? a=some u:=by
 cases o with
 | lst xs=>obtain⟨_,_,_,_,e⟩:=x;exact⟨_,e⟩
 | tup xs=>obtain⟨_,_,_,ob,e,_⟩:=x;exact⟨_,e⟩
 | dK kvs=>obtain⟨_,_,_,_,o,_,_,e,_⟩:=x;exact⟨_,e⟩
 | dT kvs=>obtain⟨_,_,_,_,o,_,_,e,_⟩:=x;exact⟨_,e⟩
 | set S n=>obtain⟨o,_,_,_,e,_⟩:=x;exact⟨_,e⟩
 | ins C dx fs=>obtain⟨_,_,_,e,_⟩:=x;exact⟨_,e⟩
 | own y=>exact x
 | xd fs=>obtain⟨_,⟨_,_,_,e,_⟩,_⟩:=x;exact⟨_,e⟩
 | rng lo hi=>obtain⟨_,_,_,e⟩:=x;exact⟨_,e⟩
 | frz ob u=>obtain⟨e,_⟩:=x;exact⟨_,e⟩
 | tbl ps=>exact⟨_,(show h.get? a=some _ from x)⟩
 | met f y=>exact⟨_,(show h.get? a=some _ from x)⟩
 | ext φ=>obtain⟨_,⟨_,e⟩,_⟩:=x;exact⟨_,e⟩
theorem HOk.stays (x:HOk P w H h)(k:∀ b u,H b≠none->h.get? b=some u->h'.get? b=some u):HOk P w H h':=λa o e =>
 (x a o e).stay (λb u hb q=>k b u (by
  rcases hb with rfl | hb
  .rw[e];intro z;cases z
  .rw[hb];intro z;cases z) q) (λ_ q=>q) λ_ _ q=>q
end
structure Cov (outer:List Env) (H:Hp) (h:Heap) (H':Hp) (h' B:Heap):Prop where
 old:∀ b o,h.get? b=some o->H b=none->b∉frs outer->B.get? b=some o
 there:∀ b o,h.get? b=some o->b∉frs outer->∃ o',B.get? b=some o'
 new:∀ b o,H' b≠none->h'.get? b=some o->B.get? b=some o
def Xw (h:Heap)(a:Addr)(od:Option Addr):Prop:=∃ oe,h.get? a=some oe/\oe.dict=od
theorem Xw.stay {h h':Heap}{a:Addr}{od:Option Addr}(d:Xw h a od)(k:DK h h')(e:∃ oe,h'.get? a=some oe):Xw h' a od:=by
 obtain⟨oe,h1,h2⟩:=d
 obtain⟨oe',h3⟩:=e
 exact⟨oe',h3,(k.of h1 h3).trans h2⟩
def Air (P:Program)(w:World):CXT:=λouter H s E e s' =>
 ∃ (ea C t:Addr) (od:Option Addr) (H':Hp) (B:Heap),e=.ref ea/\s'.os=s.os/\AllBare s'.gens/\Un (frs outer) [] H H' s.heap s'.heap/\HOk P w H' s'.heap /\
  Heap.FlyingW B outer ea (.ref C) (.ref t) s'.heap/\Cov outer H s.heap H' s'.heap B/\Xw s'.heap ea od/\E (.ref C) od H'
section
variable {X:Cx}{pins:List (Addr × Obj)}{σ:St}{H H':Hp}{s s':Shared}{E:XK}{e:Value}{M:Model}{E2:Value->Shared->Prop}
theorem Inv.airUn (hex:X.ex=[])(I:Inv X pins σ H s){h' B:Heap}(J:Inv X pins σ H' s')(cov:Cov X.stack H s.heap H' s'.heap B)(hB:B.StaysIn h')(hfr:h'.FunFrames B X.outer)(up:s'.heap.UpToSlots h') :
 Un X.fs [] X.H₀ H' X.s₀.heap h'/\HOk X.prog X.w H' h'/\Cov X.outer X.H₀ X.s₀.heap H' h' B:=by
 have neL:∀ b o,X.s₀.heap.get? b=some o->b≠X.env.locals:=λb o e=>r8 (r6 (t9 e) I.ok.above)
 have nst:∀ b o,X.s₀.heap.get? b=some o->b∉X.fs->b∉frs X.stack:=λb o e n z=>(j5.mp (I.stkSub b z)).elim (neL b o e) n
 have nx:∀ b:Addr,b∉X.ex:=by rw[hex];simp
 have cov':Cov X.outer X.H₀ X.s₀.heap H' h' B:=by
  refine⟨λb o e n hb=>cov.old b o (I.base.keep b o e n hb (nx b)) (I.base.free b o e n (nx b)) (nst b o e hb),λb o e hb=>?_,λb o hb e=>?_⟩
  .obtain⟨o',e'⟩:=I.base.there b o e (nx b)
   exact cov.there b o' e' (nst b o e hb)
  .cases q:H' b with
   | none=>exact absurd q hb
   | some u =>
    obtain⟨ob,ho⟩:=(J.hok b u q).ex
    have z:=cov.new b ob hb ho
    have z2:=hB b ob z
    rw[e]at z2
    cases z2
    exact z
 refine⟨⟨λb o e n hb _=>hB b o (cov'.old b o e n hb),λb o e n hb _=>?_,λb o e n _=>J.base.free b o e n (nx b),λb o e _=>?_,J.base.tups,J.base.frzs,J.base.tbls⟩,J.hok.stays λb u hb hu=>hB b u (cov.new b u hb hu),cov'⟩
 .obtain⟨sl,e1⟩:=J.base.slot b o e n hb (nx b)
  obtain⟨_,o2,ho2,hd⟩:=I.ok.funs.mem hb
  rw[e]at ho2
  cases ho2
  obtain⟨sl2,e2⟩:=up b _ e1 hd
  exact⟨sl2,e2⟩
 .by_cases hb:b∈X.fs
  .obtain⟨_,o2,ho2,_⟩:=hfr.mem hb
   exact⟨o2,ho2⟩
  .obtain⟨o',e'⟩:=cov'.there b o e hb
   exact⟨o',hB b o' e'⟩
end
end L2
namespace Dl
open PySem L2
def pay (j:Nat):Option (List (Str × V)):=match j / 16 % 4 with
 | 0=>none
 | 1=>some [("at",.int ((j / 64:Nat) - 1))]
 | 2=>some [("row",.int ((j / 64:Nat) - 1))]
 | _=>some [("many",.int ((j / 64 / 1024:Nat):Int)),("most",.int ((j / 64 % 1024:Nat):Int))]
variable [KK]
section
variable (E:XK)(cl:Nat->Addr)
def EJ (j:Nat)(H:Hp):Prop:=match pay j with
 | none=>E (.ref (cl j)) none H
 | some fs=>∀ dx,H dx=none->E (.ref (cl j)) (some dx) (upd H dx (.xd fs))
def Wi (F H:Hp)(j:Nat):Prop:=∀ F' H',Gr F H F' H'->EJ E cl j H'
def RXE (t:TE)(fx:Ev->Option Nat):Prop:=∀ (σ:St) (ρ:Ev) (F H:Hp) (j:Nat) (Q:VK),zZ F H->VAt F ρ σ->fx ρ=some j->Wi E cl F H j->t σ H Q
def RXS (t:TS)(gx:SE->Option Nat):Prop:=∀ (Fb Hb F H:Hp) (ρ:SE) (σ:St) (D':zaq) (j:Nat),Rl Fb Hb F H ρ σ->gx ρ=some j->Wi E cl Fb Hb j->t D' σ H
def XE (X:Cx)(e:Expr)(fx:Ev->Option Nat):Prop:=∃ t,PE X e t/\RXE E cl t fx
def XS (X:Cx)(st:Stmt)(gx:SE->Option Nat):Prop:=∃ t,PS X st t/\RXS E cl t gx
def XSs (X:Cx)(sts:List Stmt)(gx:SE->Option Nat):Prop:=∃ t,PSs X sts t/\RXS E cl t gx
end
section
variable {E:XK}{cl:Nat->Addr}{X:Cx}{a b c e:Expr}{es:List Expr}{st:Stmt}{sts:List Stmt}{pos pos':Pos}
theorem Wi.grow {F H F1 H1:Hp}{j:Nat}(w:Wi E cl F H j)(g:Gr F H F1 H1):Wi E cl F1 H1 j:=λF' H' g'=>w F' H' (g.trans g')
theorem Wi.out {Fb Hb F H:Hp}{ρ:SE}{σ:St}{j:Nat}(w:Wi E cl Fb Hb j)(rl:Rl Fb Hb F H ρ σ):Wi E cl (gOf ρ σ F H) H j:=λF' H' g=>w F' H' (rl.out g)
def spX (cl:Nat->Addr)(m:Nat)(r:List D->Option Nat):Sp:=λvs H _ E=>∃ ds j F,ds.length=m/\zZ F H/\AtL F ds vs/\r ds=some j/\Wi E cl F H j
def zkx (m:Nat)(r:List D->Option Nat)(f:Ev->Option (List D)):Ev->Option Nat:=fun ρ=>(f ρ).bind λds=>if ds.length=m then r ds else none
theorem zih {x:Str}{k m:Nat}{f:Addr}{fd:FuncData}{ps:List Str}{r:List D->Option Nat}{pp:Pos}{fa:Ev->Option (List D)}(F:xC X.prog X.w X.K X.mg X.base (Air X.prog X.w) k f fd ps (spX cl m r))(hx:Z6 (Air X.prog X.w) X E)(hr:wB k X.A)(hg:Gl X x)(hm:X.mg x=some (.ref f))(hk:W.keepIn X.K (.ref f)=true)(hb:ZQ X.K fd ps [])
 (ha:AD X (e::es) fa) (hdb:(x == ("__debug__":Str))=false:=by decide) (he:starEach (e::es) X.env=(false,eval e X.env)::starEach es X.env:=by rfl) (hpl:(backTo pos (starEach es X.env)).any (·.1)=false:=by rfl) :
 XE E cl X (.Call (.Name x pp) (e::es) [] pos) (zkx m r fa):=by
 obtain⟨t,pa,ra⟩:=ha
 refine⟨_,zeD F hr hg hm hk hb .nil hx pa hdb he hpl,fun σ ρ F0 H j Q s va e w=>?_⟩
 obtain⟨ds,e1,e2⟩:=u5.mp e
 split at e2 <;> try cases e2
 rename_i hl
 refine ra σ ρ F0 H ds _ s va e1 λF1 H1 vs g1 a1=>?_
 exact⟨ds,j,F1,hl,g1.fh,by rw[u0k];exact a1,e2,w.grow g1⟩
theorem ziB {fx:Ev->Option Nat}(h:XE E cl X e fx)(hs:swapsWith e none pos.line X.env=pure false:=by rfl):XS E cl X (.Expr e pos) (fun ρ=>fx (visG ρ)):=by
 obtain⟨t,p,r⟩:=h
 exact⟨_,zaX p hs,λFb Hb F H ρ σ D' j rl e w=>r σ _ _ H j _ rl.gh rl.visG e (w.out rl)⟩
def xIf (t:Ev->Option Bool)(g h:SE->Option Nat):SE->Option Nat:=fun ρ=>match t (visG ρ) with
 | some true=>g ρ
 | some false=>h ρ
 | none=>none
theorem zlg {as bs:List Stmt}{t:Ev->Option Bool}{g h:SE->Option Nat}(hc:TD X c t)(ha:XSs E cl X as g)(hb:XSs E cl X bs h):XS E cl X (.If c as bs pos) (xIf t g h):=by
 obtain⟨tc,pc,rc⟩:=hc
 obtain⟨ta,pa,ra⟩:=ha
 obtain⟨tb,pb,rb⟩:=hb
 refine⟨_,zg2 pc pa pb,λFb Hb F H ρ σ D' j rl k w=>?_⟩
 unfold xIf at k
 cases h:t (visG ρ) with
 | none=>rw[h]at k;cases k
 | some d =>
  rw[h]at k
  refine rc σ _ _ H d _ rl.gh rl.visG h λF' H' g=>?_
  have rl2:=rl.grow (rl.back g).1
  cases d with
  | true=>rw[q5 rfl];exact ra Fb Hb _ H' ρ σ D' j rl2 k w
  | false=>rw[j4 u8];exact rb Fb Hb _ H' ρ σ D' j rl2 k w
def xNo:SE->Option Nat:=λ_=>none
theorem zbz:XS E cl X st xNo:=⟨_,zcf,λ_ _ _ _ _ _ _ _ _ h _=>by cases h⟩
theorem za2 {g:SE->Option Nat}(h:XS E cl X st g):XSs E cl X [st] g:=let ⟨_,p,r⟩:=h;⟨_,Yw p,r⟩
def zgU (gx:SE->Option Nat)(g:SE->Ctl)(hx:SE->Option Nat):SE->Option Nat:=fun ρ=>match gx ρ with
 | some j=>some j
 | none=>match g ρ with
  | .nx ρ'=>hx ρ'
  | _=>none
theorem Vl {gx hx:SE->Option Nat}{g:SE->Ctl}(h1:XS E cl X st gx)(h2:SD X st g)(h3:XSs E cl X sts hx):XSs E cl X (st::sts) (zgU gx g hx):=by
 obtain⟨t1,p1,r1⟩:=h1
 obtain⟨t2,p2,r2⟩:=h2
 obtain⟨u,p3,r3⟩:=h3
 have por:PS X st (λD σ H=>t1 D σ H\/t2 D σ H):=λpins s σ H D I h=>h.elim (p1 pins s σ H D I) (p2 pins s σ H D I)
 refine⟨_,we por p3,λFb Hb F H ρ σ D' j rl k w=>?_⟩
 unfold zgU at k
 cases e1:gx ρ with
 | some j' =>
  rw[e1]at k
  cases k
  exact .inl (r1 Fb Hb F H ρ σ _ j rl e1 w)
 | none =>
  rw[e1]at k
  dsimp only at k
  cases e2:g ρ with
  | nx ρ' =>
   rw[e2]at k
   refine .inr (r2 Fb Hb F H ρ σ _ rl ?_)
   rw[e2]
   exact λF' H' σ' rl'=>r3 Fb Hb F' H' ρ' σ' D' j rl' k w
  | rt _=>rw[e2]at k;cases k
  | bk _=>rw[e2]at k;cases k
  | ct _=>rw[e2]at k;cases k
  | no=>rw[e2]at k;cases k
theorem V2 {g:SE->Option Nat}(h:XS E cl X st g):XSs E cl X (st::sts) g:=by
 obtain⟨t,p,r⟩:=h
 exact⟨_,we p (λ_ _ _ _ _ _ h=>(h:False).elim),λFb Hb F H ρ σ D' j rl k w=>r Fb Hb F H ρ σ _ j rl k w⟩
end
def fnX (n:Nat)(gx:SE->Option Nat)(ds:List D):Option Nat:=gx (ds.map .v++List.replicate (n - ds.length) .no)
theorem zka {P:Program}{w:World}{K:W.Frag}{mg:Str->Option Value}{base:Heap}{x qual:Str}{st:Stmt}{f:Addr}{fd:FuncData}{N ps:List Str}{k:Nat}{cl:Nat->Addr}{gx:SE->Option Nat}(Fu:Fun K x qual st f fd)(S:zC N ps (zk st))
 (hb:∀ (cdv:Value) (A:Around) (outer:List Env) (s:Shared) (H:Hp) (E:XK),wB k (A.deeper (PyProof.Rows.envOfC qual (zk st) s.heap.objs.size f cdv))->XSs E cl (Y6 (Air P w) P w K mg base N qual (zk st) f cdv A outer s H E) (xL st) gx) :
 xC P w K mg base (Air P w) (k+1) f fd ps (spX cl ps.length (fnX N.length gx)):=by
 obtain⟨oc,od,kV,doc,pm,an,cdv,ct,osl,rfl,lk,hcd⟩:=Fu.ex
 refine zlB lk hcd S (λvs H Q E h=>?_) λA outer s H vs Q E hr hsp=>?_
 .obtain⟨ds,d,F,hl,_,a,_⟩:=h
  rw[a.length];exact hl
 .obtain⟨ds,j,F,hl,sm,a,e,q⟩:=hsp
  obtain⟨t,p,r⟩:=hb cdv A outer s H E hr
  exact⟨t,p,r F H F H _ _ _ j (zbZ sm a) e q⟩
end Dl
namespace L2
open PySem PySem.Spec PyProof.Rows
section
variable {X:Cx}{pins:List (Addr × Obj)}{σ:St}{H H':Hp}{s s':Shared}{E:XK}{e:Value}{E2:Value->Shared->Prop}{B h3:Heap}
theorem Inv.caught (I:Inv X pins σ H s)(os:s'.os=s.os)(bare:AllBare s'.gens)(un:Un (frs X.stack) [] H H' s.heap s'.heap)(hok:HOk X.prog X.w H' s'.heap)(cov:Cov X.stack H s.heap H' s'.heap B)
 (hB:B.StaysIn h3) (hfr:h3.FunFrames B X.stack) (up:s'.heap.UpToSlots h3):Inv X pins σ H' { s' with heap:=h3 }:=by
 obtain⟨h',g',d',t',o'⟩:=s'
 have eo:o'=s.os:=os
 subst eo
 have nil:∀ b:Addr,b∉([]:List Addr):=λb z=>nomatch z
 show Inv X pins σ H' { s with heap:=h3,gens:=g',drawn:=d',toks:=t' }
 refine I.step (s:=s) (g':=g') (d':=d') (t':=t') (ch:=[]) (λb z=>nomatch z) (λb o hL hb _ e n=>hB b o (cov.old b o e n λz=>(j5.mp (I.stkSub b z)).elim hL hb)) (λb o hL hb _ e n=>?_) (λb o _ e n=>un.free b o e n (nil b)) (λb o _ e=>?_) un.tups un.frzs un.tbls (λm hm=>?_) (hok.stays λb u hb hu=>hB b u (cov.new b u hb hu)) bare
 .obtain⟨sl,e1⟩:=un.any e n (nil b)
  obtain⟨_,o2,ho2,hd⟩:=I.funs.mem hb
  rw[e]at ho2
  cases ho2
  obtain⟨sl2,e2⟩:=up b _ e1 hd
  exact⟨sl2,e2⟩
 .by_cases hb:b∈frs X.stack
  .obtain⟨_,o2,ho2,_⟩:=hfr.mem hb
   exact⟨o2,ho2⟩
  .obtain⟨o',e'⟩:=cov.there b o e hb
   exact⟨o',hB b o' e'⟩
 .obtain⟨o,es,ep,ho,hd,r⟩:=hm
  obtain⟨sl,e1⟩:=un.any ho I.free (nil _)
  exact up.ns ⟨_,es,ep,e1,hd,r⟩
theorem zcG {M:Model}(hst:X.stack=X.env::X.outer)(hf:X.env.frame=some X.env.locals)(hex:X.ex=[])(I:Inv X pins σ H s)(a:Air X.prog X.w X.stack H s E e s'){hs:List ExceptHandler}{Q:Flow->Shared->Prop}
 (k:∀ (ea C t:Addr) (od:Option Addr) (H':Hp) (B h3:Heap),E (.ref C) od H'->Xw h3 ea od->H' ea=none->(∀ o',X.s₀.heap.get? ea=some o'->False)->(∀ p∈X.pn++pins,p.1≠ea)->Heap.FlyingW B X.stack ea (.ref C) (.ref t) h3->(∀ h4:Heap,B.StaysIn h4->h4.FunFrames B X.stack->h3.UpToSlots h4->Inv X pins σ H' { s' with heap:=h4 }) ->
  e=.ref ea->wpAny M X.A (handleBy (.ref ea) X.env hs) Q E2 { s' with heap:=h3 }) :
 wpAny M X.A (noteFrame e X.env) (λ_ s₂=>wpAny M X.A (setFlight e none) (λ_ s₃=>wpAny M X.A (handleBy e X.env hs) Q E2 s₃) E2 s₂) E2 s':=by
 obtain⟨ea,C,t,od,H',B,rfl,os,bare,un,hok,fl,cov,di,hE⟩:=a
 have hfr:X.A.frames=some (X.env::X.outer):=by rw[I.ok.frames,hst]
 have fl0:=fl
 rw[hst]at fl0
 refine WC (Zx _ _) (wpAny_looks_onW (Q:=λ_ s''=>∃ h2,s''={ s' with heap:=h2 }/\Heap.HeldW B (X.env::X.outer) ea (.ref C) (.ref t) X.env.locals h2/\s'.heap.UpToSlots h2) hfr hf fl0 λh2 hheld up2=>⟨h2,rfl,hheld,up2⟩) ?_
 rintro _ _ ⟨h2,rfl,hheld,up2⟩ dk2
 refine WC (vX _ _) (wpAny_landsW (Q:=λ_ s''=>∃ h3,s''={ s' with heap:=h3 }/\Heap.FlyingW B (X.env::X.outer) ea (.ref C) (.ref t) h3/\h2.UpToSlots h3) (s:={ s' with heap:=h2 }) hheld λh3 fl3 up3=>⟨h3,rfl,fl3,up3⟩) ?_
 rintro _ _ ⟨h3,rfl,fl3,up3⟩ dk3
 have di3:Xw h3 ea od:=by
  obtain⟨ob,hob,_⟩:=fl3.there
  exact di.stay (DK.trans dk2 dk3) ⟨ob,hob⟩
 rw[<-hst]at fl3
 have hnB:B.get? ea=none:=fl.2.1
 have nfr:ea∉frs X.stack:=λz=>by
  obtain⟨_,o2,ho2,hnf⟩:=fl.2.2.1.mem z
  obtain⟨oe,vs,_,_,_,he,_,hd,_⟩:=fl.2.2.2
  rw[he]at ho2
  cases ho2
  exact hnf vs hd
 have nold:∀ o',s.heap.get? ea=some o'->False:=λo' z=>by
  obtain⟨o2,e2⟩:=cov.there ea o' z nfr
  rw[hnB]at e2
  cases e2
 refine k ea C t od H' B h3 hE di3 ?_ (λo' z=>?_) (λp hp z=>?_) fl3 (λh4 b1 b2 b3=>I.caught os bare un hok cov b1 b2 ((up2.trans up3).trans b3)) rfl
 .cases q:H' ea with
  | none=>rfl
  | some u =>
   obtain⟨ob,ho⟩:=(hok ea u q).ex
   have z:=cov.new ea ob (by rw[q];intro z;cases z) ho
   rw[hnB]at z
   cases z
 .obtain⟨o2,e2⟩:=I.base.there ea o' z (by rw[hex];intro z;cases z)
  exact nold o2 e2
 .exact nold p.2 (z ▸ (I.pin p hp).1)
end
abbrev Cx.held (X:Cx)(e:Value):Cx:={ X with A:=X.A.mark (some e),calm:=false }
section
variable {X:Cx}{pins:List (Addr × Obj)}{σ:St}{H H':Hp}{s s':Shared}{E:Value->Shared->Prop}{e:Value}{M:Model}{A:Around}
theorem Cx.Ok.held (ok:X.Ok)(e:Value):(X.held e).Ok :=
 ⟨ok.mod,ok.kind,ok.glob,ok.blt,ok.above,ok.inj,ok.has,ok.cab,(λz=>by cases z),ok.frames,ok.stk,ok.exf,ok.bs,ok.bsz,ok.noex,ok.exfs,ok.funs,ok.frf⟩
theorem Inv.held (I:Inv X pins σ H s)(e:Value):Inv (X.held e) pins σ H s:=⟨I.ok.held e,I.os,I.bare,I.base,I.loc,I.cell,I.free,I.freeC,I.pin,I.hok,I.len⟩
theorem Inv.unheld (ok:X.Ok)(I:Inv (X.held e) pins σ H s):Inv X pins σ H s:=⟨ok,I.os,I.bare,I.base,I.loc,I.cell,I.free,I.freeC,I.pin,I.hok,I.len⟩
theorem YU {i:Nat}{x:Str}{pos:Pos}{Q:Unit->Shared->Prop}(I:Inv X pins σ H s)(hN:X.N.Nodup)(hi:X.N[i]?=some x)(hk:X.env.scope.names.lookup x=some .local)
 (h:∀ s',Inv X pins (σ.set i none) H s'->Q () s'):wpAny M A (do bindName X.env x .none;unbindBehindTheSuite X.env x pos) Q E s:=by
 obtain⟨m,hn,hl⟩:=id I.loc
 have hcls:(X.env.scope.kind == .class||(X.env.scope.kind == .module&&X.env.locals != X.env.globals))=false:=by rw[I.ok.kind];rfl
 have hiσ:i < σ.length:=by rw[I.len];exact(t6.mp hi).1
 have cne:=I.cne
 refine wpAny_nameGoes_keeps hk hn hcls λh' v hn' hs=>?_
 obtain⟨oL,_,_,hoL,_⟩:=id hn
 have tracked:HOk X.prog X.w H h':=λb ob e=>by
  refine(I.hok b ob e).stay (λc w' hc q=>(hs.2 c ?_).trans q) (λ_ q=>q) λ_ _ q=>q
  rintro rfl
  rcases hc with rfl | hc
  .rw[I.free]at e;cases e
  .rw[I.free]at hc;cases hc
 have ne0:∀ b o,X.s₀.heap.get? b=some o->b≠X.env.locals:=λb o e=>r8 (r6 (t9 e) I.ok.above)
 refine h _ ⟨I.ok,I.os,I.bare,⟨λb o e n hb hx=>?_,λb o e n hb hx=>?_,I.base.free,λb o e hx=>?_,I.base.tups,I.base.frzs,I.base.tbls⟩,⟨_,hn',λj y v' e1 e2 e3=>?_⟩,λy c e=>?_,I.free,I.freeC,λp hp=>?_,tracked,by simpa using I.len⟩
 .exact(hs.2 b (ne0 b o e)).trans (I.base.keep b o e n hb hx)
 .obtain⟨sl,e1⟩:=I.base.slot b o e n hb hx
  exact⟨sl,(hs.2 b (ne0 b o e)).trans e1⟩
 .obtain⟨o',e1⟩:=I.base.there b o e hx
  exact⟨o',(hs.2 b (ne0 b o e)).trans e1⟩
 .by_cases hj:j=i
  .subst hj
   rw[i6 hiσ]at e2
   cases e2
  .rw[d7 (u0P hj)]at e2
   obtain⟨u',r',q⟩:=hl j y v' e1 e2 e3
   refine⟨u',r',?_⟩
   rcases q with ⟨k,e⟩ | ⟨k,c,e,z⟩
   .refine .inl ⟨k,?_⟩
    have:y≠x:=λe=>hj (W4 hN e1 (e ▸ hi))
    simp[this,e]
   .exact .inr ⟨k,c,e,z.sameBut hs (cne y c e)⟩
 .obtain⟨w',z⟩:=I.cell y c e
  exact⟨w',z.sameBut hs (cne y c e)⟩
 .obtain⟨e,n,ne,nf,d⟩:=I.pin p hp
  exact⟨(hs.2 p.1 ne).trans e,n,ne,nf,d⟩
def zdf (a C:Addr)(od:Option Addr):HO:=.ext λh=>∃ oe,h.get? a=some oe/\oe.cls=.ref C/\oe.dict=od/\W.notCls oe=true
theorem Inv.track {a:Addr}{o:HO}{ob:Obj}{vs:Array Value}(I:Inv X pins σ H s)(ha:H a=none)(he:s.heap.get? a=some ob)(hd:ob.data=.fields vs)(h0:∀ o',X.s₀.heap.get? a=some o'->False)(hp:∀ p∈X.pn++pins,p.1≠a)
 (new:yk X.prog X.w (upd H a o) s.heap a o):Inv X pins σ (upd H a o) s:=by
 have neL:X.env.locals≠a:=by
  rintro rfl
  obtain⟨m,⟨oL,es,ep,hoL,hdL,_⟩,_⟩:=I.loc
  rw[he]at hoL
  cases hoL
  rw[hd]at hdL
  cases hdL
 have neC:∀ x c,X.env.cells.lookup x=some c->c≠a:=λx c e=>by
  rintro rfl
  obtain⟨v,oc,hoc,hdc⟩:=I.cell x c e
  rw[he]at hoc
  cases hoc
  rw[hd]at hdc
  cases hdc
 refine⟨I.ok,I.os,I.bare,⟨I.base.keep,I.base.slot,λb u e n hx=>?_,I.base.there,λb xs e=>?_,λb u v e=>?_,λb ps e=>?_⟩,I.loc,I.cell,?_,λx c e=>?_,λp hq=>?_,λb u e=>?_,I.len⟩
 .rw[zm (λz:b=a=>h0 u (z ▸ e))]
  exact I.base.free b u e n hx
 .have e1:=I.base.tups b xs e
  rw[zm (zj e1 ha)]
  exact e1
 .have e1:=I.base.frzs b u v e
  rw[zm (zj e1 ha)]
  exact e1
 .obtain⟨more,e1⟩:=I.base.tbls b ps e
  exact⟨more,by rw[zm (zj e1 ha)];exact e1⟩
 .rw[zm neL]
  exact I.free
 .rw[zm (neC x c e)]
  exact I.freeC x c e
 .obtain⟨e,n,ne,nf,d⟩:=I.pin p hq
  exact⟨e,by rw[zm (hp p hq)];exact n,ne,nf,d⟩
 .by_cases c:b=a
  .subst c
   rw[zn]at e
   cases e
   exact new
  .rw[zm c]at e
   refine(I.hok b u e).stay (λ_ _ _ q=>q) (λc hc=>?_) λc xs hc=>?_
   .rw[zm (zj hc ha)];exact hc
   .rw[zm (zj hc ha)];exact hc
end
abbrev Cx.pinned (X:Cx)(ps:List (Addr × Obj)):Cx:={ X with pn:=X.pn++ps }
section
variable {X:Cx}{pins ps:List (Addr × Obj)}{σ:St}{H H':Hp}{s s':Shared}
theorem Cx.Ok.pinned (ok:X.Ok)(ps:List (Addr × Obj)):(X.pinned ps).Ok :=
 ⟨ok.mod,ok.kind,ok.glob,ok.blt,ok.above,ok.inj,ok.has,ok.cab,ok.hd,ok.frames,ok.stk,ok.exf,ok.bs,ok.bsz,ok.noex,ok.exfs,ok.funs,ok.frf⟩
theorem Inv.pinAll (I:Inv X pins σ H s):Inv (X.pinned pins) [] σ H s:=⟨I.ok.pinned pins,I.os,I.bare,I.base,I.loc,I.cell,I.free,I.freeC,λp hp=>I.pin p (by rw[u0k]at hp;exact hp),I.hok,I.len⟩
theorem Inv.unpin (ok:X.Ok)(I:Inv (X.pinned pins) ps σ H s):Inv X pins σ H s:=⟨ok,I.os,I.bare,I.base,I.loc,I.cell,I.free,I.freeC,λp hp=>I.pin p (u0O _ hp),I.hok,I.len⟩
end
abbrev gone (i:Nat)(D:zaq):zaq:={ nx:=fun σ H=>D.nx (σ.set i none) H,rt:=D.rt,bk:=fun σ H=>D.bk (σ.set i none) H,ct:=fun σ H=>D.ct (σ.set i none) H }
def exW (K:W.Frag)(CS:Addr)(i n:Nat)(u:TS)(D:zaq):XK:=λcls od H'=>∃ C,cls=.ref C/\W.exmOne K (.ref C) (.ref CS)=some true/\∀ (ea:Addr) (σ:St),σ.length=n->H' ea=none->u (gone i D) (σ.set i (some (.ref ea))) (upd H' ea (zdf ea C od))
theorem zkK {Y:Cx}{CS:Addr}{x n:Str}{i:Nat}{body suite:List Stmt}{b₀:Stmt}{pos hpos np:Pos}{tb:XK->TS}{u:TS}(hst:Y.stack=Y.env::Y.outer)(hf:Y.env.frame=some Y.env.locals)(hex:Y.ex=[])
 (hN:Y.N.Nodup) (hi:Y.N[i]?=some n) (hk:Y.env.scope.names.lookup n=some .local) (hg:Gl Y x) (hm:Y.mg x=some (.ref CS))
 (hbody:∀ (ps:List (Addr × Obj)) (W:Value->Shared->Prop) (E0:XK),Z6 (Air Y.prog Y.w) ((Y.pinned ps).wish W) E0->PSs ((Y.pinned ps).wish W) body (tb E0))
 (hsuite:∀ ea,PSs (Y.held (.ref ea)).nox (b₀::suite) u) (hd:(x == ("__debug__":Str))=false:=by decide) :
 PS Y.nox (.Try body [.ExceptHandler (some (.Name x np)) (some n) (b₀::suite) hpos] [] [] pos) (λD σ H=>tb (exW Y.K CS i Y.N.length u D) D σ H):=by
 intro pins s σ H D I h
 have ok:Y.Ok:=I.ok.unwish
 have IY:Inv Y pins σ H s:=I.unwish
 refine wpAny_Try_except ?_
 refine u0j (hbody pins _ (exW Y.K CS i Y.N.length u D) ?_ [] s σ H D (IY.pinAll.wish _) h) ?_ λe s₁ h=>h
 .intro pins' σ' H1 s1 e s2 I1 a
  have I1':Inv Y pins σ' H1 s1:=I1.unwish.unpin ok
  refine zcG (X:=Y) hst hf hex I1' a λea C t od H' B h3 hE di3 hea h0 hpn fl hinv ee=>?_
  obtain⟨C',ec,hsub,hu⟩:=hE
  cases ec
  have I3:Inv Y pins σ' H' { s2 with heap:=h3 }:=hinv h3 fl.1 fl.2.2.1 (.refl _)
  obtain⟨ob,hob,hobc⟩:=fl.there
  have ty:PySem.W.Looks (model Y.prog Y.w) h3 (typeOf (.ref ea)) (.ref C):=hobc ▸ (PySem.W.Looks.ld hob).andThen .now
  refine wpAny_handleBy_cons (codeAny_handlers_test (Xd (X:=Y.held (.ref ea)) (I3.held (.ref ea)) hg hm ?_ hd)) (by intro q;cases q)
  refine(PySem.W.exm_one (M:=model Y.prog Y.w) I3.kIn ty hsub).here ?_
  refine codeAny_handlers_suite_as ?_
  refine WC (vX _ _) (wpAny_setFlight_noneW (Q:=λ_ s''=>∃ h4,s''={ s2 with heap:=h4 }/\B.StaysIn h4/\h4.FunFrames B Y.stack/\h4.TracedW B ea (.ref C) (.ref t)/\∀ b o,h3.get? b=some o->(∀ vs,o.data≠.fields vs)->h4.get? b=some o) (s:={ s2 with heap:=h3 }) fl.1 fl.2.2.1 fl.2.2.2.at λh4 k1 k2 k3 k4=>⟨h4,rfl,k1,k2,k3,k4⟩) ?_
  rintro _ _ ⟨h4,rfl,k1,k2,k3,k4⟩ dk4
  have I4:Inv Y pins σ' H' { s2 with heap:=h4 }:=hinv h4 k1 k2 λb o hb hn=>⟨o.slots,k4 b o hb hn⟩
  obtain⟨oe,vs,_,_,_,he,hcl,hdv,_⟩:=k3
  obtain⟨oe',he',hdi⟩:=di3.stay dk4 ⟨oe,he⟩
  rw[he]at he'
  cases he'
  have hnc:PySem.W.notCls oe=true:=by unfold PySem.W.notCls;rw[hdv]
  have I5:Inv Y pins σ' (upd H' ea (zdf ea C od)) { s2 with heap:=h4 }:=I4.track hea he hdv h0 hpn ⟨⟨oe,he,hcl.1,hdi,hnc⟩,⟨oe,he⟩,λh1 h2 ⟨o1,e1,e2⟩ kk=>⟨o1,kk o1 e1,e2⟩⟩
  refine WR (X:=Y.held (.ref ea)) (v:=.ref ea) (I5.held (.ref ea)) hN hi (.inl hk) rfl (λs6 I6=>?_) (.inr hk)
  refine u0j (hsuite ea pins s6 _ _ (gone i D) (I6.wish _) (hu ea σ' I4.len hea)) (λf s7 q=>?_) λx s7 q=>q.elim
  cases f with
  | ret uv =>
   obtain⟨v,σ7,H7,I7,rv,q⟩:=q
   exact YU ((Inv.unheld (X:=Y) ok I7.unwish)) hN hi hk λs8 I8=>⟨v,_,H7,I8.wish _,rv,q⟩
  | next =>
   obtain⟨σ7,H7,I7,q⟩:=q
   exact YU ((Inv.unheld (X:=Y) ok I7.unwish)) hN hi hk λs8 I8=>⟨_,H7,I8.wish _,q⟩
  | brk =>
   obtain⟨σ7,H7,I7,q⟩:=q
   exact YU ((Inv.unheld (X:=Y) ok I7.unwish)) hN hi hk λs8 I8=>⟨_,H7,I8.wish _,q⟩
  | cont =>
   obtain⟨σ7,H7,I7,q⟩:=q
   exact YU ((Inv.unheld (X:=Y) ok I7.unwish)) hN hi hk λs8 I8=>⟨_,H7,I8.wish _,q⟩
 .intro f s₁ q
  cases f with
  | ret uv =>
   obtain⟨v,σ7,H7,I7,rv,q⟩:=q
   exact⟨v,σ7,H7,(Inv.unpin (X:=Y) ok I7.unwish).wish _,rv,q⟩
  | next =>
   obtain⟨σ7,H7,I7,q⟩:=q
   exact u3b ⟨σ7,H7,(Inv.unpin (X:=Y) ok I7.unwish).wish _,q⟩
  | brk =>
   obtain⟨σ7,H7,I7,q⟩:=q
   exact⟨σ7,H7,(Inv.unpin (X:=Y) ok I7.unwish).wish _,q⟩
  | cont =>
   obtain⟨σ7,H7,I7,q⟩:=q
   exact⟨σ7,H7,(Inv.unpin (X:=Y) ok I7.unwish).wish _,q⟩
end L2
namespace L2
open PySem PySem.Spec PyProof.Rows PySem.W PySem.Calls PySem.Builtin PySem.Builtin.Getset_descriptor
section
variable {prog:Program}{w:World}{A:Around}{E:Value->Shared->Prop}{K:W.Frag}{h:Heap}{g:Array GenState}{d:Drawn}{t:Nat}{os:OsState}{a C:Addr}{o:Obj}
def Of (h:Heap)(a:Addr)(o:Obj)(C:Addr):Prop:=h.get? a=some o/\o.cls=.ref C
theorem Of.type {M:Model}(I:Of h a o C):Looks M h (typeOf (.ref a)) (.ref C):=I.2 ▸ (Looks.ld I.1).andThen .now
theorem zfM {M:Model} {name:Str} {x gt:Value} (X:K.In h) (ha:findIn K (.ref C) name=some (some x)) (hg:specialIn K x "__get__"=some (some gt)) (ht:takesIn K x=some true):Looks M h (Builtin.ObjectAttr.find (.ref a) (.ref C) name) (.bind gt x):=by
 have L1:=looks_findIn (M:=M) X ha
 have L2:Looks M h (Builtin.ObjectAttr.getOf (some x)) (some gt):=looks_specialIn X hg
 have L3:=looks_takesIn (M:=M) X ht
 exact L1.andThen (L2.andThen ((show Looks M h (Builtin.ObjectAttr.dataDescriptor? (some x) (some gt)) (some (gt,x))from L3.andThen .now).andThen (Looks.tag .now)))
theorem zij {R:Result->Shared->Prop} {tp:Value} (X:K.In h) (I:Of h a o C) (hm:mroIn K C (.type "object")=some true) (hq:R (.ok (.ret (.ref C))) ⟨h,g,d,t,os⟩) :
 codeAny (model prog w) A (.call (.builtin "getset_descriptor.__get__") ⟨[.builtin "object.__class__",.ref a,tp],[]⟩) R ⟨h,g,d,t,os⟩:=by
 have L0:=I.type (M:=model prog w)
 have L1:=looks_mroIn (M:=model prog w) X hm
 refine u1z KF.slot_gs.plain KF.entry_gs (KF.slot_gs.check _ _ _ _ _ _ _ _ KF.type_class (KF.args_gs _ _ _) ?_)
 unfold Builtin.«getset_descriptor.__get__» descrGet
 rw[dga_obj]
 refine u0 (u6 ?_)
 unfold descrGetter descrCheckInstance descrNameAndClass isInstance
 simp only[KF.owner_class]
 repeat lk
 refine⟨u2i _ (by decide +kernel),u1b KF.entry_class ?_⟩
 unfold Builtin.«object.__class__» shownTypeOf
 repeat lk
 exact hq
theorem zeI {tk:Tok} {Q:Fin->Shared->Prop} (X:K.In h) (I:Of h a o C) (ha:findIn K (.ref C) "__class__"=some (some (.builtin "object.__class__"))) (hn:specialIn K (.builtin "object.__class__") "__get__"=some (some (.builtin "getset_descriptor.__get__"))) (ht:takesIn K (.builtin "object.__class__")=some true) (hm:mroIn K C (.type "object")=some true)
 (hq:Q (.done (.ret (.ref C))) ⟨h,g,d,t,os⟩):wpAny (model prog w) A (Builtin.«object.__getattribute__» ⟨[.ref a,.str "__class__" tk],[]⟩) Q E ⟨h,g,d,t,os⟩:=by
 have L0:=I.type (M:=model prog w)
 have L1:=zfM (M:=model prog w) (a:=a) X ha hn ht
 refine u0 (u6 (u0 ?_))
 refine u6 (u0 (L0.at (u0 (L1.at ?_))))
 show wpAny _ _ (holding [.builtin "object.__class__"] (call (.builtin "getset_descriptor.__get__") [.builtin "object.__class__",.ref a,.ref C])>>=ret) _ _ _
 exact u0 (i5 (u2C (zij X I hm (u6 hq))))
theorem zdQ {M:Model} {nameV:Value} {Q:Unit->Shared->Prop} (X:K.In h) (I:Of h a o C) (hb:subIn K (.ref C) (.type "BaseException")=some true) (hq:Q () ⟨h,g,d,t,os⟩):wpAny M A (checkBuiltinCall "BaseException.__getattribute__" ⟨[.ref a,nameV],[]⟩) Q E ⟨h,g,d,t,os⟩:=by
 have hk:builtinKind "BaseException.__getattribute__"=some .slot:=by decide +kernel
 have hsplit:splitId "BaseException.__getattribute__"=some ("BaseException","__getattribute__"):=by decide +kernel
 have ha:=F.args_bexc_ga (.ref a) nameV
 have L0:=I.type (M:=M)
 have L1:Looks M h (isSubtype (.ref C) (.type "BaseException")) true:=looks_subIn X hb
 simp only[checkBuiltinCall,hk,hsplit]
 refine u0 ?_
 unfold isInstance
 refine u0 (L0.at (L1.at ?_))
 repeat (first | assumption | wp_step)
theorem zk6 {tk:Tok} {Q:Value->Shared->Prop} (X:K.In h) (I:Of h a o C) (hga:findIn K (.ref C) "__getattribute__"=some (some (.builtin "BaseException.__getattribute__"))) (hgt:findIn K (.ref C) "__getattr__"=some none)
 (ha:findIn K (.ref C) "__class__"=some (some (.builtin "object.__class__"))) (hn:specialIn K (.builtin "object.__class__") "__get__"=some (some (.builtin "getset_descriptor.__get__"))) (ht:takesIn K (.builtin "object.__class__")=some true) (hm:mroIn K C (.type "object")=some true) (hb:subIn K (.ref C) (.type "BaseException")=some true) (hq:Q (.ref C) ⟨h,g,d,t,os⟩) :
 wpAny (model prog w) A (getAttrBy (.ref a) (.str "__class__" tk) false) Q E ⟨h,g,d,t,os⟩:=by
 have L0:=I.type (M:=model prog w)
 have L1:=looks_findIn (M:=model prog w) X hga
 have L2:=looks_findIn (M:=model prog w) X hgt
 have f3:=F.attrBase_ValueError.ga.bind (.ref a)
 have hx2:(Value.builtin "BaseException.__getattribute__" == Value.builtin "object.__getattribute__")=false:=by decide +kernel
 unfold getAttrBy
 refine i5 (u0 (L0.at (u0 (L1.at ?_))))
 dsimp only
 rw[hx2,u1g,j4 u8]
 unfold getAttrByItsOwn
 refine u0 ?_
 show wpAny _ _ (typeLookup (.ref C) "__getattr__") _ _ _
 refine L2.at (u0 (u09 (i5 ?_)))
 show wpAny _ _ (boundAndCalled (.builtin "BaseException.__getattribute__") (.ref a) (.str "__class__" tk)) _ _ _
 unfold boundAndCalled
 rw[f3]
 refine u0 (u6 ?_)
 refine u2C (u1z F.attrBase_ValueError.ga.plain F.entry_bexc_ga (zdQ X I hb (zeI X I ha hn ht hm ?_)))
 exact handed_on rfl hq
theorem zeM {Q:Option Value->Shared->Prop} {s:Shared} (X:K.In s.heap) (I:Of s.heap a o C) (hga:findIn K (.ref C) "__getattribute__"=some (some (.builtin "BaseException.__getattribute__"))) (hgt:findIn K (.ref C) "__getattr__"=some none)
 (ha:findIn K (.ref C) "__class__"=some (some (.builtin "object.__class__"))) (hn:specialIn K (.builtin "object.__class__") "__get__"=some (some (.builtin "getset_descriptor.__get__"))) (ht:takesIn K (.builtin "object.__class__")=some true) (hm:mroIn K C (.type "object")=some true) (hb:subIn K (.ref C) (.type "BaseException")=some true)
 (hq:Q (some (.ref C)) { s with toks:=s.toks+1 }):wpAny (model prog w) A (getAttr? (.ref a) "__class__") Q E s:=by
 obtain⟨hh,g,d,t,os⟩:=s
 unfold getAttr? getAttrBy?
 exact u0 (wpAny_mkText (u0 (u09 (zk6 X I hga hgt ha hn ht hm hb (u6 hq)))))
def wu (K:W.Frag) (C:Addr):Bool:=(clsIn K C).isSome&&findIn K (.ref C) "__getattribute__" == some (some (.builtin "BaseException.__getattribute__"))&&findIn K (.ref C) "__getattr__" == some none&&findIn K (.ref C) "__class__" == some (some (.builtin "object.__class__"))
 && specialIn K (.builtin "object.__class__") "__get__" == some (some (.builtin "getset_descriptor.__get__"))&&takesIn K (.builtin "object.__class__") == some true&&mroIn K C (.type "object") == some true&&subIn K (.ref C) (.type "BaseException") == some true
theorem zhk (q:wu K C=true):KitX K (.ref a) (.ref C) (λh=>∃ o,Of h a o C):=by
 unfold wu at q
 simp only[p4,u1G]at q
 obtain⟨⟨⟨⟨⟨⟨⟨hcls,hga⟩,hgt⟩,ha⟩,hn⟩,ht⟩,hm⟩,hb⟩:=q
 obtain⟨cd,hcd⟩:=u0v.mp hcls
 unfold clsIn at hcd
 refine⟨λ_ _ _ ⟨_,I⟩=>I.type,λ_ _ X _=>?_,λh tp dd its n sl X htp=>?_,λX ⟨_,I⟩ k=>zeM X I hga hgt ha hn ht hm hb k⟩
 .split at hcd
  .rename_i c' d' cd' sl' ho
   intro A' Q' E' s' k q
   unfold isType loadHead
   exact u0 (wpAny_loadPart (k _ _ (X _ _ ho)) (u6 q))
  .cases hcd
 .refine u3z.mpr λq=>?_
  have e:C=tp:=Value.ref.inj (u1G.mp q)
  subst e
  split at hcd
  .rename_i c' d' cd' sl' ho
   have z:=(X _ _ ho).symm.trans htp
   cases z
  .cases hcd
theorem XX {c:Value}{b:Bool}{s:Shared}{Q:Value->Shared->Prop}(q:wu K C=true)(X:K.In s.heap)(I:∃ o,Of s.heap a o C)(e:kitOne K (.ref C) c=some b)(hq:∀ tk,Q (.bool b) { s with toks:=tk }) :
 wpAny (model prog w) A (call (.builtin "isinstance") [.ref a,c]) Q E s:=kia_one (zhk q) X I e (by intro z;cases z) hq
end
end L2
namespace L2
open PySem PySem.Spec PyProof.Rows
section
variable {P:Program}{w:World}{K:W.Frag}{mg:Str->Option Value}{base:Heap}
def zeW (P:Program)(w:World)(K:W.Frag)(mg:Str->Option Value)(base:Heap)(k:Nat)(f:Addr)(fd:FuncData)(ps:List Str)(sp:Sp):Prop :=
 (∀ vs H Q E,sp vs H Q E->vs.length=ps.length)/\∀ (A:Around) (outer:List Env) (s:Shared) (H:Hp) (args:Args) (us:List Value) (vs:List V) (Q:VK) (E:XK) (ev:Value),wB k A->zhT P w K mg base A outer s H->BindsTo s fd args (ps.zip us)->yt vs us->sp vs H Q E ->
  codeAny (model P w) (A.mark (some ev)) (.call (.ref f) args) (CR CX0 outer P w H s Q E) s
theorem zjA {x qual:Str}{st:Stmt}{f:Addr}{fd:FuncData}{N ps:List Str}{k:Nat}{sp:Sp}(F:Fun K x qual st f fd)(S:zC N ps (zk st))(len:∀ vs H Q E,sp vs H Q E->vs.length=ps.length)
 (hbody:∀ (cdv:Value) (A:Around) (outer:List Env) (s:Shared) (H:Hp) (vs:List V) (Q:VK) (E:XK) (ev:Value),wB k (A.deeper (envOfC qual (zk st) s.heap.objs.size f cdv))->sp vs H Q E ->
  ∃ t,PSs ((Y6 CX0 P w K mg base N qual (zk st) f cdv A outer s H E).held ev).nox (xL st) t/\t { nx:=λ_ H'=>Q .non H',rt:=Q } (start N vs) H):zeW P w K mg base (k+1) f fd ps sp:=by
 obtain⟨oc,od,kV,doc,pm,an,cdv,ct,osl,rfl,lk,hcd⟩:=F.ex
 refine⟨len,λA outer s H args us vs Q E ev hr e0 hb r hsp=>?_⟩
 have KX:K.In s.heap:=e0.mod.kin.keeps λb o e=>(e0.bs b o e).1
 have lim:s.heap.NoLimit:=e0.mod.nolimit.keeps λb o e=>(e0.bs b o e).1
 refine codeAny_call_function (A:=A.mark (some ev)) hr.depth (KX _ _ lk) rfl S.co S.gen rfl (W.codeRec_of KX hcd) (hb _ _ _ _ ?_)
 refine wpAny_newFunctionEnv_cells S.kind (λy hy=>?_) λenv he s1 x=>?_
 .rcases S.par y.1 (u23 (a:=y.1) (b:=y.2) hy).1 with q | q
  .exact .inl q
  .exact .inr ⟨q,u2t _ _ _ (.inl q)⟩
 subst he
 refine⟨lim.keeps x.toInCall.keep,codeAny_func ?_⟩
 obtain⟨t,ht,hq⟩:=hbody cdv A outer s H vs Q E ev (hr.deeper _) hsp
 have I:Inv (Y6 CX0 P w K mg base N qual (zk st) f cdv A outer s H E) [] (start N vs) H s1:=VE S hr.hd e0 (len _ _ _ _ hsp) r x
 refine u0j (ht [] s1 (start N vs) H _ ((I.held ev).wish _) hq) (λfl s' hs=>?_) λe s' hs=>hs.elim
 cases fl with
 | ret u =>
  obtain⟨v,σ',H',J,rv,q⟩:=hs
  exact⟨v,H',J.os,J.bare,J.base,J.hok,rv,q⟩
 | next =>
  obtain⟨σ',H',J,q⟩:=hs
  exact⟨V.non,H',J.os,J.bare,J.base,J.hok,rfl,q⟩
 | brk =>
  obtain⟨_,_,_,q⟩:=hs
  exact False.elim q
 | cont =>
  obtain⟨_,_,_,q⟩:=hs
  exact False.elim q
end
theorem zfV {Y:Cx}{ev:Value}{k:Nat}{f:Addr}{fd:FuncData}{ps:List Str}{sp:Sp}{x:Str}{p pos:Pos}{e:Expr}{es:List Expr}{t:TA}{E:XK}(F:zeW Y.prog Y.w Y.K Y.mg Y.base k f fd ps sp)(hr:wB k Y.A)(hg:Gl Y x)(hm:Y.mg x=some (.ref f))(hk:W.keepIn Y.K (.ref f)=true)(hb:ZQ Y.K fd ps [])(hok:Y.Ok)
 (ha:PA (Y.held ev).nox (e::es) t) (hdb:(x == ("__debug__":Str))=false:=by decide) (he:starEach (e::es) Y.env=(false,eval e Y.env)::starEach es Y.env:=by rfl) (hpl:(backTo pos (starEach es Y.env)).any (·.1)=false:=by rfl) :
 PE (Y.held ev).nox (.Call (.Name x p) (e::es) [] pos) (ziO sp [] E t):=by
 intro pins s σ H Q I h
 refine u2p (Xd I hg hm ?_ hdb)
 refine W.callWith_K (h₀:=Y.base) I.ok.mod.kin hk (thn (ha pos pins s σ H _ I h) λus s1 ⟨vs,H1,I1,r,q⟩=>⟨I1.kIn,?_⟩) he hpl
 have q:sp (vs++[]) H1 Q E:=q
 rw[u0k]at q
 have I2:Inv Y pins σ H1 s1:=Inv.unheld (X:=Y) hok I1.unwish
 refine u2C (u2g (F.2 Y.A Y.stack s1 H1 ⟨us,[]⟩ us vs Q E ev hr I2.env0 ?_ r q) λr s' hq=>?_)
 .have:=hb s1 us I2.kIn (by rw[u0k,<- r.length];exact F.1 _ _ _ _ q)
  rwa[u0k]at this
 .cases r with
  | error e=>exact False.elim hq
  | ok fl =>
   cases fl with
   | ret u=>exact I1.after hq
   | next=>exact False.elim hq
   | brk=>exact False.elim hq
   | cont=>exact False.elim hq
end L2
namespace L2
open PySem PySem.Spec PyProof.Rows PySem.SeqAt
theorem Vi:∀ {bs:List Bool} {its:List Value},yt (bs.map V.bl) its->its=bs.map Value.bool
 | [],its,r=>by
  have:=r.length
  exact List.eq_nil_of_length_eq_zero (by rw[<-this];rfl)
 | b::bs,its,r=>by
  cases r with
  | cons r1 r2 =>
   rw[Vi r2]
   cases r1
   rfl
theorem zbS {A:Around}{s:Shared}{bs:List Bool}{y:Value}(h:y∈(bs.map Value.bool).toArray):EqAt A s y (.bool true) (isBoolOf true y):=by
 obtain⟨b,_,rfl⟩:=u0b.mp (List.mem_toArray.mp h)
 exact EqAt.bool_bool b true
def zdl:V->List V->Hp->VK->Prop:=λx vs H Q=>∃ (l:Addr) (bs:List Bool),x=.ref l/\vs=[.bl true]/\H l=some (.lst (bs.map V.bl))/\Q (.int ((bs.countP (· == true):Nat):Int)) H
theorem zfp {X:Cx}:MtR X "list.count" zdl:=by
 intro pins s σ H x vs v us Q I rx rv h
 obtain⟨l,bs,rfl,rfl,hH,q⟩:=h
 cases rx
 obtain⟨u,rfl,ru⟩:=rv.one
 cases ru
 obtain⟨its,r,pl,hz⟩:=I.list (SqL.of (K:=X.K) hH)
 have e:=Vi r
 subst e
 obtain⟨⟨cls,dd,data,sl⟩,ho,hc,n,hd⟩:=pl.isList
 simp only at hc hd
 subst hc hd
 refine u2V u1L ⟨_,ho,rfl⟩ u3H (u3t _ _) (list_countAt l (bs.map Value.bool).toArray n dd sl (.bool true) (isBoolOf true)) ⟨ho,λy hy=>zbS hy,?_⟩
 refine⟨.int (((bs.map Value.bool).toArray.toList.countP (isBoolOf true):Nat):Int),H,I.tok _,⟨_,rfl⟩,?_⟩
 rw[show(bs.map Value.bool).toArray.toList=bs.map Value.bool from rfl,List.countP_map]
 exact q
def zfd:V->List V->Hp->VK->Prop:=λx vs H Q=>∃ (l:Addr) (bs:List Bool),x=.ref l/\vs=[.bl true]/\H l=some (.lst (bs.map V.bl))/\true∈bs/\Q (.int ((bs.idxOf true:Nat):Int)) H
theorem zdn {X:Cx}:MtR X "list.index" zfd:=by
 intro pins s σ H x vs v us Q I rx rv h
 obtain⟨l,bs,rfl,rfl,hH,hm,q⟩:=h
 cases rx
 obtain⟨u,rfl,ru⟩:=rv.one
 cases ru
 obtain⟨its,r,pl,hz⟩:=I.list (SqL.of (K:=X.K) hH)
 have e:=Vi r
 subst e
 obtain⟨⟨cls,dd,data,sl⟩,ho,hc,n,hd⟩:=pl.isList
 simp only at hc hd
 subst hc hd
 have hj:bs.idxOf true < bs.length:=List.idxOf_lt_length_iff.mpr hm
 have hl63:=zas
 have hb:bs.length<=sizeLine:=by simpa using hz
 refine u2V PySem.F.slot_list_index ⟨_,ho,rfl⟩ PySem.F.entry_list_index (PySem.F.args_list_index_2 _ _) (list_indexAt l (bs.map Value.bool).toArray n dd sl (.bool true) (isBoolOf true) (bs.idxOf true) (by simpa using hj) (by omega) ?_ ?_) ⟨ho,λy hy=>zbS hy,⟨.int ((bs.idxOf true:Nat):Int),H,I.tok _,⟨_,rfl⟩,q⟩⟩
 .simp only[List.getElem_toArray,u1d]
  rw[List.getElem_idxOf hj]
  rfl
 .intro m hm2 hlt
  simp only[List.getElem_toArray,u1d]
  exact List.not_of_lt_findIdx (p:=(· == true)) (xs:=bs) hlt
end L2
namespace L2
open PySem PySem.Spec PyProof.Rows
def clsV:V->Option Value
 | .ref C=>some (.ref C)
 | .ty T=>some (.type T)
 | _=>none
def zl1 (K:W.Frag):List V->Hp->VK->Prop:=λvs H Q=>∃ (a C:Addr) (od:Option Addr) (v:V) (c:Value) (b:Bool),vs=[.ref a,v]/\H a=some (zdf a C od)/\wu K C=true/\clsV v=some c/\W.kitOne K (.ref C) c=some b/\Q (.bl b) H
theorem yD {X:Cx}:vH X (.builtin "isinstance") (zl1 X.K):=by
 intro pins s σ H vs us Q I rv h
 obtain⟨a,C,od,v,c,b,rfl,hH,hl,hc,hk,q⟩:=h
 obtain⟨u1,u2,rfl,r1,r2⟩:∃ u1 u2,us=[u1,u2]/\yH (.ref a) u1/\yH v u2:=by
  cases rv with
  | cons r1 r=>cases r with
   | cons r2 r=>cases r;exact⟨_,_,rfl,r1,r2⟩
 cases r1
 have e2:u2=c:=by
  cases v <;> try cases hc
  .cases r2;rfl
  .cases r2;rfl
 subst e2
 obtain⟨⟨oe,h1,h2,_⟩,_⟩:=I.hok a _ hH
 exact XX hl I.kIn ⟨oe,h1,h2⟩ hk λtk=>⟨.bl b,H,I.tok tk,rfl,q⟩
theorem zbw {K:W.Frag}{σ:St}{H:Hp}{a C:Addr}{od:Option Addr}{v:V}{c:Value}{b:Bool}{Q:VK}(h0:σ[0]?=some (some (.ref a)))(hH:H a=some (zdf a C od))(hl:wu K C=true)(hc:clsV v=some c)(hk:W.kitOne K (.ref C) c=some b)(q:Q (.bl b) H) :
 tCB (zl1 K) (Xb (zaz 0) (Xb (tC v) zhX)) σ H Q:=⟨.ref a,h0,⟨a,C,od,v,c,b,rfl,hH,hl,hc,hk,q⟩⟩
def zcF (n j:Nat):List Bool:=(List.range n).map λi=>i == j
def zb6 (K:W.Frag) (cs:List Addr) (CS C:Addr) (j:Nat):Bool:=wu K C&&(W.kitOne K (.ref C) (.type "ValueError") == some true)&&(W.exmOne K (.ref C) (.ref CS) == some true)&&(cs.map (λc=>W.kitOne K (.ref C) (.ref c)) == (zcF cs.length j).map some)
structure zbE (K:W.Frag) (cs:List Addr) (CS C:Addr) (j:Nat):Prop where
 look:wu K C=true
 val:W.kitOne K (.ref C) (.type "ValueError")=some true
 exm:W.exmOne K (.ref C) (.ref CS)=some true
 hot:cs.map (λc=>W.kitOne K (.ref C) (.ref c))=(zcF cs.length j).map some
theorem zbE.of {K:W.Frag}{cs:List Addr}{CS C:Addr}{j:Nat}(h:zb6 K cs CS C j=true):zbE K cs CS C j:=by
 unfold zb6 at h
 simp only[p4,u1G]at h
 exact⟨h.1.1.1,h.1.1.2,h.1.2,h.2⟩
section
variable {K:W.Frag}{σ:St}{H H0:Hp}{a C:Addr}{od:Option Addr}
def tIs (K:W.Frag):List Addr->TA
 | []=>zhX
 | c::r=>Xb (tCB (zl1 K) (Xb (zaz 0) (Xb (tC (.ref c)) zhX))) (tIs K r)
theorem zhY (h0:σ[0]?=some (some (.ref a)))(hH:H a=some (zdf a C od))(hl:wu K C=true):∀ (cs:List Addr) (bs:List Bool) (Q:List V->Hp->Prop),cs.map (λc=>W.kitOne K (.ref C) (.ref c))=bs.map some->Q (bs.map V.bl) H->tIs K cs σ H Q:=by
 intro cs
 induction cs with
 | nil =>
  intro bs Q e q
  cases bs with
  | nil=>exact q
  | cons b r=>cases e
 | cons c r ih =>
  intro bs Q e q
  cases bs with
  | nil=>cases e
  | cons b bs =>
   obtain⟨e1,e2⟩:=List.cons.inj e
   exact zbw h0 hH hl rfl e1 (ih bs _ e2 q)
structure KSt (H0:Hp) (a C:Addr) (od:Option Addr) (bs:List Bool) (σ:St) (H:Hp):Prop where
 same:zZ H0 H
 len:σ.length=2
 e0:σ[0]?=some (some (.ref a))
 he:H a=some (zdf a C od)
 lst:∃ p,σ[1]?=some (some (.ref p))/\H p=some (.lst (bs.map V.bl))
theorem zfu {bs:List Bool}{p:Addr}(s:zZ H0 H)(hl:σ.length=2)(e0:σ[0]?=some (some (.ref a)))(he:H a=some (zdf a C od))(hp:H p=none):KSt H0 a C od bs (σ.set 1 (some (.ref p))) (upd H p (.lst (bs.map V.bl))):=by
 refine⟨λb o e=>?_,by rw[List.length_set];exact hl,?_,?_,p,?_,zn⟩
 .have:=s b o e
  rw[zm (zj this hp)];exact this
 .rw[d7 (by decide)];exact e0
 .rw[zm (zj he hp)];exact he
 .rw[i6 (by omega)]
theorem zfq {cs:List Addr}{bs:List Bool}{D:zaq}(hk:wu K C=true)(e:cs.map (λc=>W.kitOne K (.ref C) (.ref c))=bs.map some)(hb:bs.length<=sizeLine)(hl:σ.length=2)(e0:σ[0]?=some (some (.ref a)))(he:H a=some (zdf a C od))(k:∀ σ' H',KSt H a C od bs σ' H'->D.nx σ' H') :
 zmC (zmE (tIs K cs)) (YX 1) D σ H :=
 zhY e0 he hk cs bs _ e ⟨by rw[u7];exact hb,λp hp=>k _ _ (zfu (.refl _) hl e0 he hp)⟩
theorem WO {cs:List Addr}{bs0 bs:List Bool}{D:zaq}(hk:wu K C=true)(e:cs.map (λc=>W.kitOne K (.ref C) (.ref c))=bs.map some)(hb:bs0.length+bs.length<=sizeLine)(S:KSt H0 a C od bs0 σ H)(k:∀ σ' H',KSt H0 a C od (bs0++bs) σ' H'->D.nx σ' H') :
 zmC (tOp zmi (zaz 1) (zmE (tIs K cs))) (YX 1) D σ H:=by
 obtain⟨p,e1,hp⟩:=S.lst
 refine⟨.ref p,e1,zhY S.e0 S.he hk cs bs _ e ⟨by rw[u7];omega,λq hq=>?_⟩⟩
 refine⟨p,q,bs0.map V.bl,bs.map V.bl,rfl,rfl,by rw[zm (zj hp hq)];exact hp,zn,by rw[u7,u7];exact hb,λr hr=>?_⟩
 rw[<-p6]
 refine k _ _ (zfu (λb o e=>?_) S.len S.e0 ?_ hr)
 .have:=S.same b o e
  rw[zm (zj this hq)];exact this
 .rw[zm (zj S.he hq)];exact S.he
theorem ze2:∀ j:Nat,j < 13->(zcF 13 j).countP (· == true)=1/\(zcF 13 j).idxOf true=j/\true∈zcF 13 j:=by decide +kernel
theorem ziq {j:Nat} {D:zaq} {tr:TS} (hv:W.kitOne K (.ref C) (.type "ValueError")=some true) (hk:wu K C=true) (hj:j < 13) (S:KSt H0 a C od (zcF 13 j) σ H) (k:D.rt (.int j) H) :
 zmk (zmr (tOr (tNot (tB (tCB (zl1 K) (Xb (zaz 0) (Xb (tC (.ty "ValueError")) zhX))))) (zfW (tOp rNe (tBM K "list" zdl (zaz 1) (Xb (tC (.bl true)) zhX)) (tC (.int 1))))) tr ziR) (zmG (tBM K "list" zfd (zaz 1) (Xb (tC (.bl true)) zhX))) D σ H:=by
 obtain⟨h1,h2,h3⟩:=ze2 j hj
 obtain⟨p,e1,hp⟩:=S.lst
 refine zbw S.e0 S.he hk rfl hv ⟨true,rfl,?_⟩
 show(if (!true)=true then _ else _)
 rw[j4 (by decide)]
 refine⟨.ref p,e1,.inl ⟨rfl,_,SqL.of hp⟩,p,_,rfl,rfl,hp,?_⟩
 rw[h1]
 refine⟨rfl,false,by rw[WK];rfl,?_⟩
 show(if false=true then _ else _)
 rw[j4 (by decide)]
 refine⟨.ref p,e1,.inl ⟨rfl,_,SqL.of hp⟩,p,_,rfl,rfl,hp,h3,?_⟩
 rw[h2]
 exact k
end
def zfE (cl:Nat->Addr)(ok:Nat->Prop):Sp:=λvs H Q _=>∃ a j od,vs=[.ref a]/\H a=some (zdf a (cl j) od)/\ok j/\∀ H',zZ H H'->Q (.int (j:Nat)) H'
def tXA (K:W.Frag)(ta:TE)(f:Str):TE:=fun σ H Q=>ta σ H λx H1=>∃ a C dx fs v,x=.ref a/\H1 a=some (zdf a C (some dx))/\H1 dx=some (.xd fs)/\vy K C/\Wh K C f/\fs.lookup f=some v/\Q v H1
theorem zmv {X:Cx}{e:Expr}{ta:TE}{f:Str}{pos:Pos}(he:PE X e ta)(hb:attributeBase e f X.env (eval e X.env)=eval e X.env):PE X (.Attribute e f pos) (tXA X.K ta f):=by
 intro pins s σ H Q I h
 refine zjd hb (thn (he pins s σ H _ I h) λu s1 hh9=>?_)
 obtain⟨x,H1,I1,rx,a,C,dx,fs,v,ex,ea,ed,hx,n,l,q⟩:=hh9
 subst ex
 obtain rfl:u=Value.ref a:=rx
 obtain⟨⟨oe,h1,h2,h3,h4⟩,_⟩:=I1.hok a _ ea
 obtain⟨mA,hn,hr⟩:=I1.hok dx _ ed
 obtain⟨od,g1,g2⟩:=VR hn
 obtain⟨u,hu,ru⟩:=zaE.some_of (v:=v) (o:=mA f) (by rw[<-l];exact hr f)
 have II:PySem.W.InstAt s1.heap a oe C (some od):=⟨h1,h2,h4,by rw[h3];exact g1⟩
 obtain⟨cd,hc,_,hh⟩:=hx.cls
 have hf:W.findObj X.K C (some od) f=some (.value u):=by
  unfold W.findObj
  rw[hc,b9,show W.findIn X.K (.ref C) f=some none from n]
  show((W.ownOf cd (some od) f).bind _)=_
  unfold W.ownOf
  rw[hh,q5 rfl]
  dsimp only
  rw[g2,hu]
  rfl
 exact zjy I1.kIn II hx hf (zfh ru) ⟨v,H1,I1.tok _,ru,q⟩
theorem PS.nox {X:Cx}{st:Stmt}{t:TS}(h:PS X.nox st t):PS X st t:=λpins s σ H D I hw =>
 u0j (h pins s σ H D (I.wish _) hw) (λ_ _ q=>q.unwish) λ_ _ z=>False.elim z
end L2
namespace Dl
open PySem L2
variable [KK]
theorem SD.nox {X:Cx}{st:Stmt}{g:SE->Ctl}(h:SD X.nox st g):SD X st g:=let ⟨t,p,r⟩:=h;⟨t,p.nox,r⟩
theorem SDs.nox {X:Cx}{sts:List Stmt}{g:SE->Ctl}(h:SDs X.nox sts g):SDs X sts g:=let ⟨t,p,r⟩:=h;⟨t,p.nox,r⟩
def xEx (fx:Ev->Option Nat):SE->Option Nat:=fun ρ=>fx (visG ρ)
theorem Vx {E:XK}{cl:Nat->Addr}{X:Cx}{sts:List Stmt}:XSs E cl X sts xNo:=⟨λ_ _ _=>False,λ_ _ _ _ _ _ h=>h.elim,λ_ _ _ _ _ _ _ _ _ h _=>by cases h⟩
theorem Gr.more {F H H':Hp}(s:zZ F H)(k:zZ H H'):Gr F H F H':=⟨zZ.refl _,s.trans k,λp o e1 e2=>⟨.inl e1,k p o e2⟩⟩
def zkm (gx:SE->Option Nat)(g:SE->Ctl)(h:Nat->Option D):SE->Ctl:=fun ρ=>match gx ρ with
 | some j=>match h j with
  | some d=>.rt d
  | none=>.no
 | none=>g ρ
def W8 (H:Hp)(j:Nat)(od:Option Addr):Prop:=match pay j with
 | none=>od=none
 | some fs=>∃ dx,od=some dx/\H dx=some (.xd fs)
theorem W8.mono {H H':Hp}{j:Nat}{od:Option Addr}(h:W8 H j od)(s:zZ H H'):W8 H' j od:=by
 unfold W8 at h ⊢
 cases e:pay j with
 | none=>rw[e]at h;exact h
 | some fs=>rw[e]at h;obtain⟨dx,e1,e2⟩:=h;exact⟨dx,e1,s _ _ e2⟩
structure Est (cl:Nat->Addr) (i j:Nat) (σ:St) (H:Hp) (a:Addr) (od:Option Addr):Prop where
 sl:σ[i]?=some (some (.ref a))
 he:H a=some (zdf a (cl j) od)
 pa:W8 H j od
theorem Est.mono {cl:Nat->Addr}{i j:Nat}{σ:St}{H H':Hp}{a:Addr}{od:Option Addr}(h:Est cl i j σ H a od)(s:zZ H H'):Est cl i j σ H' a od:=⟨h.sl,s _ _ h.he,h.pa.mono s⟩
def RU (cl:Nat->Addr)(i:Nat)(u:TS)(h:Nat->Option D):Prop:=∀ (j:Nat) (d:D) (σ:St) (H:Hp) (a:Addr) (od:Option Addr) (D':zaq),h j=some d->Est cl i j σ H a od->(∀ H' v,(∀ F,zZ F H->∃ F',Gr F H F' H'/\At F' d v)->D'.rt v H')->u D' σ H
theorem zkG {Y:Cx}{CS:Addr}{x n:Str}{i:Nat}{body suite:List Stmt}{b₀:Stmt}{pos hpos np:Pos}{cl:Nat->Addr}{g:SE->Ctl}{gx:SE->Option Nat}{u:TS}{h:Nat->Option D}(hst:Y.stack=Y.env::Y.outer)(hf:Y.env.frame=some Y.env.locals)(hex:Y.ex=[])
 (hN:Y.N.Nodup) (hi:Y.N[i]?=some n) (hk:Y.env.scope.names.lookup n=some .local) (hg:Gl Y x) (hm:Y.mg x=some (.ref CS))
 (hbx:∀ (ps:List (Addr × Obj)) (W:Value->Shared->Prop) (E0:XK),Z6 (Air Y.prog Y.w) ((Y.pinned ps).wish W) E0->XSs E0 cl ((Y.pinned ps).wish W) body gx)
 (hb:∀ (ps:List (Addr × Obj)) (W:Value->Shared->Prop),SDs ((Y.pinned ps).wish W) body g)
 (hexm:∀ j d,h j=some d->PySem.W.exmOne Y.K (.ref (cl j)) (.ref CS)=some true)
 (hsuite:Y.Ok->∀ ea,PSs (Y.held (.ref ea)).nox (b₀::suite) u) (hu:RU cl i u h) (hd:(x == ("__debug__":Str))=false:=by decide) :
 SD Y.nox (.Try body [.ExceptHandler (some (.Name x np)) (some n) (b₀::suite) hpos] [] [] pos) (zkm gx g h):=by
 let tb:XK->TS:=λE0 D σ H=>∀ (ps:List (Addr × Obj)) (W:Value->Shared->Prop),Z6 (Air Y.prog Y.w) ((Y.pinned ps).wish W) E0->∃ t,PSs ((Y.pinned ps).wish W) body t/\t D σ H
 refine⟨λD σ H=>tb (exW Y.K CS i Y.N.length u D) D σ H,λpins s σ H D I hq=>?_,λFb Hb F H ρ σ D rl k=>?_⟩
 .refine zkK (tb:=tb) hst hf hex hN hi hk hg hm (λps W E0 hP pins s σ H D I hq=>?_) (hsuite I.ok.unwish) hd pins s σ H D I hq
  obtain⟨t,p,ht⟩:=hq ps W hP
  exact p pins s σ H D I ht
 .intro ps W hP
  unfold zkm at k
  cases e:gx ρ with
  | none =>
   rw[e]at k
   obtain⟨t,p,r⟩:=hb ps W
   exact⟨t,p,r Fb Hb F H ρ σ D rl k⟩
  | some j =>
   rw[e]at k
   dsimp only at k
   cases e2:h j with
   | none=>rw[e2]at k;exact k.elim
   | some d =>
    rw[e2]at k
    obtain⟨t,p,r⟩:=hbx ps W _ hP
    refine⟨t,p,r Fb Hb F H ρ σ D j rl e λF' H' gr=>?_⟩
    have go:∀ (od:Option Addr) (H0:Hp),zZ H' H0->W8 H0 j od->exW Y.K CS i Y.N.length u D (.ref (cl j)) od H0:=λod H0 sm pa=>⟨_,rfl,hexm j d e2,λea σ' hl hn=>by
     have hi':i < σ'.length:=by
      rw[hl]
      exact(t6.mp hi).1
     have sm0:zZ H0 (upd H0 ea (zdf ea (cl j) od)):=λb o q=>by rw[zm (zj q hn)];exact q
     refine hu j d _ _ ea od _ e2 ⟨by rw[i6 hi'],zn,pa.mono sm0⟩ λH'' v av=>?_
     obtain⟨F2,g2,a2⟩:=av F' (gr.fh.trans (sm.trans sm0))
     exact k F2 H'' v ((gr.trans (Gr.more gr.fh (sm.trans sm0))).trans g2) a2⟩
    unfold EJ
    cases ep:pay j with
    | none=>exact go none H' (zZ.refl _) (by unfold W8;rw[ep])
    | some fs=>exact λdx hdx=>go (some dx) _ (λb o q=>by rw[zm (zj q hdx)];exact q) (by unfold W8;rw[ep];exact⟨dx,rfl,zn⟩)
def SX (cl:Nat->Addr)(i:Nat)(t:TE)(f:Nat->Option D):Prop:=∀ (j:Nat) (d:D) (σ:St) (H:Hp) (a:Addr) (od:Option Addr) (Q:VK),f j=some d->Est cl i j σ H a od->(∀ H' v,zZ H H'->(∀ F,At F d v)->Q v H')->t σ H Q
section
variable {cl:Nat->Addr}{i:Nat}
def fK (js:List Nat):Nat->Option D:=λj=>if j % 16∈js then some (.int (j % 16:Nat))else none
theorem zht {js:List Nat}{E:XK}{ok:Nat->Prop}(hcl:∀ j,cl j=cl (j % 16))(hok:∀ j,j∈js->ok j):SX cl i (ziO (zfE cl ok) [] E (Xb (zaz i) zhX)) (fK js):=by
 intro j d σ H a od Q e es k
 unfold fK at e
 split at e <;> try cases e
 rename_i hj
 refine⟨.ref a,es.sl,a,j % 16,od,rfl,?_,hok _ hj,λH' sm=>k H' _ sm λF=>.int⟩
 rw[<-hcl j]
 exact es.he
def fA (f:Str)(js:List Nat):Nat->Option D:=λj=>if j % 16∈js then (pay j).bind λfs=>match fs.lookup f with
 | some (.int n)=>some (.int n)
 | _=>none
 else none
theorem ziH {K:W.Frag}{f:Str}{js:List Nat}(hx:∀ j,j % 16∈js->vy K (cl j)/\Wh K (cl j) f):SX cl i (tXA K (zaz i) f) (fA f js):=by
 intro j d σ H a od Q e es k
 unfold fA at e
 split at e <;> try cases e
 rename_i hj
 obtain⟨fs,e1,e2⟩:=u5.mp e
 have pa:=es.pa
 unfold W8 at pa
 rw[e1]at pa
 obtain⟨dx,rfl,hdx⟩:=pa
 split at e2 <;> cases e2
 rename_i n hl
 exact⟨.ref a,es.sl,a,_,dx,fs,.int n,rfl,es.he,hdx,(hx j hj).1,(hx j hj).2,hl,k H _ (zZ.refl _) λF=>.int⟩
theorem zhI {t:TE}{f:Nat->Option D}(h:SX cl i t f):RU cl i (zmG t) f:=λj d σ H a od D' e es k =>
 h j d σ H a od _ e es λH' v sm av=>k H' v λF s=>⟨F,Gr.more s sm,av F⟩
def zhz (f:Nat->Option D)(c:Int)(h1 h2:Nat->Option D):Nat->Option D:=λj=>match f j with
 | some (.int n)=>if n=c then h1 j else h2 j
 | _=>none
theorem zmg {t:TE}{f:Nat->Option D}{c:Int}{u1 u2:TS}{h1 h2:Nat->Option D}(h:SX cl i t f)(k1:RU cl i u1 h1)(k2:RU cl i u2 h2):RU cl i (zmk (zmr (zfW (tOp rEq t (tC (.int c)))) u1 ziR) u2) (zhz f c h1 h2):=λj d σ H a od D' e es k=>by
 unfold zhz at e
 split at e <;> try cases e
 rename_i n hn
 refine h j _ σ H a od _ hn es λH' v sm av=>?_
 cases (av H).int_inv
 have back:∀ H2 w,(∀ F,zZ F H'->∃ F',Gr F H' F' H2/\At F' d w)->D'.rt w H2:=λH2 w q=>k H2 w λF s=>by
  obtain⟨F',g,a'⟩:=q F (s.trans sm)
  exact⟨F',(Gr.more s sm).trans g,a'⟩
 refine⟨rfl,decide (n=c),by rw[WK];rfl,?_⟩
 by_cases hc:n=c
 .rw[q5 hc]at e
  rw[q5 (by rw[j8 hc])]
  exact k1 j d σ H' a od _ e (es.mono sm) back
 .rw[j4 hc]at e
  rw[j4 (by rw[g0 hc];decide)]
  exact k2 j d σ H' a od _ e (es.mono sm) back
end
end Dl
namespace L2
open PySem PySem.Spec PyProof.Rows
def zdg (a C t:Addr)(od:Option Addr):HO:=.ext λh=>∃ sl,h.get? a=some { cls:=.ref C,dict:=od,data:=.fields #[.ref t,.none,.none,.none,.bool false,.none],slots:=sl }
section
variable {X:Cx}{pins:List (Addr × Obj)}{σ:St}{H:Hp}{s:Shared}{h':Heap}{a C t dx:Addr}{f:Str}
theorem zev {P:Program}{w:World}{H:Hp}{h:Heap}{od:Option Addr}{sl:Array (Option Value)}(e:h.get? a=some { cls:=.ref C,dict:=od,data:=.fields #[.ref t,.none,.none,.none,.bool false,.none],slots:=sl }):yk P w H h a (zdg a C t od) :=
 ⟨⟨sl,e⟩,⟨_,e⟩,λh1 h2 ⟨sl,z⟩ k=>⟨sl,k _ z⟩⟩
theorem Inv.two {φ:Heap->Prop}{o1 o2:HO}{t':Nat}(I:Inv X pins σ H s)(ha:H a=some (.ext φ))(nice:∀ o,H dx=some o->∃ fs,o=.xd fs)(old:∀ o,s.heap.get? dx=some o->H dx≠none)(ne:a≠dx)(k:∀ b o,b≠a->b≠dx->s.heap.get? b=some o->h'.get? b=some o)
 (n1:yk X.prog X.w (upd (upd H dx o2) a o1) h' a o1) (n2:yk X.prog X.w (upd (upd H dx o2) a o1) h' dx o2):Inv X pins σ (upd (upd H dx o2) a o1) { s with heap:=h',toks:=t' }:=by
 have other:∀ b u,H b=some u->(∀ ψ,u≠.ext ψ)->(∀ fs,u≠.xd fs)->upd (upd H dx o2) a o1 b=some u:=λb u e n1 n2=>by
  have x1:b≠a:=λz=>by subst z;rw[ha]at e;cases e;exact n1 _ rfl
  have x2:b≠dx:=λz=>by subst z;obtain⟨fs,rfl⟩:=nice u e;exact n2 _ rfl
  rw[zm x1,zm x2];exact e
 have free:∀ b o,s.heap.get? b=some o->H b=none->b≠a/\b≠dx:=λb o e n=>⟨λz=>by(subst z;rw[ha]at n;cases n),λz=>by(subst z;exact old o e n)⟩
 refine I.un ⟨λb o e n _ _=>k b o (free b o e n).1 (free b o e n).2 e,λb o e n _ _=>⟨o.slots,k b o (free b o e n).1 (free b o e n).2 e⟩,λb o e n _=>by rw[zm (free b o e n).1,zm (free b o e n).2];exact n,λb o e _=>?_,
  λb xs e=>other b _ e (λ_ z=>by cases z) (λ_ z=>by cases z),λb o u e=>other b _ e (λ_ z=>by cases z) (λ_ z=>by cases z),λb ps e=>⟨#[],by rw[Array.append_empty];exact other b _ e (λ_ z=>by cases z) (λ_ z=>by cases z)⟩⟩ λb u e=>?_
 .by_cases x1:b=a
  .subst x1;exact n1.ex
  .by_cases x2:b=dx
   .subst x2;exact n2.ex
   .exact⟨o,k b o x1 x2 e⟩
 .by_cases x1:b=a
  .subst x1;rw[zn]at e;cases e;exact n1
  .rw[zm x1]at e
   by_cases x2:b=dx
   .subst x2;rw[zn]at e;cases e;exact n2
   .rw[zm x2]at e
    refine(I.hok b u e).stay (λc v hc q=>?_) (λc hc=>other c _ hc (λ_ z=>by cases z) λ_ z=>by cases z) λc xs hc=>other c _ hc (λ_ z=>by cases z) λ_ z=>by cases z
    rcases hc with rfl | hc
    .exact k _ v x1 x2 q
    .refine k c v (λz=>?_) (λz=>?_) q
     .subst z;rw[ha]at hc;cases hc
     .subst z;obtain⟨fs,z⟩:=nice _ hc;cases z
theorem zmN {A:Around}{E:Value->Shared->Prop}{y:V}{u:Value}{Q:Unit->Shared->Prop}(I:Inv X pins σ H s)(e:H a=some (zdg a C t none))(hx:vy X.K C)(n:Wh X.K C f)(ry:yH y u)
 (h:∀ dx s',H dx=none->Inv X pins σ (upd (upd H dx (.xd [(f,y)])) a (zdg a C t (some dx))) s'->Q () s'):wpAny (model X.prog X.w) A (setAttr (.ref a) f u) Q E s:=by
 obtain⟨⟨sl,ea⟩,_⟩:=I.hok a _ e
 refine zgs I.kIn ea rfl rfl rfl hx n λh' e1 e2 e3=>h s.heap.objs.size _ (I.hok.fresh (j3 _)) ?_
 have ne:a≠s.heap.objs.size:=r8 (t9 ea)
 refine I.two e (λo z=>by rw[I.hok.fresh (j3 _)]at z;cases z) (λo z=>absurd (t9 z) (u0y _)) ne (λb o hb _ z=>e3 b o hb z) (zev (sl:=sl) e1) ⟨_,e2,λg=>?_⟩
 show zaE (List.lookup g [(f,y)]) _
 by_cases q:g=f
 .subst q
  rw[q5 rfl]
  simp only[List.lookup,u0h]
  exact ry
 .rw[j4 q]
  simp only[List.lookup,u0V.mpr q]
  trivial
end
def sX1 (K:W.Frag)(ta tv:TE)(f:Str):TS:=λD σ H=>tv σ H λy H1=>ta σ H1 λx H2=>∃ a C t,x=.ref a/\H2 a=some (zdg a C t none)/\vy K C/\Wh K C f/\∀ dx,H2 dx=none->D.nx σ (upd (upd H2 dx (.xd [(f,y)])) a (zdg a C t (some dx)))
section
variable {X:Cx}{o e value:Expr}{f:Str}{pos pos':Pos}{ta tv:TE}
theorem zmO (ha:PE X o ta)(hv:PE X value tv)(hs:swapsWith value (some (.Attribute o f pos')) pos.line X.env=pure false):PS X (.Assign [.Attribute o f pos'] value pos) (sX1 X.K ta tv f):=by
 intro pins s σ H D I h
 refine plainObj_wpAny_Assign_Attribute (thn (hv pins s σ H _ I h) λu s1 ⟨y,H1,I1,ry,q⟩=>thn (ha pins s1 σ H1 _ I1 q) λov s2 hh9=>?_) hs
 obtain⟨x,H2,I2,rx,a,C,t,ex,ea,hx,n,q2⟩:=hh9
 subst ex
 obtain rfl:ov=Value.ref a:=rx
 exact zmN I2 ea hx n ry λdx s3 hd I3=>⟨σ,_,I3,q2 dx hd⟩
end
def spI (K:W.Frag)(m:Nat)(ns:List Str)(g:List V->List (Str × V)):Sp:=λvs H Q _=>∃ a C t ys,vs=.ref a::ys/\ys.length=m/\H a=some (zdg a C t none)/\vy K C/\(∀ f,f∈ns->Wh K C f)/\∀ dx,H dx=none->Q .non (upd (upd H dx (.xd (g ys))) a (zdg a C t (some dx)))
def gI1 (f:Str):List V->List (Str × V):=λys=>[(f,ys.getD 0 .non)]
theorem ziy {K:W.Frag}{m:Nat}{ns:List Str}{g:List V->List (Str × V)}(vs:List V)(H:Hp)(Q:VK)(E:XK)(h:spI K m ns g vs H Q E):vs.length=m+1:=by
 obtain⟨a,C,t,ys,rfl,hl,_⟩:=h
 rw[u0g,hl]
theorem zio {K:W.Frag} {f:Str} {vs:List V} {H:Hp} {Q:VK} {E:XK} {rt:VK} (h:spI K 1 [f] (gI1 f) vs H Q E):sX1 K (zaz 0) (zaz 1) f { nx:=λ_ H'=>Q .non H',rt:=rt } (start ["self",f] vs) H:=by
 obtain⟨a,C,t,ys,rfl,hl,ha,hx,hn,q⟩:=h
 obtain⟨y,rfl⟩:∃ y,ys=[y]:=by
  cases ys with
  | nil=>cases hl
  | cons y r=>cases r with
   | nil=>exact⟨y,rfl⟩
   | cons _ _=>cases hl
 exact⟨y,rfl,.ref a,rfl,a,C,t,rfl,ha,hx,hn f (j9.mpr rfl),λdx hd=>q dx hd⟩
section
variable {X:Cx}{pins:List (Addr × Obj)}{σ:St}{H:Hp}{s:Shared}{ea dx:Addr}{φ:Heap->Prop}
theorem Inv.untrack {H':Hp}(I:Inv X pins σ H s)(he:H ea=some (.ext φ))(h1:H' ea=none)(h2:∀ b,b≠ea->H' b=H b):Inv X pins σ H' s:=by
 have no:∀ b,H b=none->H' b=none:=λb e=>by
  have:b≠ea:=λz=>by(subst z;rw[he]at e;cases e)
  rw[h2 b this];exact e
 have keep:∀ b u,H b=some u->(∀ ψ,u≠.ext ψ)->H' b=some u:=λb u e n=>by
  have:b≠ea:=λz=>by(subst z;rw[he]at e;cases e;exact n _ rfl)
  rw[h2 b this];exact e
 refine⟨I.ok,I.os,I.bare,⟨I.base.keep,I.base.slot,λb o e n hx=>no b (I.base.free b o e n hx),I.base.there,λb xs e=>keep b _ (I.base.tups b xs e) (λ_ z=>by cases z),λb o u e=>keep b _ (I.base.frzs b o u e) (λ_ z=>by cases z),λb ps e=>?_⟩,I.loc,I.cell,no _ I.free,λx c e=>no _ (I.freeC x c e),λp hp=>?_,λb u e=>?_,I.len⟩
 .obtain⟨more,z⟩:=I.base.tbls b ps e
  exact⟨more,keep b _ z λ_ y=>by cases y⟩
 .obtain⟨e,n,r⟩:=I.pin p hp
  exact⟨e,no _ n,r⟩
 .have ne:b≠ea:=λz=>by(subst z;rw[h1]at e;cases e)
  rw[h2 b ne]at e
  exact(I.hok b u e).stay (λ_ _ _ q=>q) (λc hc=>keep c _ hc λ_ z=>by cases z) λc xs hc=>keep c _ hc λ_ z=>by cases z
end
structure zkn (K:W.Frag) (mg:Str->Option Value) (C:Addr) (x:Str) (f:Addr) (ns:List Str):Prop where
 bound:mg x=some (.ref C)
 exc:zj6 K C f=true
 attr:VQ K C=true
 no:∀ n,n∈ns->W.findIn K (.ref C) n=some none
theorem zfv {P:Program}{w:World}{K:W.Frag}{mg:Str->Option Value}{base:Heap}{N:List Str}{qual:Str}{scope:Scope}{f:Addr}{cd:Value}{A:Around}{outer:List Env}{s:Shared}{H:Hp}{E:XK}{C fI:Addr}{fd:FuncData}{x:Str}{np cpos pos:Pos}{ns ps:List Str}{m k:Nat}{g:List V->List (Str × V)}{e:Expr}{es:List Expr}{t:TA}
 (hc:zkn K mg C x fI ns) (F:xC P w K mg base CX0 k fI fd ps (spI K m ns g)) (hb:ZQ K fd ps []) (hr:wB (k+1) (Y6 (Air P w) P w K mg base N qual scope f cd A outer s H E).A) (hg:Gl (Y6 (Air P w) P w K mg base N qual scope f cd A outer s H E) x) (ha:PA (Y6 (Air P w) P w K mg base N qual scope f cd A outer s H E) (e::es) t) (hd:(x == ("__debug__":Str))=false:=by decide)
 (hse:starEach (e::es) (Y6 (Air P w) P w K mg base N qual scope f cd A outer s H E).env=(false,eval e (Y6 (Air P w) P w K mg base N qual scope f cd A outer s H E).env)::starEach es (Y6 (Air P w) P w K mg base N qual scope f cd A outer s H E).env:=by rfl) (hpl:(backTo cpos (starEach es (Y6 (Air P w) P w K mg base N qual scope f cd A outer s H E).env)).any (·.1)=false:=by rfl) :
 PS (Y6 (Air P w) P w K mg base N qual scope f cd A outer s H E) (.Raise (some (.Call (.Name x np) (e::es) [] cpos)) none pos) (λ_ σ H0=>t σ H0 λvs H1=>vs.length=m/\m<=1000/\∀ dx,H1 dx=none->E (.ref C) (some dx) (upd H1 dx (.xd (g vs)))):=by
 let X:=Y6 (Air P w) P w K mg base N qual scope f cd A outer s H E
 intro pins s1 σ H0 D I h
 have I:Inv X pins σ H0 s1:=I
 obtain⟨bm,NN,nm,q,bs,sn,sub,ab,col,dd,k0,k1,k2,k3,k5,mN,oI,hC,hN,hi,T,hf,hfc⟩:=zgT I.ok.mod.kin hc.exc
 refine zcT (C:=C) (nm:=nm) (q:=q) (N:=NN) (bs:=bs) (bm:=bm) (hdct:=true) (sn:=sn) (sub:=sub) (ab:=ab) (col:=col) (dd:=dd) (k0:=k0) (k1:=k1) (k2:=k2) (k3:=k3) (k5:=k5) (mN:=mN) (fI:=fI) (oI:=oI) (T.hasType u3h.hasBase) (I.ok.hd rfl) (by rw[hse];show((false||(backTo cpos (starEach es _)).any (·.1)))=false;rw[hpl];rfl) hi hfc (Xd I hg hc.bound ⟨rfl,?_⟩ hd)
 have hs:=ha cpos pins s1 σ H0 _ I h
 rw[hse]at hs ⊢
 refine PySem.Calls.evalArgs_plain (u0j hs (λus s2 z=>?_) λ_ _ z=>z)
 obtain⟨vs,H1,I2,r,hl,hm,hE⟩:=z
 have I2:Inv X pins σ H1 s2:=I2
 have hul:us.length<=sizeLine:=by rw[<-r.length,hl];exact u0I (vN hm)
 refine⟨rfl,hul,I2.bk _ _ hC,hN.keeps I2.bk,T.keeps I2.bk,I2.bk _ _ hf,?_⟩
 have I3:Inv X pins σ (upd H1 (s2.heap.objs.size+1) (zdg (s2.heap.objs.size+1) C s2.heap.objs.size none)) { s2 with heap:=exH s2.heap C us }:=I2.laid (t':=s2.toks) (λb o z=>ww z) (u25 _) (zev (zh1 _ _ _))
 have hn1:H1 (s2.heap.objs.size+1)=none:=I2.hok.fresh (u25 _)
 let R:VK:=λv H'=>v=.non/\∃ dx,upd H1 (s2.heap.objs.size+1) (zdg (s2.heap.objs.size+1) C s2.heap.objs.size none) dx=none/\H'=upd (upd (upd H1 (s2.heap.objs.size+1) (zdg (s2.heap.objs.size+1) C s2.heap.objs.size none)) dx (.xd (g vs))) (s2.heap.objs.size+1) (zdg (s2.heap.objs.size+1) C s2.heap.objs.size (some dx))
 have hsp:spI K m ns g (.ref (s2.heap.objs.size+1)::vs) (upd H1 (s2.heap.objs.size+1) (zdg (s2.heap.objs.size+1) C s2.heap.objs.size none)) R E0:=⟨_,C,_,vs,rfl,hl,zn,.of hc.attr,hc.no,λdx hdx=>⟨rfl,dx,hdx,rfl⟩⟩
 have r3:yt (V.ref (s2.heap.objs.size+1)::vs) (Value.ref (s2.heap.objs.size+1)::us):=.cons rfl r
 have hl3:(Value.ref (s2.heap.objs.size+1)::us++[]).length=ps.length:=by rw[u0k,<- r3.length];exact F.len _ _ _ _ hsp
 have bd:=hb { s2 with heap:=exH s2.heap C us } (Value.ref (s2.heap.objs.size+1)::us) I3.kIn hl3
 rw[u0k]at bd
 refine u2C (u2g (F.run _ X.stack _ _ ⟨Value.ref (s2.heap.objs.size+1)::us,[]⟩ _ _ R E0 (hr.make C us []) (I3.env0.make C us []) bd r3 hsp) λres s4 z=>?_)
 cases res with
 | error e=>exact z.elim
 | ok fl =>
  cases fl with
  | next=>exact False.elim z
  | brk=>exact False.elim z
  | cont=>exact False.elim z
  | ret u =>
   obtain⟨v,H4,os4,bare4,un4,hok4,rv,rfl,dx,hdx,rfl⟩:=id z
   have J4:Inv X pins σ _ s4:=I3.call' (ch:=[]) os4 un4 hok4 bare4 (λb z=>nomatch z)
   obtain rfl:u=Value.none:=rv
   have ned:s2.heap.objs.size+1≠dx:=λz=>by(subst z;rw[zn]at hdx;cases hdx)
   have hd1:H1 dx=none:=by rw[zm ned.symm]at hdx;exact hdx
   have J5:Inv X pins σ (upd H1 dx (.xd (g vs))) s4:=J4.untrack (ea:=s2.heap.objs.size+1) zn (by rw[zm ned];exact hn1) λb hb=>by
    rw[zm hb]
    unfold upd
    by_cases h2:b=dx
    .rw[q5 h2,q5 h2]
    .rw[j4 h2,j4 h2,j4 hb]
   obtain⟨⟨sl,he4⟩,_⟩:=J4.hok _ _ zn
   refine⟨rfl,_,some dx,sl,J4.bk _ _ hC,he4,?_⟩
   show wpAny (model P w) X.A (leaving X.env (.ref (s2.heap.objs.size+1))) (λ_ s''=>Air P w outer H s E (.ref (s2.heap.objs.size+1)) s'') _ s4
   let B:=W.hideAll s4.heap ((s2.heap.objs.size+1)::frs X.stack)
   have hin:∀ env∈X.stack,∀ a,env.frame=some a->a∈(s2.heap.objs.size+1)::frs X.stack:=λenv he a ha=>.tail _ (u1u.mpr ⟨env,he,ha⟩)
   refine WC (zcV _ _) (wpAny_leaving_firstW (Q:=λ_ s''=>∃ h2,s''={ s4 with heap:=h2 }/\Heap.LeftW B (X.env::outer) (s2.heap.objs.size+1) (.ref C) (.ref s2.heap.objs.size) s4.heap h2) (base:=B) (L:=X.env.locals) (outer:=outer) (J4.ok.frames) (W.funFrames_hide J4.stack hin) rfl he4 (λb o q=>W.of_hideAll _ q) (u2Q _ (.head _)) rfl rfl rfl λh2 y=>⟨h2,rfl,y⟩) ?_
   rintro _ _ ⟨h2,rfl,y1,⟨_,_,y2⟩,y3,y4⟩ dk
   have x1:Heap.FlyingW B outer (s2.heap.objs.size+1) (.ref C) (.ref s2.heap.objs.size) h2:=⟨y1,u2Q _ (.head _),y2,y3⟩
   have nfr:∀ b,b∉frs X.stack->b≠s2.heap.objs.size+1->b∉(s2.heap.objs.size+1)::frs X.stack:=λb h1 h2 z=>(j5.mp z).elim h2 h1
   have cov:Cov X.stack H1 s2.heap (upd H1 dx (.xd (g vs))) s4.heap B:=by
    refine⟨λb o e n hb=>?_,λb o e hb=>?_,λb o hb e=>?_⟩
    .have ne:b≠s2.heap.objs.size+1:=r8 (u0u (t9 e))
     exact u2b _ (un4.keep b o (ww e) (by rw[zm ne];exact n) hb (by simp)) (nfr b hb ne)
    .have ne:b≠s2.heap.objs.size+1:=r8 (u0u (t9 e))
     obtain⟨o',e'⟩:=un4.there b o (ww e) (by simp)
     exact⟨o',u2b _ e' (nfr b hb ne)⟩
    .refine u2b _ e (nfr b (λz=>hb (J5.stkFree b z)) λz=>?_)
     subst z
     exact hb (by rw[zm ned];exact hn1)
   obtain⟨u1,u2,u3⟩:=I2.airUn (X:=X) rfl J5 cov x1.1 x1.2.2.1 y4
   obtain⟨ob,hob,_⟩:=x1.there
   exact⟨_,C,_,some dx,_,B,rfl,J5.os,J5.bare,u1,u2,x1,u3,Xw.stay (h:=s4.heap) ⟨_,he4,rfl⟩ dk ⟨ob,hob⟩,hE dx hd1⟩
end L2
namespace Dl
open PySem L2
variable [KK]
def xRI (enc:List D->Option Nat)(fa:Ev->Option (List D)):SE->Option Nat:=fun ρ=>(fa (visG ρ)).bind enc
def zl0 (c kd:Nat):List D->Option Nat
 | [.int i]=>if -1<=i then some (c+16*kd+64*(i+1).toNat)else none
 | _=>none
def zkI (cl:Nat->Addr)(C:Addr)(m:Nat)(g:List V->List (Str × V))(enc:List D->Option Nat):Prop:=∀ ds j,enc ds=some j->cl j=C/\ds.length=m/\∀ F vs,AtL F ds vs->pay j=some (g vs)
theorem zex {cl:Nat->Addr} {c:Nat} (hcl:∀ j,cl j=cl (j % 16)) (hc:c < 16):zkI cl (cl c) 1 (gI1 "at") (zl0 c 1):=by
 intro ds j e
 unfold zl0 at e
 split at e <;> try cases e
 rename_i i
 split at e <;> cases e
 rename_i hi
 refine⟨by rw[hcl (c+16*1+64*(i+1).toNat)];congr 1;omega,rfl,λF vs a=>?_⟩
 obtain⟨v,r,rfl,a1,a2⟩:=a.cons_inv
 cases a1.int_inv
 cases a2.nil_inv
 have e1:(c+16*1+64*(i+1).toNat) / 16 % 4=1:=by omega
 have e2:(((c+16*1+64*(i+1).toNat) / 64:Nat):Int) - 1=i:=by omega
 unfold pay
 rw[e1]
 show some [(_,V.int _)]=_
 rw[e2]
 rfl
theorem VL {P:Program}{w:World}{K:W.Frag}{mg:Str->Option Value}{base:Heap}{N:List Str}{qual:Str}{scope:Scope}{f:Addr}{cd:Value}{A:Around}{outer:List Env}{s:Shared}{H:Hp}{E:XK}{cl:Nat->Addr}{C fI:Addr}{fd:FuncData}{x:Str}{np cpos pos:Pos}{ns ps:List Str}{m k:Nat}{g:List V->List (Str × V)}{e:Expr}{es:List Expr}{enc:List D->Option Nat}{fa:Ev->Option (List D)}
 (hc:zkn K mg C x fI ns) (F:xC P w K mg base CX0 k fI fd ps (spI K m ns g)) (hb:ZQ K fd ps []) (hen:zkI cl C m g enc) (hr:wB (k+1) (Y6 (Air P w) P w K mg base N qual scope f cd A outer s H E).A) (hg:Gl (Y6 (Air P w) P w K mg base N qual scope f cd A outer s H E) x) (ha:AD (Y6 (Air P w) P w K mg base N qual scope f cd A outer s H E) (e::es) fa) (hm:m<=1000:=by decide) (hd:(x == ("__debug__":Str))=false:=by decide)
 (hse:starEach (e::es) (Y6 (Air P w) P w K mg base N qual scope f cd A outer s H E).env=(false,eval e (Y6 (Air P w) P w K mg base N qual scope f cd A outer s H E).env)::starEach es (Y6 (Air P w) P w K mg base N qual scope f cd A outer s H E).env:=by rfl) (hpl:(backTo cpos (starEach es (Y6 (Air P w) P w K mg base N qual scope f cd A outer s H E).env)).any (·.1)=false:=by rfl) :
 XS E cl (Y6 (Air P w) P w K mg base N qual scope f cd A outer s H E) (.Raise (some (.Call (.Name x np) (e::es) [] cpos)) none pos) (xRI enc fa):=by
 obtain⟨t,pa,ra⟩:=ha
 refine⟨_,zfv hc F hb hr hg pa hd hse hpl,λFb Hb F H ρ σ D' j rl e w=>?_⟩
 obtain⟨ds,e1,e2⟩:=u5.mp e
 obtain⟨ec,el,ep⟩:=hen ds j e2
 refine ra σ _ _ H ds _ rl.gh rl.visG e1 λF' H' vs gr a=>⟨by rw[a.length];exact el,hm,λdx hdx=>?_⟩
 have z:=w F' H' (rl.out gr)
 unfold EJ at z
 rw[ep F' vs a,ec]at z
 exact z dx hdx
def ZN (b:D->SE->Option SE)(gx:SE->Option Nat)(g:SE->Ctl):List D->SE->Option Nat
 | [],_=>none
 | d::ds,ρ=>match b d ρ with
  | none=>none
  | some ρ1=>match gx ρ1 with
   | some j=>some j
   | none=>match g ρ1 with
    | .nx ρ'=>ZN b gx g ds ρ'
    | .ct ρ'=>ZN b gx g ds ρ'
    | _=>none
def zmf (f:Ev->Option (List D))(b:D->SE->Option SE)(gx:SE->Option Nat)(g:SE->Ctl):SE->Option Nat:=fun ρ=>match f (visF ρ) with
 | some ds=>ZN b gx g ds ρ
 | none=>none
theorem zk5 {E:XK}{cl:Nat->Addr}{X:Cx}{tg iter:Expr}{body:List Stmt}{pos:Pos}{f:Ev->Option (List D)}{b:D->SE->Option SE}{gx:SE->Option Nat}{g:SE->Ctl}(hp:PassesOwn (model X.prog X.w) X.A X.env X.xe)(hc:X.calm=true)(hi:ID X tg iter f)(hg:BD X tg b)(hx:XSs E cl X body gx)(hb:SDs X body g)
 (hs:∀ x,foldedSetIterable iter X.env x=pure x:=by intro _;rfl):XS E cl X (.For tg iter body [] pos) (zmf f b gx g):=by
 obtain⟨wi,pi,ri⟩:=hi
 obtain⟨tg',pg,rg⟩:=hg
 obtain⟨t1,p1,r1⟩:=hx
 obtain⟨t2,p2,r2⟩:=hb
 have por:PSs X body (λD σ H=>t1 D σ H\/t2 D σ H):=λpins s σ H D I h=>h.elim (p1 pins s σ H D I) (p2 pins s σ H D I)
 refine⟨_,zbT hp hc pi pg por hs,λFb Hb F H ρ σ D' j rl k w=>?_⟩
 unfold zmf at k
 cases h:f (visF ρ) with
 | none=>rw[h]at k;cases k
 | some ds =>
  rw[h]at k
  refine ri σ _ _ H ds _ rl.gr.fh rl.visF h λF1 H1 J g1 hit=>?_
  have rl0:=rl.grow g1
  refine⟨λi m σ H=>m=ds.length - i/\i<=ds.length/\∃ F ρ,zZ F1 F/\Rl Fb Hb F H ρ σ/\ZN b gx g (ds.drop i) ρ=some j,⟨ds.length,by simp,u0F _,F1,ρ,zZ.refl _,rl0,k⟩,?_⟩
  rintro i m σ H ⟨rfl,hi,F,ρ,s1,rl,k⟩
  obtain⟨stop,go⟩:=hit i F H s1 rl.gr.fh
  by_cases hlt:i < ds.length
  .have hd:ds.drop i=ds[i]::ds.drop (i+1):=u1v hlt
   rw[hd]at k
   unfold ZN at k
   obtain⟨q1,q2⟩:=go ds[i] (by simp[hlt])
   refine .inr ⟨q1,fun σ H=>∃ F ρ,zZ F1 F/\Rl Fb Hb F H ρ σ/\ZN b gx g (ds.drop (i+1)) ρ=some j,fun σ' H' w=>⟨ds.length - (i+1),by omega,rfl,hlt,w⟩,λx H' hy=>?_⟩
   obtain⟨F3,g3,a3⟩:=q2 x H' hy
   cases hbd:b ds[i] ρ with
   | none=>rw[hbd]at k;cases k
   | some ρ1 =>
    rw[hbd]at k
    dsimp only at k
    refine rg Fb Hb F3 H' ρ ρ1 σ _ x _ (rl.grow g3) a3 hbd fun σ2 rl2=>?_
    have s3:=s1.trans g3.ff
    cases hgx:gx ρ1 with
    | some j' =>
     rw[hgx]at k
     cases k
     exact .inl (r1 Fb Hb F3 H' ρ1 σ2 _ j rl2 hgx w)
    | none =>
     rw[hgx]at k
     dsimp only at k
     refine .inr (r2 F1 (hb2 F1 Hb) F3 H' ρ1 σ2 _ (rl2.dn rl0.gr.ff s3) ?_)
     cases hgg:g ρ1 with
     | nx ρ'=>rw[hgg]at k;exact λF4 H4 σ4 r4=>⟨F4,ρ',r4.gr.ff,r4.up rl0.gr,k⟩
     | ct ρ'=>rw[hgg]at k;exact λF4 H4 σ4 r4=>⟨F4,ρ',r4.gr.ff,r4.up rl0.gr,k⟩
     | bk ρ'=>rw[hgg]at k;cases k
     | rt d=>rw[hgg]at k;cases k
     | no=>rw[hgg]at k;cases k
  .have e:i=ds.length:=by omega
   subst e
   rw[u2J]at k
   cases k
end Dl
namespace L2
open PySem PySem.Spec PyProof.Rows
def zkv (s:Stmt)(k:Nat):Stmt:=match s with
 | .ClassDef _ _ _ body _ _ _ _ _ _ _=>body.getD k s
 | _=>s
def zma (K:W.Frag)(C:Addr)(ns:List Str):Bool:=ns.all λn=>W.findIn K (.ref C) n == some none
theorem zbd {K:W.Frag}{C:Addr}{ns:List Str}(h:zma K C ns=true):∀ n,n∈ns->W.findIn K (.ref C) n=some none:=λn hn=>u1G.mp (u0B.mp h n hn)
end L2
namespace Dl
open PySem L2
theorem zln {cl:Nat->Addr}{i:Nat}{c:Int}[KK]:SX cl i (tUn (rU λi=>.int (-i)) (tC (.int c))) (λ_=>some (.int (-c))):=λj d σ H a od Q e es k=>by
 cases e
 exact⟨c,rfl,k H _ (zZ.refl _) λF=>.int⟩
def zic (js:List Nat)(h:Nat->Option D):Nat->Option D:=λj=>if j % 16∈js then h j else none
theorem zix {js:List Nat}{h:Nat->Option D}{j:Nat}{d:D}(e:zic js h j=some d):j % 16∈js:=by
 unfold zic at e
 split at e
 .assumption
 .cases e
theorem zlM {cl:Nat->Addr}{i:Nat}{js:List Nat}{u:TS}{h:Nat->Option D}[KK](r:RU cl i u h):RU cl i u (zic js h):=λj d σ H a od D' e es k=>by
 unfold zic at e
 split at e
 .exact r j d σ H a od D' e es k
 .cases e
end Dl
namespace OwnDk
open PySem
section
variable {prog:Program}{w:World}{A:Around}{E:Value->Shared->Prop}{s:Shared}
theorem VT (hh:A.handled=none)(I a:Addr)(hne:a≠I){ob:Obj}{es:Array DictEntry}{ep:Nat}(hd:ob.data=.dict es ep) :
 Walks prog w A I [I,a] [I] es.size (λi v=>∃ e,es[i]?=some e/\v=e.key) (λi h=>h.IsKeyIter I a i es.size ep/\h.get? a=some ob) where
 sub:=λb hb=>by simp at hb;simp[hb]
 frame:=λ_ _ _ x hk=>⟨x.1.at λo e=>hk I (by simp) o e,hk a (by simp) _ x.2⟩
 item:=λi s Q E hi x hQ=>by
  have hx:es[i]?=some (es[i]'hi):=p7 _
  refine L2.raw_next x.1 x.2 hd hx λh' he' hs'=>?_
  exact hQ _ h' s.toks ⟨_,hx,rfl⟩ ⟨he',(hs'.2 a hne).trans x.2⟩ λb o hb eo=>hs'.extBut b o (λh=>hb (by simp[h])) eo
 done:=λs Q E x hQ=>L2.raw_end hh x.1 x.2 hd (j3 _) λh' he'=>hQ h' s.toks λb o hb eo=>he' b o (λh=>hb (by simp[h])) eo
 self:=λ_ _ _ _ x hQ=>wpAny_pyIter_keyiter x.1 hQ
theorem ZI {a:Addr}{ob:Obj}{es:Array DictEntry}{ep:Nat}{Q:List Value->Shared->Prop}(hh:A.handled=none)(hs:(a == sysModules)=false)(hS:s.heap.get? a=some ob)(hc:ob.ExactDict)(hd:ob.data=.dict es ep)(h8:es.size<=sizeLine)
 (hQ:∀ s',(∀ b o,s.heap.get? b=some o->s'.heap.get? b=some o)->s'.gens=s.gens->s'.drawn=s.drawn->s'.os=s.os->Q (es.toList.map (·.key)) s'):wpAny (model prog w) A (collect (.ref a)) Q E s:=by
 have hlt:a < s.heap.objs.size:=t9 hS
 have hSa:s.heap.objs.size≠a:=u1T hlt
 unfold collect
 refine u0 (u3w (u1b F.entry_proto_collect ?_))
 rw[u03 F.plain_proto_collect _]
 show wpAny _ A.in1 (newList []>>=λl=>again (.builtin "list.__iadd__" ⟨[l,.ref a],[]⟩)) _ _ s
 refine u0 (u0c ?_)
 refine u6 ⟨u11 u2x _,u1b F.entry_list_iadd ?_⟩
 rw[u03 u2x _]
 have hS1:(s.heap.push { cls:=.type "list",data:=.seq ([]:List Value).toArray }).get? a=some ob:=u4 _ hS
 have hL1:(s.heap.push { cls:=.type "list",data:=.seq ([]:List Value).toArray }).get? s.heap.objs.size=some { cls:=.type "list",data:=.seq ([]:List Value).toArray }:=j7 _ rfl
 generalize hh1:s.heap.push { cls:=.type "list",data:=.seq ([]:List Value).toArray }=h1 at hS1 hL1 ⊢
 have k1:∀ b o,s.heap.get? b=some o->h1.get? b=some o:=λb o e=>by rw[<-hh1];exact u4 _ e
 have hz1:h1.objs.size=s.heap.objs.size+1:=by rw[<-hh1];exact u0Q ..
 show wpAny _ A.in1 (Builtin.List.listExtendWith (.ref s.heap.objs.size) (.ref a) (.ref s.heap.objs.size)) _ _ _
 unfold Builtin.List.listExtendWith
 refine u0 (u1I (T:="dict") ⟨_,hS1,hc.1⟩ ?_)
 have g1:Builtin.List.listSameRef (.ref s.heap.objs.size) (.ref a)=false:=by simp[Builtin.List.listSameRef,hSa]
 have g2:(Value.type "dict" == Value.type "list")=false:=by decide
 have g3:(Value.type "dict" == Value.type "tuple")=false:=by decide
 simp only[g1,g2,g3,Bool.or_false,u0x,u18]
 refine u0 (L2.raw_iter hs hS1 hc hd ?_)
 have hI2:(h1.push { cls:=.type "dict_keyiterator",data:=.fields #[.ref a,.int 0 0,.int es.size 0,.int ep 0] }).IsKeyIter h1.objs.size a 0 es.size ep:=⟨_,j7 _ rfl,rfl,rfl⟩
 have hS2:(h1.push { cls:=.type "dict_keyiterator",data:=.fields #[.ref a,.int 0 0,.int es.size 0,.int ep 0] }).get? a=some ob:=u4 _ hS1
 have hL2:=u4 { cls:=.type "dict_keyiterator",data:=.fields #[.ref a,.int 0 0,.int es.size 0,.int ep 0] } hL1
 generalize hh2:h1.push { cls:=.type "dict_keyiterator",data:=.fields #[.ref a,.int 0 0,.int es.size 0,.int ep 0] }=h2 at hI2 hS2 hL2 ⊢
 have k2:∀ b o,h1.get? b=some o->h2.get? b=some o:=λb o e=>by rw[<-hh2];exact u4 _ e
 refine u0 (i5 (PySem.W.kdl_hint_dict ⟨_,hS2,hc.1⟩ ?_))
 show wpAny _ A.in1 (if true=true then _ else _) _ _ _
 rw[q5 rfl]
 refine u0 (u2h (u0 ?_))
 show wpAny _ A.in1 (updateSeq s.heap.objs.size (·.push .none)>>=λ_=>updateSeq s.heap.objs.size (·.pop)) _ _ _
 refine u0 (u3c hL2 rfl ?_)
 have hL3:=p9 (Obj.mapSeq (·.push Value.none)) hL2 rfl
 refine u3c (hz:=by seq_fits) hL3 rfl ?_
 have hL4:=p9 (Obj.mapSeq (·.pop)) hL3 rfl
 have oth:∀ b o,b≠s.heap.objs.size->h2.get? b=some o->((h2.update s.heap.objs.size (Obj.mapSeq (·.push Value.none))).update s.heap.objs.size (Obj.mapSeq (·.pop))).get? b=some o :=
  λb o hb e=>(u0d _ _ (u0P hb)).trans ((u0d _ _ (u0P hb)).trans e)
 have hIne:h1.objs.size≠s.heap.objs.size:=by rw[hz1];exact Nat.succ_ne_self _
 have hIa:a≠h1.objs.size:=by rw[hz1];exact r8 (u0u hlt)
 have W:=VT (prog:=prog) (w:=w) (A:=A.in1) hh h1.objs.size a hIa hd
 refine u6 ⟨u11 F.plain_extend_loop _,codeAny_extend_loopS W.toS h8 _ (λhmem=>?_) _ es.size 0 _ #[] _ rfl (u0F _) ⟨hI2.at λo e=>oth _ _ hIne e,oth _ _ (u0P hSa) hS2⟩ hL4 (ItemsOf.nil _) λs' acc' c' hmv hS' hacc=>?_⟩
 .rcases j5.mp hmem with e | e
  .exact hIne e.symm
  .exact hSa (j9.mp e)
 .show wpAny _ A (load s.heap.objs.size>>=_) _ _ s'
  refine u0 (wpAny_load hS' ?_)
  refine u6 ?_
  have e1:acc'.toList=es.toList.map (·.key):=by
   apply u3A
   intro i
   by_cases hi:i < es.size
   .have q1:acc'[i]?=some (acc'[i]'(by rw[hacc.1];exact hi)):=p7 _
    obtain⟨e,q2,q3⟩:=hacc.2 i _ q1
    rw[d6,h9,h9,q1,q2,q3]
    rfl
   .rw[u1t (by rw[t7,hacc.1];exact u0K hi),u1t (by rw[u7,t7];exact u0K hi)]
  rw[e1]
  refine hQ s' (λb o e=>hmv.heap b o (λhmem=>?_) (oth b o (r8 (t9 e)) (k2 b o (k1 b o e)))) hmv.gens hmv.drawn hmv.os
  rcases j5.mp hmem with z | z
  .exact r8 (t9 e) z
  .have:=t9 e
   rw[j9.mp z,hz1]at this
   exact absurd (u3D this) (u0y _)
theorem own_sorted_dict {a:Addr}{ob:Obj}{es:Array DictEntry}{ep:Nat}{Q:Value->Shared->Prop}(hh:A.handled=none)(hs:(a == sysModules)=false)(hS:s.heap.get? a=some ob)(hc:ob.ExactDict)(hd:ob.data=.dict es ep)(h64:es.size < 64)(hT:∀ v∈es.toList.map (·.key),∃ t,OwnSortT.TT s.heap v t)
 (h:∀ (h1 h':Heap) (tk':Nat) (out:Array Value) (c:Nat),out.toList.Perm (es.toList.map (·.key))->OwnSortT.Rise s.heap out.toList->(∀ b o,s.heap.get? b=some o->h1.get? b=some o)->(∀ b o,h1.get? b=some o->h'.get? b=some o) ->
  h'.get? h1.objs.size=some { cls:=.type "list",dict:=none,data:=.seq out c,slots:=#[] }->Q (.ref h1.objs.size) { s with heap:=h',toks:=tk' }) :
 wpAny (model prog w) A (call (.builtin "sorted") [.ref a]) Q E s:=by
 refine u14 u3G u3s u3r (u3q _) ?_
 unfold Builtin.«sorted»
 refine u0 (m:=checkCount "sorted" 1 1 _) (u6 (u0 (ZI hh hs hS hc hd (i4 (u0I h64) (by rw[u1n];decide)) λs' k g1 g2 g3=>?_)))
 obtain⟨h1,g',d',tk1,os'⟩:=s'
 have e1:g'=s.gens:=g1
 have e2:d'=s.drawn:=g2
 have e3:os'=s.os:=g3
 subst e1 e2 e3
 have h64:(es.toList.map (·.key)).length < 64:=by rw[u7,t7];exact h64
 generalize es.toList.map (·.key)=vs at *
 refine u0 (u3Q ?_)
 have hoL:(h1.push (PyProof.Rows.seqObj "list" vs.toArray 0)).get? h1.objs.size=some (PyProof.Rows.seqObj "list" vs.toArray 0):=j7 _ rfl
 have up:∀ b o,s.heap.get? b=some o->(h1.push (PyProof.Rows.seqObj "list" vs.toArray 0)).get? b=some o:=λb o e=>u4 _ (k b o e)
 refine u0 (i5 (i7 u28 ⟨_,hoL,rfl⟩ u2U (OwnSortT.ownT_list_sort hoL (λv hv=>let ⟨t,ht⟩:=hT v hv;⟨t,ht.keep up⟩) h64 λout p1 p2=>⟨_,rfl,?_⟩) (u27 _)))
 have rise:OwnSortT.Rise s.heap out.toList:=by
  obtain⟨ts,q1,q2,q3⟩:=p2
  refine⟨ts,q1,λi v t hv ht=>?_,q3⟩
  obtain⟨t0,ht0⟩:=hT v (p1.mem_iff.mp (b6 hv))
  rw[(q2 i v t hv ht).uniq (ht0.keep up)]
  exact ht0
 have hn:∀ b o,b≠h1.objs.size->(h1.push (PyProof.Rows.seqObj "list" vs.toArray 0)).get? b=some o->(PyProof.Rows.sortedHeap (h1.push (PyProof.Rows.seqObj "list" vs.toArray 0)) h1.objs.size vs out).get? b=some o:=λb o hb e=>by
  unfold PyProof.Rows.sortedHeap
  exact(u0d _ _ (u0P hb)).trans (u4 _ (u4 _ ((u0d _ _ (u0P hb)).trans e)))
 have hL:∃ c,(PyProof.Rows.sortedHeap (h1.push (PyProof.Rows.seqObj "list" vs.toArray 0)) h1.objs.size vs out).get? h1.objs.size=some { cls:=.type "list",dict:=none,data:=.seq out c,slots:=#[] }:=by
  unfold PyProof.Rows.sortedHeap
  have u1:=p9 (Obj.mapSeq λ_=>(#[]:Array Value)) hoL rfl
  have u2:=u4 (PyProof.Rows.seqObj "list" #[] 0) (u4 (PyProof.Rows.seqObj "tuple" vs.toArray 0) u1)
  exact⟨_,p9 (Obj.mapSeq λ_=>out) u2 rfl⟩
 obtain⟨c,hL⟩:=hL
 exact u6 ⟨_,rfl,h h1 _ _ out c p1 rise k (λb o e=>hn b o (r8 (t9 e)) (u4 _ e)) hL⟩
end
end OwnDk
namespace Dl
open PySem L2
def zhp:List Key->Option (List Int)
 | []=>some []
 | .inl i::r=>(zhp r).map (i::·)
 | _=>none
def VC:List (List Key)->Option (List (List Int))
 | []=>some []
 | k::ks=>match zhp k with
  | some (i::t)=>(VC ks).map ((i::t)::·)
  | _=>none
theorem zgg:∀ {k:List Key} {t:List Int},zhp k=some t->k=t.map Sum.inl:=by
 intro k
 induction k with
 | nil=>intro t h;cases h;rfl
 | cons a k ih =>
  intro t h
  cases a with
  | inl i =>
   obtain⟨r,e,rfl⟩:=u9.mp h
   rw[ih e]
   rfl
  | inr x=>cases h
theorem zfY:∀ {ks:List (List Key)} {ts:List (List Int)},VC ks=some ts->ks=ts.map (λt=>t.map Sum.inl)/\∀ t∈ts,t≠[]:=by
 intro ks
 induction ks with
 | nil=>intro ts h;cases h;exact⟨rfl,λt h=>by cases h⟩
 | cons k ks ih =>
  intro ts h
  unfold VC at h
  split at h
  .rename_i i t e
   obtain⟨r,e2,rfl⟩:=u9.mp h
   obtain⟨h1,h2⟩:=ih e2
   refine⟨by rw[h1,zgg e];rfl,λu hu=>?_⟩
   rcases j5.mp hu with rfl | hu
   .exact List.cons_ne_nil _ _
   .exact h2 u hu
  .cases h
def zjK (t:List Int):List (List Int)->List (List Int)
 | []=>[t]
 | u::us=>if HT.lexLt u t=true then u::zjK t us else t::u::us
def vA:List (List Int)->List (List Int)
 | []=>[]
 | t::ts=>zjK t (vA ts)
theorem V7 (t:List Int):∀ us:List (List Int),(zjK t us).Perm (t::us):=by
 intro us
 induction us with
 | nil=>exact u0Y _
 | cons u us ih =>
  unfold zjK
  split
  .exact(ih.cons u).trans (List.Perm.swap _ _ _)
  .exact u0Y _
theorem vt:∀ ts:List (List Int),(vA ts).Perm ts:=by
 intro ts
 induction ts with
 | nil=>exact u0Y _
 | cons t ts ih=>exact(V7 t _).trans (ih.cons t)
theorem zeY (t:List Int):∀ us:List (List Int),us.Pairwise (λa b=>HT.lexLt b a=false)->(zjK t us).Pairwise λa b=>HT.lexLt b a=false:=by
 intro us
 induction us with
 | nil=>intro _;exact u2l _ _
 | cons u us ih =>
  intro h
  rw[u00]at h
  unfold zjK
  by_cases c:HT.lexLt u t=true
  .rw[q5 c]
   refine u00.mpr ⟨λv hv=>?_,ih h.2⟩
   rcases j5.mp ((V7 t us).mem_iff.mp hv)with rfl | hv
   .cases e:HT.lexLt v u with
    | false=>rfl
    | true =>
     have:=OwnSortT.lex_trans _ _ _ c e
     rw[OwnSortT.lex_irr]at this
     cases this
   .exact h.1 v hv
  .rw[j4 c]
   have c:HT.lexLt u t=false:=by cases e:HT.lexLt u t with
    | false=>rfl
    | true=>exact absurd e c
   refine u00.mpr ⟨λv hv=>?_,u00.mpr h⟩
   rcases j5.mp hv with rfl | hv
   .exact c
   .cases e:HT.lexLt v t with
    | false=>rfl
    | true =>
     rcases OwnSortT.lex_neg v u t e with z | z
     .rw[h.1 v hv]at z;cases z
     .rw[c]at z;cases z
theorem Xp:∀ ts:List (List Int),(vA ts).Pairwise λa b=>HT.lexLt b a=false:=by
 intro ts
 induction ts with
 | nil=>exact List.Pairwise.nil
 | cons t ts ih=>exact zeY t _ ih
theorem zbf {ts us:List (List Int)}(p:us.Perm ts)(h:us.Pairwise λa b=>HT.lexLt b a=false):us=vA ts :=
 u1C (le:=λa b=>HT.lexLt b a=false) (λa b _ _ h1 h2=>OwnSortT.lex_total _ _ h2 h1) h (Xp ts) (p.trans (vt ts).symm)
def zlK (t:List Int):D:=.tup (t.map .int)
def zce:List D->Option (List D)
 | [.dct _ true ks _]=>if ks.length < 64 then (VC ks).map λts=>(vA ts).map zlK else none
 | _=>none
variable [KK]
section
variable {X:Cx}{e:Expr}{pos:Pos}
theorem Gr.seeL {H:Hp}:∀ {F:Hp} (bs:List (Addr × List V)),zZ F H->(∀ b∈bs,H b.1=some (.tup b.2))->∃ F',Gr F H F' H/\∀ b∈bs,F' b.1=some (.tup b.2):=by
 intro F bs
 induction bs generalizing F with
 | nil=>intro s _;exact⟨F,.refl s,λb h=>by cases h⟩
 | cons b bs ih =>
  intro s h
  obtain⟨F1,g1,e1⟩:=Gr.see s (h b g9)
  obtain⟨F2,g2,e2⟩:=ih g1.fh λc hc=>h c (b0 _ hc)
  refine⟨F2,g1.trans g2,λc hc=>?_⟩
  rcases j5.mp hc with rfl | hc
  .exact g2.ff _ _ e1
  .exact e2 c hc
theorem zai (hc:X.calm=true):vH X (.builtin "sorted") (λxs H Q=>∃ F a z ks ys ts,xs=[.ref a]/\zZ F H/\X0 F a z true ks ys/\ks.length < 64/\VC ks=some ts/\∀ l zs F',H l=none->Gr F H F' H->AtL F' ((vA ts).map zlK) zs->Q (.ref l) (upd H l (.lst zs))):=by
 intro pins s σ H xs us Q I r h
 obtain⟨F,a,z,ks,ys,ts,rfl,sm,hd,h64,hk,q⟩:=h
 obtain⟨u,rfl,ru⟩:=WN r
 cases ru
 obtain⟨rfl,hne⟩:=zfY hk
 rw[u7]at h64
 obtain⟨u,hu,hz⟩:=hd.mono sm
 unfold VM at hu
 rw[q5 rfl]at hu
 obtain⟨kvs,rfl,hks,-⟩:=hu
 have ok:yk X.prog X.w H s.heap a (.dT kvs):=by
  cases z with
  | true=>rw[q5 rfl]at hz;obtain⟨ob,e⟩:=hz;exact(show yk X.prog X.w H s.heap a (.frz ob (.dT kvs))from I.hok a _ e).2
  | false=>rw[j4 u8]at hz;exact I.hok a _ hz
 obtain⟨_,sys,xs,pr,o,es,ep,e1,ex,dt,he,nd⟩:=ok
 have hp:=u3M pr
 have hkl:kvs.length=ts.length:=by have:=u0M List.length hks;rw[u7,u7]at this;exact this
 have hkeys:es.toList.map (·.key)=xs.map λq=>Value.ref q.2.1:=by rw[he,u0H];rfl
 have hsz:es.size < 64:=by rw[<-t7,he,u7];omega
 have rel:∀ {l:List (List Key × V)} {m:List (List Key × Addr × Value)},Paired (λp q=>p.1=q.1/\H q.2.1=some (.tup (p.1.map kV))/\yH p.2 q.2.2) l m->∀ (j:Nat) (h1:j < l.length) (h2:j < m.length),l[j].1=m[j].1/\H m[j].2.1=some (.tup (l[j].1.map kV)):=λ{l m} r=>by
  induction r with
  | nil=>intro j h1;simp at h1
  | cons h t ih =>
   intro j h1 h2
   cases j with
   | zero=>exact⟨h.1,h.2.1⟩
   | succ j=>exact ih j (by simpa using h1) (by simpa using h2)
 have atJ:∀ (j:Nat) (h1:j < ts.length) (h2:j < xs.length),H xs[j].2.1=some (.tup (ts[j].map V.int)):=λj h1 h2=>by
  have h3:j < kvs.length:=by omega
  obtain⟨-,r2⟩:=rel pr j h3 h2
  have e3:kvs[j].1=ts[j].map Sum.inl:=by
   have:=u0M (λl=>l[j]?) hks
   simp only[d6]at this
   rw[r9 h3,r9 h1]at this
   exact u0m this
  rw[r2,e3,u0H]
  rfl
 have look:∀ {v:Value},v∈(xs.map λq=>Value.ref q.2.1)->∃ b t,v=.ref b/\t∈ts/\H b=some (.tup (t.map V.int))/\OwnSortT.TT s.heap v t:=λ{v} hv=>by
  obtain⟨j,hj,rfl⟩:=u05 hv
  rw[u7]at hj
  have hj2:j < ts.length:=by omega
  have hb:=atJ j hj2 hj
  rw[u1d]
  obtain⟨us,ru,⟨o,ho,hcl,n,hd⟩,_⟩:=I.tuple (SqT.of hb)
  exact⟨xs[j].2.1,ts[j],rfl,u0e hj2,hb,xs[j].2.1,o,n,us,rfl,ho,hcl,hd,wU ru,hne _ (u0e hj2)⟩
 refine OwnDk.own_sorted_dict (I.ok.hd hc) sys e1 ex dt hsz (λv hv=>by rw[hkeys]at hv;obtain⟨b,t,-,-,-,ht⟩:=look hv;exact⟨t,ht⟩) λh1 h' tk out c pm ri k1 k2 hL=>?_
 rw[hkeys]at pm
 obtain⟨us,l1,l2,l3⟩:=ri
 have zsOf:∀ (ws:List Value) (vs:List (List Int)),ws.length=vs.length->(∀ w∈ws,w∈xs.map λq=>Value.ref q.2.1)->(∀ (i:Nat) v t,ws[i]?=some v->vs[i]?=some t->OwnSortT.TT s.heap v t)->∃ bs:List (Addr × List Int),bs.map (·.2)=vs/\yt (bs.map λb=>V.ref b.1) ws/\∀ b∈bs,H b.1=some (.tup (b.2.map V.int)):=by
  intro ws
  induction ws with
  | nil =>
   intro vs hl _ _
   cases vs with
   | nil=>exact⟨[],rfl,.nil,λb h=>by cases h⟩
   | cons _ _=>simp at hl
  | cons w ws ih =>
   intro vs hl hm ht
   cases vs with
   | nil=>simp at hl
   | cons t vs =>
    obtain⟨bs,z0,z1,z2⟩:=ih vs (by simpa using hl) (λw' hw'=>hm w' (b0 _ hw')) (λi v t h1 h2=>ht (i+1) v t (by simpa using h1) (by simpa using h2))
    obtain⟨a,t',rfl,_,ha,htp⟩:=look (hm w g9)
    have et:t'=t:=htp.uniq (ht 0 _ t rfl rfl)
    subst et
    exact⟨(a,t')::bs,by rw[i8,z0],.cons rfl z1,λb hb=>by
     rcases j5.mp hb with rfl | hb
     .exact ha
     .exact z2 b hb⟩
 obtain⟨bs,z0,z1,z2⟩:=zsOf out.toList us l1 (λw hw=>pm.mem_iff.mp hw) l2
 have keysPerm:us.Perm ts:=by
  have kv:∀ (ws:List Value) (vs:List (List Int)),ws.length=vs.length->(∀ (i:Nat) v t,ws[i]?=some v->vs[i]?=some t->OwnSortT.TT s.heap v t)->vs=ws.map λv=>(OwnSortT.keyTT s.heap v).getD []:=by
   intro ws
   induction ws with
   | nil=>intro vs hl _;cases vs with
    | nil=>rfl
    | cons _ _=>simp at hl
   | cons w ws ih =>
    intro vs hl ht
    cases vs with
    | nil=>simp at hl
    | cons t vs =>
     rw[i8,OwnSortT.keyTT_of (ht 0 w t rfl rfl),<- ih vs (by simpa using hl) λi v t h1 h2=>ht (i+1) v t (by simpa using h1) (by simpa using h2)]
     rfl
  rw[kv _ _ l1 l2,kv (xs.map λq=>Value.ref q.2.1) ts (by rw[u7];omega) λi v t h1 h2=>?_]
  .exact pm.map _
  .obtain⟨hi,e2⟩:=t6.mp h1
   obtain⟨hi2,e3⟩:=t6.mp h2
   rw[u7]at hi
   have hb:=atJ i hi2 hi
   rw[e3]at hb
   obtain⟨us',ru',⟨o,ho,hcl,n,hd⟩,_⟩:=I.tuple (SqT.of hb)
   exact⟨xs[i].2.1,o,n,us',by rw[<-e2,u1d],ho,hcl,hd,wU ru',hne t (by rw[<-e3];exact u0e hi2)⟩
 have e3:=zbf keysPerm l3
 subst e3
 obtain⟨F',g,hF⟩:=Gr.seeL (bs.map λb=>(b.1,b.2.map V.int)) sm λb hb=>by
  obtain⟨c,hc,rfl⟩:=u0b.mp hb
  exact z2 c hc
 have az:AtL F' ((vA ts).map zlK) (bs.map λb=>V.ref b.1):=by
  rw[<-z0]
  clear z0 z1 pm l1 l2
  induction bs with
  | nil=>exact .nil
  | cons b bs ih=>exact .cons (.tup (hF (b.1,b.2.map V.int) (u0b.mpr ⟨b,g9,rfl⟩)) (.ints _)) (ih (λc hc=>z2 c (b0 _ hc)) (λc hc=>by
   obtain⟨d,hd,rfl⟩:=u0b.mp hc
   exact hF _ (u0b.mpr ⟨d,b0 _ hd,rfl⟩)))
 have I2:Inv X pins σ H { s with heap:=h1,toks:=tk }:=I.kept λb u e=>k1 b u e
 have hlo:(bs.map λb=>V.ref b.1).length<=sizeLine:=by
  have hh:bs.length=(vA ts).length:=by rw[<-z0,u7]
  rw[u7,hh,(vt ts).length_eq,u1n]
  omega
 exact⟨.ref h1.objs.size,_,I2.laid (t':=tk) (λb o e=>k2 b o e) (j3 _) (show yk X.prog X.w _ h' _ (.lst (bs.map λb=>V.ref b.1)) from⟨hlo,out.toList,c,z1,by simpa using hL⟩),rfl,q _ _ F' (I2.hok.fresh (j3 _)) g az⟩
theorem zcK {p:Pos} {f:Ev->Option (List D)} (hc:X.calm=true) (hgl:Gl X "sorted") (hm:X.mg "sorted"=none) (ha:AD X [e] f)
 (he:starEach [e] X.env=(false,eval e X.env)::starEach [] X.env:=by rfl) (hpl:(backTo pos (starEach [] X.env)).any (·.1)=false:=by rfl):FL X (.Call (.Name "sorted" p) [e] [] pos) (fFn zce f):=by
 obtain⟨t,pa,ra⟩:=ha
 refine⟨_,zX (zai hc) hgl hm Xm pa (by decide) (by decide) he hpl,fun σ ρ F H z Q s va e q=>?_⟩
 obtain⟨ds,e1,e2⟩:=u5.mp e
 refine ra σ ρ F H ds _ s va e1 λF1 H1 vs g1 a1=>?_
 have e2':=e2
 unfold zce at e2'
 split at e2'
 .rename_i z' ks ws
  split at e2' <;> try cases e2'
  rename_i h64
  obtain⟨ts,e3,rfl⟩:=u9.mp e2'
  obtain⟨x,r,rfl,ax,ar⟩:=a1.cons_inv
  cases ar.nil_inv
  obtain⟨p,ys,rfl,hx,bl⟩:=ax.dct_inv
  refine⟨F1,p,z',ks,ys,ts,rfl,g1.fh,hx,(by omega),e3,λl zs F' hl g az=>?_⟩
  have g2:=g1.trans g
  exact q _ _ _ _ (g2.trans (Gr.hide g2.fh hl _)) (zbl g2 hl) (g2.fh.free hl) zn az
 .cases e2'
end
end Dl
namespace Dl
open PySem L2
def b3:D->Option (List (Option D))
 | .tup [x,y,z]=>some [some x,some y,some z]
 | _=>none
end Dl
namespace Dl
open PySem L2
variable [KK]
theorem edv {X:Cx} (i:Nat) {x:Str} {pos:Pos} (hN:X.N[i]?=some x:=by rfl) (hv:Vis X.env.scope x:=by first | exact Or.inl rfl | exact Or.inr (Or.inl rfl) | exact Or.inr (Or.inr rfl)) (hd:(x == ("__debug__":Str))=false:=by decide)
 (hcd:(x == ("__classdict__":Str))=false:=by decide):ED X (.Name x pos) (zg i):=zk0 i (pv i hN hv hd hcd)
theorem zo {X:Cx}{x:Str}{j k m:Nat}{f:Addr}{fd:FuncData}{ps:List Str}{st:Stmt}{p:List D->Option D}{e:Expr}{es:List Expr}{pp pos:Pos}{fa:Ev->Option (List D)}(F:xC X.prog X.w X.K X.mg X.base CX0 j f fd ps (spD m p))(hr:wB k X.A)(hg:Gl X x)(d:Def X.K X.mg x st ps f fd)
 (ha:AD X (e::es) fa) (hj:j<=k:=by decide) (hdb:(x == ("__debug__":Str))=false:=by decide) (he:starEach (e::es) X.env=(false,eval e X.env)::starEach es X.env:=by rfl) (hpl:(backTo pos (starEach es X.env)).any (·.1)=false:=by rfl) :
 ED X (.Call (.Name x pp) (e::es) [] pos) (zv m p fa):=zeG (F.mono hj) hr hg d.at_ d.kp d.bd ha hdb he hpl
end Dl
namespace OwnSetP
open PySem
def hs (c:Nat):Int:=reduceHash (Builtin.Tuple.tupleHashOf [hashInt ((c / 8:Nat):Int),hashInt ((c % 8:Nat):Int)])
theorem zg8:((List.range 64).map hs).Nodup:=by decide +kernel
theorem zfA {a b:Nat}(ha:a < 64)(hb:b < 64)(h:hs a=hs b):a=b:=by
 have nd:=u0X.mp zg8
 rcases u1Z a b with l | e | l
 .have:=i9.mp nd a b (by rw[u0q];omega) (by rw[u0q];omega) l
  rw[u1c,u1c]at this
  exact absurd h this
 .exact e
 .have:=i9.mp nd b a (by rw[u0q];omega) (by rw[u0q];omega) l
  rw[u1c,u1c]at this
  exact absurd h.symm this
def zdc (mask:Nat):Nat->Nat->Nat->Nat->Nat->Nat
 | 0,_,_,_,_=>0
 | n+1,j,more,i,pt=>(if more > 0 then zdc mask n (j+1) (more - 1) i pt else zdc mask n (SetTable.leap mask i pt).1 (SetTable.runEnd mask (SetTable.leap mask i pt).1 - (SetTable.leap mask i pt).1) (SetTable.leap mask i pt).1 (SetTable.leap mask i pt).2) ||| 1 <<< j
def zjP (mask:Nat):Nat->Nat->Nat->Nat
 | 0,_,_=>0
 | n+1,i,pt=>zjP mask n (SetTable.leap mask i pt).1 (SetTable.leap mask i pt).2 ||| (2 ^ (SetTable.runEnd mask i+1 - i) - 1) <<< i
def Ve (mask:Nat)(h:Int):Bool:=zjP mask (SetTable.turns mask) (SetTable.bits h % (mask+1)) (SetTable.bits h) &&& (2 ^ (mask+1) - 1) == 2 ^ (mask+1) - 1
theorem zjB:∀ c:_root_.Fin 64,Ve 7 (hs c.val)=true/\Ve 31 (hs c.val)=true/\Ve 127 (hs c.val)=true:=by decide +kernel
theorem zbO {a b x:Nat}:(a ||| b).testBit x=true↔a.testBit x=true\/b.testBit x=true:=by rw[u4e,u1P]
theorem zdL {mask x:Nat}:∀ (a b j more i pt:Nat),a<=b->(zdc mask a j more i pt).testBit x=true->(zdc mask b j more i pt).testBit x=true:=by
 intro a
 induction a with
 | zero =>
  intro b j more i pt _ h
  have h:(0:Nat).testBit x=true:=h
  rw[u2L]at h
  cases h
 | succ a ih =>
  intro b j more i pt hb h
  obtain⟨b,rfl⟩:∃ c,b=c+1:=⟨b - 1,by omega⟩
  unfold zdc at h ⊢
  rw[zbO]at h ⊢
  refine h.imp_left λh=>?_
  by_cases c:more > 0
  .rw[q5 c]at h ⊢;exact ih _ _ _ _ _ (by omega) h
  .rw[j4 c]at h ⊢;exact ih _ _ _ _ _ (by omega) h
theorem zcS {mask x:Nat}(f i pt:Nat):∀ m j:Nat,((j<=x/\x<=j+m)\/(zdc mask f (SetTable.leap mask i pt).1 (SetTable.runEnd mask (SetTable.leap mask i pt).1 - (SetTable.leap mask i pt).1) (SetTable.leap mask i pt).1 (SetTable.leap mask i pt).2).testBit x=true)->(zdc mask (f+m+1) j m i pt).testBit x=true:=by
 intro m
 induction m with
 | zero =>
  intro j h
  unfold zdc
  rw[zbO,j4 (u0y 0)]
  refine h.symm.imp id λh=>?_
  rw[u3E,u26]
  exact j8 (by omega)
 | succ m ih =>
  intro j h
  rw[show f+(m+1)+1=(f+m+1)+1 by omega]
  unfold zdc
  rw[zbO,q5 (u2E m)]
  by_cases c:x=j
  .right
   rw[u3E,u26]
   exact j8 c.symm
  .left
   exact ih (j+1) (h.imp_left λh=>by omega)
theorem zlc {mask x:Nat}:∀ n i pt:Nat,(zjP mask n i pt).testBit x=true->(zdc mask (10*n) i (SetTable.runEnd mask i - i) i pt).testBit x=true:=by
 intro n
 induction n with
 | zero =>
  intro i pt h
  have h:(0:Nat).testBit x=true:=h
  rw[u2L]at h
  cases h
 | succ n ih =>
  intro i pt h
  unfold zjP at h
  rw[zbO]at h
  have hm:SetTable.runEnd mask i - i<=9/\i<=SetTable.runEnd mask i:=by unfold SetTable.runEnd;split <;> omega
  refine zdL (10*n+(SetTable.runEnd mask i - i)+1) _ _ _ _ _ (by omega) (zcS (10*n) i pt _ i ?_)
  rcases h with h | h
  .exact .inr (ih _ _ h)
  .left
   rw[Nat.testBit_shiftLeft,p4,u1U]at h
   have h1:=d8 h.1
   have h2:=d8 h.2
   omega
theorem zbW {mask m j:Nat}(h:(m &&& (2 ^ (mask+1) - 1) == 2 ^ (mask+1) - 1)=true)(hj:j<=mask):m.testBit j=true:=by
 have e:(m &&& (2 ^ (mask+1) - 1)).testBit j=true:=by
  rw[eq_of_beq h,u1U]
  exact j8 (by omega)
 rw[Nat.testBit_and,p4]at e
 exact e.1
theorem Xl (j:Nat):SetTable.has #[] j=false:=rfl
theorem YF {t:SetTable}{j i:Nat}(h:t.slot j=.live i):t.place[i]?=some j:=by
 unfold SetTable.slot at h
 dsimp only at h
 split at h
 .rename_i c
  cases h
  exact eq_of_beq c
 .split at h <;> cases h
theorem zf3 {t:SetTable}{j:Nat}(h:t.slot j=.empty):t.place[SetTable.below t.place j]?≠some j:=by
 unfold SetTable.slot at h
 dsimp only at h
 split at h
 .cases h
 .rename_i c
  intro e
  rw[e]at c
  exact c (u0h _)
theorem zd8 {t:SetTable}{j:Nat}(hd:t.dummies=#[])(h:t.slot j≠.empty):j∈t.place.toList:=by
 cases e:t.slot j with
 | empty=>exact absurd e h
 | dummy =>
  unfold SetTable.slot at e
  dsimp only at e
  split at e
  .cases e
  .rw[hd,Xl]at e
   cases e
 | live i =>
  have:=YF e
  rw[<-h9]at this
  exact b6 this
theorem zms {t:SetTable}{f:Nat->Int}{h:Int}(hd:t.dummies=#[])(hf:∀ i,i < t.place.size->f i≠h):∀ (fuel:Nat) (p:SetTable.Probe),p.dummy=none->(∃ j,SetTable.probe.go t f h fuel p=some (.empty j none)/\t.slot j=.empty)\/∀ j,(zdc t.mask fuel p.j p.more p.i p.perturb).testBit j=true->t.slot j≠.empty:=by
 intro fuel
 induction fuel with
 | zero =>
  intro p _
  refine .inr λj hj=>?_
  have:(0:Nat).testBit j=true:=hj
  rw[u2L]at this
  cases this
 | succ n ih =>
  intro p hp
  cases e:t.slot p.j with
  | empty =>
   refine .inl ⟨p.j,?_,e⟩
   unfold SetTable.probe.go
   rw[e,hp]
  | dummy =>
   exfalso
   have:=e
   unfold SetTable.slot at this
   dsimp only at this
   split at this
   .cases this
   .rw[hd,Xl]at this
    cases this
  | live i =>
   have hi:i < t.place.size:=by
    have:=YF e
    exact(u0N.mp this).1
   have hne:(f i == h)=false:=u1V (hf i hi)
   have hgo:SetTable.probe.go t f h (n+1) p=SetTable.probe.go t f h n (t.advance p):=by
    rw[SetTable.probe.go,e]
    dsimp only
    rw[hne]
    rfl
   have hdm:(t.advance p).dummy=none:=by
    unfold SetTable.advance
    split <;> exact hp
   rw[hgo]
   refine(ih (t.advance p) hdm).imp id λhh j hj=>?_
   unfold zdc at hj
   rw[u4e,u1P]at hj
   rcases hj with hj | hj
   .refine hh j ?_
    unfold SetTable.advance
    by_cases c:p.more > 0
    .rw[q5 c]at hj ⊢
     exact hj
    .rw[j4 c]at hj ⊢
     exact hj
   .rw[u3E,u26]at hj
    have:=d8 hj
    subst this
    rw[e]
    exact λz=>by cases z
theorem zgX {t:SetTable}{f:Nat->Int}{h:Int}(hd:t.dummies=#[])(hf:∀ i,i < t.place.size->f i≠h)(full:Ve t.mask h=true)(fit:t.place.size<=t.mask):∃ j,t.probe f h (t.probeStart h)=some (.empty j none)/\t.slot j=.empty:=by
 rcases zms hd hf (10*SetTable.turns t.mask) (t.probeStart h) rfl with r | r
 .exact r
 .exfalso
  have all:∀ j∈List.range (t.mask+1),j∈t.place.toList:=λj hj=>zd8 hd (r j (zlc _ _ _ (zbW full (by have:=u0R.mp hj;omega))))
  have:=List.nodup_range.length_le_of_subset all
  rw[u0q,t7]at this
  omega
theorem YB {xs:Array Nat}(hr:xs.toList.Pairwise (· < ·)){d i k:Nat}(hik:i < k)(hk:k < xs.size):xs.getD i d < xs.getD k d:=by
 have h1:xs.getD i d=xs.toList[i]'(by rw[t7];omega):=by simp[Array.getD,show i < xs.size by omega]
 have h2:xs.getD k d=xs.toList[k]'(by rw[t7];omega):=by simp[Array.getD,hk]
 rw[h1,h2]
 exact i9.mp hr i k _ _ hik
structure Bel (xs:Array Nat) (j r:Nat):Prop where
 le:r<=xs.size
 lo:∀ i,i < r->xs.getD i j < j
 hi:∀ i,r<=i->i < xs.size->¬ xs.getD i j < j
theorem zgM {xs:Array Nat}{j:Nat}(hr:xs.toList.Pairwise (· < ·)):∀ fuel lo hi,hi - lo<=fuel->lo<=hi->hi<=xs.size->(∀ i,i < lo->xs.getD i j < j)->(∀ i,hi<=i->i < xs.size->¬ xs.getD i j < j)->Bel xs j (SetTable.below.go xs j fuel lo hi):=by
 intro fuel
 induction fuel with
 | zero =>
  intro lo hi hf hl hs h1 h2
  have e:lo=hi:=by omega
  subst e
  exact⟨hs,h1,h2⟩
 | succ n ih =>
  intro lo hi hf hl hs h1 h2
  unfold SetTable.below.go
  by_cases c:lo < hi
  .rw[q5 c]
   dsimp only
   by_cases d:xs.getD ((lo+hi) / 2) j < j
   .rw[q5 d]
    refine ih _ _ (by omega) (by omega) hs (λi hi'=>?_) h2
    by_cases e:i=(lo+hi) / 2
    .subst e;exact d
    .exact u37 (YB hr (by omega) (by omega)) d
   .rw[j4 d]
    refine ih _ _ (by omega) (by omega) (by omega) h1 (λi hi' hz=>?_)
    by_cases e:i=(lo+hi) / 2
    .subst e;exact d
    .have:=YB (d:=j) hr (i:=(lo+hi) / 2) (k:=i) (by omega) hz
     omega
  .rw[j4 c]
   have e:lo=hi:=by omega
   subst e
   exact⟨hs,h1,h2⟩
theorem W0 {xs:Array Nat}(j:Nat)(hr:xs.toList.Pairwise (· < ·)):Bel xs j (SetTable.below xs j) :=
 zgM hr xs.size 0 xs.size (j3 _) (u0F _) (j3 _) (λi h=>absurd h (Nat.not_lt_zero i)) (λi h1 h2=>absurd h2 (Nat.not_lt.mpr h1))
theorem zb0 {xs:Array Nat}(hr:xs.toList.Pairwise (· < ·)){i:Nat}(hi:i<=xs.size):SetTable.below xs (if i=0 then 0 else xs.getD (i - 1) 0+1)=i:=by
 obtain⟨j,hj⟩:∃ j,(if i=0 then 0 else xs.getD (i - 1) 0+1)=j:=⟨_,rfl⟩
 rw[hj]
 have b:=W0 j hr
 have gd:∀ k,k < xs.size->xs.getD k j=xs.getD k 0:=λk hk=>by simp[Array.getD,hk]
 rcases u1Z (SetTable.below xs j) i with l | e | l
 .have:=b.hi (i - 1) (by omega) (by omega)
  rw[j4 (by omega)]at hj
  rw[gd _ (by omega)]at this
  omega
 .exact e
 .have:=b.lo i l
  have hz:i < xs.size:=by have:=b.le;omega
  rw[gd _ hz]at this
  by_cases c:i=0
  .rw[q5 c]at hj;omega
  .rw[j4 c]at hj
   have:=YB (d:=0) hr (i:=i - 1) (k:=i) (by omega) hz
   omega
theorem zfS {t:SetTable}{j:Nat}(hr:t.place.toList.Pairwise (· < ·))(he:t.slot j=.empty):(SetTable.insertAt t.place (SetTable.below t.place j) j).toList.Pairwise (· < ·):=by
 have b:=W0 j hr
 have ne:=zf3 he
 generalize SetTable.below t.place j=p at b ne ⊢
 rw[u2f]
 have at':∀ k,(hk:k < t.place.toList.length)->t.place.getD k j=t.place.toList[k]:=λk hk=>by
  rw[t7]at hk
  simp[Array.getD,hk]
 have lo:∀ a∈t.place.toList.take p,a < j:=λa ha=>by
  obtain⟨k,hk,e⟩:=List.mem_take_iff_getElem.mp ha
  have h:=b.lo k (by omega)
  rw[at' k (by omega),e]at h
  exact h
 have hi:∀ a∈t.place.toList.drop p,j < a:=λa ha=>by
  obtain⟨k,hk,e⟩:=List.mem_drop_iff_getElem.mp ha
  have hz:p+k < t.place.size:=by rw[t7]at hk;omega
  have h:=b.hi (p+k) (by omega) hz
  rw[at' _ (by rw[t7];omega),e]at h
  rcases Nat.lt_or_eq_of_le (u0K h)with l | l
  .exact l
  .exfalso
   subst l
   cases k with
   | zero =>
    refine ne ?_
    rw[<-h9]
    exact t6.mpr ⟨by rw[t7];omega,e⟩
   | succ k =>
    have h1:=b.hi p (j3 _) (by omega)
    have h2:=YB (d:=j) hr (i:=p) (k:=p+(k+1)) (by omega) hz
    rw[at' (p+(k+1)) (by rw[t7];omega),e]at h2
    exact h1 h2
 refine List.pairwise_append.mpr ⟨hr.sublist (u3C _ _),u00.mpr ⟨hi,hr.sublist (List.drop_sublist _ _)⟩,λa ha c hc=>?_⟩
 rcases j5.mp hc with rfl | hc
 .exact lo a ha
 .exact u37 (lo a ha) (hi c hc)
theorem zi5 {mask:Nat}{owner:Array (Option Nat)}:∀ (fuel i pt:Nat),(∃ j,SetTable.layClean.free mask owner fuel i pt=some j/\owner.getD j (some 0)=none)\/∀ j,(zjP mask fuel i pt).testBit j=true->owner.getD j (some 0)≠none:=by
 intro fuel
 induction fuel with
 | zero =>
  intro i pt
  refine .inr λj hj=>?_
  have:(0:Nat).testBit j=true:=hj
  rw[u2L]at this
  cases this
 | succ n ih =>
  intro i pt
  unfold SetTable.layClean.free
  cases e:(List.range (SetTable.runEnd mask i+1 - i)).find? λk=>(owner.getD (i+k) (some 0)).isNone with
  | some k =>
   refine .inl ⟨i+k,rfl,?_⟩
   exact Option.isNone_iff_eq_none.mp (List.find?_some (p:=λk=>(owner.getD (i+k) (some 0)).isNone) e)
  | none =>
   refine(ih (SetTable.leap mask i pt).1 (SetTable.leap mask i pt).2).imp id λhh j hj=>?_
   unfold zjP at hj
   rw[u4e,u1P]at hj
   rcases hj with hj | hj
   .exact hh j hj
   .rw[Nat.testBit_shiftLeft,p4,u1U]at hj
    have h1:=d8 hj.1
    have h2:=d8 hj.2
    have:=List.find?_eq_none.mp e (j - i) (u0R.mpr h2)
    rw[show i+(j - i)=j by omega]at this
    intro z
    rw[z]at this
    exact this rfl
def XH (o:Array (Option Nat)):List Nat:=o.toList.filterMap id
theorem zeN {o:Array (Option Nat)}{j k:Nat}(h:o.getD j (some 0)=none):(XH (o.setIfInBounds j (some k))).Perm (k::XH o):=by
 have hj:j < o.size:=by
  refine Nat.lt_of_not_le λc=>?_
  have:o.getD j (some 0)=some 0:=by simp[Array.getD,Nat.not_lt.mpr c]
  rw[this]at h
  cases h
 have hjl:j < o.toList.length:=by rw[t7];exact hj
 have e0:o.toList[j]=none:=by
  have:o.getD j (some 0)=o.toList[j]:=by simp[Array.getD,hj]
  rw[<-this];exact h
 unfold XH
 rw[Array.toList_setIfInBounds]
 have e1:o.toList=o.toList.take j++o.toList[j]::o.toList.drop (j+1):=by rw[List.getElem_cons_drop,List.take_append_drop]
 have e2:o.toList.set j (some k)=o.toList.take j++some k::o.toList.drop (j+1):=List.set_eq_take_append_cons_drop.trans (q5 hjl)
 rw[e2,List.filterMap_append,u2d (f:=id) (a:=some k) (b:=k) rfl]
 refine List.perm_middle.trans (List.Perm.cons k ?_)
 have e3:o.toList.filterMap id=(o.toList.take j).filterMap id++(o.toList.drop (j+1)).filterMap id:=by
  rw[e0]at e1
  exact(u0M (List.filterMap id) e1).trans (by rw[List.filterMap_append,u3B rfl])
 rw[e3]
theorem zcC {mask:Nat}{o:Array (Option Nat)}(hz:o.size=mask+1)(h:∀ j,j<=mask->o.getD j (some 0)≠none):(XH o).length=mask+1:=by
 unfold XH
 have:∀ x∈o.toList,x≠none:=λx hx=>by
  obtain⟨i,hi,e⟩:=u1x.mp hx
  have hi':i < o.size:=by rw[t7]at hi;exact hi
  have:=h i (by omega)
  have e2:o.getD i (some 0)=o.toList[i]:=by simp[Array.getD,hi']
  rw[e2,e]at this
  exact this
 have key:∀ l:List (Option Nat),(∀ x∈l,x≠none)->(l.filterMap id).length=l.length:=λl=>by
  induction l with
  | nil=>intro _;rfl
  | cons x l ih =>
   intro hx
   cases x with
   | none=>exact absurd rfl (hx none g9)
   | some v=>rw[u2d (f:=id) (a:=some v) (b:=v) rfl,u0g,u0g,ih λy hy=>hx y (b0 _ hy)]
 rw[key _ this,t7,hz]
theorem zh0 {mask:Nat}(L:List Int):∀ (o:Array (Option Nat)) (k:Nat),o.size=mask+1->(XH o).Perm (List.range k)->(∀ h∈L,Ve mask h=true)->k+L.length<=mask ->
 ∃ o',L.foldl (λ(acc:Option (Array (Option Nat) × Nat)) h=>do
  let (owner,k)<-acc
  let j<-SetTable.layClean.free mask owner (SetTable.turns mask) (SetTable.bits h % (mask+1)) (SetTable.bits h)
  pure (owner.setIfInBounds j (some k),k+1)) (some (o,k))=some (o',k+L.length)/\o'.size=mask+1/\(XH o').Perm (List.range (k+L.length)):=by
 induction L with
 | nil=>intro o k hz hp _ _;exact⟨o,rfl,hz,hp⟩
 | cons h L ih =>
  intro o k hz hp hf hk
  rw[u0g]at hk
  rcases zi5 (mask:=mask) (owner:=o) (SetTable.turns mask) (SetTable.bits h % (mask+1)) (SetTable.bits h)with ⟨j,e1,e2⟩ | r
  .obtain⟨o',h1,h2,h3⟩:=ih (o.setIfInBounds j (some k)) (k+1) (by rw[u1A];exact hz) ((zeN e2).trans (by rw[u36];exact(List.Perm.cons k hp).trans (List.perm_append_singleton k _).symm)) (λx hx=>hf x (b0 _ hx)) (by omega)
   refine⟨o',?_,h2,by rw[u0g,show k+(L.length+1)=k+1+L.length by omega];exact h3⟩
   rw[u34,u0g,show k+(L.length+1)=k+1+L.length by omega,<- h1]
   congr 1
   show(SetTable.layClean.free mask o (SetTable.turns mask) (SetTable.bits h % (mask+1)) (SetTable.bits h)).bind _=_
   rw[e1]
   rfl
  .exfalso
   have hfull:=hf h g9
   have:=zcC hz λj hj=>r j (zbW hfull hj)
   rw[hp.length_eq,u0q]at this
   omega
theorem zan (n:Nat):XH (Array.replicate n none)=[]:=by
 unfold XH
 rw[Array.toList_replicate]
 induction n with
 | zero=>rfl
 | succ n ih=>rw[u0T,u3B rfl,ih]
theorem zeV {mask finger moves:Nat}{led plain:Bool}{L:Array Int}(hf:∀ h∈L.toList,Ve mask h=true)(hl:L.size<=mask) :
 ∃ t order,SetTable.laid mask finger moves led plain L=some (t,order)/\t.mask=mask/\t.place.toList.Pairwise (· < ·)/\t.dummies=#[]/\t.place.size=L.size/\t.led=led/\t.plain=plain/\order.toList.Perm (List.range L.size):=by
 obtain⟨o,h1,h2,h3⟩:=zh0 (mask:=mask) L.toList (Array.replicate (mask+1) none) 0 (by rw[u2O]) (by rw[zan];exact u0Y _) hf (by rw[t7];omega)
 rw[u0f,t7]at h3
 have hc:SetTable.layClean mask L=some o:=by
  unfold SetTable.layClean
  rw[<-Array.foldl_toList]
  exact u0M (Option.map (·.1)) h1
 obtain⟨live,hlive⟩:∃ live,(List.range (mask+1)).filterMap (λj=>(o.getD j none).map (j,·))=live:=⟨_,rfl⟩
 have e2:live.map (·.2)=XH o:=by
  rw[<-hlive,List.map_filterMap]
  have:(λx=>Option.map (λy:Nat × Nat=>y.2) ((o.getD x none).map (x,·)))=λx=>o.getD x none:=by
   funext x
   cases o.getD x none <;> rfl
  rw[this]
  unfold XH
  have e3:o.toList=(List.range (mask+1)).map λx=>o.getD x none:=by
   apply u2K
   .rw[u7,u0q,t7,h2]
   .intro i hi1 hi2
    rw[u1d,u1c]
    rw[t7]at hi1
    simp[Array.getD,hi1]
  rw[e3,List.filterMap_map]
  rfl
 have e1:(live.map (·.1)).Pairwise (· < ·):=by
  have:live.map (·.1)=(List.range (mask+1)).filter λj=>(o.getD j none).isSome:=by
   rw[<-hlive,List.map_filterMap,<- List.filterMap_eq_filter]
   congr 1
   funext x
   unfold Option.guard
   dsimp only
   by_cases c:(o.getD x none).isSome=true
   .rw[q5 c]
    obtain⟨v,e⟩:=u0v.mp c
    rw[e]
    rfl
   .rw[j4 c,Option.not_isSome_iff_eq_none.mp c]
    rfl
  rw[this]
  exact List.pairwise_lt_range.filter _
 have e4:live.length=L.size:=by
  have:=u0M List.length e2
  rw[u7,h3.length_eq,u0q]at this
  exact this
 refine⟨{ mask,place:=(live.map (·.1)).toArray,dummies:=#[],finger,led,moves,plain },(live.map (·.2)).toArray,?_,rfl,e1,rfl,?_,rfl,rfl,?_⟩
 .unfold SetTable.laid
  rw[hc]
  show some (_ ,_)=_
  rw[hlive]
 .rw[j6,u7,e4]
 .show(live.map (·.2)).Perm _
  rw[e2]
  exact h3
structure Zb (led:Bool) (t:SetTable) (n:Nat):Prop where
 rise:t.place.toList.Pairwise (· < ·)
 dum:t.dummies=#[]
 msk:t.mask=7\/t.mask=31\/t.mask=127
 size:t.place.size=n
 room:n*5 < t.mask*3
 led:t.led=led
 plain:t.plain=true
def GAt (h:Heap) (a:Addr) (es:Array (Int × Value)) (ep:Nat) (t:SetTable):Prop:=h.get? a=some { cls:=.type "set",dict:=none,data:=.set es ep t,slots:=#[] }
def IsPr (h:Heap) (q:Addr) (c:Nat):Prop:=∃ o n t1 t2,h.get? q=some o/\o.cls=.type "tuple"/\o.data=.seq #[.int ((c / 8:Nat):Int) t1,.int ((c % 8:Nat):Int) t2] n
theorem Zb.fits {led:Bool}{t:SetTable}{n:Nat}(h:Zb led t n):t.fits n=true:=by
 unfold SetTable.fits SetTable.fill
 rw[h.dum,h.size]
 have:=h.room
 have e1:(n == n)=true:=u0h n
 rw[e1,Bool.true_and]
 exact j8 (by show n+0<=_;omega)
section
variable {prog:Program}{w:World}{A:Around}{E:Value->Shared->Prop}{s:Shared}
theorem yT {a:Addr}{es:Array (Int × Value)}{ep:Nat}{t:SetTable}{led:Bool}{Q:(Array (Int × Value) × Nat × SetTable)->Shared->Prop}(ho:GAt s.heap a es ep t)(ht:Zb led t es.size)(h:Q (es,ep,t) s):wpAny (model prog w) A (setState a) Q E s:=wpAny_setState_of ho rfl ht.fits h
theorem zaM (n:Nat)(k:Int)(t:Tok):hashByValue n (.int k t)=pure true:=by cases n <;> rfl
theorem zgw {q:Addr}{c:Nat}{Q:Bool->Shared->Prop}(hq:IsPr s.heap q c)(h:Q true s):wpAny (model prog w) A (hashByValue 8 (.ref q)) Q E s:=by
 obtain⟨o,n,t1,t2,ho,hc,hd⟩:=hq
 have hT:s.TypeIs (.ref q) "tuple":=⟨o,ho,hc⟩
 unfold hashByValue
 refine u0 (wpAny_specialOf hT F.slot_tuple_hash.lookup ?_)
 dsimp only
 refine u0 (u1h ho hd ?_)
 show wpAny _ _ (forIn #[Value.int ((c / 8:Nat):Int) t1,.int ((c % 8:Nat):Int) t2] _ _>>=_) _ _ _
 refine u0 ?_
 rw[<-Array.forIn_toList]
 refine u2M _ (λrest r s'=>r.1=none/\s'=s/\∀ x∈rest,∃ k t,x=Value.int k t) _ ?_ ?_ _ _ ⟨rfl,rfl,λx hx=>?_⟩
 .rintro x rest r s' ⟨hr,rfl,hx⟩
  obtain⟨k,t,rfl⟩:=hx x g9
  rw[zaM]
  refine u0 (u6 ?_)
  exact u6 ⟨rfl,rfl,λy hy=>hx y (b0 _ hy)⟩
 .rintro r s' ⟨hr,rfl,-⟩
  rw[hr]
  exact u6 h
 .rcases j5.mp hx with rfl | hx
  .exact⟨_,_,rfl⟩
  .exact⟨_,_,j9.mp hx⟩
theorem XC (prog:Program)(w:World){h:Heap}{q:Addr}{c:Nat}(hq:IsPr h q c):IsTupleKey (intKind prog w) h [((c / 8:Nat):Int),((c % 8:Nat):Int)] q:=by
 obtain⟨o,n,t1,t2,ho,hc,hd⟩:=hq
 exact⟨o,_,n,ho,hc,hd,.cons (intKind_is _ _ _ _) (.cons (intKind_is _ _ _ _) .nil)⟩
theorem zi8 {q:Addr}{c:Nat}{Q:Int->Shared->Prop}(hu:A.units < cLine)(hq:IsPr s.heap q c)(h:Q (hs c) { s with toks:=s.toks+3 }):wpAny (model prog w) A (pyHash (.ref q)) Q E s :=
 wpAny_pyHash_tuple hu (XC prog w hq) h
def zmb (L:List (Int × Value)):Prop:=∀ e∈L,∃ c,c < 64/\e.1=hs c
theorem zdE {mask c:Nat}(hm:mask=7\/mask=31\/mask=127)(hc:c < 64):Ve mask (hs c)=true:=by
 have:=zjB ⟨c,hc⟩
 rcases hm with rfl | rfl | rfl
 .exact this.1
 .exact this.2.1
 .exact this.2.2
theorem zfx {mask:Nat}(hm:mask=7\/mask=31\/mask=127):(mask % 2 == 0)=false:=by rcases hm with rfl | rfl | rfl <;> rfl
theorem zda {t:SetTable}(hd:t.dummies=#[]):t.tooFull=decide (t.place.size*5 >= t.mask*3):=by
 unfold SetTable.tooFull SetTable.fill
 rw[hd]
 rfl
theorem zcI {mask n:Nat}(hm:mask=7\/mask=31\/mask=127)(hn:n<=63)(hr:n*5 < mask*3)(hf:(n+1)*5 >= mask*3):∃ m',SetTable.sizeAbove (SetTable.grown (n+1)) - 1=m'/\(m'=31\/m'=127)/\(n+1)*5 < m'*3/\SetTable.sizeAbove (SetTable.grown (n+1))<=1000:=by
 rcases hm with rfl | rfl | rfl
 .obtain rfl:n=4:=by omega
  exact⟨31,by decide,.inl rfl,by decide,by decide⟩
 .obtain rfl:n=18:=by omega
  exact⟨127,by decide,.inr rfl,by decide,by decide⟩
 .omega
end
theorem IsPr.at {h h':Heap}{q:Addr}{c:Nat}(x:IsPr h q c)(k:∀ o,h.get? q=some o->h'.get? q=some o):IsPr h' q c:=by
 obtain⟨o,n,t1,t2,e,r⟩:=x
 exact⟨o,n,t1,t2,k _ e,r⟩
end OwnSetP
namespace OwnSetP
open PySem OwnSet
section
variable {prog:Program}{w:World}{A:Around}{E:Value->Shared->Prop}{s:Shared}
theorem GAt.at {h h':Heap}{a:Addr}{es:Array (Int × Value)}{ep:Nat}{t:SetTable}(x:GAt h a es ep t)(k:∀ o,h.get? a=some o->h'.get? a=some o):GAt h' a es ep t:=k _ x
theorem zhh {a:Addr}{es:Array (Int × Value)}{ep:Nat}{t:SetTable}{led:Bool}{Q:Value->Shared->Prop}(hm:Zb led t es.size)(hS:GAt s.heap a es ep t)
 (h:Q (.ref s.heap.objs.size) { s with heap:=s.heap.push { cls:=.type "set_iterator",data:=.fields #[rawInt ((0:Nat):Int),rawInt ((0:Nat):Int),.ref a,rawInt (es.size:Int),rawInt (ep:Int)] } }) :
 wpAny (model prog w) A (pyIter (.ref a)) Q E s:=by
 have hT:s.TypeIs (.ref a) "set":=⟨_,hS,rfl⟩
 obtain⟨mk,pl,du,fi,le,mo,pn⟩:=t
 obtain rfl:pn=true:=hm.plain
 refine u3J hT F.slot_set_iter (i7 F.slot_set_iter hT X2 ?_ (F.args_set_iter_1 _))
 unfold Builtin.«frozenset.__iter__»
 refine u0 (u1M (a:=a) rfl ?_)
 unfold Builtin.Frozenset.sizeOf setEntries
 refine u0 (u0 (u0 (yT hS hm (u6 (u6 ?_)))))
 unfold setDrawn
 refine u0 (u0 (yT hS hm ?_))
 dsimp only
 unfold setsByText
 refine u0 (u0 (u1e (u6 ?_)))
 refine u6 ?_
 dsimp only
 split
 .rename_i hd
  exact absurd hd (zfa _ _)
 .refine u0 (u6 ?_)
  unfold setEpoch
  refine u0 (u0 (yT hS hm (u6 ?_)))
  dsimp only
  refine u0 (u0c (u6 ⟨_,rfl,"set_iterator",_,⟨_,j7 _ rfl,rfl⟩,Y9.lookup,?_⟩))
  exact h
def zaK (w:World) (a:Addr) (es:Array (Int × Value)) (ep:Nat):Array (Int × Value):=if w.params.followText "set-order"=true then pickOrder (w.params.setOrder a ep) es else es
def slotP (w:World) (t:SetTable) (i:Nat):Nat:=if w.params.followText "set-order"=true then 0 else if i=0 then 0 else t.place.getD (i - 1) 0+1
theorem zfU {a:Addr}{es:Array (Int × Value)}{ep i:Nat}{t:SetTable}{e:Int × Value}{Q:Option (Value × Nat)->Shared->Prop}(hm:Zb (ledOf w) t es.size)(hS:GAt s.heap a es ep t)(hi:i < es.size)(he:(zaK w a es ep)[i]?=some e)
 (h:Q (some (e.2,slotP w t (i+1))) s):wpAny (model prog w) A (setNext a (slotP w t i) i ep) Q E s:=by
 obtain⟨mk,pl,du,fi,le,mo,pn⟩:=t
 obtain rfl:pn=true:=hm.plain
 obtain rfl:le=ledOf w:=hm.led
 unfold setNext
 refine u0 (yT hS hm ?_)
 dsimp only
 unfold setsByText
 refine u0 (u0 (u1e (u6 ?_)))
 dsimp only
 unfold zaK at he
 unfold slotP at h ⊢
 by_cases bt:w.params.followText "set-order"=true
 .have bt':(model prog w).w.params.followText "set-order"=true:=bt
  rw[q5 bt]at he h ⊢
  rw[q5 bt']
  rw[j4 (by simp)]
  unfold setWalk
  refine u0 (u0 (yT hS hm ?_))
  dsimp only
  unfold setsByText
  refine u0 (u0 (u1e (u6 ?_)))
  dsimp only
  rw[q5 bt']
  refine u0 (u1e (u6 ?_))
  refine u6 ?_
  show Q (((pickOrder (w.params.setOrder a ep) es)[i]?).map λe=>(e.2,0)) s
  rw[he]
  exact h
 .have bt':¬ (model prog w).w.params.followText "set-order"=true:=bt
  rw[j4 bt]at he h ⊢
  rw[j4 bt']
  have hb:=zb0 hm.rise (i:=i) (by rw[hm.size];exact u0I hi)
  have hl:ledOf w=true:=by unfold ledOf;rw[u3z.mpr bt];rfl
  rw[hl]
  split
  .rename_i hd
   exact absurd hd (X9 _)
  .refine u0 (u1M (a:=()) rfl ?_)
   refine u6 ?_
   show Q (match es[SetTable.below pl (if i=0 then 0 else pl.getD (i - 1) 0+1)]?,pl[SetTable.below pl (if i=0 then 0 else pl.getD (i - 1) 0+1)]? with | some (_,x),some j=>some (x,j+1) | _,_=>none) s
   rw[hb,he,show pl[i]?=some (pl.getD i 0) by have hz:pl.size=es.size:=hm.size;simp[hz,hi]]
   rw[j4 (Nat.succ_ne_zero i)]at h
   exact h
end
theorem VY (w:World)(a:Addr)(es:Array (Int × Value))(ep:Nat):(zaK w a es ep).toList.Perm es.toList:=by
 unfold zaK
 split
 .exact zeq _ _
 .exact u0Y _
theorem Xv (w:World)(a:Addr)(es:Array (Int × Value))(ep:Nat):(zaK w a es ep).size=es.size:=by
 rw[<-t7,(VY w a es ep).length_eq,t7]
section
variable {prog:Program}{w:World}{A:Around}{E:Value->Shared->Prop}{s:Shared}
theorem V1 {a:Addr}{es:Array (Int × Value)}{ep:Nat}{t:SetTable}{Q:Option (Value × Nat)->Shared->Prop}(hm:Zb (ledOf w) t es.size)(hS:GAt s.heap a es ep t)(h:Q none s):wpAny (model prog w) A (setNext a (slotP w t es.size) es.size ep) Q E s:=by
 have he:(zaK w a es ep)[es.size]?=none:=Array.getElem?_eq_none (by rw[Xv];exact j3 _)
 obtain⟨mk,pl,du,fi,le,mo,pn⟩:=t
 obtain rfl:pn=true:=hm.plain
 obtain rfl:le=ledOf w:=hm.led
 unfold setNext
 refine u0 (yT hS hm ?_)
 dsimp only
 unfold setsByText
 refine u0 (u0 (u1e (u6 ?_)))
 dsimp only
 unfold zaK at he
 unfold slotP
 by_cases bt:w.params.followText "set-order"=true
 .have bt':(model prog w).w.params.followText "set-order"=true:=bt
  rw[q5 bt]at he ⊢
  rw[q5 bt',j4 (by simp)]
  unfold setWalk
  refine u0 (u0 (yT hS hm ?_))
  dsimp only
  unfold setsByText
  refine u0 (u0 (u1e (u6 ?_)))
  dsimp only
  rw[q5 bt']
  refine u0 (u1e (u6 ?_))
  refine u6 ?_
  show Q (((pickOrder (w.params.setOrder a ep) es)[es.size]?).map λe=>(e.2,0)) s
  rw[he]
  exact h
 .have bt':¬ (model prog w).w.params.followText "set-order"=true:=bt
  rw[j4 bt]at he ⊢
  rw[j4 bt']
  have hb:=zb0 hm.rise (i:=es.size) (by rw[hm.size];exact j3 _)
  have hl:ledOf w=true:=by unfold ledOf;rw[u3z.mpr bt];rfl
  rw[hl]
  split
  .rename_i hd
   exact absurd hd (X9 _)
  .refine u0 (u1M (a:=()) rfl ?_)
   refine u6 ?_
   show Q (match es[SetTable.below pl (if es.size=0 then 0 else pl.getD (es.size - 1) 0+1)]?,pl[SetTable.below pl (if es.size=0 then 0 else pl.getD (es.size - 1) 0+1)]? with | some (_,x),some j=>some (x,j+1) | _,_=>none) s
   rw[hb,he]
   exact h
theorem zgB {I a:Addr}{es:Array (Int × Value)}{ep i:Nat}{t:SetTable}{e:Int × Value}{Q:Option Value->Shared->Prop}(hm:Zb (ledOf w) t es.size)(hI:Zu s.heap I a (slotP w t i) i es.size ep)(hS:GAt s.heap a es ep t)(hi:i < es.size)(he:(zaK w a es ep)[i]?=some e)
 (hQ:∀ h',Zu h' I a (slotP w t (i+1)) (i+1) es.size ep->Heap.SameBut I s.heap h'->Q (some e.2) { s with heap:=h' }):wpAny (model prog w) A (pyNext (.ref I)) Q E s:=by
 have hT:s.TypeIs (.ref I) "set_iterator":=⟨_,hI,rfl⟩
 unfold pyNext
 refine u0 (u09 (e9 (name:=Str.ofString "__next__") hT Y9 (i7 Y9 hT Y2 ?_ (ZD _))))
 unfold Builtin.«set_iterator.__next__»
 refine u0 (u1M (a:=(Value.ref I,[])) rfl ?_)
 try dsimp only
 refine u0 (u3v hI rfl ?_)
 show wpAny _ _ (setEntries a>>=_) _ _ s
 unfold setEntries
 refine u0 (u0 (yT hS hm (u6 ?_)))
 dsimp only
 rw[j4 (by simp)]
 show wpAny _ _ (setNext a ((slotP w t i:Int)).toNat ((i:Int)).toNat ((ep:Int)).toNat>>=_) _ _ s
 rw[u0E,u0E,u0E]
 refine u0 (zfU hm hS hi he ?_)
 dsimp only
 refine u0 (u02 hI (by simp) λh1 he1 hs1=>?_)
 refine u0 (u02 he1 (by simp) λh2 he2 hs2=>?_)
 exact u6 ⟨_,rfl,u6 (hQ h2 he2 (hs1.trans hs2))⟩
theorem ziD {I a:Addr}{es:Array (Int × Value)}{ep:Nat}{t:SetTable}{Q:Option Value->Shared->Prop}(hh:A.handled=none)(hm:Zb (ledOf w) t es.size)(hI:Zu s.heap I a (slotP w t es.size) es.size es.size ep)(hS:GAt s.heap a es ep t)
 (hQ:∀ h',Heap.ExtBut I s.heap h'->Q none { s with heap:=h' }):wpAny (model prog w) A (pyNext (.ref I)) Q E s:=by
 have hT:s.TypeIs (.ref I) "set_iterator":=⟨_,hI,rfl⟩
 unfold pyNext
 refine u0 (u09 (e9 (name:=Str.ofString "__next__") hT Y9 (i7 Y9 hT Y2 ?_ (ZD _))))
 unfold Builtin.«set_iterator.__next__»
 refine u0 (u1M (a:=(Value.ref I,[])) rfl ?_)
 try dsimp only
 refine u0 (u3v hI rfl ?_)
 show wpAny _ _ (setEntries a>>=_) _ _ s
 unfold setEntries
 refine u0 (u0 (yT hS hm (u6 ?_)))
 dsimp only
 rw[j4 (by simp)]
 show wpAny _ _ (setNext a ((slotP w t es.size:Int)).toNat ((es.size:Int)).toNat ((ep:Int)).toNat>>=_) _ _ s
 rw[u0E,u0E,u0E]
 refine u0 (V1 hm hS ?_)
 dsimp only
 refine u0 (u02 hI (by simp) λh1 he1 hs1=>?_)
 refine u0 ?_
 simp only[newExc,newTuple]
 refine u0 (u0c ?_ (by size_fits))
 refine u0 (m:=firstArgMember _ _) (u1M (a:=Value.none) (by first | rfl | (simp only[firstArgMember];rfl)) ?_)
 refine u0c ?_ (by size_fits)
 simp only[raiseNew]
 refine u0 (wpAny_handled ?_)
 first | rw[show A.in1.handled=none from hh] | rw[hh]
 refine u0 (u6 (wpAny_throw ?_))
 refine u0 (u19 (T:="StopIteration") (b:=true) ⟨_,j7 _ rfl,rfl⟩ u3u ?_)
 exact u6 (hQ _ ((hs1.extBut.push _).push _))
theorem zeE (hh:A.handled=none)(I a:Addr)(hne:a≠I){es:Array (Int × Value)}{ep:Nat}{t:SetTable}(hm:Zb (ledOf w) t es.size) :
 Walks prog w A I [I,a] [I] es.size (λi v=>∃ e,(zaK w a es ep)[i]?=some e/\v=e.2) (λi h=>i<=es.size/\Zu h I a (slotP w t i) i es.size ep/\GAt h a es ep t) where
 sub:=λb hb=>by simp at hb;simp[hb]
 frame:=λ_ _ _ x hk=>by
  obtain⟨h1,h2,h3⟩:=x
  exact⟨h1,hk I (by simp) _ h2,GAt.at h3 λo e=>hk a (by simp) o e⟩
 item:=λi s Q E hi x hQ=>by
  obtain⟨h1,h2,h3⟩:=x
  have hx:(zaK w a es ep)[i]?=some ((zaK w a es ep)[i]'(by rw[Xv];exact hi)):=p7 _
  refine zgB hm h2 h3 hi hx λh' he' hs'=>?_
  exact hQ _ h' s.toks ⟨_,hx,rfl⟩ ⟨hi,he',GAt.at h3 λo e=>(hs'.2 a hne).trans e⟩ λb o hb eo=>hs'.extBut b o (λh=>hb (by simp[h])) eo
 done:=λs Q E x hQ=>by
  obtain⟨h1,h2,h3⟩:=x
  exact ziD hh hm h2 h3 λh' he'=>hQ h' s.toks λb o hb eo=>he' b o (λh=>hb (by simp[h])) eo
 self:=λ_ _ _ _ x hQ=>za1 x.2.1 hQ
theorem zgj {a:Addr}{es:Array (Int × Value)}{ep:Nat}{t:SetTable}{Q:Bool->Shared->Prop}(hS:GAt s.heap a es ep t)(hQ:Q false s):wpAny (model prog w) A (Builtin.List.listLengthHint (.ref a)) Q E s:=by
 have hT:s.TypeIs (.ref a) "set":=⟨_,hS,rfl⟩
 unfold Builtin.List.listLengthHint
 refine u0 (wpAny_specialOf hT F.slot_set_len.lookup ?_)
 try dsimp only
 have hsp:splitId "set.__len__"=some ("set","__len__"):=by decide +kernel
 rw[hsp]
 try dsimp only
 refine u0 (u19 (T:="set") (b:=true) hT sub_set_self ?_)
 rw[j4 (by decide)]
 show wpAny _ _ (if true=true then _ else _) _ _ _
 rw[q5 rfl]
 refine u0 (u1I hT ?_)
 dsimp only
 exact u6 hQ
theorem zbq {a:Addr}{es:Array (Int × Value)}{ep:Nat}{t:SetTable}{Q:List Value->Shared->Prop}(hh:A.handled=none)(hm:Zb (ledOf w) t es.size)(hS:GAt s.heap a es ep t)
 (hQ:∀ s',(∀ b o,s.heap.get? b=some o->s'.heap.get? b=some o)->s'.gens=s.gens->s'.drawn=s.drawn->s'.os=s.os->Q ((zaK w a es ep).toList.map (·.2)) s'):wpAny (model prog w) A (collect (.ref a)) Q E s:=by
 have hlt:a < s.heap.objs.size:=t9 hS
 have hSa:s.heap.objs.size≠a:=u1T hlt
 have h8:es.size<=sizeLine:=by have:=hm.room;have:=hm.msk;rw[u1n];omega
 unfold collect
 refine u0 (u3w (u1b F.entry_proto_collect ?_))
 rw[u03 F.plain_proto_collect _]
 show wpAny _ A.in1 (newList []>>=λl=>again (.builtin "list.__iadd__" ⟨[l,.ref a],[]⟩)) _ _ s
 refine u0 (u0c ?_)
 refine u6 ⟨u11 u2x _,u1b F.entry_list_iadd ?_⟩
 rw[u03 u2x _]
 have hS1:GAt (s.heap.push { cls:=.type "list",data:=.seq ([]:List Value).toArray }) a es ep t:=u4 _ hS
 have hL1:(s.heap.push { cls:=.type "list",data:=.seq ([]:List Value).toArray }).get? s.heap.objs.size=some { cls:=.type "list",data:=.seq ([]:List Value).toArray }:=j7 _ rfl
 generalize hh1:s.heap.push { cls:=.type "list",data:=.seq ([]:List Value).toArray }=h1 at hS1 hL1 ⊢
 have k1:∀ b o,s.heap.get? b=some o->h1.get? b=some o:=λb o e=>by rw[<-hh1];exact u4 _ e
 have hz1:h1.objs.size=s.heap.objs.size+1:=by rw[<-hh1];exact u0Q ..
 show wpAny _ A.in1 (Builtin.List.listExtendWith (.ref s.heap.objs.size) (.ref a) (.ref s.heap.objs.size)) _ _ _
 unfold Builtin.List.listExtendWith
 refine u0 (u1I (T:="set") ⟨_,hS1,rfl⟩ ?_)
 have g1:Builtin.List.listSameRef (.ref s.heap.objs.size) (.ref a)=false:=by simp[Builtin.List.listSameRef,hSa]
 have g2:(Value.type "set" == Value.type "list")=false:=by decide
 have g3:(Value.type "set" == Value.type "tuple")=false:=by decide
 simp only[g1,g2,g3,Bool.or_false,u0x,u18]
 refine u0 (zhh hm hS1 ?_)
 have hI2:Zu (h1.push { cls:=.type "set_iterator",data:=.fields #[rawInt ((0:Nat):Int),rawInt ((0:Nat):Int),.ref a,rawInt (es.size:Int),rawInt (ep:Int)] }) h1.objs.size a 0 0 es.size ep:=j7 _ rfl
 have hS2:GAt (h1.push { cls:=.type "set_iterator",data:=.fields #[rawInt ((0:Nat):Int),rawInt ((0:Nat):Int),.ref a,rawInt (es.size:Int),rawInt (ep:Int)] }) a es ep t:=u4 _ hS1
 have hL2:=u4 { cls:=.type "set_iterator",data:=.fields #[rawInt ((0:Nat):Int),rawInt ((0:Nat):Int),.ref a,rawInt (es.size:Int),rawInt (ep:Int)] } hL1
 generalize hh2:h1.push { cls:=.type "set_iterator",data:=.fields #[rawInt ((0:Nat):Int),rawInt ((0:Nat):Int),.ref a,rawInt (es.size:Int),rawInt (ep:Int)] }=h2 at hI2 hS2 hL2 ⊢
 have k2:∀ b o,h1.get? b=some o->h2.get? b=some o:=λb o e=>by rw[<-hh2];exact u4 _ e
 refine u0 (i5 (zgj hS2 ?_))
 show wpAny _ A.in1 (if true=true then _ else _) _ _ _
 rw[q5 rfl]
 refine u0 (u2h (u0 ?_))
 show wpAny _ A.in1 (updateSeq s.heap.objs.size (·.push .none)>>=λ_=>updateSeq s.heap.objs.size (·.pop)) _ _ _
 refine u0 (u3c hL2 rfl ?_)
 have hL3:=p9 (Obj.mapSeq (·.push Value.none)) hL2 rfl
 refine u3c (hz:=by seq_fits) hL3 rfl ?_
 have hL4:=p9 (Obj.mapSeq (·.pop)) hL3 rfl
 have oth:∀ b o,b≠s.heap.objs.size->h2.get? b=some o->((h2.update s.heap.objs.size (Obj.mapSeq (·.push Value.none))).update s.heap.objs.size (Obj.mapSeq (·.pop))).get? b=some o :=
  λb o hb e=>(u0d _ _ (u0P hb)).trans ((u0d _ _ (u0P hb)).trans e)
 have hIne:h1.objs.size≠s.heap.objs.size:=by rw[hz1];exact Nat.succ_ne_self _
 have hIa:a≠h1.objs.size:=by rw[hz1];exact r8 (u0u hlt)
 have W:=zeE (prog:=prog) (w:=w) (A:=A.in1) (ep:=ep) hh h1.objs.size a hIa hm
 have hsl:slotP w t 0=0:=by unfold slotP;split <;> rfl
 refine u6 ⟨u11 F.plain_extend_loop _,codeAny_extend_loopS W.toS h8 _ (λhmem=>?_) _ es.size 0 _ #[] _ rfl (u0F _) ⟨u0F _,by rw[hsl];exact oth _ _ hIne hI2,GAt.at hS2 λo e=>oth _ _ (u0P hSa) e⟩ hL4 (ItemsOf.nil _) λs' acc' c' hmv hS' hacc=>?_⟩
 .rcases j5.mp hmem with e | e
  .exact hIne e.symm
  .exact hSa (j9.mp e)
 .show wpAny _ A (load s.heap.objs.size>>=_) _ _ s'
  refine u0 (wpAny_load hS' ?_)
  refine u6 ?_
  have e1:acc'.toList=(zaK w a es ep).toList.map (·.2):=by
   apply u3A
   intro i
   by_cases hi:i < es.size
   .have q1:acc'[i]?=some (acc'[i]'(by rw[hacc.1];exact hi)):=p7 _
    obtain⟨e,q2,q3⟩:=hacc.2 i _ q1
    rw[d6,h9,h9,q1,q2,q3]
    rfl
   .rw[u1t (by rw[t7,hacc.1];exact u0K hi),u1t (by rw[u7,t7,Xv];exact u0K hi)]
  rw[e1]
  refine hQ s' (λb o e=>hmv.heap b o (λhmem=>?_) (oth b o (r8 (t9 e)) (k2 b o (k1 b o e)))) hmv.gens hmv.drawn hmv.os
  rcases j5.mp hmem with z | z
  .exact r8 (t9 e) z
  .have:=t9 e
   rw[j9.mp z,hz1]at this
   exact absurd (u3D this) (u0y _)
theorem sp_sorted {a:Addr}{es:Array (Int × Value)}{ep:Nat}{t:SetTable}{Q:Value->Shared->Prop}(hh:A.handled=none)(hm:Zb (ledOf w) t es.size)(hS:GAt s.heap a es ep t)(hT:∀ v∈es.toList.map (·.2),∃ p,OwnSort.TP s.heap v p)(h64:es.size < 64)
 (h:∀ (h1 h':Heap) (tk':Nat) (out:Array Value) (c:Nat),out.toList.Perm (es.toList.map (·.2))->OwnSort.Rise s.heap out.toList->(∀ b o,s.heap.get? b=some o->h1.get? b=some o)->(∀ b o,h1.get? b=some o->h'.get? b=some o) ->
  h'.get? h1.objs.size=some { cls:=.type "list",dict:=none,data:=.seq out c,slots:=#[] }->Q (.ref h1.objs.size) { s with heap:=h',toks:=tk' }) :
 wpAny (model prog w) A (call (.builtin "sorted") [.ref a]) Q E s:=by
 refine u14 u3G u3s u3r (u3q _) ?_
 unfold Builtin.«sorted»
 refine u0 (m:=checkCount "sorted" 1 1 _) (u6 ?_)
 refine u0 (zbq hh hm hS λs' k g1 g2 g3=>?_)
 obtain⟨h1,g',d',tk1,os'⟩:=s'
 have e1:g'=s.gens:=g1
 have e2:d'=s.drawn:=g2
 have e3:os'=s.os:=g3
 subst e1 e2 e3
 have hp:=(VY w a es ep).map (·.2)
 have hl64:((zaK w a es ep).toList.map (·.2)).length < 64:=by rw[hp.length_eq,u7,t7];exact h64
 generalize (zaK w a es ep).toList.map (·.2)=vs at *
 refine u0 (u3Q ?_)
 have hoL:(h1.push (PyProof.Rows.seqObj "list" vs.toArray 0)).get? h1.objs.size=some (PyProof.Rows.seqObj "list" vs.toArray 0):=j7 _ rfl
 have up:∀ b o,s.heap.get? b=some o->(h1.push (PyProof.Rows.seqObj "list" vs.toArray 0)).get? b=some o:=λb o e=>u4 _ (k b o e)
 refine u0 (i5 (i7 u28 ⟨_,hoL,rfl⟩ u2U (OwnSort.own_list_sort hoL (λv hv=>let ⟨p,hp'⟩:=hT v (hp.mem_iff.mp hv);⟨p,hp'.keep up⟩) hl64 λout p1 p2=>⟨_,rfl,?_⟩) (u27 _)))
 have hn:∀ b o,b≠h1.objs.size->(h1.push (PyProof.Rows.seqObj "list" vs.toArray 0)).get? b=some o->(PyProof.Rows.sortedHeap (h1.push (PyProof.Rows.seqObj "list" vs.toArray 0)) h1.objs.size vs out).get? b=some o:=λb o hb e=>by
  unfold PyProof.Rows.sortedHeap
  exact(u0d _ _ (u0P hb)).trans (u4 _ (u4 _ ((u0d _ _ (u0P hb)).trans e)))
 have hL:∃ c,(PyProof.Rows.sortedHeap (h1.push (PyProof.Rows.seqObj "list" vs.toArray 0)) h1.objs.size vs out).get? h1.objs.size=some { cls:=.type "list",dict:=none,data:=.seq out c,slots:=#[] }:=by
  unfold PyProof.Rows.sortedHeap
  have u1:=p9 (Obj.mapSeq λ_=>(#[]:Array Value)) hoL rfl
  have u2:=u4 (PyProof.Rows.seqObj "list" #[] 0) (u4 (PyProof.Rows.seqObj "tuple" vs.toArray 0) u1)
  exact⟨_,p9 (Obj.mapSeq λ_=>out) u2 rfl⟩
 obtain⟨c,hL⟩:=hL
 refine u6 ⟨_,rfl,h h1 _ _ out c (p1.trans hp) ?_ k (λb o e=>hn b o (r8 (t9 e)) (u4 _ e)) hL⟩
 obtain⟨ts,q1,q2,q3⟩:=p2
 refine⟨ts,q1,λi v t hv ht=>?_,q3⟩
 obtain⟨t0,ht0⟩:=hT v (hp.mem_iff.mp (p1.mem_iff.mp (b6 hv)))
 rw[(q2 i v t hv ht).uniq (ht0.keep up)]
 exact ht0
end
end OwnSetP
namespace Dl
open PySem L2 PySem.Spec PyProof.Rows
def prC (t:Pr):Nat:=8*t.1.toNat+t.2.toNat
def smP (t:Pr):Bool:=decide (0<=t.1/\t.1 < 8/\0<=t.2/\t.2 < 8)
theorem zb3 {t:Pr}(h:smP t=true):prC t < 64/\((prC t / 8:Nat):Int)=t.1/\((prC t % 8:Nat):Int)=t.2:=by
 have:=d8 h
 unfold prC
 omega
theorem zi0 {t u:Pr}(h:smP t=true)(g:smP u=true)(e:prC t=prC u):t=u:=by
 obtain⟨-,a,b⟩:=zb3 h
 obtain⟨-,c,d⟩:=zb3 g
 rw[e]at a b
 exact u10 (a.symm.trans c) (b.symm.trans d)
variable [KK]{X:Cx}{e:Expr}
end Dl
namespace OwnSetP
open PySem
inductive Rch (mask:Nat) (O:Nat->Prop):Nat->SetTable.Probe->Nat->Prop
 | here (n:Nat) (p:SetTable.Probe):Rch mask O (n+1) p p.j
 | next {n x:Nat} {p:SetTable.Probe} (h:O p.j) (r:Rch mask O n (SetTable.advance { mask:=mask,place:=#[],dummies:=#[],finger:=0,led:=true,moves:=0,plain:=true } p) x):Rch mask O (n+1) p x
theorem zko (t:SetTable)(p:SetTable.Probe):SetTable.advance { mask:=t.mask,place:=#[],dummies:=#[],finger:=0,led:=true,moves:=0,plain:=true } p=t.advance p:=rfl
theorem Rch.imp {mask:Nat}{O O':Nat->Prop}(h:∀ j,O j->O' j){n x:Nat}{p:SetTable.Probe}(r:Rch mask O n p x):Rch mask O' n p x:=by
 induction r with
 | here n p=>exact .here n p
 | next ho _ ih=>exact .next (h _ ho) ih
theorem Rch.le {mask:Nat}{O:Nat->Prop}{n x:Nat}{p:SetTable.Probe}(r:Rch mask O n p x):∀ k,n<=k->Rch mask O k p x:=by
 induction r with
 | here n p =>
  intro k hk
  obtain⟨k,rfl⟩:∃ c,k=c+1:=⟨k - 1,by omega⟩
  exact .here k p
 | next ho _ ih =>
  intro k hk
  obtain⟨k,rfl⟩:∃ c,k=c+1:=⟨k - 1,by omega⟩
  exact .next ho (ih k (by omega))
theorem zlm {t:SetTable}{f:Nat->Int}{h:Int}(hd:t.dummies=#[])(hf:∀ i,i < t.place.size->f i≠h):∀ (fuel:Nat) (p:SetTable.Probe) (j:Nat),p.dummy=none->SetTable.probe.go t f h fuel p=some (.empty j none)->Rch t.mask (λx=>t.slot x≠.empty) fuel p j:=by
 intro fuel
 induction fuel with
 | zero=>intro p j _ h;cases h
 | succ n ih =>
  intro p j hp hg
  cases e:t.slot p.j with
  | empty =>
   unfold SetTable.probe.go at hg
   rw[e]at hg
   injection hg with hg
   injection hg with h1 _
   subst h1
   exact .here n p
  | dummy =>
   exfalso
   have:=e
   unfold SetTable.slot at this
   dsimp only at this
   split at this
   .cases this
   .rw[hd,Xl]at this
    cases this
  | live i =>
   have hi:i < t.place.size:=(u0N.mp (YF e)).1
   have hne:(f i == h)=false:=u1V (hf i hi)
   have hgo:SetTable.probe.go t f h (n+1) p=SetTable.probe.go t f h n (t.advance p):=by
    rw[SetTable.probe.go,e]
    dsimp only
    rw[hne]
    rfl
   have hdm:(t.advance p).dummy=none:=by
    unfold SetTable.advance
    split <;> exact hp
   rw[hgo]at hg
   refine .next (by rw[e];exact λz=>by cases z) ?_
   rw[zko]
   exact ih _ _ hdm hg
theorem zgY {t:SetTable}{f:Nat->Int}{h:Int}{i0:Nat}(hd:t.dummies=#[])(h0:f i0=h)(hf:∀ i,i < t.place.size->f i=h->i=i0){fuel x:Nat}{p:SetTable.Probe}(r:Rch t.mask (λx=>t.slot x≠.empty) fuel p x)(hx:t.slot x=.live i0):∃ j nx,SetTable.probe.go t f h fuel p=some (.candidate j i0 nx):=by
 induction r with
 | here n p =>
  refine⟨p.j,t.advance p,?_⟩
  rw[SetTable.probe.go,hx]
  dsimp only
  rw[h0,u0h]
  rfl
 | @next n x p ho _ ih =>
  cases e:t.slot p.j with
  | empty=>exact absurd e ho
  | dummy =>
   exfalso
   have:=e
   unfold SetTable.slot at this
   dsimp only at this
   split at this
   .cases this
   .rw[hd,Xl]at this
    cases this
  | live i =>
   have hi:i < t.place.size:=(u0N.mp (YF e)).1
   rw[SetTable.probe.go,e]
   dsimp only
   by_cases c:f i=h
   .have:=hf i hi c
    subst this
    rw[c,u0h]
    exact⟨_,_,rfl⟩
   .rw[u1V c]
    exact ih hx
theorem zaR {t:SetTable}{j:Nat}(hr:t.place.toList.Pairwise (· < ·))(h:j∈t.place.toList):∃ i,t.slot j=.live i/\t.place[i]?=some j:=by
 have b:=W0 j hr
 obtain⟨i,hi,e⟩:=u1x.mp h
 rw[t7]at hi
 have gi:t.place.getD i j=j:=by
  have:t.place.getD i j=t.place.toList[i]'(by rw[t7];exact hi):=by simp[Array.getD,hi]
  rw[this]
  exact e
 have e1:SetTable.below t.place j=i:=by
  rcases u1Z (SetTable.below t.place j) i with l | l | l
  .exfalso
   have h1:=b.hi (SetTable.below t.place j) (j3 _) (by omega)
   have h2:=YB (d:=j) hr l hi
   rw[gi]at h2
   exact h1 h2
  .exact l
  .exfalso
   have:=b.lo i l
   rw[gi]at this
   exact u0y _ this
 have e2:t.place[SetTable.below t.place j]?=some j:=by
  rw[e1,<- h9,r9 (by rw[t7];exact hi)]
  exact u0M some e
 refine⟨SetTable.below t.place j,?_,e2⟩
 unfold SetTable.slot
 dsimp only
 rw[e2,u0h]
 rfl
def ze0 (t:SetTable)(L:List Int):Prop:=∀ (j:Nat) (h:Int),(j,h)∈t.place.toList.zip L->Rch t.mask (λx=>t.slot x≠.empty) (10*SetTable.turns t.mask) (t.probeStart h) j
theorem zdh {mask:Nat}{O:Nat->Prop}:∀ (k:Nat) (p:SetTable.Probe),k<=p.more->(∀ k',k' < k->O (p.j+k'))->Rch mask O (k+1) p (p.j+k):=by
 intro k
 induction k with
 | zero=>intro p _ _;exact .here 0 p
 | succ k ih =>
  intro p hk ho
  have e:SetTable.advance { mask:=mask,place:=#[],dummies:=#[],finger:=0,led:=true,moves:=0,plain:=true } p={ p with j:=p.j+1,more:=p.more - 1 }:=by
   unfold SetTable.advance
   rw[q5 (by omega)]
  refine .next (ho 0 (by omega)) ?_
  rw[e,show p.j+(k+1)=p.j+1+k by omega]
  exact ih { p with j:=p.j+1,more:=p.more - 1 } (by show k<=p.more - 1;omega) λk' hk'=>by
   show O (p.j+1+k')
   rw[show p.j+1+k'=p.j+(k'+1) by omega]
   exact ho (k'+1) (by omega)
def zik (mask:Nat)(p:SetTable.Probe):SetTable.Probe:={ p with j:=(SetTable.leap mask p.i p.perturb).1,more:=SetTable.runEnd mask (SetTable.leap mask p.i p.perturb).1 - (SetTable.leap mask p.i p.perturb).1,i:=(SetTable.leap mask p.i p.perturb).1,perturb:=(SetTable.leap mask p.i p.perturb).2 }
theorem zfZ {mask x n:Nat}{O:Nat->Prop}:∀ (m:Nat) (p:SetTable.Probe),p.more=m->(∀ k',k'<=m->O (p.j+k'))->Rch mask O n (zik mask p) x->Rch mask O (n+m+1) p x:=by
 intro m
 induction m with
 | zero =>
  intro p hm ho r
  have e:SetTable.advance { mask:=mask,place:=#[],dummies:=#[],finger:=0,led:=true,moves:=0,plain:=true } p=zik mask p:=by
   unfold SetTable.advance
   rw[j4 (by omega)]
   rfl
  refine .next (ho 0 (j3 _)) ?_
  rw[e]
  exact r
 | succ m ih =>
  intro p hm ho r
  have e:SetTable.advance { mask:=mask,place:=#[],dummies:=#[],finger:=0,led:=true,moves:=0,plain:=true } p={ p with j:=p.j+1,more:=p.more - 1 }:=by
   unfold SetTable.advance
   rw[q5 (by omega)]
  rw[show n+(m+1)+1=(n+m+1)+1 by omega]
  refine .next (ho 0 (u0F _)) ?_
  rw[e]
  exact ih { p with j:=p.j+1,more:=p.more - 1 } (by show p.more - 1=m;omega) (λk' hk'=>by
   show O (p.j+1+k')
   rw[show p.j+1+k'=p.j+(k'+1) by omega]
   exact ho (k'+1) (by omega)) r
def stP (mask i pt:Nat):SetTable.Probe:={ j:=i,more:=SetTable.runEnd mask i - i,i:=i,perturb:=pt,dummy:=none }
theorem zgx {mask:Nat}{owner:Array (Option Nat)}:∀ (fuel i pt j:Nat),i<=mask->SetTable.layClean.free mask owner fuel i pt=some j->Rch mask (λx=>x<=mask/\owner.getD x (some 0)≠none) (10*fuel) (stP mask i pt) j:=by
 intro fuel
 induction fuel with
 | zero=>intro i pt j _ h;cases h
 | succ n ih =>
  intro i pt j hi h
  have hm:SetTable.runEnd mask i - i<=9/\i<=SetTable.runEnd mask i/\SetTable.runEnd mask i<=mask:=by unfold SetTable.runEnd;split <;> omega
  unfold SetTable.layClean.free at h
  cases e:(List.range (SetTable.runEnd mask i+1 - i)).find? λk=>(owner.getD (i+k) (some 0)).isNone with
  | some k =>
   rw[e]at h
   injection h with h
   subst h
   have hk:=u0R.mp (List.mem_of_find?_eq_some e)
   have hb:∀ k',k' < k->i+k'<=mask/\owner.getD (i+k') (some 0)≠none:=λk' hk'=>⟨by omega,λz=>by
    obtain⟨_,as,bs,e2,e3⟩:=List.find?_eq_some_iff_append.mp e
    have hl:as.length=k:=by
     have e4:=u0M (λl=>l[as.length]?) e2
     simp only[u0i (j3 _),Nat.sub_self,List.getElem?_cons_zero]at e4
     obtain⟨q1,q2⟩:=t6.mp e4
     rw[u1c]at q2
     exact q2
    have hm:k'∈as:=by
     have e5:(List.range (SetTable.runEnd mask i+1 - i))[k']?=some k':=u20 (by omega)
     rw[e2,u0o (by omega)]at e5
     exact b6 e5
    have:=e3 k' hm
    rw[z]at this
    cases this⟩
   exact(zdh k (stP mask i pt) (by show k<=SetTable.runEnd mask i - i;omega) hb).le _ (by omega)
  | none =>
   rw[e]at h
   have all:=List.find?_eq_none.mp e
   have r:=ih _ _ _ (u0t (Nat.mod_lt _ (u2E mask))) h
   have r2:Rch mask (λx=>x<=mask/\owner.getD x (some 0)≠none) (10*n) (zik mask (stP mask i pt)) j:=r
   refine(zfZ (SetTable.runEnd mask i - i) (stP mask i pt) rfl (λk' hk'=>⟨by show i+k'<=mask;omega,λz=>?_⟩) r2).le _ (by omega)
   have:=all k' (u0R.mpr (by omega))
   have z:owner.getD (i+k') (some 0)=none:=z
   rw[z]at this
   exact this rfl
theorem zca {o:Array (Option Nat)}{j x:Nat}{v:Option Nat}:(o.setIfInBounds j v).getD x (some 0)=if j=x/\j < o.size then v else o.getD x (some 0):=by
 simp only[Array.getD,u1A]
 by_cases hx:x < o.size
 .rw[u4q hx,u4q hx]
  show(o.setIfInBounds j v)[x]'(by rw[u1A];exact hx)=_
  rw[Array.getElem_setIfInBounds hx]
  show _=if j=x/\j < o.size then v else o[x]
  by_cases c:j=x
  .rw[q5 c,q5 ⟨c,by omega⟩]
  .rw[j4 c,j4 λz=>c z.1]
 .rw[dif_neg hx,dif_neg hx,j4 λz=>hx (by omega)]
def Laid (mask:Nat)(o:Array (Option Nat))(L:List Int):Prop:=∀ j k,o.getD j (some 0)=some k->j < o.size->∃ h,L[k]?=some h/\Rch mask (λx=>x<=mask/\o.getD x (some 0)≠none) (10*SetTable.turns mask) (stP mask (SetTable.bits h % (mask+1)) (SetTable.bits h)) j
theorem zhn {mask:Nat}(L:List Int):∀ (o o':Array (Option Nat)) (k k':Nat) (D:List Int),D.length=k->Laid mask o D ->
 L.foldl (λ(acc:Option (Array (Option Nat) × Nat)) h=>do
  let (owner,k)<-acc
  let j<-SetTable.layClean.free mask owner (SetTable.turns mask) (SetTable.bits h % (mask+1)) (SetTable.bits h)
  pure (owner.setIfInBounds j (some k),k+1)) (some (o,k))=some (o',k')->Laid mask o' (D++L):=by
 induction L with
 | nil =>
  intro o o' k k' D _ hL e
  cases e
  rw[u0k]
  exact hL
 | cons h L ih =>
  intro o o' k k' D hD hL e
  have none_fold:∀ l:List Int,l.foldl (λ(acc:Option (Array (Option Nat) × Nat)) h=>do
   let (owner,k)<-acc
   let j<-SetTable.layClean.free mask owner (SetTable.turns mask) (SetTable.bits h % (mask+1)) (SetTable.bits h)
   pure (owner.setIfInBounds j (some k),k+1)) none=none:=λl=>by
   induction l with
   | nil=>rfl
   | cons a l ih=>exact ih
  rw[u34]at e
  cases ef:SetTable.layClean.free mask o (SetTable.turns mask) (SetTable.bits h % (mask+1)) (SetTable.bits h) with
  | none =>
   have:(do
    let (owner,k)<-some (o,k)
    let j<-SetTable.layClean.free mask owner (SetTable.turns mask) (SetTable.bits h % (mask+1)) (SetTable.bits h)
    pure (owner.setIfInBounds j (some k),k+1):Option (Array (Option Nat) × Nat))=none:=by
    show(SetTable.layClean.free mask o (SetTable.turns mask) (SetTable.bits h % (mask+1)) (SetTable.bits h)).bind _=_
    rw[ef]
    rfl
   rw[this,none_fold]at e
   cases e
  | some j =>
   have:(do
    let (owner,k)<-some (o,k)
    let j<-SetTable.layClean.free mask owner (SetTable.turns mask) (SetTable.bits h % (mask+1)) (SetTable.bits h)
    pure (owner.setIfInBounds j (some k),k+1):Option (Array (Option Nat) × Nat))=some (o.setIfInBounds j (some k),k+1):=by
    show(SetTable.layClean.free mask o (SetTable.turns mask) (SetTable.bits h % (mask+1)) (SetTable.bits h)).bind _=_
    rw[ef]
    rfl
   rw[this]at e
   have hj:=zgx _ _ _ _ (u0t (Nat.mod_lt _ (u2E mask))) ef
   have grow:∀ x,(x<=mask/\o.getD x (some 0)≠none)->x<=mask/\(o.setIfInBounds j (some k)).getD x (some 0)≠none:=λx hx=>by
    refine⟨hx.1,?_⟩
    rw[zca]
    split
    .exact λz=>by cases z
    .exact hx.2
   have:=ih (o.setIfInBounds j (some k)) o' (k+1) k' (D++[h]) (by rw[d9,hD];rfl) (λx q hq hx=>?_) e
   .rw[u1W]at this
    exact this
   .rw[zca]at hq
    rw[u1A]at hx
    by_cases c:j=x/\j < o.size
    .rw[q5 c]at hq
     cases hq
     refine⟨h,?_,?_⟩
     .rw[u0i (by omega),hD,Nat.sub_self]
      rfl
     .rw[<-c.1]
      exact hj.imp grow
    .rw[j4 c]at hq
     obtain⟨h',q1,q2⟩:=hL x q hq hx
     refine⟨h',?_,q2.imp grow⟩
     rw[u0o (t6.mp q1).1]
     exact q1
theorem zfz {mask finger moves:Nat}{led plain:Bool}{L:Array Int}{t:SetTable}{order:Array Nat}(hl:L.size<=mask)(hf:∀ h∈L.toList,Ve mask h=true)(e:SetTable.laid mask finger moves led plain L=some (t,order)):∀ i j k:Nat,t.place[i]?=some j->order[i]?=some k->∃ h,L[k]?=some h/\Rch t.mask (λx=>t.slot x≠.empty) (10*SetTable.turns t.mask) (t.probeStart h) j:=by
 obtain⟨o,h1,h2,-⟩:=zh0 (mask:=mask) L.toList (Array.replicate (mask+1) none) 0 (by rw[u2O]) (by rw[zan];exact u0Y _) hf (by rw[t7];omega)
 have hp:=zhn (mask:=mask) L.toList (Array.replicate (mask+1) none) o 0 _ [] rfl (λj k hq hj=>by
  rw[u2O]at hj
  have:(Array.replicate (mask+1) (none:Option Nat)).getD j (some 0)=none:=by simp[Array.getD,hj]
  rw[this]at hq
  cases hq) h1
 rw[List.nil_append]at hp
 obtain⟨t',order',f1,f2,f3,f4,-⟩:=zeV (finger:=finger) (moves:=moves) (led:=led) (plain:=plain) hf hl
 rw[f1]at e
 cases e
 have hc:SetTable.layClean mask L=some o:=by
  unfold SetTable.layClean
  rw[<-Array.foldl_toList]
  exact u0M (Option.map (·.1)) h1
 have f1':=f1
 unfold SetTable.laid at f1'
 rw[hc]at f1'
 have f1':some (({ mask,place:=(((List.range (mask+1)).filterMap λj=>(o.getD j none).map (j,·)).map (·.1)).toArray,dummies:=#[],finger,led,moves,plain }:SetTable),(((List.range (mask+1)).filterMap λj=>(o.getD j none).map (j,·)).map (·.2)).toArray)=some (t,order):=f1'
 injection f1' with f1'
 have et:=u0M Prod.fst f1'
 have eo:=u0M Prod.snd f1'
 dsimp only at et eo
 have mem:∀ j,j∈t.place.toList↔∃ k,o.getD j none=some k/\j < mask+1:=λj=>by
  rw[<-et]
  dsimp only
  rw[u0b]
  constructor
  .rintro⟨⟨a,k⟩,hm,rfl⟩
   obtain⟨a',ha,e⟩:=u1u.mp hm
   obtain⟨k',hk,e⟩:=u9.mp e
   injection e with e1 e2
   subst e1
   exact⟨_,hk,u0R.mp ha⟩
  .rintro⟨k,hk,hj⟩
   exact⟨(j,k),u1u.mpr ⟨j,u0R.mpr hj,by rw[hk];rfl⟩,rfl⟩
 intro i j k hpi hoi
 have both:o.getD j none=some k/\j < mask+1:=by
  rw[<-et]at hpi
  rw[<-eo]at hoi
  dsimp only at hpi
  rw[<-h9,d6]at hpi hoi
  obtain⟨⟨a,b⟩,q1,q2⟩:=u9.mp hpi
  obtain⟨⟨a',b'⟩,q3,q4⟩:=u9.mp hoi
  rw[q1]at q3
  cases q3
  cases q2
  cases q4
  obtain⟨x,hx,e⟩:=u1u.mp (b6 q1)
  obtain⟨k',hk',e⟩:=u9.mp e
  cases e
  exact⟨hk',u0R.mp hx⟩
 have gd:∀ x,x < o.size->o.getD x (some 0)=o.getD x none:=λx hx=>by simp[Array.getD,hx]
 obtain⟨h,q1,q2⟩:=hp j k (by rw[gd _ (by omega)];exact both.1) (by omega)
 refine⟨h,by rw[<-h9];exact q1,?_⟩
 rw[f2]
 have r:Rch mask (λx=>t.slot x≠.empty) (10*SetTable.turns mask) (stP mask (SetTable.bits h % (mask+1)) (SetTable.bits h)) j:=q2.imp λx hx=>by
  obtain⟨hx0,hx⟩:=hx
  rw[gd _ (by omega)]at hx
  obtain⟨v,hv⟩:=Option.ne_none_iff_exists'.mp hx
  obtain⟨i',e1,_⟩:=zaR f3 ((mem x).mpr ⟨v,hv,by omega⟩)
  rw[e1]
  exact λz=>by cases z
 have:t.probeStart h=stP mask (SetTable.bits h % (mask+1)) (SetTable.bits h):=by
  unfold SetTable.probeStart stP
  rw[f2]
 rw[this]
 exact r
def zaQ (h:Heap)(a:Addr)(led:Bool)(L:List (Int × Value)):Prop:=∃ es ep t,GAt h a es ep t/\es.toList.Perm L/\Zb led t es.size/\ze0 t (es.toList.map (·.1))
theorem zmz {α β:Type}{g:α->Option β}:∀ {l:List α} {i:Nat},(∀ k∈l,(g k).isSome=true)->(l.filterMap g)[i]?=l[i]?.bind g:=by
 intro l
 induction l with
 | nil=>intro i _;rfl
 | cons a l ih =>
  intro i h
  obtain⟨b,hb⟩:=u0v.mp (h a g9)
  rw[u2d hb]
  cases i with
  | zero=>exact hb.symm
  | succ i=>exact ih λk hk=>h k (b0 _ hk)
section
variable {prog:Program}{w:World}{A:Around}{E:Value->Shared->Prop}{s:Shared}
theorem zg1 {a:Addr}{es:Array (Int × Value)}{ep:Nat}{t:SetTable}{led:Bool}{c:Nat}{x:Value}{Q:SetFound->Shared->Prop}(ho:GAt s.heap a es ep t)(ht:Zb led t es.size)(hc:c < 64)(hn:∀ e∈es.toList,e.1≠hs c)
 (h:∀ j,t.slot j=.empty->Rch t.mask (λx=>t.slot x≠.empty) (10*SetTable.turns t.mask) (t.probeStart (hs c)) j->Q (.free j false) s):wpAny (model prog w) A (setSearch a x (hs c) true) Q E s:=by
 unfold setSearch setSearchFrom
 refine u0 (yT ho ht ?_)
 dsimp only
 unfold SetTable.gaveWay
 rw[zfx ht.msk]
 have hf:∀ i,i < t.place.size->(es[i]?.map (·.1)).getD 0≠hs c:=λi hi=>by
  rw[ht.size]at hi
  rw[p7 hi]
  exact hn es[i] (by rw[<-u1w];exact u0e _)
 obtain⟨j,e1,e2⟩:=zgX (f:=λi=>(es[i]?.map (·.1)).getD 0) ht.dum hf (zdE ht.msk hc) (by have:=ht.room;rw[ht.size];omega)
 generalize hr:t.probe _ (hs c) _=r
 have er:r=some (.empty j none):=hr.symm.trans e1
 rw[er]
 exact u6 (h j e2 (zlm ht.dum hf _ _ _ rfl e1))
theorem zmj {a q:Addr}{led:Bool}{c:Nat}{L:List (Int × Value)}{Q:Bool->Shared->Prop}(hS:zaQ s.heap a led L)(hL:zmb L)(hl:L.length<=63)(hq:IsPr s.heap q c)(hqa:q≠a)(hc:c < 64)(hn:∀ e∈L,e.1≠hs c)
 (h:∀ h',Heap.SameBut a s.heap h'->zaQ h' a led (L++[(hs c,.ref q)])->Q true { s with heap:=h' }) :
 wpAny (model prog w) A (setAddHashed a (.ref q) (hs c)) Q E s:=by
 obtain⟨es,ep,t,ho,hp,ht,hpa⟩:=hS
 have hes:es.size<=63:=by rw[<-t7,hp.length_eq];exact hl
 have hnn:∀ e∈es.toList,e.1≠hs c:=λe he=>hn e (hp.mem_iff.mp he)
 unfold setAddHashed setAddHashedIn
 refine i5 (u0 (yT ho ht ?_))
 dsimp only
 rw[show byScan (.ref q) es=false from rfl]
 simp only[u0x,↓reduceIte]
 refine u0 (zg1 ho ht hc hnn λj hj hrc=>?_)
 dsimp only
 refine u0 (yT ho ht ?_)
 dsimp only
 obtain⟨es1,hes1⟩:∃ es1,SetTable.insertAt es (SetTable.below t.place j) (hs c,Value.ref q)=es1:=⟨_,rfl⟩
 have hp1:es1.toList.Perm (L++[(hs c,.ref q)]):=by
  rw[<-hes1]
  refine(u2u _ _ _).trans ?_
  rw[u3y]
  exact hp.append_right _
 have hz1:es1.size=es.size+1:=by
  rw[<-t7,hp1.length_eq,d9,<- hp.length_eq,t7]
  rfl
 obtain⟨t1,ht1⟩:∃ t1:SetTable,({ t with place:=SetTable.insertAt t.place (SetTable.below t.place j) j,dummies:=#[] }:SetTable)=t1:=⟨_,rfl⟩
 have hput:t.put j=(t1,SetTable.below t.place j):=by
  unfold SetTable.put
  dsimp only
  rw[ht.dum,Xl,<- ht1]
  rfl
 have r1:t1.place.toList.Pairwise (· < ·):=by rw[<-ht1];exact zfS ht.rise hj
 have z1:t1.place.size=es.size+1:=by
  rw[<-ht1]
  show(SetTable.insertAt t.place (SetTable.below t.place j) j).size=_
  rw[<-t7,(u2u _ _ _).length_eq,t7,Array.size_push,ht.size]
 have d1:t1.dummies=#[]:=by rw[<-ht1]
 have m1:t1.mask=t.mask:=by rw[<-ht1]
 have l1:t1.led=led:=by rw[<-ht1];exact ht.led
 have p1:t1.plain=true:=by rw[<-ht1];exact ht.plain
 have z0:t.place.toList.length=(es.toList.map (·.1)).length:=by rw[t7,u7,t7,ht.size]
 have pa1:ze0 t1 (es1.toList.map (·.1)):=by
  have grow:∀ x,t.slot x≠.empty->t1.slot x≠.empty:=λx hx=>by
   have hm:=zd8 ht.dum hx
   obtain⟨i,e,_⟩:=zaR (t:=t1) (j:=x) r1 (by
    rw[<-ht1]
    show x∈(SetTable.insertAt t.place (SetTable.below t.place j) j).toList
    refine(u2u _ _ _).mem_iff.mpr ?_
    rw[u3y]
    exact u0O _ hm)
   rw[e]
   exact λz=>by cases z
  have keep:∀ h x,Rch t.mask (λx=>t.slot x≠.empty) (10*SetTable.turns t.mask) (t.probeStart h) x->Rch t1.mask (λx=>t1.slot x≠.empty) (10*SetTable.turns t1.mask) (t1.probeStart h) x:=λh x r=>by
   have e:t1.probeStart h=t.probeStart h:=by unfold SetTable.probeStart;rw[m1]
   rw[e,m1]
   exact r.imp grow
  intro x y hxy
  have e1:t1.place.toList=t.place.toList.take (SetTable.below t.place j)++j::t.place.toList.drop (SetTable.below t.place j):=by rw[<-ht1];exact u2f _ _ _
  have e2:es1.toList.map (·.1)=(es.toList.map (·.1)).take (SetTable.below t.place j)++hs c::(es.toList.map (·.1)).drop (SetTable.below t.place j):=by
   rw[<-hes1,u2f,p6,i8,u3L,List.map_drop]
  rw[e1,e2,List.zip_append (by rw[u04,u04,z0]),u2m]at hxy
  rcases u0r.mp hxy with z | z
  .exact keep y x (hpa x y (by
    unfold List.zip at z
    rw[<-List.take_zipWith]at z
    exact u1y z))
  .rcases j5.mp z with z | z
   .cases z
    exact keep _ _ hrc
   .exact keep y x (hpa x y (by
     unfold List.zip at z
     rw[<-List.drop_zipWith]at z
     exact List.mem_of_mem_drop z))
 rw[hput]
 dsimp only
 rw[hes1,p1]
 simp only[↓reduceIte]
 refine u0 (zgw hq ?_)
 simp only[↓reduceIte]
 refine u0 (wpAny_storeSet_of ho rfl ?_ (by rw[hz1,u1n];omega))
 have ho1:GAt (s.heap.update a (Obj.putSet es1 t1)) a es1 (ep+1) t1:=p9 (Obj.putSet es1 t1) ho rfl
 have sb1:=u1j s.heap a (Obj.putSet es1 t1)
 rw[zda d1,z1,m1]
 by_cases cf:(es.size+1)*5 >= t.mask*3
 .rw[j8 cf]
  simp only[Bool.not_false,Bool.and_self,↓reduceIte]
  obtain⟨m',e1,e2,e3,e4⟩:=zcI ht.msk hes ht.room cf
  unfold setRelay
  have fit1:t1.fits es1.size=true:=by
   unfold SetTable.fits SetTable.fill
   rw[d1,z1,hz1,m1,u0h,Bool.true_and]
   have:=ht.room
   have:=ht.msk
   exact j8 (by show es.size+1+0<=_;omega)
  refine u0 (u0 (wpAny_setState_of ho1 rfl fit1 ?_))
  dsimp only
  rw[j4 (by rw[u1n];omega)]
  have hfull:∀ h∈(es1.map (·.1)).toList,Ve m' h=true:=λh hh=>by
   rw[Array.toList_map]at hh
   obtain⟨e,he,rfl⟩:=u0b.mp hh
   have:∃ c,c < 64/\e.1=hs c:=by
    rcases u0r.mp (hp1.mem_iff.mp he)with z | z
    .exact hL e z
    .rw[j9.mp z];exact⟨c,hc,rfl⟩
   obtain⟨c',hc',ec⟩:=this
   rw[ec]
   exact zdE (.inr e2) hc'
  have hsz:(es1.map (·.1)).size=es1.size:=u4d ..
  obtain⟨t2,order,f1,f2,f3,f4,f5,f6,f7,f8⟩:=zeV (finger:=t1.finger) (moves:=t1.movedTo m') (led:=t1.led) (plain:=t1.plain) hfull (by rw[hsz,hz1];omega)
  rw[hsz]at f5 f8
  have hrel:t1.relaid (es1.map (·.1)) (SetTable.grown (es.size+1))=some (t2,order):=by
   unfold SetTable.relaid
   rw[e1]
   exact f1
  rw[hrel]
  obtain⟨es2,hes2⟩:∃ es2,order.filterMap (es1[·]?)=es2:=⟨_,rfl⟩
  have hp2:es2.toList.Perm es1.toList:=by
   rw[<-hes2,Array.toList_filterMap]
   exact(f8.filterMap _).trans (by rw[filterMap_getElem?_range])
  have hz2:es2.size=es1.size:=by rw[<-t7,hp2.length_eq,t7]
  have pa2:ze0 t2 (es2.toList.map (·.1)):=by
   intro x y hxy
   obtain⟨i,hi⟩:=List.mem_iff_getElem?.mp hxy
   obtain⟨i1,i2⟩:=u15.mp hi
   have hio:i < order.toList.length:=by
    have:=(t6.mp i1).1
    rw[t7,f5]at this
    rw[f8.length_eq,u0q]
    exact this
   obtain⟨h',g1,g2⟩:=zfz (by rw[hsz,hz1];omega) hfull f1 i x order.toList[i] (by rw[<-h9];exact i1) (by rw[<-h9];exact r9 hio)
   have e3:es2.toList[i]?=es1[order.toList[i]]?:=by
    rw[<-hes2,Array.toList_filterMap]
    rw[zmz (λk hk=>by
     have:=u0R.mp (f8.mem_iff.mp hk)
     rw[p7 this]
     rfl),r9 hio]
    rfl
   rw[d6,e3]at i2
   rw[Array.getElem?_map]at g1
   rw[g1]at i2
   cases i2
   exact g2
  refine u0 ?_
  show wpAny _ _ (ite ((order.filterMap (es1[·]?)).size != es1.size) _ _) _ _ _
  rw[hes2,hz2,j4 (by rw[bne_self_eq_false];exact u8)]
  refine u6 ?_
  refine wpAny_storeSet_of ho1 rfl ?_ (by rw[hz2,hz1,u1n];omega)
  have ho2:GAt ((s.heap.update a (Obj.putSet es1 t1)).update a (Obj.putSet es2 t2)) a es2 (ep+1+1) t2:=p9 (Obj.putSet es2 t2) ho1 rfl
  have sb2:=u1j (s.heap.update a (Obj.putSet es1 t1)) a (Obj.putSet es2 t2)
  refine u6 (h _ (sb1.trans sb2) ⟨es2,_,t2,ho2,hp2.trans hp1,⟨f3,f4,.inr (by rw[f2];exact e2),by rw[f5,hz2],by rw[hz2,hz1,f2];exact e3,by rw[f6];exact l1,by rw[f7];exact p1⟩,pa2⟩)
 .rw[g0 cf]
  simp only[Bool.not_false,u1g,u0x,↓reduceIte]
  refine u6 (h _ sb1 ⟨es1,ep+1,t1,ho1,hp1,⟨r1,d1,by rw[m1];exact ht.msk,by rw[z1,hz1],by rw[hz1,m1];omega,l1,p1⟩,pa1⟩)
def Rows (h:Heap)(L:List (Int × Value)):Prop:=∀ e∈L,∃ q c,e=(hs c,Value.ref q)/\c < 64/\IsPr h q c
theorem Wg {q:Addr}{c:Nat}{Q:Bool->Shared->Prop}(hq:IsPr s.heap q c)(h:Q false s):wpAny (model prog w) A (ofAClassStatement 8 (.ref q)) Q E s:=by
 obtain⟨o,n,t1,t2,ho,hc,hd⟩:=hq
 have hT:s.TypeIs (.ref q) "tuple":=⟨o,ho,hc⟩
 unfold ofAClassStatement
 refine u0 (u1I hT ?_)
 dsimp only
 rw[q5 (by decide)]
 refine u0 (u6 ?_)
 rw[j4 (by decide)]
 refine u0 (u1h ho hd ?_)
 dsimp only
 refine u0 ?_
 rw[<-Array.forIn_toList]
 refine u2M _ (λrest r s'=>r.1=none/\s'=s/\∀ x∈rest,∃ k t,x=Value.int k t) _ ?_ ?_ _ _ ⟨rfl,rfl,λx hx=>?_⟩
 .rintro x rest r s' ⟨hr,rfl,hx⟩
  obtain⟨k,t,rfl⟩:=hx x g9
  show wpAny _ _ (ofAClassStatement 7 (.int k t)>>=_) _ _ _
  refine u0 (u1M (a:=false) rfl ?_)
  exact u6 ⟨rfl,rfl,λy hy=>hx y (b0 _ hy)⟩
 .rintro r s' ⟨hr,rfl,-⟩
  rw[hr]
  exact u6 h
 .rcases j5.mp hx with rfl | hx
  .exact⟨_,_,rfl⟩
  .exact⟨_,_,j9.mp hx⟩
theorem ziX {q:Addr}{c:Nat}{ys:List Value}{Q:Bool->Shared->Prop}(hq:IsPr s.heap q c)(hy:∀ y∈ys,∃ q' c',y=.ref q'/\IsPr s.heap q' c')(h:Q false s):wpAny (model prog w) A (searchCouldBeSeen (.ref q) ys) Q E s:=by
 unfold searchCouldBeSeen
 refine u0 ?_
 refine u2M _ (λrest r s'=>r.1=none/\s'=s/\∀ y∈rest,∃ q' c',y=Value.ref q'/\IsPr s.heap q' c') _ ?_ ?_ _ _ ⟨rfl,rfl,hy⟩
 .rintro y rest r s' ⟨hr,rfl,hy⟩
  obtain⟨q',c',rfl,hq'⟩:=hy y g9
  have hrest:∀ y∈rest,∃ q' c',y=Value.ref q'/\IsPr s'.heap q' c':=λy hy'=>hy y (b0 _ hy')
  dsimp only
  by_cases cv:(q == q'||(carriedByValue (.ref q)&&carriedByValue (.ref q')))=true
  .rw[q5 cv]
   exact u6 ⟨rfl,rfl,hrest⟩
  .rw[j4 cv]
   refine u0 (wpAny_eqIsQuiet_tuple (XC prog w hq) ?_)
   simp only[Bool.not_true,u0x,u18]
   refine u0 (wpAny_eqIsQuiet_tuple (XC prog w hq') ?_)
   simp only[Bool.not_true,u0x,u18]
   refine u0 (Wg hq ?_)
   simp only[u0x,u18]
   refine u0 (Wg hq' ?_)
   simp only[u0x,u18]
   exact u6 ⟨rfl,rfl,hrest⟩
 .rintro⟨r1,r2⟩ s' ⟨hr,rfl,-⟩
  simp only at hr
  subst hr
  exact u6 h
theorem zlx {a q:Addr}{led:Bool}{c:Nat}{L:List (Int × Value)}{Q:Bool->Shared->Prop}(hu:A.units < cLine)(hS:zaQ s.heap a led L)(hL:Rows s.heap L)(hnd:(L.map (·.1)).Nodup)(hq:IsPr s.heap q c)(hc:c < 64)(hi:hs c∈L.map (·.1))
 (h:Q false s):wpAny (model prog w) A (setAddHashed a (.ref q) (hs c)) Q E s:=by
 obtain⟨es,ep,t,ho,hp,ht,hpa⟩:=hS
 unfold setAddHashed setAddHashedIn
 refine i5 (u0 (yT ho ht ?_))
 dsimp only
 rw[show byScan (.ref q) es=false from rfl]
 simp only[u0x,↓reduceIte]
 have hnd':(es.toList.map (·.1)).Nodup:=(hp.map (·.1)).nodup_iff.mpr hnd
 obtain⟨i0,hi0,e0⟩:=u1x.mp ((hp.map (·.1)).mem_iff.mpr hi)
 have hi0':i0 < es.size:=by rw[u7,t7]at hi0;exact hi0
 have ei:es[i0].1=hs c:=by rw[u1d,u1w]at e0;exact e0
 obtain⟨q',c',er,hc',hq'⟩:=hL es[i0] (hp.mem_iff.mp (by rw[<-u1w];exact u0e _))
 have ecc:c'=c:=by
  rw[er]at ei
  exact zfA hc' hc ei
 subst ecc
 have hip:i0 < t.place.size:=by rw[ht.size];exact hi0'
 have hzip:(t.place[i0],hs c')∈t.place.toList.zip (es.toList.map (·.1)):=by
  refine b6 (i:=i0) (u15.mpr ⟨?_,?_⟩)
  .rw[h9]
   exact p7 hip
  .rw[r9 hi0,e0]
 have rc:=hpa _ _ hzip
 obtain⟨i1,s1,s2⟩:=zaR (t:=t) (j:=t.place[i0]) ht.rise (by rw[<-u1w];exact u0e _)
 have e10:i1=i0:=by
  obtain⟨hi1,e⟩:=u0N.mp s2
  rcases u1Z i1 i0 with l | l | l
  .have:=YB (d:=0) ht.rise l hip
   simp only[Array.getD,hi1,hip,u4q]at this
   exact absurd e (r8 this)
  .exact l
  .have:=YB (d:=0) ht.rise l hi1
   simp only[Array.getD,hi1,hip,u4q]at this
   exact absurd e.symm (r8 this)
 subst e10
 have f0:(es[i1]?.map (·.1)).getD 0=hs c':=by
  rw[p7 hi0']
  exact ei
 have fu:∀ i,i < t.place.size->(es[i]?.map (·.1)).getD 0=hs c'->i=i1:=λi hi e=>by
  rw[ht.size]at hi
  rw[p7 hi]at e
  have e:es[i].1=hs c':=e
  have hl:i < (es.toList.map (·.1)).length:=by rw[u7,t7];exact hi
  have e2:(es.toList.map (·.1))[i]=(es.toList.map (·.1))[i1]:=by
   rw[e0,u1d,u1w]
   exact e
  rcases u1Z i i1 with l | l | l
  .exact absurd e2 (i9.mp hnd' i i1 hl hi0 l)
  .exact l
  .exact absurd e2.symm (i9.mp hnd' i1 i hi0 hl l)
 obtain⟨j,nx,eg⟩:=zgY (f:=λi=>(es[i]?.map (·.1)).getD 0) ht.dum f0 fu rc s1
 unfold setSearch setSearchFrom
 refine u0 (u0 (yT ho ht ?_))
 dsimp only
 unfold SetTable.gaveWay
 rw[zfx ht.msk]
 generalize hr:t.probe _ (hs c') _=r
 have er':r=some (.candidate j i1 nx):=hr.symm.trans eg
 rw[er']
 dsimp only
 cases hled:t.led with
 | true =>
  rw[j4 (by decide),p7 hi0',er]
  dsimp only
  refine u0 (i5 (wpAny_eqBool_tuple hu (XC prog w hq') (XC prog w hq) ?_))
  rw[j8 rfl]
  refine u0 (yT ho ht ?_)
  dsimp only
  rw[q5 (by decide)]
  exact u6 (u6 h)
 | false =>
  rw[j4 u8,q5 (show(!false)=true from rfl)]
  refine u0 (ziX hq (λy hy=>?_) ?_)
  .obtain⟨e,he,rfl⟩:=u0b.mp hy
   obtain⟨q2,c2,e2,_,h2⟩:=hL e (hp.mem_iff.mp (u2N.mpr (Array.mem_filter.mp (u2N.mp he)).1))
   exact⟨q2,c2,by rw[e2],h2⟩
  rw[j4 (by decide),p7 hi0',er]
  dsimp only
  refine u0 (i5 (wpAny_eqBool_tuple hu (XC prog w hq') (XC prog w hq) ?_))
  rw[j8 rfl]
  refine u0 (yT ho ht ?_)
  dsimp only
  rw[q5 (by decide)]
  exact u6 (u6 h)
end
def ixTo (cd:Nat->Nat):Nat->List Nat
 | 0=>[]
 | i+1=>if cd i∈(ixTo cd i).map cd then ixTo cd i else ixTo cd i++[i]
theorem ixTo_lt {cd:Nat->Nat}:∀ {n k:Nat},k∈ixTo cd n->k < n:=by
 intro n
 induction n with
 | zero=>intro k h;cases h
 | succ n ih =>
  intro k h
  unfold ixTo at h
  split at h
  .exact u0u (ih h)
  .rcases u0r.mp h with h | h
   .exact u0u (ih h)
   .rw[j9.mp h];exact u1s n
theorem ixTo_nodup (cd:Nat->Nat):∀ n,((ixTo cd n).map cd).Nodup:=by
 intro n
 induction n with
 | zero=>exact u08
 | succ n ih =>
  unfold ixTo
  split
  .exact ih
  .rename_i c
   rw[p6]
   refine u2z.mpr ⟨ih,u0s.mpr ⟨(λh=>by cases h),u08⟩,λx hx y hy e=>?_⟩
   rw[i8,u35]at hy
   rw[j9.mp hy]at e
   exact c (e ▸ hx)
theorem ixTo_len (cd:Nat->Nat):∀ n,(ixTo cd n).length<=n:=by
 intro n
 induction n with
 | zero=>exact j3 _
 | succ n ih =>
  unfold ixTo
  split
  .exact Nat.le_succ_of_le ih
  .rw[d9];exact u1N ih
theorem ixTo_all {cd:Nat->Nat}:∀ {n:Nat},(∀ i j,i < j->j < n->cd i≠cd j)->ixTo cd n=List.range n:=by
 intro n
 induction n with
 | zero=>intro _;rfl
 | succ n ih =>
  intro h
  have e:=ih λi j hij hj=>h i j hij (u0u hj)
  unfold ixTo
  rw[j4,e,u36]
  intro c
  rw[e]at c
  obtain⟨k,hk,z⟩:=u0b.mp c
  exact h k n (u0R.mp hk) (u1s n) z
def seenTo (cd:Nat->Nat)(qa:Nat->Addr)(i:Nat):List (Int × Value):=(ixTo cd i).map λk=>(hs (cd k),Value.ref (qa k))
theorem Xy (cd:Nat->Nat)(qa:Nat->Addr)(i:Nat):(seenTo cd qa i).map (·.1)=((ixTo cd i).map cd).map hs:=by
 unfold seenTo
 rw[u0H,u0H]
 rfl
theorem VP {cd:Nat->Nat}{qa:Nat->Addr}(h64:∀ i,cd i < 64)(i:Nat):hs (cd i)∈(seenTo cd qa i).map (·.1)↔cd i∈(ixTo cd i).map cd:=by
 rw[Xy]
 constructor
 .intro h
  obtain⟨x,hx,e⟩:=u0b.mp h
  obtain⟨k,_,rfl⟩:=u0b.mp hx
  rw[<-zfA (h64 k) (h64 i) e]
  exact hx
 .exact λh=>u1m h
theorem zar {cd:Nat->Nat}{qa:Nat->Addr}(h64:∀ i,cd i < 64)(i:Nat):((seenTo cd qa i).map (·.1)).Nodup:=by
 rw[Xy]
 refine u0X.mpr ((ixTo_nodup cd i).imp_of_mem λ{a b} ha hb hne e=>hne ?_)
 obtain⟨k,_,rfl⟩:=u0b.mp ha
 obtain⟨l,_,rfl⟩:=u0b.mp hb
 exact zfA (h64 k) (h64 l) e
theorem zaQ.at {h h':Heap}{a:Addr}{led:Bool}{L:List (Int × Value)}(x:zaQ h a led L)(k:∀ o,h.get? a=some o->h'.get? a=some o):zaQ h' a led L:=by
 obtain⟨es,ep,t,e,r⟩:=x
 exact⟨es,ep,t,k _ e,r⟩
theorem zdT (h:Heap) (led:Bool) {a:Addr} (e:h.get? a=some { cls:=.type "set",dict:=none,data:=.set #[] 0 (.fresh 0 0 led) }):zaQ h a led []:=⟨#[],0,.fresh 0 0 led,e,u0Y _,⟨List.Pairwise.nil,rfl,.inl rfl,rfl,(by show 0*5 < 7*3;decide),rfl,rfl⟩,λj h z=>by cases z⟩
section
variable {prog:Program}{w:World}{A:Around}{R:Result->Shared->Prop}{I:Addr}{fp wr:List Addr}{G:Array GenState->Array GenState->Prop}{n:Nat}{P:Nat->Value->Prop}{St:Nat->Shared->Prop}
theorem zdo (W:WalksS prog w A.in1 I fp wr G n P St)(S:Addr)(led:Bool)(hSf:S∉fp)(hu:A.units+1 < cLine)(cd:Nat->Nat)(qa:Nat->Addr)(h64:∀ i,cd i < 64)(hn:n<=64)(hval:∀ i v,P i v->v=.ref (qa i))(hqa:∀ i,i < n->qa i∉S::wr) :
 ∀ (k i:Nat) (s:Shared),n - i=k->i<=n->St i s->(∀ j,j < n->IsPr s.heap (qa j) (cd j))->zaQ s.heap S led (seenTo cd qa i) ->
  (∀ s',Moved (S::wr) G s s'->zaQ s'.heap S led (seenTo cd qa n)->R (.ok (.ret .none)) s') ->
  codeAny (model prog w) A (.builtin "set.update.loop" ⟨[.ref S,.ref I],[]⟩) R s:=by
 have hSw:S∉wr:=λh=>hSf (W.sub _ h)
 have hsub:∀ b∈wr,b∈S::wr:=λb hb=>b0 _ hb
 intro k
 induction k with
 | zero =>
  intro i s hk hi hst hT hS hR
  obtain rfl:i=n:=by omega
  refine u1b u16 ?_
  rw[u03 u0S _]
  show wpAny _ A.in1 (pyNext (.ref I)>>=_) _ _ s
  refine u0 (W.done s _ _ hst λs' hm=>?_)
  show wpAny _ A.in1 (ret Value.none) _ _ s'
  exact u6 (hR s' (hm.mono hsub) (hS.at λo e=>hm.heap S o hSw e))
 | succ k ih =>
  intro i s hk hi hst hT hS hR
  have hlt:i < n:=by omega
  refine u1b u16 ?_
  rw[u03 u0S _]
  show wpAny _ A.in1 (pyNext (.ref I)>>=_) _ _ s
  refine u0 (W.item i s _ _ hlt hst λv s' hP hst' hm=>?_)
  obtain rfl:=hval i v hP
  have hS':zaQ s'.heap S led (seenTo cd qa i):=hS.at λo e=>hm.heap S o hSw e
  have hT':∀ j,j < n->IsPr s'.heap (qa j) (cd j):=λj hj=>(hT j hj).at λo e=>hm.heap _ o (λz=>hqa j hj (b0 _ z)) e
  show wpAny _ A.in1 (holding [Value.ref (qa i)] (setAdd S (.ref (qa i)))>>=_) _ _ s'
  refine u0 (i5 ?_)
  unfold setAdd
  refine i5 ?_
  refine u0 (zi8 hu (hT' i hlt) ?_)
  have hne:qa i≠S:=λe=>hqa i hlt (by rw[e];exact g9)
  have hrows:Rows s'.heap (seenTo cd qa i):=λe he=>by
   obtain⟨k,hk,rfl⟩:=u0b.mp he
   have:=ixTo_lt hk
   exact⟨qa k,cd k,rfl,h64 k,hT' k (by omega)⟩
  have go:∀ h',Heap.SameBut S s'.heap h'->zaQ h' S led (seenTo cd qa (i+1))->codeAny (model prog w) A (.builtin "set.update.loop" ⟨[.ref S,.ref I],[]⟩) R { s' with heap:=h',toks:=s'.toks+3 }:=λh' hsb hS2=>by
   refine ih (i+1) _ (by omega) hlt (W.frame _ s' _ _ hst' (u0p _ _) λb hb o e=>?_) (λj hj=>(hT' j hj).at λo e=>?_) hS2 λs'' hm'' hS''=>?_
   .rw[hsb.2 b (λh:b=S=>hSf (by rw[<-h];exact hb))];exact e
   .rw[hsb.2 (qa j) (λh:qa j=S=>hqa j hj (by rw[h];exact g9))];exact e
   .refine hR s'' (Moved.trans W.gtrans ((hm.mono hsub).then_heap (u0p _ _) λb o hb e=>?_) hm'') hS''
    rw[hsb.2 b (λh:b=S=>hb (by rw[h];exact g9))];exact e
  by_cases hin:cd i∈(ixTo cd i).map cd
  .have es:seenTo cd qa (i+1)=seenTo cd qa i:=by unfold seenTo;rw[ixTo,q5 hin]
   refine zlx (s:={ s' with toks:=s'.toks+3 }) hu hS' hrows (zar h64 i) (hT' i hlt) (h64 i) ((VP h64 i).mpr hin) ?_
   exact u6 ⟨u11 u0S _,go s'.heap (Heap.SameBut.refl S s'.heap) (by rw[es];exact hS')⟩
  .have es:seenTo cd qa (i+1)=seenTo cd qa i++[(hs (cd i),.ref (qa i))]:=by unfold seenTo;rw[ixTo,j4 hin,p6];rfl
   refine zmj (s:={ s' with toks:=s'.toks+3 }) hS' (λe he=>?_) (by have:=ixTo_len cd i;unfold seenTo;rw[u7];omega) (hT' i hlt) hne (h64 i) (λe he z=>?_) λh' hsb hS2=>?_
   .obtain⟨q,c,rfl,hc,_⟩:=hrows e he
    exact⟨c,hc,rfl⟩
   .exact hin ((VP (qa:=qa) h64 i).mp (by rw[<-z];exact u1m he))
   rw[<-es]at hS2
   exact u6 ⟨u11 u0S _,go h' hsb hS2⟩
end
section
variable {prog:Program}{w:World}{A:Around}{E:Value->Shared->Prop}{s:Shared}
theorem ziZ {l a:Addr} {items:Array Value} {led:Bool} {cd:Nat->Nat} {qa:Nat->Addr} {R:Result->Shared->Prop} (hh:A.handled=none) (hu:A.units+8 < cLine) (hS:s.heap.get? a=some { cls:=.type "set",dict:=none,data:=.set #[] 0 (.fresh 0 0 led) })
 (hl:s.heap.IsTuple l items\/s.heap.IsList l items) (hla:l≠a) (h64:∀ i,cd i < 64) (hn:items.size<=64) (hval:∀ (i:Nat) (v:Value),items[i]?=some v->v=.ref (qa i))
 (hqa:∀ i,i < items.size->qa i≠a/\IsPr s.heap (qa i) (cd i))
 (h:∀ (h':Heap) (tk:Nat),zaQ h' a led (seenTo cd qa items.size)->(∀ b o,b≠a->b < s.heap.objs.size->s.heap.get? b=some o->h'.get? b=some o)->R (.ok (.ret .none)) { s with heap:=h',toks:=tk }) :
 wpAny (model prog w) A.in1 (Builtin.«set.__init__» ⟨[.ref a,.ref l],[]⟩) (λfin s'=>match fin with | .done f=>R (.ok f) s' | .again c'=>c'.quiet=true/\codeAny (model prog w) A c' R s') (λe s'=>R (.error e) s') s:=by
 have hT:s.TypeIs (.ref a) "set":=⟨_,hS,rfl⟩
 have haS:a < s.heap.objs.size:=t9 hS
 have lt:∀ i,i < items.size->qa i < s.heap.objs.size:=λi hi=>by obtain⟨_,o,n,t1,t2,e,_⟩:=hqa i hi;exact t9 e
 have fin:∀ (s':Shared),s'.gens=s.gens->s'.drawn=s.drawn->s'.os=s.os->zaQ s'.heap a led (seenTo cd qa items.size)->(∀ b o,b≠a->b < s.heap.objs.size->s.heap.get? b=some o->s'.heap.get? b=some o)->R (.ok (.ret .none)) s':=λs' e1 e2 e3 S k=>by
  obtain⟨h',g',d',tk',os'⟩:=s'
  have eg:g'=s.gens:=e1
  have ed:d'=s.drawn:=e2
  have eo:os'=s.os:=e3
  subst eg ed eo
  exact h h' tk' S k
 have hh3:A.in1.in1.handled=none:=by simp[hh]
 rcases hl with hl | hl
 .obtain⟨ol,hol,hcl,nl,hdl⟩:=id hl
  obtain⟨ocls,odict,odata,oslots⟩:=ol
  simp only at hcl hdl
  subst hcl hdl
  have hsls:=F.sub_tuple_set
  have hslf:=F.sub_tuple_frozenset
  have hne:(Value.type "tuple" == Value.type "dict")=false:=by decide
  have hlS:l < s.heap.objs.size:=t9 hol
  unfold Builtin.«set.__init__» noKeywords Builtin.Frozenset.updateFrom
  generalize hPI:pyIter=PI
  wp_walk
  subst hPI
  refine u0G hl ?_
  refine u0 (u3w ?_)
  refine zdo ((Walks.tuple hh3 _ l (r8 hlS) items).toS) a led (λhm=>?_) (by show A.units+1+1 < _;omega) cd qa h64 hn hval (λi hi hm=>?_) items.size 0 _ rfl (u0F _) ⟨⟨_,j7 _ rfl,rfl,rfl⟩,hl.push _⟩ (λj hj=>(hqa j hj).2.at λo e=>u4 _ e) (zdT _ led (u4 _ hS)) λs' hm hS'=>?_
  .rcases j5.mp hm with e | e
   .exact r8 haS e
   .exact hla (j9.mp e).symm
  .rcases j5.mp hm with e | e
   .exact(hqa i hi).1 e
   .exact r8 (lt i hi) (j9.mp e)
  .show wpAny _ _ _ _ _ _
   refine u6 ?_
   show wpAny _ _ (ret Value.none) _ _ _
   refine u6 (fin s' hm.gens hm.drawn hm.os hS' λb o hb hlt e=>hm.heap b o (λhmem=>?_) (u4 _ e))
   rcases j5.mp hmem with z | z
   .exact hb z
   .exact r8 hlt (j9.mp z)
 .obtain⟨ol,hol,hcl,nl,hdl⟩:=id hl
  obtain⟨ocls,odict,odata,oslots⟩:=ol
  simp only at hcl hdl
  subst hcl hdl
  have hsls:=F.sub_list_set
  have hslf:=F.sub_list_frozenset
  have hne:(Value.type "list" == Value.type "dict")=false:=by decide
  have hlS:l < s.heap.objs.size:=t9 hol
  unfold Builtin.«set.__init__» noKeywords Builtin.Frozenset.updateFrom
  generalize hPI:pyIter=PI
  wp_walk
  subst hPI
  refine u1i hl ?_
  refine u0 (u3w ?_)
  refine zdo ((Walks.list hh3 _ l (r8 hlS) items).toS) a led (λhm=>?_) (by show A.units+1+1 < _;omega) cd qa h64 hn hval (λi hi hm=>?_) items.size 0 _ rfl (u0F _) ⟨⟨_,j7 _ rfl,rfl,rfl⟩,hl.push _⟩ (λj hj=>(hqa j hj).2.at λo e=>u4 _ e) (zdT _ led (u4 _ hS)) λs' hm hS'=>?_
  .rcases j5.mp hm with e | e
   .exact r8 haS e
   .exact hla (j9.mp e).symm
  .rcases j5.mp hm with e | e
   .exact(hqa i hi).1 e
   .exact r8 (lt i hi) (j9.mp e)
  .show wpAny _ _ _ _ _ _
   refine u6 ?_
   show wpAny _ _ (ret Value.none) _ _ _
   refine u6 (fin s' hm.gens hm.drawn hm.os hS' λb o hb hlt e=>hm.heap b o (λhmem=>?_) (u4 _ e))
   rcases j5.mp hmem with z | z
   .exact hb z
   .exact r8 hlt (j9.mp z)
set_option maxHeartbeats 4000000 in
theorem sq_call {l:Addr}{items:Array Value}{cd:Nat->Nat}{qa:Nat->Addr}{Q:Value->Shared->Prop}(hh:A.handled=none)(hu:A.units+64 < cLine)(hl:s.heap.IsTuple l items\/s.heap.IsList l items)(h64:∀ i,cd i < 64)(hn:items.size<=64)(hval:∀ (i:Nat) (v:Value),items[i]?=some v->v=.ref (qa i))(hqa:∀ i,i < items.size->IsPr s.heap (qa i) (cd i))
 (h:∀ (h':Heap) (tk:Nat),zaQ h' s.heap.objs.size (OwnSet.ledOf w) (seenTo cd qa items.size)->(∀ b o,s.heap.get? b=some o->h'.get? b=some o)->Q (.ref s.heap.objs.size) { s with heap:=h',toks:=tk }) :
 wpAny (model prog w) A (call (.type "set") [.ref l]) Q E s:=by
 obtain⟨c,tl,hmro⟩:=u1Q.mro
 have hmade:=u1Q.made
 have hsub:=u1Q.sub
 refine u2C (codeAny_of_tree ?_)
 show wpAny _ _ (callAny (.type "set") _) _ _ _
 refine u6 ⟨u2i _ (by decide +kernel),u1b F.entry_type_call ?_⟩
 rw[Around.under_plain (weight_type_call_type "set" [.ref l] []) rfl]
 have h1:=u1Q.notType
 have h2:=u1Q.canCreate
 have hct:=F.typeCall_set_1 (.ref l)
 repeat (any_goals (first | assumption | wp_step))
 refine u2g (OwnSet.own_set_new (.ref l) (E:=E) (Q1:=λobj s1=>obj=.ref s.heap.objs.size/\s1={ s with heap:=s.heap.push { cls:=.type "set",dict:=none,data:=.set #[] 0 (.fresh 0 0 (OwnSet.ledOf w)) } }) ⟨rfl,rfl⟩) λr s1 hr=>?_
 cases r with
 | error e=>exact hr
 | ok fl =>
  cases fl with
  | ret obj =>
   obtain⟨rfl,rfl⟩:=hr
   have hS:(s.heap.push { cls:=.type "set",dict:=none,data:=.set #[] 0 (.fresh 0 0 (OwnSet.ledOf w)) }).get? s.heap.objs.size=some { cls:=.type "set",dict:=none,data:=.set #[] 0 (.fresh 0 0 (OwnSet.ledOf w)) }:=j7 _ rfl
   have hT:Shared.TypeIs { s with heap:=s.heap.push { cls:=.type "set",dict:=none,data:=.set #[] 0 (.fresh 0 0 (OwnSet.ledOf w)) } } (.ref s.heap.objs.size) "set":=⟨_,hS,rfl⟩
   have hli:=u1Q.init.lookup
   have hbi:=u1Q.init.bind (.ref s.heap.objs.size)
   repeat (any_goals (first | assumption | wp_step))
   refine u2g (u1z (R:=wants (λr s2=>r=.none/\∃ h' tk,s2={ s with heap:=h',toks:=tk }/\zaQ h' s.heap.objs.size (OwnSet.ledOf w) (seenTo cd qa items.size)/\∀ b o,s.heap.get? b=some o->h'.get? b=some o) E) u1Q.init.plain F.entry_set_init (check_set_init_1 hT ?_)) λr2 s2 hr2=>?_
   .have hll:l < s.heap.objs.size:=by rcases hl with ⟨o,ho,_⟩ | ⟨o,ho,_⟩ <;> exact t9 ho
    refine ziZ (by simp[hh]) (by show A.units+1+8 < cLine;omega) hS (hl.imp (·.push _) (·.push _)) (r8 hll) h64 hn hval (λi hi=>⟨λe=>?_,(hqa i hi).at λo e=>u4 _ e⟩) λh' tk S k=>⟨rfl,h',tk,rfl,S,λb o e=>k b o (r8 (t9 e)) ?_ (u4 _ e)⟩
    .obtain⟨o,n,t1,t2,e2,_⟩:=hqa i hi
     exact r8 (t9 e2) e
    .rw[u0Q]
     exact u0u (t9 e)
   .cases r2 with
    | error e=>exact hr2
    | ok fl2 =>
     cases fl2 with
     | ret r =>
      obtain⟨rfl,h',tk,rfl,S,k⟩:=hr2
      repeat (any_goals (first | assumption | wp_step))
      exact h _ _ S k
     | _=>exact hr2.elim
  | _=>exact hr.elim
end
end OwnSetP
namespace Dl
open PySem L2 PySem.Spec PyProof.Rows
def ddp (ts:List Pr):List Pr:=(OwnSetP.ixTo (λi=>prC (ts.getD i (0,0))) ts.length).map λk=>ts.getD k (0,0)
theorem zdw (ts:List Pr):(ddp ts).Nodup:=by
 have h:=OwnSetP.ixTo_nodup (λi=>prC (ts.getD i (0,0))) ts.length
 unfold ddp
 refine u0X.mpr ((u0X.mp h).imp λ{a b} hne e=>hne ?_)
 show prC _=prC _
 rw[e]
theorem zhm {ts:List Pr}(hs:∀ t∈ts,smP t=true)(h:ts.Nodup):ddp ts=ts:=by
 have e:OwnSetP.ixTo (λi=>prC (ts.getD i (0,0))) ts.length=List.range ts.length:=OwnSetP.ixTo_all λi j hij hj e=>by
  have gi:ts.getD i (0,0)=ts[i]:=by simp[show i < ts.length by omega]
  have gj:ts.getD j (0,0)=ts[j]:=by simp[hj]
  have e:prC (ts.getD i (0,0))=prC (ts.getD j (0,0)):=e
  rw[gi,gj]at e
  exact i9.mp h i j (by omega) hj hij (zi0 (hs _ (u0e _)) (hs _ (u0e _)) e)
 unfold ddp
 rw[e]
 apply u2K
 .rw[u7,u0q]
 .intro i h1 h2
  rw[u1d,u1c]
  simp[h2]
def zkd (ds:List D):Option (List D):=(zak ds).bind λts=>if ts.length < 64/\ts.all smP=true then some ((vf (ddp ts)).map prD)else none
def ssqD:D->Option (List D)
 | .lst ds=>zkd ds
 | .tup ds=>zkd ds
 | _=>none
theorem zdA {ds out:List D}(h:zkd ds=some out):∃ ts,ds=ts.map prD/\ts.length < 64/\(∀ t∈ts,smP t=true)/\out=(vf (ddp ts)).map prD:=by
 obtain⟨ts,h1,h2⟩:=u5.mp h
 by_cases c:ts.length < 64/\ts.all smP=true
 .rw[q5 c]at h2
  cases h2
  exact⟨ts,WV h1,c.1,u0B.mp c.2,rfl⟩
 .rw[j4 c]at h2
  cases h2
theorem zjq {ts:List Pr}(h1:ts.length < 64)(h2:∀ t∈ts,smP t=true):zkd (ts.map prD)=some ((vf (ddp ts)).map prD):=by
 unfold zkd
 rw[zaj]
 exact q5 ⟨h1,u0B.mpr h2⟩
variable [KK]{X:Cx}{e:Expr}
def tSQ (K:W.Frag)(ta:TE):TE:=fun σ H Q=>ta σ H λx H1=>∃ F p ys ts,x=.ref p/\zZ F H1/\(SqT K H1 p ys\/SqL K H1 p ys)/\AtL F (ts.map prD) ys/\ts.length < 64/\(∀ t∈ts,smP t=true)/\∀ l zs,H1 l=none->AtL F ((vf (ddp ts)).map prD) zs->Q (.ref l) (upd H1 l (.lst zs))
theorem zay {k:Nat} {a:Expr} {ta:TE} {p1 p2 pos1 pos2:Pos} (hr:wB k X.A) (hg1:Gl X "sorted") (hm1:X.mg "sorted"=none) (hg2:Gl X "set") (hm2:X.mg "set"=none) (ha:PE X a ta)
 (hs:starEach [a] X.env=[(false,eval a X.env)]:=by rfl) (hs2:starEach [.Call (.Name "set" p2) [a] [] pos2] X.env=[(false,eval (.Call (.Name "set" p2) [a] [] pos2) X.env)]:=by rfl):PE X (.Call (.Name "sorted" p1) [.Call (.Name "set" p2) [a] [] pos2] [] pos1) (tSQ X.K ta):=by
 intro pins s σ H Q I h
 refine Call_ (YN I hg1 hm1 Xm (u2F (Q:=EP X pins σ Q) ?_ hs2 rfl))
 rw[hs2]
 show wpAny _ _ (spliced ((false,eval (.Call (.Name "set" p2) [a] [] pos2) X.env)::[])) _ _ _
 refine u1O ?_
 refine Call_ (YN I hg2 hm2 zkD (u0J ?_ hs rfl))
 rw[hs]
 show wpAny _ _ (spliced ((false,eval a X.env)::[])) _ _ _
 refine u1O (thn (ha pins s σ H _ I h) λv s1 hh9=>?_)
 obtain⟨x,H1,I1,r1,q1⟩:=hh9
 obtain⟨F,t,ys,ts,rfl,sm,hx,al,h64,hsm,q⟩:=q1
 cases r1
 obtain⟨its,rv,pt⟩:∃ its,yt ys its/\(s1.heap.IsTuple t its.toArray\/s1.heap.IsList t its.toArray):=by
  rcases hx with hx | hx
  .obtain⟨its,rv,pt,_⟩:=I1.tuple hx
   exact⟨its,rv,.inl pt⟩
  .obtain⟨its,rv,pt,_⟩:=I1.list hx
   exact⟨its,rv,.inr pt.isList⟩
 have hlen:its.length=ts.length:=by rw[<-rv.length,al.length,u7]
 have look:∀ i,(hi:i < ts.length)->∃ b,its[i]?=some (.ref b)/\F b=some (.tup [.int ts[i].1,.int ts[i].2])/\OwnSort.TP s1.heap (.ref b) ts[i]/\OwnSetP.IsPr s1.heap b (prC ts[i]):=λi hi=>by
  obtain⟨x,hx,ax⟩:=al.get (i:=i) (d:=prD ts[i]) (by rw[d6];simp[hi])
  obtain⟨b,rfl,hb⟩:=ax.pr_inv
  obtain⟨v,hv,rvv⟩:=rv.get hx
  have rvv:v=.ref b:=rvv
  subst rvv
  obtain⟨us,ru,⟨o,ho,hcl,n,hd⟩,_⟩:=I1.tuple (SqT.of (sm _ _ hb))
  obtain⟨u1,u2,rfl,r1,r2⟩:=zbr ru
  obtain⟨t1,rfl⟩:=r1
  obtain⟨t2,rfl⟩:=r2
  obtain⟨_,c1,c2⟩:=zb3 (hsm _ (u0e hi))
  exact⟨b,hv,hb,⟨b,o,n,t1,t2,rfl,ho,hcl,hd⟩,o,n,t1,t2,ho,hcl,by rw[c1,c2];exact hd⟩
 obtain⟨qa,hqa⟩:∃ qa:Nat->Addr,∀ i,(hi:i < ts.length)->its[i]?=some (.ref (qa i))/\F (qa i)=some (.tup [.int ts[i].1,.int ts[i].2])/\OwnSort.TP s1.heap (.ref (qa i)) ts[i]/\OwnSetP.IsPr s1.heap (qa i) (prC ts[i]):=by
  refine⟨λi=>if hi:i < ts.length then (look i hi).choose else 0,λi hi=>?_⟩
  dsimp only
  rw[u4q hi]
  exact(look i hi).choose_spec
 obtain⟨cd,hcd'⟩:∃ cd:Nat->Nat,(λi=>prC (ts.getD i (0,0)))=cd:=⟨_,rfl⟩
 have hcd:∀ i,cd i=prC (ts.getD i (0,0)):=λi=>by rw[<-hcd']
 have cdi:∀ i,(hi:i < ts.length)->cd i=prC ts[i]:=λi hi=>by rw[hcd,show ts.getD i (0,0)=ts[i] by simp[hi]]
 have c64:∀ i,cd i < 64:=λi=>by
  by_cases hi:i < ts.length
  .rw[cdi i hi];exact(zb3 (hsm _ (u0e hi))).1
  .rw[hcd,show ts.getD i (0,0)=(0,0) by simp[u0K hi]];decide
 have hz:its.toArray.size=ts.length:=by rw[j6,hlen]
 refine u2w ?_
 refine OwnSetP.sq_call (cd:=cd) (qa:=qa) hr.hd hr.units pt c64 (by rw[hz];omega) (λi v hv=>?_) (λi hi=>?_) λh2 tk2 hS2 k2=>?_
 .have hv':its[i]?=some v:=by simpa using hv
  have hi:i < ts.length:=by have:=(t6.mp hv').1;omega
  rw[(hqa i hi).1]at hv'
  exact(u0m hv').symm
 .rw[hz]at hi
  rw[cdi i hi]
  exact(hqa i hi).2.2.2
 refine u2w ?_
 rw[hz]at hS2
 obtain⟨es,ep,tb,ho,hp,ht,-⟩:=hS2
 obtain⟨ix,hix⟩:∃ ix,OwnSetP.ixTo cd ts.length=ix:=⟨_,rfl⟩
 have hixl:∀ k∈ix,k < ts.length:=λk hk=>OwnSetP.ixTo_lt (by rw[hix];exact hk)
 have hixn:ix.length<=ts.length:=by rw[<-hix];exact OwnSetP.ixTo_len cd _
 have hpv:(es.toList.map (·.2)).Perm (ix.map λk=>Value.ref (qa k)):=by
  refine(hp.map _).trans ?_
  unfold OwnSetP.seenTo
  rw[hix,u0H]
  exact u0Y _
 have hix2:ix.map (λk=>ts.getD k (0,0))=ddp ts:=by rw[<-hix,<- hcd'];rfl
 have hTP:∀ v∈ix.map (λk=>Value.ref (qa k)),∃ b t,v=.ref b/\F b=some (.tup [.int t.1,.int t.2])/\OwnSort.TP s1.heap v t:=λv hv=>by
  obtain⟨k,hk,rfl⟩:=u0b.mp hv
  obtain⟨e1,e2,e3,_⟩:=hqa k (hixl k hk)
  exact⟨qa k,ts[k]'(hixl k hk),rfl,e2,e3⟩
 refine OwnSetP.sp_sorted hr.hd ht ho (λv hv=>?_) (by have:=hpv.length_eq;rw[u7,u7,t7]at this;omega) λh3 h4 tk4 out c pm ri k3 k4 hL=>?_
 .obtain⟨b,t,_,_,ht⟩:=hTP v (hpv.mem_iff.mp hv)
  exact⟨t,ht.keep k2⟩
 have pm:=pm.trans hpv
 obtain⟨us,l1,l2,l3⟩:=ri
 have l2':∀ (i:Nat) v t,out.toList[i]?=some v->us[i]?=some t->OwnSort.TP s1.heap v t:=λi v t h1 h2=>by
  obtain⟨b,t0,_,_,ht0⟩:=hTP v (pm.mem_iff.mp (b6 h1))
  rw[(l2 i v t h1 h2).uniq (ht0.keep k2)]
  exact ht0
 have zsOf:∀ (ws:List Value) (vs:List Pr),ws.length=vs.length->(∀ w∈ws,w∈ix.map λk=>Value.ref (qa k))->(∀ (i:Nat) v t,ws[i]?=some v->vs[i]?=some t->OwnSort.TP s1.heap v t)->∃ zs:List V,yt zs ws/\AtL F (vs.map prD) zs:=by
  intro ws
  induction ws with
  | nil =>
   intro vs hl _ _
   cases vs with
   | nil=>exact⟨[],.nil,.nil⟩
   | cons _ _=>simp at hl
  | cons w ws ih =>
   intro vs hl hm ht
   cases vs with
   | nil=>simp at hl
   | cons t vs =>
    obtain⟨zs,z1,z2⟩:=ih vs (by simpa using hl) (λw' hw'=>hm w' (b0 _ hw')) (λi v t h1 h2=>ht (i+1) v t (by simpa using h1) (by simpa using h2))
    obtain⟨a,t',rfl,ha,htp⟩:=hTP w (hm w g9)
    have et:t'=t:=htp.uniq (ht 0 _ t rfl rfl)
    subst et
    exact⟨.ref a::zs,.cons rfl z1,.cons (.tup ha (.cons .int (.cons .int .nil))) z2⟩
 have kv:∀ (ws:List Value) (vs:List Pr),ws.length=vs.length->(∀ (i:Nat) v t,ws[i]?=some v->vs[i]?=some t->OwnSort.TP s1.heap v t)->vs=ws.map λv=>(OwnSort.keyP s1.heap v).getD (0,0):=by
  intro ws
  induction ws with
  | nil=>intro vs hl _;cases vs with
   | nil=>rfl
   | cons _ _=>simp at hl
  | cons w ws ih =>
   intro vs hl ht
   cases vs with
   | nil=>simp at hl
   | cons t vs =>
    rw[i8,OwnSort.keyP_of (ht 0 w t rfl rfl),<- ih vs (by simpa using hl) λi v t h1 h2=>ht (i+1) v t (by simpa using h1) (by simpa using h2)]
    rfl
 obtain⟨zs,z1,z2⟩:=zsOf out.toList us l1 (λw hw=>pm.mem_iff.mp hw) l2'
 have keysPerm:us.Perm (ddp ts):=by
  rw[kv _ _ l1 l2',<- hix2,kv (ix.map λk=>Value.ref (qa k)) (ix.map λk=>ts.getD k (0,0)) (by rw[u7,u7]) λi v t h1 h2=>?_]
  .exact pm.map _
  .rw[d6]at h1 h2
   obtain⟨k,hk,rfl⟩:=u9.mp h1
   rw[hk]at h2
   cases h2
   have hl:=hixl k (b6 hk)
   have e:ts.getD k (0,0)=ts[k]:=by simp[hl]
   show OwnSort.TP s1.heap (.ref (qa k)) (ts.getD k (0,0))
   rw[e]
   exact(hqa k hl).2.2.1
 rw[Zg keysPerm l3]at z2
 have I2:Inv X pins σ H1 { s1 with heap:=h3,toks:=tk4 }:=I1.kept λb u e=>k3 b u (k2 b u e)
 refine⟨.ref h3.objs.size,_,I2.laid (t':=tk4) (λb o e=>k4 b o e) (j3 _) (show yk X.prog X.w _ h4 _ (.lst zs) from⟨?_,out.toList,c,z1,by simpa using hL⟩),rfl,q _ zs (I2.hok.fresh (j3 _)) z2⟩
 have:zs.length=out.toList.length:=z1.length
 rw[this,l1,keysPerm.length_eq,<- hix2,u7]
 exact u0I (vN (by omega))
def fSQ (f:Ev->Option D):Ev->Option (List D):=fun ρ=>(f ρ).bind ssqD
theorem zaO {k:Nat} {p1 p2 pos1 pos2:Pos} {f:Ev->Option D} (hr:wB k X.A) (hg1:Gl X "sorted") (hm1:X.mg "sorted"=none) (hg2:Gl X "set") (hm2:X.mg "set"=none) (ha:ED X e f)
 (hs:starEach [e] X.env=[(false,eval e X.env)]:=by rfl) (hs2:starEach [.Call (.Name "set" p2) [e] [] pos2] X.env=[(false,eval (.Call (.Name "set" p2) [e] [] pos2) X.env)]:=by rfl) :
 FL X (.Call (.Name "sorted" p1) [.Call (.Name "set" p2) [e] [] pos2] [] pos1) (fSQ f):=by
 obtain⟨t,pa,ra⟩:=ha
 refine⟨_,zay hr hg1 hm1 hg2 hm2 pa hs hs2,fun σ ρ F H z Q s va e q=>?_⟩
 obtain⟨d,e1,e2⟩:=u5.mp e
 refine ra σ ρ F H d _ s va e1 λF1 H1 v g1 a1=>?_
 cases d with
 | lst ds =>
  obtain⟨ts,rfl,h1,h2,rfl⟩:=zdA e2
  obtain⟨p,xs,rfl,hx,bl⟩:=a1.lst_inv
  exact⟨F1,p,xs,ts,rfl,g1.fh,.inr (SqL.of (g1.fh _ _ hx)),bl,h1,h2,λl zs hl az=>q _ _ _ _ (g1.trans (Gr.hide g1.fh hl _)) (zbl g1 hl) (g1.fh.free hl) zn az⟩
 | tup ds =>
  obtain⟨ts,rfl,h1,h2,rfl⟩:=zdA e2
  obtain⟨p,xs,rfl,hx,bl⟩:=a1.tup_inv
  exact⟨F1,p,xs,ts,rfl,g1.fh,.inl (SqT.of (g1.fh _ _ hx)),bl,h1,h2,λl zs hl az=>q _ _ _ _ (g1.trans (Gr.hide g1.fh hl _)) (zbl g1 hl) (g1.fh.free hl) zn az⟩
 | _=>cases e2
end Dl
namespace Mz
open PySem Dl
abbrev Tie:=Int × Int
def ltP (s t:Tie):Prop:=s.1 < t.1\/(s.1=t.1/\s.2 < t.2)
instance (s t:Tie):Decidable (ltP s t):=by unfold ltP;infer_instance
theorem VU {a b c:Tie}(h:ltP a b)(k:ltP b c):ltP a c:=by
 unfold ltP at *
 omega
def zc (t:Tie):D:=.tup [.int t.1,.int t.2]
theorem zds {s t:Tie}(h:zc s=zc t):s=t:=by
 unfold zc at h
 injection h with h
 injection h with h1 h2
 injection h2 with h2 _
 injection h1 with h1
 injection h2 with h2
 exact u10 h1 h2
def zD (many:Int)(ties:List Tie):D:=.tup [.int many,.tup (ties.map zc)]
structure xD (many:Int) (ties:List Tie):Prop where
 lo:1<=many
 hi:many<=8
 rng:∀ t∈ties,0<=t.1/\t.1 < t.2/\t.2 < many
 srt:ties.Pairwise ltP
def leP (s t:Tie):Bool:=if s.1=t.1 then (if s.2=t.2 then true else decide (s.2<=t.2))else decide (s.1<=t.1)
theorem wX {s t:Tie}:leP s t=false↔ltP t s:=by
 unfold leP ltP
 by_cases h:s.1=t.1
 .rw[q5 h]
  by_cases k:s.2=t.2
  .rw[q5 k];simp;omega
  .rw[j4 k,u0z];omega
 .rw[j4 h,u0z];omega
def Yn:D->Option Tie
 | .tup [.int a,.int b]=>some (a,b)
 | _=>none
theorem vO (t:Tie):Yn (zc t)=some t:=rfl
theorem XO {d:D}{t:Tie}(h:Yn d=some t):d=zc t:=by
 unfold Yn at h
 split at h
 .cases h;rfl
 .cases h
def inR (m a:Int):Bool:=decide (0<=a)&&decide (a<=m - 1)
def x6 (m:Int)(d:D):Bool:=match Yn d with
 | some t=>inR m t.1&&inR m t.2&&!decide (t.1=t.2)
 | none=>false
def zax (p:Option Tie)(t:Tie):Bool:=match p with
 | some q=>!leP t q
 | none=>true
def yr (m:Int):Option Tie->List D->Bool
 | _,[]=>true
 | p,d::r=>match Yn d with
  | some t=>x6 m d&&!decide (t.2 < t.1)&&zax p t&&yr m (some t) r
  | none=>false
def v9 (m:Int):D->Bool
 | .tup ts=>yr m none ts
 | _=>false
def Yl:D->Bool
 | .tup [.int m,t]=>decide (1<=m)&&decide (m<=8)&&v9 m t
 | _=>false
theorem Zz (m:Int):∀ (ts:List D) (p:Option Tie),yr m p ts=true↔∃ l:List Tie,ts=l.map zc/\(∀ t∈l,0<=t.1/\t.1 < t.2/\t.2 < m)/\(∀ q,p=some q->∀ t∈l,ltP q t)/\l.Pairwise ltP:=by
 intro ts
 induction ts with
 | nil =>
  intro p
  refine⟨λ_=>⟨[],rfl,by simp,by simp,.nil⟩,λ_=>rfl⟩
 | cons d r ih =>
  intro p
  unfold yr
  cases e:Yn d with
  | none =>
   refine Iff.intro (λh=>nomatch h) (λhh=>?_)
   obtain⟨l,h,_⟩:=hh
   cases l with
   | nil=>cases h
   | cons t l' =>
    rw[i8]at h
    injection h with h1 _
    rw[h1,vO]at e
    cases e
  | some t =>
   have ed:=XO e
   subst ed
   simp only[x6,vO,p4,u2v,u0z,inR,p0]
   rw[ih (some t)]
   constructor
   .rintro⟨⟨⟨⟨⟨h1,h2⟩,h3⟩,h4⟩,h5⟩,l,rfl,hr,hq,hs⟩
    refine⟨t::l,rfl,?_,?_,u00.mpr ⟨hq t rfl,hs⟩⟩
    .intro u hu
     rcases j5.mp hu with rfl | hu
     .omega
     .exact hr u hu
    .rintro q rfl u hu
     have hqt:ltP q t:=wX.mp (by simpa [zax]using h5)
     rcases j5.mp hu with rfl | hu
     .exact hqt
     .exact VU hqt (hq t rfl u hu)
   .rintro⟨l,h,hr,hq,hs⟩
    cases l with
    | nil=>cases h
    | cons u l' =>
     rw[i8]at h
     injection h with h1 h2
     have hu:=zds h1
     subst hu
     have hb:=hr t (by simp)
     refine⟨⟨⟨⟨⟨by omega,by omega⟩,by omega⟩,by omega⟩,?_⟩,l',h2,λv hv=>hr v (by simp[hv]),λq hqe v hv=>?_,(u00.mp hs).2⟩
     .cases p with
      | none=>rfl
      | some q =>
       have:=wX.mpr (hq q rfl t (by simp))
       simp[zax,this]
     .cases hqe
      exact(u00.mp hs).1 v hv
theorem Zm (d:D):Yl d=true↔∃ m ties,d=zD m ties/\xD m ties:=by
 constructor
 .intro h
  unfold Yl at h
  split at h
  .rename_i m t
   simp only[p4,p0]at h
   obtain⟨⟨h1,h2⟩,h3⟩:=h
   unfold v9 at h3
   split at h3
   .rename_i ts
    obtain⟨l,rfl,hr,_,hs⟩:=(Zz m ts none).mp h3
    exact⟨m,l,rfl,h1,h2,hr,hs⟩
   .cases h3
  .cases h
 .rintro⟨m,ties,rfl,w⟩
  unfold zD Yl v9
  simp only[p4,p0]
  exact⟨⟨w.lo,w.hi⟩,(Zz m _ none).mpr ⟨ties,rfl,w.rng,by simp,w.srt⟩⟩
theorem ziT {d:D}(h:∀ m ties,d=zD m ties->¬ xD m ties):Yl d=false:=by
 cases e:Yl d with
 | false=>rfl
 | true =>
  obtain⟨m,ties,rfl,w⟩:=(Zm d).mp e
  exact absurd w (h m ties rfl)
def xy (n:Nat):List Tie:=(List.range n).flatMap λa=>(List.range (n - (a+1))).map λ(j:Nat)=>((a:Int),(a:Int)+1+(j:Int))
theorem XM:∀ n:Nat,n<=8->(xy n).Pairwise ltP/\(∀ t∈xy n,0<=t.1/\t.1 < t.2/\t.2 < (n:Int))/\(xy n).length<=28:=by
 have h:∀ n:_root_.Fin 9,(xy n.val).Pairwise ltP/\(∀ t∈xy n.val,0<=t.1/\t.1 < t.2/\t.2 < (n.val:Int))/\(xy n.val).length<=28:=by decide +kernel
 exact λn hn=>h ⟨n,by omega⟩
end Mz
namespace Mz
open Dl
def zbi (i j:Nat):List Tie:=(List.range j).map λ(k:Nat)=>((i:Int),(i:Int)+1+(k:Int))
def xK (n i:Nat):List Tie:=(List.range i).flatMap λa=>zbi a (n - (a+1))
theorem zfw (n:Nat):xy n=xK n n:=rfl
theorem ZB (n i:Nat):xK n (i+1)=xK n i++zbi i (n - (i+1)):=by
 unfold xK
 rw[u36,List.flatMap_append]
 simp
theorem ZF (i j:Nat):(zbi i j).length=j:=by unfold zbi;simp
theorem zc4 (n:Nat)(hn:n<=8):∀ i:Nat,(xK n i).length<=8*i:=by
 intro i
 induction i with
 | zero=>simp[xK]
 | succ i ih =>
  rw[ZB,d9,ZF]
  omega
def ZJ (c k:Int):Int :=
 let a:=(c % 2147483647+977*k+1)*48271 % 2147483647
 let b:=a*a % 2147483629
 (b+40692*(k+3))*69621 % 2147483647 / 8
def adj (ts:List Tie)(a b:Int):Prop:=(a,b)∈ts\/(b,a)∈ts
inductive zhd (ts:List Tie) (p:Int):Nat->Int->Prop
 | zero:zhd ts p 0 p
 | step {k:Nat} {a b:Int}:zhd ts p k a->adj ts a b->zhd ts p (k+1) b
theorem zcx {P:Nat->Prop}:∀ k,P k->∃ j,P j/\∀ i,P i->j<=i:=by
 intro k
 induction k using Nat.strongRecOn with
 | _ k ih =>
  intro h
  by_cases c:∃ i,i < k/\P i
  .obtain⟨i,hi,h2⟩:=c
   exact ih i hi h2
  .exact⟨k,h,λi hi=>u0K λz=>c ⟨i,z,hi⟩⟩
def Within (ts:List Tie)(p:Int)(k:Nat)(v:Int):Prop:=∃ j,j<=k/\zhd ts p j v
theorem zjV {n:Nat}{i:Int}(h0:0<=i)(h1:i < n):L2.ixN n i=some i.toNat:=by
 unfold L2.ixN
 rw[q5 h0,q5 h1]
theorem Vv {α:Type}{xs:List α}{i:Int}{x:α}(h0:0<=i)(h:xs[i.toNat]?=some x):L2.atI xs i=some x:=by
 have:=(t6.mp h).1
 unfold L2.atI
 rw[zjV h0 (by omega)]
 exact h
theorem wV (ts:List Tie):(vf ts).Perm ts:=u22 _ _
theorem vK {ts:List Tie}(h:ts.Nodup):(vf ts).Pairwise ltP:=by
 have h1:(vf ts).Pairwise λa b=>zjJ a b=true:=u2k (λa b c h1 h2=>by rw[wD]at *;omega) (λa b=>by rw[u1P,wD,wD];omega) _
 have h2:(vf ts).Nodup:=(wV ts).nodup_iff.mpr h
 refine(h1.and h2).imp λ{a b} hh=>?_
 obtain⟨x,y⟩:=hh
 rw[wD]at x
 unfold ltP
 rcases x with x | x
 .exact .inl x
 .refine .inr ⟨x.1,?_⟩
  have:a.2≠b.2:=λe=>y (u10 x.1 e)
  omega
theorem W3 {α:Type}(xs:List α)(lo hi:Option Int):(ZL xs lo hi).length<=xs.length:=by
 unfold ZL
 rw[u04,u3S]
 omega
theorem zgk {a b:List D}(h:a.length+b.length<=1000):yQ (.lst a) (.lst b)=some (.lst (a++b)):=by
 show(if lim (a.length+b.length)=true then _ else none)=_
 rw[q5 (YW h)]
theorem Yt {m:Bool}{i:Nat}{f:Ev->Option D}{ρ ρ':SE}{d:D}(h:vEv m f ρ=some d)(h2:ρ.set i (.v d)=ρ':=by rfl):wS m i f ρ=.nx ρ':=by
 unfold wS
 rw[h,<- h2]
theorem Wz {f:Ev->Option D}{ρ:SE}{d:D}(h:f (visG ρ)=some d):XT f ρ=.nx ρ:=by
 unfold XT
 rw[h]
theorem y8 {f:Ev->Option D}{ρ:SE}{d:D}(h:f (visG ρ)=some d):yR f ρ=.rt d:=by
 unfold yR
 rw[h]
theorem zjh {i:Nat}{f:Ev->Option (List D)}{ρ ρ':SE}{ds:List D}(h:f (visF ρ)=some ds)(h2:ρ.set i (.o ds)=ρ':=by rfl):X4 i f ρ=.nx ρ':=by
 unfold X4
 rw[h,<- h2]
theorem xi {a b:Int}:neD (.int a) (.int b)=some (.bl (!decide (a=b))):=rfl
theorem xO {a m x:Int}(h:0 < m)(hx:a % m=x):0<=x/\x < m:=by
 subst hx
 exact⟨Int.emod_nonneg _ (by omega),Int.emod_lt_of_pos _ h⟩
theorem zkU {m:Int}{n:Nat}(h:m=((n+1:Nat):Int))(h7:n<=7):Y7 [.int 1,.int m]=some (ZW 1 n):=by
 show(if zfQ 1=true/\zfQ m=true then some (ZW 1 (m - 1).toNat)else none)=_
 rw[q5 ⟨yc.mpr ⟨by omega,by omega⟩,yc.mpr ⟨by omega,by omega⟩⟩,show(m - 1).toNat=n by omega]
theorem yG {a b:Int}:ZP (.int a) (.int b)=some (.bl (decide (a=b))):=rfl
theorem xn {a b:Bool}:ZP (.bl a) (.bl b)=some (.bl (decide (a=b))):=rfl
theorem yE {a b:PySem.Str}:ZP (.str a) (.str b)=some (.bl (decide (a=b))):=rfl
theorem zQ {a b:Int}:yQ (.int a) (.int b)=some (.int (a+b)):=rfl
theorem zb8 {a b:List D}(h:a.length+b.length<=1000):yQ (.tup a) (.tup b)=some (.tup (a++b)):=by
 show(if lim (a.length+b.length)=true then some (D.tup (a++b))else none)=_
 rw[q5 (YW h)]
section
variable {ρ:Ev}{f g h:Ev->Option D}{a:Ev->Option (List D)}{t u:Ev->Option Bool}{d e x y z:D}{ds es:List D}{b c:Bool}
theorem yS:zt ρ=some []:=rfl
theorem zu (h1:f ρ=some d)(h2:a ρ=some ds):zb f a ρ=some (d::ds):=by unfold zb;rw[h1,h2];rfl
theorem zL {n:Nat}{p:List D->Option D}(h1:a ρ=some ds)(h2:p ds=some d)(hl:ds.length=n:=by rfl):zv n p a ρ=some d:=by
 unfold zv
 rw[h1,b9,q5 hl,h2]
theorem V6 {i n:Nat}{p:List D->Option D}{σ σ':SE}(h1:a (visF σ)=some ds)(h2:p ds=some d)(hl:ds.length=n:=by rfl)(h3:σ.set i (.v d)=σ':=by rfl):wS false i (zv n p a) σ=.nx σ':=Yt (show zv n p a (visF σ)=some d from zL h1 h2 hl) h3
theorem ZM {i:Nat}{f:Ev->Option D}{σ σ':SE}(h:f (visF σ)=some d)(h3:σ.set i (.v d)=σ':=by rfl):wS false i f σ=.nx σ':=Yt (show f (visF σ)=some d from h) h3
theorem zB {k:D->D->Option D}(h1:f ρ=some x)(h2:g ρ=some y)(h3:k x y=some z):zp k f g ρ=some z:=by unfold zp;rw[h1,h2];exact h3
theorem zju {k:D->Option D}(h1:f ρ=some x)(h3:k x=some z):eUn k f ρ=some z:=by unfold eUn;rw[h1];exact h3
theorem v0 (h1:a ρ=some ds):x8 a ρ=some (.lst ds):=by unfold x8;rw[h1];rfl
theorem zfe {k:List D->Option D}(h1:a ρ=some ds)(h2:k ds=some d):eFn k a ρ=some d:=by unfold eFn;rw[h1];exact h2
theorem zen {k:List D->Option (List D)}(h1:a ρ=some ds)(h2:k ds=some es):fFn k a ρ=some es:=by unfold fFn;rw[h1];exact h2
theorem zaV (h1:a ρ=some ds)(hl:ds.length<=1000):y6 a ρ=some ds:=by unfold y6;rw[h1,b9,q5 (YW hl)]
theorem zeH (h1:a ρ=some ds)(hl:ds.length<=1000):xV a ρ=some (.tup ds):=by unfold xV;rw[h1,b9,q5 (YW hl)]
theorem zco (h1:f ρ=some d)(h2:wc d=some ds):iOf f ρ=some ds:=by unfold iOf;rw[h1];exact h2
theorem wm (h1:f ρ=some (.bl b)):tOf f ρ=some b:=by unfold tOf;rw[h1];rfl
theorem xt (h1:t ρ=some b):yd t ρ=some (!b):=by unfold yd;rw[h1];rfl
theorem zmq (h1:t ρ=some b)(h2:u ρ=some c):vD t u ρ=some (b||c):=by unfold vD;rw[h1,h2];cases b <;> rfl
theorem Wj (h1:t ρ=some true):vD t u ρ=some true:=by unfold vD;rw[h1];rfl
theorem ziL (h1:t ρ=some true)(h2:u ρ=some c):x5 t u ρ=some c:=by unfold x5;rw[h1];exact h2
theorem xz (h1:t ρ=some false)(h2:u ρ=some c):vD t u ρ=some c:=by unfold vD;rw[h1];exact h2
end
end Mz
namespace Mz
open PySem L2 Dl
def top (i:Nat):Stmt:=PySem.Challenge.pw_twoforone_k14_tallies_looked_at.main.body.getD i (.Pass ⟨0,0,0,0⟩)
abbrev Yz:Stmt:=top 17
abbrev xx:Stmt:=top 18
abbrev xE:Stmt:=top 19
abbrev Yx:Stmt:=top 20
abbrev Zd:Stmt:=top 22
abbrev YA:Stmt:=top 23
abbrev Xj:Stmt:=top 24
abbrev wP:Stmt:=top 25
abbrev wR:Stmt:=top 26
abbrev Zh:Stmt:=top 28
abbrev wA:Stmt:=top 31
abbrev xI:Stmt:=top 32
abbrev Yo:Stmt:=top 33
abbrev vq:Stmt:=top 34
abbrev Yy:Stmt:=top 35
abbrev vw:Stmt:=top 37
abbrev wo:Stmt:=top 38
abbrev vV:Stmt:=top 39
abbrev vo:Stmt:=top 40
abbrev vn:Stmt:=top 41
abbrev wN:Stmt:=top 42
abbrev xJ:Stmt:=top 43
abbrev vR:Stmt:=top 44
abbrev vW:Stmt:=top 45
abbrev xF:Stmt:=top 46
abbrev vF:Stmt:=top 47
abbrev zeJ:Stmt:=top 48
theorem zbh:zC ["thing"] ["thing"] (zk Yz):=⟨rfl,rfl,rfl,by decide +kernel,rfl,by decide +kernel,by decide +kernel⟩
theorem YD:zC ["thing","least","most"] ["thing","least","most"] (zk xx):=⟨rfl,rfl,rfl,by decide +kernel,rfl,by decide +kernel,by decide +kernel⟩
theorem Zi:zC ["thing"] ["thing"] (zk xE):=⟨rfl,rfl,rfl,by decide +kernel,rfl,by decide +kernel,by decide +kernel⟩
theorem zaU:zC ["many","thing"] ["many","thing"] (zk Yx):=⟨rfl,rfl,rfl,by decide +kernel,rfl,by decide +kernel,by decide +kernel⟩
theorem zc8:zC ["many","thing"] ["many","thing"] (zk Zd):=⟨rfl,rfl,rfl,by decide +kernel,rfl,by decide +kernel,by decide +kernel⟩
theorem Yp:zC ["many","thing","at","tie"] ["many","thing"] (zk YA):=⟨rfl,rfl,rfl,by decide +kernel,rfl,by decide +kernel,by decide +kernel⟩
theorem zdV:zC ["thing"] ["thing"] (zk Xj):=⟨rfl,rfl,rfl,by decide +kernel,rfl,by decide +kernel,by decide +kernel⟩
theorem XW:zC ["thing"] ["thing"] (zk wP):=⟨rfl,rfl,rfl,by decide +kernel,rfl,by decide +kernel,by decide +kernel⟩
theorem X1:zC ["one","other"] ["one","other"] (zk wR):=⟨rfl,rfl,rfl,by decide +kernel,rfl,by decide +kernel,by decide +kernel⟩
theorem zc6:zC ["web","thing"] ["web","thing"] (zk Zh):=⟨rfl,rfl,rfl,by decide +kernel,rfl,by decide +kernel,by decide +kernel⟩
theorem Xq:zC ["web","thing"] ["web","thing"] (zk wA):=⟨rfl,rfl,rfl,by decide +kernel,rfl,by decide +kernel,by decide +kernel⟩
theorem xG:zC ["web","thing","at","row"] ["web","thing"] (zk xI):=⟨rfl,rfl,rfl,by decide +kernel,rfl,by decide +kernel,by decide +kernel⟩
theorem zba:zC ["web","thing"] ["web","thing"] (zk Yo):=⟨rfl,rfl,rfl,by decide +kernel,rfl,by decide +kernel,by decide +kernel⟩
theorem WU:zC ["times"] ["times"] (zk vq):=⟨rfl,rfl,rfl,by decide +kernel,rfl,by decide +kernel,by decide +kernel⟩
theorem yN:zC ["web","steps","times","at","step"] ["web","steps"] (zk Yy):=⟨rfl,rfl,rfl,by decide +kernel,rfl,by decide +kernel,by decide +kernel⟩
theorem Wy:zC ["found"] ["found"] (zk vw):=⟨rfl,rfl,rfl,by decide +kernel,rfl,by decide +kernel,by decide +kernel⟩
theorem Xu:zC ["web","thing"] ["web","thing"] (zk wo):=⟨rfl,rfl,rfl,by decide +kernel,rfl,by decide +kernel,by decide +kernel⟩
theorem wG:zC ["cell","k","number"] ["cell","k"] (zk vV):=⟨rfl,rfl,rfl,by decide +kernel,rfl,by decide +kernel,by decide +kernel⟩
theorem xr:zC ["e","found"] ["e"] (zk vo):=⟨rfl,rfl,rfl,by decide +kernel,rfl,by decide +kernel,by decide +kernel⟩
theorem wa:zC ["many","found","a"] ["many"] (zk vn):=⟨rfl,rfl,rfl,by decide +kernel,rfl,by decide +kernel,by decide +kernel⟩
theorem xN:zC ["many","cell","ties","k","tie"] ["many","cell"] (zk wN):=⟨rfl,rfl,rfl,by decide +kernel,rfl,by decide +kernel,by decide +kernel⟩
theorem yO:zC ["many","cell","ties","k","tie"] ["many","cell"] (zk xJ):=⟨rfl,rfl,rfl,by decide +kernel,rfl,by decide +kernel,by decide +kernel⟩
theorem vE:zC ["found","due","one","other"] ["found","due"] (zk vR):=⟨rfl,rfl,rfl,by decide +kernel,rfl,by decide +kernel,by decide +kernel⟩
theorem vL:zC ["web","thing","heads","row"] ["web","thing"] (zk vW):=⟨rfl,rfl,rfl,by decide +kernel,rfl,by decide +kernel,by decide +kernel⟩
theorem zG:zC ["web","tally","cell","at","row","bad","one","some"] ["web","tally","cell"] (zk xF):=⟨rfl,rfl,rfl,by decide +kernel,rfl,by decide +kernel,by decide +kernel⟩
theorem ZH:zC ["web","steps","e"] ["web","steps"] (zk vF):=⟨rfl,rfl,rfl,by decide +kernel,rfl,by decide +kernel,by decide +kernel⟩
theorem vU:zC ["script","cell","web","every","steps","due","handed","turn","thing","at","bad"] ["script"] (zk zeJ):=⟨rfl,rfl,rfl,by decide +kernel,rfl,by decide +kernel,by decide +kernel⟩
abbrev wn:Stmt:=zkv (top 12) 0
theorem zbo:zC ["self","at"] ["self","at"] (zk wn):=⟨rfl,rfl,rfl,by decide +kernel,rfl,by decide +kernel,by decide +kernel⟩
structure Adr where
 f_is_whole:Addr
 e_is_whole:FuncData
 f_is_whole_within:Addr
 e_is_whole_within:FuncData
 f_is_place_count:Addr
 e_is_place_count:FuncData
 f_is_place:Addr
 e_is_place:FuncData
 f_is_pair:Addr
 e_is_pair:FuncData
 f_are_ties:Addr
 e_are_ties:FuncData
 f_is_web:Addr
 e_is_web:FuncData
 f_must_be_web:Addr
 e_must_be_web:FuncData
 f_tie_between:Addr
 e_tie_between:FuncData
 f_is_step:Addr
 e_is_step:FuncData
 f_is_tally_row:Addr
 e_is_tally_row:FuncData
 f_are_tally_rows:Addr
 e_are_tally_rows:FuncData
 f_is_tally:Addr
 e_is_tally:FuncData
 f_tally_from:Addr
 e_tally_from:FuncData
 f_tally_of:Addr
 e_tally_of:FuncData
 f__law_whole:Addr
 e__law_whole:FuncData
 f__law_is_step:Addr
 e__law_is_step:FuncData
 f__law_stir:Addr
 e__law_stir:FuncData
 f__law_kinds:Addr
 e__law_kinds:FuncData
 f__law_pairs:Addr
 e__law_pairs:FuncData
 f__law_web_by:Addr
 e__law_web_by:FuncData
 f__law_joined_by:Addr
 e__law_joined_by:FuncData
 f__law_same:Addr
 e__law_same:FuncData
 f__law_good:Addr
 e__law_good:FuncData
 f__law_otherwise:Addr
 e__law_otherwise:FuncData
 f__law_came:Addr
 e__law_came:FuncData
 f_law:Addr
 e_law:FuncData
 t_MOST_PLACES:Tok
 t_MOST_TIMES:Tok
 x_NoWeb:Addr
 x_NoKind:Addr
 x_NoHeap:Addr
 x_NoPlace:Addr
 x_NoNumber:Addr
 x_NoTally:Addr
 x_NotTree:Addr
 x_NotJoined:Addr
 x_NoWeights:Addr
 x_NoRow:Addr
 x_NoSteps:Addr
 x_NoText:Addr
 x_TooGreat:Addr
 x_StoneError:Addr
 i_NoSteps:Addr
 j_NoSteps:FuncData
def zlW (ad:Adr):List Addr:=[ad.x_NoWeb,ad.x_NoKind,ad.x_NoHeap,ad.x_NoPlace,ad.x_NoNumber,ad.x_NoTally,ad.x_NotTree,ad.x_NotJoined,ad.x_NoWeights,ad.x_NoRow,ad.x_NoSteps,ad.x_NoText,ad.x_TooGreat]
def clT (ad:Adr)(j:Nat):Addr:=(zlW ad).getD (j % 16) 0
theorem zlp (ad:Adr)(j:Nat):clT ad j=clT ad (j % 16):=by unfold clT;rw[Nat.mod_mod]
structure Txt (K:W.Frag) (mg:Str->Option Value) (ad:Adr):Prop where
 d_is_whole:Def K mg "is_whole" Yz ["thing"] ad.f_is_whole ad.e_is_whole
 d_is_whole_within:Def K mg "is_whole_within" xx ["thing","least","most"] ad.f_is_whole_within ad.e_is_whole_within
 d_is_place_count:Def K mg "is_place_count" xE ["thing"] ad.f_is_place_count ad.e_is_place_count
 d_is_place:Def K mg "is_place" Yx ["many","thing"] ad.f_is_place ad.e_is_place
 d_is_pair:Def K mg "is_pair" Zd ["many","thing"] ad.f_is_pair ad.e_is_pair
 d_are_ties:Def K mg "are_ties" YA ["many","thing"] ad.f_are_ties ad.e_are_ties
 d_is_web:Def K mg "is_web" Xj ["thing"] ad.f_is_web ad.e_is_web
 d_must_be_web:Def K mg "must_be_web" wP ["thing"] ad.f_must_be_web ad.e_must_be_web
 d_tie_between:Def K mg "tie_between" wR ["one","other"] ad.f_tie_between ad.e_tie_between
 d_is_step:Def K mg "is_step" Zh ["web","thing"] ad.f_is_step ad.e_is_step
 d_is_tally_row:Def K mg "is_tally_row" wA ["web","thing"] ad.f_is_tally_row ad.e_is_tally_row
 d_are_tally_rows:Def K mg "are_tally_rows" xI ["web","thing"] ad.f_are_tally_rows ad.e_are_tally_rows
 d_is_tally:Def K mg "is_tally" Yo ["web","thing"] ad.f_is_tally ad.e_is_tally
 d_tally_from:Def K mg "tally_from" vq ["times"] ad.f_tally_from ad.e_tally_from
 d_tally_of:Def K mg "tally_of" Yy ["web","steps"] ad.f_tally_of ad.e_tally_of
 d__law_whole:Def K mg "_law_whole" vw ["found"] ad.f__law_whole ad.e__law_whole
 d__law_is_step:Def K mg "_law_is_step" wo ["web","thing"] ad.f__law_is_step ad.e__law_is_step
 d__law_stir:Def K mg "_law_stir" vV ["cell","k"] ad.f__law_stir ad.e__law_stir
 d__law_kinds:Def K mg "_law_kinds" vo ["e"] ad.f__law_kinds ad.e__law_kinds
 d__law_pairs:Def K mg "_law_pairs" vn ["many"] ad.f__law_pairs ad.e__law_pairs
 d__law_web_by:Def K mg "_law_web_by" wN ["many","cell"] ad.f__law_web_by ad.e__law_web_by
 d__law_joined_by:Def K mg "_law_joined_by" xJ ["many","cell"] ad.f__law_joined_by ad.e__law_joined_by
 d__law_same:Def K mg "_law_same" vR ["found","due"] ad.f__law_same ad.e__law_same
 d__law_good:Def K mg "_law_good" vW ["web","thing"] ad.f__law_good ad.e__law_good
 d__law_otherwise:Def K mg "_law_otherwise" xF ["web","tally","cell"] ad.f__law_otherwise ad.e__law_otherwise
 d__law_came:Def K mg "_law_came" vF ["web","steps"] ad.f__law_came ad.e__law_came
 d_law:Def K mg "law" zeJ ["script"] ad.f_law ad.e_law
 g_MOST_PLACES:mg "MOST_PLACES"=some (Value.int 8 ad.t_MOST_PLACES)
 g_MOST_TIMES:mg "MOST_TIMES"=some (Value.int 300 ad.t_MOST_TIMES)
 z_ValueError:mg "ValueError"=none
 z_all:mg "all"=none
 z_bool:mg "bool"=none
 z_enumerate:mg "enumerate"=none
 z_int:mg "int"=none
 z_isinstance:mg "isinstance"=none
 z_len:mg "len"=none
 z_list:mg "list"=none
 z_max:mg "max"=none
 z_min:mg "min"=none
 z_range:mg "range"=none
 z_set:mg "set"=none
 z_sorted:mg "sorted"=none
 z_str:mg "str"=none
 z_tuple:mg "tuple"=none
 z_zip:mg "zip"=none
 g_NoWeb:mg "NoWeb"=some (Value.ref ad.x_NoWeb)
 g_NoKind:mg "NoKind"=some (Value.ref ad.x_NoKind)
 g_NoHeap:mg "NoHeap"=some (Value.ref ad.x_NoHeap)
 g_NoPlace:mg "NoPlace"=some (Value.ref ad.x_NoPlace)
 g_NoNumber:mg "NoNumber"=some (Value.ref ad.x_NoNumber)
 g_NoTally:mg "NoTally"=some (Value.ref ad.x_NoTally)
 g_NotTree:mg "NotTree"=some (Value.ref ad.x_NotTree)
 g_NotJoined:mg "NotJoined"=some (Value.ref ad.x_NotJoined)
 g_NoWeights:mg "NoWeights"=some (Value.ref ad.x_NoWeights)
 g_NoRow:mg "NoRow"=some (Value.ref ad.x_NoRow)
 g_NoSteps:mg "NoSteps"=some (Value.ref ad.x_NoSteps)
 g_NoText:mg "NoText"=some (Value.ref ad.x_NoText)
 g_TooGreat:mg "TooGreat"=some (Value.ref ad.x_TooGreat)
 g_StoneError:mg "StoneError"=some (Value.ref ad.x_StoneError)
 y_NoSteps:zb6 K (zlW ad) ad.x_StoneError ad.x_NoSteps 10=true
 fi_NoSteps:Fun K "__init__" "NoSteps.__init__" wn ad.i_NoSteps ad.j_NoSteps
 bi_NoSteps:ZQ K ad.j_NoSteps ["self","at"] []
 ei_NoSteps:zj6 K ad.x_NoSteps ad.i_NoSteps=true
 ea_NoSteps:VQ K ad.x_NoSteps=true
 na_NoSteps:zma K ad.x_NoSteps ["at"]=true
theorem zmt:(["b","many","found","a"]:List Str).Nodup:=by decide +kernel
theorem zmR:(["other","many","cell","ties","k","tie"]:List Str).Nodup:=by decide +kernel
theorem zmH:(["place","web","thing"]:List Str).Nodup:=by decide +kernel
theorem zmT:(["step","times"]:List Str).Nodup:=by decide +kernel
theorem zmx:(["step","script","cell","web","every","steps","due","handed","turn","thing","at","bad"]:List Str).Nodup:=by decide +kernel
theorem zl8:(["k","script","cell","web","every","steps","due","handed","turn","thing","at","bad"]:List Str).Nodup:=by decide +kernel
theorem zkO:(["a","b","script","cell","web","every","steps","due","handed","turn","thing","at","bad"]:List Str).Nodup:=by decide +kernel
def WL:D->Bool
 | .int _=>true
 | _=>false
def yM (d:D)(lo hi:Int):Bool:=match d with
 | .int i=>decide (lo<=i)&&decide (i<=hi)
 | _=>false
section
variable {P:Program}{w:World}{K:W.Frag}{mg:Str->Option Value}{base:Heap}{ad:Adr}
def vc:List D->Option D
 | [d]=>if noS d=true then some (.bl (WL d))else none
 | _=>none
def Zq:SE->Ctl :=
 (yR (Zr (eUn (ya .int) (zg 0)) (Vo (eUn (ya .bool) (zg 0)))))
def zcD:List D->Option D:=fnD 1 Zq
theorem zku {α:Type}{ds:List α}(h:ds.length=1):∃ a,ds=[a]:=by match ds,h with | [a],_=>exact⟨a,rfl⟩
theorem zjD {α:Type}{ds:List α}(h:ds.length=2):∃ a b,ds=[a,b]:=by match ds,h with | [a,b],_=>exact⟨a,b,rfl⟩
theorem len3 {α:Type}{ds:List α}(h:ds.length=3):∃ a b c,ds=[a,b,c]:=by match ds,h with | [a,b,c],_=>exact⟨a,b,c,rfl⟩
theorem ifS {c:Bool}{x y:D}(h:(if c=true then some x else none)=some y):c=true/\x=y:=by
 split at h
 .cases h
  exact⟨by assumption,rfl⟩
 .cases h
theorem zbp:∀ ds d,ds.length=1->vc ds=some d->zcD ds=some d:=by
 intro ds d hl h
 obtain⟨a,rfl⟩:=zku hl
 obtain⟨hn,rfl⟩:=ifS h
 cases a <;> first | rfl | cases hn
theorem za5 (T:Txt K mg ad):xC P w K mg base CX0 1 ad.f_is_whole ad.e_is_whole ["thing"] (@spD ⟨K⟩ 1 vc):=by
 letI:KK:=⟨K⟩
 refine vZ (xQ (N:=["thing"]) (ps:=["thing"]) T.d_is_whole.fn zbh (g:=Zq) λcdv A outer s H E hr=>?_) zbp
 unfold Zq
 exact(zi (zz (vB (zw .int rfl T.z_isinstance (edv 0) (zJ (v:=.ty "int") rfl T.z_int zci rfl)) (Ym (zfB (zw .bool rfl T.z_isinstance (edv 0) (zJ (v:=.ty "bool") rfl T.z_bool Xk rfl)))))))
def ym:SE->Ctl :=
 (yR (Zr (zv 1 vc (zb (zg 0) zt)) (xP leD leD (zg 1) (zg 0) (zg 2))))
def w6:List D->Option D:=fnD 3 ym
def zq:List D->Option D
 | [d,.int lo,.int hi]=>if noS d=true then some (.bl (yM d lo hi))else none
 | _=>none
theorem WI {a:D}{lo hi:Int}(hn:noS a=true)(hw:WL a=false):w6 [a,.int lo,.int hi]=some (.bl false):=by
 have e:vc [a]=some (.bl false):=by
  show(if noS a=true then some (D.bl (WL a))else none)=_
  rw[q5 hn,hw]
 refine ZT (ρ:=[.v a,.v (.int lo),.v (.int hi)]) rfl ?_
 unfold ym
 refine wK (y8 ?_) rfl
 show(((vc [a]).bind asB).bind λc=>if c=true then _ else some (D.bl false))=_
 rw[e]
 rfl
theorem YQ:∀ ds d,ds.length=3->zq ds=some d->w6 ds=some d:=by
 intro ds d hl h
 obtain⟨a,b,c,rfl⟩:=len3 hl
 cases b <;> try cases h
 cases c <;> try cases h
 rename_i lo hi
 obtain⟨hn,rfl⟩:=ifS h
 cases a with
 | scr _=>cases hn
 | int i =>
  refine ZT (ρ:=[.v (.int i),.v (.int lo),.v (.int hi)]) rfl ?_
  unfold ym
  refine wK (y8 ?_) rfl
  show(if decide (lo<=i)=true then some (D.bl (decide (i<=hi)))else some (.bl false))=some (.bl (decide (lo<=i)&&decide (i<=hi)))
  cases decide (lo<=i) <;> rfl
 | tup es=>exact WI hn rfl
 | lst es=>exact WI hn rfl
 | dct z t ks vs=>exact WI hn rfl
 | non=>rfl
 | bl _=>rfl
 | str _=>rfl
theorem xj (T:Txt K mg ad):xC P w K mg base CX0 2 ad.f_is_whole_within ad.e_is_whole_within ["thing","least","most"] (@spD ⟨K⟩ 3 zq):=by
 letI:KK:=⟨K⟩
 have G_is_whole:=za5 (P:=P) (w:=w) (base:=base) T
 refine vZ (xQ (N:=["thing","least","most"]) (ps:=["thing","least","most"]) T.d_is_whole_within.fn YD (g:=ym) λcdv A outer s H E hr=>?_) YQ
 unfold ym
 exact(zi (zz (vB (zo G_is_whole hr rfl T.d_is_whole (za (edv 0) zf)) (Ym (zhA zhv zhv wl wl (edv 1) (edv 0) (edv 2) (λa b c=>zgV zhv zhv a b c))))))
def yY:SE->Ctl :=
 (yR (zv 3 zq (zb (zg 0) (zb (eC (.int 1)) (zb (eC (.int 8)) zt)))))
def x4:List D->Option D:=fnD 1 yY
def yy:List D->Option D
 | [d]=>if noS d=true then some (.bl (yM d 1 8))else none
 | _=>none
theorem Y8:∀ ds d,ds.length=1->yy ds=some d->x4 ds=some d:=by
 intro ds d hl h
 obtain⟨a,rfl⟩:=zku hl
 have e:x4 [a]=zq [a,.int 1,.int 8]:=by
  cases h2:zq [a,.int 1,.int 8] <;> simp[x4,yY,fnD,yn,yR,YE,sIf,wS,XT,sNo,zV,zcg,X4,XU,zcc,zb4,vEv,visF,visG,Sl.f,Sl.g,zg,eC,zp,Zr,eOr,Vo,eIf,eUn,VB,xV,x8,y6,zb,zt,zv,eFn,fFn,tOf,x5,vD,yd,asB,asI,zQ,Wl,Yu,xo,xh,Wd,vp,ltD,leD,gtD,geD,WQ,yG,xn,yE,xi,Vp,yL,ixD,Yi,ya,isT,eSl,zY,zP,xP,wc,iOf,ZK,wz,XQ,Y5,Y7,xc,Yh,fLC,wg,yI,wx,yW,XR,xH,X6,b1,b2,h2]
 rw[e]
 exact h
theorem Zo (T:Txt K mg ad):xC P w K mg base CX0 3 ad.f_is_place_count ad.e_is_place_count ["thing"] (@spD ⟨K⟩ 1 yy):=by
 letI:KK:=⟨K⟩
 have G_is_whole_within:=xj (P:=P) (w:=w) (base:=base) T
 refine vZ (xQ (N:=["thing"]) (ps:=["thing"]) T.d_is_place_count.fn Zi (g:=yY) λcdv A outer s H E hr=>?_) Y8
 unfold yY
 exact(zi (zz (zo G_is_whole_within hr rfl T.d_is_whole_within (za (edv 0) (za (ze zd) (za (ze (y9 (v:=.int 8) rfl T.g_MOST_PLACES ⟨_,rfl⟩)) zf))))))
def Yc:SE->Ctl :=
 (yR (zv 3 zq (zb (zg 1) (zb (eC (.int 0)) (zb (zp Wl (zg 0) (eC (.int 1))) zt)))))
def Ze:List D->Option D:=fnD 2 Yc
def xb:List D->Option D
 | [.int m,d]=>if noS d=true then some (.bl (yM d 0 (m - 1)))else none
 | _=>none
theorem zaC:∀ ds d,ds.length=2->xb ds=some d->Ze ds=some d:=by
 intro ds d hl h
 obtain⟨a,b,rfl⟩:=zjD hl
 cases a <;> try cases h
 rename_i m
 have e:Ze [.int m,b]=zq [b,.int 0,.int (m - 1)]:=by
  cases h2:zq [b,.int 0,.int (m - 1)] <;> simp[Ze,Yc,fnD,yn,yR,YE,sIf,wS,XT,sNo,zV,zcg,X4,XU,zcc,zb4,vEv,visF,visG,Sl.f,Sl.g,zg,eC,zp,Zr,eOr,Vo,eIf,eUn,VB,xV,x8,y6,zb,zt,zv,eFn,fFn,tOf,x5,vD,yd,asB,asI,zQ,Wl,Yu,xo,xh,Wd,vp,ltD,leD,gtD,geD,WQ,yG,xn,yE,xi,Vp,yL,ixD,Yi,ya,isT,eSl,zY,zP,xP,wc,iOf,ZK,wz,XQ,Y5,Y7,xc,Yh,fLC,wg,yI,wx,yW,XR,xH,X6,b1,b2,h2]
 rw[e]
 exact h
theorem za3 (T:Txt K mg ad):xC P w K mg base CX0 3 ad.f_is_place ad.e_is_place ["many","thing"] (@spD ⟨K⟩ 2 xb):=by
 letI:KK:=⟨K⟩
 have G_is_whole_within:=xj (P:=P) (w:=w) (base:=base) T
 refine vZ (xQ (N:=["many","thing"]) (ps:=["many","thing"]) T.d_is_place.fn zaU (g:=Yc) λcdv A outer s H E hr=>?_) zaC
 unfold Yc
 exact(zi (zz (zo G_is_whole_within hr rfl T.d_is_whole_within (za (edv 1) (za (ze zd) (za (zfr (edv 0) (ze zd)) zf))))))
theorem zit {d:D}{lo hi:Int}(h:∀ i,d≠.int i):yM d lo hi=false:=by
 cases d <;> first | rfl | exact absurd rfl (h _)
theorem VZ {d:D}{lo hi:Int}(h:yM d lo hi=true):∃ i,d=.int i:=by
 cases d with
 | int i=>exact⟨i,rfl⟩
 | _=>cases h
def YO:SE->Ctl :=
 (yn (sIf (vD (yd (tOf (eUn (ya .tuple) (zg 1)))) (tOf (zp neD (eFn Yi (zb (zg 1) zt)) (eC (.int 2))))) (yR (eC (.bl false))) zV)
  (yR (Zr (zv 2 xb (zb (zg 0) (zb (zp ixD (zg 1) (eC (.int 0))) zt))) (Zr (zv 2 xb (zb (zg 0) (zb (zp ixD (zg 1) (eC (.int 1))) zt))) (zp neD (zp ixD (zg 1) (eC (.int 0))) (zp ixD (zg 1) (eC (.int 1))))))))
def zed:List D->Option D:=fnD 2 YO
def yJ:List D->Option D
 | [.int m,d]=>if noS d=true then some (.bl (x6 m d))else none
 | _=>none
theorem zgD {m:Int}{x y:D}(h:yM x 0 (m - 1)=false):x6 m (.tup [x,y])=false:=by
 cases x with
 | int i =>
  cases y with
  | int j =>
   show(inR m i&&inR m j&&!decide (i=j))=false
   rw[show inR m i=false from h]
   rfl
  | _=>rfl
 | _=>rfl
theorem zhe {m:Int}{x y:D}(h:yM y 0 (m - 1)=false):x6 m (.tup [x,y])=false:=by
 cases x with
 | int i =>
  cases y with
  | int j =>
   show(inR m i&&inR m j&&!decide (i=j))=false
   rw[show inR m j=false from h,u1g]
   rfl
  | _=>rfl
 | _=>rfl
theorem zcR:∀ ds d,ds.length=2->yJ ds=some d->zed ds=some d:=by
 intro ds d hl h
 obtain⟨a,b,rfl⟩:=zjD hl
 cases a <;> try cases h
 rename_i m
 obtain⟨hn,rfl⟩:=ifS h
 clear h
 cases b with
 | tup es =>
  refine ZT (ρ:=[.v (.int m),.v (.tup es)]) rfl ?_
  unfold YO
  by_cases hl:es.length=2
  .obtain⟨x,y,rfl⟩:=zjD hl
   have hx:noS x=true:=v5 (ds:=[x,y]) (i:=0) hn rfl
   have hy:noS y=true:=v5 (ds:=[x,y]) (i:=1) hn rfl
   have e0:xb [.int m,x]=some (.bl (yM x 0 (m - 1))):=by
    show(if noS x=true then some (D.bl (yM x 0 (m - 1)))else none)=_
    rw[q5 hx]
   have e1:xb [.int m,y]=some (.bl (yM y 0 (m - 1))):=by
    show(if noS y=true then some (D.bl (yM y 0 (m - 1)))else none)=_
    rw[q5 hy]
   refine zI (ρ':=[.v (.int m),.v (.tup [x,y])]) rfl (wK (y8 ?_) rfl)
   show(((xb [.int m,x]).bind asB).bind λc=>if c=true then (((xb [.int m,y]).bind asB).bind λc=>if c=true then neD x y else some (D.bl false))else some (D.bl false))=_
   rw[e0,e1]
   cases h1:yM x 0 (m - 1) with
   | false=>rw[zgD h1];rfl
   | true =>
    cases h2:yM y 0 (m - 1) with
    | false=>rw[zhe h2];rfl
    | true =>
     obtain⟨i,rfl⟩:=VZ h1
     obtain⟨j,rfl⟩:=VZ h2
     show some (D.bl (!decide (i=j)))=some (.bl (inR m i&&inR m j&&!decide (i=j)))
     rw[show inR m i=true from h1,show inR m j=true from h2]
     rfl
  .have e:x6 m (.tup es)=false:=by
    unfold x6 Yn
    split
    .rename_i t ht
     split at ht
     .rename_i e'
      injection e' with e'
      rw[e']at hl
      exact absurd rfl hl
     .cases ht
    .rfl
   rw[e]
   refine zR (wC (c:=true) ?_ (λ_=>wK rfl rfl) λz=>by cases z)
   show some (!decide ((es.length:Int)=2))=_
   rw[g0 (show ¬ (es.length:Int)=2 from λh=>hl (Int.ofNat.inj h))]
   rfl
 | scr _=>cases hn
 | _=>rfl
theorem Wk (T:Txt K mg ad):xC P w K mg base CX0 4 ad.f_is_pair ad.e_is_pair ["many","thing"] (@spD ⟨K⟩ 2 yJ):=by
 letI:KK:=⟨K⟩
 have G_is_place:=za3 (P:=P) (w:=w) (base:=base) T
 refine vZ (xQ (N:=["many","thing"]) (ps:=["many","thing"]) T.d_is_pair.fn zc8 (g:=YO) λcdv A outer s H E hr=>?_) zcR
 unfold YO
 exact(zh (yU (zcP (Zj (yB (yj (zw .tuple rfl T.z_isinstance (edv 1) (zJ (v:=.ty "tuple") rfl T.z_tuple yq rfl)))) (Y0 (yl XI Yk (zN _) (yi zM wy rfl T.z_len vQ (za (edv 1) zf)) (ze zd))))) (zi (zz (xB xg))) zE)
  (zi (zz (vB (zo G_is_place hr rfl T.d_is_place (za (edv 0) (za (yu (edv 1) (ze zd) (λ_ _=>rfl)) zf))) (vB (zo G_is_place hr rfl T.d_is_place (za (edv 0) (za (yu (edv 1) (ze zd) (λ_ _=>rfl)) zf))) (Ym (ZG XI Yk (zN _) (yu (edv 1) (ze zd) (λ_ _=>rfl)) (yu (edv 1) (ze zd) (λ_ _=>rfl)))))))))
def zag (ds:List D):Nat->Option Tie
 | 0=>none
 | k+1=>(ds[k]?).bind Yn
def vT:SE->Ctl :=
 (yn (sIf (vD (yd (tOf (zv 2 yJ (zb (zg 0) (zb (zg 3) zt))))) (tOf (zp gtD (zp ixD (zg 3) (eC (.int 0))) (zp ixD (zg 3) (eC (.int 1)))))) (yR (eC (.bl false))) zV)
  (sIf (x5 (tOf (zp gtD (zg 2) (eC (.int 0)))) (tOf (zp leT (zg 3) (zp ixD (zg 1) (zp Wl (zg 2) (eC (.int 1))))))) (yR (eC (.bl false))) zV))
def wY:SE->Ctl :=
 (yn (sIf (yd (tOf (eUn (ya .tuple) (zg 1)))) (yR (eC (.bl false))) zV)
  (yn (ZK (xc (zb (zg 1) zt)) (XR 2 (xH (yW 2) (xH (yW 3) X6))) vT)
  (yR (eC (.bl true)))))
def zcy:List D->Option D:=fnD 4 wY
def vb:List D->Option D
 | [.int m,d]=>if noS d=true then some (.bl (v9 m d))else none
 | _=>none
theorem XV {m:Int}{d:D}(h:x6 m d=true):∃ t,d=zc t:=by
 unfold x6 at h
 split at h
 .rename_i t ht
  exact⟨t,XO ht⟩
 .cases h
theorem za8:∀ ds d,ds.length=2->vb ds=some d->zcy ds=some d:=by
 intro ds d hl h
 obtain⟨a,b,rfl⟩:=zjD hl
 cases a <;> try cases h
 rename_i m
 obtain⟨hn,rfl⟩:=ifS h
 clear h hl
 cases b with
 | scr _=>cases hn
 | tup es =>
  refine ZT (g:=wY) rfl ?_
  unfold wY
  refine zI rfl ?_
  refine zR (WJ (ds:=YC 0 es) (λi ρ=>∃ o1 o2,ρ=[.v (.int m),.v (.tup es),o1,o2]/\yr m none es=yr m (zag es i) (es.drop i)/\∀ k,i=k+1->∃ p,es[k]?=some (zc p)) rfl
   ⟨.no,.no,rfl,rfl,λk e=>by cases e⟩ ?_ ?_)
  .rintro i d ρ hd ⟨o1,o2,rfl,hp,hk⟩
   rw[xA]at hd
   obtain⟨dx,hdx,rfl⟩:=u9.mp hd
   rw[u0f]
   refine⟨_,rfl,?_⟩
   have hdrop:es.drop i=dx::es.drop (i+1):=by
    obtain⟨h1,h2⟩:=t6.mp hdx
    rw[u1v h1,h2]
   have hnx:noS dx=true:=v5 hn hdx
   unfold vT
   cases hpr:x6 m dx with
   | false =>
    have e1:yJ [.int m,dx]=some (.bl false):=by
     show(if noS dx=true then some (D.bl (x6 m dx))else none)=_
     rw[q5 hnx,hpr]
    refine zR (wC (c:=true) (show(((yJ [.int m,dx]).bind asB).map (!·)).bind (λc=>if c=true then some true else _)=_ by rw[e1];rfl) (λ_=>wK rfl ?_) (λz=>by cases z))
    have e:yr m none es=false:=by
     rw[hp,hdrop]
     unfold yr
     split
     .rw[hpr];rfl
     .rfl
    show D.bl false=.bl (yr m none es)
    rw[e]
   | true =>
    obtain⟨t,rfl⟩:=XV hpr
    have e1:yJ [.int m,zc t]=some (.bl true):=by
     show(if noS (zc t)=true then some (D.bl (x6 m (zc t)))else none)=_
     rw[q5 hnx,hpr]
    have step:yr m none es=(!decide (t.2 < t.1)&&zax (zag es i) t&&yr m (some t) (es.drop (i+1))):=by
     rw[hp,hdrop]
     conv=>lhs;unfold yr
     rw[vO,hpr]
     rfl
    have prevS:zag es (i+1)=some t:=by
     show(es[i]?).bind Yn=some t
     rw[hdx]
     rfl
    refine zR (wC (c:=decide (t.2 < t.1)) (show(((yJ [.int m,zc t]).bind asB).map (!·)).bind (λc=>if c=true then some true else some (decide (t.2 < t.1)))=_ by rw[e1];rfl) (λc=>wK rfl ?_) (λc=>vC rfl ?_))
    .show D.bl false=.bl (yr m none es)
     rw[step,c]
     rfl
    .cases i with
     | zero =>
      refine wC (c:=false) rfl (λz=>by cases z) (λ_=>vC rfl ?_)
      refine⟨_,_,rfl,?_,λk e=>?_⟩
      .rw[prevS,step,c]
       rfl
      .cases e
       exact⟨t,hdx⟩
     | succ j =>
      obtain⟨p,hpk⟩:=hk j rfl
      have prevK:zag es (j+1)=some p:=by
       show(es[j]?).bind Yn=some p
       rw[hpk]
       rfl
      rw[prevK]at step
      have ea:atI es ((((j+1:Nat):Int)) - 1)=some (zc p):=by
       rw[show(((j+1:Nat):Int)) - 1=(j:Nat)from Int.add_sub_cancel (j:Int) 1]
       exact zjo hpk
      have okP:zax (some p) t=!leP t p:=rfl
      refine wC (c:=leP t p) ?_ (λc2=>wK rfl ?_) (λc2=>vC rfl ?_)
      .have z:decide ((0:Int) < ((j+1:Nat):Int))=true:=j8 (Int.natCast_pos.mpr (u2E j))
       show((some (decide ((0:Int) < ((j+1:Nat):Int)))).bind λc=>if c=true then (((atI es (((j+1:Nat):Int) - 1)).bind λy=>leT (zc t) y).bind asB)else some false)=_
       rw[z,ea]
       rfl
      .show D.bl false=.bl (yr m none es)
       rw[step,okP,c2,c]
       rfl
      .refine⟨_,_,rfl,?_,λk' e=>?_⟩
       .rw[prevS,step,okP,c2,c]
        rfl
       .cases e
        exact⟨t,hdx⟩
  .rintro ρ ⟨o1,o2,rfl,hp,hk⟩
   refine wK rfl ?_
   show D.bl true=.bl (yr m none es)
   rw[hp,xf,u2J]
   cases zag es es.length <;> rfl
 | _=>rfl
theorem zaH (T:Txt K mg ad):xC P w K mg base CX0 5 ad.f_are_ties ad.e_are_ties ["many","thing"] (@spD ⟨K⟩ 2 vb):=by
 letI:KK:=⟨K⟩
 have G_is_pair:=Wk (P:=P) (w:=w) (base:=base) T
 refine vZ (xQ (N:=["many","thing","at","tie"]) (ps:=["many","thing"]) T.d_are_ties.fn Yp (g:=wY) λcdv A outer s H E hr=>?_) za8
 unfold wY vT
 exact(zh (yU (yB (yj (zw .tuple rfl T.z_isinstance (edv 1) (zJ (v:=.ty "tuple") rfl T.z_tuple yq rfl)))) (zi (zz (xB xg))) zE)
  (zh (Xh u01 rfl (Xt rfl T.z_enumerate xT (za (edv 1) zf)) (Ws rfl (yX (yK (zO (i:=2) Yp.nd rfl (Or.inl rfl))) (yX (yK (zO (i:=3) Yp.nd rfl (Or.inl rfl))) Zf))) (zh (yU (zcP (Zj (yB (yj (zo G_is_pair hr rfl T.d_is_pair (za (edv 0) (za (edv 3) zf))))) (Y0 (yl zfl wl (zN _) (yu (edv 3) (ze zd) (λ_ _=>rfl)) (yu (edv 3) (ze zd) (λ_ _=>rfl)))))) (zi (zz (xB xg))) zE)
  (zi (yU (zcP (zcq (yl zfl wl (zN _) (edv 2) (ze zd)) (W7 (yl (zhS hr.units0) zfI (zN _) (edv 3) (yu (edv 1) (zfr (edv 2) (ze zd)) (λ_ _=>rfl)))))) (zi (zz (xB xg))) zE))))
  (zi (zz (xB xg)))))
def v7:SE->Ctl :=
 (yn (sIf (vD (yd (tOf (eUn (ya .tuple) (zg 0)))) (tOf (zp neD (eFn Yi (zb (zg 0) zt)) (eC (.int 2))))) (yR (eC (.bl false))) zV)
  (yR (Zr (zv 1 yy (zb (zp ixD (zg 0) (eC (.int 0))) zt)) (zv 2 vb (zb (zp ixD (zg 0) (eC (.int 0))) (zb (zp ixD (zg 0) (eC (.int 1))) zt))))))
def ZU:List D->Option D:=fnD 1 v7
def YM:List D->Option D
 | [d]=>if noS d=true then some (.bl (Yl d))else none
 | _=>none
theorem zdF {x y:D}:Yl (.tup [x,y])=(yM x 1 8&&match x with | .int m=>v9 m y | _=>false):=by
 cases x <;> rfl
theorem zfi:∀ ds d,ds.length=1->YM ds=some d->ZU ds=some d:=by
 intro ds d hl h
 obtain⟨a,rfl⟩:=zku hl
 obtain⟨hn,rfl⟩:=ifS h
 clear h hl
 cases a with
 | scr _=>cases hn
 | tup es =>
  by_cases hl:es.length=2
  .obtain⟨x,y,rfl⟩:=zjD hl
   have hx:noS x=true:=v5 (ds:=[x,y]) (i:=0) hn rfl
   have hy:noS y=true:=v5 (ds:=[x,y]) (i:=1) hn rfl
   have ec:yy [x]=some (.bl (yM x 1 8)):=by simp[yy,hx]
   rw[zdF]
   by_cases ix:∃ i,x=.int i
   .obtain⟨i,rfl⟩:=ix
    have et:vb [.int i,y]=some (.bl (v9 i y)):=by simp[vb,hy]
    cases hc:yM (.int i) 1 8 <;> rw[hc]at ec <;> simp[ZU,v7,fnD,yn,yR,YE,sIf,wS,XT,sNo,zV,zcg,X4,XU,zcc,zb4,vEv,visF,visG,Sl.f,Sl.g,zg,eC,zp,Zr,eOr,Vo,eIf,eUn,VB,xV,x8,y6,zb,zt,zv,eFn,fFn,tOf,x5,vD,yd,asB,asI,zQ,Wl,Yu,xo,xh,Wd,vp,ltD,leD,gtD,geD,WQ,yG,xn,yE,xi,Vp,yL,ixD,Yi,ya,isT,eSl,zY,zP,xP,wc,iOf,ZK,wz,XQ,Y5,Y7,xc,Yh,fLC,wg,yI,wx,yW,XR,xH,X6,b1,b2,ec,et,atI,ixN]
   .have n2:yM x 1 8=false:=zit λj hj=>ix ⟨j,hj⟩
    rw[n2]at ec ⊢
    simp[ZU,v7,fnD,yn,yR,YE,sIf,wS,XT,sNo,zV,zcg,X4,XU,zcc,zb4,vEv,visF,visG,Sl.f,Sl.g,zg,eC,zp,Zr,eOr,Vo,eIf,eUn,VB,xV,x8,y6,zb,zt,zv,eFn,fFn,tOf,x5,vD,yd,asB,asI,zQ,Wl,Yu,xo,xh,Wd,vp,ltD,leD,gtD,geD,WQ,yG,xn,yE,xi,Vp,yL,ixD,Yi,ya,isT,eSl,zY,zP,xP,wc,iOf,ZK,wz,XQ,Y5,Y7,xc,Yh,fLC,wg,yI,wx,yW,XR,xH,X6,b1,b2,ec,atI,ixN]
  .have e:Yl (.tup es)=false:=ziT λm ties h _=>by
    unfold zD at h
    injection h with h
    rw[h]at hl
    exact hl rfl
   rw[e]
   have:¬ (es.length:Int)=2:=by omega
   simp[ZU,v7,fnD,yn,yR,YE,sIf,wS,XT,sNo,zV,zcg,X4,XU,zcc,zb4,vEv,visF,visG,Sl.f,Sl.g,zg,eC,zp,Zr,eOr,Vo,eIf,eUn,VB,xV,x8,y6,zb,zt,zv,eFn,fFn,tOf,x5,vD,yd,asB,asI,zQ,Wl,Yu,xo,xh,Wd,vp,ltD,leD,gtD,geD,WQ,yG,xn,yE,xi,Vp,yL,ixD,Yi,ya,isT,eSl,zY,zP,xP,wc,iOf,ZK,wz,XQ,Y5,Y7,xc,Yh,fLC,wg,yI,wx,yW,XR,xH,X6,b1,b2,this]
 | _=>rfl
theorem zfH (T:Txt K mg ad):xC P w K mg base CX0 6 ad.f_is_web ad.e_is_web ["thing"] (@spD ⟨K⟩ 1 YM):=by
 letI:KK:=⟨K⟩
 have G_is_place_count:=Zo (P:=P) (w:=w) (base:=base) T
 have G_are_ties:=zaH (P:=P) (w:=w) (base:=base) T
 refine vZ (xQ (N:=["thing"]) (ps:=["thing"]) T.d_is_web.fn zdV (g:=v7) λcdv A outer s H E hr=>?_) zfi
 unfold v7
 exact(zh (yU (zcP (Zj (yB (yj (zw .tuple rfl T.z_isinstance (edv 0) (zJ (v:=.ty "tuple") rfl T.z_tuple yq rfl)))) (Y0 (yl XI Yk (zN _) (yi zM wy rfl T.z_len vQ (za (edv 0) zf)) (ze zd))))) (zi (zz (xB xg))) zE)
  (zi (zz (vB (zo G_is_place_count hr rfl T.d_is_place_count (za (yu (edv 0) (ze zd) (λ_ _=>rfl)) zf)) (Ym (zo G_are_ties hr rfl T.d_are_ties (za (yu (edv 0) (ze zd) (λ_ _=>rfl)) (za (yu (edv 0) (ze zd) (λ_ _=>rfl)) zf))))))))
theorem ziP (m:Int)(ts:List Tie):noS (zD m ts)=true:=by
 have:∀ ts:List Tie,zh3 (ts.map zc)=true:=by
  intro ts
  induction ts with
  | nil=>rfl
  | cons t ts ih=>show(noS (zc t)&&zh3 (ts.map zc))=true;rw[ih];rfl
 show(noS (.int m)&&(noS (.tup (ts.map zc))&&true))=true
 rw[show noS (.tup (ts.map zc))=zh3 (ts.map zc)from rfl,this ts]
 rfl
def wk:SE->Ctl :=
 (sIf (yd (tOf (zv 1 YM (zb (zg 0) zt)))) sNo zV)
def Y3:List D->Option D:=fnD 1 wk
def yo:List D->Option D
 | [d]=>if Yl d=true then some .non else none
 | _=>none
theorem XZ:∀ ds d,ds.length=1->yo ds=some d->Y3 ds=some d:=by
 intro ds d hl h
 obtain⟨a,rfl⟩:=zku hl
 obtain⟨hw,rfl⟩:=ifS h
 obtain⟨m,ts,rfl,_⟩:=(Zm a).mp hw
 have e:YM [zD m ts]=some (.bl true):=by simp[YM,ziP m ts,hw]
 simp[Y3,wk,fnD,yn,yR,YE,sIf,wS,XT,sNo,zV,zcg,X4,XU,zcc,zb4,vEv,visF,visG,Sl.f,Sl.g,zg,eC,zp,Zr,eOr,Vo,eIf,eUn,VB,xV,x8,y6,zb,zt,zv,eFn,fFn,tOf,x5,vD,yd,asB,asI,zQ,Wl,Yu,xo,xh,Wd,vp,ltD,leD,gtD,geD,WQ,yG,xn,yE,xi,Vp,yL,ixD,Yi,ya,isT,eSl,zY,zP,xP,wc,iOf,ZK,wz,XQ,Y5,Y7,xc,Yh,fLC,wg,yI,wx,yW,XR,xH,X6,b1,b2,e]
theorem wQ (T:Txt K mg ad):xC P w K mg base CX0 7 ad.f_must_be_web ad.e_must_be_web ["thing"] (@spD ⟨K⟩ 1 yo):=by
 letI:KK:=⟨K⟩
 have G_is_web:=zfH (P:=P) (w:=w) (base:=base) T
 refine vZ (xQ (N:=["thing"]) (ps:=["thing"]) T.d_must_be_web.fn XW (g:=wk) λcdv A outer s H E hr=>?_) XZ
 unfold wk
 exact(zi (yU (yB (yj (zo G_is_web hr rfl T.d_is_web (za (edv 0) zf)))) (zi YR) zE))
def ziU:D->Bool
 | .int i=>decide (0<=i)
 | _=>false
def zlF (m:Int):D->Bool
 | .tup ds=>decide ((ds.length:Int)=m)&&ds.all ziU
 | _=>false
def wT (a b:Int):Tie:=(if b < a then b else a,if b > a then b else a)
def vg:SE->Ctl :=
 (yR (xV (zb (eFn zkH (zb (zg 0) (zb (zg 1) zt))) (zb (eFn zjW (zb (zg 0) (zb (zg 1) zt))) zt))))
def Wv:List D->Option D:=fnD 2 vg
def yP:List D->Option D
 | [.int a,.int b]=>some (zc (wT a b))
 | _=>none
theorem X3:∀ ds d,ds.length=2->yP ds=some d->Wv ds=some d:=by
 intro ds d hl h
 obtain⟨a,b,rfl⟩:=zjD hl
 cases a <;> try cases h
 cases b <;> try cases h
 rfl
theorem X8 (T:Txt K mg ad):xC P w K mg base CX0 1 ad.f_tie_between ad.e_tie_between ["one","other"] (@spD ⟨K⟩ 2 yP):=by
 letI:KK:=⟨K⟩
 refine vZ (xQ (N:=["one","other"]) (ps:=["one","other"]) T.d_tie_between.fn X1 (g:=vg) λcdv A outer s H E hr=>?_) X3
 unfold vg
 exact(zi (zz (yh (za (yi (zdW rfl) zgC rfl T.z_min zhO (za (edv 0) (za (edv 1) zf))) (za (yi (ze8 rfl) zhw rfl T.z_max zhD (za (edv 0) (za (edv 1) zf))) zf)))))
theorem zdm (ts:List Tie):(ts.map zc).all (okE 20)=true:=by
 rw[u2c,u0B]
 exact λt _=>rfl
theorem W5 (s t:Tie):eqN 20 (zc s) (zc t)=decide (s=t):=by
 have:eqN 20 (zc s) (zc t)=((s.1 == t.1)&&((s.2 == t.2)&&true)&&true):=rfl
 rw[this,u3K,u3K]
 by_cases h:s=t
 .subst h
  simp
 .rw[g0 h,Bool.and_eq_false_iff]
  by_cases h1:s.1=t.1
  .exact .inr (u0V.mpr λh2=>h (u10 h1 h2))
  .exact .inl (u0V.mpr h1)
theorem WX (t:Tie)(ts:List Tie):inD (zc t) (.tup (ts.map zc))=some (.bl (decide (t∈ts))):=by
 show(zk7 (zc t) (ts.map zc)).map D.bl=_
 unfold zk7
 rw[q5 ⟨rfl,zdm ts⟩]
 show some (D.bl ((ts.map zc).any λe=>eqN 20 e (zc t)))=_
 rw[List.any_map]
 congr 2
 rw[u1B,List.any_eq_true,p0]
 constructor
 .rintro⟨s,hs,h⟩
  have h:eqN 20 (zc s) (zc t)=true:=h
  rw[W5,p0]at h
  subst h
  exact hs
 .exact λh=>⟨t,h,by show eqN 20 (zc t) (zc t)=true;rw[W5];exact j8 rfl⟩
def nbN (m:Int)(ts:List Tie)(p:Int):List Nat:=(List.range m.toNat).filter λk:Nat=>decide (wT p k∈ts)
end
theorem zjF {m:Nat}{g:SE->Ctl}{ds:List D}{R:D->Prop}{ρ:SE}(e:ds.map .v++List.replicate (m - ds.length) .no=ρ)(q:(g ρ).w (λ_=>R .non) noP noP R):∃ d,fnD m g ds=some d/\R d:=by
 unfold fnD
 rw[e]
 cases hg:g ρ with
 | nx ρ'=>rw[hg]at q;exact⟨_,rfl,q.nxi⟩
 | rt d'=>rw[hg]at q;exact⟨_,rfl,q.rti⟩
 | bk _=>rw[hg]at q;exact q.bki.elim
 | ct _=>rw[hg]at q;exact q.cti.elim
 | no=>rw[hg]at q;exact q.noi.elim
section
variable {P:Program}{w:World}{K:W.Frag}{mg:Str->Option Value}{base:Heap}{ad:Adr}
def ve:SE->Ctl :=
 (yn (wS false 2 (zp xh (zp Yu (zp yQ (zp yQ (zp xh (zg 0) (eC (.int 2147483647))) (zp Yu (eC (.int 977)) (zg 1))) (eC (.int 1))) (eC (.int 48271))) (eC (.int 2147483647))))
  (yn (wS false 2 (zp xh (zp Yu (zg 2) (zg 2)) (eC (.int 2147483629))))
  (yn (wS false 2 (zp xh (zp Yu (zp yQ (zg 2) (zp Yu (eC (.int 40692)) (zp yQ (zg 1) (eC (.int 3))))) (eC (.int 69621))) (eC (.int 2147483647))))
  (yR (zp xo (zg 2) (eC (.int 8)))))))
def zaS:List D->Option D:=fnD 3 ve
def zy:List D->Option D
 | [.int c,.int k]=>some (.int (ZJ c k))
 | _=>none
theorem Vf {i j:Int}(h1:-(2 ^ 64) < i)(h2:i < 2 ^ 64):Xa i j=true:=j8 (.inl ⟨h1,h2⟩)
theorem zey {i j:Int}(h1:-(2 ^ 64) < j)(h2:j < 2 ^ 64):Xa i j=true:=j8 (.inr ⟨h1,h2⟩)
theorem Zs {i j:Int}(h:Xa i j=true):Yu (.int i) (.int j)=some (.int (i*j)):=by
 show(if Xa i j=true then _ else none)=_
 rw[q5 h]
theorem yA {i j:Int}(h:0 < j):xh (.int i) (.int j)=some (.int (i % j)):=by
 show(if decide (0 < j)=true then _ else none)=_
 rw[q5 (j8 h)]
theorem Z0 {i j:Int}(h:0 < j)(h2:j < 1606938044258990275541962092341162602522202993782792835301376):xo (.int i) (.int j)=some (.int (i / j)):=by
 show(if decide (0 < j/\j < 1606938044258990275541962092341162602522202993782792835301376)=true then _ else none)=_
 rw[q5 (j8 ⟨h,h2⟩)]
theorem zaa:∀ ds d,ds.length=2->zy ds=some d->zaS ds=some d:=by
 intro ds d hl h
 obtain⟨a,b,rfl⟩:=zjD hl
 cases a <;> try cases h
 cases b <;> try cases h
 rename_i c k
 have h1:=Int.emod_nonneg ((c % 2147483647+977*k+1)*48271) (show(2147483647:Int)≠0 by decide)
 have h2:=Int.emod_lt_of_pos ((c % 2147483647+977*k+1)*48271) (show(0:Int) < 2147483647 by decide)
 have m1:Xa 977 k=true:=Vf (by decide) (by decide)
 have m2:Xa (c % 2147483647+977*k+1) 48271=true:=zey (by decide) (by decide)
 obtain⟨x,hx⟩:∃ x,(c % 2147483647+977*k+1)*48271 % 2147483647=x:=⟨_,rfl⟩
 rw[hx]at h1 h2
 have m3:Xa x x=true:=Vf (Int.lt_of_lt_of_le (by decide) h1) (Int.lt_trans h2 (by decide))
 have m4:Xa 40692 (k+3)=true:=Vf (by decide) (by decide)
 have m5:∀ x,Xa x 69621=true:=λx=>zey (by decide) (by decide)
 obtain⟨y,hy⟩:∃ y,x*x % 2147483629=y:=⟨_,rfl⟩
 obtain⟨z,hz⟩:∃ z,(y+40692*(k+3))*69621 % 2147483647=z:=⟨_,rfl⟩
 have hst:ZJ c k=z / 8:=by
  show((((c % 2147483647+977*k+1)*48271 % 2147483647)*((c % 2147483647+977*k+1)*48271 % 2147483647) % 2147483629+40692*(k+3))*69621 % 2147483647 / 8)=_
  rw[hx,hy,hz]
 rw[hst]
 refine ZT (ρ:=[.v (.int c),.v (.int k),.no]) rfl ?_
 unfold ve
 refine zI (ρ':=[.v (.int c),.v (.int k),.v (.int x)]) (Yt ?_) ?_
 .show(((((xh (.int c) (.int 2147483647)).bind λa=>(Yu (.int 977) (.int k)).bind λb=>yQ a b).bind λa=>yQ a (.int 1)).bind λa=>Yu a (.int 48271)).bind λa=>xh a (.int 2147483647))=_
  rw[yA (by decide),Zs m1]
  show((Yu (.int (c % 2147483647+977*k+1)) (.int 48271)).bind λa=>xh a (.int 2147483647))=_
  rw[Zs m2,<- hx]
  exact yA (by decide)
 refine zI (ρ':=[.v (.int c),.v (.int k),.v (.int y)]) (Yt ?_) ?_
 .show((Yu (.int x) (.int x)).bind λa=>xh a (.int 2147483629))=_
  rw[Zs m3,<- hy]
  exact yA (by decide)
 refine zI (ρ':=[.v (.int c),.v (.int k),.v (.int z)]) (Yt ?_) ?_
 .show((((Yu (.int 40692) (.int (k+3))).bind λb=>yQ (.int y) b).bind λa=>Yu a (.int 69621)).bind λa=>xh a (.int 2147483647))=_
  rw[Zs m4]
  show((Yu (.int (y+40692*(k+3))) (.int 69621)).bind λa=>xh a (.int 2147483647))=_
  rw[Zs (m5 _),<- hz]
  exact yA (by decide)
 exact wK (y8 (show xo (.int z) (.int 8)=_ from Z0 (by decide) (by decide))) rfl
theorem wH (T:Txt K mg ad):xC P w K mg base CX0 1 ad.f__law_stir ad.e__law_stir ["cell","k"] (@spD ⟨K⟩ 2 zy):=by
 letI:KK:=⟨K⟩
 refine vZ (xQ (N:=["cell","k","number"]) (ps:=["cell","k"]) T.d__law_stir.fn wG (g:=ve) λcdv A outer s H E hr=>?_) zaa
 unfold ve
 exact(zh (yV (m:=false) (i:=2) wG.nd rfl (Or.inl rfl) (xu (Wc (zH (zH (xu (edv 0) (ze zd)) (Wc (ze zd) (edv 1))) (ze zd)) (ze zd)) (ze zd)))
  (zh (yV (m:=false) (i:=2) wG.nd rfl (Or.inl rfl) (xu (Wc (edv 2) (edv 2)) (ze zd)))
  (zh (yV (m:=false) (i:=2) wG.nd rfl (Or.inl rfl) (xu (Wc (zH (edv 2) (Wc (ze zd) (zH (edv 1) (ze zd)))) (ze zd)) (ze zd)))
  (zi (zz (XJ (edv 2) (ze zd)))))))
theorem zc1 {i j:Int}(h1:0<=i)(h2:i<=1000)(h3:0<=j)(h4:j<=60):Y7 [.int i,.int j]=some (ZW i (j - i).toNat):=by
 show(if zfQ i=true/\zfQ j=true then some (ZW i (j - i).toNat)else none)=_
 rw[q5 ⟨yc.mpr ⟨by(clear h4 h3 h2;omega),by(clear h4 h3;omega)⟩,yc.mpr ⟨by omega,by omega⟩⟩]
theorem Zv {j:Int}(h3:0<=j)(h4:j<=1000000):Y5 [.int j]=some (ZW 0 j.toNat):=by
 show(if zfQ j=true then some (ZW 0 j.toNat)else none)=_
 rw[q5 (yc.mpr ⟨by omega,by omega⟩)]
def wO:SE->Ctl :=
 (wS false 1 (zp yQ (zg 1) (x8 (fLC (XQ Y7 (zb (zp yQ (zg 2) (eC (.int 1))) (zb (zg 0) zt))) b1 wg (xV (zb (zg 3) (zb (zg 0) zt)))))))
def wF:SE->Ctl :=
 (yn (wS false 1 (x8 (y6 zt)))
  (yn (wz Y5 (zb (zg 0) zt) (yW 2) wO)
  (yR (zg 1))))
def zah:List D->Option D:=fnD 3 wF
def xR:List D->Option D
 | [.int n]=>if decide (0<=n/\n<=8)=true then some (.lst ((xy n.toNat).map zc))else none
 | _=>none
theorem Vc:∀ ds d,ds.length=1->xR ds=some d->zah ds=some d:=by
 intro ds d hl h
 obtain⟨a,rfl⟩:=zku hl
 cases a <;> try cases h
 rename_i n
 obtain⟨hn,rfl⟩:=ifS h
 have hn:0<=n/\n<=8:=d8 hn
 clear h hl
 obtain⟨k,hk⟩:∃ k:Nat,n.toNat=k:=⟨_,rfl⟩
 have hk8:k<=8:=by omega
 have hkn:n=(k:Int):=by omega
 rw[hk]
 have hr:Y5 [.int n]=some (ZW 0 k):=by rw[Zv hn.1 (by omega),hk]
 clear hk
 refine ZT (ρ:=[.v (.int n),.no,.no]) rfl ?_
 unfold wF
 have e0:wS false 1 (x8 (y6 zt)) [.v (.int n),.no,.no]=.nx [.v (.int n),.v (.lst []),.no]:=rfl
 refine zI e0 (zR (zfs (lo:=0) (c:=k) (λi ρ=>∃ o2,ρ=[.v (.int n),.v (.lst ((xK k i).map zc)),o2]) hr ⟨.no,rfl⟩ ?_ ?_))
 .rintro i ρ hi ⟨o2,rfl⟩
  refine⟨_,rfl,?_⟩
  obtain⟨x,hx⟩:∃ x:Int,(0:Int)+(i:Int)=x:=⟨_,rfl⟩
  rw[hx]
  unfold wO
  refine vC (ρ':=[.v (.int n),.v (.lst ((xK k (i+1)).map zc)),.v (.int x)]) (Yt (d:=.lst ((xK k (i+1)).map zc)) ?_) ⟨_,rfl⟩
  have e:fLC (XQ Y7 (zb (zp yQ (zg 2) (eC (.int 1))) (zb (zg 0) zt))) b1 wg (xV (zb (zg 3) (zb (zg 0) zt))) [some (.int n),some (.lst ((xK k i).map zc)),some (.int x)]=some ((zbi i (k - (i+1))).map zc):=by
   have e1:Y7 [.int (x+1),.int n]=some (ZW (x+1) (k - (i+1))):=by
    rw[zc1 (by omega) (by omega) (by omega) (by omega)]
    have et:(n - (x+1)).toNat=k - (i+1):=by omega
    rw[et]
   unfold fLC
   show(Y7 [.int (x+1),.int n]).bind _=_
   rw[e1]
   show(if lim (ZW (x+1) (k - (i+1))).length=true then _ else none)=_
   rw[q5 (YW (by rw[zbn];omega))]
   unfold zbi
   rw[u0H]
   refine zaP (λj:Nat=>D.int (x+1+(j:Int))) _ (List.range (k - (i+1))) λj _=>⟨[some (.int (x+1+(j:Int)))],rfl,rfl,?_⟩
   show some (D.tup [.int x,.int (x+1+(j:Int))])=some (D.tup [.int (i:Int),.int ((i:Int)+1+(j:Int))])
   rw[<-hx,Int.zero_add]
  show(((fLC (XQ Y7 (zb (zp yQ (zg 2) (eC (.int 1))) (zb (zg 0) zt))) b1 wg (xV (zb (zg 3) (zb (zg 0) zt))) [some (.int n),some (.lst ((xK k i).map zc)),some (.int x)]).map D.lst).bind λy=>yQ (.lst ((xK k i).map zc)) y)=_
  rw[e]
  show yQ (.lst ((xK k i).map zc)) (.lst ((zbi i (k - (i+1))).map zc))=_
  rw[zgk (by rw[u7,u7,ZF];have:=zc4 k hk8 i;omega),ZB,p6]
 .rintro ρ ⟨o2,rfl⟩
  refine wK rfl ?_
  rw[zfw]
theorem Vh (T:Txt K mg ad):xC P w K mg base CX0 1 ad.f__law_pairs ad.e__law_pairs ["many"] (@spD ⟨K⟩ 1 xR):=by
 letI:KK:=⟨K⟩
 refine vZ (xQ (N:=["many","found","a"]) (ps:=["many"]) T.d__law_pairs.fn wa (g:=wF) λcdv A outer s H E hr=>?_) Vc
 unfold wF wO
 exact(zh (yV (m:=false) (i:=1) wa.nd rfl (Or.inl rfl) (x3 (vx zf)))
  (zh (zb7 u01 rfl rfl T.z_range (za (edv 0) zf) (yK (zO (i:=2) wa.nd rfl (Or.inr rfl))) (zi (yV (m:=false) (i:=1) wa.nd rfl (Or.inl rfl) (zH (edv 1) (x3 (zbP (L:=["b"]) (M:=["many","found","a"]) rfl (Xi (by rfl) (by rfl) (by rfl) (by with_unfolding_all rfl) (by rfl) (by rfl) (by kernel_rfl) (all_cons rfl Yq)) (zeX rfl T.z_range (za (zH (edv 2) (ze zd)) (za (edv 0) zf))) gs1 rb1 (λ_ _ _ _=>(zO (i:=0) zmt rfl (Or.inl rfl) (.inr rfl))) (λ_ _ _ _=>(yh (za (edv 3) (za (edv 0) zf))))))))))
  (zi (zz (edv 1)))))
def xl:SE->Ctl :=
 (yn (sIf (x5 (tOf (zp ZP (zp xh (zg 1) (eC (.int 2))) (eC (.int 0)))) (tOf (zp ZP (zp xh (zp zjN (zp xo (zg 1) (eC (.int 2))) (zg 3)) (eC (.int 2))) (eC (.int 1))))) (XU false 2 (zg 4)) zV)
  (sIf (x5 (tOf (zp ZP (zp xh (zg 1) (eC (.int 2))) (eC (.int 1)))) (tOf (zp ltD (zp xh (zv 2 zy (zb (zg 1) (zb (zg 3) zt))) (eC (.int 5))) (zp yQ (eC (.int 2)) (zp xh (zp xo (zg 1) (eC (.int 2))) (eC (.int 2))))))) (XU false 2 (zg 4)) zV))
def xm:SE->Ctl :=
 (yn (X4 2 (y6 zt))
  (yn (ZK (xc (zb (zv 1 xR (zb (zg 0) zt)) zt)) (XR 2 (xH (yW 3) (xH (yW 4) X6))) xl)
  (sFz 2 (yR (xV (zb (zg 0) (zb (eFn yI (zb (zg 2) zt)) zt)))))))
def wd:List D->Option D:=fnD 5 xm
theorem zjI {a k:Int}(h:0<=k):zjN (.int a) (.int k)=some (.int (a / 2 ^ k.toNat)):=by
 show(if decide (0<=k)=true then some (D.int (a / 2 ^ k.toNat))else none)=_
 rw[q5 (j8 h)]
theorem zlD {ρ:Ev}{c x:Int}(h1:ρ[1]?=some (some (.int c)))(h3:ρ[3]?=some (some (.int x)))(hx:0<=x) :
 (∃ b,x5 (tOf (zp ZP (zp xh (zg 1) (eC (.int 2))) (eC (.int 0)))) (tOf (zp ZP (zp xh (zp zjN (zp xo (zg 1) (eC (.int 2))) (zg 3)) (eC (.int 2))) (eC (.int 1)))) ρ=some (decide (c % 2=0)&&b)) /\
 ∃ b,x5 (tOf (zp ZP (zp xh (zg 1) (eC (.int 2))) (eC (.int 1)))) (tOf (zp ltD (zp xh (zv 2 zy (zb (zg 1) (zb (zg 3) zt))) (eC (.int 5))) (zp yQ (eC (.int 2)) (zp xh (zp xo (zg 1) (eC (.int 2))) (eC (.int 2)))))) ρ=some (decide (c % 2=1)&&b):=by
 have v1:zg 1 ρ=some (.int c):=by unfold zg;rw[h1];rfl
 have v3:zg 3 ρ=some (.int x):=by unfold zg;rw[h3];rfl
 have f2:xo (.int c) (.int 2)=some (.int (c / 2)):=Z0 (by decide) (by decide)
 have m0:∀ k:Int,tOf (zp ZP (zp xh (zg 1) (eC (.int 2))) (eC (.int k))) ρ=some (decide (c % 2=k)):=λk=>by
  show(((zg 1 ρ).bind λa=>xh a (.int 2)).bind λy=>ZP y (.int k)).bind asB=_
  rw[v1,b9,yA (by decide)]
  rfl
 constructor
 .refine⟨decide (c / 2 / 2 ^ x.toNat % 2=1),?_⟩
  have m2:tOf (zp ZP (zp xh (zp zjN (zp xo (zg 1) (eC (.int 2))) (zg 3)) (eC (.int 2))) (eC (.int 1))) ρ=some (decide (c / 2 / 2 ^ x.toNat % 2=1)):=by
   show(((((zg 1 ρ).bind λa=>xo a (.int 2)).bind λa=>(zg 3 ρ).bind λb=>zjN a b).bind λa=>xh a (.int 2)).bind λy=>ZP y (.int 1)).bind asB=_
   rw[v1,v3,b9,f2,b9,b9,zjI hx,b9,yA (by decide)]
   rfl
  unfold x5
  rw[m0,b9,m2]
  cases decide (c % 2=0) <;> rfl
 .refine⟨decide (ZJ c x % 5 < 2+c / 2 % 2),?_⟩
  have es:zv 2 zy (zb (zg 1) (zb (zg 3) zt)) ρ=some (.int (ZJ c x)):=by
   unfold zv zb
   rw[v1,v3]
   rfl
  have m2:tOf (zp ltD (zp xh (zv 2 zy (zb (zg 1) (zb (zg 3) zt))) (eC (.int 5))) (zp yQ (eC (.int 2)) (zp xh (zp xo (zg 1) (eC (.int 2))) (eC (.int 2))))) ρ=some (decide (ZJ c x % 5 < 2+c / 2 % 2)):=by
   show((((zv 2 zy (zb (zg 1) (zb (zg 3) zt)) ρ).bind λa=>xh a (.int 5)).bind λa=>((((zg 1 ρ).bind λa=>xo a (.int 2)).bind λa=>xh a (.int 2)).bind λy=>yQ (.int 2) y).bind λb=>ltD a b)).bind asB=_
   rw[es,v1,b9,b9,yA (by decide),f2,b9,b9,yA (by decide)]
   rfl
  unfold x5
  rw[m0,b9,m2]
  cases decide (c % 2=1) <;> rfl
theorem zme {n c x:Int}{ts:List Tie}{t:Tie}{N B C:SE->Prop}{R:D->Prop}(hx:0<=x)(hl:(ts.map zc).length<=1000)
 (q1:N [.v (.int n),.v (.int c),.o (ts.map zc),.v (.int x),.v (zc t)]) (q2:N [.v (.int n),.v (.int c),.o ((ts++[t]).map zc),.v (.int x),.v (zc t)]) :
 (xl [.v (.int n),.v (.int c),.o (ts.map zc),.v (.int x),.v (zc t)]).w N B C R:=by
 rw[p6]at q2
 unfold xl
 obtain⟨⟨b1,e1⟩,b2,e2⟩:=zlD (ρ:=visG [.v (.int n),.v (.int c),.o (ts.map zc),.v (.int x),.v (zc t)]) (c:=c) (x:=x) rfl rfl hx
 obtain⟨_,b3,e3⟩:=zlD (ρ:=visG [.v (.int n),.v (.int c),.o (ts.map zc++[zc t]),.v (.int x),.v (zc t)]) (c:=c) (x:=x) rfl rfl hx
 have ap:=zdI (m:=false) (i:=2) (f:=zg 4) (ρ:=[.v (.int n),.v (.int c),.o (ts.map zc),.v (.int x),.v (zc t)]) (ds:=ts.map zc) (d:=zc t) rfl rfl hl
 refine zR (wC e1 (λk=>vC ap ?_) (λ_=>vC rfl (wC e2 (λ_=>vC ap q2) (λ_=>vC rfl q1))))
 refine wC e3 (λk3=>?_) (λ_=>vC rfl q2)
 have h0:c % 2=0:=d8 (Bool.and_eq_true_iff.mp k).1
 have h1:c % 2=1:=d8 (Bool.and_eq_true_iff.mp k3).1
 exact absurd (h0.symm.trans h1) (by decide)
theorem zez {n c:Int}(h1:1<=n)(h8:n<=8):∃ ts,wd [.int n,.int c]=some (zD n ts)/\ts.Sublist (xy n.toNat):=by
 have key:=zjF (m:=5) (g:=xm) (ds:=[.int n,.int c]) (R:=λd=>∃ ts:List Tie,d=zD n ts/\ts.Sublist (xy n.toNat)) rfl ?_
 .obtain⟨d,e,ts,rfl,hs⟩:=key
  exact⟨ts,e,hs⟩
 unfold xm
 refine zI rfl ?_
 have ep:xR [.int n]=some (.lst ((xy n.toNat).map zc)):=by
  show(if decide (0<=n/\n<=8)=true then some (D.lst ((xy n.toNat).map zc))else none)=_
  rw[q5 (j8 ⟨by omega,by omega⟩)]
 have h28:=(XM n.toNat (by omega)).2.2
 refine zR (WJ (ds:=YC 0 ((xy n.toNat).map zc)) (λi ρ=>∃ ts o3 o4,ρ=[.v (.int n),.v (.int c),.o (ts.map zc),o3,o4]/\ts.Sublist ((xy n.toNat).take i)) ?_ ⟨[],.no,.no,rfl,List.nil_sublist _⟩ ?_ ?_)
 .show((xR [.int n]).bind λd=>(some []:Option (List D)).map (d::·)).bind _=_
  rw[ep]
  rfl
 .rintro i d ρ hd ⟨ts,o3,o4,rfl,hs⟩
  rw[xA]at hd
  obtain⟨dx,hdx,rfl⟩:=u9.mp hd
  rw[d6]at hdx
  obtain⟨t,ht,rfl⟩:=u9.mp hdx
  rw[u0f]
  have htake:(xy n.toNat).take (i+1)=(xy n.toNat).take i++[t]:=by rw[List.take_succ,ht];rfl
  have hlen:ts.length<=28:=i4 hs.length_le (i4 (List.length_take_le _ _) (by have:=(t6.mp ht).1;omega))
  refine⟨_,rfl,zme (Int.natCast_nonneg i) (by rw[u7];omega) ⟨ts,_,_,rfl,?_⟩ ⟨ts++[t],_,_,rfl,?_⟩⟩
  .rw[htake];exact hs.trans (List.sublist_append_left _ _)
  .rw[htake];exact hs.append (List.Sublist.refl _)
 .rintro ρ ⟨ts,o3,o4,rfl,hs⟩
  exact zl5 rfl (wK rfl ⟨ts,rfl,hs.trans (u3C _ _)⟩)
theorem X5 (T:Txt K mg ad):xC P w K mg base CX0 2 ad.f__law_web_by ad.e__law_web_by ["many","cell"] (@spD ⟨K⟩ 2 wd):=by
 letI:KK:=⟨K⟩
 have G__law_stir:=wH (P:=P) (w:=w) (base:=base) T
 have G__law_pairs:=Vh (P:=P) (w:=w) (base:=base) T
 refine xQ (N:=["many","cell","ties","k","tie"]) (ps:=["many","cell"]) T.d__law_web_by.fn xN (g:=xm) λcdv A outer s H E hr=>?_
 unfold xm xl
 exact(zh (zd9 (i:=2) xN.nd rfl (Or.inl rfl) (vx zf))
  (zh (Xh u01 rfl (Xt rfl T.z_enumerate xT (za (zo G__law_pairs hr rfl T.d__law_pairs (za (edv 0) zf)) zf)) (Ws rfl (yX (yK (zO (i:=3) xN.nd rfl (Or.inl rfl))) (yX (yK (zO (i:=4) xN.nd rfl (Or.inl rfl))) Zf))) (zh (yU (zcP (zcq (yl (YL hr) vh (zN _) (xu (edv 1) (ze zd)) (ze zd)) (W7 (yl (YL hr) vh (zN _) (xu (zkz (XJ (edv 1) (ze zd)) (edv 3)) (ze zd)) (ze zd))))) (zi (zcr (m:=false) (pv 2) (edv 4) (λa b=>zaT u0L u1E u1F YV a b))) zE)
  (zi (yU (zcP (zcq (yl (YL hr) vh (zN _) (xu (edv 1) (ze zd)) (ze zd)) (W7 (yl zjU wl (zN _) (xu (zo G__law_stir hr rfl T.d__law_stir (za (edv 1) (za (edv 3) zf))) (ze zd)) (zH (ze zd) (xu (XJ (edv 1) (ze zd)) (ze zd))))))) (zi (zcr (m:=false) (pv 2) (edv 4) (λa b=>zaT u0L u1E u1F YV a b))) zE))))
  (zea 2 (zi (zz (yh (za (edv 0) (za (vP xq v4 rfl T.z_tuple yq (za (edv 2) zf)) zf))))))))
def wf (r:List D->Option D):SE->Ctl :=
 (sIf (yd (tOf (zv 2 r (zb (zg 2) (zb (zg 3) zt))))) (yR (eC (.bl false))) zV)
def yg (r:List D->Option D):SE->Ctl :=
 (yn (sIf (tOf (zp Vp (zg 1) (eC .non))) (yR (zp Vp (zg 0) (eC .non))) zV)
  (yn (sIf (tOf (eUn (ya .bool) (zg 1))) (yR (Zr (eUn (ya .bool) (zg 0)) (zp ZP (zg 0) (zg 1)))) zV)
  (yn (sIf (tOf (eUn (ya .int) (zg 1))) (yR (Zr (eUn (ya .int) (zg 0)) (Zr (Vo (eUn (ya .bool) (zg 0))) (zp ZP (zg 0) (zg 1))))) zV)
  (yn (sIf (tOf (eUn (ya .str) (zg 1))) (yR (Zr (eUn (ya .str) (zg 0)) (zp ZP (zg 0) (zg 1)))) zV)
  (yn (sIf (vD (tOf (zp neD (eUn (ya .list) (zg 1)) (eUn (ya .list) (zg 0)))) (tOf (zp neD (eUn (ya .tuple) (zg 1)) (eUn (ya .tuple) (zg 0))))) (yR (eC (.bl false))) zV)
  (yn (sIf (tOf (zp neD (eFn Yi (zb (zg 0) zt)) (eFn Yi (zb (zg 1) zt)))) (yR (eC (.bl false))) zV)
  (yn (ZK (Yh (zb (zg 0) (zb (zg 1) zt))) (XR 2 (xH (yW 2) (xH (yW 3) X6))) (wf r))
  (yR (eC (.bl true))))))))))
def wt:List D->Option D:=zjZ 4 yg 6
theorem VJ (ds:List D):zbA ds ds=ds.map λd=>.tup [d,d]:=by
 induction ds with
 | nil=>rfl
 | cons d ds ih=>show D.tup [d,d]::zbA ds ds=_;rw[ih];rfl
theorem VO {r:List D->Option D}{d:D}(hr:∀ es,(d=.tup es\/d=.lst es)->∀ e∈es,r [e,e]=some (.bl true))(hn:∀ ns,d≠.scr ns)(hd:∀ z t ks vs,d≠.dct z t ks vs):fnD 4 (yg r) [d,d]=some (.bl true):=by
 cases d with
 | scr ns=>exact absurd rfl (hn ns)
 | dct z t ks vs=>exact absurd rfl (hd z t ks vs)
 | non=>rfl
 | bl b=>cases b <;> rfl
 | int i=>simp[yg,fnD,yn,yR,YE,sIf,wS,XT,sNo,zV,zcg,X4,XU,zcc,zb4,vEv,visF,visG,Sl.f,Sl.g,zg,eC,zp,Zr,eOr,Vo,eIf,eUn,VB,xV,x8,y6,zb,zt,zv,eFn,fFn,tOf,x5,vD,yd,asB,asI,zQ,Wl,Yu,xo,xh,Wd,vp,ltD,leD,gtD,geD,WQ,yG,xn,yE,xi,Vp,yL,ixD,Yi,ya,isT,eSl,zY,zP,xP,wc,iOf,ZK,wz,XQ,Y5,Y7,xc,Yh,fLC,wg,yI,wx,yW,XR,xH,X6,b1,b2]
 | str x=>simp[yg,fnD,yn,yR,YE,sIf,wS,XT,sNo,zV,zcg,X4,XU,zcc,zb4,vEv,visF,visG,Sl.f,Sl.g,zg,eC,zp,Zr,eOr,Vo,eIf,eUn,VB,xV,x8,y6,zb,zt,zv,eFn,fFn,tOf,x5,vD,yd,asB,asI,zQ,Wl,Yu,xo,xh,Wd,vp,ltD,leD,gtD,geD,WQ,yG,xn,yE,xi,Vp,yL,ixD,Yi,ya,isT,eSl,zY,zP,xP,wc,iOf,ZK,wz,XQ,Y5,Y7,xc,Yh,fLC,wg,yI,wx,yW,XR,xH,X6,b1,b2]
 | tup es =>
  refine ZT (ρ:=[.v (.tup es),.v (.tup es),.no,.no]) rfl ?_
  unfold yg
  refine zI rfl (zI rfl (zI rfl (zI rfl (zI rfl (zR (wC (c:=false) (by simp[fnD,yn,yR,YE,sIf,wS,XT,sNo,zV,zcg,X4,XU,zcc,zb4,vEv,visF,visG,Sl.f,Sl.g,zg,eC,zp,Zr,eOr,Vo,eIf,eUn,VB,xV,x8,y6,zb,zt,zv,eFn,fFn,tOf,x5,vD,yd,asB,asI,zQ,Wl,Yu,xo,xh,Wd,vp,ltD,leD,gtD,geD,WQ,yG,xn,yE,xi,Vp,yL,ixD,Yi,ya,isT,eSl,zY,zP,xP,wc,iOf,ZK,wz,XQ,Y5,Y7,xc,Yh,fLC,wg,yI,wx,yW,XR,xH,X6,b1,b2]) (λz=>by cases z) λ_=>vC rfl ?_))))))
  refine zR (WJ (ds:=zbA es es) (λi ρ=>∃ o1 o2,ρ=[.v (.tup es),.v (.tup es),o1,o2]) (by simp[fnD,yn,yR,YE,sIf,wS,XT,sNo,zV,zcg,X4,XU,zcc,zb4,vEv,visF,visG,Sl.f,Sl.g,zg,eC,zp,Zr,eOr,Vo,eIf,eUn,VB,xV,x8,y6,zb,zt,zv,eFn,fFn,tOf,x5,vD,yd,asB,asI,zQ,Wl,Yu,xo,xh,Wd,vp,ltD,leD,gtD,geD,WQ,yG,xn,yE,xi,Vp,yL,ixD,Yi,ya,isT,eSl,zY,zP,xP,wc,iOf,ZK,wz,XQ,Y5,Y7,xc,Yh,fLC,wg,yI,wx,yW,XR,xH,X6,b1,b2]) ⟨_,_,rfl⟩ ?_ ?_)
  .rintro i d ρ hd ⟨o1,o2,rfl⟩
   rw[VJ,d6]at hd
   obtain⟨e,he,rfl⟩:=u9.mp hd
   have hre:=hr es (.inl rfl) e (b6 he)
   refine⟨_,rfl,?_⟩
   unfold wf
   refine wC (c:=false) (by simp[fnD,yn,yR,YE,sIf,wS,XT,sNo,zV,zcg,X4,XU,zcc,zb4,vEv,visF,visG,Sl.f,Sl.g,zg,eC,zp,Zr,eOr,Vo,eIf,eUn,VB,xV,x8,y6,zb,zt,zv,eFn,fFn,tOf,x5,vD,yd,asB,asI,zQ,Wl,Yu,xo,xh,Wd,vp,ltD,leD,gtD,geD,WQ,yG,xn,yE,xi,Vp,yL,ixD,Yi,ya,isT,eSl,zY,zP,xP,wc,iOf,ZK,wz,XQ,Y5,Y7,xc,Yh,fLC,wg,yI,wx,yW,XR,xH,X6,b1,b2,hre]) (λz=>by cases z) λ_=>vC rfl ⟨_,_,rfl⟩
  .rintro ρ ⟨o1,o2,rfl⟩
   exact wK rfl rfl
 | lst es =>
  refine ZT (ρ:=[.v (.lst es),.v (.lst es),.no,.no]) rfl ?_
  unfold yg
  refine zI rfl (zI rfl (zI rfl (zI rfl (zI rfl (zR (wC (c:=false) (by simp[fnD,yn,yR,YE,sIf,wS,XT,sNo,zV,zcg,X4,XU,zcc,zb4,vEv,visF,visG,Sl.f,Sl.g,zg,eC,zp,Zr,eOr,Vo,eIf,eUn,VB,xV,x8,y6,zb,zt,zv,eFn,fFn,tOf,x5,vD,yd,asB,asI,zQ,Wl,Yu,xo,xh,Wd,vp,ltD,leD,gtD,geD,WQ,yG,xn,yE,xi,Vp,yL,ixD,Yi,ya,isT,eSl,zY,zP,xP,wc,iOf,ZK,wz,XQ,Y5,Y7,xc,Yh,fLC,wg,yI,wx,yW,XR,xH,X6,b1,b2]) (λz=>by cases z) λ_=>vC rfl ?_))))))
  refine zR (WJ (ds:=zbA es es) (λi ρ=>∃ o1 o2,ρ=[.v (.lst es),.v (.lst es),o1,o2]) (by simp[fnD,yn,yR,YE,sIf,wS,XT,sNo,zV,zcg,X4,XU,zcc,zb4,vEv,visF,visG,Sl.f,Sl.g,zg,eC,zp,Zr,eOr,Vo,eIf,eUn,VB,xV,x8,y6,zb,zt,zv,eFn,fFn,tOf,x5,vD,yd,asB,asI,zQ,Wl,Yu,xo,xh,Wd,vp,ltD,leD,gtD,geD,WQ,yG,xn,yE,xi,Vp,yL,ixD,Yi,ya,isT,eSl,zY,zP,xP,wc,iOf,ZK,wz,XQ,Y5,Y7,xc,Yh,fLC,wg,yI,wx,yW,XR,xH,X6,b1,b2]) ⟨_,_,rfl⟩ ?_ ?_)
  .rintro i d ρ hd ⟨o1,o2,rfl⟩
   rw[VJ,d6]at hd
   obtain⟨e,he,rfl⟩:=u9.mp hd
   have hre:=hr es (.inr rfl) e (b6 he)
   refine⟨_,rfl,?_⟩
   unfold wf
   refine wC (c:=false) (by simp[fnD,yn,yR,YE,sIf,wS,XT,sNo,zV,zcg,X4,XU,zcc,zb4,vEv,visF,visG,Sl.f,Sl.g,zg,eC,zp,Zr,eOr,Vo,eIf,eUn,VB,xV,x8,y6,zb,zt,zv,eFn,fFn,tOf,x5,vD,yd,asB,asI,zQ,Wl,Yu,xo,xh,Wd,vp,ltD,leD,gtD,geD,WQ,yG,xn,yE,xi,Vp,yL,ixD,Yi,ya,isT,eSl,zY,zP,xP,wc,iOf,ZK,wz,XQ,Y5,Y7,xc,Yh,fLC,wg,yI,wx,yW,XR,xH,X6,b1,b2,hre]) (λz=>by cases z) λ_=>vC rfl ⟨_,_,rfl⟩
  .rintro ρ ⟨o1,o2,rfl⟩
   exact wK rfl rfl
theorem zdq:∀ (n:Nat) {d:D},okE n d=true->zjZ 4 yg (n+1) [d,d]=some (.bl true):=by
 intro n
 induction n with
 | zero =>
  intro d h
  refine VO (λes he=>?_) (λns e=>by subst e;cases h) (λ_ _ _ _ e=>by subst e;cases h)
  rcases he with rfl | rfl <;> cases h
 | succ n ih =>
  intro d h
  refine VO (λes he e hm=>?_) (λns e=>by subst e;cases h) (λ_ _ _ _ e=>by subst e;cases h)
  rcases he with rfl | rfl
  .exact ih (u0B.mp h e hm)
  .exact ih (u0B.mp h e hm)
theorem zfF {d:D}(h:okE 5 d=true):wt [d,d]=some (.bl true):=zdq 5 h
theorem VN (T:Txt K mg ad):xC P w K mg base CX0 7 ad.f__law_same ad.e__law_same ["found","due"] (@spD ⟨K⟩ 2 wt):=by
 letI:KK:=⟨K⟩
 have R:∀ n,xC P w K mg base CX0 (1+n) ad.f__law_same ad.e__law_same ["found","due"] (spD 2 (zjZ 4 yg n)):=by
  refine zkW (P:=P) (w:=w) (mg:=mg) (base:=base) (k0:=1) (g:=yg) T.d__law_same.fn vE λk r hrec cdv A outer s H E hr=>?_
  unfold yg wf
  exact(zh (yU (yl zhQ zfm (zN _) (edv 1) (XD Xo)) (zi (zz (ZG zhQ zfm (zN _) (edv 0) (XD Xo)))) zE)
   (zh (yU (yj (zw .bool rfl T.z_isinstance (edv 1) (zJ (v:=.ty "bool") rfl T.z_bool Xk rfl))) (zi (zz (vB (zw .bool rfl T.z_isinstance (edv 0) (zJ (v:=.ty "bool") rfl T.z_bool Xk rfl)) (Ym (ZG (YL hr) vh (zN _) (edv 0) (edv 1)))))) zE)
   (zh (yU (yj (zw .int rfl T.z_isinstance (edv 1) (zJ (v:=.ty "int") rfl T.z_int zci rfl))) (zi (zz (vB (zw .int rfl T.z_isinstance (edv 0) (zJ (v:=.ty "int") rfl T.z_int zci rfl)) (vB (zfB (zw .bool rfl T.z_isinstance (edv 0) (zJ (v:=.ty "bool") rfl T.z_bool Xk rfl))) (Ym (ZG (YL hr) vh (zN _) (edv 0) (edv 1))))))) zE)
   (zh (yU (yj (zw .str rfl T.z_isinstance (edv 1) (zJ (v:=.ty "str") rfl T.z_str zhR rfl))) (zi (zz (vB (zw .str rfl T.z_isinstance (edv 0) (zJ (v:=.ty "str") rfl T.z_str zhR rfl)) (Ym (ZG (YL hr) vh (zN _) (edv 0) (edv 1)))))) zE)
   (zh (yU (zcP (Zj (yl XI Yk (zN _) (zw .list rfl T.z_isinstance (edv 1) (zJ (v:=.ty "list") rfl T.z_list Zc rfl)) (zw .list rfl T.z_isinstance (edv 0) (zJ (v:=.ty "list") rfl T.z_list Zc rfl))) (Y0 (yl XI Yk (zN _) (zw .tuple rfl T.z_isinstance (edv 1) (zJ (v:=.ty "tuple") rfl T.z_tuple yq rfl)) (zw .tuple rfl T.z_isinstance (edv 0) (zJ (v:=.ty "tuple") rfl T.z_tuple yq rfl)))))) (zi (zz (xB xg))) zE)
   (zh (yU (yl XI Yk (zN _) (yi zM wy rfl T.z_len vQ (za (edv 0) zf)) (yi zM wy rfl T.z_len vQ (za (edv 1) zf))) (zi (zz (xB xg))) zE)
   (zh (Xh u01 rfl (zlq rfl T.z_zip (za (edv 0) (za (edv 1) zf))) (Ws rfl (yX (yK (zO (i:=2) vE.nd rfl (Or.inl rfl))) (yX (yK (zO (i:=3) vE.nd rfl (Or.inl rfl))) Zf))) (zi (yU (yB (yj (zeG hrec hr rfl T.d__law_same.at_ T.d__law_same.kp T.d__law_same.bd (za (edv 2) (za (edv 3) zf))))) (zi (zz (xB xg))) zE)))
   (zi (zz (xB xg))))))))))
 exact R 6
theorem Xr (T:Txt K mg ad):xC P w K mg base CX0 1 ad.i_NoSteps ad.j_NoSteps ["self","at"] (spI K 1 ["at"] (gI1 "at")):=by
 refine T.fi_NoSteps.ok zbo (λvs H Q E h=>ziy vs H Q E h) λcdv A outer s H vs Q E hr hsp=>?_
 exact⟨_,(Yw (zmO (pv 0) (pv 1) rfl)),(zio hsp)⟩
theorem Wt {ts:List Tie}(h:ts.length < 64):Vk [.lst (ts.map zc)]=some ((vf ts).map zc):=by
 show(if (ts.map zc).length < 64 then _ else none)=_
 rw[q5 (by rw[u7];exact h),show zak (ts.map zc)=some ts from zaj ts]
 rfl
structure zh6 (n:Int) (i:Nat) (ts:List Tie):Prop where
 rng:∀ t∈ts,0<=t.1/\t.1 < t.2/\t.2 < n
 nd:ts.Nodup
 has:∀ k:Int,1<=k->k<=(i:Int)->∃ t∈ts,t.2=k
 len:ts.length<=28+i
theorem zh6.yes {n x:Int}{i:Nat}{ts:List Tie}(h:zh6 n i ts)(hx:x=1+(i:Int)){t:Tie}(ht:t∈ts)(e:t.2=x):zh6 n (i+1) ts :=
 ⟨h.rng,h.nd,λk k1 k2=>by
  by_cases c:k=x
  .exact⟨t,ht,by rw[e,c]⟩
  .exact h.has k k1 (by omega),Nat.le_succ_of_le h.len⟩
theorem zh6.add {n x j:Int}{i:Nat}{ts:List Tie}(h:zh6 n i ts)(hx:x=1+(i:Int))(hn:x < n)(j0:0<=j)(j1:j < x)(hno:∀ t∈ts,t.2≠x):zh6 n (i+1) (ts++[(j,x)]):=by
 refine⟨λt ht=>?_,?_,λk k1 k2=>?_,?_⟩
 .rcases u0r.mp ht with ht | ht
  .exact h.rng t ht
  .cases j9.mp ht;exact⟨j0,j1,hn⟩
 .refine u2z.mpr ⟨h.nd,u0s.mpr ⟨p5,u08⟩,λa ha b hb e=>?_⟩
  cases j9.mp hb
  exact hno a ha (by rw[e])
 .by_cases c:k=x
  .exact⟨(j,x),u0r.mpr (.inr (j9.mpr rfl)),c.symm⟩
  .obtain⟨t,ht,e⟩:=h.has k k1 (by omega)
   exact⟨t,u0r.mpr (.inl ht),e⟩
 .rw[d9]
  exact u1N h.len
theorem zlo {ρ:Ev}{ts:List Tie}{x:Int}(h2:ρ[2]?=some (some (.lst (ts.map zc))))(h3:ρ[3]?=some (some (.int x)))(hl:ts.length<=1000):fLC (iOf (zg 2)) b1 (tOf (zp ZP (zp ixD (zg 0) (eC (.int 1))) (zg 4))) (zg 0) ρ=some ((ts.filter λt=>decide (t.2=x)).map zc):=by
 have e2:zg 2 ρ=some (.lst (ts.map zc)):=by unfold zg;rw[h2];rfl
 unfold fLC
 show(((zg 2 ρ).bind wc).bind λds=>if lim ds.length=true then _ else none)=_
 rw[e2]
 show(if lim (ts.map zc).length=true then _ else none)=_
 rw[q5 (YW (by rw[u7];exact hl))]
 refine Zn zc (λt=>decide (t.2=x)) zc ts λt _=>⟨[some (zc t)],rfl,?_,λ_=>rfl⟩
 have e3:zg 4 ([some (zc t)]++ρ)=some (.int x):=by
  unfold zg
  rw[show([some (zc t)]++ρ)[4]?=ρ[3]? from rfl,h3]
  rfl
 show((some (D.int t.2)).bind λa=>(zg 4 ([some (zc t)]++ρ)).bind λb=>ZP a b).bind asB=_
 rw[e3]
 rfl
def xk:SE->Ctl :=
 (yn (wS false 4 (xV (zb (zp xh (zv 2 zy (zb (zg 1) (zb (zp yQ (eC (.int 50)) (zg 3)) zt))) (zg 3)) (zb (zg 3) zt))))
  (sIf (tOf (zp ZP (eFn Yi (zb (x8 (fLC (iOf (zg 2)) b1 (tOf (zp ZP (zp ixD (zg 0) (eC (.int 1))) (zg 4))) (zg 0))) zt)) (eC (.int 0)))) (XU false 2 (zg 4)) zV))
def yz:SE->Ctl :=
 (yn (X4 2 (fFn wx (zb (zp ixD (zv 2 wd (zb (zg 0) (zb (zg 1) zt))) (eC (.int 1))) zt)))
  (yn (wz Y7 (zb (eC (.int 1)) (zb (zg 0) zt)) (yW 3) xk)
  (sFz 2 (yR (xV (zb (zg 0) (zb (eFn yI (zb (x8 (fFn Vk (zb (zg 2) zt))) zt)) zt)))))))
def xY:List D->Option D:=fnD 5 yz
theorem VH {n c:Int}(h1:1<=n)(h8:n<=8):∃ ts,xY [.int n,.int c]=some (zD n ts)/\xD n ts/\(∀ x:Int,1<=x->x < n->∃ t∈ts,t.2=x):=by
 obtain⟨ts0,ew,hsub⟩:=zez (n:=n) (c:=c) h1 h8
 obtain⟨k,hk⟩:∃ k:Nat,n=((k+1:Nat):Int):=⟨(n - 1).toNat,by omega⟩
 have hk7:k<=7:=by omega
 obtain⟨q1,q2,q3⟩:=XM n.toNat (by omega)
 have key:=zjF (m:=5) (g:=yz) (ds:=[.int n,.int c]) (R:=λd=>∃ ts:List Tie,d=zD n (vf ts)/\zh6 n k ts) (ρ:=[.v (.int n),.v (.int c),.no,.no,.no]) rfl ?_
 .obtain⟨d,e,ts,rfl,hj⟩:=key
  have hp:=wV ts
  have hr:∀ t∈vf ts,0<=t.1/\t.1 < t.2/\t.2 < n:=λt ht=>hj.rng t (hp.mem_iff.mp ht)
  refine⟨_,e,⟨h1,h8,hr,vK hj.nd⟩,λx x1 x2=>?_⟩
  obtain⟨t,ht,e2⟩:=hj.has x x1 (by omega)
  exact⟨t,hp.mem_iff.mpr ht,e2⟩
 unfold yz
 refine zI (ρ':=[.v (.int n),.v (.int c),.o (ts0.map zc),.no,.no]) (zjh (ds:=ts0.map zc) ?_) ?_
 .show(((wd [.int n,.int c]).bind λx=>ixD x (.int 1)).bind λd=>(some []).map (d::·)).bind wx=_
  rw[ew]
  rfl
 have hrng:Y7 [.int 1,.int n]=some (ZW 1 k):=zkU hk hk7
 refine zR (zfs (lo:=1) (c:=k) (λi ρ=>∃ (ts:List Tie) (o3 o4:Sl),ρ=[.v (.int n),.v (.int c),.o (ts.map zc),o3,o4]/\zh6 n i ts) hrng ⟨ts0,_,_,rfl,⟨λt ht=>?_,(q1.sublist hsub).imp λ{a b} h e=>by subst e;exact absurd (wX.mpr h) (by unfold leP;simp),λk k1 k2=>absurd (Int.le_trans k1 k2) (by decide),i4 hsub.length_le q3⟩⟩ ?_ ?_)
 .have:=q2 t (hsub.subset ht)
  omega
 .rintro i ρ hi ⟨ts,o3,o4,rfl,hj⟩
  obtain⟨x,hx⟩:∃ x:Int,x=(1:Int)+(i:Int):=⟨_,rfl⟩
  rw[<-hx]
  refine⟨[.v (.int n),.v (.int c),.o (ts.map zc),.v (.int x),o4],rfl,?_⟩
  unfold xk
  obtain⟨j,hjj⟩:∃ j:Int,ZJ c (50+x) % x=j:=⟨_,rfl⟩
  have xp:0 < x:=by omega
  obtain⟨j0,j1⟩:=xO xp hjj
  have hl:=hj.len
  refine zI (ρ':=[.v (.int n),.v (.int c),.o (ts.map zc),.v (.int x),.v (zc (j,x))]) (Yt (d:=zc (j,x)) ?_) ?_
  .have m1:xh (.int (ZJ c (50+x))) (.int x)=some (.int j):=by rw[yA xp,hjj]
   show((xh (.int (ZJ c (50+x))) (.int x)).bind λd=>(some [D.int x]).map (d::·)).bind _=_
   rw[m1]
   rfl
  refine wC (c:=decide ((((ts.filter λt=>decide (t.2=x)).map zc).length:Int)=0)) ?_ (λc0=>?_) (λc0=>?_)
  .have el':=zlo (ρ:=visG [.v (.int n),.v (.int c),.o (ts.map zc),.v (.int x),.v (zc (j,x))]) (ts:=ts) (x:=x) rfl rfl (by omega)
   show(((((fLC (iOf (zg 2)) b1 (tOf (zp ZP (zp ixD (zg 0) (eC (.int 1))) (zg 4))) (zg 0) _).map D.lst).bind λd=>(some []).map (d::·)).bind Yi).bind λa=>ZP a (.int 0)).bind asB=_
   rw[el']
   rfl
  .refine vC (zdI (ds:=ts.map zc) (d:=zc (j,x)) rfl rfl (by rw[u7];omega)) ⟨ts++[(j,x)],.v (.int x),.v (zc (j,x)),?_,hj.add hx (by omega) j0 j1 λt ht e=>?_⟩
   .rw[p6];rfl
   .have h0:=d8 c0
    have:t∈ts.filter λt=>decide (t.2=x):=u1l.mpr ⟨ht,j8 e⟩
    rw[u7]at h0
    rw[u0Z.mp (Int.ofNat.inj h0)]at this
    cases this
  .obtain⟨t,ht⟩:∃ t,t∈ts.filter λt=>decide (t.2=x):=by
    rcases hf:ts.filter λt=>decide (t.2=x)with _ | ⟨t,r⟩
    .rw[hf]at c0;cases c0
    .exact⟨t,by rw[hf];exact g9⟩
   obtain⟨t1,t2⟩:=u1l.mp ht
   exact vC rfl ⟨ts,_,_,rfl,hj.yes hx t1 (d8 t2)⟩
 .rintro ρ ⟨ts,o3,o4,rfl,hj⟩
  have hl:=hj.len
  have e5:=Wt (ts:=ts) (by omega)
  refine zl5 (ρ':=[.v (.int n),.v (.int c),.v (.lst (ts.map zc)),o3,o4]) rfl ?_
  refine wK (y8 (d:=zD n (vf ts)) ?_) ⟨ts,rfl,hj⟩
  show((((((Vk [.lst (ts.map zc)]).map D.lst).bind λd=>(some []).map (d::·)).bind yI).bind λd=>(some []).map (d::·)).map (D.int n::·)).bind _=_
  rw[e5]
  rfl
theorem Zw (T:Txt K mg ad):xC P w K mg base CX0 3 ad.f__law_joined_by ad.e__law_joined_by ["many","cell"] (@spD ⟨K⟩ 2 xY):=by
 letI:KK:=⟨K⟩
 have G__law_stir:=wH (P:=P) (w:=w) (base:=base) T
 have G__law_web_by:=X5 (P:=P) (w:=w) (base:=base) T
 refine xQ (N:=["many","cell","ties","k","tie"]) (ps:=["many","cell"]) T.d__law_joined_by.fn yO (g:=yz) λcdv A outer s H E hr=>?_
 unfold yz xk
 exact(zh (zd9 (i:=2) yO.nd rfl (Or.inl rfl) (Xc rfl T.z_list (za (yu (zo G__law_web_by hr rfl T.d__law_web_by (za (edv 0) (za (edv 1) zf))) (ze zd) (λ_ _=>rfl)) zf)))
  (zh (zgn u01 rfl rfl T.z_range (za (ze zd) (za (edv 0) zf)) (yK (zO (i:=3) yO.nd rfl (Or.inr rfl))) (zh (yV (m:=false) (i:=4) yO.nd rfl (Or.inl rfl) (yh (za (xu (zo G__law_stir hr rfl T.d__law_stir (za (edv 1) (za (zH (ze zd) (edv 3)) zf))) (edv 3)) (za (edv 3) zf))))
  (zi (yU (yl (YL hr) vh (zN _) (yi zM wy rfl T.z_len vQ (za (x3 (zfJ (L:=["other"]) (M:=["many","cell","ties","k","tie"]) rfl (Xi (by rfl) (by rfl) (by rfl) (by with_unfolding_all rfl) (by rfl) (by rfl) (by kernel_rfl) (all_cons rfl Yq)) (XF (edv 2)) gs1 rb1 (λ_ _ _ _=>(zO (i:=0) zmR rfl (Or.inl rfl) (.inr rfl))) (λ_ _ _ _=>(yl (YL hr) vh (zN _) (yu (edv 0) (ze zd) (λ_ _=>rfl)) (edv 4))) (λ_ _ _ _=>(edv 0)))) zf)) (ze zd)) (zi (zcr (m:=false) (pv 2) (edv 4) (λa b=>zaT u0L u1E u1F YV a b))) zE))))
  (zea 2 (zi (zz (yh (za (edv 0) (za (vP xq v4 rfl T.z_tuple yq (za (x3 (zau rfl rfl T.z_sorted (za (edv 2) zf))) zf)) zf))))))))
theorem zgu {gx hx:SE->Option Nat}{g:SE->Ctl}{ρ:SE}{j:Nat}(e:gx ρ=some j):zgU gx g hx ρ=some j:=by
 unfold zgU
 rw[e]
theorem W9 {gx hx:SE->Option Nat}{g:SE->Ctl}{ρ ρ':SE}{j:Nat}(e:gx ρ=none)(e2:g ρ=.nx ρ')(e3:hx ρ'=some j):zgU gx g hx ρ=some j:=by
 unfold zgU
 rw[e,e2]
 exact e3
theorem zha {gx:SE->Option Nat}{g:SE->Ctl}{h:Nat->Option D}{ρ:SE}{j:Nat}{d:D}(e:gx ρ=some j)(e2:h j=some d):zkm gx g h ρ=.rt d:=by
 unfold zkm
 rw[e]
 show(match h j with | some d=>Ctl.rt d | none=>.no)=_
 rw[e2]
theorem zhc {b:D->SE->Option SE}{gx:SE->Option Nat}{g:SE->Ctl}{j:Nat}(I:Nat->SE->Prop):∀ (i n:Nat) (ds:List D) (ρ:SE),I n ρ->i < ds.length ->
 (∀ k d ρ,k < i->ds[k]?=some d->I (n+k) ρ->∃ ρ1 ρ',b d ρ=some ρ1/\gx ρ1=none/\g ρ1=.nx ρ'/\I (n+k+1) ρ')->(∀ d ρ,ds[i]?=some d->I (n+i) ρ->∃ ρ1,b d ρ=some ρ1/\gx ρ1=some j)->ZN b gx g ds ρ=some j:=by
 intro i
 induction i with
 | zero =>
  intro n ds ρ h0 hi _ hit
  cases ds with
  | nil=>cases hi
  | cons d ds =>
   obtain⟨ρ1,e1,e2⟩:=hit d ρ rfl h0
   unfold ZN
   rw[e1]
   show(match gx ρ1 with | some j=>some j | none=>_)=_
   rw[e2]
 | succ i ih =>
  intro n ds ρ h0 hi step hit
  cases ds with
  | nil=>cases hi
  | cons d ds =>
   obtain⟨ρ1,ρ',e1,e2,e3,h1⟩:=step 0 d ρ (u2E _) rfl h0
   unfold ZN
   rw[e1]
   show(match gx ρ1 with | some j=>some j | none=>_)=_
   rw[e2]
   show(match g ρ1 with | .nx ρ'=>ZN b gx g ds ρ' | .ct ρ'=>ZN b gx g ds ρ' | _=>none)=_
   rw[e3]
   refine ih (n+1) ds ρ' h1 (u2r hi) (λk d ρ hk hd hI=>?_) λd ρ hd hI=>?_
   .rw[show n+1+k=n+(k+1) by omega]at hI ⊢
    exact step (k+1) d ρ (Nat.succ_lt_succ hk) hd hI
   .rw[show n+1+i=n+(i+1) by omega]at hI
    exact hit d ρ hd hI
theorem zd3 {t:Ev->Option Bool}{g h:SE->Option Nat}{ρ:SE}{j:Nat}(e:t (visG ρ)=some true)(e2:g ρ=some j):xIf t g h ρ=some j:=by
 unfold xIf
 rw[e]
 exact e2
theorem zh2 {t:Ev->Option Bool}{g h:SE->Option Nat}{ρ:SE}{r:Option Nat}(e:t (visG ρ)=some false)(e2:h ρ=r):xIf t g h ρ=r:=by
 unfold xIf
 rw[e]
 exact e2
theorem Wa {t:Ev->Option Bool}{g:SE->Ctl}{ρ:SE}(e:t (visG ρ)=some false):sIf t g zV ρ=.nx ρ:=by
 unfold sIf
 rw[e]
 rfl
theorem ZR {m:Int}{ts:List Tie}{a b:Int}(ok:xD m ts)(h:wT a b∈ts):(0<=a/\a < m)/\(0<=b/\b < m)/\a≠b:=by
 have:=ok.rng _ h
 unfold wT at this
 dsimp only at this
 split at this <;> split at this <;> omega
def YJ:SE->Ctl :=
 (yR (Zr (zv 2 yJ (zb (zp ixD (zg 0) (eC (.int 0))) (zb (zg 1) zt))) (zp inD (zv 2 yP (zb (zp ixD (zg 1) (eC (.int 0))) (zb (zp ixD (zg 1) (eC (.int 1))) zt))) (zp ixD (zg 0) (eC (.int 1))))))
def zW:List D->Option D:=fnD 2 YJ
theorem Zl {m:Int}{ts:List Tie}(ok:xD m ts)(a b:Int):zW [zD m ts,.tup [.int a,.int b]]=some (.bl (decide (wT a b∈ts))):=by
 have ep:yJ [.int m,.tup [.int a,.int b]]=some (.bl (inR m a&&inR m b&&!decide (a=b))):=rfl
 have et:yP [.int a,.int b]=some (zc (wT a b)):=rfl
 have ei:=WX (wT a b) ts
 have em:ixD (zD m ts) (.int 0)=some (.int m):=rfl
 have e1:ixD (zD m ts) (.int 1)=some (.tup (ts.map zc)):=rfl
 have ea:ixD (.tup [.int a,.int b]) (.int 0)=some (.int a):=rfl
 have eb:ixD (.tup [.int a,.int b]) (.int 1)=some (.int b):=rfl
 refine ZT (ρ:=[.v (zD m ts),.v (.tup [.int a,.int b])]) rfl ?_
 unfold YJ
 refine wK (y8 ?_) rfl
 cases hp:inR m a&&inR m b&&!decide (a=b) with
 | true =>
  rw[hp]at ep
  show(((yJ [.int m,.tup [.int a,.int b]]).bind asB).bind λc=>if c=true then ((yP [.int a,.int b]).bind λt=>inD t (.tup (ts.map zc)))else some (D.bl false))=_
  rw[ep,et]
  exact ei
 | false =>
  have:¬ wT a b∈ts:=λh=>by
   obtain⟨h1,h2,h3⟩:=ZR ok h
   have:(inR m a&&inR m b&&!decide (a=b))=true:=by
    unfold inR
    simp only[p4,p0,u2v,u0z]
    omega
   rw[this]at hp
   cases hp
  rw[g0 this]
  rw[hp]at ep
  show(((yJ [.int m,.tup [.int a,.int b]]).bind asB).bind λc=>if c=true then ((yP [.int a,.int b]).bind λt=>inD t (.tup (ts.map zc)))else some (D.bl false))=_
  rw[ep]
  rfl
theorem Zp (T:Txt K mg ad):xC P w K mg base CX0 5 ad.f_is_step ad.e_is_step ["web","thing"] (@spD ⟨K⟩ 2 zW):=by
 letI:KK:=⟨K⟩
 have G_is_pair:=Wk (P:=P) (w:=w) (base:=base) T
 have G_tie_between:=X8 (P:=P) (w:=w) (base:=base) T
 refine xQ (N:=["web","thing"]) (ps:=["web","thing"]) T.d_is_step.fn zc6 (g:=YJ) λcdv A outer s H E hr=>?_
 unfold YJ
 exact(zi (zz (vB (zo G_is_pair hr rfl T.d_is_pair (za (yu (edv 0) (ze zd) (λ_ _=>rfl)) (za (edv 1) zf))) (Ym (ZG (zeK hr) zdt (by with_unfolding_all rfl) (zo G_tie_between hr rfl T.d_tie_between (za (yu (edv 1) (ze zd) (λ_ _=>rfl)) (za (yu (edv 1) (ze zd) (λ_ _=>rfl)) zf))) (yu (edv 0) (ze zd) (λ_ _=>rfl)))))))
theorem zfb {m:Int}{ts:List Tie}{t:Tie}(ok:xD m ts)(ht:t∈ts):wT t.1 t.2=t/\wT t.2 t.1=t:=by
 have h:=(ok.rng t ht).2.1
 unfold wT
 exact⟨by rw[j4 (by omega),q5 h],by rw[q5 h,j4 (by omega)]⟩
abbrev TR:=Int × Int × Int
def trD (r:TR):D:=.tup [.int r.1,.int r.2.1,.int r.2.2]
def trP (r:TR):Tie:=(r.1,r.2.1)
structure zib (ts:List Tie) (rs:List TR):Prop where
 row:∀ r∈rs,wT r.1 r.2.1∈ts/\1<=r.2.2/\r.2.2<=300
 srt:rs.Pairwise λa b=>ltP (trP a) (trP b)
 len:rs.length<=1000
def yf:SE->Ctl :=
 (yn (sIf (vD (yd (tOf (eUn (ya .tuple) (zg 1)))) (tOf (zp neD (eFn Yi (zb (zg 1) zt)) (eC (.int 3))))) (yR (eC (.bl false))) zV)
  (yR (Zr (zv 2 zW (zb (zg 0) (zb (eSl slD (zg 1) zY (zP (eC (.int 2)))) zt))) (zv 3 zq (zb (zp ixD (zg 1) (eC (.int 2))) (zb (eC (.int 1)) (zb (eC (.int 300)) zt)))))))
def ye:List D->Option D:=fnD 2 yf
theorem vM {m:Int}{ts:List Tie}(ok:xD m ts)(r:TR):ye [zD m ts,trD r]=some (.bl (decide (wT r.1 r.2.1∈ts)&&(decide (1<=r.2.2)&&decide (r.2.2<=300)))):=by
 have es:=Zl ok r.1 r.2.1
 have ew:zq [.int r.2.2,.int 1,.int 300]=some (.bl (decide (1<=r.2.2)&&decide (r.2.2<=300))):=rfl
 refine ZT (ρ:=[.v (zD m ts),.v (trD r)]) rfl ?_
 unfold yf
 refine zR (wC (c:=false) rfl (λz=>by cases z) (λ_=>vC rfl ?_))
 refine wK (y8 ?_) rfl
 show(((zW [zD m ts,.tup [.int r.1,.int r.2.1]]).bind asB).bind λc=>if c=true then zq [.int r.2.2,.int 1,.int 300]else some (.bl false))=_
 rw[es,ew]
 cases decide (wT r.1 r.2.1∈ts) <;> rfl
theorem xw {m:Int}{ts:List Tie}{d:D}(h:(vD (yd (tOf (eUn (ya .tuple) (zg 1)))) (tOf (zp neD (eFn Yi (zb (zg 1) zt)) (eC (.int 3))))) (visG [.v (zD m ts),.v d])=some true):ye [zD m ts,d]=some (.bl false):=by
 refine ZT (ρ:=[.v (zD m ts),.v d]) rfl ?_
 unfold yf
 exact zR (wC (c:=true) h (λ_=>wK rfl rfl) (λz=>by cases z))
theorem XA (T:Txt K mg ad):xC P w K mg base CX0 6 ad.f_is_tally_row ad.e_is_tally_row ["web","thing"] (@spD ⟨K⟩ 2 ye):=by
 letI:KK:=⟨K⟩
 have G_is_whole_within:=xj (P:=P) (w:=w) (base:=base) T
 have G_is_step:=Zp (P:=P) (w:=w) (base:=base) T
 refine xQ (N:=["web","thing"]) (ps:=["web","thing"]) T.d_is_tally_row.fn Xq (g:=yf) λcdv A outer s H E hr=>?_
 unfold yf
 exact(zh (yU (zcP (Zj (yB (yj (zw .tuple rfl T.z_isinstance (edv 1) (zJ (v:=.ty "tuple") rfl T.z_tuple yq rfl)))) (Y0 (yl XI Yk (zN _) (yi zM wy rfl T.z_len vQ (za (edv 1) zf)) (ze zd))))) (zi (zz (xB xg))) zE)
  (zi (zz (vB (zo G_is_step hr rfl T.d_is_step (za (edv 0) (za (zF (edv 1) zT (zK (ze zd))) zf))) (Ym (zo G_is_whole_within hr rfl T.d_is_whole_within (za (yu (edv 1) (ze zd) (λ_ _=>rfl)) (za (ze zd) (za (ze (y9 (v:=.int 300) rfl T.g_MOST_TIMES ⟨_,rfl⟩)) zf)))))))))
def yF:SE->Ctl :=
 (yn (sIf (yd (tOf (zv 2 ye (zb (zg 0) (zb (zg 3) zt))))) (yR (eC (.bl false))) zV)
  (sIf (x5 (tOf (zp gtD (zg 2) (eC (.int 0)))) (tOf (zp leT (eSl slD (zg 3) zY (zP (eC (.int 2)))) (eSl slD (zp ixD (zg 1) (zp Wl (zg 2) (eC (.int 1)))) zY (zP (eC (.int 2))))))) (yR (eC (.bl false))) zV))
def yb:SE->Ctl :=
 (yn (sIf (yd (tOf (eUn (ya .tuple) (zg 1)))) (yR (eC (.bl false))) zV)
  (yn (ZK (xc (zb (zg 1) zt)) (XR 2 (xH (yW 2) (xH (yW 3) X6))) yF)
  (yR (eC (.bl true)))))
def yw:List D->Option D:=fnD 4 yb
theorem Vu {m:Int}{ts:List Tie}{rs:List TR}(ok:xD m ts)(h:zib ts rs):yw [zD m ts,.tup (rs.map trD)]=some (.bl true):=by
 refine ZT (ρ:=[.v (zD m ts),.v (.tup (rs.map trD)),.no,.no]) rfl ?_
 unfold yb
 refine zR (wC (c:=false) rfl (λz=>by cases z) (λ_=>vC rfl ?_))
 refine zR (WJ (ds:=YC 0 (rs.map trD)) (λ_ ρ=>∃ o2 o3:Sl,ρ=[.v (zD m ts),.v (.tup (rs.map trD)),o2,o3]) rfl ⟨_,_,rfl⟩ ?_ ?_)
 .rintro i d ρ hd ⟨o2,o3,rfl⟩
  rw[xA,d6,u0f]at hd
  obtain⟨x,hx,rfl⟩:=u9.mp hd
  obtain⟨r,hr,rfl⟩:=u9.mp hx
  obtain⟨h1,h2,h3⟩:=h.row r (b6 hr)
  have e1:=vM ok r
  rw[j8 h1,j8 h2,j8 h3]at e1
  refine⟨[.v (zD m ts),.v (.tup (rs.map trD)),.v (.int (i:Int)),.v (trD r)],rfl,?_⟩
  unfold yF
  refine zR (wC (c:=false) ?_ (λz=>by cases z) (λ_=>vC rfl ?_))
  .show(((ye [zD m ts,trD r]).bind asB).map (!·))=_
   rw[e1]
   rfl
  refine wC (c:=false) ?_ (λz=>by cases z) (λ_=>vC rfl ⟨_,_,rfl⟩)
  cases i with
  | zero=>rfl
  | succ j =>
   obtain⟨q,hq⟩:∃ q,rs[j]?=some q:=⟨_,r9 (u3D (t6.mp hr).1)⟩
   have hlt:ltP (trP q) (trP r):=by
    obtain⟨a1,a2⟩:=t6.mp hr
    obtain⟨b1,b2⟩:=t6.mp hq
    have:=i9.mp h.srt j (j+1) b1 a1 (u1s j)
    rwa[a2,b2]at this
   have e2:L2.atI (rs.map trD) (((j+1:Nat):Int) - 1)=some (trD q):=Vv (by omega) (by rw[show(((j+1:Nat):Int) - 1).toNat=j by omega,d6,hq];rfl)
   have e3:leT (zc (trP r)) (zc (trP q))=some (.bl false):=by
    show some (D.bl (leP (trP r) (trP q)))=_
    rw[wX.mpr hlt]
   have e4:gtD (.int ((j+1:Nat):Int)) (.int 0)=some (.bl true):=by
    show some (D.bl (decide (0 < ((j+1:Nat):Int))))=_
    rw[j8 (by omega)]
   show((gtD (.int ((j+1:Nat):Int)) (.int 0)).bind asB).bind (λc=>if c=true then (((L2.atI (rs.map trD) (((j+1:Nat):Int) - 1)).bind λx=>(slD x none (some 2))).bind λy=>leT (zc (trP r)) y).bind asB else some false)=_
   rw[e4,e2]
   show((leT (zc (trP r)) (zc (trP q))).bind asB)=_
   rw[e3]
   rfl
 .rintro ρ ⟨o2,o3,rfl⟩
  exact wK rfl rfl
theorem Za (T:Txt K mg ad):xC P w K mg base CX0 7 ad.f_are_tally_rows ad.e_are_tally_rows ["web","thing"] (@spD ⟨K⟩ 2 yw):=by
 letI:KK:=⟨K⟩
 have G_is_tally_row:=XA (P:=P) (w:=w) (base:=base) T
 refine xQ (N:=["web","thing","at","row"]) (ps:=["web","thing"]) T.d_are_tally_rows.fn xG (g:=yb) λcdv A outer s H E hr=>?_
 unfold yb yF
 exact(zh (yU (yB (yj (zw .tuple rfl T.z_isinstance (edv 1) (zJ (v:=.ty "tuple") rfl T.z_tuple yq rfl)))) (zi (zz (xB xg))) zE)
  (zh (Xh u01 rfl (Xt rfl T.z_enumerate xT (za (edv 1) zf)) (Ws rfl (yX (yK (zO (i:=2) xG.nd rfl (Or.inl rfl))) (yX (yK (zO (i:=3) xG.nd rfl (Or.inl rfl))) Zf))) (zh (yU (yB (yj (zo G_is_tally_row hr rfl T.d_is_tally_row (za (edv 0) (za (edv 3) zf))))) (zi (zz (xB xg))) zE)
  (zi (yU (zcP (zcq (yl zfl wl (zN _) (edv 2) (ze zd)) (W7 (yl (zhS hr.units0) zfI (zN _) (zF (edv 3) zT (zK (ze zd))) (zF (yu (edv 1) (zfr (edv 2) (ze zd)) (λ_ _=>rfl)) zT (zK (ze zd))))))) (zi (zz (xB xg))) zE))))
  (zi (zz (xB xg)))))
theorem zhW {it:Ev->Option (List D)}{b:D->Option (List (Option D))}{t:Ev->Option Bool}{f:Ev->Option D}{ρ:Ev}{α:Type}{c:α->D}{p:α->Bool}{y:α->D}{xs:List α}(h1:it ρ=some (xs.map c))(hl:xs.length<=1000)(h:∀ x∈xs,∃ own,b (c x)=some own/\t (own++ρ)=some (p x)/\(p x=true->f (own++ρ)=some (y x))):fLC it b t f ρ=some ((xs.filter p).map y):=by
 unfold fLC
 rw[h1,b9,q5 (YW (by rw[u7];exact hl))]
 exact Zn c p y xs h
theorem zhP {it:Ev->Option (List D)}{b:D->Option (List (Option D))}{t:Ev->Option Bool}{f:Ev->Option D}{ρ:Ev}{α:Type}{c y:α->D}{xs:List α}(h1:it ρ=some (xs.map c))(hl:xs.length<=1000)(h:∀ x∈xs,∃ own,b (c x)=some own/\t (own++ρ)=some true/\f (own++ρ)=some (y x)):fLC it b t f ρ=some (xs.map y):=by
 unfold fLC
 rw[h1,b9,q5 (YW (by rw[u7];exact hl))]
 exact zaP c y xs h
theorem zcm {m:Int}{ts:List Tie}(ok:xD m ts):yo [zD m ts]=some .non:=by
 have hw:Yl (zD m ts)=true:=(Zm _).mpr ⟨_,_,rfl,ok⟩
 simp only[yo]
 rw[q5 hw]
def tdl (r:TR)(x:Int):Int:=(if x=r.2.1 then r.2.2 else 0) - (if x=r.1 then 2*r.2.2 else 0)
def tsd (R:List TR)(x:Int):Int:=(R.map λr=>tdl r x).sum
theorem zbC (r:TR)(R:List TR)(x:Int):tsd (r::R) x=tdl r x+tsd R x:=rfl
theorem zfL (R S:List TR)(x:Int):tsd (R++S) x=tsd R x+tsd S x:=by
 unfold tsd
 rw[p6,List.sum_append]
def zlY (R:List TR):List Tie:=R.flatMap λr=>List.replicate r.2.2.toNat (trP r)
inductive Vn:D->Prop
 | pair (a b:Int):Vn (.tup [.int a,.int b])
 | lst:Vn (.lst [.int 0,.int 1])
 | tru:Vn (.tup [.bl true,.int 0])
 | fal:Vn (.tup [.int 0,.bl false])
 | non:Vn .non
 | text (s:String):Vn (.str s)
 | three:Vn (.tup [.int 0,.int 1,.int 1])
 | one:Vn (.tup [.int 0])
 | num (n:Int):Vn (.int n)
def zg7 (ts:List Tie):D->Option Tie
 | .tup [.int a,.int b]=>if decide (wT a b∈ts)=true then some (a,b)else none
 | _=>none
theorem wZ (ts:List Tie)(a b:Int):zg7 ts (.tup [.int a,.int b])=if decide (wT a b∈ts)=true then some (a,b)else none:=rfl
theorem Zk {m:Int}{ts:List Tie}{d:D}(ok:xD m ts)(h:Vn d):zW [zD m ts,d]=some (.bl (zg7 ts d).isSome):=by
 cases h with
 | pair a b =>
  rw[Zl ok,wZ]
  cases decide (wT a b∈ts) <;> rfl
 | _=>rfl
def vG:SE->Ctl :=
 (yR (Zr (eUn (ya .int) (zg 0)) (Vo (eUn (ya .bool) (zg 0)))))
def wJ:List D->Option D:=fnD 1 vG
theorem YK (T:Txt K mg ad):xC P w K mg base CX0 1 ad.f__law_whole ad.e__law_whole ["found"] (@spD ⟨K⟩ 1 wJ):=by
 letI:KK:=⟨K⟩
 refine xQ (N:=["found"]) (ps:=["found"]) T.d__law_whole.fn Wy (g:=vG) λcdv A outer s H E hr=>?_
 unfold vG
 exact(zi (zz (vB (zw .int rfl T.z_isinstance (edv 0) (zJ (v:=.ty "int") rfl T.z_int zci rfl)) (Ym (zfB (zw .bool rfl T.z_isinstance (edv 0) (zJ (v:=.ty "bool") rfl T.z_bool Xk rfl)))))))
def xM:SE->Ctl :=
 (yn (sIf (vD (yd (tOf (eUn (ya .tuple) (zg 1)))) (vD (tOf (zp neD (eFn Yi (zb (zg 1) zt)) (eC (.int 2)))) (yd (tOf (eFn allD (zb (x8 (fLC (iOf (zg 1)) b1 wg (zv 1 wJ (zb (zg 0) zt)))) zt)))))) (yR (eC (.bl false))) zV)
  (yR (zp inD (xV (zb (eFn zle (zb (zg 1) zt)) (zb (eFn zlr (zb (zg 1) zt)) zt))) (zp ixD (zg 0) (eC (.int 1))))))
def wM:List D->Option D:=fnD 2 xM
theorem XL (a b:Int):wT a b=(zgP [a,b],zgH [a,b]):=by
 unfold wT zgP zgH
 rw[show [a,b].min?=some (min a b)from rfl,show [a,b].max?=some (max a b)from rfl]
 show _=(min a b,max a b)
 rw[Int.min_def,Int.max_def]
 refine u10 ?_ ?_ <;> dsimp only <;> split <;> split <;> omega
theorem wL {m:Int}{ts:List Tie}{d:D}(h:Vn d):wM [zD m ts,d]=some (.bl (zg7 ts d).isSome):=by
 cases h with
 | pair a b =>
  refine ZT (ρ:=[.v (zD m ts),.v (.tup [.int a,.int b])]) rfl ?_
  unfold xM
  refine zR (wC (c:=false) rfl (λz=>by cases z) (λ_=>vC rfl ?_))
  refine wK (y8 (d:=.bl (zg7 ts (.tup [.int a,.int b])).isSome) ?_) rfl
  have ei:=WX (wT a b) ts
  rw[XL]at ei
  rw[wZ]
  show inD (.tup [.int (zgP [a,b]),.int (zgH [a,b])]) (.tup (ts.map zc))=_
  refine ei.trans ?_
  rw[<-XL]
  cases decide (wT a b∈ts) <;> rfl
 | _=>rfl
theorem XN (T:Txt K mg ad):xC P w K mg base CX0 2 ad.f__law_is_step ad.e__law_is_step ["web","thing"] (@spD ⟨K⟩ 2 wM):=by
 letI:KK:=⟨K⟩
 have G__law_whole:=YK (P:=P) (w:=w) (base:=base) T
 refine xQ (N:=["web","thing"]) (ps:=["web","thing"]) T.d__law_is_step.fn Xu (g:=xM) λcdv A outer s H E hr=>?_
 unfold xM
 exact(zh (yU (zcP (Zj (yB (yj (zw .tuple rfl T.z_isinstance (edv 1) (zJ (v:=.ty "tuple") rfl T.z_tuple yq rfl)))) (Zj (yl XI Yk (zN _) (yi zM wy rfl T.z_len vQ (za (edv 1) zf)) (ze zd)) (Y0 (yB (yj (yi (zee rfl) ziA rfl T.z_all zlP (za (x3 (zbP (L:=["place"]) (M:=["web","thing"]) rfl (Xi (by rfl) (by rfl) (by rfl) (by with_unfolding_all rfl) (by rfl) (by rfl) (by kernel_rfl) Yq) (XF (edv 1)) gs1 rb1 (λ_ _ _ _=>(zO (i:=0) zmH rfl (Or.inl rfl) (.inr rfl))) (λ_ _ _ _=>(zo G__law_whole hr rfl T.d__law_whole (za (edv 0) zf))))) zf)))))))) (zi (zz (xB xg))) zE)
  (zi (zz (ZG (zeK hr) zdt (by with_unfolding_all rfl) (yh (za (yi (zeg rfl) zgi rfl T.z_min zhO (za (edv 1) zf)) (za (yi (zef rfl) zg5 rfl T.z_max zhD (za (edv 1) zf)) zf))) (yu (edv 0) (ze zd) (λ_ _=>rfl))))))
abbrev Tm:=List (Tie × Int)
def tkK (s:Tie):List Key:=[.inl s.1,.inl s.2]
theorem ze1 {s u:Tie}(h:tkK s=tkK u):s=u:=by
 unfold tkK at h
 injection h with h1 h2
 injection h2 with h2 _
 exact u10 (Sum.inl.inj h1) (Sum.inl.inj h2)
def tmK (T:Tm):List (List Key):=T.map λe=>tkK e.1
def tmV (T:Tm):List D:=T.map λe=>.int e.2
def xU:Tm->Tie->Option Int
 | [],_=>none
 | e::T,s=>if e.1=s then some e.2 else xU T s
def tv (T:Tm)(s:Tie):Int:=(xU T s).getD 0
def Vr (T:Tm)(s:Tie)(n:Int):Tm:=T.map λe=>if e.1=s then (e.1,n)else e
def za0 (T:Tm)(s:Tie)(n:Int):Tm:=if (xU T s).isSome=true then Vr T s n else T++[(s,n)]
theorem Z7 (s:Tie):∀ T:Tm,Xg (tmK T) (tmV T) (tkK s)=(xU T s).map .int
 | []=>rfl
 | e::T=>by
  refine Z5.trans ?_
  show(if tkK e.1=tkK s then some (D.int e.2)else Xg (tmK T) (tmV T) (tkK s))=(if e.1=s then some e.2 else xU T s).map D.int
  by_cases h:e.1=s
  .rw[q5 h,q5 (by rw[h])];rfl
  .rw[j4 h,j4 (λz=>h (ze1 z)),Z7 s T]
theorem zfg (s:Tie)(n:Int):∀ T:Tm,zjQ (tmK T) (tmV T) (tkK s) (.int n)=tmV (Vr T s n)
 | []=>rfl
 | e::T=>by
  show(@ite _ (tkK e.1=tkK s) (zbN (tkK e.1) (tkK s)) (D.int n) (D.int e.2))::zjQ (tmK T) (tmV T) (tkK s) (.int n)=D.int (if e.1=s then (e.1,n)else e).2::tmV (Vr T s n)
  rw[zfg s n T]
  congr 1
  by_cases h:e.1=s
  .rw[q5 h,q5 (by rw[h])]
  .rw[j4 h,j4 (λz=>h (ze1 z))]
theorem Z8 (s:Tie)(n:Int)(T:Tm):(Vr T s n).map (·.1)=T.map (·.1):=by
 unfold Vr
 rw[u0H]
 refine u06 λe _=>?_
 show(if e.1=s then (e.1,n)else e).1=e.1
 split <;> rfl
theorem zhg {T U:Tm}(h:T.map (·.1)=U.map (·.1)):tmK T=tmK U:=by
 have e:∀ T:Tm,tmK T=(T.map (·.1)).map tkK:=λT=>by unfold tmK;rw[u0H];rfl
 rw[e,e,h]
theorem zeU {m:Bool}{i:Nat}{fk fe:Ev->Option D}{ρ ρ':SE}{T:Tm}{s:Tie}{n:Int}(h1:vEv m fe ρ=some (.int n))(h2:fk (visG ρ)=some (zc s))(h3:ρ[i]?=some (.m true (tmK T) (tmV T)))(h5:T.length<=1000)
 (h6:ρ.set i (.m true (tmK (za0 T s n)) (tmV (za0 T s n)))=ρ'):zcW m i fk fe ρ=.nx ρ':=by
 have hz:T.length < sizeLine:=by rw[u1n];omega
 have e:zjL ρ i (zc s) (.int n)=some ρ':=by
  unfold zjL
  rw[h3]
  show(some (tkK s)).bind (λk=>if decide ((tmK T).length < sizeLine)=true then some (ρ.set i (.m true (zdb (tmK T) (tmV T) k) (zcB (tmK T) (tmV T) k (.int n))))else none)=_
  rw[b9,q5 (j8 (by unfold tmK;rw[u7];exact hz)),<- h6]
  unfold zdb zcB
  rw[Z7,Option.isSome_map]
  unfold za0
  by_cases c:(xU T s).isSome=true
  .rw[q5 c,q5 c,q5 c,zfg,zhg (Z8 s n T)]
  .rw[j4 c,j4 c,j4 c]
   unfold tmK tmV
   rw[p6,p6]
   rfl
 unfold zcW
 rw[h1,h2]
 show(match zjL ρ i (zc s) (.int n)with | some ρ'=>Ctl.nx ρ' | none=>Ctl.no)=_
 rw[e]
theorem zeR {z:Bool}{T:Tm}{s:Tie}{n:Int}(h:xU T s=some n):zgt (.dct z true (tmK T) (tmV T)) (zc s)=some (.int n):=by
 show(some (tkK s)).bind (λk=>Xg (tmK T) (tmV T) k)=_
 rw[b9,Z7,h]
 rfl
theorem zf0 (T:Tm)(e:Tie × Int)(u:Tie):xU (T++[e]) u=if (xU T u).isSome=true then xU T u else if e.1=u then some e.2 else none:=by
 induction T with
 | nil=>rfl
 | cons a T ih =>
  show(if a.1=u then some a.2 else xU (T++[e]) u)=if (if a.1=u then some a.2 else xU T u).isSome=true then (if a.1=u then some a.2 else xU T u)else _
  by_cases h:a.1=u
  .rw[q5 h,q5 h];rfl
  .rw[j4 h,j4 h,ih]
theorem zgO (T:Tm)(s u:Tie)(n:Int):xU (Vr T s n) u=if u=s then (xU T u).map λ_=>n else xU T u:=by
 induction T with
 | nil=>unfold Vr;split <;> rfl
 | cons a T ih =>
  show(if (if a.1=s then (a.1,n)else a).1=u then some (if a.1=s then (a.1,n)else a).2 else xU (Vr T s n) u)=if u=s then ((if a.1=u then some a.2 else xU T u).map λ_=>n)else (if a.1=u then some a.2 else xU T u)
  rw[ih]
  by_cases h:a.1=s
  .rw[q5 h]
   show(if a.1=u then some n else _)=_
   by_cases c:a.1=u
   .rw[q5 c,q5 c,q5 (c.symm.trans h)];rfl
   .rw[j4 c,j4 c]
  .rw[j4 h]
   by_cases c:a.1=u
   .rw[q5 c,q5 c,j4 λz=>h (c.trans z)]
   .rw[j4 c,j4 c]
theorem zcd (T:Tm)(s u:Tie)(n:Int):xU (za0 T s n) u=if u=s then some n else xU T u:=by
 unfold za0
 by_cases c:(xU T s).isSome=true
 .rw[q5 c,zgO]
  by_cases h:u=s
  .subst h
   rw[q5 rfl,q5 rfl]
   obtain⟨x,hx⟩:=u0v.mp c
   rw[hx];rfl
  .rw[j4 h,j4 h]
 .rw[j4 c,zf0]
  by_cases h:u=s
  .subst h
   rw[j4 c,q5 rfl,q5 rfl]
  .rw[j4 h]
   show(if (xU T u).isSome=true then xU T u else if s=u then some n else none)=_
   rw[j4 (u0P h)]
   cases xU T u <;> rfl
theorem zdM (T:Tm)(s u:Tie)(n:Int):tv (za0 T s n) u=if u=s then n else tv T u:=by
 unfold tv
 rw[zcd]
 split <;> rfl
theorem zcn {s:Tie}{n:Int}:∀ {T:Tm},xU T s=some n->(s,n)∈T
 | [],h=>by cases h
 | e::T,h=>by
  have h:(if e.1=s then some e.2 else xU T s)=some n:=h
  by_cases c:e.1=s
  .rw[q5 c]at h
   cases h
   subst c
   exact .head _
  .rw[j4 c]at h
   exact .tail _ (zcn h)
theorem Y1 {s:Tie}:∀ {T:Tm},s∈T.map (·.1)->(xU T s).isSome=true
 | [],h=>by cases h
 | e::T,h=>by
  show(if e.1=s then some e.2 else xU T s).isSome=true
  by_cases c:e.1=s
  .rw[q5 c];rfl
  .rw[j4 c]
   rcases j5.mp h with z | z
   .exact absurd z.symm c
   .exact Y1 z
theorem zfj {s:Tie}{T:Tm}(h:¬ (xU T s).isSome=true):s∉T.map (·.1):=λz=>h (Y1 z)
theorem Vb {e:Tie × Int}:∀ {T:Tm},(T.map (·.1)).Nodup->e∈T->xU T e.1=some e.2
 | [],_,h=>by cases h
 | a::T,nd,h=>by
  rw[i8,u0s]at nd
  show(if a.1=e.1 then some a.2 else xU T e.1)=some e.2
  rcases j5.mp h with rfl | h
  .rw[q5 rfl]
  .have hm:e.1∈T.map (·.1):=u1m h
   rw[j4 (λz:a.1=e.1=>nd.1 (by rw[z];exact hm)),Vb nd.2 h]
theorem zeF {T:Tm}{s:Tie}{n:Int}(nd:(T.map (·.1)).Nodup):((za0 T s n).map (·.1)).Nodup:=by
 unfold za0
 by_cases c:(xU T s).isSome=true
 .rw[q5 c,Z8];exact nd
 .rw[j4 c,p6]
  refine u2z.mpr ⟨nd,u0s.mpr ⟨p5,u08⟩,λa ha b hb z=>?_⟩
  have hb:b=s:=j9.mp hb
  subst hb z
  exact zfj c ha
theorem zf4 {T:Tm}{s:Tie}{n:Int}{u:Tie}(h:u∈(za0 T s n).map (·.1)):u=s\/u∈T.map (·.1):=by
 unfold za0 at h
 by_cases c:(xU T s).isSome=true
 .rw[q5 c,Z8]at h;exact .inr h
 .rw[j4 c,p6]at h
  rcases u0r.mp h with h | h
  .exact .inr h
  .exact .inl (j9.mp h)
def zj5 (e:Tie × Int):TR:=(e.1.1,e.1.2,e.2)
def tmR (T:Tm):List TR:=T.map zj5
theorem zjs (a b n k x:Int):tdl (a,b,n+k) x=tdl (a,b,n) x+tdl (a,b,k) x:=by
 unfold tdl
 dsimp only
 split <;> split <;> omega
theorem zfk {s:Tie}{n x:Int}:∀ {T:Tm},(T.map (·.1)).Nodup->(xU T s).isSome=true->tsd (tmR (Vr T s n)) x=tsd (tmR T) x+tdl (s.1,s.2,n - tv T s) x
 | [],_,h=>by cases h
 | a::T,nd,h=>by
  rw[i8,u0s]at nd
  have e0:tmR (Vr (a::T) s n)=zj5 (if a.1=s then (a.1,n)else a)::tmR (Vr T s n):=rfl
  have e1:tmR (a::T)=zj5 a::tmR T:=rfl
  rw[e0,e1,zbC,zbC]
  by_cases c:a.1=s
  .have hT:Vr T s n=T:=by
    unfold Vr
    refine(u06 λe he=>?_).trans (List.map_id T)
    have hm:e.1∈T.map (·.1):=u1m he
    rw[j4 (λz:e.1=s=>nd.1 (by rw[c,<- z];exact hm))];rfl
   have hv:tv (a::T) s=a.2:=by unfold tv;show(if a.1=s then some a.2 else xU T s).getD 0=_;rw[q5 c];rfl
   rw[q5 c,hT,hv]
   subst c
   have:=zjs a.1.1 a.1.2 a.2 (n - a.2) x
   rw[show a.2+(n - a.2)=n by omega]at this
   show tdl (a.1.1,a.1.2,n) x+_=tdl (a.1.1,a.1.2,a.2) x+_+_
   rw[this]
   omega
  .have h2:(xU T s).isSome=true:=by
    have h:(if a.1=s then some a.2 else xU T s).isSome=true:=h
    rwa[j4 c]at h
   have hv:tv (a::T) s=tv T s:=by unfold tv;show(if a.1=s then some a.2 else xU T s).getD 0=_;rw[j4 c]
   rw[j4 c,zfk nd.2 h2,hv]
   omega
theorem ziC {T:Tm}{s:Tie}{n x:Int}(nd:(T.map (·.1)).Nodup):tsd (tmR (za0 T s n)) x=tsd (tmR T) x+tdl (s.1,s.2,n - tv T s) x:=by
 unfold za0
 by_cases c:(xU T s).isSome=true
 .rw[q5 c];exact zfk nd c
 .rw[j4 c]
  have:tv T s=0:=by unfold tv;cases e:xU T s with
   | none=>rfl
   | some y=>rw[e]at c;exact absurd rfl c
  unfold tmR
  rw[p6,zfL,this,Int.sub_zero]
  show _+(tdl (s.1,s.2,n) x+0)=_
  rw[Int.add_zero]
def tot (T:Tm):Int:=(T.map (·.2)).sum
theorem zei {s:Tie}{n:Int}:∀ {T:Tm},(T.map (·.1)).Nodup->(xU T s).isSome=true->tot (Vr T s n)=tot T+(n - tv T s)
 | [],_,h=>by cases h
 | a::T,nd,h=>by
  rw[i8,u0s]at nd
  show(if a.1=s then (a.1,n)else a).2+tot (Vr T s n)=a.2+tot T+_
  by_cases c:a.1=s
  .have hT:Vr T s n=T:=by
    unfold Vr
    refine(u06 λe he=>?_).trans (List.map_id T)
    have hm:e.1∈T.map (·.1):=u1m he
    rw[j4 (λz:e.1=s=>nd.1 (by rw[c,<- z];exact hm))];rfl
   have hv:tv (a::T) s=a.2:=by unfold tv;show(if a.1=s then some a.2 else xU T s).getD 0=_;rw[q5 c];rfl
   rw[q5 c,hT,hv]
   show n+tot T=_
   omega
  .have h2:(xU T s).isSome=true:=by
    have h:(if a.1=s then some a.2 else xU T s).isSome=true:=h
    rwa[j4 c]at h
   have hv:tv (a::T) s=tv T s:=by unfold tv;show(if a.1=s then some a.2 else xU T s).getD 0=_;rw[j4 c]
   rw[j4 c,zei nd.2 h2,hv]
   omega
theorem zjC {T:Tm}{s:Tie}{n:Int}(nd:(T.map (·.1)).Nodup):tot (za0 T s n)=tot T+(n - tv T s):=by
 unfold za0
 by_cases c:(xU T s).isSome=true
 .rw[q5 c];exact zei nd c
 .rw[j4 c]
  have:tv T s=0:=by unfold tv;cases e:xU T s with
   | none=>rfl
   | some y=>rw[e]at c;exact absurd rfl c
  unfold tot
  rw[p6,List.sum_append,this]
  show _+(n+0)=_
  omega
def zkZ:List Int->Tie
 | [a,b]=>(a,b)
 | _=>(0,0)
def zjR (e:Tie × Int):List Int:=[e.1.1,e.1.2]
def zct (T:Tm):List Tie:=(vA (T.map zjR)).map zkZ
theorem vd (T:Tm):(zct T).Perm (T.map (·.1)):=by
 have:=(vt (T.map zjR)).map zkZ
 rw[u0H]at this
 exact this
theorem XB {T:Tm}{l:List Int}(h:l∈vA (T.map zjR)):∃ a b,l=[a,b]:=by
 obtain⟨e,_,rfl⟩:=u0b.mp ((vt _).mem_iff.mp h)
 exact⟨_,_,rfl⟩
theorem lexP {a b c d:Int}(h:HT.lexLt [c,d] [a,b]=false)(hne:((a,b):Tie)≠(c,d)):ltP (a,b) (c,d):=by
 rw[HT.lexLt_cons]at h
 show a < c\/(a=c/\b < d)
 by_cases e:c=a
 .rw[q5 e,HT.lexLt_cons]at h
  subst e
  by_cases e2:d=b
  .subst e2;exact absurd rfl hne
  .rw[j4 e2]at h
   have:=of_decide_eq_false h
   exact .inr ⟨rfl,by omega⟩
 .rw[j4 e]at h
  have:=of_decide_eq_false h
  exact .inl (by omega)
theorem zdR {T:Tm}(nd:(T.map (·.1)).Nodup):(zct T).Pairwise ltP:=by
 have n2:(zct T).Nodup:=(vd T).nodup_iff.mpr nd
 unfold zct at n2 ⊢
 have n3:=u0X.mp n2
 rw[u0X]
 refine((Xp (T.map zjR)).and n3).imp_of_mem λ{l k} hl hk h=>?_
 obtain⟨a,b,rfl⟩:=XB hl
 obtain⟨c,d,rfl⟩:=XB hk
 exact lexP h.1 h.2
theorem zbt:∀ T:Tm,VC (tmK T)=some (T.map zjR)
 | []=>rfl
 | e::T=>by
  show(match zhp (tkK e.1)with | some (i::t)=>(VC (tmK T)).map ((i::t)::·) | _=>none)=_
  rw[zbt T]
  rfl
def zhs (T:Tm)(s:Tie):TR:=(s.1,s.2,tv T s)
def Vm (T:Tm):List TR:=((zct T).filter λs=>decide (0 < tv T s)).map (zhs T)
theorem zjx {T:Tm}{z:Bool}(h:T.length < 64):zce [.dct z true (tmK T) (tmV T)]=some ((zct T).map zc):=by
 show(if (tmK T).length < 64 then (VC (tmK T)).map λts=>(vA ts).map zlK else none)=_
 rw[q5 (by unfold tmK;rw[u7];exact h),zbt]
 show some ((vA (T.map zjR)).map zlK)=_
 congr 1
 unfold zct
 rw[u0H]
 refine u06 λl hl=>?_
 obtain⟨a,b,rfl⟩:=XB hl
 rfl
theorem zeC {T:Tm}{s:Tie}(h:s∈zct T):xU T s=some (tv T s):=by
 obtain⟨n,hn⟩:=u0v.mp (Y1 ((vd T).mem_iff.mp h))
 unfold tv
 rw[hn]
 rfl
def wI:SE->Ctl :=
 (yR (eFn yI (zb (x8 (fLC (iOf (x8 (fFn zce (zb (zg 0) zt)))) b1 (tOf (zp gtD (zp zgt (zg 1) (zg 0)) (eC (.int 0)))) (xV (zb (zp ixD (zg 0) (eC (.int 0))) (zb (zp ixD (zg 0) (eC (.int 1))) (zb (zp zgt (zg 1) (zg 0)) zt)))))) zt)))
def wE:List D->Option D:=fnD 1 wI
theorem Ww {T:Tm}(h64:T.length < 64):wE [.dct true true (tmK T) (tmV T)]=some (.tup ((Vm T).map trD)):=by
 refine ZT (ρ:=[.v (.dct true true (tmK T) (tmV T))]) rfl ?_
 unfold wI
 refine wK (y8 (zfe (ds:=[.lst ((Vm T).map trD)]) (zu (v0 ?_) yS) rfl)) rfl
 unfold Vm
 rw[u0H]
 have hl:(zct T).length<=1000:=by rw[(vd T).length_eq,u7];omega
 refine zhW (c:=zc) (p:=λs=>decide (0 < tv T s)) (y:=trD ∘ zhs T) (xs:=zct T) ?_ hl λs hs=>⟨[some (zc s)],rfl,?_,λ_=>?_⟩
 .exact zco (d:=.lst ((zct T).map zc)) (v0 (zen (ds:=[.dct true true (tmK T) (tmV T)]) (zu rfl yS) (zjx h64))) rfl
 .exact wm (zB (x:=.int (tv T s)) (y:=.int 0) (zB (x:=.dct true true (tmK T) (tmV T)) (y:=zc s) rfl rfl (zeR (zeC hs))) rfl rfl)
 .exact zeH (ds:=[.int s.1,.int s.2,.int (tv T s)]) (zu (zB (x:=zc s) (y:=.int 0) rfl rfl rfl) (zu (zB (x:=zc s) (y:=.int 1) rfl rfl rfl) (zu (zB (x:=.dct true true (tmK T) (tmV T)) (y:=zc s) rfl rfl (zeR (zeC hs))) yS))) (by show 3<=1000;decide)
theorem YT (T:Txt K mg ad):xC P w K mg base CX0 1 ad.f_tally_from ad.e_tally_from ["times"] (@spD ⟨K⟩ 1 wE):=by
 letI:KK:=⟨K⟩
 refine xQ (N:=["times"]) (ps:=["times"]) T.d_tally_from.fn WU (g:=wI) λcdv A outer s H E hr=>?_
 unfold wI
 exact(zi (zz (vP xq v4 rfl T.z_tuple yq (za (x3 (zfJ (L:=["step"]) (M:=["times"]) rfl (Xi (by rfl) (by rfl) (by rfl) (by with_unfolding_all rfl) (by rfl) (by rfl) (by kernel_rfl) (all_cons rfl Yq)) (XF (x3 (zcK rfl rfl T.z_sorted (za (edv 0) zf)))) gs1 rb1 (λ_ _ _ _=>(zO (i:=0) zmT rfl (Or.inl rfl) (.inr rfl))) (λ_ _ _ _=>(yl zfl wl (zN _) (zdz hr (edv 1) (edv 0) (λ_ _=>rfl)) (ze zd))) (λ_ _ _ _=>(yh (za (yu (edv 0) (ze zd) (λ_ _=>rfl)) (za (yu (edv 0) (ze zd) (λ_ _=>rfl)) (za (zdz hr (edv 1) (edv 0) (λ_ _=>rfl)) zf))))))) zf))))
theorem zd5 {T:Tm}(nd:(T.map (·.1)).Nodup):(Vm T).Perm ((T.filter λe=>decide (0 < e.2)).map zj5):=by
 have h1:=((vd T).filter λs=>decide (0 < tv T s)).map (zhs T)
 refine h1.trans (List.Perm.of_eq ?_)
 rw[List.filter_map,u0H]
 have hv:∀ e∈T,tv T e.1=e.2:=λe he=>by unfold tv;rw[Vb nd he];rfl
 have e1:T.filter ((λs=>decide (0 < tv T s)) ∘ λe=>e.1)=T.filter λe=>decide (0 < e.2):=List.filter_congr λe he=>by
  show decide (0 < tv T e.1)=_
  rw[hv e he]
 rw[e1]
 refine u06 λe he=>?_
 show(e.1.1,e.1.2,tv T e.1)=_
 rw[hv e (u1l.mp he).1]
 rfl
theorem zgc {T:Tm}(nd:(T.map (·.1)).Nodup){r:TR}(h:r∈Vm T):∃ e∈T,0 < e.2/\zj5 e=r:=by
 obtain⟨e,he,z⟩:=u0b.mp ((zd5 nd).mem_iff.mp h)
 obtain⟨he,h0⟩:=u1l.mp he
 exact⟨e,he,d8 h0,z⟩
theorem zbu (T:Tm):(Vm T).length<=T.length:=by
 unfold Vm
 rw[u7]
 exact i4 (List.length_filter_le _ _) (by rw[(vd T).length_eq,u7];exact j3 _)
theorem zkS {ts:List Tie}{T:Tm}(nd:(T.map (·.1)).Nodup)(hs:∀ e∈T,wT e.1.1 e.1.2∈ts/\e.2<=300)(h64:T.length < 64):zib ts (Vm T):=by
 refine⟨λr hr=>?_,?_,by have:=zbu T;omega⟩
 .obtain⟨e,he,h0,rfl⟩:=zgc nd hr
  have:=hs e he
  exact⟨this.1,by show 1<=e.2;omega,this.2⟩
 .unfold Vm
  rw[u0X]
  exact(zdR nd).filter _
def zfR (T:Tm)(s:Tie):Tm:=za0 T s (tv T s+1)
def wb (S:List Tie):Tm:=S.foldl zfR []
theorem YZ {S:List Tie}{i:Nat}{s:Tie}(h:S[i]?=some s):wb (S.take (i+1))=zfR (wb (S.take i)) s:=by
 unfold wb
 rw[u1Y,h,List.foldl_append]
 rfl
def one (s:Tie):TR:=(s.1,s.2,1)
structure zdG (S:List Tie) (T:Tm):Prop where
 nd:(T.map (·.1)).Nodup
 sub:∀ s∈T.map (·.1),s∈S
 all:∀ s∈S,s∈T.map (·.1)
 nn:∀ s,0<=tv T s/\tv T s<=S.length
 pos:∀ s∈S,0 < tv T s
 sd:∀ x,tsd (tmR T) x=tsd (S.map one) x
 tot:tot T=S.length
theorem zdG.add {S:List Tie}{T:Tm}(h:zdG S T)(s:Tie):zdG (S++[s]) (zfR T s):=by
 have hn:=h.nn s
 refine⟨zeF h.nd,λu hu=>?_,λu hu=>?_,λu=>?_,λu hu=>?_,λx=>?_,?_⟩
 .rcases zf4 hu with rfl | hu
  .exact u0a _ (.head _)
  .exact u0O _ (h.sub u hu)
 .have hv:(xU (zfR T s) u).isSome=true:=by
   unfold zfR
   rw[zcd]
   rcases u0r.mp hu with z | z
   .split
    .rfl
    .exact Y1 (h.all u z)
   .rw[q5 (j9.mp z)];rfl
  obtain⟨n,hn⟩:=u0v.mp hv
  exact u0b.mpr ⟨(u,n),zcn hn,rfl⟩
 .have:=h.nn u
  unfold zfR
  rw[zdM,d9]
  show _/\_<=((S.length+1:Nat):Int)
  split <;> omega
 .unfold zfR
  rw[zdM]
  split
  .omega
  .rcases u0r.mp hu with z | z
   .exact h.pos u z
   .rename_i c;exact absurd (j9.mp z) c
 .unfold zfR
  rw[ziC h.nd,h.sd,p6,zfL,show tv T s+1 - tv T s=1 by omega]
  show _=_+(tdl (s.1,s.2,1) x+0)
  rw[Int.add_zero]
 .unfold zfR
  rw[zjC h.nd,h.tot,d9]
  show _=((S.length+1:Nat):Int)
  omega
theorem WG (S:List Tie):zdG S (wb S):=by
 have key:∀ i,i<=S.length->zdG (S.take i) (wb (S.take i)):=by
  intro i
  induction i with
  | zero=>intro _;exact⟨u08,λ_ h=>(by cases h),λ_ h=>(by cases h),λ_=>⟨u4g _,u4g _⟩,λ_ h=>(by cases h),λ_=>rfl,rfl⟩
  | succ i ih =>
   intro hi
   have hx:S[i]?=some S[i]:=r9 hi
   rw[YZ hx,u1Y,hx]
   exact(ih (by omega)).add _
 have:=key S.length (j3 _)
 rwa[u1r]at this
theorem zb2 {ts:List Tie}{K:List Tie}(nd:K.Nodup)(h:∀ s∈K,wT s.1 s.2∈ts):K.length<=2*ts.length:=by
 have sub:∀ s∈K,s∈ts++ts.map λt:Tie=>((t.2,t.1):Tie):=λs hs=>by
  have hb:=h s hs
  unfold wT at hb
  by_cases c:s.2 < s.1
  .rw[q5 c,j4 (by omega)]at hb
   exact u0a _ (u0b.mpr ⟨_,hb,rfl⟩)
  .rw[j4 c]at hb
   by_cases c2:s.2 > s.1
   .rw[q5 c2]at hb;exact u0O _ hb
   .rw[j4 c2]at hb
    have e:s.2=s.1:=by omega
    refine u0O _ ?_
    have e2:s=(s.1,s.1):=u10 rfl e
    rw[e2];exact hb
 have:=nd.length_le_of_subset sub
 rw[d9,u7]at this
 omega
theorem vEvT {f:Ev->Option D}{ρ:SE}{d:D}(h:f (visG ρ)=some d)(hn:noL d=true):vEv true f ρ=some d:=by
 unfold vEv
 rw[q5 rfl,h,b9,q5 hn]
def vY:SE->Ctl :=
 (yn (sIf (yd (tOf (zv 2 zW (zb (zg 0) (zb (zg 4) zt))))) sNo zV)
  (zcW true 2 (zg 4) (zp yQ (zgv (zg 2) (zg 4) (eC (.int 0))) (eC (.int 1)))))
def Ya:SE->Ctl :=
 (yn (XT (zv 1 yo (zb (zg 0) zt)))
  (yn (sIf (yd (tOf (eUn (ya .list) (zg 1)))) sNo zV)
  (yn (zho true 2)
  (yn (ZK (xc (zb (zg 1) zt)) (XR 2 (xH (yW 3) (xH (yW 4) X6))) vY)
  (zl9 2 (yR (zv 1 wE (zb (zg 2) zt))))))))
def Yd:List D->Option D:=fnD 5 Ya
theorem zaY {m:Int}{ts:List Tie}{S:List Tie}(ok:xD m ts)(h28:ts.length<=28)(hS:∀ s∈S,wT s.1 s.2∈ts)(hl:S.length<=900):Yd [zD m ts,.lst (S.map zc)]=some (.tup ((Vm (wb S)).map trD)):=by
 have few:∀ i,(wb (S.take i)).length<=56:=λi=>by
  have c:=WG (S.take i)
  have:=zb2 c.nd λs hs=>hS s (u1y (c.sub s hs))
  rw[u7]at this
  omega
 refine ZT (ρ:=[.v (zD m ts),.v (.lst (S.map zc)),.no,.no,.no]) rfl ?_
 unfold Ya
 refine zI (Wz (d:=.non) (zcm ok)) ?_
 refine zR (wC (c:=false) rfl (λz=>by cases z) (λ_=>vC rfl ?_))
 refine zI (ρ':=[.v (zD m ts),.v (.lst (S.map zc)),.m true (tmK (wb [])) (tmV (wb [])),.no,.no]) rfl ?_
 refine zR (WJ (ds:=YC 0 (S.map zc)) (λi ρ=>∃ (o3 o4:Sl),ρ=[.v (zD m ts),.v (.lst (S.map zc)),.m true (tmK (wb (S.take i))) (tmV (wb (S.take i))),o3,o4]) rfl ⟨_,_,rfl⟩ ?_ ?_)
 .rintro i d ρ hd ⟨o3,o4,rfl⟩
  rw[xA,u0f,d6]at hd
  obtain⟨x,hx,rfl⟩:=u9.mp hd
  obtain⟨s,hs,rfl⟩:=u9.mp hx
  have hst:wT s.1 s.2∈ts:=hS s (b6 hs)
  have e1:zW [zD m ts,zc s]=some (.bl true):=by
   show zW [zD m ts,.tup [.int s.1,.int s.2]]=_
   rw[Zk ok (Vn.pair s.1 s.2),wZ,j8 hst]
   rfl
  refine⟨[.v (zD m ts),.v (.lst (S.map zc)),.m true (tmK (wb (S.take i))) (tmV (wb (S.take i))),.v (.int (i:Int)),.v (zc s)],rfl,?_⟩
  unfold vY
  refine zR (wC (c:=false) (xt (b:=true) (wm (zL (ds:=[zD m ts,zc s]) rfl e1))) (λz=>by cases z) (λ_=>vC rfl ?_))
  rw[YZ hs]
  have few:=few i
  generalize wb (S.take i)=T at few ⊢
  refine vC (zeU (T:=T) (s:=s) (n:=tv T s+1) ?_ rfl rfl (by omega) rfl) ⟨_,_,rfl⟩
  refine vEvT (zB (x:=.int (tv T s)) (y:=.int 1) ?_ rfl zQ) rfl
  show(some (tkK s)).map (λk=>(Xg (tmK T) (tmV T) k).getD (.int 0))=_
  rw[Option.map_some,Z7]
  unfold tv
  cases xU T s <;> rfl
 .rintro ρ ⟨o3,o4,rfl⟩
  rw[xf,u7,u1r]
  have few:=few S.length
  rw[u1r]at few
  show(yR (zv 1 wE (zb (zg 2) zt)) [.v (zD m ts),.v (.lst (S.map zc)),.v (.dct true true (tmK (wb S)) (tmV (wb S))),o3,o4]).w _ _ _ _
  exact wK (y8 (zL (ds:=[.dct true true (tmK (wb S)) (tmV (wb S))]) rfl (Ww (by omega)))) rfl
theorem Xz (T:Txt K mg ad):xC P w K mg base CX0 8 ad.f_tally_of ad.e_tally_of ["web","steps"] (@spD ⟨K⟩ 2 Yd):=by
 letI:KK:=⟨K⟩
 have G_must_be_web:=wQ (P:=P) (w:=w) (base:=base) T
 have G_is_step:=Zp (P:=P) (w:=w) (base:=base) T
 have G_tally_from:=YT (P:=P) (w:=w) (base:=base) T
 refine xQ (N:=["web","steps","times","at","step"]) (ps:=["web","steps"]) T.d_tally_of.fn yN (g:=Ya) λcdv A outer s H E hr=>?_
 unfold Ya vY
 exact(zh (Vj (zo G_must_be_web hr rfl T.d_must_be_web (za (edv 0) zf)))
  (zh (yU (yB (yj (zw .list rfl T.z_isinstance (edv 1) (zJ (v:=.ty "list") rfl T.z_list Zc rfl)))) (zi YR) zE)
  (zh (zdk (t:=true) (i:=2) yN.nd rfl (Or.inl rfl))
  (zh (Xh u01 rfl (Xt rfl T.z_enumerate xT (za (edv 1) zf)) (Ws rfl (yX (yK (zO (i:=3) yN.nd rfl (Or.inl rfl))) (yX (yK (zO (i:=4) yN.nd rfl (Or.inl rfl))) Zf))) (zh (yU (yB (yj (zo G_is_step hr rfl T.d_is_step (za (edv 0) (za (edv 4) zf))))) (zi YR) zE)
  (zi (zew (m:=true) hr (zH (zeT hr (edv 2) (edv 4) (ze zd) ⟨rfl,rfl,rfl,rfl⟩) (ze zd)) (pv 2) (edv 4)))))
  (zjl 2 (zi (zz (zo G_tally_from hr rfl T.d_tally_from (za (edv 2) zf)))))))))
def xa:SE->Option Nat :=
 (zgU xNo (XT (zv 1 yo (zb (zg 0) zt)))
  (zgU (xIf (yd (tOf (eUn (ya .list) (zg 1)))) (xRI (zl0 10 1) (zb (eUn VB (eC (.int 1))) zt)) xNo) (sIf (yd (tOf (eUn (ya .list) (zg 1)))) sNo zV)
  (zgU xNo (zho true 2)
  (zmf (xc (zb (zg 1) zt)) (XR 2 (xH (yW 3) (xH (yW 4) X6))) (xIf (yd (tOf (zv 2 zW (zb (zg 0) (zb (zg 4) zt))))) (xRI (zl0 10 1) (zb (zg 3) zt)) xNo)
  (yn (sIf (yd (tOf (zv 2 zW (zb (zg 0) (zb (zg 4) zt))))) sNo zV)
  (zcW true 2 (zg 4) (zp yQ (zgv (zg 2) (zg 4) (eC (.int 0))) (eC (.int 1)))))))))
def wq:List D->Option Nat:=fnX 5 xa
theorem ZE (T:Txt K mg ad):xC P w K mg base (Air P w) 8 ad.f_tally_of ad.e_tally_of ["web","steps"] (@spX ⟨K⟩ (clT ad) 2 wq):=by
 letI:KK:=⟨K⟩
 have G_must_be_web:=wQ (P:=P) (w:=w) (base:=base) T
 have G_is_step:=Zp (P:=P) (w:=w) (base:=base) T
 have G_tally_from:=YT (P:=P) (w:=w) (base:=base) T
 refine zka (cl:=clT ad) (N:=["web","steps","times","at","step"]) (ps:=["web","steps"]) T.d_tally_of.fn yN (gx:=xa) λcdv A outer s H E hr=>?_
 unfold xa
 exact(Vl zbz (SD.nox (Vj (zo G_must_be_web hr rfl T.d_must_be_web (za (edv 0) zf))))
  (Vl (zlg (yB (yj (zw .list rfl T.z_isinstance (edv 1) (zJ (v:=.ty "list") rfl T.z_list Zc rfl)))) (za2 (VL (cl:=clT ad) ⟨T.g_NoSteps,T.ei_NoSteps,T.ea_NoSteps,zbd T.na_NoSteps⟩ (Xr (P:=P) (w:=w) (base:=base) T) T.bi_NoSteps (zex (zlp ad) (show 10 < 16 by decide)) (hr.mono (by decide)) rfl (za (zhJ (ze zd)) zf))) Vx) (SD.nox (yU (yB (yj (zw .list rfl T.z_isinstance (edv 1) (zJ (v:=.ty "list") rfl T.z_list Zc rfl)))) (zi YR) zE))
  (Vl zbz (SD.nox (zdk (t:=true) (i:=2) yN.nd rfl (Or.inl rfl)))
  (V2 (zk5 PassesOwn.leaving rfl (Xt rfl T.z_enumerate xT (za (edv 1) zf)) (Ws rfl (yX (yK (zO (i:=3) yN.nd rfl (Or.inl rfl))) (yX (yK (zO (i:=4) yN.nd rfl (Or.inl rfl))) Zf))) (V2 (zlg (yB (yj (zo G_is_step hr rfl T.d_is_step (za (edv 0) (za (edv 4) zf))))) (za2 (VL (cl:=clT ad) ⟨T.g_NoSteps,T.ei_NoSteps,T.ea_NoSteps,zbd T.na_NoSteps⟩ (Xr (P:=P) (w:=w) (base:=base) T) T.bi_NoSteps (zex (zlp ad) (show 10 < 16 by decide)) (hr.mono (by decide)) rfl (za (edv 3) zf))) Vx)) (SDs.nox (zh (yU (yB (yj (zo G_is_step hr rfl T.d_is_step (za (edv 0) (za (edv 4) zf))))) (zi YR) zE)
  (zi (zew (m:=true) hr (zH (zeT hr (edv 2) (edv 4) (ze zd) ⟨rfl,rfl,rfl,rfl⟩) (ze zd)) (pv 2) (edv 4))))))))))
theorem W6:bootBuiltins "ValueError"=some (.type "ValueError"):=by decide +kernel
theorem zhf {n:Nat}(h:n<=13):n<=sizeLine:=by rw[u1n];omega
theorem XY (T:Txt K mg ad):zeW P w K mg base 1 ad.f__law_kinds ad.e__law_kinds ["e"] (zfE (clT ad) (λj=>j < 13/\zbE K (zlW ad) ad.x_StoneError (clT ad j) j)):=by
 letI:KK:=⟨K⟩
 refine zjA (N:=["e","found"]) (ps:=["e"]) T.d__law_kinds.fn xr (λvs H Q E h=>by obtain⟨a,j,od,rfl,_⟩:=h;rfl) λcdv A outer s H vs Q E ev hr hsp=>?_
 obtain⟨a,j,od,rfl,hH,⟨hj,kj⟩,q⟩:=hsp
 refine⟨_,(we (ZC (i:=1) xr.nd rfl (Or.inl rfl) (Vs (zr (zX yD rfl T.z_isinstance zx (zr (pv 0) (zr (y9 (v:=.ref ad.x_NoWeb) rfl T.g_NoWeb rfl) yC))) (zr (zX yD rfl T.z_isinstance zx (zr (pv 0) (zr (y9 (v:=.ref ad.x_NoKind) rfl T.g_NoKind rfl) yC))) (zr (zX yD rfl T.z_isinstance zx (zr (pv 0) (zr (y9 (v:=.ref ad.x_NoHeap) rfl T.g_NoHeap rfl) yC))) (zr (zX yD rfl T.z_isinstance zx (zr (pv 0) (zr (y9 (v:=.ref ad.x_NoPlace) rfl T.g_NoPlace rfl) yC))) yC))))))
  (we (ZC (i:=1) xr.nd rfl (Or.inl rfl) (zhy zcb (pv 1) (Vs (zr (zX yD rfl T.z_isinstance zx (zr (pv 0) (zr (y9 (v:=.ref ad.x_NoNumber) rfl T.g_NoNumber rfl) yC))) (zr (zX yD rfl T.z_isinstance zx (zr (pv 0) (zr (y9 (v:=.ref ad.x_NoTally) rfl T.g_NoTally rfl) yC))) (zr (zX yD rfl T.z_isinstance zx (zr (pv 0) (zr (y9 (v:=.ref ad.x_NotTree) rfl T.g_NotTree rfl) yC))) (zr (zX yD rfl T.z_isinstance zx (zr (pv 0) (zr (y9 (v:=.ref ad.x_NotJoined) rfl T.g_NotJoined rfl) yC))) yC)))))))
  (we (ZC (i:=1) xr.nd rfl (Or.inl rfl) (zhy zcb (pv 1) (Vs (zr (zX yD rfl T.z_isinstance zx (zr (pv 0) (zr (y9 (v:=.ref ad.x_NoWeights) rfl T.g_NoWeights rfl) yC))) (zr (zX yD rfl T.z_isinstance zx (zr (pv 0) (zr (y9 (v:=.ref ad.x_NoRow) rfl T.g_NoRow rfl) yC))) (zr (zX yD rfl T.z_isinstance zx (zr (pv 0) (zr (y9 (v:=.ref ad.x_NoSteps) rfl T.g_NoSteps rfl) yC))) (zr (zX yD rfl T.z_isinstance zx (zr (pv 0) (zr (y9 (v:=.ref ad.x_NoText) rfl T.g_NoText rfl) yC))) yC)))))))
  (we (ZC (i:=1) xr.nd rfl (Or.inl rfl) (zhy zcb (pv 1) (Vs (zr (zX yD rfl T.z_isinstance zx (zr (pv 0) (zr (y9 (v:=.ref ad.x_TooGreat) rfl T.g_TooGreat rfl) yC))) yC))))
  (we (zg2 (PW.pt (zlG (zhK (zhF (zX yD rfl T.z_isinstance zx (zr (pv 0) (zr (zJ (v:=.ty "ValueError") rfl T.z_ValueError W6 rfl) yC))))) (zhH (zaA XI (zaT u0L u1L PySem.F.type_list_count zfp (pv 1) (zr xg yC)) zd (zN _))))) (Yw (V0 (ziF zdi zd))) zbg) (Yw (V0 (zaT u0L PySem.F.slot_list_index PySem.F.type_list_index zdn (pv 1) (zr xg yC))))))))),?_⟩
 refine zfq (cs:=[ad.x_NoWeb,ad.x_NoKind,ad.x_NoHeap,ad.x_NoPlace]) (bs:=[0 == j,1 == j,2 == j,3 == j]) kj.look (u0M (λl=>(l.drop 0).take 4) kj.hot) (zhf (n:=4) (by decide)) rfl rfl hH fun σ1 H1 S1=>?_
 refine WO (cs:=[ad.x_NoNumber,ad.x_NoTally,ad.x_NotTree,ad.x_NotJoined]) (bs:=[4 == j,5 == j,6 == j,7 == j]) kj.look (u0M (λl=>(l.drop 4).take 4) kj.hot) (by exact zhf (n:=8) (by decide)) S1 fun σ2 H2 S2=>?_
 refine WO (cs:=[ad.x_NoWeights,ad.x_NoRow,ad.x_NoSteps,ad.x_NoText]) (bs:=[8 == j,9 == j,10 == j,11 == j]) kj.look (u0M (λl=>(l.drop 8).take 4) kj.hot) (by exact zhf (n:=12) (by decide)) S2 fun σ3 H3 S3=>?_
 refine WO (cs:=[ad.x_TooGreat]) (bs:=[12 == j]) kj.look (u0M (λl=>(l.drop 12).take 1) kj.hot) (by exact zhf (n:=13) (by decide)) S3 fun σ4 H4 S4=>?_
 exact ziq kj.val kj.look hj S4 (q _ S4.same)
theorem Vt {a b:Tie}(h:ltP a b):a≠b:=λe=>by
 subst e
 unfold ltP at h
 omega
theorem zcM {n:Nat}{t:Tie}(h:0<=t.1/\t.1 < t.2/\t.2 < (n:Int)):t∈xy n:=by
 unfold xy
 rw[List.mem_flatMap]
 refine⟨t.1.toNat,u0R.mpr (by omega),u0b.mpr ⟨(t.2 - t.1 - 1).toNat,u0R.mpr (by omega),u10 ?_ ?_⟩⟩
 .show((t.1.toNat:Nat):Int)=t.1
  omega
 .show((t.1.toNat:Nat):Int)+1+(((t.2 - t.1 - 1).toNat:Nat):Int)=t.2
  omega
theorem zjS {m:Int}{ts:List Tie}(ok:xD m ts):ts.length<=28:=by
 have hm1:=ok.lo
 have hm8:=ok.hi
 have nd:ts.Nodup:=ok.srt.imp Vt
 refine i4 (nd.length_le_of_subset (l₂:=xy m.toNat) λt ht=>zcM ?_) (XM m.toNat (by omega)).2.2
 have:=ok.rng t ht
 omega
def swP (t:Tie):Tie:=(t.2,t.1)
def Zy (ts:List Tie):List Tie:=vf (ts++ts.map swP)
theorem zbe {m:Int}{ts:List Tie}(ok:xD m ts):(ts++ts.map swP).Nodup:=by
 have nd:ts.Nodup:=ok.srt.imp Vt
 refine u2z.mpr ⟨nd,?_,λa ha b hb e=>?_⟩
 .show List.Pairwise (·≠·) (ts.map swP)
  rw[u0X]
  exact nd.imp λ{a b} h e=>h (u10 (u0M Prod.snd e) (u0M Prod.fst e))
 .obtain⟨t,ht,rfl⟩:=u0b.mp hb
  have h1:=(ok.rng a ha).2.1
  have h2:=(ok.rng t ht).2.1
  rw[e]at h1
  exact absurd h1 (by show ¬ t.2 < t.1;omega)
theorem zeQ {m:Int}{ts:List Tie}(ok:xD m ts):(Zy ts).Pairwise ltP:=vK (zbe ok)
theorem ze6 {m:Int}{ts:List Tie}(ok:xD m ts){t:Tie}(h:t∈Zy ts):wT t.1 t.2∈ts:=by
 rcases u0r.mp ((wV _).mem_iff.mp h)with h | h
 .rw[(zfb ok h).1];exact h
 .obtain⟨s,hs,rfl⟩:=u0b.mp h
  show wT s.2 s.1∈ts
  rw[(zfb ok hs).2];exact hs
theorem zet {m:Int}{ts:List Tie}(ok:xD m ts):(Zy ts).length<=56:=by
 have:=zjS ok
 unfold Zy
 rw[(wV _).length_eq,d9,u7]
 omega
theorem zjn {g h:SE->Ctl}{ρ ρ':SE}(e:g ρ=.nx ρ'):yn g h ρ=h ρ':=by
 unfold yn
 rw[e]
inductive Wm:D->Prop
 | who (r:TR):Wm (trD r)
 | tru (a b:Int):Wm (.tup [.int a,.int b,.bl true])
 | pr (a b:Int):Wm (.tup [.int a,.int b])
 | ls (a b n:Int):Wm (.lst [.int a,.int b,.int n])
 | non:Wm .non
 | four (a b n:Int):Wm (.tup [.int a,.int b,.int n,.int 1])
 | tb (b:Int):Wm (.tup [.bl true,.int b,.int 1])
 | tx (a b:Int):Wm (.tup [.int a,.int b,.str "1"])
def okR (ts:List Tie):D->Option Tie
 | .tup [.int a,.int b,.int n]=>if (decide (wT a b∈ts)&&(decide (1<=n)&&decide (n<=300)))=true then some (a,b)else none
 | _=>none
theorem YY (ts:List Tie)(r:TR):okR ts (trD r)=if (decide (wT r.1 r.2.1∈ts)&&(decide (1<=r.2.2)&&decide (r.2.2<=300)))=true then some (trP r)else none:=rfl
theorem zbY {ts:List Tie}{d:D}(h:Wm d):(∃ r,d=trD r)\/okR ts d=none:=by
 cases h with
 | who r=>exact .inl ⟨r,rfl⟩
 | _=>exact .inr rfl
theorem zkP {m:Int}{ts:List Tie}{d:D}(ok:xD m ts)(h:Wm d):ye [zD m ts,d]=some (.bl (okR ts d).isSome):=by
 have key:∀ (a b:Int) (e:D),zq [e,.int 1,.int 300]=some (.bl false)->ye [zD m ts,.tup [.int a,.int b,e]]=some (.bl false):=λa b e he=>by
  have es:=Zl ok a b
  refine ZT (ρ:=[.v (zD m ts),.v (.tup [.int a,.int b,e])]) rfl ?_
  unfold yf
  refine zR (wC (c:=false) rfl (λz=>by cases z) (λ_=>vC rfl ?_))
  refine wK (y8 ?_) rfl
  show(((zW [zD m ts,.tup [.int a,.int b]]).bind asB).bind λc=>if c=true then zq [e,.int 1,.int 300]else some (.bl false))=_
  rw[es,he]
  cases decide (wT a b∈ts) <;> rfl
 cases h with
 | who r =>
  rw[vM ok r,YY]
  cases (decide (wT r.1 r.2.1∈ts)&&(decide (1<=r.2.2)&&decide (r.2.2<=300))) <;> rfl
 | tru a b=>exact key a b _ rfl
 | tx a b=>exact key a b _ rfl
 | tb b =>
  refine ZT (ρ:=[.v (zD m ts),.v (.tup [.bl true,.int b,.int 1])]) rfl ?_
  unfold yf
  exact zR (wC (c:=false) rfl (λz=>by cases z) (λ_=>vC rfl (wK (y8 rfl) rfl)))
 | pr a b=>exact xw rfl
 | ls a b n=>exact xw rfl
 | non=>exact xw rfl
 | four a b n=>exact xw rfl
def zbv (ts:List Tie):List D->Option (List Tie)
 | []=>some []
 | d::ds=>(okR ts d).bind λh=>(zbv ts ds).map (h::·)
theorem zao {ts:List Tie}{d:D}{h:Tie}(e:okR ts d=some h):∀ {ds:List D} {hs:List Tie},zbv ts ds=some hs->zbv ts (ds++[d])=some (hs++[h]):=by
 intro ds
 induction ds with
 | nil =>
  intro hs h1
  cases h1
  show(okR ts d).bind _=_
  rw[e]
  rfl
 | cons x ds ih =>
  intro hs h1
  obtain⟨a,h2,h3⟩:=u5.mp h1
  obtain⟨l,h4,rfl⟩:=u9.mp h3
  show(okR ts x).bind _=_
  rw[h2,b9]
  show(zbv ts (ds++[d])).map _=_
  rw[ih h4]
  rfl
theorem YH {ts:List Tie}:∀ {ds:List D} {hs:List Tie} {i:Nat} {d:D},zbv ts ds=some hs->ds[i]?=some d->hs[i]?=okR ts d/\(okR ts d).isSome=true:=by
 intro ds
 induction ds with
 | nil=>intro hs i d _ h;cases h
 | cons x ds ih =>
  intro hs i d h1 hd
  obtain⟨a,h2,h3⟩:=u5.mp h1
  obtain⟨l,h4,rfl⟩:=u9.mp h3
  cases i with
  | zero=>cases hd;rw[h2];exact⟨rfl,rfl⟩
  | succ i =>
   rw[List.getElem?_cons_succ]at hd ⊢
   exact ih h4 hd
theorem ZX {ts:List Tie}:∀ {ds:List D} {hs:List Tie},zbv ts ds=some hs->hs.length=ds.length:=by
 intro ds
 induction ds with
 | nil=>intro hs h;cases h;rfl
 | cons x ds ih =>
  intro hs h1
  obtain⟨a,h2,h3⟩:=u5.mp h1
  obtain⟨l,h4,rfl⟩:=u9.mp h3
  rw[u0g,u0g,ih h4]
theorem ziI {ts:List Tie}{ds:List D}{hs:List Tie}(h:zbv ts ds=some hs):∀ s∈hs,wT s.1 s.2∈ts:=λs hs'=>by
 obtain⟨i,hi,e⟩:=u1x.mp hs'
 have hil:i < ds.length:=by rw[<-ZX h];exact hi
 obtain⟨h1,h2⟩:=YH h (r9 hil)
 rw[r9 hi,e]at h1
 unfold okR at h1
 split at h1
 .split at h1
  .rename_i c
   rw[p4]at c
   cases h1
   exact d8 c.1
  .cases h1
 .cases h1
instance (a b:Tie):Decidable (ltP a b):=by unfold ltP;infer_instance
def V8 (ts:List Tie)(ds:List D):Bool:=match zbv ts ds with
 | some hs=>decide (hs.Pairwise ltP)
 | none=>false
theorem Wo {ts:List Tie}{ds:List D}{hs:List Tie}(h:zbv ts ds=some hs):V8 ts ds=decide (hs.Pairwise ltP):=by
 unfold V8
 rw[h]
theorem VD {ts:List Tie}{ds:List D}{i:Nat}{d:D}(hd:ds[i]?=some d)(h:okR ts d=none):V8 ts ds=false:=by
 unfold V8
 cases e:zbv ts ds with
 | none=>rfl
 | some hs =>
  have:=(YH e hd).2
  rw[h]at this
  cases this
theorem zeA {ts:List Tie}{ds:List D}{i:Nat}{d e:D}{q h:Tie}(hd:ds[i+1]?=some d)(he:ds[i]?=some e)(h1:okR ts d=some h)(h2:okR ts e=some q)(hn:¬ ltP q h):V8 ts ds=false:=by
 unfold V8
 cases e0:zbv ts ds with
 | none=>rfl
 | some hs =>
  have a:=(YH e0 hd).1
  have b:=(YH e0 he).1
  rw[h1]at a
  rw[h2]at b
  obtain⟨a1,a2⟩:=t6.mp a
  obtain⟨b1,b2⟩:=t6.mp b
  refine g0 λp=>hn ?_
  have:=i9.mp p i (i+1) b1 a1 (u1s i)
  rwa[a2,b2]at this
theorem za7 {m:Int}{ts:List Tie}{ds:List D}(ok:xD m ts)(he:∀ d∈ds,Wm d):yw [zD m ts,.tup ds]=some (.bl (V8 ts ds)):=by
 refine ZT (ρ:=[.v (zD m ts),.v (.tup ds),.no,.no]) rfl ?_
 unfold yb
 refine zR (wC (c:=false) rfl (λz=>by cases z) (λ_=>vC rfl ?_))
 refine zR (WJ (ds:=YC 0 ds) (λi ρ=>∃ (hs:List Tie) (o2 o3:Sl),ρ=[.v (zD m ts),.v (.tup ds),o2,o3]/\zbv ts (ds.take i)=some hs/\hs.Pairwise ltP) rfl ⟨[],_,_,rfl,rfl,List.Pairwise.nil⟩ ?_ ?_)
 .rintro i d ρ hd ⟨hs,o2,o3,rfl,hH,hP⟩
  rw[xA,u0f]at hd
  obtain⟨x,hx,rfl⟩:=u9.mp hd
  have hel:=he x (b6 hx)
  have e1:=zkP ok hel
  refine⟨[.v (zD m ts),.v (.tup ds),.v (.int (i:Int)),.v x],rfl,?_⟩
  unfold yF
  cases eh:okR ts x with
  | none =>
   rw[eh]at e1
   refine zR (wC (c:=true) (xt (b:=false) (wm (zL (ds:=[zD m ts,x]) rfl e1))) (λ_=>wK rfl ?_) (λz=>by cases z))
   rw[VD hx eh]
  | some h =>
   rw[eh]at e1
   refine zR (wC (c:=false) (xt (b:=true) (wm (zL (ds:=[zD m ts,x]) rfl e1))) (λz=>by cases z) (λ_=>vC rfl ?_))
   have etk:ds.take (i+1)=ds.take i++[x]:=by rw[u1Y,hx];rfl
   have hH2:zbv ts (ds.take (i+1))=some (hs++[h]):=by rw[etk];exact zao eh hH
   have hil:i < ds.length:=(t6.mp hx).1
   obtain⟨r,hr⟩:∃ r,x=trD r/\trP r=h:=by
    rcases zbY (ts:=ts) hel with ⟨r,rfl⟩ | z
    .rw[YY]at eh
     split at eh
     .cases eh;exact⟨r,rfl,rfl⟩
     .cases eh
    .rw[z]at eh;cases eh
   cases i with
   | zero =>
    refine wC (c:=false) rfl (λz=>by cases z) (λ_=>vC rfl ⟨hs++[h],_,_,rfl,hH2,?_⟩)
    cases hH
    exact u2l _ _
   | succ j =>
    have hjl:j < ds.length:=by omega
    have hy:ds[j]?=some ds[j]:=r9 hjl
    have hyt:(ds.take (j+1))[j]?=some ds[j]:=by rw[List.getElem?_take,q5 (u1s j)];exact hy
    obtain⟨g1,g2⟩:=YH hH hyt
    obtain⟨q,hq⟩:=u0v.mp g2
    rw[hq]at g1
    obtain⟨rq,hrq⟩:∃ r,ds[j]=trD r/\trP r=q:=by
     rcases zbY (ts:=ts) (he _ (u0e hjl))with ⟨r,e⟩ | z
     .rw[e,YY]at hq
      split at hq
      .cases hq;exact⟨r,e,rfl⟩
      .cases hq
     .rw[z]at hq;cases hq
    have e2:L2.atI ds (((j+1:Nat):Int) - 1)=some (trD rq):=Vv (by omega) (by rw[show(((j+1:Nat):Int) - 1).toNat=j by omega,hy,hrq.1])
    have e3:leT (zc h) (zc q)=some (.bl (leP h q)):=rfl
    have e4:tOf (zp leT (eSl slD (zg 3) zY (zP (eC (.int 2)))) (eSl slD (zp ixD (zg 1) (zp Wl (zg 2) (eC (.int 1)))) zY (zP (eC (.int 2))))) (visG [.v (zD m ts),.v (.tup ds),.v (.int ((j+1:Nat):Int)),.v x])=some (leP h q):=by
     refine wm (zB (x:=zc h) (y:=zc q) ?_ ?_ e3)
     .rw[hr.1,<- hr.2];rfl
     .have:zp ixD (zg 1) (zp Wl (zg 2) (eC (.int 1))) (visG [.v (zD m ts),.v (.tup ds),.v (.int ((j+1:Nat):Int)),.v x])=some (trD rq):=zB (x:=.tup ds) (y:=.int (((j+1:Nat):Int) - 1)) rfl rfl e2
      unfold eSl
      rw[this,<- hrq.2]
      rfl
    refine wC (c:=leP h q) (ziL ?_ e4) (λz=>wK rfl ?_) (λz=>vC rfl ⟨hs++[h],_,_,rfl,hH2,?_⟩)
    .show some (decide (((j+1:Nat):Int) > 0))=_
     rw[j8 (by omega)]
    .rw[zeA hx hy eh hq λl=>?_]
     rw[wX.mpr l]at z
     cases z
    .have hlt:ltP q h:=wX.mp z
     refine List.pairwise_append.mpr ⟨hP,u2l _ _,λa ha b hb=>?_⟩
     rw[j9.mp hb]
     obtain⟨k,hk,e⟩:=u1x.mp ha
     have hlen:hs.length=j+1:=by rw[ZX hH,u04];omega
     obtain⟨w1,w2⟩:=t6.mp g1
     by_cases ck:k=j
     .subst ck
      rw[<-e,w2]
      exact hlt
     .have:=i9.mp hP k j hk w1 (by omega)
      rw[e,w2]at this
      exact VU this hlt
 .rintro ρ ⟨hs,o2,o3,rfl,hH,hP⟩
  rw[xf,u1r]at hH
  refine wK rfl ?_
  rw[Wo hH,j8 hP]
def v8:SE->Ctl :=
 (yn (XT (zv 1 yo (zb (zg 0) zt)))
  (yR (zv 2 yw (zb (zg 0) (zb (zg 1) zt)))))
def wW:List D->Option D:=fnD 2 v8
theorem Ys {m:Int}{ts:List Tie}{d:D}{b:Bool}(ok:xD m ts)(h:yw [zD m ts,d]=some (.bl b)):wW [zD m ts,d]=some (.bl b):=by
 refine ZT (ρ:=[.v (zD m ts),.v d]) rfl ?_
 unfold v8
 refine zI (Wz (d:=.non) (zcm ok)) ?_
 exact wK (y8 (zL (ds:=[_,_]) rfl h)) rfl
theorem zaN (T:Txt K mg ad):xC P w K mg base CX0 8 ad.f_is_tally ad.e_is_tally ["web","thing"] (@spD ⟨K⟩ 2 wW):=by
 letI:KK:=⟨K⟩
 have G_must_be_web:=wQ (P:=P) (w:=w) (base:=base) T
 have G_are_tally_rows:=Za (P:=P) (w:=w) (base:=base) T
 refine xQ (N:=["web","thing"]) (ps:=["web","thing"]) T.d_is_tally.fn zba (g:=v8) λcdv A outer s H E hr=>?_
 unfold v8
 exact(zh (Vj (zo G_must_be_web hr rfl T.d_must_be_web (za (edv 0) zf)))
  (zi (zz (zo G_are_tally_rows hr rfl T.d_are_tally_rows (za (edv 0) (za (edv 1) zf))))))
theorem zis:∀ (l k:List Tie),((List.zipWith (eqN 19) (l.map zc) (k.map zc)).all id&&(l.map zc).length == (k.map zc).length)=decide (l=k):=by
 intro l
 induction l with
 | nil=>intro k;cases k <;> rfl
 | cons a l ih =>
  intro k
  cases k with
  | nil=>rfl
  | cons b k =>
   have e1:eqN 19 (zc a) (zc b)=decide (a=b):=by
    have e:eqN 19 (zc a) (zc b)=((a.1 == b.1&&(a.2 == b.2&&true))&&true):=rfl
    rw[e]
    by_cases c:a=b
    .subst c
     rw[j8 rfl,u0h,u0h]
     rfl
    .rw[g0 c]
     by_cases d:a.1=b.1
     .have:¬ a.2=b.2:=λe=>c (u10 d e)
      rw[u1V this]
      cases (a.1 == b.1) <;> rfl
     .rw[u1V d]
      rfl
   have e2:=ih k
   show((eqN 19 (zc a) (zc b)&&(List.zipWith (eqN 19) (l.map zc) (k.map zc)).all id)&&((l.map zc).length+1 == (k.map zc).length+1))=_
   have e3:((l.map zc).length+1 == (k.map zc).length+1)=((l.map zc).length == (k.map zc).length):=by
    rw[u1B,u1G,u1G]
    omega
   rw[e3,Bool.and_assoc,e2,e1]
   by_cases c:a=b
   .by_cases d:l=k
    .rw[j8 c,j8 d,c,d,j8 rfl]
     rfl
    .rw[g0 d,g0 (λz=>d (List.cons.inj z).2),u1g]
   .rw[g0 c,g0 (λz=>c (List.cons.inj z).1),Bool.false_and]
theorem zbb (l:List Tie):okE 20 (.lst (l.map zc))=true:=by
 show(l.map zc).all (okE 19)=true
 rw[u2c,u0B]
 exact λ_ _=>rfl
theorem zj2 (l k:List Tie):ZP (.lst (l.map zc)) (.lst (k.map zc))=some (.bl (decide (l=k))):=by
 show((if okE 20 (.lst (l.map zc))=true/\okE 20 (.lst (k.map zc))=true then some (eqN 20 (.lst (l.map zc)) (.lst (k.map zc)))else none).map D.bl)=_
 rw[q5 ⟨zbb l,zbb k⟩]
 show some (D.bl ((List.zipWith (eqN 19) (l.map zc) (k.map zc)).all id&&(l.map zc).length == (k.map zc).length))=_
 rw[zis]
theorem zhi {m:Int}{ts:List Tie}{hs:List Tie}(ok:xD m ts)(h:∀ s∈hs,wT s.1 s.2∈ts):decide (hs=vf (ddp hs))=decide (hs.Pairwise ltP):=by
 refine u3V.mpr ⟨λe=>?_,λp=>?_⟩
 .rw[e]
  exact vK (zdw hs)
 .have nd:hs.Nodup:=p.imp Vt
  rw[zhm (λt ht=>?_) nd]
  .exact Zg (u0Y hs) (p.imp λ{a b} x=>by
    unfold ltP at x
    unfold OwnSort.bltP
    exact g0 (by omega))
  .have r:=ZR ok (h t ht)
   have:=ok.hi
   exact j8 (by omega)
theorem zli {m:Int}{ts:List Tie}{s:Tie}(ok:xD m ts)(h:wT s.1 s.2∈ts):smP s=true:=by
 have r:=ZR ok h
 have:=ok.hi
 exact j8 (by omega)
def wj:SE->Ctl :=
 (yn (sIf (vD (yd (tOf (eUn (ya .tuple) (zg 3)))) (vD (tOf (zp neD (eFn Yi (zb (zg 3) zt)) (eC (.int 3)))) (yd (tOf (zv 2 wM (zb (zg 0) (zb (eSl slD (zg 3) zY (zP (eC (.int 2)))) zt))))))) (yR (eC (.bl false))) zV)
  (yn (sIf (vD (yd (tOf (zv 1 wJ (zb (zp ixD (zg 3) (eC (.int 2))) zt)))) (vD (tOf (zp ltD (zp ixD (zg 3) (eC (.int 2))) (eC (.int 1)))) (tOf (zp gtD (zp ixD (zg 3) (eC (.int 2))) (eC (.int 300)))))) (yR (eC (.bl false))) zV)
  (XU false 2 (eSl slD (zg 3) zY (zP (eC (.int 2)))))))
def wv:SE->Ctl :=
 (yn (sIf (yd (tOf (eUn (ya .tuple) (zg 1)))) (yR (eC (.bl false))) zV)
  (yn (X4 2 (y6 zt))
  (yn (ZK (iOf (zg 1)) (yW 3) wj)
  (sFz 2 (yR (zp ZP (zg 2) (x8 (fSQ (zg 2)))))))))
def vm:List D->Option D:=fnD 4 wv
theorem zgF {m:Int}{ts:List Tie}{x th:D}{H:List D}{N B C:SE->Prop}{R:D->Prop}(hx:Wm x)(hH:H.length<=900)
 (h1:∀ h,okR ts x=some h->N [.v (zD m ts),.v th,.o (H++[zc h]),.v x]) (h2:okR ts x=none->R (.bl false)):(wj [.v (zD m ts),.v th,.o H,.v x]).w N B C R:=by
 unfold wj
 cases hx with
 | who r =>
  obtain⟨a,b,n⟩:=r
  have e1:=wL (m:=m) (ts:=ts) (Vn.pair a b)
  rw[wZ]at e1
  cases c1:decide (wT a b∈ts) with
  | false =>
   rw[c1]at e1
   refine zR (wC (c:=true) (xz rfl (xz rfl (xt (b:=false) (wm (zL (ds:=[zD m ts,.tup [.int a,.int b]]) rfl e1))))) (λ_=>wK rfl (h2 ?_)) λz=>by cases z)
   rw[YY]
   show(if (decide (wT a b∈ts)&&_)=true then _ else _)=_
   rw[c1]
   rfl
  | true =>
   rw[c1]at e1
   refine zR (wC (c:=false) (xz rfl (xz rfl (xt (b:=true) (wm (zL (ds:=[zD m ts,.tup [.int a,.int b]]) rfl e1))))) (λz=>by cases z) λ_=>vC rfl ?_)
   have e2:okR ts (trD (a,b,n))=if (decide (1<=n)&&decide (n<=300))=true then some (a,b)else none:=by
    rw[YY]
    show(if (decide (wT a b∈ts)&&_)=true then _ else _)=_
    rw[c1]
    rfl
   have t1:decide (n < 1)=!decide (1<=n):=by
    by_cases c:1<=n
    .rw[j8 c,g0 (by omega)];rfl
    .rw[g0 c,j8 (by omega)];rfl
   have t2:decide (n > 300)=!decide (n<=300):=by
    by_cases c:n<=300
    .rw[j8 c,g0 (by omega)];rfl
    .rw[g0 c,j8 (by omega)];rfl
   have et:vD (yd (tOf (zv 1 wJ (zb (zp ixD (zg 3) (eC (.int 2))) zt)))) (vD (tOf (zp ltD (zp ixD (zg 3) (eC (.int 2))) (eC (.int 1)))) (tOf (zp gtD (zp ixD (zg 3) (eC (.int 2))) (eC (.int 300))))) (visG [.v (zD m ts),.v th,.o H,.v (trD (a,b,n))])=some (!(decide (1<=n)&&decide (n<=300))):=by
    refine xz rfl ?_
    have:=zmq (t:=tOf (zp ltD (zp ixD (zg 3) (eC (.int 2))) (eC (.int 1)))) (u:=tOf (zp gtD (zp ixD (zg 3) (eC (.int 2))) (eC (.int 300)))) (ρ:=visG [.v (zD m ts),.v th,.o H,.v (trD (a,b,n))]) (b:=decide (n < 1)) (c:=decide (n > 300)) rfl rfl
    rw[this,t1,t2,Bool.not_and]
   refine zR (wC (c:=!(decide (1<=n)&&decide (n<=300))) et (λz=>wK rfl (h2 ?_)) λz=>vC rfl ?_)
   .rw[u2v]at z
    rw[e2,z]
    rfl
   .rw[Bool.not_eq_false']at z
    rw[z]at e2
    exact vC (zdI (ds:=H) (d:=zc (a,b)) rfl rfl (by omega)) (h1 (a,b) e2)
 | tru a b =>
  have e1:=wL (m:=m) (ts:=ts) (Vn.pair a b)
  cases c1:(zg7 ts (.tup [.int a,.int b])).isSome with
  | false =>
   rw[c1]at e1
   exact zR (wC (c:=true) (xz rfl (xz rfl (xt (b:=false) (wm (zL (ds:=[zD m ts,.tup [.int a,.int b]]) rfl e1))))) (λ_=>wK rfl (h2 rfl)) λz=>by cases z)
  | true =>
   rw[c1]at e1
   refine zR (wC (c:=false) (xz rfl (xz rfl (xt (b:=true) (wm (zL (ds:=[zD m ts,.tup [.int a,.int b]]) rfl e1))))) (λz=>by cases z) λ_=>vC rfl ?_)
   exact zR (wC (c:=true) (Wj rfl) (λ_=>wK rfl (h2 rfl)) λz=>by cases z)
 | tx a b =>
  have e1:=wL (m:=m) (ts:=ts) (Vn.pair a b)
  cases c1:(zg7 ts (.tup [.int a,.int b])).isSome with
  | false =>
   rw[c1]at e1
   exact zR (wC (c:=true) (xz rfl (xz rfl (xt (b:=false) (wm (zL (ds:=[zD m ts,.tup [.int a,.int b]]) rfl e1))))) (λ_=>wK rfl (h2 rfl)) λz=>by cases z)
  | true =>
   rw[c1]at e1
   refine zR (wC (c:=false) (xz rfl (xz rfl (xt (b:=true) (wm (zL (ds:=[zD m ts,.tup [.int a,.int b]]) rfl e1))))) (λz=>by cases z) λ_=>vC rfl ?_)
   exact zR (wC (c:=true) (Wj rfl) (λ_=>wK rfl (h2 rfl)) λz=>by cases z)
 | tb b=>exact zR (wC (c:=true) (xz rfl (xz rfl (xt (b:=false) (wm (zL (ds:=[zD m ts,.tup [.bl true,.int b]]) rfl rfl))))) (λ_=>wK rfl (h2 rfl)) λz=>by cases z)
 | pr a b=>exact zR (wC (c:=true) (xz rfl (Wj rfl)) (λ_=>wK rfl (h2 rfl)) λz=>by cases z)
 | four a b n=>exact zR (wC (c:=true) (xz rfl (Wj rfl)) (λ_=>wK rfl (h2 rfl)) λz=>by cases z)
 | ls a b n=>exact zR (wC (c:=true) (Wj rfl) (λ_=>wK rfl (h2 rfl)) λz=>by cases z)
 | non=>exact zR (wC (c:=true) (Wj rfl) (λ_=>wK rfl (h2 rfl)) λz=>by cases z)
theorem zh8 {m:Int}{ts:List Tie}{ds:List D}(ok:xD m ts)(he:∀ d∈ds,Wm d)(hl:ds.length < 64):vm [zD m ts,.tup ds]=some (.bl (V8 ts ds)):=by
 refine ZT (ρ:=[.v (zD m ts),.v (.tup ds),.no,.no]) rfl ?_
 unfold wv
 refine zR (wC (c:=false) rfl (λz=>by cases z) (λ_=>vC rfl ?_))
 refine zI (ρ':=[.v (zD m ts),.v (.tup ds),.o [],.no]) rfl ?_
 refine zR (WJ (ds:=ds) (λi ρ=>∃ (hs:List Tie) (o3:Sl),ρ=[.v (zD m ts),.v (.tup ds),.o (hs.map zc),o3]/\zbv ts (ds.take i)=some hs) rfl ⟨[],_,rfl,rfl⟩ ?_ ?_)
 .rintro i d ρ hd ⟨hs,o3,rfl,hH⟩
  have hil:i < ds.length:=(t6.mp hd).1
  have hlen:=ZX hH
  rw[u04]at hlen
  refine⟨[.v (zD m ts),.v (.tup ds),.o (hs.map zc),.v d],rfl,?_⟩
  refine zgF (he d (b6 hd)) (by rw[u7];omega) (λh eh=>⟨hs++[h],.v d,?_,?_⟩) λen=>?_
  .rw[p6];rfl
  .rw[u1Y,hd]
   exact zao eh hH
  .rw[VD hd en]
 .rintro ρ ⟨hs,o3,rfl,hH⟩
  rw[u1r]at hH
  have hin:=ziI hH
  have essq:ssqD (.lst (hs.map zc))=some ((vf (ddp hs)).map zc):=zjq (by rw[ZX hH];exact hl) λt ht=>zli ok (hin t ht)
  refine zl5 (ρ':=[.v (zD m ts),.v (.tup ds),.v (.lst (hs.map zc)),o3]) rfl ?_
  have ef:x8 (fSQ (zg 2)) (visF [.v (zD m ts),.v (.tup ds),.v (.lst (hs.map zc)),o3])=some (.lst ((vf (ddp hs)).map zc)):=v0 essq
  refine wK (y8 (zB (x:=.lst (hs.map zc)) (y:=.lst ((vf (ddp hs)).map zc)) rfl ef (zj2 _ _))) ?_
  rw[zhi ok hin,Wo hH]
theorem zap (T:Txt K mg ad):xC P w K mg base CX0 3 ad.f__law_good ad.e__law_good ["web","thing"] (@spD ⟨K⟩ 2 vm):=by
 letI:KK:=⟨K⟩
 have G__law_whole:=YK (P:=P) (w:=w) (base:=base) T
 have G__law_is_step:=XN (P:=P) (w:=w) (base:=base) T
 refine xQ (N:=["web","thing","heads","row"]) (ps:=["web","thing"]) T.d__law_good.fn vL (g:=wv) λcdv A outer s H E hr=>?_
 unfold wv wj
 exact(zh (yU (yB (yj (zw .tuple rfl T.z_isinstance (edv 1) (zJ (v:=.ty "tuple") rfl T.z_tuple yq rfl)))) (zi (zz (xB xg))) zE)
  (zh (zd9 (i:=2) vL.nd rfl (Or.inl rfl) (vx zf))
  (zh (Xh u01 rfl (XF (edv 1)) (yK (zO (i:=3) vL.nd rfl (Or.inl rfl))) (zh (yU (zcP (Zj (yB (yj (zw .tuple rfl T.z_isinstance (edv 3) (zJ (v:=.ty "tuple") rfl T.z_tuple yq rfl)))) (Zj (yl XI Yk (zN _) (yi zM wy rfl T.z_len vQ (za (edv 3) zf)) (ze zd)) (Y0 (yB (yj (zo G__law_is_step hr rfl T.d__law_is_step (za (edv 0) (za (zF (edv 3) zT (zK (ze zd))) zf))))))))) (zi (zz (xB xg))) zE)
  (zh (yU (zcP (Zj (yB (yj (zo G__law_whole hr rfl T.d__law_whole (za (yu (edv 3) (ze zd) (λ_ _=>rfl)) zf)))) (Zj (yl zjU wl (zN _) (yu (edv 3) (ze zd) (λ_ _=>rfl)) (ze zd)) (Y0 (yl zfl wl (zN _) (yu (edv 3) (ze zd) (λ_ _=>rfl)) (ze zd)))))) (zi (zz (xB xg))) zE)
  (zi (zcr (m:=false) (pv 2) (zF (edv 3) zT (zK (ze zd))) (λa b=>zaT u0L u1E u1F YV a b))))))
  (zea 2 (zi (zz (ZG (YL hr) vh (zN _) (edv 2) (x3 (zaO hr rfl T.z_sorted rfl T.z_set (edv 2))))))))))
def EL (f:Ev->Option D)(ρ:Ev)(n:Nat):Prop:=∃ es,f ρ=some (.tup es)/\(∀ e∈es,Wm e)/\es.length<=n
theorem zhx {α:Type}{xs:List α}{lo hi:Option Int}{x:α}(h:x∈ZL xs lo hi):x∈xs:=by
 unfold ZL at h
 exact List.mem_of_mem_drop (u1y h)
theorem zgR {α β:Type}(f:α->β)(xs:List α)(lo hi:Option Int):ZL (xs.map f) lo hi=(ZL xs lo hi).map f:=by
 unfold ZL
 rw[u7,<- List.map_drop,<- u3L]
theorem zde {a b:List D}(h:a.length+b.length<=1000):yQ (.lst a) (.lst b)=some (.lst (a++b)):=by
 show(if lim (a.length+b.length)=true then _ else none)=_
 rw[q5 (YW h)]
theorem zmc {g:D->Option Int->Option Int->Option D}{f:Ev->Option D}{l h:Ev->Option (Option Int)}{ρ:Ev}{x z:D}{lo hi:Option Int}(h1:f ρ=some x)(h2:l ρ=some lo)(h3:h ρ=some hi)(h4:g x lo hi=some z):eSl g f l h ρ=some z:=by
 unfold eSl
 rw[h1,h2,h3]
 exact h4
theorem EL.sl {f:Ev->Option D}{ρ:Ev}{n:Nat}(e:EL f ρ n){l h:Ev->Option (Option Int)}{lo hi:Option Int}(h2:l ρ=some lo)(h3:h ρ=some hi):EL (eSl slD f l h) ρ n:=by
 obtain⟨es,e1,e2,e3⟩:=e
 exact⟨ZL es lo hi,zmc e1 h2 h3 rfl,λx hx=>e2 x (zhx hx),i4 (W3 _ _ _) e3⟩
theorem EL.add {f g:Ev->Option D}{ρ:Ev}{n k:Nat}(e:EL f ρ n)(e':EL g ρ k)(h:n+k<=1000):EL (zp yQ f g) ρ (n+k):=by
 obtain⟨es,e1,e2,e3⟩:=e
 obtain⟨ds,d1,d2,d3⟩:=e'
 refine⟨es++ds,zB e1 d1 (zb8 (by omega)),λx hx=>?_,by rw[d9];omega⟩
 rcases u0r.mp hx with h | h
 .exact e2 x h
 .exact d2 x h
theorem EL.one {f:Ev->Option D}{ρ:Ev}{d:D}(e:f ρ=some d)(h:Wm d):EL (xV (zb f zt)) ρ 1 :=
 ⟨[d],zeH (zu e yS) (by show 1<=1000;decide),λx hx=>by rw[j9.mp hx];exact h,j3 _⟩
theorem YG {P:D->Prop}{ds:List D}{j:Int}(h:∀ d∈ds,P d)(h0:0<=j)(h1:j < ds.length):∃ d,L2.atI ds j=some d/\P d:=by
 have hj:j.toNat < ds.length:=by omega
 exact⟨ds[j.toNat],Vv h0 (r9 hj),h _ (u0e hj)⟩
def Th (d:D):Prop:=(∃ es,d=.tup es/\(∀ e∈es,Wm e)/\es.length < 64)\/ya .tuple d=some (.bl false)
theorem EL.th {f:Ev->Option D}{ρ:Ev}{n:Nat}(e:EL f ρ n)(h:n < 64):∃ d,f ρ=some d/\Th d:=by
 obtain⟨es,a,b,c⟩:=e
 exact⟨_,a,.inl ⟨es,rfl,b,by omega⟩⟩
theorem zjt {m:Int}{ts:List Tie}{d:D}(ok:xD m ts)(h:Th d):∃ b,wW [zD m ts,d]=some (.bl b)/\vm [zD m ts,d]=some (.bl b):=by
 rcases h with ⟨es,rfl,h1,h2⟩ | h
 .exact⟨_,Ys ok (za7 ok h1),zh8 ok h1 h2⟩
 .refine⟨false,Ys ok ?_,?_⟩
  .refine ZT (ρ:=[.v (zD m ts),.v d,.no,.no]) rfl ?_
   unfold yb
   exact zR (wC (c:=true) (xt (b:=false) (wm (zju (x:=d) rfl h))) (λ_=>wK rfl rfl) λz=>by cases z)
  .refine ZT (ρ:=[.v (zD m ts),.v d,.no,.no]) rfl ?_
   unfold wv
   exact zR (wC (c:=true) (xt (b:=false) (wm (zju (x:=d) rfl h))) (λ_=>wK rfl rfl) λz=>by cases z)
def yx:SE->Ctl :=
 (yn (wS false 3 (zp xh (zv 2 zy (zb (zg 2) (zb (eC (.int 5)) zt))) (zp yQ (eFn Yi (zb (zg 1) zt)) (eC (.int 1)))))
  (yn (wS false 4 (zp ixD (zp yQ (zg 1) (xV (zb (xV (zb (eC (.int 0)) (zb (eC (.int 1)) (zb (eC (.int 1)) zt)))) zt))) (zg 3)))
  (yn (wS false 5 (x8 (y6 (zb (zp yQ (eSl slD (zg 4) zY (zP (eC (.int 2)))) (xV (zb (eC (.int 0)) zt))) (zb (zp yQ (eSl slD (zg 4) zY (zP (eC (.int 2)))) (xV (zb (eC (.int 301)) zt))) (zb (zp yQ (eSl slD (zg 4) zY (zP (eC (.int 2)))) (xV (zb (eC (.bl true)) zt))) (zb (eSl slD (zg 4) zY (zP (eC (.int 2)))) (zb (x8 (fFn wx (zb (zg 4) zt))) (zb (xV (zb (eC (.int 0)) (zb (eC (.int 0)) (zb (eC (.int 1)) zt)))) (zb (xV (zb (eC (.int 0)) (zb (zp ixD (zg 0) (eC (.int 0))) (zb (eC (.int 2)) zt)))) (zb (eC .non) zt)))))))))))
  (yn (wS false 5 (zp yQ (zg 5) (x8 (y6 (zb (zp yQ (zg 4) (xV (zb (eC (.int 1)) zt))) (zb (xV (zb (zp ixD (zg 4) (eC (.int 1))) (zb (zp ixD (zg 4) (eC (.int 0))) (zb (zp ixD (zg 4) (eC (.int 2))) zt)))) (zb (zp yQ (eSl slD (zg 4) zY (zP (eC (.int 2)))) (xV (zb (eC (.int 300)) zt))) (zb (xV (zb (eC (.bl true)) (zb (zp ixD (zg 4) (eC (.int 1))) (zb (eC (.int 1)) zt)))) (zb (zp yQ (eSl slD (zg 4) zY (zP (eC (.int 2)))) (xV (zb (eC (.str "1")) zt))) zt)))))))))
  (yn (wS false 6 (zp ixD (zg 5) (zp xh (zv 2 zy (zb (zg 2) (zb (eC (.int 6)) zt))) (eC (.int 13)))))
  (yn (wS false 7 (x8 (y6 (zb (zg 1) (zb (zp yQ (eSl slD (zg 1) zY (zP (zg 3))) (eSl slD (zg 1) (zP (zp yQ (zg 3) (eC (.int 1)))) zY)) (zb (zp yQ (zp yQ (eSl slD (zg 1) zY (zP (zg 3))) (eSl slD (zg 1) (zP (zg 3)) (zP (zp yQ (zg 3) (eC (.int 1)))))) (eSl slD (zg 1) (zP (zg 3)) zY)) (zb (zp yQ (eSl slD (zg 1) (zP (zg 3)) zY) (eSl slD (zg 1) zY (zP (zg 3)))) zt)))))))
  (yn (wS false 7 (zp yQ (zg 7) (x8 (y6 (zb (zp yQ (zp yQ (eSl slD (zg 1) zY (zP (zg 3))) (xV (zb (zg 6) zt))) (eSl slD (zg 1) (zP (zp yQ (zg 3) (eC (.int 1)))) zY)) (zb (zp yQ (zp yQ (eSl slD (zg 1) zY (zP (zg 3))) (xV (zb (zg 6) zt))) (eSl slD (zg 1) (zP (zg 3)) zY)) (zb (x8 (fFn wx (zb (zg 1) zt))) (zb (eC .non) (zb (xV zt) zt)))))))))
  (yR (zp ixD (zg 7) (zp xh (zv 2 zy (zb (zg 2) (zb (eC (.int 7)) zt))) (eC (.int 9))))))))))))
def xZ:List D->Option D:=fnD 8 yx
theorem VI {m:Int}{ts:List Tie}{c:Int}{rs:List TR}(h20:rs.length<=20):∃ d,xZ [zD m ts,.tup (rs.map trD),.int c]=some d/\Th d:=by
 obtain⟨a,ha⟩:∃ a:Int,ZJ c 5 % ((rs.length:Int)+1)=a:=⟨_,rfl⟩
 obtain⟨a0,a1⟩:=xO (by omega) ha
 obtain⟨r,hr⟩:∃ r:TR,L2.atI (rs.map trD++[trD (0,1,1)]) a=some (trD r):=by
  have hal:a.toNat < (rs++[(0,1,1)]).length:=by rw[d9];show _ < rs.length+1;omega
  refine⟨(rs++[(0,1,1)])[a.toNat],Vv a0 ?_⟩
  have e:rs.map trD++[trD (0,1,1)]=(rs++[(0,1,1)]).map trD:=by rw[p6];rfl
  rw[e,d6,r9 hal]
  rfl
 obtain⟨p,i,u⟩:=r
 obtain⟨y,hy⟩:∃ y:Int,ZJ c 7 % 9=y:=⟨_,rfl⟩
 obtain⟨y0,y1⟩:=xO (by decide) hy
 obtain⟨j,hj⟩:∃ j:Int,ZJ c 6 % 13=j:=⟨_,rfl⟩
 obtain⟨j0,j1⟩:=xO (by decide) hj
 have hl:(rs.map trD).length<=20:=by rw[u7];exact h20
 have hrow:∀ d∈rs.map trD,Wm d:=λd hd=>by obtain⟨r,_,rfl⟩:=u0b.mp hd;exact .who r
 have hlD:∀ o3 o4 o5 o6 o7:Sl,zp yQ (eFn Yi (zb (zg 1) zt)) (eC (.int 1)) (visF [.v (zD m ts),.v (.tup (rs.map trD)),.v (.int c),o3,o4,o5,o6,o7])=some (.int ((rs.length:Int)+1)):=λ_ _ _ _ _=>by
  refine zB (x:=.int (rs.length:Int)) (y:=.int 1) (zfe (ds:=[.tup (rs.map trD)]) rfl ?_) rfl rfl
  show some (D.int ((rs.map trD).length:Int))=_
  rw[u7]
 have key:=zjF (m:=8) (g:=yx) (ds:=[zD m ts,.tup (rs.map trD),.int c]) (R:=Th) (ρ:=[.v (zD m ts),.v (.tup (rs.map trD)),.v (.int c),.no,.no,.no,.no,.no]) rfl ?_
 .exact key
 unfold yx
 generalize hR:rs.map trD=RD at *
 refine zI (ρ':=[.v (zD m ts),.v (.tup RD),.v (.int c),.v (.int a),.no,.no,.no,.no]) (ZM (zB (x:=.int (ZJ c 5)) (y:=.int ((rs.length:Int)+1)) rfl (hlD _ _ _ _ _) (by rw[yA (by omega),ha]))) ?_
 refine zI (ρ':=[.v (zD m ts),.v (.tup RD),.v (.int c),.v (.int a),.v (trD (p,i,u)),.no,.no,.no]) (ZM (zB (x:=.tup (RD++[trD (0,1,1)])) (y:=.int a) (zB (x:=.tup RD) (y:=.tup [trD (0,1,1)]) rfl rfl (zb8 (by show _+1<=1000;omega))) rfl hr)) ?_
 have s1:∀ d∈[trD (p,i,0),trD (p,i,301),.tup [.int p,.int i,.bl true],.tup [.int p,.int i],.lst [.int p,.int i,.int u],trD (0,0,1),trD (0,m,2),.non],Wm d:=o0.mpr ⟨.who _,o0.mpr ⟨.who _,o0.mpr ⟨.tru _ _,o0.mpr ⟨.pr _ _,o0.mpr ⟨.ls _ _ _,o0.mpr ⟨.who _,o0.mpr ⟨.who _,o0.mpr ⟨.non,λ_ h=>nomatch h⟩⟩⟩⟩⟩⟩⟩⟩
 obtain⟨S1,hS1⟩:∃ S,[trD (p,i,0),trD (p,i,301),.tup [.int p,.int i,.bl true],.tup [.int p,.int i],.lst [.int p,.int i,.int u],trD (0,0,1),trD (0,m,2),.non]=S:=⟨_,rfl⟩
 have z1:S1.length=8:=by rw[<-hS1];rfl
 rw[hS1]at s1
 refine zI (ρ':=[.v (zD m ts),.v (.tup RD),.v (.int c),.v (.int a),.v (trD (p,i,u)),.v (.lst S1),.no,.no]) (ZM (d:=.lst S1) (by rw[<-hS1];rfl)) ?_
 have s2:∀ d∈[.tup [.int p,.int i,.int u,.int 1],trD (i,p,u),trD (p,i,300),.tup [.bl true,.int i,.int 1],.tup [.int p,.int i,.str "1"]],Wm d:=o0.mpr ⟨.four _ _ _,o0.mpr ⟨.who _,o0.mpr ⟨.who _,o0.mpr ⟨.tb _,o0.mpr ⟨.tx _ _,λ_ h=>nomatch h⟩⟩⟩⟩⟩
 obtain⟨S2,hS2⟩:∃ S:List D,[.tup [.int p,.int i,.int u,.int 1],trD (i,p,u),trD (p,i,300),.tup [.bl true,.int i,.int 1],.tup [.int p,.int i,.str "1"]]=S:=⟨_,rfl⟩
 have z2:S2.length=5:=by rw[<-hS2];rfl
 rw[hS2]at s2
 refine zI (ρ':=[.v (zD m ts),.v (.tup RD),.v (.int c),.v (.int a),.v (trD (p,i,u)),.v (.lst (S1++S2)),.no,.no]) (ZM (zB (x:=.lst S1) (y:=.lst S2) rfl (by rw[<-hS2];rfl) (zde (by omega)))) ?_
 have sA:∀ d∈S1++S2,Wm d:=λd hd=>by
  rcases u0r.mp hd with h | h
  .exact s1 d h
  .exact s2 d h
 have zA:(S1++S2).length=13:=by rw[d9];omega
 generalize S1++S2=SA at sA zA
 obtain⟨e,e1,e2⟩:=YG sA j0 (by rw[zA];exact j1)
 refine zI (ρ':=[.v (zD m ts),.v (.tup RD),.v (.int c),.v (.int a),.v (trD (p,i,u)),.v (.lst SA),.v e,.no]) (ZM (zB (x:=.lst SA) (y:=.int j) rfl (zB (x:=.int (ZJ c 6)) (y:=.int 13) rfl rfl (by rw[yA (by decide),hj])) e1)) ?_
 have base:∀ o7:Sl,EL (zg 1) (visF [.v (zD m ts),.v (.tup RD),.v (.int c),.v (.int a),.v (trD (p,i,u)),.v (.lst SA),.v e,o7]) 20:=λo7=>⟨RD,rfl,hrow,hl⟩
 have pre:∀ o7:Sl,EL (eSl slD (zg 1) zY (zP (zg 3))) (visF [.v (zD m ts),.v (.tup RD),.v (.int c),.v (.int a),.v (trD (p,i,u)),.v (.lst SA),.v e,o7]) 20:=λo7=>EL.sl (base o7) rfl rfl
 have pos:∀ o7:Sl,EL (eSl slD (zg 1) (zP (zg 3)) zY) (visF [.v (zD m ts),.v (.tup RD),.v (.int c),.v (.int a),.v (trD (p,i,u)),.v (.lst SA),.v e,o7]) 20:=λo7=>EL.sl (base o7) rfl rfl
 have pst:∀ o7:Sl,EL (eSl slD (zg 1) (zP (zp yQ (zg 3) (eC (.int 1)))) zY) (visF [.v (zD m ts),.v (.tup RD),.v (.int c),.v (.int a),.v (trD (p,i,u)),.v (.lst SA),.v e,o7]) 20:=λo7=>EL.sl (base o7) rfl rfl
 have mid:∀ o7:Sl,EL (eSl slD (zg 1) (zP (zg 3)) (zP (zp yQ (zg 3) (eC (.int 1))))) (visF [.v (zD m ts),.v (.tup RD),.v (.int c),.v (.int a),.v (trD (p,i,u)),.v (.lst SA),.v e,o7]) 20:=λo7=>EL.sl (base o7) rfl rfl
 have one:∀ o7:Sl,EL (xV (zb (zg 6) zt)) (visF [.v (zD m ts),.v (.tup RD),.v (.int c),.v (.int a),.v (trD (p,i,u)),.v (.lst SA),.v e,o7]) 1:=λo7=>EL.one rfl e2
 obtain⟨d1,f1,t1⟩:=EL.th (EL.add (pre .no) (pst .no) (by decide)) (by decide)
 obtain⟨d2,f2,t2⟩:=EL.th (EL.add (EL.add (pre .no) (mid .no) (by decide)) (pos .no) (by decide)) (by decide)
 obtain⟨d3,f3,t3⟩:=EL.th (EL.add (pos .no) (pre .no) (by decide)) (by decide)
 have t0:Th (.tup RD):=.inl ⟨RD,rfl,hrow,by omega⟩
 refine zI (ρ':=[.v (zD m ts),.v (.tup RD),.v (.int c),.v (.int a),.v (trD (p,i,u)),.v (.lst SA),.v e,.v (.lst [.tup RD,d1,d2,d3])]) (ZM (v0 (zaV (zu rfl (zu f1 (zu f2 (zu f3 yS)))) (by show 4<=1000;decide)))) ?_
 obtain⟨d4,f4,t4⟩:=EL.th (EL.add (EL.add (pre (.v (.lst [.tup RD,d1,d2,d3]))) (one _) (by decide)) (pst _) (by decide)) (by decide)
 obtain⟨d5,f5,t5⟩:=EL.th (EL.add (EL.add (pre (.v (.lst [.tup RD,d1,d2,d3]))) (one _) (by decide)) (pos _) (by decide)) (by decide)
 have t8:Th (.tup []):=.inl ⟨[],rfl,(λe he=>by cases he),by show 0 < 64;decide⟩
 have sW:∀ d∈[.tup RD,d1,d2,d3]++[d4,d5,.lst RD,.non,.tup []],Th d:=o0.mpr ⟨t0,o0.mpr ⟨t1,o0.mpr ⟨t2,o0.mpr ⟨t3,o0.mpr ⟨t4,o0.mpr ⟨t5,o0.mpr ⟨.inr rfl,o0.mpr ⟨.inr rfl,o0.mpr ⟨t8,λ_ h=>nomatch h⟩⟩⟩⟩⟩⟩⟩⟩⟩
 refine zI (ρ':=[.v (zD m ts),.v (.tup RD),.v (.int c),.v (.int a),.v (trD (p,i,u)),.v (.lst SA),.v e,.v (.lst ([.tup RD,d1,d2,d3]++[d4,d5,.lst RD,.non,.tup []]))]) (ZM (zB (x:=.lst [.tup RD,d1,d2,d3]) (y:=.lst [d4,d5,.lst RD,.non,.tup []]) rfl (v0 (zaV (zu f4 (zu f5 (zu rfl (zu rfl (zu rfl yS))))) (by show 5<=1000;decide))) (zde (by show 4+5<=1000;decide)))) ?_
 obtain⟨x,x1,x2⟩:=YG (j:=y) sW y0 (by show _ < (9:Int);exact y1)
 exact wK (y8 (zB (x:=.lst ([.tup RD,d1,d2,d3]++[d4,d5,.lst RD,.non,.tup []])) (y:=.int y) rfl (zB (x:=.int (ZJ c 7)) (y:=.int 9) rfl rfl (by rw[yA (by decide),hy])) x1)) x2
theorem Zt (T:Txt K mg ad):xC P w K mg base CX0 2 ad.f__law_otherwise ad.e__law_otherwise ["web","tally","cell"] (@spD ⟨K⟩ 3 xZ):=by
 letI:KK:=⟨K⟩
 have G__law_stir:=wH (P:=P) (w:=w) (base:=base) T
 refine xQ (N:=["web","tally","cell","at","row","bad","one","some"]) (ps:=["web","tally","cell"]) T.d__law_otherwise.fn zG (g:=yx) λcdv A outer s H E hr=>?_
 unfold yx
 exact(zh (yV (m:=false) (i:=3) zG.nd rfl (Or.inl rfl) (xu (zo G__law_stir hr rfl T.d__law_stir (za (edv 2) (za (ze zd) zf))) (zH (yi zM wy rfl T.z_len vQ (za (edv 1) zf)) (ze zd))))
  (zh (yV (m:=false) (i:=4) zG.nd rfl (Or.inl rfl) (yu (zH (edv 1) (yh (za (yh (za (ze zd) (za (ze zd) (za (ze zd) zf)))) zf))) (edv 3) (λ_ _=>rfl)))
  (zh (yV (m:=false) (i:=5) zG.nd rfl (Or.inl rfl) (x3 (vx (za (zH (zF (edv 4) zT (zK (ze zd))) (yh (za (ze zd) zf))) (za (zH (zF (edv 4) zT (zK (ze zd))) (yh (za (ze zd) zf))) (za (zH (zF (edv 4) zT (zK (ze zd))) (yh (za (xB xg) zf))) (za (zF (edv 4) zT (zK (ze zd))) (za (x3 (Xc rfl T.z_list (za (edv 4) zf))) (za (yh (za (ze zd) (za (ze zd) (za (ze zd) zf)))) (za (yh (za (ze zd) (za (yu (edv 0) (ze zd) (λ_ _=>rfl)) (za (ze zd) zf)))) (za (XD Xo) zf)))))))))))
  (zh (yV (m:=false) (i:=5) zG.nd rfl (Or.inl rfl) (zH (edv 5) (x3 (vx (za (zH (edv 4) (yh (za (ze zd) zf))) (za (yh (za (yu (edv 4) (ze zd) (λ_ _=>rfl)) (za (yu (edv 4) (ze zd) (λ_ _=>rfl)) (za (yu (edv 4) (ze zd) (λ_ _=>rfl)) zf)))) (za (zH (zF (edv 4) zT (zK (ze zd))) (yh (za (ze zd) zf))) (za (yh (za (xB xg) (za (yu (edv 4) (ze zd) (λ_ _=>rfl)) (za (ze zd) zf)))) (za (zH (zF (edv 4) zT (zK (ze zd))) (yh (za (zhN zhU) zf))) zf)))))))))
  (zh (yV (m:=false) (i:=6) zG.nd rfl (Or.inl rfl) (yu (edv 5) (xu (zo G__law_stir hr rfl T.d__law_stir (za (edv 2) (za (ze zd) zf))) (ze zd)) (λ_ _=>rfl)))
  (zh (yV (m:=false) (i:=7) zG.nd rfl (Or.inl rfl) (x3 (vx (za (edv 1) (za (zH (zF (edv 1) zT (zK (edv 3))) (zF (edv 1) (zK (zH (edv 3) (ze zd))) zT)) (za (zH (zH (zF (edv 1) zT (zK (edv 3))) (zF (edv 1) (zK (edv 3)) (zK (zH (edv 3) (ze zd))))) (zF (edv 1) (zK (edv 3)) zT)) (za (zH (zF (edv 1) (zK (edv 3)) zT) (zF (edv 1) zT (zK (edv 3)))) zf)))))))
  (zh (yV (m:=false) (i:=7) zG.nd rfl (Or.inl rfl) (zH (edv 7) (x3 (vx (za (zH (zH (zF (edv 1) zT (zK (edv 3))) (yh (za (edv 6) zf))) (zF (edv 1) (zK (zH (edv 3) (ze zd))) zT)) (za (zH (zH (zF (edv 1) zT (zK (edv 3))) (yh (za (edv 6) zf))) (zF (edv 1) (zK (edv 3)) zT)) (za (x3 (Xc rfl T.z_list (za (edv 1) zf))) (za (XD Xo) (za (yh zf) zf)))))))))
  (zi (zz (yu (edv 7) (xu (zo G__law_stir hr rfl T.d__law_stir (za (edv 2) (za (ze zd) zf))) (ze zd)) (λ_ _=>rfl)))))))))))
theorem zh9 {m:Int}{ts:List Tie}{S:List Tie}{d:D}{rest:List D}(ok:xD m ts)(h28:ts.length<=28)(hS:∀ s∈S,wT s.1 s.2∈ts)(hl:S.length<=900)(hd:Vn d)(hn:zg7 ts d=none):wq [zD m ts,.lst (S.map zc++d::rest)]=some (26+64*(S.length+1)):=by
 have few:∀ i,(wb (S.take i)).length<=56:=λi=>by
  have c:=WG (S.take i)
  have:=zb2 c.nd λs hs=>hS s (u1y (c.sub s hs))
  rw[u7]at this
  omega
 obtain⟨L,hL⟩:∃ L,S.map zc++d::rest=L:=⟨_,rfl⟩
 have get:∀ k s,S[k]?=some s->L[k]?=some (zc s):=λk s hs=>by
  rw[<-hL,u0o (by rw[u7];exact(t6.mp hs).1),d6,hs]
  rfl
 have getd:L[S.length]?=some d:=by
  rw[<-hL,u0i (by rw[u7];exact j3 _),u7,Nat.sub_self]
  rfl
 rw[hL]
 show xa [.v (zD m ts),.v (.lst L),.no,.no,.no]=_
 unfold xa
 refine W9 rfl (Wz (d:=.non) (zcm ok)) ?_
 refine W9 (ρ':=[.v (zD m ts),.v (.lst L),.no,.no,.no]) (zh2 (xt (b:=true) rfl) rfl) (Wa rfl) ?_
 refine W9 (ρ':=[.v (zD m ts),.v (.lst L),.m true (tmK (wb [])) (tmV (wb [])),.no,.no]) rfl rfl ?_
 show ZN _ _ _ (YC 0 L) _=_
 refine zhc (λi ρ=>∃ (o3 o4:Sl),ρ=[.v (zD m ts),.v (.lst L),.m true (tmK (wb (S.take i))) (tmV (wb (S.take i))),o3,o4]) S.length 0 (YC 0 L) _ ⟨_,_,rfl⟩ (by rw[xf];exact(t6.mp getd).1) ?_ ?_
 .rintro k x ρ hk hx ⟨o3,o4,rfl⟩
  rw[u0f]
  rw[xA,u0f]at hx
  obtain⟨y,hy,rfl⟩:=u9.mp hx
  have hs:S[k]?=some S[k]:=r9 hk
  rw[get k _ hs]at hy
  cases hy
  generalize S[k]=s at hs
  have hst:wT s.1 s.2∈ts:=hS s (b6 hs)
  have e1:zW [zD m ts,zc s]=some (.bl true):=by
   show zW [zD m ts,.tup [.int s.1,.int s.2]]=_
   rw[Zk ok (Vn.pair s.1 s.2),wZ,j8 hst]
   rfl
  have tst:yd (tOf (zv 2 zW (zb (zg 0) (zb (zg 4) zt)))) (visG [.v (zD m ts),.v (.lst L),.m true (tmK (wb (S.take k))) (tmV (wb (S.take k))),.v (.int (k:Int)),.v (zc s)])=some false:=xt (b:=true) (wm (zL (ds:=[zD m ts,zc s]) rfl e1))
  refine⟨[.v (zD m ts),.v (.lst L),.m true (tmK (wb (S.take k))) (tmV (wb (S.take k))),.v (.int (k:Int)),.v (zc s)],[.v (zD m ts),.v (.lst L),.m true (tmK (wb (S.take (k+1)))) (tmV (wb (S.take (k+1)))),.v (.int (k:Int)),.v (zc s)],rfl,zh2 tst rfl,?_,⟨_,_,rfl⟩⟩
  rw[YZ hs]
  have few:=few k
  generalize wb (S.take k)=T at few tst ⊢
  have e2:vEv true (zp yQ (zgv (zg 2) (zg 4) (eC (.int 0))) (eC (.int 1))) [.v (zD m ts),.v (.lst L),.m true (tmK T) (tmV T),.v (.int (k:Int)),.v (zc s)]=some (.int (tv T s+1)):=by
   refine vEvT (zB (x:=.int (tv T s)) (y:=.int 1) ?_ rfl zQ) rfl
   show(some (tkK s)).map (λk=>(Xg (tmK T) (tmV T) k).getD (.int 0))=_
   rw[Option.map_some,Z7]
   unfold tv
   cases xU T s <;> rfl
  show yn _ _ _=_
  rw[zjn (Wa tst)]
  exact zeU (T:=T) (s:=s) (n:=tv T s+1) e2 rfl rfl (by omega) rfl
 .rintro x ρ hx ⟨o3,o4,rfl⟩
  rw[xA,u0f,getd]at hx
  cases hx
  rw[u0f]
  have e1:zW [zD m ts,d]=some (.bl false):=by
   rw[Zk ok hd,hn]
   rfl
  refine⟨[.v (zD m ts),.v (.lst L),.m true (tmK (wb (S.take S.length))) (tmV (wb (S.take S.length))),.v (.int (S.length:Int)),.v d],rfl,?_⟩
  refine zd3 (xt (b:=false) (wm (zL (ds:=[zD m ts,d]) rfl e1))) ?_
  unfold xRI
  rw[show zb (zg 3) zt (visG [.v (zD m ts),.v (.lst L),.m true (tmK (wb (S.take S.length))) (tmV (wb (S.take S.length))),.v (.int (S.length:Int)),.v d])=some [.int (S.length:Int)]from rfl,b9]
  show(if -1<=(S.length:Int)then some (10+16*1+64*((S.length:Int)+1).toNat)else none)=_
  rw[q5 (by omega)]
  congr 1
theorem ziv {m:Int}{ts:List Tie}{d:D}(ok:xD m ts)(hd:ya .list d=some (.bl false)):wq [zD m ts,d]=some 26:=by
 show xa [.v (zD m ts),.v d,.no,.no,.no]=_
 unfold xa
 refine W9 rfl (Wz (d:=.non) (zcm ok)) ?_
 exact zgu (zd3 (xt (b:=false) (wm (zju (x:=d) rfl hd))) rfl)
def vv:SE->Ctl :=
 (yn (zkm (xEx (zkx 2 wq (zb (zg 0) (zb (zg 1) zt)))) (XT (zv 2 Yd (zb (zg 0) (zb (zg 1) zt)))) (zic [10] (zhz (fK [10]) 10 (fA "at" [10]) (λ_=>some (.int (-2))))))
  (yR (eC .non)))
def vk:List D->Option D:=fnD 3 vv
theorem zdK {W L:D}{n:Nat}(h:wq [W,L]=some (26+64*n)):vk [W,L]=some (.int ((n:Int) - 1)):=by
 refine ZT (ρ:=[.v W,.v L,.no]) rfl ?_
 unfold vv
 refine zR (wK (zha (j:=26+64*n) (d:=.int ((n:Int) - 1)) h ?_) rfl)
 have m16:(26+64*n) % 16=10:=by omega
 have k1:(26+64*n) / 16 % 4=1:=by omega
 have k2:(26+64*n) / 64=n:=by omega
 unfold zic zhz fK fA
 rw[m16]
 show(pay (26+64*n)).bind _=_
 unfold pay
 rw[k1,k2]
 rfl
theorem zat (T:Txt K mg ad):xC P w K mg base CX0 9 ad.f__law_came ad.e__law_came ["web","steps"] (@spD ⟨K⟩ 2 vk):=by
 letI:KK:=⟨K⟩
 have G_tally_of:=Xz (P:=P) (w:=w) (base:=base) T
 have X_tally_of:=ZE (P:=P) (w:=w) (base:=base) T
 have H_kinds:=XY (P:=P) (w:=w) (base:=base) T
 have okj:∀ j,j∈[10]->j < 13/\zbE K (zlW ad) ad.x_StoneError (clT ad j) j:=by
  intro j hj
  simp only[j5,p5,u1p]at hj
  rcases hj with rfl
  .exact⟨by decide,.of T.y_NoSteps⟩
 have exj:∀ (h:Nat->Option D) j d,zic [10] h j=some d->PySem.W.exmOne K (.ref (clT ad j)) (.ref ad.x_StoneError)=some true:=λh j d e=>by rw[zlp ad j];exact(okj _ (zix e)).2.exm
 have xat_at:∀ j,j % 16∈[10]->vy K (clT ad j)/\Wh K (clT ad j) "at":=by
  intro j hj
  rw[zlp ad j]
  generalize j % 16=m at hj ⊢
  simp only[j5,p5,u1p]at hj
  rcases hj with rfl
  .exact⟨.of T.ea_NoSteps,zbd T.na_NoSteps _ (by decide)⟩
 refine xQ (N:=["web","steps","e"]) (ps:=["web","steps"]) T.d__law_came.fn ZH (g:=vv) λcdv A outer s H E hr=>?_
 unfold vv
 exact(zh (zkG (i:=2) rfl rfl rfl ZH.nd rfl rfl rfl T.g_StoneError (λps W E0 hx=>(za2 (ziB (zih (X_tally_of.mono (by decide)) hx hr rfl T.d_tally_of.at_ T.d_tally_of.kp T.d_tally_of.bd (za (edv 0) (za (edv 1) zf)))))) (λps W=>(zi (Vj (zo G_tally_of hr rfl T.d_tally_of (za (edv 0) (za (edv 1) zf)))))) (exj _) (λok ea=>(we (zg2 (zaA zlw (zfV (E:=λ_ _ _=>False) H_kinds (hr.mono (by decide)) rfl T.d__law_kinds.at_ T.d__law_kinds.kp T.d__law_kinds.bd ok (zr (pv 2) yC)) zd (zN _)) (Yw (V0 (zmv (pv 2) rfl))) zbg) (Yw (V0 (ziF zdi zd))))) (zlM (zmg (zht (ok:=_) (zlp ad) okj) (zhI (ziH xat_at)) (zhI zln))))
  (zi (zz (XD Xo))))
theorem zlR (S:List Tie)(s:Tie):tv (wb S) s=(S.count s:Int):=by
 have key:∀ i,i<=S.length->tv (wb (S.take i)) s=((S.take i).count s:Int):=by
  intro i
  induction i with
  | zero=>intro _;rfl
  | succ i ih =>
   intro hi
   have hx:S[i]?=some S[i]:=r9 hi
   rw[YZ hx,u1Y,hx]
   unfold zfR
   rw[zdM,ih (by omega),List.count_append]
   show _=(((S.take i).count s+[S[i]].count s:Nat):Int)
   rw[List.count_singleton]
   by_cases c:s=S[i]
   .rw[q5 c,c,u0h,q5 rfl,<- c,ih (by omega)]
    rfl
   .rw[j4 c,u1V (λz=>c z.symm),j4 u8]
    rfl
 have:=key S.length (j3 _)
 rwa[u1r]at this
theorem zll {S E:List Tie}(hE:E.Pairwise ltP)(hS:∀ s∈S,s∈E):(E.filter λs=>decide (s∈S)).map (λs=>((s.1,s.2,(S.count s:Int)):TR))=Vm (wb S):=by
 have c:=WG S
 have h1:(E.filter λs=>decide (s∈S)).Pairwise ltP:=hE.filter _
 have h2:((zct (wb S)).filter λs=>decide (0 < tv (wb S) s)).Pairwise ltP:=(zdR c.nd).filter _
 have e:E.filter (λs=>decide (s∈S))=(zct (wb S)).filter λs=>decide (0 < tv (wb S) s):=by
  refine u1C (le:=λa b=>ltP a b) (λa b _ _ x y=>?_) h1 h2 ?_
  .unfold ltP at x y
   omega
  .refine(List.perm_ext_iff_of_nodup (h1.imp Vt) (h2.imp Vt)).mpr λs=>?_
   rw[u1l,u1l,p0,p0,(vd _).mem_iff]
   constructor
   .rintro⟨_,h⟩
    exact⟨c.all s h,c.pos s h⟩
   .rintro⟨h,_⟩
    exact⟨hS s (c.sub s h),c.sub s h⟩
 rw[e]
 unfold Vm
 refine u06 λs _=>?_
 unfold zhs
 rw[zlR]
theorem zes (S:List Tie)(t:Tie):zkq (.lst (S.map zc)) (zc t)=some (.int ((S.count t:Nat):Int)):=by
 show(if okE 20 (zc t)=true/\(S.map zc).all (okE 20)=true then some (D.int (((S.map zc).countP λe=>eqN 20 e (zc t):Nat):Int))else none)=_
 rw[q5 ⟨rfl,by rw[u2c,u0B];exact λ_ _=>rfl⟩,List.countP_map]
 congr 3
 unfold List.count
 congr 1
 funext s
 show eqN 20 (zc s) (zc t)=(s == t)
 rw[W5,u1B,p0,u1G]
theorem zhb {l:List D}(h:okE 20 (.lst l)=true):zl3 (.lst l) (.lst l)=some (.bl false):=by
 show(if (okE 20 (.lst l)&&okE 20 (.lst l))=true then some (D.bl (!eqN 20 (.lst l) (.lst l)))else none)=_
 rw[h,q5 (show(true&&true)=true from rfl),zcp 20 h]
 rfl
theorem zi3 (rs:List TR):okE 5 (.tup (rs.map trD))=true:=by
 show(rs.map trD).all (okE 4)=true
 rw[u2c,u0B]
 exact λ_ _=>rfl
theorem zgl {m:Int}{ts:List Tie}{ρ:Ev}(ok:xD m ts)(h28:ts.length<=28)(h:zg 2 ρ=some (zD m ts)):x8 (fFn Vk (zb (zp yQ (x8 (fFn wx (zb (zp ixD (zg 2) (eC (.int 1))) zt))) (x8 (fLC (iOf (zp ixD (zg 2) (eC (.int 1)))) b2 wg (xV (zb (zg 1) (zb (zg 0) zt)))))) zt)) ρ=some (.lst ((Zy ts).map zc)):=by
 have e0:zp ixD (zg 2) (eC (.int 1)) ρ=some (.tup (ts.map zc)):=zB (x:=zD m ts) (y:=.int 1) h rfl rfl
 refine v0 (zen (ds:=[.lst ((ts++ts.map swP).map zc)]) (zu (zB (x:=.lst (ts.map zc)) (y:=.lst ((ts.map swP).map zc)) (v0 (zen (ds:=[.tup (ts.map zc)]) (zu e0 yS) rfl)) (v0 ?_) ?_) yS) (Wt (by rw[d9,u7];omega)))
 .rw[u0H]
  exact zhP (c:=zc) (y:=zc ∘ swP) (zco e0 rfl) (by omega) λt _=>⟨[some (.int t.1),some (.int t.2)],rfl,rfl,rfl⟩
 .rw[zde (by rw[u7,u7,u7];omega),<- p6]
def zcU (E:List Tie)(z:Int)(k:Nat):Tie:=E.getD (ZJ z (70+(0+(k:Int))) % (E.length:Int)).toNat (0,0)
theorem zgy {E:List Tie}{z:Int}{ρ:Ev}(hE:0 < E.length)(h1:zg 1 ρ=some (.int z))(h3:zg 3 ρ=some (.lst (E.map zc))):∃ S:List Tie,x8 (fLC (XQ Y5 (zb (zp xh (zv 2 zy (zb (zg 1) (zb (eC (.int 69)) zt))) (eC (.int 21))) zt)) b1 wg (zp ixD (zg 4) (zp xh (zv 2 zy (zb (zg 2) (zb (zp yQ (eC (.int 70)) (zg 0)) zt))) (eFn Yi (zb (zg 4) zt))))) ρ=some (.lst (S.map zc))/\S.length<=20/\∀ s∈S,s∈E:=by
 obtain⟨q,hq⟩:∃ q:Int,ZJ z 69 % 21=q:=⟨_,rfl⟩
 obtain⟨q0,q1⟩:=xO (by decide) hq
 have e1:XQ Y5 (zb (zp xh (zv 2 zy (zb (zg 1) (zb (eC (.int 69)) zt))) (eC (.int 21))) zt) ρ=some ((List.range q.toNat).map λi:Nat=>D.int (0+(i:Int))):=by
  have e:zb (zp xh (zv 2 zy (zb (zg 1) (zb (eC (.int 69)) zt))) (eC (.int 21))) zt ρ=some [.int q]:=zu (zB (x:=.int (ZJ z 69)) (y:=.int 21) (zL (ds:=[.int z,.int 69]) (zu h1 (zu rfl yS)) rfl) rfl (by rw[yA (by decide),hq])) yS
  refine(u0M (·.bind Y5) e).trans ?_
  rw[b9,Zv q0 (by omega)]
  rfl
 have hpick:∀ k:Nat,L2.atI (E.map zc) (ZJ z (70+(0+(k:Int))) % (E.length:Int))=some (zc (zcU E z k))/\zcU E z k∈E:=λk=>by
  obtain⟨j,hj⟩:∃ j:Int,ZJ z (70+(0+(k:Int))) % (E.length:Int)=j:=⟨_,rfl⟩
  obtain⟨j0,j1⟩:=xO (by omega) hj
  have hjl:j.toNat < E.length:=by omega
  have e:zcU E z k=E[j.toNat]:=by unfold zcU;rw[hj];simp[hjl]
  rw[hj,e]
  exact⟨Vv j0 (by rw[d6,r9 hjl];rfl),u0e hjl⟩
 refine⟨(List.range q.toNat).map (zcU E z),v0 ?_,by rw[u7,u0q];omega,λs hs=>?_⟩
 .rw[u0H]
  refine zhP (c:=λi:Nat=>D.int (0+(i:Int))) (y:=zc ∘ zcU E z) e1 (by rw[u0q];omega) λk _=>⟨[some (.int (0+(k:Int)))],rfl,rfl,?_⟩
  refine zB (x:=.lst (E.map zc)) (y:=.int (ZJ z (70+(0+(k:Int))) % (E.length:Int))) h3 (zB (x:=.int (ZJ z (70+(0+(k:Int))))) (y:=.int (E.length:Int)) (zL (ds:=[.int z,.int (70+(0+(k:Int)))]) (zu h1 (zu (zB (x:=.int 70) (y:=.int (0+(k:Int))) rfl rfl zQ) yS)) rfl) (zfe (ds:=[.lst (E.map zc)]) (zu h3 yS) ?_) (yA (by omega))) (hpick k).1
  show some (D.int ((E.map zc).length:Int))=_
  rw[u7]
 .obtain⟨k,_,rfl⟩:=u0b.mp hs
  exact(hpick k).2
theorem zki {E S:List Tie}{ρ:Ev}(hl:E.length<=1000)(h3:zg 3 ρ=some (.lst (E.map zc)))(h4:zg 4 ρ=some (.lst (S.map zc)))(hE:E.Pairwise ltP)(hS:∀ s∈S,s∈E):eFn yI (zb (x8 (fLC (iOf (zg 3)) b1 (tOf (zp inD (zg 0) (zg 5))) (zp yQ (zg 0) (xV (zb (zfX zkq (zg 5) (zb (zg 0) zt)) zt))))) zt) ρ=some (.tup ((Vm (wb S)).map trD)):=by
 rw[<-zll hE hS,u0H]
 refine zfe (ds:=[.lst ((E.filter λs=>decide (s∈S)).map (trD ∘ λs=>((s.1,s.2,(S.count s:Int)):TR)))]) (zu (v0 ?_) yS) rfl
 refine zhW (c:=zc) (p:=λs=>decide (s∈S)) (xs:=E) (zco h3 rfl) hl λs _=>⟨[some (zc s)],rfl,wm (zB (x:=zc s) (y:=.lst (S.map zc)) rfl h4 (WX s S)),λ_=>?_⟩
 refine zB (x:=zc s) (y:=.tup [.int (S.count s:Int)]) rfl (zeH (ds:=[.int (S.count s:Int)]) (zu ?_ yS) (by show 1<=1000;decide)) rfl
 have h4':zg 5 ([some (zc s)]++ρ)=some (.lst (S.map zc)):=h4
 unfold zfX
 rw[h4',b9]
 exact zes S s
theorem zmL (S:List D):∀ x∈[D.tup S,.non,.dct false false [] []],ya .list x=some (.bl false):=by
 intro x hx
 simp only[j5,p5,u1p]at hx
 rcases hx with rfl | rfl | rfl <;> rfl
theorem ziG {S:List Tie}{a:Int}(h0:0<=a)(h1:a<=S.length):ZL (S.map zc) none (some a)=(S.take a.toNat).map zc:=by
 unfold ZL
 obtain⟨k,rfl⟩:=Int.eq_ofNat_of_zero_le h0
 rw[HT.sIx_none,List.drop_zero,Nat.sub_zero,HT.sIx_nat,u7,u1S (by omega),u3L]
 rfl
theorem zgQ {S:List Tie}{a:Int}:∃ rest:List Tie,ZL (S.map zc) (some a) none=rest.map zc/\rest.length<=S.length:=⟨ZL S (some a) none,by rw[zgR],W3 S (some a) none⟩
theorem bads {m:Int} {ts:List Tie} (ok:xD m ts):∀ x∈[D.tup [.int 0,.int 0],.tup [.int 0,.int m],.lst [.int 0,.int 1],.tup [.bl true,.int 0],.non,.str "01",.tup [.int 0,.int 1,.int 1]],Vn x/\zg7 ts x=none:=by
 have n00:∀ a b:Int,¬ ((0<=a/\a < m)/\(0<=b/\b < m)/\a≠b)->zg7 ts (.tup [.int a,.int b])=none:=λa b hn=>by
  rw[wZ,j4]
  intro z
  exact hn (ZR ok (d8 z))
 intro x hx
 simp only[j5,p5,u1p]at hx
 rcases hx with rfl | rfl | rfl | rfl | rfl | rfl | rfl
 .exact⟨.pair _ _,n00 0 0 (by omega)⟩
 .exact⟨.pair _ _,n00 0 m (by omega)⟩
 .exact⟨.lst,rfl⟩
 .exact⟨.tru,rfl⟩
 .exact⟨.non,rfl⟩
 .exact⟨.text _,rfl⟩
 .exact⟨.three,rfl⟩
def zaF:SE->Ctl :=
 (yn (wS false 8 (zv 3 xZ (zb (zg 2) (zb (zg 5) (zb (zp yQ (zg 1) (zp Yu (eC (.int 7919)) (zg 7))) zt)))))
  (sIf (yd (tOf (zv 2 wt (zb (zv 2 wW (zb (zg 2) (zb (zg 8) zt))) (zb (zv 2 vm (zb (zg 2) (zb (zg 8) zt))) zt))))) (yR (eC (.bl false))) zV))
def WB:SE->Ctl :=
 (yn (wS false 2 (zv 2 xY (zb (zp yQ (eC (.int 2)) (zp xh (zp xo (zg 1) (eC (.int 64))) (eC (.int 7)))) (zb (zp xo (zg 1) (eC (.int 448))) zt))))
  (yn (wS false 3 (x8 (fFn Vk (zb (zp yQ (x8 (fFn wx (zb (zp ixD (zg 2) (eC (.int 1))) zt))) (x8 (fLC (iOf (zp ixD (zg 2) (eC (.int 1)))) b2 wg (xV (zb (zg 1) (zb (zg 0) zt)))))) zt))))
  (yn (wS false 4 (x8 (fLC (XQ Y5 (zb (zp xh (zv 2 zy (zb (zg 1) (zb (eC (.int 69)) zt))) (eC (.int 21))) zt)) b1 wg (zp ixD (zg 4) (zp xh (zv 2 zy (zb (zg 2) (zb (zp yQ (eC (.int 70)) (zg 0)) zt))) (eFn Yi (zb (zg 4) zt)))))))
  (yn (wS false 5 (eFn yI (zb (x8 (fLC (iOf (zg 3)) b1 (tOf (zp inD (zg 0) (zg 5))) (zp yQ (zg 0) (xV (zb (zfX zkq (zg 5) (zb (zg 0) zt)) zt))))) zt)))
  (yn (wS false 6 (x8 (fFn wx (zb (zg 4) zt))))
  (yn (sIf (vD (yd (tOf (zv 2 wt (zb (zv 2 Yd (zb (zg 2) (zb (zg 6) zt))) (zb (zg 5) zt))))) (vD (tOf (zp zl3 (zg 6) (zg 4))) (tOf (zp yL (zv 2 wW (zb (zg 2) (zb (zg 5) zt))) (eC (.bl true)))))) (yR (eC (.bl false))) zV)
  (yn (wz Y5 (zb (eC (.int 9)) zt) (yW 7) zaF)
  (yn (wS false 9 (zp xh (zv 2 zy (zb (zg 1) (zb (eC (.int 40)) zt))) (zp yQ (eFn Yi (zb (zg 4) zt)) (eC (.int 1)))))
  (yn (wS false 10 (zp ixD (x8 (y6 (zb (xV (zb (eC (.int 0)) (zb (eC (.int 0)) zt))) (zb (xV (zb (eC (.int 0)) (zb (zp ixD (zg 2) (eC (.int 0))) zt))) (zb (x8 (y6 (zb (eC (.int 0)) (zb (eC (.int 1)) zt)))) (zb (xV (zb (eC (.bl true)) (zb (eC (.int 0)) zt))) (zb (eC .non) (zb (eC (.str "01")) (zb (xV (zb (eC (.int 0)) (zb (eC (.int 1)) (zb (eC (.int 1)) zt)))) zt))))))))) (zp xh (zv 2 zy (zb (zg 1) (zb (eC (.int 41)) zt))) (eC (.int 7)))))
  (yn (sIf (yd (tOf (zv 2 wt (zb (zv 2 vk (zb (zg 2) (zb (zp yQ (zp yQ (eSl slD (zg 4) zY (zP (zg 9))) (x8 (y6 (zb (zg 10) zt)))) (eSl slD (zg 4) (zP (zg 9)) zY)) zt))) (zb (zg 9) zt))))) (yR (eC (.bl false))) zV)
  (sIf (tOf (zp neD (zv 2 vk (zb (zg 2) (zb (zp ixD (x8 (y6 (zb (eFn yI (zb (zg 4) zt)) (zb (eC .non) (zb (eC (.dct false false [] [])) zt))))) (zp xh (zg 1) (eC (.int 3)))) zt))) (eUn VB (eC (.int 1))))) (yR (eC (.bl false))) zV)))))))))))
def zgp:SE->Ctl :=
 (yn (ZK (iOf (zp yQ (eSl slD (zg 0) zY (zP (eC (.int 8)))) (x8 (y6 (zb (eC (.int 0)) (zb (eC (.int 7)) (zb (eC (.int 14)) zt))))))) (yW 1) WB)
  (yR (eC (.bl true))))
def zk3:List D->Option D:=fnD 11 zgp
theorem zid (s:D)(z:Int)(o2 o3 o4 o5 o6 o7 o8 o9 o10:Sl)(n b:SE->Prop)(r:D->Prop)(I:SE->Prop)(hI:∀ o2 o3 o4 o5 o6 o7 o8 o9 o10,I [.v s,.v (.int z),o2,o3,o4,o5,o6,o7,o8,o9,o10]):(WB [.v s,.v (.int z),o2,o3,o4,o5,o6,o7,o8,o9,o10]).w I b n r:=by
 obtain⟨q,hq⟩:∃ q:Int,z / 64 % 7=q:=⟨_,rfl⟩
 obtain⟨q0,q1⟩:=xO (by decide) hq
 obtain⟨m,hm⟩:∃ m:Int,2+q=m:=⟨_,rfl⟩
 obtain⟨ts,ew,ok,has⟩:=VH (n:=m) (c:=z / 448) (by omega) (by omega)
 have h28:=zjS ok
 have hE:0 < (Zy ts).length:=by
  obtain⟨t,ht,-⟩:=has 1 (by decide) (by omega)
  refine List.length_pos_of_mem (a:=t) ((wV _).mem_iff.mpr (u0O _ ht))
 have hEl:=zet ok
 have hsrt:=zeQ ok
 unfold WB
 refine zI (ρ':=[.v s,.v (.int z),.v (zD m ts),o3,o4,o5,o6,o7,o8,o9,o10]) (V6 (ds:=[.int m,.int (z / 448)]) (zu (zB (x:=.int 2) (y:=.int q) rfl (zB (x:=.int (z / 64)) (y:=.int 7) (zB (x:=.int z) (y:=.int 64) rfl rfl (Z0 (by decide) (by decide))) rfl (by rw[yA (by decide),hq])) (by rw[zQ,hm])) (zu (zB (x:=.int z) (y:=.int 448) rfl rfl (Z0 (by decide) (by decide))) yS)) ew) ?_
 refine zI (ρ':=[.v s,.v (.int z),.v (zD m ts),.v (.lst ((Zy ts).map zc)),o4,o5,o6,o7,o8,o9,o10]) (ZM (zgl ok h28 rfl)) ?_
 obtain⟨E,hEE⟩:∃ E,Zy ts=E:=⟨_,rfl⟩
 have hin:∀ x∈E,wT x.1 x.2∈ts:=λx hx=>ze6 ok (by rw[hEE];exact hx)
 rw[hEE]at hE hEl hsrt ⊢
 obtain⟨S,eS,hS20,hSE⟩:=zgy (E:=E) (z:=z) (ρ:=visF [.v s,.v (.int z),.v (zD m ts),.v (.lst (E.map zc)),o4,o5,o6,o7,o8,o9,o10]) hE rfl rfl
 have hS:∀ x∈S,wT x.1 x.2∈ts:=λx hx=>hin x (hSE x hx)
 refine zI (ρ':=[.v s,.v (.int z),.v (zD m ts),.v (.lst (E.map zc)),.v (.lst (S.map zc)),o5,o6,o7,o8,o9,o10]) (ZM eS) ?_
 refine zI (ρ':=[.v s,.v (.int z),.v (zD m ts),.v (.lst (E.map zc)),.v (.lst (S.map zc)),.v (.tup ((Vm (wb S)).map trD)),o6,o7,o8,o9,o10]) (ZM (zki (by omega) rfl rfl hsrt hSE)) ?_
 refine zI (ρ':=[.v s,.v (.int z),.v (zD m ts),.v (.lst (E.map zc)),.v (.lst (S.map zc)),.v (.tup ((Vm (wb S)).map trD)),.v (.lst (S.map zc)),o7,o8,o9,o10]) rfl ?_
 have c:=WG S
 have e1:=zaY ok h28 hS (by omega)
 have hk:(wb S).length<=20:=by
  have:=c.nd.length_le_of_subset c.sub
  rw[u7]at this
  omega
 have hpos:∀ e∈wb S,e.2<=300:=λe he=>by
  have h0:=c.nn e.1
  unfold tv at h0
  rw[Vb c.nd he]at h0
  have h0:0<=e.2/\e.2<=S.length:=h0
  omega
 have hT:zib ts (Vm (wb S)):=zkS c.nd (λe he=>⟨hS _ (c.sub _ (u1m he)),hpos e he⟩) (by omega)
 have hrl:(Vm (wb S)).length<=20:=i4 (zbu _) hk
 generalize Vm (wb S)=rs at *
 have e2:=Ys ok (Vu ok hT)
 refine zI (Wa (xz (xt (b:=true) (wm (zL (ds:=[.tup (rs.map trD),.tup (rs.map trD)]) (zu (zL (ds:=[zD m ts,.lst (S.map zc)]) rfl e1) (zu rfl yS)) (zfF (zi3 rs))))) (xz (wm (zB (x:=.lst (S.map zc)) (y:=.lst (S.map zc)) rfl rfl (zhb (zbb S)))) (wm (zB (x:=.bl true) (y:=.bl true) (zL (ds:=[zD m ts,.tup (rs.map trD)]) rfl e2) rfl rfl))))) ?_
 refine zR (zfs (lo:=0) (c:=9) (λ_ ρ=>∃ o7 o8:Sl,ρ=[.v s,.v (.int z),.v (zD m ts),.v (.lst (E.map zc)),.v (.lst (S.map zc)),.v (.tup (rs.map trD)),.v (.lst (S.map zc)),o7,o8,o9,o10]) (show Y5 [.int 9]=some (ZW 0 9)from Zv (by decide) (by decide)) ⟨_,_,rfl⟩ ?_ ?_)
 .rintro i ρ hi ⟨o7,o8,rfl⟩
  obtain⟨x,hx⟩:∃ x:Int,(0:Int)+(i:Int)=x:=⟨_,rfl⟩
  rw[hx]
  refine⟨[.v s,.v (.int z),.v (zD m ts),.v (.lst (E.map zc)),.v (.lst (S.map zc)),.v (.tup (rs.map trD)),.v (.lst (S.map zc)),.v (.int x),o8,o9,o10],rfl,?_⟩
  unfold zaF
  obtain⟨d,f1,f2⟩:=VI (m:=m) (ts:=ts) (c:=z+7919*x) hrl
  refine zI (ρ':=[.v s,.v (.int z),.v (zD m ts),.v (.lst (E.map zc)),.v (.lst (S.map zc)),.v (.tup (rs.map trD)),.v (.lst (S.map zc)),.v (.int x),.v d,o9,o10]) (V6 (ds:=[zD m ts,.tup (rs.map trD),.int (z+7919*x)]) (zu rfl (zu rfl (zu (zB (x:=.int z) (y:=.int (7919*x)) rfl (zB (x:=.int 7919) (y:=.int x) rfl rfl (Zs (Vf (by decide) (by decide)))) zQ) yS))) f1) ?_
  obtain⟨b1,g1,g2⟩:=zjt ok f2
  exact vC (Wa (xt (b:=true) (wm (zL (ds:=[.bl b1,.bl b1]) (zu (zL (ds:=[zD m ts,d]) rfl g1) (zu (zL (ds:=[zD m ts,d]) rfl g2) yS)) (zfF rfl))))) ⟨_,_,rfl⟩
 rintro ρ ⟨o7,o8,rfl⟩
 obtain⟨a,ha⟩:∃ a:Int,ZJ z 40 % ((S.length:Int)+1)=a:=⟨_,rfl⟩
 obtain⟨a0,a1⟩:=xO (by omega) ha
 have eln:∀ o9 o10:Sl,zp yQ (eFn Yi (zb (zg 4) zt)) (eC (.int 1)) (visF [.v s,.v (.int z),.v (zD m ts),.v (.lst (E.map zc)),.v (.lst (S.map zc)),.v (.tup (rs.map trD)),.v (.lst (S.map zc)),o7,o8,o9,o10])=some (.int ((S.length:Int)+1)):=λ_ _=>by
  refine zB (x:=.int (S.length:Int)) (y:=.int 1) (zfe (ds:=[.lst (S.map zc)]) rfl ?_) rfl rfl
  show some (D.int ((S.map zc).length:Int))=_
  rw[u7]
 refine zI (ρ':=[.v s,.v (.int z),.v (zD m ts),.v (.lst (E.map zc)),.v (.lst (S.map zc)),.v (.tup (rs.map trD)),.v (.lst (S.map zc)),o7,o8,.v (.int a),o10]) (ZM (zB (x:=.int (ZJ z 40)) (y:=.int ((S.length:Int)+1)) rfl (eln _ _) (by rw[yA (by omega),ha]))) ?_
 obtain⟨j,hj⟩:∃ j:Int,ZJ z 41 % 7=j:=⟨_,rfl⟩
 obtain⟨j0,j1⟩:=xO (by decide) hj
 obtain⟨bd,eb,hb1,hb2⟩:=YG (bads ok) j0 (by show _ < (7:Int);exact j1)
 refine zI (ρ':=[.v s,.v (.int z),.v (zD m ts),.v (.lst (E.map zc)),.v (.lst (S.map zc)),.v (.tup (rs.map trD)),.v (.lst (S.map zc)),o7,o8,.v (.int a),.v bd]) (ZM (zB (x:=.lst [D.tup [.int 0,.int 0],.tup [.int 0,.int m],.lst [.int 0,.int 1],.tup [.bl true,.int 0],.non,.str "01",.tup [.int 0,.int 1,.int 1]]) (y:=.int j) rfl (zB (x:=.int (ZJ z 41)) (y:=.int 7) rfl rfl (by rw[yA (by decide),hj])) eb)) ?_
 obtain⟨rr,ers,hrs⟩:=zgQ (S:=S) (a:=a)
 have hTl:(S.take a.toNat).length=a.toNat:=by rw[u04];omega
 have el:zp yQ (zp yQ (eSl slD (zg 4) zY (zP (zg 9))) (x8 (y6 (zb (zg 10) zt)))) (eSl slD (zg 4) (zP (zg 9)) zY) (visG [.v s,.v (.int z),.v (zD m ts),.v (.lst (E.map zc)),.v (.lst (S.map zc)),.v (.tup (rs.map trD)),.v (.lst (S.map zc)),o7,o8,.v (.int a),.v bd])=some (.lst ((S.take a.toNat).map zc++bd::rr.map zc)):=by
  refine zB (x:=.lst ((S.take a.toNat).map zc++[bd])) (y:=.lst (rr.map zc)) (zB (x:=.lst ((S.take a.toNat).map zc)) (y:=.lst [bd]) ?_ (v0 (zaV (zu rfl yS) (by show 1<=1000;decide))) (zde (by rw[u7,hTl];show _+1<=_;omega))) ?_ ?_
  .show some (D.lst (ZL (S.map zc) none (some a)))=_
   rw[ziG a0 (by omega)]
  .show some (D.lst (ZL (S.map zc) (some a) none))=_
   rw[ers]
  .rw[zde (by rw[d9,u7,u7,hTl];show _+1+_<=_;omega),u1W]
   rfl
 have ec:=zdK (zh9 (rest:=rr.map zc) ok h28 (λx hx=>hS x (u1y hx)) (by rw[hTl];omega) hb1 hb2 (S:=S.take a.toNat))
 rw[hTl,show((a.toNat+1:Nat):Int) - 1=a by omega]at ec
 refine zI (Wa (xt (b:=true) (wm (zL (ds:=[.int a,.int a]) (zu (zL (ds:=[zD m ts,.lst ((S.take a.toNat).map zc++bd::rr.map zc)]) (zu rfl (zu el yS)) ec) (zu rfl yS)) (zfF rfl))))) ?_
 obtain⟨k,hk3⟩:∃ k:Int,z % 3=k:=⟨_,rfl⟩
 obtain⟨k0,k1⟩:=xO (by decide) hk3
 obtain⟨L,eL,hL⟩:=YG (zmL (S.map zc)) k0 (by show _ < (3:Int);exact k1)
 have ec2:=zdK (n:=0) (ziv ok hL)
 exact vC (Wa (wm (zB (x:=.int (-1)) (y:=.int (-1)) (zL (ds:=[zD m ts,L]) (zu rfl (zu (zB (x:=.lst [D.tup (S.map zc),.non,.dct false false [] []]) (y:=.int k) rfl (zB (x:=.int z) (y:=.int 3) rfl rfl (by rw[yA (by decide),hk3])) eL) yS)) ec2) rfl rfl))) (hI _ _ _ _ _ _ _ _ _)
theorem zgI (ns:List Int)(h:ns.length<=63):zk3 [.scr ns]=some (.bl true):=by
 refine ZT (ρ:=[.v (.scr ns),.no,.no,.no,.no,.no,.no,.no,.no,.no,.no]) rfl ?_
 unfold zgp
 obtain⟨xs,hxs⟩:∃ xs:List Int,(ZL ns none (some 8))++[0,7,14]=xs:=⟨_,rfl⟩
 have hl:((ZL ns none (some 8)).map D.int).length+[D.int 0,.int 7,.int 14].length<=1000:=by rw[u7];have:=W3 ns none (some 8);show _+3<=1000;omega
 refine zR (WJ (ds:=xs.map .int) (λi ρ=>∃ o1 o2 o3 o4 o5 o6 o7 o8 o9 o10,ρ=[.v (.scr ns),o1,o2,o3,o4,o5,o6,o7,o8,o9,o10]) ?_ ⟨_,_,_,_,_,_,_,_,_,_,rfl⟩ ?_ ?_)
 .refine zco (d:=.lst (xs.map .int)) (zB (x:=.lst ((ZL ns none (some 8)).map D.int)) (y:=.lst [.int 0,.int 7,.int 14]) rfl rfl ?_) rfl
  rw[zde hl,<- hxs,p6]
  rfl
 .rintro i d ρ hd ⟨o1,o2,o3,o4,o5,o6,o7,o8,o9,o10,rfl⟩
  rw[d6]at hd
  obtain⟨z,hz,rfl⟩:=u9.mp hd
  exact⟨_,rfl,zid _ _ _ _ _ _ _ _ _ _ _ _ _ _ _ λ_ _ _ _ _ _ _ _ _=>⟨_,_,_,_,_,_,_,_,_,_,rfl⟩⟩
 .rintro ρ ⟨o1,o2,o3,o4,o5,o6,o7,o8,o9,o10,rfl⟩
  exact wK rfl rfl
theorem zkw (T:Txt K mg ad):xC P w K mg base CX0 20 ad.f_law ad.e_law ["script"] (zfP K):=by
 letI:KK:=⟨K⟩
 have G_is_tally:=zaN (P:=P) (w:=w) (base:=base) T
 have G_tally_of:=Xz (P:=P) (w:=w) (base:=base) T
 have X_tally_of:=ZE (P:=P) (w:=w) (base:=base) T
 have G__law_stir:=wH (P:=P) (w:=w) (base:=base) T
 have G__law_joined_by:=Zw (P:=P) (w:=w) (base:=base) T
 have G__law_same:=VN (P:=P) (w:=w) (base:=base) T
 have G__law_good:=zap (P:=P) (w:=w) (base:=base) T
 have G__law_otherwise:=Zt (P:=P) (w:=w) (base:=base) T
 have G__law_came:=zat (P:=P) (w:=w) (base:=base) T
 refine(zld (p:=zk3) (xQ (N:=["script","cell","web","every","steps","due","handed","turn","thing","at","bad"]) (ps:=["script"]) T.d_law.fn vU (g:=zgp) λcdv A outer s H E hr=>?_) zgI).mono (j:=10) (by decide)
 unfold zgp WB zaF
 exact(zh (Xh u01 rfl (XF (zH (zF (edv 0) zT (zK (ze zd))) (x3 (vx (za (ze zd) (za (ze zd) (za (ze zd) zf))))))) (yK (zO (i:=1) vU.nd rfl (Or.inr rfl))) (zh (yV (m:=false) (i:=2) vU.nd rfl (Or.inl rfl) (zo G__law_joined_by hr rfl T.d__law_joined_by (za (zH (ze zd) (xu (XJ (edv 1) (ze zd)) (ze zd))) (za (XJ (edv 1) (ze zd)) zf))))
  (zh (yV (m:=false) (i:=3) vU.nd rfl (Or.inr rfl) (x3 (zau rfl rfl T.z_sorted (za (zH (x3 (Xc rfl T.z_list (za (yu (edv 2) (ze zd) (λ_ _=>rfl)) zf))) (x3 (zbP (L:=["a","b"]) (M:=["script","cell","web","every","steps","due","handed","turn","thing","at","bad"]) rfl (Xi (by rfl) (by rfl) (by rfl) (by with_unfolding_all rfl) (by rfl) (by rfl) (by kernel_rfl) Yq) (XF (yu (edv 2) (ze zd) (λ_ _=>rfl))) gs2 rb2 (λ_ _ _ _=>(zh5 rfl (Vd (zO (i:=0) zkO rfl (Or.inl rfl) (.inr rfl)) (Vd (zO (i:=1) zkO rfl (Or.inl rfl) (.inr rfl)) zem)))) (λ_ _ _ _=>(yh (za (edv 1) (za (edv 0) zf))))))) zf))))
  (zh (yV (m:=false) (i:=4) vU.nd rfl (Or.inr rfl) (x3 (zbP (L:=["k"]) (M:=["script","cell","web","every","steps","due","handed","turn","thing","at","bad"]) rfl (Xi (by rfl) (by rfl) (by rfl) (by with_unfolding_all rfl) (by rfl) (by rfl) (by kernel_rfl) (all_cons rfl (all_cons rfl Yq))) (zd1 rfl T.z_range (za (xu (zo G__law_stir hr rfl T.d__law_stir (za (edv 1) (za (ze zd) zf))) (ze zd)) zf)) gs1 rb1 (λ_ _ _ _=>(zO (i:=0) zl8 rfl (Or.inl rfl) (.inr rfl))) (λ_ _ _ _=>(yu (edv 4) (xu (zo G__law_stir hr rfl T.d__law_stir (za (edv 2) (za (zH (ze zd) (edv 0)) zf))) (yi zM wy rfl T.z_len vQ (za (edv 4) zf))) (λ_ _=>rfl))))))
  (zh (yV (m:=false) (i:=5) vU.nd rfl (Or.inl rfl) (vP xq v4 rfl T.z_tuple yq (za (x3 (zfJ (L:=["step"]) (M:=["script","cell","web","every","steps","due","handed","turn","thing","at","bad"]) rfl (Xi (by rfl) (by rfl) (by rfl) (by with_unfolding_all rfl) (by rfl) (by rfl) (by kernel_rfl) (all_cons rfl Yq)) (XF (edv 3)) gs1 rb1 (λ_ _ _ _=>(zO (i:=0) zmx rfl (Or.inl rfl) (.inr rfl))) (λ_ _ _ _=>(yl (zeK hr) zdt (by with_unfolding_all rfl) (edv 0) (edv 5))) (λ_ _ _ _=>(zH (edv 0) (yh (za (zf2 (edv 5) (za (edv 0) zf) (λa b=>zaT u0L u1L PySem.F.type_list_count (zd7 hr) a b)) zf)))))) zf)))
  (zh (yV (m:=false) (i:=6) vU.nd rfl (Or.inl rfl) (x3 (Xc rfl T.z_list (za (edv 4) zf))))
  (zh (yU (zcP (Zj (yB (yj (zo G__law_same hr rfl T.d__law_same (za (zo G_tally_of hr rfl T.d_tally_of (za (edv 2) (za (edv 6) zf))) (za (edv 5) zf))))) (Zj (yl (zkt hr) zjm (zN _) (edv 6) (edv 4)) (Y0 (yl zdr zcQ (zN _) (zo G_is_tally hr rfl T.d_is_tally (za (edv 2) (za (edv 5) zf))) (xB xg)))))) (zi (zz (xB xg))) zE)
  (zh (zb7 u01 rfl rfl T.z_range (za (ze zd) zf) (yK (zO (i:=7) vU.nd rfl (Or.inl rfl))) (zh (yV (m:=false) (i:=8) vU.nd rfl (Or.inl rfl) (zo G__law_otherwise hr rfl T.d__law_otherwise (za (edv 2) (za (edv 5) (za (zH (edv 1) (Wc (ze zd) (edv 7))) zf)))))
  (zi (yU (yB (yj (zo G__law_same hr rfl T.d__law_same (za (zo G_is_tally hr rfl T.d_is_tally (za (edv 2) (za (edv 8) zf))) (za (zo G__law_good hr rfl T.d__law_good (za (edv 2) (za (edv 8) zf))) zf))))) (zi (zz (xB xg))) zE))))
  (zh (yV (m:=false) (i:=9) vU.nd rfl (Or.inl rfl) (xu (zo G__law_stir hr rfl T.d__law_stir (za (edv 1) (za (ze zd) zf))) (zH (yi zM wy rfl T.z_len vQ (za (edv 4) zf)) (ze zd))))
  (zh (yV (m:=false) (i:=10) vU.nd rfl (Or.inl rfl) (yu (x3 (vx (za (yh (za (ze zd) (za (ze zd) zf))) (za (yh (za (ze zd) (za (yu (edv 2) (ze zd) (λ_ _=>rfl)) zf))) (za (x3 (vx (za (ze zd) (za (ze zd) zf)))) (za (yh (za (xB xg) (za (ze zd) zf))) (za (XD Xo) (za (zhN zhU) (za (yh (za (ze zd) (za (ze zd) (za (ze zd) zf)))) zf))))))))) (xu (zo G__law_stir hr rfl T.d__law_stir (za (edv 1) (za (ze zd) zf))) (ze zd)) (λ_ _=>rfl)))
  (zh (yU (yB (yj (zo G__law_same hr rfl T.d__law_same (za (zo G__law_came hr rfl T.d__law_came (za (edv 2) (za (zH (zH (zF (edv 4) zT (zK (edv 9))) (x3 (vx (za (edv 10) zf)))) (zF (edv 4) (zK (edv 9)) zT)) zf))) (za (edv 9) zf))))) (zi (zz (xB xg))) zE)
  (zi (yU (yl XI Yk (zN _) (zo G__law_came hr rfl T.d__law_came (za (edv 2) (za (yu (x3 (vx (za (vP xq v4 rfl T.z_tuple yq (za (edv 4) zf)) (za (XD Xo) (za zjr zf))))) (xu (edv 1) (ze zd)) (λ_ _=>rfl)) zf))) (zhJ (ze zd))) (zi (zz (xB xg))) zE)))))))))))))
  (zi (zz (xB xg))))
end
theorem zmm {us:List Value}(h:us.length=1):∃ x0,us=[x0]:=by
 cases us with
 | nil=>cases h
 | cons x0 us =>
  cases us with
  | nil=>exact⟨x0,rfl⟩
  | cons _ _=>cases h
theorem zkC {us:List Value}(h:us.length=2):∃ x0 x1,us=[x0,x1]:=by
 cases us with
 | nil=>cases h
 | cons x0 us =>
  cases us with
  | nil=>cases h
  | cons x1 us =>
   cases us with
   | nil=>exact⟨x0,x1,rfl⟩
   | cons _ _=>cases h
theorem zmy {us:List Value}(h:us.length=3):∃ x0 x1 x2,us=[x0,x1,x2]:=by
 cases us with
 | nil=>cases h
 | cons x0 us =>
  cases us with
  | nil=>cases h
  | cons x1 us =>
   cases us with
   | nil=>cases h
   | cons x2 us =>
    cases us with
    | nil=>exact⟨x0,x1,x2,rfl⟩
    | cons _ _=>cases h
abbrev Lk (x:Str)(st:Stmt)(oc:Value)(od:Option Addr)(kV dc pm:Value)(an:Option Addr)(cd ct:Value)(sl:Array (Option Value)):Option Obj:=some ⟨oc,od,.func (W.fnOf x x (vS st) (xL st) (zk st) .none kV dc pm an cd ct),sl⟩
theorem mkD {K:W.Frag}{h:Heap}{mg:Str->Option Value}{x:Str}{st:Stmt}{ps:List Str}{f:Addr}{oc kV dc pm cd ct:Value}{od an:Option Addr}{sl:Array (Option Value)}(X:K.In h)(G:h.Ns mainGlobals mg)(a:W.nsIn K mainGlobals x=some (some (.ref f)))(l:K.lookup f=Lk x st oc od kV dc pm an cd ct sl)(c:W.codeIn K cd x=true)(k:W.keepIn K (.ref f)=true)
 (b:∀ (kV doc pm:Value) (an:Option Addr) (cdv ct:Value) (us:List Value),us.length=ps.length->bindArgs (W.fnOf x x (vS st) (xL st) (zk st) .none kV doc pm an cdv ct) ⟨us,[]⟩=pure (ps.zip us)):Def K mg x st ps f (W.fnOf x x (vS st) (xL st) (zk st) .none kV dc pm an cd ct):=⟨zdZ l c k,(zdZ l c k).binds b,u0n X G a⟩
theorem bn1 {F:Value->Value->Value->Option Addr->Value->Value->List Value->Prop}(h:∀ a b c d e f x0,F a b c d e f [x0]):∀ a b c d e f us,us.length=1->F a b c d e f us:=λa b c d e f us hl=>by obtain⟨x0,rfl⟩:=zmm hl;exact h a b c d e f x0
theorem bn2 {F:Value->Value->Value->Option Addr->Value->Value->List Value->Prop}(h:∀ a b c d e f x0 x1,F a b c d e f [x0,x1]):∀ a b c d e f us,us.length=2->F a b c d e f us:=λa b c d e f us hl=>by obtain⟨x0,x1,rfl⟩:=zkC hl;exact h a b c d e f x0 x1
theorem bn3 {F:Value->Value->Value->Option Addr->Value->Value->List Value->Prop}(h:∀ a b c d e f x0 x1 x2,F a b c d e f [x0,x1,x2]):∀ a b c d e f us,us.length=3->F a b c d e f us:=λa b c d e f us hl=>by obtain⟨x0,x1,x2,rfl⟩:=zmy hl;exact h a b c d e f x0 x1 x2
theorem all_mk {l:W.OpenLaw} {w:World} {K:W.Frag} {h:Heap} {mg:Str->Option Value} {fa f0 f1 f2 f3 f4 f5 f6 f7 f8 f9 f10 f11 f12 f13 f14 f15 f16 f17 f18 f19 f20 f21 f22 f23 f24 f25 f26:Addr} (X:K.In h) (G:h.Ns mainGlobals mg) (hfa:mg "law"=some (.ref fa))
 {od0 an0 od1 an1 od2 an2 od3 an3 od4 an4 od5 an5 od6 an6 od7 an7 od8 an8 od9 an9 od10 an10 od11 an11 od12 an12 od13 an13 od14 an14 od15 an15 od16 an16 od17 an17 od18 an18 od19 an19 od20 an20 od21 an21 od22 an22 od23 an23 od24 an24 od25 an25 od26 an26:Option Addr} {sl0 sl1 sl2 sl3 sl4 sl5 sl6 sl7 sl8 sl9 sl10 sl11 sl12 sl13 sl14 sl15 sl16 sl17 sl18 sl19 sl20 sl21 sl22 sl23 sl24 sl25 sl26:Array (Option Value)} {oc0 kV0 dc0 pm0 ct0 cd0 oc1 kV1 dc1 pm1 ct1 cd1 oc2 kV2 dc2 pm2 ct2 cd2 oc3 kV3 dc3 pm3 ct3 cd3 oc4 kV4 dc4 pm4 ct4 cd4 oc5 kV5 dc5 pm5 ct5 cd5 oc6 kV6 dc6 pm6 ct6 cd6 oc7 kV7 dc7 pm7 ct7 cd7 oc8 kV8 dc8 pm8 ct8 cd8 oc9 kV9 dc9 pm9 ct9 cd9 oc10 kV10 dc10 pm10 ct10 cd10 oc11 kV11 dc11 pm11 ct11 cd11 oc12 kV12 dc12 pm12 ct12 cd12 oc13 kV13 dc13 pm13 ct13 cd13 oc14 kV14 dc14 pm14 ct14 cd14 oc15 kV15 dc15 pm15 ct15 cd15 oc16 kV16 dc16 pm16 ct16 cd16 oc17 kV17 dc17 pm17 ct17 cd17 oc18 kV18 dc18 pm18 ct18 cd18 oc19 kV19 dc19 pm19 ct19 cd19 oc20 kV20 dc20 pm20 ct20 cd20 oc21 kV21 dc21 pm21 ct21 cd21 oc22 kV22 dc22 pm22 ct22 cd22 oc23 kV23 dc23 pm23 ct23 cd23 oc24 kV24 dc24 pm24 ct24 cd24 oc25 kV25 dc25 pm25 ct25 cd25 oc26 kV26 dc26 pm26 ct26 cd26:Value} {tk0:Tok} {tk1:Tok}
 (a0:W.nsIn K mainGlobals "is_whole"=some (some (.ref f0))) (l0:K.lookup f0=Lk "is_whole" Yz oc0 od0 kV0 dc0 pm0 an0 cd0 ct0 sl0) (c0:W.codeIn K cd0 "is_whole"=true) (k0:W.keepIn K (.ref f0)=true)
 (a1:W.nsIn K mainGlobals "is_whole_within"=some (some (.ref f1))) (l1:K.lookup f1=Lk "is_whole_within" xx oc1 od1 kV1 dc1 pm1 an1 cd1 ct1 sl1) (c1:W.codeIn K cd1 "is_whole_within"=true) (k1:W.keepIn K (.ref f1)=true)
 (a2:W.nsIn K mainGlobals "is_place_count"=some (some (.ref f2))) (l2:K.lookup f2=Lk "is_place_count" xE oc2 od2 kV2 dc2 pm2 an2 cd2 ct2 sl2) (c2:W.codeIn K cd2 "is_place_count"=true) (k2:W.keepIn K (.ref f2)=true)
 (a3:W.nsIn K mainGlobals "is_place"=some (some (.ref f3))) (l3:K.lookup f3=Lk "is_place" Yx oc3 od3 kV3 dc3 pm3 an3 cd3 ct3 sl3) (c3:W.codeIn K cd3 "is_place"=true) (k3:W.keepIn K (.ref f3)=true)
 (a4:W.nsIn K mainGlobals "is_pair"=some (some (.ref f4))) (l4:K.lookup f4=Lk "is_pair" Zd oc4 od4 kV4 dc4 pm4 an4 cd4 ct4 sl4) (c4:W.codeIn K cd4 "is_pair"=true) (k4:W.keepIn K (.ref f4)=true)
 (a5:W.nsIn K mainGlobals "are_ties"=some (some (.ref f5))) (l5:K.lookup f5=Lk "are_ties" YA oc5 od5 kV5 dc5 pm5 an5 cd5 ct5 sl5) (c5:W.codeIn K cd5 "are_ties"=true) (k5:W.keepIn K (.ref f5)=true)
 (a6:W.nsIn K mainGlobals "is_web"=some (some (.ref f6))) (l6:K.lookup f6=Lk "is_web" Xj oc6 od6 kV6 dc6 pm6 an6 cd6 ct6 sl6) (c6:W.codeIn K cd6 "is_web"=true) (k6:W.keepIn K (.ref f6)=true)
 (a7:W.nsIn K mainGlobals "must_be_web"=some (some (.ref f7))) (l7:K.lookup f7=Lk "must_be_web" wP oc7 od7 kV7 dc7 pm7 an7 cd7 ct7 sl7) (c7:W.codeIn K cd7 "must_be_web"=true) (k7:W.keepIn K (.ref f7)=true)
 (a8:W.nsIn K mainGlobals "tie_between"=some (some (.ref f8))) (l8:K.lookup f8=Lk "tie_between" wR oc8 od8 kV8 dc8 pm8 an8 cd8 ct8 sl8) (c8:W.codeIn K cd8 "tie_between"=true) (k8:W.keepIn K (.ref f8)=true)
 (a9:W.nsIn K mainGlobals "is_step"=some (some (.ref f9))) (l9:K.lookup f9=Lk "is_step" Zh oc9 od9 kV9 dc9 pm9 an9 cd9 ct9 sl9) (c9:W.codeIn K cd9 "is_step"=true) (k9:W.keepIn K (.ref f9)=true)
 (a10:W.nsIn K mainGlobals "is_tally_row"=some (some (.ref f10))) (l10:K.lookup f10=Lk "is_tally_row" wA oc10 od10 kV10 dc10 pm10 an10 cd10 ct10 sl10) (c10:W.codeIn K cd10 "is_tally_row"=true) (k10:W.keepIn K (.ref f10)=true)
 (a11:W.nsIn K mainGlobals "are_tally_rows"=some (some (.ref f11))) (l11:K.lookup f11=Lk "are_tally_rows" xI oc11 od11 kV11 dc11 pm11 an11 cd11 ct11 sl11) (c11:W.codeIn K cd11 "are_tally_rows"=true) (k11:W.keepIn K (.ref f11)=true)
 (a12:W.nsIn K mainGlobals "is_tally"=some (some (.ref f12))) (l12:K.lookup f12=Lk "is_tally" Yo oc12 od12 kV12 dc12 pm12 an12 cd12 ct12 sl12) (c12:W.codeIn K cd12 "is_tally"=true) (k12:W.keepIn K (.ref f12)=true)
 (a13:W.nsIn K mainGlobals "tally_from"=some (some (.ref f13))) (l13:K.lookup f13=Lk "tally_from" vq oc13 od13 kV13 dc13 pm13 an13 cd13 ct13 sl13) (c13:W.codeIn K cd13 "tally_from"=true) (k13:W.keepIn K (.ref f13)=true)
 (a14:W.nsIn K mainGlobals "tally_of"=some (some (.ref f14))) (l14:K.lookup f14=Lk "tally_of" Yy oc14 od14 kV14 dc14 pm14 an14 cd14 ct14 sl14) (c14:W.codeIn K cd14 "tally_of"=true) (k14:W.keepIn K (.ref f14)=true)
 (a15:W.nsIn K mainGlobals "_law_whole"=some (some (.ref f15))) (l15:K.lookup f15=Lk "_law_whole" vw oc15 od15 kV15 dc15 pm15 an15 cd15 ct15 sl15) (c15:W.codeIn K cd15 "_law_whole"=true) (k15:W.keepIn K (.ref f15)=true)
 (a16:W.nsIn K mainGlobals "_law_is_step"=some (some (.ref f16))) (l16:K.lookup f16=Lk "_law_is_step" wo oc16 od16 kV16 dc16 pm16 an16 cd16 ct16 sl16) (c16:W.codeIn K cd16 "_law_is_step"=true) (k16:W.keepIn K (.ref f16)=true)
 (a17:W.nsIn K mainGlobals "_law_stir"=some (some (.ref f17))) (l17:K.lookup f17=Lk "_law_stir" vV oc17 od17 kV17 dc17 pm17 an17 cd17 ct17 sl17) (c17:W.codeIn K cd17 "_law_stir"=true) (k17:W.keepIn K (.ref f17)=true)
 (a18:W.nsIn K mainGlobals "_law_kinds"=some (some (.ref f18))) (l18:K.lookup f18=Lk "_law_kinds" vo oc18 od18 kV18 dc18 pm18 an18 cd18 ct18 sl18) (c18:W.codeIn K cd18 "_law_kinds"=true) (k18:W.keepIn K (.ref f18)=true)
 (a19:W.nsIn K mainGlobals "_law_pairs"=some (some (.ref f19))) (l19:K.lookup f19=Lk "_law_pairs" vn oc19 od19 kV19 dc19 pm19 an19 cd19 ct19 sl19) (c19:W.codeIn K cd19 "_law_pairs"=true) (k19:W.keepIn K (.ref f19)=true)
 (a20:W.nsIn K mainGlobals "_law_web_by"=some (some (.ref f20))) (l20:K.lookup f20=Lk "_law_web_by" wN oc20 od20 kV20 dc20 pm20 an20 cd20 ct20 sl20) (c20:W.codeIn K cd20 "_law_web_by"=true) (k20:W.keepIn K (.ref f20)=true)
 (a21:W.nsIn K mainGlobals "_law_joined_by"=some (some (.ref f21))) (l21:K.lookup f21=Lk "_law_joined_by" xJ oc21 od21 kV21 dc21 pm21 an21 cd21 ct21 sl21) (c21:W.codeIn K cd21 "_law_joined_by"=true) (k21:W.keepIn K (.ref f21)=true)
 (a22:W.nsIn K mainGlobals "_law_same"=some (some (.ref f22))) (l22:K.lookup f22=Lk "_law_same" vR oc22 od22 kV22 dc22 pm22 an22 cd22 ct22 sl22) (c22:W.codeIn K cd22 "_law_same"=true) (k22:W.keepIn K (.ref f22)=true)
 (a23:W.nsIn K mainGlobals "_law_good"=some (some (.ref f23))) (l23:K.lookup f23=Lk "_law_good" vW oc23 od23 kV23 dc23 pm23 an23 cd23 ct23 sl23) (c23:W.codeIn K cd23 "_law_good"=true) (k23:W.keepIn K (.ref f23)=true)
 (a24:W.nsIn K mainGlobals "_law_otherwise"=some (some (.ref f24))) (l24:K.lookup f24=Lk "_law_otherwise" xF oc24 od24 kV24 dc24 pm24 an24 cd24 ct24 sl24) (c24:W.codeIn K cd24 "_law_otherwise"=true) (k24:W.keepIn K (.ref f24)=true)
 (a25:W.nsIn K mainGlobals "_law_came"=some (some (.ref f25))) (l25:K.lookup f25=Lk "_law_came" vF oc25 od25 kV25 dc25 pm25 an25 cd25 ct25 sl25) (c25:W.codeIn K cd25 "_law_came"=true) (k25:W.keepIn K (.ref f25)=true)
 (a26:W.nsIn K mainGlobals "law"=some (some (.ref f26))) (l26:K.lookup f26=Lk "law" zeJ oc26 od26 kV26 dc26 pm26 an26 cd26 ct26 sl26) (c26:W.codeIn K cd26 "law"=true) (k26:W.keepIn K (.ref f26)=true)
 (gg0:W.nsIn K mainGlobals "MOST_PLACES"=some (some (.int 8 tk0)))
 (gg1:W.nsIn K mainGlobals "MOST_TIMES"=some (some (.int 300 tk1)))
 {xx0 xx1 xx2 xx3 xx4 xx5 xx6 xx7 xx8 xx9 xx10 xx11 xx12 xx13:Addr}
 (xa0:W.nsIn K mainGlobals "NoWeb"=some (some (.ref xx0)))
 (xa1:W.nsIn K mainGlobals "NoKind"=some (some (.ref xx1)))
 (xa2:W.nsIn K mainGlobals "NoHeap"=some (some (.ref xx2)))
 (xa3:W.nsIn K mainGlobals "NoPlace"=some (some (.ref xx3)))
 (xa4:W.nsIn K mainGlobals "NoNumber"=some (some (.ref xx4)))
 (xa5:W.nsIn K mainGlobals "NoTally"=some (some (.ref xx5)))
 (xa6:W.nsIn K mainGlobals "NotTree"=some (some (.ref xx6)))
 (xa7:W.nsIn K mainGlobals "NotJoined"=some (some (.ref xx7)))
 (xa8:W.nsIn K mainGlobals "NoWeights"=some (some (.ref xx8)))
 (xa9:W.nsIn K mainGlobals "NoRow"=some (some (.ref xx9)))
 (xa10:W.nsIn K mainGlobals "NoSteps"=some (some (.ref xx10)))
 (xa11:W.nsIn K mainGlobals "NoText"=some (some (.ref xx11)))
 (xa12:W.nsIn K mainGlobals "TooGreat"=some (some (.ref xx12)))
 (xa13:W.nsIn K mainGlobals "StoneError"=some (some (.ref xx13)))
 (xc10:zb6 K [xx0,xx1,xx2,xx3,xx4,xx5,xx6,xx7,xx8,xx9,xx10,xx11,xx12] xx13 xx10 10=true)
 {yi10:Addr} {yod10 yan10:Option Addr} {ysl10:Array (Option Value)} {yoc10 ykV10 ydc10 ypm10 ycd10 yct10:Value}
 (ya10:W.findIn K (.ref xx10) "__init__"=some (some (.ref yi10))) (yl10:K.lookup yi10=some ⟨yoc10,yod10,.func (W.fnOf "__init__" "NoSteps.__init__" (vS wn) (xL wn) (zk wn) .none ykV10 ydc10 ypm10 yan10 ycd10 yct10),ysl10⟩) (yc10:W.codeIn K ycd10 "NoSteps.__init__"=true) (yk10:W.keepIn K (.ref yi10)=true)
 (ye10:zj6 K xx10 yi10=true) (yf10:VQ K xx10=true) (yg10:zma K xx10 ["at"]=true)
 (z0:W.nsIn K mainGlobals "ValueError"=some none)
 (z1:W.nsIn K mainGlobals "all"=some none)
 (z2:W.nsIn K mainGlobals "bool"=some none)
 (z3:W.nsIn K mainGlobals "enumerate"=some none)
 (z4:W.nsIn K mainGlobals "int"=some none)
 (z5:W.nsIn K mainGlobals "isinstance"=some none)
 (z6:W.nsIn K mainGlobals "len"=some none)
 (z7:W.nsIn K mainGlobals "list"=some none)
 (z8:W.nsIn K mainGlobals "max"=some none)
 (z9:W.nsIn K mainGlobals "min"=some none)
 (z10:W.nsIn K mainGlobals "range"=some none)
 (z11:W.nsIn K mainGlobals "set"=some none)
 (z12:W.nsIn K mainGlobals "sorted"=some none)
 (z13:W.nsIn K mainGlobals "str"=some none)
 (z14:W.nsIn K mainGlobals "tuple"=some none)
 (z15:W.nsIn K mainGlobals "zip"=some none)
 : ∃ fd:FuncData,(∀ (s:Shared) (v:Value),BindsTo s fd ⟨[v],[]⟩ [("script",v)])/\∀ base:Heap,K.In base->base.Ns mainGlobals mg->xC l.prog w K mg base CX0 20 fa fd ["script"] (zfP K):=by
 have e:=hfa.symm.trans (u0n X G a26)
 cases e
 have FY10:=zdZ (st:=wn) yl10 yc10 yk10
 have T:Txt K mg ⟨_,_,_,_,_,_,_,_,_,_,_,_,_,_,_,_,_,_,_,_,_,_,_,_,_,_,_,_,_,_,_,_,_,_,_,_,_,_,_,_,_,_,_,_,_,_,_,_,_,_,_,_,_,_,tk0,tk1,xx0,xx1,xx2,xx3,xx4,xx5,xx6,xx7,xx8,xx9,xx10,xx11,xx12,xx13,_,_⟩:=⟨
  mkD X G a0 l0 c0 k0 (bn1 λ_ _ _ _ _ _ _=>rfl),
  mkD X G a1 l1 c1 k1 (bn3 λ_ _ _ _ _ _ _ _ _=>rfl),
  mkD X G a2 l2 c2 k2 (bn1 λ_ _ _ _ _ _ _=>rfl),
  mkD X G a3 l3 c3 k3 (bn2 λ_ _ _ _ _ _ _ _=>rfl),
  mkD X G a4 l4 c4 k4 (bn2 λ_ _ _ _ _ _ _ _=>rfl),
  mkD X G a5 l5 c5 k5 (bn2 λ_ _ _ _ _ _ _ _=>rfl),
  mkD X G a6 l6 c6 k6 (bn1 λ_ _ _ _ _ _ _=>rfl),
  mkD X G a7 l7 c7 k7 (bn1 λ_ _ _ _ _ _ _=>rfl),
  mkD X G a8 l8 c8 k8 (bn2 λ_ _ _ _ _ _ _ _=>rfl),
  mkD X G a9 l9 c9 k9 (bn2 λ_ _ _ _ _ _ _ _=>rfl),
  mkD X G a10 l10 c10 k10 (bn2 λ_ _ _ _ _ _ _ _=>rfl),
  mkD X G a11 l11 c11 k11 (bn2 λ_ _ _ _ _ _ _ _=>rfl),
  mkD X G a12 l12 c12 k12 (bn2 λ_ _ _ _ _ _ _ _=>rfl),
  mkD X G a13 l13 c13 k13 (bn1 λ_ _ _ _ _ _ _=>rfl),
  mkD X G a14 l14 c14 k14 (bn2 λ_ _ _ _ _ _ _ _=>rfl),
  mkD X G a15 l15 c15 k15 (bn1 λ_ _ _ _ _ _ _=>rfl),
  mkD X G a16 l16 c16 k16 (bn2 λ_ _ _ _ _ _ _ _=>rfl),
  mkD X G a17 l17 c17 k17 (bn2 λ_ _ _ _ _ _ _ _=>rfl),
  mkD X G a18 l18 c18 k18 (bn1 λ_ _ _ _ _ _ _=>rfl),
  mkD X G a19 l19 c19 k19 (bn1 λ_ _ _ _ _ _ _=>rfl),
  mkD X G a20 l20 c20 k20 (bn2 λ_ _ _ _ _ _ _ _=>rfl),
  mkD X G a21 l21 c21 k21 (bn2 λ_ _ _ _ _ _ _ _=>rfl),
  mkD X G a22 l22 c22 k22 (bn2 λ_ _ _ _ _ _ _ _=>rfl),
  mkD X G a23 l23 c23 k23 (bn2 λ_ _ _ _ _ _ _ _=>rfl),
  mkD X G a24 l24 c24 k24 (bn3 λ_ _ _ _ _ _ _ _ _=>rfl),
  mkD X G a25 l25 c25 k25 (bn2 λ_ _ _ _ _ _ _ _=>rfl),
  mkD X G a26 l26 c26 k26 (bn1 λ_ _ _ _ _ _ _=>rfl),
  u0n X G gg0,
  u0n X G gg1,
  p8 X G z0,
  p8 X G z1,
  p8 X G z2,
  p8 X G z3,
  p8 X G z4,
  p8 X G z5,
  p8 X G z6,
  p8 X G z7,
  p8 X G z8,
  p8 X G z9,
  p8 X G z10,
  p8 X G z11,
  p8 X G z12,
  p8 X G z13,
  p8 X G z14,
  p8 X G z15,
  u0n X G xa0,
  u0n X G xa1,
  u0n X G xa2,
  u0n X G xa3,
  u0n X G xa4,
  u0n X G xa5,
  u0n X G xa6,
  u0n X G xa7,
  u0n X G xa8,
  u0n X G xa9,
  u0n X G xa10,
  u0n X G xa11,
  u0n X G xa12,
  u0n X G xa13,
  xc10,
  FY10,
  FY10.binds (ps:=["self","at"]) (λ_ _ _ _ _ _ us hl=>by obtain⟨_,_,rfl⟩:=zkC hl;rfl),
  ye10,
  yf10,
  yg10⟩
 exact⟨_,λs v=>.of_eq rfl,λbase _ _=>zkw T⟩
theorem walk {l:W.OpenLaw}{q:Program}{loose:List Str}{XP:(Str->Option Value)->Heap->Prop}{YP:World->Heap->Prop}{d:DefRec}{K:Params->W.Frag}(hn:l.most=some 63)(hdf:d.params.defaults=[])
 (hY:∀ (w:World) (h:Heap),YP w h->(K w.params).In h)
 (F:∀ (w:World) (mg:Str->Option Value) (fa:Addr) (h:Heap),(K w.params).In h->h.Ns mainGlobals mg->mg d.name=some (.ref fa) ->
  ∃ fd:FuncData,(∀ (s:Shared) (u:Value),BindsTo s fd ⟨[u],[]⟩ [("script",u)])/\∀ base:Heap,(K w.params).In base->base.Ns mainGlobals mg->xC l.prog w (K w.params) mg base CX0 20 fa fd ["script"] (zfP (K w.params))) :
 PySem.W.WalkO q loose XP YP l.row.toRowW d [] (λf vs=>PySem.call f vs) :=
 L2.walk_of (n:=63) (k:=20) (x:="script") (CX:=λ_=>CX0) (sp:=λw=>zfP (K w.params)) hn (by decide) hdf ⟨rfl,by decide,by decide⟩ hY F (λ_ _ a ns hl _ hS=>⟨a,ns,rfl,hS,hl,λ_=>rfl⟩) λ_ _ _ _ _ z=>z
end Mz
open PySem PySem.W PyProof.Rows
theorem PySem.W.Fast.tw7207548432494601294:True:=⟨⟩
theorem PySem.W.Fast.tw1392175283223738875:True:=⟨⟩
theorem PySem.W.Fast.tw7491547591146780966:True:=⟨⟩
theorem PySem.W.Fast.tw10827153463639453315:True:=⟨⟩
theorem PySem.W.Fast.tw4194318266841366562:True:=⟨⟩
theorem PySem.W.Fast.tw2594376323472901217:True:=⟨⟩
theorem PySem.W.Fast.tw9735472847604177138:True:=⟨⟩
theorem PySem.W.Fast.tw2751923827517325929:True:=⟨⟩
theorem PySem.W.Fast.tw6492904440965822456:True:=⟨⟩
theorem PySem.W.Fast.tw15117980357725272986:True:=⟨⟩
theorem PySem.W.Fast.tw40316761068911936:True:=⟨⟩
theorem PySem.W.Fast.tw14754526782130367977:True:=⟨⟩
theorem PySem.W.Fast.tw16088522106969851716:True:=⟨⟩
theorem PySem.W.Fast.tw2834797511608487834:True:=⟨⟩
theorem PySem.W.Fast.tw4053138702685631310:True:=⟨⟩
theorem PySem.W.Fast.tw16320353217063437314:True:=⟨⟩
theorem PySem.W.Fast.tw13592111112006093398:True:=⟨⟩
theorem PySem.W.Fast.tw814095791385957742:True:=⟨⟩
theorem PySem.W.Fast.tw7496029764516446194:True:=⟨⟩
theorem PySem.W.Fast.tw15383867566415605395:True:=⟨⟩
theorem PySem.W.Fast.tw1953096333134948854:True:=⟨⟩
theorem PySem.W.Fast.tw13851459384446034671:True:=⟨⟩
theorem PySem.W.Fast.tw12676824910379099046:True:=⟨⟩
theorem PySem.W.Fast.tw16939492365217427825:True:=⟨⟩
theorem PySem.W.Fast.tw11562719260876964165:True:=⟨⟩
theorem PySem.W.Fast.tw5160500727506694499:True:=⟨⟩
theorem PySem.W.Fast.tw8285947919837261229:True:=⟨⟩
theorem PySem.W.Fast.tw12222229852667573888:True:=⟨⟩
theorem PySem.W.Fast.tw14415684385600480980:True:=⟨⟩
theorem PySem.W.Fast.tw13914404386161718969:True:=⟨⟩
theorem PySem.W.Fast.tw10416640381610425257:True:=⟨⟩
theorem PySem.W.Fast.tw2246015173176898653:True:=⟨⟩
theorem PySem.W.Fast.tw16576419609979681951:True:=⟨⟩
set_option maxRecDepth 100000 in
set_option maxHeartbeats 0 in
theorem PySem.Challenge.cw_twoforone_k14_tallies_looked_at_holds : PySem.Challenge.rw_twoforone_k14_tallies_looked_at.Holds := by
  w_on;o_law;k_head;(case hw=>w_witness2)
  k_fill
  refine Mz.walk (l:=PySem.Challenge.rw_twoforone_k14_tallies_looked_at) rfl rfl (fun w h Y=>PySem.W.kIn_of Y) ?F
  case F =>
    intro w mg fa h KX G hmg
    refine' Mz.all_mk KX G hmg ?a0 ?l0 ?c0 ?k0 ?a1 ?l1 ?c1 ?k1 ?a2 ?l2 ?c2 ?k2 ?a3 ?l3 ?c3 ?k3 ?a4 ?l4 ?c4 ?k4 ?a5 ?l5 ?c5 ?k5 ?a6 ?l6 ?c6 ?k6 ?a7 ?l7 ?c7 ?k7 ?a8 ?l8 ?c8 ?k8 ?a9 ?l9 ?c9 ?k9 ?a10 ?l10 ?c10 ?k10 ?a11 ?l11 ?c11 ?k11 ?a12 ?l12 ?c12 ?k12 ?a13 ?l13 ?c13 ?k13 ?a14 ?l14 ?c14 ?k14 ?a15 ?l15 ?c15 ?k15 ?a16 ?l16 ?c16 ?k16 ?a17 ?l17 ?c17 ?k17 ?a18 ?l18 ?c18 ?k18 ?a19 ?l19 ?c19 ?k19 ?a20 ?l20 ?c20 ?k20 ?a21 ?l21 ?c21 ?k21 ?a22 ?l22 ?c22 ?k22 ?a23 ?l23 ?c23 ?k23 ?a24 ?l24 ?c24 ?k24 ?a25 ?l25 ?c25 ?k25 ?a26 ?l26 ?c26 ?k26 ?gg0 ?gg1 ?xa0 ?xa1 ?xa2 ?xa3 ?xa4 ?xa5 ?xa6 ?xa7 ?xa8 ?xa9 ?xa10 ?xa11 ?xa12 ?xa13 ?xc10 ?ya10 ?yl10 ?yc10 ?yk10 ?ye10 ?yf10 ?yg10 ?z0 ?z1 ?z2 ?z3 ?z4 ?z5 ?z6 ?z7 ?z8 ?z9 ?z10 ?z11 ?z12 ?z13 ?z14 ?z15
    case a0 | l0 | c0 | k0 | a1 | l1 | c1 | k1 | a2 | l2 | c2 | k2 | a3 | l3 | c3 | k3 | a4 | l4 | c4 | k4 | a5 | l5 | c5 | k5 | a6 | l6 | c6 | k6 | a7 | l7 | c7 | k7 | a8 | l8 | c8 | k8 | a9 | l9 | c9 | k9 | a10 | l10 | c10 | k10 | a11 | l11 | c11 | k11 | a12 | l12 | c12 | k12 | a13 | l13 | c13 | k13 | a14 | l14 | c14 | k14 | a15 | l15 | c15 | k15 | a16 | l16 | c16 | k16 | a17 | l17 | c17 | k17 | a18 | l18 | c18 | k18 | a19 | l19 | c19 | k19 | a20 | l20 | c20 | k20 | a21 | l21 | c21 | k21 | a22 | l22 | c22 | k22 | a23 | l23 | c23 | k23 | a24 | l24 | c24 | k24 | a25 | l25 | c25 | k25 | a26 | l26 | c26 | k26 | gg0 | gg1 | xa0 | xa1 | xa2 | xa3 | xa4 | xa5 | xa6 | xa7 | xa8 | xa9 | xa10 | xa11 | xa12 | xa13=>k_is
    case xc10=>kernel_rfl
    case ya10 | yl10 | yc10 | yk10=>k_is
    case ye10 | yf10 | yg10=>kernel_rfl
    case z0 | z1 | z2 | z3 | z4 | z5 | z6 | z7 | z8 | z9 | z10 | z11 | z12 | z13 | z14 | z15=>k_is
