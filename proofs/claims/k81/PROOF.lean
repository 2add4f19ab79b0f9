import PyProof.Rows.All
import Wide.All
import OpenK.AllK
import Wide.FinOn
import Lean
import PyProof.EqAt
import PyProof.EqKinds
import PyProof.TupleCall
import PyProof.NeKinds
import PySem.Challenge.RW_twoforone_k81_whole_fewest_stones_spread
set_option Elab.async false
set_option linter.all false
set_option maxRecDepth 100000
set_option maxHeartbeats 4000000
def u1n:=@Array.getElem?_eq_getElem
def u1g:=@Array.getElem?_eq_some_iff
def u0t:=@Array.getElem?_toList
def j8:=@Array.length_toList
def u0X:=@Array.perm_iff_toList_perm
def u0f:=@Array.toList_append
def u1b:=@Array.toList_push
def u1p:=@Array.toList_reverse
def u2Y:=@Array.toList_setIfInBounds
def g9:=@Bool.and_eq_true
def u1H:=@Bool.and_false
def u3o:=@Bool.and_true
def u2c:=@Bool.eq_iff_iff
def u25:=@Bool.false_eq_true
def u6:=@Bool.false_ne_true
def u1Q:=@Bool.not_eq_true'
def u3J:=@Bool.or_eq_true
def u3f:=@Classical.byContradiction
def u26:=@PySem.Code.quiet_builtin
def u1h:=@PySem.F.slot_tuple_iterator_next
def u2N:=@PySem.F.slot_zip_next
def u11:=@PySem.Heap.SameBut.update
def u5:=@PySem.Heap.get?_push_of_some
def r9:=@PySem.Heap.get?_push_size
def u0E:=@PySem.Heap.get?_update_other
def u0F:=@PySem.Heap.get?_update_self
def j5:=@PySem.Heap.lt_size
def u0H:=@PySem.Heap.size_push
def u2d:=@Int.emod_lt_of_pos
def u3K:=@Int.emod_nonneg
def u20:=@Int.fdiv_eq_ediv_of_nonneg
def u1o:=@Int.le_refl
def u3p:=@Int.lt_irrefl
def u0Y:=@Int.toNat_natCast
def u1N:=@Int.zero_add
def u0q:=@PyProof.Rows.KeyOrd.kle_of_klt
def u1d:=@PyProof.Rows.KeyOrd.kle_refl
def u1Z:=@PyProof.Rows.KeyOrd.kle_trans
def u16:=@List.Perm.eq_of_pairwise
def u1I:=@List.Perm.refl
def u2F:=@List.all_cons
def u0y:=@List.all_eq_true
def u1A:=@List.all_map
def u2G:=@List.any_cons
def b9:=@List.append_assoc
def u0z:=@List.append_nil
def u3y:=@List.cons_ne_nil
def u1C:=@List.drop_append_of_le_length
def u04:=@List.drop_drop
def u0o:=@List.drop_eq_getElem_cons
def u1D:=@List.drop_length
def u0Z:=@List.drop_sublist
def u2s:=@List.drop_take
def u1V:=@List.drop_zero
def u2e:=@List.eraseIdx_append_of_length_le
def u3z:=@List.ext_getElem
def u2n:=@List.ext_getElem?
def u2O:=@List.filterMap_cons
def u1O:=@List.find?_cons
def u2P:=@List.flatMap_append
def u1q:=@List.flatten_cons
def u2f:=@List.forIn_cons
def u1W:=@List.forIn_nil
def u0l:=@List.getD_eq_getElem?_getD
def u0O:=@List.getElem?_append_left
def u0a:=@List.getElem?_append_right
def u1j:=@List.getElem?_drop
def j6:=@List.getElem?_eq_getElem
def u06:=@List.getElem?_eq_none
def t7:=@List.getElem?_eq_some_iff
def r6:=@List.getElem?_map
def u0w:=@List.getElem?_replicate
def u1r:=@List.getElem?_set
def d4:=@List.getElem?_set_ne
def i7:=@List.getElem?_set_self
def u0j:=@List.getElem?_take_of_lt
def u3g:=@List.getElem?_zip_eq_some
def u2x:=@List.getElem_map
def u1E:=@List.getElem_mem
def u00:=@List.getElem_of_mem
def r0:=@List.length_append
def u0d:=@List.length_cons
def u0p:=@List.length_drop
def u0S:=@List.length_eq_zero_iff
def u7:=@List.length_map
def u2Q:=@List.length_nil
def u1R:=@List.length_range
def u2u:=@List.length_replicate
def u3M:=@List.length_set
def p5:=@List.length_take
def i8:=@List.map_append
def u2R:=@List.map_congr_left
def i4:=@List.map_cons
def u07:=@List.map_map
def u3N:=@List.map_set
def o0:=@List.mem_append
def u2B:=@List.mem_append_left
def p8:=@List.mem_append_right
def j7:=@List.mem_cons
def p4:=@List.mem_cons_of_mem
def e9:=@List.mem_cons_self
def u1P:=@List.mem_filter
def u27:=@List.mem_filterMap
def u3A:=@List.mem_flatMap
def u0u:=@List.mem_map
def j4:=@List.mem_of_getElem?
def u0b:=@List.mem_of_mem_drop
def u0k:=@List.mem_of_mem_take
def u0I:=@List.mem_range
def u08:=@List.mem_reverse
def j9:=@List.mem_singleton
def u2S:=@List.mergeSort_perm
def u3O:=@List.nil_append
def u1e:=@List.nodup_cons
def u2t:=@List.nodup_nil
def i5:=@List.not_mem_nil
def u2T:=@List.of_mem_zip
def u0D:=@List.pairwise_append
def u0T:=@List.pairwise_cons
def u1X:=@List.pairwise_iff_getElem
def u2g:=@List.pairwise_mergeSort
def u2v:=@List.pairwise_reverse
def u1k:=@List.perm_append_comm
def u2U:=@List.range_succ
def u01:=@List.replicate_succ
def u12:=@List.reverse_append
def u1s:=@List.reverse_perm
def u1T:=@List.reverse_reverse
def j3:=@List.size_toArray
def u3r:=@List.sum_cons
def u1t:=@List.take_add_one
def i6:=@List.take_append_drop
def u2y:=@List.take_append_of_le_length
def u1i:=@List.take_length
def u0i:=@List.take_of_length_le
def u1u:=@List.take_sublist
def u1J:=@List.take_take
def u1K:=@List.take_zero
def u2z:=@List.zipIdx_cons
def u28:=@List.zip_cons_cons
def u13:=@Nat.add_le_add_left
def u2V:=@Nat.add_left_cancel
def u1a:=@Nat.add_sub_cancel_left
def u0J:=@Nat.le_add_right
def u0W:=@Nat.le_of_lt
def u1F:=@Nat.le_of_not_lt
def q5:=@Nat.le_refl
def u02:=@Nat.le_succ
def i3:=@Nat.le_trans
def u0K:=@Nat.lt_irrefl
def p6:=@Nat.lt_of_le_of_lt
def d7:=@Nat.lt_of_lt_of_le
def u1c:=@Nat.lt_succ_of_lt
def u3B:=@Nat.lt_succ_self
def u3P:=@Nat.lt_trans
def u0U:=@Nat.min_eq_left
def u10:=@Nat.min_le_right
def u29:=@Nat.min_self
def u17:=@Nat.ne_of_gt
def d9:=@Nat.ne_of_lt
def u3Q:=@Nat.not_lt_zero
def u3a:=@Nat.sub_self
def u18:=@Nat.zero_add
def u0P:=@Nat.zero_le
def u03:=@Ne.symm
def u2h:=@PySem.Obj.data_mapFields
def u4:=@Option.bind_eq_some_iff
def u0e:=@Option.bind_some
def u3j:=@Option.isSome_iff_exists
def u1v:=@Option.isSome_map
def u9:=@Option.map_eq_some_iff
def p9:=@Option.some.inj
def u2H:=@PySem.Paired.length
def i9:=@PySem.PassesOwn.never
def u3s:=@Prod.ext
def u0V:=@PyProof.Rows.callWith_type1
def u0r:=@PyProof.Rows.slot_tuple_getitem
def u3h:=@PyProof.Rows.sortedAll_at
def u21:=@PyProof.Rows.sortedAll_old
def u1Y:=@PySem.F.args_dict_keyiterator_next_1
def u19:=@PySem.F.args_tuple_add_2
def u2W:=@PySem.F.attrBase_ValueError
def u14:=@PySem.F.entry_dict_keyiterator_next
def u2i:=@PySem.F.entry_tuple_add
def u22:=@PySem.F.excBase_ValueError
def u0x:=@PySem.F.plainAttrs_list
def u0C:=@PySem.F.slot_dict_keyiterator_next
def u2a:=@PySem.F.slot_list_append
def u3k:=@PySem.F.slot_list_extend
def u2l:=@PySem.F.slot_tuple_add
def u2b:=@PySem.F.type_list_append
def u3l:=@PySem.F.type_list_extend
def u2m:=@PySem.W.cellsFrom_some
def u15:=@PySem.W.hideAll_get
def u2C:=@PySem.W.hideAll_none
def u0A:=@PySem.W.kia_one
def u2o:=@PySem.W.kitx_dict
def u2X:=@PySem.W.looks_clsIn
def u2D:=@PySem.W.looks_findIn
def p7:=@PySem.W.mg_none_of
def u0c:=@PySem.W.mg_of
def u0g:=@PySem.mem_of_lookup
def u3b:=@PySem.SeqAt.EqAt.int_int
def u3c:=@PySem.SeqAt.EqAt.of_refs
def u0h:=@beq_eq_false_iff_ne
def d8:=@beq_iff_eq
def u1G:=@beq_self_eq_true
def u2J:=@PySem.call_meets
def u1U:=@PySem.codeAny_call_builtin
def u3d:=@PySem.codeAny_mono
def u05:=@congrArg
def h9:=@decide_eq_false
def u0L:=@decide_eq_false_iff_not
def b6:=@decide_eq_true
def d5:=@decide_eq_true_eq
def u3v:=@if_false
def j0:=@if_neg
def t9:=@if_pos
def u2A:=@if_true
def u2p:=@not_false_eq_true
def u3W:=@not_or
def p0:=@of_decide_eq_true
def u1l:=@or_false
def u2q:=@PySem.plainObj_wpAny_Assign_Attribute
def u1B:=@PySem.sizeLine_eq
def u2j:=@PySem.wpAny_Call_Name_kw
def u1m:=@PySem.wpAny_attempt
def u0:=@PySem.wpAny_bind
def u2K:=@PySem.wpAny_call
def u0m:=@PySem.wpAny_callSpecial?_slot
def u0B:=@PySem.wpAny_call_entry
def u3n:=@PySem.wpAny_dictEntries
def u2k:=@PySem.wpAny_execs_nil
def u0Q:=@PySem.wpAny_field
def u0n:=@PySem.wpAny_holding
def u1f:=@PySem.wpAny_loadPart'
def u1S:=@PySem.wpAny_loadPart_at
def u0v:=@PySem.wpAny_mono
def u0s:=@PySem.wpAny_newObj_type
def u1w:=@PySem.wpAny_passesOwn
def u8:=@PySem.wpAny_pure
def u2r:=@PySem.wpAny_pyIter_enum
def u1x:=@PySem.wpAny_pyIter_list
def u0M:=@PySem.wpAny_pyIter_tuple
def u1y:=@PySem.wpAny_rule
def u1L:=@PySem.wpAny_seqItems
def u3i:=@PySem.wpAny_setField
def u1M:=@PySem.wpAny_setField_rec
def u2I:=@PySem.wpAny_standAt
def u0R:=@PySem.wpAny_truthy_bool
def u09:=@PySem.wpAny_typeNameOfWhole_keyiter
def u1z:=@PySem.wpAny_typeNameOf_keyiter
def u2w:=@PySem.wpAny_typeOf
def r8:=@PyProof.Rows.wpS_bind
def u0G:=@PyProof.Rows.wpS_forRange
def u3x:=@PyProof.Rows.wpS_get
def u2L:=@PyProof.Rows.wpS_modify
def u0N:=@PyProof.Rows.wpS_mono
def d6:=@PyProof.Rows.wpS_pure
namespace L2
open PySem PySem.Spec PyProof.Rows
abbrev Key:=Sum Int Str
def zei:Key->Value->Bool
 | .inl k,v=>Value.isInt k v
 | .inr x,v=>Value.isStrOf x v
def keyH (w:World):Key->Int
 | .inl k=>hashInt k
 | .inr x=>hashStr w x
theorem ye:∀ {k:Key} {v:Value},zei k v=true->(∃ i t,k=Sum.inl i/\v=Value.int i t)\/(∃ x t,k=Sum.inr x/\v=Value.str x t)
 | .inl i,v,h=>by
  obtain⟨t,e⟩:=Value.isInt_shape (k:=i) (v:=v) h
  exact .inl ⟨i,t,rfl,e⟩
 | .inr x,v,h=>by
  obtain⟨t,e⟩:=Value.isStrOf_shape (x:=x) (v:=v) h
  exact .inr ⟨x,t,rfl,e⟩
theorem zeE (i:Int)(t:Tok):zei (.inl i) (.int i t)=true:=by simp[zei,Value.isInt]
theorem zfa (x:Str)(t:Tok):zei (.inr x) (.str x t)=true:=by simp[zei,Value.isStrOf]
theorem zmM (a b:Int):decide ((Sum.inl a:Key)=Sum.inl b)=(a == b):=by
 by_cases e:a=b
 .subst e;simp
 .have h:¬ (Sum.inl a:Key)=Sum.inl b:=λq=>e (Sum.inl.inj q)
  rw[h9 h]
  exact(u0h.mpr e).symm
theorem zlX (a b:Str):decide ((Sum.inr a:Key)=Sum.inr b)=decide (a=b):=by
 by_cases e:a=b
 .subst e;simp
 .have h:¬ (Sum.inr a:Key)=Sum.inr b:=λq=>e (Sum.inr.inj q)
  rw[h9 h,h9 e]
theorem zlE (a:Int)(b:Str):decide ((Sum.inl a:Key)=Sum.inr b)=false:=h9 (λq=>nomatch q)
theorem zk5 (a:Str)(b:Int):decide ((Sum.inr a:Key)=Sum.inl b)=false:=h9 (λq=>nomatch q)
def yQ (prog:Program)(w:World):PySem.KeyKind prog w Key where
 is:=zei
 hash:=keyH w
 inj:=λv a b ha hb=>by
  rcases ye ha with ⟨i,t,rfl,rfl⟩ | ⟨x,t,rfl,rfl⟩
  .rcases ye hb with ⟨j,u,rfl,e⟩ | ⟨y,u,rfl,e⟩
   .injection e with e1 _;rw[e1]
   .exact nomatch e
  .rcases ye hb with ⟨j,u,rfl,e⟩ | ⟨y,u,rfl,e⟩
   .exact nomatch e
   .injection e with e1 _;rw[e1]
 byValue:=λk v h=>by
  rcases ye h with ⟨i,t,rfl,rfl⟩ | ⟨x,t,rfl,rfl⟩ <;> rfl
 pyHash:=λhv h=>by
  rcases ye hv with ⟨i,t,rfl,rfl⟩ | ⟨x,t,rfl,rfl⟩
  .exact wpAny_pyHash_int h
  .exact wpAny_pyHash_str h
 eqBool:=λhu hv h=>by
  rcases ye hu with ⟨i,t,rfl,rfl⟩ | ⟨x,t,rfl,rfl⟩
  .rcases ye hv with ⟨j,u,rfl,rfl⟩ | ⟨y,u,rfl,rfl⟩
   .rw[zmM]at h;exact wpAny_eqBool_int h
   .rw[zlE]at h;exact SeqAt.EqAt.int_str i t y u _ _ _ _ h
  .rcases ye hv with ⟨j,u,rfl,rfl⟩ | ⟨y,u,rfl,rfl⟩
   .rw[zk5]at h;exact SeqAt.EqAt.str_int x t j u _ _ _ _ h
   .rw[zlX]at h;exact wpAny_eqBool_str h
 «strs»:=λk x t v h=>by
  rcases ye h with ⟨i,u,rfl,e⟩ | ⟨y,u,rfl,e⟩
  .exact nomatch e
  .injection e with e1 _
   subst e1
   cases v <;> rfl
theorem zbY (prog:Program)(w:World)(i:Int)(t:Tok):(yQ prog w).is (.inl i) (.int i t)=true:=zeE i t
theorem zbZ (prog:Program)(w:World)(x:Str)(t:Tok):(yQ prog w).is (.inr x) (.str x t)=true:=zfa x t
inductive V where
 | non | bl (b:Bool) | int (i:Int) | str (x:Str) | byt (b:Array UInt8) | flt (b:UInt64) | ref (a:Addr) | ty (n:String)
 deriving DecidableEq
def yI:V->Value->Prop
 | .non,u=>u=Value.none
 | .bl b,u=>u=Value.bool b
 | .int i,u=>∃ t,u=Value.int i t
 | .str x,u=>∃ t,u=Value.str x t
 | .byt b,u=>∃ t,u=Value.bytes b t
 | .flt b,u=>∃ t,u=Value.float b t
 | .ref a,u=>u=Value.ref a
 | .ty n,u=>u=Value.type n
abbrev yl:List V->List Value->Prop:=Paired yI
theorem yl.length {xs:List V}{us:List Value}(r:yl xs us):xs.length=us.length:=u2H r
theorem yl.get:∀ {xs:List V} {us:List Value} {i:Nat} {x:V},yl xs us->xs[i]?=some x->∃ u,us[i]?=some u/\yI x u
 | _,_,_,_,.nil,e=>by simp at e
 | _,_,0,_,.cons r _,e=>by simp at e;subst e;exact⟨_,rfl,r⟩
 | _,_,i+1,x,.cons _ t,e=>by
  obtain⟨u,h1,h2⟩:=yl.get (i:=i) (x:=x) t (by simpa using e)
  exact⟨u,by simpa using h1,h2⟩
theorem yl.set {x:V}{u:Value}(r:yI x u):∀ {xs:List V} {us:List Value} (i:Nat),yl xs us->yl (xs.set i x) (us.set i u)
 | _,_,_,.nil=>.nil
 | _,_,0,.cons _ t=>.cons r t
 | _,_,i+1,.cons q t=>.cons q (yl.set r i t)
theorem yl.append:∀ {xs ys:List V} {us ws:List Value},yl xs us->yl ys ws->yl (xs++ys) (us++ws):=by
 intro xs ys us ws h s
 induction h with
 | nil=>exact s
 | cons r t ih=>exact .cons r ih
theorem yl.take:∀ {xs:List V} {us:List Value} (n:Nat),yl xs us->yl (xs.take n) (us.take n)
 | _,_,0,_=>.nil
 | _,_,_+1,.nil=>.nil
 | _,_,n+1,.cons r t=>.cons r (yl.take n t)
theorem yl.drop:∀ {xs:List V} {us:List Value} (n:Nat),yl xs us->yl (xs.drop n) (us.drop n)
 | _,_,0,r=>r
 | _,_,_+1,.nil=>.nil
 | _,_,n+1,.cons _ t=>yl.drop n t
def zc0:Option V->Option Value->Prop
 | some v,some u=>yI v u
 | none,none=>True
 | _,_=>False
def KV {κ:Type}:List (κ × V)->List (κ × Value)->Prop:=Paired λ(p:κ × V) (q:κ × Value)=>p.1=q.1/\yI p.2 q.2
def kV:Key->V
 | .inl i=>.int i
 | .inr x=>.str x
inductive HO where
 | lst (xs:List V)
 | tup (xs:List V)
 | dK (kvs:List (Key × V)) | dT (kvs:List (List Key × V))
 | set (S:Int->Bool) (n:Nat)
 | ins (C dx:Addr) (fs:List (Str × V))
 | own (x:Addr)
 | xd (fs:List (Str × V))
 | met (f x:Addr)
 | rng (lo hi:Int)
 | frz (o:Obj) (u:HO)
 | tbl (ps:Array Value)
 | ext (φ:Heap->Prop)
abbrev Hp:=Addr->Option HO
def upd (H:Hp)(a:Addr)(o:HO):Hp:=λb=>if b=a then some o else H b
theorem zm {H:Hp}{a:Addr}{o:HO}:upd H a o a=some o:=by unfold upd;rw[t9 rfl]
theorem zk {H:Hp}{a b:Addr}{o:HO}(h:b≠a):upd H a o b=H b:=by unfold upd;rw[j0 h]
theorem zb6 {H:Hp}{a:Addr}{o u:HO}:upd (upd H a o) a u=upd H a u:=by
 funext b;unfold upd;split <;> rfl
theorem zhQ {H:Hp}{a b:Addr}{o u:HO}(h:H a=some o)(h':H b=some u)(d:o≠u):a≠b:=by
 intro e;subst e;rw[h]at h';exact d (p9 h')
theorem zh {H:Hp}{a b:Addr}{o:HO}(h:H a=some o)(h':H b=none):a≠b:=by
 intro e;subst e;rw[h]at h';cases h'
section
variable (P:Program)(w:World)
def yq (H:Hp)(h:Heap)(a:Addr):HO->Prop
 | .lst xs=>xs.length<=sizeLine/\∃ (its:List Value) (n:Nat),yl xs its/\h.get? a=some { cls:=.type "list",data:=.seq its.toArray n }
 | .tup xs=>xs.length<=sizeLine/\∃ its:List Value,yl xs its/\IsTup h a its.toArray
 | .dK kvs=>kvs.length<=sizeLine/\(a == sysModules)=false/\∃ vs,KV kvs vs/\h.DictOf (yQ P w) a vs
 | .dT kvs=>kvs.length<=sizeLine/\(a == sysModules)=false/\∃ xs:List (List Key × Addr × Value),
  Paired (λ(p:List Key × V) (q:List Key × Addr × Value)=>p.1=q.1/\H q.2.1=some (.tup (p.1.map kV))/\yI p.2 q.2.2) kvs xs /\
  ∃ o es ep,h.get? a=some o/\o.ExactDict/\o.data=.dict es ep/\es.toList=xs.map (entryOfKey (tupleKind (yQ P w)))/\(xs.map (·.1)).Nodup
 | .set S n=>h.SetOf (intKind P w) a S n
 | .ins C dx fs=>H dx=some (.own a)/\fs.length<=1000/\dx≠a/\h.get? a=some (W.instObj C dx) /\
  ∃ mA,h.Ns1 dx mA/\(∀ f,zc0 (fs.lookup f) (mA f))/\PySem.Within mA (fs.map (·.1))
 | .own _=>∃ o,h.get? a=some o
 | .xd fs=>∃ mA,h.Ns1 a mA/\∀ f,zc0 (fs.lookup f) (mA f)
 | .rng lo hi=>∃ t u v,h.get? a=some { cls:=.type "range",data:=.fields #[.int lo t,.int hi u,.int 1 v] }
 | .frz o u=>h.get? a=some o/\yq H h a u
 | .tbl ps=>h.get? a=some { cls:=.none,data:=.fields ps }
 | .met f x=>h.get? a=some (W.methodObj (.ref f) (.ref x))
 | .ext φ=>φ h/\(∃ o,h.get? a=some o)/\∀ h1 h2:Heap,φ h1->(∀ o,h1.get? a=some o->h2.get? a=some o)->φ h2
def HOk (H:Hp)(h:Heap):Prop:=∀ a o,H a=some o->yq P w H h a o
end
section
variable {P:Program}{w:World}{H H':Hp}{h h':Heap}{a:Addr}{o:HO}
theorem yq.lt (x:yq P w H h a o):a < h.objs.size:=by
 cases o with
 | lst xs=>obtain⟨_,_,_,_,e⟩:=x;exact j5 e
 | tup xs=>obtain⟨_,_,_,p⟩:=x;exact p.lt
 | dK kvs=>obtain⟨_,_,_,_,o,_,_,e,_⟩:=x;exact j5 e
 | dT kvs=>obtain⟨_,_,_,_,o,_,_,e,_⟩:=x;exact j5 e
 | set S n=>obtain⟨o,_,_,_,e,_⟩:=x;exact j5 e
 | ins C dx fs=>obtain⟨_,_,_,e,_⟩:=x;exact j5 e
 | own y=>obtain⟨_,e⟩:=x;exact j5 e
 | xd fs=>obtain⟨_,⟨_,_,_,e,_⟩,_⟩:=x;exact j5 e
 | rng lo hi=>obtain⟨_,_,_,e⟩:=x;exact j5 e
 | frz ob u=>obtain⟨e,_⟩:=x;exact j5 e
 | tbl ps=>exact j5 (show h.get? a=some _ from x)
 | met f y=>exact j5 (show h.get? a=some _ from x)
 | ext φ=>obtain⟨_,⟨_,e⟩,_⟩:=x;exact j5 e
theorem Paired.mapP {α β:Type}{F G:α->β->Prop}:∀ {l₁:List α} {l₂:List β},Paired F l₁ l₂->(∀ a b,F a b->G a b)->Paired G l₁ l₂:=by
 intro l1 l2 h f
 induction h with
 | nil=>exact .nil
 | cons r t ih=>exact .cons (f _ _ r) ih
theorem yq.stay (x:yq P w H h a o)(k:∀ b u,(b=a\/H b=some (.own a))->h.get? b=some u->h'.get? b=some u)
 (ho:∀ b,H b=some (.own a)->H' b=some (.own a)) (ht:∀ b xs,H b=some (.tup xs)->H' b=some (.tup xs)):yq P w H' h' a o:=by
 induction o with
 | lst xs=>obtain⟨z,its,n,r,e⟩:=x;exact⟨z,its,n,r,k _ _ (.inl rfl) e⟩
 | tup xs=>obtain⟨z,its,r,ob,e,c⟩:=x;exact⟨z,its,r,ob,k _ _ (.inl rfl) e,c⟩
 | dK kvs=>obtain⟨z,y,vs,r,ob,es,ep,e,c⟩:=x;exact⟨z,y,vs,r,ob,es,ep,k _ _ (.inl rfl) e,c⟩
 | dT kvs =>
  obtain⟨z,y,xs,r,ob,es,ep,e,c⟩:=x
  exact⟨z,y,xs,Paired.mapP r λp q z=>⟨z.1,ht _ _ z.2.1,z.2.2⟩,ob,es,ep,k _ _ (.inl rfl) e,c⟩
 | set S n=>obtain⟨ob,es,ep,t,e,c⟩:=x;exact⟨ob,es,ep,t,k _ _ (.inl rfl) e,c⟩
 | ins C dx fs =>
  obtain⟨d,z,ne,e,mA,⟨od,es,ep,e2,c⟩,r⟩:=x
  exact⟨ho _ d,z,ne,k _ _ (.inl rfl) e,mA,⟨od,es,ep,k _ _ (.inr d) e2,c⟩,r⟩
 | own y=>obtain⟨ob,e⟩:=x;exact⟨ob,k _ _ (.inl rfl) e⟩
 | xd fs=>obtain⟨mA,⟨od,es,ep,e,c⟩,r⟩:=x;exact⟨mA,⟨od,es,ep,k _ _ (.inl rfl) e,c⟩,r⟩
 | rng lo hi=>obtain⟨t,u,v,e⟩:=x;exact⟨t,u,v,k _ _ (.inl rfl) e⟩
 | frz ob u ih=>obtain⟨e,q⟩:=x;exact⟨k _ _ (.inl rfl) e,ih q⟩
 | tbl ps =>
  have e:h.get? a=some { cls:=.none,data:=.fields ps }:=x
  show h'.get? a=some { cls:=.none,data:=.fields ps }
  exact k a _ (.inl rfl) e
 | met f y =>
  have e:h.get? a=some (W.methodObj (.ref f) (.ref y)):=x
  show h'.get? a=some (W.methodObj (.ref f) (.ref y))
  exact k a _ (.inl rfl) e
 | ext φ=>obtain⟨p,⟨o,e⟩,st⟩:=x;exact⟨st _ _ p λo q=>k _ _ (.inl rfl) q,⟨o,k _ _ (.inl rfl) e⟩,st⟩
theorem HOk.lt (x:HOk P w H h)(e:H a=some o):a < h.objs.size:=(x a o e).lt
theorem HOk.fresh (x:HOk P w H h)(e:h.objs.size<=a):H a=none:=by
 cases q:H a with
 | none=>rfl
 | some u=>exact absurd (d7 (x.lt q) e) (u0K _)
theorem HOk.kept (x:HOk P w H h)(k:∀ b u,h.get? b=some u->h'.get? b=some u):HOk P w H h':=λa o e =>
 (x a o e).stay (λb u _ q=>k b u q) (λ_ q=>q) λ_ _ q=>q
theorem HOk.laid (x:HOk P w H h)(k:∀ b u,h.get? b=some u->h'.get? b=some u)(hp:h.objs.size<=a)(new:yq P w (upd H a o) h' a o):HOk P w (upd H a o) h':=λb u e=>by
 have hn:=x.fresh hp
 by_cases hb:b=a
 .subst hb;rw[zm]at e;cases e;exact new
 .rw[zk hb]at e
  exact(x b u e).stay (λc v _ q=>k c v q) (λc q=>by rw[zk (zh q hn)];exact q) λc xs q=>by rw[zk (zh q hn)];exact q
end
def Rd (H:Hp)(a:Addr)(u:HO):Prop:=H a=some u\/∃ o,H a=some (.frz o u)
theorem Rd.ok {P:Program}{w:World}{H:Hp}{h:Heap}{a:Addr}{u:HO}(r:Rd H a u)(x:HOk P w H h):yq P w H h a u:=by
 rcases r with r | ⟨o,r⟩
 .exact x a u r
 .obtain⟨_,q⟩:=x a _ r
  exact q
def Mut:Option HO->Prop
 | some (.lst _)=>True
 | some (.dK _)=>True
 | some (.dT _)=>True
 | some (.set _ _)=>True
 | some (.ins _ _ _)=>True
 | some (.ext _)=>True
 | _=>False
section
variable {P:Program}{w:World}{H:Hp}{h h':Heap}{x e:Addr}{o':HO}
theorem HOk.write (ok:HOk P w H h)(mu:Mut (H x))(he:e=x\/H e=some (.own x))(k:∀ b u,b≠e->h.get? b=some u->h'.get? b=some u)(heo:∃ u,h'.get? e=some u)
 (new:yq P w (upd H x o') h' x o'):HOk P w (upd H x o') h':=λb u q=>by
 have nown:∀ c y,H c=some (.own y)->c≠x:=λc y r z=>by subst z;rw[r]at mu;exact mu
 have ntup:∀ c xs,H c=some (.tup xs)->c≠x:=λc xs r z=>by subst z;rw[r]at mu;exact mu
 by_cases hb:b=x
 .subst hb;rw[zm]at q;cases q;exact new
 .rw[zk hb]at q
  by_cases hbe:b=e
  .have q':H b=some (.own x):=by
    rcases he with z | z
    .exact absurd (hbe.trans z) hb
    .rw[hbe];exact z
   rw[q]at q';cases q'
   obtain⟨v,hv⟩:=heo
   exact⟨v,by rw[hbe];exact hv⟩
  .refine(ok b u q).stay (λc v hc r=>k c v ?_ r) (λc r=>by rw[zk (nown c b r)];exact r) λc xs r=>by rw[zk (ntup c xs r)];exact r
   rcases hc with rfl | hc
   .exact hbe
   .rintro rfl
    rcases he with z | z
    .exact nown c b hc z
    .rw[hc]at z;cases z;exact hb rfl
end
structure Un (fs ex:List Addr) (H H':Hp) (h h':Heap):Prop where
 keep:∀ b o,h.get? b=some o->H b=none->b∉fs->b∉ex->h'.get? b=some o
 slot:∀ b o,h.get? b=some o->H b=none->b∈fs->b∉ex->∃ sl,h'.get? b=some { o with slots:=sl }
 free:∀ b o,h.get? b=some o->H b=none->b∉ex->H' b=none
 there:∀ b o,h.get? b=some o->b∉ex->∃ o',h'.get? b=some o'
 tups:∀ b xs,H b=some (.tup xs)->H' b=some (.tup xs)
 frzs:∀ b o u,H b=some (.frz o u)->H' b=some (.frz o u)
 tbls:∀ b ps,H b=some (.tbl ps)->∃ more,H' b=some (.tbl (ps++more))
section
variable {fs fs' ex ex':List Addr}{H H1 H2:Hp}{h h1 h2 h':Heap}{a x e:Addr}{o:HO}
theorem Un.any (u:Un fs ex H H1 h h1){b:Addr}{ob:Obj}(q:h.get? b=some ob)(n:H b=none)(hx:b∉ex):∃ sl,h1.get? b=some { ob with slots:=sl }:=by
 by_cases hb:b∈fs
 .exact u.slot b ob q n hb hx
 .exact⟨ob.slots,u.keep b ob q n hb hx⟩
theorem Un.kept (k:∀ b u,h.get? b=some u->h'.get? b=some u):Un fs ex H H h h' :=
 ⟨λb ob q _ _ _=>k b ob q,λb ob q _ _ _=>⟨ob.slots,k b ob q⟩,λ_ _ _ n _=>n,λb ob q _=>⟨ob,k b ob q⟩,λ_ _ q=>q,λ_ _ _ q=>q,λ_ ps q=>⟨#[],by rw[q];simp⟩⟩
theorem Un.refl:Un fs ex H H h h:=Un.kept λ_ _ q=>q
theorem Un.laid (k:∀ b u,h.get? b=some u->h'.get? b=some u)(hp:h.objs.size<=a)(hn:H a=none):Un fs ex H (upd H a o) h h' where
 keep:=λb u q _ _ _=>k b u q
 slot:=λb u q _ _ _=>⟨u.slots,k b u q⟩
 free:=λb u q n _=>by rw[zk (d9 (d7 (j5 q) hp))];exact n
 there:=λb u q _=>⟨u,k b u q⟩
 tups:=λb xs q=>by rw[zk (zh q hn)];exact q
 frzs:=λb u xs q=>by rw[zk (zh q hn)];exact q
 tbls:=λb ps q=>⟨#[],by rw[zk (zh q hn),q];simp⟩
theorem Un.write (mu:Mut (H x))(he:e=x\/H e=some (.own x))(k:∀ b u,b≠e->h.get? b=some u->h'.get? b=some u)(heo:∃ u,h'.get? e=some u):Un fs ex H (upd H x o) h h':=by
 have hx:∀ b,H b=none->b≠x:=λb n z=>by subst z;rw[n]at mu;exact mu
 have hb:∀ b,H b=none->b≠e:=λb n z=>by
  subst z
  rcases he with r | r
  .exact hx b n r
  .rw[n]at r;cases r
 have hm:∀ b u,H b=some u->¬ Mut (some u)->b≠x:=λb u q nm z=>by subst z;rw[q]at mu;exact nm mu
 refine⟨λb u q n _ _=>k b u (hb b n) q,λb u q n _ _=>⟨u.slots,k b u (hb b n) q⟩,λb u q n _=>by rw[zk (hx b n)];exact n,λb u q _=>?_,
  λb xs q=>by rw[zk (hm b _ q λz=>z)];exact q,λb u xs q=>by rw[zk (hm b _ q λz=>z)];exact q,λb ps q=>⟨#[],by rw[zk (hm b _ q λz=>z),q];simp⟩⟩
 by_cases hbe:b=e
 .subst hbe;exact heo
 .exact⟨u,k b u hbe q⟩
end
def trk (h:Heap)(H:Hp):List Addr:=(List.range h.objs.size).filter λa=>(H a).isSome
def zhR (h:Heap)(H:Hp):Heap:=W.hideAll h (trk h H)
theorem zeY (h:Heap)(H:Hp):(zhR h H).objs.size=h.objs.size:=W.hideAll_size _ _
theorem ziD {h:Heap}{H:Hp}{b:Addr}{o:Obj}(e:h.get? b=some o)(n:H b=none):(zhR h H).get? b=some o :=
 u15 _ e λhm=>by
  have q:(H b).isSome=true:=(u1P.mp hm).2
  rw[n]at q;simp at q
theorem zjY {h:Heap}{H:Hp}{b:Addr}{o:Obj}(e:(zhR h H).get? b=some o):h.get? b=some o/\H b=none:=by
 have e':h.get? b=some o:=W.of_hideAll (trk h H) e
 refine⟨e',?_⟩
 cases q:H b with
 | none=>rfl
 | some x =>
  have hm:b∈trk h H:=u1P.mpr ⟨u0I.mpr (j5 e'),by simp[q]⟩
  have z:(zhR h H).get? b=none:=u2C (trk h H) hm
  rw[z]at e;cases e
def zjw (g h:Heap)(L:Addr):List (Addr × Obj):=(List.range h.objs.size).filterMap λa=>if a=L\/(g.get? a).isSome=true then none else (h.get? a).map λo=>(a,o)
def rest (g h:Heap)(L d:Addr):List (Addr × Obj):=(zjw g h L).filter λp=>decide (p.1≠d)
structure Mod (K:W.Frag) (mg:Str->Option Value) (base:Heap):Prop where
 kin:K.In base
 glob:base.Ns mainGlobals mg
 blt:∃ mb,base.Ns builtinsNs mb/\∀ x:Str,x≠"__name__"->mb x=bootBuiltins x
 nolimit:base.NoLimit
structure Cx where
 prog:Program
 w:World
 K:W.Frag
 mg:Str->Option Value
 base:Heap
 A:Around
 N:List Str
 s₀:Shared
 H₀:Hp
 env:Env
 outer:List Env
 stack:List Env
 ex:List Addr
 fn:Str->Bool
 calm:Bool
 pn:List (Addr × Obj)
 xe:Value->Shared->Prop
def frs (l:List Env):List Addr:=l.filterMap (·.frame)
abbrev Cx.fs (X:Cx):List Addr:=frs X.outer
def Vis (sc:Scope)(x:Str):Prop:=sc.names.lookup x=some .local\/sc.names.lookup x=some .cell\/sc.names.lookup x=some .free
def Loc (sc:Scope)(x:Str):Prop:=sc.names.lookup x=some .local\/sc.names.lookup x=some .cell
def Look (env:Env)(h:Heap)(m:Str->Option Value)(x:Str)(u:Value):Prop :=
 (env.kindOf x=some .local/\m x=some u)\/((env.kindOf x=some .cell\/env.kindOf x=some .free)/\∃ c,env.cells.lookup x=some c/\h.IsCell c (some u))
structure Cx.Ok (X:Cx):Prop where
 mod:Mod X.K X.mg X.base
 kind:X.env.scope.kind=.function
 glob:X.env.globals=mainGlobals
 blt:X.env.builtins=builtinsNs
 above:X.s₀.heap.objs.size<=X.env.locals
 inj:∀ x y c,X.env.cells.lookup x=some c->X.env.cells.lookup y=some c->x=y
 has:∀ x,(X.env.kindOf x=some .cell\/X.env.kindOf x=some .free)->∃ c,X.env.cells.lookup x=some c
 cab:∀ x c,X.fn x=true->X.env.cells.lookup x=some c->X.s₀.heap.objs.size<=c
 hd:X.calm=true->X.A.handled=none
 frames:X.A.frames=some X.stack
 stk:X.stack=X.outer\/(X.stack=X.env::X.outer/\X.env.frame=some X.env.locals)
 exf:∀ b∈X.ex,b≠X.env.locals/\∀ x c,X.env.cells.lookup x=some c->c≠b
 bs:∀ b o,X.base.get? b=some o->X.s₀.heap.get? b=some o/\X.H₀ b=none
 bsz:X.base.objs.size<=X.s₀.heap.objs.size
 noex:∀ b o,X.base.get? b=some o->b∉X.ex
 exfs:∀ b∈X.ex,b∉X.fs
 funs:X.s₀.heap.FunFrames X.base X.outer
 frf:∀ b∈X.fs,X.H₀ b=none
structure Inv (X:Cx) (pins:List (Addr × Obj)) (σ:List (Option V)) (H:Hp) (s:Shared):Prop where
 ok:X.Ok
 os:s.os=X.s₀.os
 bare:AllBare s.gens
 base:Un X.fs X.ex X.H₀ H X.s₀.heap s.heap
 loc:∃ m,s.heap.Ns X.env.locals m/\∀ (i:Nat) (x:Str) (v:V),X.N[i]?=some x->σ[i]?=some (some v)->Vis X.env.scope x->∃ u,yI v u/\Look X.env s.heap m x u
 cell:∀ x c,X.env.cells.lookup x=some c->∃ v,s.heap.IsCell c v
 free:H X.env.locals=none
 freeC:∀ x c,X.env.cells.lookup x=some c->H c=none
 pin:∀ p∈X.pn++pins,s.heap.get? p.1=some p.2/\H p.1=none/\p.1≠X.env.locals/\p.1∉X.fs/\∀ v,p.2.data≠.cell v
 hok:HOk X.prog X.w H s.heap
 len:σ.length=X.N.length
section
variable {X:Cx}{pins:List (Addr × Obj)}{σ:List (Option V)}{H H':Hp}{s:Shared}{h':Heap}
theorem Cx.Ok.nofr (ok:X.Ok){b:Addr}{o:Obj}(e:X.base.get? b=some o):b∉X.fs:=λhb=>by
 have:=(ok.funs.mem hb).1
 rw[e]at this;cases this
theorem Inv.bs (I:Inv X pins σ H s):∀ b o,X.base.get? b=some o->s.heap.get? b=some o/\H b=none:=λb o e =>
 ⟨I.base.keep b o (I.ok.bs b o e).1 (I.ok.bs b o e).2 (I.ok.nofr e) (I.ok.noex b o e),I.base.free b o (I.ok.bs b o e).1 (I.ok.bs b o e).2 (I.ok.noex b o e)⟩
theorem Inv.bk (I:Inv X pins σ H s):∀ b o,X.base.get? b=some o->s.heap.get? b=some o:=λb o e=>(I.bs b o e).1
theorem Inv.mod (I:Inv X pins σ H s):Mod X.K X.mg X.base:=I.ok.mod
theorem Inv.kIn (I:Inv X pins σ H s):X.K.In s.heap:=I.ok.mod.kin.keeps I.bk
theorem Inv.fr (I:Inv X pins σ H s):∃ m,Fr X.base X.env.locals s.heap m :=
 let ⟨m,hn,_⟩:=I.loc
 ⟨m,hn,I.bk,i3 I.ok.bsz I.ok.above⟩
theorem Inv.lt (I:Inv X pins σ H s):X.env.locals < s.heap.objs.size:=let ⟨_,hn,_⟩:=I.loc;hn.lt
theorem Inv.sz (I:Inv X pins σ H s):X.s₀.heap.objs.size<=s.heap.objs.size:=i3 I.ok.above (u0W I.lt)
theorem Inv.nofs (I:Inv X pins σ H s){a:Addr}(h:s.heap.objs.size<=a):a∉X.fs:=λhb=>by
 obtain⟨_,o,ho,_⟩:=I.ok.funs.mem hb
 exact absurd (d7 (j5 ho) (i3 I.sz h)) (u0K _)
theorem Inv.cne (I:Inv X pins σ H s):∀ x c,X.env.cells.lookup x=some c->c≠X.env.locals:=λx c e z=>by
 obtain⟨v,o,ho,hd⟩:=I.cell x c e
 obtain⟨m,⟨o',es,ep,ho',hd',_⟩,_⟩:=I.loc
 rw[z,ho']at ho;cases ho;rw[hd']at hd;cases hd
theorem Inv.funs (I:Inv X pins σ H s):s.heap.FunFrames X.base X.outer:=by
 have all:∀ (l:List Env),(∀ b∈frs l,b∈X.fs)->X.s₀.heap.FunFrames X.base l->s.heap.FunFrames X.base l:=by
  intro l
  induction l with
  | nil=>intro _ _;trivial
  | cons env r ih =>
   intro hs hl
   obtain⟨hk,⟨L,o,hf,hn,ho,hd⟩,hr⟩:=hl
   have hL:L∈X.fs:=hs L (by unfold frs;rw[u2O,hf];exact e9)
   obtain⟨sl,e⟩:=I.base.slot L o ho (I.ok.frf L hL) hL λz=>I.ok.exfs L z hL
   exact⟨hk,⟨L,_,hf,hn,e,hd⟩,ih (λb hb=>hs b (by unfold frs;rw[u2O,hf];exact p4 _ hb)) hr⟩
 exact all X.outer (λ_ hb=>hb) I.ok.funs
theorem Inv.stack (I:Inv X pins σ H s):s.heap.FunFrames X.base X.stack:=by
 rcases I.ok.stk with e | ⟨e,hf⟩
 .rw[e];exact I.funs
 .rw[e]
  obtain⟨m,hn,_⟩:=I.loc
  refine .cons (by rw[I.ok.kind];decide) hf hn ?_ I.funs
  exact Heap.get?_none_of_le (i3 I.ok.bsz I.ok.above)
theorem Inv.stkSub (I:Inv X pins σ H s):∀ b∈frs X.stack,b∈X.env.locals::X.fs:=λb hb=>by
 rcases I.ok.stk with e | ⟨e,hf⟩
 .rw[e]at hb;exact p4 _ hb
 .rw[e]at hb
  unfold frs at hb
  rw[u2O,hf]at hb
  exact hb
theorem Inv.stkFree (I:Inv X pins σ H s):∀ b∈frs X.stack,H b=none:=λb hb=>by
 rcases j7.mp (I.stkSub b hb)with e | hb
 .rw[e];exact I.free
 .obtain⟨_,o,ho,_⟩:=I.ok.funs.mem hb
  exact I.base.free b o ho (I.ok.frf b hb) λz=>I.ok.exfs b z hb
theorem Inv.step {g':Array GenState}{t':Nat}{d':Drawn}{ch:List Addr}(I:Inv X pins σ H s)
 (hch:∀ b∈ch,(b∈X.ex\/X.s₀.heap.objs.size<=b)/\b≠X.env.locals/\(∀ x c,X.env.cells.lookup x=some c->c≠b)/\∀ p∈X.pn++pins,p.1≠b)
 (keep:∀ b o,b≠X.env.locals->b∉X.fs->b∉ch->s.heap.get? b=some o->H b=none->h'.get? b=some o)
 (slot:∀ b o,b≠X.env.locals->b∈X.fs->b∉ch->s.heap.get? b=some o->H b=none->∃ sl,h'.get? b=some { o with slots:=sl }) (free:∀ b o,b∉ch->s.heap.get? b=some o->H b=none->H' b=none)
 (there:∀ b o,b∉ch->s.heap.get? b=some o->∃ o',h'.get? b=some o')
 (tups:∀ b xs,H b=some (.tup xs)->H' b=some (.tup xs)) (frzs:∀ b o u,H b=some (.frz o u)->H' b=some (.frz o u)) (tbls:∀ b ps,H b=some (.tbl ps)->∃ more,H' b=some (.tbl (ps++more)))
 (ns:∀ m,s.heap.Ns X.env.locals m->h'.Ns X.env.locals m) (hok:HOk X.prog X.w H' h') (hg:AllBare g') :
 Inv X pins σ H' { s with heap:=h',gens:=g',drawn:=d',toks:=t' }:=by
 have neL:∀ b o,X.s₀.heap.get? b=some o->b≠X.env.locals:=λb o e=>d9 (d7 (j5 e) I.ok.above)
 have neC:∀ b o,X.s₀.heap.get? b=some o->b∉X.ex->b∉ch:=λb o e hx hb=>by
  rcases(hch b hb).1 with z | z
  .exact hx z
  .exact absurd (d7 (j5 e) z) (u0K _)
 have cellK:∀ x c,X.env.cells.lookup x=some c->∀ v,s.heap.IsCell c v->h'.IsCell c v:=λx c e v ⟨o,ho,hd⟩=>by
  have nch:c∉ch:=λz=>(hch c z).2.2.1 x c e rfl
  by_cases hc:c∈X.fs
  .obtain⟨sl,q⟩:=slot c o (I.cne x c e) hc nch ho (I.freeC x c e)
   exact⟨_,q,hd⟩
  .exact⟨o,keep c o (I.cne x c e) hc nch ho (I.freeC x c e),hd⟩
 refine⟨I.ok,I.os,hg,⟨λb o e n hb hx=>?_,λb o e n hb hx=>?_,λb o e n hx=>?_,λb o e hx=>?_,λb xs e=>tups b xs (I.base.tups b xs e),λb o xs e=>frzs b o xs (I.base.frzs b o xs e),λb ps e=>?_⟩,?_,λx c e=>?_,?_,λx c e=>?_,λp hp=>?_,hok,I.len⟩
 .exact keep b o (neL b o e) hb (neC b o e hx) (I.base.keep b o e n hb hx) (I.base.free b o e n hx)
 .obtain⟨sl,e1⟩:=I.base.slot b o e n hb hx
  obtain⟨sl',e2⟩:=slot b _ (neL b o e) hb (neC b o e hx) e1 (I.base.free b o e n hx)
  exact⟨sl',e2⟩
 .obtain⟨o',e1⟩:=I.base.there b o e hx
  exact free b o' (neC b o e hx) e1 (I.base.free b o e n hx)
 .obtain⟨o',e1⟩:=I.base.there b o e hx
  exact there b o' (neC b o e hx) e1
 .obtain⟨m1,e1⟩:=I.base.tbls b ps e
  obtain⟨m2,e2⟩:=tbls b _ e1
  exact⟨m1++m2,by rw[e2,Array.append_assoc]⟩
 .obtain⟨m,hn,hl⟩:=I.loc
  refine⟨m,ns m hn,λi x v e1 e2 e3=>?_⟩
  obtain⟨u,r,l⟩:=hl i x v e1 e2 e3
  refine⟨u,r,?_⟩
  rcases l with l | ⟨k,c,e,z⟩
  .exact .inl l
  .exact .inr ⟨k,c,e,cellK x c e _ z⟩
 .obtain⟨v,z⟩:=I.cell x c e
  exact⟨v,cellK x c e v z⟩
 .obtain⟨m,⟨o,_,_,ho,_⟩,_⟩:=I.loc
  exact free _ o (λz=>(hch _ z).2.1 rfl) ho I.free
 .obtain⟨v,o,ho,hd⟩:=I.cell x c e
  exact free c o (λz=>(hch c z).2.2.1 x c e rfl) ho (I.freeC x c e)
 .obtain⟨e,n,ne,nf,d⟩:=I.pin p hp
  have nch:p.1∉ch:=λz=>(hch p.1 z).2.2.2 p hp rfl
  exact⟨keep p.1 p.2 ne nf nch e n,free p.1 p.2 nch e n,ne,nf,d⟩
theorem Inv.un {t':Nat}(I:Inv X pins σ H s)(u:Un X.fs [] H H' s.heap h')(hok:HOk X.prog X.w H' h'):Inv X pins σ H' { s with heap:=h',toks:=t' }:=by
 obtain⟨m,⟨o,es,ep,ho,r⟩,_⟩:=id I.loc
 obtain⟨sl,hL⟩:=u.any ho I.free (by simp)
 exact I.step (g':=s.gens) (d':=s.drawn) (ch:=[]) (λ_ z=>nomatch z) (λb o _ hb _ e n=>u.keep b o e n hb (by simp)) (λb o _ hb _ e n=>u.slot b o e n hb (by simp)) (λb o _ e n=>u.free b o e n (by simp)) (λb o _ e=>u.there b o e (by simp)) u.tups u.frzs u.tbls (λm' hm=>by
  obtain⟨o',es',ep',ho',r'⟩:=hm
  rw[ho]at ho';cases ho'
  exact⟨_,es',ep',hL,r'⟩) hok I.bare
theorem Inv.call {g':Array GenState}{t':Nat}{d':Drawn}{ch:List Addr}(I:Inv X pins σ H s)(u:Un (frs X.stack) ch H H' s.heap h')(hok:HOk X.prog X.w H' h')(hg:AllBare g')
 (hch:∀ b∈ch,(b∈X.ex\/X.s₀.heap.objs.size<=b)/\b≠X.env.locals/\(∀ x c,X.env.cells.lookup x=some c->c≠b)/\∀ p∈X.pn++pins,p.1≠b) :
 Inv X pins σ H' { s with heap:=h',gens:=g',drawn:=d',toks:=t' }:=by
 obtain⟨m,⟨o,es,ep,ho,r⟩,_⟩:=id I.loc
 obtain⟨sl,hL⟩:=u.any ho I.free λz=>(hch _ z).2.1 rfl
 exact I.step (ch:=ch) hch (λb o hL hb hc e n=>u.keep b o e n (λz=>(j7.mp (I.stkSub b z)).elim hL hb) hc) (λb o _ _ hc e n=>u.any e n hc) (λb o hc e n=>u.free b o e n hc) (λb o hc e=>u.there b o e hc) u.tups u.frzs u.tbls (λm' hm=>by
  obtain⟨o',es',ep',ho',r'⟩:=hm
  rw[ho]at ho';cases ho'
  exact⟨_,es',ep',hL,r'⟩) hok hg
theorem Inv.turned {t':Nat}{it:Addr}(I:Inv X pins σ H s)(k:∀ b o,b≠it->s.heap.get? b=some o->h'.get? b=some o)(hn:H it=none)(hL:it≠X.env.locals)
 (h1:it∈X.ex\/X.s₀.heap.objs.size<=it) (h2:∀ x c,X.env.cells.lookup x=some c->c≠it) (h3:∀ p∈X.pn++pins,p.1≠it):Inv X pins σ H { s with heap:=h',toks:=t' }:=by
 have nit:∀ b u,H b=some u->b≠it:=λb u e z=>by rw[z,hn]at e;cases e
 refine I.step (g':=s.gens) (d':=s.drawn) (ch:=[it]) (λb hb=>?_) (λb o _ _ hc e _=>k b o (λz=>hc (by simp[z])) e) (λb o _ _ hc e _=>⟨o.slots,k b o (λz=>hc (by simp[z])) e⟩) (λ_ _ _ _ n=>n)
  (λb o hc e=>⟨o,k b o (λz=>hc (by simp[z])) e⟩) (λ_ _ e=>e) (λ_ _ _ e=>e) (λb ps e=>⟨#[],by rw[e];simp⟩) (λm hm=>?_) (λb u e=>?_) I.bare
 .have e:b=it:=by simpa using hb
  subst e
  exact⟨h1,hL,h2,h3⟩
 .obtain⟨o,es,ep,ho,r⟩:=hm
  exact⟨o,es,ep,k _ o (u03 hL) ho,r⟩
 .refine(I.hok b u e).stay (λc v hc q=>k c v ?_ q) (λ_ q=>q) λ_ _ q=>q
  rcases hc with z | z
  .rw[z];exact nit b u e
  .exact nit c _ z
theorem Inv.tok (I:Inv X pins σ H s)(t:Nat):Inv X pins σ H { s with toks:=t }:=I.un (h':=s.heap) (t':=t) Un.refl I.hok
theorem Inv.kept {t':Nat}(I:Inv X pins σ H s)(k:∀ b u,s.heap.get? b=some u->h'.get? b=some u):Inv X pins σ H { s with heap:=h',toks:=t' }:=I.un (Un.kept k) (I.hok.kept k)
theorem Inv.laid {a:Addr}{o:HO}{t':Nat}(I:Inv X pins σ H s)(k:∀ b u,s.heap.get? b=some u->h'.get? b=some u)(hp:s.heap.objs.size<=a)(new:yq X.prog X.w (upd H a o) h' a o) :
 Inv X pins σ (upd H a o) { s with heap:=h',toks:=t' }:=I.un (Un.laid k hp (I.hok.fresh hp)) (I.hok.laid k hp new)
theorem Inv.write {x e:Addr}{o:HO}{t':Nat}(I:Inv X pins σ H s)(mu:Mut (H x))(he:e=x\/H e=some (.own x))(k:∀ b u,b≠e->s.heap.get? b=some u->h'.get? b=some u)(heo:∃ u,h'.get? e=some u)
 (new:yq X.prog X.w (upd H x o) h' x o):Inv X pins σ (upd H x o) { s with heap:=h',toks:=t' }:=I.un (Un.write mu he k heo) (I.hok.write mu he k heo new)
theorem Inv.weak {σ':List (Option V)}(I:Inv X pins σ H s)(hl:σ'.length=σ.length)(w:∀ (i:Nat) v,σ'[i]?=some (some v)->σ[i]?=some (some v)):Inv X pins σ' H s :=
 ⟨I.ok,I.os,I.bare,I.base,let ⟨m,hn,hl'⟩:=I.loc;⟨m,hn,λi x v e1 e2 e3=>hl' i x v e1 (w i v e2) e3⟩,I.cell,I.free,I.freeC,I.pin,I.hok,hl.trans I.len⟩
theorem Inv.pins_of {pins':List (Addr × Obj)}(I:Inv X pins σ H s)(h:∀ p∈pins',s.heap.get? p.1=some p.2/\H p.1=none/\p.1≠X.env.locals/\p.1∉X.fs/\∀ v,p.2.data≠.cell v):Inv X pins' σ H s :=
 ⟨I.ok,I.os,I.bare,I.base,I.loc,I.cell,I.free,I.freeC,λp hp=>(o0.mp hp).elim (λz=>I.pin p (u2B _ z)) (h p),I.hok,I.len⟩
theorem zal {N:List Str}(hN:N.Nodup){i j:Nat}{x:Str}(a:N[i]?=some x)(b:N[j]?=some x):i=j:=by
 obtain⟨h1,e1⟩:=t7.mp a
 obtain⟨h2,e2⟩:=t7.mp b
 exact(List.getElem_inj hN).mp (e1.trans e2.symm)
theorem zgQ {M:Model}{A:Around}{E:Value->Shared->Prop}{i:Nat}{x:Str}{v:V}{u:Value}{Q:Unit->Shared->Prop}(I:Inv X pins σ H s)(hN:X.N.Nodup)(hi:X.N[i]?=some x)(hx:Loc X.env.scope x)(r:yI v u)
 (h:∀ s',Inv X pins (σ.set i (some v)) H s'->(∃ a,Heap.SameBut a s.heap s'.heap/\(a=X.env.locals\/X.env.cells.lookup x=some a))->Q () s') (hf:X.fn x=true\/X.env.scope.names.lookup x=some .local:=by first | exact .inl rfl | exact .inr rfl | assumption):wpAny M A (storeName X.env x u) Q E s:=by
 obtain⟨m,hn,hl⟩:=id I.loc
 have hcls:(X.env.scope.kind == .class||(X.env.scope.kind == .module&&X.env.locals != X.env.globals))=false:=by rw[I.ok.kind];rfl
 have hiσ:i < σ.length:=by rw[I.len];exact(t7.mp hi).1
 have cne:=I.cne
 have tracked:∀ {a:Addr} {h':Heap},(∃ o,s.heap.get? a=some o/\H a=none)->Heap.SameBut a s.heap h'->HOk X.prog X.w H h':=λ{a h'} ha hs b ob e=>by
  obtain⟨_,_,hfree⟩:=ha
  refine(I.hok b ob e).stay (λc w' hc q=>(hs.2 c ?_).trans q) (λ_ q=>q) λ_ _ q=>q
  rintro rfl
  rcases hc with rfl | hc
  .rw[hfree]at e;cases e
  .rw[hfree]at hc;cases hc
 rcases hx with hk | hk
 .refine wpAny_storeName_local hk hn (λh' hn' hs=>?_) hcls
  obtain⟨oL,_,_,hoL,_⟩:=id hn
  refine h _ ⟨I.ok,I.os,I.bare,⟨λb o e n hb hx=>?_,λb o e n hb hx=>?_,I.base.free,λb o e hx=>?_,I.base.tups,I.base.frzs,I.base.tbls⟩,⟨_,hn',λj y v' e1 e2 e3=>?_⟩,λy c e=>?_,I.free,I.freeC,λp hp=>?_,tracked ⟨oL,hoL,I.free⟩ hs,by simpa using I.len⟩ ⟨_,hs,.inl rfl⟩
  .exact(hs.2 b (d9 (d7 (j5 e) I.ok.above))).trans (I.base.keep b o e n hb hx)
  .obtain⟨sl,e1⟩:=I.base.slot b o e n hb hx
   exact⟨sl,(hs.2 b (d9 (d7 (j5 e) I.ok.above))).trans e1⟩
  .obtain⟨o',e1⟩:=I.base.there b o e hx
   exact⟨o',(hs.2 b (d9 (d7 (j5 e) I.ok.above))).trans e1⟩
  .by_cases hj:j=i
   .subst hj
    rw[hi]at e1;cases e1
    rw[i7 hiσ]at e2
    cases e2
    exact⟨u,r,.inl ⟨hk,by simp⟩⟩
   .rw[d4 (u03 hj)]at e2
    obtain⟨u',r',q⟩:=hl j y v' e1 e2 e3
    refine⟨u',r',?_⟩
    rcases q with ⟨k,e⟩ | ⟨k,c,e,z⟩
    .refine .inl ⟨k,?_⟩
     have:y≠x:=λe=>hj (zal hN e1 (e ▸ hi))
     simp[this,e]
    .exact .inr ⟨k,c,e,z.sameBut hs (cne y c e)⟩
  .obtain⟨w',z⟩:=I.cell y c e
   exact⟨w',z.sameBut hs (cne y c e)⟩
  .obtain⟨e,n,ne,nf,d⟩:=I.pin p hp
   exact⟨(hs.2 p.1 ne).trans e,n,ne,nf,d⟩
 .have hfn:X.fn x=true:=by
   rcases hf with z | z
   .exact z
   .rw[z]at hk;cases hk
  obtain⟨c,hc⟩:=I.ok.has x (.inl hk)
  obtain⟨w',z⟩:=I.cell x c hc
  refine wpAny_storeName_cell I.ok.kind hk hc z (λh' hc' hs=>?_)
  obtain⟨oc,hoc,hocd⟩:=id z
  refine h { s with heap:=h' } ⟨I.ok,I.os,I.bare,⟨λb o e n hb hx=>?_,λb o e n hb hx=>?_,I.base.free,λb o e hx=>?_,I.base.tups,I.base.frzs,I.base.tbls⟩,⟨m,hn.sameBut hs (u03 (cne x c hc)),λj y v' e1 e2 e3=>?_⟩,λy c' e=>?_,I.free,I.freeC,λp hp=>?_,tracked ⟨oc,hoc,I.freeC x c hc⟩ hs,by simpa using I.len⟩ ⟨c,hs,.inr hc⟩
  .exact(hs.2 b (d9 (d7 (j5 e) (I.ok.cab x c hfn hc)))).trans (I.base.keep b o e n hb hx)
  .obtain⟨sl,e1⟩:=I.base.slot b o e n hb hx
   exact⟨sl,(hs.2 b (d9 (d7 (j5 e) (I.ok.cab x c hfn hc)))).trans e1⟩
  .obtain⟨o',e1⟩:=I.base.there b o e hx
   exact⟨o',(hs.2 b (d9 (d7 (j5 e) (I.ok.cab x c hfn hc)))).trans e1⟩
  .by_cases hj:j=i
   .subst hj
    rw[hi]at e1;cases e1
    rw[i7 hiσ]at e2
    cases e2
    exact⟨u,r,.inr ⟨.inl hk,c,hc,hc'⟩⟩
   .rw[d4 (u03 hj)]at e2
    obtain⟨u',r',q⟩:=hl j y v' e1 e2 e3
    refine⟨u',r',?_⟩
    rcases q with q | ⟨k,c',e,z'⟩
    .exact .inl q
    .refine .inr ⟨k,c',e,z'.sameBut hs ?_⟩
     rintro rfl
     exact hj (zal hN e1 (I.ok.inj _ _ _ e hc ▸ hi))
  .by_cases hcc:c'=c
   .subst hcc;exact⟨_,hc'⟩
   .obtain⟨w2,z2⟩:=I.cell y c' e
    exact⟨w2,z2.sameBut hs hcc⟩
  .obtain⟨e,n,ne,nf,d⟩:=I.pin p hp
   refine⟨(hs.2 p.1 ?_).trans e,n,ne,nf,d⟩
   intro q
   rw[q,hoc]at e
   have q':oc=p.2:=p9 e
   exact d w' (by rw[<-q'];exact hocd)
theorem VE {M:Model}{A:Around}{E:Value->Shared->Prop}{i:Nat}{x:Str}{v:V}{u:Value}{Q:Unit->Shared->Prop}(I:Inv X pins σ H s)(hN:X.N.Nodup)(hi:X.N[i]?=some x)(hx:Loc X.env.scope x)(r:yI v u)
 (h:∀ s',Inv X pins (σ.set i (some v)) H s'->Q () s') (hf:X.fn x=true\/X.env.scope.names.lookup x=some .local:=by first | exact .inl rfl | exact .inr rfl | assumption):wpAny M A (storeName X.env x u) Q E s :=
 zgQ I hN hi hx r (λs' I' _=>h s' I') hf
theorem Inv.call' {s':Shared}{ch:List Addr}(I:Inv X pins σ H s)(ho:s'.os=s.os)(u:Un (frs X.stack) ch H H' s.heap s'.heap)(hok:HOk X.prog X.w H' s'.heap)(hg:AllBare s'.gens)
 (hch:∀ b∈ch,(b∈X.ex\/X.s₀.heap.objs.size<=b)/\b≠X.env.locals/\(∀ x c,X.env.cells.lookup x=some c->c≠b)/\∀ p∈X.pn++pins,p.1≠b):Inv X pins σ H' s':=by
 obtain⟨h',g',d',t',o'⟩:=s'
 have e:o'=s.os:=ho
 subst e
 exact I.call (g':=g') (t':=t') (d':=d') u hok hg hch
end
abbrev XK:=Value->Option Addr->Hp->Prop
abbrev St:=List (Option V)
abbrev VK:=V->Hp->Prop
abbrev TE:=St->Hp->VK->Prop
abbrev TT:=St->Hp->(Bool->Hp->Prop)->Prop
abbrev TA:=St->Hp->(List V->Hp->Prop)->Prop
structure zbW where
 nx:St->Hp->Prop
 rt:VK
 bk:St->Hp->Prop:=λ_ _=>False
 ct:St->Hp->Prop:=λ_ _=>False
abbrev TS:=zbW->St->Hp->Prop
def EP (X:Cx)(pins:List (Addr × Obj))(σ:St)(Q:VK)(u:Value)(s':Shared):Prop:=∃ v H',Inv X pins σ H' s'/\yI v u/\Q v H'
def TP (X:Cx)(pins:List (Addr × Obj))(σ:St)(Q:Bool->Hp->Prop)(b:Bool)(s':Shared):Prop:=∃ H',Inv X pins σ H' s'/\Q b H'
def AP (X:Cx)(pins:List (Addr × Obj))(σ:St)(Q:List V->Hp->Prop)(us:List Value)(s':Shared):Prop:=∃ vs H',Inv X pins σ H' s'/\yl vs us/\Q vs H'
def SP (X:Cx)(pins:List (Addr × Obj))(D:zbW)(f:Flow)(s':Shared):Prop :=
 match f with
 | .next=>∃ σ' H',Inv X pins σ' H' s'/\D.nx σ' H'
 | .brk=>∃ σ' H',Inv X pins σ' H' s'/\D.bk σ' H'
 | .cont=>∃ σ' H',Inv X pins σ' H' s'/\D.ct σ' H'
 | .ret u=>∃ v σ' H',Inv X pins σ' H' s'/\yI v u/\D.rt v H'
def PE (X:Cx)(e:Expr)(t:TE):Prop :=
 ∀ (pins:List (Addr × Obj)) (s:Shared) (σ:St) (H:Hp) (Q:VK),Inv X pins σ H s->t σ H Q->wpAny (model X.prog X.w) X.A (eval e X.env) (EP X pins σ Q) X.xe s
def PT (X:Cx)(e:Expr)(t:TT):Prop :=
 ∀ (pins:List (Addr × Obj)) (s:Shared) (σ:St) (H:Hp) (Q:Bool->Hp->Prop),Inv X pins σ H s->t σ H Q->wpAny (model X.prog X.w) X.A (isTrue e X.env (eval e X.env)) (TP X pins σ Q) X.xe s
def PW (X:Cx)(e:Expr)(t:TT):Prop :=
 ∀ (whole:Sem Value) (pins:List (Addr × Obj)) (s:Shared) (σ:St) (H:Hp) (Q:Bool->Hp->Prop),Inv X pins σ H s->t σ H Q->wpAny (model X.prog X.w) X.A (isTrue e X.env whole) (TP X pins σ Q) X.xe s
theorem PW.pt {X:Cx}{e:Expr}{t:TT}(h:PW X e t):PT X e t:=h _
def PA (X:Cx)(es:List Expr)(t:TA):Prop :=
 ∀ (pos:Pos) (pins:List (Addr × Obj)) (s:Shared) (σ:St) (H:Hp) (Q:List V->Hp->Prop),Inv X pins σ H s->t σ H Q->wpAny (model X.prog X.w) X.A (spliced (backTo pos (starEach es X.env))) (AP X pins σ Q) X.xe s
def PS (X:Cx)(st:Stmt)(t:TS):Prop :=
 ∀ (pins:List (Addr × Obj)) (s:Shared) (σ:St) (H:Hp) (D:zbW),Inv X pins σ H s->t D σ H->wpAny (model X.prog X.w) X.A (exec st X.env) (SP X pins D) X.xe s
def PSs (X:Cx)(st:List Stmt)(t:TS):Prop :=
 ∀ (pins:List (Addr × Obj)) (s:Shared) (σ:St) (H:Hp) (D:zbW),Inv X pins σ H s->t D σ H->wpAny (model X.prog X.w) X.A (execs st X.env) (SP X pins D) X.xe s
theorem thn {α:Type}{t:Sem α}{Q Q':α->Shared->Prop}{M:Model}{A:Around}{E:Value->Shared->Prop}{s:Shared}(h:wpAny M A t Q E s)(hQ:∀ a s,Q a s->Q' a s):wpAny M A t Q' E s:=u0v h hQ λ_ _ x=>x
section
variable {X:Cx}
theorem bin {a b:Expr}{ta tb:TE}(ha:PE X a ta)(hb:PE X b tb){pins:List (Addr × Obj)}{s:Shared}{σ:St}{H:Hp}{R:V->V->Hp->Prop}(I:Inv X pins σ H s)(h:ta σ H λx H1=>tb σ H1 λy H2=>R x y H2)
 {α:Type} {Q:α->Shared->Prop} {f:Value->Value->Sem α}
 (hf:∀ v u s2 x y H2,Inv X pins σ H2 s2->yI x v->yI y u->R x y H2->wpAny (model X.prog X.w) X.A (f v u) Q X.xe s2) :
 wpAny (model X.prog X.w) X.A (eval a X.env) (λv s₁=>wpAny (model X.prog X.w) X.A (eval b X.env) (λu s₂=>wpAny (model X.prog X.w) X.A (f v u) Q X.xe s₂) X.xe s₁) X.xe s:=by
 refine thn (ha pins s σ H _ I h) λv s1 hh9=>?_
 obtain⟨x,H1,I1,r1,q1⟩:=hh9
 refine thn (hb pins s1 σ H1 _ I1 q1) λu s2 hh9=>?_
 obtain⟨y,H2,I2,r2,q2⟩:=hh9
 exact hf v u s2 x y H2 I2 r1 r2 q2
def Vj (i:Nat):TE:=fun σ H Q=>∃ v,σ[i]?=some (some v)/\Q v H
def tC (v:V):TE:=λ_ H Q=>Q v H
theorem zlI {i:Nat} {x:Str} {pos:Pos} (hN:X.N[i]?=some x) (hv:Vis X.env.scope x) (hd:(x == ("__debug__":Str))=false:=by decide) (hcd:(x == ("__classdict__":Str))=false:=by decide):PE X (.Name x pos) (Vj i):=by
 intro pins s σ H Q I h
 obtain⟨v,e,h⟩:=h
 obtain⟨m,hn,hl⟩:=I.loc
 obtain⟨u,r,l⟩:=hl i x v hN e hv
 have fin:EP X pins σ Q u s:=⟨v,H,I,r,h⟩
 rcases l with ⟨hk,hm⟩ | ⟨hk,c,hc,hcell⟩
 .exact wpAny_Name (wpAny_loadName_local I.ok.kind hk hn hm fin) hd
 .rcases hk with hk | hk
  .exact wpAny_Name (wpAny_loadName_cell I.ok.kind hk hc hcell fin) hd
  .exact wpAny_Name (wpAny_loadName_free I.ok.kind hk hc hcell fin hcd) hd
theorem zj {i j pos}:PE X (.Constant (.int i) j pos) (tC (.int i)):=λ_ _ _ H _ I h=>wpAny_Constant_int ⟨.int i,H,I.tok _,⟨_,rfl⟩,h⟩
theorem vT {b j pos}:PE X (.Constant (.bool b) j pos) (tC (.bl b)):=λ_ _ _ H _ I h=>Constant_bool ⟨.bl b,H,I,rfl,h⟩
theorem zaG {j pos}:PE X (.Constant .none j pos) (tC .non):=λ_ _ _ H _ I h=>Constant_none ⟨.non,H,I,rfl,h⟩
def Gl (X:Cx)(x:Str):Prop:=X.env.kindOf x=some .globalImplicit
theorem WE {E:Value->Shared->Prop}{pins:List (Addr × Obj)}{s:Shared}{σ:St}{H:Hp}{x:Str}{u:Value}{pos:Pos}{Q:Value->Shared->Prop}(I:Inv X pins σ H s)(hg:Gl X x)(hm:X.mg x=some u)(h:Q u s)
 (hd:(x == ("__debug__":Str))=false:=by decide):wpAny (model X.prog X.w) X.A (eval (.Name x pos) X.env) Q E s :=
 Calls.Name_function_global I.ok.kind hg (Calls.loadGlobal_global (by rw[I.ok.glob];exact I.mod.glob.keeps I.bk) hm h) hd
theorem Wo {E:Value->Shared->Prop}{pins:List (Addr × Obj)}{s:Shared}{σ:St}{H:Hp}{x:Str}{u:Value}{pos:Pos}{Q:Value->Shared->Prop}(I:Inv X pins σ H s)(hg:Gl X x)(hm:X.mg x=none)(hv:bootBuiltins x=some u)(h:Q u s)
 (hn:x≠"__name__":=by decide) (hd:(x == ("__debug__":Str))=false:=by decide):wpAny (model X.prog X.w) X.A (eval (.Name x pos) X.env) Q E s:=by
 obtain⟨mb,h1,h2⟩:=I.mod.blt
 exact Calls.Name_function_global I.ok.kind hg (Calls.loadGlobal_builtin (by rw[I.ok.glob];exact I.mod.glob.keeps I.bk) hm (by rw[I.ok.blt];exact h1.keeps I.bk) ((h2 x hn).trans hv) h) hd
theorem yF {x:Str} {v:V} {u:Value} {pos:Pos} (hg:Gl X x) (hm:X.mg x=some u) (r:yI v u) (hd:(x == ("__debug__":Str))=false:=by decide):PE X (.Name x pos) (tC v) :=
 λ_ _ _ H _ I h=>WE I hg hm ⟨v,H,I,r,h⟩ hd
theorem yD {x:Str} {v:V} {u:Value} {pos:Pos} (hg:Gl X x) (hm:X.mg x=none) (hv:bootBuiltins x=some u) (r:yI v u) (hn:x≠"__name__":=by decide) (hd:(x == ("__debug__":Str))=false:=by decide):PE X (.Name x pos) (tC v) :=
 λ_ _ _ H _ I h=>Wo I hg hm hv ⟨v,H,I,r,h⟩ hn hd
variable {a b:Expr}{ta tb:TE}{pos:Pos}
def PC (X:Cx)(op:CmpOp)(a b:Expr)(t:TE):Prop :=
 ∀ (pins:List (Addr × Obj)) (s:Shared) (σ:St) (H:Hp) (Q:VK),Inv X pins σ H s->t σ H Q ->
  wpAny (model X.prog X.w) X.A (eval a X.env) (λv s₁=>wpAny (model X.prog X.w) X.A (eval b X.env) (λu s₂=>wpAny (model X.prog X.w) X.A (compareOp op v u) (EP X pins σ Q) X.xe s₂) X.xe s₁) X.xe s
theorem zhB (b:Expr){op:CmpOp}(h:op≠.In)(h2:op≠.NotIn):behindInMarks op b=false:=by
 have e1:(op == CmpOp.In)=false:=by cases op <;> first | rfl | exact absurd rfl h
 have e2:(op == CmpOp.NotIn)=false:=by cases op <;> first | rfl | exact absurd rfl h2
 cases b <;> simp[behindInMarks,e1,e2]
def tB (t:TE):TT:=fun σ H Q=>t σ H λx H1=>∃ c,x=.bl c/\Q c H1
theorem pt_cmp {op:CmpOp}{t:TE}(h:PC X op a b t)(h1:behindInMarks op b=false:=by first | exact zhB _ (by decide) (by decide) | rfl):PT X (.Compare a [op] [b] pos) (tB t):=by
 intro pins s σ H Q I hw
 refine wpAny_isTrue_Compare1 (thn (h pins s σ H _ I hw) λv s1 h1=>thn h1 λu s2 h2=>thn h2 λc s3 hh9=>?_) h1
 obtain⟨x,H1,I1,r1,q1⟩:=hh9
 obtain⟨d,rfl,q⟩:=q1
 cases r1
 exact u0R ⟨H1,I1,q⟩
theorem zi7 {e:Expr}{t:TE}(h:PE X e t)(he:∀ whole,isTrue e X.env whole=(do let v<-whole;standAt e.pos;holding [v] (truthy v)):=by intro _;rfl):PT X e (tB t):=by
 intro pins s σ H Q I hw
 refine isTrue_plain (thn (h pins s σ H _ I hw) λv s1 hh9=>?_) (he _)
 obtain⟨x,H1,I1,r1,q1⟩:=hh9
 obtain⟨d,rfl,q⟩:=q1
 cases r1
 exact u0R ⟨H1,I1,q⟩
variable {tA tB':TT}{rest:List Expr}
def tAnd (t u:TT):TT:=fun σ H Q=>t σ H λc H1=>if c=true then u σ H1 Q else Q false H1
def tOr (t u:TT):TT:=fun σ H Q=>t σ H λc H1=>if c=true then Q true H1 else u σ H1 Q
def tNot (t:TT):TT:=fun σ H Q=>t σ H λc H1=>Q (!c) H1
theorem zkw (ha:PT X a tA):PW X (.BoolOp .And [a] pos) tA:=by
 intro wh pins s σ H Q I h
 refine isTrue_and (thn (ha pins s σ H Q I h) λc s1 e=>?_)
 cases c with
 | true=>exact isTrue_and_nil e
 | false=>exact e
theorem zi6 (ha:PT X a tA):PW X (.BoolOp .Or [a] pos) tA:=by
 intro wh pins s σ H Q I h
 refine isTrue_or (thn (ha pins s σ H Q I h) λc s1 e=>?_)
 cases c with
 | false=>exact isTrue_or_nil e
 | true=>exact e
theorem zmd (ha:PT X a tA)(hb:PW X (.BoolOp .And (b::rest) pos) tB'):PW X (.BoolOp .And (a::b::rest) pos) (tAnd tA tB'):=by
 intro wh pins s σ H Q I h
 refine isTrue_and (thn (ha pins s σ H _ I h) λc s1 hh9=>?_)
 obtain⟨H1,I1,q1⟩:=hh9
 cases c with
 | true=>exact hb wh pins s1 σ H1 Q I1 q1
 | false=>exact⟨H1,I1,q1⟩
theorem zlO (ha:PT X a tA)(hb:PW X (.BoolOp .Or (b::rest) pos) tB'):PW X (.BoolOp .Or (a::b::rest) pos) (tOr tA tB'):=by
 intro wh pins s σ H Q I h
 refine isTrue_or (thn (ha pins s σ H _ I h) λc s1 hh9=>?_)
 obtain⟨H1,I1,q1⟩:=hh9
 cases c with
 | true=>exact⟨H1,I1,q1⟩
 | false=>exact hb wh pins s1 σ H1 Q I1 q1
theorem ziU (ha:PT X a tA):PT X (.UnaryOp .Not a pos) (tNot tA):=by
 intro pins s σ H Q I h
 exact isTrue_not (ha pins s σ H (λc H1=>Q (!c) H1) I h)
def zno (ta tb:TE):TE:=fun σ H Q=>ta σ H λx H1=>∃ c,x=.bl c/\if c=true then tb σ H1 Q else Q (.bl false) H1
def zn1 (ta:TE):TE:=fun σ H Q=>ta σ H λx H1=>∃ c,x=.bl c/\Q (.bl (!c)) H1
theorem zl1 {op}{t:TE}(h:PE X a t):PE X (.BoolOp op [a] pos) t:=λpins s σ H Q I hw=>BoolOp_one (h pins s σ H Q I hw)
theorem zmn (ha:PE X a ta)(hb:PE X (.BoolOp .And (b::rest) pos) tb):PE X (.BoolOp .And (a::b::rest) pos) (zno ta tb):=by
 intro pins s σ H Q I h
 refine BoolOp_and (thn (ha pins s σ H _ I h) λv s1 hh9=>?_)
 obtain⟨x,H1,I1,r1,q1⟩:=hh9
 obtain⟨c,rfl,q1⟩:=q1
 cases r1
 refine u0R ?_
 cases c with
 | true=>exact hb pins s1 σ H1 Q I1 q1
 | false=>exact⟨.bl false,H1,I1,rfl,q1⟩
theorem zlk (ha:PE X a ta):PE X (.UnaryOp .Not a pos) (zn1 ta):=by
 intro pins s σ H Q I h
 refine UnaryOp_ (thn (ha pins s σ H _ I h) λv s1 hh9=>?_)
 obtain⟨x,H1,I1,r1,q1⟩:=hh9
 obtain⟨c,rfl,q1⟩:=q1
 cases r1
 exact not_of (u0R ⟨.bl (!c),H1,I1,rfl,q1⟩)
end
def SqL (K:W.Frag)(H:Hp)(a:Addr)(xs:List V):Prop :=
 Rd H a (.lst xs) \/
  ∃ (o:Obj) (its:Array Value) (n:Nat),K.lookup a=some o/\o.cls=.type "list"/\o.dict=none/\o.data=.seq its n/\its.size<=sizeLine/\yl xs its.toList
def SqT (K:W.Frag)(H:Hp)(a:Addr)(xs:List V):Prop :=
 Rd H a (.tup xs) \/
  ∃ (o:Obj) (its:Array Value) (n:Nat),K.lookup a=some o/\o.cls=.type "tuple"/\o.data=.seq its n/\its.size<=sizeLine/\yl xs its.toList
def absV:Value->Option V
 | .none=>some .non
 | .bool b=>some (.bl b)
 | .int i _=>some (.int i)
 | .str x _=>some (.str x)
 | .bytes b _=>some (.byt b)
 | .float b _=>some (.flt b)
 | .ref a=>some (.ref a)
 | .type n=>some (.ty n)
 | _=>none
theorem yI.abs {x:V}{u:Value}(r:yI x u):absV u=some x:=by
 cases x with
 | non=>cases r;rfl
 | bl _=>cases r;rfl
 | int _=>obtain⟨t,rfl⟩:=r;rfl
 | str _=>obtain⟨t,rfl⟩:=r;rfl
 | byt _=>obtain⟨t,rfl⟩:=r;rfl
 | flt _=>obtain⟨t,rfl⟩:=r;rfl
 | ref _=>cases r;rfl
 | ty _=>cases r;rfl
theorem yI.inj {x y:V}{u:Value}(r:yI x u)(q:yI y u):x=y:=p9 (r.abs.symm.trans q.abs)
theorem yl.inj:∀ {xs ys:List V} {us:List Value},yl xs us->yl ys us->xs=ys:=by
 intro xs ys us h
 induction h generalizing ys with
 | nil=>intro h2;cases h2;rfl
 | cons r t ih=>intro h2;cases h2 with | cons r' t'=>rw[r.inj r',ih t']
section
variable {X:Cx}{pins:List (Addr × Obj)}{σ:St}{H:Hp}{s:Shared}{a:Addr}{xs ys:List V}
theorem SqL.of {K:W.Frag}(h:H a=some (.lst xs)):SqL K H a xs:=.inl (.inl h)
theorem SqT.of {K:W.Frag}(h:H a=some (.tup xs)):SqT K H a xs:=.inl (.inl h)
theorem Inv.list (I:Inv X pins σ H s)(h:SqL X.K H a xs):∃ its:List Value,yl xs its/\PlainL s.heap a its.toArray/\xs.length<=sizeLine:=by
 rcases h with h | ⟨o,its,n,hk,hc,hd,hs,hz,r⟩
 .obtain⟨z,its,n,r,e⟩:=h.ok I.hok
  exact⟨its,r,⟨_,n,e,rfl,rfl,rfl⟩,z⟩
 .refine⟨its.toList,r,⟨o,n,I.kIn a o hk,hc,hd,by simpa using hs⟩,?_⟩
  have e:=r.length
  simp only[j8]at e
  omega
theorem Inv.tuple (I:Inv X pins σ H s)(h:SqT X.K H a xs):∃ its:List Value,yl xs its/\IsTup s.heap a its.toArray/\xs.length<=sizeLine:=by
 rcases h with h | ⟨o,its,n,hk,hc,hs,hz,r⟩
 .obtain⟨z,its,r,p⟩:=h.ok I.hok
  exact⟨its,r,p,z⟩
 .refine⟨its.toList,r,⟨o,I.kIn a o hk,hc,n,by simpa using hs⟩,?_⟩
  have e:=r.length
  simp only[j8]at e
  omega
theorem Inv.list_inj (I:Inv X pins σ H s)(h:SqL X.K H a xs)(h':SqL X.K H a ys):xs=ys:=by
 obtain⟨its,r,⟨o,n,e,_,_,d⟩,_⟩:=I.list h
 obtain⟨its',r',⟨o',n',e',_,_,d'⟩,_⟩:=I.list h'
 rw[e]at e';cases e'
 rw[d]at d'
 injection d' with d1 _
 have:its=its':=by simpa using u05 Array.toList d1
 subst this
 exact r.inj r'
theorem Inv.tuple_inj (I:Inv X pins σ H s)(h:SqT X.K H a xs)(h':SqT X.K H a ys):xs=ys:=by
 obtain⟨its,r,⟨o,e,_,n,d⟩,_⟩:=I.tuple h
 obtain⟨its',r',⟨o',e',_,n',d'⟩,_⟩:=I.tuple h'
 rw[e]at e';cases e'
 rw[d]at d'
 injection d' with d1 _
 have:its=its':=by simpa using u05 Array.toList d1
 subst this
 exact r.inj r'
end
abbrev Cx.wish (X:Cx)(E:Value->Shared->Prop):Cx:={ X with xe:=E }
abbrev Cx.nox (X:Cx):Cx:=X.wish λ_ _=>False
theorem Cx.Ok.wish {X:Cx}(ok:X.Ok)(E:Value->Shared->Prop):(X.wish E).Ok :=
 ⟨ok.mod,ok.kind,ok.glob,ok.blt,ok.above,ok.inj,ok.has,ok.cab,ok.hd,ok.frames,ok.stk,ok.exf,ok.bs,ok.bsz,ok.noex,ok.exfs,ok.funs,ok.frf⟩
theorem Cx.Ok.unwish {X:Cx}{E:Value->Shared->Prop}(ok:(X.wish E).Ok):X.Ok :=
 ⟨ok.mod,ok.kind,ok.glob,ok.blt,ok.above,ok.inj,ok.has,ok.cab,ok.hd,ok.frames,ok.stk,ok.exf,ok.bs,ok.bsz,ok.noex,ok.exfs,ok.funs,ok.frf⟩
section
variable {X:Cx}{pins:List (Addr × Obj)}{σ:St}{H:Hp}{s:Shared}{E:Value->Shared->Prop}
theorem Inv.wish (I:Inv X pins σ H s)(E:Value->Shared->Prop):Inv (X.wish E) pins σ H s:=⟨I.ok.wish E,I.os,I.bare,I.base,I.loc,I.cell,I.free,I.freeC,I.pin,I.hok,I.len⟩
theorem Inv.unwish (I:Inv (X.wish E) pins σ H s):Inv X pins σ H s:=⟨I.ok.unwish,I.os,I.bare,I.base,I.loc,I.cell,I.free,I.freeC,I.pin,I.hok,I.len⟩
theorem SP.unwish {D:zbW}{f:Flow}{s':Shared}(h:SP (X.wish E) pins D f s'):SP X pins D f s':=by
 cases f with
 | next=>obtain⟨σ',H',I,q⟩:=h;exact⟨σ',H',I.unwish,q⟩
 | brk=>obtain⟨σ',H',I,q⟩:=h;exact⟨σ',H',I.unwish,q⟩
 | cont=>obtain⟨σ',H',I,q⟩:=h;exact⟨σ',H',I.unwish,q⟩
 | ret u=>obtain⟨v,σ',H',I,r,q⟩:=h;exact⟨v,σ',H',I.unwish,r,q⟩
theorem PSs.nox {st:List Stmt}{t:TS}(h:PSs X.nox st t):PSs X st t:=λpins s σ H D I hw =>
 u0v (h pins s σ H D (I.wish _) hw) (λ_ _ q=>q.unwish) λ_ _ z=>False.elim z
end
section
variable {X:Cx}{st:Stmt}{rest:List Stmt}{t u:TS}{e:Expr}{te:TE}{pos:Pos}
def zk8:TS:=λD σ H=>D.nx σ H
def zog (t u:TS):TS:=λD σ H=>t { D with nx:=u D } σ H
theorem zfP:PSs X [] zk8:=λ_ _ σ H _ I h=>u2k ⟨σ,H,I,h⟩
theorem wl (h1:PS X st t)(h2:PSs X rest u):PSs X (st::rest) (zog t u):=by
 intro pins s σ H D I h
 refine wpAny_execs_cons (thn (h1 pins s σ H { D with nx:=u D } I h) λf s1 q=>?_)
 cases f with
 | next =>
  obtain⟨σ',H',I',q⟩:=q
  exact h2 pins s1 σ' H' D I' q
 | ret v=>exact q
 | brk=>exact q
 | cont=>exact q
theorem Xk (h1:PS X st t):PSs X [st] t:=by
 intro pins s σ H D I h
 refine wpAny_execs_cons (thn (h1 pins s σ H D I h) λf s1 q=>?_)
 cases f with
 | next=>exact u2k q
 | ret v=>exact q
 | brk=>exact q
 | cont=>exact q
theorem Inv.quiet {pins:List (Addr × Obj)}{σ:St}{H:Hp}{s:Shared}(I:Inv X pins σ H s):interactive X.env=false:=by simp[interactive,I.ok.kind]
def zoe (te:TE):TS:=λD σ H=>te σ H λ_ H1=>D.nx σ H1
theorem VL (he:PE X e te)(hs:swapsWith e none pos.line X.env=pure false:=by rfl):PS X (.Expr e pos) (zoe te):=by
 intro pins s σ H D I h
 exact wpAny_Expr_any (thn (he pins s σ H _ I h) λv s1 ⟨x,H1,I1,r1,q1⟩=>⟨σ,H1,I1,q1⟩) I.quiet hs
def znC (te:TE):TS:=λD σ H=>te σ H D.rt
theorem zaV (he:PE X e te):PS X (.Return (some e) pos) (znC te):=by
 intro pins s σ H D I h
 exact wpAny_Return_some (thn (he pins s σ H _ I h) λv s1 ⟨x,H1,I1,r1,q1⟩=>⟨x,σ,H1,I1,r1,q1⟩)
def tIfS (c:TT)(t u:TS):TS:=λD σ H=>c σ H λb H1=>if b=true then t D σ H1 else u D σ H1
theorem zjN {c:Expr}{a b:List Stmt}{tc:TT}(hc:PT X c tc)(ha:PSs X a t)(hb:PSs X b u):PS X (.If c a b pos) (tIfS tc t u):=by
 intro pins s σ H D I h
 refine wpAny_If (thn (hc pins s σ H _ I h) λd s1 hh9=>?_)
 obtain⟨H1,I1,q1⟩:=hh9
 cases d with
 | true=>exact ha pins s1 σ H1 D I1 q1
 | false=>exact hb pins s1 σ H1 D I1 q1
def zly:TS:=λ_ _ _=>False
theorem zdh:PS X st zly:=λ_ _ _ _ _ _ h=>h.elim
end
abbrev TG:=V->St->Hp->(St->Hp->Prop)->Prop
abbrev TGs:=List V->St->Hp->(St->Hp->Prop)->Prop
def PG (X:Cx)(target:Expr)(t:TG):Prop :=
 ∀ (pins:List (Addr × Obj)) (s:Shared) (σ:St) (H:Hp) (v:V) (u:Value) (Q:St->Hp->Prop),Inv X pins σ H s->yI v u->t v σ H Q ->
  wpAny (model X.prog X.w) X.A (assign target X.env u) (λ_ s'=>∃ σ' H',Inv X pins σ' H' s'/\Q σ' H') X.xe s
def PGs (X:Cx)(ts:List Expr)(t:TGs):Prop :=
 ∀ (pins:List (Addr × Obj)) (s:Shared) (σ:St) (H:Hp) (vs:List V) (us:List Value) (Q:St->Hp->Prop),Inv X pins σ H s->yl vs us->t vs σ H Q ->
  wpAny (model X.prog X.w) X.A (assignInOrder ((assignEach ts X.env).map (·.2)) us) (λ_ s'=>∃ σ' H',Inv X pins σ' H' s'/\Q σ' H') X.xe s
abbrev zoc:=V->V->V->Hp->(Hp->Prop)->Prop
def PSet (X:Cx)(t:zoc):Prop :=
 ∀ (pins:List (Addr × Obj)) (s:Shared) (σ:St) (H:Hp) (o i v:V) (ov iv u:Value) (Q:Hp->Prop),Inv X pins σ H s->yI o ov->yI i iv->yI v u->t o i v H Q ->
  wpAny (model X.prog X.w) X.A (setItem ov iv u) (λ_ s'=>∃ H',Inv X pins σ H' s'/\Q H') X.xe s
section
variable {X:Cx}{pos:Pos}
def Zy (i:Nat):TG:=λv σ H Q=>Q (σ.set i (some v)) H
theorem zC {i:Nat}{x:Str}(hN:X.N.Nodup)(hi:X.N[i]?=some x)(hx:Loc X.env.scope x)(hf:X.fn x=true\/X.env.scope.names.lookup x=some .local:=by first | exact .inl rfl | exact .inr rfl | assumption):PG X (.Name x pos) (Zy i):=by
 intro pins s σ H v u Q I r h
 exact wpAny_assign_Name (VE I hN hi hx r (λs' I'=>⟨_,H,I',h⟩) hf)
def znf:TGs:=λvs σ H Q=>vs=[]/\Q σ H
def zcn (t:TG)(u:TGs):TGs:=λvs σ H Q=>∃ v r,vs=v::r/\t v σ H fun σ' H'=>u r σ' H' Q
theorem zf0:PGs X [] znf:=by
 intro pins s σ H vs us Q I r h
 obtain⟨e,h⟩:=h
 subst e
 cases r
 exact assignInOrder_nil ⟨σ,H,I,h⟩
theorem zag {e:Expr}{es:List Expr}{t:TG}{u:TGs}(h1:PG X e t)(h2:PGs X es u)
 (hs:(assignEach (e::es) X.env).map (·.2)=assign e X.env::(assignEach es X.env).map (·.2):=by rfl):PGs X (e::es) (zcn t u):=by
 intro pins s σ H vs us Q I r h
 obtain⟨v,vr,e1,h⟩:=h
 subst e1
 cases r with
 | cons r rr =>
  rw[hs]
  refine assignInOrder_cons (thn (h1 pins s σ H _ _ _ I r h) λ_ s1 hh9=>?_)
  obtain⟨σ1,H1,I1,q1⟩:=hh9
  exact h2 pins s1 σ1 H1 _ _ Q I1 rr q1
def zm9 (K:W.Frag)(n:Nat)(t:TGs):TG:=λv σ H Q=>∃ a xs,v=.ref a/\SqT K H a xs/\xs.length=n/\t xs σ H Q
theorem zje {es:List Expr}{k:Nat}{t:TGs}{n:Nat}(hc:X.calm=true)(h:PGs X es t)
 (hn:(assignEach es X.env).length=n:=by rfl) (hst:(assignEach es X.env).findIdx? (·.1)=none:=by rfl):PG X (.Tuple es k pos) (zm9 X.K n t):=by
 intro pins s σ H v u Q I r hw
 obtain⟨a,xs,e1,hq,hl,hw⟩:=hw
 subst e1
 cases r
 obtain⟨its,rv,ht,hz⟩:=I.tuple hq
 refine assign_Tuple_tuple (I.ok.hd hc) ht (by simp[hn,<- hl,rv.length]) hst λh' hx=>?_
 have I1:Inv X pins σ H { s with heap:=h' }:=I.kept (t':=s.toks) λb o e=>hx b o (d9 (j5 e)) e
 exact h pins _ σ H xs _ Q I1 (by simpa using rv) hw
def gSub (to ti:TE)(t:zoc):TG:=λv σ H Q=>to σ H λo H1=>ti σ H1 λi H2=>t o i v H2 λH3=>Q σ H3
theorem zlr {o i:Expr}{to ti:TE}{t:zoc}(ho:PE X o to)(hi:PE X i ti)(hs:PSet X t)
 (ha:∀ v,assign (.Subscript o i pos) X.env v=(do
  let ov<-holding [v] (eval o X.env)
  let iv<-holding [v,ov] (eval i X.env)
  standAt pos
  holding [v,ov,iv] (setItem ov iv v)
  release [v,ov,iv] []):=by intro _;rfl):PG X (.Subscript o i pos) (gSub to ti t):=by
 intro pins s σ H v u Q I r h
 rw[ha]
 refine u0 (u0n (thn (ho pins s σ H _ I h) λov s1 hh9=>?_))
 obtain⟨x,H1,I1,r1,q1⟩:=hh9
 refine u0 (u0n (thn (hi pins s1 σ H1 _ I1 q1) λiv s2 hh9=>?_))
 obtain⟨y,H2,I2,r2,q2⟩:=hh9
 refine u0 (u2I (u0 (u0n (thn (hs pins s2 σ H2 x y v ov iv u _ I2 r1 r2 r q2) λ_ s3 hh9=>?_))))
 obtain⟨H3,I3,q3⟩:=hh9
 exact wpAny_release ⟨σ,H3,I3,q3⟩
def zna (te:TE)(g:TG):TS:=λD σ H=>te σ H λx H1=>g x σ H1 D.nx
theorem zk9 {tg e:Expr}{te:TE}{g:TG}(he:PE X e te)(hg:PG X tg g)(hs:swapsWithSole [tg] e pos.line X.env=pure false:=by rfl)(hw:swappedStores [tg] e X.env=pure none:=by rfl)
 (h1:(assignEach [tg] X.env).map (·.2)=[assign tg X.env]:=by rfl):PS X (.Assign [tg] e pos) (zna te g):=by
 intro pins s σ H D I h
 refine wpAny_Assign_stores (thn (he pins s σ H _ I h) λv s1 hh9=>?_) hs hw
 obtain⟨x,H1,I1,r1,q1⟩:=hh9
 rw[h1]
 exact thn (hg pins s1 σ H1 x v _ I1 r1 q1) λ_ s2 q=>q
theorem Xy {i:Nat}{x:Str}{e:Expr}{te:TE}{pos':Pos}(hN:X.N.Nodup)(hi:X.N[i]?=some x)(hx:Loc X.env.scope x)(he:PE X e te)(hs:swapsWith e (some (.Name x pos')) pos.line X.env=pure false:=by rfl)(hf:X.fn x=true\/X.env.scope.names.lookup x=some .local:=by first | exact .inl rfl | exact .inr rfl | assumption) :
 PS X (.Assign [.Name x pos'] e pos) (zna te (Zy i)):=by
 intro pins s σ H D I h
 refine wpAny_Assign_Name (thn (he pins s σ H _ I h) λv s1 hh9=>?_) hs
 obtain⟨y,H1,I1,r1,q1⟩:=hh9
 exact VE I1 hN hi hx r1 (λs2 I2=>⟨_,H1,I2,q1⟩) hf
def zlf (c:TT)(tb:TS):TS:=λD σ H=>∃ W:Nat->St->Hp->Prop,(∃ m,W m σ H)/\∀ m σ H,W m σ H ->
 c σ H λb H1=>if b=true then ∃ N:St->Hp->Prop,(∀ σ' H',N σ' H'->∃ m',m' < m/\W m' σ' H')/\tb { D with nx:=N,ct:=N,bk:=D.nx } σ H1 else D.nx σ H1
theorem ziA {c:Expr}{body:List Stmt}{tc:TT}{tb:TS}(hp:PassesOwn (model X.prog X.w) X.A X.env X.xe)(hc:PT X c tc)(hb:PSs X body tb):PS X (.While c body [] pos) (zlf tc tb):=by
 intro pins s σ H D I h
 obtain⟨W,⟨m0,w0⟩,turn⟩:=h
 refine wpAny_While (codeAny_whileLoop (λn s'=>∃ σ' H',Inv X pins σ' H' s'/\W n σ' H') ?_ m0 ⟨σ,H,I,w0⟩)
 rintro n s1 ⟨σ1,H1,I1,w1⟩
 refine u1w hp (thn (hc pins s1 σ1 H1 _ I1 (turn n σ1 H1 w1)) λb s2 hh9=>?_)
 obtain⟨H2,I2,q2⟩:=hh9
 cases b with
 | true =>
  obtain⟨N,hN,q2⟩:=q2
  rw[t9 rfl]
  refine u1w hp (thn (hb pins s2 σ1 H2 _ I2 q2) λf s3 q3=>?_)
  cases f with
  | next =>
   obtain⟨σ3,H3,I3,n3⟩:=q3
   obtain⟨m',hm,w3⟩:=hN σ3 H3 n3
   exact⟨m',hm,σ3,H3,I3,w3⟩
  | cont =>
   obtain⟨σ3,H3,I3,n3⟩:=q3
   obtain⟨m',hm,w3⟩:=hN σ3 H3 n3
   exact⟨m',hm,σ3,H3,I3,w3⟩
  | brk=>exact q3
  | ret v=>exact q3
 | false =>
  rw[j0 u6]
  exact u2k ⟨σ1,H2,I2,q2⟩
end
structure It where
 go:Nat->Hp->Prop
 yld:Nat->Hp->V->Hp->Prop
 stop:Nat->Hp->Prop
def zbU (X:Cx)(pins:List (Addr × Obj))(H:Hp)(b:Addr):Prop :=
 H b=none/\b≠X.env.locals/\b∉X.fs/\(b∈X.ex\/X.s₀.heap.objs.size<=b)/\(∀ x c,X.env.cells.lookup x=some c->c≠b)/\∀ p∈X.pn++pins,p.1≠b
theorem Inv.fpOk {X:Cx}{pins:List (Addr × Obj)}{σ:St}{H H':Hp}{s:Shared}{b:Addr}(I:Inv X pins σ H s)(hb:s.heap.objs.size<=b)(hn:H' b=none):zbU X pins H' b:=by
 refine⟨hn,u17 (d7 I.lt hb),I.nofs hb,.inr (i3 I.sz hb),λx c e z=>?_,λp hp z=>?_⟩
 .obtain⟨v,q⟩:=I.cell x c e
  exact absurd (d7 q.lt (by rw[z];exact hb)) (u0K _)
 .exact absurd (d7 (j5 (I.pin p hp).1) (by rw[z];exact hb)) (u0K _)
structure ziY (P:Program) (w:World) (K:W.Frag) (tg:Expr) (J:It) (fp:List Addr) (it:Addr) (tn:Nat->Heap->Prop):Prop where
 mem:it∈fp
 obj:∀ i h,tn i h->∀ b∈fp,∃ o,h.get? b=some o/\∀ v,o.data≠.cell v
 keep:∀ i h h',tn i h->(∀ b∈fp,∀ o,h.get? b=some o->h'.get? b=some o)->tn i h'
 item:∀ (X:Cx),X.prog=P->X.w=w->X.K=K->X.calm=true->∀ (i:Nat) (pins:List (Addr × Obj)) (s:Shared) (σ:St) (H:Hp) (E:Value->Shared->Prop),Inv X pins σ H s->(∀ b∈fp,zbU X pins H b)->tn i s.heap->J.go i H ->
  wpAny (model P w) X.A (pyNext (.ref it)) (λr s1=>∃ u,r=some u /\
   wpAny (model P w) X.A (letOwnedTupleGo tg (.ref it) u) (λ_ s2=>∃ x H',Inv X pins σ H' s2/\yI x u/\J.yld i H x H'/\tn (i+1) s2.heap/\∀ b∈fp,H' b=none) E s1) E s
 done:∀ (X:Cx),X.prog=P->X.w=w->X.K=K->X.calm=true->∀ (i:Nat) (pins:List (Addr × Obj)) (s:Shared) (σ:St) (H:Hp) (E:Value->Shared->Prop),Inv X pins σ H s->(∀ b∈fp,zbU X pins H b)->tn i s.heap->J.stop i H ->
  wpAny (model P w) X.A (pyNext (.ref it)) (λr s1=>r=none/\Inv X pins σ H s1) E s
 self:∀ (A:Around) (i:Nat) (s:Shared) (Q:Value->Shared->Prop) (E:Value->Shared->Prop),tn i s.heap->Q (.ref it) s->wpAny (model P w) A (pyIter (.ref it)) Q E s
abbrev TI:=St->Hp->(It->Hp->Prop)->Prop
def PIE (X:Cx)(pins:List (Addr × Obj))(σ:St)(tg:Expr)(R:It->Hp->Prop)(itv:Value)(s2:Shared):Prop :=
 ∃ (it:Addr) (fp:List Addr) (tn:Nat->Heap->Prop) (J:It) (H':Hp),itv=.ref it/\Inv X pins σ H' s2/\ziY X.prog X.w X.K tg J fp it tn/\tn 0 s2.heap/\(∀ b∈fp,zbU X pins H' b)/\R J H'
def PI (X:Cx)(tg iter:Expr)(wi:TI):Prop :=
 ∀ (pins:List (Addr × Obj)) (s:Shared) (σ:St) (H:Hp) (R:It->Hp->Prop),Inv X pins σ H s->wi σ H R ->
  wpAny (model X.prog X.w) X.A (eval iter X.env) (λv s1=>wpAny (model X.prog X.w) X.A (pyIter v) (PIE X pins σ tg R) X.xe s1) X.xe s
theorem zig {M:Model}{A:Around}{E:Value→Shared→Prop}{s:Shared}{tg:Expr}{it:Addr}{u:Value}{o:Obj}{n:String}{vs:Array Value}{Q:Unit→Shared→Prop}(ho:s.heap.get? it=some o)(hc:o.cls=.type n)(hd:o.data=.fields vs)
    (hn:["enumerate","zip","dict_itemiterator","dict_reverseitemiterator","odict_iterator","itertools.zip_longest","itertools.pairwise"].contains n=false) (hQ:Q () s):wpAny M A (letOwnedTupleGo tg (.ref it) u) Q E s:=by
  unfold letOwnedTupleGo
  cases tg <;> first
    | exact u8 hQ
    | (cases u <;> first
        | exact u8 hQ
        | (refine u0 (wpAny_load ho ?_)
           rw [hc,hd]
           show wpAny M A (if (["enumerate","zip","dict_itemiterator","dict_reverseitemiterator","odict_iterator","itertools.zip_longest","itertools.pairwise"].contains n&&vs[0]? == some (rawInt _))=true then _ else _) Q E s
           rw [j0 (by intro h;rw [hn,Bool.false_and] at h;cases h)]
           exact u8 hQ))
def Itl (K:W.Frag)(a:Addr):It :=
 ⟨λi H=>∃ xs x,SqL K H a xs/\xs[i]?=some x,λi H x H'=>H'=H/\∀ xs,SqL K H a xs->xs[i]?=some x,λi H=>∃ xs,SqL K H a xs/\xs.length<=i⟩
def Itt (K:W.Frag)(a:Addr):It :=
 ⟨λi H=>∃ xs x,SqT K H a xs/\xs[i]?=some x,λi H x H'=>H'=H/\∀ xs,SqT K H a xs->xs[i]?=some x,λi H=>∃ xs,SqT K H a xs/\xs.length<=i⟩
def Itr (lo:Int)(n:Nat):It:=⟨λi _=>i < n,λi H x H'=>H'=H/\x=.int (lo+i),λi _=>n<=i⟩
theorem ze4 {P:Program}{w:World}{K:W.Frag}{tg:Expr}(a it:Addr):ziY P w K tg (Itl K a) [it] it (λi h=>h.IsListIter it a i) where
 mem:=by simp
 obj:=λi h st b hb=>by
  have e:b=it:=by simpa using hb
  subst e
  obtain⟨o,e,c,d⟩:=st
  exact⟨o,e,λv z=>by rw[d]at z;cases z⟩
 keep:=λi h h' st k=>st.at λo e=>k it (by simp) o e
 item:=by
  intro X hP hw hK hc i pins s σ H E I hf st hg
  subst hP hw hK
  obtain⟨xs,x,hq,hx⟩:=hg
  obtain⟨its,rv,p,hz⟩:=I.list hq
  obtain⟨u,hu,ru⟩:=rv.get hx
  obtain⟨f0,f1,f2,f3,f4,f5⟩:=hf it (by simp)
  refine wpAny_pyNext_list_item st p.isList (x:=u) (by simpa using hu) λh' st' sb=>?_
  have I1:Inv X pins σ H { s with heap:=h' }:=I.turned (t':=s.toks) (λb o hb e=>(sb.2 b hb).trans e) f0 f1 f3 f4 f5
  obtain⟨o,e,c,d⟩:=id st'
  exact⟨u,rfl,zig (s:={ s with heap:=h' }) e c d (by decide) ⟨x,H,I1,ru,⟨rfl,λys hy=>by rw[I.list_inj hy hq];exact hx⟩,st',λb hb=>(hf b hb).1⟩⟩
 done:=by
  intro X hP hw hK hc i pins s σ H E I hf st hg
  subst hP hw hK
  obtain⟨xs,hq,hx⟩:=hg
  obtain⟨its,rv,p,hz⟩:=I.list hq
  obtain⟨f0,f1,f2,f3,f4,f5⟩:=hf it (by simp)
  have hl:=rv.length
  exact wpAny_pyNext_list_end (I.ok.hd hc) st p.isList (by simp;omega) λh' eb=>⟨rfl,I.turned (t':=s.toks) (λb o hb e=>eb b o hb e) f0 f1 f3 f4 f5⟩
 self:=λ_ _ _ _ _ st h=>wpAny_pyIter_listiter st h
theorem zdO {P:Program}{w:World}{K:W.Frag}{tg:Expr}(a it:Addr):ziY P w K tg (Itt K a) [it] it (λi h=>h.IsTupleIter it a i) where
 mem:=by simp
 obj:=λi h st b hb=>by
  have e:b=it:=by simpa using hb
  subst e
  obtain⟨o,e,c,d⟩:=st
  exact⟨o,e,λv z=>by rw[d]at z;cases z⟩
 keep:=λi h h' st k=>st.at λo e=>k it (by simp) o e
 item:=by
  intro X hP hw hK hc i pins s σ H E I hf st hg
  subst hP hw hK
  obtain⟨xs,x,hq,hx⟩:=hg
  obtain⟨its,rv,p,hz⟩:=I.tuple hq
  obtain⟨u,hu,ru⟩:=rv.get hx
  obtain⟨f0,f1,f2,f3,f4,f5⟩:=hf it (by simp)
  refine wpAny_pyNext_tuple_item st (show s.heap.IsTuple a its.toArray from p) (x:=u) (by simpa using hu) λh' st' sb=>?_
  have I1:Inv X pins σ H { s with heap:=h' }:=I.turned (t':=s.toks) (λb o hb e=>(sb.2 b hb).trans e) f0 f1 f3 f4 f5
  obtain⟨o,e,c,d⟩:=id st'
  exact⟨u,rfl,zig (s:={ s with heap:=h' }) e c d (by decide) ⟨x,H,I1,ru,⟨rfl,λys hy=>by rw[I.tuple_inj hy hq];exact hx⟩,st',λb hb=>(hf b hb).1⟩⟩
 done:=by
  intro X hP hw hK hc i pins s σ H E I hf st hg
  subst hP hw hK
  obtain⟨xs,hq,hx⟩:=hg
  obtain⟨its,rv,p,hz⟩:=I.tuple hq
  obtain⟨f0,f1,f2,f3,f4,f5⟩:=hf it (by simp)
  have hl:=rv.length
  exact wpAny_pyNext_tuple_end (I.ok.hd hc) st (show s.heap.IsTuple a its.toArray from p) (by simp;omega) λh' eb=>⟨rfl,I.turned (t':=s.toks) (λb o hb e=>eb b o hb e) f0 f1 f3 f4 f5⟩
 self:=λ_ _ _ _ _ st h=>wpAny_pyIter_tupleiter st h
theorem zeq {P:Program}{w:World}{K:PySem.W.Frag}{tg:Expr}(it:Addr)(lo:Int)(n:Nat):ziY P w K tg (Itr lo n) [it] it (λi h=>IsRangeIter h it (lo+(i:Nat)*1) ((n:Int) - (i:Nat)) 1) where
 mem:=by simp
 obj:=λi h st b hb=>by
  have e:b=it:=by simpa using hb
  subst e
  exact⟨_,st,λv z=>by
   have z':Data.fields _=Data.cell v:=z
   cases z'⟩
 keep:=λi h h' st k=>k it (by simp) _ st
 item:=by
  intro X hP hw hK hc i pins s σ H E I hf st hg
  subst hP hw hK
  obtain⟨f0,f1,f2,f3,f4,f5⟩:=hf it (by simp)
  have W:=Walks.range (prog:=X.prog) (w:=X.w) (I.ok.hd hc) it lo 1 n
  refine W.item i s _ _ hg st λv h' tk hv st' kk=>?_
  obtain⟨t,rfl⟩:=hv
  have I1:Inv X pins σ H { s with heap:=h',toks:=tk }:=I.turned (λb o hb e=>kk b o (by simpa using hb) e) f0 f1 f3 f4 f5
  refine⟨_,rfl,zig (s:={ s with heap:=h',toks:=tk }) (n:="range_iterator") st' rfl rfl (by decide) ⟨.int (lo+i),H,I1,⟨t,?_⟩,⟨rfl,rfl⟩,st',λb hb=>(hf b hb).1⟩⟩
  rw[Int.mul_one]
 done:=by
  intro X hP hw hK hc i pins s σ H E I hf st hg
  subst hP hw hK
  obtain⟨f0,f1,f2,f3,f4,f5⟩:=hf it (by simp)
  exact wpAny_pyNext_range_end (I.ok.hd hc) st (by have:n<=i:=hg;omega) λh' eb=>⟨rfl,I.turned (t':=s.toks) (λb o hb e=>eb b o hb e) f0 f1 f3 f4 f5⟩
 self:=λ_ _ _ _ _ st h=>wpAny_pyIter_rangeiter st h
section
variable {X:Cx}{tg:Expr}
theorem zdj {pins:List (Addr × Obj)}{σ:St}{H:Hp}{s:Shared}{R:It->Hp->Prop}{E:Value->Shared->Prop}{lo hi:Int}{t u v:Tok}{tk:Nat}(I:Inv X pins σ H s)(h1:-(2 ^ 62)<=lo)(h2:lo < 2 ^ 62)(h3:-(2 ^ 62)<=hi)(h4:hi < 2 ^ 62)
 (q:R (Itr lo (hi - lo).toNat) H):wpAny (model X.prog X.w) X.A (pyIter (.ref s.heap.objs.size)) (PIE X pins σ tg R) E { s with heap:=s.heap.push { cls:=.type "range",data:=.fields #[.int lo t,.int hi u,.int 1 v] },toks:=tk }:=by
 refine wpAny_pyIter_range (IsRange.new ..) (small_one h1 h2 h3 h4) ?_
 have I1:Inv X pins σ H { s with heap:=s.heap.push { cls:=.type "range",data:=.fields #[.int lo t,.int hi u,.int 1 v] },toks:=tk }:=I.kept λb o e=>u5 _ e
 refine⟨(s.heap.push { cls:=.type "range",data:=.fields #[.int lo t,.int hi u,.int 1 v] }).objs.size,[(s.heap.push { cls:=.type "range",data:=.fields #[.int lo t,.int hi u,.int 1 v] }).objs.size],_,_,H,rfl,
  I1.kept (t':=tk) λb o e=>u5 _ e,zeq _ lo (hi - lo).toNat,?_,λb hb=>?_,q⟩
 .have e1:lo+((0:Nat):Int)*1=lo:=by simp
  have e2:(((hi - lo).toNat:Nat):Int) - ((0:Nat):Int)=Builtin.Range.rangeSize lo hi 1:=by rw[rangeSize_one];split <;> omega
  show IsRangeIter _ _ (lo+((0:Nat):Int)*1) ((((hi - lo).toNat:Nat):Int) - ((0:Nat):Int)) 1
  rw[e1,e2]
  exact r9 _ rfl
 .have e:b=(s.heap.push { cls:=.type "range",data:=.fields #[.int lo t,.int hi u,.int 1 v] }).objs.size:=by simpa using hb
  subst e
  exact I1.fpOk (q5 _) (I1.hok.fresh (q5 _))
def zn4 (ta:TA):TI:=fun σ H R=>ta σ H λvs H1=>∃ j:Int,vs=[.int j]/\-(2 ^ 62)<=j/\j < 2 ^ 62/\R (Itr 0 j.toNat) H1
def znw (ta:TA):TI:=fun σ H R=>ta σ H λvs H1=>∃ i j:Int,vs=[.int i,.int j]/\(-(2 ^ 62)<=i/\i < 2 ^ 62/\-(2 ^ 62)<=j/\j < 2 ^ 62)/\R (Itr i (j - i).toNat) H1
theorem zaQ {a:Expr} {ta:TA} {p pos:Pos} (hg:Gl X "range") (hm:X.mg "range"=none) (ha:PA X [a] ta) (hs:starEach [a] X.env=[(false,eval a X.env)]:=by rfl):PI X tg (.Call (.Name "range" p) [a] [] pos) (zn4 ta):=by
 intro pins s σ H R I h
 refine Call_ (Wo I hg hm boot_range (u0V (thn (ha pos pins s σ H _ I h) λus s1 hh9=>?_) hs rfl))
 obtain⟨vs,H1,I1,r1,q1⟩:=hh9
 obtain⟨j,e,q1,q2,q⟩:=q1
 subst e
 cases r1 with
 | cons r rr =>
  cases rr
  obtain⟨t,rfl⟩:=r
  exact call_range_1 (zdj I1 (by omega) (by omega) q1 q2 (by simpa using q))
theorem zg0 {a b:Expr} {ta:TA} {p pos:Pos} (hg:Gl X "range") (hm:X.mg "range"=none) (ha:PA X [a,b] ta) (hs:starEach [a,b] X.env=[(false,eval a X.env),(false,eval b X.env)]:=by rfl) (hs2:starEach [b] X.env=[(false,eval b X.env)]:=by rfl) :
 PI X tg (.Call (.Name "range" p) [a,b] [] pos) (znw ta):=by
 intro pins s σ H R I h
 refine Call_ (Wo I hg hm boot_range (u0V (thn (ha pos pins s σ H _ I h) λus s1 hh9=>?_) (by rw[hs,hs2]) (by rw[hs2];rfl)))
 obtain⟨vs,H1,I1,r1,q1⟩:=hh9
 obtain⟨i,j,e,⟨q1,q2,q3,q4⟩,q⟩:=q1
 subst e
 cases r1 with
 | cons r rr =>
  cases rr with
  | cons r' rr =>
   cases rr
   obtain⟨t,rfl⟩:=r
   obtain⟨t',rfl⟩:=r'
   exact call_range_2 (zdj I1 q1 q2 q3 q4 q)
def tFor (wi:TI)(g:TG)(tb:TS):TS:=λD σ H=>wi σ H λJ H1=>∃ W:Nat->Nat->St->Hp->Prop,(∃ m,W 0 m σ H1)/\∀ i m σ H,W i m σ H ->
 (J.stop i H/\D.nx σ H)\/(J.go i H/\∃ N:St->Hp->Prop,(∀ σ' H',N σ' H'->∃ m',m' < m/\W (i+1) m' σ' H')/\∀ x H',J.yld i H x H'->g x σ H' fun σ2 H2=>tb { D with nx:=N,ct:=N,bk:=D.nx } σ2 H2)
def Xv (fp:List Addr)(h:Heap):List (Addr × Obj):=fp.filterMap λb=>(h.get? b).map λo=>(b,o)
theorem wv {fp:List Addr}{h:Heap}{b:Addr}{o:Obj}(hb:b∈fp)(e:h.get? b=some o):(b,o)∈Xv fp h:=u27.mpr ⟨b,hb,by rw[e];rfl⟩
theorem zfT {fp:List Addr}{h:Heap}{p:Addr × Obj}(hp:p∈Xv fp h):p.1∈fp/\h.get? p.1=some p.2:=by
 obtain⟨b,hb,e⟩:=u27.mp hp
 cases q:h.get? b with
 | none=>rw[q]at e;cases e
 | some o =>
  rw[q]at e
  have e':(b,o)=p:=p9 e
  subst e'
  exact⟨hb,q⟩
theorem Inv.pinned {pins:List (Addr × Obj)}{σ:St}{H:Hp}{s:Shared}{fp:List Addr}(I:Inv X pins σ H s)(hf:∀ b∈fp,zbU X pins H b)(ho:∀ b∈fp,∃ o,s.heap.get? b=some o/\∀ v,o.data≠.cell v):Inv X (pins++Xv fp s.heap) σ H s :=
 I.pins_of λp hp=>(o0.mp hp).elim (λz=>I.pin p (p8 _ z)) λz=>by
  obtain⟨hb,e⟩:=zfT z
  obtain⟨f0,f1,f2,_⟩:=hf p.1 hb
  obtain⟨o,e',d⟩:=ho p.1 hb
  rw[e]at e';cases e'
  exact⟨e,f0,f1,f2,d⟩
theorem Inv.unpinned {pins pl:List (Addr × Obj)}{σ:St}{H:Hp}{s:Shared}(I:Inv X (pins++pl) σ H s):Inv X pins σ H s:=I.pins_of λp hp=>I.pin p (p8 _ (u2B _ hp))
theorem zgH {iter:Expr}{body:List Stmt}{wi:TI}{g:TG}{tb:TS}{pos:Pos}(hp:PassesOwn (model X.prog X.w) X.A X.env X.xe)(hc:X.calm=true)(hi:PI X tg iter wi)(hg:PG X tg g)(hb:PSs X body tb)
 (hs:∀ x,foldedSetIterable iter X.env x=pure x:=by intro _;rfl):PS X (.For tg iter body [] pos) (tFor wi g tb):=by
 intro pins s σ H D I h
 refine wpAny_For (thn (hi pins s σ H _ I h) λv s1 h1=>thn h1 λitv s2 h2=>?_) hs
 obtain⟨it,fp,tn,J,H2,e,I2,T,st2,f2,W,⟨m0,w0⟩,turn⟩:=h2
 subst e
 -- what stays true of the iterator's objects through the loop
 have stat:∀ {H':Hp},(∀ b∈fp,H' b=none)->∀ b∈fp,zbU X pins H' b:=λhn b hb=>⟨hn b hb,(f2 b hb).2⟩
 refine codeAny_forLoop_any (λn s'=>∃ i σ' H',Inv X pins σ' H' s'/\tn i s'.heap/\(∀ b∈fp,H' b=none)/\W i n σ' H') ?_ m0 ⟨0,σ,H2,I2,st2,λb hb=>(f2 b hb).1,w0⟩
 rintro n s3 ⟨i,σ3,H3,I3,st3,fr3,w3⟩
 rcases turn i n σ3 H3 w3 with ⟨stop,qn⟩ | ⟨go,N,hN,step⟩
 .refine u1w hp (thn (T.done X rfl rfl rfl hc i pins s3 σ3 H3 X.xe I3 (stat fr3) st3 stop) λr s4 hh9=>?_)
  obtain⟨hr,I4⟩:=hh9
  subst hr
  exact u2k ⟨σ3,H3,I4,qn⟩
 .refine u1w hp (thn (T.item X rfl rfl rfl hc i pins s3 σ3 H3 X.xe I3 (stat fr3) st3 go) λr s4 hh9=>?_)
  obtain⟨u,hr,h4⟩:=hh9
  subst hr
  refine u1w hp (thn h4 λ_ s5 hh9=>?_)
  obtain⟨x,H5,I5,r5,y5,st5,fr5⟩:=hh9
  have I5':=I5.pinned (stat fr5) (T.obj _ _ st5)
  refine u1w hp (thn (hg _ s5 σ3 H5 x u _ I5' r5 (step x H5 y5)) λ_ s6 hh9=>?_)
  obtain⟨σ6,H6,I6,q6⟩:=hh9
  refine u1w hp (thn (hb _ s6 σ6 H6 _ I6 q6) λf s7 q7=>?_)
  have again:∀ {σ7:St} {H7:Hp},Inv X (pins++Xv fp s5.heap) σ7 H7 s7->N σ7 H7->∃ m,m < n/\∃ i σ' H',Inv X pins σ' H' s7/\tn i s7.heap/\(∀ b∈fp,H' b=none)/\W i m σ' H':=λ{σ7 H7} I7 n7=>by
   obtain⟨m',hm,w7⟩:=hN σ7 H7 n7
   refine⟨m',hm,i+1,σ7,H7,I7.unpinned,T.keep _ _ _ st5 λb hb o e=>(I7.pin (b,o) (p8 _ (p8 _ (wv hb e)))).1,λb hb=>?_,w7⟩
   obtain⟨o,e,d⟩:=T.obj _ _ st5 b hb
   exact(I7.pin (b,o) (p8 _ (p8 _ (wv hb e)))).2.1
  cases f with
  | next=>obtain⟨σ7,H7,I7,n7⟩:=q7;exact again I7 n7
  | cont=>obtain⟨σ7,H7,I7,n7⟩:=q7;exact again I7 n7
  | brk=>obtain⟨σ7,H7,I7,q7⟩:=q7;exact⟨σ7,H7,I7.unpinned,q7⟩
  | ret v=>obtain⟨x7,σ7,H7,I7,r7,q7⟩:=q7;exact⟨x7,σ7,H7,I7.unpinned,r7,q7⟩
end
abbrev R2:=V->V->Hp->VK->Prop
def OpR (X:Cx)(f:Value->Value->Sem Value)(r:R2):Prop :=
 ∀ (pins:List (Addr × Obj)) (s:Shared) (σ:St) (H:Hp) (x y:V) (v u:Value) (Q:VK),Inv X pins σ H s->yI x v->yI y u->r x y H Q ->
  wpAny (model X.prog X.w) X.A (f v u) (EP X pins σ Q) X.xe s
def UnR (X:Cx)(f:Value->Sem Value)(r:V->Hp->VK->Prop):Prop :=
 ∀ (pins:List (Addr × Obj)) (s:Shared) (σ:St) (H:Hp) (x:V) (v:Value) (Q:VK),Inv X pins σ H s->yI x v->r x H Q ->
  wpAny (model X.prog X.w) X.A (f v) (EP X pins σ Q) X.xe s
def vR (X:Cx)(f:Value)(r:List V->Hp->VK->Prop):Prop :=
 ∀ (pins:List (Addr × Obj)) (s:Shared) (σ:St) (H:Hp) (xs:List V) (us:List Value) (Q:VK),Inv X pins σ H s->yl xs us->r xs H Q ->
  wpAny (model X.prog X.w) X.A (call f us) (EP X pins σ Q) X.xe s
def tOp (r:R2)(ta tb:TE):TE:=fun σ H Q=>ta σ H λx H1=>tb σ H1 λy H2=>r x y H2 Q
def tUn (r:V->Hp->VK->Prop)(ta:TE):TE:=fun σ H Q=>ta σ H λx H1=>r x H1 Q
def rI (C:Int->Int->Prop)(g:Int->Int->V):R2:=λx y H Q=>∃ i j,x=.int i/\y=.int j/\C i j/\Q (g i j) H
def rI0 (g:Int->Int->V):R2:=λx y H Q=>∃ i j,x=.int i/\y=.int j/\Q (g i j) H
def rU (g:Int->V):V->Hp->VK->Prop:=λx H Q=>∃ i,x=.int i/\Q (g i) H
section
variable {X:Cx}{a b c:Expr}{ta tb tc:TE}{pos:Pos}
theorem znE (ha:PE X a ta)(hb:PE X b tb){pins:List (Addr × Obj)}{s:Shared}{σ:St}{H:Hp}{R:V->V->Hp->Prop}(I:Inv X pins σ H s)
 (h:ta σ H λx H1=>tb σ H1 λy H2=>R x y H2) {Q:Value->Shared->Prop} {f:Value->Value->Sem Value}
 (hf:∀ v u s2 x y H2,Inv X pins σ H2 s2->yI x v->yI y u->R x y H2->wpAny (model X.prog X.w) X.A (f v u) Q X.xe s2) :
 wpAny (model X.prog X.w) X.A (eval a X.env) (λv s₁=>wpAny (model X.prog X.w) X.A (eval b X.env) (λu s₂=>wpAny (model X.prog X.w) X.A (f v u) Q X.xe s₂) X.xe s₁) X.xe s:=by
 refine thn (ha pins s σ H _ I h) λv s1 hh9=>?_
 obtain⟨x,H1,I1,r1,q1⟩:=hh9
 refine thn (hb pins s1 σ H1 _ I1 q1) λu s2 hh9=>?_
 obtain⟨y,H2,I2,r2,q2⟩:=hh9
 exact hf v u s2 x y H2 I2 r1 r2 q2
theorem zhu {op:Operator}{r:R2}(ho:OpR X (binaryOp op) r)(ha:PE X a ta)(hb:PE X b tb):PE X (.BinOp a op b pos) (tOp r ta tb):=by
 intro pins s σ H Q I h
 exact wpAny_BinOp (znE ha hb I h λv u s2 x y H2 I2 rx ry q=>ho pins s2 σ H2 x y v u Q I2 rx ry q)
theorem zn3 {op:UnaryOp}{r:V->Hp->VK->Prop}(ho:UnR X (unaryOp op) r)(ha:PE X a ta):PE X (.UnaryOp op a pos) (tUn r ta):=by
 intro pins s σ H Q I h
 exact UnaryOp_ (thn (ha pins s σ H _ I h) λv s1 ⟨x,H1,I1,r1,q1⟩=>ho pins s1 σ H1 x v Q I1 r1 q1)
theorem opI {f:Value->Value->Sem Value}{C:Int->Int->Prop}{g:Int->Int->Int}
 (rule:∀ (i j:Int) (t u:Tok) (s:Shared) (Q:Value->Shared->Prop) (E:Value->Shared->Prop),C i j->Q (.int (g i j) s.toks) { s with toks:=s.toks+1 }->wpAny (model X.prog X.w) X.A (f (.int i t) (.int j u)) Q E s) :
 OpR X f (rI C λi j=>.int (g i j)):=by
 intro pins s σ H x y v u Q I rx ry h
 obtain⟨i,j,rfl,rfl,hc,q⟩:=h
 obtain⟨t,rfl⟩:=rx
 obtain⟨t',rfl⟩:=ry
 exact rule i j t t' s _ _ hc ⟨.int (g i j),H,I.tok _,⟨_,rfl⟩,q⟩
theorem opI0 {f:Value->Value->Sem Value}{g:Int->Int->Int}
 (rule:∀ (i j:Int) (t u:Tok) (s:Shared) (Q:Value->Shared->Prop) (E:Value->Shared->Prop),Q (.int (g i j) s.toks) { s with toks:=s.toks+1 }->wpAny (model X.prog X.w) X.A (f (.int i t) (.int j u)) Q E s) :
 OpR X f (rI0 λi j=>.int (g i j)):=by
 intro pins s σ H x y v u Q I rx ry h
 obtain⟨i,j,rfl,rfl,q⟩:=h
 obtain⟨t,rfl⟩:=rx
 obtain⟨t',rfl⟩:=ry
 exact rule i j t t' s _ _ ⟨.int (g i j),H,I.tok _,⟨_,rfl⟩,q⟩
theorem zne {f:Value->Value->Sem Value}{g:Int->Int->Bool}
 (rule:∀ (i j:Int) (t u:Tok) (s:Shared) (Q:Value->Shared->Prop) (E:Value->Shared->Prop),Q (.bool (g i j)) s->wpAny (model X.prog X.w) X.A (f (.int i t) (.int j u)) Q E s) :
 OpR X f (rI0 λi j=>.bl (g i j)):=by
 intro pins s σ H x y v u Q I rx ry h
 obtain⟨i,j,rfl,rfl,q⟩:=h
 obtain⟨t,rfl⟩:=rx
 obtain⟨t',rfl⟩:=ry
 exact rule i j t t' s _ _ ⟨.bl (g i j),H,I,rfl,q⟩
def zn0 (i j:Int):Prop:=(-(2 ^ 64) < i/\i < 2 ^ 64)\/(-(2 ^ 64) < j/\j < 2 ^ 64)
theorem zn0.ok {i j:Int}(h:zn0 i j):IntMulOk i j:=by
 rcases h with ⟨h1,h2⟩ | ⟨h1,h2⟩
 .exact .of_left (intBits_le_64 h1 h2)
 .exact .of_right (intBits_le_64 h1 h2)
theorem zea (k:Nat):(0:Int)<=2 ^ k:=by
 rw[two_pow_cast]
 exact Int.natCast_nonneg _
theorem zlu:OpR X (binaryOp .Add) (rI0 λi j=>.int (i+j)):=opI0 λ_ _ _ _ _ _ _ q=>add_int q
theorem zma:OpR X (binaryOp .Sub) (rI0 λi j=>.int (i - j)):=opI0 λ_ _ _ _ _ _ _ q=>sub_int q
theorem zmv:OpR X (binaryOp .Mult) (rI zn0 λi j=>.int (i*j)):=opI λ_ _ _ _ _ _ _ hc q=>mul_int q hc.ok
theorem zmy:OpR X (binaryOp .Mod) (rI (λ_ j=>0 < j) λi j=>.int (i % j)):=opI λi j _ _ _ _ _ hc q=>by
 have h1:(0:Int) < j:=hc
 exact mod_int' (by omega) (by rw[Int.fmod_eq_emod_of_nonneg i (by omega)];exact q)
theorem zmP:OpR X (binaryOp .RShift) (rI (λ_ j=>0<=j) λi j=>.int (i / 2 ^ j.toNat)):=opI λi j _ _ _ _ _ hc q =>
 rshift_int hc (by rw[u20 i (zea _)];exact q)
theorem unI {f:Value->Sem Value}{g:Int->Int}
 (rule:∀ (i:Int) (t:Tok) (s:Shared) (Q:Value->Shared->Prop) (E:Value->Shared->Prop),Q (.int (g i) s.toks) { s with toks:=s.toks+1 }->wpAny (model X.prog X.w) X.A (f (.int i t)) Q E s) :
 UnR X f (rU λi=>.int (g i)):=by
 intro pins s σ H x v Q I rx h
 obtain⟨i,rfl,q⟩:=h
 obtain⟨t,rfl⟩:=rx
 exact rule i t s _ _ ⟨.int (g i),H,I.tok _,⟨_,rfl⟩,q⟩
theorem zl4:UnR X (unaryOp .USub) (rU λi=>.int (-i)):=unI λ_ _ _ _ _ q=>neg_int q
end
def scal:V->V->Bool
 | .non,.non=>true | .non,.int _=>true | .int _,.non=>true | .non,.bl _=>true | .bl _,.non=>true | .non,.str _=>true | .str _,.non=>true
 | .int _,.int _=>true | .bl _,.bl _=>true | .str _,.str _=>true | .byt _,.byt _=>true
 | .int _,.str _=>true | .str _,.int _=>true | .bl _,.str _=>true | .str _,.bl _=>true
 | _,_=>false
def rEq:R2:=λx y H Q=>scal x y=true/\Q (.bl (decide (x=y))) H
def rNe:R2:=λx y H Q=>scal x y=true/\Q (.bl (!decide (x=y))) H
theorem zb7 {i j:Int}:decide (V.int i=V.int j)=(i == j):=by
 rw[u2c]
 simp
theorem zja {i j:Bool}:decide (V.bl i=V.bl j)=(i == j):=by
 rw[u2c]
 simp
theorem zeB {i j:Str}:decide (V.str i=V.str j)=(i == j):=by
 rw[u2c]
 simp
theorem zg4 {i j:Array UInt8}:decide (V.byt i=V.byt j)=(i.toList == j.toList):=by
 rw[u2c]
 cases i
 cases j
 simp
section
variable {X:Cx}{a b c:Expr}{ta tb tc:TE}{pos:Pos}
theorem zV {pins:List (Addr × Obj)}{σ:St}{H:Hp}{s:Shared}{Q:VK}{k k':Bool}(I:Inv X pins σ H s)(q:Q (.bl k) H)(e:k=k'):EP X pins σ Q (.bool k') s:=by
 subst e
 exact⟨.bl k,H,I,rfl,q⟩
theorem zoj:OpR X (compareOp .Eq) rEq:=by
 intro pins s σ H x y v u Q I rx ry h
 obtain⟨hs,q⟩:=h
 cases x with
 | non =>
  cases rx
  cases y with
  | non=>cases ry;exact PySem.EqNone.eq_none_none (zV I q (by simp))
  | bl j=>cases ry;exact PySem.EqNone.eq_none_bool (zV I q (by simp))
  | int j=>obtain⟨t',rfl⟩:=ry;exact PySem.EqNone.eq_none_int (zV I q (by simp))
  | str j=>obtain⟨t',rfl⟩:=ry;exact PySem.EqNone.eq_none_str (zV I q (by simp))
  | _=>exact absurd (show false=true from hs) u6
 | bl i =>
  cases rx
  cases y with
  | non=>cases ry;exact PySem.EqNone.eq_bool_none (zV I q (by simp))
  | bl j=>cases ry;exact eq_bool (zV I q zja)
  | str j=>obtain⟨t',rfl⟩:=ry;exact PySem.EqMixed.eq_bool_str (zV I q (by simp))
  | _=>exact absurd (show false=true from hs) u6
 | int i =>
  obtain⟨t,rfl⟩:=rx
  cases y with
  | non=>cases ry;exact PySem.EqNone.eq_int_none (zV I q (by simp))
  | int j=>obtain⟨t',rfl⟩:=ry;exact eq_int (zV I q zb7)
  | str j=>obtain⟨t',rfl⟩:=ry;exact PySem.EqMixed.eq_int_str (zV I q (by simp))
  | _=>exact absurd (show false=true from hs) u6
 | str i =>
  obtain⟨t,rfl⟩:=rx
  cases y with
  | non=>cases ry;exact PySem.EqNone.eq_str_none (zV I q (by simp))
  | bl j=>cases ry;exact PySem.EqMixed.eq_str_bool (zV I q (by simp))
  | int j=>obtain⟨t',rfl⟩:=ry;exact PySem.EqMixed.eq_str_int (zV I q (by simp))
  | str j=>obtain⟨t',rfl⟩:=ry;exact eq_str (zV I q zeB)
  | _=>exact absurd (show false=true from hs) u6
 | byt i =>
  obtain⟨t,rfl⟩:=rx
  cases y with
  | byt j=>obtain⟨t',rfl⟩:=ry;exact W.eq_bytes (zV I q zg4)
  | _=>exact absurd (show false=true from hs) u6
 | _=>cases y <;> exact absurd (show false=true from hs) u6
theorem zbJ:OpR X (compareOp .NotEq) rNe:=by
 intro pins s σ H x y v u Q I rx ry h
 obtain⟨hs,q⟩:=h
 cases x with
 | non =>
  cases rx
  cases y with
  | non=>cases ry;exact PySem.EqNone.ne_none_none (zV I q (by simp))
  | bl j=>cases ry;exact PySem.EqNone.ne_none_bool (zV I q (by simp))
  | int j=>obtain⟨t',rfl⟩:=ry;exact PySem.EqNone.ne_none_int (zV I q (by simp))
  | str j=>obtain⟨t',rfl⟩:=ry;exact PySem.EqNone.ne_none_str (zV I q (by simp))
  | _=>exact absurd (show false=true from hs) u6
 | bl i =>
  cases rx
  cases y with
  | non=>cases ry;exact PySem.EqNone.ne_bool_none (zV I q (by simp))
  | bl j=>cases ry;exact ne_bool (zV I q (u05 not zja))
  | str j=>obtain⟨t',rfl⟩:=ry;exact PySem.EqMixed.ne_bool_str (zV I q (by simp))
  | _=>exact absurd (show false=true from hs) u6
 | int i =>
  obtain⟨t,rfl⟩:=rx
  cases y with
  | non=>cases ry;exact PySem.EqNone.ne_int_none (zV I q (by simp))
  | int j=>obtain⟨t',rfl⟩:=ry;exact ne_int (zV I q (u05 not zb7))
  | str j=>obtain⟨t',rfl⟩:=ry;exact PySem.EqMixed.ne_int_str (zV I q (by simp))
  | _=>exact absurd (show false=true from hs) u6
 | str i =>
  obtain⟨t,rfl⟩:=rx
  cases y with
  | non=>cases ry;exact PySem.EqNone.ne_str_none (zV I q (by simp))
  | bl j=>cases ry;exact PySem.EqMixed.ne_str_bool (zV I q (by simp))
  | int j=>obtain⟨t',rfl⟩:=ry;exact PySem.EqMixed.ne_str_int (zV I q (by simp))
  | str j=>obtain⟨t',rfl⟩:=ry;exact ne_str (zV I q (u05 not zeB))
  | _=>exact absurd (show false=true from hs) u6
 | byt i =>
  obtain⟨t,rfl⟩:=rx
  cases y with
  | byt j=>obtain⟨t',rfl⟩:=ry;exact W.ne_bytes (zV I q (u05 not zg4))
  | _=>exact absurd (show false=true from hs) u6
 | _=>cases y <;> exact absurd (show false=true from hs) u6
theorem znR:OpR X (compareOp .Lt) (rI0 λi j=>.bl (decide (i < j))):=zne λ_ _ _ _ _ _ _ q=>lt_int q
theorem zg6:OpR X (compareOp .LtE) (rI0 λi j=>.bl (decide (i<=j))):=zne λ_ _ _ _ _ _ _ q=>le_int q
theorem za3:OpR X (compareOp .Gt) (rI0 λi j=>.bl (decide (j < i))):=zne λ_ _ _ _ _ _ _ q=>gt_int q
theorem zlz:OpR X (compareOp .GtE) (rI0 λi j=>.bl (decide (j<=i))):=zne λ_ _ _ _ _ _ _ q=>ge_int q
theorem zlC:OpR X (compareOp .Is) (λx y H Q=>y=.non/\Q (.bl (decide (x=.non))) H):=by
 intro pins s σ H x y v u Q I rx ry h
 obtain⟨rfl,q⟩:=h
 cases ry
 refine is_none_gen (zV I q ?_)
 cases x <;> first
  | (cases rx;rfl)
  | (obtain⟨t,rfl⟩:=rx;rfl)
theorem OpR.or {f:Value->Value->Sem Value}{r r':R2}(h:OpR X f r)(h':OpR X f r'):OpR X f (λx y H Q=>r x y H Q\/r' x y H Q):=by
 intro pins s σ H x y v u Q I rx ry q
 rcases q with q | q
 .exact h pins s σ H x y v u Q I rx ry q
 .exact h' pins s σ H x y v u Q I rx ry q
theorem zG (b:Expr){op:CmpOp}(h:op≠.In:=by decide)(h2:op≠.NotIn:=by decide):behindInMarks op b=false:=by
 have e1:(op == CmpOp.In)=false:=by cases op <;> first | rfl | exact absurd rfl h
 have e2:(op == CmpOp.NotIn)=false:=by cases op <;> first | rfl | exact absurd rfl h2
 cases b <;> simp[behindInMarks,e1,e2]
theorem zjy {op:CmpOp}{r:R2}(ho:OpR X (compareOp op) r)(ha:PE X a ta)(hb:PE X b tb)(hm:behindInMarks op b=false):PE X (.Compare a [op] [b] pos) (tOp r ta tb):=by
 intro pins s σ H Q I h
 exact wpAny_Compare1 (znE ha hb I h λv u s2 x y H2 I2 rx ry q=>ho pins s2 σ H2 x y v u Q I2 rx ry q) hm
def zj4 (t:TE):TT:=fun σ H Q=>t σ H λx H'=>∃ k,x=.bl k/\Q k H'
theorem zfp {op:CmpOp}{r:R2}(ho:OpR X (compareOp op) r)(ha:PE X a ta)(hb:PE X b tb)(hm:behindInMarks op b=false):PT X (.Compare a [op] [b] pos) (zj4 (tOp r ta tb)):=by
 intro pins s σ H Q I h
 refine wpAny_isTrue_Compare1 (thn (ha pins s σ H _ I h) λv s1 ⟨x,H1,I1,r1,q1⟩=>thn (hb pins s1 σ H1 _ I1 q1) λu s2 ⟨y,H2,I2,r2,q2⟩ =>
  thn (ho pins s2 σ H2 x y v u _ I2 r1 r2 q2) λc s3 ⟨z,H3,I3,r3,k,e,q3⟩=>?_) hm
 subst e
 cases r3
 exact u0R ⟨H3,I3,q3⟩
def zg7 (r r':R2)(ta tb tc:TE):TE:=fun σ H Q=>ta σ H λx H1=>tb σ H1 λy H2=>r x y H2 λz H3=>∃ k,z=.bl k /\
 (if k=true then tc σ H3 λw' H4=>r' y w' H4 Q else Q (.bl false) H3)
theorem zhG {op op':CmpOp}{r r':R2}(ho:OpR X (compareOp op) r)(ho':OpR X (compareOp op') r')(ha:PE X a ta)(hb:PE X b tb)(hc:PE X c tc)
 (hm:lastMarks [op,op'] [b,c]=false:=by with_unfolding_all rfl):PE X (.Compare a [op,op'] [b,c] pos) (zg7 r r' ta tb tc):=by
 intro pins s σ H Q I h
 refine Compare_chain (thn (ha pins s σ H _ I h) λv s1 ⟨x,H1,I1,r1,q1⟩=>chain_link (thn (hb pins s1 σ H1 _ I1 q1) λu s2 ⟨y,H2,I2,r2,q2⟩ =>
  thn (ho pins s2 σ H2 x y v u _ I2 r1 r2 q2) λd s3 ⟨z,H3,I3,r3,k,e,q3⟩=>?_)) hm
 subst e
 cases r3
 refine u0R ?_
 cases k with
 | false=>exact ite_ff ⟨.bl false,H3,I3,rfl,q3⟩
 | true=>exact ite_tt (chain_last (thn (hc pins s3 σ H3 _ I3 q3) λw' s4 ⟨z',H4,I4,r4,q4⟩=>ho' pins s4 σ H4 y z' u w' Q I4 r2 r4 q4))
theorem Vs:(sizeLine:Nat) < 2 ^ 63:=by rw[u1B];decide
theorem zeo:OpR X (binaryOp .Add) (λx y H Q=>∃ i j,x=.str i/\y=.str j/\i.length+j.length<=sizeLine/\Q (.str (i++j)) H):=by
 intro pins s σ H x y v u Q I rx ry h
 obtain⟨i,j,rfl,rfl,hz,q⟩:=h
 obtain⟨t,rfl⟩:=rx
 obtain⟨t',rfl⟩:=ry
 exact add_str (λt' tk=>⟨.str (i++j),H,I.tok _,⟨_,rfl⟩,q⟩) hz
theorem WM {x:V}{us:List Value}(r:yl [x] us):∃ u,us=[u]/\yI x u:=by
 cases r with
 | cons r1 r2=>cases r2;exact⟨_,rfl,r1⟩
theorem zdN {x y:V}{us:List Value}(r:yl [x,y] us):∃ u w',us=[u,w']/\yI x u/\yI y w':=by
 cases r with
 | cons r1 r2 =>
  cases r2 with
  | cons r3 r4=>cases r4;exact⟨_,_,rfl,r1,r3⟩
theorem zeH (hc:X.calm=true):vR X (.builtin "max") (λxs H Q=>∃ i j,xs=[.int i,.int j]/\Q (.int (if j > i then j else i)) H):=by
 intro pins s σ H xs us Q I r h
 obtain⟨i,j,rfl,q⟩:=h
 obtain⟨u,w',rfl,⟨t,rfl⟩,⟨t',rfl⟩⟩:=zdN r
 refine max_two_ints (I.ok.hd hc) λh' tk k=>⟨_,H,I.kept k,?_,q⟩
 by_cases hj:j > i
 .rw[t9 hj,t9 hj];exact⟨_,rfl⟩
 .rw[j0 hj,j0 hj];exact⟨_,rfl⟩
theorem zf2 (hc:X.calm=true):vR X (.builtin "min") (λxs H Q=>∃ i j,xs=[.int i,.int j]/\Q (.int (if j < i then j else i)) H):=by
 intro pins s σ H xs us Q I r h
 obtain⟨i,j,rfl,q⟩:=h
 obtain⟨u,w',rfl,⟨t,rfl⟩,⟨t',rfl⟩⟩:=zdN r
 refine min_two_ints (I.ok.hd hc) λh' tk k=>⟨_,H,I.kept k,?_,q⟩
 by_cases hj:j < i
 .rw[t9 hj,t9 hj];exact⟨_,rfl⟩
 .rw[j0 hj,j0 hj];exact⟨_,rfl⟩
end
structure zok (h:Heap) (x dx C:Addr) (mA:Str->Option Value):Prop where
 obj:h.get? x=some (W.instObj C dx)
 ns:h.Ns1 dx mA
 ne:dx≠x
theorem zbl {h:Heap}{dx:Addr}{mA:Str->Option Value}(n:h.Ns1 dx mA):∃ od,h.get? dx=some od/\∀ name,W.lookIn name od=some (mA name):=by
 obtain⟨o,es,ep,ho,hd,hk,_,hm⟩:=n
 refine⟨o,ho,λname=>?_⟩
 have e:=hm name
 unfold nsFind findBy at e
 rw[<-Array.find?_toList]at e
 unfold W.lookIn
 rw[hd]
 dsimp only
 split
 .rename_i y q
  rw[q]at e
  exact u05 some e
 .rename_i q
  rw[q]at e
  have a:es.toList.any (·.refKey)=false:=by
   rw[List.any_eq_false]
   intro y hy
   obtain⟨z,t,hkey⟩:=hk y (Array.mem_toList_iff.mp hy)
   simp[DictEntry.refKey,hkey]
  have a':¬ es.toList.any (·.refKey)=true:=by rw[a];exact u6
  rw[j0 a']
  exact u05 some e
theorem zok.look {h:Heap}{x dx C:Addr}{mA:Str->Option Value}(I:zok h x dx C mA):∃ od,PySem.W.InstAt h x (W.instObj C dx) C (some od)/\∀ name,W.lookIn name od=some (mA name) :=
 let ⟨od,ho,hl⟩:=zbl I.ns
 ⟨od,⟨I.obj,rfl,rfl,ho⟩,hl⟩
def zj9 (f:Str)(v:V):List (Str × V)->List (Str × V)
 | []=>[(f,v)]
 | (g,x)::r=>if g=f then (g,v)::r else (g,x)::zj9 f v r
theorem Wx (f g:Str)(v:V):∀ fs:List (Str × V),(zj9 f v fs).lookup g=if g=f then some v else fs.lookup g
 | []=>by
  show List.lookup g [(f,v)]=_
  by_cases h:g=f
  .have hb:(g == f)=true:=d8.mpr h
   simp only[List.lookup,hb,t9 h]
  .have hb:(g == f)=false:=u0h.mpr h
   simp only[List.lookup,hb,j0 h]
 | (k,x)::r=>by
  have ih:=Wx f g v r
  rw[show zj9 f v ((k,x)::r)=(if k=f then (k,v)::r else (k,x)::zj9 f v r)from rfl]
  by_cases hk:k=f
  .rw[t9 hk]
   by_cases h:g=k
   .have hb:(g == k)=true:=d8.mpr h
    simp only[List.lookup,hb,t9 (h.trans hk)]
   .have hb:(g == k)=false:=u0h.mpr h
    simp only[List.lookup,hb,j0 (λe:g=f=>h (e.trans hk.symm))]
  .rw[j0 hk]
   by_cases h:g=k
   .have hb:(g == k)=true:=d8.mpr h
    simp only[List.lookup,hb,j0 (λe:g=f=>hk (h.symm.trans e))]
   .have hb:(g == k)=false:=u0h.mpr h
    simp only[List.lookup,hb]
    exact ih
theorem zc0.some_of {v:V}{o:Option Value}(r:zc0 (some v) o):∃ u,o=some u/\yI v u:=by
 cases o with
 | none=>exact(show False from r).elim
 | some u=>exact⟨u,rfl,r⟩
theorem zc0.none_of {o:Option Value}(r:zc0 none o):o=none:=by
 cases o with
 | none=>rfl
 | some u=>exact(show False from r).elim
theorem zgP {v:V}{u:Value}(r:yI v u):W.handedIn u=true:=by
 cases v with
 | non=>cases (show u=Value.none from r);rfl
 | bl b=>cases (show u=Value.bool b from r);rfl
 | int i=>obtain⟨t,e⟩:=(show ∃ t,u=Value.int i t from r);cases e;rfl
 | str x=>obtain⟨t,e⟩:=(show ∃ t,u=Value.str x t from r);cases e;rfl
 | byt b=>obtain⟨t,e⟩:=(show ∃ t,u=Value.bytes b t from r);cases e;rfl
 | flt b=>obtain⟨t,e⟩:=(show ∃ t,u=Value.float b t from r);cases e;rfl
 | ref a=>cases (show u=Value.ref a from r);rfl
 | ty n=>cases (show u=Value.type n from r);rfl
section
variable {P:Program}{w:World}{H H':Hp}{h h':Heap}{a C dx:Addr}{fs fs':List (Str × V)}
theorem zkn (hok:HOk P w H h)(e:H a=some (.ins C dx fs)):∃ mA,zok h a dx C mA/\(∀ f,zc0 (fs.lookup f) (mA f))/\PySem.Within mA (fs.map (·.1))/\fs.length<=1000/\H dx=some (.own a):=by
 obtain⟨d,z,ne,ob,mA,n,r,q⟩:=(show yq P w H h a (.ins C dx fs)from hok a _ e)
 exact⟨mA,⟨ob,n,ne⟩,r,q,z,d⟩
end
structure Cls (K:W.Frag) (C:Addr):Prop where
 pg:W.plainGet K C Str.empty=true
 hd:W.hasDictIn K C=true
 po:W.plainOver K C=true
 sa:W.findIn K (.ref C) "__setattr__"=some (some (.builtin "object.__setattr__"))
theorem Cls.get {K:W.Frag}{C:Addr}(c:Cls K C)(f:Str):W.plainGet K C f=true:=c.pg
def Zx (K:W.Frag)(C:Addr)(f:Str):Prop:=W.findIn K (.ref C) f=some none
section
variable {X:Cx}{pins:List (Addr × Obj)}{σ:St}{H:Hp}{s:Shared}{a C dx:Addr}{fs:List (Str × V)}{f:Str}{v:V}{A:Around}{E:Value->Shared->Prop}
theorem zjE {prog:Program}{w:World}{env:Env}{e:Expr}{f:Str}{pos:Pos}{s:Shared}{Q:Value->Shared->Prop}(hb:attributeBase e f env (eval e env)=eval e env)
 (h:wpAny (model prog w) A (eval e env) (λo s₁=>wpAny (model prog w) A (getAttr o f true) Q E s₁) E s):wpAny (model prog w) A (eval (.Attribute e f pos) env) Q E s :=
 Attribute_any_ h (by rw[arm_eval_Attribute,hb])
end
section
variable {X:Cx}{pins:List (Addr × Obj)}{σ:St}{H:Hp}{s:Shared}{A:Around}{E:Value->Shared->Prop}{Q:Value->Shared->Prop}{c:Value}{b:Bool}
inductive zcX (K:W.Frag) (H:Hp):V->Value->Prop where
 | non:zcX K H .non (.type "NoneType")
 | bl (x:Bool):zcX K H (.bl x) (.type "bool")
 | int (i:Int):zcX K H (.int i) (.type "int")
 | str (x:Str):zcX K H (.str x) (.type "str")
 | flt (x:UInt64):zcX K H (.flt x) (.type "float")
 | lst {a:Addr} {xs:List V} (e:H a=some (.lst xs)):zcX K H (.ref a) (.type "list")
 | frz {a:Addr} {o:Obj} {xs:List V} (e:H a=some (.frz o (.lst xs))):zcX K H (.ref a) (.type "list")
 | tup {a:Addr} {xs:List V} (e:H a=some (.tup xs)):zcX K H (.ref a) (.type "tuple")
 | dK {a:Addr} {kvs:List (Key × V)} (e:H a=some (.dK kvs)):zcX K H (.ref a) (.type "dict")
 | dT {a:Addr} {kvs:List (List Key × V)} (e:H a=some (.dT kvs)):zcX K H (.ref a) (.type "dict")
 | ins {a C dx:Addr} {fs:List (Str × V)} (e:H a=some (.ins C dx fs)) (cl:Cls K C) (ha:W.findIn K (.ref C) "__class__"=some (some (.builtin "object.__class__")))
  (hn:W.specialIn K (.builtin "object.__class__") "__get__"=some (some (.builtin "getset_descriptor.__get__"))) (htk:W.takesIn K (.builtin "object.__class__")=some true)
  (hm:W.mroIn K C (.type "object")=some true):zcX K H (.ref a) (.ref C)
theorem zeI {x:V}{u t:Value}(I:Inv X pins σ H s)(rx:yI x u)(ty:zcX X.K H x t)(e:W.kitOne X.K t c=some b)(h:∀ tk,Q (.bool b) { s with toks:=tk }) :
 wpAny (model X.prog X.w) A (call (.builtin "isinstance") [u,c]) Q E s:=by
 cases ty with
 | non=>cases (show u=Value.none from rx);exact u0A W.kitx_none I.kIn True.intro e (λz=>nomatch z) h
 | bl y=>cases (show u=Value.bool y from rx);exact u0A W.kitx_bool I.kIn True.intro e (λz=>nomatch z) h
 | int i=>obtain⟨t,q⟩:=(show ∃ t,u=Value.int i t from rx);cases q;exact u0A W.kitx_int I.kIn True.intro e (λz=>nomatch z) h
 | str y=>obtain⟨t,q⟩:=(show ∃ t,u=Value.str y t from rx);cases q;exact u0A W.kitx_str I.kIn True.intro e (λz=>nomatch z) h
 | flt y=>obtain⟨t,q⟩:=(show ∃ t,u=Value.float y t from rx);cases q;exact u0A W.kitx_float I.kIn True.intro e (λz=>nomatch z) h
 | @lst a xs ea =>
  cases (show u=Value.ref a from rx)
  obtain⟨_,_,n,_,h1⟩:=(show yq X.prog X.w H s.heap a (.lst xs)from I.hok a _ ea)
  exact u0A W.kitx_list I.kIn ⟨_,h1,rfl⟩ e (λz=>nomatch z) h
 | @frz a ob xs ea =>
  cases (show u=Value.ref a from rx)
  obtain⟨_,_,_,n,_,h1⟩:=(show yq X.prog X.w H s.heap a (.frz ob (.lst xs))from I.hok a _ ea)
  exact u0A W.kitx_list I.kIn ⟨_,h1,rfl⟩ e (λz=>nomatch z) h
 | @tup a xs ea =>
  cases (show u=Value.ref a from rx)
  obtain⟨_,_,_,p⟩:=(show yq X.prog X.w H s.heap a (.tup xs)from I.hok a _ ea)
  obtain⟨o,h1,h2,_⟩:=p
  exact u0A W.kitx_tuple I.kIn ⟨o,h1,h2⟩ e (λz=>nomatch z) h
 | @dK a kvs ea =>
  cases (show u=Value.ref a from rx)
  obtain⟨_,_,vs,_,p⟩:=(show yq X.prog X.w H s.heap a (.dK kvs)from I.hok a _ ea)
  obtain⟨o,es,ep,h1,h2,_⟩:=p
  exact u0A u2o I.kIn ⟨o,h1,h2.1⟩ e (λz=>nomatch z) h
 | @dT a kvs ea =>
  cases (show u=Value.ref a from rx)
  obtain⟨_,_,xs,_,o,es,ep,h1,h2,_⟩:=(show yq X.prog X.w H s.heap a (.dT kvs)from I.hok a _ ea)
  exact u0A u2o I.kIn ⟨o,h1,h2.1⟩ e (λz=>nomatch z) h
 | @ins a C dx fs ea cl ha hn htk hm =>
  cases (show u=Value.ref a from rx)
  obtain⟨mA,O,_⟩:=zkn I.hok ea
  obtain⟨od,J,_⟩:=O.look
  exact u0A (W.kitx_own (cl.get _) cl.hd ha hn htk hm) I.kIn J e (λz=>nomatch z) h
end
structure vw (k:Nat) (A:Around):Prop where
 hd:A.handled=none
 dp:A.depth+3*k+5 < recursionLimit
 un:A.units+16*k+200 < cLine
theorem vw.mono {j k:Nat}{A:Around}(r:vw k A)(h:j<=k):vw j A:=⟨r.hd,by have:=r.dp;omega,by have:=r.un;omega⟩
theorem vw.deeper {k:Nat}{A:Around}(r:vw (k+1) A)(env:Env):vw k (A.deeper env) :=
 ⟨r.hd,by have:=r.dp;show A.depth+1+3*k+5 < _;omega,by have:=r.un;show A.units+3+16*k+200 < _;omega⟩
theorem zef {A:Around} {C:Addr} {us:List Value} {kw:List (Str × Value)}:(A.under (.builtin "type.__call__" ⟨.ref C::us,kw⟩)).depth=A.depth+1:=by
 first | rfl | simp[Around.under,Code.weight,Code.isCreation,Code.isGuard,Code.isCaller,Code.frames,Code.isFrame,guardIds]
theorem zej {A:Around} {C:Addr} {us:List Value} {kw:List (Str × Value)}:(A.under (.builtin "type.__call__" ⟨.ref C::us,kw⟩)).units=A.units+1:=by
 first | rfl | simp[Around.under,Code.cUnits,Code.frames,Code.isFrame]
theorem vw.make {k:Nat} {A:Around} (r:vw (k+1) A) (C:Addr) (us:List Value) (kw:List (Str × Value)):vw k (A.under (.builtin "type.__call__" ⟨.ref C::us,kw⟩)) :=
 ⟨r.hd,by have:=r.dp;rw[zef];omega,by have:=r.un;rw[zej];omega⟩
theorem vw.depth {k:Nat}{A:Around}(r:vw k A):A.depth < recursionLimit:=by have:=r.dp;omega
theorem vw.units {k:Nat}{A:Around}(r:vw k A):A.units+64 < cLine:=by have:=r.un;omega
theorem vw.units0 {k:Nat}{A:Around}(r:vw k A):A.units < cLine:=by have:=r.un;omega
def zib:TA:=λ_ H Q=>Q [] H
def XI (ta:TE)(tr:TA):TA:=fun σ H Q=>ta σ H λx H1=>tr σ H1 λxs H2=>Q (x::xs) H2
section
variable {X:Cx}{e:Expr}{es:List Expr}{te:TE}{t:TA}{pos:Pos}
theorem yw:PA X [] zib:=λ_ _ _ _ H Q I h=>Calls.spliced_nil ⟨[],H,I,.nil,h⟩
theorem zp (ha:PE X e te)(hr:PA X es t)(hs:starEach (e::es) X.env=(false,eval e X.env)::starEach es X.env:=by rfl):PA X (e::es) (XI te t):=by
 intro pos pins s σ H Q I h
 rw[hs]
 show wpAny _ _ (spliced ((false,eval e X.env)::backTo pos (starEach es X.env))) _ _ s
 refine Calls.spliced_cons (thn (ha pins s σ H _ I h) λu s1 hh9=>?_)
 obtain⟨x,H1,I1,r1,q1⟩:=hh9
 exact thn (hr pos pins s1 σ H1 _ I1 q1) λus s2 ⟨xs,H2,I2,r2,q2⟩=>⟨x::xs,H2,I2,.cons r1 r2,q2⟩
def tTup (t:TA):TE:=fun σ H Q=>t σ H λxs H1=>xs.length<=sizeLine/\∀ p,H1 p=none->Q (.ref p) (upd H1 p (.tup xs))
def znS (t:TA):TE:=fun σ H Q=>t σ H λxs H1=>xs.length<=sizeLine/\∀ p,H1 p=none->Q (.ref p) (upd H1 p (.lst xs))
theorem zi2 {x1}(h:PA X es t):PE X (.Tuple es x1 pos) (tTup t):=by
 intro pins s σ H Q I hq
 refine wpAny_Tuple_spliced (thn (h pos pins s σ H _ I hq) λus s1 ⟨xs,H1,I1,r,z,q⟩=>⟨by rw[<-r.length];exact z,?_⟩)
 have hf:H1 s1.heap.objs.size=none:=I1.hok.fresh (q5 _)
 refine⟨.ref s1.heap.objs.size,upd H1 s1.heap.objs.size (.tup xs),I1.laid (t':=s1.toks) (λb u e=>u5 _ e) (q5 _) ?_,rfl,q _ hf⟩
 exact⟨z,us,r,⟨_,r9 _ rfl,rfl,_,rfl⟩⟩
theorem zbt (h:PA X es t):PE X (.List es pos) (znS t):=by
 intro pins s σ H Q I hq
 refine wpAny_List_spliced (thn (h pos pins s σ H _ I hq) λus s1 ⟨xs,H1,I1,r,z,q⟩=>⟨by rw[<-r.length];exact z,?_⟩)
 have hf:H1 s1.heap.objs.size=none:=I1.hok.fresh (q5 _)
 refine⟨.ref s1.heap.objs.size,upd H1 s1.heap.objs.size (.lst xs),I1.laid (t':=s1.toks) (λb u e=>u5 _ e) (q5 _) ?_,rfl,q _ hf⟩
 exact⟨z,us,0,r,r9 _ rfl⟩
end
abbrev Sp:=List V->Hp->VK->XK->Prop
abbrev CXT:=List Env->Hp->Shared->XK->Value->Shared->Prop
structure zjg (P:Program) (w:World) (K:W.Frag) (mg:Str->Option Value) (base:Heap) (A:Around) (outer:List Env) (s:Shared) (H:Hp):Prop where
 frames:A.frames=some outer
 mod:Mod K mg base
 bs:∀ b o,base.get? b=some o->s.heap.get? b=some o/\H b=none
 bsz:base.objs.size<=s.heap.objs.size
 funs:s.heap.FunFrames base outer
 frf:∀ b∈frs outer,H b=none
 hok:HOk P w H s.heap
 bare:AllBare s.gens
def CE (outer:List Env)(P:Program)(w:World)(H:Hp)(s:Shared)(Q:VK)(u:Value)(s':Shared):Prop :=
 ∃ v H',s'.os=s.os/\AllBare s'.gens/\Un (frs outer) [] H H' s.heap s'.heap/\HOk P w H' s'.heap/\yI v u/\Q v H'
def CR (CX:CXT)(outer:List Env)(P:Program)(w:World)(H:Hp)(s:Shared)(Q:VK)(E:XK)(r:Result)(s':Shared):Prop :=
 match r with
 | .ok (.ret u)=>CE outer P w H s Q u s'
 | .ok _=>False
 | .error e=>CX outer H s E e s'
structure y6 (P:Program) (w:World) (K:W.Frag) (mg:Str->Option Value) (base:Heap) (CX:CXT) (k:Nat) (f:Addr) (fd:FuncData) (ps:List Str) (sp:Sp):Prop where
 len:∀ vs H Q E,sp vs H Q E->vs.length=ps.length
 run:∀ (A:Around) (outer:List Env) (s:Shared) (H:Hp) (args:Args) (us:List Value) (vs:List V) (Q:VK) (E:XK),vw k A->zjg P w K mg base A outer s H->BindsTo s fd args (ps.zip us)->yl vs us->sp vs H Q E ->
  codeAny (model P w) A (.call (.ref f) args) (CR CX outer P w H s Q E) s
theorem y6.mono {P:Program}{w:World}{K:W.Frag}{mg:Str->Option Value}{base:Heap}{CX:CXT}{j k:Nat}{f:Addr}{fd:FuncData}{ps:List Str}{sp:Sp}(F:y6 P w K mg base CX j f fd ps sp)(h:j<=k) :
 y6 P w K mg base CX k f fd ps sp:=⟨F.len,λA outer s H args us vs Q E hr=>F.run A outer s H args us vs Q E (hr.mono h)⟩
theorem y6.imp {P:Program}{w:World}{K:W.Frag}{mg:Str->Option Value}{base:Heap}{CX:CXT}{k:Nat}{f:Addr}{fd:FuncData}{ps:List Str}{sp sp':Sp}(F:y6 P w K mg base CX k f fd ps sp)
 (h:∀ vs H Q E,sp' vs H Q E->sp vs H Q E):y6 P w K mg base CX k f fd ps sp' :=
 ⟨λvs H Q E q=>F.len vs H Q E (h _ _ _ _ q),λA outer s H args us vs Q E hr he hb hv hs=>F.run A outer s H args us vs Q E hr he hb hv (h _ _ _ _ hs)⟩
theorem zjg.make {P:Program}{w:World}{K:W.Frag}{mg:Str->Option Value}{base:Heap}{A:Around}{outer:List Env}{s:Shared}{H:Hp}(e:zjg P w K mg base A outer s H)(C:Addr)(us:List Value)(kw:List (Str × Value)) :
 zjg P w K mg base (A.under (.builtin "type.__call__" ⟨.ref C::us,kw⟩)) outer s H:=⟨by first | exact e.frames | (simpa [Around.under,Code.envs,Code.isFrame,pushEnvs]using e.frames),e.mod,e.bs,e.bsz,e.funs,e.frf,e.hok,e.bare⟩
section
variable {X:Cx}{pins:List (Addr × Obj)}{σ:St}{H:Hp}{s s':Shared}
theorem Inv.env0 (I:Inv X pins σ H s):zjg X.prog X.w X.K X.mg X.base X.A X.stack s H :=
 ⟨I.ok.frames,I.ok.mod,I.bs,i3 I.ok.bsz I.sz,I.stack,I.stkFree,I.hok,I.bare⟩
theorem Inv.after {Q:VK}{u:Value}(I:Inv X pins σ H s)(h:CE X.stack X.prog X.w H s Q u s'):EP X pins σ Q u s':=by
 obtain⟨v,H',os,bare,un,hok,r,q⟩:=h
 obtain⟨hh,g,d,t,os'⟩:=s'
 obtain rfl:os'=s.os:=os
 exact⟨v,H',I.call (h':=hh) (g':=g) (d':=d) (t':=t) (ch:=[]) un hok bare (λb z=>absurd z (by simp)),r,q⟩
end
def zku (sp:Sp)(dvs:List V)(E:XK)(t:TA):TE:=fun σ H Q=>t σ H λvs H1=>sp (vs++dvs) H1 Q E
def XM (K:W.Frag)(fd:FuncData)(ps:List Str)(ds:List Value):Prop :=
 ∀ (s:Shared) (us:List Value),K.In s.heap->(us++ds).length=ps.length->BindsTo s fd ⟨us,[]⟩ (ps.zip (us++ds))
theorem XM.all {K:W.Frag}{fd:FuncData}{ps:List Str}(h:∀ us:List Value,us.length=ps.length->bindArgs fd ⟨us,[]⟩=pure (ps.zip us)):XM K fd ps []:=λs us _ hl=>by
 rw[u0z]at hl ⊢
 exact .of_eq (h us hl)
def Xt (CX:CXT)(X:Cx)(E:XK):Prop:=∀ (pins:List (Addr × Obj)) (σ:St) (H:Hp) (s:Shared) (e:Value) (s':Shared),Inv X pins σ H s->CX X.stack H s E e s'->X.xe e s'
section
variable {X:Cx}{CX:CXT}{k:Nat}{f C:Addr}{fd:FuncData}{ps:List Str}{sp:Sp}{dvs:List V}{ds:List Value}{E:XK}{x m:Str}{p pos apos:Pos}{e o:Expr}{es:List Expr}{ta:TE}{t:TA}
theorem zmx {pins:List (Addr × Obj)}{σ:St}{H:Hp}{s:Shared}{Q:VK}{us:List Value}{vs:List V}(F:y6 X.prog X.w X.K X.mg X.base CX k f fd ps sp)(hr:vw k X.A)(hb:XM X.K fd ps ds)(hd:yl dvs ds)(hx:Xt CX X E)
 (I:Inv X pins σ H s) (r:yl vs us) (h:sp (vs++dvs) H Q E):wpAny (model X.prog X.w) X.A (call (.ref f) us) (EP X pins σ Q) X.xe s:=by
 have r2:yl (vs++dvs) (us++ds):=r.append hd
 have hl:(us++ds).length=ps.length:=by rw[<-r2.length];exact F.len _ _ _ _ h
 refine u2K (u3d (F.run X.A X.stack s H ⟨us,[]⟩ (us++ds) (vs++dvs) Q E hr I.env0 (hb s us I.kIn hl) r2 h) λr s' hq=>?_)
 cases r with
 | error e=>exact hx pins σ H s e s' I hq
 | ok fl =>
  cases fl with
  | ret u=>exact I.after hq
  | next=>exact False.elim hq
  | brk=>exact False.elim hq
  | cont=>exact False.elim hq
theorem zg8 (F:y6 X.prog X.w X.K X.mg X.base CX k f fd ps sp)(hr:vw k X.A)(hg:Gl X x)(hm:X.mg x=some (.ref f))(hk:W.keepIn X.K (.ref f)=true)(hb:XM X.K fd ps ds)(hd:yl dvs ds)(hx:Xt CX X E)
 (ha:PA X (e::es) t) (hdb:(x == ("__debug__":Str))=false:=by decide) (he:starEach (e::es) X.env=(false,eval e X.env)::starEach es X.env:=by rfl) (hpl:(backTo pos (starEach es X.env)).any (·.1)=false:=by rfl) :
 PE X (.Call (.Name x p) (e::es) [] pos) (zku sp dvs E t):=by
 intro pins s σ H Q I h
 refine u2j (WE I hg hm ?_ hdb)
 refine W.callWith_K (h₀:=X.base) I.ok.mod.kin hk (thn (ha pos pins s σ H _ I h) λus s1 ⟨vs,H1,I1,r,q⟩=>⟨I1.kIn,?_⟩) he hpl
 exact zmx F hr hb hd hx I1 r q
end
structure zx (N P:List Str) (sc:Scope):Prop where
 kind:sc.kind=.function
 co:sc.isCoroutine=false
 gen:sc.isGenerator=false
 nd:N.Nodup
 pre:N.take P.length=P
 par:∀ x∈P,sc.names.lookup x=some .local\/sc.names.lookup x=some .cell
 nofree:∀ y∈sc.names,y.2≠.free
theorem zbn {kindOf:Str->Option NameKind}{x:Str}:∀ {binds:List (Str × Value)} {m:Str->Option Value},(∀ v,(x,v)∉binds)->bindL kindOf binds m x=m x
 | [],_,_=>rfl
 | (n,v)::r,m,h=>by
  unfold bindL
  rw[zbn λw hw=>h w (p4 _ hw)]
  split
  .have:x≠n:=by rintro rfl;exact h v e9
   simp[this]
  .rfl
theorem zbs {kindOf:Str->Option NameKind}{x:Str}:∀ {binds:List (Str × Value)} {m:Str->Option Value},(∀ v,(x,v)∉binds)->bindC kindOf binds m x=m x
 | [],_,_=>rfl
 | (n,v)::r,m,h=>by
  unfold bindC
  rw[zbs λw hw=>h w (p4 _ hw)]
  split
  .rfl
  .have:x≠n:=by rintro rfl;exact h v e9
   simp[this]
theorem zbL {kindOf:Str->Option NameKind}{x:Str}{v:Value}:∀ {P:List Str} {vs:List Value} {i:Nat} {m:Str->Option Value},P.Nodup->P[i]?=some x->vs[i]?=some v->kindOf x=some .local ->
 bindL kindOf (P.zip vs) m x=some v
 | [],_,_,_,_,h,_,_=>by simp at h
 | _::_,[],_,_,_,_,h,_=>by simp at h
 | p::P,w::vs,0,m,nd,h1,h2,hk=>by
  simp at h1 h2;subst h1;subst h2
  show bindL kindOf ((p,w)::P.zip vs) m p=_
  unfold bindL
  rw[zbn λv hv=>(u1e.mp nd).1 (u2T hv).1,t9 hk]
  simp
 | p::P,w::vs,i+1,m,nd,h1,h2,hk=>by
  show bindL kindOf ((p,w)::P.zip vs) m x=_
  unfold bindL
  exact zbL (i:=i) (u1e.mp nd).2 (by simpa using h1) (by simpa using h2) hk
theorem za7 {kindOf:Str->Option NameKind}{x:Str}{v:Value}:∀ {P:List Str} {vs:List Value} {i:Nat} {m:Str->Option Value},P.Nodup->P[i]?=some x->vs[i]?=some v->kindOf x≠some .local ->
 bindC kindOf (P.zip vs) m x=some v
 | [],_,_,_,_,h,_,_=>by simp at h
 | _::_,[],_,_,_,_,h,_=>by simp at h
 | p::P,w::vs,0,m,nd,h1,h2,hk=>by
  simp at h1 h2;subst h1;subst h2
  show bindC kindOf ((p,w)::P.zip vs) m p=_
  unfold bindC
  rw[zbs λv hv=>(u1e.mp nd).1 (u2T hv).1,j0 hk]
  simp
 | p::P,w::vs,i+1,m,nd,h1,h2,hk=>by
  show bindC kindOf ((p,w)::P.zip vs) m x=_
  unfold bindC
  exact za7 (i:=i) (u1e.mp nd).2 (by simpa using h1) (by simpa using h2) hk
def start (N:List Str)(vs:List V):St:=vs.map some++List.replicate (N.length - vs.length) none
def Zq (CX:CXT)(P:Program)(w:World)(K:W.Frag)(mg:Str->Option Value)(base:Heap)(N:List Str)(qual:Str)(scope:Scope)(f:Addr)(cd:Value)(A:Around)(outer:List Env)(s:Shared)(H:Hp)(E:XK):Cx where
 prog:=P
 w:=w
 K:=K
 mg:=mg
 base:=base
 A:=A.deeper (envOfC qual scope s.heap.objs.size f cd)
 N:=N
 s₀:=s
 H₀:=H
 env:=envOfC qual scope s.heap.objs.size f cd
 outer:=outer
 stack:=envOfC qual scope s.heap.objs.size f cd::outer
 ex:=[]
 calm:=true
 fn:=λ_=>true
 pn:=[]
 xe:=λe s'=>wpAny (model P w) (A.deeper (envOfC qual scope s.heap.objs.size f cd)) (leaving (envOfC qual scope s.heap.objs.size f cd) e) (λ_ s''=>CX outer H s E e s'') (λe' s''=>CX outer H s E e' s'') s'
theorem zcP {sc:Scope}{n:Nat}{x:Str}(h:sc.names.lookup x=some .cell):∃ c,(cellsFrom n sc.names []).lookup x=some c:=by
 have q:=u2m sc.names n [] (.inl h)
 exact u3j.mp q
theorem zaI {CX:CXT}{P:Program}{w:World}{K:W.Frag}{mg:Str->Option Value}{base:Heap}{N ps:List Str}{qual:Str}{scope:Scope}{f:Addr}{cd:Value}{A:Around}{outer:List Env}{s s1:Shared}{H:Hp}{E:XK}{us:List Value}{vs:List V}
 (S:zx N ps scope) (hd:A.handled=none) (e0:zjg P w K mg base A outer s H) (hl:vs.length=ps.length) (r:yl vs us)
 (x:InCallC s s.heap.objs.size (bindL (envOfC qual scope s.heap.objs.size f cd).kindOf (ps.zip us) λ_=>none) (cellsFrom (s.heap.objs.size+1) scope.names []) (bindC (envOfC qual scope s.heap.objs.size f cd).kindOf (ps.zip us) λ_=>none) s1) :
 Inv (Zq CX P w K mg base N qual scope f cd A outer s H E) [] (start N vs) H s1:=by
 have hpl:ps.length<=N.length:=by have:=u05 List.length S.pre;rw[p5]at this;omega
 obtain⟨h1,tk,rfl,hk⟩:=x.done
 have noA:∀ b:Addr,b∉(Zq CX P w K mg base N qual scope f cd A outer s H E).ex:=λb z=>absurd (show b∈([]:List Addr)from z) (by simp)
 refine⟨⟨e0.mod,S.kind,rfl,rfl,q5 _,λy z c h1 h2=>?_,λy hy=>?_,λy c _ h=>?_,λ_=>hd,Around.frames_deeper e0.frames,.inr ⟨rfl,rfl⟩,λb z=>absurd z (noA b),e0.bs,e0.bsz,λb _ _=>noA b,λb z=>absurd z (noA b),e0.funs,e0.frf⟩,
  rfl,e0.bare,Un.kept hk,⟨_,x.toInCall.ns,λi y v h1 h2 h3=>?_⟩,λy c h=>⟨_,x.cell y c h⟩,e0.hok.fresh (q5 _),λy c h=>?_,λp hp=>absurd (show p∈([]:List (Addr × Obj))from hp) (by simp),e0.hok.kept hk,?_⟩
 .exact name_of_addr x.apart (u0g h1) (u0g h2)
 .have hy:scope.names.lookup y=some .cell\/scope.names.lookup y=some .free:=hy
  rcases hy with hy | hy
  .exact zcP hy
  .exact absurd rfl (S.nofree _ (u0g hy))
 .exact u0W (x.above y c (u0g h))
 .have hi:i < vs.length:=by
   unfold start at h2
   by_cases hi:i < vs.length
   .exact hi
   .rw[u0a (by simpa using hi)]at h2
    rw[u0w]at h2
    split at h2 <;> cases h2
  have ha:vs[i]?=some v:=by
   unfold start at h2
   rw[u0O (by simpa using hi),r6]at h2
   cases e:vs[i]? with
   | none=>rw[e]at h2;cases h2
   | some a=>rw[e]at h2;cases h2;rfl
  obtain⟨u,hu,rv⟩:=r.get ha
  have hp:ps[i]?=some y:=by
   rw[<-S.pre,u0j (by omega)];exact h1
  have ndP:ps.Nodup:=by rw[<-S.pre];exact S.nd.sublist (u1u _ _)
  refine⟨u,rv,?_⟩
  rcases S.par y (j4 hp)with k | k
  .exact .inl ⟨k,zbL ndP hp hu k⟩
  .obtain⟨c,e⟩:=zcP (n:=s.heap.objs.size+1) k
   refine .inr ⟨.inl k,c,e,?_⟩
   have q:=x.cell y c e
   rw[za7 ndP hp hu (by show scope.names.lookup y≠_;rw[k];decide)]at q
   exact q
 .exact e0.hok.fresh (u0W (x.above y c (u0g h)))
 .unfold start
  show _=N.length
  rw[r0,u7,u2u]
  omega
theorem zkW {CX:CXT}{P:Program}{w:World}{K:W.Frag}{mg:Str->Option Value}{base:Heap}{k:Nat}{f:Addr}{name qual:Str}{params:Arguments}{body:List Stmt}{scope:Scope}{dV kV doc pm cdv ct oc:Value}{an od:Option Addr}
 {osl:Array (Option Value)} {N ps:List Str} {sp:Sp} (lk:K.lookup f=some ⟨oc,od,.func (W.fnOf name qual params body scope dV kV doc pm an cdv ct),osl⟩) (hcd:W.codeIn K cdv qual=true) (S:zx N ps scope)
 (len:∀ vs H Q E,sp vs H Q E->vs.length=ps.length)
 (hbody:∀ (A:Around) (outer:List Env) (s:Shared) (H:Hp) (vs:List V) (Q:VK) (E:XK),vw k (A.deeper (envOfC qual scope s.heap.objs.size f cdv))->sp vs H Q E ->
  ∃ t,PSs (Zq CX P w K mg base N qual scope f cdv A outer s H E) body t/\t { nx:=λ_ H'=>Q .non H',rt:=Q } (start N vs) H) :
 y6 P w K mg base CX (k+1) f (W.fnOf name qual params body scope dV kV doc pm an cdv ct) ps sp:=by
 refine⟨len,λA outer s H args us vs Q E hr e0 hb r hsp=>?_⟩
 have hl:=len _ _ _ _ hsp
 have KX:K.In s.heap:=e0.mod.kin.keeps λb o e=>(e0.bs b o e).1
 have lim:s.heap.NoLimit:=e0.mod.nolimit.keeps λb o e=>(e0.bs b o e).1
 have hkind:∀ y∈ps.zip us,scope.names.lookup y.1=some .local\/(scope.names.lookup y.1=some .cell/\((cellsFrom (s.heap.objs.size+1) scope.names []).lookup y.1).isSome=true):=λ⟨n,v⟩ hy=>by
  rcases S.par n (u2T hy).1 with q | q
  .exact .inl q
  .exact .inr ⟨q,u2m _ _ _ (.inl q)⟩
 refine codeAny_call_function hr.depth (KX _ _ lk) rfl S.co S.gen rfl (W.codeRec_of KX hcd) (hb _ _ _ _ ?_)
 refine wpAny_newFunctionEnv_cells S.kind hkind λenv he s1 x=>?_
 subst he
 refine⟨lim.keeps x.toInCall.keep,codeAny_func ?_⟩
 obtain⟨t,ht,hq⟩:=hbody A outer s H vs Q E (hr.deeper _) hsp
 have I:Inv (Zq CX P w K mg base N qual scope f cdv A outer s H E) [] (start N vs) H s1:=zaI S hr.hd e0 hl r x
 refine u0v (ht [] s1 (start N vs) H _ I hq) (λfl s' hs=>?_) λe s' hs=>hs
 have fin:∀ {σ':St} {H':Hp} {v:V} {u:Value},Inv (Zq CX P w K mg base N qual scope f cdv A outer s H E) [] σ' H' s'->yI v u->Q v H'->CE outer P w H s Q u s' :=
  λ{σ' H' v u} J rv q=>⟨v,H',J.os,J.bare,J.base,J.hok,rv,q⟩
 cases fl with
 | ret u =>
  obtain⟨v,σ',H',J,rv,q⟩:=hs
  exact fin J rv q
 | next =>
  obtain⟨σ',H',J,q⟩:=hs
  exact fin (v:=V.non) (u:=Value.none) J rfl q
 | brk =>
  obtain⟨_,_,_,q⟩:=hs
  exact False.elim q
 | cont =>
  obtain⟨_,_,_,q⟩:=hs
  exact False.elim q
section
variable {X:Cx}{x:Str}{p pos:Pos}{e:Expr}{es:List Expr}{t:TA}{id T:String}{r:List V->Hp->VK->Prop}
def tCB (r:List V->Hp->VK->Prop)(t:TA):TE:=fun σ H Q=>t σ H λvs H1=>r vs H1 Q
theorem zN (hc:vR X (.builtin id) r) (hg:Gl X x) (hm:X.mg x=none) (hv:bootBuiltins x=some (.builtin id)) (ha:PA X (e::es) t) (hn:x≠"__name__":=by decide) (hdb:(x == ("__debug__":Str))=false:=by decide)
 (he:starEach (e::es) X.env=(false,eval e X.env)::starEach es X.env:=by rfl) (hpl:(backTo pos (starEach es X.env)).any (·.1)=false:=by rfl):PE X (.Call (.Name x p) (e::es) [] pos) (tCB r t):=by
 intro pins s σ H Q I h
 refine u2j (Wo I hg hm hv ?_ hn hdb)
 exact PyProof.Rows.callWith_builtin1 (thn (ha pos pins s σ H _ I h) λus s1 ⟨vs,H1,I1,r1,q1⟩=>hc pins s1 σ H1 vs us Q I1 r1 q1) he hpl
theorem zbc (hc:vR X (.type T) r) (hg:Gl X x) (hm:X.mg x=none) (hv:bootBuiltins x=some (.type T)) (ha:PA X (e::es) t) (hn:x≠"__name__":=by decide) (hdb:(x == ("__debug__":Str))=false:=by decide)
 (he:starEach (e::es) X.env=(false,eval e X.env)::starEach es X.env:=by rfl) (hpl:(backTo pos (starEach es X.env)).any (·.1)=false:=by rfl):PE X (.Call (.Name x p) (e::es) [] pos) (tCB r t):=by
 intro pins s σ H Q I h
 refine u2j (Wo I hg hm hv ?_ hn hdb)
 exact u0V (thn (ha pos pins s σ H _ I h) λus s1 ⟨vs,H1,I1,r1,q1⟩=>hc pins s1 σ H1 vs us Q I1 r1 q1) he hpl
end
end L2
namespace HT
open PySem PyProof.Rows
def lexLt:List Int->List Int->Bool
 | [],[]=>false
 | [],_::_=>true
 | _::_,[]=>false
 | x::xs,y::ys=>if x=y then lexLt xs ys else decide (x < y)
theorem lexLt_cons (x y:Int)(xs ys:List Int):lexLt (x::xs) (y::ys)=if x=y then lexLt xs ys else decide (x < y):=rfl
theorem zh6 (A:Around)(s:Shared)(a:Int)(t:Tok)(c:Int)(u:Tok):∃ e,SeqAt.EqAt A s (.int a t) (.int c u) e/\(e=true↔a=c) :=
 ⟨(a == c),u3b a t c u,by simp⟩
section
variable {prog:Program}{w:World}{A:Around}{E:Value->Shared->Prop}{s:Shared}
theorem cat_tup {t b:Addr}{vs ws:List Value}{Q:Value->Shared->Prop}(ht:IsTup s.heap t vs.toArray)(hb:IsTup s.heap b ws.toArray)(hv:vs≠[])
 (h1:ws=[]->Q (.ref t) s) (h2:ws≠[]->Q (.ref s.heap.objs.size) { s with heap:=s.heap.push { cls:=.type "tuple",data:=.seq (vs++ws).toArray } })
 (hsz:vs.length+ws.length<=sizeLine):wpAny (model prog w) A (binaryOp .Add (.ref t) (.ref b)) Q E s:=by
 obtain⟨⟨cls,dd,data,sl⟩,ho,hc,n,hd⟩:=id ht
 obtain⟨⟨cls2,dd2,data2,sl2⟩,ho2,hc2,n2,hd2⟩:=id hb
 simp only at hc hd hc2 hd2
 subst hc hd hc2 hd2
 have e:vs.toArray++ws.toArray=(vs++ws).toArray:=by simp
 by_cases hw:ws=[]
 .exact concat_meets ⟨_,ho,rfl⟩ ⟨_,ho2,rfl⟩ noFill_tuple_add seq_tuple_add u2l u2i (u19 _ _)
   (tuple_addW1 t b vs.toArray ws.toArray n n2 dd dd2 sl sl2 (by simpa using hv) (by simp[hw])) ⟨ho,ho2,h1 hw⟩
 .refine concat_meets ⟨_,ho,rfl⟩ ⟨_,ho2,rfl⟩ noFill_tuple_add seq_tuple_add u2l u2i (u19 _ _)
   (tuple_addW2 t b vs.toArray ws.toArray n n2 dd dd2 sl sl2 (by simpa using hv) (by simpa using hw) (by rw[j3,j3];exact hsz)) ⟨ho,ho2,?_⟩
  rw[e]
  exact h2 hw
def sIx (n d:Nat):Option Int->Nat
 | none=>d
 | some v=>if v < 0 then (v+(n:Int)).toNat else min v.toNat n
theorem zmq (n d:Nat)(hd:d<=n)(o:Option Int):sIx n d o<=n:=by
 cases o with
 | none=>exact hd
 | some v =>
  show(if v < 0 then (v+(n:Int)).toNat else min v.toNat n)<=n
  by_cases hv:v < 0
  .rw[t9 hv];omega
  .rw[j0 hv];exact u10 _ _
theorem zgl (v:Int)(n d:Nat):(if v < 0 then max (v+(n:Int)) 0 else min v (n:Int))=((sIx n d (some v):Nat):Int):=by
 show(if v < 0 then max (v+(n:Int)) 0 else min v (n:Int))=(((if v < 0 then (v+(n:Int)).toNat else min v.toNat n):Nat):Int)
 by_cases hv:v < 0
 .simp only[t9 hv];omega
 .simp only[j0 hv];omega
theorem zd1 (lo hi:Option Int)(n:Nat):Builtin.Slice.sliceAdjust lo hi 1 (n:Int)=(((sIx n 0 lo:Nat):Int),((sIx n n hi:Nat):Int)):=by
 have h1:¬ ((1:Int) < 0):=by omega
 unfold Builtin.Slice.sliceAdjust
 simp only[h1,u3v]
 refine u3s ?_ ?_
 .cases lo with
  | none=>rfl
  | some v=>exact zgl v n 0
 .cases hi with
  | none=>rfl
  | some v=>exact zgl v n n
theorem zer (i j:Nat):Builtin.Slice.slicePlaces (i:Int) (j:Int) 1=j - i:=by
 unfold Builtin.Slice.slicePlaces
 have h1:(1:Int) > 0:=by omega
 simp only[h1,u2A,Int.ediv_one]
 split <;> omega
theorem Vr {v:Value}{o:Option Int}{Q:Option Int->Shared->Prop}(p:IsPart v o)(h:Q o s):wpAny (model prog w) A (Builtin.Slice.slicePartIndex v) Q E s:=by
 cases p with
 | none=>exact slicePart_none h
 | int i t=>exact slicePart_int h
theorem Yf {sl:Addr}{vl vu:Value}{lo hi:Option Int}{n:Nat}{Q:Int × Int × Nat->Shared->Prop}(hs:s.heap.IsSliceOf sl vl vu .none)(pl:IsPart vl lo)(pu:IsPart vu hi)
 (h:Q (((sIx n 0 lo:Nat):Int),1,sIx n n hi - sIx n 0 lo) s):wpAny (model prog w) A (Builtin.Slice.sliceApplied (.ref sl) (pure (n:Int))) Q E s:=by
 obtain⟨os,hos,hcs,hds⟩:=id hs
 unfold Builtin.Slice.sliceApplied Builtin.Slice.sliceFields
 refine u0 (u0 (u0Q hos hds (x:=vl) rfl (u0 (u0Q hos hds (x:=vu) rfl (u0 (u0Q hos hds (x:=.none) rfl (u8 ?_)))))))
 refine u0 (slicePart_none ?_)
 show wpAny _ _ (if ((1:Int) == 0)=true then _ else _) _ _ s
 rw[j0 (by decide)]
 refine u0 (Vr pl (u0 (Vr pu (u0 (u8 ?_)))))
 show wpAny _ _ (match Builtin.Slice.sliceAdjust lo hi 1 (n:Int)with | (lo,hi)=>pure (lo,(1:Int),Builtin.Slice.slicePlaces lo hi 1)) _ _ s
 rw[zd1 lo hi n]
 show wpAny _ _ (pure (((sIx n 0 lo:Nat):Int),(1:Int),Builtin.Slice.slicePlaces ((sIx n 0 lo:Nat):Int) ((sIx n n hi:Nat):Int) 1)) _ _ s
 rw[zer]
 exact u8 h
theorem ziN (xs:Array Value)(i k:Nat):((List.range k).filterMap λ(m:Nat)=>xs[((i:Int)+(m:Int)*1).toNat]?).toArray=((xs.toList.drop i).take k).toArray:=by
 have e:(λ(m:Nat)=>xs[((i:Int)+(m:Int)*1).toNat]?)=λm=>xs[i+m]?:=by
  funext m
  have:((i:Int)+(m:Int)*1).toNat=i+m:=by omega
  rw[this]
 rw[e]
 have:=pick_run xs i k
 rw[List.filterMap_map]at this
 have e2:((λx=>xs[x]?) ∘ λx=>i+x)=λm=>xs[i+m]?:=rfl
 rw[e2]at this
 rw[this]
theorem getItem_tuple_cut {t sl:Addr}{items:Array Value}{vl vu:Value}{lo hi:Option Int}{Q:Value->Shared->Prop}(ht:IsTup s.heap t items)(hs:s.heap.IsSliceOf sl vl vu .none)(pl:IsPart vl lo)(pu:IsPart vu hi)
 (hw:¬ (sIx items.size 0 lo=0/\sIx items.size items.size hi=items.size))
 (h:Q (.ref s.heap.objs.size) { s with heap:=s.heap.push { cls:=.type "tuple",data:=.seq ((items.toList.drop (sIx items.size 0 lo)).take (sIx items.size items.size hi - sIx items.size 0 lo)).toArray } })
 (hsz:items.size<=sizeLine):wpAny (model prog w) A (getItem (.ref t) (.ref sl)) Q E s:=by
 have htake:sizeOk (.seq ((items.toList.drop (sIx items.size 0 lo)).take (sIx items.size items.size hi - sIx items.size 0 lo)).toArray):=by
  show((items.toList.drop (sIx items.size 0 lo)).take (sIx items.size items.size hi - sIx items.size 0 lo)).toArray.size<=sizeLine
  rw[j3,p5,u0p,j8]
  omega
 have hj:sIx items.size items.size hi<=items.size:=zmq _ _ (q5 _) hi
 obtain⟨os,hos,hcs,hds⟩:=id hs
 have hTs:s.TypeIs (.ref sl) "slice":=⟨os,hos,hcs⟩
 unfold getItem
 try with_reducible refine u0n ?_
 first | refine u0 (u8 ?_) | skip
 refine u0 (wpAny_sequenceKey ht.typeIs (by decide) ?_)
 refine u0 (u0m (name:=Str.ofString "__getitem__") ht.typeIs u0r
  (u0B u0r ht.typeIs entry_tuple_getitem ?_ (args_tuple_getitem _ _)))
 show wpAny _ _ (Builtin.Tuple.tupleItemsOf (.ref t)>>=_) _ _ s
 refine u0 (tupleItemsOf_ ht ?_)
 refine u0 (u2w hTs ?_)
 rw[t9 (by decide)]
 refine u0 (Yf hs pl pu ?_)
 have hno:¬ ((((sIx items.size 0 lo:Nat):Int) == 0&&(1:Int) == 1&&(sIx items.size items.size hi - sIx items.size 0 lo) == items.size)=true):=by
  intro q
  rw[g9,g9]at q
  have q1:((sIx items.size 0 lo:Nat):Int)=0:=eq_of_beq q.1.1
  have q2:sIx items.size items.size hi - sIx items.size 0 lo=items.size:=eq_of_beq q.2
  exact hw ⟨by omega,by omega⟩
 show wpAny _ _ (if (((sIx items.size 0 lo:Nat):Int) == 0&&(1:Int) == 1&&(sIx items.size items.size hi - sIx items.size 0 lo) == items.size)=true then _ else _) _ _ s
 rw[j0 hno,ziN]
 first
  | exact u0 (m:=Builtin.Tuple.tupleExact _) (u0s (u8 ⟨_,rfl,u8 h⟩) htake)
  | exact u0 (m:=Builtin.Tuple.tupleExact _) (u0s (u0 (u8 (u8 ⟨_,rfl,u8 h⟩))) htake)
  | exact u0 (u0 (m:=Builtin.Tuple.tupleExact _) (u0s (u8 (u8 ⟨_,rfl,u8 h⟩)) htake))
  | exact u0 (u0 (m:=Builtin.Tuple.tupleExact _) (u0s (u8 ⟨_,rfl,u8 h⟩) htake))
end
end HT
namespace L2
open PySem PySem.Spec PyProof.Rows
abbrev TO:=St->Hp->(Option Int->Hp->Prop)->Prop
def PO (X:Cx)(e:Option Expr)(t:TO):Prop :=
 ∀ (pins:List (Addr × Obj)) (s:Shared) (σ:St) (H:Hp) (Q:Option Int->Hp->Prop),Inv X pins σ H s->t σ H Q ->
  wpAny (model X.prog X.w) X.A (evalPart e X.env) (λu s'=>∃ o H',Inv X pins σ H' s'/\IsPart u o/\Q o H') X.xe s
def znK (t:TE):TO:=fun σ H Q=>t σ H λx H1=>∃ i,x=.int i/\Q (some i) H1
theorem wy {ns:List Int}:∀ {us:List Value},yl (ns.map V.int) us->IntsAre us ns:=by
 induction ns with
 | nil=>intro us r;rw[List.map_nil]at r;cases r;exact .nil
 | cons n ns ih =>
  intro us r
  rw[i4]at r
  cases r with
  | cons r1 r2 =>
   obtain⟨t,e⟩:=r1
   subst e
   exact .cons n t (ih r2)
section
variable {X:Cx}{e:Expr}{te:TE}{lo hi:Option Expr}{tl th:TO}{pos p2:Pos}
theorem zj0 (h:PE X e te):PO X (some e) (znK te):=by
 intro pins s σ H Q I hw
 rw[evalPart_some]
 refine thn (h pins s σ H _ I hw) λu s1 hh9=>?_
 obtain⟨x,H1,I1,r1,q1⟩:=hh9
 obtain⟨i,rfl,q⟩:=q1
 obtain⟨t,rfl⟩:=r1
 exact⟨some i,H1,I1,.int i t,q⟩
def SlR (X:Cx)(r:V->Option Int->Option Int->Hp->VK->Prop):Prop :=
 ∀ (pins:List (Addr × Obj)) (s:Shared) (σ:St) (H:Hp) (x:V) (v vl vu:Value) (lo hi:Option Int) (sl:Addr) (Q:VK),Inv X pins σ H s->yI x v->s.heap.IsSliceOf sl vl vu .none->IsPart vl lo->IsPart vu hi->r x lo hi H Q ->
  ∃ T id,typeLookup (.type T) "__getitem__"=pure (some (.builtin id))/\s.TypeIs v T/\wpAny (model X.prog X.w) X.A (getItem v (.ref sl)) (EP X pins σ Q) X.xe s
theorem SlR.or {r r':V->Option Int->Option Int->Hp->VK->Prop}(h:SlR X r)(h':SlR X r'):SlR X (λx lo hi H Q=>r x lo hi H Q\/r' x lo hi H Q):=by
 intro pins s σ H x v vl vu lo hi sl Q I rx hs pl pu q
 rcases q with q | q
 .exact h pins s σ H x v vl vu lo hi sl Q I rx hs pl pu q
 .exact h' pins s σ H x v vl vu lo hi sl Q I rx hs pl pu q
def tSl (r:V->Option Int->Option Int->Hp->VK->Prop)(te:TE)(tl th:TO):TE:=fun σ H Q=>te σ H λx H1=>tl σ H1 λl H2=>th σ H2 λu H3=>r x l u H3 Q
theorem ziu {r:V->Option Int->Option Int->Hp->VK->Prop}(hr:SlR X r)(he:PE X e te)(hl:PO X lo tl)(hu:PO X hi th):PE X (.Subscript e (.Slice lo hi none p2) pos) (tSl r te tl th):=by
 intro pins s σ H Q I h
 refine Subscript_ (thn (he pins s σ H _ I h) λv s1 hh9=>?_)
 obtain⟨x,H1,I1,r1,q1⟩:=hh9
 refine wpAny_Slice (thn (hl pins s1 σ H1 _ I1 q1) λvl s2 ⟨l,H2,I2,pl,q2⟩=>thn (hu pins s2 σ H2 _ I2 q2) λvu s3 hh9=>?_)
 obtain⟨u,H3,I3,pu,q3⟩:=hh9
 rw[evalPart_none]
 refine u8 ?_
 have I4:Inv X pins σ H3 { s3 with heap:=s3.heap.push { cls:=.type "slice",data:=.fields #[vl,vu,.none] } }:=I3.kept (t':=s3.toks) λb ob q=>u5 _ q
 obtain⟨T,id,hT,ht,hg⟩:=hr pins { s3 with heap:=s3.heap.push { cls:=.type "slice",data:=.fields #[vl,vu,.none] } } σ H3 x v vl vu l u s3.heap.objs.size Q I4 r1 (Heap.IsSliceOf.new ..) pl pu q3
 show wpAny (model X.prog X.w) X.A (subscriptTail e (.Slice lo hi none p2) v (.ref s3.heap.objs.size)) (EP X pins σ Q) X.xe { s3 with heap:=s3.heap.push { cls:=.type "slice",data:=.fields #[vl,vu,.none] } }
 exact tail_any (ops:=[.ref s3.heap.objs.size,v]) ht hT hg (by with_unfolding_all rfl)
def zck (xs:List V)(lo hi:Option Int):List V:=(xs.drop (HT.sIx xs.length 0 lo)).take (HT.sIx xs.length xs.length hi - HT.sIx xs.length 0 lo)
theorem Wn (xs:List V)(lo hi:Option Int):(zck xs lo hi).length<=xs.length:=by
 unfold zck
 rw[p5,u0p]
 omega
def rSlT (K:W.Frag):V->Option Int->Option Int->Hp->VK->Prop:=λx lo hi H Q=>∃ a xs,x=.ref a/\SqT K H a xs /\
 ¬ (HT.sIx xs.length 0 lo=0/\HT.sIx xs.length xs.length hi=xs.length)/\∀ p,H p=none->Q (.ref p) (upd H p (.tup (zck xs lo hi)))
theorem zk1:SlR X (rSlT X.K):=by
 intro pins s σ H x v vl vu lo hi sl Q I rx hs pl pu h
 obtain⟨a,xs,rfl,hx,hw,q⟩:=h
 cases rx
 obtain⟨its,r,ht,hz⟩:=I.tuple hx
 have hlen:its.toArray.size=xs.length:=by rw[j3];exact r.length.symm
 refine⟨"tuple",_,u0r.lookup,ht.typeIs,?_⟩
 refine HT.getItem_tuple_cut ht hs pl pu (by rw[hlen];exact hw) ?_ (by rw[hlen];exact hz)
 rw[hlen]
 refine⟨.ref s.heap.objs.size,_,I.laid (t':=s.toks) (o:=.tup (zck xs lo hi)) (λb ob q=>u5 _ q) (q5 _) ?_,rfl,q _ (I.hok.fresh (q5 _))⟩
 exact⟨i3 (Wn xs lo hi) hz,_,(r.drop (HT.sIx xs.length 0 lo)).take (HT.sIx xs.length xs.length hi - HT.sIx xs.length 0 lo),IsTup.new _ _⟩
def znY (K:W.Frag):R2:=λx y H Q=>∃ a b xs ys,x=.ref a/\y=.ref b/\SqT K H a xs/\SqT K H b ys/\xs≠[]/\xs.length+ys.length<=sizeLine /\
 (ys=[]->Q (.ref a) H)/\(ys≠[]->∀ p,H p=none->Q (.ref p) (upd H p (.tup (xs++ys))))
theorem yl.nil_iff {xs:List V}{us:List Value}(r:yl xs us):us=[]↔xs=[]:=by
 cases r with
 | nil=>simp
 | cons _ _=>simp
theorem zjR:OpR X (binaryOp .Add) (znY X.K):=by
 intro pins s σ H x y v u Q I rx ry h
 obtain⟨a,b,xs,ys,rfl,rfl,ha,hb,hx,hz,q1,q2⟩:=h
 cases rx
 cases ry
 obtain⟨its,r1,p1,_⟩:=I.tuple ha
 obtain⟨its2,r2,p2,_⟩:=I.tuple hb
 refine HT.cat_tup p1 p2 (λz=>hx (r1.nil_iff.mp z)) (λz=>⟨.ref a,H,I,rfl,q1 (r2.nil_iff.mp z)⟩) (λz=>?_) (by rw[<-r1.length,<- r2.length];exact hz)
 refine⟨.ref s.heap.objs.size,_,I.laid (t':=s.toks) (o:=.tup (xs++ys)) (λb ob q=>u5 _ q) (q5 _) ?_,rfl,q2 (λw=>z (r2.nil_iff.mpr w)) _ (I.hok.fresh (q5 _))⟩
 exact⟨by rw[r0];exact hz,_,r1.append r2,IsTup.new _ _⟩
end
def ixN (n:Nat)(i:Int):Option Nat:=if 0<=i then (if i < n then some i.toNat else none)else if -(n:Int)<=i then some (i+n).toNat else none
def atI {α:Type}(xs:List α)(i:Int):Option α:=(ixN xs.length i).bind λj=>xs[j]?
theorem zge {n:Nat}{i:Int}{j:Nat}(h:ixN n i=some j):seqIndex? i n=some j/\j < n/\-(n:Int)<=i/\i < n:=by
 unfold ixN at h
 by_cases h0:0<=i
 .rw[t9 h0]at h
  by_cases h1:i < n
  .rw[t9 h1]at h
   have e:i.toNat=j:=p9 h
   exact⟨by rw[seqIndex_of h0 h1,e],by omega,by omega,h1⟩
  .rw[j0 h1]at h;cases h
 .rw[j0 h0]at h
  by_cases h1:-(n:Int)<=i
  .rw[t9 h1]at h
   have e:(i+n).toNat=j:=p9 h
   exact⟨by rw[seqIndex_neg (by omega) h1,e],by omega,h1,by omega⟩
  .rw[j0 h1]at h;cases h
theorem zcm {α:Type}{xs:List α}{i:Int}{v:α}(h:atI xs i=some v):∃ j,seqIndex? i xs.length=some j/\xs[j]?=some v/\j < xs.length/\-(xs.length:Int)<=i/\i < xs.length:=by
 unfold atI at h
 cases e:ixN xs.length i with
 | none=>rw[e]at h;cases h
 | some j =>
  rw[e]at h
  obtain⟨h1,h2,h3,h4⟩:=zge e
  exact⟨j,h1,h,h2,h3,h4⟩
theorem zeA {α:Type}{xs:List α}{j:Nat}{v:α}(h:xs[j]?=some v):atI xs (j:Int)=some v:=by
 have hj:j < xs.length:=(t7.mp h).1
 have e:ixN xs.length (j:Int)=some j:=by
  unfold ixN
  rw[t9 (by omega),t9 (by omega)];simp
 unfold atI;rw[e];exact h
def zfH (b:Expr):Prop:=∀ o i,subscripted b false o i=operate [o,i] (getItem o i)
def IxR (X:Cx)(r:R2):Prop :=
 ∀ (value slice:Expr) (pins:List (Addr × Obj)) (s:Shared) (σ:St) (H:Hp) (x y:V) (v u:Value) (Q:VK),Inv X pins σ H s->yI x v->yI y u->r x y H Q ->
  subscripted slice false v u=operate [v,u] (getItem v u)->wpAny (model X.prog X.w) X.A (subscriptTail value slice v u) (EP X pins σ Q) X.xe s
def MtR (X:Cx)(id:String)(r:V->List V->Hp->VK->Prop):Prop :=
 ∀ (pins:List (Addr × Obj)) (s:Shared) (σ:St) (H:Hp) (x:V) (xs:List V) (v:Value) (us:List Value) (Q:VK),Inv X pins σ H s->yI x v->yl xs us->r x xs H Q ->
  wpAny (model X.prog X.w) X.A (call (.builtin id) (v::us)) (EP X pins σ Q) X.xe s
section
variable {X:Cx}{a b:Expr}{ta tb:TE}{pos:Pos}
theorem IxR.or {r r':R2}(h:IxR X r)(h':IxR X r'):IxR X (λx y H Q=>r x y H Q\/r' x y H Q):=by
 intro value slice pins s σ H x y v u Q I rx ry q hs
 rcases q with q | q
 .exact h value slice pins s σ H x y v u Q I rx ry q hs
 .exact h' value slice pins s σ H x y v u Q I rx ry q hs
theorem znM {r:R2}(hr:IxR X r)(ha:PE X a ta)(hb:PE X b tb)(hs:zfH b):PE X (.Subscript a b pos) (tOp r ta tb):=by
 intro pins s σ H Q I h
 exact Subscript_ (znE ha hb I h λv u s2 x y H2 I2 rx ry q=>hr a b pins s2 σ H2 x y v u Q I2 rx ry q (hs _ _))
def rIxL (K:W.Frag):R2:=λx y H Q=>∃ p xs i v,x=.ref p/\y=.int i/\SqL K H p xs/\atI xs i=some v/\Q v H
def rIxT (K:W.Frag):R2:=λx y H Q=>∃ p xs i v,x=.ref p/\y=.int i/\SqT K H p xs/\atI xs i=some v/\Q v H
def rIxS:R2:=λx y H Q=>∃ z i c,x=.str z/\y=.int i/\z.length<=sizeLine/\atI z.cps.toList i=some c/\Q (.str ⟨#[c]⟩) H
theorem zkh:IxR X (rIxL X.K):=by
 intro value slice pins s σ H x y v u Q I rx ry h hs
 obtain⟨p,xs,i,z,rfl,rfl,hq,he,q⟩:=h
 cases rx
 obtain⟨t,rfl⟩:=ry
 obtain⟨its,r,pl,hz⟩:=I.list hq
 obtain⟨j,h1,h2,h3,h4,h5⟩:=zcm he
 obtain⟨w,ew,rw'⟩:=r.get h2
 have hl:=r.length
 have hn:=Vs
 have fin:EP X pins σ Q w s:=⟨z,H,I,rw',q⟩
 by_cases h0:0<=i
 .have hj:i.toNat=j:=by
   rw[seqIndex_of h0 h5]at h1
   exact p9 h1
  exact item_listR pl.isList h0 (by omega) (by rw[hj];simpa using ew) fin hs
 .have hj:(i+(its.toArray.size:Int)).toNat=j:=by
   rw[seqIndex_neg (by omega) h4]at h1
   rw[j3,<- hl]
   exact p9 h1
  exact subscriptTail_builtinR (x:=w) pl.isList.typeIs slot_list_getitem.lookup
   (wpAny_getItem_list_neg (Q:=λr s'=>r=w/\EP X pins σ Q r s') pl.isList (by omega) (by rw[j3] <;> omega) (by omega) (by rw[hj];simpa using ew) ⟨rfl,fin⟩) hs
theorem zlG:IxR X (rIxT X.K):=by
 intro value slice pins s σ H x y v u Q I rx ry h hs
 obtain⟨p,xs,i,z,rfl,rfl,hq,he,q⟩:=h
 cases rx
 obtain⟨t,rfl⟩:=ry
 obtain⟨its,r,pl,hz⟩:=I.tuple hq
 obtain⟨j,h1,h2,h3,h4,h5⟩:=zcm he
 obtain⟨w,ew,rw'⟩:=r.get h2
 have hl:=r.length
 have hn:=Vs
 have fin:EP X pins σ Q w s:=⟨z,H,I,rw',q⟩
 exact subscriptTail_builtinR (x:=w) pl.typeIs slot_tuple_getitem.lookup
  (getItem_tuple (j:=j) (Q:=λr s'=>r=w/\EP X pins σ Q r s') pl (by omega) (by omega) (by rw[j3,<- hl];exact h1) (by simpa using ew) ⟨rfl,fin⟩) hs
theorem zmj:IxR X rIxS:=by
 intro value slice pins s σ H x y v u Q I rx ry h hs
 obtain⟨z,i,c,rfl,rfl,hz,he,q⟩:=h
 obtain⟨t,rfl⟩:=rx
 obtain⟨t',rfl⟩:=ry
 obtain⟨j,h1,h2,h3,h4,h5⟩:=zcm he
 have hl:z.cps.toList.length=z.length:=by simp[Str.length]
 rw[hl]at h1 h4 h5
 have hn:=Vs
 exact tail_any (typeIs_str s z t) slot_str_getitem.lookup (getItem_str (c:=c) (by
  have e1:decide (i < -(2 ^ 63:Int))=false:=h9 (by omega)
  have e2:decide (i >= 2 ^ 63)=false:=h9 (by omega)
  rw[e1,e2,Bool.or_false]) (by rw[h1];simpa using h2) ⟨.str ⟨#[c]⟩,H,I.tok _,⟨_,rfl⟩,q⟩) hs
def rIx (K:W.Frag):R2:=λx y H Q=>rIxL K x y H Q\/rIxT K x y H Q\/rIxS x y H Q
theorem zmg:IxR X (rIx X.K):=zkh.or (zlG.or zmj)
theorem zdy (its:List Value) (n j:Nat) (u:Value):Obj.mapSeq (·.setIfInBounds j u) { cls:=.type "list",data:=.seq its.toArray n }={ cls:=.type "list",data:=.seq (its.set j u).toArray n }:=by
 simp[Obj.mapSeq]
theorem Inv.lst {pins:List (Addr × Obj)}{σ:St}{H:Hp}{s:Shared}{p:Addr}{xs:List V}(I:Inv X pins σ H s)(h:H p=some (.lst xs)) :
 ∃ (its:List Value) (n:Nat),yl xs its/\s.heap.get? p=some { cls:=.type "list",data:=.seq its.toArray n }/\xs.length<=sizeLine:=by
 obtain⟨z,its,n,r,e⟩:=I.hok p _ h
 exact⟨its,n,r,e,z⟩
theorem Inv.lstUpd {pins:List (Addr × Obj)}{σ:St}{H:Hp}{s:Shared}{p:Addr}{xs ys:List V}{its its':List Value}{n n':Nat}{f:Obj->Obj}(I:Inv X pins σ H s)(h:H p=some (.lst xs))
 (ho:s.heap.get? p=some { cls:=.type "list",data:=.seq its.toArray n }) (hf:f { cls:=.type "list",data:=.seq its.toArray n }={ cls:=.type "list",data:=.seq its'.toArray n' }) (r:yl ys its') (hz:ys.length<=sizeLine) (t:Nat) :
 Inv X pins σ (upd H p (.lst ys)) { s with heap:=s.heap.update p f,toks:=t }:=by
 have e:(s.heap.update p f).get? p=some { cls:=.type "list",data:=.seq its'.toArray n' }:=by
  rw[u0F f ho (by rw[hf] <;> rfl),hf]
 refine I.write (x:=p) (e:=p) (by rw[h];trivial) (.inl rfl) (λb u hb q=>(u0E _ _ (u03 hb)).trans q) ⟨_,e⟩ ?_
 exact⟨hz,its',n',r,e⟩
def znH:V->V->V->Hp->(Hp->Prop)->Prop:=λo i v H Q=>∃ p xs k j,o=.ref p/\i=.int k/\H p=some (.lst xs)/\ixN xs.length k=some j/\Q (upd H p (.lst (xs.set j v)))
theorem ziE:PSet X znH:=by
 intro pins s σ H o i v ov iv u Q I ro ri rv h
 obtain⟨p,xs,k,j,rfl,rfl,hp,hj,q⟩:=h
 cases ro
 obtain⟨t,rfl⟩:=ri
 obtain⟨its,n,r,ho,hz⟩:=I.lst hp
 obtain⟨h1,h2,h3,h4⟩:=zge hj
 have hl:=r.length
 have hn:=Vs
 have I':Inv X pins σ (upd H p (.lst (xs.set j v))) { s with heap:=s.heap.update p (Obj.mapSeq (·.setIfInBounds j u)) } :=
  I.lstUpd hp ho (zdy its n j u) (r.set rv j) (by rw[u3M];exact hz) s.toks
 by_cases h0:0<=k
 .have hk:k.toNat=j:=by
   rw[seqIndex_of h0 h4]at h1
   exact p9 h1
  exact W.ki_setAt ho h0 (by omega) (by rw[j3,<- hl];exact h4) (by rw[hk];exact⟨_,I',q⟩)
 .have hk:(k+(its.toArray.size:Int)).toNat=j:=by
   rw[seqIndex_neg (by omega) h3]at h1
   rw[j3,<- hl]
   exact p9 h1
  exact W.ki_setBack ho (by omega) (by rw[j3,<- hl];exact h3) (by omega) (by rw[hk];exact⟨_,I',q⟩)
theorem zaY (lo hi:Option Int)(n:Nat):(sliceBounds lo hi none n).1=((HT.sIx n 0 lo:Nat):Int)/\(sliceBounds lo hi none n).2.1=((HT.sIx n n hi:Nat):Int)/\(sliceBounds lo hi none n).2.2=1:=by
 refine⟨?_,?_,rfl⟩
 .cases lo with
  | none=>simp[sliceBounds,HT.sIx]
  | some i =>
   simp only[sliceBounds,HT.sIx,Option.getD_none,show(1:Int) > 0 by decide,u2A]
   by_cases h:i < 0
   .simp only[h,u2A] <;> omega
   .simp only[h,u3v] <;> omega
 .cases hi with
  | none=>simp[sliceBounds,HT.sIx]
  | some i =>
   simp only[sliceBounds,HT.sIx,Option.getD_none,show(1:Int) > 0 by decide,u2A]
   by_cases h:i < 0
   .simp only[h,u2A] <;> omega
   .simp only[h,u3v] <;> omega
theorem VD (its:List Value)(lo hi:Option Int):slicePick its.toArray lo hi none=((its.drop (HT.sIx its.length 0 lo)).take (HT.sIx its.length its.length hi - HT.sIx its.length 0 lo)).toArray:=by
 obtain⟨h1,h2,h3⟩:=zaY lo hi its.toArray.size
 unfold slicePick
 rw[h1,h2,h3]
 simp only[sliceRange_one,pick_run,j3] <;> rfl
def rSlL (K:W.Frag):V->Option Int->Option Int->Hp->VK->Prop:=λx lo hi H Q=>∃ a xs,x=.ref a/\SqL K H a xs/\∀ p,H p=none->Q (.ref p) (upd H p (.lst (zck xs lo hi)))
theorem zkA:SlR X (rSlL X.K):=by
 intro pins s σ H x v vl vu lo hi sl Q I rx hs pl pu h
 obtain⟨a,xs,rfl,hx,q⟩:=h
 cases rx
 obtain⟨its,r,ht,hz⟩:=I.list hx
 have hlen:=r.length
 refine⟨"list",_,slot_list_getitem.lookup,ht.isList.typeIs,?_⟩
 refine wpAny_getItem_list_slice ht.isList hs pl pu .none (by simp) ?_ (by rw[j3] <;> omega)
 rw[VD,<- hlen]
 refine⟨.ref s.heap.objs.size,_,I.laid (t':=s.toks) (o:=.lst (zck xs lo hi)) (λb ob q=>u5 _ q) (q5 _) ?_,rfl,q _ (I.hok.fresh (q5 _))⟩
 exact⟨i3 (Wn xs lo hi) hz,_,0,(r.drop (HT.sIx xs.length 0 lo)).take (HT.sIx xs.length xs.length hi - HT.sIx xs.length 0 lo),r9 _ rfl⟩
def zjI:V->Bool
 | .non=>true
 | .bl _=>true
 | .int _=>true
 | .str _=>true
 | _=>false
def eqV:V->V->Bool
 | .non,.non=>true
 | .bl a,.bl b=>a == b
 | .bl a,.int b=>(if a then 1 else 0) == b
 | .int a,.bl b=>a == (if b then 1 else 0)
 | .int a,.int b=>a == b
 | .str a,.str b=>a == b
 | _,_=>false
theorem ziW {A:Around}{s:Shared}{y x:V}{u v:Value}(ry:yI y u)(rx:yI x v)(fy:zjI y=true)(fx:zjI x=true):SeqAt.EqAt A s u v (eqV y x):=by
 cases y with
 | non =>
  cases ry
  cases x with
  | non=>cases rx;exact SeqAt.EqAt.same _
  | bl b=>cases rx;exact SeqAt.EqAt.none_bool b
  | int b=>obtain⟨t,rfl⟩:=rx;exact SeqAt.EqAt.none_int b t
  | str b=>obtain⟨t,rfl⟩:=rx;exact SeqAt.EqAt.none_str b t
  | _=>exact absurd (show false=true from fx) u6
 | bl a =>
  cases ry
  cases x with
  | non=>cases rx;exact SeqAt.EqAt.bool_none a
  | bl b=>cases rx;exact SeqAt.EqAt.bool_bool a b
  | int b=>obtain⟨t,rfl⟩:=rx;exact SeqAt.EqAt.bool_int a b t
  | str b=>obtain⟨t,rfl⟩:=rx;exact SeqAt.EqAt.bool_str a b t
  | _=>exact absurd (show false=true from fx) u6
 | int a =>
  obtain⟨t',rfl⟩:=ry
  cases x with
  | non=>cases rx;exact SeqAt.EqAt.int_none a t'
  | bl b=>cases rx;exact SeqAt.EqAt.int_bool a t' b
  | int b=>obtain⟨t,rfl⟩:=rx;exact u3b a t' b t
  | str b=>obtain⟨t,rfl⟩:=rx;exact SeqAt.EqAt.int_str a t' b t
  | _=>exact absurd (show false=true from fx) u6
 | str a =>
  obtain⟨t',rfl⟩:=ry
  cases x with
  | non=>cases rx;exact SeqAt.EqAt.str_none a t'
  | bl b=>cases rx;exact SeqAt.EqAt.str_bool a t' b
  | int b=>obtain⟨t,rfl⟩:=rx;exact SeqAt.EqAt.str_int a t' b t
  | str b=>obtain⟨t,rfl⟩:=rx;exact SeqAt.EqAt.str_str a t' b t
  | _=>exact absurd (show false=true from fx) u6
 | _=>exact absurd (show false=true from fy) u6
theorem yb:vR X (.builtin "len") (λxs H Q=>∃ p ys,xs=[.ref p]/\(SqL X.K H p ys\/SqT X.K H p ys)/\Q (.int ys.length) H):=by
 intro pins s σ H xs us Q I r h
 obtain⟨p,ys,rfl,hq,q⟩:=h
 obtain⟨u,rfl,rx⟩:=WM r
 cases rx
 have hn:=Vs
 rcases hq with hq | hq
 .obtain⟨its,r',pl,hz⟩:=I.list hq
  have hlen:=r'.length
  exact Calls.call_len_list pl.isList (by simp only[j3] <;> omega) ⟨.int ys.length,H,I.tok _,⟨s.toks+1,by rw[j3,hlen]⟩,q⟩
 .obtain⟨its,r',pl,hz⟩:=I.tuple hq
  have hlen:=r'.length
  exact len_tuple pl (by simp only[j3] <;> omega) ⟨.int ys.length,H,I.tok _,⟨s.toks+1,by rw[j3,hlen]⟩,q⟩
theorem zaP:vR X (.type "list") (λxs H Q=>∃ p ys,xs=[.ref p]/\(SqL X.K H p ys\/SqT X.K H p ys)/\∀ l,H l=none->Q (.ref l) (upd H l (.lst ys))):=by
 intro pins s σ H xs us Q I r h
 obtain⟨p,ys,rfl,hq,q⟩:=h
 obtain⟨u,rfl,rx⟩:=WM r
 cases rx
 have fin:∀ (its:List Value),yl ys its->ys.length<=sizeLine->∀ (h':Heap) (c':Nat),(∀ b o',s.heap.get? b=some o'->h'.get? b=some o') ->
  h'.get? s.heap.objs.size=some { cls:=.type "list",dict:=none,data:=.seq its.toArray c',slots:=#[] }->EP X pins σ Q (.ref s.heap.objs.size) { s with heap:=h' }:=λits r' hz h' c' kp e =>
  ⟨.ref s.heap.objs.size,_,I.laid (t':=s.toks) kp (q5 _) (show yq X.prog X.w _ h' _ (.lst ys) from⟨hz,its,c',r',e⟩),rfl,q _ (I.hok.fresh (q5 _))⟩
 rcases hq with hq | hq
 .obtain⟨its,r',pl,hz⟩:=I.list hq
  have hlen:=r'.length
  obtain⟨o,ho,hc,n,hd⟩:=pl.isList
  exact call_list_seq p (.inl rfl) ho hc hd (λh' c' kp e=>fin its r' hz h' c' kp e) (by simp only[j3] <;> omega)
 .obtain⟨its,r',pl,hz⟩:=I.tuple hq
  have hlen:=r'.length
  obtain⟨o,ho,hc,n,hd⟩:=pl
  exact call_list_seq p (.inr rfl) ho hc hd (λh' c' kp e=>fin its r' hz h' c' kp e) (by simp only[j3] <;> omega)
theorem yX:vR X (.type "tuple") (λxs H Q=>∃ p ys,xs=[.ref p]/\((SqL X.K H p ys/\∀ l,H l=none->Q (.ref l) (upd H l (.tup ys)))\/(SqT X.K H p ys/\Q (.ref p) H))):=by
 intro pins s σ H xs us Q I r h
 obtain⟨p,ys,rfl,h⟩:=h
 obtain⟨u,rfl,rx⟩:=WM r
 cases rx
 rcases h with ⟨hq,q⟩ | ⟨hq,q⟩
 .obtain⟨its,r',pl,hz⟩:=I.list hq
  have hlen:=r'.length
  refine call_tuple_list pl.isList (λh' kp=>?_) (by simp only[j3] <;> omega)
  have I1:Inv X pins σ H { s with heap:=h' }:=I.kept (t':=s.toks) kp
  have I2:Inv X pins σ (upd H h'.objs.size (.tup ys)) { s with heap:=h'.push { cls:=.type "tuple",data:=.seq its.toArray } } :=
   I1.laid (t':=s.toks) (λb o e=>u5 _ e) (q5 _) (show yq X.prog X.w _ _ _ (.tup ys) from⟨hz,its,r',IsTup.new _ _⟩)
  exact⟨.ref h'.objs.size,_,I2,rfl,q _ (I1.hok.fresh (q5 _))⟩
 .obtain⟨its,r',pl,hz⟩:=I.tuple hq
  exact call_tuple_same pl ⟨.ref p,H,I,rfl,q⟩
def tyV (K:W.Frag)(T:String)(x:V)(H:Hp):Prop:=match x with
 | .str _=>T="str"
 | .int _=>T="int"
 | .ref p=>(T="list"/\∃ xs,SqL K H p xs)\/(T="tuple"/\∃ o,K.lookup p=some o/\o.cls=.type "tuple"/\o.dict=none) \/
  (T="dict"/\((∃ kvs,H p=some (.dK kvs))\/∃ kvs,H p=some (.dT kvs)))\/(T="set"/\∃ S n,H p=some (.set S n))
 | _=>False
theorem zjb {pins:List (Addr × Obj)}{σ:St}{H:Hp}{s:Shared}{T:String}{x:V}{v:Value}(I:Inv X pins σ H s)(r:yI x v)(ty:tyV X.K T x H) :
 s.TypeIs v T/\∀ a,v=.ref a->∃ ob,s.heap.get? a=some ob/\ob.dict=none:=by
 cases x with
 | str z =>
  obtain⟨t,rfl⟩:=r
  cases (show T="str" from ty)
  exact⟨typeIs_str s z t,λ_ e=>nomatch e⟩
 | int i =>
  obtain⟨t,rfl⟩:=r
  cases (show T="int" from ty)
  exact⟨typeIs_int s i t,λ_ e=>nomatch e⟩
 | ref p =>
  cases r
  rcases ty with ⟨rfl,xs,hq⟩ | ⟨rfl,o,hk,hc,hd⟩ | ⟨rfl,hk⟩ | ⟨rfl,S,n,hk⟩
  .obtain⟨its,_,pl,_⟩:=I.list hq
   refine⟨pl.isList.typeIs,λa e=>?_⟩
   cases e
   obtain⟨o,n,e,c,hd,_⟩:=pl
   exact⟨o,e,hd⟩
  .refine⟨⟨o,I.kIn p o hk,hc⟩,λa e=>?_⟩
   cases e
   exact⟨o,I.kIn _ o hk,hd⟩
  .have z:∃ o,s.heap.get? p=some o/\o.ExactDict:=by
    rcases hk with ⟨kvs,hk⟩ | ⟨kvs,hk⟩
    .obtain⟨_,_,_,_,o,_,_,e,ex,_⟩:=I.hok p _ hk
     exact⟨o,e,ex⟩
    .obtain⟨_,_,_,_,o,_,_,e,ex,_⟩:=I.hok p _ hk
     exact⟨o,e,ex⟩
   obtain⟨o,e,ex⟩:=z
   refine⟨⟨o,e,ex.1⟩,λa e2=>?_⟩
   cases e2
   exact⟨o,e,ex.2.1⟩
  .obtain⟨o,_,_,_,e,ex,_⟩:=I.hok p _ hk
   refine⟨⟨o,e,ex.1⟩,λa e2=>?_⟩
   cases e2
   exact⟨o,e,ex.2.1⟩
 | _=>exact False.elim ty
def tBM0 (K:W.Frag)(T:String)(r:V->List V->Hp->VK->Prop)(to:TE):TE:=fun σ H Q=>to σ H λx H1=>tyV K T x H1/\r x [] H1 Q
def tBM (K:W.Frag)(T:String)(r:V->List V->Hp->VK->Prop)(to:TE)(t:TA):TE:=fun σ H Q=>to σ H λx H1=>tyV K T x H1/\t σ H1 λxs H2=>r x xs H2 Q
variable {o e:Expr}{es:List Expr}{to:TE}{t:TA}{name:Str}{apos cpos:Pos}{T id:String}{r:V->List V->Hp->VK->Prop}
theorem zmo (pa:PlainAttrs T) (slot:Slot T name id) (hty:typeOf (.builtin id)=pure (.type "method_descriptor")) (hm:MtR X id r) (ho:PE X o to)
 (hbase:attributeBase o name X.env (eval o X.env)=eval o X.env:=by rfl) (hline:(apos.endLine == cpos.line)=true:=by rfl):PE X (.Call (.Attribute o name apos) [] [] cpos) (tBM0 X.K T r to):=by
 intro pins s σ H Q I h
 refine wpAny_Call_method0_late hbase hline (thn (ho pins s σ H _ I h) λv s1 hh9=>?_)
 obtain⟨x,H1,I1,r1,ty,q1⟩:=hh9
 obtain⟨h1,h2⟩:=zjb I1 r1 ty
 exact⟨T,id,pa,slot,hty,h1,h2,Calls.callWith_builtin rfl (PySem.evalArgs_none (hm pins s1 σ H1 x [] v [] Q I1 r1 .nil q1))⟩
theorem zcp (pa:PlainAttrs T) (slot:Slot T name id) (hty:typeOf (.builtin id)=pure (.type "method_descriptor")) (hm:MtR X id r) (ho:PE X o to) (ha:PA X (e::es) t)
 (hbase:attributeBase o name X.env (eval o X.env)=eval o X.env:=by rfl)
 (hfew:((backTo cpos (starEach (e::es) X.env)).all (λx=>!x.1)&&(backToKw cpos (keywordEach [] X.env)).all (λx=>x.1.isSome)
  && decide ((e::es).length+([]:List Keyword).length+(if ([]:List Keyword).isEmpty then 0 else 1) < 30))=true:=by rfl)
 (hline:(apos.endLine == cpos.line)=true:=by rfl) (hs:starEach (e::es) X.env=(false,eval e X.env)::starEach es X.env:=by rfl) (hplain:(backTo cpos (starEach es X.env)).any (·.1)=false:=by rfl) :
 PE X (.Call (.Attribute o name apos) (e::es) [] cpos) (tBM X.K T r to t):=by
 intro pins s σ H Q I h
 refine wpAny_Call_method_late hbase hfew hline rfl (thn (ho pins s σ H _ I h) λv s1 hh9=>?_)
 obtain⟨x,H1,I1,r1,ty,q1⟩:=hh9
 obtain⟨h1,h2⟩:=zjb I1 r1 ty
 refine⟨T,id,pa,slot,hty,h1,h2,?_⟩
 have hA:=ha cpos pins s1 σ H1 _ I1 q1
 rw[hs]at hA ⊢
 refine Calls.callWith_builtin (by show(false||(backTo cpos (starEach es X.env)).any (·.1))=false;rw[hplain] <;> rfl) (Calls.evalArgs_plain ?_)
 exact thn hA λus s2 ⟨vs,H2,I2,r2,q2⟩=>hm pins s2 σ H2 x vs v us Q I2 r1 r2 q2
/- xs.append(e),list.index on a module's tuple .. are MtR facts of 06m -/
end
def MtM (X:Cx)(id:String)(r:V->List V->Hp->VK->Prop):Prop :=
 ∀ (pins:List (Addr × Obj)) (s:Shared) (σ:St) (H:Hp) (x:V) (xs:List V) (v:Value) (us:List Value) (Q:VK),Inv X pins σ H s->yI x v->yl xs us->r x xs H Q ->
  wpAny (model X.prog X.w) X.A (call (.builtin id) (v::us)) (EP X pins σ Q) X.xe s
theorem yl.one:∀ {x:V} {us:List Value},yl [x] us->∃ u,us=[u]/\yI x u:=by
 intro x us h
 cases h with | cons r t=>cases t;exact⟨_,rfl,r⟩
theorem yl.rep {xs:List V}{us:List Value}(h:yl xs us):∀ k:Nat,yl (List.replicate k xs).flatten (List.replicate k us).flatten
 | 0=>.nil
 | k+1=>by
  rw[u01,u01,u1q,u1q]
  exact yl.append h (yl.rep h k)
theorem zbr (its:List Value):∀ (k:Nat) (acc:List Value),
 List.foldl (λx1 x2=>x1++x2) acc.toArray (List.replicate k its.toArray)=(acc++(List.replicate k its).flatten).toArray
 | 0,acc=>by simp
 | k+1,acc=>by
  have e:acc.toArray++its.toArray=(acc++its).toArray:=by simp
  have e2:(acc++its)++(List.replicate k its).flatten=acc++(List.replicate (k+1) its).flatten:=by
   rw[u01,u1q,b9]
  rw[<-e2,<- zbr its k (acc++its),<- e,u01,List.foldl_cons]
section
variable {X:Cx}{pins:List (Addr × Obj)}{σ:St}{H:Hp}{s:Shared}{l b:Addr}{xs ys zs:List V}
theorem Inv.lset {its its':List Value}{n:Nat}{f:Array Value->Array Value}{t':Nat}(I:Inv X pins σ H s)(hH:H l=some (.lst xs))
 (e:s.heap.get? l=some { cls:=.type "list",data:=.seq its.toArray n }) (hf:f its.toArray=its'.toArray) (hv:yl ys its') (hz:ys.length<=sizeLine) :
 Inv X pins σ (upd H l (.lst ys)) { s with heap:=s.heap.update l (Obj.mapSeq f),toks:=t' }:=by
 have q:=PySem.IsL.update e f
 rw[hf]at q
 refine I.write (x:=l) (e:=l) (by rw[hH];exact trivial) (.inl rfl) (λb' u hb hu=>(u0E s.heap (Obj.mapSeq f) (u03 hb)).trans hu) ⟨_,q⟩ ?_
 exact⟨hz,its',_,hv,q⟩
theorem Inv.lnew {its:List Value}{t':Nat}(I:Inv X pins σ H s)(hv:yl ys its)(hz:ys.length<=sizeLine) :
 Inv X pins σ (upd H s.heap.objs.size (.lst ys)) { s with heap:=s.heap.push { cls:=.type "list",data:=.seq its.toArray },toks:=t' } :=
 I.laid (λ_ _ q=>u5 _ q) (q5 _) ⟨hz,its,0,hv,r9 _ rfl⟩
theorem Inv.fresh (I:Inv X pins σ H s):H s.heap.objs.size=none:=I.hok.fresh (q5 _)
theorem Inv.lstM (I:Inv X pins σ H s) (hH:H l=some (.lst xs)):xs.length<=sizeLine/\∃ (its:List Value) (n:Nat),yl xs its/\xs.length=its.length/\s.heap.get? l=some { cls:=.type "list",data:=.seq its.toArray n }:=by
 obtain⟨z,its,n,r,e⟩:=I.hok l _ hH
 exact⟨z,its,n,r,r.length,e⟩
theorem zdl {n:Nat}(h:n<=sizeLine):Builtin.List.listTooLong n=false:=by
 unfold Builtin.List.listTooLong
 exact h9 (by omega)
end
section
variable {X:Cx}
def zgY:V->List V->Hp->VK->Prop:=λx vs H Q=>∃ l xs y,x=.ref l/\vs=[y]/\H l=some (.lst xs)/\xs.length < sizeLine/\Q .non (upd H l (.lst (xs++[y])))
theorem WA:MtM X "list.append" zgY:=by
 intro pins s σ H x vs v us Q I rx rv h
 obtain⟨l,xs,y,rfl,rfl,hH,hz,q⟩:=h
 cases rx
 obtain⟨u,rfl,ru⟩:=rv.one
 obtain⟨z,its,n,r,hl,e⟩:=I.lstM hH
 refine u2J F.slot_list_append ⟨_,e,rfl⟩ F.entry_list_append (F.args_list_append_2 _ _) (PySem.list_append l its.toArray n u (by rw[j3];omega)) ⟨e,?_⟩
 refine⟨.non,_,I.lset (its':=its++[u]) hH e (by simp) (r.append (.cons ru .nil)) ?_,rfl,q⟩
 rw[r0,List.length_singleton]
 omega
def zgu:V->List V->Hp->VK->Prop:=λx vs H Q=>∃ l b xs zs,x=.ref l/\vs=[.ref b]/\H l=some (.lst xs)/\H b=some (.lst zs)/\xs.length+zs.length<=sizeLine/\Q .non (upd H l (.lst (xs++zs)))
theorem zbT:MtM X "list.extend" zgu:=by
 intro pins s σ H x vs v us Q I rx rv h
 obtain⟨l,b,xs,zs,rfl,rfl,hH,hB,hz,q⟩:=h
 cases rx
 obtain⟨u,rfl,ru⟩:=rv.one
 cases ru
 obtain⟨z,its,n,r,hl,e⟩:=I.lstM hH
 obtain⟨z2,its2,n2,r2,hl2,e2⟩:=I.lstM hB
 have hsz:its.toArray.size+its2.toArray.size<=sizeLine:=by rw[j3,j3];omega
 have hlong:¬ (!its.toArray.isEmpty&&Builtin.List.listTooLong (its.toArray.size+its2.toArray.size))=true:=by
  rw[zdl hsz,u1H]
  exact u6
 refine u2J F.slot_list_extend ⟨_,e,rfl⟩ F.entry_list_extend (F.args_list_extend_2 _ _)
  (AutoSeq1.list_extend_list_list_0 l its.toArray n b its2.toArray n2 hlong (by rw[j3];omega) (by omega)) ⟨e,e2,?_⟩
 refine⟨.non,_,I.lset (its':=its++its2) hH e (by simp) (r.append r2) ?_,rfl,q⟩
 rw[r0]
 omega
def znG:R2:=λx y H Q=>∃ l b xs zs,x=.ref l/\y=.ref b/\H l=some (.lst xs)/\H b=some (.lst zs)/\xs.length+zs.length<=sizeLine/\∀ p,H p=none->Q (.ref p) (upd H p (.lst (xs++zs)))
theorem zda:OpR X (binaryOp .Add) znG:=by
 intro pins s σ H x y v u Q I rx ry h
 obtain⟨l,b,xs,zs,rfl,rfl,hH,hB,hz,q⟩:=h
 cases rx
 cases ry
 obtain⟨z,its,n,r,hl,e⟩:=I.lstM hH
 obtain⟨z2,its2,n2,r2,hl2,e2⟩:=I.lstM hB
 refine PySem.P.add_list e e2 ?_ (by rw[j3,j3];omega)
 have ea:its.toArray++its2.toArray=(its++its2).toArray:=by simp
 rw[ea]
 exact⟨.ref _,_,I.lnew (t':=s.toks) (r.append r2) (by rw[r0];omega),rfl,q _ I.fresh⟩
def rRep:R2:=λx y H Q=>∃ l k xs,x=.ref l/\y=.int k/\H l=some (.lst xs)/\-(2 ^ 63)<=k/\k < 2 ^ 63/\xs.length*k.toNat<=sizeLine /\
 ∀ p,H p=none->Q (.ref p) (upd H p (.lst (List.replicate k.toNat xs).flatten))
theorem zkb {α:Type}(xs:List α)(k:Nat):(List.replicate k xs).flatten.length=k*xs.length:=by
 induction k with
 | zero=>simp
 | succ k ih=>rw[u01,u1q,r0,ih,Nat.succ_mul,Nat.add_comm]
theorem zlg:OpR X (binaryOp .Mult) rRep:=by
 intro pins s σ H x y v u Q I rx ry h
 obtain⟨l,k,xs,rfl,rfl,hH,h1,h2,hz,q⟩:=h
 cases rx
 obtain⟨t,rfl⟩:=ry
 obtain⟨z,its,n,r,hl,e⟩:=I.lstM hH
 have hlen:its.toArray.size*k.toNat<=sizeLine:=by rw[j3,<- hl];exact hz
 have hcap:¬ its.toArray.size*k.toNat > (2 ^ 63 - 1) / 8:=by
  have:(sizeLine:Nat)<=(2 ^ 63 - 1) / 8:=by decide
  omega
 have hfit:¬ (!Builtin.List.listFitsIndex k)=true:=by
  rw[fitsIndex_both h1 h2]
  exact u6
 have hlong:¬ Builtin.List.listTooLong (its.toArray.size*k.toNat)=true:=by
  rw[zdl hlen]
  exact u6
 have hnew:List.foldl (λx1 x2=>x1++x2) #[] (List.replicate (if its.toArray.isEmpty=true then 0 else k.toNat) its.toArray)=(List.replicate k.toNat its).flatten.toArray:=by
  have f0:∀ m:Nat,List.foldl (λx1 x2=>x1++x2) #[] (List.replicate m its.toArray)=(List.replicate m its).flatten.toArray:=λm=>by
   have:=zbr its m []
   rw[u3O]at this
   exact this
  rw[f0]
  cases its with
  | nil=>simp
  | cons a r'=>rw[j0 (by simp)]
 refine wpAny_binaryOp_repeat_ref (T:="list") (U:="int") (by decide) ⟨_,e,rfl⟩ (λs'=>typeIs_int s' k t) noFill_list_mul F.fills_int_mul F.slot_int_rmul repeat_list F.slot_int_index.lookup
  (u2J F.slot_int_rmul (typeIs_int s k t) F.entry_int_rmul (F.args_int_rmul_2 _ _) (int___rmul___int_list k t l its.toArray n)
   ⟨e,rfl,⟨_,e,rfl⟩,u2J F.slot_list_mul ⟨_,e,rfl⟩ F.entry_list_mul (F.args_list_mul_2 _ _) (AutoListH.list___mul___list_int_3 l its.toArray n k t hfit hcap hlong) ⟨e,?_⟩⟩)
 rw[hnew]
 exact⟨.ref _,_,I.lnew (t':=s.toks) (r.rep k.toNat) (by rw[zkb,Nat.mul_comm];exact hz),rfl,q _ I.fresh⟩
end
end L2
namespace Att
open PySem PySem.W PySem.Calls PyProof.Rows
theorem Wc {P:Params}{h:Heap}:∀ (ns:List Int) (vs:List Value),WellAll P h vs (ns.map WData.int)->IntsAre vs ns:=by
 intro ns
 induction ns with
 | nil =>
  intro vs w
  rw[List.map_nil]at w
  cases w
  exact .nil
 | cons n ns ih =>
  intro vs w
  rw[i4]at w
  cases w with
  | cons a b =>
   cases a
   exact .cons _ _ (ih _ b)
theorem zfL {l:OpenLaw}{n:Nat}(hn:l.most=some n){P:Params}{h:Heap}{args:List WData}{vals:List Value}
 (hpre:l.row.toRowW.claim.pre args=true) (hwl:WellAll P h vals args) :
 ∃ a vs ns,vals=[Value.ref a]/\args=[WData.list (ns.map WData.int)]/\h.get? a=some { cls:=.type "list",data:=.seq vs.toArray }/\IntsAre vs ns/\ns.length<=n:=by
 have hsh:WShape.hasAll [] args [.list .int]=true:=(pre_splitW hpre).1
 have hc:l.pre.holds [] { args:=args }=true:=(pre_splitW hpre).2
 obtain⟨d,r,rfl,h1,h2⟩:=hasAllW_cons hsh
 obtain rfl:=hasAllW_nil h2
 obtain⟨xs,rfl,h3⟩:=hasW_list h1
 obtain⟨ns,rfl⟩:=items_int h3
 have hlen:ns.length<=n:=by
  unfold OpenLaw.pre at hc
  have h4:(WTm.not (.lt (.lit (.int (n:Int))) (.len (.arg 0)))).holds [] { args:=[.list (ns.map .int)] }=true:=by
   have h4:=(holds_andW hc).1
   rw[hn]at h4
   exact h4
  have h5:=condW_of h4 (w_not (w_lt w_lit (w_len_list (w_arg rfl))))
  rw[u7]at h5
  refine u1F λq=>?_
  have q':(n:Int) < ((ns.length:Nat):Int):=by omega
  first
   | (rw[b6 q']at h5;exact absurd h5 (by decide))
   | (simp at h5;omega)
 cases hwl with
 | cons w1 w2 =>
  cases w2
  cases w1 with
  | list ho hall=>exact⟨_,_,ns,rfl,rfl,ho,Wc ns _ hall,hlen⟩
theorem zfq (l:OpenLaw)(args:List WData):l.row.toRowW.claim.post args (.bool true) args=true :=
 postW_of (r:=l.row.toRowW) (X:=(true == true))
  (show WShape.has [] (.bool true) .bool=true by first | rfl | decide | simp[WShape.has,WShape.arms,WShape.armsAll])
  (show(WTm.eq .res (.lit (.bool true))).value [] { args:=args,res:=some (.bool true),after:=args }=some (.bool (true == true))from w_eq_bool (w_res rfl) w_lit) rfl
theorem attach_call {l:OpenLaw}{n:Nat}{q:Program}{loose:List Str}{XP:(Str->Option Value)->Heap->Prop}{YP:World->Heap->Prop}{d:DefRec}
 (hn:l.most=some n) (hdf:d.params.defaults=[])
 (call:∀ (w:World) (s₀ s₁:Shared) (mg mb:Str->Option Value) (fa:Addr) (o:Obj) (pm cd doc:Value) (a:Addr) (vs:List Value) (ns:List Int),
  Ground q loose [] XP w s₀ mg mb s₁.heap->YP w s₁.heap ->
  s₁.heap.get? fa=some o->o.data=.func (docDef d.name d.params d.body d.scope pm cd doc)->s₁.heap.CodeRec cd d.name->mg d.name=some (.ref fa) ->
  s₁.heap.get? a=some { cls:=.type "list",data:=.seq vs.toArray }->IntsAre vs ns->ns.length<=n->s₁.gens=#[] ->
  codeAny (model l.prog w) callerA (.call (.ref fa) ⟨[.ref a],[]⟩) (λr s'=>r=.ok (.ret (.bool true))/\OldK s₁.heap s'.heap/\s'.os=s₁.os/\AllBare s'.gens) s₁) :
 WalkO q loose XP YP l.row.toRowW d [] (λf vs=>PySem.call f vs):=by
 intro w s₀ s₁ mg mb G Y fa o pm cd doc dV kV ho hd hcd hD hmg hg args vals as hpre hlay hrd hwl hlo
 obtain rfl:dV=.none:=Dflts.none hD hdf
 obtain rfl:kV=.none:=Dflts.noKw hD
 obtain⟨a,vs,ns,rfl,rfl,hobj,hints,hlen⟩:=zfL hn hpre hwl
 refine enter_call (u3d (call w s₀ s₁ mg mb fa o pm cd doc a vs ns G Y ho (fd_plain hd) hcd hmg hobj hints hlen hg) λr s' hq=>?_)
 obtain⟨rfl,h2,h3,h4⟩:=hq
 exact⟨.inl ⟨.bool true,.bool true,[],rfl,λ_=>rfl,.bool true,zfq l _,λ_=>⟨List.Pairwise.nil,λ_ hm=>(nomatch hm)⟩⟩,h2,h3,h4⟩
section
variable {prog:Program}{w:World}{A:Around}{E:Value->Shared->Prop}{s:Shared}{K:Frag}
def ledger (h:Heap)(L d:Addr):List (Addr × Obj):=(List.range h.objs.size).filterMap λa=>if a=L\/a=d then none else (h.get? a).map λo=>(a,o)
end
end Att
namespace L2
open PySem PySem.Spec PyProof.Rows
theorem zbj:∀ {vs:List Value} {ns:List Int},IntsAre vs ns->yl (ns.map V.int) vs:=by
 intro vs ns h
 induction h with
 | nil=>exact .nil
 | cons n t h ih=>exact .cons ⟨t,rfl⟩ ih
def znU (H:Hp):Prop:=∀ b,H b=none\/∃ o xs,H b=some (.frz o (.lst xs))
theorem zhF {P:Program}{w:World}{K:W.Frag}{mg mb:Str->Option Value}{CX:CXT}{k:Nat}{fa a:Addr}{fd:FuncData}{x:Str}{sp:Sp}{s₁:Shared}{vs:List Value}{ns:List Int}
 (KX:K.In s₁.heap) (hns:s₁.heap.Ns mainGlobals mg) (hb:s₁.heap.Ns builtinsNs mb) (hbb:∀ x:Str,x≠"__name__"->mb x=bootBuiltins x) (hlim:s₁.heap.NoLimit) (hg:s₁.gens=#[])
 (ha:s₁.heap.get? a=some { cls:=.type "list",data:=.seq vs.toArray }) (hi:IntsAre vs ns) (hl:ns.length<=sizeLine) (hr:vw k callerA)
 (F:∀ base:Heap,K.In base->base.Ns mainGlobals mg->y6 P w K mg base CX k fa fd [x] sp) (hbind:∀ (s:Shared) (u:Value),BindsTo s fd ⟨[u],[]⟩ [(x,u)])
 (hsp:∀ H:Hp,znU H->SqL K H a (ns.map V.int)->sp [.ref a] H (λv _=>v=.bl true) λ_ _ _=>False)
 (hCX:∀ H e s',CX [] H s₁ (λ_ _ _=>False) e s'->False) :
 codeAny (model P w) callerA (.call (.ref fa) ⟨[.ref a],[]⟩) (λr s'=>r=.ok (.ret (.bool true))/\OldK s₁.heap s'.heap/\s'.os=s₁.os/\AllBare s'.gens) s₁:=by
 have rv:=zbj hi
 have lenV:=hi.length
 -- from an abstract heap in which nothing but the script may be tracked
 have core:∀ H:Hp,znU H->SqL K H a (ns.map V.int)->HOk P w H s₁.heap->(∀ b,H b≠none->b=a)->(H a≠none->K.lookup a=none) ->
  codeAny (model P w) callerA (.call (.ref fa) ⟨[.ref a],[]⟩) (λr s'=>r=.ok (.ret (.bool true))/\OldK s₁.heap s'.heap/\s'.os=s₁.os/\AllBare s'.gens) s₁:=by
  intro H hO hS hok hA hK
  have base_of:∀ {b:Addr} {o:Obj},s₁.heap.get? b=some o->H b=none->(zhR s₁.heap H).get? b=some o:=λe n=>ziD e n
  have noA:∀ {b:Addr} {o:Obj} {es:Array DictEntry} {ep:Nat},s₁.heap.get? b=some o->o.data=.dict es ep->H b=none:=λ{b o es ep} e d=>by
   cases q:H b with
   | none=>rfl
   | some u =>
    have e':b=a:=hA b (by rw[q];simp)
    subst e'
    rw[ha]at e;cases e
    have d':Data.seq vs.toArray _=Data.dict es ep:=d
    cases d'
  have nsK:∀ {b:Addr} {m:Str->Option Value},s₁.heap.Ns b m->(zhR s₁.heap H).Ns b m:=λ{b m} ⟨o,es,ep,e,d,r⟩=>⟨o,es,ep,base_of e (noA e d),d,r⟩
  have hKb:K.In (zhR s₁.heap H):=λb o e=>base_of (KX b o e) (by
   cases q:H b with
   | none=>rfl
   | some u =>
    have e':b=a:=hA b (by rw[q];simp)
    subst e'
    rw[hK (by rw[q];simp)]at e;cases e)
  have hM:Mod K mg (zhR s₁.heap H):=⟨hKb,nsK hns,⟨mb,nsK hb,hbb⟩,let ⟨mc,h1,h2⟩:=hlim;⟨mc,nsK h1,h2⟩⟩
  have e0:zjg P w K mg (zhR s₁.heap H) callerA [] s₁ H:=⟨rfl,hM,λb o e=>zjY e,Nat.le_of_eq (zeY _ _),trivial,λb hb=>absurd (show b∈([]:List Addr)from hb) (by simp),hok,.of_eq hg⟩
  refine u3d ((F _ hKb (nsK hns)).run callerA [] s₁ H ⟨[.ref a],[]⟩ [.ref a] [.ref a] _ _ hr e0 (hbind s₁ (.ref a)) (.cons rfl .nil) (hsp H hO hS)) λr s' h=>?_
  cases r with
  | error e=>exact(hCX H e s' h).elim
  | ok fl =>
   cases fl with
   | next=>exact False.elim h
   | brk=>exact False.elim h
   | cont=>exact False.elim h
   | ret u =>
    obtain⟨v,H',os,bare,un,hok',r',q⟩:=h
    have q':v=.bl true:=q
    subst q'
    obtain rfl:u=Value.bool true:=r'
    refine⟨rfl,OldK.of_keep λb o e=>?_,os,bare⟩
    cases q:H b with
    | none=>exact un.keep b o e q (by intro z;exact absurd (show b∈([]:List Addr)from z) (by simp)) (by simp)
    | some u =>
     rcases hO b with z | ⟨ob,xs,z⟩
     .rw[q]at z;cases z
     .have z2:=un.frzs b ob _ z
      obtain⟨e1,_⟩:=hok b _ z
      obtain⟨e2,_⟩:=hok' b _ z2
      rw[e]at e1;cases e1
      exact e2
 cases hk:K.lookup a with
 | some o =>
  -- the script is one of the module's own objects
  have e:=KX a o hk
  rw[ha]at e
  cases e
  refine core (λ_=>none) (λ_=>.inl rfl) (.inr ⟨_,vs.toArray,_,hk,rfl,rfl,rfl,by rw[j3,lenV];exact hl,by simpa using rv⟩) (λb u z=>by have z':(none:Option HO)=some u:=z;cases z') (λb z=>absurd rfl z) λz=>absurd rfl z
 | none =>
  refine core (λb=>if b=a then some (.frz { cls:=.type "list",data:=.seq vs.toArray } (.lst (ns.map V.int)))else none) (λb=>?_) (.inl (.inr ⟨{ cls:=.type "list",data:=.seq vs.toArray },t9 rfl⟩)) (λb u z=>?_) (λb z=>?_) λ_=>hk
  .by_cases hb:b=a
   .exact .inr ⟨_,_,t9 hb⟩
   .exact .inl (j0 hb)
  .by_cases hb:b=a
   .have z':=(t9 hb).symm.trans z
    cases z'
    subst hb
    exact⟨ha,by rw[u7];exact hl,vs,_,rv,ha⟩
   .have z':=(j0 hb).symm.trans z
    cases z'
  .by_cases hb:b=a
   .exact hb
   .exact absurd (j0 hb) z
theorem walk_of {l:W.OpenLaw}{n k:Nat}{q:Program}{loose:List Str}{XP:(Str->Option Value)->Heap->Prop}{YP:World->Heap->Prop}{d:DefRec}{K:Params->W.Frag}{CX:World->CXT}{sp:World->Sp}{x:Str}
 (hn:l.most=some n) (hn2:n<=sizeLine) (hdf:d.params.defaults=[]) (hr:vw k callerA)
 (hY:∀ (w:World) (h:Heap),YP w h->(K w.params).In h)
 (F:∀ (w:World) (mg:Str->Option Value) (fa:Addr) (h:Heap),(K w.params).In h->h.Ns mainGlobals mg->mg d.name=some (.ref fa) ->
  ∃ fd:FuncData,(∀ (s:Shared) (u:Value),BindsTo s fd ⟨[u],[]⟩ [(x,u)]) /\
   ∀ base:Heap,(K w.params).In base->base.Ns mainGlobals mg->y6 l.prog w (K w.params) mg base (CX w) k fa fd [x] (sp w))
 (hsp:∀ (w:World) (H:Hp) (a:Addr) (ns:List Int),ns.length<=n->znU H->SqL (K w.params) H a (ns.map V.int)->sp w [.ref a] H (λv _=>v=.bl true) λ_ _ _=>False)
 (hCX:∀ (w:World) (H:Hp) (s:Shared) (e:Value) (s':Shared),CX w [] H s (λ_ _ _=>False) e s'->False) :
 PySem.W.WalkO q loose XP YP l.row.toRowW d [] (λf vs=>PySem.call f vs):=by
 refine Att.attach_call hn hdf λw s₀ s₁ mg mb fa o pm cd doc a vs ns G Y ho hd hcd hmg hobj hints hlen hg=>?_
 have KX:=hY w _ Y
 obtain⟨fd,hb,hF⟩:=F w mg fa _ KX G.T.g hmg
 exact zhF KX G.T.g G.T.b G.T.builtins G.T.nolimit hg hobj hints (i3 hlen hn2) hr hF hb (λH hO hS=>hsp w H a ns hlen hO hS) λH e s'=>hCX w H s₁ e s'
def Ys (s:Stmt):Arguments:=match s with
 | .FunctionDef _ a _ _ _ _ _ _ _ _=>a
 | _=>{ posonlyargs:=[],args:=[],vararg:=none,kwonlyargs:=[],kw_defaults:=[],kwarg:=none,defaults:=[] }
def xU (s:Stmt):List Stmt:=match s with
 | .FunctionDef _ _ b _ _ _ _ _ _ _=>b
 | _=>[]
def zi (s:Stmt):Scope:=match s with
 | .FunctionDef _ _ _ _ _ _ sc _ _ _=>sc
 | _=>{ kind:=.function,names:=[],isGenerator:=false,isCoroutine:=false }
abbrev CX0:CXT:=λ_ _ _ _ _ _=>False
abbrev E0:XK:=λ_ _ _=>False
theorem zn8 {X:Cx}:Xt CX0 X E0:=λ_ _ _ _ _ _ _ h=>h.elim
structure Fun (K:W.Frag) (x qual:Str) (st:Stmt) (f:Addr) (fd:FuncData):Prop where
 ex:∃ (oc:Value) (od:Option Addr) (kV doc pm:Value) (an:Option Addr) (cdv ct:Value) (osl:Array (Option Value)),
  fd=W.fnOf x qual (Ys st) (xU st) (zi st) .none kV doc pm an cdv ct/\K.lookup f=some ⟨oc,od,.func fd,osl⟩/\W.codeIn K cdv qual=true
 kp:W.keepIn K (.ref f)=true
section
variable {P:Program}{w:World}{K:W.Frag}{mg:Str->Option Value}{base:Heap}
theorem Fun.ok {x qual:Str}{st:Stmt}{f:Addr}{fd:FuncData}{N ps:List Str}{k:Nat}{sp:Sp}(F:Fun K x qual st f fd)(S:zx N ps (zi st))(len:∀ vs H Q E,sp vs H Q E->vs.length=ps.length)
 (hbody:∀ (cdv:Value) (A:Around) (outer:List Env) (s:Shared) (H:Hp) (vs:List V) (Q:VK) (E:XK),vw k (A.deeper (envOfC qual (zi st) s.heap.objs.size f cdv))->sp vs H Q E ->
  ∃ t,PSs (Zq CX0 P w K mg base N qual (zi st) f cdv A outer s H E).nox (xU st) t/\t { nx:=λ_ H'=>Q .non H',rt:=Q } (start N vs) H):y6 P w K mg base CX0 (k+1) f fd ps sp:=by
 obtain⟨oc,od,kV,doc,pm,an,cdv,ct,osl,rfl,lk,hcd⟩:=F.ex
 refine zkW lk hcd S len λA outer s H vs Q E hr hsp=>?_
 obtain⟨t,h,q⟩:=hbody cdv A outer s H vs Q E hr hsp
 exact⟨t,h.nox,q⟩
theorem Fun.binds {x qual:Str}{st:Stmt}{f:Addr}{fd:FuncData}{ps:List Str}(F:Fun K x qual st f fd)
 (h:∀ (kV doc pm:Value) (an:Option Addr) (cdv ct:Value) (us:List Value),us.length=ps.length->bindArgs (W.fnOf x qual (Ys st) (xU st) (zi st) .none kV doc pm an cdv ct) ⟨us,[]⟩=pure (ps.zip us)):XM K fd ps []:=by
 obtain⟨oc,od,kV,doc,pm,an,cdv,ct,osl,rfl,lk,hcd⟩:=F.ex
 exact .all (h kV doc pm an cdv ct)
theorem zgO {x qual:Str}{st:Stmt}{f:Addr}{oc:Value}{od an:Option Addr}{osl:Array (Option Value)}{kV doc pm cdv ct:Value}(l:K.lookup f=some ⟨oc,od,.func (W.fnOf x qual (Ys st) (xU st) (zi st) .none kV doc pm an cdv ct),osl⟩)
 (c:W.codeIn K cdv qual=true) (k:W.keepIn K (.ref f)=true):Fun K x qual st f (W.fnOf x qual (Ys st) (xU st) (zi st) .none kV doc pm an cdv ct):=⟨⟨oc,od,kV,doc,pm,an,cdv,ct,osl,rfl,l,c⟩,k⟩
end
theorem zjA {A:Around}{k:Nat}(hr:vw k A):A.units+1 < cLine:=p6 (u13 (by decide:1<=64) _) hr.units
theorem Yy {n:Nat}(h:n<=1000):n < sizeLine:=p6 h (by decide)
section
variable {X:Cx}
theorem pv (i:Nat) {x:Str} {pos:Pos} (hN:X.N[i]?=some x:=by rfl) (hv:Vis X.env.scope x:=by first | exact Or.inl rfl | exact Or.inr (Or.inl rfl) | exact Or.inr (Or.inr rfl)) (hd:(x == ("__debug__":Str))=false:=by decide)
 (hcd:(x == ("__classdict__":Str))=false:=by decide):PE X (.Name x pos) (Vj i):=zlI hN hv hd hcd
end
def zZ (H H':Hp):Prop:=∀ b o,H b=some o->H' b=some o
theorem zZ.refl (H:Hp):zZ H H:=λ_ _ h=>h
theorem zZ.trans {H H1 H2:Hp}(a:zZ H H1)(b:zZ H1 H2):zZ H H2:=λc o h=>b c o (a c o h)
theorem zZ.free {H H':Hp}(e:zZ H H'){l:Addr}(h:H' l=Option.none):H l=Option.none:=by
 cases q:H l with
 | none=>rfl
 | some o =>
  rw[e l o q]at h
  cases h
theorem zZ.seq {K:W.Frag}{H H':Hp}{a:Addr}{xs:List V}(e:zZ H H')(h:SqL K H a xs):SqL K H' a xs:=by
 rcases h with (h | ⟨o,h⟩) | h
 .exact .inl (.inl (e _ _ h))
 .exact .inl (.inr ⟨o,e _ _ h⟩)
 .exact .inr h
section
variable {κ:Type}[DecidableEq κ]
def zcY (kvs:List (κ × V))(k:κ):Option V:=(kvs.find? λkv=>decide (kv.1=k)).map (·.2)
def zb3 (kvs:List (κ × V))(k:κ)(v:V):List (κ × V) :=
 if (kvs.any λkv=>decide (kv.1=k))=true then kvs.map (λkv=>if kv.1=k then (kv.1,v)else kv)else kvs++[(k,v)]
theorem XZ {p:κ × V}{r:List (κ × V)}{k:κ}(e:p.1=k):zcY (p::r) k=some p.2:=by simp[zcY,u1O,e]
theorem XW {p:κ × V}{r:List (κ × V)}{k:κ}(e:¬ p.1=k):zcY (p::r) k=zcY r k:=by simp[zcY,u1O,e]
theorem V2 (k:κ):∀ kvs:List (κ × V),(kvs.any λkv=>decide (kv.1=k))=(zcY kvs k).isSome
 | []=>rfl
 | p::r=>by
  rw[u2G]
  by_cases e:p.1=k
  .simp only[XZ e,b6 e,Bool.true_or,Option.isSome_some]
  .rw[XW e,h9 e,Bool.false_or];exact V2 k r
theorem Wp (kvs:List (κ × V))(k:κ)(v:V):(zb3 kvs k v).length<=kvs.length+1:=by
 unfold zb3
 split
 .rw[u7];omega
 .rw[r0,u0d,u2Q];omega
theorem zc0.isSome_eq {o:Option V}{u:Option Value}(r:zc0 o u):o.isSome=u.isSome:=by
 cases o with
 | none=>cases u with
  | none=>rfl
  | some _=>exact(show False from r).elim
 | some _=>cases u with
  | none=>exact(show False from r).elim
  | some _=>rfl
theorem KV.val {kvs:List (κ × V)}{vs:List (κ × Value)}(r:KV kvs vs)(k:κ):zc0 (zcY kvs k) (valueAt vs k):=by
 unfold KV at r
 induction r with
 | nil=>exact True.intro
 | @cons p q ps qs h t ih =>
  obtain⟨h1,h2⟩:=h
  by_cases e:p.1=k
  .have e':q.1=k:=h1.symm.trans e
   have b:valueAt (q::qs) k=some q.2:=by simp[valueAt,u1O,e']
   rw[XZ e,b];exact h2
  .have e':¬ q.1=k:=λz=>e (h1.trans z)
   have b:valueAt (q::qs) k=valueAt qs k:=by simp[valueAt,u1O,e']
   rw[XW e,b];exact ih
theorem KV.any {kvs:List (κ × V)}{vs:List (κ × Value)}(r:KV kvs vs)(k:κ):(kvs.any λkv=>decide (kv.1=k))=vs.any λkv=>decide (kv.1=k):=by
 unfold KV at r
 induction r with
 | nil=>rfl
 | cons h t ih=>rw[u2G,u2G,ih,h.1]
theorem KV.repl {kvs:List (κ × V)}{vs:List (κ × Value)}(r:KV kvs vs)(k:κ){y:V}{u:Value}(ry:yI y u) :
 KV (kvs.map λkv=>if kv.1=k then (kv.1,y)else kv) (vs.map λkv=>if kv.1=k then (kv.1,u)else kv):=by
 unfold KV at r ⊢
 induction r with
 | nil=>exact .nil
 | @cons p q ps qs h t ih =>
  rw[i4,i4]
  refine .cons ?_ ih
  obtain⟨h1,h2⟩:=h
  by_cases e:p.1=k
  .rw[t9 e,t9 (h1.symm.trans e)];exact⟨h1,ry⟩
  .rw[j0 e,j0 (λz=>e (h1.trans z))];exact⟨h1,h2⟩
theorem KV.put {kvs:List (κ × V)}{vs:List (κ × Value)}(r:KV kvs vs)(k:κ){y:V}{u:Value}(ry:yI y u):KV (zb3 kvs k y) (stored vs k u):=by
 unfold zb3 stored
 rw[r.any k]
 by_cases e:(vs.any λkv=>decide (kv.1=k))=true
 .rw[t9 e,t9 e];exact r.repl k ry
 .rw[j0 e,j0 e];exact Paired.snoc r ⟨rfl,ry⟩
theorem KV.keys {kvs:List (κ × V)}{vs:List (κ × Value)}(r:KV kvs vs):kvs.map (·.1)=vs.map (·.1):=by
 unfold KV at r
 induction r with
 | nil=>rfl
 | cons h t ih=>rw[i4,i4,ih,h.1]
theorem KV.length {kvs:List (κ × V)}{vs:List (κ × Value)}(r:KV kvs vs):kvs.length=vs.length:=u2H r
end
theorem zky {P:Program}{w:World}{k:Key}{u:Value}(r:yI (kV k) u):(yQ P w).is k u=true:=by
 cases k with
 | inl i=>obtain⟨t,e⟩:=(show ∃ t,u=Value.int i t from r);subst e;exact zbY P w i t
 | inr x=>obtain⟨t,e⟩:=(show ∃ t,u=Value.str x t from r);subst e;exact zbZ P w x t
theorem zbR {P:Program}{w:World}:∀ {ks:List Key} {us:List Value},yl (ks.map kV) us->ItemsAre (yQ P w) ks us
 | [],_,r=>by rw[List.map_nil]at r;cases r;exact .nil
 | k::ks,_,r=>by
  rw[i4]at r
  cases r with
  | cons h t=>exact .cons (zky h) (zbR t)
abbrev KT (H:Hp):List (List Key × V)->List (List Key × Addr × Value)->Prop:=Paired λp q=>p.1=q.1/\H q.2.1=some (.tup (p.1.map kV))/\yI p.2 q.2.2
theorem KT.val {H:Hp}{kvs:List (List Key × V)}{xs:List (List Key × Addr × Value)}(r:KT H kvs xs)(k:List Key):zc0 (zcY kvs k) ((atKey xs k).map (·.2)):=by
 induction r with
 | nil=>exact True.intro
 | @cons p q ps qs h t ih =>
  obtain⟨h1,_,h2⟩:=h
  by_cases e:p.1=k
  .have e':q.1=k:=h1.symm.trans e
   have b:atKey (q::qs) k=some q.2:=by simp[atKey,u1O,e']
   rw[XZ e,b];exact h2
  .have e':¬ q.1=k:=λz=>e (h1.trans z)
   have b:atKey (q::qs) k=atKey qs k:=by simp[atKey,u1O,e']
   rw[XW e,b];exact ih
theorem KT.repl {H:Hp}{kvs:List (List Key × V)}{xs:List (List Key × Addr × Value)}(r:KT H kvs xs)(k:List Key){y:V}{u:Value}(ry:yI y u) :
 KT H (kvs.map λkv=>if kv.1=k then (kv.1,y)else kv) (xs.map (putAt k u)):=by
 induction r with
 | nil=>exact .nil
 | @cons p q ps qs h t ih =>
  rw[i4,i4]
  refine .cons ?_ ih
  obtain⟨h1,h2,h3⟩:=h
  unfold putAt
  by_cases e:p.1=k
  .rw[t9 e,t9 (h1.symm.trans e)];exact⟨h1,h2,ry⟩
  .rw[j0 e,j0 (λz=>e (h1.trans z))];exact⟨h1,h2,h3⟩
theorem KT.put {H:Hp}{kvs:List (List Key × V)}{xs:List (List Key × Addr × Value)}(r:KT H kvs xs)(k:List Key){b:Addr}{y:V}{u:Value}(hb:H b=some (.tup (k.map kV)))(ry:yI y u) :
 KT H (zb3 kvs k y) (storedH xs k b u):=by
 have e:(kvs.any λkv=>decide (kv.1=k))=(atKey xs k).isSome:=by
  rw[V2,(r.val k).isSome_eq,u1v]
 unfold zb3 storedH
 rw[e]
 by_cases q:(atKey xs k).isSome=true
 .rw[t9 q,t9 q];exact r.repl k ry
 .rw[j0 q,j0 q];exact Paired.snoc r ⟨rfl,hb,ry⟩
theorem KT.keeps {H H':Hp}{kvs:List (List Key × V)}{xs:List (List Key × Addr × Value)}(r:KT H kvs xs)(ht:∀ b ys,H b=some (.tup ys)->H' b=some (.tup ys)):KT H' kvs xs :=
 Paired.mapP r λ_ _ z=>⟨z.1,ht _ _ z.2.1,z.2.2⟩
section
variable {P:Program}{w:World}{H:Hp}{h:Heap}{a:Addr}
theorem zlh {u:HO}(ok:HOk P w H h)(e:Rd H a u):yq P w H h a u:=e.ok ok
theorem zlV {kvs:List (Key × V)}(ok:HOk P w H h)(e:Rd H a (.dK kvs)):kvs.length<=sizeLine/\(a == sysModules)=false/\∃ vs,KV kvs vs/\h.DictOf (yQ P w) a vs :=
 show yq P w H h a (.dK kvs)from zlh ok e
theorem znF {kvs:List (Key × V)}(ok:HOk P w H h)(e:H a=some (.dK kvs)):kvs.length<=sizeLine/\(a == sysModules)=false/\∃ vs,KV kvs vs/\h.DictOf (yQ P w) a vs:=zlV ok (.inl e)
theorem zcI {ks:List Key}(ok:HOk P w H h)(e:H a=some (.tup (ks.map kV))):(tupleKind (yQ P w)).is h ks a:=by
 obtain⟨_,its,r,o,h1,h2,n,h3⟩:=(show yq P w H h a (.tup (ks.map kV))from ok a _ e)
 exact⟨o,its.toArray,n,h1,h2,h3,by simpa using zbR r⟩
theorem zmt {kvs:List (List Key × V)}(ok:HOk P w H h)(e:Rd H a (.dT kvs)):kvs.length<=sizeLine/\(a == sysModules)=false /\
 ∃ xs,KT H kvs xs/\h.DictOfH (tupleKind (yQ P w)) a xs:=by
 obtain⟨z,y,xs,r,o,es,ep,h1,h2,h3,h4,h5⟩:=(show yq P w H h a (.dT kvs)from zlh ok e)
 refine⟨z,y,xs,r,o,es,ep,h1,h2,h3,h4,λx hx=>?_,h5⟩
 have all:∀ {l:List (List Key × V)} {m:List (List Key × Addr × Value)},KT H l m->∀ x∈m,(tupleKind (yQ P w)).is h x.1 x.2.1:=by
  intro l m q
  induction q with
  | nil=>intro x hx;exact nomatch hx
  | @cons p q ps qs hq t ih =>
   intro x hx
   rcases j7.mp hx with e | hx
   .subst e
    exact zcI ok (by rw[<-hq.1];exact hq.2.1)
   .exact ih x hx
 exact all r x hx
theorem zlP {kvs:List (List Key × V)}(ok:HOk P w H h)(e:H a=some (.dT kvs)):kvs.length<=sizeLine/\(a == sysModules)=false /\
 ∃ xs,KT H kvs xs/\h.DictOfH (tupleKind (yQ P w)) a xs:=zmt ok (.inl e)
end
def zof (H:Hp)(a:Addr)(y:V)(r:Option V):Prop :=
 (∃ kvs k,Rd H a (.dK kvs)/\y=kV k/\r=zcY kvs k)\/∃ kvs k b,Rd H a (.dT kvs)/\y=.ref b/\H b=some (.tup (k.map kV))/\r=zcY kvs k
def zh1 (H:Hp)(a:Addr)(y v:V)(H':Hp):Prop :=
 (∃ kvs k,H a=some (.dK kvs)/\y=kV k/\kvs.length < sizeLine/\H'=upd H a (.dK (zb3 kvs k v))) \/
 ∃ kvs k b,H a=some (.dT kvs)/\y=.ref b/\H b=some (.tup (k.map kV))/\kvs.length < sizeLine/\H'=upd H a (.dT (zb3 kvs k v))
theorem zh1.k {H:Hp}{a:Addr}{kvs:List (Key × V)}{k:Key}{v:V}(e:H a=some (.dK kvs))(hl:kvs.length < sizeLine):zh1 H a (kV k) v (upd H a (.dK (zb3 kvs k v))):=.inl ⟨kvs,k,e,rfl,hl,rfl⟩
theorem zh1.t {H:Hp}{a b:Addr}{kvs:List (List Key × V)}{k:List Key}{v:V}(e:H a=some (.dT kvs))(eb:H b=some (.tup (k.map kV)))(hl:kvs.length < sizeLine) :
 zh1 H a (.ref b) v (upd H a (.dT (zb3 kvs k v))):=.inr ⟨kvs,k,b,e,rfl,eb,hl,rfl⟩
section
variable {X:Cx}{pins:List (Addr × Obj)}{σ:St}{H:Hp}{s:Shared}{a:Addr}{y v:V}{u r:Value}{o:Option V}{A:Around}{E:Value->Shared->Prop}
theorem Inv.big (I:Inv X pins σ H s):sysModules < s.heap.objs.size:=by
 have h:mainGlobals < s.heap.objs.size:=(I.mod.glob.keeps I.bk).lt
 exact u3P (by decide) h
theorem zjK {Q:Value->Shared->Prop}(hu:A.units+1 < cLine)(I:Inv X pins σ H s)(g:zof H a y o)(ry:yI y u)(h:∀ s',Inv X pins σ H s'->Q (.bool (!o.isSome)) s') :
 wpAny (model X.prog X.w) A (compareOp .NotIn u (.ref a)) Q E s:=by
 rcases g with ⟨kvs,k,e,ey,l⟩ | ⟨kvs,k,b,e,ey,eb,l⟩
 .subst ey
  obtain⟨z,hd,vs,rel,dd⟩:=zlV I.hok e
  refine wpAny_notIn_of (zky ry) hd dd.mapOf ?_
  rw[<-(rel.val k).isSome_eq,<- l]
  exact h _ (I.tok _)
 .subst ey
  cases (show u=Value.ref b from ry)
  obtain⟨z,hd,xs,rel,dd⟩:=zmt I.hok e
  refine wpAny_notIn_heap (tupleKind_room_in1 hu) (zcI I.hok eb) hd dd ?_
  have q:=(rel.val k).isSome_eq
  rw[u1v]at q
  rw[<-q,<- l]
  exact h _ (I.tok _)
theorem zcF {h':Heap}{t':Nat}{ob:HO}(I:Inv X pins σ H s)(mu:Mut (H a))(hs:Heap.SameBut a s.heap h')(he:∃ q,h'.get? a=some q)(new:yq X.prog X.w (upd H a ob) h' a ob) :
 Inv X pins σ (upd H a ob) { s with heap:=h',toks:=t' } :=
 I.write (x:=a) (e:=a) mu (.inl rfl) (λb q hb z=>(hs.2 b hb).trans z) he new
theorem zmV {P:Program}{w:World}{H':Hp}{h':Heap}{kvs:List (Key × V)}{vs:List (Key × Value)}(z:kvs.length<=sizeLine)(hd:(a == sysModules)=false)(rel:KV kvs vs)(dd:h'.DictOf (yQ P w) a vs) :
 yq P w H' h' a (.dK kvs):=⟨z,hd,vs,rel,dd⟩
theorem zfk {H':Hp}{Q:Unit->Shared->Prop}(hu:A.units+1 < cLine)(I:Inv X pins σ H s)(g:zh1 H a y v H')(ry:yI y u)(rv:yI v r)(h:∀ s',Inv X pins σ H' s'->Q () s') :
 wpAny (model X.prog X.w) A (setItem (.ref a) u r) Q E s:=by
 rcases g with ⟨kvs,k,e,ey,l,eH⟩ | ⟨kvs,k,b,e,ey,eb,l,eH⟩
 .subst ey eH
  obtain⟨z,hd,vs,rel,dd⟩:=znF I.hok e
  have hz:vs.length<=sizeLine:=by rw[<-rel.length];exact z
  have hl:(zb3 kvs k v).length<=sizeLine:=by have:=Wp kvs k v;omega
  refine wpAny_setItem_pairs (hsz:=hz) (zky ry) dd λh' dd' hs=>h _ ?_
  have he:∃ q,h'.get? a=some q:=let ⟨q,_,_,hq,_⟩:=dd';⟨q,hq⟩
  exact zcF I (by rw[e];exact True.intro) hs he (zmV hl hd (rel.put k rv) dd')
 .subst ey eH
  cases (show u=Value.ref b from ry)
  obtain⟨z,hd,xs,rel,dd⟩:=zlP I.hok e
  have hz:xs.length<=sizeLine:=by rw[<-u2H rel];exact z
  have hl:(zb3 kvs k v).length<=sizeLine:=by have:=Wp kvs k v;omega
  refine wpAny_setItem_heap (hsz:=hz) (tupleKind_room_in1 hu) (zcI I.hok eb) dd λh' dd' hs=>h _ ?_
  obtain⟨q,es,ep,hq,h2,h3,h4,_,h5⟩:=dd'
  refine zcF I (by rw[e];exact True.intro) hs ⟨q,hq⟩ ⟨hl,hd,_,(rel.put k eb rv).keeps λc ys ec=>?_,q,es,ep,hq,h2,h3,h4,h5⟩
  rw[zk (zhQ ec e (λz=>nomatch z))]
  exact ec
end
def zoi (td ty tv:TE):TS:=λD σ H=>tv σ H λv H1=>td σ H1 λx H2=>ty σ H2 λy H3=>∃ a H4,x=.ref a/\zh1 H3 a y v H4/\D.nx σ H4
section
variable {X:Cx}{o i e value:Expr}{pos pos' tpos:Pos}{td ty tv:TE}
theorem zkC (hu:X.A.units+1 < cLine)(ho:PE X o td)(hi:PE X i ty)(hv:PE X value tv)(hs:swapsWith value (some (.Subscript o i pos')) pos.line X.env=pure false) :
 PS X (.Assign [.Subscript o i pos'] value pos) (zoi td ty tv):=by
 intro pins s σ H D I h
 refine wpAny_Assign_Subscript (thn (hv pins s σ H _ I h) λr s1 ⟨v,H1,I1,rv,q1⟩=>thn (ho pins s1 σ H1 _ I1 q1) λu s2 ⟨x,H2,I2,rx,q2⟩=>thn (hi pins s2 σ H2 _ I2 q2) λiv s3 hh9=>?_) hs
 obtain⟨y,H3,I3,ry,a,H4,ex,g,q3⟩:=hh9
 subst ex
 obtain rfl:u=Value.ref a:=rx
 exact zfk hu I3 g ry rv λs4 I4=>⟨σ,H4,I4,q3⟩
end
theorem ziy {P:Program} {w:World} {H:Hp} (h:Heap) (hb:sysModules < h.objs.size):yq P w H (h.push { cls:=.type "dict",data:=.dict #[] }) h.objs.size (.dT []) :=
 ⟨u0P _,u0h.mpr (u03 (d9 hb)),[],.nil,_,#[],0,r9 _ rfl,⟨rfl,rfl,rfl⟩,rfl,rfl,u2t⟩
theorem zcb {X:Cx}:vR X (.builtin "isinstance") (λxs H Q=>∃ x n t b,xs=[x,.ty n]/\zcX X.K H x t/\W.kitOne X.K t (.type n)=some b/\Q (.bl b) H):=by
 intro pins s σ H xs us Q I r h
 obtain⟨x,n,t,b,rfl,ty,e,q⟩:=h
 obtain⟨u,w',rfl,rx,rt⟩:=zdN r
 cases (show w'=Value.type n from rt)
 exact zeI I rx ty e λtk=>⟨.bl b,H,I.tok _,rfl,q⟩
theorem zhr {X:Cx}:OpR X (compareOp .Is) (λx y H Q=>∃ i j,x=.bl i/\y=.bl j/\Q (.bl (i == j)) H):=by
 intro pins s σ H x y v u Q I rx ry h
 obtain⟨i,j,rfl,rfl,q⟩:=h
 cases rx
 cases ry
 refine wpAny_is_plain (by rfl) ⟨.bl (i == j),H,I,?_,q⟩
 cases i <;> cases j <;> rfl
def zjc (K:W.Frag):R2:=λx y H Q=>∃ a b xs ys,x=.ref a/\y=.ref b/\SqT K H a xs/\SqT K H b ys/\xs.length+ys.length<=sizeLine /\
 (xs=[]->Q (.ref b) H)/\(xs≠[]->ys=[]->Q (.ref a) H)/\(xs≠[]->ys≠[]->∀ p,H p=none->Q (.ref p) (upd H p (.tup (xs++ys))))
theorem zhE {X:Cx}:OpR X (binaryOp .Add) (zjc X.K):=by
 intro pins s σ H x y v u Q I rx ry h
 obtain⟨a,b,xs,ys,rfl,rfl,ha,hb,hz,q0,q1,q2⟩:=h
 by_cases hx:xs=[]
 .subst hx
  cases rx
  cases ry
  obtain⟨its,r,p,_⟩:=I.tuple ha
  obtain⟨its',r',p',_⟩:=I.tuple hb
  cases r
  obtain⟨⟨cls,dd,data,sl⟩,ho,hc,n,hd⟩:=id p
  obtain⟨⟨cls2,dd2,data2,sl2⟩,ho2,hc2,n2,hd2⟩:=id p'
  simp only at hc hd hc2 hd2
  subst hc hd hc2 hd2
  exact concat_meets ⟨_,ho,rfl⟩ ⟨_,ho2,rfl⟩ noFill_tuple_add seq_tuple_add u2l u2i (u19 _ _)
   (tuple_addW0 a b #[] its'.toArray n n2 dd dd2 sl sl2 rfl) ⟨ho,ho2,⟨.ref b,H,I,rfl,q0 rfl⟩⟩
 .refine zjR pins s σ H (.ref a) (.ref b) v u Q I rx ry ⟨a,b,xs,ys,rfl,rfl,ha,hb,hx,hz,?_⟩
  exact⟨λe=>q1 hx e,λe=>q2 hx e⟩
inductive ZJ:St->St->Prop where
 | nil:ZJ [] []
 | non {a:Option V} {s t:St}:ZJ s t->ZJ (none::s) (a::t)
 | same {a:Option V} {s t:St}:ZJ s t->ZJ (a::s) (a::t)
theorem ZJ.refl:∀ s:St,ZJ s s
 | []=>.nil
 | _::r=>.same (ZJ.refl r)
theorem ZJ.length {s t:St}(h:ZJ s t):s.length=t.length:=by
 induction h with
 | nil=>rfl
 | non _ ih=>simp[ih]
 | same _ ih=>simp[ih]
theorem ZJ.get {s t:St}(h:ZJ s t):∀ (i:Nat) (v:V),s[i]?=some (some v)->t[i]?=some (some v):=by
 induction h with
 | nil=>intro i v e;exact e
 | non _ ih =>
  intro i v e
  cases i with
  | zero=>simp at e
  | succ i=>simpa using ih i v (by simpa using e)
 | same _ ih =>
  intro i v e
  cases i with
  | zero=>simpa using e
  | succ i=>simpa using ih i v (by simpa using e)
theorem ZJ.set {n:Nat}{v:V}:∀ {s t:St},ZJ s t->s[n]?=some none->ZJ s (t.set n (some v))
 | _,_,.nil,_=>.nil
 | _,_,.non (a:=a) h,e=>by
  cases n with
  | zero=>exact .non h
  | succ n=>exact .non (ZJ.set h (by simpa using e))
 | _,_,.same (a:=a) h,e=>by
  cases n with
  | zero =>
   have e':a=none:=by simpa using e
   subst e'
   exact .non h
  | succ n=>exact .same (ZJ.set h (by simpa using e))
theorem Inv.sub {X:Cx}{pins:List (Addr × Obj)}{σ σ':St}{H:Hp}{s:Shared}(I:Inv X pins σ H s)(h:ZJ σ' σ):Inv X pins σ' H s:=I.weak h.length h.get
def PIf (X:Cx)(ifs:List Expr)(t:TT):Prop :=
 ∀ (pins:List (Addr × Obj)) (s:Shared) (σ:St) (H:Hp) (Q:Bool->Hp->Prop),Inv X pins σ H s->t σ H Q ->
  wpAny (model X.prog X.w) X.A (forIn ifs true λc r=>if r=true then do let ok<-isTrue c X.env (eval c X.env);pure (ForInStep.yield ok)else pure (ForInStep.yield r)) (TP X pins σ Q) X.xe s
def tYes:TT:=λ_ H Q=>Q true H
theorem zkz {X:Cx}:PIf X [] tYes:=by
 intro pins s σ H Q I h
 rw[u1W]
 exact u8 ⟨H,I,h⟩
theorem zgh {X:Cx}{c:Expr}{t:TT}(hc:PT X c t):PIf X [c] t:=by
 intro pins s σ H Q I h
 rw[u2f]
 refine u0 ?_
 rw[t9 rfl]
 refine u0 (thn (hc pins s σ H Q I h) λb s1 q=>u8 ?_)
 show wpAny _ _ (forIn [] b _) _ _ _
 rw[u1W]
 exact u8 q
section
variable {prog:Program}{w:World}{A:Around}{R:Result->Shared->Prop}{s:Shared}
theorem we {elt target iter:Expr}{ifs:List Expr}{scope:Scope}{pos:Pos}{it acc:Value}{env:Env}(I:Nat->Shared->Prop)
 (turn:∀ n s,I n s->wpAny (model prog w) A (pyNext it) (λr s₁=>match r with
  | none=>R (.ok .next) s₁
  | some v=>wpAny (model prog w) A (letOwnedTupleGo target it v) (λ_ s₁'=>wpAny (model prog w) A (assign target env v) (λ_ s₂ =>
   wpAny (model prog w) A (forIn ifs true λc r=>if r=true then do let ok<-isTrue c env (eval c env);pure (ForInStep.yield ok)else pure (ForInStep.yield r)) (λok s₃ =>
    if ok=true then wpAny (model prog w) A (eval elt env) (λx s₄ =>
     wpAny (model prog w) A (call (.builtin "list.append") [acc,x]) (λ_ s₅=>∃ m,m < n/\I m s₅) (λ_ _=>False) s₄) (λ_ _=>False) s₃
    else ∃ m,m < n/\I m s₃) (λ_ _=>False) s₂) (λ_ _=>False) s₁') (λ_ _=>False) s₁) (λ_ _=>False) s)
 (n:Nat) (h:I n s) :
 codeAny (model prog w) A (.compLoop (.ListComp elt [⟨target,iter,ifs,0⟩] scope pos) 0 it acc env) R s:=by
 refine codeAny_loop rfl I (λn s hI=>?_) n h
 show wpAny _ A ((compTurn (.ListComp elt [⟨target,iter,ifs,0⟩] scope pos) 0 it acc env).onRaise (λx=>do noteFrame x env;theTreesLotGoes x)) _ _ s
 refine wpAny_noted ?_
 rw[compTurn_list]
 refine u0 (u2I (u0 (u0v (turn n s hI) (λr s₁ h₁=>?_) λ_ _ h'=>h'.elim)))
 cases r with
 | none=>exact u8 h₁
 | some v =>
  refine u0 (u0v h₁ (λ_ s₁' h₁'=>?_) λ_ _ h'=>h'.elim)
  refine u0 (u0v h₁' (λ_ s₂ h₂=>u0 (u0v h₂ (λok s₃ h₃=>?_) λ_ _ h'=>h'.elim)) λ_ _ h'=>h'.elim)
  cases ok with
  | false=>exact u8 ⟨rfl,h₃⟩
  | true =>
   exact u0 (u0 (u0v h₃ (λx s₄ h₄=>u0 (u0v h₄ (λ_ s₅ h₅=>u8 (u8 ⟨rfl,h₅⟩)) λ_ _ h'=>h'.elim)) λ_ _ h'=>h'.elim))
end
def tLC (wi:TI)(n:Nat)(g:TG)(tt:TT)(te:TE):TE:=fun σ H Q=>wi σ H λJ H1=>∀ D,H1 D=none->∃ W:Nat->Nat->List V->Hp->Prop,(∃ m,W 0 m [] (upd H1 D (.lst []))) /\
 ∀ i m ys H2,W i m ys H2->(J.stop i H2/\Q (.ref D) H2)\/(J.go i H2/\ys.length < sizeLine/\∀ x H3,J.yld i H2 x H3->g x (List.replicate n none++σ) H3 fun σ2 H4=>tt σ2 H4 λb H5 =>
  if b=true then te σ2 H5 λy H6=>H6 D=some (.lst ys)/\∃ m',m' < m/\W (i+1) m' (ys++[y]) (upd H6 D (.lst (ys++[y])))else ∃ m',m' < m/\W (i+1) m' ys H5)
theorem vq {α:Type}:∀ {l:List (Str × α)} {y:Str},y∈l.map Prod.fst->∃ c,l.lookup y=some c
 | [],_,h=>by simp at h
 | (k,v)::r,y,h=>by
  by_cases e:y=k
  .exact⟨v,by simp[List.lookup,e]⟩
  .obtain⟨c,hc⟩:=vq (l:=r) (y:=y) (by simpa [e]using h)
   have hb:(y == k)=false:=u0h.mpr e
   exact⟨c,by simp only[List.lookup,hb];exact hc⟩
theorem wd {α:Type}{P:α->Prop}:∀ p∈([]:List α),P p:=λ_ h=>nomatch h
theorem all_cons {α:Type}{P:α->Prop}{a:α}{l:List α}(h:P a)(t:∀ p∈l,P p):∀ p∈a::l,P p:=λp hp=>by
 rcases j7.mp hp with e | hp
 .rw[e];exact h
 .exact t p hp
theorem gs1 (σ:St)(v:V)(H:Hp)(Q:St->Hp->Prop)(h:Zy 0 v (List.replicate 1 none++σ) H Q):Zy 0 v (List.replicate 1 none++σ) H (fun σ2 H2=>ZJ (List.replicate 1 none++σ) σ2/\Q σ2 H2):=⟨.set (.refl _) rfl,h⟩
theorem gs2 {K:W.Frag}(σ:St)(v:V)(H:Hp)(Q:St->Hp->Prop)(h:zm9 K 2 (zcn (Zy 0) (zcn (Zy 1) znf)) v (List.replicate 2 none++σ) H Q) :
 zm9 K 2 (zcn (Zy 0) (zcn (Zy 1) znf)) v (List.replicate 2 none++σ) H (fun σ2 H2=>ZJ (List.replicate 2 none++σ) σ2/\Q σ2 H2):=by
 obtain⟨a,xs,e,hq,hl,x,r,e1,y,r2,e2,e3,q⟩:=h
 exact⟨a,xs,e,hq,hl,x,r,e1,y,r2,e2,e3,.set (.set (.refl _) rfl) rfl,q⟩
def zev (X:Cx)(L M:List Str)(scope:Scope)(cl:List (Str × Addr))(s₀:Shared)(H₀:Hp)(ex:List Addr)(pn:List (Addr × Obj)):Cx :=
 { X with N:=L++M,s₀:=s₀,H₀:=H₀,env:=compEnvC scope cl s₀.heap.objs.size X.env,outer:=X.stack,stack:=X.stack,ex:=ex,fn:=λ_=>false,pn:=pn,xe:=λ_ _=>False }
structure vL (X:Cx) (L M:List Str) (scope:Scope) (cl:List (Str × Addr)):Prop where
 clos:closureFor scope X.env=pure cl
 cell:∀ y∈scope.names,y.2≠.cell
 kind:scope.kind=.function
 names:∀ y∈scope.names,y.2=.local->scope.names.lookup y.1=some .local
 sub:∀ y c,cl.lookup y=some c->X.env.cells.lookup y=some c
 has:∀ y,((relabel scope X.env).names.lookup y=some .cell\/(relabel scope X.env).names.lookup y=some .free)->∃ c,cl.lookup y=some c
 mlen:M.length=X.N.length
 msk:∀ (i:Nat) y,M[i]?=some y->Vis (relabel scope X.env) y->X.N[i]?=some y
 vis:∀ (i:Nat) y,M[i]?=some y->Vis (relabel scope X.env) y->((relabel scope X.env).names.lookup y=some .cell\/(relabel scope X.env).names.lookup y=some .free)
 out:∀ (i:Nat) y,M[i]?=some y->Vis (relabel scope X.env) y->Vis X.env.scope y/\X.env.kindOf y≠some .local
theorem Inv.letGo {X:Cx}{pins:List (Addr × Obj)}{σ:St}{H:Hp}{s:Shared}{C:Addr}{h':Heap}(I:Inv X pins σ H s)(f:zbU X pins H C)(sb:Heap.SameBut C s.heap h'):Inv X pins σ H { s with heap:=h' }:=by
 obtain⟨f0,f1,f2,f3,f4,f5⟩:=f
 have ne:∀ b,b∉[C]->b≠C:=λb hb z=>hb (by rw[z];exact j9.mpr rfl)
 refine I.call' (s':={ s with heap:=h' }) (ch:=[C]) rfl ⟨λb o e _ _ hx=>(sb.2 b (ne b hx)).trans e,λb o e _ _ hx=>⟨o.slots,(sb.2 b (ne b hx)).trans e⟩,λ_ _ _ n _=>n,λb o e hx=>⟨o,(sb.2 b (ne b hx)).trans e⟩,λ_ _ q=>q,λ_ _ _ q=>q,λ_ ps q=>⟨#[],by rw[q];simp⟩⟩ ?_ I.bare λb hb=>?_
 .intro b ob e
  refine(I.hok b ob e).stay (λc v hc q=>(sb.2 c ?_).trans q) (λ_ q=>q) λ_ _ q=>q
  rintro rfl
  rcases hc with z | z
  .rw[<-z,f0]at e;cases e
  .rw[f0]at z;cases z
 .rw[j9.mp hb]
  exact⟨f3,f1,f4,f5⟩
theorem zjF {use:Option (Value->Sem Unit)}{Qf:Value->Shared->Prop}{X:Cx}{elt tg iter:Expr}{ifs:List Expr}{L M:List Str}{scope:Scope}{cl:List (Str × Addr)}{pos:Pos}{wi:TI}{g:TG}{tt:TT}{te:TE}
 (hc:X.calm=true) (S:vL X L M scope cl) (hi:PI X tg iter wi)
 (hgS:∀ (σ:St) (v:V) (H:Hp) (Q:St->Hp->Prop),g v (List.replicate L.length none++σ) H Q->g v (List.replicate L.length none++σ) H (fun σ2 H2=>ZJ (List.replicate L.length none++σ) σ2/\Q σ2 H2))
 (hg:∀ s₀ H₀ ex pn,PG (zev X L M scope cl s₀ H₀ ex pn) tg g) (ht:∀ s₀ H₀ ex pn,PIf (zev X L M scope cl s₀ H₀ ex pn) ifs tt) (he:∀ s₀ H₀ ex pn,PE (zev X L M scope cl s₀ H₀ ex pn) elt te)
 (hs:∀ x,foldedSetIterable iter X.env x=pure x:=by intro _;rfl) :
 ∀ (pos':Pos) (pins:List (Addr × Obj)) (s:Shared) (σ:St) (H:Hp) (Q:VK),Inv X pins σ H s->tLC wi L.length g tt te σ H Q ->
  (∀ (D C:Addr) (H':Hp) (s':Shared),Inv X pins σ H' s'->(∃ m,s'.heap.Ns C m)->zbU X pins H' C->Q (.ref D) H'->compPost (model X.prog X.w) X.A X.xe use Qf (.ref D) C (.ok .next) s') ->
  wpAny (model X.prog X.w) X.A (comprehension (.ListComp elt [⟨tg,iter,ifs,0⟩] scope pos) scope X.env pos' (newList []) false (eval iter X.env) use) Qf X.xe s:=by
 intro pos' pins s σ H Q I h fin
 refine wpAny_comprehension_free (use:=use) rfl hs S.clos S.kind S.names (thn (hi pins s σ H _ I h) λv s1 h1=>thn h1 λitv s2 h2=>?_)
 obtain⟨it,fp,tn,J,H2,e,I2,T,st2,f2,q⟩:=h2
 subst e
 have hD:H2 s2.heap.objs.size=none:=I2.hok.fresh (q5 _)
 obtain⟨W,⟨m0,w0⟩,turn⟩:=q _ hD
 refine u0s (wpAny_newFunctionEnv S.cell (by intro y hy;simp at hy) (λh₁ hns₁ hsb₁=>?_) S.kind)
 have I3:Inv X pins σ (upd H2 s2.heap.objs.size (.lst [])) { s2 with heap:=s2.heap.push { cls:=.type "list",data:=.seq ([]:List Value).toArray } }:=by
  refine I2.laid (t':=s2.toks) (λb u e=>u5 _ e) (q5 _) ?_
  exact⟨u0P _,[],0,.nil,r9 _ rfl⟩
 generalize hs3:({ s2 with heap:=s2.heap.push { cls:=.type "list",data:=.seq ([]:List Value).toArray } }:Shared)=s3 at I3 hns₁ hsb₁ ⊢
 have hobj:∀ b∈fp,b < s2.heap.objs.size:=λb hb=>by
  obtain⟨o,ho,_⟩:=T.obj _ _ st2 b hb
  exact j5 ho
 have hz3:s3.heap.objs.size=s2.heap.objs.size+1:=by rw[<-hs3];exact u0H ..
 have k23:∀ b o,s2.heap.get? b=some o->s3.heap.get? b=some o:=λb o e=>by rw[<-hs3];exact u5 _ e
 have k34:∀ b o,s3.heap.get? b=some o->h₁.get? b=some o:=λb o e=>(hsb₁.2 b (d9 (j5 e))).trans (u5 _ e)
 generalize hH3:upd H2 s2.heap.objs.size (.lst [])=H3 at I3 w0
 have hfp3:∀ b∈fp,H3 b=none:=λb hb=>by
  rw[<-hH3,zk (d9 (hobj b hb))]
  exact(f2 b hb).1
 have nfs:∀ b∈fp,b∉frs X.stack:=λb hb z=>by
  obtain⟨_,n1,n2,_⟩:=f2 b hb
  rcases j7.mp (I3.stkSub b z)with e | e
  .exact n1 e
  .exact n2 e
 let Y:Cx:=zev X L M scope cl s3 H3 fp (X.pn++pins)
 have OkY:Y.Ok:=by
  refine⟨I.ok.mod,S.kind,I.ok.glob,I.ok.blt,q5 _,λx y c h1 h2=>I.ok.inj x y c (S.sub x c h1) (S.sub y c h2),λx hx=>S.has x hx,(λx c h _=>absurd h u6),I.ok.hd,I.ok.frames,.inl rfl,λb hb=>⟨?_,λx c e z=>?_⟩,
   λb o e=>I3.bs b o e,i3 I.ok.bsz I3.sz,λb o e hb=>?_,nfs,I3.stack,I3.stkFree⟩
  .show b≠s3.heap.objs.size
   exact d9 (d7 (hobj b hb) (by rw[hz3];exact u02 _))
  .exact(f2 b hb).2.2.2.2.1 x c (S.sub x c e) z
  .rcases(f2 b hb).2.2.2.1 with z | z
   .exact I.ok.noex b o e z
   .have h1:=j5 e
    have h2:=I.ok.bsz
    exact absurd (d7 h1 (i3 h2 z)) (u0K _)
 have I4:Inv Y [] (List.replicate L.length none++σ) H3 { s3 with heap:=h₁,toks:=s3.toks+([]:List (Str × Value)).length }:=by
  refine⟨OkY,rfl,I3.bare,Un.kept k34,⟨_,hns₁,λi y v e1 e2 e3=>?_⟩,λx c e=>?_,I3.hok.fresh (q5 _),λx c e=>I3.freeC x c (S.sub x c e),λp hp=>?_,I3.hok.kept k34,?_⟩
  .have hi:¬ i < L.length:=λhlt=>by
    rw[u0O (by simpa using hlt),u0w]at e2
    split at e2 <;> cases e2
   have e0':M[i - L.length]?=some y:=by
    have e1:(L++M)[i]?=some y:=e1
    rw[u0a (by omega)]at e1
    exact e1
   have e2':σ[i - L.length]?=some (some v):=by rw[u0a (by simpa using u1F hi)]at e2;simpa using e2
   have e1':=S.msk _ y e0' e3
   obtain⟨ov,ok⟩:=S.out _ y e0' e3
   obtain⟨m,hn,hl⟩:=I3.loc
   obtain⟨u,ru,lk⟩:=hl _ y v e1' e2' ov
   refine⟨u,ru,?_⟩
   rcases lk with ⟨hk,_⟩ | ⟨_,c,hc',hcell⟩
   .exact absurd hk ok
   .have kn:=S.vis _ y e0' e3
    obtain⟨c',hc2⟩:=S.has y kn
    have:=S.sub y c' hc2
    rw[hc']at this
    cases this
    refine .inr ⟨kn,c,hc2,?_⟩
    obtain⟨o,ho,hd⟩:=hcell
    exact⟨o,k34 _ _ ho,hd⟩
  .obtain⟨v,o,ho,hd⟩:=I3.cell x c (S.sub x c e)
   exact⟨v,o,k34 _ _ ho,hd⟩
  .have hp':p∈X.pn++pins:=u0z (X.pn++pins) ▸ hp
   obtain⟨a1,a2,a3,a4,a5⟩:=I3.pin p hp'
   refine⟨k34 _ _ a1,a2,d9 (j5 a1),λz=>?_,a5⟩
   rcases j7.mp (I3.stkSub p.1 z)with e | e
   .exact a3 e
   .exact a4 e
  .show(List.replicate L.length none++σ).length=(L++M).length
   rw[r0,r0,u2u,I.len,S.mlen]
 have fpY:∀ {H':Hp},(∀ b∈fp,H' b=none)->∀ b∈fp,zbU Y [] H' b:=λ{H'} hn b hb=>by
  refine⟨hn b hb,(OkY.exf b hb).1,nfs b hb,.inl hb,(OkY.exf b hb).2,λp hp=>?_⟩
  have hp':p∈X.pn++pins:=u0z (X.pn++pins) ▸ hp
  exact(f2 b hb).2.2.2.2.2 p hp'
 have st4:tn 0 h₁:=T.keep _ _ _ st2 λb hb o e=>k34 b o (k23 b o e)
 -- behind the loop
 have back:∀ (H':Hp) (s':Shared),Inv Y [] (List.replicate L.length none++σ) H' s'->Q (.ref s2.heap.objs.size) H'->compPost (model X.prog X.w) X.A X.xe use Qf (.ref s2.heap.objs.size) s3.heap.objs.size (.ok .next) s':=λH' s' J' q'=>by
  obtain⟨m,hn,_⟩:=J'.loc
  refine fin _ _ H' s' (I3.call' (ch:=fp) J'.os J'.base J'.hok J'.bare λb hb=>?_) ⟨m,hn⟩ (I3.fpOk (q5 _) J'.free) q'
  obtain⟨_,n1,_,n3,n4,n5⟩:=f2 b hb
  exact⟨n3,n1,n4,n5⟩
 have loop:codeAny (model X.prog X.w) X.A (.compLoop (.ListComp elt [⟨tg,iter,ifs,0⟩] scope pos) 0 (.ref it) (.ref s2.heap.objs.size) (compEnvC scope cl s3.heap.objs.size X.env))
  (compPost (model X.prog X.w) X.A X.xe use Qf (.ref s2.heap.objs.size) s3.heap.objs.size) { s3 with heap:=h₁,toks:=s3.toks+([]:List (Str × Value)).length }:=by
  refine we (λn s'=>∃ i ys H',Inv Y [] (List.replicate L.length none++σ) H' s'/\tn i s'.heap/\(∀ b∈fp,H' b=none)/\W i n ys H') ?_ m0 ⟨0,[],H3,I4,st4,hfp3,w0⟩
  rintro n s5 ⟨i,ys,H5,I5,st5,fr5,w5⟩
  rcases turn i n ys H5 w5 with ⟨stop,qn⟩ | ⟨go,hlen,step⟩
  .refine thn (T.done Y rfl rfl rfl hc i [] s5 _ H5 _ I5 (fpY fr5) st5 stop) λr s6 hh9=>?_
   obtain⟨hr,I6⟩:=hh9
   subst hr
   exact back H5 s6 I6 qn
  .refine thn (T.item Y rfl rfl rfl hc i [] s5 _ H5 _ I5 (fpY fr5) st5 go) λr s6 hh9=>?_
   obtain⟨u,hr,h6⟩:=hh9
   subst hr
   refine thn h6 λ_ s7 hh9=>?_
   obtain⟨x,H7,I7,r7,y7,st7,fr7⟩:=hh9
   have I7':=I7.pinned (fpY fr7) (T.obj _ _ st7)
   have g7:=hgS σ x H7 _ (step x H7 y7)
   refine thn (hg _ _ _ _ _ s7 _ H7 x u _ I7' r7 g7) λ_ s8 hh9=>?_
   obtain⟨σ8,H8,I8,sub8,q8⟩:=hh9
   have again:∀ {σ9:St} {H9:Hp} {s9:Shared} {zs:List V},Inv Y ([]++Xv fp s7.heap) σ9 H9 s9->ZJ (List.replicate L.length none++σ) σ9->(∃ m',m' < n/\W (i+1) m' zs H9) ->
    ∃ m,m < n/\∃ i ys H',Inv Y [] (List.replicate L.length none++σ) H' s9/\tn i s9.heap/\(∀ b∈fp,H' b=none)/\W i m ys H':=λ{σ9 H9 s9 zs} I9 sub9 w9=>by
    obtain⟨m',hm,w9⟩:=w9
    refine⟨m',hm,i+1,zs,H9,(I9.sub sub9).unpinned,T.keep _ _ _ st7 λb hb o e=>(I9.pin (b,o) (p8 _ (p8 _ (wv hb e)))).1,λb hb=>?_,w9⟩
    obtain⟨o,e,d⟩:=T.obj _ _ st7 b hb
    exact(I9.pin (b,o) (p8 _ (p8 _ (wv hb e)))).2.1
   refine thn (ht _ _ _ _ _ s8 σ8 H8 _ I8 q8) λb s9 hh9=>?_
   obtain⟨H9,I9,q9⟩:=hh9
   cases b with
   | false =>
    rw[j0 u6]at q9
    rw[j0 u6]
    exact again I9 sub8 q9
   | true =>
    rw[t9 rfl]at q9
    rw[t9 rfl]
    refine thn (he _ _ _ _ _ s9 σ8 H9 _ I9 q9) λy s10 hh9=>?_
    obtain⟨yv,H10,I10,r10,hD10,w10⟩:=hh9
    obtain⟨z10,its,k,rv,e10⟩:ys.length<=sizeLine/\∃ (its:List Value) (n:Nat),yl ys its/\s10.heap.get? s2.heap.objs.size=some { cls:=.type "list",data:=.seq its.toArray n }:=I10.hok _ _ hD10
    have hl10:s10.heap.PlainList s2.heap.objs.size its.toArray:=⟨k,e10⟩
    refine wpAny_list_append_plain (hsz:=by rw[j3,<- rv.length];exact z10) hl10 λh11 hl11 sb11=>?_
    obtain⟨k',e11⟩:=hl11
    have I11:Inv Y ([]++Xv fp s7.heap) σ8 (upd H10 s2.heap.objs.size (.lst (ys++[yv]))) { s10 with heap:=h11 }:=by
     refine I10.write (x:=s2.heap.objs.size) (e:=s2.heap.objs.size) (t':=s10.toks) (by rw[hD10];exact True.intro) (.inl rfl) (λb u hb e=>(sb11.2 b hb).trans e) ⟨_,e11⟩ ?_
     refine⟨by rw[r0];show ys.length+1<=sizeLine;exact hlen,its++[y],k',rv.append (.cons r10 .nil),?_⟩
     rw[e11]
     simp
    exact again I11 sub8 w10
 exact codeAny_compStart_list loop (T.self _ 0 _ _ _ st4 loop)
theorem zi9 {X:Cx}{elt tg iter:Expr}{ifs:List Expr}{L M:List Str}{scope:Scope}{cl:List (Str × Addr)}{pos:Pos}{wi:TI}{g:TG}{tt:TT}{te:TE}
 (hc:X.calm=true) (S:vL X L M scope cl) (hi:PI X tg iter wi)
 (hgS:∀ (σ:St) (v:V) (H:Hp) (Q:St->Hp->Prop),g v (List.replicate L.length none++σ) H Q->g v (List.replicate L.length none++σ) H (fun σ2 H2=>ZJ (List.replicate L.length none++σ) σ2/\Q σ2 H2))
 (hg:∀ s₀ H₀ ex pn,PG (zev X L M scope cl s₀ H₀ ex pn) tg g) (ht:∀ s₀ H₀ ex pn,PIf (zev X L M scope cl s₀ H₀ ex pn) ifs tt) (he:∀ s₀ H₀ ex pn,PE (zev X L M scope cl s₀ H₀ ex pn) elt te)
 (hs:∀ x,foldedSetIterable iter X.env x=pure x:=by intro _;rfl) :
 PE X (.ListComp elt [⟨tg,iter,ifs,0⟩] scope pos) (tLC wi L.length g tt te):=by
 intro pins s σ H Q I h
 rw[eval_ListComp]
 refine zjF hc S hi hgS hg ht he hs _ pins s σ H Q I h λD C H' s' I' ⟨m,hn⟩ f q=>⟨m,hn,λh' sb=>⟨.ref D,_,I'.letGo f sb,rfl,q⟩⟩
def Vb (names rn dn:List (Str × NameKind))(N M cn:List Str):Bool :=
 names.all (λy=>decide (y.2≠.cell))&&names.all (λy=>decide (y.2=.local->names.lookup y.1=some .local)) &&
 rn.all (λy=>decide ((y.2=.cell\/y.2=.free)->y.1∈cn)) &&
 (M.length == N.length)&&(M.zip N).all (λp=>decide ((rn.lookup p.1=some .local\/rn.lookup p.1=some .cell\/rn.lookup p.1=some .free)->p.1=p.2)) &&
 M.all (λy=>decide ((rn.lookup y=some .local\/rn.lookup y=some .cell\/rn.lookup y=some .free) ->
  (rn.lookup y=some .cell\/rn.lookup y=some .free)/\(dn.lookup y=some .local\/dn.lookup y=some .cell\/dn.lookup y=some .free)/\dn.lookup y≠some .local))
theorem YY {X:Cx}{L N M cn:List Str}{scope:Scope}{cl:List (Str × Addr)}{rn dn:List (Str × NameKind)}(hr:(relabel scope X.env).names=rn)(hd:X.env.scope.names=dn)(hN:X.N=N)
 (clos:closureFor scope X.env=pure cl) (kind:scope.kind=.function) (hc:cl.map Prod.fst=cn) (good:Vb scope.names rn dn N M cn=true) (sub:∀ p∈cl,X.env.cells.lookup p.1=some p.2):vL X L M scope cl:=by
 unfold Vb at good
 simp only[g9,u0y,d5]at good
 obtain⟨⟨⟨⟨⟨g1,g2⟩,g3⟩,g5⟩,g6⟩,g4⟩:=good
 have g5:M.length=N.length:=by simpa using g5
 refine⟨clos,g1,kind,g2,λy c h=>sub (y,c) (u0g h),λy h=>?_,by rw[hN];exact g5,λi y e v=>?_,λi y e v=>?_,λi y e v=>?_⟩
 .rw[hr]at h
  have hy:y∈cn:=by
   rcases h with h | h
   .exact g3 _ (u0g h) (.inl rfl)
   .exact g3 _ (u0g h) (.inr rfl)
  exact vq (by rw[hc];exact hy)
 .unfold Vis at v
  rw[hr]at v
  have hi:=(t7.mp e).1
  have hj:i < N.length:=by rw[<-g5];exact hi
  have hz:(M.zip N)[i]?=some (y,N[i]):=by
   rw[u3g]
   exact⟨e,j6 hj⟩
  have:=g6 _ (j4 hz) v
  rw[hN,j6 hj]
  exact u05 some this.symm
 .unfold Vis at v
  rw[hr]at v ⊢
  exact(g4 y (j4 e) v).1
 .unfold Vis at v
  rw[hr]at v
  obtain⟨_,k1,k2⟩:=g4 y (j4 e) v
  refine⟨?_,?_⟩
  .unfold Vis;rw[hd];exact k1
  .show X.env.scope.names.lookup y≠_;rw[hd];exact k2
end L2
namespace PySem
open Sem (wp)
open AutoSeq1 (wpAny_loadPart')
section
variable {prog:Program}{w:World}{A:Around}{E:Value->Shared->Prop}{s:Shared}
theorem Yr {it l:Addr}{i:Nat}{items}{x:Value}{Q:Value->Shared->Prop}(hit:s.heap.IsTupleIter it l i)
 (hl:s.heap.IsTuple l items) (hx:items[i]?=some x)
 (hQ:∀ h',h'.IsTupleIter it l (i+1)->Heap.SameBut it s.heap h'->Q x { s with heap:=h' }) :
 wpAny (model prog w) A (Builtin.SmallTypes.nextOf (.ref it)) Q E s:=by
 obtain⟨o,ho,hc,hd⟩:=id hit
 obtain⟨ol,hol,_,nl,hdl⟩:=hl
 unfold Builtin.SmallTypes.nextOf
 refine u0 (u0m (name:=Str.ofString "__next__") hit.typeIs u1h
  (u0B u1h hit.typeIs F.entry_tuple_iterator_next ?_ (F.args_tuple_iterator_next_1 _)))
 show wpAny _ _ (field (.ref it) 0>>=_) _ _ s
 refine u0 (u0Q ho hd (x:=.ref l) rfl ?_)
 show wpAny _ _ (if (Value.ref l == Value.none)=true then _ else _) _ _ s
 rw[j0 (show ¬ ((Value.ref l == Value.none)=true)from u6)]
 show wpAny _ _ (field (.ref it) 1>>=_) _ _ s
 refine u0 (u0Q ho hd (x:=.int i 0) rfl ?_)
 show wpAny _ _ (seqItems? (.ref l)>>=_) _ _ s
 refine u0 (u1L hol hdl ?_)
 simp only[u0Y,hx]
 refine u0 (u3i ho hd (by simp) (u8 ⟨x,rfl,u8 (hQ _ ?_ (u11 ..))⟩))
 exact⟨_,u0F _ ho (Obj.isFreed_of_fields (u2h hd _)),(Obj.cls_mapFields ..).trans hc,by
  rw[u2h hd];simp[rawInt]⟩
theorem wj {it l:Addr}{i:Nat}{items}{Q:Value->Shared->Prop}(hh:A.handled=none)
 (hit:s.heap.IsTupleIter it l i) (hl:s.heap.IsTuple l items) (hx:items[i]?=none)
 (hE:∀ h' e,Heap.ExtBut it s.heap h'->(∃ o,h'.get? e=some o/\o.cls=.type "StopIteration")->E (.ref e) { s with heap:=h' }) :
 wpAny (model prog w) A (Builtin.SmallTypes.nextOf (.ref it)) Q E s:=by
 obtain⟨o,ho,hc,hd⟩:=id hit
 obtain⟨ol,hol,_,nl,hdl⟩:=hl
 unfold Builtin.SmallTypes.nextOf
 refine u0 (u0m (name:=Str.ofString "__next__") hit.typeIs u1h
  (u0B u1h hit.typeIs F.entry_tuple_iterator_next ?_ (F.args_tuple_iterator_next_1 _)))
 show wpAny _ _ (field (.ref it) 0>>=_) _ _ s
 refine u0 (u0Q ho hd (x:=.ref l) rfl ?_)
 show wpAny _ _ (if (Value.ref l == Value.none)=true then _ else _) _ _ s
 rw[j0 (show ¬ ((Value.ref l == Value.none)=true)from u6)]
 show wpAny _ _ (field (.ref it) 1>>=_) _ _ s
 refine u0 (u0Q ho hd (x:=.int i 0) rfl ?_)
 show wpAny _ _ (seqItems? (.ref l)>>=_) _ _ s
 refine u0 (u1L hol hdl ?_)
 simp only[u0Y,hx]
 refine u0 (u1y (u0 (u3i ho hd (by simp) ?_)))
 show wpAny _ _ (newExc (.type "StopIteration") []>>=_) _ _ _
 refine u0 ?_
 simp only[newExc,newTuple]
 refine u0 (u0s ?_ (by size_fits))
 refine u0 (m:=firstArgMember _ _) (wpAny_of_eq (a:=Value.none) (by first | rfl | (simp only[firstArgMember];rfl)) ?_)
 refine u0s ?_ (by size_fits)
 simp only[raiseNew]
 refine u0 (wpAny_handled ?_)
 first | rw[show A.in1.handled=none from hh] | rw[hh]
 refine u0 (u8 (wpAny_throw ?_))
 exact hE _ _ (((u11 ..).extBut.push _).push _) ⟨_,r9 _ rfl,rfl⟩
end
theorem YW {prog:Program}{w:World}{A:Around}{E:Value->Shared->Prop}{s:Shared}{e it l:Addr}{i:Nat}{items:Array Value}{old:Value}{Q:Option Value->Shared->Prop}(hh:A.handled=none)
 (he:IsEnum s.heap e it i old) (hit:s.heap.IsTupleIter it l i) (hl:s.heap.IsTuple l items) (hx:items[i]?=none)
 (hQ:∀ h',Heap.ExtBut it s.heap h'->Q none { s with heap:=h' }):wpAny (model prog w) A (pyNext (.ref e)) Q E s:=by
 have hT:s.TypeIs (.ref e) "enumerate":=⟨_,he,rfl⟩
 unfold pyNext
 refine u0 (u1m (u0m (name:=Str.ofString "__next__") hT F.slot_enumerate_next
  (u0B F.slot_enumerate_next hT F.entry_enumerate_next ?_ (F.args_enumerate_next_1 _))))
 show wpAny _ _ (field (.ref e) 2>>=_) _ _ _
 refine u0 (u0Q he rfl (x:=.ref it) rfl ?_)
 refine u0 (wj hh hit hl hx λh' x he' hx'=>?_)
 obtain⟨o,ho,hc⟩:=hx'
 refine u0 (wpAny_isInstance (T:="StopIteration") (b:=true) ⟨o,ho,hc⟩ isSubtype_stop ?_)
 exact u8 (hQ _ he')
theorem Yu {prog:Program}{w:World}{A:Around}(hh:A.handled=none)(it l:Addr)(hne:l≠it)(items:Array Value) :
 Draws prog w A it [it,l] items.size (λi v=>items[i]?=some v) (λi h=>h.IsTupleIter it l i/\h.IsTuple l items) where
 live:=λ_ _ st=>let ⟨o,ho,_⟩:=st.1;⟨o,ho⟩
 frame:=λ_ _ _ st hk=>by
  obtain⟨⟨o,ho,r⟩,⟨o2,ho2,r2⟩⟩:=st
  exact⟨⟨o,hk it (by simp) o ho,r⟩,⟨o2,hk l (by simp) o2 ho2,r2⟩⟩
 item:=λi s Q E hi st hQ=>by
  refine Yr st.1 st.2 (x:=items[i]) (by simp[hi]) λh' hit' hs'=>?_
  exact hQ _ h' s.toks (by simp[hi]) ⟨hit',st.2.extBut hs'.extBut hne⟩ hs'
 done:=λs Q E st hE=>wj hh st.1 st.2 (by simp) hE
theorem ZG (l:Addr)(items:Array Value)(n:Nat)(dd:Option Addr)(sl:Array (Option Value)) :
 Meets (Builtin.«enumerate.__new__» ⟨[.type "enumerate",.ref l],[]⟩) (λ_ R s=>s.heap.get? l=some { cls:=.type "tuple",dict:=dd,data:=.seq items n,slots:=sl } /\
  R (.ok (.ret (.ref (s.heap.push { cls:=.type "tuple_iterator",data:=.fields #[.ref l,.int 0 0] }).objs.size)))
   { s with heap:=(s.heap.push { cls:=.type "tuple_iterator",data:=.fields #[.ref l,.int 0 0] }).push { cls:=.type "enumerate",data:=.fields #[.none,.bool false,.ref s.heap.objs.size,rawInt 0,.none,.none] } }) :=
 .of_wp λprog w A R s h=>by
  obtain⟨hp,g,d,tk,os⟩:=s;obtain⟨hl,h⟩:=h
  have hsub:=sub_enumerate
  have hL:Heap.IsTuple (Shared.heap ⟨hp,g,d,tk,os⟩) l items:=⟨_,hl,rfl,n,rfl⟩
  wp_walk using u1f hl
  refine wpAny_stack_any λst=>u8 ?_
  split
  .rename_i c _ _ _ _ _
   cases (c == Value.type "enumerate")
   .wp_walk using u1f hl,u0M hL
    exact⟨_,rfl,h⟩
   .wp_walk using u1f hl,u0M hL
    exact⟨_,rfl,h⟩
  .wp_walk using u1f hl,u0M hL
   exact⟨_,rfl,h⟩
section
variable {prog:Program}{w:World}{A:Around}{E:Value->Shared->Prop}{s:Shared}
theorem YU {l:Addr}{items:Array Value}{Q:Value->Shared->Prop}
 (hl:s.heap.IsTuple l items)
 (h:∀ h',IsEnum h' (s.heap.objs.size+1) s.heap.objs.size 0 .none->h'.IsTupleIter s.heap.objs.size l 0->h'.objs.size=s.heap.objs.size+2 ->
  (∀ b o,s.heap.get? b=some o->h'.get? b=some o)->Q (.ref (s.heap.objs.size+1)) { s with heap:=h' }) :
 wpAny (model prog w) A (call (.type "enumerate") [.ref l]) Q E s:=by
 obtain⟨⟨cls,dd,data,sl⟩,ho,hc,n,hd⟩:=hl
 simp only at hc hd
 subst hc hd
 refine callType_new F.called_enumerate (by decide) (F.typeCall_enumerate_1 _) (F.newCall_enumerate_1 _) (λobj=>F.args_object_init_2 obj _) F.entry_enumerate_new
  (ZG l items n dd sl) ⟨ho,?_⟩
 have hz:(s.heap.push { cls:=.type "tuple_iterator",data:=.fields #[.ref l,.int 0 0] }).objs.size=s.heap.objs.size+1:=u0H ..
 show _/\_
 rw[hz]
 have he:IsEnum ((s.heap.push { cls:=.type "tuple_iterator",data:=.fields #[.ref l,.int 0 0] }).push
  { cls:=.type "enumerate",data:=.fields #[.none,.bool false,.ref s.heap.objs.size,rawInt 0,.none,.none] }) (s.heap.objs.size+1) s.heap.objs.size 0 .none:=by
  have:=r9 (s.heap.push { cls:=.type "tuple_iterator",data:=.fields #[.ref l,.int 0 0] })
   (o:={ cls:=.type "enumerate",data:=.fields #[.none,.bool false,.ref s.heap.objs.size,rawInt 0,.none,.none] }) rfl
  rw[hz]at this;exact this
 refine⟨⟨_,he,rfl⟩,h _ he ⟨_,u5 _ (r9 _ rfl),rfl,rfl⟩ (by rw[u0H,hz]) λb o x=>u5 _ (u5 _ x)⟩
end
end PySem
namespace L2
open PySem PySem.Spec PyProof.Rows
section
variable {X:Cx}{pins:List (Addr × Obj)}{σ:St}{H:Hp}{s:Shared}{h':Heap}
theorem Inv.grown {ch:List Addr}{T:Addr}{o:HO}{t':Nat}(I:Inv X pins σ H s)(hch:∀ b∈ch,zbU X pins H b)(hT:s.heap.objs.size<=T)(k:∀ b u,b∉ch->s.heap.get? b=some u->h'.get? b=some u)
 (new:yq X.prog X.w (upd H T o) h' T o):Inv X pins σ (upd H T o) { s with heap:=h',toks:=t' }:=by
 have hn:H T=none:=I.hok.fresh hT
 have neT:∀ b u,s.heap.get? b=some u->b≠T:=λb u e=>d9 (d7 (j5 e) hT)
 have nch:∀ b u,H b=some u->b∉ch:=λb u e z=>by rw[(hch b z).1]at e;cases e
 refine I.step (g':=s.gens) (d':=s.drawn) (ch:=ch) (λb hb=>?_) (λb u _ _ hc e _=>k b u hc e) (λb u _ _ hc e _=>⟨u.slots,k b u hc e⟩) (λb u _ e n=>by rw[zk (neT b u e)];exact n)
  (λb u hc e=>⟨u,k b u hc e⟩) (λb xs e=>by rw[zk (zh e hn)];exact e) (λb u xs e=>by rw[zk (zh e hn)];exact e) (λb ps e=>⟨#[],by rw[zk (zh e hn),e];simp⟩) (λm hm=>?_) (λb u e=>?_) I.bare
 .obtain⟨_,n1,_,n3,n4,n5⟩:=hch b hb
  exact⟨n3,n1,n4,n5⟩
 .obtain⟨ob,es,ep,ho,r⟩:=hm
  exact⟨ob,es,ep,k _ ob (λz=>(hch _ z).2.1 rfl) ho,r⟩
 .by_cases hb:b=T
  .subst hb;rw[zm]at e;cases e;exact new
  .rw[zk hb]at e
   refine(I.hok b u e).stay (λc v hc q=>k c v ?_ q) (λc q=>by rw[zk (zh q hn)];exact q) λc xs q=>by rw[zk (zh q hn)];exact q
   rcases hc with z | z
   .rw[z];exact nch b u e
   .exact nch c _ z
theorem Inv.turnedN {ch:List Addr}{t':Nat}(I:Inv X pins σ H s)(hch:∀ b∈ch,zbU X pins H b)(k:∀ b u,b∉ch->s.heap.get? b=some u->h'.get? b=some u):Inv X pins σ H { s with heap:=h',toks:=t' }:=by
 have nch:∀ b u,H b=some u->b∉ch:=λb u e z=>by rw[(hch b z).1]at e;cases e
 refine I.step (g':=s.gens) (d':=s.drawn) (ch:=ch) (λb hb=>?_) (λb u _ _ hc e _=>k b u hc e) (λb u _ _ hc e _=>⟨u.slots,k b u hc e⟩) (λb u _ e n=>n)
  (λb u hc e=>⟨u,k b u hc e⟩) (λb xs e=>e) (λb u xs e=>e) (λb ps e=>⟨#[],by rw[e];simp⟩) (λm hm=>?_) (λb u e=>?_) I.bare
 .obtain⟨_,n1,_,n3,n4,n5⟩:=hch b hb
  exact⟨n3,n1,n4,n5⟩
 .obtain⟨ob,es,ep,ho,r⟩:=hm
  exact⟨ob,es,ep,k _ ob (λz=>(hch _ z).2.1 rfl) ho,r⟩
 .refine(I.hok b u e).stay (λc v hc q=>k c v ?_ q) (λc q=>q) λc xs q=>q
  rcases hc with z | z
  .rw[z];exact nch b u e
  .exact nch c _ z
end
def Iel (K:W.Frag)(a:Addr):It :=
 ⟨λi H=>∃ xs x,SqL K H a xs/\xs[i]?=some x,λi H v H'=>∃ T x,v=.ref T/\H T=none/\H'=upd H T (.tup [.int i,x])/\∀ xs,SqL K H a xs->xs[i]?=some x,λi H=>∃ xs,SqL K H a xs/\xs.length<=i⟩
def Iet (K:W.Frag)(a:Addr):It :=
 ⟨λi H=>∃ xs x,SqT K H a xs/\xs[i]?=some x,λi H v H'=>∃ T x,v=.ref T/\H T=none/\H'=upd H T (.tup [.int i,x])/\∀ xs,SqT K H a xs->xs[i]?=some x,λi H=>∃ xs,SqT K H a xs/\xs.length<=i⟩
theorem zeh {P:Program}{w:World}{K:W.Frag}{es:List Expr}{k:Nat}{tp:Pos}(a e it:Addr)(hne:e≠it) :
 ziY P w K (.Tuple es k tp) (Iel K a) [e,it] e (λi h=>(∃ old,IsEnum h e it i old)/\h.IsListIter it a i) where
 mem:=by simp
 obj:=λi h st b hb=>by
  obtain⟨⟨old,he⟩,o,ho,_,hd⟩:=st
  rcases j7.mp hb with rfl | hb
  .exact⟨_,he,λv z=>by cases z⟩
  .rw[j9.mp hb]
   exact⟨o,ho,λv z=>by rw[hd]at z;cases z⟩
 keep:=λi h h' st kk=>by
  obtain⟨⟨old,he⟩,hit⟩:=st
  exact⟨⟨old,kk e (by simp) _ he⟩,hit.at λo q=>kk it (by simp) o q⟩
 item:=by
  intro X hP hw hK hc i pins s σ H E I hf st hg
  subst hP hw hK
  obtain⟨⟨old,he⟩,hit⟩:=st
  obtain⟨xs,x,hq,hx⟩:=hg
  obtain⟨its,rv,p,hz⟩:=I.list hq
  obtain⟨u,hu,ru⟩:=rv.get hx
  refine wpAny_pyNext_enum_item he hit p.isList (x:=u) (by simpa using hu) hne λh1 ho1 hit1 hT1 hz1 hk1=>?_
  refine⟨_,rfl,wpAny_letOwnedTupleGo_enum ho1 λh2 he2 hs2=>?_⟩
  have hfr:H s.heap.objs.size=none:=I.hok.fresh (q5 _)
  have neE:s.heap.objs.size≠e:=u17 (j5 he)
  have hT2:h2.get? s.heap.objs.size=some { cls:=.type "tuple",data:=.seq #[.int i s.toks,u] }:=(hs2.2 _ neE).trans hT1
  refine⟨.ref s.heap.objs.size,upd H s.heap.objs.size (.tup [.int i,x]),?_,rfl,⟨_,x,rfl,hfr,rfl,λys hy=>by rw[I.list_inj hy hq];exact hx⟩,⟨⟨_,by simpa using he2⟩,hit1.at λo q=>(hs2.2 it (u03 hne)).trans q⟩,λb hb=>?_⟩
  .refine I.grown (ch:=[e,it]) hf (q5 _) (λb v hb q=>?_) ?_
   .have n1:b≠e:=λz=>hb (by simp[z])
    have n2:b≠it:=λz=>hb (by simp[z])
    exact(hs2.2 b n1).trans (hk1 b v n1 n2 q)
   .exact⟨by show 2<=sizeLine;decide,[.int i s.toks,u],.cons ⟨_,rfl⟩ (.cons ru .nil),⟨_,hT2,rfl,0,rfl⟩⟩
  .obtain⟨o,hb2,_⟩:∃ o,s.heap.get? b=some o/\True:=by
    rcases j7.mp hb with rfl | hb
    .exact⟨_,he,trivial⟩
    .rw[j9.mp hb]
     obtain⟨o,ho,_⟩:=hit
     exact⟨o,ho,trivial⟩
   rw[zk (d9 (j5 hb2))]
   exact(hf b hb).1
 done:=by
  intro X hP hw hK hc i pins s σ H E I hf st hg
  subst hP hw hK
  obtain⟨⟨old,he⟩,hit⟩:=st
  obtain⟨xs,hq,hx⟩:=hg
  obtain⟨its,rv,p,hz⟩:=I.list hq
  have hl:=rv.length
  exact wpAny_pyNext_enum_end (I.ok.hd hc) he hit p.isList (by simp;omega) λh1 hx1=>⟨rfl,I.turnedN (ch:=[e,it]) (t':=s.toks) hf λb v hb q=>hx1 b v (λz=>hb (by simp[z])) q⟩
 self:=λ_ _ _ _ _ st h=>u2r st.1.choose_spec h
theorem zec {P:Program}{w:World}{K:W.Frag}{es:List Expr}{k:Nat}{tp:Pos}(a e it:Addr)(hne:e≠it)(hai:a≠it)(hae:a≠e) :
 ziY P w K (.Tuple es k tp) (Iet K a) [e,it] e (λi h=>(∃ old,IsEnum h e it i old)/\h.IsTupleIter it a i) where
 mem:=by simp
 obj:=λi h st b hb=>by
  obtain⟨⟨old,he⟩,o,ho,_,hd⟩:=st
  rcases j7.mp hb with rfl | hb
  .exact⟨_,he,λv z=>by cases z⟩
  .rw[j9.mp hb]
   exact⟨o,ho,λv z=>by rw[hd]at z;cases z⟩
 keep:=λi h h' st kk=>by
  obtain⟨⟨old,he⟩,o,ho,r⟩:=st
  exact⟨⟨old,kk e (by simp) _ he⟩,o,kk it (by simp) o ho,r⟩
 item:=by
  intro X hP hw hK hc i pins s σ H E I hf st hg
  subst hP hw hK
  obtain⟨⟨old,he⟩,hit⟩:=st
  obtain⟨xs,x,hq,hx⟩:=hg
  obtain⟨its,rv,p,hz⟩:=I.tuple hq
  obtain⟨u,hu,ru⟩:=rv.get hx
  have p':s.heap.IsTuple a its.toArray:=p
  have D:=Yu (prog:=X.prog) (w:=X.w) (A:=X.A.in1) (I.ok.hd hc) it a hai its.toArray
  have hlt:i < its.toArray.size:=by
   obtain⟨h1,_⟩:=t7.mp hu
   simpa using h1
  refine wpAny_pyNext_enum_itemD D he ⟨hit,p'⟩ hlt hne (by simp[hne,u03 hae]) λu' h1 tk hP1 ho1 hit1 hT1 hz1 hk1=>?_
  have eu:u'=u:=by
   have:its[i]?=some u':=by simpa using hP1
   rw[hu]at this
   exact(p9 this).symm
  subst eu
  refine⟨_,rfl,wpAny_letOwnedTupleGo_enum ho1 λh2 he2 hs2=>?_⟩
  have hfr:H s.heap.objs.size=none:=I.hok.fresh (q5 _)
  have neE:s.heap.objs.size≠e:=u17 (j5 he)
  have hT2:h2.get? s.heap.objs.size=some { cls:=.type "tuple",data:=.seq #[.int i tk,u'] }:=(hs2.2 _ neE).trans hT1
  refine⟨.ref s.heap.objs.size,upd H s.heap.objs.size (.tup [.int i,x]),?_,rfl,⟨_,x,rfl,hfr,rfl,λys hy=>by rw[I.tuple_inj hy hq];exact hx⟩,⟨⟨_,by simpa using he2⟩,?_⟩,λb hb=>?_⟩
  .refine I.grown (ch:=[e,it]) hf (q5 _) (λb v hb q=>?_) ?_
   .have n1:b≠e:=λz=>hb (by simp[z])
    have n2:b≠it:=λz=>hb (by simp[z])
    exact(hs2.2 b n1).trans (hk1 b v n1 n2 q)
   .exact⟨by show 2<=sizeLine;decide,[.int i tk,u'],.cons ⟨_,rfl⟩ (.cons ru .nil),⟨_,hT2,rfl,0,rfl⟩⟩
  .obtain⟨o,ho,r⟩:=hit1.1
   exact⟨o,(hs2.2 it (u03 hne)).trans ho,r⟩
  .obtain⟨o,hb2,_⟩:∃ o,s.heap.get? b=some o/\True:=by
    rcases j7.mp hb with rfl | hb
    .exact⟨_,he,trivial⟩
    .rw[j9.mp hb]
     obtain⟨o,ho,_⟩:=hit
     exact⟨o,ho,trivial⟩
   rw[zk (d9 (j5 hb2))]
   exact(hf b hb).1
 done:=by
  intro X hP hw hK hc i pins s σ H E I hf st hg
  subst hP hw hK
  obtain⟨⟨old,he⟩,hit⟩:=st
  obtain⟨xs,hq,hx⟩:=hg
  obtain⟨its,rv,p,hz⟩:=I.tuple hq
  have hl:=rv.length
  have p':s.heap.IsTuple a its.toArray:=p
  exact YW (I.ok.hd hc) he hit p' (by simp;omega) λh1 hx1=>⟨rfl,I.turnedN (ch:=[e,it]) (t':=s.toks) hf λb v hb q=>hx1 b v (λz=>hb (by simp[z])) q⟩
 self:=λ_ _ _ _ _ st h=>u2r st.1.choose_spec h
def znZ (K:W.Frag)(ta:TA):TI:=fun σ H R=>ta σ H λvs H1=>∃ a,vs=[.ref a]/\((∃ xs,H1 a=some (.lst xs)/\R (Iel K a) H1)\/(∃ xs,SqT K H1 a xs/\R (Iet K a) H1))
theorem zkK {X:Cx} {es:List Expr} {k:Nat} {tp:Pos} {a:Expr} {ta:TA} {p pos:Pos} (hg:Gl X "enumerate") (hm:X.mg "enumerate"=none) (hb:bootBuiltins "enumerate"=some (.type "enumerate")) (ha:PA X [a] ta)
 (hs:starEach [a] X.env=[(false,eval a X.env)]:=by rfl):PI X (.Tuple es k tp) (.Call (.Name "enumerate" p) [a] [] pos) (znZ X.K ta):=by
 intro pins s σ H R I h
 refine Call_ (Wo I hg hm hb (u0V (thn (ha pos pins s σ H _ I h) λus s1 hh9=>?_) hs rfl))
 obtain⟨vs,H1,I1,r1,q1⟩:=hh9
 obtain⟨l,e,q⟩:=q1
 subst e
 obtain⟨u,rfl,ru⟩:=WM r1
 cases ru
 have hn:∀ b,s1.heap.objs.size<=b->zbU X pins H1 b:=λb hb=>I1.fpOk hb (I1.hok.fresh hb)
 have hne:s1.heap.objs.size+1≠s1.heap.objs.size:=by omega
 have hfp:∀ b∈[s1.heap.objs.size+1,s1.heap.objs.size],zbU X pins H1 b:=λb hb=>by
  rcases j7.mp hb with rfl | hb
  .exact hn _ (u02 _)
  .rw[j9.mp hb];exact hn _ (q5 _)
 rcases q with ⟨xs,hx,q⟩ | ⟨xs,hx,q⟩
 .obtain⟨_,its,n,_,e⟩:xs.length<=sizeLine/\∃ (its:List Value) (n:Nat),yl xs its/\s1.heap.get? l=some { cls:=.type "list",data:=.seq its.toArray n }:=I1.hok _ _ hx
  refine call_enumerate_1 e λh2 he hit hz hk=>u2r he ?_
  exact⟨_,_,_,_,H1,rfl,I1.kept (t':=s1.toks) hk,zeh l _ _ hne,⟨⟨_,he⟩,hit⟩,hfp,q⟩
 .obtain⟨its,_,p1,_⟩:=I1.tuple hx
  have lt:l < s1.heap.objs.size:=by
   obtain⟨o,ho,_⟩:=p1
   exact j5 ho
  refine YU (show s1.heap.IsTuple l its.toArray from p1) λh2 he hit hz hk=>u2r he ?_
  exact⟨_,_,_,_,H1,rfl,I1.kept (t':=s1.toks) hk,zec l _ _ hne (d9 lt) (d9 (u1c lt)),⟨⟨_,he⟩,hit⟩,hfp,q⟩
end L2
namespace HT
open PySem PyProof.Rows
def lexLe:List Int->List Int->Bool
 | [],_=>true
 | _::_,[]=>false
 | x::xs,y::ys=>if x=y then lexLe xs ys else decide (x<=y)
theorem zdx (x y:Int)(xs ys:List Int):lexLe (x::xs) (y::ys)=if x=y then lexLe xs ys else decide (x<=y):=rfl
theorem zid (A:Around)(s:Shared)(a:Int)(t:Tok)(c:Int)(u:Tok)(prog:Program)(w:World)(E:Value->Shared->Prop)(Q:Value->Shared->Prop)(h:Q (.bool (decide (a<=c))) s) :
 wpAny (model prog w) A (richCompare .LtE (.int a t) (.int c u)) Q E s :=
 (PyProof.Rows.le_int h:wpAny (model prog w) A (compareOp .LtE (.int a t) (.int c u)) Q E s)
section
open PySem.SeqAt
open PySem.AutoSeq1 (wpAny_loadPart')
open PySem.MeetsSeq PySem.MeetsSeq2 PySem.MeetsSeq3
theorem VJ (l b:Addr)(items items2:Array Value)(n n2:Nat)(dd dd2:Option Addr)(sl sl2:Array (Option Value))(ns ms:List Int)(hi:IntsAre items.toList ns)(hj:IntsAre items2.toList ms) :
 Meets (Builtin.«tuple.__le__» ⟨[.ref l,.ref b],[]⟩)
  (λ_ R s=>s.heap.get? l=some { cls:=.type "tuple",dict:=dd,data:=.seq items n,slots:=sl }/\s.heap.get? b=some { cls:=.type "tuple",dict:=dd2,data:=.seq items2 n2,slots:=sl2 } /\
   R (.ok (.ret (.bool (lexLe ns ms)))) s) :=
 .of_wp λprog w A R s h=>by
  obtain⟨hp,g,d,tk,os⟩:=s;obtain⟨hl,hb,h⟩:=h
  have f2:=AutoSeq1.sub_tuple_tuple
  have z1:items.size=ns.length:=by rw[<-hi.length];simp
  have z2:items2.size=ms.length:=by rw[<-hj.length];simp
  wp_walk using u1f hl,u1f hb,wpAny_forIn_list _ (λrest b s'=>b.1=none/\s'=⟨hp,g,d,tk,os⟩/\∃ (vs ws:List Value) (ns' ms':List Int),rest=vs.zip ws /\
   IntsAre vs ns'/\IntsAre ws ms'/\ns'.length+items2.size=ms'.length+items.size/\R (.ok (.ret (.bool (lexLe ns' ms')))) ⟨hp,g,d,tk,os⟩) _
  case turn =>
   rintro⟨y,x⟩ rest b s' ⟨hb',rfl,vs,ws,ns',ms',hz,hvi,hwi,hlen,hR⟩
   cases hvi with
   | nil=>rw[List.zip_nil_left]at hz;cases hz
   | cons a t hvi' =>
    cases hwi with
    | nil=>rw[List.zip_nil_right]at hz;cases hz
    | cons c u hwi' =>
     rw[u28]at hz
     injection hz with hyx hrest
     injection hyx with hy hx
     subst hy hx
     rw[zdx]at hR
     simp only[u0d]at hlen
     obtain⟨e,he,hiff⟩:=zh6 A.in1 ⟨hp,g,d,tk,os⟩ a t c u
     refine u0 (he prog w _ _ ?_)
     cases e with
     | true =>
      rw[t9 (hiff.mp rfl)]at hR
      wp_walk
      exact⟨rfl,rfl,_,_,_,_,hrest,hvi',hwi',by omega,hR⟩
     | false =>
      rw[j0 (λq=>absurd (hiff.mpr q) u6)]at hR
      have hri:=zid A.in1 ⟨hp,g,d,tk,os⟩ a t c u prog w
      wp_walk using hri
      exact⟨_,rfl,by simpa using hR⟩
  case fin =>
   rintro⟨b1,b2⟩ s' ⟨hb',rfl,vs,ws,ns',ms',hz,hvi,hwi,hlen,hR⟩
   simp only at hb'
   subst hb'
   have hv:lexLe ns' ms'=decide (items.size<=items2.size):=by
    cases hvi with
    | nil =>
     simp only[u2Q]at hlen
     show true=_
     exact(b6 (by omega)).symm
    | cons a t hv =>
     cases hwi with
     | nil =>
      simp only[u2Q,u0d]at hlen
      show false=_
      exact(h9 (by omega)).symm
     | cons c u hw =>
      rw[u28]at hz
      cases hz
   rw[hv]at hR
   wp_walk
   exact⟨_,rfl,by simpa [Builtin.Tuple.tupleCompareSizes]using hR⟩
  case h =>
   exact⟨rfl,rfl,items.toList,items2.toList,ns,ms,rfl,hi,hj,by omega,h⟩
end
section
variable {prog:Program}{w:World}{A:Around}{E:Value->Shared->Prop}{s:Shared}
theorem le_tupInts {l b:Addr}{items items2:Array Value}{ns ms:List Int}{Q:Value->Shared->Prop}(hl:IsTup s.heap l items)(hb:IsTup s.heap b items2)(hi:IntsAre items.toList ns)(hj:IntsAre items2.toList ms)
 (hu:A.units < cLine) (h:Q (.bool (lexLe ns ms)) s):wpAny (model prog w) A (compareOp .LtE (.ref l) (.ref b)) Q E s:=by
 obtain⟨⟨cls,dd,data,sl⟩,ho,hc,n,hd⟩:=id hl
 obtain⟨⟨cls2,dd2,data2,sl2⟩,ho2,hc2,n2,hd2⟩:=id hb
 simp only at hc hd hc2 hd2
 subst hc hd hc2 hd2
 exact richCompare_meets_room (op:=.LtE) ⟨_,ho,rfl⟩ ⟨_,ho2,rfl⟩ PySem.F.slot_tuple_le PySem.F.entry_tuple_le (PySem.F.args_tuple_le_2 _ _) (VJ l b items items2 n n2 dd dd2 sl sl2 ns ms hi hj)
  ⟨ho,ho2,show Value.bool (lexLe ns ms)≠Value.notImplemented/\Q (.bool (lexLe ns ms)) s from⟨(λx=>nomatch x),h⟩⟩ hu
end
end HT
namespace L2
open PySem PySem.Spec PyProof.Rows
def rLeT (K:W.Frag):R2:=λx y H Q=>∃ a b ns ms,x=.ref a/\y=.ref b/\SqT K H a (ns.map V.int)/\SqT K H b (ms.map V.int)/\Q (.bl (HT.lexLe ns ms)) H
theorem zlR {X:Cx}(hu:X.A.units < cLine):OpR X (compareOp .LtE) (rLeT X.K):=by
 intro pins s σ H x y v u Q I rx ry h
 obtain⟨a,b,ns,ms,rfl,rfl,ha,hb,q⟩:=h
 cases rx
 cases ry
 obtain⟨its,r1,p1,_⟩:=I.tuple ha
 obtain⟨its2,r2,p2,_⟩:=I.tuple hb
 have i1:IntsAre its.toArray.toList ns:=wy r1
 have i2:IntsAre its2.toArray.toList ms:=wy r2
 exact HT.le_tupInts p1 p2 i1 i2 hu ⟨.bl (HT.lexLe ns ms),H,I,rfl,q⟩
end L2
namespace HT
open PySem PyProof.Rows
section
variable {prog:Program}{w:World}{A:Around}{E:Value->Shared->Prop}{s:Shared}
theorem own_getItem_whole {t sl:Addr}{items:Array Value}{vl vu:Value}{lo hi:Option Int}{Q:Value->Shared->Prop}(ht:IsTup s.heap t items)(hs:s.heap.IsSliceOf sl vl vu .none)(pl:IsPart vl lo)(pu:IsPart vu hi)
 (hw:sIx items.size 0 lo=0/\sIx items.size items.size hi=items.size) (h:Q (.ref t) s):wpAny (model prog w) A (getItem (.ref t) (.ref sl)) Q E s:=by
 obtain⟨os,hos,hcs,hds⟩:=id hs
 have hTs:s.TypeIs (.ref sl) "slice":=⟨os,hos,hcs⟩
 unfold getItem
 try with_reducible refine u0n ?_
 first | refine u0 (u8 ?_) | skip
 refine u0 (wpAny_sequenceKey ht.typeIs (by decide) ?_)
 refine u0 (u0m (name:=Str.ofString "__getitem__") ht.typeIs u0r
  (u0B u0r ht.typeIs entry_tuple_getitem ?_ (args_tuple_getitem _ _)))
 show wpAny _ _ (Builtin.Tuple.tupleItemsOf (.ref t)>>=_) _ _ s
 refine u0 (tupleItemsOf_ ht ?_)
 refine u0 (u2w hTs ?_)
 rw[t9 (by decide)]
 refine u0 (Yf hs pl pu ?_)
 have hyes:(((sIx items.size 0 lo:Nat):Int) == 0&&(1:Int) == 1&&(sIx items.size items.size hi - sIx items.size 0 lo) == items.size)=true:=by
  rw[hw.1,hw.2]
  simp
 show wpAny _ _ (if (((sIx items.size 0 lo:Nat):Int) == 0&&(1:Int) == 1&&(sIx items.size items.size hi - sIx items.size 0 lo) == items.size)=true then _ else _) _ _ s
 rw[t9 hyes]
 refine u0 (m:=Builtin.Tuple.tupleIsExact (.ref t)) ?_
 unfold Builtin.Tuple.tupleIsExact
 refine u0 (u2w ht.typeIs (u8 ?_))
 rw[t9 (by decide)]
 refine u0 (u1y ?_)
 first
  | exact u8 ⟨_,rfl,u8 h⟩
  | exact u0 (u8 (u8 ⟨_,rfl,u8 h⟩))
end
end HT
namespace PySem
open Sem (wp)
theorem xt {prog:Program}{w:World}{A:Around}{it a:Addr}{fp:List Addr}{n k:Nat}{P:Nat->Value->Prop}{St:Nat->Heap->Prop}(D:Draws prog w A it fp n P St){h h':Heap}(st:St k h)(sb:Heap.SameBut a h h')(na:a∉fp):St k h' :=
 D.frame _ _ _ st λb hb o e=>(sb.2 b λz=>na (z ▸ hb)).trans e
structure zir (z TI TO i1 i2:Addr) (fp1 fp2:List Addr):Prop where
 nd:[z,TI,TO,i1,i2].Nodup
 z1:z∉fp1
 z2:z∉fp2
 o1:TO∉fp1
 o2:TO∉fp2
 i12:i1∉fp2
 i21:i2∉fp1
section
variable {prog:Program}{w:World}{A:Around}{E:Value->Shared->Prop}{s:Shared}{z TI TO i1 i2:Addr}{fp1 fp2:List Addr}{n1 n2 k1 k2:Nat}{P1 P2:Nat->Value->Prop}{St1 St2:Nat->Heap->Prop}{a b:Value}
theorem zbq {Q:Value->Shared->Prop}(D1:Draws prog w A i1 fp1 n1 P1 St1)(D2:Draws prog w A i2 fp2 n2 P2 St2)(ap:zir z TI TO i1 i2 fp1 fp2)
 (hz:IsZip s.heap z TI TO .none) (hTI:IsPair s.heap TI (.ref i1) (.ref i2)) (hTO:IsPair s.heap TO a b) (h1:St1 k1 s.heap) (h2:St2 k2 s.heap) (l1:k1 < n1) (l2:k2 < n2)
 (hQ:∀ x y h' tk,P1 k1 x->P2 k2 y->IsZip h' z TI TO (rawInt s.heap.objs.size)->IsPair h' TO x y->St1 (k1+1) h'->St2 (k2+1) h'->IsPair h' s.heap.objs.size x y ->
  (∀ c o,c∉[z,TO,i1,i2]->s.heap.get? c=some o->h'.get? c=some o)->Q (.ref s.heap.objs.size) { s with heap:=h',toks:=tk }) :
 wpAny (model prog w) A (Builtin.«zip.__next__» ⟨[.ref z],[]⟩) (λfin s'=>∃ v,fin=.done (.ret v)/\Q v s') E s:=by
 obtain⟨nd,az1,az2,ao1,ao2,a12,a21⟩:=ap
 simp only[u1e,j7,i5,u1l,u3W,u2p,u2t,and_true]at nd
 obtain⟨⟨n1',n2',n3',n4'⟩,⟨n5,n6,n7⟩,⟨n8,n9⟩,n10⟩:=nd
 show wpAny _ _ (field (.ref z) 2>>=_) _ _ _
 refine u0 (u0Q hz rfl (x:=.bool false) rfl ?_)
 show wpAny _ _ (field (.ref z) 3>>=_) _ _ _
 refine u0 (u0Q hz rfl (x:=.ref TI) rfl (u0 (u1L hTI rfl ?_)))
 show wpAny _ _ (Builtin.SmallTypes.ownedTupleIsFree (.ref z)>>=_) _ _ _
 refine u0 ?_
 unfold Builtin.SmallTypes.ownedTupleIsFree
 refine u0 (u0Q hz rfl (x:=.none) rfl (u8 ?_))
 simp only[u2A]
 refine u0 (u1y (u0 (u0Q hz rfl (x:=.ref TO) rfl (u0 (u1M hz (by simp) λg1 z1 b1=>?_)))))
 refine u0 ?_
 simp only[u2z,List.zipIdx_nil,u2f,u1W]
 refine u0 (u0 (wpAny_onRaise ?_))
 show wpAny _ _ (Builtin.SmallTypes.nextOf (.ref i1)>>=_) _ _ _
 refine u0 (D1.item k1 _ _ _ l1 (xt D1 h1 b1 az1) λx g2 tk2 px st2 b2=>u8 ?_)
 have o2:IsPair g2 TO a b:=(b2.2 TO n8).trans ((b1.2 TO (u03 n2')).trans hTO)
 refine u0 (u1L o2 rfl (u0 (wpAny_updateSeq_pair o2 λg3 o3 b3=>?_)))
 refine u0 (wpAny_letGo (u8 ?_))
 refine u0 (u0 (wpAny_onRaise ?_))
 show wpAny _ _ (Builtin.SmallTypes.nextOf (.ref i2)>>=_) _ _ _
 have s23:St2 k2 g3:=xt D2 (xt D2 (xt D2 h2 b1 az2) b2 a12) b3 ao2
 refine u0 (D2.item k2 _ _ _ l2 s23 λy g4 tk4 py st4 b4=>u8 ?_)
 have o4:IsPair g4 TO x b:=(b4.2 TO n9).trans o3
 refine u0 (u1L o4 rfl (u0 (wpAny_updateSeq_pair o4 λg5 o5 b5=>?_)))
 replace o5:IsPair g5 TO x y:=o5
 refine u0 (wpAny_letGo (u8 (u8 ?_)))
 refine u0 (u1L o5 rfl ?_)
 show wpAny _ _ (newTuple [x,y]>>=_) _ _ _
 refine u0 (wpAny_newTuple ?_)
 have hsz:g5.objs.size=s.heap.objs.size:=by rw[b5.1,b4.1,b3.1,b2.1,b1.1]
 have z5:IsZip g5 z TI TO .ellipsis:=(b5.2 z n2').trans ((b4.2 z n4').trans ((b3.2 z n2').trans ((b2.2 z n3').trans z1)))
 have zlt:z < g5.objs.size:=j5 z5
 show wpAny _ _ (Builtin.SmallTypes.ownedTupleHandOut (.ref z) (.ref g5.objs.size)>>=_) _ _ _
 refine u0 ?_
 unfold Builtin.SmallTypes.ownedTupleHandOut
 have z6:IsZip (g5.push { cls:=.type "tuple",data:=.seq #[x,y] }) z TI TO .ellipsis:=u5 _ z5
 refine u0 (u1M z6 (by simp) λg7 z7 b7=>?_)
 refine u1M z7 (by simp) λg8 z8 b8=>?_
 have up:∀ c o,c≠z->g5.get? c=some o->g8.get? c=some o:=λc o n e=>(b8.2 c n).trans ((b7.2 c n).trans (u5 _ e))
 have t8:IsPair g8 g5.objs.size x y:=(b8.2 _ (u17 zlt)).trans ((b7.2 _ (u17 zlt)).trans (r9 _ rfl))
 have e8:IsZip g8 z TI TO (rawInt g5.objs.size):=z8
 rw[hsz]at e8 t8
 refine u8 ⟨_,rfl,?_⟩
 show Q (.ref g5.objs.size) _
 rw[hsz]
 have f1:St1 (k1+1) g5:=xt D1 (xt D1 (xt D1 st2 b3 ao1) b4 a21) b5 ao1
 have f2:St2 (k2+1) g5:=xt D2 st4 b5 ao2
 refine hQ x y g8 _ px py e8 (up _ _ (u03 n2') o5) (D1.frame _ _ _ f1 λc hc o e=>up c o (λq=>az1 (q ▸ hc)) e) (D2.frame _ _ _ f2 λc hc o e=>up c o (λq=>az2 (q ▸ hc)) e) t8 λc o hc e=>?_
 simp only[j7,i5,u1l,u3W]at hc
 obtain⟨c1,c2,c3,c4⟩:=hc
 exact up c o c1 ((b5.2 c c2).trans ((b4.2 c c4).trans ((b3.2 c c2).trans ((b2.2 c c3).trans ((b1.2 c c1).trans e)))))
theorem zb8 {Q:Fin->Shared->Prop}(D1:Draws prog w A i1 fp1 n1 P1 St1)(az1:z∉fp1)(nz:i1≠z)
 (hz:IsZip s.heap z TI TO .none) (hTI:IsPair s.heap TI (.ref i1) (.ref i2)) (h1:St1 n1 s.heap)
 (hE:∀ h' e,(∀ c o,c≠z->c≠i1->s.heap.get? c=some o->h'.get? c=some o)->(∃ o,h'.get? e=some o/\o.cls=.type "StopIteration")->E (.ref e) { s with heap:=h' }) :
 wpAny (model prog w) A (Builtin.«zip.__next__» ⟨[.ref z],[]⟩) Q E s:=by
 show wpAny _ _ (field (.ref z) 2>>=_) _ _ _
 refine u0 (u0Q hz rfl (x:=.bool false) rfl ?_)
 show wpAny _ _ (field (.ref z) 3>>=_) _ _ _
 refine u0 (u0Q hz rfl (x:=.ref TI) rfl (u0 (u1L hTI rfl ?_)))
 show wpAny _ _ (Builtin.SmallTypes.ownedTupleIsFree (.ref z)>>=_) _ _ _
 refine u0 ?_
 unfold Builtin.SmallTypes.ownedTupleIsFree
 refine u0 (u0Q hz rfl (x:=.none) rfl (u8 ?_))
 simp only[u2A]
 refine u0 (u1y (u0 (u0Q hz rfl (x:=.ref TO) rfl (u0 (u1M hz (by simp) λg1 z1 b1=>?_)))))
 refine u0 ?_
 simp only[u2z,List.zipIdx_nil,u2f,u1W]
 refine u0 (u0 (wpAny_onRaise ?_))
 show wpAny _ _ (Builtin.SmallTypes.nextOf (.ref i1)>>=_) _ _ _
 refine u0 (D1.done _ _ _ (xt D1 h1 b1 az1) λg2 e b2 he=>?_)
 obtain⟨oe,hoe,hce⟩:=he
 have z2:IsZip g2 z TI TO .ellipsis:=b2 _ _ (u03 nz) z1
 have nez:e≠z:=λq=>by subst q;rw[z2]at hoe;cases hoe;simp at hce
 exact u1M z2 (by simp) λg3 _ b3=>hE g3 e (λc o c1 c2 q=>(b3.2 c c1).trans (b2 c o c2 ((b1.2 c c1).trans q))) ⟨oe,(b3.2 e nez).trans hoe,hce⟩
end
def zaq (b:Bool)(h:Heap)(it l:Addr)(k:Nat):Prop:=if b=true then h.IsListIter it l k else h.IsTupleIter it l k
def zdQ (b:Bool)(h:Heap)(l:Addr)(items:Array Value):Prop:=if b=true then h.IsList l items else h.IsTuple l items
theorem WL {prog:Program}{w:World}{A:Around}(hh:A.handled=none)(b:Bool)(it l:Addr)(hne:l≠it)(items:Array Value) :
 Draws prog w A it [it,l] items.size (λi v=>items[i]?=some v) (λi h=>zaq b h it l i/\zdQ b h l items):=by
 cases b with
 | true=>exact Draws.list hh it l hne items
 | false=>exact Yu hh it l hne items
def zeQ (b:Bool) (l:Addr):Obj:={ cls:=.type (if b=true then "list_iterator" else "tuple_iterator"),data:=.fields #[.ref l,.int 0 0] }
abbrev zpA (h:Heap)(b1:Bool)(l1:Addr):Heap:=h.push (zeQ b1 l1)
abbrev zpB (h:Heap)(b1 b2:Bool)(l1 l2:Addr):Heap:=(zpA h b1 l1).push (zeQ b2 l2)
abbrev zpC (h:Heap) (b1 b2:Bool) (l1 l2:Addr):Heap:=(zpB h b1 b2 l1 l2).push (Obj.mk (.type "tuple") none (.seq #[.ref h.objs.size,.ref (zpA h b1 l1).objs.size]) #[])
abbrev zpD (h:Heap) (b1 b2:Bool) (l1 l2:Addr):Heap:=(zpC h b1 b2 l1 l2).push (Obj.mk (.type "tuple") none (.seq #[.none,.none]) #[])
abbrev zpE (h:Heap) (b1 b2:Bool) (l1 l2:Addr):Heap:=(zpD h b1 b2 l1 l2).push (Obj.mk (.type "zip") none (.fields #[.none,.bool false,.bool false,.ref (zpB h b1 b2 l1 l2).objs.size,.ref (zpC h b1 b2 l1 l2).objs.size]) #[])
theorem zci (b1 b2:Bool)(l1 l2:Addr)(xs ys:Array Value) :
 Meets (Builtin.«zip.__new__» ⟨[.type "zip",.ref l1,.ref l2],[]⟩) (λ_ R s=>zdQ b1 s.heap l1 xs/\zdQ b2 s.heap l2 ys /\
  R (.ok (.ret (.ref (zpD s.heap b1 b2 l1 l2).objs.size))) { s with heap:=zpE s.heap b1 b2 l1 l2 }) :=
 .of_wp λprog w A R s h=>by
  obtain⟨hp,g,d,tk,os⟩:=s;obtain⟨hl1,hl2,h⟩:=h
  have hsub:=sub_zip
  cases b1 with
  | true =>
   have hL1:Heap.IsList (Shared.heap ⟨hp,g,d,tk,os⟩) l1 xs:=hl1
   cases b2 with
   | true =>
    have hL2:Heap.IsList (Shared.heap ⟨hp.push { cls:=.type "list_iterator",data:=.fields #[.ref l1,.int 0 0] },g,d,tk,os⟩) l2 ys:=Heap.IsList.push hl2 _
    wp_walk using u1x hL1,u1x hL2
    exact⟨_,rfl,h⟩
   | false =>
    have hL2:Heap.IsTuple (Shared.heap ⟨hp.push { cls:=.type "list_iterator",data:=.fields #[.ref l1,.int 0 0] },g,d,tk,os⟩) l2 ys:=Heap.IsTuple.push hl2 _
    wp_walk using u1x hL1,u0M hL2
    exact⟨_,rfl,h⟩
  | false =>
   have hL1:Heap.IsTuple (Shared.heap ⟨hp,g,d,tk,os⟩) l1 xs:=hl1
   cases b2 with
   | true =>
    have hL2:Heap.IsList (Shared.heap ⟨hp.push { cls:=.type "tuple_iterator",data:=.fields #[.ref l1,.int 0 0] },g,d,tk,os⟩) l2 ys:=Heap.IsList.push hl2 _
    wp_walk using u0M hL1,u1x hL2
    exact⟨_,rfl,h⟩
   | false =>
    have hL2:Heap.IsTuple (Shared.heap ⟨hp.push { cls:=.type "tuple_iterator",data:=.fields #[.ref l1,.int 0 0] },g,d,tk,os⟩) l2 ys:=Heap.IsTuple.push hl2 _
    wp_walk using u0M hL1,u0M hL2
    exact⟨_,rfl,h⟩
end PySem
namespace PySem
section
variable {prog:Program}{w:World}{A:Around}{E:Value->Shared->Prop}{s:Shared}
theorem zaH {b1 b2:Bool}{l1 l2:Addr}{xs ys:Array Value}{Q:Value->Shared->Prop}(hl1:zdQ b1 s.heap l1 xs)(hl2:zdQ b2 s.heap l2 ys)
 (h:∀ h',IsZip h' (s.heap.objs.size+4) (s.heap.objs.size+2) (s.heap.objs.size+3) .none->IsPair h' (s.heap.objs.size+2) (.ref s.heap.objs.size) (.ref (s.heap.objs.size+1)) ->
  IsPair h' (s.heap.objs.size+3) .none .none->zaq b1 h' s.heap.objs.size l1 0->zaq b2 h' (s.heap.objs.size+1) l2 0 ->
  (∀ c o,s.heap.get? c=some o->h'.get? c=some o)->Q (.ref (s.heap.objs.size+4)) { s with heap:=h' }) :
 wpAny (model prog w) A (call (.type "zip") [.ref l1,.ref l2]) Q E s:=by
 refine callType_new F.called_zip (by decide) (F.typeCall_zip_2 _ _) (F.newCall_zip_2 _ _) (λobj=>F.args_object_init_3 obj _ _) F.entry_zip_new
  (zci b1 b2 l1 l2 xs ys) ⟨hl1,hl2,?_⟩
 have z1:(zpA s.heap b1 l1).objs.size=s.heap.objs.size+1:=u0H ..
 have z2:(zpB s.heap b1 b2 l1 l2).objs.size=s.heap.objs.size+2:=by rw[u0H,z1]
 have z3:(zpC s.heap b1 b2 l1 l2).objs.size=s.heap.objs.size+3:=by rw[u0H,z2]
 have z4:(zpD s.heap b1 b2 l1 l2).objs.size=s.heap.objs.size+4:=by rw[u0H,z3]
 have g5:(zpE s.heap b1 b2 l1 l2).get? (zpD s.heap b1 b2 l1 l2).objs.size=some _:=r9 _ rfl
 have g4:(zpE s.heap b1 b2 l1 l2).get? (zpC s.heap b1 b2 l1 l2).objs.size=some _:=u5 _ (r9 _ rfl)
 have g3:(zpE s.heap b1 b2 l1 l2).get? (zpB s.heap b1 b2 l1 l2).objs.size=some _:=u5 _ (u5 _ (r9 _ rfl))
 have g2:(zpE s.heap b1 b2 l1 l2).get? (zpA s.heap b1 l1).objs.size=some (zeQ b2 l2):=u5 _ (u5 _ (u5 _ (r9 _ rfl)))
 have g1:(zpE s.heap b1 b2 l1 l2).get? s.heap.objs.size=some (zeQ b1 l1):=u5 _ (u5 _ (u5 _ (u5 _ (r9 _ rfl))))
 show _/\_
 rw[z2,z3,z4]at g5
 rw[z1,z2]at g3
 rw[z3]at g4
 rw[z1]at g2
 rw[z4]
 have it0:∀ {b:Bool} {l c:Addr},(zpE s.heap b1 b2 l1 l2).get? c=some (zeQ b l)->zaq b (zpE s.heap b1 b2 l1 l2) c l 0:=λ{b l c} e=>by
  cases b
  .exact⟨_,e,rfl,rfl⟩
  .exact⟨_,e,rfl,rfl⟩
 exact⟨⟨_,g5,rfl⟩,h _ g5 g3 g4 (it0 g1) (it0 g2) λc o x =>
  u5 _ (u5 _ (u5 _ (u5 _ (u5 _ x))))⟩
variable {z TI TO i1 i2:Addr}{fp1 fp2:List Addr}{n1 n2 k1 k2:Nat}{P1 P2:Nat->Value->Prop}{St1 St2:Nat->Heap->Prop}{a b:Value}
theorem Zf {Q:Option Value->Shared->Prop}(D1:Draws prog w A.in1 i1 fp1 n1 P1 St1)(D2:Draws prog w A.in1 i2 fp2 n2 P2 St2)(ap:zir z TI TO i1 i2 fp1 fp2)
 (hz:IsZip s.heap z TI TO .none) (hTI:IsPair s.heap TI (.ref i1) (.ref i2)) (hTO:IsPair s.heap TO a b) (h1:St1 k1 s.heap) (h2:St2 k2 s.heap) (l1:k1 < n1) (l2:k2 < n2)
 (hQ:∀ x y h' tk,P1 k1 x->P2 k2 y->IsZip h' z TI TO (rawInt s.heap.objs.size)->IsPair h' TO x y->St1 (k1+1) h'->St2 (k2+1) h'->IsPair h' s.heap.objs.size x y ->
  (∀ c o,c∉[z,TO,i1,i2]->s.heap.get? c=some o->h'.get? c=some o)->Q (some (.ref s.heap.objs.size)) { s with heap:=h',toks:=tk }) :
 wpAny (model prog w) A (pyNext (.ref z)) Q E s:=by
 have hT:s.TypeIs (.ref z) "zip":=⟨_,hz,rfl⟩
 unfold pyNext
 exact u0 (u1m (u0m (name:=Str.ofString "__next__") hT u2N
  (u0B u2N hT F.entry_zip_next
   (zbq D1 D2 ap hz hTI hTO h1 h2 l1 l2 λx y h' tk a1 a2 a3 a4 a5 a6 a7 a8=>u8 (hQ x y h' tk a1 a2 a3 a4 a5 a6 a7 a8)) (F.args_zip_next_1 _))))
theorem ZE {Q:Option Value->Shared->Prop}(D1:Draws prog w A.in1 i1 fp1 n1 P1 St1)(az1:z∉fp1)(nz:i1≠z)
 (hz:IsZip s.heap z TI TO .none) (hTI:IsPair s.heap TI (.ref i1) (.ref i2)) (h1:St1 n1 s.heap)
 (hQ:∀ h',(∀ c o,c≠z->c≠i1->s.heap.get? c=some o->h'.get? c=some o)->Q none { s with heap:=h' }):wpAny (model prog w) A (pyNext (.ref z)) Q E s:=by
 have hT:s.TypeIs (.ref z) "zip":=⟨_,hz,rfl⟩
 unfold pyNext
 refine u0 (u1m (u0m (name:=Str.ofString "__next__") hT u2N
  (u0B u2N hT F.entry_zip_next (zb8 D1 az1 nz hz hTI h1 λh' e hk he=>?_) (F.args_zip_next_1 _))))
 obtain⟨o,ho,hc⟩:=he
 refine u0 (wpAny_isInstance (T:="StopIteration") (b:=true) ⟨o,ho,hc⟩ isSubtype_stop ?_)
 exact u8 (hQ _ hk)
end
end PySem
namespace L2
open PySem PySem.Spec PyProof.Rows
def Sq (b:Bool)(K:W.Frag)(H:Hp)(a:Addr)(xs:List V):Prop:=if b=true then SqL K H a xs else SqT K H a xs
theorem Inv.sq {X:Cx}{pins:List (Addr × Obj)}{σ:St}{H:Hp}{s:Shared}{a:Addr}{xs:List V}{b:Bool}(I:Inv X pins σ H s)(h:Sq b X.K H a xs):∃ its:List Value,yl xs its/\zdQ b s.heap a its.toArray/\a < s.heap.objs.size:=by
 cases b with
 | true =>
  obtain⟨its,r,p,_⟩:=I.list (show SqL X.K H a xs from h)
  exact⟨its,r,p.isList,by obtain⟨o,n,ho,_⟩:=p;exact j5 ho⟩
 | false =>
  obtain⟨its,r,p,_⟩:=I.tuple (show SqT X.K H a xs from h)
  exact⟨its,r,p,by obtain⟨o,ho,_⟩:=p;exact j5 ho⟩
theorem Inv.sq_inj {X:Cx}{pins:List (Addr × Obj)}{σ:St}{H:Hp}{s:Shared}{a:Addr}{xs ys:List V}{b:Bool}(I:Inv X pins σ H s)(h:Sq b X.K H a xs)(h':Sq b X.K H a ys):xs=ys:=by
 cases b with
 | true=>exact I.list_inj h h'
 | false=>exact I.tuple_inj h h'
def Izp (K:W.Frag)(b1 b2:Bool)(l1 l2:Addr):It :=
 ⟨λi H=>∃ xs ys x y,Sq b1 K H l1 xs/\Sq b2 K H l2 ys/\xs[i]?=some x/\ys[i]?=some y,
  λi H v H'=>∃ T x y,v=.ref T/\H T=none/\H'=upd H T (.tup [x,y])/\(∀ xs,Sq b1 K H l1 xs->xs[i]?=some x)/\(∀ ys,Sq b2 K H l2 ys->ys[i]?=some y),
  λi H=>∃ xs,Sq b1 K H l1 xs/\i=xs.length⟩
theorem Z4 {b:Bool}{h:Heap}{it l:Addr}{k:Nat}(x:zaq b h it l k):∃ o,h.get? it=some o/\∀ v,o.data≠.cell v:=by
 cases b
 .obtain⟨o,ho,_,hd⟩:=x
  exact⟨o,ho,λv z=>by rw[hd]at z;cases z⟩
 .obtain⟨o,ho,_,hd⟩:=x
  exact⟨o,ho,λv z=>by rw[hd]at z;cases z⟩
theorem XT {b:Bool}{h h':Heap}{it l:Addr}{k:Nat}(x:zaq b h it l k)(e:∀ o,h.get? it=some o->h'.get? it=some o):zaq b h' it l k:=by
 cases b
 .obtain⟨o,ho,r⟩:=x
  exact⟨o,e o ho,r⟩
 .obtain⟨o,ho,r⟩:=x
  exact⟨o,e o ho,r⟩
theorem ziw {P:Program}{w:World}{K:W.Frag}{es:List Expr}{k:Nat}{tp:Pos}(b1 b2:Bool)(l1 l2 z TI TO i1 i2:Addr)(ap:zir z TI TO i1 i2 [i1,l1] [i2,l2])(n1:l1≠i1)(n2:l2≠i2) :
 ziY P w K (.Tuple es k tp) (Izp K b1 b2 l1 l2) [z,TI,TO,i1,i2] z (λi h=>IsZip h z TI TO .none/\IsPair h TI (.ref i1) (.ref i2)/\(∃ a b,IsPair h TO a b)/\zaq b1 h i1 l1 i/\zaq b2 h i2 l2 i) where
 mem:=by simp
 obj:=λi h st b hb=>by
  obtain⟨hz,hTI,⟨a,c,hTO⟩,h1,h2⟩:=st
  simp only[j7,i5,u1l]at hb
  rcases hb with rfl | rfl | rfl | rfl | rfl
  .exact⟨_,hz,λv z=>by cases z⟩
  .exact⟨_,hTI,λv z=>by cases z⟩
  .exact⟨_,hTO,λv z=>by cases z⟩
  .exact Z4 h1
  .exact Z4 h2
 keep:=λi h h' st kk=>by
  obtain⟨hz,hTI,⟨a,c,hTO⟩,h1,h2⟩:=st
  exact⟨kk z (by simp) _ hz,kk TI (by simp) _ hTI,⟨a,c,kk TO (by simp) _ hTO⟩,XT h1 λo q=>kk i1 (by simp) o q,XT h2 λo q=>kk i2 (by simp) o q⟩
 item:=by
  intro X hP hw hK hc i pins s σ H E I hf st hg
  subst hP hw hK
  obtain⟨hz,hTI,⟨a,c,hTO⟩,h1,h2⟩:=st
  obtain⟨xs,ys,x,y,hq1,hq2,hx,hy⟩:=hg
  obtain⟨its,rv,p,_⟩:=I.sq hq1
  obtain⟨its2,rv2,p2,_⟩:=I.sq hq2
  obtain⟨u,hu,ru⟩:=rv.get hx
  obtain⟨u2,hu2,ru2⟩:=rv2.get hy
  have hl1:i < its.toArray.size:=by simpa using (t7.mp hu).1
  have hl2:i < its2.toArray.size:=by simpa using (t7.mp hu2).1
  have hh:X.A.in1.handled=none:=I.ok.hd hc
  refine Zf (WL hh b1 i1 l1 n1 its.toArray) (WL hh b2 i2 l2 n2 its2.toArray) ap hz hTI hTO ⟨h1,p⟩ ⟨h2,p2⟩ hl1 hl2 λv1 v2 h' tk e1 e2 hz' hTO' s1 s2 hT' hk=>?_
  have eu:v1=u:=by
   have:its[i]?=some v1:=by simpa using e1
   rw[hu]at this
   exact(p9 this).symm
  have eu2:v2=u2:=by
   have:its2[i]?=some v2:=by simpa using e2
   rw[hu2]at this
   exact(p9 this).symm
  subst eu eu2
  obtain⟨nd,az1,az2,ao1,ao2,a12,a21⟩:=ap
  simp only[u1e,j7,i5,u1l,u3W,u2p,u2t,and_true]at nd
  obtain⟨⟨m1,m2,m3,m4⟩,⟨m5,m6,m7⟩,⟨m8,m9⟩,m10⟩:=nd
  refine⟨_,rfl,wpAny_letOwnedTupleGo_zip hz' λh2' hz2 hs2=>?_⟩
  have hfr:H s.heap.objs.size=none:=I.hok.fresh (q5 _)
  have neZ:s.heap.objs.size≠z:=u17 (j5 hz)
  have hT2:IsPair h2' s.heap.objs.size v1 v2:=(hs2.2 _ neZ).trans hT'
  have hTI':IsPair h' TI (.ref i1) (.ref i2):=hk TI _ (by simp[u03 m1,m5,m6,m7]) hTI
  have lt:∀ b∈[z,TI,TO,i1,i2],b < s.heap.objs.size:=λb hb=>by
   simp only[j7,i5,u1l]at hb
   rcases hb with rfl | rfl | rfl | rfl | rfl
   .exact j5 hz
   .exact j5 hTI
   .exact j5 hTO
   .obtain⟨o,ho,_⟩:=Z4 h1;exact j5 ho
   .obtain⟨o,ho,_⟩:=Z4 h2;exact j5 ho
  refine⟨.ref s.heap.objs.size,upd H s.heap.objs.size (.tup [x,y]),?_,rfl,⟨_,x,y,rfl,hfr,rfl,λzs hz=>by rw[I.sq_inj hz hq1];exact hx,λzs hz=>by rw[I.sq_inj hz hq2];exact hy⟩,
   ⟨hz2,(hs2.2 TI (u03 m1)).trans hTI',⟨_,_,(hs2.2 TO (u03 m2)).trans hTO'⟩,XT s1.1 λo q=>(hs2.2 i1 (u03 m3)).trans q,XT s2.1 λo q=>(hs2.2 i2 (u03 m4)).trans q⟩,λb hb=>?_⟩
  .refine I.grown (ch:=[z,TI,TO,i1,i2]) hf (q5 _) (λb v hb q=>?_) ?_
   .have nb:b≠z:=λw=>hb (by simp[w])
    refine(hs2.2 b nb).trans (hk b v (λw=>hb ?_) q)
    simp only[j7,i5,u1l]at w ⊢
    rcases w with w | w | w | w
    .exact .inl w
    .exact .inr (.inr (.inl w))
    .exact .inr (.inr (.inr (.inl w)))
    .exact .inr (.inr (.inr (.inr w)))
   .exact⟨by show 2<=sizeLine;decide,[v1,v2],.cons ru (.cons ru2 .nil),⟨_,hT2,rfl,0,rfl⟩⟩
  .rw[zk (d9 (lt b hb))]
   exact(hf b hb).1
 done:=by
  intro X hP hw hK hc i pins s σ H E I hf st hg
  subst hP hw hK
  obtain⟨hz,hTI,⟨a,c,hTO⟩,h1,h2⟩:=st
  obtain⟨xs,hq,rfl⟩:=hg
  obtain⟨its,rv,p,_⟩:=I.sq hq
  have hl:=rv.length
  have hh:X.A.in1.handled=none:=I.ok.hd hc
  have D:=WL (prog:=X.prog) (w:=X.w) hh b1 i1 l1 n1 its.toArray
  refine ZE D ap.z1 ?_ hz hTI ⟨by rw[j3,<- hl];exact h1,p⟩ λh' hk=>⟨rfl,I.turnedN (ch:=[z,TI,TO,i1,i2]) (t':=s.toks) hf λb v hb q=>hk b v (λw=>hb (by simp[w])) (λw=>hb (by simp[w])) q⟩
  have nd:=ap.nd
  simp only[u1e,j7,i5,u1l,u3W,u2p,u2t,and_true]at nd
  exact u03 nd.1.2.2.1
 self:=λ_ _ _ _ _ st h=>wpAny_pyIter_zip st.1 h
def iZip (K:W.Frag)(ta:TA):TI:=fun σ H R=>ta σ H λvs H1=>∃ b1 b2 l1 l2 xs ys,vs=[.ref l1,.ref l2]/\Sq b1 K H1 l1 xs/\Sq b2 K H1 l2 ys/\R (Izp K b1 b2 l1 l2) H1
theorem zmf {X:Cx} {es:List Expr} {k:Nat} {tp:Pos} {a b:Expr} {ta:TA} {p pos:Pos} (hg:Gl X "zip") (hm:X.mg "zip"=none) (hb:bootBuiltins "zip"=some (.type "zip")) (ha:PA X [a,b] ta)
 (hs:starEach [a,b] X.env=[(false,eval a X.env),(false,eval b X.env)]:=by rfl) (hs2:starEach [b] X.env=[(false,eval b X.env)]:=by rfl):PI X (.Tuple es k tp) (.Call (.Name "zip" p) [a,b] [] pos) (iZip X.K ta):=by
 intro pins s σ H R I h
 refine Call_ (Wo I hg hm hb (u0V (thn (ha pos pins s σ H _ I h) λus s1 hh9=>?_) (by rw[hs,hs2]) (by rw[hs2];rfl)))
 obtain⟨vs,H1,I1,r1,q1⟩:=hh9
 obtain⟨b1,b2,l1,l2,xs,ys,e,hq1,hq2,q⟩:=q1
 subst e
 obtain⟨u,u2,rfl,ru,ru2⟩:=zdN r1
 cases ru
 cases ru2
 obtain⟨its,rv,p1,lt1⟩:=I1.sq hq1
 obtain⟨its2,rv2,p2,lt2⟩:=I1.sq hq2
 refine zaH p1 p2 λh2 hz hTI hTO hi1 hi2 hk=>wpAny_pyIter_zip hz ?_
 have hn:∀ b,s1.heap.objs.size<=b->zbU X pins H1 b:=λb hb=>I1.fpOk hb (I1.hok.fresh hb)
 have ap:zir (s1.heap.objs.size+4) (s1.heap.objs.size+2) (s1.heap.objs.size+3) s1.heap.objs.size (s1.heap.objs.size+1) [s1.heap.objs.size,l1] [s1.heap.objs.size+1,l2]:=by
  have q1:l1≠s1.heap.objs.size:=d9 lt1
  have q2:∀ j:Nat,s1.heap.objs.size+j≠l1:=λj e=>u0K _ (d7 (by rw[<-e]at lt1;exact lt1) (u0J _ _))
  have q3:∀ j:Nat,s1.heap.objs.size+j≠l2:=λj e=>u0K _ (d7 (by rw[<-e]at lt2;exact lt2) (u0J _ _))
  have ne:∀ i j:Nat,i≠j->s1.heap.objs.size+i≠s1.heap.objs.size+j:=λi j h e=>h (u2V e)
  have n0:∀ i:Nat,i≠0->s1.heap.objs.size+i≠s1.heap.objs.size:=λi h e=>h (u2V (n:=s1.heap.objs.size) (m:=i) (k:=0) e)
  refine⟨?_,?_,?_,?_,?_,?_,?_⟩
  .simp only[u1e,j7,i5,u1l,u3W,u2p,u2t,and_true]
   exact⟨⟨ne 4 2 (by decide),ne 4 3 (by decide),n0 4 (by decide),ne 4 1 (by decide)⟩,⟨ne 2 3 (by decide),n0 2 (by decide),ne 2 1 (by decide)⟩,⟨n0 3 (by decide),ne 3 1 (by decide)⟩,u03 (n0 1 (by decide))⟩
  .simp only[j7,i5,u1l,u3W];exact⟨n0 4 (by decide),q2 4⟩
  .simp only[j7,i5,u1l,u3W];exact⟨ne 4 1 (by decide),q3 4⟩
  .simp only[j7,i5,u1l,u3W];exact⟨n0 3 (by decide),q2 3⟩
  .simp only[j7,i5,u1l,u3W];exact⟨ne 3 1 (by decide),q3 3⟩
  .simp only[j7,i5,u1l,u3W];exact⟨u03 (n0 1 (by decide)),q3 0⟩
  .simp only[j7,i5,u1l,u3W];exact⟨n0 1 (by decide),q2 1⟩
 refine⟨_,_,_,_,H1,rfl,I1.kept (t':=s1.toks) hk,ziw b1 b2 l1 l2 _ _ _ _ _ ap (d9 lt1) (d9 (u1c lt2)),⟨hz,hTI,⟨_,_,hTO⟩,hi1,hi2⟩,λb hb=>?_,q⟩
 simp only[j7,i5,u1l]at hb
 rcases hb with rfl | rfl | rfl | rfl | rfl
 .exact hn _ (u0J _ _)
 .exact hn _ (u0J _ _)
 .exact hn _ (u0J _ _)
 .exact hn _ (q5 _)
 .exact hn _ (u0J _ _)
end L2
namespace OwnSort
open PySem PyProof.Rows
section pure
variable {κ:KeyKind}{xs:Array Keyed}
theorem turned {n:Nat}(hn:n<=xs.size)(h:NonIncK κ xs n):SortedToK κ (mirror xs 0 n ((n - 0) / 2)) n:=λi j hij hj=>by
 rw[KK_mirror hn,KK_mirror hn,t9 ⟨by omega,by omega⟩,t9 ⟨by omega,by omega⟩]
 exact h _ _ (by omega) (by omega)
end pure
abbrev Pr:=Int × Int
def bltP (s t:Pr):Bool:=decide (s.1 < t.1\/(s.1=t.1/\s.2 < t.2))
def TP (h:Heap) (v:Value) (t:Pr):Prop:=∃ a o n tx ty,v=.ref a/\h.get? a=some o/\o.cls=.type "tuple"/\o.data=.seq #[.int t.1 tx,.int t.2 ty] n
theorem TP.uniq {h:Heap}{v:Value}{s t:Pr}(x:TP h v s)(y:TP h v t):s=t:=by
 obtain⟨a,o,n,tx,ty,rfl,e1,_,d1⟩:=x
 obtain⟨b,o2,n2,ux,uy,e,e2,_,d2⟩:=y
 cases e
 rw[e1]at e2
 cases e2
 rw[d1]at d2
 injection d2 with d2 _
 have:=u05 Array.toList d2
 simp at this
 exact u3s this.1.1 this.2.1
open Classical in
noncomputable def keyP (h:Heap)(v:Value):Option Pr:=if x:∃ t,TP h v t then some x.choose else none
theorem keyP_of {h:Heap}{v:Value}{t:Pr}(x:TP h v t):keyP h v=some t:=by
 unfold keyP
 have y:∃ t,TP h v t:=⟨t,x⟩
 rw[dif_pos y,y.choose_spec.uniq x]
@[reducible] noncomputable def kindP (h:Heap):KeyKind where
 α:=Pr
 blt:=bltP
 irrefl a:=by unfold bltP;exact h9 (by omega)
 trans a b c h1 h2:=by unfold bltP at *;rw[d5]at *;omega
 negTrans a b c h:=by unfold bltP at *;rw[d5]at *;rw[d5];omega
 total a b h1 h2:=by
  unfold bltP at *
  rw[u0L]at *
  exact u3s (by omega) (by omega)
 keyOf:=keyP h
 dflt:=(0,0)
theorem zfV (b:Bool)(x y:Value):keyLt' (tuples' b) x y=(do
 let xs<-Builtin.List.listItems x
 let ys<-Builtin.List.listItems y
 for ((p,q),i)in (xs.toList.zip ys.toList).zipIdx do
  if !(<- eqBool p q)then return<-oneLt' (b&&i == 0) p q
 return xs.size < ys.size):=rfl
theorem zgG (v:Value):firstOfTuple' v=(do
 if (<- typeOf v) != .type "tuple" then return none
 return (<- Builtin.List.listItems v)[0]?):=rfl
section
variable {prog:Program}{w:World}{A:Around}{E:Value->Shared->Prop}{s:Shared}
theorem lt0 {a b:Int}{t u:Tok}{Q:Bool->Shared->Prop}(h:Q (decide (a < b)) s):wpAny (model prog w) A (oneLt' false (.int a t) (.int b u)) Q E s:=by
 rw[oneLt'_eq]
 rw[j0 u6]
 exact u0 (PyProof.Rows.lt_int (u0R h))
theorem zc2:∀ {fs:List Value},(∀ f∈fs,∃ i t,f=.int i t)->fs.mapM typeOf=pure (fs.map λ_=>Value.type "int")
 | [],_=>by simp
 | f::fs,h=>by
  obtain⟨i,t,rfl⟩:=h f e9
  rw[List.mapM_cons,zc2 λg hg=>h g (p4 _ hg),show typeOf (.int i t)=pure (.type "int")from rfl]
  simp
end
end OwnSort
namespace OwnTim
open PySem PyProof.Rows
abbrev SM:=StateT SortSt Sem
def gal:Bool->Keyed->Array Keyed->Nat->Nat->Nat->SM (Option Nat):=sortPriv% PySem.Builtin.gallop
def bey (l:Bool)(q:Keyed)(v:Array Keyed)(b i:Nat):SM (Option Bool):=do
 let x<-elem' v (b+i)
 if l then lt' x q else
  return (<- lt' q x).map (!·)
def zds (l:Bool)(q:Keyed)(v:Array Keyed)(b n x0 y0:Nat):SM (Option Nat):=do
 let mut x:=x0
 let mut y:=y0
 for _ in [0:n] do
  if x >= y then break
  let c:=x+(y - x) / 2
  let some z<-bey l q v b c | return none
  if z then x:=c+1 else y:=c
 return some y
theorem zmD (l:Bool)(q:Keyed)(v:Array Keyed)(b n t:Nat):gal l q v b n t=(do
 let some r<-bey l q v b t | return none
 let mut u:=0
 let mut o:=1
 if r then
  let w:=n - t
  for _ in [0:n] do
   if o >= w then break
   let some z<-bey l q v b (t+o) | return none
   if !z then break
   u:=o
   o:=2*o+1
  zds l q v b n (t+u+1) (t+min o w)
 else
  let w:=t+1
  for _ in [0:n] do
   if o >= w then break
   let some z<-bey l q v b (t - o) | return none
   if z then break
   u:=o
   o:=2*o+1
  zds l q v b n (t+1 - min o w) (t - u)):=rfl
section
variable {prog:Program}{w:World}{A:Around}{E:Value->Shared->Prop}{s:Shared}{st:SortSt}
theorem zgt {l:Bool}{q:Keyed}{v:Array Keyed}{b n t:Nat}{f:Nat->Bool}{P:Option Nat->SortSt->Prop}(BY:∀ i,i < n->∀ Q:Option Bool->SortSt->Prop,Q (some (f i)) st->wpS (model prog w) A E s (bey l q v b i) Q st)
 (hm:∀ i j,i<=j->j < n->f j=true->f i=true) (ht:t < n) (h:∀ k,k<=n->(∀ i,i < k->f i=true)->(∀ i,k<=i->i < n->f i=false)->P (some k) st):wpS (model prog w) A E s (gal l q v b n t) P st:=by
 have hm':∀ i j,i<=j->j < n->f i=false->f j=false:=λi j hij hj hf=>by
  cases e:f j with
  | false=>rfl
  | true=>rw[hm i j hij hj e]at hf;cases hf
 rw[zmD]
 dsimp only
 have last:∀ x y:Nat,x<=y->y<=n->(∀ i,i < x->f i=true)->(∀ i,y<=i->i < n->f i=false)->wpS (model prog w) A E s (zds l q v b n x y) P st:=λx y hxy hy h1 h2=>by
  unfold zds
  dsimp only
  refine r8 (u0N (u0G (I:=λi c t'=>t'=st/\∃ x y,c=(none,x,y)/\x<=y/\y<=n/\y - x<=n - i/\(∀ i,i < x->f i=true)/\∀ i,y<=i->i < n->f i=false) (Q:=λc t'=>t'=st/\∃ y,c=(none,y,y)/\y<=n/\(∀ i,i < y->f i=true)/\∀ i,y<=i->i < n->f i=false)
   (λi c t' _ hi hI=>?_) (λc t' hI=>?_) ⟨rfl,x,y,rfl,hxy,hy,by omega,h1,h2⟩) λc t' hI=>?_)
  .obtain⟨rfl,x,y,rfl,a1,a2,a3,a4,a5⟩:=hI
   dsimp only
   by_cases c1:x >= y
   .rw[t9 c1]
    obtain rfl:x=y:=by omega
    exact d6 ⟨rfl,x,rfl,a2,a4,a5⟩
   .rw[j0 c1]
    obtain⟨c,hc⟩:∃ c,x+(y - x) / 2=c:=⟨_,rfl⟩
    rw[hc]
    have c2:x<=c/\c < y:=by omega
    refine r8 (BY c (by omega) _ ?_)
    dsimp only
    cases e:f c with
    | true =>
     rw[t9 rfl]
     exact d6 ⟨rfl,c+1,y,rfl,by omega,a2,by omega,λj hj=>hm j c (by omega) (by omega) e,a5⟩
    | false =>
     rw[j0 u6]
     exact d6 ⟨rfl,x,c,rfl,by omega,by omega,by omega,a4,λj hj hn=>hm' c j hj hn e⟩
  .obtain⟨rfl,x,y,rfl,a1,a2,a3,a4,a5⟩:=hI
   obtain rfl:x=y:=by omega
   exact⟨rfl,x,rfl,a2,a4,a5⟩
  .obtain⟨rfl,y,rfl,a2,a4,a5⟩:=hI
   exact d6 (h y a2 a4 a5)
 refine r8 (BY t ht _ ?_)
 dsimp only
 cases e:f t with
 | true =>
  rw[t9 rfl]
  refine r8 (u0N (u0G (I:=λi c t'=>t'=st/\∃ u o,c=(none,u,o)/\t+u < n/\u+1<=o/\i+1<=o/\f (t+u)=true) (Q:=λc t'=>t'=st/\∃ u o,c=(none,u,o)/\t+u < n/\u+1<=o/\f (t+u)=true/\(n - t<=o\/(t+o < n/\f (t+o)=false)))
   (λi c t' _ hi hI=>?_) (λc t' hI=>?_) ⟨rfl,0,1,rfl,ht,by omega,by omega,e⟩) λc t' hI=>?_)
  .obtain⟨rfl,u,o,rfl,a1,a2,a3,a4⟩:=hI
   dsimp only
   by_cases c1:o >= n - t
   .rw[t9 c1]
    exact d6 ⟨rfl,u,o,rfl,a1,a2,a4,.inl c1⟩
   .rw[j0 c1]
    refine r8 (BY (t+o) (by omega) _ ?_)
    dsimp only
    cases e2:f (t+o) with
    | false=>exact d6 ⟨rfl,u,o,rfl,a1,a2,a4,.inr ⟨by omega,e2⟩⟩
    | true=>exact d6 ⟨rfl,o,2*o+1,rfl,by omega,by omega,by omega,e2⟩
  .obtain⟨rfl,u,o,rfl,a1,a2,a3,a4⟩:=hI
   exact⟨rfl,u,o,rfl,a1,a2,a4,.inl (by omega)⟩
  .obtain⟨rfl,u,o,rfl,a1,a2,a4,a5⟩:=hI
   have e3:min o (n - t)<=n - t:=u10 _ _
   have e5:u+1<=min o (n - t):=Nat.le_min.mpr ⟨a2,by omega⟩
   have e6:(min o (n - t)=n - t/\n - t<=o)\/(min o (n - t)=o/\t+o < n/\f (t+o)=false):=by
    rcases a5 with a5 | a5
    .exact .inl ⟨Nat.min_eq_right a5,a5⟩
    .exact .inr ⟨u0U (by omega),a5⟩
   dsimp only
   refine last (t+u+1) (t+min o (n - t)) (by omega) (by omega) (λi hi=>hm i (t+u) (by omega) a1 a4) λi hi hn=>?_
   rcases e6 with ⟨a5,_⟩ | ⟨a5,a6,a7⟩
   .rw[a5]at hi
    omega
   .rw[a5]at hi
    exact hm' (t+o) i hi hn a7
 | false =>
  rw[j0 u6]
  refine r8 (u0N (u0G (I:=λi c t'=>t'=st/\∃ u o,c=(none,u,o)/\u<=t/\u+1<=o/\i+1<=o/\f (t - u)=false) (Q:=λc t'=>t'=st/\∃ u o,c=(none,u,o)/\u<=t/\u+1<=o/\f (t - u)=false/\(t+1<=o\/(o<=t/\f (t - o)=true)))
   (λi c t' _ hi hI=>?_) (λc t' hI=>?_) ⟨rfl,0,1,rfl,by omega,by omega,by omega,e⟩) λc t' hI=>?_)
  .obtain⟨rfl,u,o,rfl,a1,a2,a3,a4⟩:=hI
   dsimp only
   by_cases c1:o >= t+1
   .rw[t9 c1]
    exact d6 ⟨rfl,u,o,rfl,a1,a2,a4,.inl c1⟩
   .rw[j0 c1]
    refine r8 (BY (t - o) (by omega) _ ?_)
    dsimp only
    cases e2:f (t - o) with
    | true=>exact d6 ⟨rfl,u,o,rfl,a1,a2,a4,.inr ⟨by omega,e2⟩⟩
    | false=>exact d6 ⟨rfl,o,2*o+1,rfl,by omega,by omega,by omega,e2⟩
  .obtain⟨rfl,u,o,rfl,a1,a2,a3,a4⟩:=hI
   exact⟨rfl,u,o,rfl,a1,a2,a4,.inl (by omega)⟩
  .obtain⟨rfl,u,o,rfl,a1,a2,a4,a5⟩:=hI
   have e3:min o (t+1)<=t+1:=u10 _ _
   have e5:u+1<=min o (t+1):=Nat.le_min.mpr ⟨a2,by omega⟩
   have e6:min o (t+1)=t+1\/(min o (t+1)=o/\o<=t/\f (t - o)=true):=by
    rcases a5 with a5 | a5
    .exact .inl (Nat.min_eq_right a5)
    .exact .inr ⟨u0U (by omega),a5⟩
   dsimp only
   refine last (t+1 - min o (t+1)) (t - u) (by omega) (by omega) (λi hi=>?_) λi hi hn=>hm' (t - u) i hi hn a4
   rcases e6 with a5 | ⟨a5,a6,a7⟩
   .rw[a5]at hi
    omega
   .rw[a5]at hi
    exact hm i (t - o) (by omega) (by omega) a7
end
structure WI {α:Type} (R:α->α->Prop) (xs ys o:List α) (i j:Nat):Prop where
 pi:i<=xs.length
 pj:j<=ys.length
 pm:o.Perm (xs.take i++ys.take j)
 so:o.Pairwise R
 bx:∀ z∈o,∀ x∈xs.drop i,R z x
 by_:∀ z∈o,∀ y∈ys.drop j,R z y
section
variable {α:Type}{R:α->α->Prop}{xs ys o:List α}{i j k:Nat}
theorem WI.swap (w:WI R xs ys o i j):WI R ys xs o j i:=⟨w.pj,w.pi,w.pm.trans u1k,w.so,w.by_,w.bx⟩
theorem WI.runA (w:WI R xs ys o i j)(sx:xs.Pairwise R)(hk:i+k<=xs.length)(h:∀ x∈(xs.drop i).take k,∀ y∈ys.drop j,R x y):WI R xs ys (o++(xs.drop i).take k) (i+k) j:=by
 have hs:(xs.drop i).Pairwise R:=sx.sublist (u0Z _ _)
 have hd:xs.drop (i+k)=(xs.drop i).drop k:=by rw[u04]
 refine⟨hk,w.pj,?_,?_,λz hz x hx=>?_,λz hz y hy=>?_⟩
 .rw[List.take_add]
  refine(w.pm.append_right _).trans ?_
  rw[b9,b9]
  exact List.Perm.append_left _ u1k
 .rw[u0D]
  exact⟨w.so,hs.sublist (u1u _ _),λa ha b hb=>w.bx a ha b (u0k hb)⟩
 .rw[hd]at hx
  rcases o0.mp hz with hz | hz
  .exact w.bx z hz x (u0b hx)
  .have e:=i6 k (xs.drop i)
   rw[<-e,u0D]at hs
   exact hs.2.2 z hz x hx
 .rcases o0.mp hz with hz | hz
  .exact w.by_ z hz y hy
  .exact h z hz y hy
theorem WI.runB (w:WI R xs ys o i j)(sy:ys.Pairwise R)(hk:j+k<=ys.length)(h:∀ y∈(ys.drop j).take k,∀ x∈xs.drop i,R y x):WI R xs ys (o++(ys.drop j).take k) i (j+k):=(w.swap.runA sy hk h).swap
theorem zmW {l:List α}{x:α}{i:Nat}(h:l[i]?=some x):(l.drop i).take 1=[x]:=by
 obtain⟨hi,rfl⟩:=t7.mp h
 rw[u0o hi]
 rfl
theorem WI.pushA {x:α}(w:WI R xs ys o i j)(sx:xs.Pairwise R)(hx:xs[i]?=some x)(h:∀ y∈ys.drop j,R x y):WI R xs ys (o++[x]) (i+1) j:=by
 have hi:=(t7.mp hx).1
 have:=w.runA (k:=1) sx (by omega) (by rw[zmW hx];intro z hz y hy;rw[j9.mp hz];exact h y hy)
 rw[zmW hx]at this
 exact this
theorem WI.pushB {y:α}(w:WI R xs ys o i j)(sy:ys.Pairwise R)(hy:ys[j]?=some y)(h:∀ x∈xs.drop i,R y x):WI R xs ys (o++[y]) i (j+1):=(w.swap.pushA sy hy h).swap
theorem WI.done (w:WI R xs ys o i j)(sx:xs.Pairwise R)(sy:ys.Pairwise R)(h:∀ x∈xs.drop i,∀ y∈ys.drop j,R x y):(o++xs.drop i++ys.drop j).Perm (xs++ys)/\(o++xs.drop i++ys.drop j).Pairwise R:=by
 constructor
 .have e1:=i6 i xs
  have e2:=i6 j ys
  have p:(o++xs.drop i++ys.drop j).Perm (xs.take i++ys.take j++xs.drop i++ys.drop j):=(w.pm.append_right _).append_right _
  refine p.trans ?_
  have q:(xs.take i++ys.take j++xs.drop i++ys.drop j).Perm (xs.take i++xs.drop i++(ys.take j++ys.drop j)):=by
   rw[b9 (xs.take i),b9 (xs.take i),b9 (xs.take i)]
   refine List.Perm.append_left _ ?_
   rw[<-b9]
   exact u1k.append_right _
  rw[e1,e2]at q
  exact q
 .rw[u0D,u0D]
  refine⟨⟨w.so,sx.sublist (u0Z _ _),w.bx⟩,sy.sublist (u0Z _ _),λa ha b hb=>?_⟩
  rcases o0.mp ha with ha | ha
  .exact w.by_ a ha b hb
  .exact h a ha b hb
theorem X9 (hr:∀ a:α,R a a)(sx:xs.Pairwise R){x:α}(hx:xs[i]?=some x):∀ z∈xs.drop i,R x z:=by
 obtain⟨hi,rfl⟩:=t7.mp hx
 intro z hz
 have hs:(xs.drop i).Pairwise R:=sx.sublist (u0Z _ _)
 rw[u0o hi]at hs hz
 rcases j7.mp hz with rfl | hz
 .exact hr _
 .exact(u0T.mp hs).1 z hz
end
def mlo:Array Keyed->Array Keyed->SM (Array Keyed):=sortPriv% PySem.Builtin.mergeLo
def zbN:Nat->SM Unit:=sortPriv% PySem.Builtin.setMinGallop
theorem zhh (g:Nat):zbN g=modify λs=>SortSt.mk' (kindOf s) (arrOf s) (pendingOf s) g (failedOf s):=rfl
abbrev KA:=Array Keyed
abbrev Z1:=Option KA × KA × Nat × Nat × Nat × Nat
abbrev Z2:=Option KA × KA × Nat × Nat × Nat × Nat × Nat
abbrev Z3:=Option KA × KA × Nat × Nat × Nat
abbrev dn (v u o:KA)(i j:Nat):KA:=o++v.extract i v.size++u.extract j u.size
abbrev ls (v u o:KA)(i j:Nat):KA:=o++u.extract j u.size++v.extract i v.size
def znj (v u:KA)(g:Nat)(z:Z1):SM (ForInStep Z1):=do
 let e<-elem' u z.2.2.2.1
 let f<-elem' v z.2.2.1
 let some b<-lt' e f | pure (.done (some (dn v u z.2.1 z.2.2.1 z.2.2.2.1),z.2.1,z.2.2.1,z.2.2.2.1,z.2.2.2.2.1,z.2.2.2.2.2))
 if b=true then do
  let e<-elem' u z.2.2.2.1
  if (z.2.2.2.1+1 == u.size)=true then pure (.done (some (dn v u (z.2.1.push e) z.2.2.1 (z.2.2.2.1+1)),z.2.1.push e,z.2.2.1,z.2.2.2.1+1,0,z.2.2.2.2.2+1))
  else if z.2.2.2.2.2+1 >= g then pure (.done (none,z.2.1.push e,z.2.2.1,z.2.2.2.1+1,0,z.2.2.2.2.2+1))
  else pure (.yield (none,z.2.1.push e,z.2.2.1,z.2.2.2.1+1,0,z.2.2.2.2.2+1))
 else do
  let f<-elem' v z.2.2.1
  if (z.2.2.1+1+1 == v.size)=true then pure (.done (some (ls v u (z.2.1.push f) (z.2.2.1+1) z.2.2.2.1),z.2.1.push f,z.2.2.1+1,z.2.2.2.1,z.2.2.2.2.1+1,0))
  else if z.2.2.2.2.1+1 >= g then pure (.done (none,z.2.1.push f,z.2.2.1+1,z.2.2.2.1,z.2.2.2.2.1+1,0))
  else pure (.yield (none,z.2.1.push f,z.2.2.1+1,z.2.2.2.1,z.2.2.2.2.1+1,0))
def loC (v u o:KA)(i j g c d:Nat):SM (ForInStep Z2):=do
 let f<-elem' v i
 if (i+1+1 == v.size)=true then pure (.done (some (ls v u (o.push f) (i+1) j),o.push f,i+1,j,g,c,d))
 else if (decide (c < 7)&&decide (d < 7))=true then pure (.done (none,o.push f,i+1,j,g,c,d))
 else pure (.yield (none,o.push f,i+1,j,g,c,d))
def loB (v u o:KA)(i j g c d:Nat):SM (ForInStep Z2):=do
 let e<-elem' u j
 if (j+1 == u.size)=true then pure (.done (some (dn v u (o.push e) i (j+1)),o.push e,i,j+1,g,c,d))
 else do
  let f<-elem' v i
  let some k<-gal true f u (j+1) (u.size - (j+1)) 0 | pure (.done (some (dn v u (o.push e) i (j+1)),o.push e,i,j+1,g,c,d))
  if k > 0 then
   if (j+1+k == u.size)=true then pure (.done (some (dn v u (o.push e++u.extract (j+1) (j+1+k)) i (j+1+k)),o.push e++u.extract (j+1) (j+1+k),i,j+1+k,g,c,k))
   else loC v u (o.push e++u.extract (j+1) (j+1+k)) i (j+1+k) g c k
  else loC v u (o.push e) i (j+1) g c k
def loA (v u o:KA)(i j g c d:Nat):SM (ForInStep Z2):=do
 zbN g
 let e<-elem' u j
 let some k<-gal false e v i (v.size - i) 0 | pure (.done (some (dn v u o i j),o,i,j,g,c,d))
 if k > 0 then
  if (i+k+1 == v.size)=true then pure (.done (some (ls v u (o++v.extract i (i+k)) (i+k) j),o++v.extract i (i+k),i+k,j,g,k,d))
  else if (i+k == v.size)=true then pure (.done (some (dn v u (o++v.extract i (i+k)) (i+k) j),o++v.extract i (i+k),i+k,j,g,k,d))
  else loB v u (o++v.extract i (i+k)) (i+k) j g k d
 else loB v u o i j g k d
def zm2 (v u:KA)(z:Z2):SM (ForInStep Z2) :=
 if z.2.2.2.2.1 > 1 then loA v u z.2.1 z.2.2.1 z.2.2.2.1 (z.2.2.2.2.1 - 1) z.2.2.2.2.2.1 z.2.2.2.2.2.2
 else loA v u z.2.1 z.2.2.1 z.2.2.2.1 z.2.2.2.2.1 z.2.2.2.2.2.1 z.2.2.2.2.2.2
def zm7 (v u:KA)(z:Z3):SM (ForInStep Z3):=do
 let y<-forIn [0:v.size+u.size] ((none,z.2.1,z.2.2.1,z.2.2.2.1,0,0):Z1) λ_ q=>znj v u z.2.2.2.2 q
 match y.1 with
 | some r=>pure (.done (some r,y.2.1,y.2.2.1,y.2.2.2.1,z.2.2.2.2))
 | none=>do
  rule "list.sort.gallop"
  let x<-forIn [0:v.size+u.size] ((none,y.2.1,y.2.2.1,y.2.2.2.1,z.2.2.2.2+1,y.2.2.2.2.1,y.2.2.2.2.2):Z2) λ_ q=>zm2 v u q
  match x.1 with
  | some r=>pure (.done (some r,x.2.1,x.2.2.1,x.2.2.2.1,x.2.2.2.2.1))
  | none=>do
   zbN (x.2.2.2.2.1+1)
   pure (.yield (none,x.2.1,x.2.2.1,x.2.2.2.1,x.2.2.2.2.1+1))
theorem zmm (v u:KA):mlo v u=(do
 rule "list.sort.merge-lo"
 let e<-elem' u 0
 if (1 == u.size)=true then pure (dn v u #[e] 0 1)
 else if (0+1 == v.size)=true then pure (ls v u #[e] 0 1)
 else do
  let g<-get
  let z<-forIn [0:v.size+u.size] ((none,#[e],0,1,gallopOf g):Z3) λ_ q=>zm7 v u q
  match z.1 with
  | some r=>pure r
  | none=>(unsupported ("internal:list.sort.merge-bound"))):=by
 show @bind SM _ _ _ _ _=_
 dsimp only[zm7,zm2,loA,loB,loC,znj,elem',lt',gal,zbN,gallopOf]
 congr 1;funext _;congr 1;funext e
 congr 1;congr 1;congr 1;funext g;congr 1
 .congr 1;funext _ z;congr 1
  funext x
  obtain⟨r,x⟩:=x
  cases r with
  | some r=>rfl
  | none =>
   dsimp only
   congr 1;funext _;congr 1
   funext y;obtain⟨r,y⟩:=y;cases r <;> rfl
 .funext y;obtain⟨r,y⟩:=y;cases r <;> rfl
def ky (κ:KeyKind)(x:Keyed):κ.α:=(κ.keyOf x.1).getD κ.dflt
def LE (κ:KeyKind)(x y:Keyed):Prop:=κ.kle (ky κ x) (ky κ y)
theorem LE.refl {κ:KeyKind}(x:Keyed):LE κ x x:=u1d _
theorem LE.trans {κ:KeyKind}{x y z:Keyed}(h:LE κ x y)(h2:LE κ y z):LE κ x z:=u1Z h h2
def LtE (prog:Program)(w:World)(A:Around)(E:Value->Shared->Prop)(s:Shared)(κ:KeyKind)(k:SortKind)(D:Keyed->Prop):Prop :=
 ∀ (st:SortSt) (x y:Keyed) (Q:Option Bool->SortSt->Prop),kindOf st=k->D x->D y->Q (some (κ.blt (ky κ x) (ky κ y))) st->wpS (model prog w) A E s (lt' x y) Q st
structure Sm (st t:SortSt):Prop where
 kd:kindOf t=kindOf st
 ar:arrOf t=arrOf st
 pd:pendingOf t=pendingOf st
 fl:failedOf t=failedOf st
theorem Sm.refl (st:SortSt):Sm st st:=⟨rfl,rfl,rfl,rfl⟩
theorem Sm.trans {a b c:SortSt}(h:Sm a b)(h2:Sm b c):Sm a c:=⟨h2.kd.trans h.kd,h2.ar.trans h.ar,h2.pd.trans h.pd,h2.fl.trans h.fl⟩
section
variable {prog:Program}{w:World}{A:Around}{E:Value->Shared->Prop}{s:Shared}{st:SortSt}{κ:KeyKind}{k:SortKind}{D:Keyed->Prop}
theorem zF {v:KA}{i:Nat}{x:Keyed}{Q:Keyed->SortSt->Prop}(h:v.toList[i]?=some x)(q:Q x st):wpS (model prog w) A E s (elem' v i) Q st:=by
 rw[elem'_eq,show v[i]?=some x by rw[<-h];simp]
 exact d6 q
theorem ZV {g:Nat}{Q:Unit->SortSt->Prop}(h:∀ t,Sm st t->Q () t):wpS (model prog w) A E s (zbN g) Q st:=by
 rw[zhh]
 exact u2L (h _ ⟨rfl,rfl,rfl,rfl⟩)
theorem Z8 {xs:List Keyed}{b n i:Nat}(hi:i < n)(hn:b+n<=xs.length):∃ x,xs[b+i]?=some x/\((xs.drop b).take n)[i]?=some x:=by
 have:b+i < xs.length:=by omega
 refine⟨xs[b+i],j6 this,?_⟩
 rw[u0j hi,u1j,j6 this]
theorem vX {α:Type}{l:List α}{k:Nat}{x:α}(h:x∈l.take k):∃ i,i < k/\l[i]?=some x:=by
 obtain⟨i,hi⟩:=List.mem_iff_getElem?.mp h
 by_cases c:i < k
 .exact⟨i,c,by rw[<-hi,u0j c]⟩
 .rw[u06 (by rw[p5];omega)]at hi
  cases hi
theorem Zk {α:Type}{l:List α}{k:Nat}{x:α}(h:x∈l.drop k):∃ i,k<=i/\l[i]?=some x:=by
 obtain⟨i,hi⟩:=List.mem_iff_getElem?.mp h
 rw[u1j]at hi
 exact⟨k+i,by omega,hi⟩
theorem V5 {l:List Keyed}(sx:l.Pairwise (LE κ)){i j:Nat}{x y:Keyed}(hij:i<=j)(hx:l[i]?=some x)(hy:l[j]?=some y):LE κ x y:=by
 by_cases e:i=j
 .subst e
  rw[hx]at hy
  cases hy
  exact LE.refl _
 .obtain⟨h1,rfl⟩:=t7.mp hx
  obtain⟨h2,rfl⟩:=t7.mp hy
  exact u1X.mp sx i j h1 h2 (by omega)
theorem zai {q:Keyed}{v:KA}{b n t:Nat}{P:Option Nat->SortSt->Prop}(L:LtE prog w A E s κ k D)(hk:kindOf st=k)(hq:D q)(hd:∀ x∈(v.toList.drop b).take n,D x)(hn:b+n<=v.toList.length)(ht:t < n)(sx:((v.toList.drop b).take n).Pairwise (LE κ))
 (h:∀ m,m<=n->(∀ x∈((v.toList.drop b).take n).take m,LE κ x q)->(∀ x∈((v.toList.drop b).take n).drop m,κ.klt (ky κ q) (ky κ x))->P (some m) st):wpS (model prog w) A E s (gal false q v b n t) P st:=by
 let f:Nat->Bool:=λi=>match ((v.toList.drop b).take n)[i]? with
  | some x=>!(κ.blt (ky κ q) (ky κ x))
  | none=>false
 have fx:∀ {i x},((v.toList.drop b).take n)[i]?=some x->f i=!(κ.blt (ky κ q) (ky κ x)):=λ{i x} e=>by show(match ((v.toList.drop b).take n)[i]? with | some x=>!(κ.blt (ky κ q) (ky κ x)) | none=>false)=_;rw[e]
 refine zgt (f:=f) (λi hi Q hQ=>?_) (λi j hij hj hf=>?_) ht λm hm h1 h2=>h m hm (λx hx=>?_) λx hx=>?_
 .obtain⟨x,e1,e2⟩:=Z8 hi hn
  rw[fx e2]at hQ
  unfold bey
  refine r8 (zF e1 ?_)
  rw[j0 u6]
  exact r8 (L _ _ _ _ hk hq (hd x (j4 e2)) (d6 hQ))
 .obtain⟨x,_,e1⟩:=Z8 (i:=i) (by omega) hn
  obtain⟨y,_,e2⟩:=Z8 hj hn
  rw[fx e2,u1Q]at hf
  rw[fx e1,u1Q]
  exact LE.trans (κ:=κ) (y:=y) (V5 sx hij e1 e2) hf
 .obtain⟨i,hi,e⟩:=vX hx
  have:=h1 i hi
  rw[fx e,u1Q]at this
  exact this
 .obtain⟨i,hi,e⟩:=Zk hx
  have hil:i < n:=by
   have:=(t7.mp e).1
   rw[p5]at this
   omega
  have:=h2 i hi hil
  rw[fx e,Bool.not_eq_false']at this
  exact this
theorem zaB {q:Keyed}{v:KA}{b n t:Nat}{P:Option Nat->SortSt->Prop}(L:LtE prog w A E s κ k D)(hk:kindOf st=k)(hq:D q)(hd:∀ x∈(v.toList.drop b).take n,D x)(hn:b+n<=v.toList.length)(ht:t < n)(sx:((v.toList.drop b).take n).Pairwise (LE κ))
 (h:∀ m,m<=n->(∀ x∈((v.toList.drop b).take n).take m,κ.klt (ky κ x) (ky κ q))->(∀ x∈((v.toList.drop b).take n).drop m,LE κ q x)->P (some m) st):wpS (model prog w) A E s (gal true q v b n t) P st:=by
 let f:Nat->Bool:=λi=>match ((v.toList.drop b).take n)[i]? with
  | some x=>κ.blt (ky κ x) (ky κ q)
  | none=>false
 have fx:∀ {i x},((v.toList.drop b).take n)[i]?=some x->f i=κ.blt (ky κ x) (ky κ q):=λ{i x} e=>by show(match ((v.toList.drop b).take n)[i]? with | some x=>κ.blt (ky κ x) (ky κ q) | none=>false)=_;rw[e]
 refine zgt (f:=f) (λi hi Q hQ=>?_) (λi j hij hj hf=>?_) ht λm hm h1 h2=>h m hm (λx hx=>?_) λx hx=>?_
 .obtain⟨x,e1,e2⟩:=Z8 hi hn
  rw[fx e2]at hQ
  unfold bey
  refine r8 (zF e1 ?_)
  rw[t9 rfl]
  exact L _ _ _ _ hk (hd x (j4 e2)) hq hQ
 .obtain⟨x,_,e1⟩:=Z8 (i:=i) (by omega) hn
  obtain⟨y,_,e2⟩:=Z8 hj hn
  rw[fx e2]at hf
  rw[fx e1]
  exact KeyOrd.klt_of_kle_of_klt (V5 sx hij e1 e2) hf
 .obtain⟨i,hi,e⟩:=vX hx
  have:=h1 i hi
  rw[fx e]at this
  exact this
 .obtain⟨i,hi,e⟩:=Zk hx
  have hil:i < n:=by
   have:=(t7.mp e).1
   rw[p5]at this
   omega
  have:=h2 i hi hil
  rw[fx e]at this
  exact this
end
structure Two (κ:KeyKind) (D:Keyed->Prop) (v u:KA):Prop where
 dv:∀ x∈v.toList,D x
 du:∀ y∈u.toList,D y
 sv:v.toList.Pairwise (LE κ)
 su:u.toList.Pairwise (LE κ)
def Fn (κ:KeyKind)(v u r:KA):Prop:=r.toList.Perm (v.toList++u.toList)/\r.toList.Pairwise (LE κ)
structure MI (κ:KeyKind) (v u o:KA) (i j:Nat):Prop where
 li:i+1 < v.size
 lj:j < u.size
 wi:WI (LE κ) v.toList u.toList o.toList i j
section
variable {prog:Program}{w:World}{A:Around}{E:Value->Shared->Prop}{s:Shared}{st:SortSt}{κ:KeyKind}{k:SortKind}{D:Keyed->Prop}{v u o:KA}{i j:Nat}
theorem wt (v:KA)(i j:Nat):(v.extract i j).toList=(v.toList.drop i).take (j - i):=by simp
theorem zan (v:KA)(i:Nat):(v.extract i v.size).toList=v.toList.drop i:=by
 rw[wt,u0i (by rw[u0p,j8];omega)]
theorem zbI (T:Two κ D v u)(w:WI (LE κ) v.toList u.toList o.toList i j)(h:j=u.size\/i=v.size):Fn κ v u (dn v u o i j):=by
 have:=w.done T.sv T.su λx hx y hy=>by
  rcases h with rfl | rfl
  .rw[<-j8,u1D]at hy;cases hy
  .rw[<-j8,u1D]at hx;cases hx
 unfold Fn dn
 rw[u0f,u0f,zan,zan]
 exact this
theorem zdc (T:Two κ D v u)(w:WI (LE κ) v.toList u.toList o.toList i j)(hi:i+1=v.size)(top:∀ y∈u.toList,∀ x,v.toList[v.size - 1]?=some x->LE κ y x):Fn κ v u (ls v u o i j):=by
 have:=w.swap.done T.su T.sv λy hy x hx=>by
  refine top y (u0b hy) x ?_
  obtain⟨a,ha,e⟩:=Zk hx
  have hl:=(t7.mp e).1
  rw[j8]at hl
  rw[show v.size - 1=a by omega]
  exact e
 unfold Fn ls
 rw[u0f,u0f,zan,zan]
 exact⟨this.1.trans u1k,this.2⟩
theorem WZ {v:KA}{i:Nat}(h:i < v.size):∃ x,v.toList[i]?=some x:=⟨_,j6 (by rw[j8];exact h)⟩
def Ok2 (κ:KeyKind)(v u:KA)(n:Nat)(c:Z2):Prop:=(∃ r,c.1=some r/\Fn κ v u r)\/(c.1=none/\MI κ v u c.2.1 c.2.2.1 c.2.2.2.1/\n<=c.2.2.1+c.2.2.2.1)
def Go2 (κ:KeyKind)(v u:KA)(n:Nat):ForInStep Z2->Prop
 | .done c=>Ok2 κ v u n c
 | .yield c=>c.1=none/\MI κ v u c.2.1 c.2.2.1 c.2.2.2.1/\n<=c.2.2.1+c.2.2.2.1
variable {top:∀ y∈u.toList,∀ x,v.toList[v.size - 1]?=some x->LE κ y x}{g c d n:Nat}
theorem zgK (T:Two κ D v u)(top:∀ y∈u.toList,∀ x,v.toList[v.size - 1]?=some x->LE κ y x)(m:MI κ v u o i j){x:Keyed}(hx:v.toList[i]?=some x)(h:∀ y∈u.toList.drop j,LE κ x y)(hn:n<=i+j):wpS (model prog w) A E s (loC v u o i j g c d) (λr t=>t=st/\Go2 κ v u n r) st:=by
 unfold loC
 refine r8 (zF hx ?_)
 have w':=m.wi.pushA T.sv hx h
 rw[<-u1b]at w'
 have li:=m.li
 by_cases e:i+1+1=v.size
 .rw[t9 (d8.mpr e)]
  exact d6 ⟨rfl,.inl ⟨_,rfl,zdc T w' e top⟩⟩
 .rw[j0 (λz=>e (d8.mp z))]
  have m':MI κ v u (o.push x) (i+1) j:=⟨by omega,m.lj,w'⟩
  split
  .exact d6 ⟨rfl,.inr ⟨rfl,m',by show n<=i+1+j;omega⟩⟩
  .exact d6 ⟨rfl,rfl,m',by show n<=i+1+j;omega⟩
theorem zgC (L:LtE prog w A E s κ k D)(hk:kindOf st=k)(T:Two κ D v u)(top:∀ y∈u.toList,∀ x,v.toList[v.size - 1]?=some x->LE κ y x)(m:MI κ v u o i j){y:Keyed}(hy:u.toList[j]?=some y)(h:∀ x∈v.toList.drop i,LE κ y x)(hn:n<=i+j):wpS (model prog w) A E s (loB v u o i j g c d) (λr t=>t=st/\Go2 κ v u n r) st:=by
 unfold loB
 refine r8 (zF hy ?_)
 have w':=m.wi.pushB T.su hy h
 rw[<-u1b]at w'
 have li:=m.li
 have lj:=m.lj
 by_cases e:j+1=u.size
 .rw[t9 (d8.mpr e)]
  exact d6 ⟨rfl,.inl ⟨_,rfl,zbI T w' (.inl e)⟩⟩
 .rw[j0 (λz=>e (d8.mp z))]
  obtain⟨x,hx⟩:=WZ (v:=v) (i:=i) (by omega)
  refine r8 (zF hx ?_)
  have hul:u.toList.length=u.size:=j8
  have eseg:(u.toList.drop (j+1)).take (u.size - (j+1))=u.toList.drop (j+1):=u0i (by rw[u0p];omega)
  refine r8 (zaB L hk (T.dv x (j4 hx)) (λz hz=>T.du z (u0b (u0k hz))) (by omega) (by omega) (by rw[eseg];exact T.su.sublist (u0Z _ _)) λq hq h1 h2=>?_)
  rw[eseg]at h1 h2
  dsimp only
  have hx2:=X9 (LE.refl (κ:=κ)) T.sv hx
  have w2:=w'.runB (k:=q) T.su (by omega) λz hz a ha=>LE.trans (u0q (h1 z hz)) (hx2 a ha)
  have h3:∀ z∈u.toList.drop (j+1+q),LE κ x z:=λz hz=>h2 z (by rw[u04];exact hz)
  by_cases e0:q > 0
  .rw[t9 e0]
   have ee:(o.push y++u.extract (j+1) (j+1+q)).toList=(o.push y).toList++(u.toList.drop (j+1)).take q:=by rw[u0f,wt,u1a]
   rw[<-ee]at w2
   by_cases e1:j+1+q=u.size
   .rw[t9 (d8.mpr e1)]
    exact d6 ⟨rfl,.inl ⟨_,rfl,zbI T w2 (.inl e1)⟩⟩
   .rw[j0 (λz=>e1 (d8.mp z))]
    exact zgK T top ⟨li,by omega,w2⟩ hx h3 (by omega)
  .rw[j0 e0]
   obtain rfl:q=0:=by omega
   exact zgK T top ⟨li,by omega,w'⟩ hx h3 (by omega)
theorem zgm (L:LtE prog w A E s κ k D)(hk:kindOf st=k)(T:Two κ D v u)(top:∀ y∈u.toList,∀ x,v.toList[v.size - 1]?=some x->LE κ y x)(m:MI κ v u o i j)(hn:n<=i+j):wpS (model prog w) A E s (loA v u o i j g c d) (λr t=>Sm st t/\Go2 κ v u n r) st:=by
 unfold loA
 refine r8 (ZV λt ht=>?_)
 obtain⟨y,hy⟩:=WZ m.lj
 refine r8 (zF hy ?_)
 have li:=m.li
 have lj:=m.lj
 have hvl:v.toList.length=v.size:=j8
 have eseg:(v.toList.drop i).take (v.size - i)=v.toList.drop i:=u0i (by rw[u0p];omega)
 refine r8 (zai L (ht.kd.trans hk) (T.du y (j4 hy)) (λz hz=>T.dv z (u0b (u0k hz))) (by omega) (by omega) (by rw[eseg];exact T.sv.sublist (u0Z _ _)) λq hq h1 h2=>?_)
 rw[eseg]at h1 h2
 dsimp only
 have hy2:=X9 (LE.refl (κ:=κ)) T.su hy
 have w2:=m.wi.runA (k:=q) T.sv (by omega) λz hz a ha=>LE.trans (h1 z hz) (hy2 a ha)
 have h3:∀ z∈v.toList.drop (i+q),LE κ y z:=λz hz=>u0q (h2 z (by rw[u04];exact hz))
 by_cases e0:q > 0
 .rw[t9 e0]
  have ee:(o++v.extract i (i+q)).toList=o.toList++(v.toList.drop i).take q:=by rw[u0f,wt,u1a]
  rw[<-ee]at w2
  by_cases e1:i+q+1=v.size
  .rw[t9 (d8.mpr e1)]
   exact d6 ⟨ht,.inl ⟨_,rfl,zdc T w2 e1 top⟩⟩
  .rw[j0 (λz=>e1 (d8.mp z))]
   by_cases e2:i+q=v.size
   .rw[t9 (d8.mpr e2)]
    exact d6 ⟨ht,.inl ⟨_,rfl,zbI T w2 (.inr e2)⟩⟩
   .rw[j0 (λz=>e2 (d8.mp z))]
    exact u0N (zgC L (ht.kd.trans hk) T top ⟨by omega,lj,w2⟩ hy h3 (by omega)) λr t' h=>⟨h.1 ▸ ht,h.2⟩
 .rw[j0 e0]
  obtain rfl:q=0:=by omega
  exact u0N (zgC L (ht.kd.trans hk) T top m hy h3 hn) λr t' h=>⟨h.1 ▸ ht,h.2⟩
def Ok1 (κ:KeyKind)(v u:KA)(n:Nat)(c:Z1):Prop:=(∃ r,c.1=some r/\Fn κ v u r)\/(c.1=none/\MI κ v u c.2.1 c.2.2.1 c.2.2.2.1/\n<=c.2.2.1+c.2.2.2.1)
def Go1 (κ:KeyKind)(v u:KA)(n:Nat):ForInStep Z1->Prop
 | .done c=>Ok1 κ v u n c
 | .yield c=>c.1=none/\MI κ v u c.2.1 c.2.2.1 c.2.2.2.1/\n<=c.2.2.1+c.2.2.2.1
theorem zhO (L:LtE prog w A E s κ k D)(hk:kindOf st=k)(T:Two κ D v u)(top:∀ y∈u.toList,∀ x,v.toList[v.size - 1]?=some x->LE κ y x){z:Z1}(m:MI κ v u z.2.1 z.2.2.1 z.2.2.2.1):wpS (model prog w) A E s (znj v u g z) (λr t=>t=st/\Go1 κ v u (z.2.2.1+z.2.2.2.1+1) r) st:=by
 obtain⟨r,o,i,j,c,d⟩:=z
 dsimp only at m ⊢
 have li:=m.li
 have lj:=m.lj
 unfold znj
 obtain⟨y,hy⟩:=WZ lj
 obtain⟨x,hx⟩:=WZ (v:=v) (i:=i) (by omega)
 refine r8 (zF hy (r8 (zF hx (r8 (L _ _ _ _ hk (T.du y (j4 hy)) (T.dv x (j4 hx)) ?_)))))
 dsimp only
 have hx2:=X9 (LE.refl (κ:=κ)) T.sv hx
 have hy2:=X9 (LE.refl (κ:=κ)) T.su hy
 cases e:κ.blt (ky κ y) (ky κ x) with
 | true =>
  rw[t9 rfl]
  refine r8 (zF hy ?_)
  have w':=m.wi.pushB T.su hy λa ha=>LE.trans (u0q e) (hx2 a ha)
  rw[<-u1b]at w'
  by_cases e1:j+1=u.size
  .rw[t9 (d8.mpr e1)]
   exact d6 ⟨rfl,.inl ⟨_,rfl,zbI T w' (.inl e1)⟩⟩
  .rw[j0 (λz=>e1 (d8.mp z))]
   have m':MI κ v u (o.push y) i (j+1):=⟨li,by omega,w'⟩
   split
   .exact d6 ⟨rfl,.inr ⟨rfl,m',by show i+j+1<=i+(j+1);omega⟩⟩
   .exact d6 ⟨rfl,rfl,m',by show i+j+1<=i+(j+1);omega⟩
 | false =>
  rw[j0 u6]
  refine r8 (zF hx ?_)
  have w':=m.wi.pushA T.sv hx λa ha=>LE.trans (κ:=κ) (y:=y) e (hy2 a ha)
  rw[<-u1b]at w'
  by_cases e1:i+1+1=v.size
  .rw[t9 (d8.mpr e1)]
   exact d6 ⟨rfl,.inl ⟨_,rfl,zdc T w' e1 top⟩⟩
  .rw[j0 (λz=>e1 (d8.mp z))]
   have m':MI κ v u (o.push x) (i+1) j:=⟨by omega,lj,w'⟩
   split
   .exact d6 ⟨rfl,.inr ⟨rfl,m',by show i+j+1<=i+1+j;omega⟩⟩
   .exact d6 ⟨rfl,rfl,m',by show i+j+1<=i+1+j;omega⟩
end
section
variable {prog:Program}{w:World}{A:Around}{E:Value->Shared->Prop}{s:Shared}{st:SortSt}{κ:KeyKind}{k:SortKind}{D:Keyed->Prop}{v u o:KA}{i j:Nat}
def Go3 (κ:KeyKind)(v u:KA)(n:Nat):ForInStep Z3->Prop
 | .done c=>∃ r,c.1=some r/\Fn κ v u r
 | .yield c=>c.1=none/\MI κ v u c.2.1 c.2.2.1 c.2.2.2.1/\n<=c.2.2.1+c.2.2.2.1
theorem ziJ {z:Z2}{n:Nat}(L:LtE prog w A E s κ k D)(hk:kindOf st=k)(T:Two κ D v u)(top:∀ y∈u.toList,∀ x,v.toList[v.size - 1]?=some x->LE κ y x)(m:MI κ v u z.2.1 z.2.2.1 z.2.2.2.1)(hn:n<=z.2.2.1+z.2.2.2.1):wpS (model prog w) A E s (zm2 v u z) (λr t=>Sm st t/\Go2 κ v u n r) st:=by
 unfold zm2
 split
 .exact zgm L hk T top m hn
 .exact zgm L hk T top m hn
theorem zhM {z:Z3}(L:LtE prog w A E s κ k D)(hk:kindOf st=k)(T:Two κ D v u)(top:∀ y∈u.toList,∀ x,v.toList[v.size - 1]?=some x->LE κ y x)(m:MI κ v u z.2.1 z.2.2.1 z.2.2.2.1):wpS (model prog w) A E s (zm7 v u z) (λr t=>Sm st t/\Go3 κ v u (z.2.2.1+z.2.2.2.1+1) r) st:=by
 unfold zm7
 have li:=m.li
 refine r8 (u0N (u0G (I:=λx c t=>t=st/\c.1=none/\MI κ v u c.2.1 c.2.2.1 c.2.2.2.1/\(x=0\/z.2.2.1+z.2.2.2.1+1<=c.2.2.1+c.2.2.2.1)/\z.2.2.1+z.2.2.2.1<=c.2.2.1+c.2.2.2.1) (Q:=λc t=>t=st/\Ok1 κ v u (z.2.2.1+z.2.2.2.1+1) c)
  (λx c t _ _ hI=>?_) (λc t hI=>?_) ⟨rfl,rfl,m,.inl rfl,q5 _⟩) λy t hI=>?_)
 .obtain⟨rfl,h1,h2,h3,h4⟩:=hI
  refine u0N (zhO L hk T top h2) λr t' h=>?_
  obtain⟨rfl,hr⟩:=h
  cases r with
  | done c' =>
   rcases hr with hr | ⟨a1,a2,a3⟩
   .exact⟨rfl,.inl hr⟩
   .exact⟨rfl,.inr ⟨a1,a2,by omega⟩⟩
  | yield c' =>
   obtain⟨a1,a2,a3⟩:=hr
   exact⟨rfl,a1,a2,.inr (by omega),by omega⟩
 .obtain⟨rfl,h1,h2,h3,h4⟩:=hI
  refine⟨rfl,.inr ⟨h1,h2,?_⟩⟩
  rcases h3 with h3 | h3
  .exfalso
   have:max 0 (v.size+u.size)=v.size+u.size:=by omega
   omega
  .exact h3
 .obtain⟨rfl,hy⟩:=hI
  rcases hy with ⟨r,e,hr⟩ | ⟨e,m1,h1⟩
  .rw[e]
   exact d6 ⟨Sm.refl _,r,rfl,hr⟩
  .rw[e]
   dsimp only
   refine r8 (wpS_lift (u1y ⟨rfl,?_⟩))
   refine r8 (u0N (u0G (I:=λx c t'=>Sm t t'/\c.1=none/\MI κ v u c.2.1 c.2.2.1 c.2.2.2.1/\z.2.2.1+z.2.2.2.1+1<=c.2.2.1+c.2.2.2.1) (Q:=λc t'=>Sm t t'/\Ok2 κ v u (z.2.2.1+z.2.2.2.1+1) c)
    (λx c t' _ _ hI=>?_) (λc t' hI=>?_) ⟨Sm.refl _,rfl,m1,h1⟩) λx t' hI=>?_)
   .obtain⟨hs,b1,b2,b3⟩:=hI
    refine u0N (ziJ L (hs.kd.trans hk) T top b2 b3) λr t2 h=>?_
    obtain⟨hs2,hr⟩:=h
    cases r with
    | done c'=>exact⟨hs.trans hs2,hr⟩
    | yield c'=>exact⟨hs.trans hs2,hr⟩
   .obtain⟨hs,b1,b2,b3⟩:=hI
    exact⟨hs,.inr ⟨b1,b2,b3⟩⟩
   .obtain⟨hs,hx⟩:=hI
    rcases hx with ⟨r,e,hr⟩ | ⟨e,m2,h2⟩
    .rw[e]
     exact d6 ⟨hs,r,rfl,hr⟩
    .rw[e]
     exact r8 (ZV λt2 hs2=>d6 ⟨hs.trans hs2,rfl,m2,h2⟩)
theorem zkN {P:KA->SortSt->Prop}(L:LtE prog w A E s κ k D)(hk:kindOf st=k)(T:Two κ D v u)(hv:0 < v.size)(hu:0 < u.size)(top:∀ y∈u.toList,∀ x,v.toList[v.size - 1]?=some x->LE κ y x)(bot:∀ x∈v.toList,∀ y,u.toList[0]?=some y->LE κ y x)
 (h:∀ r t,Sm st t->Fn κ v u r->P r t):wpS (model prog w) A E s (mlo v u) P st:=by
 rw[zmm]
 refine r8 (wpS_lift (u1y ⟨rfl,?_⟩))
 obtain⟨y,hy⟩:=WZ hu
 refine r8 (zF hy ?_)
 have w0:WI (LE κ) v.toList u.toList [] 0 0:=⟨u0P _,u0P _,u1I _,List.Pairwise.nil,(λz hz=>by cases hz),(λz hz=>by cases hz)⟩
 have w1:WI (LE κ) v.toList u.toList (#[y]:KA).toList 0 1:=w0.pushB T.su hy λx hx=>bot x (u0b hx) y hy
 by_cases e1:1=u.size
 .rw[t9 (d8.mpr e1)]
  exact d6 (h _ _ (Sm.refl _) (zbI T w1 (.inl e1)))
 rw[j0 (λz=>e1 (d8.mp z))]
 by_cases e2:0+1=v.size
 .rw[t9 (d8.mpr e2)]
  exact d6 (h _ _ (Sm.refl _) (zdc T w1 e2 top))
 rw[j0 (λz=>e2 (d8.mp z))]
 refine r8 (u3x ?_)
 refine r8 (u0N (u0G (I:=λx c t=>Sm st t/\c.1=none/\MI κ v u c.2.1 c.2.2.1 c.2.2.2.1/\x+1<=c.2.2.1+c.2.2.2.1) (Q:=λc t=>Sm st t/\∃ r,c.1=some r/\Fn κ v u r)
  (λx c t _ _ hI=>?_) (λc t hI=>?_) ⟨Sm.refl _,rfl,⟨by show 0+1 < v.size;omega,by show 1 < u.size;omega,w1⟩,by show 0+1<=0+1;omega⟩) λy t hI=>?_)
 .obtain⟨hs,b1,b2,b3⟩:=hI
  refine u0N (zhM L (hs.kd.trans hk) T top b2) λr t2 h=>?_
  obtain⟨hs2,hr⟩:=h
  cases r with
  | done c'=>exact⟨hs.trans hs2,hr⟩
  | yield c'=>exact⟨hs.trans hs2,hr.1,hr.2.1,by have:=hr.2.2;omega⟩
 .obtain⟨hs,b1,b2,b3⟩:=hI
  exfalso
  have:=b2.li
  have:=b2.lj
  have:max 0 (v.size+u.size)=v.size+u.size:=by omega
  omega
 .obtain⟨hs,r,e,hr⟩:=hI
  rw[e]
  exact d6 (h r t hs hr)
end
def mhi:Array Keyed->Array Keyed->SM (Array Keyed):=sortPriv% PySem.Builtin.mergeHi
abbrev Y1:=Option KA × Nat × Nat × KA × Nat × Nat
abbrev Y2:=Option KA × Nat × Nat × KA × Nat × Nat × Nat
abbrev Y3:=Option KA × Nat × Nat × KA × Nat
abbrev dh (v u o:KA)(i j:Nat):KA:=v.extract 0 i++u.extract 0 j++o.reverse
abbrev fh (v u o:KA)(i j:Nat):KA:=u.extract 0 j++v.extract 0 i++o.reverse
def znh (v u:KA)(g:Nat)(z:Y1):SM (ForInStep Y1):=do
 let e<-elem' u (z.2.2.1 - 1)
 let f<-elem' v (z.2.1 - 1)
 let some b<-lt' e f | pure (.done (some (dh v u z.2.2.2.1 z.2.1 z.2.2.1),z.2.1,z.2.2.1,z.2.2.2.1,z.2.2.2.2.1,z.2.2.2.2.2))
 if b=true then do
  let f<-elem' v (z.2.1 - 1)
  if (z.2.1 - 1 == 0)=true then pure (.done (some (dh v u (z.2.2.2.1.push f) (z.2.1 - 1) z.2.2.1),z.2.1 - 1,z.2.2.1,z.2.2.2.1.push f,z.2.2.2.2.1+1,0))
  else if z.2.2.2.2.1+1 >= g then pure (.done (none,z.2.1 - 1,z.2.2.1,z.2.2.2.1.push f,z.2.2.2.2.1+1,0))
  else pure (.yield (none,z.2.1 - 1,z.2.2.1,z.2.2.2.1.push f,z.2.2.2.2.1+1,0))
 else do
  let e<-elem' u (z.2.2.1 - 1)
  if (z.2.2.1 - 1 == 1)=true then pure (.done (some (fh v u (z.2.2.2.1.push e) z.2.1 (z.2.2.1 - 1)),z.2.1,z.2.2.1 - 1,z.2.2.2.1.push e,0,z.2.2.2.2.2+1))
  else if z.2.2.2.2.2+1 >= g then pure (.done (none,z.2.1,z.2.2.1 - 1,z.2.2.2.1.push e,0,z.2.2.2.2.2+1))
  else pure (.yield (none,z.2.1,z.2.2.1 - 1,z.2.2.2.1.push e,0,z.2.2.2.2.2+1))
def hiC (v u o:KA)(i j g c d:Nat):SM (ForInStep Y2):=do
 let f<-elem' v (i - 1)
 if (i - 1 == 0)=true then pure (.done (some (dh v u (o.push f) (i - 1) j),i - 1,j,o.push f,g,c,d))
 else if (decide (c < 7)&&decide (d < 7))=true then pure (.done (none,i - 1,j,o.push f,g,c,d))
 else pure (.yield (none,i - 1,j,o.push f,g,c,d))
def hiB (v u o:KA)(i j g c d:Nat):SM (ForInStep Y2):=do
 let e<-elem' u (j - 1)
 if (j - 1 == 1)=true then pure (.done (some (fh v u (o.push e) i (j - 1)),i,j - 1,o.push e,g,c,d))
 else do
  let f<-elem' v (i - 1)
  let some p<-gal true f u 0 (j - 1) (j - 1 - 1) | pure (.done (some (dh v u (o.push e) i (j - 1)),i,j - 1,o.push e,g,c,d))
  if j - 1 - p > 0 then
   if (p == 1)=true then pure (.done (some (fh v u (o.push e++(u.extract p (j - 1)).reverse) i p),i,p,o.push e++(u.extract p (j - 1)).reverse,g,c,j - 1 - p))
   else if (p == 0)=true then pure (.done (some (dh v u (o.push e++(u.extract p (j - 1)).reverse) i p),i,p,o.push e++(u.extract p (j - 1)).reverse,g,c,j - 1 - p))
   else hiC v u (o.push e++(u.extract p (j - 1)).reverse) i p g c (j - 1 - p)
  else hiC v u (o.push e) i (j - 1) g c (j - 1 - p)
def hiA (v u o:KA)(i j g c d:Nat):SM (ForInStep Y2):=do
 zbN g
 let e<-elem' u (j - 1)
 let some p<-gal false e v 0 i (i - 1) | pure (.done (some (dh v u o i j),i,j,o,g,c,d))
 if i - p > 0 then
  if (p == 0)=true then pure (.done (some (dh v u (o++(v.extract p i).reverse) p j),p,j,o++(v.extract p i).reverse,g,i - p,d))
  else hiB v u (o++(v.extract p i).reverse) p j g (i - p) d
 else hiB v u o i j g (i - p) d
def zng (v u:KA)(z:Y2):SM (ForInStep Y2) :=
 if z.2.2.2.2.1 > 1 then hiA v u z.2.2.2.1 z.2.1 z.2.2.1 (z.2.2.2.2.1 - 1) z.2.2.2.2.2.1 z.2.2.2.2.2.2
 else hiA v u z.2.2.2.1 z.2.1 z.2.2.1 z.2.2.2.2.1 z.2.2.2.2.2.1 z.2.2.2.2.2.2
def zm1 (v u:KA)(z:Y3):SM (ForInStep Y3):=do
 let y<-forIn [0:v.size+u.size] ((none,z.2.1,z.2.2.1,z.2.2.2.1,0,0):Y1) λ_ q=>znh v u z.2.2.2.2 q
 match y.1 with
 | some r=>pure (.done (some r,y.2.1,y.2.2.1,y.2.2.2.1,z.2.2.2.2))
 | none=>do
  rule "list.sort.gallop"
  let x<-forIn [0:v.size+u.size] ((none,y.2.1,y.2.2.1,y.2.2.2.1,z.2.2.2.2+1,y.2.2.2.2.1,y.2.2.2.2.2):Y2) λ_ q=>zng v u q
  match x.1 with
  | some r=>pure (.done (some r,x.2.1,x.2.2.1,x.2.2.2.1,x.2.2.2.2.1))
  | none=>do
   zbN (x.2.2.2.2.1+1)
   pure (.yield (none,x.2.1,x.2.2.1,x.2.2.2.1,x.2.2.2.2.1+1))
theorem zlo (v u:KA):mhi v u=(do
 rule "list.sort.merge-hi"
 let e<-elem' v (v.size - 1)
 if (v.size - 1 == 0)=true then pure (dh v u #[e] (v.size - 1) u.size)
 else if (u.size == 1)=true then pure (fh v u #[e] (v.size - 1) u.size)
 else do
  let g<-get
  let z<-forIn [0:v.size+u.size] ((none,v.size - 1,u.size,#[e],gallopOf g):Y3) λ_ q=>zm1 v u q
  match z.1 with
  | some r=>pure r
  | none=>(unsupported ("internal:list.sort.merge-bound"))):=by
 show @bind SM _ _ _ _ _=_
 dsimp only[zm1,zng,hiA,hiB,hiC,znh,elem',lt',gal,zbN,gallopOf]
 congr 1;funext _;congr 1;funext e
 congr 1;congr 1;congr 1;funext g;congr 1
 .congr 1;funext _ z;congr 1
  funext x
  obtain⟨r,x⟩:=x
  cases r with
  | some r=>rfl
  | none =>
   dsimp only
   congr 1;funext _;congr 1
   funext y;obtain⟨r,y⟩:=y;cases r <;> rfl
 .funext y;obtain⟨r,y⟩:=y;cases r <;> rfl
structure MH (κ:KeyKind) (v u o:KA) (i j:Nat):Prop where
 li:i<=v.size
 lj:j<=u.size
 wi:WI (λa b=>LE κ b a) v.toList.reverse u.toList.reverse o.toList (v.size - i) (u.size - j)
section
variable {κ:KeyKind}{D:Keyed->Prop}{v u o:KA}{i j:Nat}
theorem yV {v:KA}{i:Nat}(h:i<=v.size):v.toList.reverse.drop (v.size - i)=(v.toList.take i).reverse:=by
 rw[List.drop_reverse,j8,Nat.sub_sub_self h]
theorem xm {l:List Keyed}(h:l.Pairwise (LE κ)):l.reverse.Pairwise λa b=>LE κ b a:=u2v.mpr h
theorem zeM {v:KA}{i:Nat}(h0:0 < i)(h:i<=v.size):v.toList.reverse[v.size - i]?=v.toList[i - 1]?:=by
 rw[List.getElem?_reverse (by rw[j8];omega),j8,show v.size - 1 - (v.size - i)=i - 1 by omega]
theorem MH.pushA (T:Two κ D v u)(m:MH κ v u o i j)(h0:0 < i){x:Keyed}(hx:v.toList[i - 1]?=some x)(h:∀ y∈u.toList.take j,LE κ y x):MH κ v u (o.push x) (i - 1) j:=by
 have li:=m.li
 refine⟨by omega,m.lj,?_⟩
 have:=m.wi.pushA (x:=x) (xm T.sv) (by rw[zeM h0 li];exact hx) λy hy=>h y (by rw[yV m.lj]at hy;exact u08.mp hy)
 rw[<-u1b,show v.size - i+1=v.size - (i - 1) by omega]at this
 exact this
theorem MH.pushB (T:Two κ D v u)(m:MH κ v u o i j)(h0:0 < j){y:Keyed}(hy:u.toList[j - 1]?=some y)(h:∀ x∈v.toList.take i,LE κ x y):MH κ v u (o.push y) i (j - 1):=by
 have lj:=m.lj
 refine⟨m.li,by omega,?_⟩
 have:=m.wi.pushB (y:=y) (xm T.su) (by rw[zeM h0 lj];exact hy) λx hx=>h x (by rw[yV m.li]at hx;exact u08.mp hx)
 rw[<-u1b,show u.size - j+1=u.size - (j - 1) by omega]at this
 exact this
theorem zae {v:KA}{p i:Nat}(hp:p<=i)(h:i<=v.size):(v.toList.reverse.drop (v.size - i)).take (i - p)=(v.extract p i).reverse.toList:=by
 rw[yV h,List.take_reverse,u1p,wt,p5,j8,u0U h,Nat.sub_sub_self hp,u2s]
theorem MH.runA (T:Two κ D v u)(m:MH κ v u o i j){p:Nat}(hp:p<=i)(h:∀ x∈(v.toList.take i).drop p,∀ y∈u.toList.take j,LE κ y x):MH κ v u (o++(v.extract p i).reverse) p j:=by
 have li:=m.li
 refine⟨by omega,m.lj,?_⟩
 have:=m.wi.runA (k:=i - p) (xm T.sv) (by rw[List.length_reverse,j8];omega) λx hx y hy=>by
  rw[zae hp li,u1p,wt]at hx
  rw[yV m.lj]at hy
  exact h x (by rw[u2s];exact u08.mp hx) y (u08.mp hy)
 rw[zae hp li,<- u0f,show v.size - i+(i - p)=v.size - p by omega]at this
 exact this
theorem MH.runB (T:Two κ D v u)(m:MH κ v u o i j){p:Nat}(hp:p<=j)(h:∀ y∈(u.toList.take j).drop p,∀ x∈v.toList.take i,LE κ x y):MH κ v u (o++(u.extract p j).reverse) i p:=by
 have lj:=m.lj
 refine⟨m.li,by omega,?_⟩
 have:=m.wi.runB (k:=j - p) (xm T.su) (by rw[List.length_reverse,j8];omega) λx hx y hy=>by
  rw[zae hp lj,u1p,wt]at hx
  rw[yV m.li]at hy
  exact h x (by rw[u2s];exact u08.mp hx) y (u08.mp hy)
 rw[zae hp lj,<- u0f,show u.size - j+(j - p)=u.size - p by omega]at this
 exact this
theorem X4 (v:KA)(i:Nat):(v.extract 0 i).toList=v.toList.take i:=by rw[wt,u1V,Nat.sub_zero]
theorem zbz (T:Two κ D v u)(m:MH κ v u o i j)(h:i=0\/j=0):Fn κ v u (dh v u o i j):=by
 have e:=m.wi.swap.done (xm T.su) (xm T.sv) λy hy x hx=>by
  rw[yV m.lj]at hy
  rw[yV m.li]at hx
  rcases h with rfl | rfl
  .rw[u1K]at hx;cases hx
  .rw[u1K]at hy;cases hy
 rw[yV m.lj,yV m.li]at e
 have er:(dh v u o i j).toList=(o.toList++(u.toList.take j).reverse++(v.toList.take i).reverse).reverse:=by
  unfold dh
  rw[u0f,u0f,X4,X4,u1p,u12,u12,u1T,u1T,b9]
 constructor
 .rw[er]
  refine(u1s _).trans (e.1.trans ?_)
  exact(u1k).trans ((u1s _).append (u1s _))
 .rw[er,u2v]
  exact e.2
theorem zc8 (T:Two κ D v u)(m:MH κ v u o i j)(hj:j=1)(bot:∀ x∈v.toList,∀ y,u.toList[0]?=some y->LE κ y x):Fn κ v u (fh v u o i j):=by
 have e:=m.wi.done (xm T.sv) (xm T.su) λx hx y hy=>by
  rw[yV m.lj]at hy
  rw[yV m.li]at hx
  refine bot x (u0k (u08.mp hx)) y ?_
  obtain⟨a,ha,ea⟩:=vX (u08.mp hy)
  obtain rfl:a=0:=by omega
  exact ea
 rw[yV m.lj,yV m.li]at e
 have er:(fh v u o i j).toList=(o.toList++(v.toList.take i).reverse++(u.toList.take j).reverse).reverse:=by
  unfold fh
  rw[u0f,u0f,X4,X4,u1p,u12,u12,u1T,u1T,b9]
 constructor
 .rw[er]
  exact(u1s _).trans (e.1.trans ((u1s _).append (u1s _)))
 .rw[er,u2v]
  exact e.2
theorem zbQ {l:List Keyed}(s:l.Pairwise (LE κ)){i:Nat}{x:Keyed}(h0:0 < i)(hx:l[i - 1]?=some x):∀ z∈l.take i,LE κ z x:=λz hz=>by
 obtain⟨a,ha,e⟩:=vX hz
 exact V5 s (by omega) e hx
def Oj2 (κ:KeyKind)(v u:KA)(n:Nat)(c:Y2):Prop:=(∃ r,c.1=some r/\Fn κ v u r)\/(c.1=none/\(0 < c.2.1/\1 < c.2.2.1)/\MH κ v u c.2.2.2.1 c.2.1 c.2.2.1/\c.2.1+c.2.2.1<=n)
def Gj2 (κ:KeyKind)(v u:KA)(n:Nat):ForInStep Y2->Prop
 | .done c=>Oj2 κ v u n c
 | .yield c=>c.1=none/\(0 < c.2.1/\1 < c.2.2.1)/\MH κ v u c.2.2.2.1 c.2.1 c.2.2.1/\c.2.1+c.2.2.1<=n
end
section
variable {prog:Program}{w:World}{A:Around}{E:Value->Shared->Prop}{s:Shared}{st:SortSt}{κ:KeyKind}{k:SortKind}{D:Keyed->Prop}{v u o:KA}{i j g c d n:Nat}
theorem zeS (T:Two κ D v u)(m:MH κ v u o i j)(h0:0 < i)(h1:1 < j){x:Keyed}(hx:v.toList[i - 1]?=some x)(h:∀ y∈u.toList.take j,LE κ y x)(hn:i+j<=n):wpS (model prog w) A E s (hiC v u o i j g c d) (λr t=>t=st/\Gj2 κ v u n r) st:=by
 unfold hiC
 refine r8 (zF hx ?_)
 have m':=m.pushA T h0 hx h
 by_cases e:i - 1=0
 .rw[t9 (d8.mpr e)]
  exact d6 ⟨rfl,.inl ⟨_,rfl,zbz T m' (.inl e)⟩⟩
 .rw[j0 (λz=>e (d8.mp z))]
  split
  .exact d6 ⟨rfl,.inr ⟨rfl,⟨by show 0 < i - 1;omega,h1⟩,m',by show i - 1+j<=n;omega⟩⟩
  .exact d6 ⟨rfl,rfl,⟨by show 0 < i - 1;omega,h1⟩,m',by show i - 1+j<=n;omega⟩
theorem zfB (L:LtE prog w A E s κ k D)(hk:kindOf st=k)(T:Two κ D v u)(bot:∀ x∈v.toList,∀ y,u.toList[0]?=some y->LE κ y x)(m:MH κ v u o i j)(h0:0 < i)(h1:1 < j){y:Keyed}(hy:u.toList[j - 1]?=some y)(h:∀ x∈v.toList.take i,LE κ x y)(hn:i+j<=n):wpS (model prog w) A E s (hiB v u o i j g c d) (λr t=>t=st/\Gj2 κ v u n r) st:=by
 unfold hiB
 refine r8 (zF hy ?_)
 have m':=m.pushB T (by omega) hy h
 have li:=m.li
 have lj:=m.lj
 by_cases e:j - 1=1
 .rw[t9 (d8.mpr e)]
  exact d6 ⟨rfl,.inl ⟨_,rfl,zc8 T m' e bot⟩⟩
 .rw[j0 (λz=>e (d8.mp z))]
  obtain⟨x,hx⟩:=WZ (v:=v) (i:=i - 1) (by omega)
  refine r8 (zF hx ?_)
  have hul:u.toList.length=u.size:=j8
  have eseg:(u.toList.drop 0).take (j - 1)=u.toList.take (j - 1):=by rw[u1V]
  refine r8 (zaB L hk (T.dv x (j4 hx)) (λz hz=>T.du z (u0b (u0k hz))) (by omega) (by omega) (by rw[eseg];exact T.su.sublist (u1u _ _)) λp hp g1 g2=>?_)
  rw[eseg]at g1 g2
  dsimp only
  have hx2:=zbQ T.sv h0 hx
  have m2:=m'.runB T hp λz hz a ha=>LE.trans (hx2 a ha) (g2 z hz)
  have h3:∀ z∈u.toList.take p,LE κ z x:=λz hz=>u0q (g1 z (by rw[u1J,u0U hp];exact hz))
  by_cases e0:j - 1 - p > 0
  .rw[t9 e0]
   by_cases e1:p=1
   .rw[t9 (d8.mpr e1)]
    exact d6 ⟨rfl,.inl ⟨_,rfl,zc8 T m2 e1 bot⟩⟩
   .rw[j0 (λz=>e1 (d8.mp z))]
    by_cases e2:p=0
    .rw[t9 (d8.mpr e2)]
     exact d6 ⟨rfl,.inl ⟨_,rfl,zbz T m2 (.inr e2)⟩⟩
    .rw[j0 (λz=>e2 (d8.mp z))]
     exact zeS T m2 h0 (by omega) hx h3 (by omega)
  .rw[j0 e0]
   obtain rfl:p=j - 1:=by omega
   exact zeS T m' h0 (by omega) hx h3 (by omega)
theorem zf9 (L:LtE prog w A E s κ k D)(hk:kindOf st=k)(T:Two κ D v u)(bot:∀ x∈v.toList,∀ y,u.toList[0]?=some y->LE κ y x)(m:MH κ v u o i j)(h0:0 < i)(h1:1 < j)(hn:i+j<=n):wpS (model prog w) A E s (hiA v u o i j g c d) (λr t=>Sm st t/\Gj2 κ v u n r) st:=by
 unfold hiA
 refine r8 (ZV λt ht=>?_)
 have li:=m.li
 have lj:=m.lj
 obtain⟨y,hy⟩:=WZ (v:=u) (i:=j - 1) (by omega)
 refine r8 (zF hy ?_)
 have hvl:v.toList.length=v.size:=j8
 have eseg:(v.toList.drop 0).take i=v.toList.take i:=by rw[u1V]
 refine r8 (zai L (ht.kd.trans hk) (T.du y (j4 hy)) (λz hz=>T.dv z (u0b (u0k hz))) (by omega) (by omega) (by rw[eseg];exact T.sv.sublist (u1u _ _)) λp hp g1 g2=>?_)
 rw[eseg]at g1 g2
 dsimp only
 have hy2:=zbQ T.su (i:=j) (by omega) hy
 have m2:=m.runA T hp λz hz a ha=>LE.trans (hy2 a ha) (u0q (g2 z hz))
 have h3:∀ z∈v.toList.take p,LE κ z y:=λz hz=>g1 z (by rw[u1J,u0U hp];exact hz)
 by_cases e0:i - p > 0
 .rw[t9 e0]
  by_cases e1:p=0
  .rw[t9 (d8.mpr e1)]
   exact d6 ⟨ht,.inl ⟨_,rfl,zbz T m2 (.inl e1)⟩⟩
  .rw[j0 (λz=>e1 (d8.mp z))]
   exact u0N (zfB L (ht.kd.trans hk) T bot m2 (by omega) h1 hy h3 (by omega)) λr t' h=>⟨h.1 ▸ ht,h.2⟩
 .rw[j0 e0]
  obtain rfl:p=i:=by omega
  exact u0N (zfB L (ht.kd.trans hk) T bot m h0 h1 hy h3 hn) λr t' h=>⟨h.1 ▸ ht,h.2⟩
def Oj1 (κ:KeyKind)(v u:KA)(n:Nat)(c:Y1):Prop:=(∃ r,c.1=some r/\Fn κ v u r)\/(c.1=none/\(0 < c.2.1/\1 < c.2.2.1)/\MH κ v u c.2.2.2.1 c.2.1 c.2.2.1/\c.2.1+c.2.2.1<=n)
def Gj1 (κ:KeyKind)(v u:KA)(n:Nat):ForInStep Y1->Prop
 | .done c=>Oj1 κ v u n c
 | .yield c=>c.1=none/\(0 < c.2.1/\1 < c.2.2.1)/\MH κ v u c.2.2.2.1 c.2.1 c.2.2.1/\c.2.1+c.2.2.1<=n
theorem zhv (L:LtE prog w A E s κ k D)(hk:kindOf st=k)(T:Two κ D v u)(bot:∀ x∈v.toList,∀ y,u.toList[0]?=some y->LE κ y x){z:Y1}(m:MH κ v u z.2.2.2.1 z.2.1 z.2.2.1)(h0:0 < z.2.1/\1 < z.2.2.1):wpS (model prog w) A E s (znh v u g z) (λr t=>t=st/\Gj1 κ v u (z.2.1+z.2.2.1 - 1) r) st:=by
 obtain⟨r,i,j,o,c,d⟩:=z
 dsimp only at m h0 ⊢
 obtain⟨h0,h1⟩:=h0
 have li:=m.li
 have lj:=m.lj
 unfold znh
 obtain⟨y,hy⟩:=WZ (v:=u) (i:=j - 1) (by omega)
 obtain⟨x,hx⟩:=WZ (v:=v) (i:=i - 1) (by omega)
 refine r8 (zF hy (r8 (zF hx (r8 (L _ _ _ _ hk (T.du y (j4 hy)) (T.dv x (j4 hx)) ?_)))))
 dsimp only
 have hx2:=zbQ T.sv h0 hx
 have hy2:=zbQ T.su (i:=j) (by omega) hy
 cases e:κ.blt (ky κ y) (ky κ x) with
 | true =>
  rw[t9 rfl]
  refine r8 (zF hx ?_)
  have m':=m.pushA T h0 hx λa ha=>LE.trans (hy2 a ha) (u0q e)
  by_cases e1:i - 1=0
  .rw[t9 (d8.mpr e1)]
   exact d6 ⟨rfl,.inl ⟨_,rfl,zbz T m' (.inl e1)⟩⟩
  .rw[j0 (λz=>e1 (d8.mp z))]
   split
   .exact d6 ⟨rfl,.inr ⟨rfl,⟨by show 0 < i - 1;omega,h1⟩,m',by show i - 1+j<=i+j - 1;omega⟩⟩
   .exact d6 ⟨rfl,rfl,⟨by show 0 < i - 1;omega,h1⟩,m',by show i - 1+j<=i+j - 1;omega⟩
 | false =>
  rw[j0 u6]
  refine r8 (zF hy ?_)
  have m':=m.pushB T (by omega) hy λa ha=>LE.trans (κ:=κ) (y:=x) (hx2 a ha) e
  by_cases e1:j - 1=1
  .rw[t9 (d8.mpr e1)]
   exact d6 ⟨rfl,.inl ⟨_,rfl,zc8 T m' e1 bot⟩⟩
  .rw[j0 (λz=>e1 (d8.mp z))]
   split
   .exact d6 ⟨rfl,.inr ⟨rfl,⟨h0,by show 1 < j - 1;omega⟩,m',by show i+(j - 1)<=i+j - 1;omega⟩⟩
   .exact d6 ⟨rfl,rfl,⟨h0,by show 1 < j - 1;omega⟩,m',by show i+(j - 1)<=i+j - 1;omega⟩
theorem zhs {z:Y2}(L:LtE prog w A E s κ k D)(hk:kindOf st=k)(T:Two κ D v u)(bot:∀ x∈v.toList,∀ y,u.toList[0]?=some y->LE κ y x)(m:MH κ v u z.2.2.2.1 z.2.1 z.2.2.1)(h0:0 < z.2.1/\1 < z.2.2.1)(hn:z.2.1+z.2.2.1<=n):wpS (model prog w) A E s (zng v u z) (λr t=>Sm st t/\Gj2 κ v u n r) st:=by
 unfold zng
 split
 .exact zf9 L hk T bot m h0.1 h0.2 hn
 .exact zf9 L hk T bot m h0.1 h0.2 hn
def Gj3 (κ:KeyKind)(v u:KA)(n:Nat):ForInStep Y3->Prop
 | .done c=>∃ r,c.1=some r/\Fn κ v u r
 | .yield c=>c.1=none/\(0 < c.2.1/\1 < c.2.2.1)/\MH κ v u c.2.2.2.1 c.2.1 c.2.2.1/\c.2.1+c.2.2.1<=n
theorem zhL {z:Y3}(L:LtE prog w A E s κ k D)(hk:kindOf st=k)(T:Two κ D v u)(bot:∀ x∈v.toList,∀ y,u.toList[0]?=some y->LE κ y x)(m:MH κ v u z.2.2.2.1 z.2.1 z.2.2.1)(h0:0 < z.2.1/\1 < z.2.2.1):wpS (model prog w) A E s (zm1 v u z) (λr t=>Sm st t/\Gj3 κ v u (z.2.1+z.2.2.1 - 1) r) st:=by
 unfold zm1
 have li:=m.li
 have lj:=m.lj
 refine r8 (u0N (u0G (I:=λx c t=>t=st/\c.1=none/\(0 < c.2.1/\1 < c.2.2.1)/\MH κ v u c.2.2.2.1 c.2.1 c.2.2.1/\(x=0\/c.2.1+c.2.2.1<=z.2.1+z.2.2.1 - 1)/\c.2.1+c.2.2.1<=z.2.1+z.2.2.1) (Q:=λc t=>t=st/\Oj1 κ v u (z.2.1+z.2.2.1 - 1) c)
  (λx c t _ _ hI=>?_) (λc t hI=>?_) ⟨rfl,rfl,h0,m,.inl rfl,q5 _⟩) λy t hI=>?_)
 .obtain⟨rfl,h1,h2,h3,h4,h5⟩:=hI
  refine u0N (zhv L hk T bot h3 h2) λr t' h=>?_
  obtain⟨rfl,hr⟩:=h
  cases r with
  | done c' =>
   rcases hr with hr | ⟨a1,a2,a3,a4⟩
   .exact⟨rfl,.inl hr⟩
   .exact⟨rfl,.inr ⟨a1,a2,a3,by omega⟩⟩
  | yield c' =>
   obtain⟨a1,a2,a3,a4⟩:=hr
   exact⟨rfl,a1,a2,a3,.inr (by omega),by omega⟩
 .obtain⟨rfl,h1,h2,h3,h4,h5⟩:=hI
  refine⟨rfl,.inr ⟨h1,h2,h3,?_⟩⟩
  rcases h4 with h4 | h4
  .exfalso
   have:max 0 (v.size+u.size)=v.size+u.size:=by omega
   omega
  .exact h4
 .obtain⟨rfl,hy⟩:=hI
  rcases hy with ⟨r,e,hr⟩ | ⟨e,p1,m1,h1⟩
  .rw[e]
   exact d6 ⟨Sm.refl _,r,rfl,hr⟩
  .rw[e]
   dsimp only
   refine r8 (wpS_lift (u1y ⟨rfl,?_⟩))
   refine r8 (u0N (u0G (I:=λx c t'=>Sm t t'/\c.1=none/\(0 < c.2.1/\1 < c.2.2.1)/\MH κ v u c.2.2.2.1 c.2.1 c.2.2.1/\c.2.1+c.2.2.1<=z.2.1+z.2.2.1 - 1) (Q:=λc t'=>Sm t t'/\Oj2 κ v u (z.2.1+z.2.2.1 - 1) c)
    (λx c t' _ _ hI=>?_) (λc t' hI=>?_) ⟨Sm.refl _,rfl,p1,m1,h1⟩) λx t' hI=>?_)
   .obtain⟨hs,b1,b2,b3,b4⟩:=hI
    refine u0N (zhs L (hs.kd.trans hk) T bot b3 b2 b4) λr t2 h=>?_
    obtain⟨hs2,hr⟩:=h
    cases r with
    | done c'=>exact⟨hs.trans hs2,hr⟩
    | yield c'=>exact⟨hs.trans hs2,hr⟩
   .obtain⟨hs,b1,b2,b3,b4⟩:=hI
    exact⟨hs,.inr ⟨b1,b2,b3,b4⟩⟩
   .obtain⟨hs,hx⟩:=hI
    rcases hx with ⟨r,e,hr⟩ | ⟨e,p2,m2,h2⟩
    .rw[e]
     exact d6 ⟨hs,r,rfl,hr⟩
    .rw[e]
     exact r8 (ZV λt2 hs2=>d6 ⟨hs.trans hs2,rfl,p2,m2,h2⟩)
theorem zj6 {P:KA->SortSt->Prop}(L:LtE prog w A E s κ k D)(hk:kindOf st=k)(T:Two κ D v u)(hv:0 < v.size)(hu:0 < u.size)(top:∀ y∈u.toList,∀ x,v.toList[v.size - 1]?=some x->LE κ y x)(bot:∀ x∈v.toList,∀ y,u.toList[0]?=some y->LE κ y x)
 (h:∀ r t,Sm st t->Fn κ v u r->P r t):wpS (model prog w) A E s (mhi v u) P st:=by
 rw[zlo]
 refine r8 (wpS_lift (u1y ⟨rfl,?_⟩))
 obtain⟨x,hx⟩:=WZ (v:=v) (i:=v.size - 1) (by omega)
 refine r8 (zF hx ?_)
 have m0:MH κ v u #[] v.size u.size:=⟨q5 _,q5 _,by
  rw[u3a,u3a]
  exact⟨u0P _,u0P _,u1I _,List.Pairwise.nil,(λz hz=>by cases hz),(λz hz=>by cases hz)⟩⟩
 have m1:MH κ v u #[x] (v.size - 1) u.size:=m0.pushA T hv hx λy hy=>top y (u0k hy) x hx
 by_cases e1:v.size - 1=0
 .rw[t9 (d8.mpr e1)]
  exact d6 (h _ _ (Sm.refl _) (zbz T m1 (.inl e1)))
 rw[j0 (λz=>e1 (d8.mp z))]
 by_cases e2:u.size=1
 .rw[t9 (d8.mpr e2)]
  exact d6 (h _ _ (Sm.refl _) (zc8 T m1 e2 bot))
 rw[j0 (λz=>e2 (d8.mp z))]
 refine r8 (u3x ?_)
 refine r8 (u0N (u0G (I:=λx c t=>Sm st t/\c.1=none/\(0 < c.2.1/\1 < c.2.2.1)/\MH κ v u c.2.2.2.1 c.2.1 c.2.2.1/\x+(c.2.1+c.2.2.1)<=v.size+u.size) (Q:=λc t=>Sm st t/\∃ r,c.1=some r/\Fn κ v u r)
  (λx c t _ _ hI=>?_) (λc t hI=>?_) ⟨Sm.refl _,rfl,⟨by show 0 < v.size - 1;omega,by show 1 < u.size;omega⟩,m1,by show 0+(v.size - 1+u.size)<=v.size+u.size;omega⟩) λy t hI=>?_)
 .obtain⟨hs,b1,b2,b3,b4⟩:=hI
  refine u0N (zhL L (hs.kd.trans hk) T bot b3 b2) λr t2 h=>?_
  obtain⟨hs2,hr⟩:=h
  cases r with
  | done c'=>exact⟨hs.trans hs2,hr⟩
  | yield c'=>exact⟨hs.trans hs2,hr.1,hr.2.1,hr.2.2.1,by have:=hr.2.2.2;omega⟩
 .obtain⟨hs,b1,b2,b3,b4⟩:=hI
  exfalso
  have:max 0 (v.size+u.size)=v.size+u.size:=by omega
  omega
 .obtain⟨hs,r,e,hr⟩:=hI
  rw[e]
  exact d6 (h r t hs hr)
end
abbrev Pd:=Array (Nat × Nat × Nat)
theorem zl7 (i:Nat):mergeAt' i=(do
 let z<-get
 let (some (a,m,p),some (b,n,_)):=((pendingOf z)[i]?,(pendingOf z)[i+1]?) | (unsupported ("internal:list.sort.pending"))
 set (setPending z (((pendingOf z).setIfInBounds i (a,m+n,p)).eraseIdxIfInBounds (i+1)))
 let some k<-gal false (<- elem' (arrOf z) b) (arrOf z) a m 0 | return false
 let (a,m):=(a+k,m - k)
 if m == 0 then return true
 let some n<-gal true (<- elem' (arrOf z) (a+m - 1)) (arrOf z) b n (n - 1) | return false
 if n == 0 then return true
 let x:=(arrOf z).extract a b
 let y:=(arrOf z).extract b (b+n)
 let r<-if m<=n then mlo x y else mhi x y
 modify λs=>setArr s (r.toList.zipIdx.foldl (λx (y,j)=>x.setIfInBounds (a+j) y) (arrOf s))
 return (failedOf (<- get)).isNone):=rfl
theorem zih:∀ (m:List Keyed) (x:KA) (b n:Nat),b+n+m.length<=x.size->((m.zipIdx n).foldl (λx z=>x.setIfInBounds (b+z.2) z.1) x).toList=x.toList.take (b+n)++m++x.toList.drop (b+n+m.length):=by
 intro m
 induction m with
 | nil=>intro x b n h;simp
 | cons y m ih =>
  intro x b n h
  rw[u0d]at h
  rw[u2z,List.foldl_cons]
  rw[ih (x.setIfInBounds (b+n) y) b (n+1) (by rw[Array.size_setIfInBounds];omega)]
  rw[u2Y,u0d,show b+(n+1)=b+n+1 by omega,show b+n+1+m.length=b+n+(m.length+1) by omega]
  have hl:b+n < x.toList.length:=by rw[j8];omega
  rw[List.drop_set_of_lt (by omega),List.take_set]
  have e1:(x.toList.take (b+n+1)).set (b+n) y=x.toList.take (b+n)++[y]:=by
   rw[u1t,j6 hl]
   have:(x.toList.take (b+n)).length=b+n:=by rw[p5];omega
   rw[List.set_append_right _ _ (by omega),this,u3a]
   rfl
  rw[e1,b9,b9,b9]
  rfl
theorem ZS {l:List Keyed}{a m k:Nat}(h:k<=m):l.take (a+k)=l.take a++((l.drop a).take m).take k:=by
 rw[List.take_add,u1J,u0U h]
theorem zhf {l:List Keyed}{b n q:Nat}(h:q<=n)(hl:b+n<=l.length):l.drop (b+q)=((l.drop b).take n).drop q++l.drop (b+n):=by
 have e:(l.drop b).take n++(l.drop b).drop n=l.drop b:=i6 n (l.drop b)
 rw[<-u04,<- u04]
 have e2:(l.drop b).drop q=((l.drop b).take n++(l.drop b).drop n).drop q:=by rw[e]
 rw[e2,u1C (by rw[p5,u0p];omega)]
theorem zko {prog:Program}{w:World}{A:Around}{E:Value->Shared->Prop}{s:Shared}{st z:SortSt}{Q:PUnit->SortSt->Prop}(h:Q ⟨⟩ z):wpS (model prog w) A E s (set z:SM PUnit) Q st:=u2L (f:=λ_=>z) h
section
variable {prog:Program}{w:World}{A:Around}{E:Value->Shared->Prop}{s:Shared}{st:SortSt}{κ:KeyKind}{k:SortKind}{D:Keyed->Prop}
theorem zmw {l r:List Keyed}{q:Keyed}(sl:l.Pairwise (LE κ))(sr:r.Pairwise (LE κ))(h1:∀ x∈l,LE κ x q)(h2:∀ y∈r,LE κ q y):(l++r).Pairwise (LE κ):=by
 rw[u0D]
 exact⟨sl,sr,λx hx y hy=>LE.trans (h1 x hx) (h2 y hy)⟩
theorem zjH {P:Bool->SortSt->Prop}{i a m p b n x:Nat}{l S1 S2:List Keyed}(L:LtE prog w A E s κ k D)(hk:kindOf st=k)(hf:failedOf st=none)(h1:(pendingOf st)[i]?=some (a,m,p))(h2:(pendingOf st)[i+1]?=some (b,n,x))
 (el:(arrOf st).toList=l) (hd:∀ x∈l,D x) (hb:a+m=b) (hn:b+n<=l.length) (m0:0 < m) (n0:0 < n) (e1:(l.drop a).take m=S1) (e2:(l.drop b).take n=S2) (s1:S1.Pairwise (LE κ)) (s2:S2.Pairwise (LE κ))
 (h:∀ t M,kindOf t=k->failedOf t=none->pendingOf t=((pendingOf st).setIfInBounds i (a,m+n,p)).eraseIdxIfInBounds (i+1)->(arrOf t).toList=l.take a++M++l.drop (b+n)->M.Perm (S1++S2)->M.Pairwise (LE κ)->P true t):wpS (model prog w) A E s (mergeAt' i) P st:=by
 have hsz:(arrOf st).size=l.length:=by rw[<-el,j8]
 have l1:S1.length=m:=by rw[<-e1,p5,u0p];omega
 have l2:S2.length=n:=by rw[<-e2,p5,u0p];omega
 have whole:l=l.take a++(S1++S2)++l.drop (b+n):=by
  have q1:=ZS (l:=l) (a:=a) (q5 m)
  rw[e1,show S1.take m=S1 from u0i (by omega),hb]at q1
  have q2:=ZS (l:=l) (a:=b) (q5 n)
  rw[e2,show S2.take n=S2 from u0i (by omega),q1]at q2
  have q3:=i6 (b+n) l
  rw[q2]at q3
  rw[<-b9]
  exact q3.symm
 have get1:∀ {i x},S1[i]?=some x->l[a+i]?=some x:=λ{i x} e=>by
  have hi:i < m:=by have:=(t7.mp e).1;omega
  rw[<-e1,u0j hi,u1j]at e
  exact e
 have get2:∀ {i x},S2[i]?=some x->l[b+i]?=some x:=λ{i x} e=>by
  have hi:i < n:=by have:=(t7.mp e).1;omega
  rw[<-e2,u0j hi,u1j]at e
  exact e
 have d1:∀ x∈S1,D x:=λx hx=>hd x (by rw[<-e1]at hx;exact u0b (u0k hx))
 have d2:∀ x∈S2,D x:=λx hx=>hd x (by rw[<-e2]at hx;exact u0b (u0k hx))
 rw[zl7]
 refine r8 (u3x ?_)
 dsimp only
 rw[h1,h2]
 dsimp only
 refine r8 (zko ?_)
 obtain⟨y0,hy0⟩:∃ y,S2[0]?=some y:=⟨_,j6 (by omega)⟩
 refine r8 (zF (by rw[el];exact get2 hy0) ?_)
 have hy2:∀ y∈S2,LE κ y0 y:=λy hy=>X9 (LE.refl (κ:=κ)) s2 hy0 y (by rw[u1V];exact hy)
 have hkz:kindOf (setPending st (((pendingOf st).setIfInBounds i (a,m+n,p)).eraseIdxIfInBounds (i+1)))=k:=hk
 refine r8 (zai L hkz (d2 y0 (j4 hy0)) (λz hz=>d1 z (by rw[el,e1]at hz;exact hz)) (by rw[el];omega) (by omega) (by rw[el,e1];exact s1) λc hc g1 g2=>?_)
 rw[el,e1]at g1 g2
 dsimp only
 by_cases c0:m - c=0
 .rw[t9 (d8.mpr c0)]
  refine d6 (h _ (S1++S2) hk hf rfl (by show(arrOf st).toList=_;rw[el];exact whole) (u1I _) (zmw s1 s2 (λx hx=>g1 x ?_) hy2))
  rw[u0i (by omega)]
  exact hx
 rw[j0 (λz=>c0 (d8.mp z))]
 obtain⟨x0,hx0⟩:∃ x,S1[m - 1]?=some x:=⟨_,j6 (by omega)⟩
 refine r8 (zF (x:=x0) (by rw[el,show a+c+(m - c) - 1=a+(m - 1) by omega];exact get1 hx0) ?_)
 have hx2:∀ x∈S1,LE κ x x0:=λx hx=>zbQ s1 (i:=m) (by omega) hx0 x (by rw[u0i (by omega)];exact hx)
 refine r8 (zaB L hkz (d1 x0 (j4 hx0)) (λz hz=>d2 z (by rw[el,e2]at hz;exact hz)) (by rw[el];omega) (by omega) (by rw[el,e2];exact s2) λq hq g3 g4=>?_)
 rw[el,e2]at g3 g4
 dsimp only
 by_cases q0:q=0
 .rw[t9 (d8.mpr q0)]
  subst q0
  exact d6 (h _ (S1++S2) hk hf rfl (by show(arrOf st).toList=_;rw[el];exact whole) (u1I _) (zmw s1 s2 hx2 g4))
 rw[j0 (λz=>q0 (d8.mp z))]
 have ev:((arrOf st).extract (a+c) b).toList=S1.drop c:=by
  rw[wt,el,<- e1,u2s,u04,show b - (a+c)=m - c by omega]
 have eu:((arrOf st).extract b (b+q)).toList=S2.take q:=by
  rw[wt,el,<- e2,u1J,u1a,u0U hq]
 have T:Two κ D ((arrOf st).extract (a+c) b) ((arrOf st).extract b (b+q)):=by
  refine⟨?_,?_,?_,?_⟩
  .rw[ev];exact λx hx=>d1 x (u0b hx)
  .rw[eu];exact λx hx=>d2 x (u0k hx)
  .rw[ev];exact s1.sublist (u0Z _ _)
  .rw[eu];exact s2.sublist (u1u _ _)
 have zv:((arrOf st).extract (a+c) b).size=m - c:=by rw[<-j8,ev,u0p];omega
 have zu:((arrOf st).extract b (b+q)).size=q:=by rw[<-j8,eu,p5];omega
 have top:∀ y∈((arrOf st).extract b (b+q)).toList,∀ x,((arrOf st).extract (a+c) b).toList[((arrOf st).extract (a+c) b).size - 1]?=some x->LE κ y x:=by
  intro y hy x hx
  rw[eu]at hy
  rw[zv,ev,u1j,show c+(m - c - 1)=m - 1 by omega,hx0]at hx
  cases hx
  exact u0q (g3 y hy)
 have bot:∀ x∈((arrOf st).extract (a+c) b).toList,∀ y,((arrOf st).extract b (b+q)).toList[0]?=some y->LE κ y x:=by
  intro x hx y hy
  rw[ev]at hx
  rw[eu,u0j (by omega),hy0]at hy
  cases hy
  exact u0q (g2 x hx)
 have fin:∀ r t,Sm (setPending st (((pendingOf st).setIfInBounds i (a,m+n,p)).eraseIdxIfInBounds (i+1))) t->Fn κ ((arrOf st).extract (a+c) b) ((arrOf st).extract b (b+q)) r->wpS (model prog w) A E s (do
  modify λs=>setArr s (r.toList.zipIdx.foldl (λx z=>x.setIfInBounds (a+c+z.2) z.1) (arrOf s))
  let z<-get
  pure (failedOf z).isNone:SM Bool) P t:=λr t hs hr=>by
  refine r8 (u2L (r8 (u3x ?_)))
  have hf':failedOf t=none:=hs.fl.trans hf
  show wpS _ _ _ _ (pure (failedOf t).isNone) _ _
  rw[hf']
  have ha:arrOf t=arrOf st:=hs.ar
  obtain⟨rp,rs⟩:=hr
  rw[ev,eu]at rp
  have rl:r.toList.length=m - c+q:=by rw[rp.length_eq,r0,u0p,p5];omega
  refine d6 (h _ (S1.take c++r.toList++S2.drop q) (hs.kd.trans hk) hf' hs.pd ?_ ?_ ?_)
  .show((r.toList.zipIdx.foldl (λx z=>x.setIfInBounds (a+c+z.2) z.1) (arrOf t))).toList=_
   rw[ha,zih r.toList (arrOf st) (a+c) 0 (by rw[rl,hsz];omega),el,Nat.add_zero,rl,show a+c+(m - c+q)=b+q by omega,ZS (l:=l) (a:=a) hc,e1,zhf hq hn,e2]
   simp only[b9]
  .refine((rp.append_left (S1.take c)).append_right (S2.drop q)).trans ?_
   rw[<-b9,i6,b9,i6]
  .rw[b9]
   have s3:(r.toList++S2.drop q).Pairwise (LE κ):=by
    rw[u0D]
    refine⟨rs,s2.sublist (u0Z _ _),λx hx y hy=>?_⟩
    rcases o0.mp (rp.mem_iff.mp hx)with hx | hx
    .exact LE.trans (hx2 x (u0b hx)) (g4 y hy)
    .have:=i6 q S2
     rw[<-this,u0D]at s2
     exact s2.2.2 x hx y hy
   rw[u0D]
   refine⟨s1.sublist (u1u _ _),s3,λx hx y hy=>?_⟩
   rcases o0.mp hy with hy | hy
   .rcases o0.mp (rp.mem_iff.mp hy)with hy | hy
    .have:=i6 c S1
     rw[<-this,u0D]at s1
     exact s1.2.2 x hx y hy
    .exact LE.trans (g1 x hx) (hy2 y (u0k hy))
   .exact LE.trans (g1 x hx) (hy2 y (u0b hy))
 by_cases cc:m - c<=q
 .rw[t9 cc]
  exact r8 (zkN L hkz T (by omega) (by omega) top bot fin)
 .rw[j0 cc]
  exact r8 (zj6 L hkz T (by omega) (by omega) top bot fin)
end
def zmr (lo a n:Nat):SM AscSt :=
 forIn [a:n] ((none,a):AscSt) λ_ c=>do
  let some z<-ltAt' (lo+c.2) (lo+c.2 - 1) | pure (.done (some none,c.2))
  if z=true then pure (.done (none,c.2))else pure (.yield (none,c.2+1))
def zeW (lo n m:Nat):SM (Option Nat):=do
 reverseSlice' lo (lo+n)
 let c<-zmr lo n m
 match c.1 with
 | some r=>pure r
 | none=>pure (some c.2)
def zhK (lo n m:Nat):SM DescSt :=
 forIn [n:m] ((none,n,0):DescSt) λ_ c=>do
  let some z<-ltAt' (lo+c.2.1) (lo+c.2.1 - 1) | pure (.done (some none,c.2.1,c.2.2))
  if z=true then
   if c.2.2 > 0 then do
    reverseSlice' (lo+c.2.1 - (c.2.2+1)) (lo+c.2.1)
    pure (.yield (none,c.2.1+1,0))
   else pure (.yield (none,c.2.1+1,0))
  else do
   let some y<-ltAt' (lo+c.2.1 - 1) (lo+c.2.1) | pure (.done (some none,c.2.1,c.2.2))
   if y=true then pure (.done (none,c.2.1,c.2.2))else pure (.yield (none,c.2.1+1,c.2.2+1))
def zfe (lo n m:Nat):SM (Option Nat):=do
 (rule ("list.sort.descending-run"))
 let c<-zhK lo (n+1) m
 match c.1 with
 | some r=>pure r
 | none =>
  if c.2.2 > 0 then do
   reverseSlice' (lo+c.2.1 - (c.2.2+1)) (lo+c.2.1)
   zeW lo c.2.1 m
  else zeW lo c.2.1 m
theorem ze5 (lo m:Nat):countRun' lo m=(do
 let c<-zmr lo 1 m
 match c.1 with
 | some r=>pure r
 | none =>
  if (c.2 == m)=true then pure (some c.2)
  else if c.2 > 1 then do
   let some z<-ltAt' lo (lo+c.2 - 1) | pure none
   if z=true then pure (some c.2)else do
    reverseSlice' lo (lo+c.2)
    zfe lo c.2 m
  else zfe lo c.2 m):=by
 rw[countRun'_eq]
 unfold zfe zeW zhK zmr
 dsimp only
 congr 1
 funext c
 obtain⟨r,n⟩:=c
 cases r with
 | some r=>rfl
 | none =>
  dsimp only
  split
  .rfl
  .split
   .congr 1
    funext x
    cases x with
    | none=>rfl
    | some z =>
     dsimp only
     split
     .rfl
     .congr 1;funext _;congr 1;funext _;congr 1;funext d
      obtain⟨r2,n2,q2⟩:=d
      cases r2 with
      | some r2=>rfl
      | none =>
       dsimp only
       split
       .congr 1;funext _;congr 1;funext _;congr 1;funext e
        obtain⟨r3,n3⟩:=e
        cases r3 <;> rfl
       .congr 1;funext _;congr 1;funext e
        obtain⟨r3,n3⟩:=e
        cases r3 <;> rfl
   .congr 1;funext _;congr 1;funext d
    obtain⟨r2,n2,q2⟩:=d
    cases r2 with
    | some r2=>rfl
    | none =>
     dsimp only
     split
     .congr 1;funext _;congr 1;funext _;congr 1;funext e
      obtain⟨r3,n3⟩:=e
      cases r3 <;> rfl
     .congr 1;funext _;congr 1;funext e
      obtain⟨r3,n3⟩:=e
      cases r3 <;> rfl
structure SL (k:SortKind) (a₀ X:KA) (lo:Nat) (p:Pd) (st:SortSt):Prop where
 pm:(arrOf st).Perm a₀
 kd:kindOf st=k
 fl:failedOf st=none
 pd:pendingOf st=p
 bl:∀ i,i < lo->(arrOf st)[i]?=X[i]?
def SO (κ:KeyKind)(xs:KA)(lo n:Nat):Prop:=∀ i j,i<=j->j < n->κ.kle (KK κ xs (lo+i)) (KK κ xs (lo+j))
def NO (κ:KeyKind)(xs:KA)(lo n:Nat):Prop:=∀ i j,i<=j->j < n->κ.kle (KK κ xs (lo+j)) (KK κ xs (lo+i))
section
variable {prog:Program}{w:World}{A:Around}{E:Value->Shared->Prop}{s:Shared}{st:SortSt}{κ:KeyKind}{k:SortKind}{a₀ X:KA}{lo:Nat}{p:Pd}
theorem SL.sz (S:SL k a₀ X lo p st):(arrOf st).size=a₀.size:=S.pm.size_eq
theorem SL.put (S:SL k a₀ X lo p st){ys:KA}(h:ys.Perm (arrOf st))(b:∀ i,i < lo->ys[i]?=(arrOf st)[i]?):SL k a₀ X lo p (setArr st ys):=⟨h.trans S.pm,S.kd,S.fl,S.pd,λi hi=>(b i hi).trans (S.bl i hi)⟩
theorem SL.mirror (S:SL k a₀ X lo p st){i j:Nat}(hi:lo<=i)(hj:j<=a₀.size):SL k a₀ X lo p (setArr st (mirror (arrOf st) i j ((j - i) / 2))) :=
 S.put (mirror_perm _ _ _ _) λq hq=>by rw[getElem?_mirror_all (by rw[S.sz];exact hj),j0 (by omega)]
theorem zfO {xs:KA}{i:Nat}{x:Keyed}(h:xs[i]?=some x):KK κ xs i=ky κ x:=by
 unfold KK
 rw[h]
 rfl
theorem ZW {i j:Nat}{Q:Option Bool->SortSt->Prop}(L:LtE prog w A E s κ k (·∈a₀.toList))(S:SL k a₀ X lo p st)(hi:i < a₀.size)(hj:j < a₀.size)(q:Q (some (κ.blt (KK κ (arrOf st) i) (KK κ (arrOf st) j))) st):wpS (model prog w) A E s (ltAt' i j) Q st:=by
 have look:∀ {i},i < a₀.size->∃ x,(arrOf st)[i]?=some x/\x∈a₀.toList:=λ{i} hi=>by
  have hi':i < (arrOf st).size:=by rw[S.sz];exact hi
  exact⟨(arrOf st)[i],getElem?_pos _ i hi',(u0X.mp S.pm).mem_iff.mp (by simp)⟩
 obtain⟨x,e1,m1⟩:=look hi
 obtain⟨y,e2,m2⟩:=look hj
 rw[zfO e1,zfO e2]at q
 rw[ltAt'_eq]
 refine r8 (u3x ?_)
 show wpS _ _ _ _ (elem' (arrOf st) i>>=λx=>elem' (arrOf st) j>>=λy=>lt' x y) Q st
 rw[elem'_eq,elem'_eq,e1,e2]
 exact r8 (d6 (r8 (d6 (L _ _ _ _ S.kd m1 m2 q))))
theorem SO.up {xs:KA}{x:Nat}(h:SO κ xs lo x)(hx:1<=x)(e:κ.kle (KK κ xs (lo+x - 1)) (KK κ xs (lo+x))):SO κ xs lo (x+1):=λi j hij hj=>by
 by_cases c:j < x
 .exact h i j hij c
 .obtain rfl:j=x:=by omega
  by_cases d:i=j
  .rw[d];exact u1d _
  .have:=h i (j - 1) (by omega) (by omega)
   rw[show lo+(j - 1)=lo+j - 1 by omega]at this
   exact u1Z this e
theorem NO.down {xs:KA}{x:Nat}(h:NO κ xs lo x)(hx:1<=x)(e:κ.kle (KK κ xs (lo+x)) (KK κ xs (lo+x - 1))):NO κ xs lo (x+1):=λi j hij hj=>by
 by_cases c:j < x
 .exact h i j hij c
 .obtain rfl:j=x:=by omega
  by_cases d:i=j
  .rw[d];exact u1d _
  .have:=h i (j - 1) (by omega) (by omega)
   rw[show lo+(j - 1)=lo+j - 1 by omega]at this
   exact u1Z e this
theorem SO.one {xs:KA}:SO κ xs lo 1:=λi j hij hj=>by
 obtain rfl:i=j:=by omega
 exact u1d _
theorem NO.one {xs:KA}:NO κ xs lo 1:=λi j hij hj=>by
 obtain rfl:i=j:=by omega
 exact u1d _
theorem NO.of {xs ys:KA}{n:Nat}(h:NO κ xs lo n)(e:∀ i,KK κ ys i=KK κ xs i):NO κ ys lo n:=λi j hij hj=>by rw[e,e];exact h i j hij hj
theorem NO.turn {xs:KA}{n:Nat}(h:NO κ xs lo n)(hn:lo+n<=xs.size):SO κ (mirror xs lo (lo+n) ((lo+n - lo) / 2)) lo n:=λi j hij hj=>by
 rw[KK_mirror hn,KK_mirror hn,t9 ⟨by omega,by omega⟩,t9 ⟨by omega,by omega⟩]
 have:=h (n - 1 - j) (n - 1 - i) (by omega) (by omega)
 rw[show lo+(n - 1 - i)=lo+(lo+n) - 1 - (lo+i) by omega,show lo+(n - 1 - j)=lo+(lo+n) - 1 - (lo+j) by omega]at this
 exact this
theorem zcR {a n:Nat}{Q:AscSt->SortSt->Prop}(L:LtE prog w A E s κ k (·∈a₀.toList))(hn:lo+n<=a₀.size)(ha:1<=a)(han:a<=n)(S:SL k a₀ X lo p st)(hs:SO κ (arrOf st) lo a)
 (h:∀ m,a<=m->m<=n->SO κ (arrOf st) lo m->(m=n\/κ.klt (KK κ (arrOf st) (lo+m)) (KK κ (arrOf st) (lo+m - 1)))->Q (none,m) st):wpS (model prog w) A E s (zmr lo a n) Q st:=by
 unfold zmr
 refine u0G (I:=λx c t=>(t=st/\c=(none,x))/\SO κ (arrOf st) lo x) (λx c t h1 h2 hI=>?_) (λc t hI=>?_) ⟨⟨rfl,rfl⟩,hs⟩
 .obtain⟨⟨rfl,rfl⟩,hx⟩:=hI
  refine r8 (ZW L S (by omega) (by omega) ?_)
  dsimp only
  cases c:κ.blt (KK κ (arrOf t) (lo+x)) (KK κ (arrOf t) (lo+x - 1)) with
  | true=>exact d6 (h x h1 (by omega) hx (.inr c))
  | false=>exact d6 ⟨⟨rfl,rfl⟩,hx.up (by omega) c⟩
 .obtain⟨⟨rfl,rfl⟩,hx⟩:=hI
  have e:max a n=n:=by omega
  rw[e]at hx ⊢
  exact h n han (q5 _) hx (.inl rfl)
theorem za1 {n m:Nat}{Q:Option Nat->SortSt->Prop}(L:LtE prog w A E s κ k (·∈a₀.toList))(hm:lo+m<=a₀.size)(h1:1<=n)(hnm:n<=m)(S:SL k a₀ X lo p st)(hs:NO κ (arrOf st) lo n)
 (h:∀ r t,SL k a₀ X lo p t->1<=r->r<=m->SO κ (arrOf t) lo r->Q (some r) t):wpS (model prog w) A E s (zeW lo n m) Q st:=by
 unfold zeW
 have S':=S.mirror (i:=lo) (j:=lo+n) (q5 _) (by omega)
 exact r8 (wpS_reverse (r8 (zcR L hm h1 hnm S' (hs.turn (by rw[S.sz];omega)) λr g1 g2 g3 _=>d6 (h r _ S' (by omega) g2 g3))))
theorem zfr {n m:Nat}{Q:DescSt->SortSt->Prop}(L:LtE prog w A E s κ k (·∈a₀.toList))(hm:lo+m<=a₀.size)(h1:1<=n)(hnm:n<=m)(S:SL k a₀ X lo p st)(hs:NO κ (arrOf st) lo n)
 (h:∀ r q t,SL k a₀ X lo p t->n<=r->r<=m->NO κ (arrOf t) lo r->q+1<=r->(∀ i,lo+r - (q+1)<=i->i < lo+r->KK κ (arrOf t) i=KK κ (arrOf t) (lo+r - 1))->Q (none,r,q) t):wpS (model prog w) A E s (zhK lo n m) Q st:=by
 unfold zhK
 refine u0G (I:=λx c t=>∃ q,c=(none,x,q)/\SL k a₀ X lo p t/\NO κ (arrOf t) lo x/\q+1<=x/\∀ i,lo+x - (q+1)<=i->i < lo+x->KK κ (arrOf t) i=KK κ (arrOf t) (lo+x - 1))
  (λx c t g1 g2 hI=>?_) (λc t hI=>?_) ⟨0,rfl,S,hs,h1,λi c1 c2=>by rw[show i=lo+n - 1 by omega]⟩
 .obtain⟨q,rfl,S1,ni,hq,he⟩:=hI
  dsimp only
  refine r8 (ZW L S1 (by omega) (by omega) ?_)
  dsimp only
  cases c:κ.blt (KK κ (arrOf t) (lo+x)) (KK κ (arrOf t) (lo+x - 1)) with
  | true =>
   have d:=ni.down (by omega) (u0q c)
   rw[t9 rfl]
   by_cases hq0:q > 0
   .rw[t9 hq0]
    exact r8 (wpS_reverse (d6 ⟨0,rfl,S1.mirror (by omega) (by omega),d.of (KK_mirror_equal (by rw[S1.sz];omega) he),by omega,λi c1 c2=>by rw[show i=lo+(x+1) - 1 by omega]⟩))
   .rw[j0 hq0]
    exact d6 ⟨0,rfl,S1,d,by omega,λi c1 c2=>by rw[show i=lo+(x+1) - 1 by omega]⟩
  | false =>
   rw[j0 u6]
   refine r8 (ZW L S1 (by omega) (by omega) ?_)
   dsimp only
   cases c2:κ.blt (KK κ (arrOf t) (lo+x - 1)) (KK κ (arrOf t) (lo+x)) with
   | true=>exact d6 (h x q t S1 g1 (by omega) ni hq he)
   | false =>
    have same:KK κ (arrOf t) (lo+x)=KK κ (arrOf t) (lo+x - 1):=KeyOrd.kle_antisymm c2 c
    refine d6 ⟨q+1,rfl,S1,ni.down (by omega) c2,by omega,λi d1 d2=>?_⟩
    show KK κ (arrOf t) i=KK κ (arrOf t) (lo+x)
    by_cases di:i=lo+x
    .rw[di]
    .rw[same];exact he i (by omega) (by omega)
 .obtain⟨q,rfl,S1,ni,hq,he⟩:=hI
  have e:max n m=m:=by omega
  rw[e]at ni hq he ⊢
  exact h m q t S1 hnm (q5 _) ni hq he
theorem zaJ {n m:Nat}{Q:Option Nat->SortSt->Prop}(L:LtE prog w A E s κ k (·∈a₀.toList))(hm:lo+m<=a₀.size)(hnm:n+1<=m)(S:SL k a₀ X lo p st)(hs:NO κ (arrOf st) lo (n+1))
 (h:∀ r t,SL k a₀ X lo p t->1<=r->r<=m->SO κ (arrOf t) lo r->Q (some r) t):wpS (model prog w) A E s (zfe lo n m) Q st:=by
 unfold zfe
 refine r8 (wpS_lift (u1y ⟨rfl,r8 (zfr L hm (by omega) hnm S hs λr q t S1 r1 r2 ni hq he=>?_)⟩))
 dsimp only
 by_cases hq0:q > 0
 .rw[t9 hq0]
  exact r8 (wpS_reverse (za1 (n:=r) L hm (by omega) r2 (S1.mirror (by omega) (by omega)) (ni.of (KK_mirror_equal (by rw[S1.sz];omega) he)) h))
 .rw[j0 hq0]
  exact za1 (n:=r) L hm (by omega) r2 S1 ni h
theorem zd2 {m:Nat}{Q:Option Nat->SortSt->Prop}(L:LtE prog w A E s κ k (·∈a₀.toList))(hm:lo+m<=a₀.size)(h1:1<=m)(S:SL k a₀ X lo p st)
 (h:∀ r t,SL k a₀ X lo p t->1<=r->r<=m->SO κ (arrOf t) lo r->Q (some r) t):wpS (model prog w) A E s (countRun' lo m) Q st:=by
 rw[ze5]
 refine r8 (zcR L hm (q5 1) h1 S SO.one λn n1 n2 sn or=>?_)
 dsimp only
 by_cases e:n=m
 .rw[t9 (by rw[e];exact u1G m)]
  exact d6 (h n st S n1 n2 sn)
 .rw[j0 (λz=>e (eq_of_beq z))]
  have lt:=or.resolve_left e
  by_cases g:n > 1
  .rw[t9 g]
   refine r8 (ZW L S (by omega) (by omega) ?_)
   dsimp only
   cases c:κ.blt (KK κ (arrOf st) lo) (KK κ (arrOf st) (lo+n - 1)) with
   | true=>exact d6 (h n st S n1 n2 sn)
   | false =>
    have eq:∀ i,lo<=i->i < lo+n->KK κ (arrOf st) i=KK κ (arrOf st) (lo+n - 1):=λi hl hi=>by
     have z1:=sn (i - lo) (n - 1) (by omega) (by omega)
     have z2:=sn 0 (i - lo) (by omega) (by omega)
     rw[show lo+(i - lo)=i by omega,show lo+(n - 1)=lo+n - 1 by omega]at z1
     rw[show lo+(i - lo)=i by omega,Nat.add_zero]at z2
     exact KeyOrd.kle_antisymm z1 (u1Z c z2)
    have ni:NO κ (arrOf st) lo n:=λi j _ hj=>by rw[eq (lo+i) (by omega) (by omega),eq (lo+j) (by omega) (by omega)];exact u1d _
    rw[j0 u6]
    exact r8 (wpS_reverse (zaJ L hm (by omega) (S.mirror (q5 _) (by omega)) ((ni.down (by omega) (u0q lt)).of (KK_mirror_equal (by rw[S.sz];omega) eq)) h))
  .rw[j0 g]
   obtain rfl:n=1:=by omega
   exact zaJ L hm (by omega) S (NO.one.down (q5 1) (u0q lt)) h
theorem SL.bubble (S:SL k a₀ X lo p st){x l:Nat}(hl:l<=x)(hx:lo+x < a₀.size):SL k a₀ X lo p (setArr st (bubble (arrOf st) (lo+x) (lo+x - (lo+l)))) :=
 S.put (bubble_perm _ _ _) λq hq=>by rw[getElem?_bubble (by rw[S.sz];exact hx) _ (by omega),j0 (by omega),j0 (by omega)]
theorem zkf {xs:KA}{x l:Nat}(hz:lo+x < xs.size)(hl:l<=x)(sx:SO κ xs lo x)(low:∀ i,i < l->κ.kle (KK κ xs (lo+i)) (KK κ xs (lo+x)))(up:∀ i,l<=i->i < x->κ.klt (KK κ xs (lo+x)) (KK κ xs (lo+i))):SO κ (bubble xs (lo+x) (lo+x - (lo+l))) lo (x+1):=by
 have key:∀ i,i < x+1->KK κ (bubble xs (lo+x) (lo+x - (lo+l))) (lo+i)=if i=l then KK κ xs (lo+x)else if l < i then KK κ xs (lo+(i - 1))else KK κ xs (lo+i):=λi hi=>by
  rw[KK_bubble hz (by omega)]
  by_cases c:i=l
  .rw[t9 (by omega),t9 c]
  .rw[j0 (by omega),j0 c]
   by_cases c2:l < i
   .rw[t9 ⟨by omega,by omega⟩,t9 c2,show lo+i - 1=lo+(i - 1) by omega]
   .rw[j0 (by omega),j0 c2]
 intro i j hij hj
 rw[key i (by omega),key j hj]
 by_cases i1:i=l
 .rw[t9 i1]
  by_cases j1:j=l
  .rw[t9 j1];exact u1d _
  .rw[j0 j1,t9 (by omega)]
   exact u0q (up (j - 1) (by omega) (by omega))
 .rw[j0 i1]
  by_cases i2:l < i
  .rw[t9 i2,j0 (by omega),t9 (by omega)]
   exact sx (i - 1) (j - 1) (by omega) (by omega)
  .rw[j0 i2]
   by_cases j1:j=l
   .rw[t9 j1];exact low i (by omega)
   .rw[j0 j1]
    by_cases j2:l < j
    .rw[t9 j2];exact sx i (j - 1) (by omega) (by omega)
    .rw[j0 j2];exact sx i j hij (by omega)
theorem ziQ {n r:Nat}{Q:Bool->SortSt->Prop}(L:LtE prog w A E s κ k (·∈a₀.toList))(hn:lo+n<=a₀.size)(hr:r<=n)(h1:1<=r)(S:SL k a₀ X lo p st)(hs:SO κ (arrOf st) lo r)
 (h:∀ t,SL k a₀ X lo p t->SO κ (arrOf t) lo n->Q true t):wpS (model prog w) A E s (binarySort' lo n r) Q st:=by
 rw[binarySort'_eq]
 rw[show max r 1=r by omega]
 refine r8 (u0N (u0G (I:=λx c t=>c=(none,())/\SL k a₀ X lo p t/\SO κ (arrOf t) lo x) (Q:=λc t=>c=(none,())/\SL k a₀ X lo p t/\SO κ (arrOf t) lo n)
  (λx c t g1 g2 hI=>?_) (λc t hI=>?_) ⟨rfl,S,hs⟩) λc t hI=>?_)
 .obtain⟨rfl,S1,sx⟩:=hI
  refine r8 (u0N (u0G
   (I:=λy c t'=>t'=t/\∃ l u,c=(none,l,u)/\(l<=u/\u<=x/\u - l<=x - y)/\(∀ i,i < l->κ.kle (KK κ (arrOf t) (lo+i)) (KK κ (arrOf t) (lo+x)))/\∀ i,u<=i->i < x->κ.klt (KK κ (arrOf t) (lo+x)) (KK κ (arrOf t) (lo+i)))
   (Q:=λc t'=>t'=t/\∃ l u,c=(none,l,u)/\l<=x/\(∀ i,i < l->κ.kle (KK κ (arrOf t) (lo+i)) (KK κ (arrOf t) (lo+x)))/\∀ i,l<=i->i < x->κ.klt (KK κ (arrOf t) (lo+x)) (KK κ (arrOf t) (lo+i)))
   (λy c t' y1 y2 hJ=>?_) (λc t' hJ=>?_) ⟨rfl,0,x,rfl,⟨u0P _,q5 _,q5 _⟩,λi hi=>absurd hi (u3Q _),λi i1 i2=>absurd (p6 i1 i2) (u0K _)⟩) λc t' hJ=>?_)
  .obtain⟨rfl,l,u,rfl,⟨e1,e2,e3⟩,low,up⟩:=hJ
   dsimp only
   by_cases c1:l >= u
   .rw[t9 c1]
    obtain rfl:l=u:=by omega
    exact d6 ⟨rfl,l,l,rfl,e2,low,up⟩
   .rw[j0 c1]
    obtain⟨md,hmd⟩:∃ md,(l+u) / 2=md:=⟨_,rfl⟩
    rw[hmd]
    have m1:l<=md/\md < u:=by omega
    refine r8 (ZW L S1 (by omega) (by omega) ?_)
    dsimp only
    cases c2:κ.blt (KK κ (arrOf t') (lo+x)) (KK κ (arrOf t') (lo+md)) with
    | true=>exact d6 ⟨rfl,l,md,rfl,⟨m1.1,by omega,by omega⟩,low,λi i1 i2=>KeyOrd.klt_of_klt_of_kle c2 (sx md i i1 i2)⟩
    | false=>exact d6 ⟨rfl,md+1,u,rfl,⟨by omega,e2,by omega⟩,λi i1=>u1Z (sx i md (by omega) (by omega)) c2,up⟩
  .obtain⟨rfl,l,u,rfl,⟨e1,e2,e3⟩,low,up⟩:=hJ
   obtain rfl:l=u:=by omega
   exact⟨rfl,l,l,rfl,e2,low,up⟩
  .obtain⟨rfl,l,u,rfl,e2,low,up⟩:=hJ
   dsimp only
   rw[moveDown'_eq]
   exact r8 (u2L (d6 ⟨rfl,S1.bubble e2 (by omega),zkf (by rw[S1.sz];omega) e2 sx low up⟩))
 .obtain⟨e1,S1,sx⟩:=hI
  rw[show max r n=n by omega]at sx
  exact⟨e1,S1,sx⟩
 .obtain⟨rfl,S1,sx⟩:=hI
  exact d6 (h t S1 sx)
end
abbrev U1:=Option Unit × Unit
abbrev U2:=Option Unit × Nat
def zdP (q:Nat)(_:U1):SM (ForInStep U1):=do
 let z<-get
 let some (_,_,o):=(if (pendingOf z).size > 1 then (pendingOf z)[(pendingOf z).size - 2]? else none) | pure (.done (none,()))
 if o<=q then pure (.done (none,()))else do
  let b<-mergeAt' ((pendingOf z).size - 2)
  if (!b)=true then pure (.done (some (),()))else pure (.yield (none,()))
def zbu (N lo n:Nat):SM (ForInStep U2):=do
 let z<-get
 let some (a,m,_):=(pendingOf z).back? | do
  modify λs=>setPending s ((pendingOf s).push (lo,n,0))
  pure (.yield (none,lo+n))
 let c<-forIn [0:N] ((none,()):U1) λ_ c=>zdP (power' N (2*a+m) (2*a+m+m+n) N) c
 match c.1 with
 | some r=>pure (.done (some r,lo))
 | none=>do
  modify λs=>setPending s ((pendingOf s).modify ((pendingOf s).size - 1) λx=>(x.1,x.2.1,power' N (2*a+m) (2*a+m+m+n) N))
  modify λs=>setPending s ((pendingOf s).push (lo,n,0))
  pure (.yield (none,lo+n))
def znb (N M:Nat)(c:U2):SM (ForInStep U2) :=
 if c.2 >= N then pure (.done (none,c.2))else do
  let some f<-countRun' c.2 (N - c.2) | pure (.done (some (),c.2))
  if f < M then do
   (rule ("list.sort.binary-insertion"))
   let b<-binarySort' c.2 (min (N - c.2) M) f
   if (!b)=true then pure (.done (some (),c.2))else zbu N c.2 (min (N - c.2) M)
  else zbu N c.2 f
def znD (p:Pd):Nat:=if ((if p.size - 2 > 0 then p[p.size - 2 - 1]?.map (·.2.1)else none).any (· < (p[p.size - 2+1]?.elim 0 (·.2.1))))=true then p.size - 2 - 1 else p.size - 2
def znI (_:U1):SM (ForInStep U1):=do
 let z<-get
 if (pendingOf z).size<=1 then pure (.done (none,()))else do
  let b<-mergeAt' (znD (pendingOf z))
  if (!b)=true then pure (.done (some (),()))else pure (.yield (none,()))
theorem zj2:sortRuns'=(do
 let z<-get
 let c<-forIn [0:(arrOf z).size] ((none,0):U2) λ_ c=>znb (arrOf z).size (minRun' (arrOf z).size (arrOf z).size 0) c
 match c.1 with
 | some r=>pure r
 | none=>do
  let d<-forIn [0:(arrOf z).size] ((none,()):U1) λ_ d=>znI d
  match d.1 with
  | some r=>pure r
  | none=>pure ()):=by
 rw[sortRuns'_eq]
 dsimp only[znb,zbu,zdP,znI,znD]
 congr 1;funext z;congr 1
 .congr 1;funext _ c
  congr 1;congr 1;funext f
  cases f with
  | none=>rfl
  | some f =>
   dsimp only
   split
   .congr 1;funext _;congr 1;funext b
    congr 1;congr 1;funext y
    cases (pendingOf y).back? with
    | none=>rfl
    | some r =>
     dsimp only
     congr 1;funext d;obtain⟨r,d⟩:=d;cases r <;> rfl
   .congr 1;funext y
    cases (pendingOf y).back? with
    | none=>rfl
    | some r =>
     dsimp only
     congr 1;funext d;obtain⟨r,d⟩:=d;cases r <;> rfl
 .funext c;obtain⟨r,c⟩:=c
  cases r with
  | some r=>rfl
  | none =>
   dsimp only
   congr 1;funext d;obtain⟨r,d⟩:=d;cases r <;> rfl
def XJ (κ:KeyKind)(l:List Keyed):Nat->List (Nat × Nat)->Nat->Prop
 | a,[],b=>a=b
 | a,r::p,b=>r.1=a/\0 < r.2/\((l.drop a).take r.2).Pairwise (LE κ)/\XJ κ l (a+r.2) p b
section
variable {κ:KeyKind}{l l':List Keyed}
theorem XJ.le:∀ {p:List (Nat × Nat)} {a b:Nat},XJ κ l a p b->a+p.length<=b
 | [],a,b,h=>by have:a=b:=h;rw[this];exact q5 _
 | r::p,a,b,h=>by have:=XJ.le h.2.2.2;have:=h.2.1;rw[u0d];omega
theorem XJ.split:∀ {p q:List (Nat × Nat)} {a b:Nat},XJ κ l a (p++q) b->∃ c,XJ κ l a p c/\XJ κ l c q b
 | [],q,a,b,h=>⟨a,rfl,h⟩
 | r::p,q,a,b,h=>by
  obtain⟨c,h1,h2⟩:=XJ.split (p:=p) h.2.2.2
  exact⟨c,⟨h.1,h.2.1,h.2.2.1,h1⟩,h2⟩
theorem XJ.join:∀ {p q:List (Nat × Nat)} {a b c:Nat},XJ κ l a p c->XJ κ l c q b->XJ κ l a (p++q) b
 | [],q,a,b,c,h,h2=>by have:a=c:=h;rw[this];exact h2
 | r::p,q,a,b,c,h,h2=>⟨h.1,h.2.1,h.2.2.1,XJ.join h.2.2.2 h2⟩
theorem XJ.low:∀ {p:List (Nat × Nat)} {a b:Nat},XJ κ l a p b->l'.take b=l.take b->XJ κ l' a p b
 | [],a,b,h,_=>h
 | r::p,a,b,h,e=>by
  have hl:=h.2.2.2.le
  refine⟨h.1,h.2.1,?_,h.2.2.2.low e⟩
  have key:∀ m:List Keyed,(m.drop a).take r.2=((m.take b).drop a).take r.2:=λm=>by
   rw[u2s,u1J,u0U (by omega)]
  rw[key,e,<- key]
  exact h.2.2.1
theorem XJ.high:∀ {p:List (Nat × Nat)} {a b:Nat},XJ κ l a p b->l'.drop a=l.drop a->XJ κ l' a p b
 | [],a,b,h,_=>h
 | r::p,a,b,h,e=>by
  refine⟨h.1,h.2.1,by rw[e];exact h.2.2.1,h.2.2.2.high ?_⟩
  rw[<-u04,e,u04]
end
abbrev g2 (r:Nat × Nat × Nat):Nat × Nat:=(r.1,r.2.1)
structure ST (κ:KeyKind) (k:SortKind) (a₀:KA) (hi:Nat) (st:SortSt):Prop where
 pm:(arrOf st).Perm a₀
 kd:kindOf st=k
 fl:failedOf st=none
 sg:XJ κ (arrOf st).toList 0 ((pendingOf st).toList.map g2) hi
section
variable {prog:Program}{w:World}{A:Around}{E:Value->Shared->Prop}{s:Shared}{st:SortSt}{κ:KeyKind}{k:SortKind}{a₀:KA}{hi:Nat}
theorem ST.sz (S:ST κ k a₀ hi st):(arrOf st).size=a₀.size:=S.pm.size_eq
theorem ST.mem (S:ST κ k a₀ hi st):∀ x∈(arrOf st).toList,x∈a₀.toList:=λx hx=>(u0X.mp S.pm).mem_iff.mp hx
theorem zfl {α:Type}{l:List α}{i:Nat}(h:i+1 < l.length):∃ P x y Q,l=P++x::y::Q/\P.length=i:=by
 refine⟨l.take i,l[i],l[i+1],l.drop (i+2),?_,by rw[p5];omega⟩
 have e1:l.drop i=l[i]::l[i+1]::l.drop (i+2):=by rw[u0o (by omega),u0o h]
 rw[<-e1,i6]
theorem zbB {i:Nat}{Q:Bool->SortSt->Prop}(L:LtE prog w A E s κ k (·∈a₀.toList))(S:ST κ k a₀ hi st)(hi2:i+1 < (pendingOf st).size)(hle:hi<=a₀.size)
 (h:∀ t,ST κ k a₀ hi t->(pendingOf t).size+1=(pendingOf st).size->(arrOf t).toList.drop hi=(arrOf st).toList.drop hi->Q true t):wpS (model prog w) A E s (mergeAt' i) Q st:=by
 obtain⟨P,⟨a,m,p⟩,⟨b,n,x⟩,R,e,hP⟩:=zfl (l:=(pendingOf st).toList) (i:=i) (by rw[j8];exact hi2)
 have sg:=S.sg
 rw[e,i8,i4,i4]at sg
 obtain⟨c,s1,sa,m0,so1,sb,n0,so2,s2⟩:=sg.split
 have sa':a=c:=sa
 have sb':b=c+m:=sb
 subst sa' sb'
 dsimp only at m0 n0 so1 so2 s2
 have hl2:=s2.le
 have hz:(arrOf st).toList.length=a₀.size:=by rw[j8,S.sz]
 have p1:(pendingOf st)[i]?=some (a,m,p):=by
  rw[<-u0t,e,u0a (by omega),hP,u3a]
  rfl
 have p2:(pendingOf st)[i+1]?=some (a+m,n,x):=by
  rw[<-u0t,e,u0a (by omega),hP,u1a]
  rfl
 refine zjH L S.kd S.fl p1 p2 rfl S.mem rfl (by omega) m0 n0 rfl rfl so1 so2 λt M t1 t2 t3 t4 t5 t6=>?_
 have ep:(pendingOf t).toList=P++(a,m+n,p)::R:=by
  rw[t3,Array.toList_eraseIdxIfInBounds,u2Y,e,List.set_append_right _ _ (by omega),hP,u3a,u2e (by omega),hP,u1a]
  rfl
 have lP:((arrOf st).toList.take a).length=a:=by rw[p5];omega
 have lM:M.length=m+n:=by rw[t5.length_eq,r0,p5,p5,u0p,u0p];omega
 have d1:(arrOf t).toList.take a=(arrOf st).toList.take a:=by rw[t4,b9,u2y (by omega),u0i (by omega)]
 have d2:(arrOf t).toList.drop (a+m+n)=(arrOf st).toList.drop (a+m+n):=by
  rw[t4,u1C (by rw[r0];omega),List.drop_eq_nil_of_le (by rw[r0];omega),u3O]
 have d3:((arrOf t).toList.drop a).take (m+n)=M:=by
  rw[t4,b9,u1C (by omega),List.drop_eq_nil_of_le (by omega),u3O,u2y (by omega),u0i (by omega)]
 refine h t ⟨?_,t1,t2,?_⟩ ?_ ?_
 .refine u0X.mpr (List.Perm.trans ?_ (u0X.mp S.pm))
  rw[t4]
  have q1:=ZS (l:=(arrOf st).toList) (a:=a) (q5 m)
  rw[u1J,u29]at q1
  have q2:=ZS (l:=(arrOf st).toList) (a:=a+m) (q5 n)
  rw[u1J,u29,q1]at q2
  have q3:=i6 (a+m+n) (arrOf st).toList
  rw[q2]at q3
  have q4:(arrOf st).toList.Perm (List.take a (arrOf st).toList++(List.take m (List.drop a (arrOf st).toList)++List.take n (List.drop (a+m) (arrOf st).toList))++List.drop (a+m+n) (arrOf st).toList):=by
   rw[<-b9,q3]
  exact((t5.append_left _).append_right _).trans q4.symm
 .rw[ep,i8,i4]
  refine(s1.low d1).join ⟨rfl,by show 0 < m+n;omega,by show(((arrOf t).toList.drop a).take (m+n)).Pairwise _;rw[d3];exact t6,?_⟩
  have:XJ κ (arrOf t).toList (a+m+n) (R.map g2) hi:=s2.high d2
  show XJ κ (arrOf t).toList (a+(m+n)) (R.map g2) hi
  rw[<-Nat.add_assoc]
  exact this
 .rw[<-j8,<- j8,ep,e]
  simp only[r0,u0d]
  omega
 .rw[show hi=a+m+n+(hi - (a+m+n)) by omega,<- u04,d2,u04]
theorem zeN {xs:KA}{lo n:Nat}(h:SO κ xs lo n):((xs.toList.drop lo).take n).Pairwise (LE κ):=by
 rw[u1X]
 intro i j hi hj hij
 have hj2:j < n:=by rw[p5]at hj;omega
 have z:=h i j (by omega) hj2
 have e:∀ {q} (hq:q < ((xs.toList.drop lo).take n).length),KK κ xs (lo+q)=ky κ ((xs.toList.drop lo).take n)[q]:=λ{q} hq=>by
  refine zfO ?_
  have hq2:q < n:=by rw[p5]at hq;omega
  rw[<-u0t,<- u1j,<- u0j hq2,j6 hq]
 rw[e hi,e hj]at z
 exact z
theorem ST.push (S:ST κ k a₀ hi st){n:Nat}(hn:0 < n)(h:(((arrOf st).toList.drop hi).take n).Pairwise (LE κ)):ST κ k a₀ (hi+n) (setPending st ((pendingOf st).push (hi,n,0))):=by
 refine⟨S.pm,S.kd,S.fl,?_⟩
 show XJ κ (arrOf st).toList 0 (((pendingOf st).push (hi,n,0)).toList.map g2) (hi+n)
 rw[u1b,i8]
 exact S.sg.join ⟨rfl,hn,h,rfl⟩
theorem zkj {f:Nat × Nat × Nat->Nat × Nat × Nat}(hf:∀ r,g2 (f r)=g2 r)(p:Pd)(i:Nat):(p.modify i f).toList.map g2=p.toList.map g2:=by
 refine u2n λj=>?_
 rw[Array.toList_modify,r6,r6,List.getElem?_modify]
 cases p.toList[j]? with
 | none=>rfl
 | some r =>
  show Option.map g2 (some (if i=j then f r else r))=_
  split
  .exact u05 some (hf r)
  .rfl
theorem ST.mod (S:ST κ k a₀ hi st){f:Nat × Nat × Nat->Nat × Nat × Nat}(hf:∀ r,g2 (f r)=g2 r)(i:Nat):ST κ k a₀ hi (setPending st ((pendingOf st).modify i f)):=by
 refine⟨S.pm,S.kd,S.fl,?_⟩
 show XJ κ (arrOf st).toList 0 (((pendingOf st).modify i f).toList.map g2) hi
 rw[zkj hf]
 exact S.sg
theorem Vc {N n:Nat}(L:LtE prog w A E s κ k (·∈a₀.toList))(S:ST κ k a₀ hi st)(hn:0 < n)(hle:hi+n<=a₀.size)(so:(((arrOf st).toList.drop hi).take n).Pairwise (LE κ)) :
 wpS (model prog w) A E s (zbu N hi n) (λr t=>r=.yield (none,hi+n)/\ST κ k a₀ (hi+n) t) st:=by
 unfold zbu
 refine r8 (u3x ?_)
 cases e:(pendingOf st).back? with
 | none=>exact r8 (u2L (d6 ⟨rfl,S.push hn so⟩))
 | some r =>
  obtain⟨a,m,q⟩:=r
  dsimp only
  refine r8 (u0N (u0G (I:=λ_ c t=>c=(none,())/\ST κ k a₀ hi t/\(arrOf t).toList.drop hi=(arrOf st).toList.drop hi) (Q:=λc t=>c=(none,())/\ST κ k a₀ hi t/\(arrOf t).toList.drop hi=(arrOf st).toList.drop hi)
   (λx c t _ _ hI=>?_) (λc t hI=>hI) ⟨rfl,S,rfl⟩) λc t hI=>?_)
  .obtain⟨rfl,S1,d1⟩:=hI
   unfold zdP
   refine r8 (u3x ?_)
   by_cases c1:(pendingOf t).size > 1
   .rw[t9 c1]
    cases e2:(pendingOf t)[(pendingOf t).size - 2]? with
    | none=>exact d6 ⟨rfl,S1,d1⟩
    | some r =>
     obtain⟨r1,r2,o⟩:=r
     dsimp only
     split
     .exact d6 ⟨rfl,S1,d1⟩
     .refine r8 (zbB L S1 (by omega) (by omega) λt2 S2 _ d2=>?_)
      exact d6 ⟨rfl,S2,d2.trans d1⟩
   .rw[j0 c1]
    exact d6 ⟨rfl,S1,d1⟩
  .obtain⟨rfl,S1,d1⟩:=hI
   dsimp only
   refine r8 (u2L (r8 (u2L (d6 ⟨rfl,?_⟩))))
   exact(S1.mod (f:=λx=>(x.1,x.2.1,power' N (2*a+m) (2*a+m+m+n) N)) (λ_=>rfl) ((pendingOf t).size - 1)).push hn (by show(((arrOf t).toList.drop hi).take n).Pairwise (LE κ);rw[d1];exact so)
theorem zhx {xs ys:KA}{lo:Nat}(h:∀ i,i < lo->ys[i]?=xs[i]?):ys.toList.take lo=xs.toList.take lo:=by
 refine u2n λi=>?_
 by_cases c:i < lo
 .rw[u0j c,u0j c,u0t,u0t]
  exact h i c
 .rw[u06 (by rw[p5];omega),u06 (by rw[p5];omega)]
theorem ST.sl (S:ST κ k a₀ hi st):SL k a₀ (arrOf st) hi (pendingOf st) st:=⟨S.pm,S.kd,S.fl,rfl,λ_ _=>rfl⟩
theorem ST.from (S:ST κ k a₀ hi st){t:SortSt}(T:SL k a₀ (arrOf st) hi (pendingOf st) t):ST κ k a₀ hi t:=⟨T.pm,T.kd,T.fl,by rw[T.pd];exact S.sg.low (zhx T.bl)⟩
theorem zhg {M:Nat}{c:U2}(L:LtE prog w A E s κ k (·∈a₀.toList))(S:ST κ k a₀ c.2 st)(hc:c.1=none)(hle:c.2<=a₀.size) :
 wpS (model prog w) A E s (znb a₀.size M c) (λr t=>(c.2=a₀.size/\r=.done (none,c.2)/\t=st)\/∃ n,0 < n/\c.2+n<=a₀.size/\r=.yield (none,c.2+n)/\ST κ k a₀ (c.2+n) t) st:=by
 unfold znb
 by_cases c1:c.2 >= a₀.size
 .rw[t9 c1]
  exact d6 (.inl ⟨by omega,rfl,rfl⟩)
 .rw[j0 c1]
  refine r8 (zd2 (m:=a₀.size - c.2) L (by omega) (by omega) S.sl λf t T f1 f2 so=>?_)
  dsimp only
  have S1:=S.from T
  by_cases c2:f < M
  .rw[t9 c2]
   refine r8 (wpS_lift (u1y ⟨rfl,?_⟩))
   have hm:f<=min (a₀.size - c.2) M:=Nat.le_min.mpr ⟨f2,by omega⟩
   have hm2:min (a₀.size - c.2) M<=a₀.size - c.2:=Nat.min_le_left _ _
   refine r8 (ziQ (n:=min (a₀.size - c.2) M) L (by omega) hm f1 S1.sl so λt2 T2 so2=>?_)
   exact u0N (Vc L (S1.from T2) (by omega) (by omega) (zeN so2)) λr t3 h=>.inr ⟨_,by omega,by omega,h.1,h.2⟩
  .rw[j0 c2]
   exact u0N (Vc L S1 (by omega) (by omega) (zeN so)) λr t3 h=>.inr ⟨f,by omega,by omega,h.1,h.2⟩
theorem zjL {p:Pd}(h:1 < p.size):znD p+1 < p.size:=by
 have key:∀ b:Bool,(if b=true then p.size - 2 - 1 else p.size - 2)+1 < p.size:=λb=>by
  cases b with
  | true=>rw[t9 rfl];omega
  | false=>rw[j0 u6];omega
 exact key _
theorem own_runsE {Q:Unit->SortSt->Prop}(L:LtE prog w A E s κ k (·∈a₀.toList))(pm:(arrOf st).Perm a₀)(kd:kindOf st=k)(fl:failedOf st=none)(pd:pendingOf st=#[])
 (h:∀ t,(arrOf t).Perm a₀->failedOf t=none->SortedToK κ (arrOf t) a₀.size->Q () t):wpS (model prog w) A E s sortRuns' Q st:=by
 rw[zj2]
 refine r8 (u3x ?_)
 have hz:(arrOf st).size=a₀.size:=pm.size_eq
 rw[hz]
 have S0:ST κ k a₀ 0 st:=⟨pm,kd,fl,by rw[pd];exact rfl⟩
 refine r8 (u0N (u0G (I:=λx c t=>c.1=none/\ST κ k a₀ c.2 t/\c.2<=a₀.size/\(x<=c.2\/c.2=a₀.size)) (Q:=λc t=>c.1=none/\ST κ k a₀ a₀.size t)
  (λx c t _ hx hI=>?_) (λc t hI=>?_) ⟨rfl,S0,u0P _,.inl (q5 _)⟩) λc t hI=>?_)
 .obtain⟨h1,h2,h3,h4⟩:=hI
  refine u0N (zhg L h2 h1 h3) λr t2 hr=>?_
  rcases hr with ⟨e,rfl,rfl⟩ | ⟨n,n0,n1,rfl,S2⟩
  .exact⟨rfl,by rw[e]at h2;exact h2⟩
  .exact⟨rfl,S2,n1,by rcases h4 with h4 | h4 <;> (show x+1<=c.2+n\/c.2+n=a₀.size;omega)⟩
 .obtain⟨h1,h2,h3,h4⟩:=hI
  refine⟨h1,?_⟩
  have e:c.2=a₀.size:=by
   rcases h4 with h4 | h4
   .have:max 0 a₀.size=a₀.size:=by omega
    omega
   .exact h4
  rw[e]at h2
  exact h2
 .obtain⟨h1,S1⟩:=hI
  rw[h1]
  dsimp only
  have len:=S1.sg.le
  rw[u7,j8]at len
  refine r8 (u0N (u0G (I:=λx d t=>d=(none,())/\ST κ k a₀ a₀.size t/\(pendingOf t).size+x<=a₀.size) (Q:=λd t=>d=(none,())/\ST κ k a₀ a₀.size t/\(pendingOf t).size<=1)
   (λx d t _ hx hI=>?_) (λd t hI=>?_) ⟨rfl,S1,by omega⟩) λd t hI=>?_)
  .obtain⟨rfl,S2,h2⟩:=hI
   unfold znI
   refine r8 (u3x ?_)
   by_cases c1:(pendingOf t).size<=1
   .rw[t9 c1]
    exact d6 ⟨rfl,S2,c1⟩
   .rw[j0 c1]
    refine r8 (zbB L S2 (zjL (by omega)) (q5 _) λt2 S3 e3 _=>?_)
    exact d6 ⟨rfl,S3,by omega⟩
  .obtain⟨rfl,S2,h2⟩:=hI
   refine⟨rfl,S2,?_⟩
   have:max 0 a₀.size=a₀.size:=by omega
   omega
  .obtain⟨rfl,S2,h2⟩:=hI
   refine d6 (h t S2.pm S2.fl ?_)
   have sz:(arrOf t).toList.length=a₀.size:=by rw[j8,S2.sz]
   have so:(arrOf t).toList.Pairwise (LE κ):=by
    have sg:=S2.sg
    have hl:((pendingOf t).toList.map g2).length<=1:=by rw[u7,j8];exact h2
    match e:(pendingOf t).toList.map g2 with
    | [] =>
     rw[e]at sg
     have z:0=a₀.size:=sg
     have:(arrOf t).toList=[]:=u0S.mp (by omega)
     rw[this]
     exact List.Pairwise.nil
    | [r] =>
     rw[e]at sg
     obtain⟨_,_,s3,s4⟩:=sg
     have z:0+r.2=a₀.size:=s4
     rw[u1V,u0i (by omega)]at s3
     exact s3
    | r::r2::q=>rw[e]at hl;simp at hl
   intro i j hij hj
   obtain⟨y,hy⟩:∃ y,(arrOf t).toList[j]?=some y:=⟨_,j6 (by omega)⟩
   obtain⟨x,hx⟩:∃ x,(arrOf t).toList[i]?=some x:=⟨_,j6 (by omega)⟩
   rw[zfO (by rw[<-u0t];exact hx),zfO (by rw[<-u0t];exact hy)]
   exact V5 so hij hx hy
end
end OwnTim
namespace OwnSortT
open PySem PyProof.Rows OwnSort
theorem lex_irr:∀ a:List Int,HT.lexLt a a=false:=by
 intro a
 induction a with
 | nil=>rfl
 | cons x xs ih=>rw[HT.lexLt_cons,t9 rfl,ih]
theorem lex_trans:∀ a b c:List Int,HT.lexLt a b=true->HT.lexLt b c=true->HT.lexLt a c=true:=by
 intro a
 induction a with
 | nil =>
  intro b c h1 h2
  cases c with
  | nil=>cases b <;> cases h2
  | cons _ _=>rfl
 | cons x xs ih =>
  intro b c h1 h2
  cases b with
  | nil=>cases h1
  | cons y ys=>cases c with
   | nil=>cases h2
   | cons z zs =>
    rw[HT.lexLt_cons]at h1 h2 ⊢
    by_cases e1:x=y
    .rw[t9 e1]at h1
     by_cases e2:y=z
     .rw[t9 e2]at h2;rw[t9 (e1.trans e2)];exact ih _ _ h1 h2
     .rw[j0 e2,d5]at h2;rw[j0 (by omega),d5];omega
    .rw[j0 e1,d5]at h1
     by_cases e2:y=z
     .rw[j0 (by omega),d5];omega
     .rw[j0 e2,d5]at h2;rw[j0 (by omega),d5];omega
theorem lex_total:∀ a b:List Int,HT.lexLt a b=false->HT.lexLt b a=false->a=b:=by
 intro a
 induction a with
 | nil =>
  intro b h1 h2
  cases b with
  | nil=>rfl
  | cons _ _=>cases h1
 | cons x xs ih =>
  intro b h1 h2
  cases b with
  | nil=>cases h2
  | cons y ys =>
   rw[HT.lexLt_cons]at h1 h2
   by_cases e:x=y
   .rw[t9 e]at h1;rw[t9 e.symm]at h2;rw[e,ih _ h1 h2]
   .rw[j0 e,u0L]at h1;rw[j0 (u03 e),u0L]at h2;omega
theorem lex_neg (a b c:List Int)(h:HT.lexLt a c=true):HT.lexLt a b=true\/HT.lexLt b c=true:=by
 cases h1:HT.lexLt a b with
 | true=>exact .inl rfl
 | false =>
  refine .inr ?_
  cases h2:HT.lexLt b a with
  | true=>exact lex_trans _ _ _ h2 h
  | false=>rw[<-lex_total _ _ h1 h2];exact h
def TT (h:Heap) (v:Value) (t:List Int):Prop:=∃ a o n its,v=.ref a/\h.get? a=some o/\o.cls=.type "tuple"/\o.data=.seq its.toArray n/\IntsAre its t/\t≠[]
theorem zg3:∀ {vs:List Value} {ns ms:List Int},IntsAre vs ns->IntsAre vs ms->ns=ms:=by
 intro vs ns ms h
 induction h generalizing ms with
 | nil=>intro h2;cases h2;rfl
 | cons n t h ih=>intro h2;cases h2 with | cons n' t' h'=>rw[ih h']
theorem TT.uniq {h:Heap}{v:Value}{s t:List Int}(x:TT h v s)(y:TT h v t):s=t:=by
 obtain⟨a,o,n,its,rfl,e1,_,d1,i1,_⟩:=x
 obtain⟨b,p,m,its',e,e2,_,d2,i2,_⟩:=y
 cases e
 rw[e1]at e2
 cases e2
 rw[d1]at d2
 have e3:its.toArray=its'.toArray:=by injection d2
 cases List.toArray_inj e3
 exact zg3 i1 i2
theorem TT.keep {h h':Heap}{v:Value}{t:List Int}(x:TT h v t)(k:∀ b o,h.get? b=some o->h'.get? b=some o):TT h' v t:=by
 obtain⟨a,o,n,its,e,e1,r⟩:=x
 exact⟨a,o,n,its,e,k _ _ e1,r⟩
theorem TT.keepT {h h':Heap} {v:Value} {t:List Int} (x:TT h v t) (k:∀ b o,o.cls=.type "tuple"->h.get? b=some o->h'.get? b=some o):TT h' v t:=by
 obtain⟨a,o,n,its,e,e1,c,r⟩:=x
 exact⟨a,o,n,its,e,k _ _ c e1,c,r⟩
open Classical in
noncomputable def keyTT (h:Heap)(v:Value):Option (List Int):=if x:∃ t,TT h v t then some x.choose else none
theorem keyTT_of {h:Heap}{v:Value}{t:List Int}(x:TT h v t):keyTT h v=some t:=by
 unfold keyTT
 have y:∃ t,TT h v t:=⟨t,x⟩
 rw[dif_pos y,y.choose_spec.uniq x]
@[reducible] noncomputable def zde (h:Heap):KeyKind where
 α:=List Int
 blt:=HT.lexLt
 irrefl:=lex_irr
 trans:=lex_trans
 negTrans:=lex_neg
 total:=lex_total
 keyOf:=keyTT h
 dflt:=[]
section
variable {prog:Program}{w:World}{A:Around}{E:Value->Shared->Prop}{s:Shared}
def zkU (d:Bool):List Int->List Int->Bool
 | x::xs,y::ys=>if x=y then zkU d xs ys else decide (x < y)
 | _,_=>d
theorem zjJ:∀ a b:List Int,zkU (decide (a.length < b.length)) a b=HT.lexLt a b:=by
 intro a
 induction a with
 | nil=>intro b;cases b with
  | nil=>rfl
  | cons _ _=>rfl
 | cons x xs ih=>intro b;cases b with
  | nil=>rfl
  | cons y ys =>
   rw[HT.lexLt_cons,<- ih ys]
   show(if x=y then zkU (decide (xs.length+1 < ys.length+1)) xs ys else decide (x < y))=_
   rw[show decide (xs.length+1 < ys.length+1)=decide (xs.length < ys.length) by congr 1;apply propext;omega]
def zfU (x:(Value × Value) × Nat)(_:Option Bool × Unit):Sem (ForInStep (Option Bool × Unit)):=do
 let b<-eqBool x.1.1 x.1.2
 if (!b)=true then do
  let c<-oneLt' (true&&x.2 == 0) x.1.1 x.1.2
  pure (ForInStep.done (some c,()))
 else pure (ForInStep.yield (none,()))
theorem zhw {d:Bool}:∀ {xs:List Value} {ns:List Int} {ys:List Value} {ms:List Int} {k:Nat} {Q:Option Bool × Unit->Shared->Prop},IntsAre xs ns->IntsAre ys ms->(∀ r:Option Bool × Unit,r.1.getD d=zkU d ns ms->Q r s) ->
 wpAny (model prog w) A (forIn ((xs.zip ys).zipIdx k) ((none,()):Option Bool × Unit) zfU) Q E s:=by
 intro xs ns ys ms k Q h1
 induction h1 generalizing ys ms k with
 | nil=>intro h2 q;exact u8 (q (none,()) rfl)
 | cons x t h1 ih =>
  intro h2 q
  cases h2 with
  | nil=>exact u8 (q (none,()) rfl)
  | cons y u h2 =>
   rw[u28,u2z,u2f]
   refine u0 (u0 (u3b x t y u prog w E _ ?_))
   by_cases c:x=y
   .rw[show(x == y)=true by rw[c];exact u1G _]
    refine u8 (ih h2 λr hr=>q r (hr.trans ?_))
    show _=(if x=y then zkU d _ _ else decide (x < y))
    rw[t9 c]
   .rw[show(x == y)=false by simpa using c]
    have q0:Q (some (decide (x < y)),()) s:=q _ (by
     show decide (x < y)=(if x=y then zkU d _ _ else decide (x < y))
     rw[j0 c])
    cases k with
    | zero=>exact u0 (oneLt_int (u8 (u8 q0)))
    | succ k=>exact u0 (lt0 (u8 (u8 q0)))
theorem zjs {x y:Value}{a b:List Int}{Q:Bool->Shared->Prop}(hx:TT s.heap x a)(hy:TT s.heap y b)(h:Q (HT.lexLt a b) s):wpAny (model prog w) A (keyLt' (tuples' true) x y) Q E s:=by
 obtain⟨p,o,n,xs,rfl,e1,_,d1,i1,_⟩:=hx
 obtain⟨q,o2,n2,ys,rfl,e2,_,d2,i2,_⟩:=hy
 rw[zfV]
 refine u0 (listItems_at e1 d1 (u0 (listItems_at e2 d2 ?_)))
 show wpAny _ _ (forIn ((xs.zip ys).zipIdx 0) ((none,()):Option Bool × Unit) zfU>>=_) _ _ _
 refine u0 (zhw (d:=decide (xs.length < ys.length)) i1 i2 λr hr=>?_)
 have e:Q (r.1.getD (decide (xs.length < ys.length))) s:=by
  rw[hr,i1.length,i2.length,zjJ];exact h
 obtain⟨r1,u⟩:=r
 cases r1 with
 | none=>exact u8 e
 | some v=>exact u8 e
theorem zhl {vs:List Value}(hT:∀ v∈vs,∃ t,TT s.heap v t):OwnTim.LtE prog w A E s (zde s.heap) (tuples' true) (·∈(pairsOf vs).toList):=by
 intro st x y Q hk hx hy h
 have look:∀ {x:Keyed},x∈(pairsOf vs).toList->∃ t,TT s.heap x.1 t/\OwnTim.ky (zde s.heap) x=t:=λ{x} hm=>by
  rw[pairsOf_toList]at hm
  obtain⟨t,ht⟩:=hT _ (mem_zip_self hm).2
  refine⟨t,ht,?_⟩
  unfold OwnTim.ky
  show(keyTT s.heap x.1).getD _=t
  rw[keyTT_of ht]
  rfl
 obtain⟨a,ta,ka⟩:=look hx
 obtain⟨b,tb,kb⟩:=look hy
 rw[ka,kb]at h
 rw[lt'_eq]
 refine r8 (u3x ?_)
 rw[hk]
 exact r8 (wpS_lift (u1m (zjs ta tb ⟨rfl,d6 h⟩)))
theorem Vv:∀ {vs:List Value} {Q:List (Option Value)->Shared->Prop},(∀ v∈vs,∃ t,TT s.heap v t)->(∀ fs:List Value,fs.length=vs.length->(∀ f∈fs,∃ i t,f=.int i t)->Q (fs.map some) s)->wpAny (model prog w) A (vs.mapM firstOfTuple') Q E s
 | [],Q,_,h=>by rw[List.mapM_nil];exact u8 (h [] rfl (by simp))
 | v::vs,Q,hT,h=>by
  obtain⟨t,a,o,n,its,rfl,e1,c1,d1,hi,hne⟩:=hT v e9
  obtain⟨z,zs,i0,tk,rfl,rfl⟩:∃ z zs i0 tk,its=z::zs/\z=.int i0 tk:=by
   cases hi with
   | nil=>exact absurd rfl hne
   | cons i0 tk hi=>exact⟨_,_,_,_,rfl,rfl⟩
  rw[List.mapM_cons,zgG]
  refine u0 (u0 (u2w (T:="tuple") ⟨o,e1,c1⟩ ?_))
  rw[j0 (by simp)]
  refine u0 (listItems_at e1 d1 (u8 (u0 (Vv (λu hu=>hT u (p4 _ hu)) λfs hl hf=>u8 ?_))))
  exact h (.int i0 tk::fs) (by simp[hl]) λf hf'=>by
   rcases j7.mp hf' with rfl | hf'
   .exact⟨_,_,rfl⟩
   .exact hf f hf'
theorem zft {v₁:Value}{vs:List Value}{Q:SortKind->Shared->Prop}(hT:∀ v∈v₁::vs,∃ t,TT s.heap v t)(h:Q (tuples' true) s):wpAny (model prog w) A (keyKind' (v₁::vs).toArray) Q E s:=by
 rw[keyKind'_eq,List.mapM_toArray,<- bind_pure_comp,bind_assoc]
 refine u0 (Vv hT λfs hl hf=>u0 (u8 ?_))
 cases fs with
 | nil=>simp at hl
 | cons f fs =>
  rw[t9 (by simp)]
  have ef:((f::fs).map some).toArray.filterMap id=(f::fs).toArray:=by simp
  refine u0 (u1y ?_)
  rw[ef,oneTypeOnly'_eq,List.mapM_toArray,zc2 hf]
  simp only[map_pure,pure_bind]
  rw[show(List.map (λ_=>Value.type "int") (f::fs)).toArray[0]?=some (Value.type "int") by simp]
  have al:((List.map (λ_=>Value.type "int") (f::fs)).toArray.all λx=>x == Value.type "int")=true:=by
   simp only[List.all_toArray,u1A,u0y]
   intro _ _
   rfl
  simp only[al,u2A,pure_bind,Option.any_some]
  rw[show(Value.type "int" != Value.type "tuple")=true by decide +kernel]
  exact u8 h
end
def Rise (h:Heap)(out:List Value):Prop:=∃ ts:List (List Int),out.length=ts.length/\(∀ (i:Nat) (v:Value) (t:(List Int)),out[i]?=some v->ts[i]?=some t->TT h v t)/\ts.Pairwise λa b=>HT.lexLt b a=false
theorem zgW {h h':Heap}{vs:List Value}{xs:Array Keyed}(hT:∀ v∈vs,∃ t,TT h v t)(hk:∀ v t,TT h v t->TT h' v t)(pm:xs.Perm (pairsOf vs))(hs:SortedToK (zde h') xs (pairsOf vs).size):(xs.map (·.2)).toList.Perm vs/\Rise h (xs.map (·.2)).toList:=by
 have hl:xs.toList.Perm (vs.zip vs):=by rw[<-pairsOf_toList];exact u0X.mp pm
 have hm:∀ p∈xs.toList,p.1=p.2/\p.1∈vs:=λp hp=>mem_zip_self (hl.mem_iff.mp hp)
 have e2:(xs.map (·.2)).toList=xs.toList.map (·.2):=by simp
 rw[e2]
 refine⟨?_,xs.toList.map λp=>(keyTT h' p.1).getD ([]:List Int),by simp,λi v t hv ht=>?_,?_⟩
 .have:=hl.map (·.2)
  rwa[show(vs.zip vs).map (·.2)=vs from List.map_snd_zip (q5 _)]at this
 .rw[r6]at hv ht
  cases hx:xs.toList[i]? with
  | none=>rw[hx]at hv;cases hv
  | some p =>
   rw[hx]at hv ht
   cases hv
   cases ht
   obtain⟨q1,q2⟩:=hm p (j4 hx)
   obtain⟨t,ht⟩:=hT _ q2
   show TT h p.2 ((keyTT h' p.1).getD ([]:List Int))
   rw[keyTT_of (hk _ _ ht),<- q1]
   exact ht
 .rw[u1X]
  intro i j hi hj hij
  have hi':i < xs.size:=by simpa using hi
  have hj':j < xs.size:=by simpa using hj
  have:=hs i j (u0W hij) (by rw[<-pm.size_eq];exact hj')
  unfold KK at this
  rw[getElem?_pos xs i hi',getElem?_pos xs j hj']at this
  have this:HT.lexLt ((keyTT h' xs[j].1).getD ([]:List Int)) ((keyTT h' xs[i].1).getD ([]:List Int))=false:=this
  simpa using this
section
variable {prog:Program}{w:World}{A:Around}{E:Value->Shared->Prop}{s:Shared}
theorem ownT_list_sort {a:Addr} {vs:List Value} {n:Nat} {P:Fin->Shared->Prop} (ho:s.heap.get? a=some (seqObj "list" vs.toArray n)) (hT:∀ v∈vs,∃ t,TT s.heap v t) (h64:vs.length < 10000000)
 (h:∀ out:Array Value,out.toList.Perm vs->Rise s.heap out.toList->P (.done (.ret .none)) { s with heap:=sortedHeap s.heap a vs out }):wpAny (model prog w) A (Builtin.«list.sort» ⟨[.ref a],[]⟩) P E s:=by
 have la:a < s.heap.objs.size:=j5 ho
 have zl:vs.toArray.size=vs.length:=j3
 obtain⟨e1,o1⟩:∃ e1,(s.heap.update a (Obj.mapSeq λ_=>#[])).get? a=some (seqObj "list" #[] e1):=⟨_,get?_update_seq ho (λ_=>#[])⟩
 have o6:(((s.heap.update a (Obj.mapSeq λ_=>#[])).push (seqObj "tuple" vs.toArray 0)).push (seqObj "list" #[] 0)).get? a=some (seqObj "list" #[] e1):=u5 _ (u5 _ o1)
 have up:∀ b o,o.cls=.type "tuple"->s.heap.get? b=some o->(((s.heap.update a (Obj.mapSeq λ_=>#[])).push (seqObj "tuple" vs.toArray 0)).push (seqObj "list" #[] 0)).get? b=some o:=λb o c e=>by
  refine u5 _ (u5 _ ((u0E _ _ λz=>?_).trans e))
  subst z
  rw[ho]at e
  cases e
  exact absurd (show Value.type "list"=Value.type "tuple" from c) (by decide +kernel)
 have hT6:∀ v∈vs,∃ t,TT (((s.heap.update a (Obj.mapSeq λ_=>#[])).push (seqObj "tuple" vs.toArray 0)).push (seqObj "list" #[] 0)) v t:=λv hv=>let ⟨t,ht⟩:=hT v hv;⟨t,ht.keepT up⟩
 rw[list_sort_plain]
 refine u0 (listItems_at ho rfl (u0 (listUpdate_at ho rfl (u0 (seqEpoch_at o1 rfl (u0 (wpAny_newTuple (u0 (wpAny_newList (u0n ?_))))))))))
 show wpAny (model prog w) A _ P E { s with heap:=((s.heap.update a (Obj.mapSeq λ_=>#[])).push (seqObj "tuple" vs.toArray 0)).push (seqObj "list" #[] 0) }
 by_cases c2:vs.toArray.size < 2
 .rw[t9 c2,t9 c2]
  refine u0 (u8 ?_)
  dsimp only
  rw[StateT.run_pure]
  refine u0 (u8 ?_)
  obtain⟨r1,r2⟩:=zgW (xs:=pairsOf vs) hT (λv t ht=>ht) (Array.Perm.refl _) (λi j hij hj=>by
   obtain rfl:i=j:=by rw[pairsOf_size]at hj;omega
   exact u1d _)
  refine u0 (seqEpoch_at o6 rfl (u0 (listUpdate_at o6 rfl ?_ (hsz2:=by rw[Array.size_map];show(pairsOf vs).size<=_;rw[pairsOf_size,u1B];omega))))
  rw[show(e1 != e1)=false by simp]
  exact u8 (h _ r1 r2)
 .rw[j0 c2,j0 c2]
  cases vs with
  | nil=>simp at c2
  | cons v₁ rest =>
   refine u0 (zft hT6 ?_)
   refine u0 (u0v (OwnTim.own_runsE (st:=SortSt.mk' (tuples' true) ((v₁::rest).toArray.zip (v₁::rest).toArray) #[] 7 none) (Q:=λ_ t=>(arrOf t).Perm (pairsOf (v₁::rest))/\failedOf t=none/\SortedToK (zde _) (arrOf t) (pairsOf (v₁::rest)).size)
    (zhl hT6) (Array.Perm.refl _) rfl rfl rfl λt p1 p2 p3=>⟨p1,p2,p3⟩) ?_ λ_ _ e=>e)
   rintro⟨⟨⟩,t⟩ s' ⟨rfl,p1,p2,p3⟩
   obtain⟨r1,r2⟩:=zgW hT (λv t ht=>ht.keepT up) p1 p3
   refine u0 (seqEpoch_at o6 rfl (u0 (listUpdate_at o6 rfl ?_ (hsz2:=by rw[Array.size_map];show(arrOf t).size<=_;rw[p1.size_eq,pairsOf_size,u1B];omega))))
   rw[p2,show(e1 != e1)=false by simp]
   exact u8 (h _ r1 r2)
theorem ownT_sorted {l:Addr}{vs:List Value}{Q:Value->Shared->Prop}(hl:s.heap.IsList l vs.toArray)(hT:∀ v∈vs,∃ t,TT s.heap v t)(h64:vs.length < 10000000)
 (h:∀ out:Array Value,out.toList.Perm vs->Rise s.heap out.toList->Q (.ref (s.heap.objs.size+1)) { s with heap:=sortedAll s.heap vs out }):wpAny (model prog w) A (call (.builtin "sorted") [.ref l]) Q E s:=by
 have z1:((s.heap.push (seqObj "list" #[] 0)).update s.heap.objs.size (Obj.mapSeq (·++vs.toArray))).objs.size=s.heap.objs.size+1:=(Heap.size_update ..).trans (size_push' _ _)
 have oL:(((s.heap.push (seqObj "list" #[] 0)).update s.heap.objs.size (Obj.mapSeq (·++vs.toArray))).push (seqObj "list" vs.toArray 0)).get? (s.heap.objs.size+1)=some (seqObj "list" vs.toArray 0):=z1 ▸ r9 _ rfl
 have up:∀ b o,s.heap.get? b=some o->(((s.heap.push (seqObj "list" #[] 0)).update s.heap.objs.size (Obj.mapSeq (·++vs.toArray))).push (seqObj "list" vs.toArray 0)).get? b=some o:=λb o e =>
  u5 _ ((u0E _ _ λz=>by subst z;exact absurd (j5 e) (u0K _)).trans (u5 _ e))
 refine Calls.call_function_entry kind_sorted plain_sorted entry_sorted (args_sorted1 _) ?_
 unfold Builtin.«sorted»
 refine u0 (m:=checkCount "sorted" 1 1 _) (u8 (u0 (collect_list hl (u0 (wpAny_newList ?_)))))
 show wpAny _ _ _ _ _ (Shared.mk (((s.heap.push (seqObj "list" #[] 0)).update s.heap.objs.size (Obj.mapSeq (·++vs.toArray))).push (seqObj "list" vs.toArray 0)) s.gens s.drawn s.toks s.os)
 rw[z1]
 refine u0 (u0n (u0B slot_list_sort ⟨_,oL,rfl⟩ entry_list_sort (ownT_list_sort oL (λv hv=>let ⟨t,ht⟩:=hT v hv;⟨t,ht.keep up⟩) h64 λout p1 p2=>⟨_,rfl,u8 ⟨_,rfl,h out p1 ?_⟩⟩) (args_list_sort _)))
 obtain⟨ts,q1,q2,q3⟩:=p2
 refine⟨ts,q1,λi v t hv ht=>?_,q3⟩
 obtain⟨t0,ht0⟩:=hT v (p1.mem_iff.mp (j4 hv))
 rw[(q2 i v t hv ht).uniq (ht0.keep up)]
 exact ht0
end
end OwnSortT
namespace OwnSort
open PySem PyProof.Rows
def Rise (h:Heap)(out:List Value):Prop:=∃ ts:List Pr,out.length=ts.length/\(∀ (i:Nat) (v:Value) (t:Pr),out[i]?=some v->ts[i]?=some t->TP h v t)/\ts.Pairwise λa b=>bltP b a=false
theorem TP.tt {h:Heap}{v:Value}{t:Pr}(x:TP h v t):OwnSortT.TT h v [t.1,t.2]:=by
 obtain⟨a,o,n,tx,ty,e1,e2,e3,e4⟩:=x
 exact⟨a,o,n,[.int t.1 tx,.int t.2 ty],e1,e2,e3,e4,.cons _ _ (.cons _ _ .nil),u3y _ _⟩
theorem zik (a b:Pr):HT.lexLt [a.1,a.2] [b.1,b.2]=bltP a b:=by
 rw[HT.lexLt_cons,HT.lexLt_cons]
 unfold bltP
 by_cases c:a.1=b.1
 .rw[t9 c]
  by_cases c2:a.2=b.2
  .rw[t9 c2,h9 (by omega)];rfl
  .rw[j0 c2,decide_eq_decide];omega
 .rw[j0 c,decide_eq_decide];omega
theorem zfs {h:Heap}{vs out:List Value}(hT:∀ v∈vs,∃ t,TP h v t)(pm:out.Perm vs)(r:OwnSortT.Rise h out):Rise h out:=by
 obtain⟨ts,l1,l2,l3⟩:=r
 have key:∀ (i:Nat) (v:Value) (t:List Int),out[i]?=some v->ts[i]?=some t->∃ p:Pr,TP h v p/\t=[p.1,p.2]:=λi v t h1 h2=>by
  obtain⟨p,hp⟩:=hT v (pm.mem_iff.mp (j4 h1))
  exact⟨p,hp,OwnSortT.TT.uniq (l2 i v t h1 h2) hp.tt⟩
 have ex:∀ t∈ts,∃ p:Pr,t=[p.1,p.2]:=λt ht=>by
  obtain⟨i,hi,rfl⟩:=u00 ht
  obtain⟨p,_,e⟩:=key i out[i] ts[i] (j6 (by omega)) (j6 hi)
  exact⟨p,e⟩
 refine⟨ts.map λt=>(t.getD 0 0,t.getD 1 0),by rw[u7,l1],λi v t h1 h2=>?_,?_⟩
 .rw[r6]at h2
  obtain⟨u,hu,rfl⟩:=u9.mp h2
  obtain⟨p,hp,rfl⟩:=key i v u h1 hu
  exact hp
 .rw[List.pairwise_map]
  refine l3.imp_of_mem λ{a b} ha hb hab=>?_
  obtain⟨p,rfl⟩:=ex a ha
  obtain⟨q,rfl⟩:=ex b hb
  rw[zik]at hab
  exact hab
section
variable {prog:Program}{w:World}{A:Around}{E:Value->Shared->Prop}{s:Shared}
theorem own_sorted {l:Addr}{vs:List Value}{Q:Value->Shared->Prop}(hl:s.heap.IsList l vs.toArray)(hT:∀ v∈vs,∃ t,TP s.heap v t)(h64:vs.length < 64)
 (h:∀ out:Array Value,out.toList.Perm vs->Rise s.heap out.toList->Q (.ref (s.heap.objs.size+1)) { s with heap:=sortedAll s.heap vs out }):wpAny (model prog w) A (call (.builtin "sorted") [.ref l]) Q E s :=
 OwnSortT.ownT_sorted hl (λv hv=>(hT v hv).imp' (λt=>[t.1,t.2]) λ_ ht=>ht.tt) (by omega) λout p r=>h out p (zfs hT p r)
end
end OwnSort
namespace Dl
open PySem L2
class KK where
 K:W.Frag
inductive D where
 | non | bl (b:Bool) | int (i:Int) | str (x:Str) | tup (ds:List D) | lst (ds:List D) | scr (ns:List Int)
  | dct (z t:Bool) (ks:List (List Key)) (vs:List D)
 deriving Inhabited
section
variable [KK]
def zbV (o:HO)(t:Bool)(ks:List (List Key))(xs:List V):Prop :=
 if t=true then ∃ kvs,o=.dT kvs/\kvs.map (·.1)=ks/\kvs.map (·.2)=xs else ∃ kvs:List (Key × V),o=.dK kvs/\kvs.map (λp=>[p.1])=ks/\kvs.map (·.2)=xs
def VZ (H:Hp)(a:Addr)(z t:Bool)(ks:List (List Key))(xs:List V):Prop :=
 ∃ u,zbV u t ks xs/\if z=true then ∃ ob,H a=some (.frz ob u)else H a=some u
theorem VZ.mono {H H':Hp}{a:Addr}{z t:Bool}{ks:List (List Key)}{xs:List V}(s:zZ H H')(h:VZ H a z t ks xs):VZ H' a z t ks xs:=by
 obtain⟨u,h1,h2⟩:=h
 refine⟨u,h1,?_⟩
 cases z with
 | true =>
  rw[t9 rfl]at h2 ⊢
  obtain⟨ob,h2⟩:=h2
  exact⟨ob,s _ _ h2⟩
 | false =>
  rw[j0 u6]at h2 ⊢
  exact s _ _ h2
theorem VZ.rd {H:Hp}{a:Addr}{z t:Bool}{ks:List (List Key)}{xs:List V}(h:VZ H a z t ks xs):∃ u,zbV u t ks xs/\Rd H a u:=by
 obtain⟨u,h1,h2⟩:=h
 refine⟨u,h1,?_⟩
 cases z with
 | true =>
  rw[t9 rfl]at h2
  obtain⟨ob,h2⟩:=h2
  exact .inr ⟨ob,h2⟩
 | false =>
  rw[j0 u6]at h2
  exact .inl h2
mutual
def At (H:Hp):D->V->Prop
 | .non,v=>v=.non
 | .bl b,v=>v=.bl b
 | .int i,v=>v=.int i
 | .str x,v=>v=.str x
 | .tup ds,v=>∃ a xs,v=.ref a/\H a=some (.tup xs)/\AtL H ds xs
 | .lst ds,v=>∃ a xs,v=.ref a/\H a=some (.lst xs)/\AtL H ds xs
 | .scr ns,v=>∃ a,v=.ref a/\SqL KK.K H a (ns.map V.int)
 | .dct z t ks vs,v=>∃ a xs,v=.ref a/\VZ H a z t ks xs/\AtL H vs xs
def AtL (H:Hp):List D->List V->Prop
 | [],xs=>xs=[]
 | d::ds,xs=>∃ x r,xs=x::r/\At H d x/\AtL H ds r
end
mutual
theorem At.mono {H H':Hp}(s:zZ H H'):∀ {d:D} {v:V},At H d v->At H' d v
 | .non,_,h=>by unfold At at h ⊢;exact h
 | .bl _,_,h=>by unfold At at h ⊢;exact h
 | .int _,_,h=>by unfold At at h ⊢;exact h
 | .str _,_,h=>by unfold At at h ⊢;exact h
 | .tup ds,_,h=>by
  unfold At at h ⊢
  obtain⟨a,xs,e,hx,hl⟩:=h
  exact⟨a,xs,e,s _ _ hx,AtL.mono s hl⟩
 | .lst ds,_,h=>by
  unfold At at h ⊢
  obtain⟨a,xs,e,hx,hl⟩:=h
  exact⟨a,xs,e,s _ _ hx,AtL.mono s hl⟩
 | .scr ns,_,h=>by
  unfold At at h ⊢
  obtain⟨a,e,hx⟩:=h
  exact⟨a,e,s.seq hx⟩
 | .dct z t ks vs,_,h=>by
  unfold At at h ⊢
  obtain⟨a,xs,e,hx,hl⟩:=h
  exact⟨a,xs,e,hx.mono s,AtL.mono s hl⟩
theorem AtL.mono {H H':Hp}(s:zZ H H'):∀ {ds:List D} {xs:List V},AtL H ds xs->AtL H' ds xs
 | [],_,h=>by unfold AtL at h ⊢;exact h
 | d::ds,_,h=>by
  unfold AtL at h ⊢
  obtain⟨x,r,e,h1,h2⟩:=h
  exact⟨x,r,e,At.mono s h1,AtL.mono s h2⟩
end
mutual
def noL:D->Bool
 | .tup ds=>zni ds
 | .lst _=>false
 | .scr _=>false
 | .dct _ _ _ _=>false
 | _=>true
def zni:List D->Bool
 | []=>true
 | d::ds=>noL d&&zni ds
end
mutual
theorem At.flat {G F:Hp}(h:∀ q xs,G q=some (.tup xs)->F q=some (.tup xs)):∀ {d:D} {v:V},noL d=true->At G d v->At F d v
 | .non,_,_,a=>by unfold At at a ⊢;exact a
 | .bl _,_,_,a=>by unfold At at a ⊢;exact a
 | .int _,_,_,a=>by unfold At at a ⊢;exact a
 | .str _,_,_,a=>by unfold At at a ⊢;exact a
 | .tup ds,_,n,a=>by
  unfold At at a ⊢
  unfold noL at n
  obtain⟨p,xs,e,hx,hl⟩:=a
  exact⟨p,xs,e,h _ _ hx,AtL.flat h n hl⟩
 | .lst ds,_,n,_=>by unfold noL at n;cases n
 | .scr ds,_,n,_=>by unfold noL at n;cases n
 | .dct _ _ _ _,_,n,_=>by unfold noL at n;cases n
theorem AtL.flat {G F:Hp}(h:∀ q xs,G q=some (.tup xs)->F q=some (.tup xs)):∀ {ds:List D} {xs:List V},zni ds=true->AtL G ds xs->AtL F ds xs
 | [],_,_,a=>by unfold AtL at a ⊢;exact a
 | d::ds,_,n,a=>by
  unfold AtL at a ⊢
  unfold zni at n
  rw[g9]at n
  obtain⟨x,r,e,h1,h2⟩:=a
  exact⟨x,r,e,At.flat h n.1 h1,AtL.flat h n.2 h2⟩
end
section
variable {H H':Hp}{d:D}{ds es:List D}{v x:V}{xs ys:List V}
theorem At.int {i:Int}:At H (.int i) (.int i):=by unfold At;rfl
theorem At.bl {b:Bool}:At H (.bl b) (.bl b):=by unfold At;rfl
theorem At.non:At H .non .non:=by unfold At;rfl
theorem At.str {y:Str}:At H (.str y) (.str y):=by unfold At;rfl
theorem At.tup {a:Addr}(h:H a=some (.tup xs))(hl:AtL H ds xs):At H (.tup ds) (.ref a):=by unfold At;exact⟨a,xs,rfl,h,hl⟩
theorem At.lst {a:Addr}(h:H a=some (.lst xs))(hl:AtL H ds xs):At H (.lst ds) (.ref a):=by unfold At;exact⟨a,xs,rfl,h,hl⟩
theorem AtL.nil:AtL H [] []:=by unfold AtL;rfl
theorem AtL.cons (h:At H d x)(hl:AtL H ds xs):AtL H (d::ds) (x::xs):=by unfold AtL;exact⟨x,xs,rfl,h,hl⟩
theorem At.int_inv {i:Int}(h:At H (.int i) v):v=.int i:=by unfold At at h;exact h
theorem At.bl_inv {b:Bool}(h:At H (.bl b) v):v=.bl b:=by unfold At at h;exact h
theorem At.non_inv (h:At H .non v):v=.non:=by unfold At at h;exact h
theorem At.str_inv {y:Str}(h:At H (.str y) v):v=.str y:=by unfold At at h;exact h
theorem At.tup_inv (h:At H (.tup ds) v):∃ a xs,v=.ref a/\H a=some (.tup xs)/\AtL H ds xs:=by unfold At at h;exact h
theorem At.lst_inv (h:At H (.lst ds) v):∃ a xs,v=.ref a/\H a=some (.lst xs)/\AtL H ds xs:=by unfold At at h;exact h
theorem At.scr_inv {ns:List Int}(h:At H (.scr ns) v):∃ a,v=.ref a/\SqL KK.K H a (ns.map V.int):=by unfold At at h;exact h
theorem At.dct_inv {z t:Bool}{ks:List (List Key)}{vs:List D}(h:At H (.dct z t ks vs) v):∃ a xs,v=.ref a/\VZ H a z t ks xs/\AtL H vs xs:=by unfold At at h;exact h
theorem AtL.nil_inv (h:AtL H [] xs):xs=[]:=by unfold AtL at h;exact h
theorem AtL.cons_inv (h:AtL H (d::ds) xs):∃ x r,xs=x::r/\At H d x/\AtL H ds r:=by unfold AtL at h;exact h
theorem AtL.length:∀ {ds:List D} {xs:List V},AtL H ds xs->xs.length=ds.length
 | [],_,h=>by rw[h.nil_inv];rfl
 | _::_,_,h=>by
  obtain⟨x,r,rfl,_,h2⟩:=h.cons_inv
  rw[u0d,u0d,AtL.length h2]
theorem AtL.get:∀ {ds:List D} {xs:List V} {i:Nat} {d:D},AtL H ds xs->ds[i]?=some d->∃ x,xs[i]?=some x/\At H d x
 | [],_,_,_,_,e=>by simp at e
 | _::_,_,i,_,h,e=>by
  obtain⟨x,r,rfl,h1,h2⟩:=h.cons_inv
  cases i with
  | zero =>
   simp at e
   subst e
   exact⟨x,rfl,h1⟩
  | succ i =>
   obtain⟨y,hy,ha⟩:=AtL.get (i:=i) h2 (by simpa using e)
   exact⟨y,by simpa using hy,ha⟩
theorem AtL.append:∀ {ds es:List D} {xs ys:List V},AtL H ds xs->AtL H es ys->AtL H (ds++es) (xs++ys)
 | [],_,_,_,h,k=>by rw[h.nil_inv];exact k
 | _::_,_,_,_,h,k=>by
  obtain⟨x,r,rfl,h1,h2⟩:=h.cons_inv
  exact .cons h1 (AtL.append h2 k)
theorem AtL.snoc (h:AtL H ds xs)(k:At H d v):AtL H (ds++[d]) (xs++[v]):=h.append (.cons k .nil)
theorem AtL.take:∀ (n:Nat) {ds:List D} {xs:List V},AtL H ds xs->AtL H (ds.take n) (xs.take n)
 | 0,_,_,_=>by simpa using AtL.nil
 | n+1,[],_,h=>by rw[h.nil_inv];simpa using AtL.nil
 | n+1,_::_,_,h=>by
  obtain⟨x,r,rfl,h1,h2⟩:=h.cons_inv
  rw[List.take_succ_cons,List.take_succ_cons]
  exact .cons h1 (AtL.take n h2)
theorem AtL.drop:∀ (n:Nat) {ds:List D} {xs:List V},AtL H ds xs->AtL H (ds.drop n) (xs.drop n)
 | 0,_,_,h=>h
 | n+1,[],_,h=>by rw[h.nil_inv];simpa using AtL.nil
 | n+1,_::_,_,h=>by
  obtain⟨x,r,rfl,h1,h2⟩:=h.cons_inv
  rw[List.drop_succ_cons,List.drop_succ_cons]
  exact AtL.drop n h2
theorem AtL.set:∀ (n:Nat) {ds:List D} {xs:List V},AtL H ds xs->At H d v->AtL H (ds.set n d) (xs.set n v)
 | _,[],_,h,_=>by rw[h.nil_inv];simpa using AtL.nil
 | 0,_::_,_,h,k=>by
  obtain⟨x,r,rfl,h1,h2⟩:=h.cons_inv
  exact .cons k h2
 | n+1,_::_,_,h,k=>by
  obtain⟨x,r,rfl,h1,h2⟩:=h.cons_inv
  exact .cons h1 (AtL.set n h2 k)
theorem AtL.rep (h:AtL H ds xs):∀ k:Nat,AtL H (List.replicate k ds).flatten (List.replicate k xs).flatten
 | 0=>.nil
 | k+1=>by
  rw[u01,u01,u1q,u1q]
  exact h.append (AtL.rep h k)
theorem AtL.ints (ns:List Int):AtL H (ns.map D.int) (ns.map V.int):=by
 induction ns with
 | nil=>exact .nil
 | cons n r ih=>exact .cons .int ih
theorem AtL.of_ints:∀ {ns:List Int} {xs:List V},AtL H (ns.map D.int) xs->xs=ns.map V.int
 | [],_,h=>h.nil_inv
 | n::r,_,h=>by
  obtain⟨x,r',rfl,h1,h2⟩:=AtL.cons_inv (by simpa using h)
  rw[h1.int_inv,AtL.of_ints h2]
  rfl
end
def tyN:D->String
 | .non=>"NoneType" | .bl _=>"bool" | .int _=>"int" | .str _=>"str" | .tup _=>"tuple" | .lst _=>"list" | .scr _=>"list" | .dct _ _ _ _=>"dict"
def Hid (F':Hp)(p:Addr)(o:HO):Prop:=F' p=none\/((∃ xs,o=.tup xs)/\F' p=some o)
def Keep (F H F' H':Hp):Prop:=∀ p o,F p=none->H p=some o->Hid F' p o/\H' p=some o
structure Gr (F H F' H':Hp):Prop where
 ff:zZ F F'
 fh:zZ F' H'
 kp:Keep F H F' H'
theorem Gr.refl {F H:Hp}(s:zZ F H):Gr F H F H:=⟨zZ.refl _,s,λ_ _ a b=>⟨.inl a,b⟩⟩
theorem Gr.trans {F H F1 H1 F2 H2:Hp}(a:Gr F H F1 H1)(b:Gr F1 H1 F2 H2):Gr F H F2 H2 :=
 ⟨a.ff.trans b.ff,b.fh,λp o e1 e2=>by
  obtain⟨x,y⟩:=a.kp p o e1 e2
  rcases x with x | ⟨x1,x2⟩
  .exact b.kp p o x y
  .exact⟨.inr ⟨x1,b.ff _ _ x2⟩,b.fh _ _ (b.ff _ _ x2)⟩⟩
theorem Gr.kl {F H F' H':Hp}{p:Addr}{o:HO}(g:Gr F H F' H')(n:∀ xs,o≠.tup xs)(e1:F p=none)(e2:H p=some o):F' p=none/\H' p=some o:=by
 obtain⟨x,y⟩:=g.kp p o e1 e2
 rcases x with x | ⟨⟨xs,x1⟩,_⟩
 .exact⟨x,y⟩
 .exact absurd x1 (n xs)
theorem Gr.alloc {F H:Hp}{p:Addr}(s:zZ F H)(h:H p=none)(o:HO):Gr F H (upd F p o) (upd H p o):=by
 have hF:F p=none:=s.free h
 refine⟨λb u q=>?_,λb u q=>?_,λb u q r=>?_⟩
 .rw[zk (zh q hF)];exact q
 .by_cases e:b=p
  .subst e;rw[zm]at q ⊢;exact q
  .rw[zk e]at q ⊢;exact s b u q
 .have e:b≠p:=zh r h
  rw[zk e];exact⟨.inl (by rw[zk e];exact q),r⟩
theorem Gr.hide {F H:Hp}{p:Addr}(s:zZ F H)(h:H p=none)(o:HO):Gr F H F (upd H p o):=by
 refine⟨zZ.refl _,λb u q=>?_,λb u q r=>?_⟩
 .rw[zk (zh (s b u q) h)];exact s b u q
 .have e:b≠p:=zh r h
  rw[zk e];exact⟨.inl q,r⟩
theorem Gr.show {F H:Hp}{p:Addr}{o:HO}{F0 H0:Hp}(g:Gr F0 H0 F H)(h0:H0 p=none)(hF:F p=none)(h:H p=some o):Gr F0 H0 (upd F p o) H:=by
 refine⟨λb u q=>?_,λb u q=>?_,λb u q r=>?_⟩
 .have:=g.ff b u q
  rw[zk (zh this hF)];exact this
 .by_cases e:b=p
  .subst e;rw[zm]at q;rw[<-q];exact h
  .rw[zk e]at q;exact g.fh b u q
 .have e:b≠p:=zh r h0
  obtain⟨x,y⟩:=g.kp b u q r
  refine⟨?_,y⟩
  unfold Hid
  rw[zk e]
  exact x
abbrev Ev:=List (Option D)
def VAt (F:Hp)(ρ:Ev)(σ:St):Prop:=∀ (i:Nat) (d:D),ρ[i]?=some (some d)->∃ v,σ[i]?=some (some v)/\At F d v
theorem VAt.mono {F F':Hp}{ρ:Ev}{σ:St}(h:VAt F ρ σ)(s:zZ F F'):VAt F' ρ σ:=λi d e=>let ⟨v,e1,a⟩:=h i d e;⟨v,e1,a.mono s⟩
def RE (t:TE)(f:Ev->Option D):Prop :=
 ∀ (σ:St) (ρ:Ev) (F H:Hp) (d:D) (Q:VK),zZ F H->VAt F ρ σ->f ρ=some d->(∀ F' H' v,Gr F H F' H'->At F' d v->Q v H')->t σ H Q
def RT (t:TT)(f:Ev->Option Bool):Prop :=
 ∀ (σ:St) (ρ:Ev) (F H:Hp) (b:Bool) (Q:Bool->Hp->Prop),zZ F H->VAt F ρ σ->f ρ=some b->(∀ F' H',Gr F H F' H'->Q b H')->t σ H Q
def RA (t:TA)(f:Ev->Option (List D)):Prop :=
 ∀ (σ:St) (ρ:Ev) (F H:Hp) (ds:List D) (Q:List V->Hp->Prop),zZ F H->VAt F ρ σ->f ρ=some ds->(∀ F' H' vs,Gr F H F' H'->AtL F' ds vs->Q vs H')->t σ H Q
def RF (t:TE)(f:Ev->Option (List D)):Prop :=
 ∀ (σ:St) (ρ:Ev) (F H:Hp) (ds:List D) (Q:VK),zZ F H->VAt F ρ σ->f ρ=some ds->(∀ F' H' p xs,Gr F H F' H'->H p=none->F' p=none->H' p=some (.lst xs)->AtL F' ds xs->Q (.ref p) H')->t σ H Q
def ED (X:Cx)(e:Expr)(f:Ev->Option D):Prop:=∃ t,PE X e t/\RE t f
def TD (X:Cx)(e:Expr)(f:Ev->Option Bool):Prop:=∃ t,PT X e t/\RT t f
def WD (X:Cx)(e:Expr)(f:Ev->Option Bool):Prop:=∃ t,PW X e t/\RT t f
def AD (X:Cx)(es:List Expr)(f:Ev->Option (List D)):Prop:=∃ t,PA X es t/\RA t f
def FL (X:Cx)(e:Expr)(f:Ev->Option (List D)):Prop:=∃ t,PE X e t/\RF t f
section
variable {X:Cx}{a b c:Expr}{pos:Pos}
def wx (f:Ev->Option (List D)):Ev->Option D:=fun ρ=>(f ρ).map .lst
theorem vt {f:Ev->Option (List D)}(h:FL X a f):ED X a (wx f):=by
 obtain⟨t,ht,r⟩:=h
 refine⟨t,ht,fun σ ρ F H d Q s va e q=>?_⟩
 obtain⟨ds,e1,rfl⟩:=u9.mp e
 refine r σ ρ F H ds Q s va e1 λF' H' p xs g h0 hF hH hx=>?_
 have g2:=g.show h0 hF hH
 exact q _ _ _ g2 (At.lst zm (hx.mono (λb u e=>by rw[zk (zh e hF)];exact e)))
def zd (i:Nat):Ev->Option D:=fun ρ=>(ρ[i]?).getD none
theorem zkZ (i:Nat)(h:PE X a (Vj i)):ED X a (zd i):=by
 refine⟨_,h,fun σ ρ F H d Q s va e q=>?_⟩
 have e':ρ[i]?=some (some d):=by
  unfold zd at e
  cases h:ρ[i]? with
  | none=>rw[h]at e;cases e
  | some x=>rw[h]at e;cases x with
   | none=>cases e
   | some y=>cases e;rfl
 obtain⟨v,e1,a1⟩:=va i d e'
 exact⟨v,e1,q _ _ _ (.refl s) a1⟩
def eC (d:D):Ev->Option D:=λ_=>some d
theorem zg {i:Int}(h:PE X a (tC (.int i))):ED X a (eC (.int i)):=⟨_,h,λ_ _ _ _ _ _ s _ e q=>by cases e;exact q _ _ _ (.refl s) .int⟩
theorem YB {i:Bool}(h:PE X a (tC (.bl i))):ED X a (eC (.bl i)):=⟨_,h,λ_ _ _ _ _ _ s _ e q=>by cases e;exact q _ _ _ (.refl s) .bl⟩
theorem zbb (h:PE X a (tC .non)):ED X a (eC .non):=⟨_,h,λ_ _ _ _ _ _ s _ e q=>by cases e;exact q _ _ _ (.refl s) .non⟩
def OpD (r:R2)(g:D->D->Option D):Prop :=
 ∀ (F H:Hp) (x y:V) (d e z:D) (Q:VK),zZ F H->At F d x->At F e y->g d e=some z->(∀ F' H' v,Gr F H F' H'->At F' z v->Q v H')->r x y H Q
def zr (g:D->D->Option D)(f h:Ev->Option D):Ev->Option D:=fun ρ=>(f ρ).bind λx=>(h ρ).bind λy=>g x y
theorem zhU {r:R2}{g:D->D->Option D}{ta tb:TE}{f h:Ev->Option D}(hg:OpD r g)(ra:RE ta f)(rb:RE tb h):RE (tOp r ta tb) (zr g f h):=by
 intro σ ρ F H z Q s va e q
 obtain⟨x,e1,e⟩:=u4.mp e
 obtain⟨y,e2,e⟩:=u4.mp e
 refine ra σ ρ F H x _ s va e1 λF1 H1 v g1 a1=>?_
 refine rb σ ρ F1 H1 y _ g1.fh (va.mono g1.ff) e2 λF2 H2 u g2 a2=>?_
 exact hg F2 H2 v u x y z Q g2.fh (a1.mono g2.ff) a2 e λF3 H3 w g3 a3=>q F3 H3 w ((g1.trans g2).trans g3) a3
theorem Vf {op:Operator}{r:R2}{g:D->D->Option D}{f h:Ev->Option D}(ho:OpR X (binaryOp op) r)(hg:OpD r g)(ha:ED X a f)(hb:ED X b h):ED X (.BinOp a op b pos) (zr g f h) :=
 let ⟨_,pa,ra⟩:=ha
 let ⟨_,pb,rb⟩:=hb
 ⟨_,zhu ho pa pb,zhU hg ra rb⟩
theorem YE {op:CmpOp}{r:R2}{g:D->D->Option D}{f h:Ev->Option D}(ho:OpR X (compareOp op) r)(hg:OpD r g)(hm:behindInMarks op b=false)(ha:ED X a f)(hb:ED X b h):ED X (.Compare a [op] [b] pos) (zr g f h) :=
 let ⟨_,pa,ra⟩:=ha
 let ⟨_,pb,rb⟩:=hb
 ⟨_,zjy ho pa pb hm,zhU hg ra rb⟩
def asB:D->Option Bool
 | .bl b=>some b
 | _=>none
theorem XY {d:D}{b:Bool}(h:asB d=some b):d=.bl b:=by
 cases d <;> first | (cases h;rfl) | cases h
def tOf (f:Ev->Option D):Ev->Option Bool:=fun ρ=>(f ρ).bind asB
theorem zkY {t:TE}{f:Ev->Option D}(r:RE t f):RT (zj4 t) (tOf f):=by
 intro σ ρ F H b Q s va e q
 obtain⟨x,e1,e⟩:=u4.mp e
 cases XY e
 exact r σ ρ F H _ _ s va e1 λF1 H1 v g1 a1=>⟨b,a1.bl_inv,q F1 H1 g1⟩
theorem yg {op:CmpOp}{r:R2}{g:D->D->Option D}{f h:Ev->Option D}(ho:OpR X (compareOp op) r)(hg:OpD r g)(hm:behindInMarks op b=false)(ha:ED X a f)(hb:ED X b h):TD X (.Compare a [op] [b] pos) (tOf (zr g f h)) :=
 let ⟨_,pa,ra⟩:=ha
 let ⟨_,pb,rb⟩:=hb
 ⟨_,zfp ho pa pb hm,zkY (zhU hg ra rb)⟩
theorem xv {f:Ev->Option D}(ha:ED X a f)(he:∀ whole,isTrue a X.env whole=(do let v<-whole;standAt a.pos;holding [v] (truthy v)):=by intro _;rfl):TD X a (tOf f) :=
 let ⟨_,pa,ra⟩:=ha
 ⟨_,zi7 pa he,zkY ra⟩
def wE (f g:Ev->Option Bool):Ev->Option Bool:=fun ρ=>(f ρ).bind λc=>if c=true then g ρ else some false
def Zp (f g:Ev->Option Bool):Ev->Option Bool:=fun ρ=>(f ρ).bind λc=>if c=true then some true else g ρ
def yW (f:Ev->Option Bool):Ev->Option Bool:=fun ρ=>(f ρ).map (!·)
theorem zgf {f:Ev->Option Bool}(ha:TD X a f):WD X (.BoolOp .And [a] pos) f:=let ⟨_,pa,ra⟩:=ha;⟨_,zkw pa,ra⟩
theorem WO {f:Ev->Option Bool}(ha:TD X a f):WD X (.BoolOp .Or [a] pos) f:=let ⟨_,pa,ra⟩:=ha;⟨_,zi6 pa,ra⟩
theorem zjf {rest:List Expr}{f g:Ev->Option Bool}(ha:TD X a f)(hb:WD X (.BoolOp .And (b::rest) pos) g):WD X (.BoolOp .And (a::b::rest) pos) (wE f g):=by
 obtain⟨ta,pa,ra⟩:=ha
 obtain⟨tb,pb,rb⟩:=hb
 refine⟨_,zmd pa pb,fun σ ρ F H z Q s va e q=>?_⟩
 obtain⟨x,e1,e⟩:=u4.mp e
 refine ra σ ρ F H x _ s va e1 λF1 H1 g1=>?_
 cases x with
 | true =>
  rw[t9 rfl]at e ⊢
  exact rb σ ρ F1 H1 z Q g1.fh (va.mono g1.ff) e λF2 H2 g2=>q F2 H2 (g1.trans g2)
 | false =>
  rw[j0 u6]at e ⊢
  cases e
  exact q F1 H1 g1
theorem zb4 {rest:List Expr}{f g:Ev->Option Bool}(ha:TD X a f)(hb:WD X (.BoolOp .Or (b::rest) pos) g):WD X (.BoolOp .Or (a::b::rest) pos) (Zp f g):=by
 obtain⟨ta,pa,ra⟩:=ha
 obtain⟨tb,pb,rb⟩:=hb
 refine⟨_,zlO pa pb,fun σ ρ F H z Q s va e q=>?_⟩
 obtain⟨x,e1,e⟩:=u4.mp e
 refine ra σ ρ F H x _ s va e1 λF1 H1 g1=>?_
 cases x with
 | false =>
  rw[j0 u6]at e ⊢
  exact rb σ ρ F1 H1 z Q g1.fh (va.mono g1.ff) e λF2 H2 g2=>q F2 H2 (g1.trans g2)
 | true =>
  rw[t9 rfl]at e ⊢
  cases e
  exact q F1 H1 g1
theorem zic {f:Ev->Option Bool}(h:WD X a f):TD X a f:=let ⟨_,p,r⟩:=h;⟨_,p.pt,r⟩
theorem Yp {f:Ev->Option Bool}(ha:TD X a f):TD X (.UnaryOp .Not a pos) (yW f):=by
 obtain⟨ta,pa,ra⟩:=ha
 refine⟨_,ziU pa,fun σ ρ F H z Q s va e q=>?_⟩
 obtain⟨x,e1,rfl⟩:=u9.mp e
 exact ra σ ρ F H x _ s va e1 λF1 H1 g1=>q F1 H1 g1
def Yg (f g:Ev->Option D):Ev->Option D:=fun ρ=>((f ρ).bind asB).bind λc=>if c=true then g ρ else some (.bl false)
def eOr (f g:Ev->Option D):Ev->Option D:=fun ρ=>((f ρ).bind asB).bind λc=>if c=true then some (.bl true)else g ρ
def Wu (f:Ev->Option D):Ev->Option D:=fun ρ=>((f ρ).bind asB).map λc=>.bl (!c)
theorem ZY {op}{f:Ev->Option D}(ha:ED X a f):ED X (.BoolOp op [a] pos) f:=let ⟨_,pa,ra⟩:=ha;⟨_,zl1 pa,ra⟩
theorem Yx {rest:List Expr}{f g:Ev->Option D}(ha:ED X a f)(hb:ED X (.BoolOp .And (b::rest) pos) g):ED X (.BoolOp .And (a::b::rest) pos) (Yg f g):=by
 obtain⟨ta,pa,ra⟩:=ha
 obtain⟨tb,pb,rb⟩:=hb
 refine⟨_,zmn pa pb,fun σ ρ F H z Q s va e q=>?_⟩
 obtain⟨x,e1,e⟩:=u4.mp e
 obtain⟨y,e1,e2⟩:=u4.mp e1
 cases XY e2
 refine ra σ ρ F H _ _ s va e1 λF1 H1 v g1 a1=>⟨x,a1.bl_inv,?_⟩
 cases x with
 | true =>
  rw[t9 rfl]at e ⊢
  exact rb σ ρ F1 H1 z Q g1.fh (va.mono g1.ff) e λF2 H2 w g2 a2=>q F2 H2 w (g1.trans g2) a2
 | false =>
  rw[j0 u6]at e ⊢
  cases e
  exact q F1 H1 _ g1 .bl
theorem zi1 {f:Ev->Option D}(ha:ED X a f):ED X (.UnaryOp .Not a pos) (Wu f):=by
 obtain⟨ta,pa,ra⟩:=ha
 refine⟨_,zlk pa,fun σ ρ F H z Q s va e q=>?_⟩
 obtain⟨x,e1,rfl⟩:=u9.mp e
 obtain⟨y,e1,e2⟩:=u4.mp e1
 cases XY e2
 exact ra σ ρ F H _ _ s va e1 λF1 H1 v g1 a1=>⟨x,a1.bl_inv,q F1 H1 _ g1 .bl⟩
def eIf (t:Ev->Option Bool)(f g:Ev->Option D):Ev->Option D:=fun ρ=>(t ρ).bind λc=>if c=true then f ρ else g ρ
def eUn (g:D->Option D)(f:Ev->Option D):Ev->Option D:=fun ρ=>(f ρ).bind g
def Vq:D->Option D
 | .int i=>some (.int (-i))
 | _=>none
def zw:Ev->Option (List D):=λ_=>some []
def zb (f:Ev->Option D)(g:Ev->Option (List D)):Ev->Option (List D):=fun ρ=>(f ρ).bind λd=>(g ρ).map (d::·)
theorem zc:AD X [] zw:=⟨_,yw,λ_ _ _ _ _ _ s _ e q=>by cases e;exact q _ _ _ (.refl s) .nil⟩
theorem za {e:Expr}{es:List Expr}{f:Ev->Option D}{g:Ev->Option (List D)}(ha:ED X e f)(hr:AD X es g)(hs:starEach (e::es) X.env=(false,eval e X.env)::starEach es X.env:=by rfl):AD X (e::es) (zb f g):=by
 obtain⟨ta,pa,ra⟩:=ha
 obtain⟨tb,pb,rb⟩:=hr
 refine⟨_,zp pa pb hs,fun σ ρ F H z Q s va e q=>?_⟩
 obtain⟨x,e1,e⟩:=u4.mp e
 obtain⟨ds,e2,rfl⟩:=u9.mp e
 refine ra σ ρ F H x _ s va e1 λF1 H1 v g1 a1=>?_
 exact rb σ ρ F1 H1 ds _ g1.fh (va.mono g1.ff) e2 λF2 H2 w g2 a2=>q F2 H2 _ (g1.trans g2) (.cons (a1.mono g2.ff) a2)
def lim (n:Nat):Bool:=decide (n<=sizeLine)
def vy (g:Ev->Option (List D)):Ev->Option D:=fun ρ=>(g ρ).bind λds=>if lim ds.length=true then some (.tup ds)else none
def yO (g:Ev->Option (List D)):Ev->Option (List D):=fun ρ=>(g ρ).bind λds=>if lim ds.length=true then some ds else none
theorem w8 {es:List Expr}{x1}{g:Ev->Option (List D)}(h:AD X es g):ED X (.Tuple es x1 pos) (vy g):=by
 obtain⟨ta,pa,ra⟩:=h
 refine⟨_,zi2 pa,fun σ ρ F H z Q s va e q=>?_⟩
 obtain⟨ds,e1,e⟩:=u4.mp e
 split at e <;> cases e
 rename_i hl
 refine ra σ ρ F H ds _ s va e1 λF1 H1 vs g1 a1=>⟨by rw[a1.length];exact p0 hl,λp hp=>?_⟩
 have g2:=Gr.alloc g1.fh hp (.tup vs)
 exact q _ _ _ (g1.trans g2) (.tup zm (a1.mono g2.ff))
theorem Yi {es:List Expr}{g:Ev->Option (List D)}(h:AD X es g):FL X (.List es pos) (yO g):=by
 obtain⟨ta,pa,ra⟩:=h
 refine⟨_,zbt pa,fun σ ρ F H z Q s va e q=>?_⟩
 obtain⟨ds,e1,e⟩:=u4.mp e
 split at e <;> cases e
 rename_i hl
 refine ra σ ρ F H _ _ s va e1 λF1 H1 vs g1 a1=>⟨by rw[a1.length];exact p0 hl,λp hp=>?_⟩
 have g2:=Gr.hide g1.fh hp (.lst vs)
 have h0:H p=none:=by
  cases e:H p with
  | none=>rfl
  | some o =>
   cases e2:F p with
   | none=>rw[(g1.kp p o e2 e).2]at hp;cases hp
   | some u=>rw[g1.fh _ _ (g1.ff _ _ e2)]at hp;cases hp
 exact q _ _ _ _ (g1.trans g2) h0 (g1.fh.free hp) zm a1
end
end
end Dl
namespace Dl
open PySem L2
variable [KK]
inductive Sl where
 | no | v (d:D) | o (ds:List D) | m (t:Bool) (ks:List (List Key)) (vs:List D)
 deriving Inhabited
abbrev SE:=List Sl
def Sl.f:Sl->Option D
 | .v d=>some d
 | _=>none
def Sl.g:Sl->Option D
 | .v d=>some d
 | .o ds=>some (.lst ds)
 | .m t ks vs=>some (.dct false t ks vs)
 | .no=>none
def Sl.isO:Sl->Bool
 | .o _=>true
 | .m _ _ _=>true
 | _=>false
def visF (ρ:SE):Ev:=ρ.map Sl.f
def visG (ρ:SE):Ev:=ρ.map Sl.g
def zdS (F:Hp)(o:HO):Sl->Prop
 | .o ds=>∃ xs,o=.lst xs/\AtL F ds xs
 | .m t ks ds=>∃ xs,zbV o t ks xs/\AtL F ds xs
 | _=>False
theorem zdS.mono {F F':Hp}{o:HO}{s:Sl}(h:zdS F o s)(k:zZ F F'):zdS F' o s:=by
 cases s with
 | no=>exact h
 | v d=>exact h
 | o ds=>obtain⟨xs,e,a⟩:=h;exact⟨xs,e,a.mono k⟩
 | m t ks ds=>obtain⟨xs,e,a⟩:=h;exact⟨xs,e,a.mono k⟩
theorem zdS.isO {F:Hp}{o:HO}{s:Sl}(h:zdS F o s):s.isO=true:=by
 cases s with
 | no=>exact h.elim
 | v d=>exact h.elim
 | o ds=>rfl
 | m t ks ds=>rfl
theorem zdS.ntup {F:Hp}{o:HO}{s:Sl}(h:zdS F o s)(xs:List V):o≠.tup xs:=by
 cases s with
 | no=>exact h.elim
 | v d=>exact h.elim
 | o ds=>obtain⟨ys,rfl,_⟩:=h;intro e;cases e
 | m t ks ds =>
  obtain⟨ys,e,_⟩:=h
  unfold zbV at e
  split at e
  .obtain⟨kvs,rfl,_⟩:=e;intro e;cases e
  .obtain⟨kvs,rfl,_⟩:=e;intro e;cases e
theorem zdS.at {F G:Hp}{o:HO}{s:Sl}{d:D}{p:Addr}(h:zdS F o s)(e:s.g=some d)(hp:G p=some o)(k:zZ F G):At G d (.ref p):=by
 cases s with
 | no=>exact h.elim
 | v d=>exact h.elim
 | o ds =>
  cases e
  obtain⟨xs,rfl,a⟩:=h
  exact .lst hp (a.mono k)
 | m t ks ds =>
  cases e
  obtain⟨xs,e,a⟩:=h
  unfold At
  exact⟨p,xs,rfl,⟨o,e,hp⟩,a.mono k⟩
structure Rl (Fb Hb F H:Hp) (ρ:SE) (σ:St):Prop where
 gr:Gr Fb Hb F H
 vals:∀ (i:Nat) (d:D),ρ[i]?=some (.v d)->∃ v,σ[i]?=some (some v)/\At F d v
 ows:∀ (i:Nat) (s:Sl),ρ[i]?=some s->s.isO=true->∃ p o,σ[i]?=some (some (.ref p))/\Hb p=none/\F p=none/\H p=some o/\zdS F o s
 dis:∀ (i j:Nat) (p:Addr) (s t:Sl),ρ[i]?=some s->ρ[j]?=some t->s.isO=true->t.isO=true->σ[i]?=some (some (.ref p))->σ[j]?=some (some (.ref p))->i=j
 len:ρ.length=σ.length
section
variable {Fb Hb F H F' H':Hp}{ρ ρ':SE}{σ σ':St}
theorem Rl.owns (r:Rl Fb Hb F H ρ σ)(i:Nat)(ds:List D)(e:ρ[i]?=some (.o ds)):∃ p xs,σ[i]?=some (some (.ref p))/\Hb p=none/\F p=none/\H p=some (.lst xs)/\AtL F ds xs:=by
 obtain⟨p,o,e1,e2,e3,e4,xs,rfl,a⟩:=r.ows i _ e rfl
 exact⟨p,xs,e1,e2,e3,e4,a⟩
theorem Rl.grow (r:Rl Fb Hb F H ρ σ)(g:Gr F H F' H'):Rl Fb Hb F' H' ρ σ:=by
 refine⟨r.gr.trans g,λi d e=>?_,λi s e h=>?_,r.dis,r.len⟩
 .obtain⟨v,e1,a⟩:=r.vals i d e
  exact⟨v,e1,a.mono g.ff⟩
 .obtain⟨p,o,e1,e2,e3,e4,a⟩:=r.ows i s e h
  obtain⟨k1,k2⟩:=g.kl a.ntup e3 e4
  exact⟨p,o,e1,e2,k1,k2,a.mono g.ff⟩
theorem Rl.visF (r:Rl Fb Hb F H ρ σ):VAt F (visF ρ) σ:=λi d e=>by
 unfold Dl.visF at e
 rw[r6]at e
 cases h:ρ[i]? with
 | none=>rw[h]at e;cases e
 | some x =>
  rw[h]at e
  cases x with
  | no=>cases e
  | v d' =>
   cases e
   exact r.vals i d h
  | o ds=>cases e
  | m t ks ds=>cases e
def Own (ρ:SE)(σ:St)(p:Addr):Prop:=∃ (i:Nat) (s:Sl),ρ[i]?=some s/\s.isO=true/\σ[i]?=some (some (.ref p))
open Classical in
noncomputable def gOf (ρ:SE)(σ:St)(F H:Hp):Hp:=λp=>if Own ρ σ p then H p else F p
open Classical in
noncomputable def fOf (ρ:SE)(σ:St)(G:Hp):Hp:=λp=>if Own ρ σ p then none else G p
theorem Rl.own (r:Rl Fb Hb F H ρ σ){p:Addr}(h:Own ρ σ p):Hb p=none/\F p=none/\∃ o,H p=some o/\∀ xs,o≠.tup xs:=by
 obtain⟨i,s,e1,e2,e3⟩:=h
 obtain⟨q,o,e4,e5,e6,e7,a⟩:=r.ows i s e1 e2
 rw[e3]at e4
 cases e4
 exact⟨e5,e6,o,e7,a.ntup⟩
theorem Rl.notown (r:Rl Fb Hb F H ρ σ){q:Addr}(h:H q=none)(j:Nat)(s:Sl)(e1:ρ[j]?=some s)(e2:s.isO=true):σ[j]?≠some (some (.ref q)):=λe=>by
 obtain⟨p,o,f1,_,_,f4,_⟩:=r.ows j s e1 e2
 rw[e]at f1
 cases f1
 rw[h]at f4
 cases f4
theorem Rl.notbase (r:Rl Fb Hb F H ρ σ){q:Addr}(h:H q=none):Hb q=none:=by
 cases z:Hb q with
 | none=>rfl
 | some o =>
  cases z2:Fb q with
  | none=>rw[(r.gr.kp q o z2 z).2]at h;cases h
  | some u=>rw[r.gr.fh _ _ (r.gr.ff _ _ z2)]at h;cases h
theorem Rl.fg (r:Rl Fb Hb F H ρ σ):zZ F (gOf ρ σ F H):=λp o e=>by
 unfold gOf
 split
 .exact r.gr.fh p o e
 .exact e
theorem Rl.gh (r:Rl Fb Hb F H ρ σ):zZ (gOf ρ σ F H) H:=λp o e=>by
 unfold gOf at e
 split at e
 .exact e
 .exact r.gr.fh p o e
theorem Rl.visG (r:Rl Fb Hb F H ρ σ):VAt (gOf ρ σ F H) (visG ρ) σ:=λi d e=>by
 unfold Dl.visG at e
 rw[r6]at e
 cases h:ρ[i]? with
 | none=>rw[h]at e;cases e
 | some x =>
  rw[h]at e
  have e:x.g=some d:=p9 e
  have own:x.isO=true->∃ v,σ[i]?=some (some v)/\At (gOf ρ σ F H) d v:=λhx=>by
   obtain⟨p,o,e1,e2,e3,e4,a⟩:=r.ows i x h hx
   refine⟨_,e1,a.at e ?_ r.fg⟩
   unfold gOf
   rw[t9 ⟨i,x,h,hx,e1⟩]
   exact e4
  cases x with
  | no=>cases e
  | v d' =>
   cases e
   obtain⟨v,e1,a⟩:=r.vals i d h
   exact⟨v,e1,a.mono r.fg⟩
  | o ds=>exact own rfl
  | m t ks ds=>exact own rfl
theorem Rl.back {G':Hp}(r:Rl Fb Hb F H ρ σ)(g:Gr (gOf ρ σ F H) H G' H'):Gr F H (fOf ρ σ G') H'/\∀ q xs,G' q=some (.tup xs)->fOf ρ σ G' q=some (.tup xs):=by
 refine⟨⟨λp o e=>?_,λp o e=>?_,λp o e1 e2=>?_⟩,λq xs e=>?_⟩
 .unfold fOf
  rw[j0 (λh=>by rw[(r.own h).2.1]at e;cases e)]
  exact g.ff p o (r.fg p o e)
 .unfold fOf at e
  split at e
  .cases e
  .exact g.fh p o e
 .by_cases h:Own ρ σ p
  .refine⟨.inl (by unfold fOf;rw[t9 h]),g.fh p o (g.ff p o ?_)⟩
   unfold gOf
   rw[t9 h]
   exact e2
  .obtain⟨x,y⟩:=g.kp p o (by unfold gOf;rw[j0 h];exact e1) e2
   refine⟨?_,y⟩
   unfold Hid fOf
   rw[j0 h]
   exact x
 .unfold fOf
  rw[j0 (λh=>?_)]
  .exact e
  .obtain⟨_,_,o,e2,n⟩:=r.own h
   have:G' q=some o:=g.ff q _ (by unfold gOf;rw[t9 h];exact e2)
   rw[this]at e
   cases e
   exact n xs rfl
theorem Rl.out {G':Hp}(r:Rl Fb Hb F H ρ σ)(g:Gr (gOf ρ σ F H) H G' H'):Gr Fb Hb G' H':=by
 refine⟨λp o e=>g.ff p o (r.fg p o (r.gr.ff p o e)),g.fh,λp o e1 e2=>?_⟩
 obtain⟨k1,k2⟩:=r.gr.kp p o e1 e2
 have e3:gOf ρ σ F H p=F p:=by
  unfold gOf
  rw[j0 (λh=>by rw[(r.own h).1]at e2;cases e2)]
 rcases k1 with k1 | ⟨k1,k3⟩
 .exact g.kp p o (by rw[e3];exact k1) k2
 .have:=g.ff p o (by rw[e3];exact k3)
  exact⟨.inr ⟨k1,this⟩,g.fh _ _ this⟩
theorem Rl.set (r:Rl Fb Hb F H ρ σ){i:Nat}{d:D}{v:V}(a:At F d v):Rl Fb Hb F H (ρ.set i (.v d)) (σ.set i (some v)):=by
 have nj:∀ {j:Nat} {s:Sl},(ρ.set i (.v d))[j]?=some s->s.isO=true->i≠j:=λ{j s} h ho e=>by
  subst e
  rw[u1r]at h
  simp only[u2A]at h
  split at h <;> cases h
  cases ho
 refine⟨r.gr,λj e h=>?_,λj s h ho=>?_,λj k p s t h1 h2 o1 o2 h3 h4=>?_,by simp[r.len]⟩
 .by_cases hj:i=j
  .subst hj
   rw[u1r]at h
   simp only[u2A]at h
   split at h
   .rename_i hl
    cases h
    refine⟨v,?_,a⟩
    rw[u1r]
    simp[<-r.len,hl]
   .cases h
  .rw[d4 hj]at h ⊢
   exact r.vals j e h
 .have hj:=nj h ho
  rw[d4 hj]at h ⊢
  exact r.ows j s h ho
 .have a1:=nj h1 o1
  have a2:=nj h2 o2
  rw[d4 a1]at h1 h3
  rw[d4 a2]at h2 h4
  exact r.dis j k p s t h1 h2 o1 o2 h3 h4
theorem Rl.setW (r:Rl Fb Hb F H ρ σ){i:Nat}{w:Sl}{p:Addr}{o:HO}(h0:Hb p=none)(hF:F p=none)(hH:H p=some o)(a:zdS F o w)
 (nw:∀ (j:Nat) (s:Sl),ρ[j]?=some s->s.isO=true->σ[j]?≠some (some (.ref p))):Rl Fb Hb F H (ρ.set i w) (σ.set i (some (.ref p))):=by
 have at_i:∀ {s:Sl},(ρ.set i w)[i]?=some s->i < ρ.length/\s=w:=λ{s} h=>by
  rw[u1r]at h
  simp only[u2A]at h
  split at h
  .rename_i hl
   cases h
   exact⟨hl,rfl⟩
  .cases h
 have st_i:i < ρ.length->(σ.set i (some (V.ref p)))[i]?=some (some (.ref p)):=λhl=>by
  rw[u1r]
  simp[<-r.len,hl]
 refine⟨r.gr,λj e h=>?_,λj s h ho=>?_,λj k q s t h1 h2 o1 o2 h3 h4=>?_,by simp[r.len]⟩
 .by_cases hj:i=j
  .subst hj
   have e:=(at_i h).2
   have:=a.isO
   rw[<-e]at this
   cases this
  .rw[d4 hj]at h ⊢
   exact r.vals j e h
 .by_cases hj:i=j
  .subst hj
   obtain⟨hl,e⟩:=at_i h
   subst e
   exact⟨p,o,st_i hl,h0,hF,hH,a⟩
  .rw[d4 hj]at h ⊢
   exact r.ows j s h ho
 .by_cases hj:i=j
  .subst hj
   by_cases hk:i=k
   .exact hk
   .obtain⟨hl,_⟩:=at_i h1
    rw[st_i hl]at h3
    cases h3
    rw[d4 hk]at h2 h4
    exact absurd h4 (nw k t h2 o2)
  .by_cases hk:i=k
   .subst hk
    obtain⟨hl,_⟩:=at_i h2
    rw[st_i hl]at h4
    cases h4
    rw[d4 hj]at h1 h3
    exact absurd h3 (nw j s h1 o1)
   .rw[d4 hj]at h1 h3
    rw[d4 hk]at h2 h4
    exact r.dis j k q s t h1 h2 o1 o2 h3 h4
theorem Rl.setO (r:Rl Fb Hb F H ρ σ){i:Nat}{ds:List D}{p:Addr}{xs:List V}(h0:Hb p=none)(hF:F p=none)(hH:H p=some (.lst xs))(a:AtL F ds xs)
 (nw:∀ (j:Nat) (s:Sl),ρ[j]?=some s->s.isO=true->σ[j]?≠some (some (.ref p))):Rl Fb Hb F H (ρ.set i (.o ds)) (σ.set i (some (.ref p))):=r.setW h0 hF hH ⟨xs,rfl,a⟩ nw
theorem Rl.mutW (r:Rl Fb Hb F H ρ σ){i:Nat}{w w':Sl}{p:Addr}{o':HO}(e:ρ[i]?=some w)(hw:w.isO=true)(e1:σ[i]?=some (some (.ref p)))(a:zdS F o' w'):Rl Fb Hb F (upd H p o') (ρ.set i w') σ:=by
 obtain⟨q,o,e2,h0,hF,hH,_⟩:=r.ows i w e hw
 rw[e1]at e2
 cases e2
 have hi:i < ρ.length:=(t7.mp e).1
 have neP:∀ {j:Nat} {s:Sl} {q:Addr},i≠j->ρ[j]?=some s->s.isO=true->σ[j]?=some (some (.ref q))->q≠p:=λ{j s q} hne h1 ho h2 z=>by
  subst z
  exact hne (r.dis i j q w s e h1 hw ho e1 h2)
 refine⟨⟨r.gr.ff,λb o z=>?_,λb o z1 z2=>?_⟩,λj d h=>?_,λj s h ho=>?_,λj k q s t h1 h2 o1 o2 h3 h4=>?_,by simp[r.len]⟩
 .rw[zk (zh z hF)]
  exact r.gr.fh b o z
 .rw[zk (zh z2 h0)]
  exact r.gr.kp b o z1 z2
 .by_cases hj:i=j
  .subst hj
   rw[i7 hi]at h
   cases h
   exact(Bool.noConfusion a.isO)
  .rw[d4 hj]at h
   exact r.vals j d h
 .by_cases hj:i=j
  .subst hj
   rw[i7 hi]at h
   cases h
   exact⟨p,o',e1,h0,hF,zm,a⟩
  .rw[d4 hj]at h
   obtain⟨q,z,f1,f2,f3,f4,f5⟩:=r.ows j s h ho
   refine⟨q,z,f1,f2,f3,?_,f5⟩
   rw[zk (neP hj h ho f1)]
   exact f4
 .have back:∀ {j:Nat} {s:Sl},(ρ.set i w')[j]?=some s->s.isO=true->∃ s',ρ[j]?=some s'/\s'.isO=true:=λ{j s} h ho=>by
   by_cases hj:i=j
   .subst hj;exact⟨w,e,hw⟩
   .rw[d4 hj]at h;exact⟨s,h,ho⟩
  obtain⟨f1,g1,g1'⟩:=back h1 o1
  obtain⟨f2,g2,g2'⟩:=back h2 o2
  exact r.dis j k q f1 f2 g1 g2 g1' g2' h3 h4
theorem Rl.mutate (r:Rl Fb Hb F H ρ σ){i:Nat}{ds es:List D}{p:Addr}{ys:List V}(e:ρ[i]?=some (.o ds))(e1:σ[i]?=some (some (.ref p)))(a:AtL F es ys):Rl Fb Hb F (upd H p (.lst ys)) (ρ.set i (.o es)) σ :=
 r.mutW e rfl e1 ⟨ys,rfl,a⟩
def Sl.fz:Sl->Sl
 | .o ds=>.v (.lst ds)
 | .m t ks vs=>.v (.dct false t ks vs)
 | s=>s
def zm3 (ρ:SE)(i:Nat):SE:=ρ.set i ((ρ[i]?).getD .no).fz
theorem Rl.freeze (r:Rl Fb Hb F H ρ σ)(i:Nat):∃ F',Rl Fb Hb F' H (zm3 ρ i) σ:=by
 unfold zm3
 cases h:ρ[i]? with
 | none =>
  refine⟨F,?_⟩
  rw[List.set_eq_of_length_le (List.getElem?_eq_none_iff.mp h)]
  exact r
 | some s =>
  have hi:i < ρ.length:=(t7.mp h).1
  have same:s.fz=s->∃ F',Rl Fb Hb F' H (ρ.set i ((some s).getD .no).fz) σ:=λe=>by
   refine⟨F,?_⟩
   show Rl Fb Hb F H (ρ.set i s.fz) σ
   rw[e]
   have:ρ.set i s=ρ:=by
    apply u2n
    intro j
    by_cases hj:i=j
    .subst hj;rw[i7 hi,h]
    .rw[d4 hj]
   rw[this]
   exact r
  have give:∀ d,s.isO=true->s.g=some d->s.fz=.v d->∃ F',Rl Fb Hb F' H (ρ.set i ((some s).getD .no).fz) σ:=λd ho hg hz=>by
   obtain⟨p,o,e1,e2,e3,e4,a⟩:=r.ows i s h ho
   have sF:zZ F (upd F p o):=λb u e=>by rw[zk (zh e e3)];exact e
   show ∃ F',Rl Fb Hb F' H (ρ.set i s.fz) σ
   rw[hz]
   have nj:∀ {j:Nat} {t:Sl},(ρ.set i (.v d))[j]?=some t->t.isO=true->i≠j:=λ{j t} h ht e=>by
    subst e
    rw[i7 hi]at h
    cases h
    cases ht
   refine⟨upd F p o,r.gr.show e2 e3 e4,λj e z=>?_,λj t z ht=>?_,λj k q t u h1 h2 o1 o2 h3 h4=>?_,by simp[r.len]⟩
   .by_cases hj:i=j
    .subst hj
     rw[i7 hi]at z
     cases z
     exact⟨_,e1,a.at hg zm sF⟩
    .rw[d4 hj]at z
     obtain⟨v,f1,f2⟩:=r.vals j e z
     exact⟨v,f1,f2.mono sF⟩
   .have hj:=nj z ht
    rw[d4 hj]at z
    obtain⟨q,y,f1,f2,f3,f4,f5⟩:=r.ows j t z ht
    refine⟨q,y,f1,f2,?_,f4,f5.mono sF⟩
    rw[zk (λw=>hj (r.dis i j p s t h z ho ht e1 (by rw[<-w];exact f1)))]
    exact f3
   .have a1:=nj h1 o1
    have a2:=nj h2 o2
    rw[d4 a1]at h1
    rw[d4 a2]at h2
    exact r.dis j k q t u h1 h2 o1 o2 h3 h4
  cases s with
  | no=>exact same rfl
  | v d=>exact same rfl
  | o ds=>exact give _ rfl rfl rfl
  | m t ks ds=>exact give _ rfl rfl rfl
end
inductive Ctl where
 | nx (ρ:SE) | rt (d:D) | bk (ρ:SE) | ct (ρ:SE) | no
 deriving Inhabited
def SOk (Fb Hb:Hp)(E:zbW):Ctl->Prop
 | .nx ρ=>∀ F H σ,Rl Fb Hb F H ρ σ->E.nx σ H
 | .bk ρ=>∀ F H σ,Rl Fb Hb F H ρ σ->E.bk σ H
 | .ct ρ=>∀ F H σ,Rl Fb Hb F H ρ σ->E.ct σ H
 | .rt d=>∀ F H v,Gr Fb Hb F H->At F d v->E.rt v H
 | .no=>False
def RS (t:TS)(g:SE->Ctl):Prop:=∀ (Fb Hb F H:Hp) (ρ:SE) (σ:St) (E:zbW),Rl Fb Hb F H ρ σ->SOk Fb Hb E (g ρ)->t E σ H
def SD (X:Cx)(st:Stmt)(g:SE->Ctl):Prop:=∃ t,PS X st t/\RS t g
def SDs (X:Cx)(sts:List Stmt)(g:SE->Ctl):Prop:=∃ t,PSs X sts t/\RS t g
section
variable {X:Cx}{st:Stmt}{sts:List Stmt}{a b c e:Expr}{pos pos':Pos}
def zR:SE->Ctl:=.nx
def zW (g h:SE->Ctl):SE->Ctl:=fun ρ=>match g ρ with
 | .nx ρ'=>h ρ'
 | .rt d=>.rt d
 | .bk ρ'=>.bk ρ'
 | .ct ρ'=>.ct ρ'
 | .no=>.no
theorem zH:SDs X [] zR:=⟨_,zfP,λ_ _ F H ρ σ E r h=>h F H σ r⟩
theorem ze {g h:SE->Ctl}(h1:SD X st g)(h2:SDs X sts h):SDs X (st::sts) (zW g h):=by
 obtain⟨t,p,r⟩:=h1
 obtain⟨u,p2,r2⟩:=h2
 refine⟨_,wl p p2,λFb Hb F H ρ σ E rl k=>?_⟩
 refine r Fb Hb F H ρ σ { E with nx:=u E } rl ?_
 unfold zW at k
 cases e:g ρ with
 | nx ρ' =>
  rw[e]at k
  exact λF' H' σ' rl'=>r2 Fb Hb F' H' ρ' σ' E rl' k
 | rt d=>rw[e]at k;exact k
 | bk d=>rw[e]at k;exact k
 | ct d=>rw[e]at k;exact k
 | no=>rw[e]at k;exact k
theorem zf {g:SE->Ctl}(h1:SD X st g):SDs X [st] g:=let ⟨_,p,r⟩:=h1;⟨_,Xk p,r⟩
def sFz (i:Nat)(g:SE->Ctl):SE->Ctl:=fun ρ=>g (zm3 ρ i)
theorem Wh {g:SE->Ctl}(i:Nat)(h:SDs X sts g):SDs X sts (sFz i g):=by
 obtain⟨t,p,r⟩:=h
 refine⟨_,p,λFb Hb F H ρ σ E rl k=>?_⟩
 obtain⟨F',rl'⟩:=rl.freeze i
 exact r Fb Hb F' H _ σ E rl' k
def sNo:SE->Ctl:=λ_=>.no
theorem V3:SD X st sNo:=⟨_,zdh,λ_ _ _ _ _ _ _ _ h=>h.elim⟩
def yJ (f:Ev->Option D):SE->Ctl:=fun ρ=>match f (visG ρ) with
 | some d=>.rt d
 | none=>.no
theorem zB {f:Ev->Option D}(h:ED X e f):SD X (.Return (some e) pos) (yJ f):=by
 obtain⟨t,p,r⟩:=h
 refine⟨_,zaV p,λFb Hb F H ρ σ E rl k=>?_⟩
 unfold yJ at k
 cases h:f (visG ρ) with
 | none=>rw[h]at k;exact k.elim
 | some d =>
  rw[h]at k
  exact r σ _ _ H d _ rl.gh rl.visG h λF' H' v g av=>k F' H' v (rl.out g) av
def vx:SE->Ctl:=λ_=>.rt .non
def vEv (m:Bool)(f:Ev->Option D)(ρ:SE):Option D:=if m=true then (f (visG ρ)).bind λd=>if noL d=true then some d else none else f (visF ρ)
theorem RE.at {Fb Hb F H:Hp}{ρ:SE}{σ:St}{m:Bool}{f:Ev->Option D}{t:TE}{d:D}{Q:VK}(r:RE t f)(rl:Rl Fb Hb F H ρ σ)(h:vEv m f ρ=some d)(q:∀ F' H' v,Gr F H F' H'->At F' d v->Q v H'):t σ H Q:=by
 unfold vEv at h
 cases m with
 | false =>
  rw[j0 u6]at h
  exact r σ _ _ H d _ rl.gr.fh rl.visF h q
 | true =>
  rw[t9 rfl]at h
  obtain⟨d',h1,h2⟩:=u4.mp h
  split at h2 <;> cases h2
  rename_i hn
  refine r σ _ _ H d _ rl.gh rl.visG h1 λF' H' v g av=>?_
  obtain⟨g2,fl⟩:=rl.back g
  exact q _ H' v g2 (av.flat fl hn)
def wu (m:Bool)(i:Nat)(f:Ev->Option D):SE->Ctl:=fun ρ=>match vEv m f ρ with
 | some d=>.nx (ρ.set i (.v d))
 | none=>.no
theorem yP {m:Bool}{i:Nat}{x:Str}{f:Ev->Option D}(hN:X.N.Nodup)(hi:X.N[i]?=some x)(hx:Loc X.env.scope x)(he:ED X e f)(hs:swapsWith e (some (.Name x pos')) pos.line X.env=pure false:=by rfl)
 (hf:X.fn x=true\/X.env.scope.names.lookup x=some .local:=by first | exact .inl rfl | exact .inr rfl | assumption):SD X (.Assign [.Name x pos'] e pos) (wu m i f):=by
 obtain⟨t,p,r⟩:=he
 refine⟨_,Xy hN hi hx p hs hf,λFb Hb F H ρ σ E rl k=>?_⟩
 unfold wu at k
 cases h:vEv m f ρ with
 | none=>rw[h]at k;exact k.elim
 | some d =>
  rw[h]at k
  exact r.at rl h λF' H' v g av=>k F' H' _ ((rl.grow g).set av)
def Y4 (f:Ev->Option D):SE->Ctl:=fun ρ=>match f (visG ρ) with
 | some _=>.nx ρ
 | none=>.no
theorem YI {f:Ev->Option D}(he:ED X e f)(hs:swapsWith e none pos.line X.env=pure false:=by rfl):SD X (.Expr e pos) (Y4 f):=by
 obtain⟨t,p,r⟩:=he
 refine⟨_,VL p hs,λFb Hb F H ρ σ E rl k=>?_⟩
 unfold Y4 at k
 cases h:f (visG ρ) with
 | none=>rw[h]at k;exact k.elim
 | some d =>
  rw[h]at k
  exact r σ _ _ H d _ rl.gh rl.visG h λF' H' v g av=>k _ H' σ (rl.grow (rl.back g).1)
def ZC (i:Nat)(f:Ev->Option (List D)):SE->Ctl:=fun ρ=>match f (visF ρ) with
 | some ds=>.nx (ρ.set i (.o ds))
 | none=>.no
theorem WF {i:Nat}{x:Str}{f:Ev->Option (List D)}(hN:X.N.Nodup)(hi:X.N[i]?=some x)(hx:Loc X.env.scope x)(he:FL X e f)(hs:swapsWith e (some (.Name x pos')) pos.line X.env=pure false:=by rfl)
 (hf:X.fn x=true\/X.env.scope.names.lookup x=some .local:=by first | exact .inl rfl | exact .inr rfl | assumption):SD X (.Assign [.Name x pos'] e pos) (ZC i f):=by
 obtain⟨t,p,r⟩:=he
 refine⟨_,Xy hN hi hx p hs hf,λFb Hb F H ρ σ E rl k=>?_⟩
 unfold ZC at k
 cases h:f (visF ρ) with
 | none=>rw[h]at k;exact k.elim
 | some ds =>
  rw[h]at k
  refine r σ _ _ H ds _ rl.gr.fh rl.visF h λF' H' q xs g h0 hF hH hx=>?_
  have rl2:=rl.grow g
  exact k F' H' _ (rl2.setO (rl.notbase h0) hF hH hx (rl.notown h0))
def sIf (t:Ev->Option Bool)(g h:SE->Ctl):SE->Ctl:=fun ρ=>match t (visG ρ) with
 | some true=>g ρ
 | some false=>h ρ
 | none=>.no
theorem xL {as bs:List Stmt}{t:Ev->Option Bool}{g h:SE->Ctl}(hc:TD X c t)(ha:SDs X as g)(hb:SDs X bs h):SD X (.If c as bs pos) (sIf t g h):=by
 obtain⟨tc,pc,rc⟩:=hc
 obtain⟨ta,pa,ra⟩:=ha
 obtain⟨tb,pb,rb⟩:=hb
 refine⟨_,zjN pc pa pb,λFb Hb F H ρ σ E rl k=>?_⟩
 unfold sIf at k
 cases h:t (visG ρ) with
 | none=>rw[h]at k;exact k.elim
 | some d =>
  rw[h]at k
  refine rc σ _ _ H d _ rl.gh rl.visG h λF' H' g=>?_
  have rl2:=rl.grow (rl.back g).1
  cases d with
  | true=>rw[t9 rfl];exact ra Fb Hb _ H' ρ σ E rl2 k
  | false=>rw[j0 u6];exact rb Fb Hb _ H' ρ σ E rl2 k
def vz (t:Ev->Option Bool)(g:SE->Ctl):Nat->SE->Ctl
 | 0,_=>.no
 | n+1,ρ=>match t (visG ρ) with
  | some true=>match g ρ with
   | .nx ρ'=>vz t g n ρ'
   | .ct ρ'=>vz t g n ρ'
   | .bk ρ'=>.nx ρ'
   | .rt d=>.rt d
   | .no=>.no
  | some false=>.nx ρ
  | none=>.no
theorem zab {as:List Stmt}{t:Ev->Option Bool}{g:SE->Ctl}(n:Nat)(hp:PassesOwn (model X.prog X.w) X.A X.env X.xe)(hc:TD X c t)(ha:SDs X as g):SD X (.While c as [] pos) (vz t g n):=by
 obtain⟨tc,pc,rc⟩:=hc
 obtain⟨ta,pa,ra⟩:=ha
 refine⟨_,ziA hp pc pa,λFb Hb F H ρ σ E rl k=>?_⟩
 refine⟨λm σ H=>∃ F ρ,Rl Fb Hb F H ρ σ/\SOk Fb Hb E (vz t g m ρ),⟨n,F,ρ,rl,k⟩,?_⟩
 rintro m σ H ⟨F,ρ,rl,k⟩
 cases m with
 | zero=>exact k.elim
 | succ m =>
  unfold vz at k
  cases h:t (visG ρ) with
  | none=>rw[h]at k;exact k.elim
  | some d =>
   rw[h]at k
   refine rc σ _ _ H d _ rl.gh rl.visG h λF' H' gr=>?_
   have rl2:=rl.grow (rl.back gr).1
   cases d with
   | false=>rw[j0 u6];exact k _ H' σ rl2
   | true =>
    rw[t9 rfl]
    refine⟨fun σ H=>∃ F ρ,Rl Fb Hb F H ρ σ/\SOk Fb Hb E (vz t g m ρ),fun σ' H' w=>⟨m,u3B m,w⟩,?_⟩
    refine ra Fb Hb _ H' ρ σ _ rl2 ?_
    dsimp only at k
    cases hg:g ρ with
    | nx ρ'=>rw[hg]at k;exact λF2 H2 σ2 r2=>⟨F2,ρ',r2,k⟩
    | ct ρ'=>rw[hg]at k;exact λF2 H2 σ2 r2=>⟨F2,ρ',r2,k⟩
    | bk ρ'=>rw[hg]at k;exact k
    | rt d=>rw[hg]at k;exact k
    | no=>rw[hg]at k;exact k.elim
def RG (t:TG)(b:D->SE->Option SE):Prop:=∀ (Fb Hb F H:Hp) (ρ ρ':SE) (σ:St) (d:D) (v:V) (Q:St->Hp->Prop),Rl Fb Hb F H ρ σ->At F d v->b d ρ=some ρ'->(∀ σ',Rl Fb Hb F H ρ' σ'->Q σ' H)->t v σ H Q
def RGs (t:TGs)(b:List D->SE->Option SE):Prop:=∀ (Fb Hb F H:Hp) (ρ ρ':SE) (σ:St) (ds:List D) (vs:List V) (Q:St->Hp->Prop),Rl Fb Hb F H ρ σ->AtL F ds vs->b ds ρ=some ρ'->(∀ σ',Rl Fb Hb F H ρ' σ'->Q σ' H)->t vs σ H Q
def BD (X:Cx)(tg:Expr)(b:D->SE->Option SE):Prop:=∃ t,PG X tg t/\RG t b
def BDs (X:Cx)(tgs:List Expr)(b:List D->SE->Option SE):Prop:=∃ t,PGs X tgs t/\RGs t b
def yt (i:Nat):D->SE->Option SE:=λd ρ=>some (ρ.set i (.v d))
theorem yx {i:Nat}(h:PG X a (Zy i)):BD X a (yt i):=by
 refine⟨_,h,λFb Hb F H ρ ρ' σ d v Q rl av e q=>?_⟩
 cases e
 exact q _ (rl.set av)
def XR:List D->SE->Option SE
 | [],ρ=>some ρ
 | _,_=>none
def xQ (b:D->SE->Option SE)(c:List D->SE->Option SE):List D->SE->Option SE
 | d::ds,ρ=>(b d ρ).bind (c ds)
 | [],_=>none
theorem zcj:BDs X [] XR:=by
 refine⟨_,zf0,λFb Hb F H ρ ρ' σ ds vs Q rl av e q=>?_⟩
 cases ds with
 | nil=>cases e;exact⟨av.nil_inv,q _ rl⟩
 | cons _ _=>cases e
theorem YO {es:List Expr}{b:D->SE->Option SE}{c:List D->SE->Option SE}(h1:BD X e b)(h2:BDs X es c)
 (hs:(assignEach (e::es) X.env).map (·.2)=assign e X.env::(assignEach es X.env).map (·.2):=by rfl):BDs X (e::es) (xQ b c):=by
 obtain⟨t,p,r⟩:=h1
 obtain⟨u,p2,r2⟩:=h2
 refine⟨_,zag p p2 hs,λFb Hb F H ρ ρ' σ ds vs Q rl av e q=>?_⟩
 cases ds with
 | nil=>cases e
 | cons d ds =>
  obtain⟨x,xs,rfl,a1,a2⟩:=av.cons_inv
  obtain⟨ρ1,e1,e2⟩:=u4.mp e
  exact⟨x,xs,rfl,r Fb Hb F H ρ ρ1 σ d x _ rl a1 e1 fun σ1 rl1=>r2 Fb Hb F H ρ1 ρ' σ1 ds xs Q rl1 a2 e2 q⟩
def XH (n:Nat)(c:List D->SE->Option SE):D->SE->Option SE
 | .tup ds,ρ=>if ds.length=n then c ds ρ else none
 | _,_=>none
theorem zeL {es:List Expr}{k:Nat}{n:Nat}{c:List D->SE->Option SE}(hc:X.calm=true)(h:BDs X es c)
 (hn:(assignEach es X.env).length=n:=by rfl) (hst:(assignEach es X.env).findIdx? (·.1)=none:=by rfl):BD X (.Tuple es k pos) (XH n c):=by
 obtain⟨t,p,r⟩:=h
 refine⟨_,zje hc p hn hst,λFb Hb F H ρ ρ' σ d v Q rl av e q=>?_⟩
 cases d with
 | tup ds =>
  unfold XH at e
  dsimp only at e
  split at e
  .rename_i hl
   obtain⟨a,xs,rfl,hx,al⟩:=av.tup_inv
   exact⟨a,xs,rfl,SqT.of (rl.gr.fh _ _ hx),by rw[al.length];exact hl,r Fb Hb F H ρ ρ' σ ds xs Q rl al e q⟩
  .cases e
 | _=>cases e
def Vk (m:Bool)(f:Ev->Option D)(b:D->SE->Option SE):SE->Ctl:=fun ρ=>match (vEv m f ρ).bind λd=>b d ρ with
 | some ρ'=>.nx ρ'
 | none=>.no
def ZZ (m:Bool)(i:Nat)(fk fe:Ev->Option D):SE->Ctl:=fun ρ=>match (vEv m fe ρ).bind λd=>(fk (visG ρ)).bind λk=>match ρ[i]?,k with
 | some (.o ds),.int k=>(ixN ds.length k).map λj=>ρ.set i (.o (ds.set j d))
 | _,_=>none with
 | some ρ'=>.nx ρ'
 | none=>.no
theorem zcJ {m:Bool}{i:Nat}{ko:Expr}{fk fe:Ev->Option D}(he:ED X e fe)(ho:PE X a (Vj i))(hk:ED X ko fk)(hs:swapsWithSole [.Subscript a ko pos'] e pos.line X.env=pure false:=by rfl)(hw:swappedStores [.Subscript a ko pos'] e X.env=pure none:=by rfl)
 (h1:(assignEach [.Subscript a ko pos'] X.env).map (·.2)=[assign (.Subscript a ko pos') X.env]:=by rfl)
 (ha:∀ v,assign (.Subscript a ko pos') X.env v=(do
  let ov<-holding [v] (eval a X.env)
  let iv<-holding [v,ov] (eval ko X.env)
  standAt pos'
  holding [v,ov,iv] (setItem ov iv v)
  release [v,ov,iv] []):=by intro _;rfl):SD X (.Assign [.Subscript a ko pos'] e pos) (ZZ m i fk fe):=by
 obtain⟨t,p,r⟩:=he
 obtain⟨tk,pk,rk⟩:=hk
 refine⟨_,zk9 p (zlr ho pk ziE ha) hs hw h1,λFb Hb F H ρ σ E rl k=>?_⟩
 unfold ZZ at k
 cases h:(vEv m fe ρ).bind λd=>(fk (visG ρ)).bind λk=>match ρ[i]?,k with
  | some (.o ds),.int k=>(ixN ds.length k).map λj=>ρ.set i (.o (ds.set j d))
  | _,_=>none with
 | none=>rw[h]at k;exact k.elim
 | some ρ' =>
  rw[h]at k
  obtain⟨d,e1,e2⟩:=u4.mp h
  obtain⟨kd,e3,e2⟩:=u4.mp e2
  cases hs:ρ[i]? with
  | none=>rw[hs]at e2;cases e2
  | some sl =>
   rw[hs]at e2
   cases sl with
   | no=>cases e2
   | v _=>cases e2
   | m _ _ _=>cases e2
   | o ds =>
    cases kd with
    | int kk =>
     obtain⟨j,e4,rfl⟩:=u9.mp e2
     refine r.at rl e1 λF' H' v g av=>?_
     have rl2:=rl.grow g
     obtain⟨q,xs,f1,_⟩:=rl2.owns i ds hs
     refine⟨_,f1,?_⟩
     refine rk σ _ _ H' _ _ rl2.gh rl2.visG e3 λF3 H3 v3 g3 av3=>?_
     obtain⟨gb,_⟩:=rl2.back g3
     have rl3:=rl2.grow gb
     obtain⟨q3,xs3,f1',_,_,f4,f5⟩:=rl3.owns i ds hs
     rw[f1]at f1'
     cases f1'
     refine⟨q,xs3,kk,j,rfl,av3.int_inv,f4,by rw[f5.length];exact e4,?_⟩
     exact k _ _ σ (rl3.mutate hs f1 (f5.set j (av.mono gb.ff)))
    | _=>cases e2
end
end Dl
namespace L2
open PySem PySem.Spec PyProof.Rows
section
variable {X:Cx}{tg:Expr}
def iSeq (K:W.Frag)(tl:TE):TI:=fun σ H R=>tl σ H λx H1=>(∃ a,x=.ref a/\(∃ xs,SqL K H1 a xs)/\R (Itl K a) H1)\/(∃ a,x=.ref a/\(∃ xs,SqT K H1 a xs)/\R (Itt K a) H1)
theorem zls {l:Expr}{tl:TE}(hl:PE X l tl):PI X tg l (iSeq X.K tl):=by
 intro pins s σ H R I h
 refine thn (hl pins s σ H _ I h) λv s1 hh9=>?_
 obtain⟨x,H1,I1,r1,q1⟩:=hh9
 rcases q1 with ⟨a,e,⟨xs,hq⟩,q⟩ | ⟨a,e,⟨xs,hq⟩,q⟩
 .subst e
  cases r1
  obtain⟨its,rv,p,hz⟩:=I1.list hq
  refine u1x p.isList ?_
  refine⟨s1.heap.objs.size,[s1.heap.objs.size],_,_,H1,rfl,I1.kept (t':=s1.toks) λb o e=>u5 _ e,ze4 a _,⟨_,r9 _ rfl,rfl,rfl⟩,λb hb=>?_,q⟩
  have e:b=s1.heap.objs.size:=by simpa using hb
  subst e
  exact I1.fpOk (q5 _) (I1.hok.fresh (q5 _))
 .subst e
  cases r1
  obtain⟨its,rv,p,hz⟩:=I1.tuple hq
  refine u0M (show s1.heap.IsTuple a its.toArray from p) ?_
  refine⟨s1.heap.objs.size,[s1.heap.objs.size],_,_,H1,rfl,I1.kept (t':=s1.toks) λb o e=>u5 _ e,zdO a _,⟨_,r9 _ rfl,rfl,rfl⟩,λb hb=>?_,q⟩
  have e:b=s1.heap.objs.size:=by simpa using hb
  subst e
  exact I1.fpOk (q5 _) (I1.hok.fresh (q5 _))
end
end L2
namespace Dl
open PySem L2
variable [KK]
def zkV (J:It)(F:Hp)(ds:List D):Prop:=∀ (i:Nat) (F2 H2:Hp),zZ F F2->zZ F2 H2->(i=ds.length->J.stop i H2) /\
 ∀ d,ds[i]?=some d->J.go i H2/\∀ x H3,J.yld i H2 x H3->∃ F3,Gr F2 H2 F3 H3/\At F3 d x
def RI (wi:TI)(f:Ev->Option (List D)):Prop :=
 ∀ (σ:St) (ρ:Ev) (F H:Hp) (ds:List D) (R:It->Hp->Prop),zZ F H->VAt F ρ σ->f ρ=some ds->(∀ F' H' J,Gr F H F' H'->zkV J F' ds->R J H')->wi σ H R
def ID (X:Cx)(tg iter:Expr)(f:Ev->Option (List D)):Prop:=∃ wi,PI X tg iter wi/\RI wi f
def yE:D->Option (List D)
 | .lst ds=>some ds
 | .tup ds=>some ds
 | _=>none
section
variable {X:Cx}{tg a b c e:Expr}{pos:Pos}
theorem zl3 {K:W.Frag}{F:Hp}{p:Addr}{xs:List V}{ds:List D}(h:F p=some (.lst xs))(al:AtL F ds xs):zkV (Itl K p) F ds:=by
 intro i F2 H2 s1 s2
 have q:SqL K H2 p xs:=SqL.of (s2 _ _ (s1 _ _ h))
 refine⟨λhl=>⟨xs,q,by rw[al.length,hl];exact q5 _⟩,λd hd=>?_⟩
 obtain⟨x,hx,ax⟩:=al.get hd
 refine⟨⟨xs,x,q,hx⟩,λy H3 hy=>?_⟩
 obtain⟨rfl,hy⟩:=hy
 have:=hy xs q
 rw[hx]at this
 cases this
 exact⟨F2,.refl s2,ax.mono s1⟩
theorem zmR {K:W.Frag}{F:Hp}{p:Addr}{xs:List V}{ds:List D}(h:F p=some (.tup xs))(al:AtL F ds xs):zkV (Itt K p) F ds:=by
 intro i F2 H2 s1 s2
 have q:SqT K H2 p xs:=SqT.of (s2 _ _ (s1 _ _ h))
 refine⟨λhl=>⟨xs,q,by rw[al.length,hl];exact q5 _⟩,λd hd=>?_⟩
 obtain⟨x,hx,ax⟩:=al.get hd
 refine⟨⟨xs,x,q,hx⟩,λy H3 hy=>?_⟩
 obtain⟨rfl,hy⟩:=hy
 have:=hy xs q
 rw[hx]at this
 cases this
 exact⟨F2,.refl s2,ax.mono s1⟩
def iOf (f:Ev->Option D):Ev->Option (List D):=fun ρ=>(f ρ).bind yE
theorem wV {f:Ev->Option D}(ha:ED X a f):ID X tg a (iOf f):=by
 obtain⟨t,p,r⟩:=ha
 refine⟨_,zls p,fun σ ρ F H ds R s va e q=>?_⟩
 obtain⟨d,e1,e2⟩:=u4.mp e
 refine r σ ρ F H d _ s va e1 λF1 H1 v g1 a1=>?_
 cases d <;> try cases e2
 .obtain⟨p,xs,rfl,hx,al⟩:=a1.tup_inv
  exact .inr ⟨p,rfl,⟨xs,SqT.of (g1.fh _ _ hx)⟩,q F1 H1 _ g1 (zmR hx al)⟩
 .obtain⟨p,xs,rfl,hx,al⟩:=a1.lst_inv
  exact .inl ⟨p,rfl,⟨xs,SqL.of (g1.fh _ _ hx)⟩,q F1 H1 _ g1 (zl3 hx al)⟩
def Zo (lo:Int)(n:Nat):List D:=(List.range n).map λk:Nat=>.int (lo+k)
theorem zeC {F:Hp}(lo:Int)(n:Nat):zkV (Itr lo n) F (Zo lo n):=by
 intro i F2 H2 s1 s2
 have hlen:(Zo lo n).length=n:=by unfold Zo;simp
 refine⟨λhl=>by rw[hlen]at hl;rw[hl];exact q5 _,λd hd=>?_⟩
 have hi:i < n:=by
  have:=(t7.mp hd).1
  omega
 refine⟨hi,λy H3 hy=>?_⟩
 obtain⟨rfl,rfl⟩:=hy
 refine⟨F2,.refl s2,?_⟩
 unfold Zo at hd
 rw[r6,List.getElem?_range hi]at hd
 cases hd
 exact .int
@[irreducible] def zd6 (j:Int):Bool:=decide (-(2 ^ 62)<=j/\j < 2 ^ 62)
omit [KK] in
theorem yh {j:Int}:zd6 j=true↔-(2 ^ 62)<=j/\j < 2 ^ 62:=by unfold zd6;exact decide_eq_true_iff
def wL:List D->Option (List D)
 | [.int j]=>if zd6 j=true then some (Zo 0 j.toNat)else none
 | _=>none
def ZH:List D->Option (List D)
 | [.int i,.int j]=>if zd6 i=true/\zd6 j=true then some (Zo i (j - i).toNat)else none
 | _=>none
def Z5 (g:List D->Option (List D))(f:Ev->Option (List D)):Ev->Option (List D):=fun ρ=>(f ρ).bind g
theorem Zr {p:Pos} {f:Ev->Option (List D)} (hg:Gl X "range") (hm:X.mg "range"=none) (ha:AD X [a] f) (hs:starEach [a] X.env=[(false,eval a X.env)]:=by rfl):ID X tg (.Call (.Name "range" p) [a] [] pos) (Z5 wL f):=by
 obtain⟨t,pa,r⟩:=ha
 refine⟨_,zaQ hg hm pa hs,fun σ ρ F H ds R s va e q=>?_⟩
 obtain⟨d,e1,e2⟩:=u4.mp e
 refine r σ ρ F H d _ s va e1 λF1 H1 v g1 a1=>?_
 unfold wL at e2
 split at e2
 .split at e2
  .cases e2
   rename_i hc
   obtain⟨x,r',rfl,ax,ar⟩:=a1.cons_inv
   cases ar.nil_inv
   exact⟨_,by rw[ax.int_inv],(yh.mp hc).1,(yh.mp hc).2,q F1 H1 _ g1 (zeC 0 _)⟩
  .cases e2
 .cases e2
def VW (n:Nat):List D->List D
 | []=>[]
 | d::ds=>.tup [.int n,d]::VW (n+1) ds
omit [KK] in
theorem Wb (ds:List D):∀ (n i:Nat),(VW n ds)[i]?=(ds[i]?).map λd=>.tup [.int ((n+i:Nat):Int),d]:=by
 induction ds with
 | nil=>intro n i;simp[VW]
 | cons d ds ih =>
  intro n i
  cases i with
  | zero=>simp[VW]
  | succ i =>
   show(VW (n+1) ds)[i]?=(ds[i]?).map _
   rw[ih]
   have:n+1+i=n+(i+1):=by omega
   rw[this]
omit [KK] in
theorem Yl (ds:List D):∀ n,(VW n ds).length=ds.length:=by
 induction ds with
 | nil=>intro n;rfl
 | cons d ds ih=>intro n;simp[VW,ih]
def yY (f:Ev->Option (List D)):Ev->Option (List D):=fun ρ=>(f ρ).bind λas=>match as with
 | [d]=>(yE d).map (VW 0)
 | _=>none
theorem zjW {es:List Expr} {k:Nat} {tp p:Pos} {f:Ev->Option (List D)} (hg:Gl X "enumerate") (hm:X.mg "enumerate"=none) (hb:bootBuiltins "enumerate"=some (.type "enumerate")) (ha:AD X [a] f)
 (hs:starEach [a] X.env=[(false,eval a X.env)]:=by rfl):ID X (.Tuple es k tp) (.Call (.Name "enumerate" p) [a] [] pos) (yY f):=by
 obtain⟨t,pa,r⟩:=ha
 refine⟨_,zkK hg hm hb pa hs,fun σ ρ F H ds R s va e q=>?_⟩
 obtain⟨as,e1,e2⟩:=u4.mp e
 refine r σ ρ F H as _ s va e1 λF1 H1 v g1 a1=>?_
 split at e2
 .obtain⟨x,r',rfl,ax,ar⟩:=a1.cons_inv
  cases ar.nil_inv
  obtain⟨es,e3,rfl⟩:=u9.mp e2
  rename_i d
  cases d <;> try cases e3
  .obtain⟨p,xs,rfl,hx,al⟩:=ax.tup_inv
   refine⟨p,rfl,.inr ⟨xs,SqT.of (g1.fh _ _ hx),q F1 H1 _ g1 λi F2 H2 s1 s2=>?_⟩⟩
   have qq:SqT X.K H2 p xs:=SqT.of (s2 _ _ (s1 _ _ hx))
   refine⟨λhl=>⟨xs,qq,by rw[al.length,hl,Yl];exact q5 _⟩,λd hd=>?_⟩
   rw[Wb]at hd
   obtain⟨d',hd',rfl⟩:=u9.mp hd
   obtain⟨x,hxi,ax⟩:=al.get hd'
   refine⟨⟨xs,x,qq,hxi⟩,λy H3 hy=>?_⟩
   obtain⟨T,y,rfl,hT,rfl,hy⟩:=hy
   have:=hy xs qq
   rw[hxi]at this
   cases this
   have g3:=Gr.alloc s2 hT (.tup [.int i,x])
   exact⟨_,g3,.tup zm (.cons (by rw[u18];exact .int) (.cons (ax.mono (s1.trans g3.ff)) .nil))⟩
  .obtain⟨p,xs,rfl,hx,al⟩:=ax.lst_inv
   refine⟨p,rfl,.inl ⟨xs,g1.fh _ _ hx,q F1 H1 _ g1 λi F2 H2 s1 s2=>?_⟩⟩
   have qq:SqL X.K H2 p xs:=SqL.of (s2 _ _ (s1 _ _ hx))
   refine⟨λhl=>⟨xs,qq,by rw[al.length,hl,Yl];exact q5 _⟩,λd hd=>?_⟩
   rw[Wb]at hd
   obtain⟨d',hd',rfl⟩:=u9.mp hd
   obtain⟨x,hxi,ax⟩:=al.get hd'
   refine⟨⟨xs,x,qq,hxi⟩,λy H3 hy=>?_⟩
   obtain⟨T,y,rfl,hT,rfl,hy⟩:=hy
   have:=hy xs qq
   rw[hxi]at this
   cases this
   have g3:=Gr.alloc s2 hT (.tup [.int i,x])
   exact⟨_,g3,.tup zm (.cons (by rw[u18];exact .int) (.cons (ax.mono (s1.trans g3.ff)) .nil))⟩
 .cases e2
def hb2 (F1 Hb:Hp):Hp:=λp=>match F1 p with
 | some o=>some o
 | none=>Hb p
theorem XV {F1 Hb:Hp}{p:Addr}(h:F1 p=none):hb2 F1 Hb p=Hb p:=by unfold hb2;rw[h]
theorem zim {F1 Hb:Hp}{p:Addr}{o:HO}(h:F1 p=some o):hb2 F1 Hb p=some o:=by unfold hb2;rw[h]
theorem Gr.up {Fb Hb F1 H1 F H:Hp}(g1:Gr Fb Hb F1 H1)(g:Gr F1 (hb2 F1 Hb) F H):Gr Fb Hb F H:=by
 refine⟨g1.ff.trans g.ff,g.fh,λp o e1 e2=>?_⟩
 rcases(g1.kp p o e1 e2).1 with n | ⟨n1,n2⟩
 .exact g.kp p o n (by rw[XV n];exact e2)
 .exact⟨.inr ⟨n1,g.ff _ _ n2⟩,g.fh _ _ (g.ff _ _ n2)⟩
theorem Gr.dn {Fb Hb F1 F H:Hp}(g:Gr Fb Hb F H)(s1:zZ Fb F1)(s:zZ F1 F):Gr F1 (hb2 F1 Hb) F H:=by
 refine⟨s,g.fh,λp o e1 e2=>?_⟩
 rw[XV e1]at e2
 exact g.kp p o (s1.free e1) e2
theorem Rl.up {Fb Hb F1 H1 F H:Hp}{ρ:SE}{σ:St}(g1:Gr Fb Hb F1 H1)(r:Rl F1 (hb2 F1 Hb) F H ρ σ):Rl Fb Hb F H ρ σ:=by
 refine⟨g1.up r.gr,r.vals,λi s e ho=>?_,r.dis,r.len⟩
 obtain⟨p,o,e1,e2,e3⟩:=r.ows i s e ho
 refine⟨p,o,e1,?_,e3⟩
 cases h:F1 p with
 | none=>rw[XV h]at e2;exact e2
 | some o=>rw[zim h]at e2;cases e2
theorem Rl.dn {Fb Hb F1 F H:Hp}{ρ:SE}{σ:St}(r:Rl Fb Hb F H ρ σ)(s1:zZ Fb F1)(s:zZ F1 F):Rl F1 (hb2 F1 Hb) F H ρ σ:=by
 refine⟨r.gr.dn s1 s,r.vals,λi t e ho=>?_,r.dis,r.len⟩
 obtain⟨p,o,e1,e2,e3,e4⟩:=r.ows i t e ho
 refine⟨p,o,e1,?_,e3,e4⟩
 rw[XV (s.free e3)]
 exact e2
def ze2 (b:D->SE->Option SE)(g:SE->Ctl):List D->SE->Ctl
 | [],ρ=>.nx ρ
 | d::ds,ρ=>match b d ρ with
  | none=>.no
  | some ρ1=>match g ρ1 with
   | .nx ρ'=>ze2 b g ds ρ'
   | .ct ρ'=>ze2 b g ds ρ'
   | .bk ρ'=>.nx ρ'
   | .rt d=>.rt d
   | .no=>.no
def YV (f:Ev->Option (List D))(b:D->SE->Option SE)(g:SE->Ctl):SE->Ctl:=fun ρ=>match f (visF ρ) with
 | some ds=>ze2 b g ds ρ
 | none=>.no
theorem zfj {Fb Hb F1 H1:Hp}{ρ:SE}{σ:St}{E:zbW}{J:It}{g:TG}{tb:TS}{ds:List D}{b:D->SE->Option SE}{gb:SE->Ctl}(hit:zkV J F1 ds)(rg:RG g b)(rb:RS tb gb)(rl0:Rl Fb Hb F1 H1 ρ σ)(k:SOk Fb Hb E (ze2 b gb ds ρ)) :
 ∃ W:Nat->Nat->St->Hp->Prop,(∃ m,W 0 m σ H1)/\∀ i m σ H,W i m σ H ->
  (J.stop i H/\E.nx σ H)\/(J.go i H/\∃ N:St->Hp->Prop,(∀ σ' H',N σ' H'->∃ m',m' < m/\W (i+1) m' σ' H')/\∀ x H',J.yld i H x H'->g x σ H' fun σ2 H2=>tb { E with nx:=N,ct:=N,bk:=E.nx } σ2 H2):=by
 refine⟨λi m σ H=>m=ds.length - i/\i<=ds.length/\∃ F ρ,zZ F1 F/\Rl Fb Hb F H ρ σ/\SOk Fb Hb E (ze2 b gb (ds.drop i) ρ),⟨ds.length,by simp,u0P _,F1,ρ,zZ.refl _,rl0,k⟩,?_⟩
 rintro i m σ H ⟨rfl,hi,F,ρ,s1,rl,k⟩
 obtain⟨stop,go⟩:=hit i F H s1 rl.gr.fh
 by_cases hlt:i < ds.length
 .have hd:ds.drop i=ds[i]::ds.drop (i+1):=u0o hlt
  rw[hd]at k
  unfold ze2 at k
  obtain⟨g1,g2⟩:=go ds[i] (by simp[hlt])
  refine .inr ⟨g1,fun σ H=>∃ F ρ,zZ F1 F/\Rl Fb Hb F H ρ σ/\SOk Fb Hb E (ze2 b gb (ds.drop (i+1)) ρ),fun σ' H' w=>⟨ds.length - (i+1),by omega,rfl,hlt,w⟩,λx H' hy=>?_⟩
  obtain⟨F3,g3,a3⟩:=g2 x H' hy
  cases hb:b ds[i] ρ with
  | none=>rw[hb]at k;exact k.elim
  | some ρ1 =>
   rw[hb]at k
   dsimp only at k
   refine rg Fb Hb F3 H' ρ ρ1 σ _ x _ (rl.grow g3) a3 hb fun σ2 rl2=>?_
   have s3:=s1.trans g3.ff
   refine rb F1 (hb2 F1 Hb) F3 H' ρ1 σ2 _ (rl2.dn rl0.gr.ff s3) ?_
   cases hg:gb ρ1 with
   | nx ρ'=>rw[hg]at k;exact λF4 H4 σ4 r4=>⟨F4,ρ',r4.gr.ff,r4.up rl0.gr,k⟩
   | ct ρ'=>rw[hg]at k;exact λF4 H4 σ4 r4=>⟨F4,ρ',r4.gr.ff,r4.up rl0.gr,k⟩
   | bk ρ'=>rw[hg]at k;exact λF4 H4 σ4 r4=>k F4 H4 σ4 (r4.up rl0.gr)
   | rt d=>rw[hg]at k;exact λF4 H4 v g4 a4=>k F4 H4 v (rl0.gr.up g4) a4
   | no=>rw[hg]at k;exact k.elim
 .have e:i=ds.length:=by omega
  subst e
  rw[u1D]at k
  exact .inl ⟨stop rfl,k F H σ rl⟩
theorem Zw {iter:Expr}{body:List Stmt}{f:Ev->Option (List D)}{b:D->SE->Option SE}{g:SE->Ctl}(hp:PassesOwn (model X.prog X.w) X.A X.env X.xe)(hc:X.calm=true)(hi:ID X tg iter f)(hg:BD X tg b)(hb:SDs X body g)
 (hs:∀ x,foldedSetIterable iter X.env x=pure x:=by intro _;rfl):SD X (.For tg iter body [] pos) (YV f b g):=by
 obtain⟨wi,pi,ri⟩:=hi
 obtain⟨tg',pg,rg⟩:=hg
 obtain⟨tb,pb,rb⟩:=hb
 refine⟨_,zgH hp hc pi pg pb hs,λFb Hb F H ρ σ E rl k=>?_⟩
 unfold YV at k
 cases h:f (visF ρ) with
 | none=>rw[h]at k;exact k.elim
 | some ds =>
  rw[h]at k
  exact ri σ _ _ H ds _ rl.gr.fh rl.visF h λF1 H1 J g1 ok=>zfj ok rg rb (rl.grow g1) k
end
def lcD (b:D->Option (List (Option D)))(t:Ev->Option Bool)(f:Ev->Option D)(ρ:Ev):List D->Option (List D)
 | []=>some []
 | d::ds=>(b d).bind λown=>(t (own++ρ)).bind λc=>if c=true then (f (own++ρ)).bind λy=>(lcD b t f ρ ds).map (y::·)else lcD b t f ρ ds
def fLC (i:Ev->Option (List D))(b:D->Option (List (Option D)))(t:Ev->Option Bool)(f:Ev->Option D):Ev->Option (List D):=fun ρ=>(i ρ).bind λds=>if lim ds.length=true then lcD b t f ρ ds else none
def b1:D->Option (List (Option D)):=λd=>some [some d]
def b2:D->Option (List (Option D))
 | .tup [x,y]=>some [some x,some y]
 | _=>none
def RB (n:Nat)(t:TG)(b:D->Option (List (Option D))):Prop:=∀ (σ:St) (ρ:Ev) (F H:Hp) (d:D) (v:V) (own:List (Option D)) (Q:St->Hp->Prop),zZ F H->VAt F ρ σ->At F d v->b d=some own->(∀ σ',VAt F (own++ρ) σ'->Q σ' H)->t v (List.replicate n none++σ) H Q
def yr:Ev->Option Bool:=λ_=>some true
theorem zlL:RT tYes yr:=λ_ _ _ _ _ _ s _ e q=>by cases e;exact q _ _ (.refl s)
theorem zkJ {wi:TI}{n:Nat}{g:TG}{tt:TT}{te:TE}{fi:Ev->Option (List D)}{b:D->Option (List (Option D))}{ft:Ev->Option Bool}{fe:Ev->Option D}(ri:RI wi fi)(rg:RB n g b)(rt:RT tt ft)(re:RE te fe) :
 RF (tLC wi n g tt te) (fLC fi b ft fe):=by
 intro σ ρ F H out Q s va e q
 obtain⟨ds,e1,e2⟩:=u4.mp e
 split at e2 <;> try cases e2
 rename_i hlim
 have hlim:ds.length<=sizeLine:=p0 hlim
 refine ri σ ρ F H ds _ s va e1 λF1 H1 J g1 ok=>?_
 intro P hP
 have hF1:F1 P=none:=g1.fh.free hP
 have hH0:H P=none:=by
  cases e:H P with
  | none=>rfl
  | some o =>
   cases e2:F P with
   | none=>rw[(g1.kp P o e2 e).2]at hP;cases hP
   | some u=>rw[g1.fh _ _ (g1.ff _ _ e2)]at hP;cases hP
 refine⟨λi m ys H2=>m=ds.length - i/\i<=ds.length/\∃ F2 done,Gr F1 H1 F2 H2/\Gr F1 (upd H1 P (.lst [])) F2 (upd H2 P (.lst []))/\F2 P=none/\H2 P=some (.lst ys)/\AtL F2 done ys/\done.length<=i/\∃ more,lcD b ft fe ρ (ds.drop i)=some more/\done++more=out,⟨ds.length,by simp,u0P _,F1,[],Gr.hide g1.fh hP _,?_,hF1,zm,.nil,u0P _,out,e2,rfl⟩,?_⟩
 .rw[zb6]
  exact .refl λb u z=>by rw[zk (zh z hF1)];exact g1.fh b u z
 rintro i m ys H2 ⟨rfl,hi,F2,done,g2,g2',hF2,hH2,al,hdl,more,hm,hout⟩
 obtain⟨stop,go⟩:=ok i F2 H2 g2.ff g2.fh
 by_cases hlt:i < ds.length
 .have hd:ds.drop i=ds[i]::ds.drop (i+1):=u0o hlt
  rw[hd]at hm
  unfold lcD at hm
  obtain⟨own,hb,hm⟩:=u4.mp hm
  obtain⟨cb,hc,hm⟩:=u4.mp hm
  obtain⟨k1,k2⟩:=go ds[i] (by simp[hlt])
  refine .inr ⟨k1,by rw[al.length];omega,λx H3 hy=>?_⟩
  obtain⟨F3,g3,a3⟩:=k2 x H3 hy
  refine rg σ ρ F3 H3 ds[i] x own _ g3.fh (va.mono (g1.ff.trans (g2.ff.trans g3.ff))) a3 hb fun σ4 va4=>?_
  refine rt σ4 _ F3 H3 cb _ g3.fh va4 hc λF5 H5 g5=>?_
  have g35:=g3.trans g5
  obtain⟨n5,h5⟩:=g35.kl (λ_ e=>by cases e) hF2 hH2
  have keep2:∀ {F6 H6:Hp} {o:HO},Gr F2 H2 F6 H6->F6 P=none->Gr F1 (upd H1 P (.lst [])) F6 (upd (upd H6 P o) P (.lst [])):=λ{F6 H6 o} g6 n6=>by
   rw[zb6]
   refine⟨g2.ff.trans g6.ff,λb u z=>?_,λb u z1 z2=>?_⟩
   .rw[zk (zh z n6)];exact g6.fh b u z
   .by_cases hbP:b=P
    .subst hbP
     rw[zm]at z2 ⊢
     exact⟨.inl n6,z2⟩
    .rw[zk hbP]at z2 ⊢
     exact(g2.trans g6).kp b u z1 z2
  have keep1:∀ {F6 H6:Hp} {o:HO},Gr F2 H2 F6 H6->F6 P=none->Gr F1 H1 F6 (upd H6 P o):=λ{F6 H6 o} g6 n6=>by
   refine⟨g2.ff.trans g6.ff,λb u z=>?_,λb u z1 z2=>?_⟩
   .rw[zk (zh z n6)];exact g6.fh b u z
   .rw[zk (zh z2 hP)]
    exact(g2.trans g6).kp b u z1 z2
  cases cb with
  | false =>
   rw[j0 u6]at hm ⊢
   have ups:H5=upd H5 P (.lst ys):=by
    funext b
    by_cases hbP:b=P
    .subst hbP;rw[zm];exact h5
    .rw[zk hbP]
   refine⟨ds.length - (i+1),by omega,rfl,hlt,F5,done,?_,?_,n5,h5,al.mono g35.ff,by omega,more,hm,hout⟩
   .rw[ups];exact keep1 g35 n5
   .have:=keep2 (o:=.lst ys) g35 n5
    rw[<-ups]at this
    exact this
  | true =>
   rw[t9 rfl]at hm ⊢
   obtain⟨y,hy,hm⟩:=u4.mp hm
   obtain⟨rest,hm',rfl⟩:=u9.mp hm
   refine re σ4 _ F5 H5 y _ g5.fh (va4.mono g5.ff) hy λF6 H6 v g6 a6=>?_
   have g36:=g35.trans g6
   obtain⟨n6,h6⟩:=g36.kl (λ_ e=>by cases e) hF2 hH2
   refine⟨h6,ds.length - (i+1),by omega,rfl,hlt,F6,done++[y],keep1 g36 n6,keep2 g36 n6,n6,zm,(al.mono g36.ff).snoc a6,by rw[r0];simp;omega,rest,hm',by rw[<-hout,b9];rfl⟩
 .have e:i=ds.length:=by omega
  subst e
  rw[u1D]at hm
  cases hm
  rw[u0z]at hout
  subst hout
  exact .inl ⟨stop rfl,q F2 H2 P ys (g1.trans g2) hH0 hF2 hH2 al⟩
theorem rb1:RB 1 (Zy 0) b1:=by
 intro σ ρ F H d v own Q s va av e q
 cases e
 refine q _ λi d' h=>?_
 cases i with
 | zero=>cases h;exact⟨v,rfl,av⟩
 | succ i=>exact va i d' h
theorem rb2 {K:W.Frag}:RB 2 (zm9 K 2 (zcn (Zy 0) (zcn (Zy 1) znf))) b2:=by
 intro σ ρ F H d v own Q s va av e q
 unfold b2 at e
 split at e <;> cases e
 obtain⟨p,xs,rfl,hx,al⟩:=av.tup_inv
 obtain⟨x,r,rfl,ax,al⟩:=al.cons_inv
 obtain⟨y,r,rfl,ay,al⟩:=al.cons_inv
 cases al.nil_inv
 refine⟨p,_,rfl,SqT.of (s _ _ hx),rfl,x,_,rfl,y,_,rfl,rfl,?_⟩
 refine q _ λi d' h=>?_
 match i,h with
 | 0,h=>cases h;exact⟨x,rfl,ax⟩
 | 1,h=>cases h;exact⟨y,rfl,ay⟩
 | i+2,h=>exact va i d' h
def tCan (f:Ev->Option D):TE:=fun σ H Q=>∃ ρ F d,zZ F H/\VAt F ρ σ/\f ρ=some d/\∀ F' H' v,Gr F H F' H'->At F' d v->Q v H'
def zmk (f:Ev->Option Bool):TT:=fun σ H Q=>∃ ρ F d,zZ F H/\VAt F ρ σ/\f ρ=some d/\∀ F' H',Gr F H F' H'->Q d H'
theorem ED.can {X:Cx}{e:Expr}{f:Ev->Option D}(h:ED X e f):PE X e (tCan f):=by
 obtain⟨t,p,r⟩:=h
 rintro pins s σ H Q I ⟨ρ,F,d,h1,h2,h3,h4⟩
 exact p pins s σ H Q I (r σ ρ F H d Q h1 h2 h3 h4)
theorem TD.can {X:Cx}{e:Expr}{f:Ev->Option Bool}(h:TD X e f):PT X e (zmk f):=by
 obtain⟨t,p,r⟩:=h
 rintro pins s σ H Q I ⟨ρ,F,d,h1,h2,h3,h4⟩
 exact p pins s σ H Q I (r σ ρ F H d Q h1 h2 h3 h4)
theorem zgX {f:Ev->Option D}:RE (tCan f) f:=λ_ ρ F _ d _ h1 h2 h3 h4=>⟨ρ,F,d,h1,h2,h3,h4⟩
theorem zi8 {f:Ev->Option Bool}:RT (zmk f) f:=λ_ ρ F _ d _ h1 h2 h3 h4=>⟨ρ,F,d,h1,h2,h3,h4⟩
theorem X8 {X:Cx}{elt tg iter:Expr}{L M:List Str}{scope:Scope}{cl:List (Str × Addr)}{pos:Pos}{fi:Ev->Option (List D)}{b:D->Option (List (Option D))}{fe:Ev->Option D}{g:TG}
 (hc:X.calm=true) (S:vL X L M scope cl) (hi:ID X tg iter fi)
 (hgS:∀ (σ:St) (v:V) (H:Hp) (Q:St->Hp->Prop),g v (List.replicate L.length none++σ) H Q->g v (List.replicate L.length none++σ) H (fun σ2 H2=>ZJ (List.replicate L.length none++σ) σ2/\Q σ2 H2))
 (hrb:RB L.length g b)
 (hg:∀ s₀ H₀ ex pn,PG (zev X L M scope cl s₀ H₀ ex pn) tg g) (he:∀ s₀ H₀ ex pn,ED (zev X L M scope cl s₀ H₀ ex pn) elt fe)
 (hs:∀ x,foldedSetIterable iter X.env x=pure x:=by intro _;rfl):FL X (.ListComp elt [⟨tg,iter,[],0⟩] scope pos) (fLC fi b yr fe):=by
 obtain⟨wi,pi,ri⟩:=hi
 exact⟨_,zi9 hc S pi hgS hg (λ_ _ _ _=>zkz) (λ_ _ _ _=>(he _ _ _ _).can) hs,zkJ ri hrb zlL zgX⟩
theorem zfu {X:Cx}{elt tg iter c:Expr}{L M:List Str}{scope:Scope}{cl:List (Str × Addr)}{pos:Pos}{fi:Ev->Option (List D)}{b:D->Option (List (Option D))}{ft:Ev->Option Bool}{fe:Ev->Option D}{g:TG}
 (hc:X.calm=true) (S:vL X L M scope cl) (hi:ID X tg iter fi)
 (hgS:∀ (σ:St) (v:V) (H:Hp) (Q:St->Hp->Prop),g v (List.replicate L.length none++σ) H Q->g v (List.replicate L.length none++σ) H (fun σ2 H2=>ZJ (List.replicate L.length none++σ) σ2/\Q σ2 H2))
 (hrb:RB L.length g b)
 (hg:∀ s₀ H₀ ex pn,PG (zev X L M scope cl s₀ H₀ ex pn) tg g) (ht:∀ s₀ H₀ ex pn,TD (zev X L M scope cl s₀ H₀ ex pn) c ft) (he:∀ s₀ H₀ ex pn,ED (zev X L M scope cl s₀ H₀ ex pn) elt fe)
 (hs:∀ x,foldedSetIterable iter X.env x=pure x:=by intro _;rfl):FL X (.ListComp elt [⟨tg,iter,[c],0⟩] scope pos) (fLC fi b ft fe):=by
 obtain⟨wi,pi,ri⟩:=hi
 exact⟨_,zi9 hc S pi hgS hg (λ_ _ _ _=>zgh (ht _ _ _ _).can) (λ_ _ _ _=>(he _ _ _ _).can) hs,zkJ ri hrb zi8 zgX⟩
def fnD (n:Nat)(g:SE->Ctl)(ds:List D):Option D:=match g (ds.map .v++List.replicate (n - ds.length) .no) with
 | .rt d=>some d
 | .nx _=>some .non
 | _=>none
def spD (m:Nat)(p:List D->Option D):Sp:=λvs H Q _=>∃ ds d F,ds.length=m/\zZ F H/\AtL F ds vs/\p ds=some d/\∀ F' H' v,Gr F H F' H'->At F' d v->Q v H'
theorem zdr {F H:Hp}{N:List Str}{ds:List D}{vs:List V}(s:zZ F H)(a:AtL F ds vs):Rl F H F H (ds.map .v++List.replicate (N.length - ds.length) .no) (L2.start N vs):=by
 have hl:=a.length
 have noO:∀ (i:Nat) (t:Sl),(ds.map Sl.v++List.replicate (N.length - ds.length) Sl.no)[i]?=some t->t.isO=true->False:=λi t h ho=>by
  by_cases hi:i < ds.length
  .rw[u0O (by simpa using hi),r6]at h
   cases e:ds[i]? with
   | none=>rw[e]at h;cases h
   | some d=>rw[e]at h;cases h;cases ho
  .rw[u0a (by simpa using hi),u0w]at h
   split at h <;> cases h
   cases ho
 refine⟨.refl s,λi d h=>?_,λi t h ho=>(noO i t h ho).elim,λi j p t u h _ ho=>(noO i t h ho).elim,?_⟩
 .by_cases hi:i < ds.length
  .rw[u0O (by simpa using hi),r6]at h
   cases e:ds[i]? with
   | none=>rw[e]at h;cases h
   | some d' =>
    rw[e]at h
    cases h
    obtain⟨x,hx,ax⟩:=a.get e
    refine⟨x,?_,ax⟩
    unfold L2.start
    rw[u0O (by simpa [hl]using hi),r6,hx]
    rfl
  .rw[u0a (by simpa using hi),u0w]at h
   split at h <;> cases h
 .unfold L2.start
  simp[hl]
theorem xl {P:Program}{w:World}{K:W.Frag}{mg:Str->Option Value}{base:Heap}{x qual:Str}{st:Stmt}{f:Addr}{fd:FuncData}{N ps:List Str}{k:Nat}{g:SE->Ctl}(Fu:Fun K x qual st f fd)(S:zx N ps (zi st))
 (hb:∀ (cdv:Value) (A:Around) (outer:List Env) (s:Shared) (H:Hp) (E:XK),vw k (A.deeper (PyProof.Rows.envOfC qual (zi st) s.heap.objs.size f cdv))->SDs (Zq CX0 P w K mg base N qual (zi st) f cdv A outer s H E).nox (xU st) g) :
 y6 P w K mg base CX0 (k+1) f fd ps (spD ps.length (fnD N.length g)):=by
 refine Fu.ok S (λvs H Q E h=>?_) λcdv A outer s H vs Q E hr h=>?_
 .obtain⟨ds,d,F,hl,_,a,_⟩:=h
  rw[a.length];exact hl
 .obtain⟨ds,d,F,hl,sm,a,e,q⟩:=h
  obtain⟨t,p,r⟩:=hb cdv A outer s H E hr
  refine⟨t,p,r F H F H _ _ _ (zdr sm a) ?_⟩
  unfold fnD at e
  cases hg:g (ds.map .v++List.replicate (N.length - ds.length) .no) with
  | rt d'=>rw[hg]at e;cases e;exact λF' H' v g av=>q F' H' v g av
  | nx ρ=>rw[hg]at e;cases e;exact λF' H' σ rl=>q F' H' _ rl.gr .non
  | bk ρ=>rw[hg]at e;cases e
  | ct ρ=>rw[hg]at e;cases e
  | no=>rw[hg]at e;cases e
theorem wB {P:Program}{w:World}{K:W.Frag}{mg:Str->Option Value}{base:Heap}{f:Addr}{fd:FuncData}{ps:List Str}{k m:Nat}{p q:List D->Option D}(F:y6 P w K mg base CX0 k f fd ps (spD m p))(h:∀ ds d,ds.length=m->q ds=some d->p ds=some d):y6 P w K mg base CX0 k f fd ps (spD m q) :=
 F.imp λvs H Q E ⟨ds,d,F',h1,h2,h3,h4,h5⟩=>⟨ds,d,F',h1,h2,h3,h ds d h1 h4,h5⟩
def zt (m:Nat)(p:List D->Option D)(f:Ev->Option (List D)):Ev->Option D:=fun ρ=>(f ρ).bind λds=>if ds.length=m then p ds else none
theorem zcl {X:Cx}{x:Str}{k m:Nat}{f:Addr}{fd:FuncData}{ps:List Str}{p:List D->Option D}{e:Expr}{es:List Expr}{pp pos:Pos}{fa:Ev->Option (List D)}(F:y6 X.prog X.w X.K X.mg X.base CX0 k f fd ps (spD m p))(hr:vw k X.A)(hg:Gl X x)(hm:X.mg x=some (.ref f))(hk:W.keepIn X.K (.ref f)=true)(hb:XM X.K fd ps [])
 (ha:AD X (e::es) fa) (hdb:(x == ("__debug__":Str))=false:=by decide) (he:starEach (e::es) X.env=(false,eval e X.env)::starEach es X.env:=by rfl) (hpl:(backTo pos (starEach es X.env)).any (·.1)=false:=by rfl) :
 ED X (.Call (.Name x pp) (e::es) [] pos) (zt m p fa):=by
 obtain⟨t,pa,r⟩:=ha
 refine⟨_,zg8 F hr hg hm hk hb .nil zn8 pa hdb he hpl,fun σ ρ F0 H d Q s va e q=>?_⟩
 obtain⟨ds,e1,e2⟩:=u4.mp e
 split at e2 <;> try cases e2
 rename_i hl
 refine r σ ρ F0 H ds _ s va e1 λF1 H1 vs g1 a1=>?_
 refine⟨ds,d,F1,hl,g1.fh,by rw[u0z];exact a1,e2,λF' H' v g av=>q F' H' v (g1.trans g) av⟩
end Dl
namespace Dl
open PySem L2
variable [KK]
section
variable {X:Cx}{a b c e:Expr}{pos:Pos}
theorem zy:bootBuiltins "isinstance"=some (.builtin "isinstance"):=by decide +kernel
theorem Zs:bootBuiltins "len"=some (.builtin "len"):=by decide +kernel
theorem zlS:bootBuiltins "min"=some (.builtin "min"):=by decide +kernel
theorem zjq:bootBuiltins "max"=some (.builtin "max"):=by decide +kernel
theorem Wq:bootBuiltins "sorted"=some (.builtin "sorted"):=by decide +kernel
theorem Wy:bootBuiltins "sum"=some (.builtin "sum"):=by decide +kernel
theorem zmc:bootBuiltins "all"=some (.builtin "all"):=by decide +kernel
theorem zk6:bootBuiltins "any"=some (.builtin "any"):=by decide +kernel
theorem zfi:bootBuiltins "int"=some (.type "int"):=by decide +kernel
theorem VG:bootBuiltins "bool"=some (.type "bool"):=by decide +kernel
theorem xc:bootBuiltins "tuple"=some (.type "tuple"):=by decide +kernel
theorem zcf:bootBuiltins "list"=some (.type "list"):=by decide +kernel
theorem zjm:bootBuiltins "str"=some (.type "str"):=by decide +kernel
theorem zbS:bootBuiltins "enumerate"=some (.type "enumerate"):=by decide +kernel
theorem zmI:bootBuiltins "zip"=some (.type "zip"):=by decide +kernel
def XC (C:Int->Int->Bool)(g:Int->Int->Int):D->D->Option D
 | .int i,.int j=>if C i j=true then some (.int (g i j))else none
 | _,_=>none
def x9 (g:Int->Int->Int):D->D->Option D
 | .int i,.int j=>some (.int (g i j))
 | _,_=>none
def XN (g:Int->Int->Bool):D->D->Option D
 | .int i,.int j=>some (.bl (g i j))
 | _,_=>none
theorem X6 {C:Int->Int->Prop}{Cb:Int->Int->Bool}{g:Int->Int->Int}(h:∀ i j,Cb i j=true->C i j):OpD (rI C λi j=>.int (g i j)) (XC Cb g):=by
 intro F H x y d e z Q s ax ay ez q
 cases d <;> try cases ez
 cases e <;> try cases ez
 unfold XC at ez
 dsimp only at ez
 split at ez <;> cases ez
 rename_i hc
 exact⟨_,_,ax.int_inv,ay.int_inv,h _ _ hc,q F H _ (.refl s) .int⟩
theorem zby {g:Int->Int->Int}:OpD (rI0 λi j=>.int (g i j)) (x9 g):=by
 intro F H x y d e z Q s ax ay ez q
 cases d <;> try cases ez
 cases e <;> try cases ez
 exact⟨_,_,ax.int_inv,ay.int_inv,q F H _ (.refl s) .int⟩
theorem yH {g:Int->Int->Bool}:OpD (rI0 λi j=>.bl (g i j)) (XN g):=by
 intro F H x y d e z Q s ax ay ez q
 cases d <;> try cases ez
 cases e <;> try cases ez
 exact⟨_,_,ax.int_inv,ay.int_inv,q F H _ (.refl s) .bl⟩
theorem zbE {r r':R2}{g g':D->D->Option D}(h:OpD r g)(h':OpD r' g'):OpD (λx y H Q=>r x y H Q\/r' x y H Q) (λd e=>(g d e).or (g' d e)):=by
 intro F H x y d e z Q s ax ay ez q
 dsimp only at ez
 cases hg:g d e with
 | some z'=>rw[hg]at ez;cases ez;exact .inl (h F H x y d e z Q s ax ay hg q)
 | none=>rw[hg]at ez;exact .inr (h' F H x y d e z Q s ax ay ez q)
def zl6:D->D->Option D
 | .tup a,.tup b=>if lim (a.length+b.length)=true then some (.tup (a++b))else none
 | _,_=>none
def zmC:D->D->Option (List D)
 | .lst a,.lst b=>if lim (a.length+b.length)=true then some (a++b)else none
 | _,_=>none
def zg2 (d e:D):Option D:=(zmC d e).map .lst
def zlY:D->D->Option D
 | .str a,.str b=>if lim (a.length+b.length)=true then some (.str (a++b))else none
 | _,_=>none
theorem ziR {K:W.Frag}:OpD (zjc K) zl6:=by
 intro F H x y d e z Q s ax ay ez q
 cases d <;> try cases ez
 cases e <;> try cases ez
 unfold zl6 at ez
 dsimp only at ez
 split at ez <;> cases ez
 rename_i hl
 obtain⟨p,xs,rfl,hx,al⟩:=ax.tup_inv
 obtain⟨p2,ys,rfl,hy,bl⟩:=ay.tup_inv
 refine⟨p,p2,xs,ys,rfl,rfl,SqT.of (s _ _ hx),SqT.of (s _ _ hy),by rw[al.length,bl.length];exact p0 hl,λe1=>?_,λ_ e2=>?_,λ_ _ r hr=>?_⟩
 .subst e1
  have:(_:List D)=[]:=u0S.mp al.length.symm
  subst this
  exact q F H _ (.refl s) (.tup hy bl)
 .subst e2
  have:(_:List D)=[]:=u0S.mp bl.length.symm
  subst this
  rw[u0z]at q
  exact q F H _ (.refl s) (.tup hx al)
 .have g:=Gr.alloc s hr (.tup (xs++ys))
  exact q _ _ _ g (.tup zm ((al.append bl).mono g.ff))
theorem zhD:OpD znG zg2:=by
 intro F H x y d e z Q s ax ay ez q
 cases d <;> try cases ez
 cases e <;> try cases ez
 unfold zg2 zmC at ez
 dsimp only at ez
 split at ez <;> cases ez
 rename_i hl
 obtain⟨p,xs,rfl,hx,al⟩:=ax.lst_inv
 obtain⟨p2,ys,rfl,hy,bl⟩:=ay.lst_inv
 refine⟨p,p2,xs,ys,rfl,rfl,s _ _ hx,s _ _ hy,by rw[al.length,bl.length];exact p0 hl,λr hr=>?_⟩
 have g:=Gr.alloc s hr (.lst (xs++ys))
 exact q _ _ _ g (.lst zm ((al.append bl).mono g.ff))
theorem zhH:OpD (λx y H Q=>∃ i j,x=.str i/\y=.str j/\i.length+j.length<=sizeLine/\Q (.str (i++j)) H) zlY:=by
 intro F H x y d e z Q s ax ay ez q
 cases d <;> try cases ez
 cases e <;> try cases ez
 unfold zlY at ez
 dsimp only at ez
 split at ez <;> cases ez
 rename_i hl
 exact⟨_,_,ax.str_inv,ay.str_inv,p0 hl,q F H _ (.refl s) .str⟩
def vB:D->D->Option D
 | .int i,.int j=>some (.int (i+j))
 | .tup a,.tup b=>if lim (a.length+b.length)=true then some (.tup (a++b))else none
 | .lst a,.lst b=>if lim (a.length+b.length)=true then some (.lst (a++b))else none
 | .str a,.str b=>if lim (a.length+b.length)=true then some (.str (a++b))else none
 | _,_=>none
theorem zcr {r:R2}{g g':D->D->Option D}(h:OpD r g)(k:∀ d e z,g' d e=some z->g d e=some z):OpD r g':=λF H x y d e z Q s ax ay ez q=>h F H x y d e z Q s ax ay (k d e z ez) q
theorem xn {f h:Ev->Option D}(ha:ED X a f)(hb:ED X b h):ED X (.BinOp a .Add b pos) (zr vB f h) :=
 Vf (((zlu.or zhE).or zda).or zeo) (zcr (zbE (zbE (zbE (zby (g:=λi j=>i+j)) ziR) zhD) zhH) λd e z h=>by
  cases d <;> try cases h
  all_goals cases e <;> try cases h
  .rfl
  .unfold vB at h;dsimp only at h;split at h <;> cases h;rename_i hl;simp[x9,zl6,hl,zg2,zmC,zlY]
  .unfold vB at h;dsimp only at h;split at h <;> cases h;rename_i hl;simp[x9,zl6,hl,zg2,zmC,zlY]
  .unfold vB at h;dsimp only at h;split at h <;> cases h;rename_i hl;simp[x9,zl6,hl,zg2,zmC,zlY]) ha hb
theorem zdG {F H F1 H1:Hp}{p:Addr}(g1:Gr F H F1 H1)(hp:H1 p=none):H p=none:=by
 cases e:H p with
 | none=>rfl
 | some o =>
  cases e2:F p with
  | none=>rw[(g1.kp p o e2 e).2]at hp;cases hp
  | some u=>rw[g1.fh _ _ (g1.ff _ _ e2)]at hp;cases hp
def Xj (i j:Int):Bool:=decide ((-(2 ^ 64) < i/\i < 2 ^ 64)\/(-(2 ^ 64) < j/\j < 2 ^ 64))
def zns:D->D->Option (List D)
 | .lst a,.int k=>if -(2 ^ 63)<=k/\k < 2 ^ 63/\lim (a.length*k.toNat)=true then some (List.replicate k.toNat a).flatten else none
 | _,_=>none
def ziC (d e:D):Option D:=(zns d e).map .lst
def vO:D->D->Option D
 | .int i,.int j=>if Xj i j=true then some (.int (i*j))else none
 | .lst a,.int k=>if -(2 ^ 63)<=k/\k < 2 ^ 63/\lim (a.length*k.toNat)=true then some (.lst (List.replicate k.toNat a).flatten)else none
 | _,_=>none
theorem zij:OpD rRep ziC:=by
 intro F H x y d e z Q s ax ay ez q
 cases d <;> try cases ez
 cases e <;> try cases ez
 unfold ziC zns at ez
 dsimp only at ez
 split at ez <;> cases ez
 rename_i hl
 obtain⟨p,xs,rfl,hx,al⟩:=ax.lst_inv
 refine⟨p,_,xs,rfl,ay.int_inv,s _ _ hx,hl.1,hl.2.1,by rw[al.length];exact p0 hl.2.2,λr hr=>?_⟩
 rename_i ds k
 have g:=Gr.alloc s hr (.lst (List.replicate k.toNat xs).flatten)
 exact q _ _ _ g (.lst zm ((al.rep _).mono g.ff))
theorem WQ {f h:Ev->Option D}(ha:ED X a f)(hb:ED X b h):ED X (.BinOp a .Mult b pos) (zr vO f h) :=
 Vf (zmv.or zlg) (zcr (zbE (X6 (Cb:=Xj) (g:=λi j=>i*j) λi j h=>by have h':=p0 (show decide ((-(2 ^ 64) < i/\i < 2 ^ 64)\/(-(2 ^ 64) < j/\j < 2 ^ 64))=true from h);exact h') zij) λd e z h=>by
  cases d <;> try cases h
  all_goals cases e <;> try cases h
  .unfold vO at h;dsimp only at h;split at h <;> cases h;rename_i hl;simp[XC,hl]
  .unfold vO at h;dsimp only at h;split at h <;> cases h;rename_i hl;show(ziC _ _)=_;unfold ziC zns;dsimp only;rw[t9 hl];rfl) ha hb
def Yn:=x9 λi j=>i - j
def yL:=XC (λ_ j=>decide (0 < j/\j < 1606938044258990275541962092341162602522202993782792835301376)) λi j=>i / j
def wF:=XC (λ_ j=>decide (0 < j)) λi j=>i % j
def zkR:=XC (λ_ j=>decide (0<=j)) λi j=>i / 2 ^ j.toNat
theorem Xz {f h:Ev->Option D}(ha:ED X a f)(hb:ED X b h):ED X (.BinOp a .Sub b pos) (zr Yn f h):=Vf zma zby ha hb
theorem zhq:OpR X (binaryOp .FloorDiv) (rI (λ_ j=>0 < j/\j < 1606938044258990275541962092341162602522202993782792835301376) λi j=>.int (i / j)):=opI λi j _ _ _ _ _ hc q=>by
 have h1:(0:Int) < j:=hc.1
 have h2:j < 1606938044258990275541962092341162602522202993782792835301376:=hc.2
 refine PyProof.Rows.floordiv_int (by omega) (by rw[u20 i (by omega)];exact q) (.inl (PyProof.noPylong_of_log2 ?_))
 have h0:j.natAbs≠0:=by omega
 have h3:j.natAbs < 1606938044258990275541962092341162602522202993782792835301376:=by omega
 have h4:j.natAbs.log2 < 200:=(Nat.log2_lt h0).mpr h3
 omega
theorem Z7 {f h:Ev->Option D}(ha:ED X a f)(hb:ED X b h):ED X (.BinOp a .FloorDiv b pos) (zr yL f h):=Vf zhq (X6 λ_ _ h=>by have h':=p0 h;exact h') ha hb
theorem YM {f h:Ev->Option D}(ha:ED X a f)(hb:ED X b h):ED X (.BinOp a .Mod b pos) (zr wF f h):=Vf zmy (X6 λ_ _ h=>by have h':=p0 h;exact h') ha hb
theorem zmJ {f h:Ev->Option D}(ha:ED X a f)(hb:ED X b h):ED X (.BinOp a .RShift b pos) (zr zkR f h):=Vf zmP (X6 λ_ _ h=>by have h':=p0 h;exact h') ha hb
def ltD:=XN λi j=>decide (i < j)
def leD:=XN λi j=>decide (i<=j)
def gtD:=XN λi j=>decide (j < i)
def geD:=XN λi j=>decide (j<=i)
def eqS:D->D->Option Bool
 | .non,.non=>some true
 | .int i,.int j=>some (decide (i=j))
 | .bl i,.bl j=>some (decide (i=j))
 | .str i,.str j=>some (decide (i=j))
 | .non,.int _=>some false | .int _,.non=>some false | .non,.bl _=>some false | .bl _,.non=>some false | .non,.str _=>some false | .str _,.non=>some false
 | .int _,.str _=>some false | .str _,.int _=>some false | .bl _,.str _=>some false | .str _,.bl _=>some false
 | _,_=>none
def eqD (d e:D):Option D:=(eqS d e).map .bl
def neD (d e:D):Option D:=(eqS d e).map λc=>.bl (!c)
theorem zjr:OpD rEq eqD:=by
 intro F H x y d e z Q s ax ay ez q
 obtain⟨c,e1,rfl⟩:=u9.mp ez
 cases d <;> cases e <;> try cases e1
 .cases ax.non_inv;cases ay.non_inv;exact⟨rfl,q F H _ (.refl s) .bl⟩
 .cases ax.non_inv;cases ay.bl_inv;exact⟨rfl,q F H _ (.refl s) .bl⟩
 .cases ax.non_inv;cases ay.int_inv;exact⟨rfl,q F H _ (.refl s) .bl⟩
 .cases ax.non_inv;cases ay.str_inv;exact⟨rfl,q F H _ (.refl s) .bl⟩
 .cases ax.bl_inv;cases ay.non_inv;exact⟨rfl,q F H _ (.refl s) .bl⟩
 .cases ax.bl_inv;cases ay.bl_inv;refine⟨rfl,?_⟩;rw[show ∀ i j:Bool,decide (V.bl i=V.bl j)=decide (i=j)from λi j=>by simp];exact q F H _ (.refl s) .bl
 .cases ax.bl_inv;cases ay.str_inv;exact⟨rfl,q F H _ (.refl s) .bl⟩
 .cases ax.int_inv;cases ay.non_inv;exact⟨rfl,q F H _ (.refl s) .bl⟩
 .cases ax.int_inv;cases ay.int_inv;refine⟨rfl,?_⟩;rw[show ∀ i j:Int,decide (V.int i=V.int j)=decide (i=j)from λi j=>by simp];exact q F H _ (.refl s) .bl
 .cases ax.int_inv;cases ay.str_inv;exact⟨rfl,q F H _ (.refl s) .bl⟩
 .cases ax.str_inv;cases ay.non_inv;exact⟨rfl,q F H _ (.refl s) .bl⟩
 .cases ax.str_inv;cases ay.bl_inv;exact⟨rfl,q F H _ (.refl s) .bl⟩
 .cases ax.str_inv;cases ay.int_inv;exact⟨rfl,q F H _ (.refl s) .bl⟩
 .cases ax.str_inv;cases ay.str_inv;refine⟨rfl,?_⟩;rw[show ∀ i j:Str,decide (V.str i=V.str j)=decide (i=j)from λi j=>by simp];exact q F H _ (.refl s) .bl
theorem WC:OpD rNe neD:=by
 intro F H x y d e z Q s ax ay ez q
 obtain⟨c,e1,rfl⟩:=u9.mp ez
 have:=zjr F H x y d e (.bl c) (λv H'=>∃ b,v=.bl b/\Q (.bl (!b)) H') s ax ay (by unfold eqD;rw[e1];rfl) λF' H' v g av=>⟨c,av.bl_inv,q F' H' _ g .bl⟩
 obtain⟨h1,b,h2,h3⟩:=this
 cases h2
 exact⟨h1,h3⟩
def X2:D->D->Option D
 | d,.non=>some (.bl (match d with | .non=>true | _=>false))
 | .bl a,.bl b=>some (.bl (a == b))
 | _,_=>none
def ym:D->D->Option D
 | d,.non=>some (.bl (match d with | .non=>false | _=>true))
 | .bl a,.bl b=>some (.bl (!(a == b)))
 | _,_=>none
theorem zjG {F:Hp}{d:D}{x:V}(h:At F d x):decide (x=V.non)=(match d with | .non=>true | _=>false):=by
 cases d with
 | non=>cases h.non_inv;rfl
 | bl b=>cases h.bl_inv;rfl
 | int b=>cases h.int_inv;rfl
 | str b=>cases h.str_inv;rfl
 | tup ds=>obtain⟨a,xs,rfl,_⟩:=h.tup_inv;rfl
 | lst ds=>obtain⟨a,xs,rfl,_⟩:=h.lst_inv;rfl
 | scr ds=>obtain⟨a,rfl,_⟩:=h.scr_inv;rfl
 | dct z t ks vs=>obtain⟨a,xs,rfl,_⟩:=h.dct_inv;rfl
theorem zgk:OpD (λx y H Q=>(y=.non/\Q (.bl (decide (x=.non))) H)\/∃ i j,x=.bl i/\y=.bl j/\Q (.bl (i == j)) H) X2:=by
 intro F H x y d e z Q s ax ay ez q
 unfold X2 at ez
 split at ez
 .cases ez
  refine .inl ⟨ay.non_inv,?_⟩
  rw[zjG ax]
  have:=q F H _ (.refl s) .bl
  cases d <;> exact this
 .cases ez
  exact .inr ⟨_,_,ax.bl_inv,ay.bl_inv,q F H _ (.refl s) .bl⟩
 .cases ez
theorem zji:OpR X (compareOp .Is) (λx y H Q=>(y=.non/\Q (.bl (decide (x=.non))) H)\/∃ i j,x=.bl i/\y=.bl j/\Q (.bl (i == j)) H):=zlC.or zhr
def yK (g g':D->D->Option D)(f h k:Ev->Option D):Ev->Option D:=fun ρ=>(f ρ).bind λx=>(h ρ).bind λy=>((g x y).bind asB).bind λc=>if c=true then (k ρ).bind λz=>g' y z else some (.bl false)
theorem zhz {r r':R2}{g g':D->D->Option D}{ta tb tc:TE}{f h k:Ev->Option D}(hg:OpD r g)(hg':OpD r' g')(ra:RE ta f)(rb:RE tb h)(rc:RE tc k):RE (zg7 r r' ta tb tc) (yK g g' f h k):=by
 intro σ ρ F H z Q s va e q
 obtain⟨x,e1,e⟩:=u4.mp e
 obtain⟨y,e2,e⟩:=u4.mp e
 obtain⟨c,e3,e⟩:=u4.mp e
 obtain⟨cd,e3,e4⟩:=u4.mp e3
 cases XY e4
 refine ra σ ρ F H x _ s va e1 λF1 H1 v g1 a1=>?_
 refine rb σ ρ F1 H1 y _ g1.fh (va.mono g1.ff) e2 λF2 H2 u g2 a2=>?_
 refine hg F2 H2 v u x y _ _ g2.fh (a1.mono g2.ff) a2 e3 λF3 H3 w g3 a3=>⟨c,a3.bl_inv,?_⟩
 have g123:=(g1.trans g2).trans g3
 cases c with
 | true =>
  rw[t9 rfl]at e ⊢
  obtain⟨z',e5,e6⟩:=u4.mp e
  refine rc σ ρ F3 H3 z' _ g3.fh (va.mono g123.ff) e5 λF4 H4 w4 g4 a4=>?_
  exact hg' F4 H4 u w4 y z' z Q g4.fh (a2.mono (g3.ff.trans g4.ff)) a4 e6 λF5 H5 w5 g5 a5=>q F5 H5 w5 ((g123.trans g4).trans g5) a5
 | false =>
  rw[j0 u6]at e ⊢
  cases e
  exact q F3 H3 _ g123 .bl
theorem ziF {op op':CmpOp}{r r':R2}{g g':D->D->Option D}{f h k:Ev->Option D}(ho:OpR X (compareOp op) r)(ho':OpR X (compareOp op') r')(hg:OpD r g)(hg':OpD r' g')(ha:ED X a f)(hb:ED X b h)(hc:ED X c k)
 (pch:∀ {ta tb tc:TE},PE X a ta->PE X b tb->PE X c tc->PE X (.Compare a [op,op'] [b,c] pos) (zg7 r r' ta tb tc)):ED X (.Compare a [op,op'] [b,c] pos) (yK g g' f h k) :=
 let ⟨_,pa,ra⟩:=ha
 let ⟨_,pb,rb⟩:=hb
 let ⟨_,pc,rc⟩:=hc
 ⟨_,pch pa pb pc,zhz hg hg' ra rb rc⟩
def zc5:List D->Option (List Int)
 | []=>some []
 | .int b::ds=>(zc5 ds).map (b::·)
 | _=>none
omit [KK] in
theorem Wz:∀ {ds:List D} {bs:List Int},zc5 ds=some bs->ds=bs.map .int
 | [],bs,h=>by cases h;rfl
 | d::ds,bs,h=>by
  cases d <;> try cases h
  obtain⟨cs,h1,rfl⟩:=u9.mp h
  rw[Wz h1]
  rfl
def leT:D->D->Option D
 | .tup a,.tup b=>(zc5 a).bind λns=>(zc5 b).map λms=>.bl (HT.lexLe ns ms)
 | _,_=>none
theorem zka {K:W.Frag}:OpD (rLeT K) leT:=by
 intro F H x y d e z Q s ax ay ez q
 cases d <;> try cases ez
 cases e <;> try cases ez
 obtain⟨ns,e1,e2⟩:=u4.mp ez
 obtain⟨ms,e3,rfl⟩:=u9.mp e2
 rw[Wz e1]at ax
 rw[Wz e3]at ay
 obtain⟨p,xs,rfl,hx,al⟩:=ax.tup_inv
 obtain⟨p2,ys,rfl,hy,bl⟩:=ay.tup_inv
 cases al.of_ints
 cases bl.of_ints
 exact⟨p,p2,ns,ms,rfl,rfl,SqT.of (s _ _ hx),SqT.of (s _ _ hy),q F H _ (.refl s) .bl⟩
def ixD:D->D->Option D
 | .lst ds,.int i=>atI ds i
 | .tup ds,.int i=>atI ds i
 | .scr ns,.int i=>(atI ns i).map .int
 | _,_=>none
theorem AtL.atI {F:Hp}{ds:List D}{xs:List V}{i:Int}{d:D}(al:AtL F ds xs)(h:L2.atI ds i=some d):∃ x,L2.atI xs i=some x/\At F d x:=by
 unfold L2.atI at h ⊢
 obtain⟨j,e1,e2⟩:=u4.mp h
 obtain⟨x,hx,ax⟩:=al.get e2
 exact⟨x,by rw[al.length,e1];exact hx,ax⟩
theorem zkX:OpD (rIx KK.K) ixD:=by
 intro F H x y d e z Q s ax ay ez q
 cases e <;> try (cases d <;> cases ez)
 cases ay.int_inv
 cases d with
 | lst ds =>
  obtain⟨p,xs,rfl,hx,al⟩:=ax.lst_inv
  obtain⟨v,e1,av⟩:=al.atI ez
  exact .inl ⟨p,xs,_,v,rfl,rfl,SqL.of (s _ _ hx),e1,q F H _ (.refl s) av⟩
 | tup ds =>
  obtain⟨p,xs,rfl,hx,al⟩:=ax.tup_inv
  obtain⟨v,e1,av⟩:=al.atI ez
  exact .inr (.inl ⟨p,xs,_,v,rfl,rfl,SqT.of (s _ _ hx),e1,q F H _ (.refl s) av⟩)
 | scr ns =>
  obtain⟨p,rfl,hx⟩:=ax.scr_inv
  obtain⟨n,e1,rfl⟩:=u9.mp ez
  refine .inl ⟨p,ns.map V.int,_,.int n,rfl,rfl,s.seq hx,?_,q F H _ (.refl s) .int⟩
  unfold L2.atI at e1 ⊢
  rw[u7]
  obtain⟨j,e2,e3⟩:=u4.mp e1
  rw[e2]
  show(ns.map V.int)[j]?=_
  rw[r6,e3]
  rfl
 | _=>cases ez
theorem yC {f h:Ev->Option D}(ha:ED X a f)(hb:ED X b h)(hs:zfH b)(hK:X.K=KK.K:=by rfl):ED X (.Subscript a b pos) (zr ixD f h) :=
 let ⟨_,pa,ra⟩:=ha
 let ⟨_,pb,rb⟩:=hb
 ⟨_,znM zmg pa pb hs,zhU (by rw[hK];exact zkX) ra rb⟩
def zew {α:Type}(xs:List α)(lo hi:Option Int):List α:=(xs.drop (HT.sIx xs.length 0 lo)).take (HT.sIx xs.length xs.length hi - HT.sIx xs.length 0 lo)
theorem AtL.cut {F:Hp}{ds:List D}{xs:List V}{lo hi:Option Int}(al:AtL F ds xs):AtL F (zew ds lo hi) (zck xs lo hi):=by
 unfold zew zck
 rw[al.length]
 exact(al.drop _).take _
def OD (X:Cx)(e:Option Expr)(f:Ev->Option (Option Int)):Prop:=∃ t,PO X e t/\∀ (σ:St) (ρ:Ev) (F H:Hp) (i:Option Int) (Q:Option Int->Hp->Prop),zZ F H->VAt F ρ σ->f ρ=some i->(∀ F' H',Gr F H F' H'->Q i H')->t σ H Q
def vF:Ev->Option (Option Int):=λ_=>some none
def asI:D->Option Int
 | .int i=>some i
 | _=>none
def x6 (f:Ev->Option D):Ev->Option (Option Int):=fun ρ=>((f ρ).bind asI).map some
theorem zgR {f:Ev->Option D}(h:ED X e f):OD X (some e) (x6 f):=by
 obtain⟨t,p,r⟩:=h
 refine⟨_,zj0 p,fun σ ρ F H i Q s va e q=>?_⟩
 obtain⟨j,e1,rfl⟩:=u9.mp e
 obtain⟨d,e1,e2⟩:=u4.mp e1
 cases d <;> cases e2
 exact r σ ρ F H _ _ s va e1 λF1 H1 v g1 a1=>⟨_,a1.int_inv,q F1 H1 g1⟩
def slD:D->Option Int->Option Int->Option D
 | .lst ds,lo,hi=>some (.lst (zew ds lo hi))
 | .scr ns,lo,hi=>some (.lst ((zew ns lo hi).map .int))
 | .tup ds,lo,hi=>some (.tup (zew ds lo hi))
 | _,_,_=>none
def eSl (g:D->Option Int->Option Int->Option D)(f:Ev->Option D)(l h:Ev->Option (Option Int)):Ev->Option D:=fun ρ=>(f ρ).bind λd=>(l ρ).bind λlo=>(h ρ).bind λhi=>g d lo hi
omit [KK] in
theorem zhp {ns:List Int}{lo hi:Option Int}:zck (ns.map V.int) lo hi=(zew ns lo hi).map V.int:=by
 unfold zck zew
 rw[u7,List.map_take,List.map_drop]
end
end Dl
namespace L2
open PySem PySem.Spec PyProof.Rows
def rSlN:V->Option Int->Option Int->Hp->VK->Prop:=λx lo hi H Q=>∃ a xs,x=.ref a/\H a=some (.tup xs)/\(zck xs lo hi=xs->Q (.ref a) H)/\∀ p,H p=none->Q (.ref p) (upd H p (.tup (zck xs lo hi)))
theorem zjv {X:Cx}:SlR X rSlN:=by
 intro pins s σ H x v vl vu lo hi sl Q I rx hs pl pu h
 obtain⟨a,xs,rfl,hx,q1,q2⟩:=h
 by_cases hw:HT.sIx xs.length 0 lo=0/\HT.sIx xs.length xs.length hi=xs.length
 .cases rx
  obtain⟨its,r,ht,hz⟩:=I.tuple (SqT.of hx)
  have hlen:its.toArray.size=xs.length:=by rw[j3];exact r.length.symm
  refine⟨"tuple",_,u0r.lookup,ht.typeIs,?_⟩
  refine HT.own_getItem_whole ht hs pl pu (by rw[hlen];exact hw) ⟨.ref a,H,I,rfl,q1 ?_⟩
  unfold zck
  rw[hw.1,hw.2,u1V,Nat.sub_zero,u1i]
 .exact zk1 pins s σ H (.ref a) v vl vu lo hi sl Q I rx hs pl pu ⟨a,xs,rfl,SqT.of hx,hw,q2⟩
end L2
namespace Dl
open PySem L2
variable [KK]
section
variable {X:Cx}{a b c e:Expr}{pos:Pos}
theorem zhA {lo hi:Option Expr}{p2:Pos}{f:Ev->Option D}{l h:Ev->Option (Option Int)}(ha:ED X a f)(hl:OD X lo l)(hh:OD X hi h)(hK:X.K=KK.K:=by rfl):ED X (.Subscript a (.Slice lo hi none p2) pos) (eSl slD f l h):=by
 obtain⟨ta,pa,ra⟩:=ha
 obtain⟨tl,ppl,rl⟩:=hl
 obtain⟨th,ph,rh⟩:=hh
 refine⟨_,ziu (zkA.or zjv) pa ppl ph,fun σ ρ F H z Q s va e q=>?_⟩
 obtain⟨d,e1,e⟩:=u4.mp e
 obtain⟨i,e2,e⟩:=u4.mp e
 obtain⟨j,e3,e⟩:=u4.mp e
 refine ra σ ρ F H d _ s va e1 λF1 H1 v g1 a1=>?_
 refine rl σ ρ F1 H1 i _ g1.fh (va.mono g1.ff) e2 λF2 H2 g2=>?_
 refine rh σ ρ F2 H2 j _ g2.fh (va.mono (g1.ff.trans g2.ff)) e3 λF3 H3 g3=>?_
 have g123:=(g1.trans g2).trans g3
 have a3:=a1.mono (g2.ff.trans g3.ff)
 cases d <;> try cases e
 .obtain⟨p,xs,rfl,hx,al⟩:=a3.tup_inv
  refine .inr ⟨p,xs,rfl,g3.fh _ _ hx,λec=>?_,λr hr=>?_⟩
  .have:=al.cut (lo:=i) (hi:=j)
   rw[ec]at this
   exact q F3 H3 _ g123 (.tup hx this)
  .have g:=Gr.alloc g3.fh hr (.tup (zck xs i j))
   exact q _ _ _ (g123.trans g) (.tup zm (al.cut.mono g.ff))
 .obtain⟨p,xs,rfl,hx,al⟩:=a3.lst_inv
  refine .inl ⟨p,xs,rfl,SqL.of (g3.fh _ _ hx),λr hr=>?_⟩
  have g:=Gr.alloc g3.fh hr (.lst (zck xs i j))
  exact q _ _ _ (g123.trans g) (.lst zm (al.cut.mono g.ff))
 .rename_i ns _ _
  obtain⟨p,rfl,hx⟩:=a3.scr_inv
  refine .inl ⟨p,_,rfl,(by rw[hK];exact g3.fh.seq hx),λr hr=>?_⟩
  rw[zhp]
  have g:=Gr.alloc g3.fh hr (.lst ((zew ns i j).map V.int))
  exact q _ _ _ (g123.trans g) (.lst zm (.ints _))
def CaD (r:List V->Hp->VK->Prop)(g:List D->Option D):Prop:=∀ (F H:Hp) (vs:List V) (ds:List D) (z:D) (Q:VK),zZ F H->AtL F ds vs->g ds=some z->(∀ F' H' v,Gr F H F' H'->At F' z v->Q v H')->r vs H Q
def eFn (g:List D->Option D)(f:Ev->Option (List D)):Ev->Option D:=fun ρ=>(f ρ).bind g
def fFn (g:List D->Option (List D))(f:Ev->Option (List D)):Ev->Option (List D):=fun ρ=>(f ρ).bind g
theorem zP {x:Str}{id:String}{p:Pos}{es:List Expr}{r:List V->Hp->VK->Prop}{g:List D->Option D}{f:Ev->Option (List D)}(hc:vR X (.builtin id) r)(hg:CaD r g)(hgl:Gl X x)(hm:X.mg x=none)(hv:bootBuiltins x=some (.builtin id))(ha:AD X (e::es) f)
 (hn:x≠"__name__":=by decide) (hdb:(x == ("__debug__":Str))=false:=by decide) (he:starEach (e::es) X.env=(false,eval e X.env)::starEach es X.env:=by rfl) (hpl:(backTo pos (starEach es X.env)).any (·.1)=false:=by rfl) :
 ED X (.Call (.Name x p) (e::es) [] pos) (eFn g f):=by
 obtain⟨t,pa,ra⟩:=ha
 refine⟨_,zN hc hgl hm hv pa hn hdb he hpl,fun σ ρ F H z Q s va e q=>?_⟩
 obtain⟨ds,e1,e2⟩:=u4.mp e
 refine ra σ ρ F H ds _ s va e1 λF1 H1 vs g1 a1=>?_
 exact hg F1 H1 vs ds z Q g1.fh a1 e2 λF' H' v g av=>q F' H' v (g1.trans g) av
theorem vI {x:Str}{T:String}{p:Pos}{es:List Expr}{r:List V->Hp->VK->Prop}{g:List D->Option D}{f:Ev->Option (List D)}(hc:vR X (.type T) r)(hg:CaD r g)(hgl:Gl X x)(hm:X.mg x=none)(hv:bootBuiltins x=some (.type T))(ha:AD X (e::es) f)
 (hn:x≠"__name__":=by decide) (hdb:(x == ("__debug__":Str))=false:=by decide) (he:starEach (e::es) X.env=(false,eval e X.env)::starEach es X.env:=by rfl) (hpl:(backTo pos (starEach es X.env)).any (·.1)=false:=by rfl) :
 ED X (.Call (.Name x p) (e::es) [] pos) (eFn g f):=by
 obtain⟨t,pa,ra⟩:=ha
 refine⟨_,zbc hc hgl hm hv pa hn hdb he hpl,fun σ ρ F H z Q s va e q=>?_⟩
 obtain⟨ds,e1,e2⟩:=u4.mp e
 refine ra σ ρ F H ds _ s va e1 λF1 H1 vs g1 a1=>?_
 exact hg F1 H1 vs ds z Q g1.fh a1 e2 λF' H' v g av=>q F' H' v (g1.trans g) av
def YC:List D->Option D
 | [.lst ds]=>some (.int ds.length)
 | [.tup ds]=>some (.int ds.length)
 | [.scr ds]=>some (.int ds.length)
 | _=>none
theorem Yb:CaD (λxs H Q=>∃ p ys,xs=[.ref p]/\(SqL KK.K H p ys\/SqT KK.K H p ys)/\Q (.int ys.length) H) YC:=by
 intro F H vs ds z Q s al e q
 unfold YC at e
 split at e <;> cases e
 all_goals
  obtain⟨x,r,rfl,ax,ar⟩:=al.cons_inv
  cases ar.nil_inv
 .obtain⟨p,xs,rfl,hx,bl⟩:=ax.lst_inv
  exact⟨p,xs,rfl,.inl (SqL.of (s _ _ hx)),by rw[bl.length];exact q F H _ (.refl s) .int⟩
 .obtain⟨p,xs,rfl,hx,bl⟩:=ax.tup_inv
  exact⟨p,xs,rfl,.inr (SqT.of (s _ _ hx)),by rw[bl.length];exact q F H _ (.refl s) .int⟩
 .obtain⟨p,rfl,hx⟩:=ax.scr_inv
  exact⟨p,_,rfl,.inl ((s.seq hx)),by rw[u7];exact q F H _ (.refl s) .int⟩
def zmb:List D->Option D
 | [.int i,.int j]=>some (.int (if j > i then j else i))
 | _=>none
def zlv:List D->Option D
 | [.int i,.int j]=>some (.int (if j < i then j else i))
 | _=>none
theorem zdd {g:Int->Int->Int}:CaD (λxs H Q=>∃ i j,xs=[.int i,.int j]/\Q (.int (g i j)) H) (λds=>match ds with | [.int i,.int j]=>some (.int (g i j)) | _=>none):=by
 intro F H vs ds z Q s al e q
 dsimp only at e
 split at e <;> cases e
 obtain⟨x,r,rfl,ax,ar⟩:=al.cons_inv
 obtain⟨y,r,rfl,ay,ar⟩:=ar.cons_inv
 cases ar.nil_inv
 exact⟨_,_,by rw[ax.int_inv,ay.int_inv],q F H _ (.refl s) .int⟩
theorem ziO:CaD (λxs H Q=>∃ i j,xs=[.int i,.int j]/\Q (.int (if j > i then j else i)) H) zmb:=zdd (g:=λi j=>if j > i then j else i)
theorem zis:CaD (λxs H Q=>∃ i j,xs=[.int i,.int j]/\Q (.int (if j < i then j else i)) H) zlv:=zdd (g:=λi j=>if j < i then j else i)
def zX:List D->Option D
 | [.lst ds]=>some (.tup ds)
 | [.tup ds]=>some (.tup ds)
 | _=>none
theorem vD {K:W.Frag}:CaD (λxs H Q=>∃ p ys,xs=[.ref p]/\((SqL K H p ys/\∀ l,H l=none->Q (.ref l) (upd H l (.tup ys)))\/(SqT K H p ys/\Q (.ref p) H))) zX:=by
 intro F H vs ds z Q s al e q
 unfold zX at e
 split at e <;> cases e
 all_goals
  obtain⟨x,r,rfl,ax,ar⟩:=al.cons_inv
  cases ar.nil_inv
 .obtain⟨p,xs,rfl,hx,bl⟩:=ax.lst_inv
  refine⟨p,xs,rfl,.inl ⟨SqL.of (s _ _ hx),λl hl=>?_⟩⟩
  have g:=Gr.alloc s hl (.tup xs)
  exact q _ _ _ g (.tup zm (bl.mono g.ff))
 .obtain⟨p,xs,rfl,hx,bl⟩:=ax.tup_inv
  exact⟨p,xs,rfl,.inr ⟨SqT.of (s _ _ hx),q F H _ (.refl s) (.tup hx bl)⟩⟩
def wn:List D->Option (List D)
 | [.lst ds]=>some ds
 | [.tup ds]=>some ds
 | [.scr ns]=>some (ns.map .int)
 | _=>none
theorem zgv {p:Pos} {f:Ev->Option (List D)} (hgl:Gl X "list") (hm:X.mg "list"=none) (ha:AD X [e] f) (hK:X.K=KK.K:=by rfl)
 (he:starEach [e] X.env=(false,eval e X.env)::starEach [] X.env:=by rfl) (hpl:(backTo pos (starEach [] X.env)).any (·.1)=false:=by rfl):FL X (.Call (.Name "list" p) [e] [] pos) (fFn wn f):=by
 obtain⟨t,pa,ra⟩:=ha
 refine⟨_,zbc zaP hgl hm zcf pa (by decide) (by decide) he hpl,fun σ ρ F H z Q s va e q=>?_⟩
 obtain⟨ds,e1,e2⟩:=u4.mp e
 refine ra σ ρ F H ds _ s va e1 λF1 H1 vs g1 a1=>?_
 unfold wn at e2
 split at e2 <;> cases e2
 all_goals
  obtain⟨x,r,rfl,ax,ar⟩:=a1.cons_inv
  cases ar.nil_inv
 .obtain⟨p,xs,rfl,hx,bl⟩:=ax.lst_inv
  exact⟨p,xs,rfl,.inl (SqL.of (g1.fh _ _ hx)),λl hl=>q _ _ _ _ (g1.trans (Gr.hide g1.fh hl _)) (zdG g1 hl) (g1.fh.free hl) zm bl⟩
 .obtain⟨p,xs,rfl,hx,bl⟩:=ax.tup_inv
  exact⟨p,xs,rfl,.inr (SqT.of (g1.fh _ _ hx)),λl hl=>q _ _ _ _ (g1.trans (Gr.hide g1.fh hl _)) (zdG g1 hl) (g1.fh.free hl) zm bl⟩
 .obtain⟨p,rfl,hx⟩:=ax.scr_inv
  exact⟨p,_,rfl,.inl (by rw[hK];exact g1.fh.seq hx),λl hl=>q _ _ _ _ (g1.trans (Gr.hide g1.fh hl _)) (zdG g1 hl) (g1.fh.free hl) zm (.ints _)⟩
inductive TyD (K:W.Frag) (H:Hp):V->Value->Prop where
 | of {v:V} {t:Value} (h:zcX K H v t):TyD K H v t
 | dd {a:Addr} {u:HO} (h:Rd H a u) (d:(∃ kvs,u=.dK kvs)\/∃ kvs,u=.dT kvs):TyD K H (.ref a) (.type "dict")
theorem zaT {X:Cx}:vR X (.builtin "isinstance") (λxs H Q=>∃ x n t b,xs=[x,.ty n]/\TyD X.K H x t/\W.kitOne X.K t (.type n)=some b/\Q (.bl b) H):=by
 intro pins s σ H xs us Q I r h
 obtain⟨x,n,t,b,rfl,ty,e,q⟩:=h
 cases ty with
 | of ty=>exact zcb pins s σ H _ us Q I r ⟨x,n,t,b,rfl,ty,e,q⟩
 | @dd a u h d =>
  cases r with
  | cons r1 r2 =>
   cases r2 with
   | cons r3 r4 =>
    cases r4
    cases r1
    cases r3
    have ok:=h.ok I.hok
    rcases d with ⟨kvs,rfl⟩ | ⟨kvs,rfl⟩
    .obtain⟨_,_,vs,_,p⟩:=(show yq X.prog X.w H s.heap a (.dK kvs)from ok)
     obtain⟨o,es,ep,h1,h2,_⟩:=p
     exact u0A u2o I.kIn ⟨o,h1,h2.1⟩ e (λz=>nomatch z) λtk=>⟨.bl b,H,I.tok tk,rfl,q⟩
    .obtain⟨_,_,xs,_,o,es,ep,h1,h2,_⟩:=(show yq X.prog X.w H s.heap a (.dT kvs)from ok)
     exact u0A u2o I.kIn ⟨o,h1,h2.1⟩ e (λz=>nomatch z) λtk=>⟨.bl b,H,I.tok tk,rfl,q⟩
theorem At.ty {K:W.Frag}{F H:Hp}(s:zZ F H):∀ {d:D} {v:V},At F d v->(∀ ns,d≠.scr ns)->TyD K H v (.type (tyN d))
 | .non,_,h,_=>by cases h.non_inv;exact .of .non
 | .bl b,_,h,_=>by cases h.bl_inv;exact .of (.bl b)
 | .int i,_,h,_=>by cases h.int_inv;exact .of (.int i)
 | .str x,_,h,_=>by cases h.str_inv;exact .of (.str x)
 | .tup ds,_,h,_=>by obtain⟨a,xs,rfl,e,_⟩:=h.tup_inv;exact .of (.tup (s _ _ e))
 | .lst ds,_,h,_=>by obtain⟨a,xs,rfl,e,_⟩:=h.lst_inv;exact .of (.lst (s _ _ e))
 | .scr ns,_,_,n=>absurd rfl (n ns)
 | .dct z t ks vs,_,h,_=>by
  obtain⟨a,xs,rfl,d,_⟩:=h.dct_inv
  obtain⟨u,e1,e2⟩:=(d.mono s).rd
  exact .dd e2 (by
   unfold zbV at e1
   split at e1
   .obtain⟨kvs,rfl,_⟩:=e1;exact .inr ⟨kvs,rfl⟩
   .obtain⟨kvs,rfl,_⟩:=e1;exact .inl ⟨kvs,rfl⟩)
inductive Ty where
 | int | bool | tuple | list | str
def Ty.nm:Ty->String
 | .int=>"int" | .bool=>"bool" | .tuple=>"tuple" | .list=>"list" | .str=>"str"
def isT:Ty->D->Bool
 | .int,.int _=>true | .int,.bl _=>true
 | .bool,.bl _=>true
 | .tuple,.tup _=>true
 | .list,.lst _=>true
 | .str,.str _=>true
 | _,_=>false
def yz (n:Ty):D->Option D
 | .scr _=>none
 | d=>some (.bl (isT n d))
theorem zlN (K:W.Frag)(n:Ty)(d:D)(h:∀ ns,d≠.scr ns):W.kitOne K (.type (tyN d)) (.type n.nm)=some (isT n d):=by
 cases n <;> cases d <;> first | exact absurd rfl (h _) | kernel_rfl
theorem zL {p:Pos} {f:Ev->Option D} (n:Ty) (hgl:Gl X "isinstance") (hm:X.mg "isinstance"=none) (ha:ED X a f) (hb:PE X b (tC (.ty n.nm)))
 (hs:starEach [a,b] X.env=(false,eval a X.env)::starEach [b] X.env:=by rfl) (hs2:starEach [b] X.env=(false,eval b X.env)::starEach [] X.env:=by rfl) (hpl:(backTo pos (starEach [b] X.env)).any (·.1)=false:=by rfl) :
 ED X (.Call (.Name "isinstance" p) [a,b] [] pos) (eUn (yz n) f):=by
 obtain⟨t,pa,ra⟩:=ha
 refine⟨_,zN zaT hgl hm zy (zp pa (zp hb yw hs2) hs) (by decide) (by decide) hs hpl,fun σ ρ F H z Q s va e q=>?_⟩
 obtain⟨d,e1,e2⟩:=u4.mp e
 refine ra σ ρ F H d _ s va e1 λF1 H1 v g1 a1=>?_
 have ns:∀ ns,d≠.scr ns:=λns h=>by subst h;cases e2
 have e3:z=.bl (isT n d):=by
  cases d <;> first | exact(p9 e2).symm | exact absurd rfl (ns _)
 subst e3
 exact⟨v,n.nm,_,_,rfl,a1.ty g1.fh ns,zlN _ n d ns,q F1 H1 _ g1 .bl⟩
def ZD (m:Bool)(i:Nat)(f:Ev->Option D):SE->Ctl:=fun ρ=>match (vEv m f ρ).bind λd=>match ρ[i]? with
 | some (.o ds)=>if decide (ds.length < sizeLine)=true then some (ρ.set i (.o (ds++[d])))else none
 | _=>none with
 | some ρ'=>.nx ρ'
 | none=>.no
theorem zfE {m:Bool}{i:Nat}{p pos':Pos}{f:Ev->Option D}(ho:PE X a (Vj i))(he:ED X e f)
 (hp:∀ {ta:TE} {t:TA},PE X a ta->PA X [e] t->PE X (.Call (.Attribute a "append" p) [e] [] pos') (tBM X.K "list" zgY ta t)) (hsw:swapsWith (.Call (.Attribute a "append" p) [e] [] pos') none pos.line X.env=pure false:=by rfl)
 (hs:starEach [e] X.env=(false,eval e X.env)::starEach [] X.env:=by rfl):SD X (.Expr (.Call (.Attribute a "append" p) [e] [] pos') pos) (ZD m i f):=by
 obtain⟨t,pe,re⟩:=he
 refine⟨_,VL (hp ho (zp pe yw hs)) hsw,λFb Hb F H ρ σ E rl k=>?_⟩
 unfold ZD at k
 cases h:(vEv m f ρ).bind λd=>match ρ[i]? with
  | some (.o ds)=>if decide (ds.length < sizeLine)=true then some (ρ.set i (.o (ds++[d])))else none
  | _=>none with
 | none=>rw[h]at k;exact k.elim
 | some ρ' =>
  rw[h]at k
  obtain⟨d,e1,e2⟩:=u4.mp h
  cases hs:ρ[i]? with
  | none=>rw[hs]at e2;cases e2
  | some sl =>
   rw[hs]at e2
   cases sl with
   | no=>cases e2
   | v _=>cases e2
   | m _ _ _=>cases e2
   | o ds =>
    dsimp only at e2
    split at e2 <;> cases e2
    rename_i hl
    obtain⟨q,xs,f1,f2,f3,f4,f5⟩:=rl.owns i ds hs
    refine⟨_,f1,.inl ⟨rfl,xs,SqL.of f4⟩,?_⟩
    refine re.at rl e1 λF' H' v g av=>?_
    have rl2:=rl.grow g
    obtain⟨q2,xs2,f1',_,_,f4',f5'⟩:=rl2.owns i ds hs
    rw[f1]at f1'
    cases f1'
    refine⟨q,xs2,v,rfl,rfl,f4',by rw[f5'.length];exact p0 hl,?_⟩
    exact k _ _ σ (rl2.mutate hs f1 (f5'.snoc av))
def X5 (i:Nat)(f:Ev->Option D):SE->Ctl:=fun ρ=>match (f (visF ρ)).bind λd=>match ρ[i]?,d with
 | some (.o ds),.lst es=>if lim (ds.length+es.length)=true then some (ρ.set i (.o (ds++es)))else none
 | _,_=>none with
 | some ρ'=>.nx ρ'
 | none=>.no
theorem zi0 {i:Nat}{p pos':Pos}{f:Ev->Option D}(ho:PE X a (Vj i))(he:ED X e f)
 (hp:∀ {ta:TE} {t:TA},PE X a ta->PA X [e] t->PE X (.Call (.Attribute a "extend" p) [e] [] pos') (tBM X.K "list" zgu ta t)) (hsw:swapsWith (.Call (.Attribute a "extend" p) [e] [] pos') none pos.line X.env=pure false:=by rfl)
 (hs:starEach [e] X.env=(false,eval e X.env)::starEach [] X.env:=by rfl):SD X (.Expr (.Call (.Attribute a "extend" p) [e] [] pos') pos) (X5 i f):=by
 obtain⟨t,pe,re⟩:=he
 refine⟨_,VL (hp ho (zp pe yw hs)) hsw,λFb Hb F H ρ σ E rl k=>?_⟩
 unfold X5 at k
 cases h:(f (visF ρ)).bind λd=>match ρ[i]?,d with
  | some (.o ds),.lst es=>if lim (ds.length+es.length)=true then some (ρ.set i (.o (ds++es)))else none
  | _,_=>none with
 | none=>rw[h]at k;exact k.elim
 | some ρ' =>
  rw[h]at k
  obtain⟨d,e1,e2⟩:=u4.mp h
  cases hs:ρ[i]? with
  | none=>rw[hs]at e2;cases e2
  | some sl =>
   rw[hs]at e2
   cases sl with
   | no=>cases e2
   | v _=>cases e2
   | m _ _ _=>cases e2
   | o ds =>
    cases d with
    | lst es =>
     dsimp only at e2
     split at e2 <;> cases e2
     rename_i hl
     obtain⟨q,xs,f1,f2,f3,f4,f5⟩:=rl.owns i ds hs
     refine⟨_,f1,.inl ⟨rfl,xs,SqL.of f4⟩,?_⟩
     refine re σ _ _ H _ _ rl.gr.fh rl.visF e1 λF' H' v g av=>?_
     have rl2:=rl.grow g
     obtain⟨q2,xs2,f1',_,_,f4',f5'⟩:=rl2.owns i ds hs
     rw[f1]at f1'
     cases f1'
     obtain⟨pb,zs,rfl,hz,bl⟩:=av.lst_inv
     refine⟨q,pb,xs2,zs,rfl,rfl,f4',g.fh _ _ hz,by rw[f5'.length,bl.length];exact p0 hl,?_⟩
     exact k _ _ σ (rl2.mutate hs f1 (f5'.append bl))
    | _=>cases e2
end
end Dl
namespace Dl
open PySem L2
variable [KK]
def okE:Nat->D->Bool
 | _,.scr _=>false
 | _,.dct _ _ _ _=>false
 | 0,.tup _=>false
 | 0,.lst _=>false
 | n+1,.tup ds=>ds.all (okE n)
 | n+1,.lst ds=>ds.all (okE n)
 | _,_=>true
def eqN:Nat->D->D->Bool
 | _,.non,.non=>true
 | _,.bl a,.bl b=>a == b
 | _,.bl a,.int b=>(if a then 1 else 0) == b
 | _,.int a,.bl b=>a == (if b then 1 else 0)
 | _,.int a,.int b=>a == b
 | _,.str a,.str b=>a == b
 | n+1,.tup a,.tup b=>(List.zipWith (eqN n) a b).all id&&a.length == b.length
 | n+1,.lst a,.lst b=>(List.zipWith (eqN n) a b).all id&&a.length == b.length
 | _,_,_=>false
omit [KK] in
theorem VC {n:Nat}:∀ (a b:List D),(List.zipWith (eqN n) a b).all id=(List.range (min a.length b.length)).all λj=>eqN n (a.getD j .non) (b.getD j .non):=by
 intro a b
 have:List.zipWith (eqN n) a b=(List.range (min a.length b.length)).map λj=>eqN n (a.getD j .non) (b.getD j .non):=by
  apply u3z
  .simp
  .intro i h1 h2
   simp at h1 h2
   have g1:i < a.length:=d7 h1 (Nat.min_le_left _ _)
   have g2:i < b.length:=d7 h1 (u10 _ _)
   simp[g1,g2]
 rw[this,u1A]
 rfl
omit [KK] in
def vOf:D->V
 | .bl b=>.bl b
 | .int i=>.int i
 | .str t=>.str t
 | _=>.non
theorem wb {F:Hp}{d:D}{x:V}(h:okE 0 d=true)(a:At F d x):x=vOf d:=by
 cases d with
 | non=>exact a.non_inv
 | bl b=>exact a.bl_inv
 | int b=>exact a.int_inv
 | str b=>exact a.str_inv
 | _=>cases h
omit [KK] in
theorem XX {d:D}(h:okE 0 d=true):zjI (vOf d)=true:=by
 cases d <;> first | rfl | cases h
omit [KK] in
theorem VU {d:D}{p:Addr}(h:okE 0 d=true)(e:vOf d=.ref p):False:=by
 cases d <;> first | (cases h;done) | (cases e;done)
def dOfV:V->D
 | .bl b=>.bl b
 | .int i=>.int i
 | .str t=>.str t
 | _=>.non
omit [KK] in
theorem ze1 {d:D}(h:okE 0 d=true):dOfV (vOf d)=d:=by
 cases d <;> first | rfl | (cases h;done)
omit [KK] in
theorem zgy {d e:D}(h1:okE 0 d=true)(h2:okE 0 e=true)(h:vOf d=vOf e):d=e:=by
 rw[<-ze1 h1,h,ze1 h2]
omit [KK] in
theorem x5 {n:Nat}{d:D}(h:okE (n+1) d=true):okE 0 d=true\/(∃ ds,d=.tup ds/\ds.all (okE n)=true)\/∃ ds,d=.lst ds/\ds.all (okE n)=true:=by
 cases d with
 | tup ds=>exact .inr (.inl ⟨ds,rfl,h⟩)
 | lst ds=>exact .inr (.inr ⟨ds,rfl,h⟩)
 | scr _=>cases h
 | dct _ _ _ _=>cases h
 | _=>exact .inl rfl
theorem zgp {F:Hp}{n:Nat}(ih:∀ {d e:D} {v:V},okE n d=true->okE n e=true->At F d v->At F e v->d=e):∀ {xs:List V} {ds es:List D},ds.all (okE n)=true->es.all (okE n)=true->AtL F ds xs->AtL F es xs->ds=es:=by
 intro xs
 induction xs with
 | nil =>
  intro ds es _ _ a1 a2
  exact(u0S.mp a1.length.symm).trans (u0S.mp a2.length.symm).symm
 | cons x xs ih2 =>
  intro ds es h1 h2 a1 a2
  cases ds with
  | nil=>cases a1.nil_inv
  | cons d ds=>cases es with
   | nil=>cases a2.nil_inv
   | cons e es =>
    obtain⟨y,r,e1,b1,c1⟩:=a1.cons_inv
    obtain⟨y2,r2,e2,b2,c2⟩:=a2.cons_inv
    cases e1
    cases e2
    rw[u2F,g9]at h1 h2
    rw[ih2 h1.2 h2.2 c1 c2,ih h1.1 h2.1 b1 b2]
theorem zjp {F:Hp}:∀ (n:Nat) {d e:D} {v:V},okE n d=true->okE n e=true->At F d v->At F e v->d=e:=by
 intro n
 induction n with
 | zero =>
  intro d e v h1 h2 a1 a2
  exact zgy h1 h2 ((wb h1 a1).symm.trans (wb h2 a2))
 | succ n ih =>
  intro d e v h1 h2 a1 a2
  rcases x5 h1 with f1 | ⟨ds,rfl,k1⟩ | ⟨ds,rfl,k1⟩
  .have e1:=wb f1 a1
   rcases x5 h2 with f2 | ⟨es,rfl,_⟩ | ⟨es,rfl,_⟩
   .exact zgy f1 f2 (e1.symm.trans (wb f2 a2))
   .obtain⟨p,xs,e2,_⟩:=a2.tup_inv
    exact(VU f1 (e1.symm.trans e2)).elim
   .obtain⟨p,xs,e2,_⟩:=a2.lst_inv
    exact(VU f1 (e1.symm.trans e2)).elim
  .obtain⟨p,xs,e0,hx,al⟩:=a1.tup_inv
   rcases x5 h2 with f2 | ⟨es,rfl,k2⟩ | ⟨es,rfl,k2⟩
   .exact(VU f2 ((wb f2 a2).symm.trans e0)).elim
   .obtain⟨q,ys,e1,hy,bl⟩:=a2.tup_inv
    cases e0.symm.trans e1
    cases hx.symm.trans hy
    rw[zgp ih k1 k2 al bl]
   .obtain⟨q,ys,e1,hy,bl⟩:=a2.lst_inv
    cases e0.symm.trans e1
    cases hx.symm.trans hy
  .obtain⟨p,xs,e0,hx,al⟩:=a1.lst_inv
   rcases x5 h2 with f2 | ⟨es,rfl,k2⟩ | ⟨es,rfl,k2⟩
   .exact(VU f2 ((wb f2 a2).symm.trans e0)).elim
   .obtain⟨q,ys,e1,hy,bl⟩:=a2.tup_inv
    cases e0.symm.trans e1
    cases hx.symm.trans hy
   .obtain⟨q,ys,e1,hy,bl⟩:=a2.lst_inv
    cases e0.symm.trans e1
    cases hx.symm.trans hy
    rw[zgp ih k1 k2 al bl]
omit [KK] in
theorem zhZ:∀ (n:Nat) {d:D},okE n d=true->eqN n d d=true:=by
 intro n
 induction n with
 | zero =>
  intro d h
  cases d with
  | tup _=>cases h
  | lst _=>cases h
  | scr _=>cases h
  | dct _ _ _ _=>cases h
  | _=>first | rfl | exact b6 rfl | exact u1G _
 | succ n ih =>
  have ihl:∀ {ds:List D},ds.all (okE n)=true->(List.zipWith (eqN n) ds ds).all id=true:=by
   intro ds
   induction ds with
   | nil=>intro _;rfl
   | cons d ds ih2 =>
    intro h
    rw[u2F,g9]at h
    rw[List.zipWith_cons_cons,u2F,ih2 h.2,u3o]
    exact ih h.1
  intro d h
  cases d with
  | tup ds=>show((List.zipWith (eqN n) ds ds).all id&&ds.length == ds.length)=true;rw[ihl h];simp
  | lst ds=>show((List.zipWith (eqN n) ds ds).all id&&ds.length == ds.length)=true;rw[ihl h];simp
  | scr _=>cases h
  | dct _ _ _ _=>cases h
  | _=>first | rfl | exact b6 rfl | exact u1G _
theorem zjh {F:Hp}(n:Nat){d e:D}{v:V}(h1:okE n d=true)(h2:okE n e=true)(a1:At F d v)(a2:At F e v):eqN n d e=true:=by
 rw[zjp n h1 h2 a1 a2]
 exact zhZ n h2
omit [KK] in
theorem wN {n:Nat}{ds:List D}{j:Nat}(h:ds.all (okE n)=true)(hj:j < ds.length):okE n (ds.getD j .non)=true:=by
 have:ds.getD j .non=ds[j]:=by simp[hj]
 rw[this]
 exact u0y.mp h _ (u1E hj)
theorem AtL.nth {F:Hp}{ds:List D}{xs:List V}{us:List Value}{j:Nat}(al:AtL F ds xs)(r:yl xs us)(h:j < us.length):∃ x,At F (ds.getD j .non) x/\yI x us[j]:=by
 have hl:=al.length
 have hl2:=r.length
 have hj:j < ds.length:=by omega
 obtain⟨x,hx,ax⟩:=al.get (i:=j) (d:=ds[j]) (by simp[hj])
 obtain⟨u,hu,ru⟩:=r.get hx
 refine⟨x,by rw[show ds.getD j .non=ds[j] by simp[hj]];exact ax,?_⟩
 have:us[j]?=some us[j]:=by simp[h]
 rw[hu]at this
 cases this
 exact ru
omit [KK] in
theorem zdn {n:Nat}{d e:D}(h1:okE 0 d=true)(h2:okE 0 e=true):eqN n d e=eqV (vOf d) (vOf e):=by
 cases n <;> cases d <;> first | (cases h1;done) | skip
 all_goals cases e <;> first | (cases h2;done) | rfl
omit [KK] in
theorem zc3 {n:Nat}{d:D}(ds:List D)(h:okE 0 d=true):eqN (n+1) d (.tup ds)=false/\eqN (n+1) d (.lst ds)=false/\eqN (n+1) (.tup ds) d=false/\eqN (n+1) (.lst ds) d=false:=by
 cases d <;> first | exact⟨rfl,rfl,rfl,rfl⟩ | cases h
omit [KK] in
theorem zak {A:Around}{s:Shared}{d:D}{u:Value}{p:Addr}{its:Array Value}(h:okE 0 d=true)(r:yI (vOf d) u)(hu:A.units < cLine) :
 (s.heap.IsTuple p its->SeqAt.EqAt A s u (.ref p) false/\SeqAt.EqAt A s (.ref p) u false)/\(s.heap.IsList p its->SeqAt.EqAt A s u (.ref p) false/\SeqAt.EqAt A s (.ref p) u false):=by
 cases d with
 | non=>cases r;exact⟨λht=>⟨.none_tuple ht hu,.tuple_none ht hu⟩,λht=>⟨.none_list ht hu,.list_none ht hu⟩⟩
 | bl b=>cases r;exact⟨λht=>⟨.bool_tuple b ht hu,.tuple_bool b ht hu⟩,λht=>⟨.bool_list b ht hu,.list_bool b ht hu⟩⟩
 | int b=>obtain⟨t,rfl⟩:=r;exact⟨λht=>⟨.int_tuple b t ht hu,.tuple_int b t ht hu⟩,λht=>⟨.int_list b t ht hu,.list_int b t ht hu⟩⟩
 | str b=>obtain⟨t,rfl⟩:=r;exact⟨λht=>⟨.str_tuple b t ht hu,.tuple_str b t ht hu⟩,λht=>⟨.str_list b t ht hu,.list_str b t ht hu⟩⟩
 | _=>cases h
theorem V7 {X:Cx}{pins:List (Addr × Obj)}{σ:St}{F H:Hp}{s:Shared}(I:Inv X pins σ H s)(sm:zZ F H){ds:List D}{x:V}{u:Value}(a:At F (.tup ds) x)(r:yI x u):∃ p its xs,u=.ref p/\x=.ref p/\yl xs its/\AtL F ds xs/\s.heap.IsTuple p its.toArray:=by
 obtain⟨p,xs,rfl,hx,al⟩:=a.tup_inv
 cases r
 obtain⟨its,rv,ht,hz⟩:=I.tuple (SqT.of (sm _ _ hx))
 exact⟨p,its,xs,rfl,rfl,rv,al,ht⟩
theorem zah {X:Cx}{pins:List (Addr × Obj)}{σ:St}{F H:Hp}{s:Shared}(I:Inv X pins σ H s)(sm:zZ F H){ds:List D}{x:V}{u:Value}(a:At F (.lst ds) x)(r:yI x u):∃ p its xs,u=.ref p/\x=.ref p/\yl xs its/\AtL F ds xs/\s.heap.IsList p its.toArray:=by
 obtain⟨p,xs,rfl,hx,al⟩:=a.lst_inv
 cases r
 obtain⟨its,rv,ht,hz⟩:=I.list (SqL.of (sm _ _ hx))
 exact⟨p,its,xs,rfl,rfl,rv,al,ht.isList⟩
omit [KK] in
theorem zgI {n:Nat}(ds es:List D):((List.zipWith (eqN n) ds es).all id&&ds.length == es.length)=((List.range (min ds.length es.length)).all (λj=>eqN n (ds.getD j .non) (es.getD j .non))&&ds.length == es.length):=by rw[VC]
theorem zc4 {X:Cx}{pins:List (Addr × Obj)}{σ:St}{F H:Hp}{s:Shared}(I:Inv X pins σ H s)(sm:zZ F H):∀ (n:Nat) {A:Around} {d e:D} {x y:V} {u v:Value},okE n d=true->okE n e=true->At F d x->At F e y->yI x u->yI y v->A.units+n < cLine->SeqAt.EqAt A s u v (eqN n d e):=by
 intro n
 induction n with
 | zero =>
  intro A d e x y u v h1 h2 a1 a2 r1 r2 hu
  cases wb h1 a1
  cases wb h2 a2
  rw[zdn h1 h2]
  exact ziW r1 r2 (XX h1) (XX h2)
 | succ n ih =>
  intro A d e x y u v h1 h2 a1 a2 r1 r2 hu
  have hu0:A.units < cLine:=p6 (u0J _ _) hu
  have hu1:A.units+1+n < cLine:=by rw[Nat.add_assoc,Nat.add_comm 1 n];exact hu
  rcases x5 h1 with f1 | ⟨ds,rfl,k1⟩ | ⟨ds,rfl,k1⟩
  .cases wb f1 a1
   rcases x5 h2 with f2 | ⟨es,rfl,k2⟩ | ⟨es,rfl,k2⟩
   .cases wb f2 a2
    rw[zdn f1 f2]
    exact ziW r1 r2 (XX f1) (XX f2)
   .obtain⟨q,its2,ys,rfl,_,_,_,ht2⟩:=V7 I sm a2 r2
    rw[(zc3 es f1).1]
    exact((zak f1 r1 hu0).1 ht2).1
   .obtain⟨q,its2,ys,rfl,_,_,_,ht2⟩:=zah I sm a2 r2
    rw[(zc3 es f1).2.1]
    exact((zak f1 r1 hu0).2 ht2).1
  .obtain⟨p,its,xs,rfl,hxp,rv,al,ht⟩:=V7 I sm a1 r1
   rcases x5 h2 with f2 | ⟨es,rfl,k2⟩ | ⟨es,rfl,k2⟩
   .cases wb f2 a2
    rw[(zc3 ds f2).2.2.1]
    exact((zak f2 r2 hu0).1 ht).2
   .obtain⟨q,its2,ys,rfl,hyq,rv2,bl,ht2⟩:=V7 I sm a2 r2
    by_cases hpq:p=q
    .subst hpq
     rw[hxp]at a1
     rw[hyq]at a2
     rw[zjh (n+1) h1 h2 a1 a2]
     exact .same _
    .have hl1:its.toArray.size=ds.length:=by rw[j3,<- rv.length,al.length]
     have hl2:its2.toArray.size=es.length:=by rw[j3,<- rv2.length,bl.length]
     have:=SeqAt.RcAt.tuples (A:=A) (e:=λj=>eqN n (ds.getD j .non) (es.getD j .non)) ht ht2 hu0 λj g1 g2=>by
      obtain⟨x',ax,rx⟩:=al.nth rv (j:=j) g1
      obtain⟨y',ay,ry⟩:=bl.nth rv2 (j:=j) g2
      exact ih (wN k1 (hl1 ▸ g1)) (wN k2 (hl2 ▸ g2)) ax ay rx ry hu1
     rw[hl1,hl2]at this
     rw[show eqN (n+1) (.tup ds) (.tup es)=_ from zgI ds es]
     exact u3c hpq this
   .obtain⟨q,its2,ys,rfl,_,_,_,ht2⟩:=zah I sm a2 r2
    exact .tuple_list ht ht2 hu0
  .obtain⟨p,its,xs,rfl,hxp,rv,al,ht⟩:=zah I sm a1 r1
   rcases x5 h2 with f2 | ⟨es,rfl,k2⟩ | ⟨es,rfl,k2⟩
   .cases wb f2 a2
    rw[(zc3 ds f2).2.2.2]
    exact((zak f2 r2 hu0).2 ht).2
   .obtain⟨q,its2,ys,rfl,_,_,_,ht2⟩:=V7 I sm a2 r2
    exact .list_tuple ht ht2 hu0
   .obtain⟨q,its2,ys,rfl,hyq,rv2,bl,ht2⟩:=zah I sm a2 r2
    by_cases hpq:p=q
    .subst hpq
     rw[hxp]at a1
     rw[hyq]at a2
     rw[zjh (n+1) h1 h2 a1 a2]
     exact .same _
    .have hl1:its.toArray.size=ds.length:=by rw[j3,<- rv.length,al.length]
     have hl2:its2.toArray.size=es.length:=by rw[j3,<- rv2.length,bl.length]
     rw[show eqN (n+1) (.lst ds) (.lst es)=_ from zgI ds es]
     by_cases hle:ds.length=es.length
     .have:=SeqAt.RcAt.lists (A:=A) (e:=λj=>eqN n (ds.getD j .non) (es.getD j .non)) ht ht2 (by rw[hl1,hl2,hle]) hu0 λj g1 g2=>by
       obtain⟨x',ax,rx⟩:=al.nth rv (j:=j) g1
       obtain⟨y',ay,ry⟩:=bl.nth rv2 (j:=j) g2
       exact ih (wN k1 (hl1 ▸ g1)) (wN k2 (hl2 ▸ g2)) ax ay rx ry hu1
      rw[hl1]at this
      rw[<-hle,u29,u1G,u3o]
      exact u3c hpq this
     .have:=SeqAt.RcAt.lists_lengths (A:=A) ht ht2 (by rw[hl1,hl2];exact bne_iff_ne.mpr hle) hu0
      rw[u0h.mpr hle,u1H]
      exact u3c hpq this
def zmO (d:D)(es:List D):Option Bool:=if okE 20 d=true/\es.all (okE 20)=true then some (es.any λe=>eqN 20 e d)else none
def inD (d e:D):Option D:=(yE e).bind λes=>(zmO d es).map .bl
open Classical in
noncomputable def zhd (F:Hp)(d:D)(u:Value):Bool:=decide (∃ d0 x,At F d0 x/\yI x u/\okE 20 d0=true/\eqN 20 d0 d=true)
open Classical in
theorem zf1 {F:Hp}{d d0:D}{x:V}{u:Value}(a:At F d0 x)(r:yI x u)(k:okE 20 d0=true):zhd F d u=eqN 20 d0 d:=by
 unfold zhd
 cases h:eqN 20 d0 d with
 | true=>exact b6 ⟨d0,x,a,r,k,h⟩
 | false =>
  refine h9 ?_
  rintro⟨d1,y,a1,r1,k1,h1⟩
  have e:=r1.inj r
  subst e
  rw[zjp 20 k1 k a1 a]at h1
  rw[h1]at h
  cases h
theorem V1 {F:Hp}{d:D}:∀ {ds:List D} {xs:List V} {us:List Value},AtL F ds xs->yl xs us->ds.all (okE 20)=true->us.any (zhd F d)=ds.any λe=>eqN 20 e d
 | [],_,_,al,r,_=>by cases al.nil_inv;cases r;rfl
 | e::ds,_,_,al,r,k=>by
  obtain⟨x,xs,rfl,a1,a2⟩:=al.cons_inv
  cases r with
  | cons r1 r2 =>
   rw[u2F,g9]at k
   rw[u2G,u2G,zf1 a1 r1 k.1,V1 a2 r2 k.2]
section
variable {X:Cx}
def rInD (neg:Bool):R2:=λx y H Q=>∃ F d e es b,zZ F H/\At F d x/\At F e y/\yE e=some es/\zmO d es=some b/\Q (.bl (if neg then !b else b)) H
theorem zmY {k:Nat}(hr:vw k X.A):OpR X (compareOp .In) (rInD false):=by
 intro pins s σ H x y v u Q I rx ry h
 obtain⟨F,d,e,es,b,sm,a1,a2,hs,hb,q⟩:=h
 unfold zmO at hb
 split at hb <;> cases hb
 rename_i hk
 have hu:X.A.in1.units+20 < cLine:=by have:=hr.un;show X.A.units+1+20 < cLine;omega
 have mem:∀ {xs:List V} {us:List Value},AtL F es xs->yl xs us->∀ z∈us,SeqAt.EqAt X.A.in1 s z v (zhd F d z):=λ{xs us} al r z hz=>by
  obtain⟨j,hj,rfl⟩:=u00 hz
  obtain⟨x',ax,rx'⟩:=al.nth r hj
  have hj':j < es.length:=by have:=al.length;have:=r.length;omega
  have k2:=wN hk.2 hj'
  rw[zf1 ax rx' k2]
  exact zc4 I sm 20 k2 hk.1 ax a1 rx' rx hu
 cases e <;> cases hs
 .obtain⟨p,xs,rfl,hx,al⟩:=a2.tup_inv
  cases ry
  obtain⟨its,r,pl,hz⟩:=I.tuple (SqT.of (sm _ _ hx))
  refine SeqAt.in_tupleAt (zhd F d) pl (λz hz=>mem al r z (by simpa using hz)) ⟨.bl _,H,I,rfl,?_⟩
  rw[show its.toArray.any (zhd F d)=its.any (zhd F d) by simp,V1 al r hk.2]
  exact q
 .obtain⟨p,xs,rfl,hx,al⟩:=a2.lst_inv
  cases ry
  obtain⟨its,r,pl,hz⟩:=I.list (SqL.of (sm _ _ hx))
  refine SeqAt.in_listAt (zhd F d) pl.isList (λz hz=>mem al r z (by simpa using hz)) ⟨.bl _,H,I,rfl,?_⟩
  rw[show its.toArray.any (zhd F d)=its.any (zhd F d) by simp,V1 al r hk.2]
  exact q
theorem zmp:OpD (rInD false) inD:=by
 intro F H x y d e z Q s ax ay ez q
 obtain⟨es,e1,e2⟩:=u4.mp ez
 obtain⟨b,e3,rfl⟩:=u9.mp e2
 exact⟨F,d,e,es,b,s,ax,ay,e1,e3,q F H _ (.refl s) .bl⟩
def eqG (d e:D):Option Bool:=match d,e with
 | .tup _,.tup _=>if okE 20 d=true/\okE 20 e=true then some (eqN 20 d e)else none
 | .lst _,.lst _=>if okE 20 d=true/\okE 20 e=true then some (eqN 20 d e)else none
 | _,_=>eqS d e
def WU (d e:D):Option D:=(eqG d e).map .bl
def zm0:R2:=λx y H Q=>∃ F d e,zZ F H/\At F d x/\At F e y/\((∃ ds es,d=.tup ds/\e=.tup es)\/(∃ ds es,d=.lst ds/\e=.lst es))/\okE 20 d=true/\okE 20 e=true/\Q (.bl (eqN 20 d e)) H
theorem zlA {k:Nat}(hr:vw k X.A):OpR X (compareOp .Eq) zm0:=by
 intro pins s σ H x y v u Q I rx ry h
 obtain⟨F,d,e,sm,a1,a2,hk,k1,k2,q⟩:=h
 have hu:X.A.units+30 < cLine:=by have:=hr.un;omega
 rcases hk with ⟨ds,es,rfl,rfl⟩ | ⟨ds,es,rfl,rfl⟩
 .obtain⟨p,xs,rfl,hx,al⟩:=a1.tup_inv
  obtain⟨p2,ys,rfl,hy,bl⟩:=a2.tup_inv
  cases rx
  cases ry
  obtain⟨its,r,ht,hz⟩:=I.tuple (SqT.of (sm _ _ hx))
  obtain⟨its2,r2,ht2,hz2⟩:=I.tuple (SqT.of (sm _ _ hy))
  have hl1:its.toArray.size=ds.length:=by rw[j3,<- r.length,al.length]
  have hl2:its2.toArray.size=es.length:=by rw[j3,<- r2.length,bl.length]
  refine SeqAt.eq_tupleAt (e:=λj=>eqN 19 (ds.getD j .non) (es.getD j .non)) (show s.heap.IsTuple p its.toArray from ht) (show s.heap.IsTuple p2 its2.toArray from ht2) (by omega) (λj g1 g2=>?_) ⟨.bl _,H,I,rfl,?_⟩
  .obtain⟨x',ax,rx⟩:=al.nth r (j:=j) (by simpa using g1)
   obtain⟨y',ay,ry⟩:=bl.nth r2 (j:=j) (by simpa using g2)
   exact zc4 I sm 19 (wN k1 (by rw[<-hl1];exact g1)) (wN k2 (by rw[<-hl2];exact g2)) ax ay (by simpa using rx) (by simpa using ry) (p6 (show X.A.units+20<=X.A.units+30 from u13 (by decide) _) hu)
  .rw[hl1,hl2,<- VC]
   exact q
 .obtain⟨p,xs,rfl,hx,al⟩:=a1.lst_inv
  obtain⟨p2,ys,rfl,hy,bl⟩:=a2.lst_inv
  cases rx
  cases ry
  obtain⟨its,r,ht,hz⟩:=I.list (SqL.of (sm _ _ hx))
  obtain⟨its2,r2,ht2,hz2⟩:=I.list (SqL.of (sm _ _ hy))
  have hl1:its.toArray.size=ds.length:=by rw[j3,<- r.length,al.length]
  have hl2:its2.toArray.size=es.length:=by rw[j3,<- r2.length,bl.length]
  have e1:eqN 20 (.lst ds) (.lst es)=((List.range (min ds.length es.length)).all (λj=>eqN 19 (ds.getD j .non) (es.getD j .non))&&ds.length == es.length):=by
   show((List.zipWith (eqN 19) ds es).all id&&ds.length == es.length)=_
   rw[VC]
  by_cases hle:ds.length=es.length
  .refine SeqAt.eq_listAt (e:=λj=>eqN 19 (ds.getD j .non) (es.getD j .non)) ht.isList ht2.isList (by rw[hl1,hl2];exact hle) (p6 (u0J _ 30) hu) (λj g1 g2=>?_) ⟨.bl _,H,I,rfl,?_⟩
   .obtain⟨x',ax,rx⟩:=al.nth r (j:=j) (by simpa using g1)
    obtain⟨y',ay,ry⟩:=bl.nth r2 (j:=j) (by simpa using g2)
    exact zc4 I sm 19 (wN k1 (by rw[<-hl1];exact g1)) (wN k2 (by rw[<-hl2];exact g2)) ax ay (by simpa using rx) (by simpa using ry) (p6 (show X.A.units+20<=X.A.units+30 from u13 (by decide) _) hu)
   .rw[hl1]
    rw[e1,<- hle,u29]at q
    simpa using q
  .refine SeqAt.eq_list_lengthsAt ht.isList ht2.isList (by rw[hl1,hl2];simpa using hle) (p6 (u0J _ 30) hu) ⟨.bl _,H,I,rfl,?_⟩
   have:(ds.length == es.length)=false:=by simpa using hle
   rw[e1,this,u1H]at q
   exact q
theorem zj3:OpD zm0 (λd e=>match d,e with
 | .tup _,.tup _=>if okE 20 d=true/\okE 20 e=true then some (.bl (eqN 20 d e))else none
 | .lst _,.lst _=>if okE 20 d=true/\okE 20 e=true then some (.bl (eqN 20 d e))else none
 | _,_=>none):=by
 intro F H x y d e z Q s ax ay ez q
 dsimp only at ez
 split at ez
 .split at ez <;> cases ez
  rename_i hk
  exact⟨F,_,_,s,ax,ay,.inl ⟨_,_,rfl,rfl⟩,hk.1,hk.2,q F H _ (.refl s) .bl⟩
 .split at ez <;> cases ez
  rename_i hk
  exact⟨F,_,_,s,ax,ay,.inr ⟨_,_,rfl,rfl⟩,hk.1,hk.2,q F H _ (.refl s) .bl⟩
 .cases ez
theorem vE {k:Nat}(hr:vw k X.A):OpR X (compareOp .Eq) (λx y H Q=>rEq x y H Q\/zm0 x y H Q):=zoj.or (zlA hr)
theorem xN:OpD (λx y H Q=>rEq x y H Q\/zm0 x y H Q) WU:=by
 refine zcr (zbE zjr zj3) λd e z h=>?_
 obtain⟨b,hb,rfl⟩:=u9.mp h
 unfold eqG at hb
 split at hb
 .split at hb <;> cases hb
  rename_i hk
  show(Option.or none (if okE 20 _=true/\okE 20 _=true then some (D.bl (eqN 20 _ _))else none))=_
  rw[t9 hk]
  rfl
 .split at hb <;> cases hb
  rename_i hk
  show(Option.or none (if okE 20 _=true/\okE 20 _=true then some (D.bl (eqN 20 _ _))else none))=_
  rw[t9 hk]
  rfl
 .show((eqD d e).or _)=_
  unfold eqD
  rw[hb]
  rfl
theorem XU {pins:List (Addr × Obj)}{σ:St}{H:Hp}{s:Shared}{a:Addr}{xs:List V}{A:Around}{Q:Value->Shared->Prop}{E:Value->Shared->Prop}(I:Inv X pins σ H s)(hh:A.handled=none)(h:SqL X.K H a xs\/SqT X.K H a xs)
 (k:∀ (it:Addr) (its:List Value) (fp wr:List Addr) (St:Nat->Heap->Prop) (s₂:Shared),yl xs its->Walks X.prog X.w A it fp wr its.length (λi v=>its[i]?=some v) St->St 0 s₂.heap->(∀ b∈fp,b < s₂.heap.objs.size) ->
  (∀ (h':Heap) (tk:Nat),(∀ b o,b∉wr->s₂.heap.get? b=some o->h'.get? b=some o)->Inv X pins σ H { s₂ with heap:=h',toks:=tk })->Q (.ref it) s₂) :
 wpAny (model X.prog X.w) A (pyIter (.ref a)) Q E s:=by
 have back:∀ {o:Obj} {s₂:Shared},s₂={ s with heap:=s.heap.push o }->∀ (h':Heap) (tk:Nat),(∀ b u,b∉[s.heap.objs.size]->s₂.heap.get? b=some u->h'.get? b=some u)->Inv X pins σ H { s₂ with heap:=h',toks:=tk }:=λ{o s₂} e h' tk kk=>by
  subst e
  exact I.kept (t':=tk) λb u z=>kk b u (by simpa using d9 (j5 z)) (u5 _ z)
 rcases h with h | h
 .obtain⟨its,rv,p,hz⟩:=I.list h
  have lt:a < s.heap.objs.size:=by obtain⟨o,n,ho,_⟩:=p;exact j5 ho
  refine u1x p.isList ?_
  have W:=Walks.list (prog:=X.prog) (w:=X.w) (A:=A) hh s.heap.objs.size a (d9 lt) its.toArray
  refine k s.heap.objs.size its [s.heap.objs.size,a] [s.heap.objs.size] (λi h=>h.IsListIter s.heap.objs.size a i/\h.IsList a its.toArray) _ rv (by simpa using W) ⟨⟨_,r9 _ rfl,rfl,rfl⟩,p.isList.at λo e=>u5 _ e⟩ (λb hb=>?_) (back rfl)
  show b < (s.heap.push _).objs.size
  rw[u0H]
  rcases j7.mp hb with rfl | hb
  .exact u3B _
  .rw[j9.mp hb];exact u1c lt
 .obtain⟨its,rv,p,hz⟩:=I.tuple h
  have p':s.heap.IsTuple a its.toArray:=p
  have lt:a < s.heap.objs.size:=by obtain⟨o,ho,_⟩:=p;exact j5 ho
  refine u0M p' ?_
  have W:=Walks.tuple (prog:=X.prog) (w:=X.w) (A:=A) hh s.heap.objs.size a (d9 lt) its.toArray
  refine k s.heap.objs.size its [s.heap.objs.size,a] [s.heap.objs.size] (λi h=>h.IsTupleIter s.heap.objs.size a i/\h.IsTuple a its.toArray) _ rv (by simpa using W) ⟨⟨_,r9 _ rfl,rfl,rfl⟩,p'.at λo e=>u5 _ e⟩ (λb hb=>?_) (back rfl)
  show b < (s.heap.push _).objs.size
  rw[u0H]
  rcases j7.mp hb with rfl | hb
  .exact u3B _
  .rw[j9.mp hb];exact u1c lt
end
end Dl
namespace Dl
open PySem L2
variable [KK]
omit [KK] in
theorem zgr {bs:List Bool}:(List.range bs.length).all (λi=>bs.getD i false)=bs.all id:=by
 have:bs=(List.range bs.length).map λi=>bs.getD i false:=by
  apply u3z
  .simp
  .intro i h1 h2
   simp[h1]
 conv=>rhs;rw[this]
 rw[u1A]
 rfl
omit [KK] in
theorem zfm {bs:List Bool}:(List.range bs.length).any (λi=>bs.getD i false)=bs.any id:=by
 have:bs=(List.range bs.length).map λi=>bs.getD i false:=by
  apply u3z
  .simp
  .intro i h1 h2
   simp[h1]
 conv=>rhs;rw[this]
 rw[List.any_map]
 rfl
omit [KK] in
theorem zg1:∀ (ns:List Int) (n:Nat),n<=ns.length->preSum (λi=>ns.getD i 0) n=(ns.take n).sum:=by
 intro ns n
 induction n with
 | zero=>intro _;simp[preSum]
 | succ n ih =>
  intro h
  show preSum (λi=>ns.getD i 0) n+ns.getD n 0=_
  rw[ih (by omega),List.take_succ,List.sum_append]
  have:ns[n]?=some ns[n]:=by simp[show n < ns.length by omega]
  simp[this]
section
variable {X:Cx}
omit [KK] in
theorem zfC {bs:List Bool}{its:List Value}{i:Nat}{v:Value}(r:yl (bs.map V.bl) its)(h:its[i]?=some v):v=.bool (bs.getD i false):=by
 have hl:=r.length
 have hi:i < its.length:=(t7.mp h).1
 rw[u7]at hl
 obtain⟨u,hu,ru⟩:=r.get (i:=i) (x:=.bl (bs[i]'(by omega))) (by rw[r6];simp[show i < bs.length by omega])
 rw[h]at hu
 cases hu
 cases ru
 simp[show i < bs.length by omega]
omit [KK] in
theorem X0 {ns:List Int}{its:List Value}{i:Nat}{v:Value}(r:yl (ns.map V.int) its)(h:its[i]?=some v):∃ t,v=.int (ns.getD i 0) t:=by
 have hl:=r.length
 have hi:i < its.length:=(t7.mp h).1
 rw[u7]at hl
 obtain⟨u,hu,ru⟩:=r.get (i:=i) (x:=.int (ns[i]'(by omega))) (by rw[r6];simp[show i < ns.length by omega])
 rw[h]at hu
 cases hu
 obtain⟨t,rfl⟩:=ru
 exact⟨t,by simp[show i < ns.length by omega]⟩
theorem zgJ (hc:X.calm=true):vR X (.builtin "all") (λxs H Q=>∃ (p:Addr) (bs:List Bool),xs=[.ref p]/\(SqL X.K H p (bs.map V.bl)\/SqT X.K H p (bs.map V.bl))/\Q (.bl (bs.all id)) H):=by
 intro pins s σ H xs us Q I r h
 obtain⟨p,bs,rfl,hq,q⟩:=h
 obtain⟨u,rfl,ru⟩:=WM r
 cases ru
 refine call_all_walk (XU I (I.ok.hd hc) hq λit its fp wr St s₂ rv W st fpl back=>?_)
 have hl:=rv.length
 rw[u7]at hl
 refine⟨it,fp,wr,_,_,St,λi=>bs.getD i false,rfl,W,st,λi v s Q E hv hQ=>?_,λh' tk kk=>⟨.bl _,H,back h' tk kk,rfl,?_⟩⟩
 .rw[zfC rv hv]
  exact u0R hQ
 .rw[<-hl,zgr]
  exact q
theorem zfN (hc:X.calm=true):vR X (.builtin "any") (λxs H Q=>∃ (p:Addr) (bs:List Bool),xs=[.ref p]/\(SqL X.K H p (bs.map V.bl)\/SqT X.K H p (bs.map V.bl))/\Q (.bl (bs.any id)) H):=by
 intro pins s σ H xs us Q I r h
 obtain⟨p,bs,rfl,hq,q⟩:=h
 obtain⟨u,rfl,ru⟩:=WM r
 cases ru
 refine call_any_walk (XU I (I.ok.hd hc) hq λit its fp wr St s₂ rv W st fpl back=>?_)
 have hl:=rv.length
 rw[u7]at hl
 refine⟨it,fp,wr,_,_,St,λi=>bs.getD i false,rfl,W,st,λi v s Q E hv hQ=>?_,λh' tk kk=>⟨.bl _,H,back h' tk kk,rfl,?_⟩⟩
 .rw[zfC rv hv]
  exact u0R hQ
 .rw[<-hl,zfm]
  exact q
theorem vH (hc:X.calm=true):vR X (.builtin "sum") (λxs H Q=>∃ (p:Addr) (ns:List Int),xs=[.ref p]/\(SqL X.K H p (ns.map V.int)\/SqT X.K H p (ns.map V.int))/\Q (.int ns.sum) H):=by
 intro pins s σ H xs us Q I r h
 obtain⟨p,ns,rfl,hq,q⟩:=h
 obtain⟨u,rfl,ru⟩:=WM r
 cases ru
 refine call_sum_walkG (XU I (I.ok.hd hc) hq λit its fp wr St s₂ rv W st fpl back=>?_)
 have hl:=rv.length
 rw[u7]at hl
 refine⟨it,fp,wr,_,_,St,λi=>ns.getD i 0,rfl,W,st,fpl,λi v hv=>X0 rv hv,λh' tk t' kk=>⟨.int ns.sum,H,back h' tk kk,?_,q⟩⟩
 refine⟨t',?_⟩
 rw[<-hl,zg1 ns _ (q5 _),u1i]
def zd9 (ns:List Int):Int:=(ns.max?).getD 0
omit [KK] in
theorem zjV (f:Nat→Int):∀ k i,i≤k→f i≤f (argBest (fun i j=>decide (f j < f i)) k)∧argBest (fun i j=>decide (f j < f i)) k≤k:=by
  intro k
  induction k with
  | zero => intro i hi; have : i = 0 := by omega
            subst this;exact ⟨u1o _,q5 _⟩
  | succ k ih =>
    intro i hi
    unfold argBest
    obtain ⟨h1,h2⟩:=ih (min i k) (u10 _ _)
    split
    · rename_i hc
      have hc:f (argBest (fun i j=>decide (f j < f i)) k) < f (k+1):=p0 hc
      refine ⟨?_,q5 _⟩
      by_cases hik:i≤k
      · rw [u0U hik] at h1;omega
      · have:i=k+1:=by omega
        subst this;exact u1o _
    · rename_i hc
      have hc:¬ f (argBest (fun i j=>decide (f j < f i)) k) < f (k+1):=fun z=>hc (b6 z)
      refine ⟨?_,by omega⟩
      by_cases hik:i≤k
      · rw [u0U hik] at h1;exact h1
      · have:i=k+1:=by omega
        subst this;omega
omit [KK] in
theorem zjk {ns:List Int}{m:Int}(h1:m∈ns)(h2:∀ x∈ns,x<=m):zd9 ns=m:=by
 unfold zd9
 rw[List.max?_eq_some_iff.mpr ⟨h1,h2⟩]
 rfl
omit [KK] in
theorem getD_mem {ns:List Int}{k:Nat}(h:k < ns.length):ns.getD k 0∈ns:=by
 rw[u0l,j6 h]
 exact u1E h
omit [KK] in
theorem getD_at {ns:List Int}{k:Nat}(h:k < ns.length):ns.getD k 0=ns[k]:=by
 rw[u0l,j6 h]
 rfl
theorem zfM (hc:X.calm=true):vR X (.builtin "max") (λxs H Q=>∃ (p:Addr) (ns:List Int),xs=[.ref p]/\(SqL X.K H p (ns.map V.int)\/SqT X.K H p (ns.map V.int))/\ns≠[]/\Q (.int (zd9 ns)) H):=by
 intro pins s σ H xs us Q I r h
 obtain⟨p,ns,rfl,hq,hne,q⟩:=h
 obtain⟨u,rfl,ru⟩:=WM r
 cases ru
 refine call_max_walk (XU I (I.ok.hd hc) hq λit its fp wr St s₂ rv W st fpl back=>?_)
 have hl:=rv.length
 rw[u7]at hl
 have hpos:0 < ns.length:=List.length_pos_iff.mpr hne
 refine⟨it,fp,wr,_,_,St,λi j=>decide (ns.getD j 0 < ns.getD i 0),rfl,W,st,fpl,by omega,λi j vi vj s Q E hi hj hQ=>?_,λv h' tk hv kk=>?_⟩
 .obtain⟨t1,rfl⟩:=X0 rv hi
  obtain⟨t2,rfl⟩:=X0 rv hj
  exact PyProof.Rows.gt_int hQ
 .obtain⟨t,rfl⟩:=X0 rv hv
  refine⟨.int (zd9 ns),H,back h' tk kk,⟨t,?_⟩,q⟩
  have key:=zjV (λi=>ns.getD i 0) (its.length - 1)
  have hb:argBest (λi j=>decide (ns.getD j 0 < ns.getD i 0)) (its.length - 1) < ns.length:=by
   have:=(key 0 (u0P _)).2
   omega
  rw[zjk (m:=ns.getD (argBest (λi j=>decide (ns.getD j 0 < ns.getD i 0)) (its.length - 1)) 0)]
  .exact getD_mem hb
  .intro x hx
   obtain⟨j,hj,rfl⟩:=u00 hx
   have:=(key j (by omega)).1
   rw[<-getD_at hj]
   exact this
def zhc:List D->Option (List Bool)
 | []=>some []
 | .bl b::ds=>(zhc ds).map (b::·)
 | _=>none
def zcv:List D->Option (List Int)
 | []=>some []
 | .int b::ds=>(zcv ds).map (b::·)
 | _=>none
omit [KK] in
theorem zcG:∀ {ds:List D} {bs:List Bool},zhc ds=some bs->ds=bs.map .bl
 | [],bs,h=>by cases h;rfl
 | d::ds,bs,h=>by
  cases d <;> try cases h
  obtain⟨cs,h1,rfl⟩:=u9.mp h
  rw[zcG h1]
  rfl
omit [KK] in
theorem Wl:∀ {ds:List D} {bs:List Int},zcv ds=some bs->ds=bs.map .int
 | [],bs,h=>by cases h;rfl
 | d::ds,bs,h=>by
  cases d <;> try cases h
  obtain⟨cs,h1,rfl⟩:=u9.mp h
  rw[Wl h1]
  rfl
omit [KK] in
theorem zcT (bs:List Bool):zhc (bs.map .bl)=some bs:=by
 induction bs with
 | nil=>rfl
 | cons b r ih=>show(zhc (r.map .bl)).map (b::·)=_;rw[ih];rfl
omit [KK] in
theorem Zt (bs:List Int):zcv (bs.map .int)=some bs:=by
 induction bs with
 | nil=>rfl
 | cons b r ih=>show(zcv (r.map .int)).map (b::·)=_;rw[ih];rfl
theorem AtL.of_bls {H:Hp}:∀ {ns:List Bool} {xs:List V},AtL H (ns.map D.bl) xs->xs=ns.map V.bl
 | [],_,h=>h.nil_inv
 | n::r,_,h=>by
  obtain⟨x,r',rfl,h1,h2⟩:=AtL.cons_inv (by simpa using h)
  rw[h1.bl_inv,AtL.of_bls h2]
  rfl
def zkT {α:Type}(as:List D->Option α)(g:α->Option D):List D->Option D
 | [d]=>((yE d).bind as).bind g
 | _=>none
theorem zaC {K:W.Frag}{F H:Hp}{vs:List V}{ds:List D}{z:D}{α:Type}{as:List D->Option α}{g:α->Option D}(s:zZ F H)(al:AtL F ds vs)(e:zkT as g ds=some z) :
 ∃ p es xs b,vs=[.ref p]/\(SqL K H p xs\/SqT K H p xs)/\AtL F es xs/\as es=some b/\g b=some z:=by
 unfold zkT at e
 split at e
 .obtain⟨b,e1,e2⟩:=u4.mp e
  obtain⟨es,e3,e4⟩:=u4.mp e1
  obtain⟨x,r,rfl,ax,ar⟩:=al.cons_inv
  cases ar.nil_inv
  rename_i d
  cases d <;> cases e3
  .obtain⟨p,xs,rfl,hx,bl⟩:=ax.tup_inv
   exact⟨p,_,xs,b,rfl,.inr (SqT.of (s _ _ hx)),bl,e4,e2⟩
  .obtain⟨p,xs,rfl,hx,bl⟩:=ax.lst_inv
   exact⟨p,_,xs,b,rfl,.inl (SqL.of (s _ _ hx)),bl,e4,e2⟩
 .cases e
def zmi:=zkT zhc λbs=>some (.bl (bs.all id))
def zl9:=zkT zhc λbs=>some (.bl (bs.any id))
def zeu:=zkT zcv λns=>some (.int ns.sum)
def zjx:=zkT zcv λns=>if ns=[]then none else some (.int (zd9 ns))
theorem zju {K:W.Frag}:CaD (λxs H Q=>∃ (p:Addr) (bs:List Bool),xs=[.ref p]/\(SqL K H p (bs.map V.bl)\/SqT K H p (bs.map V.bl))/\Q (.bl (bs.all id)) H) zmi:=by
 intro F H vs ds z Q s al e q
 obtain⟨p,es,xs,bs,rfl,hq,bl,e1,e2⟩:=zaC (K:=K) s al e
 cases e2
 rw[zcG e1]at bl
 rw[bl.of_bls]at hq
 exact⟨p,bs,rfl,hq,q F H _ (.refl s) .bl⟩
theorem zj5 {K:W.Frag}:CaD (λxs H Q=>∃ (p:Addr) (bs:List Bool),xs=[.ref p]/\(SqL K H p (bs.map V.bl)\/SqT K H p (bs.map V.bl))/\Q (.bl (bs.any id)) H) zl9:=by
 intro F H vs ds z Q s al e q
 obtain⟨p,es,xs,bs,rfl,hq,bl,e1,e2⟩:=zaC (K:=K) s al e
 cases e2
 rw[zcG e1]at bl
 rw[bl.of_bls]at hq
 exact⟨p,bs,rfl,hq,q F H _ (.refl s) .bl⟩
theorem Xh {K:W.Frag}:CaD (λxs H Q=>∃ (p:Addr) (ns:List Int),xs=[.ref p]/\(SqL K H p (ns.map V.int)\/SqT K H p (ns.map V.int))/\Q (.int ns.sum) H) zeu:=by
 intro F H vs ds z Q s al e q
 obtain⟨p,es,xs,bs,rfl,hq,bl,e1,e2⟩:=zaC (K:=K) s al e
 cases e2
 rw[Wl e1]at bl
 rw[bl.of_ints]at hq
 exact⟨p,bs,rfl,hq,q F H _ (.refl s) .int⟩
theorem zif {K:W.Frag}:CaD (λxs H Q=>∃ (p:Addr) (ns:List Int),xs=[.ref p]/\(SqL K H p (ns.map V.int)\/SqT K H p (ns.map V.int))/\ns≠[]/\Q (.int (zd9 ns)) H) zjx:=by
 intro F H vs ds z Q s al e q
 obtain⟨p,es,xs,bs,rfl,hq,bl,e1,e2⟩:=zaC (K:=K) s al e
 split at e2 <;> cases e2
 rename_i hne
 rw[Wl e1]at bl
 rw[bl.of_ints]at hq
 exact⟨p,bs,rfl,hq,hne,q F H _ (.refl s) .int⟩
end
end Dl
namespace Dl
open PySem L2
variable [KK]
section
variable {X:Cx}{tg a b c e:Expr}{pos:Pos}
def zdo:List D->List D->List D
 | x::xs,y::ys=>.tup [x,y]::zdo xs ys
 | _,_=>[]
omit [KK] in
theorem zcW:∀ (xs ys:List D) (i:Nat),(zdo xs ys)[i]?=match xs[i]?,ys[i]? with | some x,some y=>some (.tup [x,y]) | _,_=>none
 | [],ys,i=>by simp[zdo]
 | x::xs,[],i=>by simp[zdo]
 | x::xs,y::ys,0=>by simp[zdo]
 | x::xs,y::ys,i+1=>by simpa [zdo]using zcW xs ys i
omit [KK] in
theorem We:∀ (xs ys:List D),xs.length<=ys.length->(zdo xs ys).length=xs.length
 | [],ys,_=>by simp[zdo]
 | x::xs,[],h=>by simp at h
 | x::xs,y::ys,h=>by simp[zdo,We xs ys (by simpa using h)]
def wS (f:Ev->Option (List D)):Ev->Option (List D):=fun ρ=>(f ρ).bind λas=>match as with
 | [d,e]=>(yE d).bind λxs=>(yE e).bind λys=>if xs.length<=ys.length then some (zdo xs ys)else none
 | _=>none
theorem zl8 {K:W.Frag}{F H:Hp}{d:D}{v:V}{ds:List D}(s:zZ F H)(h:At F d v)(e:yE d=some ds):∃ b p xs,v=.ref p/\(∀ {F' H':Hp},zZ F F'->zZ F' H'->Sq b K H' p xs)/\AtL F ds xs:=by
 cases d <;> cases e
 .obtain⟨p,xs,rfl,hx,al⟩:=h.tup_inv
  exact⟨false,p,xs,rfl,λs1 s2=>SqT.of (s2 _ _ (s1 _ _ hx)),al⟩
 .obtain⟨p,xs,rfl,hx,al⟩:=h.lst_inv
  exact⟨true,p,xs,rfl,λs1 s2=>SqL.of (s2 _ _ (s1 _ _ hx)),al⟩
theorem zmH {es:List Expr} {k:Nat} {tp p:Pos} {f:Ev->Option (List D)} (hg:Gl X "zip") (hm:X.mg "zip"=none) (ha:AD X [a,b] f)
 (hs:starEach [a,b] X.env=[(false,eval a X.env),(false,eval b X.env)]:=by rfl) (hs2:starEach [b] X.env=[(false,eval b X.env)]:=by rfl):ID X (.Tuple es k tp) (.Call (.Name "zip" p) [a,b] [] pos) (wS f):=by
 obtain⟨t,pa,r⟩:=ha
 refine⟨_,zmf hg hm zmI pa hs hs2,fun σ ρ F H ds R s va e q=>?_⟩
 obtain⟨as,e1,e2⟩:=u4.mp e
 refine r σ ρ F H as _ s va e1 λF1 H1 v g1 a1=>?_
 split at e2
 .obtain⟨x,r',rfl,ax,ar⟩:=a1.cons_inv
  obtain⟨y,r',rfl,ay,ar⟩:=ar.cons_inv
  cases ar.nil_inv
  obtain⟨xs,e3,e2'⟩:=u4.mp e2
  obtain⟨ys,e4,e2''⟩:=u4.mp e2'
  clear e2 e2' e
  split at e2'' <;> cases e2''
  rename_i hle
  obtain⟨b1,p1,us,rfl,sq1,al⟩:=zl8 (K:=X.K) g1.fh ax e3
  obtain⟨b2,p2,ws,rfl,sq2,bl⟩:=zl8 (K:=X.K) g1.fh ay e4
  refine⟨b1,b2,p1,p2,us,ws,rfl,sq1 (zZ.refl _) g1.fh,sq2 (zZ.refl _) g1.fh,q F1 H1 _ g1 λi F2 H2 s1 s2=>?_⟩
  have q1:=sq1 s1 s2
  have q2:=sq2 s1 s2
  refine⟨λhl=>⟨us,q1,by rw[hl,We _ _ hle,al.length]⟩,λd hd=>?_⟩
  rw[zcW]at hd
  cases h1:xs[i]? with
  | none=>rw[h1]at hd;cases hd
  | some x =>
   cases h2:ys[i]? with
   | none=>rw[h1,h2]at hd;cases hd
   | some y =>
    rw[h1,h2]at hd
    cases hd
    obtain⟨u,hu,au⟩:=al.get h1
    obtain⟨u2,hu2,au2⟩:=bl.get h2
    refine⟨⟨us,ws,u,u2,q1,q2,hu,hu2⟩,λz H3 hz=>?_⟩
    obtain⟨T,x',y',rfl,hT,rfl,hx',hy'⟩:=hz
    have e5:=hx' us q1
    have e6:=hy' ws q2
    rw[hu]at e5
    rw[hu2]at e6
    cases e5
    cases e6
    have g3:=Gr.alloc s2 hT (.tup [u,u2])
    exact⟨_,g3,.tup zm (.cons (au.mono (s1.trans g3.ff)) (.cons (au2.mono (s1.trans g3.ff)) .nil))⟩
 .cases e2
def yZ (g:List D->Option (List D))(f:Ev->Option (List D))(b:D->SE->Option SE)(h:SE->Ctl):SE->Ctl:=fun ρ=>match (f (visG ρ)).bind g with
 | some ds=>ze2 b h ds ρ
 | none=>.no
theorem ZT {p pos':Pos} {body:List Stmt} {f:Ev->Option (List D)} {b':D->SE->Option SE} {g:SE->Ctl} (hp:PassesOwn (model X.prog X.w) X.A X.env X.xe) (hc:X.calm=true) (hgl:Gl X "range") (hm:X.mg "range"=none) (ha:AD X [a] f) (hg:BD X tg b') (hb:SDs X body g)
 (hs0:starEach [a] X.env=[(false,eval a X.env)]:=by rfl) (hs:∀ x,foldedSetIterable (.Call (.Name "range" p) [a] [] pos) X.env x=pure x:=by intro _;rfl):SD X (.For tg (.Call (.Name "range" p) [a] [] pos) body [] pos') (yZ wL f b' g):=by
 obtain⟨t,pa,r⟩:=ha
 obtain⟨tg',pg,rg⟩:=hg
 obtain⟨tb,pb,rb⟩:=hb
 refine⟨_,zgH hp hc (zaQ hgl hm pa hs0) pg pb hs,λFb Hb F H ρ σ E rl k=>?_⟩
 unfold yZ at k
 cases h:(f (visG ρ)).bind wL with
 | none=>rw[h]at k;exact k.elim
 | some ds =>
  rw[h]at k
  obtain⟨as,e1,e2⟩:=u4.mp h
  refine r σ _ _ H as _ rl.gh rl.visG e1 λF1 H1 vs g1 a1=>?_
  have rl2:=rl.grow (rl.back g1).1
  unfold wL at e2
  split at e2
  .split at e2 <;> cases e2
   rename_i hc
   obtain⟨x,r',rfl,ax,ar⟩:=a1.cons_inv
   cases ar.nil_inv
   exact⟨_,by rw[ax.int_inv],(yh.mp hc).1,(yh.mp hc).2,zfj (zeC 0 _) rg rb rl2 k⟩
  .cases e2
theorem zcS {p pos':Pos} {body:List Stmt} {f:Ev->Option (List D)} {b':D->SE->Option SE} {g:SE->Ctl} (hp:PassesOwn (model X.prog X.w) X.A X.env X.xe) (hc:X.calm=true) (hgl:Gl X "range") (hm:X.mg "range"=none) (ha:AD X [a,b] f) (hg:BD X tg b') (hb:SDs X body g)
 (hs0:starEach [a,b] X.env=[(false,eval a X.env),(false,eval b X.env)]:=by rfl) (hs2:starEach [b] X.env=[(false,eval b X.env)]:=by rfl) (hs:∀ x,foldedSetIterable (.Call (.Name "range" p) [a,b] [] pos) X.env x=pure x:=by intro _;rfl):SD X (.For tg (.Call (.Name "range" p) [a,b] [] pos) body [] pos') (yZ ZH f b' g):=by
 obtain⟨t,pa,r⟩:=ha
 obtain⟨tg',pg,rg⟩:=hg
 obtain⟨tb,pb,rb⟩:=hb
 refine⟨_,zgH hp hc (zg0 hgl hm pa hs0 hs2) pg pb hs,λFb Hb F H ρ σ E rl k=>?_⟩
 unfold yZ at k
 cases h:(f (visG ρ)).bind ZH with
 | none=>rw[h]at k;exact k.elim
 | some ds =>
  rw[h]at k
  obtain⟨as,e1,e2⟩:=u4.mp h
  refine r σ _ _ H as _ rl.gh rl.visG e1 λF1 H1 vs g1 a1=>?_
  have rl2:=rl.grow (rl.back g1).1
  unfold ZH at e2
  split at e2
  .split at e2 <;> cases e2
   rename_i hc
   obtain⟨x,r',rfl,ax,ar⟩:=a1.cons_inv
   obtain⟨y,r',rfl,ay,ar⟩:=ar.cons_inv
   cases ar.nil_inv
   exact⟨_,_,by rw[ax.int_inv,ay.int_inv],⟨(yh.mp hc.1).1,(yh.mp hc.1).2,(yh.mp hc.2).1,(yh.mp hc.2).2⟩,zfj (zeC _ _) rg rb rl2 k⟩
  .cases e2
end
theorem zjD {P:Program}{w:World}{K:W.Frag}{mg:Str->Option Value}{base:Heap}{f:Addr}{fd:FuncData}{ps:List Str}{k m:Nat}:y6 P w K mg base CX0 k f fd ps (spD m λ_=>none):=by
 refine⟨λvs H Q E h=>?_,λA outer s H args us vs Q E _ _ _ _ h=>?_⟩
 .obtain⟨_,_,_,_,_,_,e,_⟩:=h
  cases e
 .obtain⟨_,_,_,_,_,_,e,_⟩:=h
  cases e
def zhb (n:Nat)(g:(List D->Option D)->SE->Ctl):Nat->List D->Option D
 | 0=>λ_=>none
 | k+1=>fnD n (g (zhb n g k))
theorem zjd {P:Program}{w:World}{K:W.Frag}{mg:Str->Option Value}{base:Heap}{x qual:Str}{st:Stmt}{f:Addr}{fd:FuncData}{N ps:List Str}{k0:Nat}{g:(List D->Option D)->SE->Ctl}(Fu:Fun K x qual st f fd)(S:zx N ps (zi st))
 (hb:∀ (k:Nat) (r:List D->Option D),y6 P w K mg base CX0 (k0+k) f fd ps (spD ps.length r)->∀ (cdv:Value) (A:Around) (outer:List Env) (s:Shared) (H:Hp) (E:XK),vw (k0+k) (A.deeper (PyProof.Rows.envOfC qual (zi st) s.heap.objs.size f cdv))->SDs (Zq CX0 P w K mg base N qual (zi st) f cdv A outer s H E).nox (xU st) (g r)) :
 ∀ n,y6 P w K mg base CX0 (k0+n) f fd ps (spD ps.length (zhb N.length g n)):=by
 intro n
 induction n with
 | zero=>exact zjD
 | succ n ih=>exact xl Fu S λcdv A outer s H E hr=>hb n _ ih cdv A outer s H E hr
def zeG (K:W.Frag):Sp:=λvs H Q _=>∃ (a:Addr) (ns:List Int),vs=[.ref a]/\SqL K H a (ns.map V.int)/\ns.length<=63/\∀ H',Q (.bl true) H'
end Dl
namespace Dl
open PySem L2
theorem zl5 {P:Program}{w:World}{K:W.Frag}{mg:Str->Option Value}{base:Heap}{f:Addr}{fd:FuncData}{ps:List Str}{k:Nat}{p:List D->Option D}(F:y6 P w K mg base CX0 k f fd ps (@spD ⟨K⟩ 1 p))(h:∀ ns:List Int,ns.length<=63->p [.scr ns]=some (.bl true)) :
 y6 P w K mg base CX0 k f fd ps (zeG K):=by
 letI:KK:=⟨K⟩
 refine F.imp λvs H Q E hs=>?_
 obtain⟨a,ns,rfl,hq,hl,q⟩:=hs
 refine⟨[.scr ns],.bl true,H,rfl,zZ.refl _,.cons ?_ .nil,h ns hl,λF' H' v _ av=>?_⟩
 .unfold At
  exact⟨a,rfl,hq⟩
 .rw[av.bl_inv]
  exact q H'
structure Def (K:W.Frag) (mg:Str->Option Value) (x:Str) (st:Stmt) (ps:List Str) (f:Addr) (fd:FuncData):Prop where
 fn:Fun K x x st f fd
 bd:XM K fd ps []
 at_:mg x=some (.ref f)
theorem Def.kp {K:W.Frag}{mg:Str->Option Value}{x:Str}{st:Stmt}{ps:List Str}{f:Addr}{fd:FuncData}(d:Def K mg x st ps f fd):W.keepIn K (.ref f)=true:=d.fn.kp
inductive Ctl.w:Ctl->(SE->Prop)->(SE->Prop)->(SE->Prop)->(D->Prop)->Prop where
 | nx {ρ:SE} {n b k:SE->Prop} {r:D->Prop}:n ρ->Ctl.w (.nx ρ) n b k r
 | bk {ρ:SE} {n b k:SE->Prop} {r:D->Prop}:b ρ->Ctl.w (.bk ρ) n b k r
 | ct {ρ:SE} {n b k:SE->Prop} {r:D->Prop}:k ρ->Ctl.w (.ct ρ) n b k r
 | rt {d:D} {n b k:SE->Prop} {r:D->Prop}:r d->Ctl.w (.rt d) n b k r
section
variable {ρ:SE}{d:D}{n b k:SE->Prop}{r:D->Prop}
theorem Ctl.w.nxi (h:Ctl.w (.nx ρ) n b k r):n ρ:=by cases h;assumption
theorem Ctl.w.bki (h:Ctl.w (.bk ρ) n b k r):b ρ:=by cases h;assumption
theorem Ctl.w.cti (h:Ctl.w (.ct ρ) n b k r):k ρ:=by cases h;assumption
theorem Ctl.w.rti (h:Ctl.w (.rt d) n b k r):r d:=by cases h;assumption
theorem Ctl.w.noi (h:Ctl.w .no n b k r):False:=by cases h
end
abbrev noP:SE->Prop:=λ_=>False
section
variable {g h:SE->Ctl}{ρ ρ':SE}{n b k:SE->Prop}{r:D->Prop}
theorem xK (e:(g ρ).w (fun ρ'=>(h ρ').w n b k r) b k r):(zW g h ρ).w n b k r:=by
 unfold zW
 cases hg:g ρ with
 | nx ρ'=>rw[hg]at e;exact e.nxi
 | bk ρ'=>rw[hg]at e;exact .bk e.bki
 | ct ρ'=>rw[hg]at e;exact .ct e.cti
 | rt d=>rw[hg]at e;exact .rt e.rti
 | no=>rw[hg]at e;exact e.noi.elim
theorem zA (e:g ρ=.nx ρ')(q:(h ρ').w n b k r):(zW g h ρ).w n b k r:=xK (by rw[e];exact .nx q)
theorem ZB (e:g ρ=.nx ρ')(q:n ρ'):(g ρ).w n b k r:=by rw[e];exact .nx q
theorem ZK {d:D}(e:g ρ=.rt d)(q:r d):(g ρ).w n b k r:=by rw[e];exact .rt q
theorem W1 {t:Ev->Option Bool}{c:Bool}(e:t (visG ρ)=some c)(h1:c=true->(g ρ).w n b k r)(h2:c=false->(h ρ).w n b k r):(sIf t g h ρ).w n b k r:=by
 unfold sIf
 rw[e]
 cases c with
 | true=>exact h1 rfl
 | false=>exact h2 rfl
theorem zkM {i:Nat}(e:zm3 ρ i=ρ')(q:(g ρ').w n b k r):(sFz i g ρ).w n b k r:=by
 unfold sFz
 rw[e]
 exact q
theorem zgi {bd:D->SE->Option SE}(I:Nat->SE->Prop):∀ (ds:List D) (j:Nat) (ρ:SE),I j ρ ->
 (∀ i d ρ,ds[i]?=some d->I (j+i) ρ->∃ ρ1,bd d ρ=some ρ1/\(g ρ1).w (I (j+i+1)) n (I (j+i+1)) r)->(∀ ρ,I (j+ds.length) ρ->n ρ)->(ze2 bd g ds ρ).w n b k r
 | [],j,ρ,h0,_,fin=>.nx (fin ρ h0)
 | d::ds,j,ρ,h0,step,fin=>by
  obtain⟨ρ1,e1,e2⟩:=step 0 d ρ rfl h0
  unfold ze2
  rw[e1]
  dsimp only
  have next:∀ ρ',I (j+1) ρ'->(ze2 bd g ds ρ').w n b k r:=fun ρ' h'=>zgi I ds (j+1) ρ' h'
   (λi d' ρ hd hI=>by
    have:=step (i+1) d' ρ (by simpa using hd) (by rw[show j+(i+1)=j+1+i by omega];exact hI)
    rwa[show j+(i+1)+1=j+1+i+1 by omega]at this)
   (fun ρ hI=>fin ρ (by rw[u0d,show j+(ds.length+1)=j+1+ds.length by omega];exact hI))
  cases hg:g ρ1 with
  | nx ρ'=>rw[hg]at e2;exact next ρ' e2.nxi
  | ct ρ'=>rw[hg]at e2;exact next ρ' e2.cti
  | bk ρ'=>rw[hg]at e2;exact .nx e2.bki
  | rt d'=>rw[hg]at e2;exact .rt e2.rti
  | no=>rw[hg]at e2;exact e2.noi.elim
theorem WY {f:Ev->Option (List D)}{bd:D->SE->Option SE}{ds:List D}(I:Nat->SE->Prop)(e:f (visF ρ)=some ds)(h0:I 0 ρ)
 (step:∀ i d ρ,ds[i]?=some d->I i ρ->∃ ρ1,bd d ρ=some ρ1/\(g ρ1).w (I (i+1)) n (I (i+1)) r) (fin:∀ ρ,I ds.length ρ->n ρ):(YV f bd g ρ).w n b k r:=by
 unfold YV
 rw[e]
 exact zgi I ds 0 ρ h0 (λi d ρ hd hI=>by rw[u18]at hI ⊢;exact step i d ρ hd hI) (fun ρ hI=>fin ρ (by rw[u18]at hI;exact hI))
theorem Vg {f:Ev->Option (List D)}{bd:D->SE->Option SE}{rg:List D->Option (List D)}{lo:Int}{c:Nat}(I:Nat->SE->Prop)(e:(f (visG ρ)).bind rg=some (Zo lo c))(h0:I 0 ρ)
 (step:∀ (i:Nat) ρ,i < c->I i ρ->∃ ρ1,bd (.int (lo+i)) ρ=some ρ1/\(g ρ1).w (I (i+1)) n (I (i+1)) r) (fin:∀ ρ,I c ρ->n ρ):(yZ rg f bd g ρ).w n b k r:=by
 unfold yZ
 rw[e]
 refine zgi I (Zo lo c) 0 ρ h0 (λi d ρ hd hI=>?_) (fun ρ hI=>fin ρ ?_)
 .rw[u18]at hI ⊢
  unfold Zo at hd
  rw[r6]at hd
  by_cases hi:i < c
  .rw[List.getElem?_range hi]at hd
   cases hd
   exact step i ρ hi hI
  .rw[u06 (by simpa using hi)]at hd
   cases hd
 .rw[u18]at hI
  rwa[show(Zo lo c).length=c by unfold Zo;simp]at hI
theorem za6 {n' b' k':SE->Prop}{r':D->Prop}{c:Ctl}(q:c.w n b k r)(h1:∀ ρ,n ρ->n' ρ)(h2:∀ ρ,b ρ->b' ρ)(h3:∀ ρ,k ρ->k' ρ)(h4:∀ d,r d->r' d):c.w n' b' k' r':=by
 cases q with
 | nx q=>exact .nx (h1 _ q)
 | bk q=>exact .bk (h2 _ q)
 | ct q=>exact .ct (h3 _ q)
 | rt q=>exact .rt (h4 _ q)
theorem Z6 {t:Ev->Option Bool}(I:SE->Prop)(μ:SE->Nat)(step:∀ ρ,I ρ->∃ c,t (visG ρ)=some c/\(c=true->(g ρ).w (fun ρ'=>I ρ'/\μ ρ' < μ ρ) n (fun ρ'=>I ρ'/\μ ρ' < μ ρ) r)/\(c=false->n ρ)):∀ (fu:Nat) (ρ:SE),I ρ->μ ρ < fu->(vz t g fu ρ).w n b k r
 | 0,ρ,_,hf=>by omega
 | fu+1,ρ,hI,hf=>by
  obtain⟨c,e,q1,q2⟩:=step ρ hI
  unfold vz
  rw[e]
  cases c with
  | false=>exact .nx (q2 rfl)
  | true =>
   have q:=q1 rfl
   dsimp only
   cases hg:g ρ with
   | nx ρ'=>rw[hg]at q;exact Z6 I μ step fu ρ' q.nxi.1 (by have:=q.nxi.2;omega)
   | ct ρ'=>rw[hg]at q;exact Z6 I μ step fu ρ' q.cti.1 (by have:=q.cti.2;omega)
   | bk ρ'=>rw[hg]at q;exact .nx q.bki
   | rt d'=>rw[hg]at q;exact .rt q.rti
   | no=>rw[hg]at q;exact q.noi.elim
end
theorem Vt {m:Nat}{g:SE->Ctl}{ds:List D}{d:D}{ρ:SE}(e:ds.map .v++List.replicate (m - ds.length) .no=ρ)(q:(g ρ).w (λ_=>d=.non) noP noP (λd'=>d'=d)):fnD m g ds=some d:=by
 unfold fnD
 rw[e]
 cases hg:g ρ with
 | nx ρ'=>rw[hg]at q;rw[show d=.non from q.nxi]
 | rt d'=>rw[hg]at q;rw[show d'=d from q.rti]
 | bk _=>rw[hg]at q;exact q.bki.elim
 | ct _=>rw[hg]at q;exact q.cti.elim
 | no=>rw[hg]at q;exact q.noi.elim
theorem zla {m:Bool}{i:Nat}{f:Ev->Option D}{ρ:SE}{ds:List D}{d:D}(h1:vEv m f ρ=some d)(h2:ρ[i]?=some (.o ds))(h3:ds.length<=1000):ZD m i f ρ=.nx (ρ.set i (.o (ds++[d]))):=by
 unfold ZD
 rw[h1,h2]
 show(match (if decide (ds.length < sizeLine)=true then some (ρ.set i (.o (ds++[d])))else none)with | some ρ'=>Ctl.nx ρ' | none=>Ctl.no)=_
 rw[t9 (b6 (Yy h3))]
theorem Za {b:D->Option (List (Option D))}{t:Ev->Option Bool}{f:Ev->Option D}{ρ:Ev}{α:Type}(c:α->D)(y:α->D):∀ (xs:List α),(∀ x∈xs,∃ own,b (c x)=some own/\t (own++ρ)=some true/\f (own++ρ)=some (y x))->lcD b t f ρ (xs.map c)=some (xs.map y)
 | [],_=>rfl
 | x::xs,h=>by
  obtain⟨own,h1,h2,h3⟩:=h x e9
  show lcD b t f ρ (c x::xs.map c)=_
  unfold lcD
  rw[h1]
  simp only[u0e,h2,u2A,h3,Za c y xs λz hz=>h z (p4 _ hz)]
  rfl
theorem vK {b:D->Option (List (Option D))}{t:Ev->Option Bool}{f:Ev->Option D}{ρ:Ev}{α:Type}(c:α->D)(p:α->Bool)(y:α->D):∀ (xs:List α),(∀ x∈xs,∃ own,b (c x)=some own/\t (own++ρ)=some (p x)/\(p x=true->f (own++ρ)=some (y x)))->lcD b t f ρ (xs.map c)=some ((xs.filter p).map y)
 | [],_=>rfl
 | x::xs,h=>by
  obtain⟨own,h1,h2,h3⟩:=h x e9
  have ih:=vK c p y xs λz hz=>h z (p4 _ hz)
  show lcD b t f ρ (c x::xs.map c)=_
  unfold lcD
  rw[h1]
  simp only[u0e,h2]
  cases hp:p x with
  | false =>
   rw[j0 u6,ih,List.filter_cons,j0 (by rw[hp];exact u6)]
  | true =>
   rw[t9 rfl,h3 hp,ih,List.filter_cons,t9 hp]
   rfl
mutual
def noS:D->Bool
 | .tup ds=>zhe ds
 | .lst ds=>zhe ds
 | .scr _=>false
 | _=>true
def zhe:List D->Bool
 | []=>true
 | d::ds=>noS d&&zhe ds
end
theorem vS:∀ {ds:List D} {i:Nat} {d:D},zhe ds=true->ds[i]?=some d->noS d=true
 | [],_,_,_,h=>by simp at h
 | d::ds,i,e,h,he=>by
  unfold zhe at h
  rw[g9]at h
  cases i with
  | zero=>simp at he;subst he;exact h.1
  | succ i=>exact vS h.2 (by simpa using he)
theorem w6 {n:Nat}(h:n<=1000):lim n=true:=by
 unfold lim
 exact b6 (u0W (Yy h))
theorem Wt (lo:Int)(n:Nat):(Zo lo n).length=n:=by unfold Zo;simp
end Dl
namespace Dl
open PySem L2
abbrev Pr:=Int × Int
def prD (t:Pr):D:=.tup [.int t.1,.int t.2]
def zm8:D->Option Pr
 | .tup [.int a,.int b]=>some (a,b)
 | _=>none
def za9:List D->Option (List Pr)
 | []=>some []
 | d::ds=>(zm8 d).bind λt=>(za9 ds).map (t::·)
theorem zjZ {d:D}{t:Pr}(h:zm8 d=some t):d=prD t:=by
 unfold zm8 at h
 split at h
 .cases h;rfl
 .cases h
theorem zcN:∀ {ds:List D} {ts:List Pr},za9 ds=some ts->ds=ts.map prD
 | [],ts,h=>by cases h;rfl
 | d::ds,ts,h=>by
  unfold za9 at h
  obtain⟨t,h1,h2⟩:=u4.mp h
  obtain⟨us,h3,rfl⟩:=u9.mp h2
  rw[zjZ h1,zcN h3]
  rfl
theorem zbF (ts:List Pr):za9 (ts.map prD)=some ts:=by
 induction ts with
 | nil=>rfl
 | cons t ts ih =>
  show(zm8 (prD t)).bind (λu=>(za9 (ts.map prD)).map (u::·))=_
  rw[ih]
  rfl
def zkS (a b:Pr):Bool:=!OwnSort.bltP b a
def W2 (ts:List Pr):List Pr:=ts.mergeSort zkS
def leI (a b:Int):Bool:=decide (a<=b)
def ziS (ns:List Int):List Int:=ns.mergeSort leI
theorem Ve {a b:Pr}:OwnSort.bltP b a=false↔zkS a b=true:=by unfold zkS;simp
theorem wZ {a b:Pr}:zkS a b=true↔a.1 < b.1\/(a.1=b.1/\a.2<=b.2):=by
 rw[<-Ve]
 unfold OwnSort.bltP
 rw[u0L]
 omega
theorem zd5 {ts us:List Pr}(p:us.Perm ts)(h:us.Pairwise λa b=>OwnSort.bltP b a=false):us=W2 ts:=by
 refine u16 (le:=λa b=>zkS a b=true) (λa b _ _ h1 h2=>?_) (h.imp λx=>Ve.mp x) ?_ (p.trans (u2S _ _).symm)
 .rw[wZ]at h1 h2
  exact u3s (by omega) (by omega)
 .exact u2g (λa b c h1 h2=>by rw[wZ]at *;omega) (λa b=>by rw[u3J,wZ,wZ];omega) _
theorem zdZ {ts us:List Int}(p:us.Perm ts)(h:us.Pairwise (·<=·)):us=ziS ts:=by
 refine u16 (le:=λa b=>leI a b=true) (λa b _ _ h1 h2=>?_) (h.imp λx=>b6 x) ?_ (p.trans (u2S _ _).symm)
 .unfold leI at h1 h2
  rw[d5]at h1 h2
  omega
 .exact u2g (λa b c h1 h2=>by unfold leI at *;rw[d5]at *;omega) (λa b=>by unfold leI;rw[u3J,d5,d5];omega) _
def zb1:List D->Option (List D)
 | [.lst ds]=>if ds.length < 64 then match za9 ds with
  | some ts=>some ((W2 ts).map prD)
  | none=>match zcv ds with
   | some ns=>some ((ziS ns).map .int)
   | none=>none
  else none
 | _=>none
variable [KK]
section
variable {X:Cx}{e:Expr}{pos:Pos}
theorem At.pr_inv {F:Hp}{t:Pr}{v:V}(h:At F (prD t) v):∃ a,v=.ref a/\F a=some (.tup [.int t.1,.int t.2]):=by
 obtain⟨a,xs,rfl,hx,al⟩:=h.tup_inv
 obtain⟨x,r,rfl,a1,al⟩:=al.cons_inv
 obtain⟨y,r,rfl,a2,al⟩:=al.cons_inv
 cases al.nil_inv
 cases a1.int_inv
 cases a2.int_inv
 exact⟨a,rfl,hx⟩
theorem zbg (hc:X.calm=true):vR X (.builtin "sorted") (λxs H Q=>∃ F p ys ds out,xs=[.ref p]/\zZ F H/\H p=some (.lst ys)/\AtL F ds ys/\zb1 [.lst ds]=some out/\∀ l zs,H l=none->AtL F out zs->Q (.ref l) (upd H l (.lst zs))):=by
 intro pins s σ H xs us Q I r h
 obtain⟨F,p,ys,ds,out,rfl,sm,hp,al,hs,q⟩:=h
 obtain⟨u,rfl,ru⟩:=WM r
 cases ru
 obtain⟨its,rv,pl,hz⟩:=I.list (SqL.of hp)
 have hlen:its.length=ds.length:=by rw[<-rv.length,al.length]
 unfold zb1 at hs
 dsimp only at hs
 split at hs <;> try cases hs
 rename_i h64
 have fin:∀ (zs:List V) (ws:List Value),zs.length < 64->yl zs ws->AtL F out zs->EP X pins σ Q (.ref (s.heap.objs.size+1)) { s with heap:=PyProof.Rows.sortedAll s.heap its ws.toArray }:=λzs ws hl rz az=>by
  have hn:H (s.heap.objs.size+1)=none:=I.hok.fresh (u02 _)
  obtain⟨ep,he⟩:=u3h s.heap its ws.toArray
  refine⟨.ref (s.heap.objs.size+1),upd H (s.heap.objs.size+1) (.lst zs),I.laid (t':=s.toks) (λb o z=>u21 z) (u02 _) ?_,rfl,q _ zs hn az⟩
  exact⟨u0W (Yy (by omega)),ws,ep,rz,he⟩
 split at hs
 .rename_i ts hts
  cases hs
  have eds:=zcN hts
  subst eds
  have look:∀ {v:Value},v∈its->∃ a t,v=.ref a/\t∈ts/\F a=some (.tup [.int t.1,.int t.2])/\OwnSort.TP s.heap v t:=λ{v} hv=>by
   obtain⟨j,hj,rfl⟩:=u00 hv
   have hj2:j < ts.length:=by rw[u7]at hlen;omega
   obtain⟨x,hx,ax⟩:=al.get (i:=j) (d:=prD ts[j]) (by rw[r6];simp[hj2])
   obtain⟨a,rfl,ha⟩:=ax.pr_inv
   obtain⟨v,hv,rvv⟩:=rv.get hx
   have e1:its[j]?=some its[j]:=by simp[hj]
   rw[hv]at e1
   cases e1
   have e2:its[j]=.ref a:=rvv
   refine⟨a,ts[j],e2,u1E hj2,ha,?_⟩
   obtain⟨us,ru,⟨o,ho,hcl,n,hd⟩,_⟩:=I.tuple (SqT.of (sm _ _ ha))
   obtain⟨u1,u2,rfl,r1,r2⟩:=zdN ru
   obtain⟨t1,rfl⟩:=r1
   obtain⟨t2,rfl⟩:=r2
   exact⟨a,o,n,t1,t2,e2,ho,hcl,hd⟩
  refine OwnSort.own_sorted pl.isList (λv hv=>let ⟨a,t,_,_,_,ht⟩:=look hv;⟨t,ht⟩) (by omega) λo2 pm ri=>?_
  obtain⟨us,l1,l2,l3⟩:=ri
  have hlo:o2.toList.length=ts.length:=by rw[pm.length_eq,hlen,u7]
  -- the values' addresses
  have zsOf:∀ (ws:List Value) (vs:List Pr),ws.length=vs.length->(∀ w∈ws,w∈its)->(∀ (i:Nat) v t,ws[i]?=some v->vs[i]?=some t->OwnSort.TP s.heap v t)->∃ zs:List V,yl zs ws/\AtL F (vs.map prD) zs:=by
   intro ws
   induction ws with
   | nil =>
    intro vs hl _ _
    cases vs with
    | nil=>exact⟨[],.nil,.nil⟩
    | cons _ _=>simp at hl
   | cons w ws ih =>
    intro vs hl hm ht
    cases vs with
    | nil=>simp at hl
    | cons t vs =>
     obtain⟨zs,z1,z2⟩:=ih vs (by simpa using hl) (λw' hw'=>hm w' (p4 _ hw')) (λi v t h1 h2=>ht (i+1) v t (by simpa using h1) (by simpa using h2))
     obtain⟨a,t',rfl,_,ha,htp⟩:=look (hm w e9)
     have et:t'=t:=htp.uniq (ht 0 _ t rfl rfl)
     subst et
     exact⟨.ref a::zs,.cons rfl z1,.cons (.tup ha (.cons .int (.cons .int .nil))) z2⟩
  obtain⟨zs,z1,z2⟩:=zsOf o2.toList us l1 (λw hw=>pm.mem_iff.mp hw) l2
  have keysPerm:us.Perm ts:=by
   -- by the keys of the values
   have kv:∀ (ws:List Value) (vs:List Pr),ws.length=vs.length->(∀ (i:Nat) v t,ws[i]?=some v->vs[i]?=some t->OwnSort.TP s.heap v t)->vs=ws.map λv=>(OwnSort.keyP s.heap v).getD (0,0):=by
    intro ws
    induction ws with
    | nil=>intro vs hl _;cases vs with
     | nil=>rfl
     | cons _ _=>simp at hl
    | cons w ws ih =>
     intro vs hl ht
     cases vs with
     | nil=>simp at hl
     | cons t vs =>
      rw[i4,OwnSort.keyP_of (ht 0 w t rfl rfl),<- ih vs (by simpa using hl) λi v t h1 h2=>ht (i+1) v t (by simpa using h1) (by simpa using h2)]
      rfl
   rw[kv _ _ l1 l2,kv its ts (by rw[hlen,u7]) λi v t h1 h2=>?_]
   .exact pm.map _
   .obtain⟨x,hx,ax⟩:=al.get (i:=i) (d:=prD t) (by rw[r6,h2];rfl)
    obtain⟨a,rfl,ha⟩:=ax.pr_inv
    obtain⟨v',hv',rvv⟩:=rv.get hx
    rw[h1]at hv'
    cases hv'
    obtain⟨us',ru',⟨o,ho,hcl,n,hd⟩,_⟩:=I.tuple (SqT.of (sm _ _ ha))
    obtain⟨u1,u2,rfl,r1,r2⟩:=zdN ru'
    obtain⟨t1,rfl⟩:=r1
    obtain⟨t2,rfl⟩:=r2
    exact⟨a,o,n,t1,t2,rvv,ho,hcl,hd⟩
  have e3:=zd5 keysPerm l3
  rw[e3]at z2
  have:=fin zs o2.toList (by rw[z1.length];rw[u7]at h64;omega) z1 z2
  simpa using this
 .split at hs <;> try cases hs
  rename_i ns hns
  have eds:=Wl hns
  subst eds
  have hI:PyProof.Rows.IntsAre its ns:=wy (by rw[<-al.of_ints];exact rv)
  refine PyProof.Rows.sorted_ints pl.isList hI (by omega) λo2 ns' h1 h2 h3=>?_
  have e3:=zdZ h2 h3
  subst e3
  have z1:yl ((ziS ns).map V.int) o2.toList:=zbj h1
  have:=fin ((ziS ns).map V.int) o2.toList (by rw[u7,h2.length_eq];rw[u7]at h64;omega) z1 (.ints _)
  simpa using this
theorem zeT {p:Pos} {f:Ev->Option (List D)} (hc:X.calm=true) (hgl:Gl X "sorted") (hm:X.mg "sorted"=none) (ha:AD X [e] f)
 (he:starEach [e] X.env=(false,eval e X.env)::starEach [] X.env:=by rfl) (hpl:(backTo pos (starEach [] X.env)).any (·.1)=false:=by rfl):FL X (.Call (.Name "sorted" p) [e] [] pos) (fFn zb1 f):=by
 obtain⟨t,pa,ra⟩:=ha
 refine⟨_,zN (zbg hc) hgl hm Wq pa (by decide) (by decide) he hpl,fun σ ρ F H z Q s va e q=>?_⟩
 obtain⟨ds,e1,e2⟩:=u4.mp e
 refine ra σ ρ F H ds _ s va e1 λF1 H1 vs g1 a1=>?_
 have e2':=e2
 unfold zb1 at e2'
 split at e2'
 .obtain⟨x,r,rfl,ax,ar⟩:=a1.cons_inv
  cases ar.nil_inv
  obtain⟨p,ys,rfl,hx,bl⟩:=ax.lst_inv
  exact⟨F1,p,ys,_,z,rfl,g1.fh,g1.fh _ _ hx,bl,e2,λl zs hl az=>q _ _ _ _ (g1.trans (Gr.hide g1.fh hl _)) (zdG g1 hl) (g1.fh.free hl) zm az⟩
 .cases e2'
end
end Dl
namespace Dl
open PySem L2
def znl:D->Option Key
 | .int i=>some (.inl i)
 | .str x=>some (.inr x)
 | _=>none
def zem:List D->Option (List Key)
 | []=>some []
 | d::ds=>(znl d).bind λk=>(zem ds).map (k::·)
def zes:D->Option (List Key)
 | .tup ds=>zem ds
 | _=>none
def zkB (t:Bool)(d:D):Option (List Key):=if t=true then zes d else (znl d).map ([·])
def intQ:Int->Int->Bool
 | .ofNat a,.ofNat b=>Nat.beq a b
 | .negSucc a,.negSucc b=>Nat.beq a b
 | _,_=>false
theorem zdu {a b:Int}:intQ a b=true↔a=b:=by
 cases a with
 | ofNat a=>cases b with
  | ofNat b=>exact⟨λh=>(by rw[Nat.eq_of_beq_eq_true h]),λh=>(by cases h;exact Nat.beq_refl a)⟩
  | negSucc b=>exact⟨λh=>(by cases h),λh=>(by cases h)⟩
 | negSucc a=>cases b with
  | ofNat b=>exact⟨λh=>(by cases h),λh=>(by cases h)⟩
  | negSucc b=>exact⟨λh=>(by rw[Nat.eq_of_beq_eq_true h]),λh=>(by cases h;exact Nat.beq_refl a)⟩
def zix:Key->Key->Bool
 | .inl i,.inl j=>intQ i j
 | .inr a,.inr b=>decide (a=b)
 | _,_=>false
def zm6:List Key->List Key->Bool
 | [],[]=>true
 | a::r,b::s=>match zix a b with
  | true=>zm6 r s
  | false=>false
 | _,_=>false
theorem zbp {a b:Key}:zix a b=true↔a=b:=by
 cases a with
 | inl i=>cases b with
  | inl j=>exact⟨λh=>(by rw[zdu.mp h]),λh=>(by cases h;exact zdu.mpr rfl)⟩
  | inr b=>exact⟨λh=>(by cases h),λh=>(by cases h)⟩
 | inr i=>cases b with
  | inl j=>exact⟨λh=>(by cases h),λh=>(by cases h)⟩
  | inr b=>exact⟨λh=>(by rw[p0 h]),λh=>(by cases h;exact b6 rfl)⟩
theorem zdq {x y:List Key}:zm6 x y=true↔x=y:=by
 induction x generalizing y with
 | nil=>cases y with
  | nil=>exact⟨λ_=>rfl,λ_=>rfl⟩
  | cons b s=>exact⟨λh=>(by cases h),λh=>(by cases h)⟩
 | cons a r ih=>cases y with
  | nil=>exact⟨λh=>(by cases h),λh=>(by cases h)⟩
  | cons b s =>
   show(match zix a b with | true=>zm6 r s | false=>false)=true↔_
   cases h:zix a b with
   | true=>rw[zbp.mp h];exact ih.trans ⟨λh=>(by rw[h]),λh=>(by cases h;rfl)⟩
   | false=>exact⟨λh=>(by cases h),λe=>(by cases e;rw[zbp.mpr rfl]at h;cases h)⟩
def zf4 (x y:List Key):Decidable (x=y):=match h:zm6 x y with
 | true=>.isTrue (zdq.mp h)
 | false=>.isFalse λe=>by rw[zdq.mpr e]at h;cases h
def ZQ:List (List Key)->List D->List Key->Option D
 | k'::ks,v::vs,k=>@ite _ (k'=k) (zf4 k' k) (some v) (ZQ ks vs k)
 | _,_,_=>none
def znd:List (List Key)->List D->List Key->D->List D
 | k'::ks,v::vs,k,d=>(@ite _ (k'=k) (zf4 k' k) d v)::znd ks vs k d
 | _,_,_,_=>[]
def zbw (ks:List (List Key))(vs:List D)(k:List Key):List (List Key):=if (ZQ ks vs k).isSome=true then ks else ks++[k]
def zaK (ks:List (List Key))(vs:List D)(k:List Key)(d:D):List D:=if (ZQ ks vs k).isSome=true then znd ks vs k d else vs++[d]
theorem ZA {k' k:List Key}{ks:List (List Key)}{v:D}{vs:List D}:ZQ (k'::ks) (v::vs) k=if k'=k then some v else ZQ ks vs k:=by
 show @ite _ (k'=k) (zf4 k' k) (some v) (ZQ ks vs k)=_
 by_cases h:k'=k
 .rw[t9 h,t9 h]
 .rw[j0 h,j0 h]
section
variable [KK]
theorem zb5 {F:Hp}{d:D}{k:Key}{y:V}(h:znl d=some k)(a:At F d y):y=kV k:=by
 cases d with
 | int i=>cases h;exact a.int_inv
 | str x=>cases h;exact a.str_inv
 | _=>cases h
theorem zdk {F:Hp}:∀ {ds:List D} {ks:List Key} {ys:List V},zem ds=some ks->AtL F ds ys->ys=ks.map kV
 | [],_,_,h,a=>by cases h;exact a.nil_inv
 | d::ds,_,_,h,a=>by
  obtain⟨k,h1,h2⟩:=u4.mp h
  obtain⟨r,h3,rfl⟩:=u9.mp h2
  obtain⟨x,xs,rfl,a1,a2⟩:=a.cons_inv
  rw[zb5 h1 a1,zdk h3 a2]
  rfl
theorem zct {F:Hp}{d:D}{k:List Key}{y:V}(h:zes d=some k)(a:At F d y):∃ b,y=.ref b/\F b=some (.tup (k.map kV)):=by
 cases d with
 | tup ds =>
  obtain⟨b,ys,rfl,hb,al⟩:=a.tup_inv
  rw[zdk (show zem ds=some k from h) al]at hb
  exact⟨b,rfl,hb⟩
 | _=>cases h
section
variable {κ:Type}[DecidableEq κ](f:κ->List Key)(hf:∀ a b,f a=f b->a=b)
include hf
theorem VI {F:Hp}{k:κ}:∀ {kvs:List (κ × V)} {vs:List D},AtL F vs (kvs.map (·.2)) ->
 (∀ d,ZQ (kvs.map λp=>f p.1) vs (f k)=some d->∃ x,zcY kvs k=some x/\At F d x)/\(ZQ (kvs.map λp=>f p.1) vs (f k)=none->zcY kvs k=none)
 | [],_,_=>⟨λd h=>(by cases h),λ_=>rfl⟩
 | p::kvs,[],a=>by cases a.nil_inv
 | p::kvs,v::vs,a=>by
  obtain⟨x,r,e,a1,a2⟩:=a.cons_inv
  cases e
  have ih:=VI (k:=k) a2
  by_cases h:p.1=k
  .rw[XZ h]
   have e:ZQ ((p::kvs).map λp=>f p.1) (v::vs) (f k)=some v:=by
    rw[i4,ZA,t9 (by rw[h])]
   rw[e]
   exact⟨λd z=>(by cases z;exact⟨_,rfl,a1⟩),λz=>(by cases z)⟩
  .rw[XW h]
   have e:ZQ ((p::kvs).map λp=>f p.1) (v::vs) (f k)=ZQ (kvs.map λp=>f p.1) vs (f k):=by
    rw[i4,ZA,j0 (λz=>h (hf _ _ z))]
   rw[e]
   exact ih
theorem zh4 {F:Hp}{k:κ}{kvs:List (κ × V)}{vs:List D}(a:AtL F vs (kvs.map (·.2))):(ZQ (kvs.map λp=>f p.1) vs (f k)).isSome=(zcY kvs k).isSome:=by
 obtain⟨h1,h2⟩:=VI f hf (k:=k) a
 cases h:ZQ (kvs.map λp=>f p.1) vs (f k) with
 | none=>rw[h2 h];rfl
 | some d=>obtain⟨x,e,_⟩:=h1 d h;rw[e];rfl
theorem zfF {F:Hp}{k:κ}{d:D}{y:V}(ad:At F d y):∀ {kvs:List (κ × V)} {vs:List D},AtL F vs (kvs.map (·.2)) ->
 AtL F (znd (kvs.map λp=>f p.1) vs (f k) d) ((kvs.map λkv=>if kv.1=k then (kv.1,y)else kv).map (·.2))
 | [],_,_=>by unfold znd;exact .nil
 | p::kvs,[],a=>by cases a.nil_inv
 | p::kvs,v::vs,a=>by
  obtain⟨x,r,e,a1,a2⟩:=a.cons_inv
  cases e
  have ih:=zfF (k:=k) ad a2
  rw[i4,i4]
  refine AtL.cons ?_ ih
  by_cases h:p.1=k
  .rw[t9 h,t9 (by rw[h])];exact ad
  .rw[j0 h,j0 (λz=>h (hf _ _ z))];exact a1
theorem zeF {F:Hp}{k:κ}{d:D}{y:V}(ad:At F d y){kvs:List (κ × V)}{vs:List D}(a:AtL F vs (kvs.map (·.2))) :
 (zb3 kvs k y).map (λp=>f p.1)=zbw (kvs.map λp=>f p.1) vs (f k)/\AtL F (zaK (kvs.map λp=>f p.1) vs (f k) d) ((zb3 kvs k y).map (·.2)):=by
 unfold zb3 zbw zaK
 rw[zh4 f hf a,V2]
 cases h:(zcY kvs k).isSome with
 | true =>
  rw[t9 rfl,t9 rfl,t9 rfl]
  refine⟨?_,zfF f hf ad a⟩
  rw[u07]
  refine u2R λp _=>?_
  by_cases e:p.1=k
  .show f (if p.1=k then (p.1,y)else p).1=_;rw[t9 e]
  .show f (if p.1=k then (p.1,y)else p).1=_;rw[j0 e]
 | false =>
  rw[j0 u6,j0 u6,j0 u6,i8,i8]
  exact⟨rfl,a.append (.cons ad .nil)⟩
end
theorem zgA (a b:Key)(h:[a]=[b]):a=b:=by cases h;rfl
theorem zjo (a b:List Key)(h:a=b):a=b:=h
theorem zkd {F H:Hp}{a:Addr}{z t:Bool}{ks:List (List Key)}{xs:List V}{vs:List D}{kd:D}{k:List Key}{y:V}(s:zZ F H)(hd:VZ F a z t ks xs)(al:AtL F vs xs)(hk:zkB t kd=some k)(ak:At F kd y) :
 ∃ o,zof H a y o/\(∀ d,ZQ ks vs k=some d->∃ x,o=some x/\At F d x)/\(ZQ ks vs k=none->o=none):=by
 obtain⟨u,hd,rd⟩:=(hd.mono s).rd
 unfold zbV at hd
 unfold zkB at hk
 cases t with
 | true =>
  rw[t9 rfl]at hd hk
  obtain⟨kvs,rfl,rfl,rfl⟩:=hd
  obtain⟨b,rfl,hb⟩:=zct hk ak
  exact⟨_,.inr ⟨kvs,k,b,rd,rfl,s _ _ hb,rfl⟩,VI (λk=>k) zjo al⟩
 | false =>
  rw[j0 u6]at hd hk
  obtain⟨kvs,rfl,rfl,rfl⟩:=hd
  obtain⟨k0,h2,rfl⟩:=u9.mp hk
  rw[zb5 h2 ak]
  exact⟨_,.inl ⟨kvs,k0,rd,rfl,rfl⟩,VI (λk=>[k]) zgA al⟩
theorem zj7 {F H:Hp}{a:Addr}{o:HO}{t:Bool}{ks:List (List Key)}{xs:List V}{vs:List D}{kd d:D}{k:List Key}{y v:V}{G:Hp}(h:H a=some o)(hd:zbV o t ks xs)(al:AtL F vs xs)(hk:zkB t kd=some k)(ak:At G kd y)(s:zZ G H)(ad:At F d v)
 (hl:ks.length < sizeLine):∃ o',zh1 H a y v (upd H a o')/\zdS F o' (.m t (zbw ks vs k) (zaK ks vs k d)):=by
 unfold zbV at hd
 unfold zkB at hk
 cases t with
 | true =>
  rw[t9 rfl]at hd hk
  obtain⟨kvs,rfl,rfl,rfl⟩:=hd
  obtain⟨b,rfl,hb⟩:=zct hk ak
  obtain⟨q1,q2⟩:=zeF (λk=>k) zjo (k:=k) ad al
  refine⟨_,zh1.t h (s _ _ hb) (by simpa using hl),_,?_,q2⟩
  unfold zbV
  rw[t9 rfl]
  exact⟨_,rfl,q1,rfl⟩
 | false =>
  rw[j0 u6]at hd hk
  obtain⟨kvs,rfl,rfl,rfl⟩:=hd
  obtain⟨k0,h2,rfl⟩:=u9.mp hk
  rw[zb5 h2 ak]
  obtain⟨q1,q2⟩:=zeF (λk=>[k]) zgA (k:=k0) ad al
  refine⟨_,zh1.k h (by simpa using hl),_,?_,q2⟩
  unfold zbV
  rw[j0 u6]
  exact⟨_,rfl,q1,rfl⟩
def dgetD:D->D->Option D
 | .dct _ t ks vs,kd=>(zkB t kd).bind λk=>ZQ ks vs k
 | _,_=>none
def zkE (neg:Bool):D->D->Option D
 | kd,.dct _ t ks vs=>(zkB t kd).map λk=>.bl (neg != (ZQ ks vs k).isSome)
 | _,_=>none
section
variable {X:Cx}{a b c:Expr}{pos apos:Pos}
def rDIn (neg:Bool):R2:=λx y H Q=>∃ a o,y=.ref a/\zof H a x o/\Q (.bl (neg != o.isSome)) H
theorem zbK {k:Nat}(hr:vw k X.A):OpR X (compareOp .NotIn) (rDIn true):=by
 intro pins s σ H x y v u Q I rx ry h
 obtain⟨a,o,rfl,g,q⟩:=h
 obtain rfl:u=Value.ref a:=ry
 exact zjK (zjA hr) I g rx λs3 I3=>⟨.bl (!o.isSome),H,I3,rfl,by simpa using q⟩
theorem zfh {neg:Bool}:OpD (rDIn neg) (zkE neg):=by
 intro F H x y d e z Q s a1 a2 h q
 cases e with
 | dct z' t ks vs =>
  obtain⟨k,h1,rfl⟩:=u9.mp h
  obtain⟨p,xs,rfl,hd,al⟩:=a2.dct_inv
  obtain⟨o,hg,h3,h4⟩:=zkd s hd al h1 a1
  refine⟨p,o,rfl,hg,?_⟩
  have e:(ZQ ks vs k).isSome=o.isSome:=by
   cases h:ZQ ks vs k with
   | none=>rw[h4 h];rfl
   | some d=>obtain⟨w,rfl,_⟩:=h3 d h;rfl
  rw[<-e]
  exact q F H _ (.refl s) .bl
 | _=>cases h
end
section
variable {X:Cx}{a e ko:Expr}{pos pos':Pos}{st:Stmt}
def ziM (ρ:SE)(i:Nat)(kd d:D):Option SE:=match ρ[i]? with
 | some (.m t ks vs)=>(zkB t kd).bind λk=>if decide (ks.length < sizeLine)=true then some (ρ.set i (.m t (zbw ks vs k) (zaK ks vs k d)))else none
 | _=>none
def zbP (m:Bool)(i:Nat)(fk fe:Ev->Option D):SE->Ctl:=fun ρ=>match (vEv m fe ρ).bind λd=>(fk (visG ρ)).bind λkd=>ziM ρ i kd d with
 | some ρ'=>.nx ρ'
 | none=>.no
theorem zfy {k:Nat}{m:Bool}{i:Nat}{fk fe:Ev->Option D}(hr:vw k X.A)(he:ED X e fe)(ho:PE X a (Vj i))(hk:ED X ko fk)(hs:swapsWith e (some (.Subscript a ko pos')) pos.line X.env=pure false:=by rfl):SD X (.Assign [.Subscript a ko pos'] e pos) (zbP m i fk fe):=by
 obtain⟨t,p,r⟩:=he
 obtain⟨tk,pk,rk⟩:=hk
 refine⟨_,zkC (zjA hr) ho pk p hs,λFb Hb F H ρ σ E rl k=>?_⟩
 unfold zbP at k
 cases h:(vEv m fe ρ).bind λd=>(fk (visG ρ)).bind λkd=>ziM ρ i kd d with
 | none=>rw[h]at k;exact k.elim
 | some ρ' =>
  rw[h]at k
  obtain⟨d,e1,e2⟩:=u4.mp h
  obtain⟨kd,e3,e2⟩:=u4.mp e2
  unfold ziM at e2
  split at e2
  .rename_i tt ks vs hs
   obtain⟨kk,e4,e5⟩:=u4.mp e2
   have hl:decide (ks.length < sizeLine)=true:=by
    cases hh:decide (ks.length < sizeLine) with
    | true=>rfl
    | false=>rw[hh,j0 u6]at e5;cases e5
   rw[t9 hl]at e5
   cases e5
   refine r.at rl e1 λF' H' v g av=>?_
   have rl2:=rl.grow g
   obtain⟨q,o,f1,_⟩:=rl2.ows i _ hs rfl
   refine⟨_,f1,?_⟩
   refine rk σ _ _ H' _ _ rl2.gh rl2.visG e3 λF3 H3 v3 g3 av3=>?_
   obtain⟨gb,_⟩:=rl2.back g3
   have rl3:=rl2.grow gb
   obtain⟨q3,o3,f1',_,_,f4,xs,f5,f6⟩:=rl3.ows i _ hs rfl
   rw[f1]at f1'
   cases f1'
   obtain⟨o',hp,hw⟩:=zj7 f4 f5 f6 e4 av3 g3.fh (av.mono gb.ff) (p0 hl)
   exact⟨q,_,rfl,hp,k _ _ σ (rl3.mutW hs rfl f1 hw)⟩
  .cases e2
end
end
end Dl
namespace Dl
open PySem L2
variable [KK]
section
variable {X:Cx}
def rNeL:R2:=λx y H Q=>∃ F ds es,zZ F H/\At F (.lst ds) x/\At F (.lst es) y/\okE 20 (.lst ds)=true/\okE 20 (.lst es)=true/\Q (.bl (!eqN 20 (.lst ds) (.lst es))) H
theorem zmS {k:Nat}(hr:vw k X.A):OpR X (compareOp .NotEq) rNeL:=by
 intro pins s σ H x y v u Q I rx ry h
 obtain⟨F,ds,es,sm,a1,a2,k1,k2,q⟩:=h
 have hu:X.A.units+30 < cLine:=by have:=hr.un;omega
 obtain⟨p,xs,rfl,hx,al⟩:=a1.lst_inv
 obtain⟨p2,ys,rfl,hy,bl⟩:=a2.lst_inv
 cases rx
 cases ry
 obtain⟨its,r,ht,hz⟩:=I.list (SqL.of (sm _ _ hx))
 obtain⟨its2,r2,ht2,hz2⟩:=I.list (SqL.of (sm _ _ hy))
 have hl1:its.toArray.size=ds.length:=by rw[j3,<- r.length,al.length]
 have hl2:its2.toArray.size=es.length:=by rw[j3,<- r2.length,bl.length]
 have e1:eqN 20 (.lst ds) (.lst es)=((List.range (min ds.length es.length)).all (λj=>eqN 19 (ds.getD j .non) (es.getD j .non))&&ds.length == es.length):=by
  show((List.zipWith (eqN 19) ds es).all id&&ds.length == es.length)=_
  rw[VC]
 by_cases hle:ds.length=es.length
 .refine SeqAt.RcNeAt.lists (e:=λj=>eqN 19 (ds.getD j .non) (es.getD j .non)) ht.isList ht2.isList (by rw[hl1,hl2];exact hle) (p6 (u0J _ 30) hu) (λj g1 g2=>?_) _ _ _ _ ⟨.bl _,H,I,rfl,?_⟩
  .obtain⟨x',ax,rx⟩:=al.nth r (j:=j) (by simpa using g1)
   obtain⟨y',ay,ry⟩:=bl.nth r2 (j:=j) (by simpa using g2)
   exact zc4 I sm 19 (wN k1 (by rw[<-hl1];exact g1)) (wN k2 (by rw[<-hl2];exact g2)) ax ay (by simpa using rx) (by simpa using ry) (p6 (show X.A.units+20<=X.A.units+30 from u13 (by decide) _) hu)
  .rw[hl1]
   rw[e1,<- hle,u29]at q
   simpa using q
 .refine SeqAt.RcNeAt.lists_lengths ht.isList ht2.isList (by rw[hl1,hl2];simpa using hle) (p6 (u0J _ 30) hu) _ _ _ _ ⟨.bl _,H,I,rfl,?_⟩
  have:(ds.length == es.length)=false:=by simpa using hle
  rw[e1,this,u1H]at q
  exact q
end
def zms:D->D->Option D
 | .lst ds,.lst es=>if (okE 20 (.lst ds)&&okE 20 (.lst es))=true then some (.bl (!eqN 20 (.lst ds) (.lst es)))else none
 | _,_=>none
theorem zkL:OpD rNeL zms:=by
 intro F H x y d e z Q s ax ay ez q
 unfold zms at ez
 split at ez
 .split at ez <;> cases ez
  rename_i hk
  rw[g9]at hk
  exact⟨F,_,_,s,ax,ay,hk.1,hk.2,q F H _ (.refl s) .bl⟩
 .cases ez
end Dl
namespace L2
open PySem PySem.Spec PyProof.Rows
section
variable {prog:Program}{w:World}{A:Around}{E:Value->Shared->Prop}{s:Shared}{d it:Addr}{o:Obj}{es:Array DictEntry}{ep i:Nat}
theorem raw_iter {Q:Value->Shared->Prop}(hs:(d == sysModules)=false)(ho:s.heap.get? d=some o)(hc:o.ExactDict)(hd:o.data=.dict es ep)
 (hQ:Q (.ref s.heap.objs.size) { s with heap:=s.heap.push { cls:=.type "dict_keyiterator",data:=.fields #[.ref d,.int 0 0,.int es.size 0,.int ep 0] } }):wpAny (model prog w) A (pyIter (.ref d)) Q E s:=by
 have hT:s.TypeIs (.ref d) "dict":=⟨o,ho,hc.1⟩
 refine wpAny_pyIter_slot hT PySem.F.slot_dict_iter (u0B PySem.F.slot_dict_iter hT PySem.F.entry_dict_iter ?_ (PySem.F.args_dict_iter_1 _))
 unfold Builtin.«dict.__iter__»
 refine u0 ?_
 unfold Builtin.Dict.dictSlotNone
 refine u0 (wpAny_notOrdered_dict hT ?_)
 show wpAny _ _ (pure (Value.ref d)) _ _ s
 refine u8 ?_
 show wpAny _ _ (Builtin.Dict.showsAll d>>=_) _ _ s
 unfold Builtin.Dict.showsAll
 rw[j0 (by rw[hs];exact u6)]
 refine u0 (u8 (u0 (u3n ho hd (u0 (wpAny_dictEpoch ho hd ?_)))))
 refine u0 (u0s (u8 ⟨_,rfl,"dict_keyiterator",_,⟨_,r9 _ rfl,rfl⟩,u0C.lookup,?_⟩))
 simpa [rawInt]using hQ
theorem raw_next {e:DictEntry}{Q:Option Value->Shared->Prop}(hit:s.heap.IsKeyIter it d i es.size ep)(ho:s.heap.get? d=some o)(hd:o.data=.dict es ep)(hx:es[i]?=some e)
 (hQ:∀ h',h'.IsKeyIter it d (i+1) es.size ep->Heap.SameBut it s.heap h'->Q (some e.key) { s with heap:=h' }):wpAny (model prog w) A (pyNext (.ref it)) Q E s:=by
 obtain⟨oi,hoi,hci,hdi⟩:=id hit
 unfold pyNext
 refine u0 (u1m (u0m (name:=Str.ofString "__next__") hit.typeIs u0C
  (u0B u0C hit.typeIs u14 ?_ (u1Y _))))
 refine u0 (u8 ?_)
 refine u0 ?_
 refine u0 ?_
 first | refine u0 (u09 hit.typeIs (u8 ?_)) | refine u0 (u1z hit.typeIs (u8 ?_))
 refine u0 (wpAny_fieldsOf hoi hdi ?_)
 have hown:Builtin.Dict_items.ownsTuple "dict_keyiterator"=false:=by decide
 simp only[hown,u25,u3v]
 show wpAny _ _ (if (Value.ref d == Value.none)=true then _ else _) _ _ s
 rw[j0 (show ¬ ((Value.ref d == Value.none)=true)from u6)]
 refine u0 (u8 (u0 (u3n ho hd ?_)))
 rw[j0 (by simp)]
 refine u0 (u8 (u0 (wpAny_dictEpoch ho hd ?_)))
 rw[j0 (by simp)]
 refine u8 ?_
 simp only[show ¬ ((i:Int) < 0)from by omega,u3v,u0Y,hx]
 refine u0 ?_
 first | refine u0 (u09 hit.typeIs (u8 ?_)) | refine u0 (u1z hit.typeIs (u8 ?_))
 refine u0 (wpAny_isOneOf_keyiter hit.typeIs ?_)
 show wpAny _ _ (setField (.ref it) 1 (rawInt ((i:Int)+1))>>=_) _ _ s
 refine u0 (u3i hoi hdi (by simp) ?_)
 have hit':(s.heap.update it (Obj.mapFields (·.setIfInBounds 1 (rawInt ((i:Int)+1))))).IsKeyIter it d (i+1) es.size ep :=
  ⟨_,u0F _ hoi (Obj.isFreed_of_fields (u2h hdi _)),(Obj.cls_mapFields ..).trans hci,by rw[u2h hdi];simp[rawInt]⟩
 refine u0 (u0n ?_)
 refine u0 (wpAny_isOneOf_keyiter (s:={ s with heap:=s.heap.update it (Obj.mapFields (·.setIfInBounds 1 (rawInt ((i:Int)+1)))) }) hit'.typeIs ?_)
 show wpAny _ _ (pure e.key) _ _ _
 exact u8 (u8 ⟨_,rfl,u8 (hQ _ hit' (u11 ..))⟩)
theorem raw_end {Q:Option Value->Shared->Prop}(hh:A.handled=none)(hit:s.heap.IsKeyIter it d i es.size ep)(ho:s.heap.get? d=some o)(hd:o.data=.dict es ep)(hx:es.size<=i)
 (hQ:∀ h',Heap.ExtBut it s.heap h'->Q none { s with heap:=h' }):wpAny (model prog w) A (pyNext (.ref it)) Q E s:=by
 obtain⟨oi,hoi,hci,hdi⟩:=id hit
 unfold pyNext
 refine u0 (u1m (u0m (name:=Str.ofString "__next__") hit.typeIs u0C
  (u0B u0C hit.typeIs u14 ?_ (u1Y _))))
 refine u0 (u8 ?_)
 refine u0 ?_
 refine u0 ?_
 first | refine u0 (u09 hit.typeIs (u8 ?_)) | refine u0 (u1z hit.typeIs (u8 ?_))
 refine u0 (wpAny_fieldsOf hoi hdi ?_)
 have hown:Builtin.Dict_items.ownsTuple "dict_keyiterator"=false:=by decide
 simp only[hown,u25,u3v]
 show wpAny _ _ (if (Value.ref d == Value.none)=true then _ else _) _ _ s
 rw[j0 (show ¬ ((Value.ref d == Value.none)=true)from u6)]
 refine u0 (u8 (u0 (u3n ho hd ?_)))
 rw[j0 (by simp)]
 refine u0 (u8 (u0 (wpAny_dictEpoch ho hd ?_)))
 rw[j0 (by simp)]
 refine u8 ?_
 simp only[show ¬ ((i:Int) < 0)from by omega,u3v,u0Y,Array.getElem?_eq_none hx]
 refine u0 ?_
 first | refine u0 (u09 hit.typeIs (u8 ?_)) | refine u0 (u1z hit.typeIs (u8 ?_))
 show wpAny _ _ (setField (.ref it) 0 .none>>=_) _ _ s
 refine u0 (u3i hoi hdi (by simp) ?_)
 show wpAny _ _ (newExc (.type "StopIteration") []>>=_) _ _ _
 refine u0 ?_
 simp only[newExc,newTuple]
 refine u0 (u0s ?_ (by size_fits))
 refine u0 (m:=firstArgMember _ _) (wpAny_of_eq (a:=Value.none) (by first | rfl | (simp only[firstArgMember];rfl)) ?_)
 refine u0s ?_ (by size_fits)
 simp only[raiseNew]
 refine u0 (wpAny_handled ?_)
 rw[show A.in1.handled=none from hh]
 refine u0 (u8 (wpAny_throw ?_))
 refine u0 (wpAny_isInstance (T:="StopIteration") (b:=true) ⟨_,r9 _ rfl,rfl⟩ isSubtype_stop ?_)
 exact u8 (hQ _ (((u11 ..).extBut.push _).push _))
end
def zlB:HO->Nat
 | .dK kvs=>kvs.length
 | .dT kvs=>kvs.length
 | _=>0
def zco (u:HO):Prop:=(∃ kvs,u=.dK kvs)\/∃ kvs,u=.dT kvs
def zlm (H:Hp)(u:HO)(i:Nat)(x:V):Prop:=match u with
 | .dK kvs=>∃ p,kvs[i]?=some p/\x=kV p.1
 | .dT kvs=>∃ p b,kvs[i]?=some p/\x=.ref b/\H b=some (.tup (p.1.map kV))
 | _=>False
theorem zlW {P:Program}{w:World}{k:Key}{v:Value}(h:(yQ P w).is k v=true):yI (kV k) v:=by
 rcases ye h with ⟨i,t,rfl,rfl⟩ | ⟨x,t,rfl,rfl⟩
 .exact⟨t,rfl⟩
 .exact⟨t,rfl⟩
structure DObj (H:Hp) (a:Addr) (ob:Obj) (u:HO) (es:Array DictEntry) (ep:Nat):Prop where
 sys:(a == sysModules)=false
 exact_:ob.ExactDict
 data:ob.data=.dict es ep
 size:es.size=zlB u
theorem zcc {P:Program}{w:World}{H:Hp}{h:Heap}{a:Addr}{ob:Obj}{u:HO}(ok:yq P w H h a (.frz ob u))(hu:zco u):h.get? a=some ob/\∃ es ep,DObj H a ob u es ep/\∀ (i:Nat) (e:DictEntry),es[i]?=some e->∃ x,yI x e.key/\zlm H u i x:=by
 obtain⟨e0,ok⟩:=ok
 rcases hu with ⟨kvs,rfl⟩ | ⟨kvs,rfl⟩
 .obtain⟨_,sys,vs,kv,o,es,ep,e1,ex,dt,ko,pr,nd⟩:=ok
  rw[e0]at e1
  cases e1
  have hl:es.size=vs.length:=by rw[<-pr.length];simp
  refine⟨e0,es,ep,⟨sys,ex,dt,by rw[hl,<- kv.length];rfl⟩,λi e he=>?_⟩
  have hi:i < kvs.length:=by
   have:=(u1g.mp he).1
   rw[kv.length];omega
  have hv:i < vs.length:=by rw[<-kv.length];exact hi
  have h1:=pr.get? (i:=i) (e:=e) (k:=vs[i].1) (v:=vs[i].2) (by simpa using he) (by simp[hv])
  have hk:kvs[i].1=vs[i].1:=by
   have:=u05 (λl=>l[i]?) kv.keys
   simp only[r6]at this
   rw[j6 hi,j6 hv]at this
   exact p9 this
  exact⟨kV kvs[i].1,by rw[hk];exact zlW h1.1,kvs[i],j6 hi,rfl⟩
 .obtain⟨_,sys,xs,pr,o,es,ep,e1,ex,dt,he,nd⟩:=ok
  rw[e0]at e1
  cases e1
  have hl:es.size=xs.length:=by rw[<-j8,he,u7]
  have hp:=u2H pr
  refine⟨e0,es,ep,⟨sys,ex,dt,by rw[hl,<- hp];rfl⟩,λi e hei=>?_⟩
  have hx:i < xs.length:=by
   have:=(u1g.mp hei).1
   omega
  have hi:i < kvs.length:=by omega
  have e2:e=entryOfKey (tupleKind (yQ P w)) xs[i]:=by
   have:es.toList[i]?=some e:=by simpa using hei
   rw[he,r6,j6 hx]at this
   exact(p9 this).symm
  have rel:∀ {l:List (List Key × V)} {m:List (List Key × Addr × Value)},Paired (λp q=>p.1=q.1/\H q.2.1=some (.tup (p.1.map kV))/\yI p.2 q.2.2) l m->∀ (j:Nat) (h1:j < l.length) (h2:j < m.length),l[j].1=m[j].1/\H m[j].2.1=some (.tup (l[j].1.map kV)):=λ{l m} r=>by
   induction r with
   | nil=>intro j h1;simp at h1
   | cons h t ih =>
    intro j h1 h2
    cases j with
    | zero=>exact⟨h.1,h.2.1⟩
    | succ j=>exact ih j (by simpa using h1) (by simpa using h2)
  obtain⟨_,r2⟩:=rel pr i hi hx
  subst e2
  exact⟨.ref xs[i].2.1,rfl,kvs[i],xs[i].2.1,j6 hi,rfl,r2⟩
def Itf (a:Addr)(ob:Obj)(u:HO):It :=
 ⟨λi H=>H a=some (.frz ob u)/\i < zlB u,λi H x H'=>H'=H/\zlm H u i x,λi H=>H a=some (.frz ob u)/\zlB u<=i⟩
theorem zgL {P:Program}{w:World}{K:W.Frag}{tg:Expr}{a it:Addr}{ob:Obj}{u:HO}{es:Array DictEntry}{ep:Nat}(hu:zco u)(hn:es.size=zlB u)(hd:ob.data=.dict es ep):ziY P w K tg (Itf a ob u) [it] it (λi h=>h.IsKeyIter it a i es.size ep) where
 mem:=by simp
 obj:=λi h st b hb=>by
  have e:b=it:=by simpa using hb
  subst e
  obtain⟨o,e,c,d⟩:=st
  exact⟨o,e,λv z=>by rw[d]at z;cases z⟩
 keep:=λi h h' st k=>by
  obtain⟨o,e,r⟩:=st
  exact⟨o,k it (by simp) o e,r⟩
 item:=by
  intro X hP hw hK hc i pins s σ H E I hf st hg
  subst hP hw hK
  obtain⟨e1,hi⟩:=hg
  obtain⟨e0,es',ep',D,ky⟩:=zcc (I.hok a _ e1) hu
  have e2:=D.data
  rw[hd]at e2
  cases e2
  obtain⟨f0,f1,f2,f3,f4,f5⟩:=hf it (by simp)
  have hlt:i < es.size:=by omega
  obtain⟨x,rx,kx⟩:=ky i es[i] (u1n hlt)
  refine raw_next st e0 hd (u1n hlt) λh' st' sb=>?_
  have I1:Inv X pins σ H { s with heap:=h' }:=I.turned (t':=s.toks) (λb o hb e=>(sb.2 b hb).trans e) f0 f1 f3 f4 f5
  obtain⟨o,e,c,d⟩:=id st'
  exact⟨_,rfl,zig (s:={ s with heap:=h' }) e c d (by decide) ⟨x,H,I1,rx,⟨rfl,kx⟩,st',λb hb=>(hf b hb).1⟩⟩
 done:=by
  intro X hP hw hK hc i pins s σ H E I hf st hg
  subst hP hw hK
  obtain⟨e1,hi⟩:=hg
  obtain⟨e0,es',ep',D,ky⟩:=zcc (I.hok a _ e1) hu
  obtain⟨f0,f1,f2,f3,f4,f5⟩:=hf it (by simp)
  exact raw_end (I.ok.hd hc) st e0 hd (by omega) λh' eb=>⟨rfl,I.turned (t':=s.toks) (λb o hb e=>eb b o hb e) f0 f1 f3 f4 f5⟩
 self:=λ_ _ _ _ _ st h=>wpAny_pyIter_keyiter st h
section
variable {X:Cx}{tg:Expr}
def znp (tl:TE):TI:=fun σ H R=>tl σ H λx H1=>∃ a ob u,x=.ref a/\H1 a=some (.frz ob u)/\zco u/\R (Itf a ob u) H1
theorem zkk {l:Expr}{tl:TE}(hl:PE X l tl):PI X tg l (znp tl):=by
 intro pins s σ H R I h
 refine thn (hl pins s σ H _ I h) λv s1 hh9=>?_
 obtain⟨x,H1,I1,r1,q1⟩:=hh9
 obtain⟨a,ob,u,e,e1,hu,q⟩:=q1
 subst e
 cases r1
 obtain⟨e0,es,ep,D,_⟩:=zcc (I1.hok a _ e1) hu
 refine raw_iter D.sys e0 D.exact_ D.data ?_
 refine⟨s1.heap.objs.size,[s1.heap.objs.size],_,_,H1,rfl,I1.kept (t':=s1.toks) λb o e=>u5 _ e,zgL hu D.size D.data,⟨_,r9 _ rfl,rfl,rfl⟩,λb hb=>?_,q⟩
 have e:b=s1.heap.objs.size:=by simpa using hb
 subst e
 exact I1.fpOk (q5 _) (I1.hok.fresh (q5 _))
theorem Inv.frz {pins:List (Addr × Obj)}{σ:St}{H:Hp}{s:Shared}{p:Addr}{u:HO}(I:Inv X pins σ H s)(e:H p=some u)(hu:zco u):∃ ob,Inv X pins σ (upd H p (.frz ob u)) s:=by
 have ok:=I.hok p u e
 have mu:Mut (H p):=by
  rw[e]
  rcases hu with ⟨kvs,rfl⟩ | ⟨kvs,rfl⟩ <;> exact True.intro
 rcases hu with ⟨kvs,rfl⟩ | ⟨kvs,rfl⟩
 .obtain⟨z,sys,vs,kv,o,es,ep,e1,r⟩:=ok
  refine⟨o,I.write (h':=s.heap) (t':=s.toks) mu (.inl rfl) (λb u _ e=>e) ⟨o,e1⟩ ⟨e1,z,sys,vs,kv,o,es,ep,e1,r⟩⟩
 .obtain⟨z,sys,xs,pr,o,es,ep,e1,r⟩:=ok
  refine⟨o,I.write (h':=s.heap) (t':=s.toks) mu (.inl rfl) (λb u _ e=>e) ⟨o,e1⟩ ⟨e1,z,sys,xs,?_,o,es,ep,e1,r⟩⟩
  exact KT.keeps pr λb ys eb=>by
   rw[zk (zhQ eb e (λz=>nomatch z))]
   exact eb
def tFrz (i:Nat)(t:TS):TS:=λE σ H=>∃ p u,σ[i]?=some (some (.ref p))/\H p=some u/\zco u/\∀ ob,t E σ (upd H p (.frz ob u))
theorem zkO {sts:List Stmt}{t:TS}(i:Nat)(h:PSs X sts t):PSs X sts (tFrz i t):=by
 intro pins s σ H E I q
 obtain⟨p,u,_,e,hu,q⟩:=q
 obtain⟨ob,I2⟩:=I.frz e hu
 exact h pins s σ _ E I2 (q ob)
def zi4 (z:Bool)(tk tv:TE):TE:=fun σ H Q=>∀ p,H p=none->tk σ (upd H p (.dT [])) λx H1=>tv σ H1 λy H2=>H2 p=some (.dT [])/\∃ b k,x=.ref b/\H2 b=some (.tup (k.map kV)) /\
 if z=true then ∀ ob,Q (.ref p) (upd H2 p (.frz ob (.dT [(k,y)])))else Q (.ref p) (upd H2 p (.dT [(k,y)]))
theorem ziT {z:Bool}{k v:Expr}{pos:Pos}{tk tv:TE}(hu:X.A.units+1 < cLine)(hk:PE X k tk)(hv:PE X v tv):PE X (.Dict [some k] [v] pos) (zi4 z tk tv):=by
 intro pins s σ H Q I q
 have hn:=I.hok.fresh (q5 s.heap.objs.size)
 have I1:=I.laid (a:=s.heap.objs.size) (o:=.dT []) (h':=s.heap.push { cls:=.type "dict",data:=.dict #[] }) (t':=s.toks) (λ_ _ q=>u5 _ q) (q5 _) (ziy s.heap I.big)
 refine wpAny_Dict_any (by rfl) rfl (by simp) (by simp) ?_
 refine pairTrees_cons_walk (thn (hk pins _ σ _ _ I1 (q _ hn)) λu s1 ⟨x,H1,I1,rx,q1⟩=>thn (hv pins s1 σ H1 _ I1 q1) λw2 s2 hh9=>?_)
 obtain⟨y,H2,I2,ry,q2⟩:=hh9
 obtain⟨e,b,kk,ex,eb,q2⟩:=q2
 subst ex
 obtain rfl:u=Value.ref b:=rx
 refine pairTrees_nil_walk ?_
 unfold storeAll
 simp only[u2f,u1W]
 obtain⟨zz,hd,xs,rel,dd⟩:=zlP I2.hok e
 cases rel
 refine u0 (u0 (wpAny_dictSet_heap (hsz:=u0P _) (show(tupleKind (yQ X.prog X.w)).room X.A from Nat.lt_of_succ_lt hu) (zcI I2.hok eb) dd λh' dd' hs=>u8 (u8 ?_)))
 have dd2:=dd'
 obtain⟨q,es,ep,hq,h2,h3,h4,_,h5⟩:=dd'
 have I3:=zcF (t':=s2.toks+(tupleKind (yQ X.prog X.w)).draws kk) (ob:=.dT [(kk,y)]) I2 (by rw[e];exact True.intro) hs ⟨q,hq⟩ ⟨by show 1<=sizeLine;decide,hd,_,((show KT H2 [] []from .nil).put kk eb ry).keeps λc ys ec=>by
  rw[zk (zhQ ec e (λz=>nomatch z))]
  exact ec,q,es,ep,hq,h2,h3,h4,h5⟩
 cases z with
 | false=>exact⟨.ref s.heap.objs.size,_,I3,rfl,by rw[j0 u6]at q2;exact q2⟩
 | true =>
  rw[t9 rfl]at q2
  obtain⟨ob,I4⟩:=I3.frz (p:=s.heap.objs.size) (u:=.dT [(kk,y)]) zm (.inr ⟨_,rfl⟩)
  rw[zb6]at I4
  exact⟨.ref s.heap.objs.size,_,I4,rfl,q2 ob⟩
end
end L2
namespace Dl
open PySem L2
def k1D:Key->D
 | .inl i=>.int i
 | .inr x=>.str x
def zcV (t:Bool)(k:List Key):D:=if t=true then .tup (k.map k1D)else match k with
 | [a]=>k1D a
 | _=>.non
def zcU:D->Option (List D)
 | .dct true t ks _=>some (ks.map (zcV t))
 | _=>none
section
variable [KK]
theorem ziV {F:Hp}(k:Key):At F (k1D k) (kV k):=by
 cases k with
 | inl i=>exact .int
 | inr x=>exact .str
theorem zeX {F:Hp}:∀ ks:List Key,AtL F (ks.map k1D) (ks.map kV)
 | []=>.nil
 | k::ks=>.cons (ziV k) (zeX ks)
theorem zcH {u:HO}{t:Bool}{ks:List (List Key)}{xs:List V}(h:zbV u t ks xs):zco u/\zlB u=ks.length:=by
 unfold zbV at h
 cases t with
 | true=>rw[t9 rfl]at h;obtain⟨kvs,rfl,rfl,_⟩:=h;exact⟨.inr ⟨_,rfl⟩,by rw[u7];rfl⟩
 | false=>rw[j0 u6]at h;obtain⟨kvs,rfl,rfl,_⟩:=h;exact⟨.inl ⟨_,rfl⟩,by rw[u7];rfl⟩
theorem Gr.see {F H:Hp}{b:Addr}{ys:List V}(s:zZ F H)(h:H b=some (.tup ys)):∃ F',Gr F H F' H/\F' b=some (.tup ys):=by
 cases e:F b with
 | some o =>
  have:=s _ _ e
  rw[h]at this
  cases this
  exact⟨F,.refl s,e⟩
 | none =>
  refine⟨upd F b (.tup ys),⟨λp o z=>?_,λp o z=>?_,λp o z1 z2=>⟨?_,z2⟩⟩,zm⟩
  .rw[zk (zh z e)];exact z
  .by_cases hp:p=b
   .subst hp;rw[zm]at z;cases z;exact h
   .rw[zk hp]at z;exact s p o z
  .by_cases hp:p=b
   .subst hp
    rw[h]at z2
    cases z2
    exact .inr ⟨⟨_,rfl⟩,zm⟩
   .exact .inl (by rw[zk hp];exact z1)
theorem zmN {F:Hp}{a:Addr}{ob:Obj}{u:HO}{t:Bool}{ks:List (List Key)}{xs:List V}(h:F a=some (.frz ob u))(hd:zbV u t ks xs):zkV (Itf a ob u) F (ks.map (zcV t)):=by
 intro i F2 H2 s1 s2
 have e2:=s2 _ _ (s1 _ _ h)
 obtain⟨_,hl⟩:=zcH hd
 refine⟨λhi=>⟨e2,by rw[hl,hi,u7];exact q5 _⟩,λd hdi=>?_⟩
 rw[r6]at hdi
 obtain⟨k,hk,rfl⟩:=u9.mp hdi
 refine⟨⟨e2,by rw[hl];exact(t7.mp hk).1⟩,λx H3 hy=>?_⟩
 obtain⟨rfl,hy⟩:=hy
 unfold zbV at hd
 cases t with
 | true =>
  rw[t9 rfl]at hd
  obtain⟨kvs,rfl,rfl,_⟩:=hd
  obtain⟨p,b,hp,rfl,hb⟩:=hy
  rw[r6,hp]at hk
  cases hk
  obtain⟨F3,g,hF⟩:=Gr.see s2 hb
  exact⟨F3,g,.tup hF (zeX _)⟩
 | false =>
  rw[j0 u6]at hd
  obtain⟨kvs,rfl,rfl,_⟩:=hd
  obtain⟨p,hp,rfl⟩:=hy
  rw[r6,hp]at hk
  cases hk
  exact⟨F2,.refl s2,ziV _⟩
section
variable {X:Cx}{tg a b e k v:Expr}{pos pos':Pos}{sts:List Stmt}
def zmZ (f:Ev->Option D):Ev->Option (List D):=fun ρ=>(f ρ).bind zcU
theorem zjM {f:Ev->Option D}(ha:ED X a f):ID X tg a (zmZ f):=by
 obtain⟨t,p,r⟩:=ha
 refine⟨_,zkk p,fun σ ρ F H ds R s va e q=>?_⟩
 obtain⟨d,e1,e2⟩:=u4.mp e
 refine r σ ρ F H d _ s va e1 λF1 H1 v g1 a1=>?_
 unfold zcU at e2
 split at e2
 .cases e2
  obtain⟨p,xs,rfl,⟨u,hd,hz⟩,_⟩:=a1.dct_inv
  rw[t9 rfl]at hz
  obtain⟨ob,hz⟩:=hz
  exact⟨p,ob,u,rfl,g1.fh _ _ hz,(zcH hd).1,q F1 H1 _ g1 (zmN hz hd)⟩
 .cases e2
def zm4 (i:Nat)(g:SE->Ctl):SE->Ctl:=fun ρ=>match ρ[i]? with
 | some (.m t ks vs)=>g (ρ.set i (.v (.dct true t ks vs)))
 | _=>.no
theorem Rl.fzM {Fb Hb F H:Hp}{ρ:SE}{σ:St}{i:Nat}{t:Bool}{ks:List (List Key)}{vs:List D}(r:Rl Fb Hb F H ρ σ)(h:ρ[i]?=some (.m t ks vs)) :
 ∃ p u,σ[i]?=some (some (.ref p))/\H p=some u/\zco u/\∀ ob,Rl Fb Hb (upd F p (.frz ob u)) (upd H p (.frz ob u)) (ρ.set i (.v (.dct true t ks vs))) σ:=by
 obtain⟨p,u,e1,e2,e3,e4,xs,hd,al⟩:=r.ows i _ h rfl
 refine⟨p,u,e1,e4,(zcH hd).1,λob=>?_⟩
 have hi:i < ρ.length:=(t7.mp h).1
 have sF:zZ F (upd F p (.frz ob u)):=λb o e=>by rw[zk (zh e e3)];exact e
 have nj:∀ {j:Nat} {s:Sl},(ρ.set i (.v (.dct true t ks vs)))[j]?=some s->s.isO=true->i≠j:=λ{j s} h ht e=>by
  subst e
  rw[i7 hi]at h
  cases h
  cases ht
 refine⟨⟨r.gr.ff.trans sF,λb o z=>?_,λb o z1 z2=>?_⟩,λj d z=>?_,λj s z ht=>?_,λj k q s s' h1 h2 o1 o2 h3 h4=>?_,by simp[r.len]⟩
 .by_cases hb:b=p
  .subst hb;rw[zm]at z ⊢;exact z
  .rw[zk hb]at z ⊢;exact r.gr.fh b o z
 .have hb:b≠p:=zh z2 e2
  obtain⟨x,y⟩:=r.gr.kp b o z1 z2
  refine⟨?_,by rw[zk hb];exact y⟩
  unfold Hid
  rw[zk hb]
  exact x
 .by_cases hj:i=j
  .subst hj
   rw[i7 hi]at z
   cases z
   refine⟨_,e1,?_⟩
   unfold At
   exact⟨p,xs,rfl,⟨u,hd,by rw[t9 rfl];exact⟨ob,zm⟩⟩,al.mono sF⟩
  .rw[d4 hj]at z
   obtain⟨v,f1,f2⟩:=r.vals j d z
   exact⟨v,f1,f2.mono sF⟩
 .have hj:=nj z ht
  rw[d4 hj]at z
  obtain⟨q,y,f1,f2,f3,f4,f5⟩:=r.ows j s z ht
  have hq:q≠p:=λw=>hj (r.dis i j p _ s h z rfl ht e1 (by rw[<-w];exact f1))
  exact⟨q,y,f1,f2,by rw[zk hq];exact f3,by rw[zk hq];exact f4,f5.mono sF⟩
 .have a1:=nj h1 o1
  have a2:=nj h2 o2
  rw[d4 a1]at h1
  rw[d4 a2]at h2
  exact r.dis j k q s s' h1 h2 o1 o2 h3 h4
theorem zfQ {g:SE->Ctl}(i:Nat)(h:SDs X sts g):SDs X sts (zm4 i g):=by
 obtain⟨t,p,r⟩:=h
 refine⟨_,zkO i p,λFb Hb F H ρ σ E rl k=>?_⟩
 unfold zm4 at k
 split at k
 .rename_i tt ks vs hs
  obtain⟨q,u,e1,e2,e3,e4⟩:=rl.fzM hs
  exact⟨q,u,e1,e2,e3,λob=>r Fb Hb _ _ _ σ E (e4 ob) k⟩
 .exact k.elim
theorem zff {z:Bool}{tk tv:TE}{fk fv:Ev->Option D}{σ:St}{ρ:Ev}{F H:Hp}{kd d:D}{kk:List Key}{Q:VK}(rk:RE tk fk)(rv:RE tv fv)(s:zZ F H)(va:VAt F ρ σ)(e1:fk ρ=some kd)(e2:fv ρ=some d)(e3:zes kd=some kk)
 (q:∀ F2 H2 p y,Gr F H F2 H2->H p=none->F2 p=none->H2 p=some (.dT [])->At F2 d y->if z=true then ∀ ob,Q (.ref p) (upd H2 p (.frz ob (.dT [(kk,y)])))else Q (.ref p) (upd H2 p (.dT [(kk,y)]))):zi4 z tk tv σ H Q:=by
 intro p hp
 have g0:=Gr.hide s hp (.dT [])
 refine rk σ ρ F _ kd _ g0.fh va e1 λF1 H1 x g1 a1=>?_
 refine rv σ ρ F1 H1 d _ g1.fh (va.mono g1.ff) e2 λF2 H2 y g2 a2=>?_
 have g12:=g1.trans g2
 obtain⟨n2,h2⟩:=g12.kl (o:=.dT []) (λ_ e=>by cases e) (s.free hp) zm
 obtain⟨b,rfl,hb⟩:=zct e3 a1
 exact⟨h2,b,kk,rfl,g2.fh _ _ (g2.ff _ _ hb),q F2 H2 p y (g0.trans g12) hp n2 h2 a2⟩
def zee (i:Nat)(fk fv:Ev->Option D):SE->Ctl:=fun ρ=>match (fk (visF ρ)).bind λkd=>(fv (visF ρ)).bind λd=>(zes kd).map λk=>Sl.m true [k] [d] with
 | some s=>.nx (ρ.set i s)
 | none=>.no
theorem zeZ {n i:Nat}{x:Str}{fk fv:Ev->Option D}(hr:vw n X.A)(hN:X.N.Nodup)(hi:X.N[i]?=some x)(hx:Loc X.env.scope x)(hk:ED X k fk)(hv:ED X v fv){p2:Pos}
 (hs:swapsWith (.Dict [some k] [v] p2) (some (.Name x pos')) pos.line X.env=pure false:=by rfl)
 (hf:X.fn x=true\/X.env.scope.names.lookup x=some .local:=by first | exact .inl rfl | exact .inr rfl | assumption):SD X (.Assign [.Name x pos'] (.Dict [some k] [v] p2) pos) (zee i fk fv):=by
 obtain⟨tk,pk,rk⟩:=hk
 obtain⟨tv,pv,rv⟩:=hv
 refine⟨_,Xy hN hi hx (ziT (z:=false) (zjA hr) pk pv) hs hf,λFb Hb F H ρ σ E rl kk=>?_⟩
 unfold zee at kk
 cases h:(fk (visF ρ)).bind λkd=>(fv (visF ρ)).bind λd=>(zes kd).map λk=>Sl.m true [k] [d] with
 | none=>rw[h]at kk;exact kk.elim
 | some s =>
  rw[h]at kk
  obtain⟨kd,e1,e⟩:=u4.mp h
  obtain⟨d,e2,e⟩:=u4.mp e
  obtain⟨k0,e3,rfl⟩:=u9.mp e
  refine zff (z:=false) rk rv rl.gr.fh rl.visF e1 e2 e3 λF2 H2 p y g hp n2 h2 ay=>?_
  rw[j0 u6]
  have g2:Gr F H F2 (upd H2 p (.dT [(k0,y)])):=by
   refine⟨g.ff,λb o z=>?_,λb o z1 z2=>?_⟩
   .rw[zk (zh z n2)];exact g.fh b o z
   .rw[zk (zh z2 hp)];exact g.kp b o z1 z2
  refine kk F2 _ _ ((rl.grow g2).setW (rl.notbase hp) n2 zm ⟨[y],?_,.cons ay .nil⟩ (rl.notown hp))
  unfold zbV
  rw[t9 rfl]
  exact⟨_,rfl,rfl,rfl⟩
end
end
end Dl
namespace L2
open PySem PySem.Spec PyProof.Rows
def zex (X:Cx)(x0:Str)(M:List Str)(scope:Scope)(cl:List (Str × Addr))(s₀:Shared)(H₀:Hp)(ex:List Addr)(pn:List (Addr × Obj)):Cx :=
 { X with N:=[x0]++M,s₀:=s₀,H₀:=H₀,env:=compEnvC scope ((x0,s₀.heap.objs.size+1)::cl) s₀.heap.objs.size X.env,outer:=X.stack,stack:=X.stack,ex:=ex,fn:=λy=>y == x0,pn:=pn,xe:=λ_ _=>False }
structure YN (X:Cx) (x0:Str) (M:List Str) (scope:Scope) (cl:List (Str × Addr)):Prop where
 clos:closureFor scope X.env=pure cl
 laid:∀ n,cellsFrom n scope.names cl=(x0,n)::cl
 push:∀ h,pushCells h scope.names=h.push { cls:=.type "cell",data:=.cell none }
 kind:scope.kind=.function
 names:∀ y∈scope.names,y.2=.local->scope.names.lookup y.1=some .local
 sub:∀ y c,cl.lookup y=some c->X.env.cells.lookup y=some c
 has:∀ y,((relabel scope X.env).names.lookup y=some .cell\/(relabel scope X.env).names.lookup y=some .free)->y=x0\/∃ c,cl.lookup y=some c
 mlen:M.length=X.N.length
 ne:∀ (i:Nat) y,M[i]?=some y->Vis (relabel scope X.env) y->y≠x0
 msk:∀ (i:Nat) y,M[i]?=some y->Vis (relabel scope X.env) y->X.N[i]?=some y
 vis:∀ (i:Nat) y,M[i]?=some y->Vis (relabel scope X.env) y->((relabel scope X.env).names.lookup y=some .cell\/(relabel scope X.env).names.lookup y=some .free)
 out:∀ (i:Nat) y,M[i]?=some y->Vis (relabel scope X.env) y->Vis X.env.scope y/\X.env.kindOf y≠some .local
theorem Zc (x0:Str)(a:Addr)(cl:List (Str × Addr))(y:Str):((x0,a)::cl).lookup y=if y=x0 then some a else cl.lookup y:=by
 rw[List.lookup_cons]
 by_cases h:y=x0
 .rw[t9 h,show(y == x0)=true from d8.mpr h]
 .rw[j0 h,show(y == x0)=false from u0h.mpr h]
theorem VM {M:Model} {A:Around} {E:Value->Shared->Prop} {s:Shared} {scope:Scope} {globals:Addr} {cl:List (Str × Addr)} {qual:Str} {env:Env} {x0:Str} {Q:Env->Shared->Prop} (laid:∀ n,cellsFrom n scope.names cl=(x0,n)::cl) (push:∀ h,pushCells h scope.names=h.push { cls:=.type "cell",data:=.cell none })
 (hQ:Q (newEnv scope s.heap.objs.size globals ((x0,s.heap.objs.size+1)::cl) qual none .none (some env) builtinsNs) { s with heap:=(s.heap.push { cls:=.type "dict",data:=.dict #[] }).push { cls:=.type "cell",data:=.cell none } }) :
 wpAny M A (newFunctionEnv scope globals cl [] qual none .none (some env)) Q E s:=by
 simp only[newFunctionEnv,Option.isSome_some,u2A]
 refine u0 (wpAny_alloc ?_)
 refine u0 (wpAny_layCells _ (λname kind cells=>by cases hkc:kind == NameKind.cell <;> simp[hkc]) _ _ _ _ ?_)
 rw[laid,push,show({ s with heap:=s.heap.push { cls:=.type "dict",data:=.dict #[] } }:Shared).heap.objs.size=s.heap.objs.size+1 from u0H ..]
 simp only[u1W]
 exact u0 (u8 (u8 hQ))
theorem zh8 {use:Option (Value->Sem Unit)}{Qf:Value->Shared->Prop}{X:Cx}{elt tg iter:Expr}{ifs:List Expr}{x0:Str}{M:List Str}{scope:Scope}{cl:List (Str × Addr)}{pos:Pos}{wi:TI}{g:TG}{tt:TT}{te:TE}
 (hc:X.calm=true) (S:YN X x0 M scope cl) (hi:PI X tg iter wi)
 (hgS:∀ (σ:St) (v:V) (H:Hp) (Q:St->Hp->Prop),g v (List.replicate 1 none++σ) H Q->g v (List.replicate 1 none++σ) H (fun σ2 H2=>ZJ (List.replicate 1 none++σ) σ2/\Q σ2 H2))
 (hg:∀ s₀ H₀ ex pn,PG (zex X x0 M scope cl s₀ H₀ ex pn) tg g) (ht:∀ s₀ H₀ ex pn,PIf (zex X x0 M scope cl s₀ H₀ ex pn) ifs tt) (he:∀ s₀ H₀ ex pn,PE (zex X x0 M scope cl s₀ H₀ ex pn) elt te)
 (hs:∀ x,foldedSetIterable iter X.env x=pure x:=by intro _;rfl) :
 ∀ (pos':Pos) (pins:List (Addr × Obj)) (s:Shared) (σ:St) (H:Hp) (Q:VK),Inv X pins σ H s->tLC wi 1 g tt te σ H Q ->
  (∀ (D C:Addr) (H':Hp) (s':Shared),Inv X pins σ H' s'->(∃ m,s'.heap.Ns C m)->zbU X pins H' C->Q (.ref D) H'->compPost (model X.prog X.w) X.A X.xe use Qf (.ref D) C (.ok .next) s') ->
  wpAny (model X.prog X.w) X.A (comprehension (.ListComp elt [⟨tg,iter,ifs,0⟩] scope pos) scope X.env pos' (newList []) false (eval iter X.env) use) Qf X.xe s:=by
 intro pos' pins s σ H Q I h fin
 refine wpAny_comprehension_free (use:=use) rfl hs S.clos S.kind S.names (thn (hi pins s σ H _ I h) λv s1 h1=>thn h1 λitv s2 h2=>?_)
 obtain⟨it,fp,tn,J,H2,e,I2,T,st2,f2,q⟩:=h2
 subst e
 have hD:H2 s2.heap.objs.size=none:=I2.hok.fresh (q5 _)
 obtain⟨W,⟨m0,w0⟩,turn⟩:=q _ hD
 refine u0s (VM S.laid S.push ?_)
 have I3:Inv X pins σ (upd H2 s2.heap.objs.size (.lst [])) { s2 with heap:=s2.heap.push { cls:=.type "list",data:=.seq ([]:List Value).toArray } }:=by
  refine I2.laid (t':=s2.toks) (λb u e=>u5 _ e) (q5 _) ?_
  exact⟨u0P _,[],0,.nil,r9 _ rfl⟩
 generalize hs3:({ s2 with heap:=s2.heap.push { cls:=.type "list",data:=.seq ([]:List Value).toArray } }:Shared)=s3 at I3 ⊢
 generalize hh1:(s3.heap.push { cls:=.type "dict",data:=.dict #[] }).push { cls:=.type "cell",data:=.cell none }=h₁
 have hns₁:h₁.Ns s3.heap.objs.size λ_=>none:=by
  rw[<-hh1]
  exact(Heap.Ns.new s3.heap (.type "dict")).keeps λb o e=>u5 _ e
 have hcell₁:h₁.IsCell (s3.heap.objs.size+1) none:=by
  rw[<-hh1]
  refine⟨{ cls:=.type "cell",data:=.cell none },?_,rfl⟩
  rw[<-show(s3.heap.push { cls:=.type "dict",data:=.dict #[] }).objs.size=s3.heap.objs.size+1 from u0H ..]
  exact r9 _ rfl
 have hobj:∀ b∈fp,b < s2.heap.objs.size:=λb hb=>by
  obtain⟨o,ho,_⟩:=T.obj _ _ st2 b hb
  exact j5 ho
 have hz3:s3.heap.objs.size=s2.heap.objs.size+1:=by rw[<-hs3];exact u0H ..
 have k23:∀ b o,s2.heap.get? b=some o->s3.heap.get? b=some o:=λb o e=>by rw[<-hs3];exact u5 _ e
 have k34:∀ b o,s3.heap.get? b=some o->h₁.get? b=some o:=λb o e=>by rw[<-hh1];exact u5 _ (u5 _ e)
 generalize hH3:upd H2 s2.heap.objs.size (.lst [])=H3 at I3 w0
 have hfp3:∀ b∈fp,H3 b=none:=λb hb=>by
  rw[<-hH3,zk (d9 (hobj b hb))]
  exact(f2 b hb).1
 have nfs:∀ b∈fp,b∉frs X.stack:=λb hb z=>by
  obtain⟨_,n1,n2,_⟩:=f2 b hb
  rcases j7.mp (I3.stkSub b z)with e | e
  .exact n1 e
  .exact n2 e
 let Y:Cx:=zex X x0 M scope cl s3 H3 fp (X.pn++pins)
 have old:∀ y c,cl.lookup y=some c->c≠s3.heap.objs.size+1:=λy c e z=>by
  obtain⟨v,o,ho,_⟩:=I3.cell y c (S.sub y c e)
  have:=j5 ho
  rw[z]at this
  exact absurd this (Nat.not_lt.mpr (u02 _))
 have OkY:Y.Ok:=by
  refine⟨I.ok.mod,S.kind,I.ok.glob,I.ok.blt,q5 _,?inj,?has,?cab,I.ok.hd,I.ok.frames,.inl rfl,?exf,
   λb o e=>I3.bs b o e,i3 I.ok.bsz I3.sz,?noex,nfs,I3.stack,I3.stkFree⟩
  case inj =>
   intro x y c h1 h2
   have h1:((x0,s3.heap.objs.size+1)::cl).lookup x=some c:=h1
   have h2:((x0,s3.heap.objs.size+1)::cl).lookup y=some c:=h2
   rw[Zc]at h1 h2
   by_cases ex:x=x0
   .by_cases ey:y=x0
    .rw[ex,ey]
    .rw[t9 ex]at h1
     rw[j0 ey]at h2
     exact absurd (p9 h1) (old y c h2).symm
   .rw[j0 ex]at h1
    by_cases ey:y=x0
    .rw[t9 ey]at h2
     exact absurd (p9 h2) (old x c h1).symm
    .rw[j0 ey]at h2
     exact I.ok.inj x y c (S.sub x c h1) (S.sub y c h2)
  case has =>
   intro x hx
   show ∃ c,((x0,s3.heap.objs.size+1)::cl).lookup x=some c
   rw[Zc]
   rcases S.has x hx with e | ⟨c,e⟩
   .rw[t9 e];exact⟨_,rfl⟩
   .split
    .exact⟨_,rfl⟩
    .exact⟨c,e⟩
  case cab =>
   intro x c hf h1
   have h1:((x0,s3.heap.objs.size+1)::cl).lookup x=some c:=h1
   rw[Zc,t9 (d8.mp hf)]at h1
   cases h1
   exact u02 _
  case exf =>
   refine λb hb=>⟨?_,λx c e z=>?_⟩
   .show b≠s3.heap.objs.size
    exact d9 (d7 (hobj b hb) (by rw[hz3];exact u02 _))
   .have e:((x0,s3.heap.objs.size+1)::cl).lookup x=some c:=e
    rw[Zc]at e
    split at e
    .cases e
     have h1:=hobj b hb
     rw[hz3]at z
     rw[<-z]at h1
     exact absurd h1 (Nat.not_lt.mpr (i3 (u02 _) (u02 _)))
    .exact(f2 b hb).2.2.2.2.1 x c (S.sub x c e) z
  case noex =>
   intro b o e hb
   rcases(f2 b hb).2.2.2.1 with z | z
   .exact I.ok.noex b o e z
   .have h1:=j5 e
    have h2:=I.ok.bsz
    exact absurd (d7 h1 (i3 h2 z)) (u0K _)
 have I4:Inv Y [] (List.replicate 1 none++σ) H3 { s3 with heap:=h₁ }:=by
  refine⟨OkY,rfl,I3.bare,Un.kept k34,⟨_,hns₁,λi y v e1 e2 e3=>?_⟩,λx c e=>?_,I3.hok.fresh (q5 _),λx c e=>?freeC,λp hp=>?_,I3.hok.kept k34,?_⟩
  .have hi:¬ i < 1:=λhlt=>by
    rw[u0O (by simpa using hlt),u0w]at e2
    split at e2 <;> cases e2
   have e0':M[i - 1]?=some y:=by
    have e1:([x0]++M)[i]?=some y:=e1
    rw[u0a (show 1<=i by omega)]at e1
    exact e1
   have e2':σ[i - 1]?=some (some v):=by rw[u0a (by simpa using u1F hi)]at e2;simpa using e2
   have e1':=S.msk _ y e0' e3
   obtain⟨ov,ok⟩:=S.out _ y e0' e3
   obtain⟨m,hn,hl⟩:=I3.loc
   obtain⟨u,ru,lk⟩:=hl _ y v e1' e2' ov
   refine⟨u,ru,?_⟩
   rcases lk with ⟨hk,_⟩ | ⟨_,c,hc',hcell⟩
   .exact absurd hk ok
   .have kn:=S.vis _ y e0' e3
    obtain⟨c',hc2⟩:=(S.has y kn).resolve_left (S.ne _ y e0' e3)
    have:=S.sub y c' hc2
    rw[hc']at this
    cases this
    refine .inr ⟨kn,c,(show((x0,s3.heap.objs.size+1)::cl).lookup y=some c by rw[Zc,j0 (S.ne _ y e0' e3)];exact hc2),?_⟩
    obtain⟨o,ho,hd⟩:=hcell
    exact⟨o,k34 _ _ ho,hd⟩
  .have e:((x0,s3.heap.objs.size+1)::cl).lookup x=some c:=e
   rw[Zc]at e
   split at e
   .cases e
    exact⟨_,hcell₁⟩
   .obtain⟨v,o,ho,hd⟩:=I3.cell x c (S.sub x c e)
    exact⟨v,o,k34 _ _ ho,hd⟩
  .have e:((x0,s3.heap.objs.size+1)::cl).lookup x=some c:=e
   rw[Zc]at e
   split at e
   .cases e
    exact I3.hok.fresh (u02 _)
   .exact I3.freeC x c (S.sub x c e)
  .have hp':p∈X.pn++pins:=by simpa [Y,zex]using hp
   obtain⟨a1,a2,a3,a4,a5⟩:=I3.pin p hp'
   refine⟨k34 _ _ a1,a2,d9 (j5 a1),λz=>?_,a5⟩
   rcases j7.mp (I3.stkSub p.1 z)with e | e
   .exact a3 e
   .exact a4 e
  .show(List.replicate 1 none++σ).length=([x0]++M).length
   rw[r0,r0,u2u,I.len,S.mlen]
   rfl
 have fpY:∀ {H':Hp},(∀ b∈fp,H' b=none)->∀ b∈fp,zbU Y [] H' b:=λ{H'} hn b hb=>by
  refine⟨hn b hb,(OkY.exf b hb).1,nfs b hb,.inl hb,(OkY.exf b hb).2,λp hp=>?_⟩
  have hp':p∈X.pn++pins:=by simpa [Y,zex]using hp
  exact(f2 b hb).2.2.2.2.2 p hp'
 have st4:tn 0 h₁:=T.keep _ _ _ st2 λb hb o e=>k34 b o (k23 b o e)
 -- behind the loop
 have back:∀ (H':Hp) (s':Shared),Inv Y [] (List.replicate 1 none++σ) H' s'->Q (.ref s2.heap.objs.size) H'->compPost (model X.prog X.w) X.A X.xe use Qf (.ref s2.heap.objs.size) s3.heap.objs.size (.ok .next) s':=λH' s' J' q'=>by
  obtain⟨m,hn,_⟩:=J'.loc
  refine fin _ _ H' s' (I3.call' (ch:=fp) J'.os J'.base J'.hok J'.bare λb hb=>?_) ⟨m,hn⟩ (I3.fpOk (q5 _) J'.free) q'
  obtain⟨_,n1,_,n3,n4,n5⟩:=f2 b hb
  exact⟨n3,n1,n4,n5⟩
 have loop:codeAny (model X.prog X.w) X.A (.compLoop (.ListComp elt [⟨tg,iter,ifs,0⟩] scope pos) 0 (.ref it) (.ref s2.heap.objs.size) (compEnvC scope ((x0,s3.heap.objs.size+1)::cl) s3.heap.objs.size X.env))
  (compPost (model X.prog X.w) X.A X.xe use Qf (.ref s2.heap.objs.size) s3.heap.objs.size) { s3 with heap:=h₁ }:=by
  refine we (λn s'=>∃ i ys H',Inv Y [] (List.replicate 1 none++σ) H' s'/\tn i s'.heap/\(∀ b∈fp,H' b=none)/\W i n ys H') ?_ m0 ⟨0,[],H3,I4,st4,hfp3,w0⟩
  rintro n s5 ⟨i,ys,H5,I5,st5,fr5,w5⟩
  rcases turn i n ys H5 w5 with ⟨stop,qn⟩ | ⟨go,hlen,step⟩
  .refine thn (T.done Y rfl rfl rfl hc i [] s5 _ H5 _ I5 (fpY fr5) st5 stop) λr s6 hh9=>?_
   obtain⟨hr,I6⟩:=hh9
   subst hr
   exact back H5 s6 I6 qn
  .refine thn (T.item Y rfl rfl rfl hc i [] s5 _ H5 _ I5 (fpY fr5) st5 go) λr s6 hh9=>?_
   obtain⟨u,hr,h6⟩:=hh9
   subst hr
   refine thn h6 λ_ s7 hh9=>?_
   obtain⟨x,H7,I7,r7,y7,st7,fr7⟩:=hh9
   have I7':=I7.pinned (fpY fr7) (T.obj _ _ st7)
   have g7:=hgS σ x H7 _ (step x H7 y7)
   refine thn (hg _ _ _ _ _ s7 _ H7 x u _ I7' r7 g7) λ_ s8 hh9=>?_
   obtain⟨σ8,H8,I8,sub8,q8⟩:=hh9
   have again:∀ {σ9:St} {H9:Hp} {s9:Shared} {zs:List V},Inv Y ([]++Xv fp s7.heap) σ9 H9 s9->ZJ (List.replicate 1 none++σ) σ9->(∃ m',m' < n/\W (i+1) m' zs H9) ->
    ∃ m,m < n/\∃ i ys H',Inv Y [] (List.replicate 1 none++σ) H' s9/\tn i s9.heap/\(∀ b∈fp,H' b=none)/\W i m ys H':=λ{σ9 H9 s9 zs} I9 sub9 w9=>by
    obtain⟨m',hm,w9⟩:=w9
    refine⟨m',hm,i+1,zs,H9,(I9.sub sub9).unpinned,T.keep _ _ _ st7 λb hb o e=>(I9.pin (b,o) (p8 _ (p8 _ (wv hb e)))).1,λb hb=>?_,w9⟩
    obtain⟨o,e,d⟩:=T.obj _ _ st7 b hb
    exact(I9.pin (b,o) (p8 _ (p8 _ (wv hb e)))).2.1
   refine thn (ht _ _ _ _ _ s8 σ8 H8 _ I8 q8) λb s9 hh9=>?_
   obtain⟨H9,I9,q9⟩:=hh9
   cases b with
   | false =>
    rw[j0 u6]at q9
    rw[j0 u6]
    exact again I9 sub8 q9
   | true =>
    rw[t9 rfl]at q9
    rw[t9 rfl]
    refine thn (he _ _ _ _ _ s9 σ8 H9 _ I9 q9) λy s10 hh9=>?_
    obtain⟨yv,H10,I10,r10,hD10,w10⟩:=hh9
    obtain⟨z10,its,k,rv,e10⟩:ys.length<=sizeLine/\∃ (its:List Value) (n:Nat),yl ys its/\s10.heap.get? s2.heap.objs.size=some { cls:=.type "list",data:=.seq its.toArray n }:=I10.hok _ _ hD10
    have hl10:s10.heap.PlainList s2.heap.objs.size its.toArray:=⟨k,e10⟩
    refine wpAny_list_append_plain (hsz:=by rw[j3,<- rv.length];exact z10) hl10 λh11 hl11 sb11=>?_
    obtain⟨k',e11⟩:=hl11
    have I11:Inv Y ([]++Xv fp s7.heap) σ8 (upd H10 s2.heap.objs.size (.lst (ys++[yv]))) { s10 with heap:=h11 }:=by
     refine I10.write (x:=s2.heap.objs.size) (e:=s2.heap.objs.size) (t':=s10.toks) (by rw[hD10];exact True.intro) (.inl rfl) (λb u hb e=>(sb11.2 b hb).trans e) ⟨_,e11⟩ ?_
     refine⟨by rw[r0];show ys.length+1<=sizeLine;exact hlen,its++[y],k',rv.append (.cons r10 .nil),?_⟩
     rw[e11]
     simp
    exact again I11 sub8 w10
 exact codeAny_compStart_list loop (T.self _ 0 _ _ _ st4 loop)
theorem zln {X:Cx}{elt tg iter:Expr}{ifs:List Expr}{x0:Str}{M:List Str}{scope:Scope}{cl:List (Str × Addr)}{pos:Pos}{wi:TI}{g:TG}{tt:TT}{te:TE}
 (hc:X.calm=true) (S:YN X x0 M scope cl) (hi:PI X tg iter wi)
 (hgS:∀ (σ:St) (v:V) (H:Hp) (Q:St->Hp->Prop),g v (List.replicate 1 none++σ) H Q->g v (List.replicate 1 none++σ) H (fun σ2 H2=>ZJ (List.replicate 1 none++σ) σ2/\Q σ2 H2))
 (hg:∀ s₀ H₀ ex pn,PG (zex X x0 M scope cl s₀ H₀ ex pn) tg g) (ht:∀ s₀ H₀ ex pn,PIf (zex X x0 M scope cl s₀ H₀ ex pn) ifs tt) (he:∀ s₀ H₀ ex pn,PE (zex X x0 M scope cl s₀ H₀ ex pn) elt te)
 (hs:∀ x,foldedSetIterable iter X.env x=pure x:=by intro _;rfl) :
 PE X (.ListComp elt [⟨tg,iter,ifs,0⟩] scope pos) (tLC wi 1 g tt te):=by
 intro pins s σ H Q I h
 rw[eval_ListComp]
 refine zh8 hc S hi hgS hg ht he hs _ pins s σ H Q I h λD C H' s' I' ⟨m,hn⟩ f q=>⟨m,hn,λh' sb=>⟨.ref D,_,I'.letGo f sb,rfl,q⟩⟩
def Vu (names rn dn:List (Str × NameKind))(x0:Str)(N M cn:List Str):Bool :=
 names.all (λy=>decide (y.2=.local->names.lookup y.1=some .local)) &&
 rn.all (λy=>decide ((y.2=.cell\/y.2=.free)->y.1=x0\/y.1∈cn)) &&
 (M.length == N.length)&&(M.zip N).all (λp=>decide ((rn.lookup p.1=some .local\/rn.lookup p.1=some .cell\/rn.lookup p.1=some .free)->p.1=p.2)) &&
 M.all (λy=>decide ((rn.lookup y=some .local\/rn.lookup y=some .cell\/rn.lookup y=some .free) ->
  y≠x0/\(rn.lookup y=some .cell\/rn.lookup y=some .free)/\(dn.lookup y=some .local\/dn.lookup y=some .cell\/dn.lookup y=some .free)/\dn.lookup y≠some .local))
theorem zjn {X:Cx}{x0:Str}{N M cn:List Str}{scope:Scope}{cl:List (Str × Addr)}{rn dn:List (Str × NameKind)}(hr:(relabel scope X.env).names=rn)(hd:X.env.scope.names=dn)(hN:X.N=N)
 (clos:closureFor scope X.env=pure cl) (laid:∀ n,cellsFrom n scope.names cl=(x0,n)::cl) (push:∀ h,pushCells h scope.names=h.push { cls:=.type "cell",data:=.cell none }) (kind:scope.kind=.function) (hc:cl.map Prod.fst=cn) (good:Vu scope.names rn dn x0 N M cn=true) (sub:∀ p∈cl,X.env.cells.lookup p.1=some p.2):YN X x0 M scope cl:=by
 unfold Vu at good
 simp only[g9,u0y,d5]at good
 obtain⟨⟨⟨⟨g2,g3⟩,g5⟩,g6⟩,g4⟩:=good
 have g5:M.length=N.length:=by simpa using g5
 refine⟨clos,laid,push,kind,g2,λy c h=>sub (y,c) (u0g h),λy h=>?_,by rw[hN];exact g5,λi y e v=>?_,λi y e v=>?_,λi y e v=>?_,λi y e v=>?_⟩
 .rw[hr]at h
  have hy:y=x0\/y∈cn:=by
   rcases h with h | h
   .exact g3 _ (u0g h) (.inl rfl)
   .exact g3 _ (u0g h) (.inr rfl)
  exact hy.imp id λhy=>vq (by rw[hc];exact hy)
 .unfold Vis at v
  rw[hr]at v
  exact(g4 y (j4 e) v).1
 .unfold Vis at v
  rw[hr]at v
  have hi:=(t7.mp e).1
  have hj:i < N.length:=by rw[<-g5];exact hi
  have hz:(M.zip N)[i]?=some (y,N[i]):=by
   rw[u3g]
   exact⟨e,j6 hj⟩
  have:=g6 _ (j4 hz) v
  rw[hN,j6 hj]
  exact u05 some this.symm
 .unfold Vis at v
  rw[hr]at v ⊢
  exact(g4 y (j4 e) v).2.1
 .unfold Vis at v
  rw[hr]at v
  obtain⟨_,_,k1,k2⟩:=g4 y (j4 e) v
  refine⟨?_,?_⟩
  .unfold Vis;rw[hd];exact k1
  .show X.env.scope.names.lookup y≠_;rw[hd];exact k2
end L2
namespace Dl
open PySem L2
variable [KK]
theorem zgg {X:Cx}{elt tg iter c:Expr}{x0:Str}{M:List Str}{scope:Scope}{cl:List (Str × Addr)}{pos:Pos}{fi:Ev->Option (List D)}{b:D->Option (List (Option D))}{ft:Ev->Option Bool}{fe:Ev->Option D}{g:TG}
 (hc:X.calm=true) (S:YN X x0 M scope cl) (hi:ID X tg iter fi)
 (hgS:∀ (σ:St) (v:V) (H:Hp) (Q:St->Hp->Prop),g v (List.replicate 1 none++σ) H Q->g v (List.replicate 1 none++σ) H (fun σ2 H2=>ZJ (List.replicate 1 none++σ) σ2/\Q σ2 H2))
 (hrb:RB 1 g b)
 (hg:∀ s₀ H₀ ex pn,PG (zex X x0 M scope cl s₀ H₀ ex pn) tg g) (ht:∀ s₀ H₀ ex pn,TD (zex X x0 M scope cl s₀ H₀ ex pn) c ft) (he:∀ s₀ H₀ ex pn,ED (zex X x0 M scope cl s₀ H₀ ex pn) elt fe)
 (hs:∀ x,foldedSetIterable iter X.env x=pure x:=by intro _;rfl):FL X (.ListComp elt [⟨tg,iter,[c],0⟩] scope pos) (fLC fi b ft fe):=by
 obtain⟨wi,pi,ri⟩:=hi
 exact⟨_,zln hc S pi hgS hg (λ_ _ _ _=>zgh (ht _ _ _ _).can) (λ_ _ _ _=>(he _ _ _ _).can) hs,zkJ ri hrb zi8 zgX⟩
end Dl
namespace L2
open PySem PySem.Spec PyProof.Rows
def KD {α:Type}:Sem α->Prop
 | .pure _=>True
 | .raise _=>True
 | .unsupported _=>True
 | .finish _=>True
 | .rule _ k=>KD (k ())
 | .at _ k=>KD (k ())
 | .load _ _ k=>∀ o,KD (k o)
 | .update _ _ f k=>(∀ o,(f o).dict=o.dict)/\KD (k ())
 | .loadIfAlive _ k=>∀ o,KD (k o)
 | .point _ k=>KD (k ())
 | .register _ _=>True
 | .alloc _ k=>∀ a,KD (k a)
 | .fresh k=>∀ t,KD (k t)
 | .ask k=>∀ x,KD (k x)
 | .handled _ k=>∀ x,KD (k x)
 | .stack k=>∀ x,KD (k x)
 | .thread k=>∀ n,KD (k n)
 | .choose _ _ _=>False
 | .os _ _ _=>False
 | .call _ _ _ _ _=>False
 | .newGen _ _=>False
 | .genState _ _=>False
 | .resume _ _ _ _=>False
 | .yield _ _ _ _=>False
 | .fork _ _=>False
 | .await _ _ _ _ _=>False
theorem zjt {α β:Type}(f:α->Sem β)(hf:∀ a,KD (f a)):∀ (m:Sem α),KD m->KD (m.bind f):=by
 intro m
 induction m with
 | pure a=>intro _;exact hf a
 | raise e=>intro _;trivial
 | unsupported w=>intro _;trivial
 | finish e=>intro _;trivial
 | rule t k ih=>intro h;exact ih () h
 | «at» p k ih=>intro h;exact ih () h
 | load a p k ih=>intro h o;exact ih o (h o)
 | update a p g k ih=>intro h;exact⟨h.1,ih () h.2⟩
 | loadIfAlive a k ih=>intro h o;exact ih o (h o)
 | point l k ih=>intro h;exact ih () h
 | register a k ih=>intro h;trivial
 | alloc o k ih=>intro h a;exact ih a (h a)
 | fresh k ih=>intro h a;exact ih a (h a)
 | ask k ih=>intro h a;exact ih a (h a)
 | handled o k ih=>intro h a;exact ih a (h a)
 | stack k ih=>intro h a;exact ih a (h a)
 | thread k ih=>intro h a;exact ih a (h a)
 | choose s n k ih=>intro h;exact h.elim
 | os q l k ih=>intro h;exact h.elim
 | call c h g l k ih=>intro h;exact h.elim
 | newGen c k ih=>intro h;exact h.elim
 | genState g k ih=>intro h;exact h.elim
 | resume g r l k ih=>intro h;exact h.elim
 | yield v g l k ih=>intro h;exact h.elim
 | fork c k ih=>intro h;exact h.elim
 | await a f d l k ih=>intro h;exact h.elim
theorem zT {α β:Type}{m:Sem α}{f:α->Sem β}(hm:KD m)(hf:∀ a,KD (f a)):KD (m>>=f):=zjt f hf m hm
def DK (h h':Heap):Prop:=∀ (b:Nat) (o:Obj),h.objs[b]?=some o->∃ o':Obj,h'.objs[b]?=some o'/\o'.dict=o.dict
theorem DK.refl (h:Heap):DK h h:=λ_ o e=>⟨o,e,rfl⟩
theorem DK.trans {h1 h2 h3:Heap}(a:DK h1 h2)(b:DK h2 h3):DK h1 h3:=λp o e=>by
 obtain⟨o1,e1,d1⟩:=a p o e
 obtain⟨o2,e2,d2⟩:=b p o1 e1
 exact⟨o2,e2,d2.trans d1⟩
theorem DK.push (h:Heap)(o:Obj):DK h (h.push o):=λb u e=>by
 refine⟨u,?_,rfl⟩
 obtain⟨objs,l⟩:=h
 show(objs.push o)[b]?=some u
 have hb:b < objs.size:=(u1g.mp e).1
 rw[Array.getElem?_push_lt hb]
 exact(u1g.mp e).2 ▸ rfl
theorem DK.update (h:Heap)(a:Addr){f:Obj->Obj}(hf:∀ o,(f o).dict=o.dict):DK h (h.update a f):=λb u e=>by
 obtain⟨objs,l⟩:=h
 show ∃ o',(objs.modify a f)[b]?=some o'/\_
 rw[Array.getElem?_modify]
 have e:objs[b]?=some u:=e
 split
 .rw[e];exact⟨f u,rfl,hf u⟩
 .rw[e];exact⟨u,rfl,rfl⟩
theorem zgq {h:Heap}{b:Addr}{o:Obj}(e:h.get? b=some o):h.objs[b]?=some o:=by
 unfold Heap.get? at e
 split at e
 .cases e
 .exact e
theorem DK.of {h h':Heap}{b:Addr}{o o':Obj}(k:DK h h')(e:h.get? b=some o)(e':h'.get? b=some o'):o'.dict=o.dict:=by
 obtain⟨o2,e2,d⟩:=k b o (zgq e)
 rw[zgq e']at e2
 cases e2
 exact d
theorem znv {α:Type}(M:Model)(Γ:PySem.Ctx):∀ (m:Sem α) (Q:α->Pos->Shared->Prop) (E:Value->Pos->Shared->Prop) (p:Pos) (s s0:Shared),KD m->DK s0.heap s.heap->Sem.wp M Γ m Q E p s ->
 Sem.wp M Γ m (λa p s'=>Q a p s'/\DK s0.heap s'.heap) (λe p s'=>E e p s'/\DK s0.heap s'.heap) p s:=by
 intro m
 induction m with
 | pure a=>intro Q E p s s0 _ k h;exact⟨h,k⟩
 | raise e=>intro Q E p s s0 _ k h;exact⟨h,k⟩
 | unsupported w=>intro Q E p s s0 _ k h;exact h
 | finish e=>intro Q E p s s0 _ k h;exact h
 | rule t k ih=>intro Q E p s s0 c d h;exact ih () Q E p s s0 c d h
 | «at» p k ih=>intro Q E p s s0 c d h;exact ih () Q E _ s s0 c d h
 | load a p k ih =>
  intro Q E p s s0 c d h
  obtain⟨o,e,h⟩:=h
  exact⟨o,e,ih o Q E p s s0 (c o) d h⟩
 | update a p g k ih =>
  intro Q E p s s0 c d h
  obtain⟨e,h⟩:=h
  exact⟨e,ih () Q E p _ s0 c.2 (d.trans (.update s.heap a c.1)) h⟩
 | loadIfAlive a k ih=>intro Q E p s s0 c d h;exact ih _ Q E p s s0 (c _) d h
 | point l k ih=>intro Q E p s s0 c d h;exact ih () Q E p s s0 c d h
 | register a k ih=>intro Q E p s s0 c d h;exact h
 | alloc o k ih=>intro Q E p s s0 c d h;exact ih _ Q E p _ s0 (c _) (d.trans (.push s.heap o)) h
 | fresh k ih=>intro Q E p s s0 c d h;exact ih _ Q E p _ s0 (c _) d h
 | ask k ih=>intro Q E p s s0 c d h;exact ih _ Q E p s s0 (c _) d h
 | handled o k ih=>intro Q E p s s0 c d h;exact ih _ Q E p s s0 (c _) d h
 | stack k ih=>intro Q E p s s0 c d h;exact ih _ Q E p s s0 (c _) d h
 | thread k ih=>intro Q E p s s0 c d h;exact ih _ Q E p s s0 (c _) d h
 | choose s n k ih=>intro Q E p s s0 c;exact c.elim
 | os q l k ih=>intro Q E p s s0 c;exact c.elim
 | call c h g l k ih=>intro Q E p s s0 c;exact c.elim
 | newGen c k ih=>intro Q E p s s0 c;exact c.elim
 | genState g k ih=>intro Q E p s s0 c;exact c.elim
 | resume g r l k ih=>intro Q E p s s0 c;exact c.elim
 | yield v g l k ih=>intro Q E p s s0 c;exact c.elim
 | fork c k ih=>intro Q E p s s0 c;exact c.elim
 | await a f d l k ih=>intro Q E p s s0 c;exact c.elim
theorem zld {α:Type}{M:Model}{A:Around}{t:Sem α}{Q:α->Shared->Prop}{E:Value->Shared->Prop}{s:Shared}(c:KD t)(h:wpAny M A t Q E s) :
 wpAny M A t (λa s'=>Q a s'/\DK s.heap s'.heap) (λe s'=>E e s'/\DK s.heap s'.heap) s:=fun Γ p hΓ=>znv M Γ t _ _ p s s c (.refl _) (h Γ p hΓ)
theorem WN {α:Type}{M:Model}{A:Around}{t:Sem α}{Q Q':α->Shared->Prop}{E:Value->Shared->Prop}{s:Shared}(c:KD t)(h:wpAny M A t Q E s)(k:∀ a s',Q a s'->DK s.heap s'.heap->Q' a s'):wpAny M A t Q' E s :=
 u0v (zld c h) (λa s' x=>k a s' x.1 x.2) λ_ _ x=>x.1
theorem zce (v:Value):KD (fieldsOf v):=by
 unfold fieldsOf
 split
 .refine zT (λ_=>trivial) λo=>?_
  split <;> trivial
 .trivial
theorem X3 (v:Value)(i:Nat):KD (field v i):=by
 unfold field
 refine zT (zce v) λvs=>?_
 split <;> trivial
theorem WV (f:Array Value->Array Value)(o:Obj):(Obj.mapFields f o).dict=o.dict:=by
 obtain⟨c,d,x,s⟩:=o
 cases x <;> rfl
theorem Zj (v:Value)(i:Nat)(x:Value):KD (setField v i x):=by
 unfold setField
 split
 .unfold updateField
  refine zT (λ_=>trivial) λo=>?_
  split
  .split
   .exact⟨WV _,trivial⟩
   .trivial
  .trivial
 .trivial
theorem Yt (e:Value)(f:Option Addr):KD (setFlight e f):=by
 unfold setFlight
 refine zT (X3 e 1) λtb=>?_
 split
 .exact Zj _ _ _
 .trivial
theorem zbf (ty:String)(vs:List Value):KD (newFields ty vs):=by
 have last:KD (newObjAsIs (Value.type ty) (Data.fields vs.toArray)):=zT (λ_=>trivial) λ_=>trivial
 unfold newFields newObj
 show KD (if vs.toArray.size > sizeLine+2 then _ else _)
 by_cases h:vs.toArray.size > sizeLine+2
 .rw[t9 h]
  exact zT (show KD (unsupported (α:=Unit) _)from trivial) λ_=>last
 .rw[j0 h]
  exact last
theorem zb2 (a b c d e:Value)(pl:List Value):KD (EntryCells.newEntry a b c d e pl):=zbf _ _
theorem ziI (f:Addr)(b:Bool):KD (entryPlaceOf f b):=by
 unfold entryPlaceOf
 refine zT (λ_=>trivial) λacts=>?_
 split <;> trivial
theorem zaU:KD frameEnvs:=by
 unfold frameEnvs
 exact zT (λ_=>trivial) λ_=>trivial
theorem zhj:∀ l:List Env,KD (readyFrames l):=by
 intro l
 induction l with
 | nil=>trivial
 | cons env outer ih =>
  unfold readyFrames
  split
  .refine zT (λ_=>trivial) λo=>?_
   split
   .trivial
   .refine zT ?_ λb=>zT ?_ λbk=>zT ⟨λo=>rfl,trivial⟩ λ_=>ih
    .unfold behindIsImport
     split
     .trivial
     .split
      .trivial
      .exact zT (X3 _ _) λ_=>trivial
    .unfold keptBack
     split
     .split
      .trivial
      .unfold underTheClaimsCaller
       exact zT (λ_=>trivial) λ_=>trivial
     .trivial
  .trivial
theorem zdI (env:Env):KD (PySem.frameOf env):=by
 unfold PySem.frameOf
 refine zT zaU λl=>zT ?_ λo=>?_
 .unfold frameObject
  split
  .trivial
  .exact zT (zhj _) λ_=>trivial
 .split <;> trivial
theorem Xw (e:Value)(env:Env):KD (noteFrame e env):=by
 unfold noteFrame
 split
 .rename_i f hf
  refine zT (X3 e 1) λhead=>?_
  have last:KD (do setField e 1 (<- EntryCells.newEntry head (<- PySem.frameOf env) .none (rawInt f) .none (<- entryPlaceOf f (head != .none)))):=zT (zdI env) λ_=>zT (ziI _ _) λ_=>zT (zb2 _ _ _ _ _ _) λ_=>Zj _ _ _
  by_cases h:(head != Value.none)=true
  .dsimp only
   rw[t9 h]
   refine zT (X3 head 3) λx=>?_
   split
   .trivial
   .exact zT (Zj _ _ _) λ_=>last
  .dsimp only
   rw[j0 h]
   exact last
 .trivial
theorem Vo (env:Env)(e:Value):KD (leaving env e):=zT (Xw e env) λ_=>Yt e none
end L2
namespace L2
open PySem PySem.Spec PyProof.Rows
open Sem (wp)
abbrev exH (h:Heap) (C:Addr) (us:List Value):Heap:=(h.push { cls:=.type "tuple",data:=.seq us.toArray }).push { cls:=.ref C,data:=.fields #[.ref h.objs.size,.none,.none,.none,.bool false,.none] }
theorem wJ {h:Heap}{C:Addr}{us:List Value}{b:Addr}{o:Obj}(e:h.get? b=some o):(exH h C us).get? b=some o:=u5 _ (u5 _ e)
theorem ziX (h:Heap)(C:Addr)(us:List Value):(exH h C us).get? (h.objs.size+1)=some { cls:=.ref C,data:=.fields #[.ref h.objs.size,.none,.none,.none,.bool false,.none] }:=by heap_get
section
variable {prog:Program}{w:World}{A:Around}{E:Value->Shared->Prop}{h:Heap}{g:Array GenState}{d:Drawn}{t:Nat}{os:OsState}
 {nm q:Str} {C N fI:Addr} {bs bm:List Value} {hdct:Bool} {sn:List Str} {sub:List Value} {ab:Bool} {col:Option Bool} {dd:Option Addr} {k0 k1 k2 k3 k5:Option Value} {mN:Str->Option Value} {us:List Value} {oI:Obj}
theorem zen {R:Fin->Shared->Prop} (T:OwnTail h [.type "ValueError",.type "Exception",.type "BaseException",.type "object"] bm) (hC:h.get? C=some (excClassObj nm q C N bs bm hdct sn sub ab col dd k0 k1 k2 k3 k5 "ValueError.__new__")) (hN:h.Ns N mN) (hi:mN "__init__"=some (.ref fI)) (hf:h.get? fI=some oI) (hc:oI.cls=.type "function")
 (k:wpAny (model prog w) A (call (.ref fI) (.ref (h.objs.size+1)::us)) (λr s'=>r=.none/\R (.done (.ret (.ref (h.objs.size+1)))) s') E ⟨exH h C us,g,d,t,os⟩) (hu:us.length<=sizeLine) :
 wpAny (model prog w) A (Builtin.«type.__call__» ⟨.ref C::us,[]⟩) R E ⟨h,g,d,t,os⟩:=by
 have FV:=u22
 repeat (first | with_reducible refine wpAny_madeBy_exc hC ?_ | with_reducible refine u1S hC ?_ | wp_step)
 refine codeAny_call_builtin_code (u26 _ FV.quiet) (wpAny_check_new_subU FV (by decide) T hC (codeAny_exc_new_subU FV (by decide) FV T hC ?_ hu))
 show wpAny _ _ _ _ _ _
 have gC:=wJ (us:=us) (C:=C) hC
 have gf:=wJ (us:=us) (C:=C) hf
 have gN:(exH h C us).Ns N mN:=let ⟨ob,ens,epo,e1,r1⟩:=hN;⟨ob,ens,epo,wJ e1,r1⟩
 have gT:=T.keeps (h':=exH h C us) λb o e=>wJ e
 have ge:=ziX h C us
 have inC:(Value.ref C::bm).contains (.ref C)=true:=by simp
 unfold isInstance
 repeat (first | (with_reducible refine wpAny_isSubtype_exc gC ?_;rw[inC]) | with_reducible refine u1S ge ?_ | wp_step)
 show wpAny _ _ (typeLookup (.ref C) _) _ _ _
 refine wpAny_typeLookup_tail gC gN gT FV.mroIs FV.init.lookup ?_
 rw[hi]
 refine u0n (u0 ?_)
 unfold bindSpecial
 refine u0 (u2w (T:="function") ⟨_,gf,hc⟩ ?_)
 rw[t9 (by decide)]
 refine u8 (u0 (u0v k (λr s' hr=>?_) λ_ _ z=>z))
 obtain⟨rfl,hr⟩:=hr
 wp_walk
 exact hr
theorem zeP {R:Value->Shared->Prop} (T:OwnTail h [.type "ValueError",.type "Exception",.type "BaseException",.type "object"] bm) (hC:h.get? C=some (excClassObj nm q C N bs bm hdct sn sub ab col dd k0 k1 k2 k3 k5 "ValueError.__new__")) (hN:h.Ns N mN) (hi:mN "__init__"=some (.ref fI)) (hf:h.get? fI=some oI) (hc:oI.cls=.type "function")
 (k:wpAny (model prog w) (A.under (.builtin "type.__call__" ⟨.ref C::us,[]⟩)) (call (.ref fI) (.ref (h.objs.size+1)::us)) (λr s'=>r=.none/\R (.ref (h.objs.size+1)) s') E ⟨exH h C us,g,d,t,os⟩) (hu:us.length<=sizeLine) :
 wpAny (model prog w) A (call (.ref C) us) R E ⟨h,g,d,t,os⟩:=by
 have l1:=tc_lookup
 have l2:=tc_bind (.ref C)
 have tp:(⟨h,g,d,t,os⟩:Shared).TypeIs (.ref C) "type":=⟨_,hC,rfl⟩
 refine u2K (codeAny_of_tree ?_)
 show wpAny _ _ (callAny (.ref C) _) _ _ _
 repeat (any_goals (first | with_reducible refine u1S hC ?_ | assumption | wp_step))
 refine⟨rfl,codeAny_call_builtin_at (u26 _ (by decide +kernel)) entry_typeCall (wpAny_check_type_call_sub hC (zen T hC hN hi hf hc ?_ hu))⟩
 exact k
end
theorem zdD {M:Model}{A:Around}{E:Value->Shared->Prop}{env:Env}{s:Shared}{x:Sem Value}{Q:Flow->Shared->Prop}{nm q:Str}{C N:Addr}{bs bm:List Value}{hdct:Bool}{sn:List Str}{sub:List Value}{ab:Bool}{col:Option Bool}{dd:Option Addr}{k0 k1 k2 k3 k5:Option Value}{newId:String}
 (hb:bm.contains (.type "BaseException")=true) (hh:A.handled=none) (h:wpAny M A x (λv s1=>∃ e t od sl,v=.ref e/\s1.heap.get? C=some (excClassObj nm q C N bs bm hdct sn sub ab col dd k0 k1 k2 k3 k5 newId) /\
  s1.heap.get? e=some { cls:=.ref C,dict:=od,data:=.fields #[.ref t,.none,.none,.none,.bool false,.none],slots:=sl }/\E (.ref e) s1) E s):wpAny M A (raiseStmt env (some x) none) Q E s:=by
 have inB:(Value.ref C::bm).contains (.type "BaseException")=true:=by rw[List.contains_cons,hb,Bool.or_true]
 unfold raiseStmt
 refine u0 (u0v h (λv s1 z=>?_) λ_ _ z=>z)
 obtain⟨e,t,od,sl,rfl,gC,ge,hE⟩:=z
 obtain⟨hp,gg,dd',tk,os⟩:=s1
 repeat (first | with_reducible refine u1S gC ?_ | with_reducible refine u1S ge ?_ | (with_reducible refine wpAny_isSubtype_exc gC ?_;rw[inB]) | wp_step)
 exact wpAny_raiseNew_none hh hE
end L2
namespace L2
open PySem PySem.Spec PyProof.Rows
section
variable {prog:Program}{w:World}{A:Around}{E:Value->Shared->Prop}{s:Shared}{env:Env}
 {nm q:Str} {C N fI:Addr} {bs bm:List Value} {hdct:Bool} {sn:List Str} {sub:List Value} {ab:Bool} {col:Option Bool} {dd:Option Addr} {k0 k1 k2 k3 k5:Option Value} {mN:Str->Option Value} {oI:Obj}
theorem zdR {x:Str} {np cpos pos:Pos} {args:List Expr} {Q:Flow->Shared->Prop} (hb:bm.contains (.type "BaseException")=true) (hh:A.handled=none) (hpl:(backTo cpos (starEach args env)).any (·.1)=false) (hi:mN "__init__"=some (.ref fI)) (hc:oI.cls=.type "function")
 (h:wpAny (model prog w) A (eval (.Name x np) env) (λf s1=>f=.ref C/\wpAny (model prog w) A (evalArgs (.ref C) true (backTo cpos (starEach args env)) []) (λa s2=>a.kw=[]/\a.pos.length<=sizeLine /\
  s2.heap.get? C=some (excClassObj nm q C N bs bm hdct sn sub ab col dd k0 k1 k2 k3 k5 "ValueError.__new__")/\s2.heap.Ns N mN/\OwnTail s2.heap [.type "ValueError",.type "Exception",.type "BaseException",.type "object"] bm/\s2.heap.get? fI=some oI /\
  wpAny (model prog w) (A.under (.builtin "type.__call__" ⟨.ref C::a.pos,[]⟩)) (call (.ref fI) (.ref (s2.heap.objs.size+1)::a.pos)) (λr s3=>r=.none/\∃ t od sl,s3.heap.get? C=some (excClassObj nm q C N bs bm hdct sn sub ab col dd k0 k1 k2 k3 k5 "ValueError.__new__") /\
   s3.heap.get? (s2.heap.objs.size+1)=some { cls:=.ref C,dict:=od,data:=.fields #[.ref t,.none,.none,.none,.bool false,.none],slots:=sl }/\E (.ref (s2.heap.objs.size+1)) s3) E { s2 with heap:=exH s2.heap C a.pos }) E s1) E s) :
 wpAny (model prog w) A (exec (.Raise (some (.Call (.Name x np) args [] cpos)) none pos) env) Q E s:=by
 rw[arm_exec_Raise]
 refine u0 (u2I (zdD (C:=C) (nm:=nm) (q:=q) (N:=N) (bs:=bs) (bm:=bm) (hdct:=hdct) (sn:=sn) (sub:=sub) (ab:=ab) (col:=col) (dd:=dd) (k0:=k0) (k1:=k1) (k2:=k2) (k3:=k3) (k5:=k5) (newId:="ValueError.__new__") hb hh (u0 (u0v (wpAny_Call_ofName (u0v h (λf s1 z=>?_) λ_ _ z=>z)) (λv s3 z=>u0 (u2I (u8 z))) λ_ _ z=>z))))
 obtain⟨rfl,z⟩:=z
 unfold callWith
 refine u0 (u0n (u0v z (λa s2 y=>u0 (u2I ?_)) λ_ _ z=>z))
 obtain⟨us,kw⟩:=a
 obtain⟨ekw,hlen,gC,gN,gT,gf,run⟩:=y
 obtain rfl:kw=[]:=ekw
 obtain⟨hp,g,d,tk,os⟩:=s2
 simp only[hpl]
 refine u0 (wpAny_keeperOf_exc gC (u0 (zeP gT gC gN hi gf hc (u0v run (λr s3 y=>?_) λ_ _ z=>z) hlen)))
 obtain⟨rfl,t,od,sl,hC3,he3,hE⟩:=y
 exact⟨rfl,u0 (u0n (wpAny_point (u8 ⟨_,t,od,sl,rfl,hC3,he3,hE⟩)))⟩
end
def zlK (K:W.Frag)(C f:Addr):Bool:=match K.lookup C with
 | some ⟨.type "type",_,.cls cd,sl⟩=>(match cd.mro,sl.toList with
  | .ref C'::bm,[_,_,_,_,some (.builtin n),_]=>(C' == C)&&(n == "ValueError.__new__"&&(!cd.hasDel&&(cd.hasDict&&(W.tailIn K [.type "ValueError",.type "Exception",.type "BaseException",.type "object"] bm&&(W.nsOkIn K cd.ns&&(W.nsIn K cd.ns "__init__" == some (some (.ref f))&&(match K.lookup f with | some of=>of.cls == .type "function" | none=>false)))))))
  | _,_=>false)
 | _=>false
theorem zkP {K:W.Frag}{h:Heap}{N:Addr}{m:Str->Option Value}{n:Str}{v:Value}(X:K.In h)(G:h.Ns N m)(e:W.nsIn K N n=some (some v)):m n=some v:=by
 obtain⟨ob,ens,epo,ho,hd,_,hf⟩:=G
 unfold W.nsIn at e
 split at e
 .rename_i ql
  have z:=(X _ _ ql).symm.trans ho
  cases z
  cases hd
  split at e
  .rename_i en he
   cases e
   rw[<-hf]
   unfold nsFind findBy
   rw[<-Array.find?_toList,he]
   rfl
  .split at e <;> cases e
 .cases e
theorem zhJ {K:W.Frag}{h0:Heap}{C f:Addr}(X:K.In h0)(e:zlK K C f=true) :
 ∃ bm N nm q bs sn sub ab col dd k0 k1 k2 k3 k5 mN oI,h0.get? C=some (excClassObj nm q C N bs bm true sn sub ab col dd k0 k1 k2 k3 k5 "ValueError.__new__")/\h0.Ns N mN/\mN "__init__"=some (.ref f)/\OwnTail h0 [.type "ValueError",.type "Exception",.type "BaseException",.type "object"] bm/\h0.get? f=some oI/\oI.cls=.type "function":=by
 unfold zlK at e
 split at e
 .rename_i dd cd sl ho
  split at e
  .rename_i C' bm k0 k1 k2 k3 n k5 hm hs
   simp only[g9,d8,u1Q]at e
   obtain⟨rfl,rfl,hdel,hdict,ht,hok,hi,hf⟩:=e
   obtain⟨nm,bs,mro,ns,qn,hd,sn,sub,ab,col,del⟩:=cd
   dsimp only at hm hdel hdict hok hi
   subst hm hdel hdict
   have hsl:sl=#[k0,k1,k2,k3,some (.builtin "ValueError.__new__"),k5]:=by
    obtain⟨l⟩:=sl
    simp only at hs
    rw[hs]
   subst hsl
   split at hf
   .rename_i oI hoI
    exact⟨bm,ns,nm,qn,bs,sn,sub,ab,col,dd,k0,k1,k2,k3,k5,h0.nsMap ns,oI,X _ _ ho,.of_isNs (W.isNs_of_in X hok),zkP X (.of_isNs (W.isNs_of_in X hok)) hi,W.tail_of_in X ht,X _ _ hoI,d8.mp hf⟩
   .cases hf
  .cases e
 .cases e
end L2
namespace L2
open PySem PySem.Spec PyProof.Rows PySem.Builtin PySem.Builtin.ObjectAttr
abbrev veV:List Value:=[.type "ValueError",.type "Exception",.type "BaseException",.type "object"]
def ze9:List Value->Bool
 | .ref _::r=>ze9 r
 | l=>l == veV
theorem ze6 (self:Value):∀ {l:List Value},ze9 l=true->refuseLoop self "__setattr__" l=pure ():=by
 intro l
 induction l with
 | nil=>intro e;cases e
 | cons v r ih =>
  intro e
  cases v with
  | ref c=>rw[refuseLoop_ref];exact ih e
  | _=>exact d8.mp (show((_:List Value) == veV)=true from e) ▸ PySem.F.store_ValueError.passes self
theorem zeO:∀ {l:List Value},ze9 l=true->l.contains (.type "object")=true/\l.isEmpty=false:=by
 intro l
 induction l with
 | nil=>intro e;cases e
 | cons v r ih =>
  intro e
  refine⟨?_,rfl⟩
  cases v with
  | ref c=>rw[List.contains_cons,(ih e).1,Bool.or_true]
  | _=>rw[d8.mp (show((_:List Value) == veV)=true from e)];decide +kernel
def zbM (K:W.Frag) (C:Addr):Bool:=(W.clsIn K C).any (λcd=>ze9 cd.mro&&cd.hasDict)&&W.findIn K (.ref C) "__setattr__" == some (some (.builtin "object.__setattr__"))&&W.findIn K (.ref C) "__getattribute__" == some (some (.builtin "BaseException.__getattribute__"))&&W.findIn K (.ref C) "__getattr__" == some none&&W.subIn K (.ref C) (.type "BaseException") == some true
structure wf (K:W.Frag) (C:Addr):Prop where
 cls:∃ cd,W.clsIn K C=some cd/\ze9 cd.mro=true/\cd.hasDict=true
 sa:W.findIn K (.ref C) "__setattr__"=some (some (.builtin "object.__setattr__"))
 ga:W.findIn K (.ref C) "__getattribute__"=some (some (.builtin "BaseException.__getattribute__"))
 gt:W.findIn K (.ref C) "__getattr__"=some none
 sb:W.subIn K (.ref C) (.type "BaseException")=some true
theorem wf.of {K:W.Frag}{C:Addr}(h:zbM K C=true):wf K C:=by
 unfold zbM at h
 simp only[g9,d8]at h
 obtain⟨cd,e,h2⟩:=W.any_some h.1.1.1.1
 rw[g9]at h2
 exact⟨⟨cd,e,h2.1,h2.2⟩,h.1.1.1.2,h.1.1.2,h.1.2,h.2⟩
section
variable {prog:Program}{w:World}{A:Around}{E:Value->Shared->Prop}{s:Shared}{K:W.Frag}{x C:Addr}{ox:Obj}{od:Option Obj}{name:Str}{v:Value}
theorem zjU {tk:Tok}{R:Result->Shared->Prop}(X:K.In s.heap)(I:PySem.W.InstAt s.heap x ox C od)(hp:wf K C)(ha:W.findIn K (.ref C) name=some none)
 (h:wpAny (model prog w) A.in1 (storeInOwnDict (.ref x) (.ref C) (.str name tk) name v false) (λfin s'=>match fin with | .done f=>R (.ok f) s' | .again c'=>c'.quiet=true/\codeAny (model prog w) A c' R s') (λe s'=>R (.error e) s') s) :
 codeAny (model prog w) A (.call (.builtin "object.__setattr__") ⟨[.ref x,.str name tk,v],[]⟩) R s:=by
 have SO:=PySem.F.store_object
 obtain⟨cd,hc,ho,_⟩:=hp.cls
 obtain⟨hin,hne⟩:=zeO ho
 have isO:PySem.W.Looks (model prog w) s.heap (isInstance (.ref x) (.type "object")) true:=I.type.andThen (W.looks_mroIn X (by unfold W.mroIn;rw[hc,u0e,j0 (by rw[hne];decide),hin]))
 refine u1U SO.slot.plain SO.entry (@W.check_slot (model prog w) _ _ s "object.__setattr__" "object" "__setattr__" (.ref x) [.str name tk,v] [] _ SO.kind SO.split isO (SO.args (.ref x) (.str name tk) v) ?_)
 have lm:PySem.W.Looks (model prog w) s.heap (mroOf (.ref C)) cd.mro:=(u2X X hc).andThen .now
 have lt:PySem.W.Looks (model prog w) s.heap (storeTaker? none) none:=.now
 rw[W.osa_eq,refuse_eq]
 refine u0 (u0 (I.type.here (u0 (lm.here ?_))))
 rw[ze6 _ ho]
 exact u8 (u0 (I.type.here (u0 ((u2D X ha).here (u0 (lt.here h))))))
theorem zez {Q:Unit->Shared->Prop}(X:K.In s.heap)(I:PySem.W.InstAt s.heap x ox C od)(hp:wf K C)(ha:W.findIn K (.ref C) name=some none)
 (h:wpAny (model prog w) A.in1 (storeInOwnDict (.ref x) (.ref C) (.str name s.toks) name v false) (λfin s'=>match fin with | .done (.ret _)=>Q () s' | _=>False) E { s with toks:=s.toks+1 }) :
 wpAny (model prog w) A (setAttr (.ref x) name v) Q E s:=by
 refine W.set_plain X I hp.sa (zjU (s:={ s with toks:=s.toks+1 }) X I hp ha (u0v h (λfin s' z=>?_) λ_ _ z=>z))
 cases fin with
 | again c=>exact z.elim
 | done f=>cases f <;> first | exact z | exact z.elim
theorem zdY {M:Model} {nameV:Value} {Q:Unit->Shared->Prop} (X:K.In s.heap) (I:PySem.W.InstAt s.heap x ox C od) (hb:W.subIn K (.ref C) (.type "BaseException")=some true) (hq:Q () s):wpAny M A (checkBuiltinCall "BaseException.__getattribute__" ⟨[.ref x,nameV],[]⟩) Q E s:=by
 have hk:builtinKind "BaseException.__getattribute__"=some .slot:=by decide +kernel
 have hsp:splitId "BaseException.__getattribute__"=some ("BaseException","__getattribute__"):=by decide +kernel
 have ha:=PySem.F.args_bexc_ga (.ref x) nameV
 have L0:=I.type (M:=M)
 have L1:PySem.W.Looks M s.heap (isSubtype (.ref C) (.type "BaseException")) true:=W.looks_subIn X hb
 simp only[checkBuiltinCall,hk,hsp]
 refine u0 ?_
 unfold isInstance
 refine u0 (L0.here (L1.here ?_))
 repeat (first | assumption | wp_step)
theorem zhT {Q:Unit->Shared->Prop}(X:K.In s.heap)(hx:s.heap.get? x=some ox)(hcl:ox.cls=.ref C)(hno:W.notCls ox=true)(hd:ox.dict=none)(hp:wf K C)(ha:W.findIn K (.ref C) name=some none)
 (h:∀ h':Heap,h'.get? x=some { ox with dict:=some s.heap.objs.size }->h'.Ns1 s.heap.objs.size (λy=>if y=name then some v else none)->(∀ b o,b≠x->s.heap.get? b=some o->h'.get? b=some o)->Q () { s with heap:=h',toks:=s.toks+2 }) :
 wpAny (model prog w) A (setAttr (.ref x) name v) Q E s:=by
 have I:PySem.W.InstAt s.heap x ox C none:=⟨hx,hcl,hno,by rw[hd];trivial⟩
 refine zez X I hp ha ?_
 obtain⟨cd,hc,_,hh⟩:=hp.cls
 have lc:=u2X (M:=model prog w) X hc
 unfold storeInOwnDict
 refine u0 (u8 ?_)
 have hmod:(Value.ref C == Value.type "module")=false:=rfl
 simp only[hmod]
 unfold ownDictForStores instanceDict
 refine u0 ?_
 refine u0 (wpAny_loadPart hx ?_)
 obtain⟨oc,odi,oda,osl⟩:=ox
 dsimp only at hcl hd
 subst hcl hd
 dsimp only
 refine u0 (lc.here (s:={ s with toks:=s.toks+1 }) ?_)
 rw[hh]
 rw[j0 (by decide),j0 (by simp[typeHasDict])]
 have nc:∀ c,oda≠.cls c:=λc e=>by rw[e]at hno;cases hno
 split
 .rename_i c;exact absurd rfl (nc c)
 have gx:(s.heap.push { cls:=.type "dict",data:=.dict #[] }).get? x=some ⟨.ref C,none,oda,osl⟩:=u5 _ hx
 have xs:x≠s.heap.objs.size:=d9 (j5 hx)
 refine u0 (wpAny_alloc' (u0 (wpAny_update' gx (u8 ?_))))
 generalize eh:((s.heap.push { cls:=Value.type "dict",data:=Data.dict #[] }).update x λo=>{ cls:=o.cls,dict:=some s.heap.objs.size,data:=o.data,slots:=o.slots })=h1
 have gd:h1.get? s.heap.objs.size=some { cls:=.type "dict",data:=.dict #[] }:=by rw[<-eh];exact(Heap.get?_update_ne _ _ _ _ xs.symm).trans (Heap.get?_push_at rfl rfl)
 have gn:h1.Ns s.heap.objs.size (λ_=>none):=⟨_,#[],_,gd,rfl,λe he=>absurd he (by simp),λ_=>rfl⟩
 show wpAny _ _ (storeInDict s.heap.objs.size (.str name s.toks) name v) _ _ _
 unfold storeInDict newKeyGuard
 refine u0 (u8 (u0 (wpAny_nsSet1 (Heap.Ns1.of_empty gn) λh' hn' hs=>?_)))
 obtain⟨oD,eD,pD,hoD,hdD,hcD⟩:=hn'.count (Within.cons name v Within.nil)
 refine u0 (wpAny_lookBehind hoD (by rw[hdD];exact pastItsLine_dict (i3 hcD (by rw[u0d,u2Q,u1B];omega))) (u8 (h h' ?_ hn' λb o hb e=>?_)))
 .refine(hs.2 x xs).trans ?_
  rw[<-eh]
  refine u0F _ gx ?_
  have fr:=(Heap.get?_some_iff.mp hx).2
  cases oda <;> first | rfl | exact fr
 .refine(hs.2 b (d9 (j5 e))).trans ?_
  rw[<-eh]
  exact(Heap.get?_update_ne _ _ _ _ hb).trans (u5 _ e)
theorem zh5 {dx:Addr}{mA:Str->Option Value}{ns:List Str}{Q:Unit->Shared->Prop}(X:K.In s.heap)(hx:s.heap.get? x=some ox)(hcl:ox.cls=.ref C)(hno:W.notCls ox=true)(hd:ox.dict=some dx)(hn:s.heap.Ns1 dx mA)(hw:Within mA ns)(hz:ns.length<=sizeLine)(hp:wf K C)(ha:W.findIn K (.ref C) name=some none)
 (h:∀ h':Heap,h'.Ns1 dx (λy=>if y=name then some v else mA y)->(∀ b o,b≠dx->s.heap.get? b=some o->h'.get? b=some o)->Q () { s with heap:=h',toks:=s.toks+2 }) :
 wpAny (model prog w) A (setAttr (.ref x) name v) Q E s:=by
 have I:∃ od,PySem.W.InstAt s.heap x ox C od:=by
  obtain⟨o,es,ep,e,_⟩:=id hn
  exact⟨some o,hx,hcl,hno,by rw[hd];exact e⟩
 obtain⟨od,I⟩:=I
 refine zez X I hp ha ?_
 obtain⟨cd,hc,_,hh⟩:=hp.cls
 have lc:=u2X (M:=model prog w) X hc
 unfold storeInOwnDict
 refine u0 (u8 ?_)
 have hmod:(Value.ref C == Value.type "module")=false:=rfl
 simp only[hmod]
 unfold ownDictForStores instanceDict
 refine u0 (u0 (wpAny_loadPart hx ?_))
 obtain⟨oc,odi,oda,osl⟩:=ox
 dsimp only at hcl hd
 subst hcl hd
 dsimp only
 refine u0 (lc.here (s:={ s with toks:=s.toks+1 }) ?_)
 rw[hh,j0 (by decide)]
 refine u8 ?_
 show wpAny _ _ (storeInDict dx (.str name s.toks) name v) _ _ _
 unfold storeInDict newKeyGuard
 refine u0 (u8 (u0 (wpAny_nsSet1 (s:={ s with toks:=s.toks+1 }) hn λh' hn' hs=>?_)))
 obtain⟨oD,eD,pD,hoD,hdD,hcD⟩:=hn'.count (Within.cons name v hw)
 exact u0 (wpAny_lookBehind hoD (by rw[hdD];exact pastItsLine_dict (i3 hcD (by rw[u0d];omega))) (u8 (h h' hn' λb o hb e=>(hs.2 b hb).trans e)))
theorem zjO {f:Str}{b:Bool}{Q:Value->Shared->Prop}(X:K.In s.heap)(I:PySem.W.InstAt s.heap x ox C od)(hp:wf K C)(hf:W.findObj K C od f=some (.value v))(hv:W.handedIn v=true)
 (h:Q v { s with toks:=s.toks+1 }):wpAny (model prog w) A (getAttr (.ref x) f b) Q E s:=by
 obtain⟨hh,g,d,t,os⟩:=s
 have L0:=I.type (M:=model prog w)
 have L1:=u2D (M:=model prog w) X hp.ga
 have L2:=u2D (M:=model prog w) X hp.gt
 have L3:=W.looks_find (M:=model prog w) X I hf
 have fb:=u2W.ga.bind (.ref x)
 have hx2:(Value.builtin "BaseException.__getattribute__" == Value.builtin "object.__getattribute__")=false:=by decide +kernel
 have hx3:(b&&onTheHeap (Value.builtin "BaseException.__getattribute__"))=false:=by cases b <;> rfl
 unfold getAttr getAttrBy
 refine u0 (wpAny_mkText (u0n (u0 (L0.at (u0 (L1.at ?_))))))
 dsimp only
 rw[hx2,u1H,j0 u6]
 unfold getAttrByItsOwn
 refine u0 ?_
 show wpAny _ _ (typeLookup (.ref C) "__getattr__") _ _ _
 refine L2.at (u0 (u1m (u0n ?_)))
 unfold callGetattribute
 rw[hx3,j0 u6]
 unfold boundAndCalled
 rw[fb]
 refine u0 (u8 ?_)
 refine u2K (u1U u2W.ga.plain PySem.F.entry_bexc_ga ?_)
 refine zdY X I hp.sb ?_
 refine u0 (u8 (u0 (u8 (u0 (L0.at (u0 (L3.at ?_)))))))
 refine u8 ?_
 show wpAny _ _ (handedOut v) _ _ _
 rw[W.handedOut_of hv];exact u8 h
end
end L2
namespace L2
open PySem PySem.Spec PyProof.Rows
section
variable {P:Program}{w:World}{H H':Hp}{h h':Heap}{a:Addr}{o:HO}
theorem yq.ex (x:yq P w H h a o):∃ u,h.get? a=some u:=by
 cases o with
 | lst xs=>obtain⟨_,_,_,_,e⟩:=x;exact⟨_,e⟩
 | tup xs=>obtain⟨_,_,_,ob,e,_⟩:=x;exact⟨_,e⟩
 | dK kvs=>obtain⟨_,_,_,_,o,_,_,e,_⟩:=x;exact⟨_,e⟩
 | dT kvs=>obtain⟨_,_,_,_,o,_,_,e,_⟩:=x;exact⟨_,e⟩
 | set S n=>obtain⟨o,_,_,_,e,_⟩:=x;exact⟨_,e⟩
 | ins C dx fs=>obtain⟨_,_,_,e,_⟩:=x;exact⟨_,e⟩
 | own y=>exact x
 | xd fs=>obtain⟨_,⟨_,_,_,e,_⟩,_⟩:=x;exact⟨_,e⟩
 | rng lo hi=>obtain⟨_,_,_,e⟩:=x;exact⟨_,e⟩
 | frz ob u=>obtain⟨e,_⟩:=x;exact⟨_,e⟩
 | tbl ps=>exact⟨_,(show h.get? a=some _ from x)⟩
 | met f y=>exact⟨_,(show h.get? a=some _ from x)⟩
 | ext φ=>obtain⟨_,⟨_,e⟩,_⟩:=x;exact⟨_,e⟩
theorem HOk.stays (x:HOk P w H h)(k:∀ b u,H b≠none->h.get? b=some u->h'.get? b=some u):HOk P w H h':=λa o e =>
 (x a o e).stay (λb u hb q=>k b u (by
  rcases hb with rfl | hb
  .rw[e];intro z;cases z
  .rw[hb];intro z;cases z) q) (λ_ q=>q) λ_ _ q=>q
end
structure Cov (outer:List Env) (H:Hp) (h:Heap) (H':Hp) (h' B:Heap):Prop where
 old:∀ b o,h.get? b=some o->H b=none->b∉frs outer->B.get? b=some o
 there:∀ b o,h.get? b=some o->b∉frs outer->∃ o',B.get? b=some o'
 new:∀ b o,H' b≠none->h'.get? b=some o->B.get? b=some o
def Ww (h:Heap)(a:Addr)(od:Option Addr):Prop:=∃ oe,h.get? a=some oe/\oe.dict=od
theorem Ww.stay {h h':Heap}{a:Addr}{od:Option Addr}(d:Ww h a od)(k:DK h h')(e:∃ oe,h'.get? a=some oe):Ww h' a od:=by
 obtain⟨oe,h1,h2⟩:=d
 obtain⟨oe',h3⟩:=e
 exact⟨oe',h3,(k.of h1 h3).trans h2⟩
def Air (P:Program)(w:World):CXT:=λouter H s E e s' =>
 ∃ (ea C t:Addr) (od:Option Addr) (H':Hp) (B:Heap),e=.ref ea/\s'.os=s.os/\AllBare s'.gens/\Un (frs outer) [] H H' s.heap s'.heap/\HOk P w H' s'.heap /\
  Heap.FlyingW B outer ea (.ref C) (.ref t) s'.heap/\Cov outer H s.heap H' s'.heap B/\Ww s'.heap ea od/\E (.ref C) od H'
section
variable {X:Cx}{pins:List (Addr × Obj)}{σ:St}{H H':Hp}{s s':Shared}{E:XK}{e:Value}{M:Model}{E2:Value->Shared->Prop}
theorem Inv.airUn (hex:X.ex=[])(I:Inv X pins σ H s){h' B:Heap}(J:Inv X pins σ H' s')(cov:Cov X.stack H s.heap H' s'.heap B)(hB:B.StaysIn h')(hfr:h'.FunFrames B X.outer)(up:s'.heap.UpToSlots h') :
 Un X.fs [] X.H₀ H' X.s₀.heap h'/\HOk X.prog X.w H' h'/\Cov X.outer X.H₀ X.s₀.heap H' h' B:=by
 have neL:∀ b o,X.s₀.heap.get? b=some o->b≠X.env.locals:=λb o e=>d9 (d7 (j5 e) I.ok.above)
 have nst:∀ b o,X.s₀.heap.get? b=some o->b∉X.fs->b∉frs X.stack:=λb o e n z=>(j7.mp (I.stkSub b z)).elim (neL b o e) n
 have nx:∀ b:Addr,b∉X.ex:=by rw[hex];simp
 have cov':Cov X.outer X.H₀ X.s₀.heap H' h' B:=by
  refine⟨λb o e n hb=>cov.old b o (I.base.keep b o e n hb (nx b)) (I.base.free b o e n (nx b)) (nst b o e hb),λb o e hb=>?_,λb o hb e=>?_⟩
  .obtain⟨o',e'⟩:=I.base.there b o e (nx b)
   exact cov.there b o' e' (nst b o e hb)
  .cases q:H' b with
   | none=>exact absurd q hb
   | some u =>
    obtain⟨ob,ho⟩:=(J.hok b u q).ex
    have z:=cov.new b ob hb ho
    have z2:=hB b ob z
    rw[e]at z2
    cases z2
    exact z
 refine⟨⟨λb o e n hb _=>hB b o (cov'.old b o e n hb),λb o e n hb _=>?_,λb o e n _=>J.base.free b o e n (nx b),λb o e _=>?_,J.base.tups,J.base.frzs,J.base.tbls⟩,J.hok.stays λb u hb hu=>hB b u (cov.new b u hb hu),cov'⟩
 .obtain⟨sl,e1⟩:=J.base.slot b o e n hb (nx b)
  obtain⟨_,o2,ho2,hd⟩:=I.ok.funs.mem hb
  rw[e]at ho2
  cases ho2
  obtain⟨sl2,e2⟩:=up b _ e1 hd
  exact⟨sl2,e2⟩
 .by_cases hb:b∈X.fs
  .obtain⟨_,o2,ho2,_⟩:=hfr.mem hb
   exact⟨o2,ho2⟩
  .obtain⟨o',e'⟩:=cov'.there b o e hb
   exact⟨o',hB b o' e'⟩
theorem zmT (hst:X.stack=X.env::X.outer)(hf:X.env.frame=some X.env.locals)(hex:X.ex=[])(I:Inv X pins σ H s)(a:Air X.prog X.w X.stack H s E e s') :
 wpAny M X.A (leaving X.env e) (λ_ s''=>Air X.prog X.w X.outer X.H₀ X.s₀ E e s'') E2 s':=by
 obtain⟨ea,C,t,od,H',B,rfl,os,bare,un,hok,fl,cov,di,hE⟩:=a
 have J:Inv X pins σ H' s':=I.call' (ch:=[]) os un hok bare (λb z=>nomatch z)
 rw[hst]at fl
 refine WN (Vo _ _) (wpAny_leaves_onW (Q:=λ_ s''=>∃ h',s''={ s' with heap:=h' }/\Heap.FlyingW B X.outer ea (.ref C) (.ref t) h'/\s'.heap.UpToSlots h') (by rw[I.ok.frames,hst]) hf fl λh' x1 x2=>⟨h',rfl,x1,x2⟩) ?_
 rintro _ _ ⟨h',rfl,x1,x2⟩ dk
 obtain⟨u1,u2,u3⟩:=I.airUn hex J cov x1.1 x1.2.2.1 x2
 obtain⟨ob,hob,_⟩:=x1.there
 exact⟨ea,C,t,od,H',B,rfl,os.trans I.os,bare,u1,u2,x1,u3,di.stay dk ⟨ob,hob⟩,hE⟩
end
theorem Vw {P:Program}{w:World}{K:W.Frag}{mg:Str->Option Value}{base:Heap}{N:List Str}{qual:Str}{scope:Scope}{f:Addr}{cd:Value}{A:Around}{outer:List Env}{s:Shared}{H:Hp}{E:XK} :
 Xt (Air P w) (Zq (Air P w) P w K mg base N qual scope f cd A outer s H E) E:=λpins σ H1 s1 e s' I a =>
 zmT (X:=Zq (Air P w) P w K mg base N qual scope f cd A outer s H E) rfl rfl rfl I a
theorem ziK {X:Cx}{es:List Expr}:PA X es (λ_ _ _=>False):=λ_ _ _ _ _ _ _ h=>h.elim
end L2
namespace Dl
open PySem L2
def pay (j:Nat):Option (List (Str × V)):=match j / 16 % 4 with
 | 0=>none
 | 1=>some [("at",.int ((j / 64:Nat) - 1))]
 | 2=>some [("row",.int ((j / 64:Nat) - 1))]
 | _=>some [("many",.int ((j / 64 / 1024:Nat):Int)),("most",.int ((j / 64 % 1024:Nat):Int))]
variable [KK]
section
variable (E:XK)(cl:Nat->Addr)
def EJ (j:Nat)(H:Hp):Prop:=match pay j with
 | none=>E (.ref (cl j)) none H
 | some fs=>∀ dx,H dx=none->E (.ref (cl j)) (some dx) (upd H dx (.xd fs))
def Wi (F H:Hp)(j:Nat):Prop:=∀ F' H',Gr F H F' H'->EJ E cl j H'
def RXE (t:TE)(fx:Ev->Option Nat):Prop:=∀ (σ:St) (ρ:Ev) (F H:Hp) (j:Nat) (Q:VK),zZ F H->VAt F ρ σ->fx ρ=some j->Wi E cl F H j->t σ H Q
def RXA (t:TA)(fx:Ev->Option Nat):Prop:=∀ (σ:St) (ρ:Ev) (F H:Hp) (j:Nat) (Q:List V->Hp->Prop),zZ F H->VAt F ρ σ->fx ρ=some j->Wi E cl F H j->t σ H Q
def RXS (t:TS)(gx:SE->Option Nat):Prop:=∀ (Fb Hb F H:Hp) (ρ:SE) (σ:St) (D':zbW) (j:Nat),Rl Fb Hb F H ρ σ->gx ρ=some j->Wi E cl Fb Hb j->t D' σ H
def XE (X:Cx)(e:Expr)(fx:Ev->Option Nat):Prop:=∃ t,PE X e t/\RXE E cl t fx
def XA (X:Cx)(es:List Expr)(fx:Ev->Option Nat):Prop:=∃ t,PA X es t/\RXA E cl t fx
def XS (X:Cx)(st:Stmt)(gx:SE->Option Nat):Prop:=∃ t,PS X st t/\RXS E cl t gx
def XSs (X:Cx)(sts:List Stmt)(gx:SE->Option Nat):Prop:=∃ t,PSs X sts t/\RXS E cl t gx
end
section
variable {E:XK}{cl:Nat->Addr}{X:Cx}{a b c e:Expr}{es:List Expr}{st:Stmt}{sts:List Stmt}{pos pos':Pos}
theorem Wi.grow {F H F1 H1:Hp}{j:Nat}(w:Wi E cl F H j)(g:Gr F H F1 H1):Wi E cl F1 H1 j:=λF' H' g'=>w F' H' (g.trans g')
theorem Wi.out {Fb Hb F H:Hp}{ρ:SE}{σ:St}{j:Nat}(w:Wi E cl Fb Hb j)(rl:Rl Fb Hb F H ρ σ):Wi E cl (gOf ρ σ F H) H j:=λF' H' g=>w F' H' (rl.out g)
def spX (cl:Nat->Addr)(m:Nat)(r:List D->Option Nat):Sp:=λvs H _ E=>∃ ds j F,ds.length=m/\zZ F H/\AtL F ds vs/\r ds=some j/\Wi E cl F H j
def zfc (m:Nat)(r:List D->Option Nat)(f:Ev->Option (List D)):Ev->Option Nat:=fun ρ=>(f ρ).bind λds=>if ds.length=m then r ds else none
theorem zat {x:Str}{k m:Nat}{f:Addr}{fd:FuncData}{ps:List Str}{r:List D->Option Nat}{pp:Pos}{fa:Ev->Option (List D)}(F:y6 X.prog X.w X.K X.mg X.base (Air X.prog X.w) k f fd ps (spX cl m r))(hx:Xt (Air X.prog X.w) X E)(hr:vw k X.A)(hg:Gl X x)(hm:X.mg x=some (.ref f))(hk:W.keepIn X.K (.ref f)=true)(hb:XM X.K fd ps [])
 (ha:AD X (e::es) fa) (hdb:(x == ("__debug__":Str))=false:=by decide) (he:starEach (e::es) X.env=(false,eval e X.env)::starEach es X.env:=by rfl) (hpl:(backTo pos (starEach es X.env)).any (·.1)=false:=by rfl) :
 XE E cl X (.Call (.Name x pp) (e::es) [] pos) (zfc m r fa):=by
 obtain⟨t,pa,ra⟩:=ha
 refine⟨_,zg8 F hr hg hm hk hb .nil hx pa hdb he hpl,fun σ ρ F0 H j Q s va e w=>?_⟩
 obtain⟨ds,e1,e2⟩:=u4.mp e
 split at e2 <;> try cases e2
 rename_i hl
 refine ra σ ρ F0 H ds _ s va e1 λF1 H1 vs g1 a1=>?_
 exact⟨ds,j,F1,hl,g1.fh,by rw[u0z];exact a1,e2,w.grow g1⟩
theorem zkp {fx:Ev->Option Nat}(h:XE E cl X a fx)(hs:starEach (a::es) X.env=(false,eval a X.env)::starEach es X.env:=by rfl):XA E cl X (a::es) fx:=by
 obtain⟨t,p,r⟩:=h
 exact⟨_,zp p ziK hs,fun σ ρ F H j Q s va e w=>r σ ρ F H j _ s va e w⟩
theorem zb0 {fx:Ev->Option Nat}(h:XE E cl X e fx)(hs:swapsWith e none pos.line X.env=pure false:=by rfl):XS E cl X (.Expr e pos) (fun ρ=>fx (visG ρ)):=by
 obtain⟨t,p,r⟩:=h
 exact⟨_,VL p hs,λFb Hb F H ρ σ D' j rl e w=>r σ _ _ H j _ rl.gh rl.visG e (w.out rl)⟩
theorem zk7 {fx:Ev->Option Nat}(h:XE E cl X e fx):XS E cl X (.Return (some e) pos) (fun ρ=>fx (visG ρ)):=by
 obtain⟨t,p,r⟩:=h
 exact⟨_,zaV p,λFb Hb F H ρ σ D' j rl e w=>r σ _ _ H j _ rl.gh rl.visG e (w.out rl)⟩
def xIf (t:Ev->Option Bool)(g h:SE->Option Nat):SE->Option Nat:=fun ρ=>match t (visG ρ) with
 | some true=>g ρ
 | some false=>h ρ
 | none=>none
theorem zk4 {as bs:List Stmt}{t:Ev->Option Bool}{g h:SE->Option Nat}(hc:TD X c t)(ha:XSs E cl X as g)(hb:XSs E cl X bs h):XS E cl X (.If c as bs pos) (xIf t g h):=by
 obtain⟨tc,pc,rc⟩:=hc
 obtain⟨ta,pa,ra⟩:=ha
 obtain⟨tb,pb,rb⟩:=hb
 refine⟨_,zjN pc pa pb,λFb Hb F H ρ σ D' j rl k w=>?_⟩
 unfold xIf at k
 cases h:t (visG ρ) with
 | none=>rw[h]at k;cases k
 | some d =>
  rw[h]at k
  refine rc σ _ _ H d _ rl.gh rl.visG h λF' H' g=>?_
  have rl2:=rl.grow (rl.back g).1
  cases d with
  | true=>rw[t9 rfl];exact ra Fb Hb _ H' ρ σ D' j rl2 k w
  | false=>rw[j0 u6];exact rb Fb Hb _ H' ρ σ D' j rl2 k w
def xNo:SE->Option Nat:=λ_=>none
theorem zil:XS E cl X st xNo:=⟨_,zdh,λ_ _ _ _ _ _ _ _ _ h _=>by cases h⟩
theorem Z9 {g:SE->Option Nat}(h:XS E cl X st g):XSs E cl X [st] g:=let ⟨_,p,r⟩:=h;⟨_,Xk p,r⟩
def zk2 (gx:SE->Option Nat)(g:SE->Ctl)(hx:SE->Option Nat):SE->Option Nat:=fun ρ=>match gx ρ with
 | some j=>some j
 | none=>match g ρ with
  | .nx ρ'=>hx ρ'
  | _=>none
theorem zit {gx hx:SE->Option Nat}{g:SE->Ctl}(h1:XS E cl X st gx)(h2:SD X st g)(h3:XSs E cl X sts hx):XSs E cl X (st::sts) (zk2 gx g hx):=by
 obtain⟨t1,p1,r1⟩:=h1
 obtain⟨t2,p2,r2⟩:=h2
 obtain⟨u,p3,r3⟩:=h3
 have por:PS X st (λD σ H=>t1 D σ H\/t2 D σ H):=λpins s σ H D I h=>h.elim (p1 pins s σ H D I) (p2 pins s σ H D I)
 refine⟨_,wl por p3,λFb Hb F H ρ σ D' j rl k w=>?_⟩
 unfold zk2 at k
 cases e1:gx ρ with
 | some j' =>
  rw[e1]at k
  cases k
  exact .inl (r1 Fb Hb F H ρ σ _ j rl e1 w)
 | none =>
  rw[e1]at k
  dsimp only at k
  cases e2:g ρ with
  | nx ρ' =>
   rw[e2]at k
   refine .inr (r2 Fb Hb F H ρ σ _ rl ?_)
   rw[e2]
   exact λF' H' σ' rl'=>r3 Fb Hb F' H' ρ' σ' D' j rl' k w
  | rt _=>rw[e2]at k;cases k
  | bk _=>rw[e2]at k;cases k
  | ct _=>rw[e2]at k;cases k
  | no=>rw[e2]at k;cases k
theorem zgS {g:SE->Option Nat}(h:XS E cl X st g):XSs E cl X (st::sts) g:=by
 obtain⟨t,p,r⟩:=h
 exact⟨_,wl p (λ_ _ _ _ _ _ h=>(h:False).elim),λFb Hb F H ρ σ D' j rl k w=>r Fb Hb F H ρ σ _ j rl k w⟩
end
def fnX (n:Nat)(gx:SE->Option Nat)(ds:List D):Option Nat:=gx (ds.map .v++List.replicate (n - ds.length) .no)
theorem zfZ {P:Program}{w:World}{K:W.Frag}{mg:Str->Option Value}{base:Heap}{x qual:Str}{st:Stmt}{f:Addr}{fd:FuncData}{N ps:List Str}{k:Nat}{cl:Nat->Addr}{gx:SE->Option Nat}(Fu:Fun K x qual st f fd)(S:zx N ps (zi st))
 (hb:∀ (cdv:Value) (A:Around) (outer:List Env) (s:Shared) (H:Hp) (E:XK),vw k (A.deeper (PyProof.Rows.envOfC qual (zi st) s.heap.objs.size f cdv))->XSs E cl (Zq (Air P w) P w K mg base N qual (zi st) f cdv A outer s H E) (xU st) gx) :
 y6 P w K mg base (Air P w) (k+1) f fd ps (spX cl ps.length (fnX N.length gx)):=by
 obtain⟨oc,od,kV,doc,pm,an,cdv,ct,osl,rfl,lk,hcd⟩:=Fu.ex
 refine zkW lk hcd S (λvs H Q E h=>?_) λA outer s H vs Q E hr hsp=>?_
 .obtain⟨ds,d,F,hl,_,a,_⟩:=h
  rw[a.length];exact hl
 .obtain⟨ds,j,F,hl,sm,a,e,q⟩:=hsp
  obtain⟨t,p,r⟩:=hb cdv A outer s H E hr
  exact⟨t,p,r F H F H _ _ _ j (zdr sm a) e q⟩
end Dl
namespace L2
open PySem PySem.Spec PyProof.Rows
section
variable {X:Cx}{pins:List (Addr × Obj)}{σ:St}{H H':Hp}{s s':Shared}{E:XK}{e:Value}{E2:Value->Shared->Prop}{B h3:Heap}
theorem Inv.caught (I:Inv X pins σ H s)(os:s'.os=s.os)(bare:AllBare s'.gens)(un:Un (frs X.stack) [] H H' s.heap s'.heap)(hok:HOk X.prog X.w H' s'.heap)(cov:Cov X.stack H s.heap H' s'.heap B)
 (hB:B.StaysIn h3) (hfr:h3.FunFrames B X.stack) (up:s'.heap.UpToSlots h3):Inv X pins σ H' { s' with heap:=h3 }:=by
 obtain⟨h',g',d',t',o'⟩:=s'
 have eo:o'=s.os:=os
 subst eo
 have nil:∀ b:Addr,b∉([]:List Addr):=λb z=>nomatch z
 show Inv X pins σ H' { s with heap:=h3,gens:=g',drawn:=d',toks:=t' }
 refine I.step (s:=s) (g':=g') (d':=d') (t':=t') (ch:=[]) (λb z=>nomatch z) (λb o hL hb _ e n=>hB b o (cov.old b o e n λz=>(j7.mp (I.stkSub b z)).elim hL hb)) (λb o hL hb _ e n=>?_) (λb o _ e n=>un.free b o e n (nil b)) (λb o _ e=>?_) un.tups un.frzs un.tbls (λm hm=>?_) (hok.stays λb u hb hu=>hB b u (cov.new b u hb hu)) bare
 .obtain⟨sl,e1⟩:=un.any e n (nil b)
  obtain⟨_,o2,ho2,hd⟩:=I.funs.mem hb
  rw[e]at ho2
  cases ho2
  obtain⟨sl2,e2⟩:=up b _ e1 hd
  exact⟨sl2,e2⟩
 .by_cases hb:b∈frs X.stack
  .obtain⟨_,o2,ho2,_⟩:=hfr.mem hb
   exact⟨o2,ho2⟩
  .obtain⟨o',e'⟩:=cov.there b o e hb
   exact⟨o',hB b o' e'⟩
 .obtain⟨o,es,ep,ho,hd,r⟩:=hm
  obtain⟨sl,e1⟩:=un.any ho I.free (nil _)
  exact up.ns ⟨_,es,ep,e1,hd,r⟩
theorem zdL {M:Model}(hst:X.stack=X.env::X.outer)(hf:X.env.frame=some X.env.locals)(hex:X.ex=[])(I:Inv X pins σ H s)(a:Air X.prog X.w X.stack H s E e s'){hs:List ExceptHandler}{Q:Flow->Shared->Prop}
 (k:∀ (ea C t:Addr) (od:Option Addr) (H':Hp) (B h3:Heap),E (.ref C) od H'->Ww h3 ea od->H' ea=none->(∀ o',X.s₀.heap.get? ea=some o'->False)->(∀ p∈X.pn++pins,p.1≠ea)->Heap.FlyingW B X.stack ea (.ref C) (.ref t) h3->(∀ h4:Heap,B.StaysIn h4->h4.FunFrames B X.stack->h3.UpToSlots h4->Inv X pins σ H' { s' with heap:=h4 }) ->
  e=.ref ea->wpAny M X.A (handleBy (.ref ea) X.env hs) Q E2 { s' with heap:=h3 }) :
 wpAny M X.A (noteFrame e X.env) (λ_ s₂=>wpAny M X.A (setFlight e none) (λ_ s₃=>wpAny M X.A (handleBy e X.env hs) Q E2 s₃) E2 s₂) E2 s':=by
 obtain⟨ea,C,t,od,H',B,rfl,os,bare,un,hok,fl,cov,di,hE⟩:=a
 have hfr:X.A.frames=some (X.env::X.outer):=by rw[I.ok.frames,hst]
 have fl0:=fl
 rw[hst]at fl0
 refine WN (Xw _ _) (wpAny_looks_onW (Q:=λ_ s''=>∃ h2,s''={ s' with heap:=h2 }/\Heap.HeldW B (X.env::X.outer) ea (.ref C) (.ref t) X.env.locals h2/\s'.heap.UpToSlots h2) hfr hf fl0 λh2 hheld up2=>⟨h2,rfl,hheld,up2⟩) ?_
 rintro _ _ ⟨h2,rfl,hheld,up2⟩ dk2
 refine WN (Yt _ _) (wpAny_landsW (Q:=λ_ s''=>∃ h3,s''={ s' with heap:=h3 }/\Heap.FlyingW B (X.env::X.outer) ea (.ref C) (.ref t) h3/\h2.UpToSlots h3) (s:={ s' with heap:=h2 }) hheld λh3 fl3 up3=>⟨h3,rfl,fl3,up3⟩) ?_
 rintro _ _ ⟨h3,rfl,fl3,up3⟩ dk3
 have di3:Ww h3 ea od:=by
  obtain⟨ob,hob,_⟩:=fl3.there
  exact di.stay (DK.trans dk2 dk3) ⟨ob,hob⟩
 rw[<-hst]at fl3
 have hnB:B.get? ea=none:=fl.2.1
 have nfr:ea∉frs X.stack:=λz=>by
  obtain⟨_,o2,ho2,hnf⟩:=fl.2.2.1.mem z
  obtain⟨oe,vs,_,_,_,he,_,hd,_⟩:=fl.2.2.2
  rw[he]at ho2
  cases ho2
  exact hnf vs hd
 have nold:∀ o',s.heap.get? ea=some o'->False:=λo' z=>by
  obtain⟨o2,e2⟩:=cov.there ea o' z nfr
  rw[hnB]at e2
  cases e2
 refine k ea C t od H' B h3 hE di3 ?_ (λo' z=>?_) (λp hp z=>?_) fl3 (λh4 b1 b2 b3=>I.caught os bare un hok cov b1 b2 ((up2.trans up3).trans b3)) rfl
 .cases q:H' ea with
  | none=>rfl
  | some u =>
   obtain⟨ob,ho⟩:=(hok ea u q).ex
   have z:=cov.new ea ob (by rw[q];intro z;cases z) ho
   rw[hnB]at z
   cases z
 .obtain⟨o2,e2⟩:=I.base.there ea o' z (by rw[hex];intro z;cases z)
  exact nold o2 e2
 .exact nold p.2 (z ▸ (I.pin p hp).1)
end
abbrev Cx.held (X:Cx)(e:Value):Cx:={ X with A:=X.A.mark (some e),calm:=false }
section
variable {X:Cx}{pins:List (Addr × Obj)}{σ:St}{H H':Hp}{s s':Shared}{E:Value->Shared->Prop}{e:Value}{M:Model}{A:Around}
theorem Cx.Ok.held (ok:X.Ok)(e:Value):(X.held e).Ok :=
 ⟨ok.mod,ok.kind,ok.glob,ok.blt,ok.above,ok.inj,ok.has,ok.cab,(λz=>by cases z),ok.frames,ok.stk,ok.exf,ok.bs,ok.bsz,ok.noex,ok.exfs,ok.funs,ok.frf⟩
theorem Inv.held (I:Inv X pins σ H s)(e:Value):Inv (X.held e) pins σ H s:=⟨I.ok.held e,I.os,I.bare,I.base,I.loc,I.cell,I.free,I.freeC,I.pin,I.hok,I.len⟩
theorem Inv.unheld (ok:X.Ok)(I:Inv (X.held e) pins σ H s):Inv X pins σ H s:=⟨ok,I.os,I.bare,I.base,I.loc,I.cell,I.free,I.freeC,I.pin,I.hok,I.len⟩
theorem ZX {i:Nat}{x:Str}{pos:Pos}{Q:Unit->Shared->Prop}(I:Inv X pins σ H s)(hN:X.N.Nodup)(hi:X.N[i]?=some x)(hk:X.env.scope.names.lookup x=some .local)
 (h:∀ s',Inv X pins (σ.set i none) H s'->Q () s'):wpAny M A (do bindName X.env x .none;unbindBehindTheSuite X.env x pos) Q E s:=by
 obtain⟨m,hn,hl⟩:=id I.loc
 have hcls:(X.env.scope.kind == .class||(X.env.scope.kind == .module&&X.env.locals != X.env.globals))=false:=by rw[I.ok.kind];rfl
 have hiσ:i < σ.length:=by rw[I.len];exact(t7.mp hi).1
 have cne:=I.cne
 refine wpAny_nameGoes_keeps hk hn hcls λh' v hn' hs=>?_
 obtain⟨oL,_,_,hoL,_⟩:=id hn
 have tracked:HOk X.prog X.w H h':=λb ob e=>by
  refine(I.hok b ob e).stay (λc w' hc q=>(hs.2 c ?_).trans q) (λ_ q=>q) λ_ _ q=>q
  rintro rfl
  rcases hc with rfl | hc
  .rw[I.free]at e;cases e
  .rw[I.free]at hc;cases hc
 have ne0:∀ b o,X.s₀.heap.get? b=some o->b≠X.env.locals:=λb o e=>d9 (d7 (j5 e) I.ok.above)
 refine h _ ⟨I.ok,I.os,I.bare,⟨λb o e n hb hx=>?_,λb o e n hb hx=>?_,I.base.free,λb o e hx=>?_,I.base.tups,I.base.frzs,I.base.tbls⟩,⟨_,hn',λj y v' e1 e2 e3=>?_⟩,λy c e=>?_,I.free,I.freeC,λp hp=>?_,tracked,by simpa using I.len⟩
 .exact(hs.2 b (ne0 b o e)).trans (I.base.keep b o e n hb hx)
 .obtain⟨sl,e1⟩:=I.base.slot b o e n hb hx
  exact⟨sl,(hs.2 b (ne0 b o e)).trans e1⟩
 .obtain⟨o',e1⟩:=I.base.there b o e hx
  exact⟨o',(hs.2 b (ne0 b o e)).trans e1⟩
 .by_cases hj:j=i
  .subst hj
   rw[i7 hiσ]at e2
   cases e2
  .rw[d4 (u03 hj)]at e2
   obtain⟨u',r',q⟩:=hl j y v' e1 e2 e3
   refine⟨u',r',?_⟩
   rcases q with ⟨k,e⟩ | ⟨k,c,e,z⟩
   .refine .inl ⟨k,?_⟩
    have:y≠x:=λe=>hj (zal hN e1 (e ▸ hi))
    simp[this,e]
   .exact .inr ⟨k,c,e,z.sameBut hs (cne y c e)⟩
 .obtain⟨w',z⟩:=I.cell y c e
  exact⟨w',z.sameBut hs (cne y c e)⟩
 .obtain⟨e,n,ne,nf,d⟩:=I.pin p hp
  exact⟨(hs.2 p.1 ne).trans e,n,ne,nf,d⟩
def zet (a C:Addr)(od:Option Addr):HO:=.ext λh=>∃ oe,h.get? a=some oe/\oe.cls=.ref C/\oe.dict=od/\W.notCls oe=true
theorem Inv.track {a:Addr}{o:HO}{ob:Obj}{vs:Array Value}(I:Inv X pins σ H s)(ha:H a=none)(he:s.heap.get? a=some ob)(hd:ob.data=.fields vs)(h0:∀ o',X.s₀.heap.get? a=some o'->False)(hp:∀ p∈X.pn++pins,p.1≠a)
 (new:yq X.prog X.w (upd H a o) s.heap a o):Inv X pins σ (upd H a o) s:=by
 have neL:X.env.locals≠a:=by
  rintro rfl
  obtain⟨m,⟨oL,es,ep,hoL,hdL,_⟩,_⟩:=I.loc
  rw[he]at hoL
  cases hoL
  rw[hd]at hdL
  cases hdL
 have neC:∀ x c,X.env.cells.lookup x=some c->c≠a:=λx c e=>by
  rintro rfl
  obtain⟨v,oc,hoc,hdc⟩:=I.cell x c e
  rw[he]at hoc
  cases hoc
  rw[hd]at hdc
  cases hdc
 refine⟨I.ok,I.os,I.bare,⟨I.base.keep,I.base.slot,λb u e n hx=>?_,I.base.there,λb xs e=>?_,λb u v e=>?_,λb ps e=>?_⟩,I.loc,I.cell,?_,λx c e=>?_,λp hq=>?_,λb u e=>?_,I.len⟩
 .rw[zk (λz:b=a=>h0 u (z ▸ e))]
  exact I.base.free b u e n hx
 .have e1:=I.base.tups b xs e
  rw[zk (zh e1 ha)]
  exact e1
 .have e1:=I.base.frzs b u v e
  rw[zk (zh e1 ha)]
  exact e1
 .obtain⟨more,e1⟩:=I.base.tbls b ps e
  exact⟨more,by rw[zk (zh e1 ha)];exact e1⟩
 .rw[zk neL]
  exact I.free
 .rw[zk (neC x c e)]
  exact I.freeC x c e
 .obtain⟨e,n,ne,nf,d⟩:=I.pin p hq
  exact⟨e,by rw[zk (hp p hq)];exact n,ne,nf,d⟩
 .by_cases c:b=a
  .subst c
   rw[zm]at e
   cases e
   exact new
  .rw[zk c]at e
   refine(I.hok b u e).stay (λ_ _ _ q=>q) (λc hc=>?_) λc xs hc=>?_
   .rw[zk (zh hc ha)];exact hc
   .rw[zk (zh hc ha)];exact hc
end
abbrev Cx.pinned (X:Cx)(ps:List (Addr × Obj)):Cx:={ X with pn:=X.pn++ps }
section
variable {X:Cx}{pins ps:List (Addr × Obj)}{σ:St}{H H':Hp}{s s':Shared}
theorem Cx.Ok.pinned (ok:X.Ok)(ps:List (Addr × Obj)):(X.pinned ps).Ok :=
 ⟨ok.mod,ok.kind,ok.glob,ok.blt,ok.above,ok.inj,ok.has,ok.cab,ok.hd,ok.frames,ok.stk,ok.exf,ok.bs,ok.bsz,ok.noex,ok.exfs,ok.funs,ok.frf⟩
theorem Inv.pinAll (I:Inv X pins σ H s):Inv (X.pinned pins) [] σ H s:=⟨I.ok.pinned pins,I.os,I.bare,I.base,I.loc,I.cell,I.free,I.freeC,λp hp=>I.pin p (by rw[u0z]at hp;exact hp),I.hok,I.len⟩
theorem Inv.unpin (ok:X.Ok)(I:Inv (X.pinned pins) ps σ H s):Inv X pins σ H s:=⟨ok,I.os,I.bare,I.base,I.loc,I.cell,I.free,I.freeC,λp hp=>I.pin p (u2B _ hp),I.hok,I.len⟩
end
abbrev gone (i:Nat)(D:zbW):zbW:={ nx:=fun σ H=>D.nx (σ.set i none) H,rt:=D.rt,bk:=fun σ H=>D.bk (σ.set i none) H,ct:=fun σ H=>D.ct (σ.set i none) H }
def exW (K:W.Frag)(CS:Addr)(i n:Nat)(u:TS)(D:zbW):XK:=λcls od H'=>∃ C,cls=.ref C/\W.exmOne K (.ref C) (.ref CS)=some true/\∀ (ea:Addr) (σ:St),σ.length=n->H' ea=none->u (gone i D) (σ.set i (some (.ref ea))) (upd H' ea (zet ea C od))
theorem zlw {Y:Cx}{CS:Addr}{x n:Str}{i:Nat}{body suite:List Stmt}{b₀:Stmt}{pos hpos np:Pos}{tb:XK->TS}{u:TS}(hst:Y.stack=Y.env::Y.outer)(hf:Y.env.frame=some Y.env.locals)(hex:Y.ex=[])
 (hN:Y.N.Nodup) (hi:Y.N[i]?=some n) (hk:Y.env.scope.names.lookup n=some .local) (hg:Gl Y x) (hm:Y.mg x=some (.ref CS))
 (hbody:∀ (ps:List (Addr × Obj)) (W:Value->Shared->Prop) (E0:XK),Xt (Air Y.prog Y.w) ((Y.pinned ps).wish W) E0->PSs ((Y.pinned ps).wish W) body (tb E0))
 (hsuite:∀ ea,PSs (Y.held (.ref ea)).nox (b₀::suite) u) (hd:(x == ("__debug__":Str))=false:=by decide) :
 PS Y.nox (.Try body [.ExceptHandler (some (.Name x np)) (some n) (b₀::suite) hpos] [] [] pos) (λD σ H=>tb (exW Y.K CS i Y.N.length u D) D σ H):=by
 intro pins s σ H D I h
 have ok:Y.Ok:=I.ok.unwish
 have IY:Inv Y pins σ H s:=I.unwish
 refine wpAny_Try_except ?_
 refine u0v (hbody pins _ (exW Y.K CS i Y.N.length u D) ?_ [] s σ H D (IY.pinAll.wish _) h) ?_ λe s₁ h=>h
 .intro pins' σ' H1 s1 e s2 I1 a
  have I1':Inv Y pins σ' H1 s1:=I1.unwish.unpin ok
  refine zdL (X:=Y) hst hf hex I1' a λea C t od H' B h3 hE di3 hea h0 hpn fl hinv ee=>?_
  obtain⟨C',ec,hsub,hu⟩:=hE
  cases ec
  have I3:Inv Y pins σ' H' { s2 with heap:=h3 }:=hinv h3 fl.1 fl.2.2.1 (.refl _)
  obtain⟨ob,hob,hobc⟩:=fl.there
  have ty:PySem.W.Looks (model Y.prog Y.w) h3 (typeOf (.ref ea)) (.ref C):=hobc ▸ (PySem.W.Looks.ld hob).andThen .now
  refine wpAny_handleBy_cons (codeAny_handlers_test (WE (X:=Y.held (.ref ea)) (I3.held (.ref ea)) hg hm ?_ hd)) (by intro q;cases q)
  refine(PySem.W.exm_one (M:=model Y.prog Y.w) I3.kIn ty hsub).here ?_
  refine codeAny_handlers_suite_as ?_
  refine WN (Yt _ _) (wpAny_setFlight_noneW (Q:=λ_ s''=>∃ h4,s''={ s2 with heap:=h4 }/\B.StaysIn h4/\h4.FunFrames B Y.stack/\h4.TracedW B ea (.ref C) (.ref t)/\∀ b o,h3.get? b=some o->(∀ vs,o.data≠.fields vs)->h4.get? b=some o) (s:={ s2 with heap:=h3 }) fl.1 fl.2.2.1 fl.2.2.2.at λh4 k1 k2 k3 k4=>⟨h4,rfl,k1,k2,k3,k4⟩) ?_
  rintro _ _ ⟨h4,rfl,k1,k2,k3,k4⟩ dk4
  have I4:Inv Y pins σ' H' { s2 with heap:=h4 }:=hinv h4 k1 k2 λb o hb hn=>⟨o.slots,k4 b o hb hn⟩
  obtain⟨oe,vs,_,_,_,he,hcl,hdv,_⟩:=k3
  obtain⟨oe',he',hdi⟩:=di3.stay dk4 ⟨oe,he⟩
  rw[he]at he'
  cases he'
  have hnc:PySem.W.notCls oe=true:=by unfold PySem.W.notCls;rw[hdv]
  have I5:Inv Y pins σ' (upd H' ea (zet ea C od)) { s2 with heap:=h4 }:=I4.track hea he hdv h0 hpn ⟨⟨oe,he,hcl.1,hdi,hnc⟩,⟨oe,he⟩,λh1 h2 ⟨o1,e1,e2⟩ kk=>⟨o1,kk o1 e1,e2⟩⟩
  refine VE (X:=Y.held (.ref ea)) (v:=.ref ea) (I5.held (.ref ea)) hN hi (.inl hk) rfl (λs6 I6=>?_) (.inr hk)
  refine u0v (hsuite ea pins s6 _ _ (gone i D) (I6.wish _) (hu ea σ' I4.len hea)) (λf s7 q=>?_) λx s7 q=>q.elim
  cases f with
  | ret uv =>
   obtain⟨v,σ7,H7,I7,rv,q⟩:=q
   exact ZX ((Inv.unheld (X:=Y) ok I7.unwish)) hN hi hk λs8 I8=>⟨v,_,H7,I8.wish _,rv,q⟩
  | next =>
   obtain⟨σ7,H7,I7,q⟩:=q
   exact ZX ((Inv.unheld (X:=Y) ok I7.unwish)) hN hi hk λs8 I8=>⟨_,H7,I8.wish _,q⟩
  | brk =>
   obtain⟨σ7,H7,I7,q⟩:=q
   exact ZX ((Inv.unheld (X:=Y) ok I7.unwish)) hN hi hk λs8 I8=>⟨_,H7,I8.wish _,q⟩
  | cont =>
   obtain⟨σ7,H7,I7,q⟩:=q
   exact ZX ((Inv.unheld (X:=Y) ok I7.unwish)) hN hi hk λs8 I8=>⟨_,H7,I8.wish _,q⟩
 .intro f s₁ q
  cases f with
  | ret uv =>
   obtain⟨v,σ7,H7,I7,rv,q⟩:=q
   exact⟨v,σ7,H7,(Inv.unpin (X:=Y) ok I7.unwish).wish _,rv,q⟩
  | next =>
   obtain⟨σ7,H7,I7,q⟩:=q
   exact u2k ⟨σ7,H7,(Inv.unpin (X:=Y) ok I7.unwish).wish _,q⟩
  | brk =>
   obtain⟨σ7,H7,I7,q⟩:=q
   exact⟨σ7,H7,(Inv.unpin (X:=Y) ok I7.unwish).wish _,q⟩
  | cont =>
   obtain⟨σ7,H7,I7,q⟩:=q
   exact⟨σ7,H7,(Inv.unpin (X:=Y) ok I7.unwish).wish _,q⟩
end L2
namespace L2
open PySem PySem.Spec PyProof.Rows PySem.W PySem.Calls PySem.Builtin PySem.Builtin.Getset_descriptor
section
variable {prog:Program}{w:World}{A:Around}{E:Value->Shared->Prop}{K:W.Frag}{h:Heap}{g:Array GenState}{d:Drawn}{t:Nat}{os:OsState}{a C:Addr}{o:Obj}
def Of (h:Heap)(a:Addr)(o:Obj)(C:Addr):Prop:=h.get? a=some o/\o.cls=.ref C
theorem Of.type {M:Model}(I:Of h a o C):Looks M h (typeOf (.ref a)) (.ref C):=I.2 ▸ (Looks.ld I.1).andThen .now
theorem zgc {M:Model} {name:Str} {x gt:Value} (X:K.In h) (ha:findIn K (.ref C) name=some (some x)) (hg:specialIn K x "__get__"=some (some gt)) (ht:takesIn K x=some true):Looks M h (Builtin.ObjectAttr.find (.ref a) (.ref C) name) (.bind gt x):=by
 have L1:=looks_findIn (M:=M) X ha
 have L2:Looks M h (Builtin.ObjectAttr.getOf (some x)) (some gt):=looks_specialIn X hg
 have L3:=looks_takesIn (M:=M) X ht
 exact L1.andThen (L2.andThen ((show Looks M h (Builtin.ObjectAttr.dataDescriptor? (some x) (some gt)) (some (gt,x))from L3.andThen .now).andThen (Looks.tag .now)))
theorem zke {R:Result->Shared->Prop} {tp:Value} (X:K.In h) (I:Of h a o C) (hm:mroIn K C (.type "object")=some true) (hq:R (.ok (.ret (.ref C))) ⟨h,g,d,t,os⟩) :
 codeAny (model prog w) A (.call (.builtin "getset_descriptor.__get__") ⟨[.builtin "object.__class__",.ref a,tp],[]⟩) R ⟨h,g,d,t,os⟩:=by
 have L0:=I.type (M:=model prog w)
 have L1:=looks_mroIn (M:=model prog w) X hm
 refine u1U KF.slot_gs.plain KF.entry_gs (KF.slot_gs.check _ _ _ _ _ _ _ _ KF.type_class (KF.args_gs _ _ _) ?_)
 unfold Builtin.«getset_descriptor.__get__» descrGet
 rw[dga_obj]
 refine u0 (u8 ?_)
 unfold descrGetter descrCheckInstance descrNameAndClass isInstance
 simp only[KF.owner_class]
 repeat lk
 refine⟨u26 _ (by decide +kernel),codeAny_builtin KF.entry_class ?_⟩
 unfold Builtin.«object.__class__» shownTypeOf
 repeat lk
 exact hq
theorem zeV {tk:Tok} {Q:Fin->Shared->Prop} (X:K.In h) (I:Of h a o C) (ha:findIn K (.ref C) "__class__"=some (some (.builtin "object.__class__"))) (hn:specialIn K (.builtin "object.__class__") "__get__"=some (some (.builtin "getset_descriptor.__get__"))) (ht:takesIn K (.builtin "object.__class__")=some true) (hm:mroIn K C (.type "object")=some true)
 (hq:Q (.done (.ret (.ref C))) ⟨h,g,d,t,os⟩):wpAny (model prog w) A (Builtin.«object.__getattribute__» ⟨[.ref a,.str "__class__" tk],[]⟩) Q E ⟨h,g,d,t,os⟩:=by
 have L0:=I.type (M:=model prog w)
 have L1:=zgc (M:=model prog w) (a:=a) X ha hn ht
 refine u0 (u8 (u0 ?_))
 refine u8 (u0 (L0.at (u0 (L1.at ?_))))
 show wpAny _ _ (holding [.builtin "object.__class__"] (call (.builtin "getset_descriptor.__get__") [.builtin "object.__class__",.ref a,.ref C])>>=ret) _ _ _
 exact u0 (u0n (u2K (zke X I hm (u8 hq))))
theorem zfv {M:Model} {nameV:Value} {Q:Unit->Shared->Prop} (X:K.In h) (I:Of h a o C) (hb:subIn K (.ref C) (.type "BaseException")=some true) (hq:Q () ⟨h,g,d,t,os⟩):wpAny M A (checkBuiltinCall "BaseException.__getattribute__" ⟨[.ref a,nameV],[]⟩) Q E ⟨h,g,d,t,os⟩:=by
 have hk:builtinKind "BaseException.__getattribute__"=some .slot:=by decide +kernel
 have hsplit:splitId "BaseException.__getattribute__"=some ("BaseException","__getattribute__"):=by decide +kernel
 have ha:=F.args_bexc_ga (.ref a) nameV
 have L0:=I.type (M:=M)
 have L1:Looks M h (isSubtype (.ref C) (.type "BaseException")) true:=looks_subIn X hb
 simp only[checkBuiltinCall,hk,hsplit]
 refine u0 ?_
 unfold isInstance
 refine u0 (L0.at (L1.at ?_))
 repeat (first | assumption | wp_step)
theorem zmu {tk:Tok} {Q:Value->Shared->Prop} (X:K.In h) (I:Of h a o C) (hga:findIn K (.ref C) "__getattribute__"=some (some (.builtin "BaseException.__getattribute__"))) (hgt:findIn K (.ref C) "__getattr__"=some none)
 (ha:findIn K (.ref C) "__class__"=some (some (.builtin "object.__class__"))) (hn:specialIn K (.builtin "object.__class__") "__get__"=some (some (.builtin "getset_descriptor.__get__"))) (ht:takesIn K (.builtin "object.__class__")=some true) (hm:mroIn K C (.type "object")=some true) (hb:subIn K (.ref C) (.type "BaseException")=some true) (hq:Q (.ref C) ⟨h,g,d,t,os⟩) :
 wpAny (model prog w) A (getAttrBy (.ref a) (.str "__class__" tk) false) Q E ⟨h,g,d,t,os⟩:=by
 have L0:=I.type (M:=model prog w)
 have L1:=looks_findIn (M:=model prog w) X hga
 have L2:=looks_findIn (M:=model prog w) X hgt
 have f3:=F.attrBase_ValueError.ga.bind (.ref a)
 have hx2:(Value.builtin "BaseException.__getattribute__" == Value.builtin "object.__getattribute__")=false:=by decide +kernel
 unfold getAttrBy
 refine u0n (u0 (L0.at (u0 (L1.at ?_))))
 dsimp only
 rw[hx2,u1H,j0 u6]
 unfold getAttrByItsOwn
 refine u0 ?_
 show wpAny _ _ (typeLookup (.ref C) "__getattr__") _ _ _
 refine L2.at (u0 (u1m (u0n ?_)))
 show wpAny _ _ (boundAndCalled (.builtin "BaseException.__getattribute__") (.ref a) (.str "__class__" tk)) _ _ _
 unfold boundAndCalled
 rw[f3]
 refine u0 (u8 ?_)
 refine u2K (u1U F.attrBase_ValueError.ga.plain F.entry_bexc_ga (zfv X I hb (zeV X I ha hn ht hm ?_)))
 exact handed_on rfl hq
theorem zgx {Q:Option Value->Shared->Prop} {s:Shared} (X:K.In s.heap) (I:Of s.heap a o C) (hga:findIn K (.ref C) "__getattribute__"=some (some (.builtin "BaseException.__getattribute__"))) (hgt:findIn K (.ref C) "__getattr__"=some none)
 (ha:findIn K (.ref C) "__class__"=some (some (.builtin "object.__class__"))) (hn:specialIn K (.builtin "object.__class__") "__get__"=some (some (.builtin "getset_descriptor.__get__"))) (ht:takesIn K (.builtin "object.__class__")=some true) (hm:mroIn K C (.type "object")=some true) (hb:subIn K (.ref C) (.type "BaseException")=some true)
 (hq:Q (some (.ref C)) { s with toks:=s.toks+1 }):wpAny (model prog w) A (getAttr? (.ref a) "__class__") Q E s:=by
 obtain⟨hh,g,d,t,os⟩:=s
 unfold getAttr? getAttrBy?
 exact u0 (wpAny_mkText (u0 (u1m (zmu X I hga hgt ha hn ht hm hb (u8 hq)))))
def wA (K:W.Frag) (C:Addr):Bool:=(clsIn K C).isSome&&findIn K (.ref C) "__getattribute__" == some (some (.builtin "BaseException.__getattribute__"))&&findIn K (.ref C) "__getattr__" == some none&&findIn K (.ref C) "__class__" == some (some (.builtin "object.__class__"))
 && specialIn K (.builtin "object.__class__") "__get__" == some (some (.builtin "getset_descriptor.__get__"))&&takesIn K (.builtin "object.__class__") == some true&&mroIn K C (.type "object") == some true&&subIn K (.ref C) (.type "BaseException") == some true
theorem zht (q:wA K C=true):KitX K (.ref a) (.ref C) (λh=>∃ o,Of h a o C):=by
 unfold wA at q
 simp only[g9,d8]at q
 obtain⟨⟨⟨⟨⟨⟨⟨hcls,hga⟩,hgt⟩,ha⟩,hn⟩,ht⟩,hm⟩,hb⟩:=q
 obtain⟨cd,hcd⟩:=u3j.mp hcls
 unfold clsIn at hcd
 refine⟨λ_ _ _ ⟨_,I⟩=>I.type,λ_ _ X _=>?_,λh tp dd its n sl X htp=>?_,λX ⟨_,I⟩ k=>zgx X I hga hgt ha hn ht hm hb k⟩
 .split at hcd
  .rename_i c' d' cd' sl' ho
   intro A' Q' E' s' k q
   unfold isType loadHead
   exact u0 (wpAny_loadPart (k _ _ (X _ _ ho)) (u8 q))
  .cases hcd
 .refine Bool.eq_false_iff.mpr λq=>?_
  have e:C=tp:=Value.ref.inj (d8.mp q)
  subst e
  split at hcd
  .rename_i c' d' cd' sl' ho
   have z:=(X _ _ ho).symm.trans htp
   cases z
  .cases hcd
theorem W7 {c:Value}{b:Bool}{s:Shared}{Q:Value->Shared->Prop}(q:wA K C=true)(X:K.In s.heap)(I:∃ o,Of s.heap a o C)(e:kitOne K (.ref C) c=some b)(hq:∀ tk,Q (.bool b) { s with toks:=tk }) :
 wpAny (model prog w) A (call (.builtin "isinstance") [.ref a,c]) Q E s:=kia_one (zht q) X I e (by intro z;cases z) hq
end
end L2
namespace L2
open PySem PySem.Spec PyProof.Rows
section
variable {P:Program}{w:World}{K:W.Frag}{mg:Str->Option Value}{base:Heap}
def zg9 (P:Program)(w:World)(K:W.Frag)(mg:Str->Option Value)(base:Heap)(k:Nat)(f:Addr)(fd:FuncData)(ps:List Str)(sp:Sp):Prop :=
 (∀ vs H Q E,sp vs H Q E->vs.length=ps.length)/\∀ (A:Around) (outer:List Env) (s:Shared) (H:Hp) (args:Args) (us:List Value) (vs:List V) (Q:VK) (E:XK) (ev:Value),vw k A->zjg P w K mg base A outer s H->BindsTo s fd args (ps.zip us)->yl vs us->sp vs H Q E ->
  codeAny (model P w) (A.mark (some ev)) (.call (.ref f) args) (CR CX0 outer P w H s Q E) s
theorem zki {x qual:Str}{st:Stmt}{f:Addr}{fd:FuncData}{N ps:List Str}{k:Nat}{sp:Sp}(F:Fun K x qual st f fd)(S:zx N ps (zi st))(len:∀ vs H Q E,sp vs H Q E->vs.length=ps.length)
 (hbody:∀ (cdv:Value) (A:Around) (outer:List Env) (s:Shared) (H:Hp) (vs:List V) (Q:VK) (E:XK) (ev:Value),vw k (A.deeper (envOfC qual (zi st) s.heap.objs.size f cdv))->sp vs H Q E ->
  ∃ t,PSs ((Zq CX0 P w K mg base N qual (zi st) f cdv A outer s H E).held ev).nox (xU st) t/\t { nx:=λ_ H'=>Q .non H',rt:=Q } (start N vs) H):zg9 P w K mg base (k+1) f fd ps sp:=by
 obtain⟨oc,od,kV,doc,pm,an,cdv,ct,osl,rfl,lk,hcd⟩:=F.ex
 refine⟨len,λA outer s H args us vs Q E ev hr e0 hb r hsp=>?_⟩
 have KX:K.In s.heap:=e0.mod.kin.keeps λb o e=>(e0.bs b o e).1
 have lim:s.heap.NoLimit:=e0.mod.nolimit.keeps λb o e=>(e0.bs b o e).1
 refine codeAny_call_function (A:=A.mark (some ev)) hr.depth (KX _ _ lk) rfl S.co S.gen rfl (W.codeRec_of KX hcd) (hb _ _ _ _ ?_)
 refine wpAny_newFunctionEnv_cells S.kind (λy hy=>?_) λenv he s1 x=>?_
 .rcases S.par y.1 (u2T (a:=y.1) (b:=y.2) hy).1 with q | q
  .exact .inl q
  .exact .inr ⟨q,u2m _ _ _ (.inl q)⟩
 subst he
 refine⟨lim.keeps x.toInCall.keep,codeAny_func ?_⟩
 obtain⟨t,ht,hq⟩:=hbody cdv A outer s H vs Q E ev (hr.deeper _) hsp
 have I:Inv (Zq CX0 P w K mg base N qual (zi st) f cdv A outer s H E) [] (start N vs) H s1:=zaI S hr.hd e0 (len _ _ _ _ hsp) r x
 refine u0v (ht [] s1 (start N vs) H _ ((I.held ev).wish _) hq) (λfl s' hs=>?_) λe s' hs=>hs.elim
 cases fl with
 | ret u =>
  obtain⟨v,σ',H',J,rv,q⟩:=hs
  exact⟨v,H',J.os,J.bare,J.base,J.hok,rv,q⟩
 | next =>
  obtain⟨σ',H',J,q⟩:=hs
  exact⟨V.non,H',J.os,J.bare,J.base,J.hok,rfl,q⟩
 | brk =>
  obtain⟨_,_,_,q⟩:=hs
  exact False.elim q
 | cont =>
  obtain⟨_,_,_,q⟩:=hs
  exact False.elim q
end
theorem zh2 {Y:Cx}{ev:Value}{k:Nat}{f:Addr}{fd:FuncData}{ps:List Str}{sp:Sp}{x:Str}{p pos:Pos}{e:Expr}{es:List Expr}{t:TA}{E:XK}(F:zg9 Y.prog Y.w Y.K Y.mg Y.base k f fd ps sp)(hr:vw k Y.A)(hg:Gl Y x)(hm:Y.mg x=some (.ref f))(hk:W.keepIn Y.K (.ref f)=true)(hb:XM Y.K fd ps [])(hok:Y.Ok)
 (ha:PA (Y.held ev).nox (e::es) t) (hdb:(x == ("__debug__":Str))=false:=by decide) (he:starEach (e::es) Y.env=(false,eval e Y.env)::starEach es Y.env:=by rfl) (hpl:(backTo pos (starEach es Y.env)).any (·.1)=false:=by rfl) :
 PE (Y.held ev).nox (.Call (.Name x p) (e::es) [] pos) (zku sp [] E t):=by
 intro pins s σ H Q I h
 refine u2j (WE I hg hm ?_ hdb)
 refine W.callWith_K (h₀:=Y.base) I.ok.mod.kin hk (thn (ha pos pins s σ H _ I h) λus s1 ⟨vs,H1,I1,r,q⟩=>⟨I1.kIn,?_⟩) he hpl
 have q:sp (vs++[]) H1 Q E:=q
 rw[u0z]at q
 have I2:Inv Y pins σ H1 s1:=Inv.unheld (X:=Y) hok I1.unwish
 refine u2K (u3d (F.2 Y.A Y.stack s1 H1 ⟨us,[]⟩ us vs Q E ev hr I2.env0 ?_ r q) λr s' hq=>?_)
 .have:=hb s1 us I2.kIn (by rw[u0z,<- r.length];exact F.1 _ _ _ _ q)
  rwa[u0z]at this
 .cases r with
  | error e=>exact False.elim hq
  | ok fl =>
   cases fl with
   | ret u=>exact I1.after hq
   | next=>exact False.elim hq
   | brk=>exact False.elim hq
   | cont=>exact False.elim hq
end L2
namespace L2
open PySem PySem.Spec PyProof.Rows PySem.SeqAt
theorem V8:∀ {bs:List Bool} {its:List Value},yl (bs.map V.bl) its->its=bs.map Value.bool
 | [],its,r=>by
  have:=r.length
  exact List.eq_nil_of_length_eq_zero (by rw[<-this];rfl)
 | b::bs,its,r=>by
  cases r with
  | cons r1 r2 =>
   rw[V8 r2]
   cases r1
   rfl
theorem zdg {A:Around}{s:Shared}{bs:List Bool}{y:Value}(h:y∈(bs.map Value.bool).toArray):EqAt A s y (.bool true) (isBoolOf true y):=by
 obtain⟨b,_,rfl⟩:=u0u.mp (List.mem_toArray.mp h)
 exact EqAt.bool_bool b true
def zfR:V->List V->Hp->VK->Prop:=λx vs H Q=>∃ (l:Addr) (bs:List Bool),x=.ref l/\vs=[.bl true]/\H l=some (.lst (bs.map V.bl))/\Q (.int ((bs.countP (· == true):Nat):Int)) H
theorem zgE {X:Cx}:MtR X "list.count" zfR:=by
 intro pins s σ H x vs v us Q I rx rv h
 obtain⟨l,bs,rfl,rfl,hH,q⟩:=h
 cases rx
 obtain⟨u,rfl,ru⟩:=rv.one
 cases ru
 obtain⟨its,r,pl,hz⟩:=I.list (SqL.of (K:=X.K) hH)
 have e:=V8 r
 subst e
 obtain⟨⟨cls,dd,data,sl⟩,ho,hc,n,hd⟩:=pl.isList
 simp only at hc hd
 subst hc hd
 refine u2J PySem.F.slot_list_count ⟨_,ho,rfl⟩ PySem.F.entry_list_count (PySem.F.args_list_count_2 _ _) (list_countAt l (bs.map Value.bool).toArray n dd sl (.bool true) (isBoolOf true)) ⟨ho,λy hy=>zdg hy,?_⟩
 refine⟨.int (((bs.map Value.bool).toArray.toList.countP (isBoolOf true):Nat):Int),H,I.tok _,⟨_,rfl⟩,?_⟩
 rw[show(bs.map Value.bool).toArray.toList=bs.map Value.bool from rfl,List.countP_map]
 exact q
def zfI:V->List V->Hp->VK->Prop:=λx vs H Q=>∃ (l:Addr) (bs:List Bool),x=.ref l/\vs=[.bl true]/\H l=some (.lst (bs.map V.bl))/\true∈bs/\Q (.int ((bs.idxOf true:Nat):Int)) H
theorem ze0 {X:Cx}:MtR X "list.index" zfI:=by
 intro pins s σ H x vs v us Q I rx rv h
 obtain⟨l,bs,rfl,rfl,hH,hm,q⟩:=h
 cases rx
 obtain⟨u,rfl,ru⟩:=rv.one
 cases ru
 obtain⟨its,r,pl,hz⟩:=I.list (SqL.of (K:=X.K) hH)
 have e:=V8 r
 subst e
 obtain⟨⟨cls,dd,data,sl⟩,ho,hc,n,hd⟩:=pl.isList
 simp only at hc hd
 subst hc hd
 have hj:bs.idxOf true < bs.length:=List.idxOf_lt_length_iff.mpr hm
 have hl63:=Vs
 have hb:bs.length<=sizeLine:=by simpa using hz
 refine u2J PySem.F.slot_list_index ⟨_,ho,rfl⟩ PySem.F.entry_list_index (PySem.F.args_list_index_2 _ _) (list_indexAt l (bs.map Value.bool).toArray n dd sl (.bool true) (isBoolOf true) (bs.idxOf true) (by simpa using hj) (by omega) ?_ ?_) ⟨ho,λy hy=>zdg hy,⟨.int ((bs.idxOf true:Nat):Int),H,I.tok _,⟨_,rfl⟩,q⟩⟩
 .simp only[List.getElem_toArray,u2x]
  rw[List.getElem_idxOf hj]
  rfl
 .intro m hm2 hlt
  simp only[List.getElem_toArray,u2x]
  exact List.not_of_lt_findIdx (p:=(· == true)) (xs:=bs) hlt
end L2
namespace L2
open PySem PySem.Spec PyProof.Rows
def clsV:V->Option Value
 | .ref C=>some (.ref C)
 | .ty T=>some (.type T)
 | _=>none
def zm5 (K:W.Frag):List V->Hp->VK->Prop:=λvs H Q=>∃ (a C:Addr) (od:Option Addr) (v:V) (c:Value) (b:Bool),vs=[.ref a,v]/\H a=some (zet a C od)/\wA K C=true/\clsV v=some c/\W.kitOne K (.ref C) c=some b/\Q (.bl b) H
theorem yG {X:Cx}:vR X (.builtin "isinstance") (zm5 X.K):=by
 intro pins s σ H vs us Q I rv h
 obtain⟨a,C,od,v,c,b,rfl,hH,hl,hc,hk,q⟩:=h
 obtain⟨u1,u2,rfl,r1,r2⟩:∃ u1 u2,us=[u1,u2]/\yI (.ref a) u1/\yI v u2:=by
  cases rv with
  | cons r1 r=>cases r with
   | cons r2 r=>cases r;exact⟨_,_,rfl,r1,r2⟩
 cases r1
 have e2:u2=c:=by
  cases v <;> try cases hc
  .cases r2;rfl
  .cases r2;rfl
 subst e2
 obtain⟨⟨oe,h1,h2,_⟩,_⟩:=I.hok a _ hH
 exact W7 hl I.kIn ⟨oe,h1,h2⟩ hk λtk=>⟨.bl b,H,I.tok tk,rfl,q⟩
theorem zc9 {K:W.Frag}{σ:St}{H:Hp}{a C:Addr}{od:Option Addr}{v:V}{c:Value}{b:Bool}{Q:VK}(h0:σ[0]?=some (some (.ref a)))(hH:H a=some (zet a C od))(hl:wA K C=true)(hc:clsV v=some c)(hk:W.kitOne K (.ref C) c=some b)(q:Q (.bl b) H) :
 tCB (zm5 K) (XI (Vj 0) (XI (tC v) zib)) σ H Q:=⟨.ref a,h0,⟨a,C,od,v,c,b,rfl,hH,hl,hc,hk,q⟩⟩
def zdC (n j:Nat):List Bool:=(List.range n).map λi=>i == j
def zdf (K:W.Frag) (cs:List Addr) (CS C:Addr) (j:Nat):Bool:=wA K C&&(W.kitOne K (.ref C) (.type "ValueError") == some true)&&(W.exmOne K (.ref C) (.ref CS) == some true)&&(cs.map (λc=>W.kitOne K (.ref C) (.ref c)) == (zdC cs.length j).map some)
structure zcZ (K:W.Frag) (cs:List Addr) (CS C:Addr) (j:Nat):Prop where
 look:wA K C=true
 val:W.kitOne K (.ref C) (.type "ValueError")=some true
 exm:W.exmOne K (.ref C) (.ref CS)=some true
 hot:cs.map (λc=>W.kitOne K (.ref C) (.ref c))=(zdC cs.length j).map some
theorem zcZ.of {K:W.Frag}{cs:List Addr}{CS C:Addr}{j:Nat}(h:zdf K cs CS C j=true):zcZ K cs CS C j:=by
 unfold zdf at h
 simp only[g9,d8]at h
 exact⟨h.1.1.1,h.1.1.2,h.1.2,h.2⟩
section
variable {K:W.Frag}{σ:St}{H H0:Hp}{a C:Addr}{od:Option Addr}
def tIs (K:W.Frag):List Addr->TA
 | []=>zib
 | c::r=>XI (tCB (zm5 K) (XI (Vj 0) (XI (tC (.ref c)) zib))) (tIs K r)
theorem zi5 (h0:σ[0]?=some (some (.ref a)))(hH:H a=some (zet a C od))(hl:wA K C=true):∀ (cs:List Addr) (bs:List Bool) (Q:List V->Hp->Prop),cs.map (λc=>W.kitOne K (.ref C) (.ref c))=bs.map some->Q (bs.map V.bl) H->tIs K cs σ H Q:=by
 intro cs
 induction cs with
 | nil =>
  intro bs Q e q
  cases bs with
  | nil=>exact q
  | cons b r=>cases e
 | cons c r ih =>
  intro bs Q e q
  cases bs with
  | nil=>cases e
  | cons b bs =>
   obtain⟨e1,e2⟩:=List.cons.inj e
   exact zc9 h0 hH hl rfl e1 (ih bs _ e2 q)
structure KSt (H0:Hp) (a C:Addr) (od:Option Addr) (bs:List Bool) (σ:St) (H:Hp):Prop where
 same:zZ H0 H
 len:σ.length=2
 e0:σ[0]?=some (some (.ref a))
 he:H a=some (zet a C od)
 lst:∃ p,σ[1]?=some (some (.ref p))/\H p=some (.lst (bs.map V.bl))
theorem zfx {bs:List Bool}{p:Addr}(s:zZ H0 H)(hl:σ.length=2)(e0:σ[0]?=some (some (.ref a)))(he:H a=some (zet a C od))(hp:H p=none):KSt H0 a C od bs (σ.set 1 (some (.ref p))) (upd H p (.lst (bs.map V.bl))):=by
 refine⟨λb o e=>?_,by rw[u3M];exact hl,?_,?_,p,?_,zm⟩
 .have:=s b o e
  rw[zk (zh this hp)];exact this
 .rw[d4 (by decide)];exact e0
 .rw[zk (zh he hp)];exact he
 .rw[i7 (by omega)]
theorem zfY {cs:List Addr}{bs:List Bool}{D:zbW}(hk:wA K C=true)(e:cs.map (λc=>W.kitOne K (.ref C) (.ref c))=bs.map some)(hb:bs.length<=sizeLine)(hl:σ.length=2)(e0:σ[0]?=some (some (.ref a)))(he:H a=some (zet a C od))(k:∀ σ' H',KSt H a C od bs σ' H'->D.nx σ' H') :
 zna (znS (tIs K cs)) (Zy 1) D σ H :=
 zi5 e0 he hk cs bs _ e ⟨by rw[u7];exact hb,λp hp=>k _ _ (zfx (.refl _) hl e0 he hp)⟩
theorem VT {cs:List Addr}{bs0 bs:List Bool}{D:zbW}(hk:wA K C=true)(e:cs.map (λc=>W.kitOne K (.ref C) (.ref c))=bs.map some)(hb:bs0.length+bs.length<=sizeLine)(S:KSt H0 a C od bs0 σ H)(k:∀ σ' H',KSt H0 a C od (bs0++bs) σ' H'->D.nx σ' H') :
 zna (tOp znG (Vj 1) (znS (tIs K cs))) (Zy 1) D σ H:=by
 obtain⟨p,e1,hp⟩:=S.lst
 refine⟨.ref p,e1,zi5 S.e0 S.he hk cs bs _ e ⟨by rw[u7];omega,λq hq=>?_⟩⟩
 refine⟨p,q,bs0.map V.bl,bs.map V.bl,rfl,rfl,by rw[zk (zh hp hq)];exact hp,zm,by rw[u7,u7];exact hb,λr hr=>?_⟩
 rw[<-i8]
 refine k _ _ (zfx (λb o e=>?_) S.len S.e0 ?_ hr)
 .have:=S.same b o e
  rw[zk (zh this hq)];exact this
 .rw[zk (zh S.he hq)];exact S.he
theorem zfS:∀ j:Nat,j < 13->(zdC 13 j).countP (· == true)=1/\(zdC 13 j).idxOf true=j/\true∈zdC 13 j:=by decide +kernel
theorem zkm {j:Nat} {D:zbW} {tr:TS} (hv:W.kitOne K (.ref C) (.type "ValueError")=some true) (hk:wA K C=true) (hj:j < 13) (S:KSt H0 a C od (zdC 13 j) σ H) (k:D.rt (.int j) H) :
 zog (tIfS (tOr (tNot (tB (tCB (zm5 K) (XI (Vj 0) (XI (tC (.ty "ValueError")) zib))))) (zj4 (tOp rNe (tBM K "list" zfR (Vj 1) (XI (tC (.bl true)) zib)) (tC (.int 1))))) tr zk8) (znC (tBM K "list" zfI (Vj 1) (XI (tC (.bl true)) zib))) D σ H:=by
 obtain⟨h1,h2,h3⟩:=zfS j hj
 obtain⟨p,e1,hp⟩:=S.lst
 refine zc9 S.e0 S.he hk rfl hv ⟨true,rfl,?_⟩
 show(if (!true)=true then _ else _)
 rw[j0 (by decide)]
 refine⟨.ref p,e1,.inl ⟨rfl,_,SqL.of hp⟩,p,_,rfl,rfl,hp,?_⟩
 rw[h1]
 refine⟨rfl,false,by rw[zb7];rfl,?_⟩
 show(if false=true then _ else _)
 rw[j0 (by decide)]
 refine⟨.ref p,e1,.inl ⟨rfl,_,SqL.of hp⟩,p,_,rfl,rfl,hp,h3,?_⟩
 rw[h2]
 exact k
end
def zeD (cl:Nat->Addr)(ok:Nat->Prop):Sp:=λvs H Q _=>∃ a j od,vs=[.ref a]/\H a=some (zet a (cl j) od)/\ok j/\∀ H',zZ H H'->Q (.int (j:Nat)) H'
def tXA (K:W.Frag)(ta:TE)(f:Str):TE:=fun σ H Q=>ta σ H λx H1=>∃ a C dx fs v,x=.ref a/\H1 a=some (zet a C (some dx))/\H1 dx=some (.xd fs)/\wf K C/\Zx K C f/\fs.lookup f=some v/\Q v H1
theorem zmF {X:Cx}{e:Expr}{ta:TE}{f:Str}{pos:Pos}(he:PE X e ta)(hb:attributeBase e f X.env (eval e X.env)=eval e X.env):PE X (.Attribute e f pos) (tXA X.K ta f):=by
 intro pins s σ H Q I h
 refine zjE hb (thn (he pins s σ H _ I h) λu s1 hh9=>?_)
 obtain⟨x,H1,I1,rx,a,C,dx,fs,v,ex,ea,ed,hx,n,l,q⟩:=hh9
 subst ex
 obtain rfl:u=Value.ref a:=rx
 obtain⟨⟨oe,h1,h2,h3,h4⟩,_⟩:=I1.hok a _ ea
 obtain⟨mA,hn,hr⟩:=I1.hok dx _ ed
 obtain⟨od,g1,g2⟩:=zbl hn
 obtain⟨u,hu,ru⟩:=zc0.some_of (v:=v) (o:=mA f) (by rw[<-l];exact hr f)
 have II:PySem.W.InstAt s1.heap a oe C (some od):=⟨h1,h2,h4,by rw[h3];exact g1⟩
 obtain⟨cd,hc,_,hh⟩:=hx.cls
 have hf:W.findObj X.K C (some od) f=some (.value u):=by
  unfold W.findObj
  rw[hc,u0e,show W.findIn X.K (.ref C) f=some none from n]
  show((W.ownOf cd (some od) f).bind _)=_
  unfold W.ownOf
  rw[hh,t9 rfl]
  dsimp only
  rw[g2,hu]
  rfl
 exact zjO I1.kIn II hx hf (zgP ru) ⟨v,H1,I1.tok _,ru,q⟩
theorem PS.nox {X:Cx}{st:Stmt}{t:TS}(h:PS X.nox st t):PS X st t:=λpins s σ H D I hw =>
 u0v (h pins s σ H D (I.wish _) hw) (λ_ _ q=>q.unwish) λ_ _ z=>False.elim z
end L2
namespace Dl
open PySem L2
variable [KK]
theorem SD.nox {X:Cx}{st:Stmt}{g:SE->Ctl}(h:SD X.nox st g):SD X st g:=let ⟨t,p,r⟩:=h;⟨t,p.nox,r⟩
def xEx (fx:Ev->Option Nat):SE->Option Nat:=fun ρ=>fx (visG ρ)
theorem zf5 {E:XK}{cl:Nat->Addr}{X:Cx}{sts:List Stmt}:XSs E cl X sts xNo:=⟨λ_ _ _=>False,λ_ _ _ _ _ _ h=>h.elim,λ_ _ _ _ _ _ _ _ _ h _=>by cases h⟩
theorem Gr.more {F H H':Hp}(s:zZ F H)(k:zZ H H'):Gr F H F H':=⟨zZ.refl _,s.trans k,λp o e1 e2=>⟨.inl e1,k p o e2⟩⟩
def zlJ (gx:SE->Option Nat)(g:SE->Ctl)(h:Nat->Option D):SE->Ctl:=fun ρ=>match gx ρ with
 | some j=>match h j with
  | some d=>.rt d
  | none=>.no
 | none=>g ρ
def VV (H:Hp)(j:Nat)(od:Option Addr):Prop:=match pay j with
 | none=>od=none
 | some fs=>∃ dx,od=some dx/\H dx=some (.xd fs)
theorem VV.mono {H H':Hp}{j:Nat}{od:Option Addr}(h:VV H j od)(s:zZ H H'):VV H' j od:=by
 unfold VV at h ⊢
 cases e:pay j with
 | none=>rw[e]at h;exact h
 | some fs=>rw[e]at h;obtain⟨dx,e1,e2⟩:=h;exact⟨dx,e1,s _ _ e2⟩
structure Est (cl:Nat->Addr) (i j:Nat) (σ:St) (H:Hp) (a:Addr) (od:Option Addr):Prop where
 sl:σ[i]?=some (some (.ref a))
 he:H a=some (zet a (cl j) od)
 pa:VV H j od
theorem Est.mono {cl:Nat->Addr}{i j:Nat}{σ:St}{H H':Hp}{a:Addr}{od:Option Addr}(h:Est cl i j σ H a od)(s:zZ H H'):Est cl i j σ H' a od:=⟨h.sl,s _ _ h.he,h.pa.mono s⟩
def RU (cl:Nat->Addr)(i:Nat)(u:TS)(h:Nat->Option D):Prop:=∀ (j:Nat) (d:D) (σ:St) (H:Hp) (a:Addr) (od:Option Addr) (D':zbW),h j=some d->Est cl i j σ H a od->(∀ H' v,(∀ F,zZ F H->∃ F',Gr F H F' H'/\At F' d v)->D'.rt v H')->u D' σ H
theorem zlj {Y:Cx}{CS:Addr}{x n:Str}{i:Nat}{body suite:List Stmt}{b₀:Stmt}{pos hpos np:Pos}{cl:Nat->Addr}{g:SE->Ctl}{gx:SE->Option Nat}{u:TS}{h:Nat->Option D}(hst:Y.stack=Y.env::Y.outer)(hf:Y.env.frame=some Y.env.locals)(hex:Y.ex=[])
 (hN:Y.N.Nodup) (hi:Y.N[i]?=some n) (hk:Y.env.scope.names.lookup n=some .local) (hg:Gl Y x) (hm:Y.mg x=some (.ref CS))
 (hbx:∀ (ps:List (Addr × Obj)) (W:Value->Shared->Prop) (E0:XK),Xt (Air Y.prog Y.w) ((Y.pinned ps).wish W) E0->XSs E0 cl ((Y.pinned ps).wish W) body gx)
 (hb:∀ (ps:List (Addr × Obj)) (W:Value->Shared->Prop),SDs ((Y.pinned ps).wish W) body g)
 (hexm:∀ j d,h j=some d->PySem.W.exmOne Y.K (.ref (cl j)) (.ref CS)=some true)
 (hsuite:Y.Ok->∀ ea,PSs (Y.held (.ref ea)).nox (b₀::suite) u) (hu:RU cl i u h) (hd:(x == ("__debug__":Str))=false:=by decide) :
 SD Y.nox (.Try body [.ExceptHandler (some (.Name x np)) (some n) (b₀::suite) hpos] [] [] pos) (zlJ gx g h):=by
 let tb:XK->TS:=λE0 D σ H=>∀ (ps:List (Addr × Obj)) (W:Value->Shared->Prop),Xt (Air Y.prog Y.w) ((Y.pinned ps).wish W) E0->∃ t,PSs ((Y.pinned ps).wish W) body t/\t D σ H
 refine⟨λD σ H=>tb (exW Y.K CS i Y.N.length u D) D σ H,λpins s σ H D I hq=>?_,λFb Hb F H ρ σ D rl k=>?_⟩
 .refine zlw (tb:=tb) hst hf hex hN hi hk hg hm (λps W E0 hP pins s σ H D I hq=>?_) (hsuite I.ok.unwish) hd pins s σ H D I hq
  obtain⟨t,p,ht⟩:=hq ps W hP
  exact p pins s σ H D I ht
 .intro ps W hP
  unfold zlJ at k
  cases e:gx ρ with
  | none =>
   rw[e]at k
   obtain⟨t,p,r⟩:=hb ps W
   exact⟨t,p,r Fb Hb F H ρ σ D rl k⟩
  | some j =>
   rw[e]at k
   dsimp only at k
   cases e2:h j with
   | none=>rw[e2]at k;exact k.elim
   | some d =>
    rw[e2]at k
    obtain⟨t,p,r⟩:=hbx ps W _ hP
    refine⟨t,p,r Fb Hb F H ρ σ D j rl e λF' H' gr=>?_⟩
    have go:∀ (od:Option Addr) (H0:Hp),zZ H' H0->VV H0 j od->exW Y.K CS i Y.N.length u D (.ref (cl j)) od H0:=λod H0 sm pa=>⟨_,rfl,hexm j d e2,λea σ' hl hn=>by
     have hi':i < σ'.length:=by
      rw[hl]
      exact(t7.mp hi).1
     have sm0:zZ H0 (upd H0 ea (zet ea (cl j) od)):=λb o q=>by rw[zk (zh q hn)];exact q
     refine hu j d _ _ ea od _ e2 ⟨by rw[i7 hi'],zm,pa.mono sm0⟩ λH'' v av=>?_
     obtain⟨F2,g2,a2⟩:=av F' (gr.fh.trans (sm.trans sm0))
     exact k F2 H'' v ((gr.trans (Gr.more gr.fh (sm.trans sm0))).trans g2) a2⟩
    unfold EJ
    cases ep:pay j with
    | none=>exact go none H' (zZ.refl _) (by unfold VV;rw[ep])
    | some fs=>exact λdx hdx=>go (some dx) _ (λb o q=>by rw[zk (zh q hdx)];exact q) (by unfold VV;rw[ep];exact⟨dx,rfl,zm⟩)
def SX (cl:Nat->Addr)(i:Nat)(t:TE)(f:Nat->Option D):Prop:=∀ (j:Nat) (d:D) (σ:St) (H:Hp) (a:Addr) (od:Option Addr) (Q:VK),f j=some d->Est cl i j σ H a od->(∀ H' v,zZ H H'->(∀ F,At F d v)->Q v H')->t σ H Q
def SXA (cl:Nat->Addr)(i:Nat)(t:TA)(f:Nat->Option (List D)):Prop:=∀ (j:Nat) (ds:List D) (σ:St) (H:Hp) (a:Addr) (od:Option Addr) (Q:List V->Hp->Prop),f j=some ds->Est cl i j σ H a od->(∀ H' vs,zZ H H'->(∀ F,AtL F ds vs)->Q vs H')->t σ H Q
section
variable {cl:Nat->Addr}{i:Nat}
def fK (js:List Nat):Nat->Option D:=λj=>if j % 16∈js then some (.int (j % 16:Nat))else none
theorem ziG {js:List Nat}{E:XK}{ok:Nat->Prop}(hcl:∀ j,cl j=cl (j % 16))(hok:∀ j,j∈js->ok j):SX cl i (zku (zeD cl ok) [] E (XI (Vj i) zib)) (fK js):=by
 intro j d σ H a od Q e es k
 unfold fK at e
 split at e <;> try cases e
 rename_i hj
 refine⟨.ref a,es.sl,a,j % 16,od,rfl,?_,hok _ hj,λH' sm=>k H' _ sm λF=>.int⟩
 rw[<-hcl j]
 exact es.he
def fA (f:Str)(js:List Nat):Nat->Option D:=λj=>if j % 16∈js then (pay j).bind λfs=>match fs.lookup f with
 | some (.int n)=>some (.int n)
 | _=>none
 else none
theorem zf6 {K:W.Frag}{f:Str}{js:List Nat}(hx:∀ j,j % 16∈js->wf K (cl j)/\Zx K (cl j) f):SX cl i (tXA K (Vj i) f) (fA f js):=by
 intro j d σ H a od Q e es k
 unfold fA at e
 split at e <;> try cases e
 rename_i hj
 obtain⟨fs,e1,e2⟩:=u4.mp e
 have pa:=es.pa
 unfold VV at pa
 rw[e1]at pa
 obtain⟨dx,rfl,hdx⟩:=pa
 split at e2 <;> cases e2
 rename_i n hl
 exact⟨.ref a,es.sl,a,_,dx,fs,.int n,rfl,es.he,hdx,(hx j hj).1,(hx j hj).2,hl,k H _ (zZ.refl _) λF=>.int⟩
theorem zkc:SXA cl i zib (λ_=>some []):=λj d σ H a od Q e es k=>by
 cases e
 exact k H _ (zZ.refl _) λF=>.nil
def zfD (f:Nat->Option D)(g:Nat->Option (List D)):Nat->Option (List D):=λj=>(f j).bind λd=>(g j).bind λds=>some (d::ds)
theorem zaf {t:TE}{u:TA}{f:Nat->Option D}{g:Nat->Option (List D)}(h:SX cl i t f)(h2:SXA cl i u g):SXA cl i (XI t u) (zfD f g):=λj d σ H a od Q e es k=>by
 obtain⟨x,e1,e2⟩:=u4.mp e
 obtain⟨xs,e3,e4⟩:=u4.mp e2
 cases e4
 exact h j x σ H a od _ e1 es λH1 v s1 a1=>h2 j xs σ H1 a od _ e3 (es.mono s1) λH2 vs s2 a2=>k H2 _ (s1.trans s2) λF=>.cons (a1 F) (a2 F)
def znV (f:Nat->Option (List D)):Nat->Option D:=λj=>(f j).bind λds=>if ds.length<=1000 then some (.tup ds)else none
theorem zmG {t:TA}{f:Nat->Option (List D)}(h:SXA cl i t f):RU cl i (znC (tTup t)) (znV f):=λj d σ H a od D' e es k=>by
 obtain⟨ds,e1,e2⟩:=u4.mp e
 split at e2 <;> cases e2
 rename_i hz
 refine h j ds σ H a od _ e1 es λH' vs sm av=>⟨?_,λp hp=>k _ _ λF s=>?_⟩
 .rw[(av H).length]
  exact u0W (Yy hz)
 .have s2:=s.trans sm
  exact⟨_,(Gr.more s sm).trans (Gr.alloc s2 hp _),At.tup zm (av _)⟩
end
end Dl
namespace L2
open PySem PySem.Spec PyProof.Rows
def zbX (a C t:Addr)(od:Option Addr):HO:=.ext λh=>∃ sl,h.get? a=some { cls:=.ref C,dict:=od,data:=.fields #[.ref t,.none,.none,.none,.bool false,.none],slots:=sl }
section
variable {X:Cx}{pins:List (Addr × Obj)}{σ:St}{H:Hp}{s:Shared}{h':Heap}{a C t dx:Addr}{f:Str}
theorem zcu {P:Program}{w:World}{H:Hp}{h:Heap}{od:Option Addr}{sl:Array (Option Value)}(e:h.get? a=some { cls:=.ref C,dict:=od,data:=.fields #[.ref t,.none,.none,.none,.bool false,.none],slots:=sl }):yq P w H h a (zbX a C t od) :=
 ⟨⟨sl,e⟩,⟨_,e⟩,λh1 h2 ⟨sl,z⟩ k=>⟨sl,k _ z⟩⟩
theorem Inv.two {φ:Heap->Prop}{o1 o2:HO}{t':Nat}(I:Inv X pins σ H s)(ha:H a=some (.ext φ))(nice:∀ o,H dx=some o->∃ fs,o=.xd fs)(old:∀ o,s.heap.get? dx=some o->H dx≠none)(ne:a≠dx)(k:∀ b o,b≠a->b≠dx->s.heap.get? b=some o->h'.get? b=some o)
 (n1:yq X.prog X.w (upd (upd H dx o2) a o1) h' a o1) (n2:yq X.prog X.w (upd (upd H dx o2) a o1) h' dx o2):Inv X pins σ (upd (upd H dx o2) a o1) { s with heap:=h',toks:=t' }:=by
 have other:∀ b u,H b=some u->(∀ ψ,u≠.ext ψ)->(∀ fs,u≠.xd fs)->upd (upd H dx o2) a o1 b=some u:=λb u e n1 n2=>by
  have x1:b≠a:=λz=>by subst z;rw[ha]at e;cases e;exact n1 _ rfl
  have x2:b≠dx:=λz=>by subst z;obtain⟨fs,rfl⟩:=nice u e;exact n2 _ rfl
  rw[zk x1,zk x2];exact e
 have free:∀ b o,s.heap.get? b=some o->H b=none->b≠a/\b≠dx:=λb o e n=>⟨λz=>by(subst z;rw[ha]at n;cases n),λz=>by(subst z;exact old o e n)⟩
 refine I.un ⟨λb o e n _ _=>k b o (free b o e n).1 (free b o e n).2 e,λb o e n _ _=>⟨o.slots,k b o (free b o e n).1 (free b o e n).2 e⟩,λb o e n _=>by rw[zk (free b o e n).1,zk (free b o e n).2];exact n,λb o e _=>?_,
  λb xs e=>other b _ e (λ_ z=>by cases z) (λ_ z=>by cases z),λb o u e=>other b _ e (λ_ z=>by cases z) (λ_ z=>by cases z),λb ps e=>⟨#[],by rw[Array.append_empty];exact other b _ e (λ_ z=>by cases z) (λ_ z=>by cases z)⟩⟩ λb u e=>?_
 .by_cases x1:b=a
  .subst x1;exact n1.ex
  .by_cases x2:b=dx
   .subst x2;exact n2.ex
   .exact⟨o,k b o x1 x2 e⟩
 .by_cases x1:b=a
  .subst x1;rw[zm]at e;cases e;exact n1
  .rw[zk x1]at e
   by_cases x2:b=dx
   .subst x2;rw[zm]at e;cases e;exact n2
   .rw[zk x2]at e
    refine(I.hok b u e).stay (λc v hc q=>?_) (λc hc=>other c _ hc (λ_ z=>by cases z) λ_ z=>by cases z) λc xs hc=>other c _ hc (λ_ z=>by cases z) λ_ z=>by cases z
    rcases hc with rfl | hc
    .exact k _ v x1 x2 q
    .refine k c v (λz=>?_) (λz=>?_) q
     .subst z;rw[ha]at hc;cases hc
     .subst z;obtain⟨fs,z⟩:=nice _ hc;cases z
theorem znL {A:Around}{E:Value->Shared->Prop}{y:V}{u:Value}{Q:Unit->Shared->Prop}(I:Inv X pins σ H s)(e:H a=some (zbX a C t none))(hx:wf X.K C)(n:Zx X.K C f)(ry:yI y u)
 (h:∀ dx s',H dx=none->Inv X pins σ (upd (upd H dx (.xd [(f,y)])) a (zbX a C t (some dx))) s'->Q () s'):wpAny (model X.prog X.w) A (setAttr (.ref a) f u) Q E s:=by
 obtain⟨⟨sl,ea⟩,_⟩:=I.hok a _ e
 refine zhT I.kIn ea rfl rfl rfl hx n λh' e1 e2 e3=>h s.heap.objs.size _ (I.hok.fresh (q5 _)) ?_
 have ne:a≠s.heap.objs.size:=d9 (j5 ea)
 refine I.two e (λo z=>by rw[I.hok.fresh (q5 _)]at z;cases z) (λo z=>absurd (j5 z) (u0K _)) ne (λb o hb _ z=>e3 b o hb z) (zcu (sl:=sl) e1) ⟨_,e2,λg=>?_⟩
 show zc0 (List.lookup g [(f,y)]) _
 by_cases q:g=f
 .subst q
  rw[t9 rfl]
  simp only[List.lookup,u1G]
  exact ry
 .rw[j0 q]
  simp only[List.lookup,u0h.mpr q]
  trivial
theorem znk {A:Around}{E:Value->Shared->Prop}{y:V}{u:Value}{fs:List (Str × V)}{Q:Unit->Shared->Prop}(I:Inv X pins σ H s)(e:H a=some (zbX a C t (some dx)))(ed:H dx=some (.xd fs))(hl:fs.length < 1000)(hx:wf X.K C)(n:Zx X.K C f)(ry:yI y u)
 (h:∀ s',Inv X pins σ (upd (upd H dx (.xd (zj9 f y fs))) a (zbX a C t (some dx))) s'->Q () s'):wpAny (model X.prog X.w) A (setAttr (.ref a) f u) Q E s:=by
 obtain⟨⟨sl,ea⟩,_⟩:=I.hok a _ e
 obtain⟨mA,hn,r⟩:=I.hok dx _ ed
 have wi:Within mA (fs.map (·.1)):=λg hg=>by
  cases q:fs.lookup g with
  | none=>exact absurd (zc0.none_of (by rw[<-q];exact r g)) hg
  | some v =>
   have:=u0g q
   exact u0u.mpr ⟨_,this,rfl⟩
 have ne:a≠dx:=zhQ e ed (by intro z;cases z)
 refine zh5 I.kIn ea rfl rfl rfl hn wi (by rw[u7,u1B];omega) hx n λh' e1 e2=>h _ ?_
 refine I.two e (λo z=>by rw[ed]at z;cases z;exact⟨_,rfl⟩) (λo z=>by rw[ed];intro z;cases z) ne (λb o _ hb z=>e2 b o hb z) (zcu (sl:=sl) (e2 a _ ne ea)) ⟨_,e1,λg=>?_⟩
 rw[Wx]
 by_cases q:g=f
 .rw[t9 q,t9 q];exact ry
 .rw[j0 q,j0 q];exact r g
end
def sX1 (K:W.Frag)(ta tv:TE)(f:Str):TS:=λD σ H=>tv σ H λy H1=>ta σ H1 λx H2=>∃ a C t,x=.ref a/\H2 a=some (zbX a C t none)/\wf K C/\Zx K C f/\∀ dx,H2 dx=none->D.nx σ (upd (upd H2 dx (.xd [(f,y)])) a (zbX a C t (some dx)))
def sX2 (K:W.Frag)(ta tv:TE)(f:Str):TS:=λD σ H=>tv σ H λy H1=>ta σ H1 λx H2=>∃ a C t dx fs,x=.ref a/\H2 a=some (zbX a C t (some dx))/\H2 dx=some (.xd fs)/\fs.length < 1000/\wf K C/\Zx K C f/\D.nx σ (upd (upd H2 dx (.xd (zj9 f y fs))) a (zbX a C t (some dx)))
section
variable {X:Cx}{o e value:Expr}{f:Str}{pos pos':Pos}{ta tv:TE}
theorem znz (ha:PE X o ta)(hv:PE X value tv)(hs:swapsWith value (some (.Attribute o f pos')) pos.line X.env=pure false):PS X (.Assign [.Attribute o f pos'] value pos) (sX1 X.K ta tv f):=by
 intro pins s σ H D I h
 refine u2q (thn (hv pins s σ H _ I h) λu s1 ⟨y,H1,I1,ry,q⟩=>thn (ha pins s1 σ H1 _ I1 q) λov s2 hh9=>?_) hs
 obtain⟨x,H2,I2,rx,a,C,t,ex,ea,hx,n,q2⟩:=hh9
 subst ex
 obtain rfl:ov=Value.ref a:=rx
 exact znL I2 ea hx n ry λdx s3 hd I3=>⟨σ,_,I3,q2 dx hd⟩
theorem zob (ha:PE X o ta)(hv:PE X value tv)(hs:swapsWith value (some (.Attribute o f pos')) pos.line X.env=pure false):PS X (.Assign [.Attribute o f pos'] value pos) (sX2 X.K ta tv f):=by
 intro pins s σ H D I h
 refine u2q (thn (hv pins s σ H _ I h) λu s1 ⟨y,H1,I1,ry,q⟩=>thn (ha pins s1 σ H1 _ I1 q) λov s2 hh9=>?_) hs
 obtain⟨x,H2,I2,rx,a,C,t,dx,fs,ex,ea,ed,hl,hx,n,q2⟩:=hh9
 subst ex
 obtain rfl:ov=Value.ref a:=rx
 exact znk I2 ea ed hl hx n ry λs3 I3=>⟨σ,_,I3,q2⟩
end
def spI (K:W.Frag)(m:Nat)(ns:List Str)(g:List V->List (Str × V)):Sp:=λvs H Q _=>∃ a C t ys,vs=.ref a::ys/\ys.length=m/\H a=some (zbX a C t none)/\wf K C/\(∀ f,f∈ns->Zx K C f)/\∀ dx,H dx=none->Q .non (upd (upd H dx (.xd (g ys))) a (zbX a C t (some dx)))
def gI2 (f g:Str):List V->List (Str × V):=λys=>[(f,ys.getD 0 .non),(g,ys.getD 1 .non)]
theorem zkG {K:W.Frag}{m:Nat}{ns:List Str}{g:List V->List (Str × V)}(vs:List V)(H:Hp)(Q:VK)(E:XK)(h:spI K m ns g vs H Q E):vs.length=m+1:=by
 obtain⟨a,C,t,ys,rfl,hl,_⟩:=h
 rw[u0d,hl]
theorem zhX {H:Hp}{a b:Addr}{o o' u:HO}(ne:a≠b):upd (upd (upd (upd H b o) a o') b u) a o'=upd (upd H b u) a o':=by
 funext c
 unfold upd
 by_cases h1:c=a
 .rw[t9 h1,t9 h1]
 .rw[j0 h1,j0 h1]
  by_cases h2:c=b
  .rw[t9 h2,j0 h1,t9 h2]
  .rw[j0 h2,j0 h1,j0 h2,j0 h2]
theorem zjP {K:W.Frag} {f g:Str} {vs:List V} {H:Hp} {Q:VK} {E:XK} {rt:VK} (hfg:(f == g)=false) (h:spI K 2 [f,g] (gI2 f g) vs H Q E):zog (sX1 K (Vj 0) (Vj 1) f) (sX2 K (Vj 0) (Vj 2) g) { nx:=λ_ H'=>Q .non H',rt:=rt } (start ["self",f,g] vs) H:=by
 obtain⟨a,C,t,ys,rfl,hl,ha,hx,hn,q⟩:=h
 obtain⟨y,z,rfl⟩:∃ y z,ys=[y,z]:=by
  cases ys with
  | nil=>cases hl
  | cons y r=>cases r with
   | nil=>cases hl
   | cons z r=>cases r with
    | nil=>exact⟨y,z,rfl⟩
    | cons _ _=>cases hl
 refine⟨y,rfl,.ref a,rfl,a,C,t,rfl,ha,hx,hn f (.head _),λdx hd=>?_⟩
 have ne:a≠dx:=zh ha hd
 refine⟨z,rfl,.ref a,rfl,a,C,t,dx,_,rfl,zm,by rw[zk ne.symm];exact zm,(by show 1 < 1000;decide),hx,hn g (.tail _ (.head _)),?_⟩
 rw[zhX ne]
 have e:zj9 g z [(f,y)]=gI2 f g [y,z]:=by
  show(if f=g then _ else _)=_
  rw[j0 (u0h.mp hfg)]
  rfl
 rw[e]
 exact q dx hd
section
variable {X:Cx}{pins:List (Addr × Obj)}{σ:St}{H:Hp}{s:Shared}{ea dx:Addr}{φ:Heap->Prop}
theorem Inv.untrack {H':Hp}(I:Inv X pins σ H s)(he:H ea=some (.ext φ))(h1:H' ea=none)(h2:∀ b,b≠ea->H' b=H b):Inv X pins σ H' s:=by
 have no:∀ b,H b=none->H' b=none:=λb e=>by
  have:b≠ea:=λz=>by(subst z;rw[he]at e;cases e)
  rw[h2 b this];exact e
 have keep:∀ b u,H b=some u->(∀ ψ,u≠.ext ψ)->H' b=some u:=λb u e n=>by
  have:b≠ea:=λz=>by(subst z;rw[he]at e;cases e;exact n _ rfl)
  rw[h2 b this];exact e
 refine⟨I.ok,I.os,I.bare,⟨I.base.keep,I.base.slot,λb o e n hx=>no b (I.base.free b o e n hx),I.base.there,λb xs e=>keep b _ (I.base.tups b xs e) (λ_ z=>by cases z),λb o u e=>keep b _ (I.base.frzs b o u e) (λ_ z=>by cases z),λb ps e=>?_⟩,I.loc,I.cell,no _ I.free,λx c e=>no _ (I.freeC x c e),λp hp=>?_,λb u e=>?_,I.len⟩
 .obtain⟨more,z⟩:=I.base.tbls b ps e
  exact⟨more,keep b _ z λ_ y=>by cases y⟩
 .obtain⟨e,n,r⟩:=I.pin p hp
  exact⟨e,no _ n,r⟩
 .have ne:b≠ea:=λz=>by(subst z;rw[h1]at e;cases e)
  rw[h2 b ne]at e
  exact(I.hok b u e).stay (λ_ _ _ q=>q) (λc hc=>keep c _ hc λ_ z=>by cases z) λc xs hc=>keep c _ hc λ_ z=>by cases z
end
structure zk3 (K:W.Frag) (mg:Str->Option Value) (C:Addr) (x:Str) (f:Addr) (ns:List Str):Prop where
 bound:mg x=some (.ref C)
 exc:zlK K C f=true
 attr:zbM K C=true
 no:∀ n,n∈ns->W.findIn K (.ref C) n=some none
theorem zfd {P:Program}{w:World}{K:W.Frag}{mg:Str->Option Value}{base:Heap}{N:List Str}{qual:Str}{scope:Scope}{f:Addr}{cd:Value}{A:Around}{outer:List Env}{s:Shared}{H:Hp}{E:XK}{C fI:Addr}{fd:FuncData}{x:Str}{np cpos pos:Pos}{ns ps:List Str}{m k:Nat}{g:List V->List (Str × V)}{e:Expr}{es:List Expr}{t:TA}
 (hc:zk3 K mg C x fI ns) (F:y6 P w K mg base CX0 k fI fd ps (spI K m ns g)) (hb:XM K fd ps []) (hr:vw (k+1) (Zq (Air P w) P w K mg base N qual scope f cd A outer s H E).A) (hg:Gl (Zq (Air P w) P w K mg base N qual scope f cd A outer s H E) x) (ha:PA (Zq (Air P w) P w K mg base N qual scope f cd A outer s H E) (e::es) t) (hd:(x == ("__debug__":Str))=false:=by decide)
 (hse:starEach (e::es) (Zq (Air P w) P w K mg base N qual scope f cd A outer s H E).env=(false,eval e (Zq (Air P w) P w K mg base N qual scope f cd A outer s H E).env)::starEach es (Zq (Air P w) P w K mg base N qual scope f cd A outer s H E).env:=by rfl) (hpl:(backTo cpos (starEach es (Zq (Air P w) P w K mg base N qual scope f cd A outer s H E).env)).any (·.1)=false:=by rfl) :
 PS (Zq (Air P w) P w K mg base N qual scope f cd A outer s H E) (.Raise (some (.Call (.Name x np) (e::es) [] cpos)) none pos) (λ_ σ H0=>t σ H0 λvs H1=>vs.length=m/\m<=1000/\∀ dx,H1 dx=none->E (.ref C) (some dx) (upd H1 dx (.xd (g vs)))):=by
 let X:=Zq (Air P w) P w K mg base N qual scope f cd A outer s H E
 intro pins s1 σ H0 D I h
 have I:Inv X pins σ H0 s1:=I
 obtain⟨bm,NN,nm,q,bs,sn,sub,ab,col,dd,k0,k1,k2,k3,k5,mN,oI,hC,hN,hi,T,hf,hfc⟩:=zhJ I.ok.mod.kin hc.exc
 refine zdR (C:=C) (nm:=nm) (q:=q) (N:=NN) (bs:=bs) (bm:=bm) (hdct:=true) (sn:=sn) (sub:=sub) (ab:=ab) (col:=col) (dd:=dd) (k0:=k0) (k1:=k1) (k2:=k2) (k3:=k3) (k5:=k5) (mN:=mN) (fI:=fI) (oI:=oI) (T.hasType u22.hasBase) (I.ok.hd rfl) (by rw[hse];show((false||(backTo cpos (starEach es _)).any (·.1)))=false;rw[hpl];rfl) hi hfc (WE I hg hc.bound ⟨rfl,?_⟩ hd)
 have hs:=ha cpos pins s1 σ H0 _ I h
 rw[hse]at hs ⊢
 refine PySem.Calls.evalArgs_plain (u0v hs (λus s2 z=>?_) λ_ _ z=>z)
 obtain⟨vs,H1,I2,r,hl,hm,hE⟩:=z
 have I2:Inv X pins σ H1 s2:=I2
 have hul:us.length<=sizeLine:=by rw[<-r.length,hl];exact u0W (Yy hm)
 refine⟨rfl,hul,I2.bk _ _ hC,hN.keeps I2.bk,T.keeps I2.bk,I2.bk _ _ hf,?_⟩
 have I3:Inv X pins σ (upd H1 (s2.heap.objs.size+1) (zbX (s2.heap.objs.size+1) C s2.heap.objs.size none)) { s2 with heap:=exH s2.heap C us }:=I2.laid (t':=s2.toks) (λb o z=>wJ z) (u02 _) (zcu (ziX _ _ _))
 have hn1:H1 (s2.heap.objs.size+1)=none:=I2.hok.fresh (u02 _)
 let R:VK:=λv H'=>v=.non/\∃ dx,upd H1 (s2.heap.objs.size+1) (zbX (s2.heap.objs.size+1) C s2.heap.objs.size none) dx=none/\H'=upd (upd (upd H1 (s2.heap.objs.size+1) (zbX (s2.heap.objs.size+1) C s2.heap.objs.size none)) dx (.xd (g vs))) (s2.heap.objs.size+1) (zbX (s2.heap.objs.size+1) C s2.heap.objs.size (some dx))
 have hsp:spI K m ns g (.ref (s2.heap.objs.size+1)::vs) (upd H1 (s2.heap.objs.size+1) (zbX (s2.heap.objs.size+1) C s2.heap.objs.size none)) R E0:=⟨_,C,_,vs,rfl,hl,zm,.of hc.attr,hc.no,λdx hdx=>⟨rfl,dx,hdx,rfl⟩⟩
 have r3:yl (V.ref (s2.heap.objs.size+1)::vs) (Value.ref (s2.heap.objs.size+1)::us):=.cons rfl r
 have hl3:(Value.ref (s2.heap.objs.size+1)::us++[]).length=ps.length:=by rw[u0z,<- r3.length];exact F.len _ _ _ _ hsp
 have bd:=hb { s2 with heap:=exH s2.heap C us } (Value.ref (s2.heap.objs.size+1)::us) I3.kIn hl3
 rw[u0z]at bd
 refine u2K (u3d (F.run _ X.stack _ _ ⟨Value.ref (s2.heap.objs.size+1)::us,[]⟩ _ _ R E0 (hr.make C us []) (I3.env0.make C us []) bd r3 hsp) λres s4 z=>?_)
 cases res with
 | error e=>exact z.elim
 | ok fl =>
  cases fl with
  | next=>exact False.elim z
  | brk=>exact False.elim z
  | cont=>exact False.elim z
  | ret u =>
   obtain⟨v,H4,os4,bare4,un4,hok4,rv,rfl,dx,hdx,rfl⟩:=id z
   have J4:Inv X pins σ _ s4:=I3.call' (ch:=[]) os4 un4 hok4 bare4 (λb z=>nomatch z)
   obtain rfl:u=Value.none:=rv
   have ned:s2.heap.objs.size+1≠dx:=λz=>by(subst z;rw[zm]at hdx;cases hdx)
   have hd1:H1 dx=none:=by rw[zk ned.symm]at hdx;exact hdx
   have J5:Inv X pins σ (upd H1 dx (.xd (g vs))) s4:=J4.untrack (ea:=s2.heap.objs.size+1) zm (by rw[zk ned];exact hn1) λb hb=>by
    rw[zk hb]
    unfold upd
    by_cases h2:b=dx
    .rw[t9 h2,t9 h2]
    .rw[j0 h2,j0 h2,j0 hb]
   obtain⟨⟨sl,he4⟩,_⟩:=J4.hok _ _ zm
   refine⟨rfl,_,some dx,sl,J4.bk _ _ hC,he4,?_⟩
   show wpAny (model P w) X.A (leaving X.env (.ref (s2.heap.objs.size+1))) (λ_ s''=>Air P w outer H s E (.ref (s2.heap.objs.size+1)) s'') _ s4
   let B:=W.hideAll s4.heap ((s2.heap.objs.size+1)::frs X.stack)
   have hin:∀ env∈X.stack,∀ a,env.frame=some a->a∈(s2.heap.objs.size+1)::frs X.stack:=λenv he a ha=>.tail _ (u27.mpr ⟨env,he,ha⟩)
   refine WN (Vo _ _) (wpAny_leaving_firstW (Q:=λ_ s''=>∃ h2,s''={ s4 with heap:=h2 }/\Heap.LeftW B (X.env::outer) (s2.heap.objs.size+1) (.ref C) (.ref s2.heap.objs.size) s4.heap h2) (base:=B) (L:=X.env.locals) (outer:=outer) (J4.ok.frames) (W.funFrames_hide J4.stack hin) rfl he4 (λb o q=>W.of_hideAll _ q) (u2C _ (.head _)) rfl rfl rfl λh2 y=>⟨h2,rfl,y⟩) ?_
   rintro _ _ ⟨h2,rfl,y1,⟨_,_,y2⟩,y3,y4⟩ dk
   have x1:Heap.FlyingW B outer (s2.heap.objs.size+1) (.ref C) (.ref s2.heap.objs.size) h2:=⟨y1,u2C _ (.head _),y2,y3⟩
   have nfr:∀ b,b∉frs X.stack->b≠s2.heap.objs.size+1->b∉(s2.heap.objs.size+1)::frs X.stack:=λb h1 h2 z=>(j7.mp z).elim h2 h1
   have cov:Cov X.stack H1 s2.heap (upd H1 dx (.xd (g vs))) s4.heap B:=by
    refine⟨λb o e n hb=>?_,λb o e hb=>?_,λb o hb e=>?_⟩
    .have ne:b≠s2.heap.objs.size+1:=d9 (u1c (j5 e))
     exact u15 _ (un4.keep b o (wJ e) (by rw[zk ne];exact n) hb (by simp)) (nfr b hb ne)
    .have ne:b≠s2.heap.objs.size+1:=d9 (u1c (j5 e))
     obtain⟨o',e'⟩:=un4.there b o (wJ e) (by simp)
     exact⟨o',u15 _ e' (nfr b hb ne)⟩
    .refine u15 _ e (nfr b (λz=>hb (J5.stkFree b z)) λz=>?_)
     subst z
     exact hb (by rw[zk ned];exact hn1)
   obtain⟨u1,u2,u3⟩:=I2.airUn (X:=X) rfl J5 cov x1.1 x1.2.2.1 y4
   obtain⟨ob,hob,_⟩:=x1.there
   exact⟨_,C,_,some dx,_,B,rfl,J5.os,J5.bare,u1,u2,x1,u3,Ww.stay (h:=s4.heap) ⟨_,he4,rfl⟩ dk ⟨ob,hob⟩,hE dx hd1⟩
end L2
namespace Dl
open PySem L2
variable [KK]
def xRI (enc:List D->Option Nat)(fa:Ev->Option (List D)):SE->Option Nat:=fun ρ=>(fa (visG ρ)).bind enc
def enc1 (c kd:Nat):List D->Option Nat
 | [.int i]=>if -1<=i then some (c+16*kd+64*(i+1).toNat)else none
 | _=>none
def znX (c:Nat):List D->Option Nat
 | [.int m,.int n]=>if 0<=m/\0<=n/\n < 1024 then some (c+48+64*(m.toNat*1024+n.toNat))else none
 | _=>none
def zmz (cl:Nat->Addr)(C:Addr)(m:Nat)(g:List V->List (Str × V))(enc:List D->Option Nat):Prop:=∀ ds j,enc ds=some j->cl j=C/\ds.length=m/\∀ F vs,AtL F ds vs->pay j=some (g vs)
theorem zjX {cl:Nat->Addr} {c:Nat} (hcl:∀ j,cl j=cl (j % 16)) (hc:c < 16):zmz cl (cl c) 2 (gI2 "many" "most") (znX c):=by
 intro ds j e
 unfold znX at e
 split at e <;> try cases e
 rename_i m n
 split at e <;> cases e
 rename_i hi
 refine⟨by rw[hcl (c+48+64*(m.toNat*1024+n.toNat))];congr 1;omega,rfl,λF vs a=>?_⟩
 obtain⟨v,r,rfl,a1,a2⟩:=a.cons_inv
 obtain⟨v2,r2,rfl,a3,a4⟩:=a2.cons_inv
 cases a1.int_inv
 cases a3.int_inv
 cases a4.nil_inv
 have e1:(c+48+64*(m.toNat*1024+n.toNat)) / 16 % 4=3:=by omega
 have e2:(c+48+64*(m.toNat*1024+n.toNat)) / 64=m.toNat*1024+n.toNat:=by omega
 have e3:(((m.toNat*1024+n.toNat) / 1024:Nat):Int)=m:=by omega
 have e4:(((m.toNat*1024+n.toNat) % 1024:Nat):Int)=n:=by omega
 unfold pay
 rw[e1]
 show some [(_,V.int _),(_,V.int _)]=_
 rw[e2,e3,e4]
 rfl
theorem zgZ {P:Program}{w:World}{K:W.Frag}{mg:Str->Option Value}{base:Heap}{N:List Str}{qual:Str}{scope:Scope}{f:Addr}{cd:Value}{A:Around}{outer:List Env}{s:Shared}{H:Hp}{E:XK}{cl:Nat->Addr}{C fI:Addr}{fd:FuncData}{x:Str}{np cpos pos:Pos}{ns ps:List Str}{m k:Nat}{g:List V->List (Str × V)}{e:Expr}{es:List Expr}{enc:List D->Option Nat}{fa:Ev->Option (List D)}
 (hc:zk3 K mg C x fI ns) (F:y6 P w K mg base CX0 k fI fd ps (spI K m ns g)) (hb:XM K fd ps []) (hen:zmz cl C m g enc) (hr:vw (k+1) (Zq (Air P w) P w K mg base N qual scope f cd A outer s H E).A) (hg:Gl (Zq (Air P w) P w K mg base N qual scope f cd A outer s H E) x) (ha:AD (Zq (Air P w) P w K mg base N qual scope f cd A outer s H E) (e::es) fa) (hm:m<=1000:=by decide) (hd:(x == ("__debug__":Str))=false:=by decide)
 (hse:starEach (e::es) (Zq (Air P w) P w K mg base N qual scope f cd A outer s H E).env=(false,eval e (Zq (Air P w) P w K mg base N qual scope f cd A outer s H E).env)::starEach es (Zq (Air P w) P w K mg base N qual scope f cd A outer s H E).env:=by rfl) (hpl:(backTo cpos (starEach es (Zq (Air P w) P w K mg base N qual scope f cd A outer s H E).env)).any (·.1)=false:=by rfl) :
 XS E cl (Zq (Air P w) P w K mg base N qual scope f cd A outer s H E) (.Raise (some (.Call (.Name x np) (e::es) [] cpos)) none pos) (xRI enc fa):=by
 obtain⟨t,pa,ra⟩:=ha
 refine⟨_,zfd hc F hb hr hg pa hd hse hpl,λFb Hb F H ρ σ D' j rl e w=>?_⟩
 obtain⟨ds,e1,e2⟩:=u4.mp e
 obtain⟨ec,el,ep⟩:=hen ds j e2
 refine ra σ _ _ H ds _ rl.gh rl.visG e1 λF' H' vs gr a=>⟨by rw[a.length];exact el,hm,λdx hdx=>?_⟩
 have z:=w F' H' (rl.out gr)
 unfold EJ at z
 rw[ep F' vs a,ec]at z
 exact z dx hdx
end Dl
namespace L2
open PySem PySem.Spec PyProof.Rows
def zml (s:Stmt)(k:Nat):Stmt:=match s with
 | .ClassDef _ _ _ body _ _ _ _ _ _ _=>body.getD k s
 | _=>s
def znT (K:W.Frag)(C:Addr)(ns:List Str):Bool:=ns.all λn=>W.findIn K (.ref C) n == some none
theorem zcB {K:W.Frag}{C:Addr}{ns:List Str}(h:znT K C ns=true):∀ n,n∈ns->W.findIn K (.ref C) n=some none:=λn hn=>d8.mp (u0y.mp h n hn)
end L2
namespace Dl
open PySem L2
def zkH (js:List Nat)(h:Nat->Option D):Nat->Option D:=λj=>if j % 16∈js then h j else none
theorem zkF {js:List Nat}{h:Nat->Option D}{j:Nat}{d:D}(e:zkH js h j=some d):j % 16∈js:=by
 unfold zkH at e
 split at e
 .assumption
 .cases e
theorem zmh {cl:Nat->Addr}{i:Nat}{js:List Nat}{u:TS}{h:Nat->Option D}[KK](r:RU cl i u h):RU cl i u (zkH js h):=λj d σ H a od D' e es k=>by
 unfold zkH at e
 split at e
 .exact r j d σ H a od D' e es k
 .cases e
end Dl
namespace OwnDk
open PySem
section
variable {prog:Program}{w:World}{A:Around}{E:Value->Shared->Prop}{s:Shared}
theorem zbA (hh:A.handled=none)(I a:Addr)(hne:a≠I){ob:Obj}{es:Array DictEntry}{ep:Nat}(hd:ob.data=.dict es ep) :
 Walks prog w A I [I,a] [I] es.size (λi v=>∃ e,es[i]?=some e/\v=e.key) (λi h=>h.IsKeyIter I a i es.size ep/\h.get? a=some ob) where
 sub:=λb hb=>by simp at hb;simp[hb]
 frame:=λ_ _ _ x hk=>⟨x.1.at λo e=>hk I (by simp) o e,hk a (by simp) _ x.2⟩
 item:=λi s Q E hi x hQ=>by
  have hx:es[i]?=some (es[i]'hi):=u1n _
  refine L2.raw_next x.1 x.2 hd hx λh' he' hs'=>?_
  exact hQ _ h' s.toks ⟨_,hx,rfl⟩ ⟨he',(hs'.2 a hne).trans x.2⟩ λb o hb eo=>hs'.extBut b o (λh=>hb (by simp[h])) eo
 done:=λs Q E x hQ=>L2.raw_end hh x.1 x.2 hd (q5 _) λh' he'=>hQ h' s.toks λb o hb eo=>he' b o (λh=>hb (by simp[h])) eo
 self:=λ_ _ _ _ x hQ=>wpAny_pyIter_keyiter x.1 hQ
theorem XL {a:Addr}{ob:Obj}{es:Array DictEntry}{ep:Nat}{Q:List Value->Shared->Prop}(hh:A.handled=none)(hs:(a == sysModules)=false)(hS:s.heap.get? a=some ob)(hc:ob.ExactDict)(hd:ob.data=.dict es ep)(h8:es.size<=sizeLine)
 (hQ:∀ s',(∀ b o,s.heap.get? b=some o->s'.heap.get? b=some o)->s'.gens=s.gens->s'.drawn=s.drawn->s'.os=s.os->Q (es.toList.map (·.key)) s'):wpAny (model prog w) A (collect (.ref a)) Q E s:=by
 have hlt:a < s.heap.objs.size:=j5 hS
 have hSa:s.heap.objs.size≠a:=u17 hlt
 unfold collect
 refine u0 (wpAny_runValue (codeAny_builtin F.entry_proto_collect ?_))
 rw[Around.under_plainId F.plain_proto_collect _]
 show wpAny _ A.in1 (newList []>>=λl=>again (.builtin "list.__iadd__" ⟨[l,.ref a],[]⟩)) _ _ s
 refine u0 (u0s ?_)
 refine u8 ⟨plainId_quiet F.plain_list_iadd _,codeAny_builtin F.entry_list_iadd ?_⟩
 rw[Around.under_plainId F.plain_list_iadd _]
 have hS1:(s.heap.push { cls:=.type "list",data:=.seq ([]:List Value).toArray }).get? a=some ob:=u5 _ hS
 have hL1:(s.heap.push { cls:=.type "list",data:=.seq ([]:List Value).toArray }).get? s.heap.objs.size=some { cls:=.type "list",data:=.seq ([]:List Value).toArray }:=r9 _ rfl
 generalize hh1:s.heap.push { cls:=.type "list",data:=.seq ([]:List Value).toArray }=h1 at hS1 hL1 ⊢
 have k1:∀ b o,s.heap.get? b=some o->h1.get? b=some o:=λb o e=>by rw[<-hh1];exact u5 _ e
 have hz1:h1.objs.size=s.heap.objs.size+1:=by rw[<-hh1];exact u0H ..
 show wpAny _ A.in1 (Builtin.List.listExtendWith (.ref s.heap.objs.size) (.ref a) (.ref s.heap.objs.size)) _ _ _
 unfold Builtin.List.listExtendWith
 refine u0 (u2w (T:="dict") ⟨_,hS1,hc.1⟩ ?_)
 have g1:Builtin.List.listSameRef (.ref s.heap.objs.size) (.ref a)=false:=by simp[Builtin.List.listSameRef,hSa]
 have g2:(Value.type "dict" == Value.type "list")=false:=by decide
 have g3:(Value.type "dict" == Value.type "tuple")=false:=by decide
 simp only[g1,g2,g3,Bool.or_false,u25,u3v]
 refine u0 (L2.raw_iter hs hS1 hc hd ?_)
 have hI2:(h1.push { cls:=.type "dict_keyiterator",data:=.fields #[.ref a,.int 0 0,.int es.size 0,.int ep 0] }).IsKeyIter h1.objs.size a 0 es.size ep:=⟨_,r9 _ rfl,rfl,rfl⟩
 have hS2:(h1.push { cls:=.type "dict_keyiterator",data:=.fields #[.ref a,.int 0 0,.int es.size 0,.int ep 0] }).get? a=some ob:=u5 _ hS1
 have hL2:=u5 { cls:=.type "dict_keyiterator",data:=.fields #[.ref a,.int 0 0,.int es.size 0,.int ep 0] } hL1
 generalize hh2:h1.push { cls:=.type "dict_keyiterator",data:=.fields #[.ref a,.int 0 0,.int es.size 0,.int ep 0] }=h2 at hI2 hS2 hL2 ⊢
 have k2:∀ b o,h1.get? b=some o->h2.get? b=some o:=λb o e=>by rw[<-hh2];exact u5 _ e
 refine u0 (u0n (PySem.W.kdl_hint_dict ⟨_,hS2,hc.1⟩ ?_))
 show wpAny _ A.in1 (if true=true then _ else _) _ _ _
 rw[t9 rfl]
 refine u0 (u1y (u0 ?_))
 show wpAny _ A.in1 (updateSeq s.heap.objs.size (·.push .none)>>=λ_=>updateSeq s.heap.objs.size (·.pop)) _ _ _
 refine u0 (wpAny_updateSeq hL2 rfl ?_)
 have hL3:=u0F (Obj.mapSeq (·.push Value.none)) hL2 rfl
 refine wpAny_updateSeq (hz:=by seq_fits) hL3 rfl ?_
 have hL4:=u0F (Obj.mapSeq (·.pop)) hL3 rfl
 have oth:∀ b o,b≠s.heap.objs.size->h2.get? b=some o->((h2.update s.heap.objs.size (Obj.mapSeq (·.push Value.none))).update s.heap.objs.size (Obj.mapSeq (·.pop))).get? b=some o :=
  λb o hb e=>(u0E _ _ (u03 hb)).trans ((u0E _ _ (u03 hb)).trans e)
 have hIne:h1.objs.size≠s.heap.objs.size:=by rw[hz1];exact Nat.succ_ne_self _
 have hIa:a≠h1.objs.size:=by rw[hz1];exact d9 (u1c hlt)
 have W:=zbA (prog:=prog) (w:=w) (A:=A.in1) hh h1.objs.size a hIa hd
 refine u8 ⟨plainId_quiet F.plain_extend_loop _,codeAny_extend_loopS W.toS h8 _ (λhmem=>?_) _ es.size 0 _ #[] _ rfl (u0P _) ⟨hI2.at λo e=>oth _ _ hIne e,oth _ _ (u03 hSa) hS2⟩ hL4 (ItemsOf.nil _) λs' acc' c' hmv hS' hacc=>?_⟩
 .rcases j7.mp hmem with e | e
  .exact hIne e.symm
  .exact hSa (j9.mp e)
 .show wpAny _ A (load s.heap.objs.size>>=_) _ _ s'
  refine u0 (wpAny_load hS' ?_)
  refine u8 ?_
  have e1:acc'.toList=es.toList.map (·.key):=by
   apply u2n
   intro i
   by_cases hi:i < es.size
   .have q1:acc'[i]?=some (acc'[i]'(by rw[hacc.1];exact hi)):=u1n _
    obtain⟨e,q2,q3⟩:=hacc.2 i _ q1
    rw[r6,u0t,u0t,q1,q2,q3]
    rfl
   .rw[u06 (by rw[j8,hacc.1];exact u1F hi),u06 (by rw[u7,j8];exact u1F hi)]
  rw[e1]
  refine hQ s' (λb o e=>hmv.heap b o (λhmem=>?_) (oth b o (d9 (j5 e)) (k2 b o (k1 b o e)))) hmv.gens hmv.drawn hmv.os
  rcases j7.mp hmem with z | z
  .exact d9 (j5 e) z
  .have:=j5 e
   rw[j9.mp z,hz1]at this
   exact absurd (Nat.lt_of_succ_lt this) (u0K _)
theorem own_sorted_dict {a:Addr}{ob:Obj}{es:Array DictEntry}{ep:Nat}{Q:Value->Shared->Prop}(hh:A.handled=none)(hs:(a == sysModules)=false)(hS:s.heap.get? a=some ob)(hc:ob.ExactDict)(hd:ob.data=.dict es ep)(h64:es.size < 10000000)(hT:∀ v∈es.toList.map (·.key),∃ t,OwnSortT.TT s.heap v t)
 (h:∀ (h1 h':Heap) (tk':Nat) (out:Array Value) (c:Nat),out.toList.Perm (es.toList.map (·.key))->OwnSortT.Rise s.heap out.toList->(∀ b o,s.heap.get? b=some o->h1.get? b=some o)->(∀ b o,h1.get? b=some o->h'.get? b=some o) ->
  h'.get? h1.objs.size=some { cls:=.type "list",dict:=none,data:=.seq out c,slots:=#[] }->Q (.ref h1.objs.size) { s with heap:=h',toks:=tk' }) :
 wpAny (model prog w) A (call (.builtin "sorted") [.ref a]) Q E s:=by
 refine Calls.call_function_entry PyProof.Rows.kind_sorted PyProof.Rows.plain_sorted PyProof.Rows.entry_sorted (PyProof.Rows.args_sorted1 _) ?_
 unfold Builtin.«sorted»
 refine u0 (m:=checkCount "sorted" 1 1 _) (u8 (u0 (XL hh hs hS hc hd (i3 (u0W h64) (by rw[u1B];decide)) λs' k g1 g2 g3=>?_)))
 obtain⟨h1,g',d',tk1,os'⟩:=s'
 have e1:g'=s.gens:=g1
 have e2:d'=s.drawn:=g2
 have e3:os'=s.os:=g3
 subst e1 e2 e3
 have h64:(es.toList.map (·.key)).length < 10000000:=by rw[u7,j8];exact h64
 generalize es.toList.map (·.key)=vs at *
 refine u0 (wpAny_newList ?_)
 have hoL:(h1.push (PyProof.Rows.seqObj "list" vs.toArray 0)).get? h1.objs.size=some (PyProof.Rows.seqObj "list" vs.toArray 0):=r9 _ rfl
 have up:∀ b o,s.heap.get? b=some o->(h1.push (PyProof.Rows.seqObj "list" vs.toArray 0)).get? b=some o:=λb o e=>u5 _ (k b o e)
 refine u0 (u0n (u0B PyProof.Rows.slot_list_sort ⟨_,hoL,rfl⟩ PyProof.Rows.entry_list_sort (OwnSortT.ownT_list_sort hoL (λv hv=>let ⟨t,ht⟩:=hT v hv;⟨t,ht.keep up⟩) h64 λout p1 p2=>⟨_,rfl,?_⟩) (PyProof.Rows.args_list_sort _)))
 have rise:OwnSortT.Rise s.heap out.toList:=by
  obtain⟨ts,q1,q2,q3⟩:=p2
  refine⟨ts,q1,λi v t hv ht=>?_,q3⟩
  obtain⟨t0,ht0⟩:=hT v (p1.mem_iff.mp (j4 hv))
  rw[(q2 i v t hv ht).uniq (ht0.keep up)]
  exact ht0
 have hn:∀ b o,b≠h1.objs.size->(h1.push (PyProof.Rows.seqObj "list" vs.toArray 0)).get? b=some o->(PyProof.Rows.sortedHeap (h1.push (PyProof.Rows.seqObj "list" vs.toArray 0)) h1.objs.size vs out).get? b=some o:=λb o hb e=>by
  unfold PyProof.Rows.sortedHeap
  exact(u0E _ _ (u03 hb)).trans (u5 _ (u5 _ ((u0E _ _ (u03 hb)).trans e)))
 have hL:∃ c,(PyProof.Rows.sortedHeap (h1.push (PyProof.Rows.seqObj "list" vs.toArray 0)) h1.objs.size vs out).get? h1.objs.size=some { cls:=.type "list",dict:=none,data:=.seq out c,slots:=#[] }:=by
  unfold PyProof.Rows.sortedHeap
  have u1:=u0F (Obj.mapSeq λ_=>(#[]:Array Value)) hoL rfl
  have u2:=u5 (PyProof.Rows.seqObj "list" #[] 0) (u5 (PyProof.Rows.seqObj "tuple" vs.toArray 0) u1)
  exact⟨_,u0F (Obj.mapSeq λ_=>out) u2 rfl⟩
 obtain⟨c,hL⟩:=hL
 exact u8 ⟨_,rfl,h h1 _ _ out c p1 rise k (λb o e=>hn b o (d9 (j5 e)) (u5 _ e)) hL⟩
end
end OwnDk
namespace Dl
open PySem L2
def zdE:List Key->Option (List Int)
 | []=>some []
 | .inl i::r=>(zdE r).map (i::·)
 | _=>none
def zaN:List (List Key)->Option (List (List Int))
 | []=>some []
 | k::ks=>match zdE k with
  | some (i::t)=>(zaN ks).map ((i::t)::·)
  | _=>none
theorem zie:∀ {k:List Key} {t:List Int},zdE k=some t->k=t.map Sum.inl:=by
 intro k
 induction k with
 | nil=>intro t h;cases h;rfl
 | cons a k ih =>
  intro t h
  cases a with
  | inl i =>
   obtain⟨r,e,rfl⟩:=u9.mp h
   rw[ih e]
   rfl
  | inr x=>cases h
theorem zh9:∀ {ks:List (List Key)} {ts:List (List Int)},zaN ks=some ts->ks=ts.map (λt=>t.map Sum.inl)/\∀ t∈ts,t≠[]:=by
 intro ks
 induction ks with
 | nil=>intro ts h;cases h;exact⟨rfl,λt h=>by cases h⟩
 | cons k ks ih =>
  intro ts h
  unfold zaN at h
  split at h
  .rename_i i t e
   obtain⟨r,e2,rfl⟩:=u9.mp h
   obtain⟨h1,h2⟩:=ih e2
   refine⟨by rw[h1,zie e];rfl,λu hu=>?_⟩
   rcases j7.mp hu with rfl | hu
   .exact u3y _ _
   .exact h2 u hu
  .cases h
def zkQ (t:List Int):List (List Int)->List (List Int)
 | []=>[t]
 | u::us=>if HT.lexLt u t=true then u::zkQ t us else t::u::us
def vC:List (List Int)->List (List Int)
 | []=>[]
 | t::ts=>zkQ t (vC ts)
theorem zbd (t:List Int):∀ us:List (List Int),(zkQ t us).Perm (t::us):=by
 intro us
 induction us with
 | nil=>exact u1I _
 | cons u us ih =>
  unfold zkQ
  split
  .exact(ih.cons u).trans (List.Perm.swap _ _ _)
  .exact u1I _
theorem vU:∀ ts:List (List Int),(vC ts).Perm ts:=by
 intro ts
 induction ts with
 | nil=>exact u1I _
 | cons t ts ih=>exact(zbd t _).trans (ih.cons t)
theorem zgw (t:List Int):∀ us:List (List Int),us.Pairwise (λa b=>HT.lexLt b a=false)->(zkQ t us).Pairwise λa b=>HT.lexLt b a=false:=by
 intro us
 induction us with
 | nil=>intro _;exact List.pairwise_singleton _ _
 | cons u us ih =>
  intro h
  rw[u0T]at h
  unfold zkQ
  by_cases c:HT.lexLt u t=true
  .rw[t9 c]
   refine u0T.mpr ⟨λv hv=>?_,ih h.2⟩
   rcases j7.mp ((zbd t us).mem_iff.mp hv)with rfl | hv
   .cases e:HT.lexLt v u with
    | false=>rfl
    | true =>
     have:=OwnSortT.lex_trans _ _ _ c e
     rw[OwnSortT.lex_irr]at this
     cases this
   .exact h.1 v hv
  .rw[j0 c]
   have c:HT.lexLt u t=false:=by cases e:HT.lexLt u t with
    | false=>rfl
    | true=>exact absurd e c
   refine u0T.mpr ⟨λv hv=>?_,u0T.mpr h⟩
   rcases j7.mp hv with rfl | hv
   .exact c
   .cases e:HT.lexLt v t with
    | false=>rfl
    | true =>
     rcases OwnSortT.lex_neg v u t e with z | z
     .rw[h.1 v hv]at z;cases z
     .rw[c]at z;cases z
theorem zca:∀ ts:List (List Int),(vC ts).Pairwise λa b=>HT.lexLt b a=false:=by
 intro ts
 induction ts with
 | nil=>exact List.Pairwise.nil
 | cons t ts ih=>exact zgw t _ ih
theorem Wk {ts us:List (List Int)}(p:us.Perm ts)(h:us.Pairwise λa b=>HT.lexLt b a=false):us=vC ts :=
 u16 (le:=λa b=>HT.lexLt b a=false) (λa b _ _ h1 h2=>OwnSortT.lex_total _ _ h2 h1) h (zca ts) (p.trans (vU ts).symm)
def zey (t:List Int):D:=.tup (t.map .int)
def sortMD:List D->Option (List D)
 | [.dct _ true ks _]=>if ks.length < 64 then (zaN ks).map λts=>(vC ts).map zey else none
 | _=>none
variable [KK]
section
variable {X:Cx}{e:Expr}{pos:Pos}
theorem Gr.seeL {H:Hp}:∀ {F:Hp} (bs:List (Addr × List V)),zZ F H->(∀ b∈bs,H b.1=some (.tup b.2))->∃ F',Gr F H F' H/\∀ b∈bs,F' b.1=some (.tup b.2):=by
 intro F bs
 induction bs generalizing F with
 | nil=>intro s _;exact⟨F,.refl s,λb h=>by cases h⟩
 | cons b bs ih =>
  intro s h
  obtain⟨F1,g1,e1⟩:=Gr.see s (h b e9)
  obtain⟨F2,g2,e2⟩:=ih g1.fh λc hc=>h c (p4 _ hc)
  refine⟨F2,g1.trans g2,λc hc=>?_⟩
  rcases j7.mp hc with rfl | hc
  .exact g2.ff _ _ e1
  .exact e2 c hc
theorem zaR (hc:X.calm=true):vR X (.builtin "sorted") (λxs H Q=>∃ F a z ks ys ts,xs=[.ref a]/\zZ F H/\VZ F a z true ks ys/\ks.length < 10000000/\zaN ks=some ts/\∀ l zs F',H l=none->Gr F H F' H->AtL F' ((vC ts).map zey) zs->Q (.ref l) (upd H l (.lst zs))):=by
 intro pins s σ H xs us Q I r h
 obtain⟨F,a,z,ks,ys,ts,rfl,sm,hd,h64,hk,q⟩:=h
 obtain⟨u,rfl,ru⟩:=WM r
 cases ru
 obtain⟨rfl,hne⟩:=zh9 hk
 rw[u7]at h64
 obtain⟨u,hu,hz⟩:=hd.mono sm
 unfold zbV at hu
 rw[t9 rfl]at hu
 obtain⟨kvs,rfl,hks,-⟩:=hu
 have ok:yq X.prog X.w H s.heap a (.dT kvs):=by
  cases z with
  | true=>rw[t9 rfl]at hz;obtain⟨ob,e⟩:=hz;exact(show yq X.prog X.w H s.heap a (.frz ob (.dT kvs))from I.hok a _ e).2
  | false=>rw[j0 u6]at hz;exact I.hok a _ hz
 obtain⟨_,sys,xs,pr,o,es,ep,e1,ex,dt,he,nd⟩:=ok
 have hp:=u2H pr
 have hkl:kvs.length=ts.length:=by have:=u05 List.length hks;rw[u7,u7]at this;exact this
 have hkeys:es.toList.map (·.key)=xs.map λq=>Value.ref q.2.1:=by rw[he,u07];rfl
 have hsz:es.size < 10000000:=by rw[<-j8,he,u7];omega
 have rel:∀ {l:List (List Key × V)} {m:List (List Key × Addr × Value)},Paired (λp q=>p.1=q.1/\H q.2.1=some (.tup (p.1.map kV))/\yI p.2 q.2.2) l m->∀ (j:Nat) (h1:j < l.length) (h2:j < m.length),l[j].1=m[j].1/\H m[j].2.1=some (.tup (l[j].1.map kV)):=λ{l m} r=>by
  induction r with
  | nil=>intro j h1;simp at h1
  | cons h t ih =>
   intro j h1 h2
   cases j with
   | zero=>exact⟨h.1,h.2.1⟩
   | succ j=>exact ih j (by simpa using h1) (by simpa using h2)
 have atJ:∀ (j:Nat) (h1:j < ts.length) (h2:j < xs.length),H xs[j].2.1=some (.tup (ts[j].map V.int)):=λj h1 h2=>by
  have h3:j < kvs.length:=by omega
  obtain⟨-,r2⟩:=rel pr j h3 h2
  have e3:kvs[j].1=ts[j].map Sum.inl:=by
   have:=u05 (λl=>l[j]?) hks
   simp only[r6]at this
   rw[j6 h3,j6 h1]at this
   exact p9 this
  rw[r2,e3,u07]
  rfl
 have look:∀ {v:Value},v∈(xs.map λq=>Value.ref q.2.1)->∃ b t,v=.ref b/\t∈ts/\H b=some (.tup (t.map V.int))/\OwnSortT.TT s.heap v t:=λ{v} hv=>by
  obtain⟨j,hj,rfl⟩:=u00 hv
  rw[u7]at hj
  have hj2:j < ts.length:=by omega
  have hb:=atJ j hj2 hj
  rw[u2x]
  obtain⟨us,ru,⟨o,ho,hcl,n,hd⟩,_⟩:=I.tuple (SqT.of hb)
  exact⟨xs[j].2.1,ts[j],rfl,u1E hj2,hb,xs[j].2.1,o,n,us,rfl,ho,hcl,hd,wy ru,hne _ (u1E hj2)⟩
 refine OwnDk.own_sorted_dict (I.ok.hd hc) sys e1 ex dt hsz (λv hv=>by rw[hkeys]at hv;obtain⟨b,t,-,-,-,ht⟩:=look hv;exact⟨t,ht⟩) λh1 h' tk out c pm ri k1 k2 hL=>?_
 rw[hkeys]at pm
 obtain⟨us,l1,l2,l3⟩:=ri
 have zsOf:∀ (ws:List Value) (vs:List (List Int)),ws.length=vs.length->(∀ w∈ws,w∈xs.map λq=>Value.ref q.2.1)->(∀ (i:Nat) v t,ws[i]?=some v->vs[i]?=some t->OwnSortT.TT s.heap v t)->∃ bs:List (Addr × List Int),bs.map (·.2)=vs/\yl (bs.map λb=>V.ref b.1) ws/\∀ b∈bs,H b.1=some (.tup (b.2.map V.int)):=by
  intro ws
  induction ws with
  | nil =>
   intro vs hl _ _
   cases vs with
   | nil=>exact⟨[],rfl,.nil,λb h=>by cases h⟩
   | cons _ _=>simp at hl
  | cons w ws ih =>
   intro vs hl hm ht
   cases vs with
   | nil=>simp at hl
   | cons t vs =>
    obtain⟨bs,z0,z1,z2⟩:=ih vs (by simpa using hl) (λw' hw'=>hm w' (p4 _ hw')) (λi v t h1 h2=>ht (i+1) v t (by simpa using h1) (by simpa using h2))
    obtain⟨a,t',rfl,_,ha,htp⟩:=look (hm w e9)
    have et:t'=t:=htp.uniq (ht 0 _ t rfl rfl)
    subst et
    exact⟨(a,t')::bs,by rw[i4,z0],.cons rfl z1,λb hb=>by
     rcases j7.mp hb with rfl | hb
     .exact ha
     .exact z2 b hb⟩
 obtain⟨bs,z0,z1,z2⟩:=zsOf out.toList us l1 (λw hw=>pm.mem_iff.mp hw) l2
 have keysPerm:us.Perm ts:=by
  have kv:∀ (ws:List Value) (vs:List (List Int)),ws.length=vs.length->(∀ (i:Nat) v t,ws[i]?=some v->vs[i]?=some t->OwnSortT.TT s.heap v t)->vs=ws.map λv=>(OwnSortT.keyTT s.heap v).getD []:=by
   intro ws
   induction ws with
   | nil=>intro vs hl _;cases vs with
    | nil=>rfl
    | cons _ _=>simp at hl
   | cons w ws ih =>
    intro vs hl ht
    cases vs with
    | nil=>simp at hl
    | cons t vs =>
     rw[i4,OwnSortT.keyTT_of (ht 0 w t rfl rfl),<- ih vs (by simpa using hl) λi v t h1 h2=>ht (i+1) v t (by simpa using h1) (by simpa using h2)]
     rfl
  rw[kv _ _ l1 l2,kv (xs.map λq=>Value.ref q.2.1) ts (by rw[u7];omega) λi v t h1 h2=>?_]
  .exact pm.map _
  .obtain⟨hi,e2⟩:=t7.mp h1
   obtain⟨hi2,e3⟩:=t7.mp h2
   rw[u7]at hi
   have hb:=atJ i hi2 hi
   rw[e3]at hb
   obtain⟨us',ru',⟨o,ho,hcl,n,hd⟩,_⟩:=I.tuple (SqT.of hb)
   exact⟨xs[i].2.1,o,n,us',by rw[<-e2,u2x],ho,hcl,hd,wy ru',hne t (by rw[<-e3];exact u1E hi2)⟩
 have e3:=Wk keysPerm l3
 subst e3
 obtain⟨F',g,hF⟩:=Gr.seeL (bs.map λb=>(b.1,b.2.map V.int)) sm λb hb=>by
  obtain⟨c,hc,rfl⟩:=u0u.mp hb
  exact z2 c hc
 have az:AtL F' ((vC ts).map zey) (bs.map λb=>V.ref b.1):=by
  rw[<-z0]
  clear z0 z1 pm l1 l2
  induction bs with
  | nil=>exact .nil
  | cons b bs ih=>exact .cons (.tup (hF (b.1,b.2.map V.int) (u0u.mpr ⟨b,e9,rfl⟩)) (.ints _)) (ih (λc hc=>z2 c (p4 _ hc)) (λc hc=>by
   obtain⟨d,hd,rfl⟩:=u0u.mp hc
   exact hF _ (u0u.mpr ⟨d,p4 _ hd,rfl⟩)))
 have I2:Inv X pins σ H { s with heap:=h1,toks:=tk }:=I.kept λb u e=>k1 b u e
 have hlo:(bs.map λb=>V.ref b.1).length<=sizeLine:=by
  have hh:bs.length=(vC ts).length:=by rw[<-z0,u7]
  rw[u7,hh,(vU ts).length_eq,u1B]
  omega
 exact⟨.ref h1.objs.size,_,I2.laid (t':=tk) (λb o e=>k2 b o e) (q5 _) (show yq X.prog X.w _ h' _ (.lst (bs.map λb=>V.ref b.1)) from⟨hlo,out.toList,c,z1,by simpa using hL⟩),rfl,q _ _ F' (I2.hok.fresh (q5 _)) g az⟩
def zc1:List D->Option (List D)
 | [.dct _ true ks _]=>if ks.length < 10000000 then (zaN ks).map λts=>(vC ts).map zey else none
 | _=>none
theorem zdw {p:Pos} {f:Ev->Option (List D)} (hc:X.calm=true) (hgl:Gl X "sorted") (hm:X.mg "sorted"=none) (ha:AD X [e] f)
 (he:starEach [e] X.env=(false,eval e X.env)::starEach [] X.env:=by rfl) (hpl:(backTo pos (starEach [] X.env)).any (·.1)=false:=by rfl):FL X (.Call (.Name "sorted" p) [e] [] pos) (fFn zc1 f):=by
 obtain⟨t,pa,ra⟩:=ha
 refine⟨_,zN (zaR hc) hgl hm Wq pa (by decide) (by decide) he hpl,fun σ ρ F H z Q s va e q=>?_⟩
 obtain⟨ds,e1,e2⟩:=u4.mp e
 refine ra σ ρ F H ds _ s va e1 λF1 H1 vs g1 a1=>?_
 have e2':=e2
 unfold zc1 at e2'
 split at e2'
 .rename_i z' ks ws
  split at e2' <;> try cases e2'
  rename_i h64
  obtain⟨ts,e3,rfl⟩:=u9.mp e2'
  obtain⟨x,r,rfl,ax,ar⟩:=a1.cons_inv
  cases ar.nil_inv
  obtain⟨p,ys,rfl,hx,bl⟩:=ax.dct_inv
  refine⟨F1,p,z',ks,ys,ts,rfl,g1.fh,hx,h64,e3,λl zs F' hl g az=>?_⟩
  have g2:=g1.trans g
  exact q _ _ _ _ (g2.trans (Gr.hide g2.fh hl _)) (zdG g2 hl) (g2.fh.free hl) zm az
 .cases e2'
end
end Dl
namespace L2
open PySem PySem.Spec PyProof.Rows
section
variable {X:Cx}
def zmB:V->List V->Hp->VK->Prop:=λx vs H Q=>∃ l xs y,x=.ref l/\vs=[]/\H l=some (.lst (xs++[y]))/\Q y (upd H l (.lst xs))
theorem zgB {xs:List V}{y:V}{its:List Value}(r:yl (xs++[y]) its):∃ js u,its=js++[u]/\yl xs js/\yI y u:=by
 have h1:=r.take xs.length
 have h2:=r.drop xs.length
 rw[List.take_left]at h1
 rw[List.drop_left]at h2
 obtain⟨u,e,ru⟩:=h2.one
 refine⟨its.take xs.length,u,?_,h1,ru⟩
 have:=i6 xs.length its
 rw[e]at this
 exact this.symm
theorem zjB:MtM X "list.pop" zmB:=by
 intro pins s σ H x vs v us Q I rx rv h
 obtain⟨l,xs,y,rfl,rfl,hH,q⟩:=h
 cases rx
 cases rv
 obtain⟨z,its,n,r,hl,e⟩:=I.lstM hH
 obtain⟨js,u,rfl,r1,ru⟩:=zgB r
 have hz:xs.length+1<=sizeLine:=by rw[r0]at z;exact z
 have hj:js.length=xs.length:=r1.length.symm
 refine u2J F.slot_list_pop ⟨_,e,rfl⟩ F.entry_list_pop (F.args_list_pop_1 _) (PySem.MeetsSeq.list_pop_last l (js++[u]).toArray n u (by simp) (by rw[j3,r0,hj];exact hz)) ⟨e,?_⟩
 refine⟨y,_,I.lset (its':=js) hH e (by simp[u2e]) r1 (by omega),ru,q⟩
end
end L2
namespace Dl
open PySem L2
section
variable [KK]{X:Cx}{a:Expr}{pos:Pos}
theorem AtL.unsnoc {F:Hp}{ds:List D}{d:D}{xs:List V}(h:AtL F (ds++[d]) xs):∃ ys y,xs=ys++[y]/\AtL F ds ys/\At F d y:=by
 have h1:=h.take ds.length
 have h2:=h.drop ds.length
 rw[List.take_left]at h1
 rw[List.drop_left]at h2
 obtain⟨y,r,e,ay,ar⟩:=h2.cons_inv
 cases ar.nil_inv
 refine⟨xs.take ds.length,y,?_,h1,ay⟩
 have:=i6 ds.length xs
 rw[e]at this
 exact this.symm
def zmL (i j:Nat):SE->Ctl:=fun ρ=>match ρ[i]? with
 | some (.o ds)=>(match ds.getLast? with
  | some d=>.nx ((ρ.set i (.o ds.dropLast)).set j (.v d))
  | none=>.no)
 | _=>.no
theorem zmQ {i j:Nat}{x:Str}{p pos' pos2:Pos}(hN:X.N.Nodup)(hi:X.N[j]?=some x)(hx:Loc X.env.scope x)(ho:PE X a (Vj i))
 (hp:∀ {ta:TE},PE X a ta->PE X (.Call (.Attribute a "pop" p) [] [] pos2) (tBM0 X.K "list" zmB ta)) (hs:swapsWith (.Call (.Attribute a "pop" p) [] [] pos2) (some (.Name x pos')) pos.line X.env=pure false:=by rfl)
 (hf:X.fn x=true\/X.env.scope.names.lookup x=some .local:=by first | exact .inl rfl | exact .inr rfl | assumption):SD X (.Assign [.Name x pos'] (.Call (.Attribute a "pop" p) [] [] pos2) pos) (zmL i j):=by
 refine⟨_,Xy hN hi hx (hp ho) hs hf,λFb Hb F H ρ σ E rl k=>?_⟩
 unfold zmL at k
 cases hs:ρ[i]? with
 | none=>rw[hs]at k;exact k.elim
 | some sl =>
  rw[hs]at k
  cases sl with
  | no=>exact k.elim
  | v _=>exact k.elim
  | m _ _ _=>exact k.elim
  | o ds =>
   dsimp only at k
   cases hd:ds.getLast? with
   | none=>rw[hd]at k;exact k.elim
   | some d =>
    rw[hd]at k
    obtain⟨es,rfl⟩:=List.getLast?_eq_some_iff.mp hd
    rw[List.dropLast_concat]at k
    obtain⟨q,xs,f1,f2,f3,f4,f5⟩:=rl.owns i _ hs
    obtain⟨ys,y,rfl,al,ay⟩:=f5.unsnoc
    refine⟨_,f1,.inl ⟨rfl,_,SqL.of f4⟩,q,ys,y,rfl,rfl,f4,?_⟩
    exact k _ _ _ ((rl.mutate hs f1 al).set ay)
end
theorem zlp {i j:Nat}{ρ ρ':SE}{ds:List D}{d:D}(h:ρ[i]?=some (.o (ds++[d])))(h2:(ρ.set i (.o ds)).set j (.v d)=ρ':=by rfl):zmL i j ρ=.nx ρ':=by
 unfold zmL
 rw[h]
 show(match (ds++[d]).getLast? with | some d'=>Ctl.nx ((ρ.set i (.o (ds++[d]).dropLast)).set j (.v d')) | none=>Ctl.no)=_
 rw[List.getLast?_concat,List.dropLast_concat,<- h2]
def b3:D->Option (List (Option D))
 | .tup [x,y,z]=>some [some x,some y,some z]
 | _=>none
end Dl
namespace Dl
open PySem L2
variable [KK]
section
variable {E:XK}{cl:Nat->Addr}{X:Cx}{a b e:Expr}{es:List Expr}{pos:Pos}
theorem znO {x:Str} {id:String} {p:Pos} {fx:Ev->Option Nat} (hg:Gl X x) (hm:X.mg x=none) (hv:bootBuiltins x=some (.builtin id)) (ha:XA E cl X (e::es) fx) (hn:x≠"__name__":=by decide) (hdb:(x == ("__debug__":Str))=false:=by decide)
 (he:starEach (e::es) X.env=(false,eval e X.env)::starEach es X.env:=by rfl) (hpl:(backTo pos (starEach es X.env)).any (·.1)=false:=by rfl):XE E cl X (.Call (.Name x p) (e::es) [] pos) fx:=by
 obtain⟨t,pa,ra⟩:=ha
 exact⟨_,zN (r:=λ_ _ _=>False) (λ_ _ _ _ _ _ _ _ _ h=>h.elim) hg hm hv pa hn hdb he hpl,fun σ ρ F0 H j Q s va e w=>ra σ ρ F0 H j _ s va e w⟩
end
end Dl
namespace Dl
open PySem L2
def zc6:List D->Option (List (List Int))
 | []=>some []
 | .tup es::ds=>match zcv es with
  | some (i::t)=>(zc6 ds).map ((i::t)::·)
  | _=>none
 | _::_=>none
theorem zaF:∀ {ds:List D} {ts:List (List Int)},zc6 ds=some ts->ds=ts.map zey/\∀ t∈ts,t≠[]
 | [],ts,h=>by cases h;exact⟨rfl,λ_ h=>(by cases h)⟩
 | d::ds,ts,h=>by
  cases d with
  | tup es =>
   have h:(match zcv es with | some (i::t)=>(zc6 ds).map ((i::t)::·) | _=>none)=some ts:=h
   split at h
   .rename_i i t he
    obtain⟨us,e1,rfl⟩:=u9.mp h
    obtain⟨e2,e3⟩:=zaF e1
    refine⟨by rw[i4,<- e2,Wl he];rfl,λx hx=>?_⟩
    rcases j7.mp hx with rfl | hx
    .exact u3y _ _
    .exact e3 x hx
   .cases h
  | _=>cases h
def zfo:List D->Option (List D)
 | [.lst ds]=>if ds.length < 10000000 then (zc6 ds).map λts=>(vC ts).map zey else none
 | _=>none
variable [KK]
section
variable {X:Cx}{e:Expr}{pos:Pos}
theorem At.tupI_inv {F:Hp}{t:List Int}{v:V}(h:At F (zey t) v):∃ a,v=.ref a/\F a=some (.tup (t.map V.int)):=by
 obtain⟨a,xs,rfl,hx,al⟩:=h.tup_inv
 rw[al.of_ints]at hx
 exact⟨a,rfl,hx⟩
theorem zbi (hc:X.calm=true):vR X (.builtin "sorted") (λxs H Q=>∃ F p ys ts,xs=[.ref p]/\zZ F H/\H p=some (.lst ys)/\AtL F (ts.map zey) ys/\ts.length < 10000000/\(∀ t∈ts,t≠[])/\∀ l zs,H l=none->AtL F ((vC ts).map zey) zs->Q (.ref l) (upd H l (.lst zs))):=by
 intro pins s σ H xs us Q I r h
 obtain⟨F,p,ys,ts,rfl,sm,hp,al,h64,hne,q⟩:=h
 obtain⟨u,rfl,ru⟩:=WM r
 cases ru
 obtain⟨its,rv,pl,hz⟩:=I.list (SqL.of hp)
 have hlen:its.length=ts.length:=by rw[<-rv.length,al.length,u7]
 have atI':∀ (i:Nat) (v:Value) (t:List Int),its[i]?=some v->ts[i]?=some t->∃ a,v=.ref a/\F a=some (.tup (t.map V.int))/\OwnSortT.TT s.heap v t:=λi v t h1 h2=>by
  obtain⟨x,hx,ax⟩:=al.get (i:=i) (d:=zey t) (by rw[r6,h2];rfl)
  obtain⟨a,rfl,ha⟩:=ax.tupI_inv
  obtain⟨v',hv',rvv⟩:=rv.get hx
  rw[h1]at hv'
  cases hv'
  obtain⟨us',ru',⟨o,ho,hcl,n,hd⟩,_⟩:=I.tuple (SqT.of (sm _ _ ha))
  exact⟨a,rvv,ha,a,o,n,us',rvv,ho,hcl,hd,wy ru',hne t (j4 h2)⟩
 have look:∀ {v:Value},v∈its->∃ a t,v=.ref a/\F a=some (.tup (t.map V.int))/\OwnSortT.TT s.heap v t:=λ{v} hv=>by
  obtain⟨j,hj,rfl⟩:=u00 hv
  have hj2:j < ts.length:=by omega
  obtain⟨a,e1,e2,e3⟩:=atI' j its[j] ts[j] (j6 hj) (j6 hj2)
  exact⟨a,_,e1,e2,e3⟩
 refine OwnSortT.ownT_sorted pl.isList (λv hv=>let ⟨a,t,_,_,ht⟩:=look hv;⟨t,ht⟩) (by omega) λo2 pm ri=>?_
 obtain⟨us,l1,l2,l3⟩:=ri
 have zsOf:∀ (ws:List Value) (vs:List (List Int)),ws.length=vs.length->(∀ w∈ws,w∈its)->(∀ (i:Nat) v t,ws[i]?=some v->vs[i]?=some t->OwnSortT.TT s.heap v t)->∃ zs:List V,yl zs ws/\AtL F (vs.map zey) zs:=by
  intro ws
  induction ws with
  | nil =>
   intro vs hl _ _
   cases vs with
   | nil=>exact⟨[],.nil,.nil⟩
   | cons _ _=>simp at hl
  | cons w ws ih =>
   intro vs hl hm ht
   cases vs with
   | nil=>simp at hl
   | cons t vs =>
    obtain⟨zs,z1,z2⟩:=ih vs (by simpa using hl) (λw' hw'=>hm w' (p4 _ hw')) (λi v t h1 h2=>ht (i+1) v t (by simpa using h1) (by simpa using h2))
    obtain⟨a,t',rfl,ha,htp⟩:=look (hm w e9)
    have et:t'=t:=OwnSortT.TT.uniq htp (ht 0 _ t rfl rfl)
    subst et
    exact⟨.ref a::zs,.cons rfl z1,.cons (.tup ha (.ints _)) z2⟩
 obtain⟨zs,z1,z2⟩:=zsOf o2.toList us l1 (λw hw=>pm.mem_iff.mp hw) l2
 have keysPerm:us.Perm ts:=by
  have kv:∀ (ws:List Value) (vs:List (List Int)),ws.length=vs.length->(∀ (i:Nat) v t,ws[i]?=some v->vs[i]?=some t->OwnSortT.TT s.heap v t)->vs=ws.map λv=>(OwnSortT.keyTT s.heap v).getD []:=by
   intro ws
   induction ws with
   | nil=>intro vs hl _;cases vs with
    | nil=>rfl
    | cons _ _=>simp at hl
   | cons w ws ih =>
    intro vs hl ht
    cases vs with
    | nil=>simp at hl
    | cons t vs =>
     rw[i4,OwnSortT.keyTT_of (ht 0 w t rfl rfl),<- ih vs (by simpa using hl) λi v t h1 h2=>ht (i+1) v t (by simpa using h1) (by simpa using h2)]
     rfl
  rw[kv _ _ l1 l2,kv its ts hlen λi v t h1 h2=>(atI' i v t h1 h2).elim λ_ h=>h.2.2]
  exact pm.map _
 have e3:=Wk keysPerm l3
 rw[e3]at z2
 have hn:H (s.heap.objs.size+1)=none:=I.hok.fresh (u02 _)
 obtain⟨ep,he⟩:=u3h s.heap its o2.toList.toArray
 have hzl:zs.length<=sizeLine:=by
  rw[z1.length,pm.length_eq,hlen,u1B]
  omega
 have fin:EP X pins σ Q (.ref (s.heap.objs.size+1)) { s with heap:=PyProof.Rows.sortedAll s.heap its o2.toList.toArray } :=
  ⟨.ref (s.heap.objs.size+1),upd H (s.heap.objs.size+1) (.lst zs),I.laid (t':=s.toks) (λb o z=>u21 z) (u02 _) (show yq X.prog X.w _ _ _ (.lst zs) from⟨hzl,o2.toList,ep,z1,he⟩),rfl,q _ zs hn z2⟩
 simpa using fin
theorem zdz {p:Pos} {f:Ev->Option (List D)} (hc:X.calm=true) (hgl:Gl X "sorted") (hm:X.mg "sorted"=none) (ha:AD X [e] f)
 (he:starEach [e] X.env=(false,eval e X.env)::starEach [] X.env:=by rfl) (hpl:(backTo pos (starEach [] X.env)).any (·.1)=false:=by rfl):FL X (.Call (.Name "sorted" p) [e] [] pos) (fFn zfo f):=by
 obtain⟨t,pa,ra⟩:=ha
 refine⟨_,zN (zbi hc) hgl hm Wq pa (by decide) (by decide) he hpl,fun σ ρ F H z Q s va e q=>?_⟩
 obtain⟨ds,e1,e2⟩:=u4.mp e
 refine ra σ ρ F H ds _ s va e1 λF1 H1 vs g1 a1=>?_
 have e2':=e2
 unfold zfo at e2'
 split at e2'
 .rename_i es
  split at e2' <;> try cases e2'
  rename_i h64
  obtain⟨ts,e3,rfl⟩:=u9.mp e2'
  obtain⟨e4,e5⟩:=zaF e3
  subst e4
  rw[u7]at h64
  obtain⟨x,r,rfl,ax,ar⟩:=a1.cons_inv
  cases ar.nil_inv
  obtain⟨p,ys,rfl,hx,bl⟩:=ax.lst_inv
  exact⟨F1,p,ys,ts,rfl,g1.fh,g1.fh _ _ hx,bl,h64,e5,λl zs hl az=>q _ _ _ _ (g1.trans (Gr.hide g1.fh hl _)) (zdG g1 hl) (g1.fh.free hl) zm az⟩
 .cases e2'
end
end Dl
namespace Dl
open PySem L2
variable [KK]
theorem edv {X:Cx} (i:Nat) {x:Str} {pos:Pos} (hN:X.N[i]?=some x:=by rfl) (hv:Vis X.env.scope x:=by first | exact Or.inl rfl | exact Or.inr (Or.inl rfl) | exact Or.inr (Or.inr rfl)) (hd:(x == ("__debug__":Str))=false:=by decide)
 (hcd:(x == ("__classdict__":Str))=false:=by decide):ED X (.Name x pos) (zd i):=zkZ i (pv i hN hv hd hcd)
theorem zo {X:Cx}{x:Str}{j k m:Nat}{f:Addr}{fd:FuncData}{ps:List Str}{st:Stmt}{p:List D->Option D}{e:Expr}{es:List Expr}{pp pos:Pos}{fa:Ev->Option (List D)}(F:y6 X.prog X.w X.K X.mg X.base CX0 j f fd ps (spD m p))(hr:vw k X.A)(hg:Gl X x)(d:Def X.K X.mg x st ps f fd)
 (ha:AD X (e::es) fa) (hj:j<=k:=by decide) (hdb:(x == ("__debug__":Str))=false:=by decide) (he:starEach (e::es) X.env=(false,eval e X.env)::starEach es X.env:=by rfl) (hpl:(backTo pos (starEach es X.env)).any (·.1)=false:=by rfl) :
 ED X (.Call (.Name x pp) (e::es) [] pos) (zt m p fa):=zcl (F.mono hj) hr hg d.at_ d.kp d.bd ha hdb he hpl
end Dl
namespace Mz
open PySem Dl
abbrev Tie:=Int × Int
def ltP (s t:Tie):Prop:=s.1 < t.1\/(s.1=t.1/\s.2 < t.2)
instance (s t:Tie):Decidable (ltP s t):=by unfold ltP;infer_instance
theorem zfX {a b c:Tie}(h:ltP a b)(k:ltP b c):ltP a c:=by
 unfold ltP at *
 omega
def zq (t:Tie):D:=.tup [.int t.1,.int t.2]
theorem zfw {s t:Tie}(h:zq s=zq t):s=t:=by
 unfold zq at h
 injection h with h
 injection h with h1 h2
 injection h2 with h2 _
 injection h1 with h1
 injection h2 with h2
 exact u3s h1 h2
def zM (many:Int)(ties:List Tie):D:=.tup [.int many,.tup (ties.map zq)]
structure xJ (many:Int) (ties:List Tie):Prop where
 lo:1<=many
 hi:many<=8
 rng:∀ t∈ties,0<=t.1/\t.1 < t.2/\t.2 < many
 srt:ties.Pairwise ltP
def leP (s t:Tie):Bool:=if s.1=t.1 then (if s.2=t.2 then true else decide (s.2<=t.2))else decide (s.1<=t.1)
theorem zbk {s t:Tie}:leP s t=false↔ltP t s:=by
 unfold leP ltP
 by_cases h:s.1=t.1
 .rw[t9 h]
  by_cases k:s.2=t.2
  .rw[t9 k];simp;omega
  .rw[j0 k,u0L];omega
 .rw[j0 h,u0L];omega
def YZ:D->Option Tie
 | .tup [.int a,.int b]=>some (a,b)
 | _=>none
theorem YH (t:Tie):YZ (zq t)=some t:=rfl
theorem Ws {d:D}{t:Tie}(h:YZ d=some t):d=zq t:=by
 unfold YZ at h
 split at h
 .cases h;rfl
 .cases h
def inR (m a:Int):Bool:=decide (0<=a)&&decide (a<=m - 1)
def x8 (m:Int)(d:D):Bool:=match YZ d with
 | some t=>inR m t.1&&inR m t.2&&!decide (t.1=t.2)
 | none=>false
def zaL (p:Option Tie)(t:Tie):Bool:=match p with
 | some q=>!leP t q
 | none=>true
def yy (m:Int):Option Tie->List D->Bool
 | _,[]=>true
 | p,d::r=>match YZ d with
  | some t=>x8 m d&&!decide (t.2 < t.1)&&zaL p t&&yy m (some t) r
  | none=>false
def YT (m:Int):D->Bool
 | .tup ts=>yy m none ts
 | _=>false
def vM:D->Bool
 | .tup [.int m,t]=>decide (1<=m)&&decide (m<=8)&&YT m t
 | _=>false
theorem XF (m:Int):∀ (ts:List D) (p:Option Tie),yy m p ts=true↔∃ l:List Tie,ts=l.map zq/\(∀ t∈l,0<=t.1/\t.1 < t.2/\t.2 < m)/\(∀ q,p=some q->∀ t∈l,ltP q t)/\l.Pairwise ltP:=by
 intro ts
 induction ts with
 | nil =>
  intro p
  refine⟨λ_=>⟨[],rfl,by simp,by simp,.nil⟩,λ_=>rfl⟩
 | cons d r ih =>
  intro p
  unfold yy
  cases e:YZ d with
  | none =>
   refine Iff.intro (λh=>nomatch h) (λhh=>?_)
   obtain⟨l,h,_⟩:=hh
   cases l with
   | nil=>cases h
   | cons t l' =>
    rw[i4]at h
    injection h with h1 _
    rw[h1,YH]at e
    cases e
  | some t =>
   have ed:=Ws e
   subst ed
   simp only[x8,YH,g9,u1Q,u0L,inR,d5]
   rw[ih (some t)]
   constructor
   .rintro⟨⟨⟨⟨⟨h1,h2⟩,h3⟩,h4⟩,h5⟩,l,rfl,hr,hq,hs⟩
    refine⟨t::l,rfl,?_,?_,u0T.mpr ⟨hq t rfl,hs⟩⟩
    .intro u hu
     rcases j7.mp hu with rfl | hu
     .omega
     .exact hr u hu
    .rintro q rfl u hu
     have hqt:ltP q t:=zbk.mp (by simpa [zaL]using h5)
     rcases j7.mp hu with rfl | hu
     .exact hqt
     .exact zfX hqt (hq t rfl u hu)
   .rintro⟨l,h,hr,hq,hs⟩
    cases l with
    | nil=>cases h
    | cons u l' =>
     rw[i4]at h
     injection h with h1 h2
     have hu:=zfw h1
     subst hu
     have hb:=hr t (by simp)
     refine⟨⟨⟨⟨⟨by omega,by omega⟩,by omega⟩,by omega⟩,?_⟩,l',h2,λv hv=>hr v (by simp[hv]),λq hqe v hv=>?_,(u0T.mp hs).2⟩
     .cases p with
      | none=>rfl
      | some q =>
       have:=zbk.mpr (hq q rfl t (by simp))
       simp[zaL,this]
     .cases hqe
      exact(u0T.mp hs).1 v hv
theorem xT (d:D):vM d=true↔∃ m ties,d=zM m ties/\xJ m ties:=by
 constructor
 .intro h
  unfold vM at h
  split at h
  .rename_i m t
   simp only[g9,d5]at h
   obtain⟨⟨h1,h2⟩,h3⟩:=h
   unfold YT at h3
   split at h3
   .rename_i ts
    obtain⟨l,rfl,hr,_,hs⟩:=(XF m ts none).mp h3
    exact⟨m,l,rfl,h1,h2,hr,hs⟩
   .cases h3
  .cases h
 .rintro⟨m,ties,rfl,w⟩
  unfold zM vM YT
  simp only[g9,d5]
  exact⟨⟨w.lo,w.hi⟩,(XF m _ none).mpr ⟨ties,rfl,w.rng,by simp,w.srt⟩⟩
theorem zkl {d:D}(h:∀ m ties,d=zM m ties->¬ xJ m ties):vM d=false:=by
 cases e:vM d with
 | false=>rfl
 | true =>
  obtain⟨m,ties,rfl,w⟩:=(xT d).mp e
  exact absurd w (h m ties rfl)
end Mz
namespace Mz
open Dl
def zkr (c k:Int):Int :=
 let a:=(c % 2147483647+977*k+1)*48271 % 2147483647
 let b:=a*a % 2147483629
 (b+40692*(k+3))*69621 % 2147483647 / 8
def adj (ts:List Tie)(a b:Int):Prop:=(a,b)∈ts\/(b,a)∈ts
inductive zhY (ts:List Tie) (p:Int):Nat->Int->Prop
 | zero:zhY ts p 0 p
 | step {k:Nat} {a b:Int}:zhY ts p k a->adj ts a b->zhY ts p (k+1) b
theorem zdA {P:Nat->Prop}:∀ k,P k->∃ j,P j/\∀ i,P i->j<=i:=by
 intro k
 induction k using Nat.strongRecOn with
 | _ k ih =>
  intro h
  by_cases c:∃ i,i < k/\P i
  .obtain⟨i,hi,h2⟩:=c
   exact ih i hi h2
  .exact⟨k,h,λi hi=>u1F λz=>c ⟨i,z,hi⟩⟩
def Within (ts:List Tie)(p:Int)(k:Nat)(v:Int):Prop:=∃ j,j<=k/\zhY ts p j v
theorem zjj {n:Nat}{i:Int}(h0:0<=i)(h1:i < n):L2.ixN n i=some i.toNat:=by
 unfold L2.ixN
 rw[t9 h0,t9 h1]
theorem zmX {α:Type}{xs:List α}{i:Int}{x:α}(h0:0<=i)(h:xs[i.toNat]?=some x):L2.atI xs i=some x:=by
 have:=(t7.mp h).1
 unfold L2.atI
 rw[zjj h0 (by omega)]
 exact h
theorem zlQ {m:Bool}{i:Nat}{fk fe:Ev->Option D}{ρ:SE}{ds:List D}{d:D}{k:Int}(h1:vEv m fe ρ=some d)(h2:fk (visG ρ)=some (.int k))(h3:ρ[i]?=some (.o ds))(h4:0<=k)(h5:k < ds.length) :
 ZZ m i fk fe ρ=.nx (ρ.set i (.o (ds.set k.toNat d))):=by
 unfold ZZ
 rw[h1,h2,h3]
 show(match ((L2.ixN ds.length k).map λj=>ρ.set i (Sl.o (ds.set j d)))with | some ρ'=>Ctl.nx ρ' | none=>Ctl.no)=_
 rw[zjj h4 h5]
 rfl
theorem zgn:∀ {ns:List Int} {k:Nat} {x:Int} (h:k < ns.length),(ns.set k x).sum=ns.sum - ns[k]+x
 | [],_,_,h=>by simp at h
 | n::ns,0,x,_=>by simp;omega
 | n::ns,k+1,x,h=>by
  have:=zgn (ns:=ns) (k:=k) (x:=x) (by simpa using h)
  simp only[List.set_cons_succ,u3r,List.getElem_cons_succ,this]
  omega
def zdP (b n:Nat):List Tie:=(List.range n).map λ(k:Nat)=>((k:Int),(b:Int))
def Xo (n:Nat):List Tie:=(List.range n).flatMap λb=>zdP (b+1) (b+1)
theorem zba (b n:Nat):zdP b (n+1)=zdP b n++[((n:Int),(b:Int))]:=by
 unfold zdP
 rw[u2U,i8]
 rfl
theorem zd3 (n:Nat):Xo (n+1)=Xo n++zdP (n+1) (n+1):=by
 unfold Xo
 rw[u2U,u2P]
 simp
theorem XQ:∀ n:Nat,n<=7->(Xo n).Nodup/\(∀ t∈Xo n,0<=t.1/\t.1 < t.2/\t.2<=(n:Int))/\(Xo n).length<=28:=by
 have h:∀ n:_root_.Fin 8,(Xo n.val).Nodup/\(∀ t∈Xo n.val,0<=t.1/\t.1 < t.2/\t.2<=(n.val:Int))/\(Xo n.val).length<=28:=by decide +kernel
 exact λn hn=>h ⟨n,by omega⟩
theorem Xe (ts:List Tie):(W2 ts).Perm ts:=u2S _ _
theorem za8 {ts:List Tie}(h:ts.Nodup):(W2 ts).Pairwise ltP:=by
 have h1:(W2 ts).Pairwise λa b=>zkS a b=true:=u2g (λa b c h1 h2=>by rw[wZ]at *;omega) (λa b=>by rw[u3J,wZ,wZ];omega) _
 have h2:(W2 ts).Nodup:=(Xe ts).nodup_iff.mpr h
 refine(h1.and h2).imp λ{a b} hh=>?_
 obtain⟨x,y⟩:=hh
 rw[wZ]at x
 unfold ltP
 rcases x with x | x
 .exact .inl x
 .refine .inr ⟨x.1,?_⟩
  have:a.2≠b.2:=λe=>y (u3s x.1 e)
  omega
theorem zcC {n:Nat}{ts:List Tie}(hn:n<=7)(h:ts.Sublist (Xo n)):xJ (1+(n:Int)) (W2 ts):=by
 obtain⟨h1,h2,h3⟩:=XQ n hn
 refine⟨by omega,by omega,λt ht=>?_,za8 (h1.sublist h)⟩
 have:=h2 t (h.subset ((Xe ts).mem_iff.mp ht))
 omega
theorem zhi {m:Bool}{i:Nat}{fk fe:Ev->Option D}{ρ:SE}{n b kk:SE->Prop}{r:D->Prop}(ds:List D)(d:D)(k:Int)(h1:vEv m fe ρ=some d)(h2:fk (visG ρ)=some (.int k))(h3:ρ[i]?=some (.o ds))(h4:0<=k)(h5:k < ds.length)(q:n (ρ.set i (.o (ds.set k.toNat d)))) :
 (ZZ m i fk fe ρ).w n b kk r:=ZB (zlQ h1 h2 h3 h4 h5) q
theorem zhk {α:Type}(xs:List α)(lo hi:Option Int):(zew xs lo hi).length<=xs.length:=by
 unfold zew
 rw[p5,u0p]
 omega
theorem zh3 {a b:List D}(h:a.length+b.length<=1000):vB (.lst a) (.lst b)=some (.lst (a++b)):=by
 show(if lim (a.length+b.length)=true then _ else none)=_
 rw[t9 (w6 h)]
theorem znJ {g h:SE->Ctl}{ρ:SE}{n b k:SE->Prop}{r:D->Prop}(J:SE->Prop)(h1:(g ρ).w J b k r)(h2:∀ ρ',J ρ'->(h ρ').w n b k r):(zW g h ρ).w n b k r :=
 xK (za6 h1 h2 (λ_ h=>h) (λ_ h=>h) λ_ h=>h)
theorem zgd:∀ {ns:List Int},(∀ x∈ns,0<=x)->0<=ns.sum
 | [],_=>by simp
 | n::ns,h=>by
  have:=zgd (ns:=ns) λx hx=>h x (p4 _ hx)
  have:=h n e9
  rw[u3r]
  omega
theorem Vp:∀ {ns:List Int} {y:Int},(∀ x∈ns,0<=x)->y∈ns->y<=ns.sum
 | [],_,_,h=>by simp at h
 | n::ns,y,h,hy=>by
  have h2:∀ x∈ns,0<=x:=λx hx=>h x (p4 _ hx)
  have:=zgd h2
  have:=h n e9
  rw[u3r]
  rcases j7.mp hy with rfl | hy
  .omega
  .have:=Vp h2 hy
   omega
theorem xO {m:Bool}{i:Nat}{f:Ev->Option D}{ρ ρ':SE}{d:D}(h:vEv m f ρ=some d)(h2:ρ.set i (.v d)=ρ':=by rfl):wu m i f ρ=.nx ρ':=by
 unfold wu
 rw[h,<- h2]
theorem Yw {f:Ev->Option D}{ρ:SE}{d:D}(h:f (visG ρ)=some d):Y4 f ρ=.nx ρ:=by
 unfold Y4
 rw[h]
theorem vm {f:Ev->Option D}{ρ:SE}{d:D}(h:f (visG ρ)=some d):yJ f ρ=.rt d:=by
 unfold yJ
 rw[h]
theorem zlc {o:Option (List D)}{ds:List D}(h:o=some ds):o.map D.lst=some (.lst ds):=by rw[h];rfl
theorem yj {a b:Int}:neD (.int a) (.int b)=some (.bl (!decide (a=b))):=rfl
theorem ziB {a m x:Int}(h:0 < m)(hx:a % m=x):0<=x/\x < m:=by
 subst hx
 exact⟨u3K _ (by omega),u2d _ h⟩
theorem zle {m:Int}(h1:1<=m)(h8:m<=8):wL [.int m]=some (Zo 0 m.toNat):=by
 show(if zd6 m=true then some (Zo 0 m.toNat)else none)=_
 rw[t9 (yh.mpr ⟨by omega,by omega⟩)]
theorem zlx {m:Int}{n:Nat}(h:m=((n+1:Nat):Int))(h7:n<=7):wL [.int m]=some (Zo 0 (n+1)):=by
 rw[zle (by omega) (by omega),show m.toNat=n+1 by omega]
theorem zl0 {m:Int}{n:Nat}(h:m=((n+1:Nat):Int))(h7:n<=7):ZH [.int 1,.int m]=some (Zo 1 n):=by
 show(if zd6 1=true/\zd6 m=true then some (Zo 1 (m - 1).toNat)else none)=_
 rw[t9 ⟨yh.mpr ⟨by omega,by omega⟩,yh.mpr ⟨by omega,by omega⟩⟩,show(m - 1).toNat=n by omega]
theorem zK {a b:Int}:WU (.int a) (.int b)=some (.bl (decide (a=b))):=rfl
theorem yo {a b:Bool}:WU (.bl a) (.bl b)=some (.bl (decide (a=b))):=rfl
theorem zO {a b:PySem.Str}:WU (.str a) (.str b)=some (.bl (decide (a=b))):=rfl
theorem zQ {a b:Int}:vB (.int a) (.int b)=some (.int (a+b)):=rfl
section
variable {ρ:Ev}{f g h:Ev->Option D}{a:Ev->Option (List D)}{t u:Ev->Option Bool}{d e x y z:D}{ds es:List D}{b c:Bool}
theorem ZM:zw ρ=some []:=rfl
theorem xz (h1:f ρ=some d)(h2:a ρ=some ds):zb f a ρ=some (d::ds):=by unfold zb;rw[h1,h2];rfl
theorem vZ {n:Nat}{p:List D->Option D}(h1:a ρ=some ds)(h2:p ds=some d)(hl:ds.length=n:=by rfl):zt n p a ρ=some d:=by
 unfold zt
 rw[h1,u0e,t9 hl,h2]
theorem WP {i n:Nat}{p:List D->Option D}{σ σ':SE}(h1:a (visF σ)=some ds)(h2:p ds=some d)(hl:ds.length=n:=by rfl)(h3:σ.set i (.v d)=σ':=by rfl):wu false i (zt n p a) σ=.nx σ':=xO (show zt n p a (visF σ)=some d from vZ h1 h2 hl) h3
theorem zoh {i:Nat}{f:Ev->Option D}{σ σ':SE}(h:f (visF σ)=some d)(h3:σ.set i (.v d)=σ':=by rfl):wu false i f σ=.nx σ':=xO (show f (visF σ)=some d from h) h3
theorem wg {k:D->D->Option D}(h1:f ρ=some x)(h2:g ρ=some y)(h3:k x y=some z):zr k f g ρ=some z:=by unfold zr;rw[h1,h2];exact h3
theorem zdt (h1:a ρ=some ds):wx a ρ=some (.lst ds):=by unfold wx;rw[h1];rfl
theorem zhI {k:List D->Option D}(h1:a ρ=some ds)(h2:k ds=some d):eFn k a ρ=some d:=by unfold eFn;rw[h1];exact h2
theorem zli {k:List D->Option (List D)}(h1:a ρ=some ds)(h2:k ds=some es):fFn k a ρ=some es:=by unfold fFn;rw[h1];exact h2
theorem zdi (h1:f ρ=some d)(h2:yE d=some ds):iOf f ρ=some ds:=by unfold iOf;rw[h1];exact h2
theorem zav (h1:f ρ=some (.bl b)):tOf f ρ=some b:=by unfold tOf;rw[h1];rfl
theorem zf8 (h1:t ρ=some b):yW t ρ=some (!b):=by unfold yW;rw[h1];rfl
theorem znQ (h1:t ρ=some b)(h2:u ρ=some c):Zp t u ρ=some (b||c):=by unfold Zp;rw[h1,h2];cases b <;> rfl
end
end Mz
namespace Mz
open PySem L2 Dl
def top (i:Nat):Stmt:=PySem.Challenge.pw_twoforone_k81_whole_fewest_stones_spread.main.body.getD i (.Pass ⟨0,0,0,0⟩)
abbrev Zm:Stmt:=top 18
abbrev xE:Stmt:=top 19
abbrev xD:Stmt:=top 20
abbrev xM:Stmt:=top 21
abbrev Zl:Stmt:=top 22
abbrev vY:Stmt:=top 23
abbrev Xc:Stmt:=top 25
abbrev Zd:Stmt:=top 26
abbrev WK:Stmt:=top 27
abbrev vo:Stmt:=top 28
abbrev vv:Stmt:=top 29
abbrev vQ:Stmt:=top 30
abbrev v9:Stmt:=top 32
abbrev wD:Stmt:=top 33
abbrev YF:Stmt:=top 34
abbrev Xi:Stmt:=top 35
abbrev wP:Stmt:=top 38
abbrev Xq:Stmt:=top 39
abbrev YD:Stmt:=top 42
abbrev Zi:Stmt:=top 43
abbrev wM:Stmt:=top 44
abbrev vp:Stmt:=top 45
abbrev wH:Stmt:=top 47
abbrev YA:Stmt:=top 48
abbrev Ym:Stmt:=top 49
abbrev vg:Stmt:=top 50
abbrev vc:Stmt:=top 51
abbrev Yc:Stmt:=top 52
abbrev wz:Stmt:=top 53
abbrev xP:Stmt:=top 54
abbrev vV:Stmt:=top 55
abbrev YK:Stmt:=top 56
abbrev zgV:Stmt:=top 57
theorem zcs:zx ["thing"] ["thing"] (zi Zm):=⟨rfl,rfl,rfl,by decide +kernel,rfl,by decide +kernel,by decide +kernel⟩
theorem Z0:zx ["thing","least","most"] ["thing","least","most"] (zi xE):=⟨rfl,rfl,rfl,by decide +kernel,rfl,by decide +kernel,by decide +kernel⟩
theorem wY:zx ["many","most"] ["many","most"] (zi xD):=⟨rfl,rfl,rfl,by decide +kernel,rfl,by decide +kernel,by decide +kernel⟩
theorem Xf:zx ["thing"] ["thing"] (zi xM):=⟨rfl,rfl,rfl,by decide +kernel,rfl,by decide +kernel,by decide +kernel⟩
theorem zcd:zx ["many","thing"] ["many","thing"] (zi Zl):=⟨rfl,rfl,rfl,by decide +kernel,rfl,by decide +kernel,by decide +kernel⟩
theorem VX:zx ["many","thing"] ["many","thing"] (zi vY):=⟨rfl,rfl,rfl,by decide +kernel,rfl,by decide +kernel,by decide +kernel⟩
theorem zep:zx ["many","thing"] ["many","thing"] (zi Xc):=⟨rfl,rfl,rfl,by decide +kernel,rfl,by decide +kernel,by decide +kernel⟩
theorem Y8:zx ["many","thing","at","tie"] ["many","thing"] (zi Zd):=⟨rfl,rfl,rfl,by decide +kernel,rfl,by decide +kernel,by decide +kernel⟩
theorem zg5:zx ["thing"] ["thing"] (zi WK):=⟨rfl,rfl,rfl,by decide +kernel,rfl,by decide +kernel,by decide +kernel⟩
theorem WW:zx ["thing"] ["thing"] (zi vo):=⟨rfl,rfl,rfl,by decide +kernel,rfl,by decide +kernel,by decide +kernel⟩
theorem W5:zx ["one","other"] ["one","other"] (zi vv):=⟨rfl,rfl,rfl,by decide +kernel,rfl,by decide +kernel,by decide +kernel⟩
theorem V0:zx ["web","place"] ["web","place"] (zi vQ):=⟨rfl,rfl,rfl,by decide +kernel,rfl,by decide +kernel,by decide +kernel⟩
theorem VY:zx ["web","thing"] ["web","thing"] (zi v9):=⟨rfl,rfl,rfl,by decide +kernel,rfl,by decide +kernel,by decide +kernel⟩
theorem WH:zx ["web","thing"] ["web","thing"] (zi wD):=⟨rfl,rfl,rfl,by decide +kernel,rfl,by decide +kernel,by decide +kernel⟩
theorem Yk:zx ["web","found","place"] ["web"] (zi YF):=⟨rfl,rfl,rfl,by decide +kernel,rfl,by decide +kernel,by decide +kernel⟩
theorem Vh:zx ["heap","step","stones"] ["heap","step"] (zi Xi):=⟨rfl,rfl,rfl,by decide +kernel,rfl,by decide +kernel,by decide +kernel⟩
theorem zE:zx ["web","heap","steps","found","rim","further","now","step","then"] ["web","heap"] (zi wP):=⟨rfl,rfl,rfl,by decide +kernel,rfl,by decide +kernel,by decide +kernel⟩
theorem Vi:zx ["web","heap","found"] ["web","heap"] (zi Xq):=⟨rfl,rfl,rfl,by decide +kernel,rfl,by decide +kernel,by decide +kernel⟩
theorem za5:zx ["web","heap"] ["web","heap"] (zi YD):=⟨rfl,rfl,rfl,by decide +kernel,rfl,by decide +kernel,by decide +kernel⟩
theorem Ze:zx ["many","stones","found","first"] ["many","stones"] (zi Zi):=⟨rfl,rfl,rfl,by decide +kernel,rfl,by decide +kernel,by decide +kernel⟩
theorem yS:zx ["web","stones","heap"] ["web"] (zi wM):=⟨rfl,rfl,rfl,by decide +kernel,rfl,by decide +kernel,by decide +kernel⟩
theorem Y7:zx ["web"] ["web"] (zi vp):=⟨rfl,rfl,rfl,by decide +kernel,rfl,by decide +kernel,by decide +kernel⟩
theorem Wv:zx ["script","k"] ["script","k"] (zi wH):=⟨rfl,rfl,rfl,by decide +kernel,rfl,by decide +kernel,by decide +kernel⟩
theorem YJ:zx ["found","due","one","other"] ["found","due"] (zi YA):=⟨rfl,rfl,rfl,by decide +kernel,rfl,by decide +kernel,by decide +kernel⟩
theorem vb:zx ["cell","k","number"] ["cell","k"] (zi Ym):=⟨rfl,rfl,rfl,by decide +kernel,rfl,by decide +kernel,by decide +kernel⟩
theorem zJ:zx ["cell","most","joined","many","left","ties","b","inner","a","drawn"] ["cell","most","joined"] (zi vg):=⟨rfl,rfl,rfl,by decide +kernel,rfl,by decide +kernel,by decide +kernel⟩
theorem yd:zx ["web","heap","found","todo","here","a","b","other"] ["web","heap"] (zi vc):=⟨rfl,rfl,rfl,by decide +kernel,rfl,by decide +kernel,by decide +kernel⟩
theorem xA:zx ["e","found"] ["e"] (zi Yc):=⟨rfl,rfl,rfl,by decide +kernel,rfl,by decide +kernel,by decide +kernel⟩
theorem Yq:zx ["web","heap","rows"] ["web","heap"] (zi wz):=⟨rfl,rfl,rfl,by decide +kernel,rfl,by decide +kernel,by decide +kernel⟩
theorem zI:zx ["many","stones","found","k","longer","row"] ["many","stones"] (zi xP):=⟨rfl,rfl,rfl,by decide +kernel,rfl,by decide +kernel,by decide +kernel⟩
theorem v0:zx ["web","stones","heap"] ["web"] (zi vV):=⟨rfl,rfl,rfl,by decide +kernel,rfl,by decide +kernel,by decide +kernel⟩
theorem Xu:zx ["way","web","e"] ["way","web"] (zi YK):=⟨rfl,rfl,rfl,by decide +kernel,rfl,by decide +kernel,by decide +kernel⟩
theorem Vl:zx ["script","cell","web","due","many","way"] ["script"] (zi zgV):=⟨rfl,rfl,rfl,by decide +kernel,rfl,by decide +kernel,by decide +kernel⟩
abbrev xS:Stmt:=zml (top 14) 0
theorem zbO:zx ["self","many","most"] ["self","many","most"] (zi xS):=⟨rfl,rfl,rfl,by decide +kernel,rfl,by decide +kernel,by decide +kernel⟩
structure Adr where
 f_is_whole:Addr
 e_is_whole:FuncData
 f_is_whole_within:Addr
 e_is_whole_within:FuncData
 f_must_be_at_most:Addr
 e_must_be_at_most:FuncData
 f_is_place_count:Addr
 e_is_place_count:FuncData
 f_is_place:Addr
 e_is_place:FuncData
 f_are_counts:Addr
 e_are_counts:FuncData
 f_is_pair:Addr
 e_is_pair:FuncData
 f_are_ties:Addr
 e_are_ties:FuncData
 f_is_web:Addr
 e_is_web:FuncData
 f_must_be_web:Addr
 e_must_be_web:FuncData
 f_tie_between:Addr
 e_tie_between:FuncData
 f_neighbours:Addr
 e_neighbours:FuncData
 f_are_stones:Addr
 e_are_stones:FuncData
 f_must_be_heap:Addr
 e_must_be_heap:FuncData
 f_all_steps:Addr
 e_all_steps:FuncData
 f_stepped:Addr
 e_stepped:FuncData
 f_heaps_behind:Addr
 e_heaps_behind:FuncData
 f_reached:Addr
 e_reached:FuncData
 f_is_spread:Addr
 e_is_spread:FuncData
 f_heaps_of:Addr
 e_heaps_of:FuncData
 f_first_spread:Addr
 e_first_spread:FuncData
 f_spread_need:Addr
 e_spread_need:FuncData
 f__law_cell_at:Addr
 e__law_cell_at:FuncData
 f__law_same:Addr
 e__law_same:FuncData
 f__law_stir:Addr
 e__law_stir:FuncData
 f__law_web_by:Addr
 e__law_web_by:FuncData
 f__law_behind:Addr
 e__law_behind:FuncData
 f__law_kinds:Addr
 e__law_kinds:FuncData
 f__law_spreads:Addr
 e__law_spreads:FuncData
 f__law_all_heaps:Addr
 e__law_all_heaps:FuncData
 f__law_first:Addr
 e__law_first:FuncData
 f__law_came:Addr
 e__law_came:FuncData
 f_law:Addr
 e_law:FuncData
 t_MOST_PLACES:Tok
 t_MOST_STONES:Tok
 t_MOST_SEARCHED:Tok
 t_MOST_SPREAD:Tok
 x_NoKind:Addr
 x_NoHeap:Addr
 x_NoPlace:Addr
 x_NoNumber:Addr
 x_NoTally:Addr
 x_NotTree:Addr
 x_NotJoined:Addr
 x_NoWeights:Addr
 x_NoRow:Addr
 x_NoWeb:Addr
 x_NoSteps:Addr
 x_NoText:Addr
 x_TooGreat:Addr
 x_StoneError:Addr
 i_TooGreat:Addr
 j_TooGreat:FuncData
def znc (ad:Adr):List Addr:=[ad.x_NoKind,ad.x_NoHeap,ad.x_NoPlace,ad.x_NoNumber,ad.x_NoTally,ad.x_NotTree,ad.x_NotJoined,ad.x_NoWeights,ad.x_NoRow,ad.x_NoWeb,ad.x_NoSteps,ad.x_NoText,ad.x_TooGreat]
def clT (ad:Adr)(j:Nat):Addr:=(znc ad).getD (j % 16) 0
theorem zlq (ad:Adr)(j:Nat):clT ad j=clT ad (j % 16):=by unfold clT;rw[Nat.mod_mod]
structure Txt (K:W.Frag) (mg:Str->Option Value) (ad:Adr):Prop where
 d_is_whole:Def K mg "is_whole" Zm ["thing"] ad.f_is_whole ad.e_is_whole
 d_is_whole_within:Def K mg "is_whole_within" xE ["thing","least","most"] ad.f_is_whole_within ad.e_is_whole_within
 d_must_be_at_most:Def K mg "must_be_at_most" xD ["many","most"] ad.f_must_be_at_most ad.e_must_be_at_most
 d_is_place_count:Def K mg "is_place_count" xM ["thing"] ad.f_is_place_count ad.e_is_place_count
 d_is_place:Def K mg "is_place" Zl ["many","thing"] ad.f_is_place ad.e_is_place
 d_are_counts:Def K mg "are_counts" vY ["many","thing"] ad.f_are_counts ad.e_are_counts
 d_is_pair:Def K mg "is_pair" Xc ["many","thing"] ad.f_is_pair ad.e_is_pair
 d_are_ties:Def K mg "are_ties" Zd ["many","thing"] ad.f_are_ties ad.e_are_ties
 d_is_web:Def K mg "is_web" WK ["thing"] ad.f_is_web ad.e_is_web
 d_must_be_web:Def K mg "must_be_web" vo ["thing"] ad.f_must_be_web ad.e_must_be_web
 d_tie_between:Def K mg "tie_between" vv ["one","other"] ad.f_tie_between ad.e_tie_between
 d_neighbours:Def K mg "neighbours" vQ ["web","place"] ad.f_neighbours ad.e_neighbours
 d_are_stones:Def K mg "are_stones" v9 ["web","thing"] ad.f_are_stones ad.e_are_stones
 d_must_be_heap:Def K mg "must_be_heap" wD ["web","thing"] ad.f_must_be_heap ad.e_must_be_heap
 d_all_steps:Def K mg "all_steps" YF ["web"] ad.f_all_steps ad.e_all_steps
 d_stepped:Def K mg "stepped" Xi ["heap","step"] ad.f_stepped ad.e_stepped
 d_heaps_behind:Def K mg "heaps_behind" wP ["web","heap"] ad.f_heaps_behind ad.e_heaps_behind
 d_reached:Def K mg "reached" Xq ["web","heap"] ad.f_reached ad.e_reached
 d_is_spread:Def K mg "is_spread" YD ["web","heap"] ad.f_is_spread ad.e_is_spread
 d_heaps_of:Def K mg "heaps_of" Zi ["many","stones"] ad.f_heaps_of ad.e_heaps_of
 d_first_spread:Def K mg "first_spread" wM ["web"] ad.f_first_spread ad.e_first_spread
 d_spread_need:Def K mg "spread_need" vp ["web"] ad.f_spread_need ad.e_spread_need
 d__law_cell_at:Def K mg "_law_cell_at" wH ["script","k"] ad.f__law_cell_at ad.e__law_cell_at
 d__law_same:Def K mg "_law_same" YA ["found","due"] ad.f__law_same ad.e__law_same
 d__law_stir:Def K mg "_law_stir" Ym ["cell","k"] ad.f__law_stir ad.e__law_stir
 d__law_web_by:Def K mg "_law_web_by" vg ["cell","most","joined"] ad.f__law_web_by ad.e__law_web_by
 d__law_behind:Def K mg "_law_behind" vc ["web","heap"] ad.f__law_behind ad.e__law_behind
 d__law_kinds:Def K mg "_law_kinds" Yc ["e"] ad.f__law_kinds ad.e__law_kinds
 d__law_spreads:Def K mg "_law_spreads" wz ["web","heap"] ad.f__law_spreads ad.e__law_spreads
 d__law_all_heaps:Def K mg "_law_all_heaps" xP ["many","stones"] ad.f__law_all_heaps ad.e__law_all_heaps
 d__law_first:Def K mg "_law_first" vV ["web"] ad.f__law_first ad.e__law_first
 d__law_came:Def K mg "_law_came" YK ["way","web"] ad.f__law_came ad.e__law_came
 d_law:Def K mg "law" zgV ["script"] ad.f_law ad.e_law
 g_MOST_PLACES:mg "MOST_PLACES"=some (Value.int 8 ad.t_MOST_PLACES)
 g_MOST_STONES:mg "MOST_STONES"=some (Value.int 300 ad.t_MOST_STONES)
 g_MOST_SEARCHED:mg "MOST_SEARCHED"=some (Value.int 12 ad.t_MOST_SEARCHED)
 g_MOST_SPREAD:mg "MOST_SPREAD"=some (Value.int 6 ad.t_MOST_SPREAD)
 z_ValueError:mg "ValueError"=none
 z_all:mg "all"=none
 z_any:mg "any"=none
 z_bool:mg "bool"=none
 z_enumerate:mg "enumerate"=none
 z_int:mg "int"=none
 z_isinstance:mg "isinstance"=none
 z_len:mg "len"=none
 z_list:mg "list"=none
 z_max:mg "max"=none
 z_min:mg "min"=none
 z_range:mg "range"=none
 z_sorted:mg "sorted"=none
 z_str:mg "str"=none
 z_sum:mg "sum"=none
 z_tuple:mg "tuple"=none
 z_zip:mg "zip"=none
 g_NoKind:mg "NoKind"=some (Value.ref ad.x_NoKind)
 g_NoHeap:mg "NoHeap"=some (Value.ref ad.x_NoHeap)
 g_NoPlace:mg "NoPlace"=some (Value.ref ad.x_NoPlace)
 g_NoNumber:mg "NoNumber"=some (Value.ref ad.x_NoNumber)
 g_NoTally:mg "NoTally"=some (Value.ref ad.x_NoTally)
 g_NotTree:mg "NotTree"=some (Value.ref ad.x_NotTree)
 g_NotJoined:mg "NotJoined"=some (Value.ref ad.x_NotJoined)
 g_NoWeights:mg "NoWeights"=some (Value.ref ad.x_NoWeights)
 g_NoRow:mg "NoRow"=some (Value.ref ad.x_NoRow)
 g_NoWeb:mg "NoWeb"=some (Value.ref ad.x_NoWeb)
 g_NoSteps:mg "NoSteps"=some (Value.ref ad.x_NoSteps)
 g_NoText:mg "NoText"=some (Value.ref ad.x_NoText)
 g_TooGreat:mg "TooGreat"=some (Value.ref ad.x_TooGreat)
 g_StoneError:mg "StoneError"=some (Value.ref ad.x_StoneError)
 y_TooGreat:zdf K (znc ad) ad.x_StoneError ad.x_TooGreat 12=true
 fi_TooGreat:Fun K "__init__" "TooGreat.__init__" xS ad.i_TooGreat ad.j_TooGreat
 bi_TooGreat:XM K ad.j_TooGreat ["self","many","most"] []
 ei_TooGreat:zlK K ad.x_TooGreat ad.i_TooGreat=true
 ea_TooGreat:zbM K ad.x_TooGreat=true
 na_TooGreat:znT K ad.x_TooGreat ["many","most"]=true
theorem znP:(["part","many","thing"]:List Str).Nodup:=by decide +kernel
theorem znN:(["other","web","place"]:List Str).Nodup:=by decide +kernel
theorem znm:(["other","web","found","place"]:List Str).Nodup:=by decide +kernel
theorem zn9:(["step","web","heap","steps","found","rim","further","now","·step","then"]:List Str).Nodup:=by decide +kernel
theorem zn7:(["place","web","heap","found"]:List Str).Nodup:=by decide +kernel
theorem znB:(["other","place","web","heap","found"]:List Str).Nodup:=by decide +kernel
theorem zoa:(["rest","many","stones","found","first"]:List Str).Nodup:=by decide +kernel
theorem zll:(["a","b","web","heap","found","todo","here","·a","·b","other"]:List Str).Nodup:=by decide +kernel
theorem znt:(["place","web","heap","rows"]:List Str).Nodup:=by decide +kernel
theorem znn:(["row","place","web","heap","rows"]:List Str).Nodup:=by decide +kernel
theorem zmK:(["row","many","stones","found","k","longer","·row"]:List Str).Nodup:=by decide +kernel
theorem zmE:(["here","many","stones","found","k","longer","row"]:List Str).Nodup:=by decide +kernel
def ZN:D->Bool
 | .int _=>true
 | _=>false
def yN (d:D)(lo hi:Int):Bool:=match d with
 | .int i=>decide (lo<=i)&&decide (i<=hi)
 | _=>false
section
variable {P:Program}{w:World}{K:W.Frag}{mg:Str->Option Value}{base:Heap}{ad:Adr}
def zY:List D->Option D
 | [d]=>if noS d=true then some (.bl (ZN d))else none
 | _=>none
def Xm:SE->Ctl :=
 (yJ (Yg (eUn (yz .int) (zd 0)) (Wu (eUn (yz .bool) (zd 0)))))
def zdK:List D->Option D:=fnD 1 Xm
theorem zk0 {α:Type}{ds:List α}(h:ds.length=1):∃ a,ds=[a]:=by match ds,h with | [a],_=>exact⟨a,rfl⟩
theorem zgb {α:Type}{ds:List α}(h:ds.length=2):∃ a b,ds=[a,b]:=by match ds,h with | [a,b],_=>exact⟨a,b,rfl⟩
theorem len3 {α:Type}{ds:List α}(h:ds.length=3):∃ a b c,ds=[a,b,c]:=by match ds,h with | [a,b,c],_=>exact⟨a,b,c,rfl⟩
theorem ifS {c:Bool}{x y:D}(h:(if c=true then some x else none)=some y):c=true/\x=y:=by
 split at h
 .cases h
  exact⟨by assumption,rfl⟩
 .cases h
theorem zcE:∀ ds d,ds.length=1->zY ds=some d->zdK ds=some d:=by
 intro ds d hl h
 obtain⟨a,rfl⟩:=zk0 hl
 obtain⟨hn,rfl⟩:=ifS h
 cases a <;> first | rfl | cases hn
theorem WR (T:Txt K mg ad):y6 P w K mg base CX0 1 ad.f_is_whole ad.e_is_whole ["thing"] (@spD ⟨K⟩ 1 zY):=by
 letI:KK:=⟨K⟩
 refine wB (xl (N:=["thing"]) (ps:=["thing"]) T.d_is_whole.fn zcs (g:=Xm) λcdv A outer s H E hr=>?_) zcE
 unfold Xm
 exact(zf (zB (Yx (zL .int rfl T.z_isinstance (edv 0) (yD (v:=.ty "int") rfl T.z_int zfi rfl)) (ZY (zi1 (zL .bool rfl T.z_isinstance (edv 0) (yD (v:=.ty "bool") rfl T.z_bool VG rfl)))))))
def yi:SE->Ctl :=
 (yJ (Yg (zt 1 zY (zb (zd 0) zw)) (yK leD leD (zd 1) (zd 0) (zd 2))))
def vA:List D->Option D:=fnD 3 yi
def zD:List D->Option D
 | [d,.int lo,.int hi]=>if noS d=true then some (.bl (yN d lo hi))else none
 | _=>none
theorem zad {a:D}{lo hi:Int}(hn:noS a=true)(hw:ZN a=false):vA [a,.int lo,.int hi]=some (.bl false):=by
 have e:zY [a]=some (.bl false):=by
  show(if noS a=true then some (D.bl (ZN a))else none)=_
  rw[t9 hn,hw]
 refine Vt (ρ:=[.v a,.v (.int lo),.v (.int hi)]) rfl ?_
 unfold yi
 refine ZK (vm ?_) rfl
 show(((zY [a]).bind asB).bind λc=>if c=true then _ else some (D.bl false))=_
 rw[e]
 rfl
theorem ZL:∀ ds d,ds.length=3->zD ds=some d->vA ds=some d:=by
 intro ds d hl h
 obtain⟨a,b,c,rfl⟩:=len3 hl
 cases b <;> try cases h
 cases c <;> try cases h
 rename_i lo hi
 obtain⟨hn,rfl⟩:=ifS h
 cases a with
 | scr _=>cases hn
 | int i =>
  refine Vt (ρ:=[.v (.int i),.v (.int lo),.v (.int hi)]) rfl ?_
  unfold yi
  refine ZK (vm ?_) rfl
  show(if decide (lo<=i)=true then some (D.bl (decide (i<=hi)))else some (.bl false))=some (.bl (decide (lo<=i)&&decide (i<=hi)))
  cases decide (lo<=i) <;> rfl
 | tup es=>exact zad hn rfl
 | lst es=>exact zad hn rfl
 | dct z t ks vs=>exact zad hn rfl
 | non=>rfl
 | bl _=>rfl
 | str _=>rfl
theorem wX (T:Txt K mg ad):y6 P w K mg base CX0 2 ad.f_is_whole_within ad.e_is_whole_within ["thing","least","most"] (@spD ⟨K⟩ 3 zD):=by
 letI:KK:=⟨K⟩
 have G_is_whole:=WR (P:=P) (w:=w) (base:=base) T
 refine wB (xl (N:=["thing","least","most"]) (ps:=["thing","least","most"]) T.d_is_whole_within.fn Z0 (g:=yi) λcdv A outer s H E hr=>?_) ZL
 unfold yi
 exact(zf (zB (Yx (zo G_is_whole hr rfl T.d_is_whole (za (edv 0) zc)) (ZY (ziF zg6 zg6 yH yH (edv 1) (edv 0) (edv 2) (λa b c=>zhG zg6 zg6 a b c))))))
def xi:SE->Ctl :=
 (yJ (zt 3 zD (zb (zd 0) (zb (eC (.int 1)) (zb (eC (.int 8)) zw)))))
def wa:List D->Option D:=fnD 1 xi
def yA:List D->Option D
 | [d]=>if noS d=true then some (.bl (yN d 1 8))else none
 | _=>none
theorem Xa:∀ ds d,ds.length=1->yA ds=some d->wa ds=some d:=by
 intro ds d hl h
 obtain⟨a,rfl⟩:=zk0 hl
 have e:wa [a]=zD [a,.int 1,.int 8]:=by
  cases h2:zD [a,.int 1,.int 8] <;> simp[wa,xi,fnD,zW,yJ,vx,sIf,wu,Y4,sNo,zR,Vk,ZC,ZD,X5,ZZ,vEv,visF,visG,Sl.f,Sl.g,zd,eC,zr,Yg,eOr,Wu,eIf,eUn,Vq,vy,wx,yO,zb,zw,zt,eFn,fFn,tOf,wE,Zp,yW,asB,asI,zQ,Yn,vO,yL,wF,XC,x9,ltD,leD,gtD,geD,XN,zK,yo,zO,yj,X2,ym,ixD,YC,yz,isT,eSl,vF,x6,yK,yE,iOf,YV,yZ,Z5,wL,ZH,yY,wS,fLC,yr,zX,wn,yt,XH,xQ,XR,b1,b2,h2]
 rw[e]
 exact h
theorem Xn (T:Txt K mg ad):y6 P w K mg base CX0 3 ad.f_is_place_count ad.e_is_place_count ["thing"] (@spD ⟨K⟩ 1 yA):=by
 letI:KK:=⟨K⟩
 have G_is_whole_within:=wX (P:=P) (w:=w) (base:=base) T
 refine wB (xl (N:=["thing"]) (ps:=["thing"]) T.d_is_place_count.fn Xf (g:=xi) λcdv A outer s H E hr=>?_) Xa
 unfold xi
 exact(zf (zB (zo G_is_whole_within hr rfl T.d_is_whole_within (za (edv 0) (za (zg zj) (za (zg (yF (v:=.int 8) rfl T.g_MOST_PLACES ⟨_,rfl⟩)) zc))))))
def YS:SE->Ctl :=
 (yJ (zt 3 zD (zb (zd 1) (zb (eC (.int 0)) (zb (zr Yn (zd 0) (eC (.int 1))) zw)))))
def Xl:List D->Option D:=fnD 2 YS
def xp:List D->Option D
 | [.int m,d]=>if noS d=true then some (.bl (yN d 0 (m - 1)))else none
 | _=>none
theorem zcg:∀ ds d,ds.length=2->xp ds=some d->Xl ds=some d:=by
 intro ds d hl h
 obtain⟨a,b,rfl⟩:=zgb hl
 cases a <;> try cases h
 rename_i m
 have e:Xl [.int m,b]=zD [b,.int 0,.int (m - 1)]:=by
  cases h2:zD [b,.int 0,.int (m - 1)] <;> simp[Xl,YS,fnD,zW,yJ,vx,sIf,wu,Y4,sNo,zR,Vk,ZC,ZD,X5,ZZ,vEv,visF,visG,Sl.f,Sl.g,zd,eC,zr,Yg,eOr,Wu,eIf,eUn,Vq,vy,wx,yO,zb,zw,zt,eFn,fFn,tOf,wE,Zp,yW,asB,asI,zQ,Yn,vO,yL,wF,XC,x9,ltD,leD,gtD,geD,XN,zK,yo,zO,yj,X2,ym,ixD,YC,yz,isT,eSl,vF,x6,yK,yE,iOf,YV,yZ,Z5,wL,ZH,yY,wS,fLC,yr,zX,wn,yt,XH,xQ,XR,b1,b2,h2]
 rw[e]
 exact h
theorem zcq (T:Txt K mg ad):y6 P w K mg base CX0 3 ad.f_is_place ad.e_is_place ["many","thing"] (@spD ⟨K⟩ 2 xp):=by
 letI:KK:=⟨K⟩
 have G_is_whole_within:=wX (P:=P) (w:=w) (base:=base) T
 refine wB (xl (N:=["many","thing"]) (ps:=["many","thing"]) T.d_is_place.fn zcd (g:=YS) λcdv A outer s H E hr=>?_) zcg
 unfold YS
 exact(zf (zB (zo G_is_whole_within hr rfl T.d_is_whole_within (za (edv 1) (za (zg zj) (za (Xz (edv 0) (zg zj)) zc))))))
theorem zkg {d:D}{lo hi:Int}(h:∀ i,d≠.int i):yN d lo hi=false:=by
 cases d <;> first | rfl | exact absurd rfl (h _)
theorem zaZ {d:D}{lo hi:Int}(h:yN d lo hi=true):∃ i,d=.int i:=by
 cases d with
 | int i=>exact⟨i,rfl⟩
 | _=>cases h
def ZO:SE->Ctl :=
 (zW (sIf (Zp (yW (tOf (eUn (yz .tuple) (zd 1)))) (tOf (zr neD (eFn YC (zb (zd 1) zw)) (eC (.int 2))))) (yJ (eC (.bl false))) zR)
  (yJ (Yg (zt 2 xp (zb (zd 0) (zb (zr ixD (zd 1) (eC (.int 0))) zw))) (Yg (zt 2 xp (zb (zd 0) (zb (zr ixD (zd 1) (eC (.int 1))) zw))) (zr neD (zr ixD (zd 1) (eC (.int 0))) (zr ixD (zd 1) (eC (.int 1))))))))
def zfz:List D->Option D:=fnD 2 ZO
def wG:List D->Option D
 | [.int m,d]=>if noS d=true then some (.bl (x8 m d))else none
 | _=>none
theorem zin {m:Int}{x y:D}(h:yN x 0 (m - 1)=false):x8 m (.tup [x,y])=false:=by
 cases x with
 | int i =>
  cases y with
  | int j =>
   show(inR m i&&inR m j&&!decide (i=j))=false
   rw[show inR m i=false from h]
   rfl
  | _=>rfl
 | _=>rfl
theorem ziz {m:Int}{x y:D}(h:yN y 0 (m - 1)=false):x8 m (.tup [x,y])=false:=by
 cases x with
 | int i =>
  cases y with
  | int j =>
   show(inR m i&&inR m j&&!decide (i=j))=false
   rw[show inR m j=false from h,u1H]
   rfl
  | _=>rfl
 | _=>rfl
theorem zed:∀ ds d,ds.length=2->wG ds=some d->zfz ds=some d:=by
 intro ds d hl h
 obtain⟨a,b,rfl⟩:=zgb hl
 cases a <;> try cases h
 rename_i m
 obtain⟨hn,rfl⟩:=ifS h
 clear h
 cases b with
 | tup es =>
  refine Vt (ρ:=[.v (.int m),.v (.tup es)]) rfl ?_
  unfold ZO
  by_cases hl:es.length=2
  .obtain⟨x,y,rfl⟩:=zgb hl
   have hx:noS x=true:=vS (ds:=[x,y]) (i:=0) hn rfl
   have hy:noS y=true:=vS (ds:=[x,y]) (i:=1) hn rfl
   have e0:xp [.int m,x]=some (.bl (yN x 0 (m - 1))):=by
    show(if noS x=true then some (D.bl (yN x 0 (m - 1)))else none)=_
    rw[t9 hx]
   have e1:xp [.int m,y]=some (.bl (yN y 0 (m - 1))):=by
    show(if noS y=true then some (D.bl (yN y 0 (m - 1)))else none)=_
    rw[t9 hy]
   refine zA (ρ':=[.v (.int m),.v (.tup [x,y])]) rfl (ZK (vm ?_) rfl)
   show(((xp [.int m,x]).bind asB).bind λc=>if c=true then (((xp [.int m,y]).bind asB).bind λc=>if c=true then neD x y else some (D.bl false))else some (D.bl false))=_
   rw[e0,e1]
   cases h1:yN x 0 (m - 1) with
   | false=>rw[zin h1];rfl
   | true =>
    cases h2:yN y 0 (m - 1) with
    | false=>rw[ziz h2];rfl
    | true =>
     obtain⟨i,rfl⟩:=zaZ h1
     obtain⟨j,rfl⟩:=zaZ h2
     show some (D.bl (!decide (i=j)))=some (.bl (inR m i&&inR m j&&!decide (i=j)))
     rw[show inR m i=true from h1,show inR m j=true from h2]
     rfl
  .have e:x8 m (.tup es)=false:=by
    unfold x8 YZ
    split
    .rename_i t ht
     split at ht
     .rename_i e'
      injection e' with e'
      rw[e']at hl
      exact absurd rfl hl
     .cases ht
    .rfl
   rw[e]
   refine xK (W1 (c:=true) ?_ (λ_=>ZK rfl rfl) λz=>by cases z)
   show some (!decide ((es.length:Int)=2))=_
   rw[h9 (show ¬ (es.length:Int)=2 from λh=>hl (Int.ofNat.inj h))]
   rfl
 | scr _=>cases hn
 | _=>rfl
theorem zd7 (T:Txt K mg ad):y6 P w K mg base CX0 4 ad.f_is_pair ad.e_is_pair ["many","thing"] (@spD ⟨K⟩ 2 wG):=by
 letI:KK:=⟨K⟩
 have G_is_place:=zcq (P:=P) (w:=w) (base:=base) T
 refine wB (xl (N:=["many","thing"]) (ps:=["many","thing"]) T.d_is_pair.fn zep (g:=ZO) λcdv A outer s H E hr=>?_) zed
 unfold ZO
 exact(ze (xL (zic (zb4 (Yp (xv (zL .tuple rfl T.z_isinstance (edv 1) (yD (v:=.ty "tuple") rfl T.z_tuple xc rfl)))) (WO (yg zbJ WC (zG _) (zP yb Yb rfl T.z_len Zs (za (edv 1) zc)) (zg zj))))) (zf (zB (YB vT))) zH)
  (zf (zB (Yx (zo G_is_place hr rfl T.d_is_place (za (edv 0) (za (yC (edv 1) (zg zj) (λ_ _=>rfl)) zc))) (Yx (zo G_is_place hr rfl T.d_is_place (za (edv 0) (za (yC (edv 1) (zg zj) (λ_ _=>rfl)) zc))) (ZY (YE zbJ WC (zG _) (yC (edv 1) (zg zj) (λ_ _=>rfl)) (yC (edv 1) (zg zj) (λ_ _=>rfl)))))))))
def zaX (ds:List D):Nat->Option Tie
 | 0=>none
 | k+1=>(ds[k]?).bind YZ
def Yj:SE->Ctl :=
 (zW (sIf (Zp (yW (tOf (zt 2 wG (zb (zd 0) (zb (zd 3) zw))))) (tOf (zr gtD (zr ixD (zd 3) (eC (.int 0))) (zr ixD (zd 3) (eC (.int 1)))))) (yJ (eC (.bl false))) zR)
  (sIf (wE (tOf (zr gtD (zd 2) (eC (.int 0)))) (tOf (zr leT (zd 3) (zr ixD (zd 1) (zr Yn (zd 2) (eC (.int 1))))))) (yJ (eC (.bl false))) zR))
def vJ:SE->Ctl :=
 (zW (sIf (yW (tOf (eUn (yz .tuple) (zd 1)))) (yJ (eC (.bl false))) zR)
  (zW (YV (yY (zb (zd 1) zw)) (XH 2 (xQ (yt 2) (xQ (yt 3) XR))) Yj)
  (yJ (eC (.bl true)))))
def zdM:List D->Option D:=fnD 4 vJ
def vN:List D->Option D
 | [.int m,d]=>if noS d=true then some (.bl (YT m d))else none
 | _=>none
theorem W0 {m:Int}{d:D}(h:x8 m d=true):∃ t,d=zq t:=by
 unfold x8 at h
 split at h
 .rename_i t ht
  exact⟨t,Ws ht⟩
 .cases h
theorem zch:∀ ds d,ds.length=2->vN ds=some d->zdM ds=some d:=by
 intro ds d hl h
 obtain⟨a,b,rfl⟩:=zgb hl
 cases a <;> try cases h
 rename_i m
 obtain⟨hn,rfl⟩:=ifS h
 clear h hl
 cases b with
 | scr _=>cases hn
 | tup es =>
  refine Vt (g:=vJ) rfl ?_
  unfold vJ
  refine zA rfl ?_
  refine xK (WY (ds:=VW 0 es) (λi ρ=>∃ o1 o2,ρ=[.v (.int m),.v (.tup es),o1,o2]/\yy m none es=yy m (zaX es i) (es.drop i)/\∀ k,i=k+1->∃ p,es[k]?=some (zq p)) rfl
   ⟨.no,.no,rfl,rfl,λk e=>by cases e⟩ ?_ ?_)
  .rintro i d ρ hd ⟨o1,o2,rfl,hp,hk⟩
   rw[Wb]at hd
   obtain⟨dx,hdx,rfl⟩:=u9.mp hd
   rw[u18]
   refine⟨_,rfl,?_⟩
   have hdrop:es.drop i=dx::es.drop (i+1):=by
    obtain⟨h1,h2⟩:=t7.mp hdx
    rw[u0o h1,h2]
   have hnx:noS dx=true:=vS hn hdx
   unfold Yj
   cases hpr:x8 m dx with
   | false =>
    have e1:wG [.int m,dx]=some (.bl false):=by
     show(if noS dx=true then some (D.bl (x8 m dx))else none)=_
     rw[t9 hnx,hpr]
    refine xK (W1 (c:=true) (show(((wG [.int m,dx]).bind asB).map (!·)).bind (λc=>if c=true then some true else _)=_ by rw[e1];rfl) (λ_=>ZK rfl ?_) (λz=>by cases z))
    have e:yy m none es=false:=by
     rw[hp,hdrop]
     unfold yy
     split
     .rw[hpr];rfl
     .rfl
    show D.bl false=.bl (yy m none es)
    rw[e]
   | true =>
    obtain⟨t,rfl⟩:=W0 hpr
    have e1:wG [.int m,zq t]=some (.bl true):=by
     show(if noS (zq t)=true then some (D.bl (x8 m (zq t)))else none)=_
     rw[t9 hnx,hpr]
    have step:yy m none es=(!decide (t.2 < t.1)&&zaL (zaX es i) t&&yy m (some t) (es.drop (i+1))):=by
     rw[hp,hdrop]
     conv=>lhs;unfold yy
     rw[YH,hpr]
     rfl
    have prevS:zaX es (i+1)=some t:=by
     show(es[i]?).bind YZ=some t
     rw[hdx]
     rfl
    refine xK (W1 (c:=decide (t.2 < t.1)) (show(((wG [.int m,zq t]).bind asB).map (!·)).bind (λc=>if c=true then some true else some (decide (t.2 < t.1)))=_ by rw[e1];rfl) (λc=>ZK rfl ?_) (λc=>ZB rfl ?_))
    .show D.bl false=.bl (yy m none es)
     rw[step,c]
     rfl
    .cases i with
     | zero =>
      refine W1 (c:=false) rfl (λz=>by cases z) (λ_=>ZB rfl ?_)
      refine⟨_,_,rfl,?_,λk e=>?_⟩
      .rw[prevS,step,c]
       rfl
      .cases e
       exact⟨t,hdx⟩
     | succ j =>
      obtain⟨p,hpk⟩:=hk j rfl
      have prevK:zaX es (j+1)=some p:=by
       show(es[j]?).bind YZ=some p
       rw[hpk]
       rfl
      rw[prevK]at step
      have ea:atI es ((((j+1:Nat):Int)) - 1)=some (zq p):=by
       rw[show(((j+1:Nat):Int)) - 1=(j:Nat)from Int.add_sub_cancel (j:Int) 1]
       exact zeA hpk
      have okP:zaL (some p) t=!leP t p:=rfl
      refine W1 (c:=leP t p) ?_ (λc2=>ZK rfl ?_) (λc2=>ZB rfl ?_)
      .have z:decide ((0:Int) < ((j+1:Nat):Int))=true:=b6 (Int.natCast_pos.mpr (Nat.succ_pos j))
       show((some (decide ((0:Int) < ((j+1:Nat):Int)))).bind λc=>if c=true then (((atI es (((j+1:Nat):Int) - 1)).bind λy=>leT (zq t) y).bind asB)else some false)=_
       rw[z,ea]
       rfl
      .show D.bl false=.bl (yy m none es)
       rw[step,okP,c2,c]
       rfl
      .refine⟨_,_,rfl,?_,λk' e=>?_⟩
       .rw[prevS,step,okP,c2,c]
        rfl
       .cases e
        exact⟨t,hdx⟩
  .rintro ρ ⟨o1,o2,rfl,hp,hk⟩
   refine ZK rfl ?_
   show D.bl true=.bl (yy m none es)
   rw[hp,Yl,u1D]
   cases zaX es es.length <;> rfl
 | _=>rfl
theorem zcz (T:Txt K mg ad):y6 P w K mg base CX0 5 ad.f_are_ties ad.e_are_ties ["many","thing"] (@spD ⟨K⟩ 2 vN):=by
 letI:KK:=⟨K⟩
 have G_is_pair:=zd7 (P:=P) (w:=w) (base:=base) T
 refine wB (xl (N:=["many","thing","at","tie"]) (ps:=["many","thing"]) T.d_are_ties.fn Y8 (g:=vJ) λcdv A outer s H E hr=>?_) zch
 unfold vJ Yj
 exact(ze (xL (Yp (xv (zL .tuple rfl T.z_isinstance (edv 1) (yD (v:=.ty "tuple") rfl T.z_tuple xc rfl)))) (zf (zB (YB vT))) zH)
  (ze (Zw i9 rfl (zjW rfl T.z_enumerate zbS (za (edv 1) zc)) (zeL rfl (YO (yx (zC (i:=2) Y8.nd rfl (Or.inl rfl))) (YO (yx (zC (i:=3) Y8.nd rfl (Or.inl rfl))) zcj))) (ze (xL (zic (zb4 (Yp (xv (zo G_is_pair hr rfl T.d_is_pair (za (edv 0) (za (edv 3) zc))))) (WO (yg za3 yH (zG _) (yC (edv 3) (zg zj) (λ_ _=>rfl)) (yC (edv 3) (zg zj) (λ_ _=>rfl)))))) (zf (zB (YB vT))) zH)
  (zf (xL (zic (zjf (yg za3 yH (zG _) (edv 2) (zg zj)) (zgf (yg (zlR hr.units0) zka (zG _) (edv 3) (yC (edv 1) (Xz (edv 2) (zg zj)) (λ_ _=>rfl)))))) (zf (zB (YB vT))) zH))))
  (zf (zB (YB vT)))))
def YQ:SE->Ctl :=
 (zW (sIf (Zp (yW (tOf (eUn (yz .tuple) (zd 0)))) (tOf (zr neD (eFn YC (zb (zd 0) zw)) (eC (.int 2))))) (yJ (eC (.bl false))) zR)
  (yJ (Yg (zt 1 yA (zb (zr ixD (zd 0) (eC (.int 0))) zw)) (zt 2 vN (zb (zr ixD (zd 0) (eC (.int 0))) (zb (zr ixD (zd 0) (eC (.int 1))) zw))))))
def X1:List D->Option D:=fnD 1 YQ
def ZR:List D->Option D
 | [d]=>if noS d=true then some (.bl (vM d))else none
 | _=>none
theorem ze8 {x y:D}:vM (.tup [x,y])=(yN x 1 8&&match x with | .int m=>YT m y | _=>false):=by
 cases x <;> rfl
theorem zgF:∀ ds d,ds.length=1->ZR ds=some d->X1 ds=some d:=by
 intro ds d hl h
 obtain⟨a,rfl⟩:=zk0 hl
 obtain⟨hn,rfl⟩:=ifS h
 clear h hl
 cases a with
 | scr _=>cases hn
 | tup es =>
  by_cases hl:es.length=2
  .obtain⟨x,y,rfl⟩:=zgb hl
   have hx:noS x=true:=vS (ds:=[x,y]) (i:=0) hn rfl
   have hy:noS y=true:=vS (ds:=[x,y]) (i:=1) hn rfl
   have ec:yA [x]=some (.bl (yN x 1 8)):=by simp[yA,hx]
   rw[ze8]
   by_cases ix:∃ i,x=.int i
   .obtain⟨i,rfl⟩:=ix
    have et:vN [.int i,y]=some (.bl (YT i y)):=by simp[vN,hy]
    cases hc:yN (.int i) 1 8 <;> rw[hc]at ec <;> simp[X1,YQ,fnD,zW,yJ,vx,sIf,wu,Y4,sNo,zR,Vk,ZC,ZD,X5,ZZ,vEv,visF,visG,Sl.f,Sl.g,zd,eC,zr,Yg,eOr,Wu,eIf,eUn,Vq,vy,wx,yO,zb,zw,zt,eFn,fFn,tOf,wE,Zp,yW,asB,asI,zQ,Yn,vO,yL,wF,XC,x9,ltD,leD,gtD,geD,XN,zK,yo,zO,yj,X2,ym,ixD,YC,yz,isT,eSl,vF,x6,yK,yE,iOf,YV,yZ,Z5,wL,ZH,yY,wS,fLC,yr,zX,wn,yt,XH,xQ,XR,b1,b2,ec,et,atI,ixN]
   .have n2:yN x 1 8=false:=zkg λj hj=>ix ⟨j,hj⟩
    rw[n2]at ec ⊢
    simp[X1,YQ,fnD,zW,yJ,vx,sIf,wu,Y4,sNo,zR,Vk,ZC,ZD,X5,ZZ,vEv,visF,visG,Sl.f,Sl.g,zd,eC,zr,Yg,eOr,Wu,eIf,eUn,Vq,vy,wx,yO,zb,zw,zt,eFn,fFn,tOf,wE,Zp,yW,asB,asI,zQ,Yn,vO,yL,wF,XC,x9,ltD,leD,gtD,geD,XN,zK,yo,zO,yj,X2,ym,ixD,YC,yz,isT,eSl,vF,x6,yK,yE,iOf,YV,yZ,Z5,wL,ZH,yY,wS,fLC,yr,zX,wn,yt,XH,xQ,XR,b1,b2,ec,atI,ixN]
  .have e:vM (.tup es)=false:=zkl λm ties h _=>by
    unfold zM at h
    injection h with h
    rw[h]at hl
    exact hl rfl
   rw[e]
   have:¬ (es.length:Int)=2:=by omega
   simp[X1,YQ,fnD,zW,yJ,vx,sIf,wu,Y4,sNo,zR,Vk,ZC,ZD,X5,ZZ,vEv,visF,visG,Sl.f,Sl.g,zd,eC,zr,Yg,eOr,Wu,eIf,eUn,Vq,vy,wx,yO,zb,zw,zt,eFn,fFn,tOf,wE,Zp,yW,asB,asI,zQ,Yn,vO,yL,wF,XC,x9,ltD,leD,gtD,geD,XN,zK,yo,zO,yj,X2,ym,ixD,YC,yz,isT,eSl,vF,x6,yK,yE,iOf,YV,yZ,Z5,wL,ZH,yY,wS,fLC,yr,zX,wn,yt,XH,xQ,XR,b1,b2,this]
 | _=>rfl
theorem zfn (T:Txt K mg ad):y6 P w K mg base CX0 6 ad.f_is_web ad.e_is_web ["thing"] (@spD ⟨K⟩ 1 ZR):=by
 letI:KK:=⟨K⟩
 have G_is_place_count:=Xn (P:=P) (w:=w) (base:=base) T
 have G_are_ties:=zcz (P:=P) (w:=w) (base:=base) T
 refine wB (xl (N:=["thing"]) (ps:=["thing"]) T.d_is_web.fn zg5 (g:=YQ) λcdv A outer s H E hr=>?_) zgF
 unfold YQ
 exact(ze (xL (zic (zb4 (Yp (xv (zL .tuple rfl T.z_isinstance (edv 0) (yD (v:=.ty "tuple") rfl T.z_tuple xc rfl)))) (WO (yg zbJ WC (zG _) (zP yb Yb rfl T.z_len Zs (za (edv 0) zc)) (zg zj))))) (zf (zB (YB vT))) zH)
  (zf (zB (Yx (zo G_is_place_count hr rfl T.d_is_place_count (za (yC (edv 0) (zg zj) (λ_ _=>rfl)) zc)) (ZY (zo G_are_ties hr rfl T.d_are_ties (za (yC (edv 0) (zg zj) (λ_ _=>rfl)) (za (yC (edv 0) (zg zj) (λ_ _=>rfl)) zc))))))))
theorem zj1 (m:Int)(ts:List Tie):noS (zM m ts)=true:=by
 have:∀ ts:List Tie,zhe (ts.map zq)=true:=by
  intro ts
  induction ts with
  | nil=>rfl
  | cons t ts ih=>show(noS (zq t)&&zhe (ts.map zq))=true;rw[ih];rfl
 show(noS (.int m)&&(noS (.tup (ts.map zq))&&true))=true
 rw[show noS (.tup (ts.map zq))=zhe (ts.map zq)from rfl,this ts]
 rfl
def wo:SE->Ctl :=
 (sIf (yW (tOf (zt 1 ZR (zb (zd 0) zw)))) sNo zR)
def Zz:List D->Option D:=fnD 1 wo
def zS:List D->Option D
 | [d]=>if vM d=true then some .non else none
 | _=>none
theorem W8:∀ ds d,ds.length=1->zS ds=some d->Zz ds=some d:=by
 intro ds d hl h
 obtain⟨a,rfl⟩:=zk0 hl
 obtain⟨hw,rfl⟩:=ifS h
 obtain⟨m,ts,rfl,_⟩:=(xT a).mp hw
 have e:ZR [zM m ts]=some (.bl true):=by simp[ZR,zj1 m ts,hw]
 simp[Zz,wo,fnD,zW,yJ,vx,sIf,wu,Y4,sNo,zR,Vk,ZC,ZD,X5,ZZ,vEv,visF,visG,Sl.f,Sl.g,zd,eC,zr,Yg,eOr,Wu,eIf,eUn,Vq,vy,wx,yO,zb,zw,zt,eFn,fFn,tOf,wE,Zp,yW,asB,asI,zQ,Yn,vO,yL,wF,XC,x9,ltD,leD,gtD,geD,XN,zK,yo,zO,yj,X2,ym,ixD,YC,yz,isT,eSl,vF,x6,yK,yE,iOf,YV,yZ,Z5,wL,ZH,yY,wS,fLC,yr,zX,wn,yt,XH,xQ,XR,b1,b2,e]
theorem ve (T:Txt K mg ad):y6 P w K mg base CX0 7 ad.f_must_be_web ad.e_must_be_web ["thing"] (@spD ⟨K⟩ 1 zS):=by
 letI:KK:=⟨K⟩
 have G_is_web:=zfn (P:=P) (w:=w) (base:=base) T
 refine wB (xl (N:=["thing"]) (ps:=["thing"]) T.d_must_be_web.fn WW (g:=wo) λcdv A outer s H E hr=>?_) W8
 unfold wo
 exact(zf (xL (Yp (xv (zo G_is_web hr rfl T.d_is_web (za (edv 0) zc)))) (zf V3) zH))
def xC:D->Bool
 | .int i=>decide (0<=i)
 | _=>false
def znW:D->Int
 | .int i=>i
 | _=>0
def xG (m:Int):D->Bool
 | .tup ds=>decide ((ds.length:Int)=m)&&ds.all xC
 | _=>false
theorem zhm {α:Type}(f:α->Bool)(l:List α):zmi [.lst (l.map λx=>.bl (f x))]=some (.bl (l.all f)):=by
 have:zhc (l.map λx=>D.bl (f x))=some (l.map f):=by
  have:=zcT (l.map f)
  rwa[u07]at this
 show((zhc (l.map λx=>D.bl (f x))).bind λbs=>some (D.bl (bs.all id)))=_
 rw[this]
 show some (D.bl ((l.map f).all id))=_
 rw[u1A]
 rfl
theorem zcy {ds:List D}(h:ds.all xC=true):∃ ns:List Int,ds=ns.map .int/\∀ n∈ns,0<=n:=by
 induction ds with
 | nil=>exact⟨[],rfl,by simp⟩
 | cons d ds ih =>
  rw[u2F,g9]at h
  obtain⟨ns,rfl,hn⟩:=ih h.2
  cases d with
  | int i=>exact⟨i::ns,rfl,λn hm=>by
   rcases j7.mp hm with rfl | hm
   .exact p0 h.1
   .exact hn n hm⟩
  | _=>exact absurd h.1 u6
theorem zfA {ns:List Int}(h:∀ n∈ns,0<=n):(ns.map D.int).all xC=true:=by
 rw[u1A,u0y]
 exact λn hn=>b6 (h n hn)
theorem zgM (ns:List Int):zeu [.tup (ns.map .int)]=some (.int ns.sum):=by
 show((zcv (ns.map .int)).bind λns=>some (D.int ns.sum))=_
 rw[Zt]
 rfl
def xo:SE->Ctl :=
 (zW (sIf (Zp (yW (tOf (eUn (yz .tuple) (zd 1)))) (tOf (zr neD (eFn YC (zb (zd 1) zw)) (zd 0)))) (yJ (eC (.bl false))) zR)
  (yJ (eFn zmi (zb (wx (fLC (iOf (zd 1)) b1 yr (Yg (zt 1 zY (zb (zd 0) zw)) (zr geD (zd 0) (eC (.int 0)))))) zw))))
def Xs:List D->Option D:=fnD 2 xo
def xZ:List D->Option D
 | [.int m,d]=>if (noS d&&decide (m<=1000))=true then some (.bl (xG m d))else none
 | _=>none
theorem zmA {d:D}(hn:noS d=true):((zY [d]).bind asB).bind (λc=>if c=true then geD d (.int 0)else some (.bl false))=some (.bl (xC d)):=by
 cases d with
 | scr _=>cases hn
 | tup _=>simp[zY,hn,ZN,asB,xC]
 | lst _=>simp[zY,hn,ZN,asB,xC]
 | _=>rfl
theorem Vx:∀ ds d,ds.length=2->xZ ds=some d->Xs ds=some d:=by
 intro ds d hl h
 obtain⟨a,b,rfl⟩:=zgb hl
 cases a <;> try cases h
 rename_i m
 obtain⟨hn,rfl⟩:=ifS h
 clear h hl
 rw[g9,d5]at hn
 obtain⟨hn,hm⟩:=hn
 cases b with
 | scr _=>cases hn
 | tup es =>
  by_cases hl:(es.length:Int)=m
  .have e:fLC (iOf (zd 1)) b1 yr (Yg (zt 1 zY (zb (zd 0) zw)) (zr geD (zd 0) (eC (.int 0)))) [some (.int m),some (.tup es)]=some (es.map λd=>.bl (xC d)):=by
    unfold fLC
    show(if lim es.length=true then _ else none)=_
    rw[t9 (w6 (by omega))]
    have:=Za (b:=b1) (t:=yr) (f:=Yg (zt 1 zY (zb (zd 0) zw)) (zr geD (zd 0) (eC (.int 0)))) (ρ:=[some (.int m),some (.tup es)]) id (λd=>.bl (xC d)) es
     (λd hd=>⟨[some d],rfl,rfl,zmA (by obtain⟨j,hj,rfl⟩:=u00 hd;exact vS (i:=j) hn (by simp[hj]))⟩)
    rwa[List.map_id]at this
   show fnD 2 xo _=_
   refine Vt rfl ?_
   unfold xo
   refine xK (W1 (c:=false) (by simp[fnD,zW,yJ,vx,sIf,wu,Y4,sNo,zR,Vk,ZC,ZD,X5,ZZ,vEv,visF,visG,Sl.f,Sl.g,zd,eC,zr,Yg,eOr,Wu,eIf,eUn,Vq,vy,wx,yO,zb,zw,zt,eFn,fFn,tOf,wE,Zp,yW,asB,asI,zQ,Yn,vO,yL,wF,XC,x9,ltD,leD,gtD,geD,XN,zK,yo,zO,yj,X2,ym,ixD,YC,yz,isT,eSl,vF,x6,yK,yE,iOf,YV,yZ,Z5,wL,ZH,yY,wS,fLC,yr,zX,wn,yt,XH,xQ,XR,b1,b2,hl]) (λz=>by cases z) λ_=>ZB rfl (ZK (d:=.bl (es.all xC)) ?_ ?_))
   .show(match (((fLC (iOf (zd 1)) b1 yr (Yg (zt 1 zY (zb (zd 0) zw)) (zr geD (zd 0) (eC (.int 0)))) [some (.int m),some (.tup es)]).map D.lst).bind λd=>(some []:Option (List D)).map (d::·)).bind zmi with | some d=>Ctl.rt d | none=>Ctl.no)=_
    rw[e]
    show(match zmi [.lst (es.map λd=>.bl (xC d))]with | some d=>Ctl.rt d | none=>Ctl.no)=_
    rw[zhm]
   .show D.bl (es.all xC)=.bl (decide ((es.length:Int)=m)&&es.all xC)
    rw[b6 hl,Bool.true_and]
  .have e:xG m (.tup es)=false:=by
    show(decide ((es.length:Int)=m)&&es.all xC)=false
    rw[h9 hl,Bool.false_and]
   rw[e]
   simp[Xs,xo,fnD,zW,yJ,vx,sIf,wu,Y4,sNo,zR,Vk,ZC,ZD,X5,ZZ,vEv,visF,visG,Sl.f,Sl.g,zd,eC,zr,Yg,eOr,Wu,eIf,eUn,Vq,vy,wx,yO,zb,zw,zt,eFn,fFn,tOf,wE,Zp,yW,asB,asI,zQ,Yn,vO,yL,wF,XC,x9,ltD,leD,gtD,geD,XN,zK,yo,zO,yj,X2,ym,ixD,YC,yz,isT,eSl,vF,x6,yK,yE,iOf,YV,yZ,Z5,wL,ZH,yY,wS,fLC,yr,zX,wn,yt,XH,xQ,XR,b1,b2,hl]
 | _=>rfl
theorem zaj (T:Txt K mg ad):y6 P w K mg base CX0 2 ad.f_are_counts ad.e_are_counts ["many","thing"] (@spD ⟨K⟩ 2 xZ):=by
 letI:KK:=⟨K⟩
 have G_is_whole:=WR (P:=P) (w:=w) (base:=base) T
 refine wB (xl (N:=["many","thing"]) (ps:=["many","thing"]) T.d_are_counts.fn VX (g:=xo) λcdv A outer s H E hr=>?_) Vx
 unfold xo
 exact(ze (xL (zic (zb4 (Yp (xv (zL .tuple rfl T.z_isinstance (edv 1) (yD (v:=.ty "tuple") rfl T.z_tuple xc rfl)))) (WO (yg zbJ WC (zG _) (zP yb Yb rfl T.z_len Zs (za (edv 1) zc)) (edv 0))))) (zf (zB (YB vT))) zH)
  (zf (zB (zP (zgJ rfl) zju rfl T.z_all zmc (za (vt (X8 (L:=["part"]) (M:=["many","thing"]) rfl (YY (by rfl) (by rfl) (by rfl) (by with_unfolding_all rfl) (by rfl) (by rfl) (by kernel_rfl) wd) (wV (edv 1)) gs1 rb1 (λ_ _ _ _=>(zC (i:=0) znP rfl (Or.inl rfl) (.inr rfl))) (λ_ _ _ _=>(Yx (zo G_is_whole hr rfl T.d_is_whole (za (edv 0) zc)) (ZY (YE zlz yH (zG _) (edv 0) (zg zj))))))) zc)))))
def Y9 (m:Int):D->Bool
 | .tup ds=>xG m (.tup ds)&&decide ((ds.map znW).sum<=300)
 | _=>false
theorem Vn (ns:List Int):(ns.map D.int).map znW=ns:=by rw[u07];exact(u2R λ_ _=>rfl).trans (List.map_id _)
def x4:SE->Ctl :=
 (yJ (Yg (zt 2 xZ (zb (zr ixD (zd 0) (eC (.int 0))) (zb (zd 1) zw))) (zr leD (eFn zeu (zb (zd 1) zw)) (eC (.int 300)))))
def YL:List D->Option D:=fnD 2 x4
def xq:List D->Option D
 | [.tup [.int m,_],d]=>if (noS d&&decide (m<=1000))=true then some (.bl (Y9 m d))else none
 | _=>none
theorem zax:∀ ds d,ds.length=2->xq ds=some d->YL ds=some d:=by
 intro ds d hl h
 obtain⟨a,b,rfl⟩:=zgb hl
 unfold xq at h
 split at h
 .rename_i m t b' e
  injection e with e1 e2
  injection e2 with e2 _
  subst e1 e2
  obtain⟨hn,rfl⟩:=ifS h
  have ec:xZ [.int m,b]=some (.bl (xG m b)):=by simp only[xZ];rw[t9 hn]
  cases hc:xG m b with
  | false =>
   rw[hc]at ec
   have e3:Y9 m b=false:=by
    cases b <;> try rfl
    show(xG m _&&_)=false
    rw[hc]
    rfl
   rw[e3]
   simp[YL,x4,fnD,zW,yJ,vx,sIf,wu,Y4,sNo,zR,Vk,ZC,ZD,X5,ZZ,vEv,visF,visG,Sl.f,Sl.g,zd,eC,zr,Yg,eOr,Wu,eIf,eUn,Vq,vy,wx,yO,zb,zw,zt,eFn,fFn,tOf,wE,Zp,yW,asB,asI,zQ,Yn,vO,yL,wF,XC,x9,ltD,leD,gtD,geD,XN,zK,yo,zO,yj,X2,ym,ixD,YC,yz,isT,eSl,vF,x6,yK,yE,iOf,YV,yZ,Z5,wL,ZH,yY,wS,fLC,yr,zX,wn,yt,XH,xQ,XR,b1,b2,ec,atI,ixN]
  | true =>
   rw[hc]at ec
   cases b with
   | tup es =>
    have h2:es.all xC=true:=by
     unfold xG at hc
     rw[g9]at hc
     exact hc.2
    obtain⟨ns,rfl,hns⟩:=zcy h2
    have e3:Y9 m (.tup (ns.map .int))=decide (ns.sum<=300):=by
     show(xG m _&&decide (((ns.map D.int).map znW).sum<=300))=_
     rw[hc,Vn,Bool.true_and]
    rw[e3]
    simp[YL,x4,fnD,zW,yJ,vx,sIf,wu,Y4,sNo,zR,Vk,ZC,ZD,X5,ZZ,vEv,visF,visG,Sl.f,Sl.g,zd,eC,zr,Yg,eOr,Wu,eIf,eUn,Vq,vy,wx,yO,zb,zw,zt,eFn,fFn,tOf,wE,Zp,yW,asB,asI,zQ,Yn,vO,yL,wF,XC,x9,ltD,leD,gtD,geD,XN,zK,yo,zO,yj,X2,ym,ixD,YC,yz,isT,eSl,vF,x6,yK,yE,iOf,YV,yZ,Z5,wL,ZH,yY,wS,fLC,yr,zX,wn,yt,XH,xQ,XR,b1,b2,ec,zgM,atI,ixN]
   | _=>cases hc
 .cases h
theorem zaz (T:Txt K mg ad):y6 P w K mg base CX0 3 ad.f_are_stones ad.e_are_stones ["web","thing"] (@spD ⟨K⟩ 2 xq):=by
 letI:KK:=⟨K⟩
 have G_are_counts:=zaj (P:=P) (w:=w) (base:=base) T
 refine wB (xl (N:=["web","thing"]) (ps:=["web","thing"]) T.d_are_stones.fn VY (g:=x4) λcdv A outer s H E hr=>?_) zax
 unfold x4
 exact(zf (zB (Yx (zo G_are_counts hr rfl T.d_are_counts (za (yC (edv 0) (zg zj) (λ_ _=>rfl)) (za (edv 1) zc))) (ZY (YE zg6 yH (zG _) (zP (vH rfl) Xh rfl T.z_sum Wy (za (edv 1) zc)) (zg (yF (v:=.int 300) rfl T.g_MOST_STONES ⟨_,rfl⟩)))))))
theorem XO {m:Int}{ts:List Tie}(h:xJ m ts):wL [.int m]=some (Zo 0 m.toNat):=by
 have:=h.lo
 have:=h.hi
 show(if zd6 m=true then some (Zo 0 m.toNat)else none)=_
 rw[t9 (yh.mpr ⟨by omega,by omega⟩)]
def xY:SE->Ctl :=
 (sIf (yW (tOf (zt 2 xq (zb (zd 0) (zb (zd 1) zw))))) sNo zR)
def Y6:List D->Option D:=fnD 2 xY
def y8:List D->Option D
 | [.tup [.int m,_],d]=>if (noS d&&decide (m<=1000)&&Y9 m d)=true then some .non else none
 | _=>none
theorem Wd:∀ ds d,ds.length=2->y8 ds=some d->Y6 ds=some d:=by
 intro ds d hl h
 obtain⟨a,b,rfl⟩:=zgb hl
 unfold y8 at h
 split at h
 .rename_i m t b' e
  injection e with e1 e2
  injection e2 with e2 _
  subst e1 e2
  obtain⟨hn,rfl⟩:=ifS h
  rw[g9]at hn
  have ec:xq [.tup [.int m,t],b]=some (.bl true):=by simp only[xq];rw[t9 hn.1,hn.2]
  simp[Y6,xY,fnD,zW,yJ,vx,sIf,wu,Y4,sNo,zR,Vk,ZC,ZD,X5,ZZ,vEv,visF,visG,Sl.f,Sl.g,zd,eC,zr,Yg,eOr,Wu,eIf,eUn,Vq,vy,wx,yO,zb,zw,zt,eFn,fFn,tOf,wE,Zp,yW,asB,asI,zQ,Yn,vO,yL,wF,XC,x9,ltD,leD,gtD,geD,XN,zK,yo,zO,yj,X2,ym,ixD,YC,yz,isT,eSl,vF,x6,yK,yE,iOf,YV,yZ,Z5,wL,ZH,yY,wS,fLC,yr,zX,wn,yt,XH,xQ,XR,b1,b2,ec]
 .cases h
theorem Wm (T:Txt K mg ad):y6 P w K mg base CX0 4 ad.f_must_be_heap ad.e_must_be_heap ["web","thing"] (@spD ⟨K⟩ 2 y8):=by
 letI:KK:=⟨K⟩
 have G_are_stones:=zaz (P:=P) (w:=w) (base:=base) T
 refine wB (xl (N:=["web","thing"]) (ps:=["web","thing"]) T.d_must_be_heap.fn WH (g:=xY) λcdv A outer s H E hr=>?_) Wd
 unfold xY
 exact(zf (xL (Yp (xv (zo G_are_stones hr rfl T.d_are_stones (za (edv 0) (za (edv 1) zc))))) (zf V3) zH))
theorem zgj {m:Int}{ts:List Tie}(h:xJ m ts):decide (m<=1000)=true:=b6 (by have:=h.hi;omega)
def zks:D->Int
 | .tup [.int m,_]=>m
 | _=>0
def zkI:D->List Tie
 | .tup [_,.tup l]=>(za9 l).getD []
 | _=>[]
theorem Zu (m:Int)(ts:List Tie):zks (zM m ts)=m:=rfl
theorem zeK (ts:List Tie):ts.map zq=ts.map prD:=rfl
theorem ZF (m:Int)(ts:List Tie):zkI (zM m ts)=ts:=by
 show(za9 (ts.map zq)).getD []=ts
 rw[zeK,zbF]
 rfl
def WG (a b:Int):Tie:=(if b < a then b else a,if b > a then b else a)
def v5:SE->Ctl :=
 (yJ (vy (zb (eFn zlv (zb (zd 0) (zb (zd 1) zw))) (zb (eFn zmb (zb (zd 0) (zb (zd 1) zw))) zw))))
def zao:List D->Option D:=fnD 2 v5
def xI:List D->Option D
 | [.int a,.int b]=>some (zq (WG a b))
 | _=>none
theorem WX:∀ ds d,ds.length=2->xI ds=some d->zao ds=some d:=by
 intro ds d hl h
 obtain⟨a,b,rfl⟩:=zgb hl
 cases a <;> try cases h
 cases b <;> try cases h
 rfl
theorem W9 (T:Txt K mg ad):y6 P w K mg base CX0 1 ad.f_tie_between ad.e_tie_between ["one","other"] (@spD ⟨K⟩ 2 xI):=by
 letI:KK:=⟨K⟩
 refine wB (xl (N:=["one","other"]) (ps:=["one","other"]) T.d_tie_between.fn W5 (g:=v5) λcdv A outer s H E hr=>?_) WX
 unfold v5
 exact(zf (zB (w8 (za (zP (zf2 rfl) zis rfl T.z_min zlS (za (edv 0) (za (edv 1) zc))) (za (zP (zeH rfl) ziO rfl T.z_max zjq (za (edv 0) (za (edv 1) zc))) zc)))))
theorem ze3 (ts:List Tie):(ts.map zq).all (okE 20)=true:=by
 rw[u1A,u0y]
 exact λt _=>rfl
theorem zcM (s t:Tie):eqN 20 (zq s) (zq t)=decide (s=t):=by
 have:eqN 20 (zq s) (zq t)=((s.1 == t.1)&&((s.2 == t.2)&&true)&&true):=rfl
 rw[this,u3o,u3o]
 by_cases h:s=t
 .subst h
  simp
 .rw[h9 h,Bool.and_eq_false_iff]
  by_cases h1:s.1=t.1
  .exact .inr (u0h.mpr λh2=>h (u3s h1 h2))
  .exact .inl (u0h.mpr h1)
theorem zh7 (t:Tie)(ts:List Tie):inD (zq t) (.tup (ts.map zq))=some (.bl (decide (t∈ts))):=by
 show(zmO (zq t) (ts.map zq)).map D.bl=_
 unfold zmO
 rw[t9 ⟨rfl,ze3 ts⟩]
 show some (D.bl ((ts.map zq).any λe=>eqN 20 e (zq t)))=_
 rw[List.any_map]
 congr 2
 rw[u2c,List.any_eq_true,d5]
 constructor
 .rintro⟨s,hs,h⟩
  have h:eqN 20 (zq s) (zq t)=true:=h
  rw[zcM,d5]at h
  subst h
  exact hs
 .exact λh=>⟨t,h,by show eqN 20 (zq t) (zq t)=true;rw[zcM];exact b6 rfl⟩
def nbN (m:Int)(ts:List Tie)(p:Int):List Nat:=(List.range m.toNat).filter λk:Nat=>decide (WG p k∈ts)
def Zn (k:Nat):D:=.int ((0:Int)+(k:Int))
def wW:SE->Ctl :=
 (yJ (wx (fLC (Z5 wL (zb (zr ixD (zd 0) (eC (.int 0))) zw)) b1 (tOf (zr inD (zt 2 xI (zb (zd 2) (zb (zd 0) zw))) (zr ixD (zd 1) (eC (.int 1))))) (zd 0))))
def zaO:List D->Option D:=fnD 2 wW
def yu:List D->Option D
 | [w,.int p]=>if vM w=true then some (.lst ((nbN (zks w) (zkI w) p).map Zn))else none
 | _=>none
theorem V6:∀ ds d,ds.length=2->yu ds=some d->zaO ds=some d:=by
 intro ds d hl h
 obtain⟨a,b,rfl⟩:=zgb hl
 cases b <;> try cases h
 rename_i p
 obtain⟨hw,rfl⟩:=ifS h
 obtain⟨m,ts,rfl,ok⟩:=(xT a).mp hw
 rw[Zu,ZF]
 refine Vt rfl ?_
 unfold wW
 refine ZK (d:=.lst ((nbN m ts p).map Zn)) ?_ rfl
 have e:fLC (Z5 wL (zb (zr ixD (zd 0) (eC (.int 0))) zw)) b1 (tOf (zr inD (zt 2 xI (zb (zd 2) (zb (zd 0) zw))) (zr ixD (zd 1) (eC (.int 1))))) (zd 0) [some (zM m ts),some (.int p)]=some ((nbN m ts p).map Zn):=by
  unfold fLC
  show((wL [.int m]).bind λds=>if lim ds.length=true then _ else none)=_
  rw[XO ok]
  show(if lim (Zo 0 m.toNat).length=true then _ else none)=_
  rw[t9 (w6 (by rw[Wt];have:=ok.hi;omega))]
  refine vK (c:=Zn) (p:=λk=>decide (WG p k∈ts)) (y:=Zn) (List.range m.toNat) λk hk=>⟨[some (Zn k)],rfl,?_,λ_=>rfl⟩
  show((inD (zq (WG p (0+(k:Int)))) (.tup (ts.map zq))).bind asB)=_
  rw[u1N,zh7]
  rfl
 show(match ((fLC (Z5 wL (zb (zr ixD (zd 0) (eC (.int 0))) zw)) b1 (tOf (zr inD (zt 2 xI (zb (zd 2) (zb (zd 0) zw))) (zr ixD (zd 1) (eC (.int 1))))) (zd 0) [some (zM m ts),some (.int p)]).map D.lst)with | some d=>Ctl.rt d | none=>Ctl.no)=_
 rw[e]
 rfl
theorem VQ (T:Txt K mg ad):y6 P w K mg base CX0 2 ad.f_neighbours ad.e_neighbours ["web","place"] (@spD ⟨K⟩ 2 yu):=by
 letI:KK:=⟨K⟩
 have G_tie_between:=W9 (P:=P) (w:=w) (base:=base) T
 refine wB (xl (N:=["web","place"]) (ps:=["web","place"]) T.d_neighbours.fn V0 (g:=wW) λcdv A outer s H E hr=>?_) V6
 unfold wW
 exact(zf (zB (vt (zfu (L:=["other"]) (M:=["web","place"]) rfl (YY (by rfl) (by rfl) (by rfl) (by with_unfolding_all rfl) (by rfl) (by rfl) (by kernel_rfl) (all_cons rfl (all_cons rfl wd))) (Zr rfl T.z_range (za (yC (edv 0) (zg zj) (λ_ _=>rfl)) zc)) gs1 rb1 (λ_ _ _ _=>(zC (i:=0) znN rfl (Or.inl rfl) (.inr rfl))) (λ_ _ _ _=>(yg (zmY hr) zmp (by with_unfolding_all rfl) (zo G_tie_between hr rfl T.d_tie_between (za (edv 2) (za (edv 0) zc))) (yC (edv 1) (zg zj) (λ_ _=>rfl)))) (λ_ _ _ _=>(edv 0))))))
def xV (m:Int)(ts:List Tie)(i:Nat):List Tie:=(List.range i).flatMap λk:Nat=>(nbN m ts k).map λo:Nat=>((0:Int)+(k:Int),(0:Int)+(o:Int))
def yn (m:Int)(ts:List Tie):List Tie:=xV m ts m.toNat
theorem XG (m:Int)(ts:List Tie)(i:Nat):xV m ts (i+1)=xV m ts i++(nbN m ts i).map λo:Nat=>((0:Int)+(i:Int),(0:Int)+(o:Int)):=by
 unfold xV
 rw[u2U,u2P]
 simp
theorem Xp {m:Int}{ts:List Tie}{p:Int}(h:xJ m ts):(nbN m ts p).length<=8:=by
 refine i3 (List.length_filter_le _ _) ?_
 rw[u1R]
 have:=h.hi
 omega
theorem Y0 {m:Int}{ts:List Tie}(h:xJ m ts)(i:Nat):(xV m ts i).length<=8*i:=by
 induction i with
 | zero=>simp[xV]
 | succ i ih =>
  rw[XG,r0,u7]
  have:=Xp (p:=(i:Int)) h
  omega
def vW:SE->Ctl :=
 (X5 1 (wx (fLC (iOf (zt 2 yu (zb (zd 0) (zb (zd 2) zw)))) b1 yr (vy (zb (zd 3) (zb (zd 0) zw))))))
def Ya:SE->Ctl :=
 (zW (ZC 1 (yO zw))
  (zW (yZ wL (zb (zr ixD (zd 0) (eC (.int 0))) zw) (yt 2) vW)
  (sFz 1 (yJ (zd 1)))))
def zcw:List D->Option D:=fnD 3 Ya
def wK:List D->Option D
 | [w]=>if vM w=true then some (.lst ((yn (zks w) (zkI w)).map zq))else none
 | _=>none
theorem zaS:∀ ds d,ds.length=1->wK ds=some d->zcw ds=some d:=by
 intro ds d hl h
 obtain⟨a,rfl⟩:=zk0 hl
 obtain⟨hw,rfl⟩:=ifS h
 obtain⟨m,ts,rfl,ok⟩:=(xT a).mp hw
 rw[Zu,ZF]
 refine Vt rfl ?_
 unfold Ya
 refine zA rfl ?_
 refine xK (Vg (lo:=0) (c:=m.toNat) (λi ρ=>∃ o2,ρ=[.v (zM m ts),.o ((xV m ts i).map zq),o2]) (XO ok) ⟨.no,rfl⟩ ?_ ?_)
 .rintro i ρ hi ⟨o2,rfl⟩
  refine⟨_,rfl,?_⟩
  unfold vW
  refine ZB (ρ':=[.v (zM m ts),.o ((xV m ts (i+1)).map zq),.v (.int (0+(i:Int)))]) ?_ ⟨_,rfl⟩
  have e:fLC (iOf (zt 2 yu (zb (zd 0) (zb (zd 2) zw)))) b1 yr (vy (zb (zd 3) (zb (zd 0) zw))) [some (zM m ts),none,some (.int (0+(i:Int)))]=some (((nbN m ts i).map λo:Nat=>((0:Int)+(i:Int),(0:Int)+(o:Int))).map zq):=by
   unfold fLC
   have e1:yu [zM m ts,.int (0+(i:Int))]=some (.lst ((nbN m ts i).map Zn)):=by
    simp only[yu]
    rw[t9 hw,Zu,ZF,u1N]
   show((yu [zM m ts,.int (0+(i:Int))]).bind yE).bind _=_
   rw[e1]
   show(if lim ((nbN m ts i).map Zn).length=true then _ else none)=_
   rw[t9 (w6 (by rw[u7];have:=Xp (p:=(i:Int)) ok;omega)),u07]
   refine Za Zn _ (nbN m ts i) λo _=>⟨[some (Zn o)],rfl,rfl,?_⟩
   rfl
  have hl:lim (((xV m ts i).map zq).length+(((nbN m ts i).map λo:Nat=>((0:Int)+(i:Int),(0:Int)+(o:Int))).map zq).length)=true:=by
   refine w6 ?_
   simp only[u7]
   have:=Y0 ok i
   have:=Xp (p:=(i:Int)) ok
   have:=ok.hi
   omega
  show(match (((fLC (iOf (zt 2 yu (zb (zd 0) (zb (zd 2) zw)))) b1 yr (vy (zb (zd 3) (zb (zd 0) zw))) [some (zM m ts),none,some (.int (0+(i:Int)))]).map D.lst).bind λd=>match (some (Sl.o ((xV m ts i).map zq))),d with
   | some (.o ds),.lst es=>if lim (ds.length+es.length)=true then some ([.v (zM m ts),.o (ds++es),.v (.int (0+(i:Int)))]:SE)else none
   | _,_=>none)with | some ρ'=>Ctl.nx ρ' | none=>Ctl.no)=_
  rw[e]
  show(match (if lim (((xV m ts i).map zq).length+(((nbN m ts i).map λo:Nat=>((0:Int)+(i:Int),(0:Int)+(o:Int))).map zq).length)=true then some ([.v (zM m ts),.o ((xV m ts i).map zq++((nbN m ts i).map λo:Nat=>((0:Int)+(i:Int),(0:Int)+(o:Int))).map zq),.v (.int (0+(i:Int)))]:SE)else none)with | some ρ'=>Ctl.nx ρ' | none=>Ctl.no)=_
  rw[t9 hl,XG,i8]
 .rintro ρ ⟨o2,rfl⟩
  exact zkM rfl (ZK rfl rfl)
theorem zbh (T:Txt K mg ad):y6 P w K mg base CX0 3 ad.f_all_steps ad.e_all_steps ["web"] (@spD ⟨K⟩ 1 wK):=by
 letI:KK:=⟨K⟩
 have G_neighbours:=VQ (P:=P) (w:=w) (base:=base) T
 refine wB (xl (N:=["web","found","place"]) (ps:=["web"]) T.d_all_steps.fn Yk (g:=Ya) λcdv A outer s H E hr=>?_) zaS
 unfold Ya vW
 exact(ze (WF (i:=1) Yk.nd rfl (Or.inl rfl) (Yi zc))
  (ze (ZT i9 rfl rfl T.z_range (za (yC (edv 0) (zg zj) (λ_ _=>rfl)) zc) (yx (zC (i:=2) Yk.nd rfl (Or.inr rfl))) (zf (zi0 (pv 1) (vt (X8 (L:=["other"]) (M:=["web","found","place"]) rfl (YY (by rfl) (by rfl) (by rfl) (by with_unfolding_all rfl) (by rfl) (by rfl) (by kernel_rfl) (all_cons rfl wd)) (wV (zo G_neighbours hr rfl T.d_neighbours (za (edv 0) (za (edv 2) zc)))) gs1 rb1 (λ_ _ _ _=>(zC (i:=0) znm rfl (Or.inl rfl) (.inr rfl))) (λ_ _ _ _=>(w8 (za (edv 3) (za (edv 0) zc)))))) (λa b=>zcp u0x u3k u3l zbT a b))))
  (Wh 1 (zf (zB (edv 1))))))
theorem zdF {m:Int}{ns:List Int}(h1:(ns.length:Int)=m)(h2:∀ n∈ns,0<=n)(h3:ns.sum<=300):Y9 m (.tup (ns.map .int))=true:=by
 unfold Y9 xG
 rw[g9,g9,d5,d5,Vn,u7]
 exact⟨⟨h1,zfA h2⟩,h3⟩
theorem zhN (ns:List Int):noS (.tup (ns.map .int))=true:=by
 show zhe (ns.map .int)=true
 induction ns with
 | nil=>rfl
 | cons n ns ih=>show(noS (.int n)&&zhe (ns.map .int))=true;rw[ih];rfl
def vAt (ns:List Int)(i:Int):Int:=ns.getD i.toNat 0
theorem v4 {ns:List Int}{i:Int}(h0:0<=i)(h1:i < ns.length):atI (ns.map D.int) i=some (.int (vAt ns i)):=by
 unfold vAt
 obtain⟨k,hk⟩:∃ k:Nat,i=k:=⟨i.toNat,by omega⟩
 subst hk
 refine zeA ?_
 rw[u0Y,r6,j6 (by omega),u0l,j6 (by omega)]
 rfl
theorem Vm {m:Int}{ts:List Tie}{s:Tie}:s∈yn m ts↔(0<=s.1/\s.1 < m)/\(0<=s.2/\s.2 < m)/\WG s.1 s.2∈ts:=by
 unfold yn xV nbN
 rw[u3A]
 constructor
 .rintro⟨k,hk,h⟩
  obtain⟨o,ho,rfl⟩:=u0u.mp h
  rw[u1P,u0I,d5]at ho
  rw[u0I]at hk
  simp only[u1N]
  exact⟨⟨by(clear h ho hk;omega),by(clear h ho;omega)⟩,⟨by(clear h ho hk;omega),by omega⟩,ho.2⟩
 .rintro⟨⟨a1,a2⟩,⟨b1,b2⟩,h⟩
  refine⟨s.1.toNat,u0I.mpr (by(clear b2 b1 h;omega)),u0u.mpr ⟨s.2.toNat,?_,?_⟩⟩
  .rw[u1P,u0I,d5]
   refine⟨by omega,?_⟩
   rw[show((s.1.toNat:Nat):Int)=s.1 by(clear b2 b1 h a2;omega),show((s.2.toNat:Nat):Int)=s.2 by omega]
   exact h
  .exact u3s (by show(0:Int)+(s.1.toNat:Int)=s.1;(clear b2 b1 h a2;omega)) (by show(0:Int)+(s.2.toNat:Int)=s.2;omega)
end
theorem zeb {m:Nat}{g:SE->Ctl}{ds:List D}{R:D->Prop}{ρ:SE}(e:ds.map .v++List.replicate (m - ds.length) .no=ρ)(q:(g ρ).w (λ_=>R .non) noP noP R):∃ d,fnD m g ds=some d/\R d:=by
 unfold fnD
 rw[e]
 cases hg:g ρ with
 | nx ρ'=>rw[hg]at q;exact⟨_,rfl,q.nxi⟩
 | rt d'=>rw[hg]at q;exact⟨_,rfl,q.rti⟩
 | bk _=>rw[hg]at q;exact q.bki.elim
 | ct _=>rw[hg]at q;exact q.cti.elim
 | no=>rw[hg]at q;exact q.noi.elim
section
variable {P:Program}{w:World}{K:W.Frag}{mg:Str->Option Value}{base:Heap}{ad:Adr}
def vP:SE->Ctl :=
 (zW (wu false 2 (zr wF (zr vO (zr vB (zr vB (zr wF (zd 0) (eC (.int 2147483647))) (zr vO (eC (.int 977)) (zd 1))) (eC (.int 1))) (eC (.int 48271))) (eC (.int 2147483647))))
  (zW (wu false 2 (zr wF (zr vO (zd 2) (zd 2)) (eC (.int 2147483629))))
  (zW (wu false 2 (zr wF (zr vO (zr vB (zd 2) (zr vO (eC (.int 40692)) (zr vB (zd 1) (eC (.int 3))))) (eC (.int 69621))) (eC (.int 2147483647))))
  (yJ (zr yL (zd 2) (eC (.int 8)))))))
def zcx:List D->Option D:=fnD 3 vP
def xR:List D->Option D
 | [.int c,.int k]=>some (.int (zkr c k))
 | _=>none
theorem WB {i j:Int}(h1:-(2 ^ 64) < i)(h2:i < 2 ^ 64):Xj i j=true:=b6 (.inl ⟨h1,h2⟩)
theorem zfG {i j:Int}(h1:-(2 ^ 64) < j)(h2:j < 2 ^ 64):Xj i j=true:=b6 (.inr ⟨h1,h2⟩)
theorem Zb {i j:Int}(h:Xj i j=true):vO (.int i) (.int j)=some (.int (i*j)):=by
 show(if Xj i j=true then _ else none)=_
 rw[t9 h]
theorem wQ {i j:Int}(h:0 < j):wF (.int i) (.int j)=some (.int (i % j)):=by
 show(if decide (0 < j)=true then _ else none)=_
 rw[t9 (b6 h)]
theorem YR {i j:Int}(h:0 < j)(h2:j < 1606938044258990275541962092341162602522202993782792835301376):yL (.int i) (.int j)=some (.int (i / j)):=by
 show(if decide (0 < j/\j < 1606938044258990275541962092341162602522202993782792835301376)=true then _ else none)=_
 rw[t9 (b6 ⟨h,h2⟩)]
theorem za2:∀ ds d,ds.length=2->xR ds=some d->zcx ds=some d:=by
 intro ds d hl h
 obtain⟨a,b,rfl⟩:=zgb hl
 cases a <;> try cases h
 cases b <;> try cases h
 rename_i c k
 have h1:=u3K ((c % 2147483647+977*k+1)*48271) (show(2147483647:Int)≠0 by decide)
 have h2:=u2d ((c % 2147483647+977*k+1)*48271) (show(0:Int) < 2147483647 by decide)
 have m1:Xj 977 k=true:=WB (by decide) (by decide)
 have m2:Xj (c % 2147483647+977*k+1) 48271=true:=zfG (by decide) (by decide)
 obtain⟨x,hx⟩:∃ x,(c % 2147483647+977*k+1)*48271 % 2147483647=x:=⟨_,rfl⟩
 rw[hx]at h1 h2
 have m3:Xj x x=true:=WB (Int.lt_of_lt_of_le (by decide) h1) (Int.lt_trans h2 (by decide))
 have m4:Xj 40692 (k+3)=true:=WB (by decide) (by decide)
 have m5:∀ x,Xj x 69621=true:=λx=>zfG (by decide) (by decide)
 obtain⟨y,hy⟩:∃ y,x*x % 2147483629=y:=⟨_,rfl⟩
 obtain⟨z,hz⟩:∃ z,(y+40692*(k+3))*69621 % 2147483647=z:=⟨_,rfl⟩
 have hst:zkr c k=z / 8:=by
  show((((c % 2147483647+977*k+1)*48271 % 2147483647)*((c % 2147483647+977*k+1)*48271 % 2147483647) % 2147483629+40692*(k+3))*69621 % 2147483647 / 8)=_
  rw[hx,hy,hz]
 rw[hst]
 refine Vt (ρ:=[.v (.int c),.v (.int k),.no]) rfl ?_
 unfold vP
 refine zA (ρ':=[.v (.int c),.v (.int k),.v (.int x)]) (xO ?_) ?_
 .show(((((wF (.int c) (.int 2147483647)).bind λa=>(vO (.int 977) (.int k)).bind λb=>vB a b).bind λa=>vB a (.int 1)).bind λa=>vO a (.int 48271)).bind λa=>wF a (.int 2147483647))=_
  rw[wQ (by decide),Zb m1]
  show((vO (.int (c % 2147483647+977*k+1)) (.int 48271)).bind λa=>wF a (.int 2147483647))=_
  rw[Zb m2,<- hx]
  exact wQ (by decide)
 refine zA (ρ':=[.v (.int c),.v (.int k),.v (.int y)]) (xO ?_) ?_
 .show((vO (.int x) (.int x)).bind λa=>wF a (.int 2147483629))=_
  rw[Zb m3,<- hy]
  exact wQ (by decide)
 refine zA (ρ':=[.v (.int c),.v (.int k),.v (.int z)]) (xO ?_) ?_
 .show((((vO (.int 40692) (.int (k+3))).bind λb=>vB (.int y) b).bind λa=>vO a (.int 69621)).bind λa=>wF a (.int 2147483647))=_
  rw[Zb m4]
  show((vO (.int (y+40692*(k+3))) (.int 69621)).bind λa=>wF a (.int 2147483647))=_
  rw[Zb (m5 _),<- hz]
  exact wQ (by decide)
 exact ZK (vm (show yL (.int z) (.int 8)=_ from YR (by decide) (by decide))) rfl
theorem zaM (T:Txt K mg ad):y6 P w K mg base CX0 1 ad.f__law_stir ad.e__law_stir ["cell","k"] (@spD ⟨K⟩ 2 xR):=by
 letI:KK:=⟨K⟩
 refine wB (xl (N:=["cell","k","number"]) (ps:=["cell","k"]) T.d__law_stir.fn vb (g:=vP) λcdv A outer s H E hr=>?_) za2
 unfold vP
 exact(ze (yP (m:=false) (i:=2) vb.nd rfl (Or.inl rfl) (YM (WQ (xn (xn (YM (edv 0) (zg zj)) (WQ (zg zj) (edv 1))) (zg zj)) (zg zj)) (zg zj)))
  (ze (yP (m:=false) (i:=2) vb.nd rfl (Or.inl rfl) (YM (WQ (edv 2) (edv 2)) (zg zj)))
  (ze (yP (m:=false) (i:=2) vb.nd rfl (Or.inl rfl) (YM (WQ (xn (edv 2) (WQ (zg zj) (xn (edv 1) (zg zj)))) (zg zj)) (zg zj)))
  (zf (zB (Z7 (edv 2) (zg zj)))))))
theorem zdv {i j:Int}(h1:0<=i)(h2:i<=1000)(h3:0<=j)(h4:j<=1000):ZH [.int i,.int j]=some (Zo i (j - i).toNat):=by
 show(if zd6 i=true/\zd6 j=true then some (Zo i (j - i).toNat)else none)=_
 rw[t9 ⟨yh.mpr ⟨by(clear h4 h3 h2;omega),by(clear h4 h3;omega)⟩,yh.mpr ⟨by omega,by omega⟩⟩]
theorem zdV {j:Int}(h3:0<=j)(h4:j<=1000000):wL [.int j]=some (Zo 0 j.toNat):=by
 show(if zd6 j=true then some (Zo 0 j.toNat)else none)=_
 rw[t9 (yh.mpr ⟨by omega,by omega⟩)]
theorem zdB {ts:List Tie}(h:ts.length < 64):zb1 [.lst (ts.map zq)]=some ((W2 ts).map zq):=by
 show(if (ts.map zq).length < 64 then _ else none)=_
 rw[t9 (by rw[u7];exact h),show ts.map zq=ts.map prD from rfl,zbF]
 rfl
theorem zlb {a k:Int}(h:0<=k):zkR (.int a) (.int k)=some (.int (a / 2 ^ k.toNat)):=by
 show(if decide (0<=k)=true then some (D.int (a / 2 ^ k.toNat))else none)=_
 rw[t9 (b6 h)]
def xy:SE->Ctl :=
 (zW (wu false 9 (zr wF (zr zkR (zr yL (zd 4) (eC (.int 2))) (zr vB (zr yL (zr vO (zd 6) (zr Yn (zd 6) (eC (.int 1)))) (eC (.int 2))) (zd 8))) (eC (.int 2))))
  (zW (sIf (tOf (zr WU (zr wF (zd 4) (eC (.int 2))) (eC (.int 1)))) (wu false 9 (zr yL (zr wF (zt 2 xR (zb (zd 0) (zb (zr vB (zr vO (eC (.int 8)) (zd 8)) (zd 6)) zw))) (eC (.int 3))) (eC (.int 2)))) zR)
  (sIf (Zp (tOf (zr WU (zd 9) (eC (.int 1)))) (wE (tOf (zd 2)) (tOf (zr WU (zd 8) (zd 7))))) (ZD false 5 (vy (zb (zd 8) (zb (zd 6) zw)))) zR)))
def wC:SE->Ctl :=
 (zW (wu false 7 (zr wF (zt 2 xR (zb (zd 0) (zb (zr vB (eC (.int 100)) (zd 6)) zw))) (zd 6)))
  (yZ wL (zb (zd 6) zw) (yt 8) xy))
def xw:SE->Ctl :=
 (zW (wu false 3 (zr vB (eC (.int 1)) (zr wF (zd 0) (zd 1))))
  (zW (wu false 4 (zr yL (zd 0) (zd 1)))
  (zW (ZC 5 (yO zw))
  (zW (yZ ZH (zb (eC (.int 1)) (zb (zd 3) zw)) (yt 6) wC)
  (sFz 5 (yJ (vy (zb (zd 3) (zb (eFn zX (zb (wx (fFn zb1 (zb (zd 5) zw))) zw)) zw)))))))))
def v8:List D->Option D:=fnD 10 xw
theorem znx {c mo m lf x inn y:Int}{jo:Bool}{us:List Tie}{o9:Sl}{N B C:SE->Prop}{R:D->Prop}(hx0:0 < x)(hx8:x<=8)(hy0:0<=y)(hul:(us.map zq).length<=1000)
 (q1:∀ o9,N [.v (.int c),.v (.int mo),.v (.bl jo),.v (.int m),.v (.int lf),.o (us.map zq),.v (.int x),.v (.int inn),.v (.int y),o9])
 (q2:∀ o9,N [.v (.int c),.v (.int mo),.v (.bl jo),.v (.int m),.v (.int lf),.o ((us++[(y,x)]).map zq),.v (.int x),.v (.int inn),.v (.int y),o9]) :
 (xy [.v (.int c),.v (.int mo),.v (.bl jo),.v (.int m),.v (.int lf),.o (us.map zq),.v (.int x),.v (.int inn),.v (.int y),o9]).w N B C R:=by
 unfold xy
 rw[i8]at q2
 have m1:Xj x (x - 1)=true:=WB (Int.lt_trans (by decide) hx0) (Int.lt_of_le_of_lt hx8 (by decide))
 have m2:Xj 8 y=true:=WB (by decide) (by decide)
 have hsh:0<=x*(x - 1) / 2+y:=Int.add_nonneg (Int.ediv_nonneg (Int.mul_nonneg (Int.le_of_lt hx0) (Int.sub_nonneg_of_le hx0)) (by decide)) hy0
 refine zA (ρ':=[.v (.int c),.v (.int mo),.v (.bl jo),.v (.int m),.v (.int lf),.o (us.map zq),.v (.int x),.v (.int inn),.v (.int y),.v (.int (lf / 2 / 2 ^ (x*(x - 1) / 2+y).toNat % 2))]) (xO ?_) ?_
 .show(((yL (.int lf) (.int 2)).bind λa=>(((vO (.int x) (.int (x - 1))).bind λp=>yL p (.int 2)).bind λq=>vB q (.int y)).bind λb=>zkR a b).bind λr=>wF r (.int 2))=_
  rw[YR (by decide) (by decide),Zb m1]
  show(((yL (.int (x*(x - 1))) (.int 2)).bind λq=>vB q (.int y)).bind λb=>zkR (.int (lf / 2)) b).bind (λr=>wF r (.int 2))=_
  rw[YR (by decide) (by decide)]
  show(zkR (.int (lf / 2)) (.int (x*(x - 1) / 2+y))).bind (λr=>wF r (.int 2))=_
  rw[zlb hsh]
  exact wQ (by decide)
 refine znJ (fun ρ=>∃ dr:Int,ρ=[.v (.int c),.v (.int mo),.v (.bl jo),.v (.int m),.v (.int lf),.o (us.map zq),.v (.int x),.v (.int inn),.v (.int y),.v (.int dr)]) ?_ ?_
 .refine W1 (c:=decide (lf % 2=1)) (show(((wF (.int lf) (.int 2)).bind λr=>WU r (.int 1)).bind asB)=_ by rw[wQ (by decide)];rfl) (λ_=>ZB (ρ':=[.v (.int c),.v (.int mo),.v (.bl jo),.v (.int m),.v (.int lf),.o (us.map zq),.v (.int x),.v (.int inn),.v (.int y),.v (.int (zkr c (8*y+x) % 3 / 2))]) (xO ?_) ⟨_,rfl⟩) (λ_=>ZB rfl ⟨_,rfl⟩)
  show((((((vO (.int 8) (.int y)).bind λp=>vB p (.int x)).bind λd=>(some ([]:List D)).map (d::·)).map (D.int c::·)).bind (λds=>if ds.length=2 then xR ds else none)).bind λr=>wF r (.int 3)).bind (λr=>yL r (.int 2))=_
  rw[Zb m2]
  show(wF (.int (zkr c (8*y+x))) (.int 3)).bind (λr=>yL r (.int 2))=_
  rw[wQ (by decide)]
  exact YR (by decide) (by decide)
 .rintro ρ ⟨dr,rfl⟩
  refine W1 (c:=decide (dr=1)||(jo&&decide (y=inn))) ?_ (λ_=>ZB (zla (ds:=us.map zq) (d:=.tup [.int y,.int x]) rfl rfl hul) (q2 _)) (λ_=>ZB rfl (q1 _))
  show((some (decide (dr=1))).bind λc=>if c=true then some true else ((some jo).bind λc=>if c=true then some (decide (y=inn))else some false))=_
  cases decide (dr=1) <;> cases jo <;> rfl
theorem zek {c mo:Int}{jo:Bool}(h1:1<=mo)(h8:mo<=8):∃ ts,v8 [.int c,.int mo,.bl jo]=some (zM (1+c % mo) ts)/\xJ (1+c % mo) ts/\ts.length<=28:=by
 have g1:0<=c % mo:=u3K _ (by omega)
 have g2:c % mo < mo:=u2d _ (by omega)
 obtain⟨n,hn⟩:∃ n:Nat,(c % mo)=(n:Int):=⟨(c % mo).toNat,by omega⟩
 obtain⟨m,hm⟩:∃ m:Int,1+c % mo=m:=⟨_,rfl⟩
 obtain⟨lf,hlf⟩:∃ lf:Int,c / mo=lf:=⟨_,rfl⟩
 rw[hm]
 have key:=zeb (m:=10) (g:=xw) (ds:=[.int c,.int mo,.bl jo]) (R:=λd=>∃ ts:List Tie,d=zM m (W2 ts)/\ts.Sublist (Xo n)) (ρ:=[.v (.int c),.v (.int mo),.v (.bl jo),.no,.no,.no,.no,.no,.no,.no]) rfl ?_
 .obtain⟨d,e,ts,rfl,hs⟩:=key
  have hlen:ts.length<=28:=i3 hs.length_le (XQ n (by omega)).2.2
  refine⟨_,e,?_,by rw[(Xe ts).length_eq];exact hlen⟩
  have:=zcC (by omega) hs
  rwa[show(1:Int)+(n:Int)=m by omega]at this
 unfold xw
 have hn7:n<=7:=by omega
 have hmp:(0:Int) < mo:=by omega
 have hmq:mo < 1606938044258990275541962092341162602522202993782792835301376:=by omega
 refine zA (ρ':=[.v (.int c),.v (.int mo),.v (.bl jo),.v (.int m),.no,.no,.no,.no,.no,.no]) (xO (show((wF (.int c) (.int mo)).bind λx=>vB (.int 1) x)=some (.int m) by rw[wQ hmp,<- hm];rfl)) ?_
 refine zA (ρ':=[.v (.int c),.v (.int mo),.v (.bl jo),.v (.int m),.v (.int lf),.no,.no,.no,.no,.no]) (xO (show yL (.int c) (.int mo)=some (.int lf) by rw[YR hmp hmq,hlf])) ?_
 refine zA (ρ':=[.v (.int c),.v (.int mo),.v (.bl jo),.v (.int m),.v (.int lf),.o [],.no,.no,.no,.no]) rfl ?_
 refine xK (Vg (lo:=1) (c:=n) (λi ρ=>∃ (ts:List Tie) (o6 o7 o8 o9:Sl),ρ=[.v (.int c),.v (.int mo),.v (.bl jo),.v (.int m),.v (.int lf),.o (ts.map zq),o6,o7,o8,o9]/\ts.Sublist (Xo i)) ?_ ⟨[],_,_,_,_,rfl,List.nil_sublist _⟩ ?_ ?_)
 .show ZH [.int 1,.int m]=_
  exact zl0 (n:=n) (by omega) hn7
 .rintro i ρ hi ⟨ts,o6,o7,o8,o9,rfl,hs⟩
  obtain⟨x,hx⟩:∃ x:Int,(1:Int)+(i:Int)=x:=⟨_,rfl⟩
  rw[hx]
  refine⟨_,rfl,?_⟩
  unfold wC
  have hxn:x=((i+1:Nat):Int):=by omega
  have hi7:i<=7:=i3 (u0W hi) hn7
  have hx0:0 < x:=by rw[hxn];exact Int.natCast_pos.mpr (Nat.succ_pos i)
  have hx8:x<=8:=by omega
  have es:∀ k:Int,xR [.int c,.int k]=some (.int (zkr c k)):=λk=>rfl
  obtain⟨inn,hinn⟩:∃ inn:Int,zkr c (100+x) % x=inn:=⟨_,rfl⟩
  refine zA (ρ':=[.v (.int c),.v (.int mo),.v (.bl jo),.v (.int m),.v (.int lf),.o (ts.map zq),.v (.int x),.v (.int inn),o8,o9]) (xO (show wF (.int (zkr c (100+x))) (.int x)=some (.int inn) by rw[wQ hx0,hinn])) ?_
  refine Vg (lo:=0) (c:=i+1) (λj ρ=>∃ (us:List Tie) (o8 o9:Sl),ρ=[.v (.int c),.v (.int mo),.v (.bl jo),.v (.int m),.v (.int lf),.o (us.map zq),.v (.int x),.v (.int inn),o8,o9]/\us.Sublist (Xo i++zdP (i+1) j)) ?_ ⟨ts,_,_,rfl,by simpa [zdP]using hs⟩ ?_ ?_
  .show wL [.int x]=_
   exact zlx hxn hi7
  .rintro j ρ hj ⟨us,o8,o9,rfl,hus⟩
   refine⟨_,rfl,?_⟩
   have hul:(us.map zq).length<=1000:=by
    rw[u7]
    refine i3 hus.length_le ?_
    rw[r0,show(zdP (i+1) j).length=j by unfold zdP;rw[u7,u1R]]
    exact i3 (Nat.add_le_add (XQ i hi7).2.2 (i3 (u0W hj) (Nat.succ_le_succ hi7))) (by decide)
   have e0:((0:Int)+(j:Int),x)=((j:Int),((i+1:Nat):Int)):=by rw[hxn,u1N]
   refine znx hx0 hx8 (Int.add_nonneg (u1o _) (Int.natCast_nonneg j)) hul (λo9=>⟨us,_,o9,rfl,?_⟩) (λo9=>⟨us++[((0:Int)+(j:Int),x)],_,o9,rfl,?_⟩)
   .rw[zba,<- b9]
    exact hus.trans (List.sublist_append_left _ _)
   .rw[e0,zba,<- b9]
    exact hus.append (List.Sublist.refl _)
  .rintro ρ ⟨us,o8,o9,rfl,hus⟩
   exact⟨us,_,_,_,_,rfl,by rw[zd3];exact hus⟩
 .rintro ρ ⟨ts,o6,o7,o8,o9,rfl,hs⟩
  have hlen:ts.length<=28:=i3 hs.length_le (XQ n (by omega)).2.2
  refine zkM (ρ':=[.v (.int c),.v (.int mo),.v (.bl jo),.v (.int m),.v (.int lf),.v (.lst (ts.map zq)),o6,o7,o8,o9]) rfl (ZK (d:=zM m (W2 ts)) ?_ ⟨ts,rfl,hs⟩)
  have es:=zdB (ts:=ts) (by omega)
  refine vm ?_
  show((((((zb1 [.lst (ts.map zq)]).map D.lst).bind λd=>(some ([]:List D)).map (d::·)).bind zX).bind λd=>(some ([]:List D)).map (d::·)).map (D.int m::·)).bind (λds=>if lim ds.length=true then some (D.tup ds)else none)=_
  rw[es]
  rfl
theorem Va (T:Txt K mg ad):y6 P w K mg base CX0 2 ad.f__law_web_by ad.e__law_web_by ["cell","most","joined"] (@spD ⟨K⟩ 3 v8):=by
 letI:KK:=⟨K⟩
 have G__law_stir:=zaM (P:=P) (w:=w) (base:=base) T
 refine xl (N:=["cell","most","joined","many","left","ties","b","inner","a","drawn"]) (ps:=["cell","most","joined"]) T.d__law_web_by.fn zJ (g:=xw) λcdv A outer s H E hr=>?_
 unfold xw wC xy
 exact(ze (yP (m:=false) (i:=3) zJ.nd rfl (Or.inl rfl) (xn (zg zj) (YM (edv 0) (edv 1))))
  (ze (yP (m:=false) (i:=4) zJ.nd rfl (Or.inl rfl) (Z7 (edv 0) (edv 1)))
  (ze (WF (i:=5) zJ.nd rfl (Or.inl rfl) (Yi zc))
  (ze (zcS i9 rfl rfl T.z_range (za (zg zj) (za (edv 3) zc)) (yx (zC (i:=6) zJ.nd rfl (Or.inl rfl))) (ze (yP (m:=false) (i:=7) zJ.nd rfl (Or.inl rfl) (YM (zo G__law_stir hr rfl T.d__law_stir (za (edv 0) (za (xn (zg zj) (edv 6)) zc))) (edv 6)))
  (zf (ZT i9 rfl rfl T.z_range (za (edv 6) zc) (yx (zC (i:=8) zJ.nd rfl (Or.inl rfl))) (ze (yP (m:=false) (i:=9) zJ.nd rfl (Or.inl rfl) (YM (zmJ (Z7 (edv 4) (zg zj)) (xn (Z7 (WQ (edv 6) (Xz (edv 6) (zg zj))) (zg zj)) (edv 8))) (zg zj)))
  (ze (xL (yg (vE hr) xN (zG _) (YM (edv 4) (zg zj)) (zg zj)) (zf (yP (m:=false) (i:=9) zJ.nd rfl (Or.inl rfl) (Z7 (YM (zo G__law_stir hr rfl T.d__law_stir (za (edv 0) (za (xn (WQ (zg zj) (edv 8)) (edv 6)) zc))) (zg zj)) (zg zj)))) zH)
  (zf (xL (zic (zb4 (yg (vE hr) xN (zG _) (edv 9) (zg zj)) (WO (zic (zjf (xv (edv 2)) (zgf (yg (vE hr) xN (zG _) (edv 8) (edv 7)))))))) (zf (zfE (m:=false) (pv 5) (w8 (za (edv 8) (za (edv 6) zc))) (λa b=>zcp u0x u2a u2b WA a b))) zH))))))))
  (Wh 5 (zf (zB (w8 (za (edv 3) (za (vI yX vD rfl T.z_tuple xc (za (vt (zeT rfl rfl T.z_sorted (za (edv 5) zc))) zc)) zc))))))))))
def wq (r:List D->Option D):SE->Ctl :=
 (sIf (yW (tOf (zt 2 r (zb (zd 2) (zb (zd 3) zw))))) (yJ (eC (.bl false))) zR)
def yf (r:List D->Option D):SE->Ctl :=
 (zW (sIf (tOf (zr X2 (zd 1) (eC .non))) (yJ (zr X2 (zd 0) (eC .non))) zR)
  (zW (sIf (tOf (eUn (yz .bool) (zd 1))) (yJ (Yg (eUn (yz .bool) (zd 0)) (zr WU (zd 0) (zd 1)))) zR)
  (zW (sIf (tOf (eUn (yz .int) (zd 1))) (yJ (Yg (eUn (yz .int) (zd 0)) (Yg (Wu (eUn (yz .bool) (zd 0))) (zr WU (zd 0) (zd 1))))) zR)
  (zW (sIf (tOf (eUn (yz .str) (zd 1))) (yJ (Yg (eUn (yz .str) (zd 0)) (zr WU (zd 0) (zd 1)))) zR)
  (zW (sIf (Zp (tOf (zr neD (eUn (yz .list) (zd 1)) (eUn (yz .list) (zd 0)))) (tOf (zr neD (eUn (yz .tuple) (zd 1)) (eUn (yz .tuple) (zd 0))))) (yJ (eC (.bl false))) zR)
  (zW (sIf (tOf (zr neD (eFn YC (zb (zd 0) zw)) (eFn YC (zb (zd 1) zw)))) (yJ (eC (.bl false))) zR)
  (zW (YV (wS (zb (zd 0) (zb (zd 1) zw))) (XH 2 (xQ (yt 2) (xQ (yt 3) XR))) (wq r))
  (yJ (eC (.bl true))))))))))
def wR:List D->Option D:=zhb 4 yf 6
theorem zbx (ds:List D):zdo ds ds=ds.map λd=>.tup [d,d]:=by
 induction ds with
 | nil=>rfl
 | cons d ds ih=>show D.tup [d,d]::zdo ds ds=_;rw[ih];rfl
theorem zbH {r:List D->Option D}{d:D}(hr:∀ es,(d=.tup es\/d=.lst es)->∀ e∈es,r [e,e]=some (.bl true))(hn:∀ ns,d≠.scr ns)(hd:∀ z t ks vs,d≠.dct z t ks vs):fnD 4 (yf r) [d,d]=some (.bl true):=by
 cases d with
 | scr ns=>exact absurd rfl (hn ns)
 | dct z t ks vs=>exact absurd rfl (hd z t ks vs)
 | non=>rfl
 | bl b=>cases b <;> rfl
 | int i=>simp[yf,fnD,zW,yJ,vx,sIf,wu,Y4,sNo,zR,Vk,ZC,ZD,X5,ZZ,vEv,visF,visG,Sl.f,Sl.g,zd,eC,zr,Yg,eOr,Wu,eIf,eUn,Vq,vy,wx,yO,zb,zw,zt,eFn,fFn,tOf,wE,Zp,yW,asB,asI,zQ,Yn,vO,yL,wF,XC,x9,ltD,leD,gtD,geD,XN,zK,yo,zO,yj,X2,ym,ixD,YC,yz,isT,eSl,vF,x6,yK,yE,iOf,YV,yZ,Z5,wL,ZH,yY,wS,fLC,yr,zX,wn,yt,XH,xQ,XR,b1,b2]
 | str x=>simp[yf,fnD,zW,yJ,vx,sIf,wu,Y4,sNo,zR,Vk,ZC,ZD,X5,ZZ,vEv,visF,visG,Sl.f,Sl.g,zd,eC,zr,Yg,eOr,Wu,eIf,eUn,Vq,vy,wx,yO,zb,zw,zt,eFn,fFn,tOf,wE,Zp,yW,asB,asI,zQ,Yn,vO,yL,wF,XC,x9,ltD,leD,gtD,geD,XN,zK,yo,zO,yj,X2,ym,ixD,YC,yz,isT,eSl,vF,x6,yK,yE,iOf,YV,yZ,Z5,wL,ZH,yY,wS,fLC,yr,zX,wn,yt,XH,xQ,XR,b1,b2]
 | tup es =>
  refine Vt (ρ:=[.v (.tup es),.v (.tup es),.no,.no]) rfl ?_
  unfold yf
  refine zA rfl (zA rfl (zA rfl (zA rfl (zA rfl (xK (W1 (c:=false) (by simp[fnD,zW,yJ,vx,sIf,wu,Y4,sNo,zR,Vk,ZC,ZD,X5,ZZ,vEv,visF,visG,Sl.f,Sl.g,zd,eC,zr,Yg,eOr,Wu,eIf,eUn,Vq,vy,wx,yO,zb,zw,zt,eFn,fFn,tOf,wE,Zp,yW,asB,asI,zQ,Yn,vO,yL,wF,XC,x9,ltD,leD,gtD,geD,XN,zK,yo,zO,yj,X2,ym,ixD,YC,yz,isT,eSl,vF,x6,yK,yE,iOf,YV,yZ,Z5,wL,ZH,yY,wS,fLC,yr,zX,wn,yt,XH,xQ,XR,b1,b2]) (λz=>by cases z) λ_=>ZB rfl ?_))))))
  refine xK (WY (ds:=zdo es es) (λi ρ=>∃ o1 o2,ρ=[.v (.tup es),.v (.tup es),o1,o2]) (by simp[fnD,zW,yJ,vx,sIf,wu,Y4,sNo,zR,Vk,ZC,ZD,X5,ZZ,vEv,visF,visG,Sl.f,Sl.g,zd,eC,zr,Yg,eOr,Wu,eIf,eUn,Vq,vy,wx,yO,zb,zw,zt,eFn,fFn,tOf,wE,Zp,yW,asB,asI,zQ,Yn,vO,yL,wF,XC,x9,ltD,leD,gtD,geD,XN,zK,yo,zO,yj,X2,ym,ixD,YC,yz,isT,eSl,vF,x6,yK,yE,iOf,YV,yZ,Z5,wL,ZH,yY,wS,fLC,yr,zX,wn,yt,XH,xQ,XR,b1,b2]) ⟨_,_,rfl⟩ ?_ ?_)
  .rintro i d ρ hd ⟨o1,o2,rfl⟩
   rw[zbx,r6]at hd
   obtain⟨e,he,rfl⟩:=u9.mp hd
   have hre:=hr es (.inl rfl) e (j4 he)
   refine⟨_,rfl,?_⟩
   unfold wq
   refine W1 (c:=false) (by simp[fnD,zW,yJ,vx,sIf,wu,Y4,sNo,zR,Vk,ZC,ZD,X5,ZZ,vEv,visF,visG,Sl.f,Sl.g,zd,eC,zr,Yg,eOr,Wu,eIf,eUn,Vq,vy,wx,yO,zb,zw,zt,eFn,fFn,tOf,wE,Zp,yW,asB,asI,zQ,Yn,vO,yL,wF,XC,x9,ltD,leD,gtD,geD,XN,zK,yo,zO,yj,X2,ym,ixD,YC,yz,isT,eSl,vF,x6,yK,yE,iOf,YV,yZ,Z5,wL,ZH,yY,wS,fLC,yr,zX,wn,yt,XH,xQ,XR,b1,b2,hre]) (λz=>by cases z) λ_=>ZB rfl ⟨_,_,rfl⟩
  .rintro ρ ⟨o1,o2,rfl⟩
   exact ZK rfl rfl
 | lst es =>
  refine Vt (ρ:=[.v (.lst es),.v (.lst es),.no,.no]) rfl ?_
  unfold yf
  refine zA rfl (zA rfl (zA rfl (zA rfl (zA rfl (xK (W1 (c:=false) (by simp[fnD,zW,yJ,vx,sIf,wu,Y4,sNo,zR,Vk,ZC,ZD,X5,ZZ,vEv,visF,visG,Sl.f,Sl.g,zd,eC,zr,Yg,eOr,Wu,eIf,eUn,Vq,vy,wx,yO,zb,zw,zt,eFn,fFn,tOf,wE,Zp,yW,asB,asI,zQ,Yn,vO,yL,wF,XC,x9,ltD,leD,gtD,geD,XN,zK,yo,zO,yj,X2,ym,ixD,YC,yz,isT,eSl,vF,x6,yK,yE,iOf,YV,yZ,Z5,wL,ZH,yY,wS,fLC,yr,zX,wn,yt,XH,xQ,XR,b1,b2]) (λz=>by cases z) λ_=>ZB rfl ?_))))))
  refine xK (WY (ds:=zdo es es) (λi ρ=>∃ o1 o2,ρ=[.v (.lst es),.v (.lst es),o1,o2]) (by simp[fnD,zW,yJ,vx,sIf,wu,Y4,sNo,zR,Vk,ZC,ZD,X5,ZZ,vEv,visF,visG,Sl.f,Sl.g,zd,eC,zr,Yg,eOr,Wu,eIf,eUn,Vq,vy,wx,yO,zb,zw,zt,eFn,fFn,tOf,wE,Zp,yW,asB,asI,zQ,Yn,vO,yL,wF,XC,x9,ltD,leD,gtD,geD,XN,zK,yo,zO,yj,X2,ym,ixD,YC,yz,isT,eSl,vF,x6,yK,yE,iOf,YV,yZ,Z5,wL,ZH,yY,wS,fLC,yr,zX,wn,yt,XH,xQ,XR,b1,b2]) ⟨_,_,rfl⟩ ?_ ?_)
  .rintro i d ρ hd ⟨o1,o2,rfl⟩
   rw[zbx,r6]at hd
   obtain⟨e,he,rfl⟩:=u9.mp hd
   have hre:=hr es (.inr rfl) e (j4 he)
   refine⟨_,rfl,?_⟩
   unfold wq
   refine W1 (c:=false) (by simp[fnD,zW,yJ,vx,sIf,wu,Y4,sNo,zR,Vk,ZC,ZD,X5,ZZ,vEv,visF,visG,Sl.f,Sl.g,zd,eC,zr,Yg,eOr,Wu,eIf,eUn,Vq,vy,wx,yO,zb,zw,zt,eFn,fFn,tOf,wE,Zp,yW,asB,asI,zQ,Yn,vO,yL,wF,XC,x9,ltD,leD,gtD,geD,XN,zK,yo,zO,yj,X2,ym,ixD,YC,yz,isT,eSl,vF,x6,yK,yE,iOf,YV,yZ,Z5,wL,ZH,yY,wS,fLC,yr,zX,wn,yt,XH,xQ,XR,b1,b2,hre]) (λz=>by cases z) λ_=>ZB rfl ⟨_,_,rfl⟩
  .rintro ρ ⟨o1,o2,rfl⟩
   exact ZK rfl rfl
theorem zgT:∀ (n:Nat) {d:D},okE n d=true->zhb 4 yf (n+1) [d,d]=some (.bl true):=by
 intro n
 induction n with
 | zero =>
  intro d h
  refine zbH (λes he=>?_) (λns e=>by subst e;cases h) (λ_ _ _ _ e=>by subst e;cases h)
  rcases he with rfl | rfl <;> cases h
 | succ n ih =>
  intro d h
  refine zbH (λes he e hm=>?_) (λns e=>by subst e;cases h) (λ_ _ _ _ e=>by subst e;cases h)
  rcases he with rfl | rfl
  .exact ih (u0y.mp h e hm)
  .exact ih (u0y.mp h e hm)
theorem zeU {d:D}(h:okE 5 d=true):wR [d,d]=some (.bl true):=zgT 5 h
theorem za0 (T:Txt K mg ad):y6 P w K mg base CX0 7 ad.f__law_same ad.e__law_same ["found","due"] (@spD ⟨K⟩ 2 wR):=by
 letI:KK:=⟨K⟩
 have R:∀ n,y6 P w K mg base CX0 (1+n) ad.f__law_same ad.e__law_same ["found","due"] (spD 2 (zhb 4 yf n)):=by
  refine zjd (P:=P) (w:=w) (mg:=mg) (base:=base) (k0:=1) (g:=yf) T.d__law_same.fn YJ λk r hrec cdv A outer s H E hr=>?_
  unfold yf wq
  exact(ze (xL (yg zji zgk (zG _) (edv 1) (zbb zaG)) (zf (zB (YE zji zgk (zG _) (edv 0) (zbb zaG)))) zH)
   (ze (xL (xv (zL .bool rfl T.z_isinstance (edv 1) (yD (v:=.ty "bool") rfl T.z_bool VG rfl))) (zf (zB (Yx (zL .bool rfl T.z_isinstance (edv 0) (yD (v:=.ty "bool") rfl T.z_bool VG rfl)) (ZY (YE (vE hr) xN (zG _) (edv 0) (edv 1)))))) zH)
   (ze (xL (xv (zL .int rfl T.z_isinstance (edv 1) (yD (v:=.ty "int") rfl T.z_int zfi rfl))) (zf (zB (Yx (zL .int rfl T.z_isinstance (edv 0) (yD (v:=.ty "int") rfl T.z_int zfi rfl)) (Yx (zi1 (zL .bool rfl T.z_isinstance (edv 0) (yD (v:=.ty "bool") rfl T.z_bool VG rfl))) (ZY (YE (vE hr) xN (zG _) (edv 0) (edv 1))))))) zH)
   (ze (xL (xv (zL .str rfl T.z_isinstance (edv 1) (yD (v:=.ty "str") rfl T.z_str zjm rfl))) (zf (zB (Yx (zL .str rfl T.z_isinstance (edv 0) (yD (v:=.ty "str") rfl T.z_str zjm rfl)) (ZY (YE (vE hr) xN (zG _) (edv 0) (edv 1)))))) zH)
   (ze (xL (zic (zb4 (yg zbJ WC (zG _) (zL .list rfl T.z_isinstance (edv 1) (yD (v:=.ty "list") rfl T.z_list zcf rfl)) (zL .list rfl T.z_isinstance (edv 0) (yD (v:=.ty "list") rfl T.z_list zcf rfl))) (WO (yg zbJ WC (zG _) (zL .tuple rfl T.z_isinstance (edv 1) (yD (v:=.ty "tuple") rfl T.z_tuple xc rfl)) (zL .tuple rfl T.z_isinstance (edv 0) (yD (v:=.ty "tuple") rfl T.z_tuple xc rfl)))))) (zf (zB (YB vT))) zH)
   (ze (xL (yg zbJ WC (zG _) (zP yb Yb rfl T.z_len Zs (za (edv 0) zc)) (zP yb Yb rfl T.z_len Zs (za (edv 1) zc))) (zf (zB (YB vT))) zH)
   (ze (Zw i9 rfl (zmH rfl T.z_zip (za (edv 0) (za (edv 1) zc))) (zeL rfl (YO (yx (zC (i:=2) YJ.nd rfl (Or.inl rfl))) (YO (yx (zC (i:=3) YJ.nd rfl (Or.inl rfl))) zcj))) (zf (xL (Yp (xv (zcl hrec hr rfl T.d__law_same.at_ T.d__law_same.kp T.d__law_same.bd (za (edv 2) (za (edv 3) zc))))) (zf (zB (YB vT))) zH)))
   (zf (zB (YB vT))))))))))
 exact R 6
def xX:SE->Ctl :=
 (zW (sIf (tOf (zr ltD (zd 1) (eFn YC (zb (zd 0) zw)))) (yJ (zr ixD (zd 0) (zd 1))) zR)
  (yJ (eC (.int 0))))
def y9:List D->Option D:=fnD 2 xX
theorem zdH (ns:List Int):∃ c:Int,y9 [.scr ns,.int 0]=some (.int c):=by
 cases ns with
 | nil=>exact⟨0,rfl⟩
 | cons n ns =>
  refine⟨n,?_⟩
  have e:atI (n::ns) 0=some n:=zmX (u1o _) rfl
  simp[y9,xX,fnD,zW,yJ,vx,sIf,wu,Y4,sNo,zR,Vk,ZC,ZD,X5,ZZ,vEv,visF,visG,Sl.f,Sl.g,zd,eC,zr,Yg,eOr,Wu,eIf,eUn,Vq,vy,wx,yO,zb,zw,zt,eFn,fFn,tOf,wE,Zp,yW,asB,asI,zQ,Yn,vO,yL,wF,XC,x9,ltD,leD,gtD,geD,XN,zK,yo,zO,yj,X2,ym,ixD,YC,yz,isT,eSl,vF,x6,yK,yE,iOf,YV,yZ,Z5,wL,ZH,yY,wS,fLC,yr,zX,wn,yt,XH,xQ,XR,b1,b2,e]
theorem WJ (T:Txt K mg ad):y6 P w K mg base CX0 1 ad.f__law_cell_at ad.e__law_cell_at ["script","k"] (@spD ⟨K⟩ 2 y9):=by
 letI:KK:=⟨K⟩
 refine xl (N:=["script","k"]) (ps:=["script","k"]) T.d__law_cell_at.fn Wv (g:=xX) λcdv A outer s H E hr=>?_
 unfold xX
 exact(ze (xL (yg znR yH (zG _) (edv 1) (zP yb Yb rfl T.z_len Zs (za (edv 0) zc))) (zf (zB (yC (edv 0) (edv 1) (λ_ _=>rfl)))) zH)
  (zf (zB (zg zj))))
theorem zhC {ρ:Ev}(ns:List Int)(k:Int)(h:ns.length<=63):∃ xs:List Int,(iOf (zr vB (wx (yO (zb (zt 2 y9 (zb (zd 0) (zb (eC (.int 0)) zw))) zw))) (eSl slD (zd 0) (x6 (eC (.int 1))) (x6 (eC (.int k)))))) (some (.scr ns)::ρ)=some (xs.map .int):=by
 obtain⟨c,hc⟩:=zdH ns
 refine⟨c::zew ns (some 1) (some k),?_⟩
 have e:=zh3 (a:=[.int c]) (b:=(zew ns (some 1) (some k)).map .int) (by have:=zhk ns (some 1) (some k);simp;omega)
 simp[iOf,zr,wx,yO,zb,zw,zt,zd,eC,hc,w6,eSl,x6,asI,slD,e,yE]
theorem zbv (T:Txt K mg ad):y6 P w K mg base CX0 1 ad.i_TooGreat ad.j_TooGreat ["self","many","most"] (spI K 2 ["many","most"] (gI2 "many" "most")):=by
 refine T.fi_TooGreat.ok zbO (λvs H Q E h=>zkG vs H Q E h) λcdv A outer s H vs Q E hr hsp=>?_
 exact⟨_,(wl (znz (pv 0) (pv 1) rfl) (Xk (zob (pv 0) (pv 2) rfl))),(zjP (by decide) hsp)⟩
theorem VH:∀ (N:Nat) (l:List Nat),l.Nodup->(∀ x∈l,x < N)->l.length<=N
 | 0,l,_,h=>by
  cases l with
  | nil=>exact q5 _
  | cons a r=>exact absurd (h a (.head _)) (u3Q _)
 | N+1,l,hn,h=>by
  by_cases hm:N∈l
  .have h1:=VH N (l.erase N) (hn.erase N) λx hx=>by
    have h2:=(hn.mem_erase_iff).mp hx
    exact Nat.lt_of_le_of_ne (Nat.le_of_lt_succ (h x h2.2)) h2.1
   rw[List.length_erase_of_mem hm]at h1
   omega
  .exact Nat.le_succ_of_le (VH N l hn λx hx=>Nat.lt_of_le_of_ne (Nat.le_of_lt_succ (h x hx)) λe=>hm (e ▸ hx))
def zga (B:Nat):List Int->Nat
 | []=>0
 | v::r=>v.toNat+B*zga B r
theorem zha {B:Nat}:∀ {x:List Int},(∀ v∈x,0<=v/\v < (B:Int))->zga B x < B ^ x.length
 | [],_=>Nat.one_pos
 | v::r,h=>by
  have h1:=zha (x:=r) λw hw=>h w (.tail _ hw)
  have h2:=h v (.head _)
  show v.toNat+B*zga B r < B ^ (r.length+1)
  have h3:v.toNat < B:=by omega
  have h4:B*(zga B r+1)<=B*B ^ r.length:=Nat.mul_le_mul_left B h1
  rw[Nat.mul_succ]at h4
  rw[Nat.pow_succ,Nat.mul_comm (B ^ r.length) B]
  exact d7 (by rw[Nat.add_comm];exact Nat.add_lt_add_left h3 _) h4
theorem zdp {B:Nat}:∀ {x y:List Int},x.length=y.length->(∀ v∈x,0<=v/\v < (B:Int))->(∀ v∈y,0<=v/\v < (B:Int))->zga B x=zga B y->x=y
 | [],[],_,_,_,_=>rfl
 | [],_::_,h,_,_,_=>by cases h
 | _::_,[],h,_,_,_=>by cases h
 | v::r,w::q,hl,hx,hy,e=>by
  have h1:=hx v (.head _)
  have h2:=hy w (.head _)
  have e:v.toNat+B*zga B r=w.toNat+B*zga B q:=e
  have hB:0 < B:=by omega
  have e1:v.toNat=w.toNat:=by
   have:=u05 (· % B) e
   simp only[Nat.add_mul_mod_self_left]at this
   rwa[Nat.mod_eq_of_lt (by omega),Nat.mod_eq_of_lt (by omega)]at this
  have e2:zga B r=zga B q:=by
   rw[e1]at e
   exact Nat.eq_of_mul_eq_mul_left hB (u2V e)
  rw[zdp (by simpa using hl) (λz hz=>hx z (.tail _ hz)) (λz hz=>hy z (.tail _ hz)) e2]
  congr 1
  omega
theorem zhn {B m:Nat}{l:List (List Int)}(hn:l.Nodup)(h:∀ x∈l,x.length=m/\∀ v∈x,0<=v/\v < (B:Int)):l.length<=B ^ m:=by
 have h1:=VH (B ^ m) (l.map (zga B)) ?_ ?_
 .rwa[u7]at h1
 .unfold List.Nodup at hn ⊢
  rw[List.pairwise_map]
  refine List.Pairwise.imp_of_mem (λ{a b} ha hb hab e=>hab ?_) hn
  exact zdp (by rw[(h a ha).1,(h b hb).1]) (h a ha).2 (h b hb).2 e
 .intro x hx
  obtain⟨y,hy,rfl⟩:=u0u.mp hx
  have:=zha (h y hy).2
  rwa[(h y hy).1]at this
abbrev Hl:=List Int
def hD (h:Hl):D:=.tup (h.map .int)
def hK (h:Hl):List Key:=h.map Sum.inl
theorem zf7:∀ {a b:Hl},hK a=hK b->a=b
 | [],[],_=>rfl
 | [],_::_,h=>by cases h
 | _::_,[],h=>by cases h
 | a::r,b::q,h=>by
  injection h with h1 h2
  injection h1 with h1
  rw[h1,zf7 h2]
theorem Xd (h:Hl):zes (hD h)=some (hK h):=by
 show zem (h.map .int)=some (h.map Sum.inl)
 induction h with
 | nil=>rfl
 | cons a r ih =>
  show(some (Sum.inl a)).bind (λk=>(zem (r.map .int)).map (k::·))=_
  rw[ih]
  rfl
theorem zgs (h:Hl):zcV true (hK h)=hD h:=by
 show D.tup ((h.map Sum.inl).map k1D)=_
 rw[u07]
 rfl
def W6 (h:Hl)(i x:Int):Hl:=h.set i.toNat x
def moved (h:Hl)(s:Tie):Hl:=W6 (W6 h s.1 (vAt h s.1 - 2)) s.2 (vAt (W6 h s.1 (vAt h s.1 - 2)) s.2+1)
theorem ZI (h:Hl)(i x:Int):(W6 h i x).length=h.length:=by unfold W6;exact u3M
theorem zeR (h:Hl)(s:Tie):(moved h s).length=h.length:=by unfold moved;rw[ZI,ZI]
theorem ziP {h:Hl}{i j x:Int}(hi:0<=i)(hl:i < h.length)(hj:0<=j):vAt (W6 h i x) j=if j=i then x else vAt h j:=by
 unfold vAt W6
 rw[u0l,u1r,u0l]
 by_cases e:j=i
 .subst e
  rw[t9 rfl,t9 (by omega),t9 rfl]
  rfl
 .rw[j0 (by omega),j0 e]
theorem zcL {h:Hl}{i x:Int}(hi:0<=i)(hl:i < h.length):(W6 h i x).sum=h.sum - vAt h i+x:=by
 unfold W6
 rw[zgn (h:=by omega)]
 unfold vAt
 rw[Dl.getD_at (by omega)]
theorem zdm {h:Hl}{i x v:Int}(hv:v∈W6 h i x):v=x\/v∈h:=by
 unfold W6 at hv
 rcases List.mem_or_eq_of_mem_set hv with e | e
 .exact .inr e
 .exact .inl e
structure Ye (n:Nat) (s:Tie):Prop where
 a0:0<=s.1
 a1:s.1 < (n:Int)
 b0:0<=s.2
 b1:s.2 < (n:Int)
 ne:s.1≠s.2
theorem zaW {h:Hl}{s:Tie}(hs:Ye h.length s):(moved h s).sum=h.sum - 1:=by
 unfold moved
 rw[zcL hs.b0 (by rw[ZI];exact hs.b1),zcL hs.a0 hs.a1]
 omega
theorem zfb {h:Hl}{i:Int}(hi:0<=i)(hl:i < h.length):vAt h i∈h:=by
 unfold vAt
 exact Dl.getD_mem (by omega)
theorem zhS {h:Hl}{s:Tie}(hs:Ye h.length s)(hn:∀ v∈h,0<=v)(h2:2<=vAt h s.1):∀ v∈moved h s,0<=v:=by
 intro v hv
 unfold moved at hv
 have e:vAt (W6 h s.1 (vAt h s.1 - 2)) s.2=vAt h s.2:=by
  rw[ziP hs.a0 hs.a1 hs.b0,j0 (λe=>hs.ne e.symm)]
 rcases zdm hv with rfl | hv
 .rw[e]
  have:=hn _ (zfb hs.b0 hs.b1)
  omega
 .rcases zdm hv with rfl | hv
  .omega
  .exact hn v hv
def ZP:SE->Ctl :=
 (zW (ZC 2 (fFn wn (zb (zd 0) zw)))
  (zW (ZZ true 2 (zr ixD (zd 1) (eC (.int 0))) (zr Yn (zr ixD (zd 2) (zr ixD (zd 1) (eC (.int 0)))) (eC (.int 2))))
  (zW (ZZ true 2 (zr ixD (zd 1) (eC (.int 1))) (zr vB (zr ixD (zd 2) (zr ixD (zd 1) (eC (.int 1)))) (eC (.int 1))))
  (sFz 2 (yJ (eFn zX (zb (zd 2) zw)))))))
def Wa:List D->Option D:=fnD 3 ZP
theorem zeg {h:Hl}{s:Tie}(hs:Ye h.length s):Wa [hD h,zq s]=some (hD (moved h s)):=by
 obtain⟨a,b⟩:=s
 obtain⟨a0,a1,b0,b1,ne⟩:=hs
 dsimp only at a0 a1 b0 b1 ne
 refine Vt (ρ:=[.v (hD h),.v (zq (a,b)),.no]) rfl ?_
 unfold ZP
 refine zA (ρ':=[.v (hD h),.v (zq (a,b)),.o (h.map .int)]) rfl ?_
 have ea:=v4 (ns:=h) a0 a1
 obtain⟨g,hg⟩:∃ g,W6 h a (vAt h a - 2)=g:=⟨_,rfl⟩
 have gl:g.length=h.length:=by rw[<-hg,ZI]
 have eb:=v4 (ns:=g) b0 (by rw[gl];exact b1)
 have hm:moved h (a,b)=W6 g b (vAt g b+1):=by unfold moved;rw[hg]
 rw[hm]
 refine xK (zhi (h.map .int) (.int (vAt h a - 2)) a ?_ rfl rfl a0 (by rw[u7];exact a1) ?_)
 .show(Option.bind ((atI (h.map D.int) a).bind λx=>Yn x (.int 2)) λd=>if noL d=true then some d else none)=_
  rw[ea]
  rfl
 rw[show(h.map D.int).set a.toNat (.int (vAt h a - 2))=g.map .int by rw[<-hg];unfold W6;rw[u3N]]
 refine xK (zhi (g.map .int) (.int (vAt g b+1)) b ?_ rfl rfl b0 (by rw[u7,gl];exact b1) ?_)
 .show(Option.bind ((atI (g.map D.int) b).bind λx=>vB x (.int 1)) λd=>if noL d=true then some d else none)=_
  rw[eb]
  rfl
 rw[show(g.map D.int).set b.toNat (.int (vAt g b+1))=(W6 g b (vAt g b+1)).map .int by unfold W6;rw[u3N]]
 exact zkM rfl (ZK rfl rfl)
theorem zd8 (T:Txt K mg ad):y6 P w K mg base CX0 1 ad.f_stepped ad.e_stepped ["heap","step"] (@spD ⟨K⟩ 2 Wa):=by
 letI:KK:=⟨K⟩
 refine xl (N:=["heap","step","stones"]) (ps:=["heap","step"]) T.d_stepped.fn Vh (g:=ZP) λcdv A outer s H E hr=>?_
 unfold ZP
 exact(ze (WF (i:=2) Vh.nd rfl (Or.inl rfl) (zgv rfl T.z_list (za (edv 0) zc)))
  (ze (zcJ (m:=true) (Xz (yC (edv 2) (yC (edv 1) (zg zj) (λ_ _=>rfl)) (λ_ _=>rfl)) (zg zj)) (pv 2) (yC (edv 1) (zg zj) (λ_ _=>rfl)))
  (ze (zcJ (m:=true) (xn (yC (edv 2) (yC (edv 1) (zg zj) (λ_ _=>rfl)) (λ_ _=>rfl)) (zg zj)) (pv 2) (yC (edv 1) (zg zj) (λ_ _=>rfl)))
  (Wh 2 (zf (zB (vI yX vD rfl T.z_tuple xc (za (edv 2) zc))))))))
inductive Beh (ss:List Tie) (h0:Hl):Hl->Prop
 | zero:Beh ss h0 h0
 | step {g:Hl} {s:Tie}:Beh ss h0 g->s∈ss->2<=vAt g s.1->Beh ss h0 (moved g s)
abbrev Fd:=List (Hl × Option (Hl × Tie))
def zjl:Option (Hl × Tie)->D
 | none=>.non
 | some p=>.tup [hD p.1,zq p.2]
def fdK (f:Fd):List (List Key):=f.map λe=>hK e.1
def fdV (f:Fd):List D:=f.map λe=>zjl e.2
def XD:Fd->Hl->Option (Option (Hl × Tie))
 | [],_=>none
 | e::f,g=>if e.1=g then some e.2 else XD f g
theorem zcA (g:Hl):∀ f:Fd,ZQ (fdK f) (fdV f) (hK g)=(XD f g).map zjl
 | []=>rfl
 | e::f=>by
  refine ZA.trans ?_
  show(if hK e.1=hK g then some (zjl e.2)else ZQ (fdK f) (fdV f) (hK g))=(if e.1=g then some e.2 else XD f g).map zjl
  by_cases h:e.1=g
  .rw[t9 h,t9 (by rw[h])];rfl
  .rw[j0 h,j0 (λz=>h (zf7 z)),zcA g f]
def InF (f:Fd)(g:Hl):Prop:=(XD f g).isSome=true
theorem yk {g:Hl}:∀ {f:Fd},InF f g↔∃ e∈f,e.1=g
 | []=>⟨λh=>(by cases h),λ⟨_,h,_⟩=>(by cases h)⟩
 | e::f=>by
  have ih:=yk (g:=g) (f:=f)
  unfold InF at ih ⊢
  show(if e.1=g then some e.2 else XD f g).isSome=true↔_
  by_cases h:e.1=g
  .rw[t9 h]
   exact⟨λ_=>⟨e,.head _,h⟩,λ_=>rfl⟩
  .rw[j0 h,ih]
   constructor
   .rintro⟨x,hx,he⟩
    exact⟨x,.tail _ hx,he⟩
   .rintro⟨x,hx,he⟩
    rcases j7.mp hx with rfl | hx
    .exact absurd he h
    .exact⟨x,hx,he⟩
theorem zcK {e:Hl × Option (Hl × Tie)}{g:Hl}:∀ {f:Fd},XD (f++[e]) g=if (XD f g).isSome=true then XD f g else if e.1=g then some e.2 else none
 | []=>rfl
 | x::f=>by
  have ih:=zcK (e:=e) (g:=g) (f:=f)
  show(if x.1=g then some x.2 else XD (f++[e]) g)=if (if x.1=g then some x.2 else XD f g).isSome=true then (if x.1=g then some x.2 else XD f g)else _
  by_cases h:x.1=g
  .rw[t9 h,t9 h];rfl
  .rw[j0 h,j0 h,ih]
theorem InF.app {f:Fd}{g:Hl}(h:InF f g)(e:Hl × Option (Hl × Tie)):InF (f++[e]) g:=by
 obtain⟨x,hx,he⟩:=yk.mp h
 exact yk.mpr ⟨x,o0.mpr (.inl hx),he⟩
theorem zay (f:Fd)(e:Hl × Option (Hl × Tie)):InF (f++[e]) e.1:=yk.mpr ⟨e,o0.mpr (.inr (.head _)),rfl⟩
theorem Wg {f:Fd}{e:Hl × Option (Hl × Tie)}{g:Hl}(h:InF (f++[e]) g):InF f g\/g=e.1:=by
 obtain⟨x,hx,he⟩:=yk.mp h
 rcases o0.mp hx with hx | hx
 .exact .inl (yk.mpr ⟨x,hx,he⟩)
 .cases j9.mp hx
  exact .inr he.symm
structure zaE (ss:List Tie) (h0:Hl) (f:Fd):Prop where
 nd:(f.map (·.1)).Nodup
 beh:∀ e∈f,Beh ss h0 e.1
 prv:∀ e∈f,(e.2=none/\e.1=h0)\/∃ p s,e.2=some (p,s)/\s∈ss/\2<=vAt p s.1/\e.1=moved p s/\InF f p
 root:XD f h0=some none
theorem zaE.start (ss:List Tie)(h0:Hl):zaE ss h0 [(h0,none)]:=by
 refine⟨by simp,λe he=>?_,λe he=>?_,?_⟩
 .cases j9.mp he;exact .zero
 .cases j9.mp he;exact .inl ⟨rfl,rfl⟩
 .show(if h0=h0 then _ else _)=_
  rw[t9 rfl]
theorem zaE.add {ss:List Tie}{h0 p:Hl}{f:Fd}{s:Tie}(h:zaE ss h0 f)(hp:InF f p)(hs:s∈ss)(h2:2<=vAt p s.1)(hn:¬ InF f (moved p s)):zaE ss h0 (f++[(moved p s,some (p,s))]):=by
 refine⟨?_,λe he=>?_,λe he=>?_,?_⟩
 .rw[i8]
  refine List.nodup_append.mpr ⟨h.nd,by simp,λa ha b hb e=>?_⟩
  cases j9.mp hb
  obtain⟨x,hx,he⟩:=u0u.mp ha
  exact hn (yk.mpr ⟨x,hx,he.trans e⟩)
 .rcases o0.mp he with he | he
  .exact h.beh e he
  .cases j9.mp he
   obtain⟨x,hx,rfl⟩:=yk.mp hp
   exact .step (h.beh x hx) hs h2
 .rcases o0.mp he with he | he
  .rcases h.prv e he with z | ⟨q,t,z1,z2,z3,z4,z5⟩
   .exact .inl z
   .exact .inr ⟨q,t,z1,z2,z3,z4,z5.app _⟩
  .cases j9.mp he
   exact .inr ⟨p,s,rfl,hs,h2,rfl,hp.app _⟩
 .rw[zcK,h.root]
  rfl
structure HOk (n:Nat) (S:Int) (g:Hl):Prop where
 len:g.length=n
 nn:∀ v∈g,0<=v
 sum:g.sum<=S
theorem Beh.ok {n:Nat}{ss:List Tie}{h0 g:Hl}(hs:∀ s∈ss,Ye n s)(h:HOk n h0.sum h0)(b:Beh ss h0 g):HOk n h0.sum g:=by
 induction b with
 | zero=>exact h
 | step b hs' h2 ih =>
  have e:=hs _ hs'
  rw[<-ih.len]at e
  refine⟨by rw[zeR];exact ih.len,zhS e ih.nn h2,?_⟩
  rw[zaW e]
  have:=ih.sum
  omega
theorem zaE.count {n:Nat}{ss:List Tie}{h0:Hl}{f:Fd}(hs:∀ s∈ss,Ye n s)(h:HOk n h0.sum h0)(ok:zaE ss h0 f):f.length<=(h0.sum.toNat+1) ^ n:=by
 have e:=zhn (B:=h0.sum.toNat+1) (m:=n) ok.nd λx hx=>by
  obtain⟨y,hy,rfl⟩:=u0u.mp hx
  have b:=(ok.beh y hy).ok hs h
  refine⟨b.len,λv hv=>⟨b.nn v hv,?_⟩⟩
  have h1:=Vp b.nn hv
  have h2:=b.sum
  omega
 rwa[u7]at e
def zfW (ss:List Tie)(f:Fd)(g:Hl):Prop:=∀ s∈ss,2<=vAt g s.1->InF f (moved g s)
structure WT (ss:List Tie) (h0:Hl) (L:Int) (f:Fd) (fu todo:List Hl):Prop where
 ok:zaE ss h0 f
 fur:∀ g∈fu,InF f g/\g.sum=L - 1
 rim:∀ g∈todo,InF f g/\g.sum=L
 all:∀ g,InF f g->zfW ss f g\/g∈todo\/g∈fu
 len:fu.length < f.length
theorem WT.start (ss:List Tie)(h0:Hl):WT ss h0 h0.sum [(h0,none)] [] [h0]:=by
 refine⟨zaE.start ss h0,λg hg=>(by cases hg),λg hg=>?_,λg hg=>.inr (.inl ?_),Nat.one_pos⟩
 .cases j9.mp hg
  exact⟨yk.mpr ⟨_,.head _,rfl⟩,rfl⟩
 .obtain⟨x,hx,rfl⟩:=yk.mp hg
  cases j9.mp hx
  exact .head _
theorem WT.add {n:Nat}{ss:List Tie}{h0 p:Hl}{L:Int}{f:Fd}{fu todo:List Hl}{s:Tie}(hS:∀ s∈ss,Ye n s)(h0k:HOk n h0.sum h0)(h:WT ss h0 L f fu todo)(hp:InF f p)(hL:p.sum=L)(hs:s∈ss)(h2:2<=vAt p s.1)(hn:¬ InF f (moved p s)) :
 WT ss h0 L (f++[(moved p s,some (p,s))]) (fu++[moved p s]) todo:=by
 refine⟨h.ok.add hp hs h2 hn,λg hg=>?_,λg hg=>⟨(h.rim g hg).1.app _,(h.rim g hg).2⟩,λg hg=>?_,by rw[r0,r0];exact Nat.succ_lt_succ h.len⟩
 .rcases o0.mp hg with hg | hg
  .exact⟨(h.fur g hg).1.app _,(h.fur g hg).2⟩
  .cases j9.mp hg
   obtain⟨x,hx,rfl⟩:=yk.mp hp
   have e:=hS s hs
   rw[<-((h.ok.beh x hx).ok hS h0k).len]at e
   exact⟨zay f (moved x.1 s,some (x.1,s)),by rw[zaW e,hL]⟩
 .rcases Wg hg with hg | rfl
  .rcases h.all g hg with z | z | z
   .exact .inl λt ht ht2=>(z t ht ht2).app _
   .exact .inr (.inl z)
   .exact .inr (.inr (o0.mpr (.inl z)))
  .exact .inr (.inr (o0.mpr (.inr (.head _))))
theorem WT.done {ss:List Tie}{h0 p:Hl}{L:Int}{f:Fd}{fu todo:List Hl}(h:WT ss h0 L f fu (p::todo))(hd:zfW ss f p):WT ss h0 L f fu todo:=by
 refine⟨h.ok,h.fur,λg hg=>h.rim g (.tail _ hg),λg hg=>?_,h.len⟩
 rcases h.all g hg with z | z | z
 .exact .inl z
 .rcases j7.mp z with rfl | z
  .exact .inl hd
  .exact .inr (.inl z)
 .exact .inr (.inr z)
theorem WT.turn {ss:List Tie}{h0:Hl}{L:Int}{f:Fd}{fu:List Hl}(h:WT ss h0 L f fu []):WT ss h0 (L - 1) f [] fu:=by
 refine⟨h.ok,λg hg=>(by cases hg),h.fur,λg hg=>?_,p6 (u0P _) h.len⟩
 rcases h.all g hg with z | z | z
 .exact .inl z
 .cases z
 .exact .inr (.inl z)
structure ziq (ss:List Tie) (h0:Hl) (f:Fd):Prop where
 ok:zaE ss h0 f
 iff:∀ g,InF f g↔Beh ss h0 g
theorem WT.fin {ss:List Tie}{h0:Hl}{L:Int}{f:Fd}(h:WT ss h0 L f [] []):ziq ss h0 f:=by
 refine⟨h.ok,λg=>⟨λhg=>?_,λhg=>?_⟩⟩
 .obtain⟨x,hx,rfl⟩:=yk.mp hg
  exact h.ok.beh x hx
 .induction hg with
  | zero=>unfold InF;rw[h.ok.root];rfl
  | step b hs h2 ih =>
   rcases h.all _ ih with z | z | z
   .exact z _ hs h2
   .cases z
   .cases z
theorem zgU {m:Bool}{i:Nat}{f:Ev->Option D}{ρ ρ':SE}{ds:List D}{d:D}(h1:vEv m f ρ=some d)(h2:ρ[i]?=some (.o ds))(h3:ds.length < sizeLine)(h4:ρ.set i (.o (ds++[d]))=ρ'):ZD m i f ρ=.nx ρ':=by
 unfold ZD
 rw[h1,h2]
 show(match (if decide (ds.length < sizeLine)=true then some (ρ.set i (.o (ds++[d])))else none)with | some ρ'=>Ctl.nx ρ' | none=>Ctl.no)=_
 rw[t9 (b6 h3),h4]
theorem zii {m:Bool}{i:Nat}{fk fe:Ev->Option D}{ρ ρ':SE}{f:Fd}{g:Hl}{o:Option (Hl × Tie)}(h1:vEv m fe ρ=some (zjl o))(h2:fk (visG ρ)=some (hD g))(h3:ρ[i]?=some (.m true (fdK f) (fdV f)))(h4:(XD f g).isSome=false)(h5:f.length < sizeLine)
 (h6:ρ.set i (.m true (fdK (f++[(g,o)])) (fdV (f++[(g,o)])))=ρ'):zbP m i fk fe ρ=.nx ρ':=by
 have e:ziM ρ i (hD g) (zjl o)=some ρ':=by
  unfold ziM
  rw[h3]
  show(zes (hD g)).bind (λk=>if decide ((fdK f).length < sizeLine)=true then some (ρ.set i (.m true (zbw (fdK f) (fdV f) k) (zaK (fdK f) (fdV f) k (zjl o))))else none)=_
  have hd:(ZQ (fdK f) (fdV f) (hK g)).isSome=false:=by rw[zcA,u1v];exact h4
  rw[Xd,u0e,t9 (b6 (by unfold fdK;rw[u7];exact h5))]
  unfold zbw zaK
  rw[hd,j0 u6,j0 u6,<- h6]
  unfold fdK fdV
  rw[i8,i8]
  rfl
 unfold zbP
 rw[h1,h2]
 show(match ziM ρ i (hD g) (zjl o)with | some ρ'=>Ctl.nx ρ' | none=>Ctl.no)=_
 rw[e]
theorem zlD {f:Fd}{g:Hl}{z:Bool}:zkE true (hD g) (.dct z true (fdK f) (fdV f))=some (.bl (!(XD f g).isSome)):=by
 show(zes (hD g)).map (λk=>D.bl (true != (ZQ (fdK f) (fdV f) k).isSome))=_
 rw[Xd]
 show some (D.bl (true != (ZQ (fdK f) (fdV f) (hK g)).isSome))=_
 rw[zcA,u1v]
 cases (XD f g).isSome <;> rfl
theorem wO {m:Int}{ts:List Tie}(ok:xJ m ts):∀ s∈yn m ts,Ye m.toNat s:=λs hs=>by
 obtain⟨⟨a0,a1⟩,⟨b0,b1⟩,ht⟩:=Vm.mp hs
 refine⟨a0,by omega,b0,by omega,λe=>?_⟩
 have h3:=(ok.rng _ ht).2.1
 rw[show WG s.1 s.2=(s.2,s.2) by unfold WG;rw[e,j0 (u3p _)]]at h3
 exact absurd h3 (u3p _)
theorem zaE.each {m:Int}{ts:List Tie}{h0:Hl}{f:Fd}(ok:xJ m ts)(hl:(h0.length:Int)=m)(hn:∀ v∈h0,0<=v)(h:zaE (yn m ts) h0 f):∀ e∈f,HOk m.toNat h0.sum e.1:=λe he=>(h.beh e he).ok (wO ok) ⟨by omega,hn,u1o _⟩
theorem zaE.small {m:Int}{ts:List Tie}{h0:Hl}{f:Fd}(ok:xJ m ts)(hl:(h0.length:Int)=m)(hn:∀ v∈h0,0<=v)(hc:(h0.sum.toNat+1) ^ m.toNat < sizeLine)(h:zaE (yn m ts) h0 f):f.length < sizeLine:=p6 (h.count (wO ok) ⟨by omega,hn,u1o _⟩) hc
def xg:SE->Ctl :=
 (zW (wu false 8 (zt 2 Wa (zb (zd 6) (zb (zd 7) zw))))
  (sIf (tOf (zr (zkE true) (zd 8) (zd 3))) (zW (zbP false 3 (zd 8) (vy (zb (zd 6) (zb (zd 7) zw))))
  (ZD false 5 (zd 8))) zR))
def xh:SE->Ctl :=
 (YV (iOf (wx (fLC (iOf (zd 2)) b1 (tOf (zr geD (zr ixD (zd 7) (zr ixD (zd 0) (eC (.int 0)))) (eC (.int 2)))) (zd 0)))) (yt 7) xg)
def yB:SE->Ctl :=
 (zW (ZC 5 (yO zw))
  (zW (YV (iOf (zd 4)) (yt 6) xh)
  (sFz 5 (wu false 4 (zd 5)))))
def xa:SE->Ctl :=
 (zW (wu false 2 (zt 1 wK (zb (zd 0) zw)))
  (zW (zee 3 (zd 1) (eC .non))
  (zW (wu false 4 (wx (yO (zb (zd 1) zw))))
  (zW (vz (tOf (zr gtD (eFn YC (zb (zd 4) zw)) (eC (.int 0)))) yB 20)
  (zm4 3 (yJ (zd 3)))))))
def vh:List D->Option D:=fnD 9 xa
section
variable {N B C:SE->Prop}{R:D->Prop}{W:D}{rm:D}{h0:Hl}{ss:List Tie}{n:Nat}{L:Int}
abbrev hSt (W:D)(h0:Hl)(ss:List Tie)(f:Fd)(rm:D)(fu:List Hl)(o6 o7 o8:Sl):SE:=[.v W,.v (hD h0),.v (.lst (ss.map zq)),.m true (fdK f) (fdV f),.v rm,.o (fu.map hD),o6,o7,o8]
theorem zol {now:Hl}{s:Tie}{f:Fd}{fu:List Hl}{o8:Sl}(hs:Ye now.length s)(hl:f.length < sizeLine)(hfu:fu.length < sizeLine)
 (q1:InF f (moved now s)->N (hSt W h0 ss f rm fu (.v (hD now)) (.v (zq s)) (.v (hD (moved now s)))))
 (q2:¬ InF f (moved now s)->N (hSt W h0 ss (f++[(moved now s,some (now,s))]) rm (fu++[moved now s]) (.v (hD now)) (.v (zq s)) (.v (hD (moved now s))))) :
 (xg (hSt W h0 ss f rm fu (.v (hD now)) (.v (zq s)) o8)).w N B C R:=by
 unfold xg
 refine zA (xO (d:=hD (moved now s)) (zeg hs)) ?_
 refine W1 (c:=!(XD f (moved now s)).isSome) ?_ (λe=>?_) (λe=>?_)
 .show((zkE true (hD (moved now s)) (.dct false true (fdK f) (fdV f))).bind asB)=_
  rw[zlD]
  rfl
 .have e:(XD f (moved now s)).isSome=false:=by simpa using e
  refine zA (zii (f:=f) (g:=moved now s) (o:=some (now,s)) rfl rfl rfl e hl rfl) ?_
  refine ZB (zgU (ds:=fu.map hD) (d:=hD (moved now s)) rfl rfl (by rw[u7];exact hfu) rfl) ?_
  have q:=q2 (λz=>by unfold InF at z;rw[e]at z;cases z)
  rw[hSt,i8]at q
  exact q
 .have e:(XD f (moved now s)).isSome=true:=by simpa using e
  exact ZB rfl (q1 e)
def zmU (ss:List Tie)(now:Hl):List Tie:=ss.filter λs=>decide (2<=vAt now s.1)
theorem znq {now:Hl}{f:Fd}{fu rest:List Hl}{o7 o8:Sl}(hS:∀ s∈ss,Ye n s)(hss:ss.length<=1000)(h0k:HOk n h0.sum h0)(hc:(h0.sum.toNat+1) ^ n < sizeLine)(h:WT ss h0 L f fu (now::rest)) :
 (xh (hSt W h0 ss f rm fu (.v (hD now)) o7 o8)).w (fun ρ'=>∃ f' fu' o6 o7 o8,ρ'=hSt W h0 ss f' rm fu' o6 o7 o8/\WT ss h0 L f' fu' rest) B C R:=by
 unfold xh
 have hnow:=h.rim now (.head _)
 have hnl:now.length=n:=by
  obtain⟨x,hx,rfl⟩:=yk.mp hnow.1
  exact((h.ok.beh x hx).ok hS h0k).len
 refine WY (ds:=(zmU ss now).map zq) (λj ρ=>∃ f fu o7 o8,ρ=hSt W h0 ss f rm fu (.v (hD now)) o7 o8/\WT ss h0 L f fu (now::rest)/\∀ s∈(zmU ss now).take j,InF f (moved now s)) ?_ ⟨f,fu,o7,o8,rfl,h,λs hs=>(by rw[u1K]at hs;cases hs)⟩ ?_ ?_
 .have e:fLC (iOf (zd 2)) b1 (tOf (zr geD (zr ixD (zd 7) (zr ixD (zd 0) (eC (.int 0)))) (eC (.int 2)))) (zd 0) (visF (hSt W h0 ss f rm fu (.v (hD now)) o7 o8))=some ((zmU ss now).map zq):=by
   unfold fLC
   show(if lim (ss.map zq).length=true then _ else none)=_
   rw[t9 (w6 (by rw[u7];exact hss))]
   refine vK zq (λs=>decide (2<=vAt now s.1)) zq ss λs hs=>⟨[some (zq s)],rfl,?_,λ_=>rfl⟩
   have hi:=hS s hs
   show(Option.bind ((atI (now.map D.int) s.1).bind λx=>geD x (.int 2)) asB)=_
   rw[v4 hi.a0 (by rw[hnl];exact hi.a1)]
   rfl
  show((fLC _ _ _ _ _).map D.lst).bind yE=_
  rw[e]
  rfl
 .rintro i d ρ hd ⟨f,fu,o7,o8,rfl,hm,ha⟩
  rw[r6]at hd
  obtain⟨s,hs,rfl⟩:=u9.mp hd
  have hmem:s∈zmU ss now:=j4 hs
  have hs2:=u1P.mp hmem
  have h2:2<=vAt now s.1:=p0 hs2.2
  refine⟨hSt W h0 ss f rm fu (.v (hD now)) (.v (zq s)) o8,rfl,?_⟩
  have hi:=hS s hs2.1
  rw[<-hnl]at hi
  have hcnt:=p6 (hm.ok.count hS h0k) hc
  have ht:∀ f':Fd,(∀ g,InF f g->InF f' g)->InF f' (moved now s)->∀ t∈(zmU ss now).take (i+1),InF f' (moved now t):=λf' up hin t ht=>by
   rw[u1t,hs]at ht
   rcases o0.mp ht with ht | ht
   .exact up _ (ha t ht)
   .cases j9.mp ht
    exact hin
  refine zol hi hcnt (u3P hm.len hcnt) (λq=>⟨f,fu,_,_,rfl,hm,ht f (λg hg=>hg) q⟩) λq=>⟨_,_,_,_,rfl,hm.add hS h0k (hm.rim now (.head _)).1 (hm.rim now (.head _)).2 hs2.1 h2 q,ht _ (λg hg=>hg.app _) (zay f (moved now s,some (now,s)))⟩
 .rintro ρ ⟨f,fu,o7,o8,rfl,hm,ha⟩
  rw[u7,u1i]at ha
  exact⟨f,fu,_,o7,o8,rfl,hm.done λs hs h2=>ha s (u1P.mpr ⟨hs,b6 h2⟩)⟩
abbrev hWt (W:D)(h0:Hl)(ss:List Tie)(f:Fd)(rim:List Hl)(o5 o6 o7 o8:Sl):SE:=[.v W,.v (hD h0),.v (.lst (ss.map zq)),.m true (fdK f) (fdV f),.v (.lst (rim.map hD)),o5,o6,o7,o8]
theorem znu {f:Fd}{rim:List Hl}{o5 o6 o7 o8:Sl}(hS:∀ s∈ss,Ye n s)(hss:ss.length<=1000)(h0k:HOk n h0.sum h0)(hc:(h0.sum.toNat+1) ^ n < sizeLine)(h:WT ss h0 L f [] rim) :
 (yB (hWt W h0 ss f rim o5 o6 o7 o8)).w (fun ρ'=>∃ f' rim' o5 o6 o7 o8,ρ'=hWt W h0 ss f' rim' o5 o6 o7 o8/\WT ss h0 (L - 1) f' [] rim') B C R:=by
 unfold yB
 refine zA (ρ':=hSt W h0 ss f (.lst (rim.map hD)) [] o6 o7 o8) rfl ?_
 refine xK (WY (ds:=rim.map hD) (λi ρ=>∃ f fu o6 o7 o8,ρ=hSt W h0 ss f (.lst (rim.map hD)) fu o6 o7 o8/\WT ss h0 L f fu (rim.drop i)) rfl ⟨f,[],o6,o7,o8,rfl,h⟩ ?_ ?_)
 .rintro i d ρ hd ⟨f,fu,o6,o7,o8,rfl,hm⟩
  rw[r6]at hd
  obtain⟨now,hnow,rfl⟩:=u9.mp hd
  refine⟨hSt W h0 ss f (.lst (rim.map hD)) fu (.v (hD now)) o7 o8,rfl,?_⟩
  obtain⟨hi,he⟩:=t7.mp hnow
  rw[u0o hi,he]at hm
  exact znq hS hss h0k hc hm
 .rintro ρ ⟨f,fu,o6,o7,o8,rfl,hm⟩
  rw[u7,u1D]at hm
  refine zkM (ρ':=[.v W,.v (hD h0),.v (.lst (ss.map zq)),.m true (fdK f) (fdV f),.v (.lst (rim.map hD)),.v (.lst (fu.map hD)),o6,o7,o8]) rfl ?_
  exact ZB (ρ':=hWt W h0 ss f fu (.v (.lst (fu.map hD))) o6 o7 o8) rfl ⟨f,fu,_,_,_,_,rfl,hm.turn⟩
def zjT:SE->Nat
 | [_,_,_,_,.v (.lst (.tup ds::_)),_,_,_,_]=>(((zcv ds).getD []).sum+1).toNat
 | _=>0
theorem Xb {f:Fd}{g:Hl}{rim:List Hl}{o5 o6 o7 o8:Sl}:zjT (hWt W h0 ss f (g::rim) o5 o6 o7 o8)=(g.sum+1).toNat:=by
 show(((zcv (g.map .int)).getD []).sum+1).toNat=_
 rw[Zt]
 rfl
theorem zbC {f:Fd}{o5 o6 o7 o8:Sl}:zjT (hWt W h0 ss f [] o5 o6 o7 o8)=0:=rfl
theorem zod {f:Fd}{rim:List Hl}{o5 o6 o7 o8:Sl}(hS:∀ s∈ss,Ye n s)(hss:ss.length<=1000)(h0k:HOk n h0.sum h0)(hc:(h0.sum.toNat+1) ^ n < sizeLine)(hr:h0.sum<=18)(h:WT ss h0 h0.sum f [] rim) :
 (vz (tOf (zr gtD (eFn YC (zb (zd 4) zw)) (eC (.int 0)))) yB 20 (hWt W h0 ss f rim o5 o6 o7 o8)).w (fun ρ'=>∃ f' o5 o6 o7 o8,ρ'=hWt W h0 ss f' [] o5 o6 o7 o8/\ziq ss h0 f') B C R:=by
 have nn:∀ {f:Fd} {g:Hl},zaE ss h0 f->InF f g->0<=g.sum/\g.sum<=h0.sum:=λ{f g} ok hg=>by
  obtain⟨x,hx,rfl⟩:=yk.mp hg
  have b:=(ok.beh x hx).ok hS h0k
  exact⟨zgd b.nn,b.sum⟩
 refine Z6 (fun ρ=>∃ L f rim o5 o6 o7 o8,ρ=hWt W h0 ss f rim o5 o6 o7 o8/\WT ss h0 L f [] rim) zjT ?_ 20 _ ⟨_,f,rim,o5,o6,o7,o8,rfl,h⟩ ?_
 .rintro ρ ⟨L,f,rim,o5,o6,o7,o8,rfl,hm⟩
  refine⟨decide ((0:Int) < ((rim.map hD).length:Int)),rfl,λc=>?_,λc=>?_⟩
  .cases rim with
   | nil=>cases c
   | cons g rim =>
    have hg:=hm.rim g (.head _)
    refine za6 (znu hS hss h0k hc hm) ?_ (λ_ h=>h) (λ_ h=>h) (λ_ h=>h)
    .rintro ρ ⟨f',rim',o5,o6,o7,o8,rfl,hm'⟩
     refine⟨⟨_,f',rim',o5,o6,o7,o8,rfl,hm'⟩,?_⟩
     rw[Xb,hg.2]
     have h3:=(nn hm.ok hg.1).1
     rw[hg.2]at h3
     cases rim' with
     | nil=>rw[zbC];omega
     | cons g' rim' =>
      rw[Xb,(hm'.rim g' (.head _)).2]
      omega
  .cases rim with
   | nil=>exact⟨f,o5,o6,o7,o8,rfl,hm.fin⟩
   | cons g rim =>
    exfalso
    have:=of_decide_eq_false c
    rw[i4,u0d]at this
    omega
 .cases rim with
  | nil=>rw[zbC];decide
  | cons g rim =>
   rw[Xb]
   have:=(nn h.ok (h.rim g (.head _)).1).2
   omega
end
theorem Wr {m:Int}{ts:List Tie}{h0:Hl}(ok:xJ m ts)(hl:(h0.length:Int)=m)(hn:∀ v∈h0,0<=v)(hr:h0.sum<=18)(hc:(h0.sum.toNat+1) ^ m.toNat < sizeLine) :
 ∃ f,vh [zM m ts,hD h0]=some (.dct true true (fdK f) (fdV f))/\ziq (yn m ts) h0 f:=by
 have hS:=wO ok
 have hss:(yn m ts).length<=1000:=by
  have h1:=Y0 ok m.toNat
  have:=ok.hi
  unfold yn
  omega
 have h0k:HOk m.toNat h0.sum h0:=⟨by omega,hn,u1o _⟩
 have hw:=(xT (zM m ts)).mpr ⟨m,ts,rfl,ok⟩
 have e1:wK [zM m ts]=some (.lst ((yn m ts).map zq)):=by
  simp only[wK]
  rw[t9 hw,Zu,ZF]
 obtain⟨d,e,f,rfl,hf⟩:=zeb (m:=9) (g:=xa) (ds:=[zM m ts,hD h0]) (R:=λd=>∃ f,d=.dct true true (fdK f) (fdV f)/\ziq (yn m ts) h0 f) rfl (by
  unfold xa
  refine zA (xO (d:=.lst ((yn m ts).map zq)) e1) ?_
  refine zA (ρ':=[.v (zM m ts),.v (hD h0),.v (.lst ((yn m ts).map zq)),.m true (fdK [(h0,none)]) (fdV [(h0,none)]),.no,.no,.no,.no,.no]) ?_ ?_
  .unfold zee
   show(match ((zes (hD h0)).map λk=>Sl.m true [k] [D.non])with | some s=>Ctl.nx _ | none=>Ctl.no)=_
   rw[Xd]
   rfl
  refine zA (ρ':=hWt (zM m ts) h0 (yn m ts) [(h0,none)] [h0] .no .no .no .no) rfl ?_
  refine xK (za6 (zod hS hss h0k hc hr (WT.start (yn m ts) h0)) ?_ (λ_ h=>h) (λ_ h=>h) (λ_ h=>h))
  rintro ρ ⟨f,o5,o6,o7,o8,rfl,hf⟩
  exact ZK (d:=.dct true true (fdK f) (fdV f)) rfl ⟨f,rfl,hf⟩)
 exact⟨f,e,hf⟩
theorem X7 (T:Txt K mg ad):y6 P w K mg base CX0 4 ad.f_heaps_behind ad.e_heaps_behind ["web","heap"] (@spD ⟨K⟩ 2 vh):=by
 letI:KK:=⟨K⟩
 have G_all_steps:=zbh (P:=P) (w:=w) (base:=base) T
 have G_stepped:=zd8 (P:=P) (w:=w) (base:=base) T
 refine xl (N:=["web","heap","steps","found","rim","further","now","step","then"]) (ps:=["web","heap"]) T.d_heaps_behind.fn zE (g:=xa) λcdv A outer s H E hr=>?_
 unfold xa yB xh xg
 exact(ze (yP (m:=false) (i:=2) zE.nd rfl (Or.inl rfl) (zo G_all_steps hr rfl T.d_all_steps (za (edv 0) zc)))
  (ze (zeZ (i:=3) hr zE.nd rfl (Or.inl rfl) (edv 1) (zbb zaG))
  (ze (yP (m:=false) (i:=4) zE.nd rfl (Or.inl rfl) (vt (Yi (za (edv 1) zc))))
  (ze (zab 20 i9 (yg za3 yH (zG _) (zP yb Yb rfl T.z_len Zs (za (edv 4) zc)) (zg zj)) (ze (WF (i:=5) zE.nd rfl (Or.inl rfl) (Yi zc))
  (ze (Zw i9 rfl (wV (edv 4)) (yx (zC (i:=6) zE.nd rfl (Or.inr rfl))) (zf (Zw i9 rfl (wV (vt (zfu (L:=["step"]) (M:=["web","heap","steps","found","rim","further","now","·step","then"]) rfl (YY (by rfl) (by rfl) (by rfl) (by with_unfolding_all rfl) (by rfl) (by rfl) (by kernel_rfl) (all_cons rfl wd)) (wV (edv 2)) gs1 rb1 (λ_ _ _ _=>(zC (i:=0) zn9 rfl (Or.inl rfl) (.inr rfl))) (λ_ _ _ _=>(yg zlz yH (zG _) (yC (edv 7) (yC (edv 0) (zg zj) (λ_ _=>rfl)) (λ_ _=>rfl)) (zg zj))) (λ_ _ _ _=>(edv 0))))) (yx (zC (i:=7) zE.nd rfl (Or.inl rfl))) (ze (yP (m:=false) (i:=8) zE.nd rfl (Or.inl rfl) (zo G_stepped hr rfl T.d_stepped (za (edv 6) (za (edv 7) zc))))
  (zf (xL (yg (zbK hr) zfh (by with_unfolding_all rfl) (edv 8) (edv 3)) (ze (zfy (m:=false) hr (w8 (za (edv 6) (za (edv 7) zc))) (pv 3) (edv 8))
  (zf (zfE (m:=false) (pv 5) (edv 8) (λa b=>zcp u0x u2a u2b WA a b)))) zH))))))
  (Wh 5 (zf (yP (m:=false) (i:=4) zE.nd rfl (Or.inl rfl) (edv 5)))))))
  (zfQ 3 (zf (zB (edv 3))))))))
theorem zh0 {α:Type}(f:α->Bool)(l:List α):zl9 [.lst (l.map λx=>.bl (f x))]=some (.bl (l.any f)):=by
 have:zhc (l.map λx=>D.bl (f x))=some (l.map f):=by
  have:=zcT (l.map f)
  rwa[u07]at this
 show((zhc (l.map λx=>D.bl (f x))).bind λbs=>some (D.bl (bs.any id)))=_
 rw[this]
 show some (D.bl ((l.map f).any id))=_
 rw[List.any_map]
 rfl
theorem za4 (ns:List Int):zeu [.tup (ns.map .int)]=some (.int ns.sum):=by
 show((zcv (ns.map .int)).bind λns=>some (D.int ns.sum))=_
 rw[Zt]
 rfl
theorem zhy {m:Nat}{p:List D->Option D}{f:Ev->Option (List D)}{ρ:Ev}{ds:List D}(h:f ρ=some ds)(hl:ds.length=m):zt m p f ρ=p ds:=by
 unfold zt
 rw[h,u0e,t9 hl]
theorem zgN (f:Fd):zcU (.dct true true (fdK f) (fdV f))=some (f.map λe=>hD e.1):=by
 show some ((fdK f).map (zcV true))=_
 unfold fdK
 rw[u07]
 congr 1
 exact u2R λe _=>zgs e.1
def yU:SE->Ctl :=
 (sIf (tOf (zr gtD (zd 0) (zd 1))) sNo zR)
def yT:List D->Option D:=fnD 2 yU
theorem YG {a b:Int}(h:a<=b):yT [.int a,.int b]=some .non:=by
 refine Vt (ρ:=[.v (.int a),.v (.int b)]) rfl ?_
 unfold yU
 refine W1 (c:=false) ?_ (λz=>by cases z) (λ_=>ZB rfl rfl)
 show some (decide (b < a))=_
 rw[h9 (Int.not_lt.mpr h)]
theorem xB (T:Txt K mg ad):y6 P w K mg base CX0 3 ad.f_must_be_at_most ad.e_must_be_at_most ["many","most"] (@spD ⟨K⟩ 2 yT):=by
 letI:KK:=⟨K⟩
 refine xl (N:=["many","most"]) (ps:=["many","most"]) T.d_must_be_at_most.fn wY (g:=yU) λcdv A outer s H E hr=>?_
 unfold yU
 exact(zf (xL (yg za3 yH (zG _) (edv 0) (edv 1)) (zf V3) zH))
def ya:SE->Option Nat :=
 (xIf (tOf (zr gtD (zd 0) (zd 1))) (xRI (znX 12) (zb (zd 0) (zb (zd 1) zw))) xNo)
def xH:List D->Option Nat:=fnX 2 ya
theorem xk (T:Txt K mg ad):y6 P w K mg base (Air P w) 3 ad.f_must_be_at_most ad.e_must_be_at_most ["many","most"] (@spX ⟨K⟩ (clT ad) 2 xH):=by
 letI:KK:=⟨K⟩
 refine zfZ (cl:=clT ad) (N:=["many","most"]) (ps:=["many","most"]) T.d_must_be_at_most.fn wY (gx:=ya) λcdv A outer s H E hr=>?_
 unfold ya
 exact(Z9 (zk4 (yg za3 yH (zG _) (edv 0) (edv 1)) (Z9 (zgZ (cl:=clT ad) ⟨T.g_TooGreat,T.ei_TooGreat,T.ea_TooGreat,zcB T.na_TooGreat⟩ (zbv (P:=P) (w:=w) (base:=base) T) T.bi_TooGreat (zjX (zlq ad) (show 12 < 16 by decide)) (hr.mono (by decide)) rfl (za (edv 0) (za (edv 1) zc)))) zf5))
theorem Vy {m:Int}{ts:List Tie}(ok:xJ m ts):zS [zM m ts]=some .non:=by
 have hw:vM (zM m ts)=true:=(xT _).mpr ⟨_,_,rfl,ok⟩
 simp only[zS]
 rw[t9 hw]
theorem ze7 {m:Int}{ts:List Tie}{h:Hl}(ok:xJ m ts)(hl:(h.length:Int)=m)(hn:∀ v∈h,0<=v)(hr:h.sum<=300):y8 [zM m ts,hD h]=some .non:=by
 show(if (noS (.tup (h.map .int))&&decide (m<=1000)&&Y9 m (.tup (h.map .int)))=true then some D.non else none)=_
 rw[zhN,zgj ok,zdF hl hn hr]
 rfl
def ziv (f:Fd)(p:Int):Bool:=f.any λe=>decide (0 < vAt e.1 p)
def ZU:SE->Ctl :=
 (zW (Y4 (zt 1 zS (zb (zd 0) zw)))
  (zW (Y4 (zt 2 y8 (zb (zd 0) (zb (zd 1) zw))))
  (zW (Y4 (zt 2 yT (zb (eFn zeu (zb (zd 1) zw)) (zb (eC (.int 12)) zw))))
  (zW (wu false 2 (zt 2 vh (zb (zd 0) (zb (zd 1) zw))))
  (yJ (wx (fLC (Z5 wL (zb (zr ixD (zd 0) (eC (.int 0))) zw)) b1 (tOf (eFn zl9 (zb (wx (fLC (zmZ (zd 3)) b1 yr (zr gtD (zr ixD (zd 0) (zd 1)) (eC (.int 0))))) zw))) (zd 0))))))))
def vG:List D->Option D:=fnD 3 ZU
theorem zdW {m:Int}{ts:List Tie}{h0:Hl}(ok:xJ m ts)(hl:(h0.length:Int)=m)(hn:∀ v∈h0,0<=v)(hr:h0.sum<=12)(hc:(h0.sum.toNat+1) ^ m.toNat < sizeLine) :
 ∃ f,vG [zM m ts,hD h0]=some (.lst (((List.range m.toNat).filter λk:Nat=>ziv f (k:Int)).map Zn))/\ziq (yn m ts) h0 f:=by
 obtain⟨f,e,hf⟩:=Wr ok hl hn (by omega) hc
 refine⟨f,?_,hf⟩
 have hfl:=hf.ok.small ok hl hn hc
 have hfe:=hf.ok.each ok hl hn
 refine Vt (ρ:=[.v (zM m ts),.v (hD h0),.no]) rfl ?_
 unfold ZU
 refine zA (Yw (Vy ok)) ?_
 refine zA (Yw (ze7 ok hl hn (by omega))) ?_
 refine zA (Yw (d:=.non) ?_) ?_
 .refine(zhy (ds:=[.int h0.sum,.int 12]) ?_ rfl).trans (YG hr)
  show(zeu [.tup (h0.map .int)]).bind (λd=>(some [D.int 12]).map (d::·))=_
  rw[za4]
  rfl
 refine zA (xO (d:=.dct true true (fdK f) (fdV f)) e) ?_
 refine ZK (vm (d:=.lst (((List.range m.toNat).filter λk:Nat=>ziv f (k:Int)).map Zn)) (zlc ?_)) rfl
 unfold fLC
 show((wL [.int m]).bind λds=>if lim ds.length=true then _ else none)=_
 rw[XO ok]
 show(if lim (Zo 0 m.toNat).length=true then _ else none)=_
 rw[t9 (w6 (by rw[Wt];have:=ok.hi;omega))]
 refine vK (c:=Zn) (p:=λk=>ziv f (k:Int)) (y:=Zn) (List.range m.toNat) λk hk=>⟨[some (Zn k)],rfl,?_,λ_=>rfl⟩
 have e2:fLC (zmZ (zd 3)) b1 yr (zr gtD (zr ixD (zd 0) (zd 1)) (eC (.int 0))) [some (Zn k),some (zM m ts),some (hD h0),some (.dct true true (fdK f) (fdV f))]=some (f.map λe=>.bl (decide (0 < vAt e.1 (k:Int)))):=by
  unfold fLC
  show((zcU (.dct true true (fdK f) (fdV f))).bind λds=>if lim ds.length=true then _ else none)=_
  rw[zgN,u0e,t9 (show lim (f.map λe=>hD e.1).length=true from b6 (by rw[u7];exact u0W hfl))]
  refine Za (λe:Hl × Option (Hl × Tie)=>hD e.1) _ f λe he=>⟨[some (hD e.1)],rfl,rfl,?_⟩
  have hb:=(hfe e he).len
  rw[u0I]at hk
  show((atI (e.1.map D.int) (0+(k:Int))).bind λx=>gtD x (.int 0))=_
  rw[u1N,v4 (by omega) (by omega)]
  rfl
 show(Option.bind (Option.bind ((Option.map D.lst (fLC (zmZ (zd 3)) b1 yr (zr gtD (zr ixD (zd 0) (zd 1)) (eC (.int 0))) [some (Zn k),some (zM m ts),some (hD h0),some (.dct true true (fdK f) (fdV f))])).bind λd=>some [d]) zl9) asB)=_
 rw[e2]
 show(Option.bind (zl9 [.lst (f.map λe=>.bl (decide (0 < vAt e.1 (k:Int))))]) asB)=_
 rw[zh0]
 rfl
theorem zd4 (T:Txt K mg ad):y6 P w K mg base CX0 8 ad.f_reached ad.e_reached ["web","heap"] (@spD ⟨K⟩ 2 vG):=by
 letI:KK:=⟨K⟩
 have G_must_be_at_most:=xB (P:=P) (w:=w) (base:=base) T
 have X_must_be_at_most:=xk (P:=P) (w:=w) (base:=base) T
 have G_must_be_web:=ve (P:=P) (w:=w) (base:=base) T
 have G_must_be_heap:=Wm (P:=P) (w:=w) (base:=base) T
 have G_heaps_behind:=X7 (P:=P) (w:=w) (base:=base) T
 refine xl (N:=["web","heap","found"]) (ps:=["web","heap"]) T.d_reached.fn Vi (g:=ZU) λcdv A outer s H E hr=>?_
 unfold ZU
 exact(ze (YI (zo G_must_be_web hr rfl T.d_must_be_web (za (edv 0) zc)))
  (ze (YI (zo G_must_be_heap hr rfl T.d_must_be_heap (za (edv 0) (za (edv 1) zc))))
  (ze (YI (zo G_must_be_at_most hr rfl T.d_must_be_at_most (za (zP (vH rfl) Xh rfl T.z_sum Wy (za (edv 1) zc)) (za (zg (yF (v:=.int 12) rfl T.g_MOST_SEARCHED ⟨_,rfl⟩)) zc))))
  (ze (yP (m:=false) (i:=2) Vi.nd rfl (Or.inr rfl) (zo G_heaps_behind hr rfl T.d_heaps_behind (za (edv 0) (za (edv 1) zc))))
  (zf (zB (vt (zgg (x0:="place") (M:=["web","heap","found"]) rfl (zjn (by rfl) (by rfl) (by rfl) (by with_unfolding_all rfl) (λ_=>rfl) (λ_=>rfl) (by rfl) (by rfl) (by kernel_rfl) (all_cons rfl wd)) (Zr rfl T.z_range (za (yC (edv 0) (zg zj) (λ_ _=>rfl)) zc)) gs1 rb1 (λ_ _ _ _=>(zC (i:=0) zn7 rfl (Or.inr rfl) (.inl rfl))) (λ_ _ _ _=>(xv (zP (zfN rfl) zj5 rfl T.z_any zk6 (za (vt (X8 (L:=["other"]) (M:=["place","web","heap","found"]) rfl (YY (by rfl) (by rfl) (by rfl) (by with_unfolding_all rfl) (by rfl) (by rfl) (by kernel_rfl) (all_cons rfl wd)) (zjM (edv 3)) gs1 rb1 (λ_ _ _ _=>(zC (i:=0) znB rfl (Or.inl rfl) (.inr rfl))) (λ_ _ _ _=>(YE za3 yH (zG _) (yC (edv 0) (edv 1) (λ_ _=>rfl)) (zg zj))))) zc)))) (λ_ _ _ _=>(edv 0))))))))))
theorem ziq.hit {ss:List Tie}{h0:Hl}{f:Fd}(h:ziq ss h0 f){p:Int}:ziv f p=true↔∃ g,Beh ss h0 g/\0 < vAt g p:=by
 unfold ziv
 rw[List.any_eq_true]
 constructor
 .rintro⟨e,he,hp⟩
  exact⟨e.1,h.ok.beh e he,p0 hp⟩
 .rintro⟨g,hg,hp⟩
  obtain⟨e,he,rfl⟩:=yk.mp ((h.iff g).mpr hg)
  exact⟨e,he,b6 hp⟩
def Yz (m:Int)(ts:List Tie)(h:Hl):Prop:=∀ k:Nat,k < m.toNat->∃ g,Beh (yn m ts) h g/\0 < vAt g (k:Int)
theorem zfg (a b:Int):WU (.int a) (.int b)=some (.bl (decide (a=b))):=by rfl
theorem zdJ {α:Type}{p:α->Bool}{l:List α}(h:(l.filter p).length=l.length):∀ x∈l,p x=true:=List.length_filter_eq_length_iff.mp h
def Yd:SE->Ctl :=
 (yJ (zr WU (eFn YC (zb (zt 2 vG (zb (zd 0) (zb (zd 1) zw))) zw)) (zr ixD (zd 0) (eC (.int 0)))))
def wI:List D->Option D:=fnD 2 Yd
theorem Xx {m:Int}{ts:List Tie}{h0:Hl}(ok:xJ m ts)(hl:(h0.length:Int)=m)(hn:∀ v∈h0,0<=v)(hr:h0.sum<=12)(hc:(h0.sum.toNat+1) ^ m.toNat < sizeLine) :
 ∃ b,wI [zM m ts,hD h0]=some (.bl b)/\(b=true↔Yz m ts h0):=by
 obtain⟨f,e,hf⟩:=zdW ok hl hn hr hc
 have hm:=ok.lo
 refine⟨decide (((((List.range m.toNat).filter λk:Nat=>ziv f (k:Int)).map Zn).length:Int)=m),?_,?_⟩
 .refine Vt (ρ:=[.v (zM m ts),.v (hD h0)]) rfl ?_
  unfold Yd
  refine ZK (vm (d:=.bl (decide (((((List.range m.toNat).filter λk:Nat=>ziv f (k:Int)).map Zn).length:Int)=m))) ?_) rfl
  have e2:eFn YC (zb (zt 2 vG (zb (zd 0) (zb (zd 1) zw))) zw) [some (zM m ts),some (hD h0)]=some (.int ((((List.range m.toNat).filter λk:Nat=>ziv f (k:Int)).map Zn).length:Int)):=by
   show(Option.bind ((vG [zM m ts,hD h0]).bind λd=>(some []).map (d::·)) YC)=_
   rw[e]
   rfl
  show((eFn YC (zb (zt 2 vG (zb (zd 0) (zb (zd 1) zw))) zw) [some (zM m ts),some (hD h0)]).bind λx=>WU x (.int m))=_
  rw[e2]
  exact zfg _ _
 .rw[d5,u7]
  constructor
  .intro h k hk
   have h2:((List.range m.toNat).filter λk:Nat=>ziv f (k:Int)).length=(List.range m.toNat).length:=by rw[u1R];omega
   exact hf.hit.mp (zdJ h2 k (u0I.mpr hk))
  .intro h
   rw[List.filter_eq_self.mpr λk hk=>hf.hit.mpr (h k (u0I.mp hk)),u1R]
   omega
theorem XB (T:Txt K mg ad):y6 P w K mg base CX0 9 ad.f_is_spread ad.e_is_spread ["web","heap"] (@spD ⟨K⟩ 2 wI):=by
 letI:KK:=⟨K⟩
 have G_reached:=zd4 (P:=P) (w:=w) (base:=base) T
 refine xl (N:=["web","heap"]) (ps:=["web","heap"]) T.d_is_spread.fn za5 (g:=Yd) λcdv A outer s H E hr=>?_
 unfold Yd
 exact(zf (zB (YE (vE hr) xN (zG _) (zP yb Yb rfl T.z_len Zs (za (zo G_reached hr rfl T.d_reached (za (edv 0) (za (edv 1) zc))) zc)) (yC (edv 0) (zg zj) (λ_ _=>rfl)))))
def ww:Nat->Nat->List Hl
 | 0,s=>[[(s:Int)]]
 | k+1,s=>(List.range (s+1)).flatMap λfirst=>(ww k (s - first)).map ((first:Int)::·)
def zdX (k s i:Nat):List Hl:=(List.range i).flatMap λfirst=>(ww k (s - first)).map ((first:Int)::·)
theorem zbG (k s i:Nat):zdX k s (i+1)=zdX k s i++(ww k (s - i)).map ((i:Int)::·):=by
 unfold zdX
 rw[u2U,u2P]
 simp
theorem zgo (k s:Nat):ww (k+1) s=zdX k s (s+1):=by rw[ww,zdX]
theorem zho:∀ k:_root_.Fin 5,∀ s:_root_.Fin 6,(ww k.val s.val).length<=126:=by decide +kernel
theorem zfK {k s:Nat}(hk:k<=4)(hs:s<=5):(ww k s).length<=126:=zho ⟨k,by omega⟩ ⟨s,by omega⟩
theorem zdb {k s:Nat}(hk:k<=4)(hs:s<=5):∀ i,(zdX k s i).length<=126*i
 | 0=>by simp[zdX]
 | i+1=>by
  rw[zbG,r0,u7]
  have:=zdb hk hs i
  have:=zfK hk (s:=s - i) (by omega)
  omega
theorem zf3:∀ {k s:Nat} {h:Hl},h∈ww k s->h.length=k+1/\(∀ v∈h,0<=v)/\h.sum=(s:Int)
 | 0,s,h,hm=>by
  cases j9.mp hm
  refine⟨rfl,λv hv=>?_,by simp⟩
  cases j9.mp hv
  omega
 | k+1,s,h,hm=>by
  obtain⟨a,ha,hm⟩:=u3A.mp hm
  obtain⟨r,hr,rfl⟩:=u0u.mp hm
  obtain⟨h1,h2,h3⟩:=zf3 hr
  rw[u0I]at ha
  refine⟨by rw[u0d,h1],λv hv=>?_,by rw[u3r,h3];omega⟩
  rcases j7.mp hv with rfl | hv
  .omega
  .exact h2 v hv
theorem Vz:∀ k:Nat,List.replicate (k+1) (1:Int)∈ww k (k+1)
 | 0=>.head _
 | k+1=>u3A.mpr ⟨1,u0I.mpr (by omega),u0u.mpr ⟨List.replicate (k+1) 1,Vz k,rfl⟩⟩
def Yv (r:List D->Option D):SE->Ctl :=
 (X5 2 (wx (fLC (iOf (zt 2 r (zb (zr Yn (zd 0) (eC (.int 1))) (zb (zr Yn (zd 1) (zd 3)) zw)))) b1 yr (zr vB (vy (zb (zd 4) zw)) (zd 0)))))
def yp (r:List D->Option D):SE->Ctl :=
 (zW (sIf (tOf (zr WU (zd 0) (eC (.int 1)))) (yJ (wx (yO (zb (vy (zb (zd 1) zw)) zw)))) zR)
  (zW (ZC 2 (yO zw))
  (zW (yZ wL (zb (zr vB (zd 1) (eC (.int 1))) zw) (yt 3) (Yv r))
  (sFz 2 (yJ (zd 2))))))
def Vd:List D->Option D:=zhb 4 yp 6
theorem zkD {T:Int}{c:Nat}(h:T=(c:Int))(hc:c<=1000):wL [.int T]=some (Zo 0 c):=by
 show(if zd6 T=true then some (Zo 0 T.toNat)else none)=_
 rw[t9 (yh.mpr ⟨by omega,by omega⟩),show T.toNat=c by omega]
theorem zdT {r:List D->Option D}{s:Nat}:fnD 4 (yp r) [.int (((0:Nat):Int)+1),.int (s:Int)]=some (.lst ((ww 0 s).map hD)):=by
 refine Vt (ρ:=[.v (.int (((0:Nat):Int)+1)),.v (.int (s:Int)),.no,.no]) rfl ?_
 unfold yp
 exact xK (W1 (c:=true) rfl (λ_=>ZK rfl rfl) (λz=>by cases z))
theorem ziL {r:List D->Option D}{k s i:Nat}{M S:Int}(hS:(s:Int)=S)(hM:((k+1:Nat):Int)+1=M)(hs:s<=5)(h4:k<=4)(ih:∀ i:Nat,r [.int ((k:Int)+1),.int ((s - i:Nat):Int)]=some (.lst ((ww k (s - i)).map hD)))(hi:i < s+1) :
 fLC (iOf (zt 2 r (zb (zr Yn (zd 0) (eC (.int 1))) (zb (zr Yn (zd 1) (zd 3)) zw)))) b1 yr (zr vB (vy (zb (zd 4) zw)) (zd 0)) [some (.int M),some (.int S),none,some (.int (0+(i:Int)))]=some (((ww k (s - i)).map ((i:Int)::·)).map hD):=by
 unfold fLC
 have e1:r [.int (M - 1),.int (S - (0+(i:Int)))]=some (.lst ((ww k (s - i)).map hD)):=by
  rw[show M - 1=(k:Int)+1 by omega,show S - (0+(i:Int))=((s - i:Nat):Int) by omega]
  exact ih i
 show((r [.int (M - 1),.int (S - (0+(i:Int)))]).bind yE).bind _=_
 rw[e1]
 show(if lim ((ww k (s - i)).map hD).length=true then _ else none)=_
 rw[t9 (w6 (by rw[u7];have:=zfK (k:=k) (s:=s - i) (by omega) (by omega);omega)),u07]
 refine Za hD _ (ww k (s - i)) λh hh=>⟨[some (hD h)],rfl,rfl,?_⟩
 show(if lim ([D.int (0+(i:Int))].length+(h.map D.int).length)=true then some (D.tup ([D.int (0+(i:Int))]++h.map D.int))else none)=_
 rw[t9 (w6 (by rw[u7,(zf3 hh).1];show 1+_<=_;omega)),u1N]
 rfl
theorem zd0 {r:List D->Option D}{k s:Nat}(hs:s<=5)(h4:k+1<=4)(ih:∀ i:Nat,r [.int ((k:Int)+1),.int ((s - i:Nat):Int)]=some (.lst ((ww k (s - i)).map hD))):fnD 4 (yp r) [.int (((k+1:Nat):Int)+1),.int (s:Int)]=some (.lst ((ww (k+1) s).map hD)):=by
 rw[zgo]
 generalize hM:((k+1:Nat):Int)+1=M
 generalize hS:(s:Int)=S
 refine Vt (ρ:=[.v (.int M),.v (.int S),.no,.no]) rfl ?_
 unfold yp
 refine xK (W1 (c:=false) ?_ (λz=>by cases z) (λ_=>ZB rfl ?_))
 .show((WU (.int M) (.int 1)).bind asB)=_
  rw[zfg,h9 (show ¬ M=1 by omega)]
  rfl
 refine zA (ρ':=[.v (.int M),.v (.int S),.o [],.no]) rfl ?_
 refine xK (Vg (lo:=0) (c:=s+1) (λi ρ=>∃ o3,ρ=[.v (.int M),.v (.int S),.o ((zdX k s i).map hD),o3]) ?_ ⟨.no,rfl⟩ ?_ ?_)
 .have er:zb (zr vB (zd 1) (eC (.int 1))) zw (visG [.v (.int M),.v (.int S),.o [],.no])=some [.int (S+1)]:=rfl
  rw[er,u0e]
  exact zkD (by omega) (by omega)
 .rintro i ρ hi ⟨o3,rfl⟩
  refine⟨_,rfl,?_⟩
  unfold Yv
  refine ZB (ρ':=[.v (.int M),.v (.int S),.o ((zdX k s (i+1)).map hD),.v (.int (0+(i:Int)))]) ?_ ⟨_,rfl⟩
  have e:=ziL hS hM hs (by omega) ih hi
  have hlim:lim (((zdX k s i).map hD).length+(((ww k (s - i)).map ((i:Int)::·)).map hD).length)=true:=by
   refine w6 ?_
   rw[u7,u7,u7]
   have:=zdb (k:=k) (s:=s) (by omega) hs i
   have:=zfK (k:=k) (s:=s - i) (by omega) (by omega)
   omega
  show(match (((fLC (iOf (zt 2 r (zb (zr Yn (zd 0) (eC (.int 1))) (zb (zr Yn (zd 1) (zd 3)) zw)))) b1 yr (zr vB (vy (zb (zd 4) zw)) (zd 0)) [some (.int M),some (.int S),none,some (.int (0+(i:Int)))]).map D.lst).bind λd=>match (some (Sl.o ((zdX k s i).map hD))),d with
   | some (.o ds),.lst es=>if lim (ds.length+es.length)=true then some ([.v (.int M),.v (.int S),.o (ds++es),.v (.int (0+(i:Int)))]:SE)else none
   | _,_=>none)with | some ρ'=>Ctl.nx ρ' | none=>Ctl.no)=_
  rw[e]
  show(match (if lim (((zdX k s i).map hD).length+(((ww k (s - i)).map ((i:Int)::·)).map hD).length)=true then some ([.v (.int M),.v (.int S),.o ((zdX k s i).map hD++((ww k (s - i)).map ((i:Int)::·)).map hD),.v (.int (0+(i:Int)))]:SE)else none)with | some ρ'=>Ctl.nx ρ' | none=>Ctl.no)=_
  rw[t9 hlim,zbG,i8]
 .rintro ρ ⟨o3,rfl⟩
  exact zkM rfl (ZK rfl rfl)
theorem WS:∀ (k fu s:Nat),k < fu->k<=4->s<=5->zhb 4 yp fu [.int ((k:Int)+1),.int (s:Int)]=some (.lst ((ww k s).map hD)):=by
 intro k
 induction k with
 | zero =>
  intro fu s hk _ hs
  cases fu with
  | zero=>exact absurd hk (u0K _)
  | succ fu=>exact zdT
 | succ k IH =>
  intro fu s hk h4 hs
  cases fu with
  | zero=>exact absurd hk (u3Q _)
  | succ fu=>exact zd0 hs h4 λi=>IH fu (s - i) (Nat.lt_of_succ_lt_succ hk) (Nat.le_of_succ_le h4) (i3 (Nat.sub_le _ _) hs)
theorem Wj (T:Txt K mg ad):y6 P w K mg base CX0 7 ad.f_heaps_of ad.e_heaps_of ["many","stones"] (@spD ⟨K⟩ 2 Vd):=by
 letI:KK:=⟨K⟩
 have R:∀ n,y6 P w K mg base CX0 (1+n) ad.f_heaps_of ad.e_heaps_of ["many","stones"] (spD 2 (zhb 4 yp n)):=by
  refine zjd (P:=P) (w:=w) (mg:=mg) (base:=base) (k0:=1) (g:=yp) T.d_heaps_of.fn Ze λk r hrec cdv A outer s H E hr=>?_
  unfold yp Yv
  exact(ze (xL (yg (vE hr) xN (zG _) (edv 0) (zg zj)) (zf (zB (vt (Yi (za (w8 (za (edv 1) zc)) zc))))) zH)
   (ze (WF (i:=2) Ze.nd rfl (Or.inl rfl) (Yi zc))
   (ze (ZT i9 rfl rfl T.z_range (za (xn (edv 1) (zg zj)) zc) (yx (zC (i:=3) Ze.nd rfl (Or.inr rfl))) (zf (zi0 (pv 2) (vt (X8 (L:=["rest"]) (M:=["many","stones","found","first"]) rfl (YY (by rfl) (by rfl) (by rfl) (by with_unfolding_all rfl) (by rfl) (by rfl) (by kernel_rfl) (all_cons rfl wd)) (wV (zcl hrec hr rfl T.d_heaps_of.at_ T.d_heaps_of.kp T.d_heaps_of.bd (za (Xz (edv 0) (zg zj)) (za (Xz (edv 1) (edv 3)) zc)))) gs1 rb1 (λ_ _ _ _=>(zC (i:=0) zoa rfl (Or.inl rfl) (.inr rfl))) (λ_ _ _ _=>(xn (w8 (za (edv 4) zc)) (edv 0))))) (λa b=>zcp u0x u3k u3l zbT a b))))
   (Wh 2 (zf (zB (edv 2)))))))
 exact R 6
def xf:SE->Ctl :=
 (sIf (tOf (zt 2 wI (zb (zd 0) (zb (zd 2) zw)))) (yJ (zd 2)) zR)
def xj:SE->Ctl :=
 (zW (YV (iOf (zt 2 Vd (zb (zr ixD (zd 0) (eC (.int 0))) (zb (zd 1) zw)))) (yt 2) xf)
  (wu false 1 (zr vB (zd 1) (eC (.int 1)))))
def yc:SE->Ctl :=
 (zW (Y4 (zt 1 zS (zb (zd 0) zw)))
  (zW (Y4 (zt 2 yT (zb (zr ixD (zd 0) (eC (.int 0))) (zb (eC (.int 6)) zw))))
  (zW (wu false 1 (eC (.int 1)))
  (vz (tOf (eC (.bl true))) xj 8))))
def zU:List D->Option D:=fnD 3 yc
def muF:SE->Nat
 | [_,.v (.int s),_]=>(6 - s).toNat
 | _=>0
structure zl2 (m:Int) (ts:List Tie) (h:Hl):Prop where
 len:(h.length:Int)=m
 nn:∀ v∈h,0<=v
 le:h.sum<=5
 sp:Yz m ts h
theorem zi3 {a n:Nat}(h1:a<=8)(h2:n<=5):a ^ n < sizeLine:=by
 have h3:a ^ n<=8 ^ 5:=i3 (Nat.pow_le_pow_left h1 n) (Nat.pow_le_pow_right (by decide) h2)
 exact p6 h3 (by rw[u1B];decide)
theorem zgD {m:Int}{ts:List Tie}(ok:xJ m ts)(h5:m<=5):∃ h,zU [zM m ts]=some (hD h)/\zl2 m ts h:=by
 have hm:=ok.lo
 obtain⟨d,e,h,rfl,hf⟩:=zeb (m:=3) (g:=yc) (ds:=[zM m ts]) (R:=λd=>∃ h,d=hD h/\zl2 m ts h) rfl (by
  unfold yc
  refine zA (Yw (Vy ok)) ?_
  refine zA (Yw (d:=.non) (YG (a:=m) (b:=6) (by omega))) ?_
  refine zA (ρ':=[.v (zM m ts),.v (.int 1),.no]) rfl ?_
  refine Z6 (fun ρ=>∃ (s:Nat) (o:Sl),ρ=[.v (zM m ts),.v (.int (s:Int)),o]/\1<=s/\(s:Int)<=m) muF ?_ 8 _ ⟨1,.no,rfl,by omega,by omega⟩ (show 5 < 8 by decide)
  rintro ρ ⟨s,o,rfl,h1,hs⟩
  refine⟨true,rfl,λ_=>?_,λz=>by cases z⟩
  unfold xj
  have hk:((m.toNat - 1:Nat):Int)+1=m:=by omega
  have e1:=WS (m.toNat - 1) 6 s (by omega) (by omega) (by omega)
  rw[hk]at e1
  refine xK (WY (ds:=(ww (m.toNat - 1) s).map hD) (λi ρ=>(∃ o,ρ=[.v (zM m ts),.v (.int (s:Int)),o])/\∀ h∈(ww (m.toNat - 1) s).take i,¬ Yz m ts h) ?_ ⟨⟨o,rfl⟩,λh hh=>(by rw[u1K]at hh;cases hh)⟩ ?_ ?_)
  .show((zhb 4 yp 6 [.int m,.int (s:Int)]).bind yE)=_
   rw[e1]
   rfl
  .rintro i d ρ hd ⟨⟨o,rfl⟩,ha⟩
   rw[r6]at hd
   obtain⟨h,hh,rfl⟩:=u9.mp hd
   have hmem:=j4 hh
   obtain⟨l1,l2,l3⟩:=zf3 hmem
   have hl:(h.length:Int)=m:=by omega
   obtain⟨b,eb,hb⟩:=Xx ok hl l2 (by omega) (zi3 (by omega) (by omega))
   refine⟨[.v (zM m ts),.v (.int (s:Int)),.v (hD h)],rfl,?_⟩
   unfold xf
   refine W1 (c:=b) ?_ (λz=>?_) (λz=>?_)
   .show((wI [zM m ts,hD h]).bind asB)=_
    rw[eb]
    rfl
   .exact ZK rfl ⟨h,rfl,hl,l2,by omega,hb.mp z⟩
   .refine ZB rfl ⟨⟨_,rfl⟩,λg hg=>?_⟩
    rw[u1t,hh]at hg
    rcases o0.mp hg with hg | hg
    .exact ha g hg
    .cases j9.mp hg
     intro hsp
     rw[hb.mpr hsp]at z
     cases z
  .rintro ρ ⟨⟨o,rfl⟩,ha⟩
   rw[u7,u1i]at ha
   have hlt:(s:Int) < m:=by
    apply u3f
    intro hno
    have hse:s=m.toNat - 1+1:=by omega
    have h2:=Vz (m.toNat - 1)
    rw[<-hse]at h2
    refine ha _ h2 λk hk=>⟨_,.zero,?_⟩
    show 0 < (List.replicate s (1:Int)).getD ((k:Int)).toNat 0
    rw[u0Y,u0l,u0w,t9 (by omega)]
    decide
   refine ZB (ρ':=[.v (zM m ts),.v (.int ((s:Int)+1)),o]) rfl ⟨⟨s+1,o,rfl,by omega,by omega⟩,?_⟩
   show(6 - ((s:Int)+1)).toNat < (6 - (s:Int)).toNat
   omega)
 exact⟨h,e,hf⟩
theorem xF (T:Txt K mg ad):y6 P w K mg base CX0 10 ad.f_first_spread ad.e_first_spread ["web"] (@spD ⟨K⟩ 1 zU):=by
 letI:KK:=⟨K⟩
 have G_must_be_at_most:=xB (P:=P) (w:=w) (base:=base) T
 have X_must_be_at_most:=xk (P:=P) (w:=w) (base:=base) T
 have G_must_be_web:=ve (P:=P) (w:=w) (base:=base) T
 have G_is_spread:=XB (P:=P) (w:=w) (base:=base) T
 have G_heaps_of:=Wj (P:=P) (w:=w) (base:=base) T
 refine xl (N:=["web","stones","heap"]) (ps:=["web"]) T.d_first_spread.fn yS (g:=yc) λcdv A outer s H E hr=>?_
 unfold yc xj xf
 exact(ze (YI (zo G_must_be_web hr rfl T.d_must_be_web (za (edv 0) zc)))
  (ze (YI (zo G_must_be_at_most hr rfl T.d_must_be_at_most (za (yC (edv 0) (zg zj) (λ_ _=>rfl)) (za (zg (yF (v:=.int 6) rfl T.g_MOST_SPREAD ⟨_,rfl⟩)) zc))))
  (ze (yP (m:=false) (i:=1) yS.nd rfl (Or.inl rfl) (zg zj))
  (zf (zab 8 i9 (xv (YB vT)) (ze (Zw i9 rfl (wV (zo G_heaps_of hr rfl T.d_heaps_of (za (yC (edv 0) (zg zj) (λ_ _=>rfl)) (za (edv 1) zc)))) (yx (zC (i:=2) yS.nd rfl (Or.inl rfl))) (zf (xL (xv (zo G_is_spread hr rfl T.d_is_spread (za (edv 0) (za (edv 2) zc)))) (zf (zB (edv 2))) zH)))
  (zf (yP (m:=false) (i:=1) yS.nd rfl (Or.inl rfl) (xn (edv 1) (zg zj))))))))))
def yM:SE->Option Nat :=
 (zk2 xNo (Y4 (zt 1 zS (zb (zd 0) zw)))
  (xEx (zfc 2 xH (zb (zr ixD (zd 0) (eC (.int 0))) (zb (eC (.int 6)) zw)))))
def xx:List D->Option Nat:=fnX 3 yM
theorem xb (T:Txt K mg ad):y6 P w K mg base (Air P w) 10 ad.f_first_spread ad.e_first_spread ["web"] (@spX ⟨K⟩ (clT ad) 1 xx):=by
 letI:KK:=⟨K⟩
 have G_must_be_at_most:=xB (P:=P) (w:=w) (base:=base) T
 have X_must_be_at_most:=xk (P:=P) (w:=w) (base:=base) T
 have G_must_be_web:=ve (P:=P) (w:=w) (base:=base) T
 have G_is_spread:=XB (P:=P) (w:=w) (base:=base) T
 have G_heaps_of:=Wj (P:=P) (w:=w) (base:=base) T
 refine zfZ (cl:=clT ad) (N:=["web","stones","heap"]) (ps:=["web"]) T.d_first_spread.fn yS (gx:=yM) λcdv A outer s H E hr=>?_
 unfold yM
 exact(zit zil (SD.nox (YI (zo G_must_be_web hr rfl T.d_must_be_web (za (edv 0) zc))))
  (zgS (zb0 (zat (X_must_be_at_most.mono (by decide)) Vw hr rfl T.d_must_be_at_most.at_ T.d_must_be_at_most.kp T.d_must_be_at_most.bd (za (yC (edv 0) (zg zj) (λ_ _=>rfl)) (za (zg (yF (v:=.int 6) rfl T.g_MOST_SPREAD ⟨_,rfl⟩)) zc))))))
def wk:SE->Ctl :=
 (yJ (eFn zeu (zb (zt 1 zU (zb (zd 0) zw)) zw)))
def wm:List D->Option D:=fnD 1 wk
theorem YX (T:Txt K mg ad):y6 P w K mg base CX0 11 ad.f_spread_need ad.e_spread_need ["web"] (@spD ⟨K⟩ 1 wm):=by
 letI:KK:=⟨K⟩
 have G_first_spread:=xF (P:=P) (w:=w) (base:=base) T
 have X_first_spread:=xb (P:=P) (w:=w) (base:=base) T
 refine xl (N:=["web"]) (ps:=["web"]) T.d_spread_need.fn Y7 (g:=wk) λcdv A outer s H E hr=>?_
 unfold wk
 exact(zf (zB (zP (vH rfl) Xh rfl T.z_sum Wy (za (zo G_first_spread hr rfl T.d_first_spread (za (edv 0) zc)) zc))))
def vn:SE->Option Nat :=
 (xEx (zfc 1 xx (zb (zd 0) zw)))
def Y5:List D->Option Nat:=fnX 1 vn
theorem Yo (T:Txt K mg ad):y6 P w K mg base (Air P w) 11 ad.f_spread_need ad.e_spread_need ["web"] (@spX ⟨K⟩ (clT ad) 1 Y5):=by
 letI:KK:=⟨K⟩
 have G_first_spread:=xF (P:=P) (w:=w) (base:=base) T
 have X_first_spread:=xb (P:=P) (w:=w) (base:=base) T
 refine zfZ (cl:=clT ad) (N:=["web"]) (ps:=["web"]) T.d_spread_need.fn Y7 (gx:=vn) λcdv A outer s H E hr=>?_
 unfold vn
 exact(Z9 (zk7 (znO rfl T.z_sum Wy (zkp (zat (X_first_spread.mono (by decide)) Vw hr rfl T.d_first_spread.at_ T.d_first_spread.kp T.d_first_spread.bd (za (edv 0) zc))))))
theorem zkv {gx hx:SE->Option Nat}{g:SE->Ctl}{ρ ρ':SE}{j:Nat}(e:gx ρ=none)(e2:g ρ=.nx ρ')(e3:hx ρ'=some j):zk2 gx g hx ρ=some j:=by
 unfold zk2
 rw[e,e2]
 exact e3
theorem zio {gx:SE->Option Nat}{g:SE->Ctl}{h:Nat->Option D}{ρ:SE}{j:Nat}{d:D}(e:gx ρ=some j)(e2:h j=some d):zlJ gx g h ρ=.rt d:=by
 unfold zlJ
 rw[e]
 show(match h j with | some d=>Ctl.rt d | none=>.no)=_
 rw[e2]
theorem zkq {t:Ev->Option Bool}{g h:SE->Option Nat}{ρ:SE}{j:Nat}(e:t (visG ρ)=some true)(e2:g ρ=some j):xIf t g h ρ=some j:=by
 unfold xIf
 rw[e]
 exact e2
theorem ziZ {t:Ev->Option Bool}{g:SE->Ctl}{ρ:SE}(e:t (visG ρ)=some false):sIf t g zR ρ=.nx ρ:=by
 unfold sIf
 rw[e]
 rfl
theorem zlH {m:Int}{ts:List Tie}(ok:xJ m ts):zS [zM m ts]=some .non:=by
 have hw:vM (zM m ts)=true:=(xT _).mpr ⟨_,_,rfl,ok⟩
 simp only[zS]
 rw[t9 hw]
def jG (S T:Int):Nat:=60+64*(S.toNat*1024+T.toNat)
theorem zkx {S T:Int}(h0:0<=T)(h1:T < 1024)(h:T < S):xH [.int S,.int T]=some (jG S T):=by
 show ya [.v (.int S),.v (.int T)]=_
 unfold ya
 refine zkq (zav (wg (x:=.int S) (y:=.int T) rfl rfl (by show some (D.bl (decide (T < S)))=_;rw[b6 h]))) ?_
 show(if 0<=S/\(0:Int)<=T/\(T:Int) < 1024 then some (12+48+64*(S.toNat*1024+T.toNat))else none)=_
 rw[t9 ⟨by omega,h0,h1⟩]
 rfl
theorem zj8 {h:Hl}{f:Ev->Option D}{ρ:Ev}(e:f ρ=some (hD h)):eFn zeu (zb f zw) ρ=some (.int h.sum) :=
 zhI (ds:=[hD h]) (xz e ZM) (by show(zcv (h.map D.int)).bind _=_;rw[Zt];rfl)
theorem zfJ {S T:Int} (hS:0<=S) (h0:0<=T) (h1:T < 1024):pay (jG S T)=some [(("many":Str),V.int S),(("most":Str),V.int T)]/\jG S T % 16=12:=by
 have m16:jG S T % 16=12:=by unfold jG;omega
 have k1:jG S T / 16 % 4=3:=by unfold jG;omega
 have k2:jG S T / 64=S.toNat*1024+T.toNat:=by unfold jG;omega
 have k3:(((S.toNat*1024+T.toNat) / 1024:Nat):Int)=S:=by omega
 have k4:(((S.toNat*1024+T.toNat) % 1024:Nat):Int)=T:=by omega
 refine⟨?_,m16⟩
 unfold pay
 rw[k1]
 show some [(_,V.int _),(_,V.int _)]=_
 rw[k2,k3,k4]
def fdT (f:Fd):List D:=f.map λ_=>D.bl true
theorem zcD (g:Hl):∀ f:Fd,ZQ (fdK f) (fdT f) (hK g)=(XD f g).map λ_=>D.bl true
 | []=>rfl
 | e::f=>by
  refine ZA.trans ?_
  show(if hK e.1=hK g then some (D.bl true)else ZQ (fdK f) (fdT f) (hK g))=(if e.1=g then some e.2 else XD f g).map λ_=>D.bl true
  by_cases h:e.1=g
  .rw[t9 h,t9 (by rw[h])];rfl
  .rw[j0 h,j0 (λz=>h (zf7 z)),zcD g f]
theorem zhW {m:Bool}{i:Nat}{fk fe:Ev->Option D}{ρ ρ':SE}{f:Fd}{g:Hl}{o:Option (Hl × Tie)}(h1:vEv m fe ρ=some (.bl true))(h2:fk (visG ρ)=some (hD g))(h3:ρ[i]?=some (.m true (fdK f) (fdT f)))(h4:(XD f g).isSome=false)(h5:f.length < sizeLine)
 (h6:ρ.set i (.m true (fdK (f++[(g,o)])) (fdT (f++[(g,o)])))=ρ'):zbP m i fk fe ρ=.nx ρ':=by
 have e:ziM ρ i (hD g) (D.bl true)=some ρ':=by
  unfold ziM
  rw[h3]
  show(zes (hD g)).bind (λk=>if decide ((fdK f).length < sizeLine)=true then some (ρ.set i (.m true (zbw (fdK f) (fdT f) k) (zaK (fdK f) (fdT f) k (D.bl true))))else none)=_
  have hd:(ZQ (fdK f) (fdT f) (hK g)).isSome=false:=by rw[zcD,u1v];exact h4
  rw[Xd,u0e,t9 (b6 (by unfold fdK;rw[u7];exact h5))]
  unfold zbw zaK
  rw[hd,j0 u6,j0 u6,<- h6]
  unfold fdK fdT
  rw[i8,i8]
  rfl
 unfold zbP
 rw[h1,h2]
 show(match ziM ρ i (hD g) (D.bl true)with | some ρ'=>Ctl.nx ρ' | none=>Ctl.no)=_
 rw[e]
theorem zlZ {f:Fd}{g:Hl}{z:Bool}:zkE true (hD g) (.dct z true (fdK f) (fdT f))=some (.bl (!(XD f g).isSome)):=by
 show(zes (hD g)).map (λk=>D.bl (true != (ZQ (fdK f) (fdT f) k).isSome))=_
 rw[Xd]
 show some (D.bl (true != (ZQ (fdK f) (fdT f) (hK g)).isSome))=_
 rw[zcD,u1v]
 cases (XD f g).isSome <;> rfl
structure zgz (ss:List Tie) (h0:Hl) (f:Fd) (todo:List Hl):Prop where
 ok:zaE ss h0 f
 rim:∀ g∈todo,InF f g
 all:∀ g,InF f g->zfW ss f g\/g∈todo
theorem zgz.start (ss:List Tie)(h0:Hl):zgz ss h0 [(h0,none)] [h0]:=by
 refine⟨zaE.start ss h0,λg hg=>?_,λg hg=>.inr ?_⟩
 .cases j9.mp hg
  exact yk.mpr ⟨_,.head _,rfl⟩
 .obtain⟨x,hx,rfl⟩:=yk.mp hg
  cases j9.mp hx
  exact .head _
theorem zgz.fin {ss:List Tie}{h0:Hl}{f:Fd}(h:zgz ss h0 f []):ziq ss h0 f:=by
 refine⟨h.ok,λg=>⟨λhg=>?_,λhg=>?_⟩⟩
 .obtain⟨x,hx,rfl⟩:=yk.mp hg
  exact h.ok.beh x hx
 .induction hg with
  | zero=>unfold InF;rw[h.ok.root];rfl
  | step b hs h2 ih =>
   rcases h.all _ ih with z | z
   .exact z _ hs h2
   .cases z
structure zjS (ss:List Tie) (h0 p:Hl) (f:Fd) (todo:List Hl):Prop where
 ok:zaE ss h0 f
 me:InF f p
 rim:∀ g∈todo,InF f g
 all:∀ g,InF f g->zfW ss f g\/g∈todo\/g=p
theorem zjS.add {ss:List Tie}{h0 p:Hl}{f:Fd}{todo:List Hl}{s:Tie}(h:zjS ss h0 p f todo)(hs:s∈ss)(h2:2<=vAt p s.1)(hn:¬ InF f (moved p s)):zjS ss h0 p (f++[(moved p s,some (p,s))]) (todo++[moved p s]):=by
 refine⟨h.ok.add h.me hs h2 hn,h.me.app _,λg hg=>?_,λg hg=>?_⟩
 .rcases o0.mp hg with hg | hg
  .exact(h.rim g hg).app _
  .cases j9.mp hg
   exact zay f (moved p s,some (p,s))
 .rcases Wg hg with hg | rfl
  .rcases h.all g hg with z | z | z
   .exact .inl λt ht ht2=>(z t ht ht2).app _
   .exact .inr (.inl (o0.mpr (.inl z)))
   .exact .inr (.inr z)
  .exact .inr (.inl (o0.mpr (.inr (.head _))))
theorem zgz.pop {ss:List Tie}{h0 p:Hl}{f:Fd}{todo:List Hl}(h:zgz ss h0 f (todo++[p])):zjS ss h0 p f todo:=by
 refine⟨h.ok,h.rim p (o0.mpr (.inr (.head _))),λg hg=>h.rim g (o0.mpr (.inl hg)),λg hg=>?_⟩
 rcases h.all g hg with z | z
 .exact .inl z
 .rcases o0.mp z with z | z
  .exact .inr (.inl z)
  .exact .inr (.inr (j9.mp z))
theorem zjS.done {ss:List Tie}{h0 p:Hl}{f:Fd}{todo:List Hl}(h:zjS ss h0 p f todo)(hd:zfW ss f p):zgz ss h0 f todo:=by
 refine⟨h.ok,h.rim,λg hg=>?_⟩
 rcases h.all g hg with z | z | rfl
 .exact .inl z
 .exact .inr z
 .exact .inl hd
theorem zcO:∀ g:Hl,zdE (hK g)=some g
 | []=>rfl
 | x::g=>by
  show(zdE (hK g)).map (x::·)=_
  rw[zcO g]
  rfl
theorem zcQ:∀ f:Fd,(∀ e∈f,e.1≠[])->zaN (fdK f)=some (f.map (·.1))
 | [],_=>rfl
 | e::f,h=>by
  have ih:=zcQ f λx hx=>h x (.tail _ hx)
  show(match zdE (hK e.1)with | some (i::t)=>(zaN (fdK f)).map ((i::t)::·) | _=>none)=_
  rw[zcO,ih]
  cases he:e.1 with
  | nil=>exact absurd he (h e (.head _))
  | cons i t=>show some ((i::t)::f.map (·.1))=some (e.1::f.map (·.1));rw[he]
def xu:SE->Ctl :=
 (sIf (tOf (zr gtD (zr ixD (zd 4) (zd 5)) (eC (.int 1)))) (zW (ZC 7 (fFn wn (zb (zd 4) zw)))
  (zW (ZZ true 7 (zd 5) (zr Yn (zr ixD (zd 7) (zd 5)) (eC (.int 2))))
  (zW (ZZ true 7 (zd 6) (zr vB (zr ixD (zd 7) (zd 6)) (eC (.int 1))))
  (sFz 7 (sIf (tOf (zr (zkE true) (eFn zX (zb (zd 7) zw)) (zd 2))) (zW (zbP false 2 (eFn zX (zb (zd 7) zw)) (eC (.bl true)))
  (ZD false 3 (eFn zX (zb (zd 7) zw)))) zR))))) zR)
def yR:SE->Ctl :=
 (zW (zmL 3 4)
  (YV (iOf (zr vB (zr ixD (zd 0) (eC (.int 1))) (eFn zX (zb (wx (fLC (iOf (zr ixD (zd 0) (eC (.int 1)))) b2 yr (vy (zb (zd 1) (zb (zd 0) zw))))) zw)))) (XH 2 (xQ (yt 5) (xQ (yt 6) XR))) xu))
def xr:SE->Ctl :=
 (zW (zee 2 (zd 1) (eC (.bl true)))
  (zW (ZC 3 (yO (zb (zd 1) zw)))
  (zW (vz (tOf (zr zms (zd 3) (wx (yO zw)))) yR 10000000)
  (sFz 3 (zm4 2 (yJ (wx (fFn zc1 (zb (zd 2) zw)))))))))
def v7:List D->Option D:=fnD 8 xr
theorem zhP {m:Int}{ts:List Tie}{s:Tie}(ok:xJ m ts):s∈ts++ts.map (λt:Tie=>((t.2,t.1):Tie))↔s∈yn m ts:=by
 rw[o0,Vm]
 obtain⟨a,b⟩:=s
 constructor
 .rintro(h | h)
  .have r:=ok.rng _ h
   dsimp only at r ⊢
   refine⟨by omega,by omega,?_⟩
   have:WG a b=(a,b):=by unfold WG;rw[j0 (by omega),t9 (by omega)]
   rw[this];exact h
  .obtain⟨⟨x,y⟩,ht,e⟩:=u0u.mp h
   cases e
   have r:=ok.rng _ ht
   dsimp only at r ⊢
   refine⟨by omega,by omega,?_⟩
   have:WG y x=(x,y):=by unfold WG;rw[t9 (by omega),j0 (by omega)]
   rw[this];exact ht
 .rintro⟨_,_,ht⟩
  have r:=ok.rng _ ht
  by_cases c:a < b
  .have e:WG a b=(a,b):=by unfold WG;rw[j0 (by omega),t9 c]
   left
   have:WG a b∈ts:=ht
   rw[e]at this
   exact this
  .by_cases c2:b < a
   .have e:WG a b=(b,a):=by unfold WG;rw[t9 c2,j0 (by omega)]
    right
    have:WG a b∈ts:=ht
    rw[e]at this
    exact u0u.mpr ⟨(b,a),this,rfl⟩
   .exfalso
    obtain rfl:a=b:=by omega
    have e:WG a a=(a,a):=by unfold WG;rw[j0 (u3p _)]
    have r':0<=(WG a a).1/\(WG a a).1 < (WG a a).2/\(WG a a).2 < m:=r
    rw[e]at r'
    exact absurd r'.2.1 (u3p _)
section
variable {N B C:SE->Prop}{R:D->Prop}{W:D}{h0:Hl}
abbrev pSt (W:D)(h0:Hl)(f:Fd)(todo:List Hl)(o4 o5 o6 o7:Sl):SE:=[.v W,.v (hD h0),.m true (fdK f) (fdT f),.o (todo.map hD),o4,o5,o6,o7]
theorem zny {p:Hl}{s:Tie}{f:Fd}{todo:List Hl}{o7:Sl}(hs:Ye p.length s)(hl:f.length < sizeLine)(ht:todo.length < sizeLine)
 (q0:¬ 2<=vAt p s.1->∀ o7,N (pSt W h0 f todo (.v (hD p)) (.v (.int s.1)) (.v (.int s.2)) o7))
 (q1:InF f (moved p s)->∀ o7,N (pSt W h0 f todo (.v (hD p)) (.v (.int s.1)) (.v (.int s.2)) o7))
 (q2:2<=vAt p s.1->¬ InF f (moved p s)->∀ o7,N (pSt W h0 (f++[(moved p s,some (p,s))]) (todo++[moved p s]) (.v (hD p)) (.v (.int s.1)) (.v (.int s.2)) o7)) :
 (xu (pSt W h0 f todo (.v (hD p)) (.v (.int s.1)) (.v (.int s.2)) o7)).w N B C R:=by
 obtain⟨a,b⟩:=s
 obtain⟨a0,a1,b0,b1,ne⟩:=hs
 dsimp only at a0 a1 b0 b1 ne q0 q1 q2 ⊢
 have ea:=v4 (ns:=p) a0 a1
 unfold xu
 refine W1 (c:=decide (1 < vAt p a)) (zav (wg (x:=.int (vAt p a)) (y:=.int 1) (wg (x:=hD p) (y:=.int a) rfl rfl ea) rfl rfl)) (λc=>?_) (λc=>ZB rfl (q0 (by have:=of_decide_eq_false c;omega) _))
 have c:=p0 c
 obtain⟨g,hg⟩:∃ g,W6 p a (vAt p a - 2)=g:=⟨_,rfl⟩
 have gl:g.length=p.length:=by rw[<-hg,ZI]
 have eb:=v4 (ns:=g) b0 (by rw[gl];exact b1)
 have hm:moved p (a,b)=W6 g b (vAt g b+1):=by unfold moved;rw[hg]
 refine zA (ρ':=pSt W h0 f todo (.v (hD p)) (.v (.int a)) (.v (.int b)) (.o (p.map .int))) rfl ?_
 refine xK (zhi (p.map .int) (.int (vAt p a - 2)) a ?_ rfl rfl a0 (by rw[u7];exact a1) ?_)
 .show(Option.bind ((atI (p.map D.int) a).bind λx=>Yn x (.int 2)) λd=>if noL d=true then some d else none)=_
  rw[ea]
  rfl
 rw[show(p.map D.int).set a.toNat (.int (vAt p a - 2))=g.map .int by rw[<-hg];unfold W6;rw[u3N]]
 refine xK (zhi (g.map .int) (.int (vAt g b+1)) b ?_ rfl rfl b0 (by rw[u7,gl];exact b1) ?_)
 .show(Option.bind ((atI (g.map D.int) b).bind λx=>vB x (.int 1)) λd=>if noL d=true then some d else none)=_
  rw[eb]
  rfl
 rw[show(g.map D.int).set b.toNat (.int (vAt g b+1))=(moved p (a,b)).map .int by rw[hm];unfold W6;rw[u3N]]
 refine zkM (ρ':=pSt W h0 f todo (.v (hD p)) (.v (.int a)) (.v (.int b)) (.v (.lst ((moved p (a,b)).map .int)))) rfl ?_
 refine W1 (c:=!(XD f (moved p (a,b))).isSome) ?_ (λe=>?_) (λe=>?_)
 .show((zkE true (hD (moved p (a,b))) (.dct false true (fdK f) (fdT f))).bind asB)=_
  rw[zlZ]
  rfl
 .have e:(XD f (moved p (a,b))).isSome=false:=by simpa using e
  refine zA (zhW (f:=f) (g:=moved p (a,b)) (o:=some (p,(a,b))) rfl rfl rfl e hl rfl) ?_
  refine ZB (zgU (ds:=todo.map hD) (d:=hD (moved p (a,b))) rfl rfl (by rw[u7];exact ht) rfl) ?_
  have q:=q2 (by omega) (λz=>by unfold InF at z;rw[e]at z;cases z) (.v (.lst ((moved p (a,b)).map .int)))
  rw[pSt,i8]at q
  exact q
 .have e:(XD f (moved p (a,b))).isSome=true:=by simpa using e
  exact ZB rfl (q1 e _)
end
section
variable {N B C:SE->Prop}{R:D->Prop}{m:Int}{ts:List Tie}{h0:Hl}
def swB (t:Tie):Tie:=(t.2,t.1)
theorem zjQ {ρ:Ev}(h28:ts.length<=28)(h:zd 0 ρ=some (zM m ts)):iOf (zr vB (zr ixD (zd 0) (eC (.int 1))) (eFn zX (zb (wx (fLC (iOf (zr ixD (zd 0) (eC (.int 1)))) b2 yr (vy (zb (zd 1) (zb (zd 0) zw))))) zw))) ρ=some ((ts++ts.map swB).map zq):=by
 have e1:zr ixD (zd 0) (eC (.int 1)) ρ=some (.tup (ts.map zq)):=wg (x:=zM m ts) (y:=.int 1) h rfl rfl
 have e2:fLC (iOf (zr ixD (zd 0) (eC (.int 1)))) b2 yr (vy (zb (zd 1) (zb (zd 0) zw))) ρ=some ((ts.map swB).map zq):=by
  unfold fLC
  rw[zdi e1 (show yE (.tup (ts.map zq))=some (ts.map zq)from rfl),u0e,t9 (w6 (by rw[u7];omega)),u07]
  exact Za zq (zq ∘ swB) ts λt _=>⟨[some (.int t.1),some (.int t.2)],rfl,rfl,rfl⟩
 refine zdi (d:=.tup ((ts++ts.map swB).map zq)) (wg (x:=.tup (ts.map zq)) (y:=.tup ((ts.map swB).map zq)) e1 (zhI (ds:=[.lst ((ts.map swB).map zq)]) (xz (zdt e2) ZM) rfl) ?_) rfl
 show(if lim ((ts.map zq).length+((ts.map swB).map zq).length)=true then some (D.tup (ts.map zq++(ts.map swB).map zq))else none)=_
 rw[t9 (w6 (by rw[u7,u7,u7];omega)),<- i8]
theorem znA {p:Hl}{f:Fd}{todo:List Hl}{o4 o5 o6 o7:Sl}{K:Nat}(ok:xJ m ts)(h28:ts.length<=28)(h0k:HOk m.toNat h0.sum h0)(hc:(h0.sum.toNat+1) ^ m.toNat < 5000000)(h:zgz (yn m ts) h0 f (todo++[p]))(ht:todo.length+1<=f.length) :
 (yR (pSt (zM m ts) h0 f (todo++[p]) o4 o5 o6 o7)).w (fun ρ'=>∃ f' todo' o4 o5 o6 o7,ρ'=pSt (zM m ts) h0 f' todo' o4 o5 o6 o7/\zgz (yn m ts) h0 f' todo'/\todo'.length<=f'.length/\f.length<=f'.length/\todo'.length+f.length=todo.length+f'.length) B C R:=by
 unfold yR
 have hS:=wO ok
 have hm:=h.pop
 have hpl:p.length=m.toNat:=by
  obtain⟨x,hx,rfl⟩:=yk.mp hm.me
  exact((hm.ok.beh x hx).ok hS h0k).len
 refine zA (ρ':=pSt (zM m ts) h0 f todo (.v (hD p)) o5 o6 o7) (zlp (ds:=todo.map hD) (d:=hD p) (by show some (Sl.o ((todo++[p]).map hD))=_;rw[i8];rfl)) ?_
 obtain⟨M,hM⟩:∃ M,ts++ts.map swB=M:=⟨_,rfl⟩
 have hmem:∀ s,s∈M↔s∈yn m ts:=λs=>by rw[<-hM];exact zhP ok
 refine WY (ds:=M.map zq) (λj ρ=>∃ f' todo' o5 o6 o7,ρ=pSt (zM m ts) h0 f' todo' (.v (hD p)) o5 o6 o7/\zjS (yn m ts) h0 p f' todo'/\(∀ s∈M.take j,2<=vAt p s.1->InF f' (moved p s))/\todo'.length<=f'.length/\f.length<=f'.length/\todo'.length+f.length=todo.length+f'.length) (by rw[<-hM];exact zjQ h28 rfl) ⟨f,todo,o5,o6,o7,rfl,hm,(λs hs=>by rw[u1K]at hs;cases hs),by omega,q5 _,rfl⟩ ?_ ?_
 .rintro i d ρ hd ⟨f',todo',o5,o6,o7,rfl,hm',ha,l1,l2,l3⟩
  rw[r6]at hd
  obtain⟨s,hs,rfl⟩:=u9.mp hd
  have hs1:=(hmem s).mp (j4 hs)
  refine⟨pSt (zM m ts) h0 f' todo' (.v (hD p)) (.v (.int s.1)) (.v (.int s.2)) o7,rfl,?_⟩
  have hi:=hS s hs1
  rw[<-hpl]at hi
  have hcnt:f'.length < sizeLine:=p6 (hm'.ok.count hS h0k) (u3P hc (by decide))
  have ht:∀ f2:Fd,(∀ g,InF f' g->InF f2 g)->(2<=vAt p s.1->InF f2 (moved p s))->∀ t∈M.take (i+1),2<=vAt p t.1->InF f2 (moved p t):=λf2 up hin t ht=>by
   rw[u1t,hs]at ht
   rcases o0.mp ht with ht | ht
   .exact λh2=>up _ (ha t ht h2)
   .cases j9.mp ht
    exact hin
  refine zny hi hcnt (p6 l1 hcnt) (λq o7=>⟨f',todo',_,_,_,rfl,hm',ht f' (λg hg=>hg) (λh2=>absurd h2 q),l1,l2,l3⟩) (λq o7=>⟨f',todo',_,_,_,rfl,hm',ht f' (λg hg=>hg) (λ_=>q),l1,l2,l3⟩) λq2 q o7=>⟨_,_,_,_,_,rfl,hm'.add hs1 q2 q,ht _ (λg hg=>hg.app _) (λ_=>zay f' (moved p s,some (p,s))),?_,?_,?_⟩
  .rw[r0,r0];exact Nat.succ_le_succ l1
  .rw[r0];exact Nat.le_succ_of_le l2
  .rw[r0,r0];show todo'.length+1+f.length=todo.length+(f'.length+1);omega
 .rintro ρ ⟨f',todo',o5,o6,o7,rfl,hm',ha,l1,l2,l3⟩
  rw[u7,u1i]at ha
  exact⟨f',todo',_,o5,o6,o7,rfl,hm'.done λs hs h2=>ha s ((hmem s).mpr hs) h2,l1,l2,l3⟩
def zlF (B:Nat):SE->Nat
 | [_,_,.m _ ks _,.o ds,_,_,_,_]=>2*(B - ks.length)+ds.length
 | _=>0
theorem zaA {W:D}{f:Fd}{todo:List Hl}{o4 o5 o6 o7:Sl}{K:Nat}:zlF K (pSt W h0 f todo o4 o5 o6 o7)=2*(K - f.length)+todo.length:=by
 show 2*(K - (fdK f).length)+(todo.map hD).length=_
 unfold fdK
 rw[u7,u7]
theorem znr (l:List Hl):zms (.lst (l.map hD)) (.lst [])=some (.bl (!decide (l=[]))):=by
 have hk:okE 20 (.lst (l.map hD))=true:=by
  show(l.map hD).all (okE 19)=true
  rw[u1A,u0y]
  intro h _
  show(h.map D.int).all (okE 18)=true
  rw[u1A,u0y]
  exact λt _=>rfl
 show(if (okE 20 (.lst (l.map hD))&&true)=true then _ else none)=_
 rw[hk,t9 (show(true&&true)=true from rfl)]
 cases l <;> rfl
theorem zn5 {o4 o5 o6 o7:Sl}(ok:xJ m ts)(h28:ts.length<=28)(h0k:HOk m.toNat h0.sum h0)(hc:(h0.sum.toNat+1) ^ m.toNat < 5000000) :
 (vz (tOf (zr zms (zd 3) (wx (yO zw)))) yR 10000000 (pSt (zM m ts) h0 [(h0,none)] [h0] o4 o5 o6 o7)).w (fun ρ'=>∃ f' o4 o5 o6 o7,ρ'=pSt (zM m ts) h0 f' [] o4 o5 o6 o7/\ziq (yn m ts) h0 f') B C R:=by
 have hS:=wO ok
 obtain⟨K,hK⟩:∃ K,(h0.sum.toNat+1) ^ m.toNat=K:=⟨_,rfl⟩
 refine Z6 (fun ρ=>∃ f todo o4 o5 o6 o7,ρ=pSt (zM m ts) h0 f todo o4 o5 o6 o7/\zgz (yn m ts) h0 f todo/\todo.length<=f.length) (zlF K) ?_ 10000000 _ ⟨_,_,o4,o5,o6,o7,rfl,zgz.start (yn m ts) h0,q5 _⟩ ?_
 .rintro ρ ⟨f,todo,o4,o5,o6,o7,rfl,hm,hl⟩
  refine⟨!decide (todo=[]),zav (wg (x:=.lst (todo.map hD)) (y:=.lst []) rfl rfl (znr todo)),λc=>?_,λc=>?_⟩
  .have hne:todo≠[]:=λe=>by rw[b6 e]at c;cases c
   obtain⟨td,p,rfl⟩:∃ td p,todo=td++[p]:=⟨todo.dropLast,todo.getLast hne,(List.dropLast_concat_getLast hne).symm⟩
   rw[r0]at hl
   refine za6 (znA (K:=K) ok h28 h0k hc hm hl) ?_ (λ_ h=>h) (λ_ h=>h) (λ_ h=>h)
   rintro ρ ⟨f',todo',o4,o5,o6,o7,rfl,hm',l1,l2,l3⟩
   refine⟨⟨f',todo',o4,o5,o6,o7,rfl,hm',l1⟩,?_⟩
   rw[zaA,zaA,r0]
   have hcnt:=hm'.ok.count hS h0k
   rw[hK]at hcnt
   show 2*(K - f'.length)+todo'.length < 2*(K - f.length)+(td.length+1)
   omega
  .have he:todo=[]:=by
    cases h:decide (todo=[]) with
    | true=>exact p0 h
    | false=>rw[h]at c;cases c
   subst he
   exact⟨f,o4,o5,o6,o7,rfl,hm.fin⟩
 .rw[zaA]
  show 2*(K - 1)+1 < 10000000
  omega
end
theorem VS {m:Int}{ts:List Tie}{h0:Hl}(ok:xJ m ts)(h28:ts.length<=28)(hl:(h0.length:Int)=m)(hn:∀ v∈h0,0<=v)(hc:(h0.sum.toNat+1) ^ m.toNat < 5000000) :
 ∃ E:List Hl,v7 [zM m ts,hD h0]=some (.lst (E.map hD))/\(∀ g,g∈E↔Beh (yn m ts) h0 g)/\E.length < 10000000:=by
 have hm1:=ok.lo
 have hS:=wO ok
 have h0k:HOk m.toNat h0.sum h0:=⟨by omega,hn,u1o _⟩
 obtain⟨d,e,E,rfl,hE⟩:=zeb (m:=8) (g:=xr) (ds:=[zM m ts,hD h0]) (R:=λd=>∃ E:List Hl,d=.lst (E.map hD)/\(∀ g,g∈E↔Beh (yn m ts) h0 g)/\E.length < 10000000) rfl (by
  unfold xr
  refine zA (ρ':=[.v (zM m ts),.v (hD h0),.m true (fdK [(h0,none)]) (fdT [(h0,none)]),.no,.no,.no,.no,.no]) ?_ ?_
  .unfold zee
   show(match ((zes (hD h0)).map λk=>Sl.m true [k] [D.bl true])with | some s=>Ctl.nx _ | none=>Ctl.no)=_
   rw[Xd]
   rfl
  refine zA (ρ':=pSt (zM m ts) h0 [(h0,none)] [h0] .no .no .no .no) rfl ?_
  refine xK (za6 (zn5 ok h28 h0k hc) ?_ (λ_ h=>h) (λ_ h=>h) (λ_ h=>h))
  rintro ρ ⟨f,o4,o5,o6,o7,rfl,hf⟩
  have hcount:=hf.ok.count hS h0k
  have hne:∀ e∈f,e.1≠[]:=λe he z=>by
   have:=((hf.ok.beh e he).ok hS h0k).len
   rw[z]at this
   have h0':0=m.toNat:=this
   omega
  have es:zc1 [.dct true true (fdK f) (fdT f)]=some ((vC (f.map (·.1))).map hD):=by
   show(if (fdK f).length < 10000000 then _ else none)=_
   rw[t9 (by unfold fdK;rw[u7];omega),zcQ f hne]
   rfl
  refine zkM (ρ':=[.v (zM m ts),.v (hD h0),.m true (fdK f) (fdT f),.v (.lst []),o4,o5,o6,o7]) rfl ?_
  refine ZK (d:=.lst ((vC (f.map (·.1))).map hD)) ?_ ⟨_,rfl,λg=>?_,?_⟩
  .show yJ _ [.v (zM m ts),.v (hD h0),.v (.dct true true (fdK f) (fdT f)),.v (.lst []),o4,o5,o6,o7]=_
   exact vm (zdt (zli (ds:=[_]) rfl es))
  .rw[(vU _).mem_iff,<- hf.iff,yk,u0u]
  .rw[(vU _).length_eq,u7];omega)
 exact⟨E,e,hE⟩
theorem W4 (T:Txt K mg ad):y6 P w K mg base CX0 1 ad.f__law_behind ad.e__law_behind ["web","heap"] (@spD ⟨K⟩ 2 v7):=by
 letI:KK:=⟨K⟩
 refine xl (N:=["web","heap","found","todo","here","a","b","other"]) (ps:=["web","heap"]) T.d__law_behind.fn yd (g:=xr) λcdv A outer s H E hr=>?_
 unfold xr yR xu
 exact(ze (zeZ (i:=2) hr yd.nd rfl (Or.inl rfl) (edv 1) (YB vT))
  (ze (WF (i:=3) yd.nd rfl (Or.inl rfl) (Yi (za (edv 1) zc)))
  (ze (zab 10000000 i9 (yg (zmS hr) zkL (zG _) (edv 3) (vt (Yi zc))) (ze (zmQ (i:=3) (j:=4) yd.nd rfl (Or.inl rfl) (pv 3) (λa=>zmo u0x PySem.F.slot_list_pop PySem.F.type_list_pop zjB a))
  (zf (Zw i9 rfl (wV (xn (yC (edv 0) (zg zj) (λ_ _=>rfl)) (vI yX vD rfl T.z_tuple xc (za (vt (X8 (L:=["a","b"]) (M:=["web","heap","found","todo","here","·a","·b","other"]) rfl (YY (by rfl) (by rfl) (by rfl) (by with_unfolding_all rfl) (by rfl) (by rfl) (by kernel_rfl) wd) (wV (yC (edv 0) (zg zj) (λ_ _=>rfl))) gs2 rb2 (λ_ _ _ _=>(zje rfl (zag (zC (i:=0) zll rfl (Or.inl rfl) (.inr rfl)) (zag (zC (i:=1) zll rfl (Or.inl rfl) (.inr rfl)) zf0)))) (λ_ _ _ _=>(w8 (za (edv 1) (za (edv 0) zc)))))) zc)))) (zeL rfl (YO (yx (zC (i:=5) yd.nd rfl (Or.inl rfl))) (YO (yx (zC (i:=6) yd.nd rfl (Or.inl rfl))) zcj))) (zf (xL (yg za3 yH (zG _) (yC (edv 4) (edv 5) (λ_ _=>rfl)) (zg zj)) (ze (WF (i:=7) yd.nd rfl (Or.inl rfl) (zgv rfl T.z_list (za (edv 4) zc)))
  (ze (zcJ (m:=true) (Xz (yC (edv 7) (edv 5) (λ_ _=>rfl)) (zg zj)) (pv 7) (edv 5))
  (ze (zcJ (m:=true) (xn (yC (edv 7) (edv 6) (λ_ _=>rfl)) (zg zj)) (pv 7) (edv 6))
  (Wh 7 (zf (xL (yg (zbK hr) zfh (by with_unfolding_all rfl) (vI yX vD rfl T.z_tuple xc (za (edv 7) zc)) (edv 2)) (ze (zfy (m:=false) hr (YB vT) (pv 2) (vI yX vD rfl T.z_tuple xc (za (edv 7) zc)))
  (zf (zfE (m:=false) (pv 3) (vI yX vD rfl T.z_tuple xc (za (edv 7) zc)) (λa b=>zcp u0x u2a u2b WA a b)))) zH)))))) zH))))))
  (Wh 3 (zfQ 2 (zf (zB (vt (zdw rfl rfl T.z_sorted (za (edv 2) zc))))))))))
theorem zc7:∀ {ns:List Int},ns≠[]->zd9 ns∈ns/\∀ x∈ns,x<=zd9 ns:=by
 intro ns h
 obtain⟨M,h1,h2⟩:∃ M∈ns,∀ x∈ns,x<=M:=by
  induction ns with
  | nil=>exact absurd rfl h
  | cons n ns ih =>
   by_cases c:ns=[]
   .subst c
    exact⟨n,j9.mpr rfl,λx hx=>by rw[j9.mp hx];exact u1o _⟩
   .obtain⟨M,h1,h2⟩:=ih c
    rcases Int.le_total n M with c2 | c2
    .exact⟨M,p4 _ h1,λx hx=>(j7.mp hx).elim (λe=>e ▸ c2) (h2 x)⟩
    .exact⟨n,e9,λx hx=>(j7.mp hx).elim (λe=>e ▸ u1o _) λhx=>Int.le_trans (h2 x hx) c2⟩
 rw[zjk h1 h2]
 exact⟨h1,h2⟩
theorem zeJ {ns:List Int}(h:ns≠[]):zjx [.lst (ns.map .int)]=some (.int (zd9 ns)):=by
 show(zcv (ns.map .int)).bind (λns=>if ns=[]then none else some (D.int (zd9 ns)))=_
 rw[Zt]
 show(if ns=[]then none else some (D.int (zd9 ns)))=_
 rw[j0 h]
def xW:SE->Ctl :=
 (zW (wu false 2 (zt 2 v7 (zb (zd 0) (zb (zd 1) zw))))
  (yJ (zr WU (eFn YC (zb (wx (fLC (Z5 wL (zb (zr ixD (zd 0) (eC (.int 0))) zw)) b1 (tOf (zr WU (eFn zjx (zb (wx (fLC (iOf (zd 3)) b1 yr (zr ixD (zd 0) (zd 1)))) zw)) (eC (.int 0)))) (zd 0))) zw)) (eC (.int 0)))))
def vf:List D->Option D:=fnD 3 xW
theorem zdU {m:Int}{ts:List Tie}{h0:Hl}(ok:xJ m ts)(h28:ts.length<=28)(hl:(h0.length:Int)=m)(hn:∀ v∈h0,0<=v)(hc:(h0.sum.toNat+1) ^ m.toNat < 5000000):∃ b,vf [zM m ts,hD h0]=some (.bl b)/\(b=true↔Yz m ts h0):=by
 obtain⟨E,eE,hE,hEl⟩:=VS ok h28 hl hn hc
 have h0k:HOk m.toNat h0.sum h0:=⟨by omega,hn,u1o _⟩
 have hbk:∀ g∈E,HOk m.toNat h0.sum g:=λg hg=>((hE g).mp hg).ok (wO ok) h0k
 have hne:E≠[]:=λz=>by
  have:=(hE h0).mpr .zero
  rw[z]at this
  cases this
 have hne2:∀ p:Int,(E.map λg=>vAt g p)≠[]:=λp z=>hne (List.map_eq_nil_iff.mp z)
 obtain⟨bare,hbare⟩:∃ bare,((List.range m.toNat).filter λk:Nat=>decide (zd9 (E.map λg=>vAt g (0+(k:Int)))=0))=bare:=⟨_,rfl⟩
 refine⟨decide (((bare.map Zn).length:Int)=0),?_,?_⟩
 .refine Vt (ρ:=[.v (zM m ts),.v (hD h0),.no]) rfl ?_
  unfold xW
  refine zA (ρ':=[.v (zM m ts),.v (hD h0),.v (.lst (E.map hD))]) (WP (ds:=[_,_]) rfl eE) ?_
  refine ZK (vm (d:=.bl (decide (((bare.map Zn).length:Int)=0))) (wg (x:=.int ((bare.map Zn).length:Int)) (y:=.int 0) (zhI (ds:=[.lst (bare.map Zn)]) (xz (zdt ?_) ZM) rfl) rfl rfl)) rfl
  unfold fLC
  have er:Z5 wL (zb (zr ixD (zd 0) (eC (.int 0))) zw) (visG [.v (zM m ts),.v (hD h0),.v (.lst (E.map hD))])=some ((List.range m.toNat).map Zn):=by
   have e:zb (zr ixD (zd 0) (eC (.int 0))) zw (visG [.v (zM m ts),.v (hD h0),.v (.lst (E.map hD))])=some [.int m]:=xz (wg (x:=zM m ts) (y:=.int 0) rfl rfl rfl) ZM
   refine(u05 (·.bind wL) e).trans ?_
   rw[u0e,XO ok]
   rfl
  rw[er,u0e,t9 (w6 (by rw[u7,u1R];have:=ok.hi;omega)),<- hbare]
  refine vK Zn _ Zn (List.range m.toNat) λk hk=>⟨[some (Zn k)],rfl,?_,λ_=>rfl⟩
  have hk:=u0I.mp hk
  refine zav (wg (x:=.int (zd9 (E.map λg=>vAt g (0+(k:Int))))) (y:=.int 0) (zhI (ds:=[.lst ((E.map λg=>vAt g (0+(k:Int))).map .int)]) (xz (zdt ?_) ZM) (zeJ (hne2 _))) rfl (zfg _ _))
  rw[zdi (d:=.lst (E.map hD)) (show zd 3 ([some (Zn k)]++visG [.v (zM m ts),.v (hD h0),.v (.lst (E.map hD))])=some (.lst (E.map hD))from rfl) (show yE (.lst (E.map hD))=some (E.map hD)from rfl),u0e,t9 (show lim (E.map hD).length=true from b6 (by rw[u7];exact u0W (u3P hEl (by decide)))),u07]
  refine Za hD _ E λg hg=>⟨[some (hD g)],rfl,rfl,?_⟩
  have hb:=(hbk g hg).len
  exact wg (x:=hD g) (y:=Zn k) rfl rfl (v4 (by omega) (by omega))
 .rw[d5,u7]
  have h0':((bare.length:Int)=0)↔bare=[]:=by rw[<-u0S];omega
  rw[h0',<- hbare,List.filter_eq_nil_iff]
  constructor
  .intro h k hk
   have:=h k (u0I.mpr hk)
   rw[d5,u1N]at this
   obtain⟨x1,x2⟩:=zc7 (hne2 (k:Int))
   obtain⟨g,hg,e⟩:=u0u.mp x1
   refine⟨g,(hE g).mp hg,?_⟩
   rw[<-e]at this
   have hb:=hbk g hg
   have:=hb.nn _ (zfb (h:=g) (i:=(k:Int)) (by omega) (by have:=hb.len;omega))
   omega
  .intro h k hk
   rw[u0I]at hk
   obtain⟨g,hg,hp⟩:=h k hk
   rw[d5,u1N]
   obtain⟨x1,x2⟩:=zc7 (hne2 (k:Int))
   have:=x2 _ (u0u.mpr ⟨g,(hE g).mpr hg,rfl⟩)
   omega
theorem Wf (T:Txt K mg ad):y6 P w K mg base CX0 2 ad.f__law_spreads ad.e__law_spreads ["web","heap"] (@spD ⟨K⟩ 2 vf):=by
 letI:KK:=⟨K⟩
 have G__law_behind:=W4 (P:=P) (w:=w) (base:=base) T
 refine xl (N:=["web","heap","rows"]) (ps:=["web","heap"]) T.d__law_spreads.fn Yq (g:=xW) λcdv A outer s H E hr=>?_
 unfold xW
 exact(ze (yP (m:=false) (i:=2) Yq.nd rfl (Or.inr rfl) (zo G__law_behind hr rfl T.d__law_behind (za (edv 0) (za (edv 1) zc))))
  (zf (zB (YE (vE hr) xN (zG _) (zP yb Yb rfl T.z_len Zs (za (vt (zgg (x0:="place") (M:=["web","heap","rows"]) rfl (zjn (by rfl) (by rfl) (by rfl) (by with_unfolding_all rfl) (λ_=>rfl) (λ_=>rfl) (by rfl) (by rfl) (by kernel_rfl) (all_cons rfl wd)) (Zr rfl T.z_range (za (yC (edv 0) (zg zj) (λ_ _=>rfl)) zc)) gs1 rb1 (λ_ _ _ _=>(zC (i:=0) znt rfl (Or.inr rfl) (.inl rfl))) (λ_ _ _ _=>(yg (vE hr) xN (zG _) (zP (zfM rfl) zif rfl T.z_max zjq (za (vt (X8 (L:=["row"]) (M:=["place","web","heap","rows"]) rfl (YY (by rfl) (by rfl) (by rfl) (by with_unfolding_all rfl) (by rfl) (by rfl) (by kernel_rfl) (all_cons rfl wd)) (wV (edv 3)) gs1 rb1 (λ_ _ _ _=>(zC (i:=0) znn rfl (Or.inl rfl) (.inr rfl))) (λ_ _ _ _=>(yC (edv 0) (edv 1) (λ_ _=>rfl))))) zc)) (zg zj))) (λ_ _ _ _=>(edv 0)))) zc)) (zg zj)))))
def Zg (m:Int)(ts:List Tie)(h:Hl):Prop:=∃ s i:Nat,1<=s/\(∀ s',1<=s'->s' < s->∀ g∈ww (m.toNat - 1) s',¬ Yz m ts g)/\(ww (m.toNat - 1) s)[i]?=some h/\Yz m ts h/\∀ g∈(ww (m.toNat - 1) s).take i,¬ Yz m ts g
theorem zbD {α:Type}{l:List α}{i j:Nat}{x:α}(h:l[i]?=some x)(hij:i < j):x∈l.take j:=by
 have:(l.take j)[i]?=some x:=by rw[List.getElem?_take,t9 hij];exact h
 exact j4 this
theorem Zg.uniq {m:Int}{ts:List Tie}{h h2:Hl}(a:Zg m ts h)(b:Zg m ts h2):h=h2:=by
 obtain⟨s,i,a1,a2,a3,a4,a5⟩:=a
 obtain⟨s2,i2,b1,b2,b3,b4,b5⟩:=b
 have e:s=s2:=by
  rcases Nat.lt_trichotomy s s2 with c | c | c
  .exact absurd a4 (b2 s a1 c h (j4 a3))
  .exact c
  .exact absurd b4 (a2 s2 b1 c h2 (j4 b3))
 subst e
 rcases Nat.lt_trichotomy i i2 with c | c | c
 .exact absurd a4 (b5 h (zbD a3 c))
 .subst c
  rw[a3]at b3
  exact p9 b3
 .exact absurd b4 (a5 h2 (zbD b3 c))
theorem Zv {m:Int}{ts:List Tie}(ok:xJ m ts)(h5:m<=5):∃ h,zU [zM m ts]=some (hD h)/\Zg m ts h:=by
 have hm:=ok.lo
 obtain⟨d,e,h,rfl,hf⟩:=zeb (m:=3) (g:=yc) (ds:=[zM m ts]) (R:=λd=>∃ h,d=hD h/\Zg m ts h) rfl (by
  unfold yc
  refine zA (Yw (Vy ok)) ?_
  refine zA (Yw (d:=.non) (YG (a:=m) (b:=6) (by omega))) ?_
  refine zA (ρ':=[.v (zM m ts),.v (.int 1),.no]) rfl ?_
  refine Z6 (fun ρ=>∃ (s:Nat) (o:Sl),ρ=[.v (zM m ts),.v (.int (s:Int)),o]/\1<=s/\(s:Int)<=m/\∀ s',1<=s'->s' < s->∀ g∈ww (m.toNat - 1) s',¬ Yz m ts g) muF ?_ 8 _ ⟨1,.no,rfl,by omega,by omega,λs' h1 h2=>absurd h1 (by omega)⟩ (show 5 < 8 by decide)
  rintro ρ ⟨s,o,rfl,h1,hs,hlow⟩
  refine⟨true,rfl,λ_=>?_,λz=>by cases z⟩
  unfold xj
  have hk:((m.toNat - 1:Nat):Int)+1=m:=by omega
  have e1:=WS (m.toNat - 1) 6 s (by omega) (by omega) (by omega)
  rw[hk]at e1
  refine xK (WY (ds:=(ww (m.toNat - 1) s).map hD) (λi ρ=>(∃ o,ρ=[.v (zM m ts),.v (.int (s:Int)),o])/\∀ h∈(ww (m.toNat - 1) s).take i,¬ Yz m ts h) ?_ ⟨⟨o,rfl⟩,λh hh=>(by rw[u1K]at hh;cases hh)⟩ ?_ ?_)
  .show((zhb 4 yp 6 [.int m,.int (s:Int)]).bind yE)=_
   rw[e1]
   rfl
  .rintro i d ρ hd ⟨⟨o,rfl⟩,ha⟩
   rw[r6]at hd
   obtain⟨h,hh,rfl⟩:=u9.mp hd
   have hmem:=j4 hh
   obtain⟨l1,l2,l3⟩:=zf3 hmem
   have hl:(h.length:Int)=m:=by omega
   obtain⟨b,eb,hb⟩:=Xx ok hl l2 (by omega) (zi3 (by omega) (by omega))
   refine⟨[.v (zM m ts),.v (.int (s:Int)),.v (hD h)],rfl,?_⟩
   unfold xf
   refine W1 (c:=b) ?_ (λz=>?_) (λz=>?_)
   .show((wI [zM m ts,hD h]).bind asB)=_
    rw[eb]
    rfl
   .exact ZK rfl ⟨h,rfl,s,i,h1,hlow,hh,hb.mp z,ha⟩
   .refine ZB rfl ⟨⟨_,rfl⟩,λg hg=>?_⟩
    rw[u1t,hh]at hg
    rcases o0.mp hg with hg | hg
    .exact ha g hg
    .cases j9.mp hg
     intro hsp
     rw[hb.mpr hsp]at z
     cases z
  .rintro ρ ⟨⟨o,rfl⟩,ha⟩
   rw[u7,u1i]at ha
   have hlt:(s:Int) < m:=by
    apply u3f
    intro hno
    have hse:s=m.toNat - 1+1:=by omega
    have h2:=Vz (m.toNat - 1)
    rw[<-hse]at h2
    refine ha _ h2 λk hk=>⟨_,.zero,?_⟩
    show 0 < (List.replicate s (1:Int)).getD ((k:Int)).toNat 0
    rw[u0Y,u0l,u0w,t9 (by omega)]
    decide
   refine ZB (ρ':=[.v (zM m ts),.v (.int ((s:Int)+1)),o]) rfl ⟨⟨s+1,o,rfl,by omega,by omega,λs' h1' h2' g hg=>?_⟩,?_⟩
   .by_cases c:s'=s
    .rw[c]at hg;exact ha g hg
    .exact hlow s' h1' (by omega) g hg
   show(6 - ((s:Int)+1)).toNat < (6 - (s:Int)).toNat
   omega)
 exact⟨h,e,hf⟩
theorem Xr {m:Int}{ts:List Tie}{h:Hl}(e:zU [zM m ts]=some (hD h)):wm [zM m ts]=some (.int h.sum):=by
 refine Vt (ρ:=[.v (zM m ts)]) rfl ?_
 unfold wk
 refine ZK (vm (d:=.int h.sum) ?_) rfl
 show(Option.bind ((zU [zM m ts]).bind λd=>(some []).map (d::·)) zeu)=_
 rw[e]
 exact za4 h
def wU:SE->Ctl :=
 (wu false 4 (zr vB (zd 4) (wx (fLC (Z5 wL (zb (zr Yn (zr vB (zd 1) (eC (.int 1))) (eFn zeu (zb (zd 5) zw))) zw)) b1 yr (zr vB (zd 6) (vy (zb (zd 0) zw)))))))
def wT:SE->Ctl :=
 (zW (wu false 4 (wx (yO zw)))
  (zW (YV (iOf (zd 2)) (yt 5) wU)
  (wu false 2 (zd 4))))
def wc:SE->Ctl :=
 (zW (wu false 2 (wx (yO (zb (vy zw) zw))))
  (zW (yZ wL (zb (zd 0) zw) (yt 3) wT)
  (yJ (wx (fFn zfo (zb (wx (fLC (iOf (zd 2)) b1 (tOf (zr WU (eFn zeu (zb (zd 0) zw)) (zd 2))) (zd 0))) zw))))))
def zn:List D->Option D:=fnD 6 wc
theorem VA:zn [.int 1,.int 1]=some (.lst ((ww 0 1).map hD)):=by kernel_rfl
theorem zac:zn [.int 2,.int 1]=some (.lst ((ww 1 1).map hD)):=by kernel_rfl
theorem zaD:zn [.int 2,.int 2]=some (.lst ((ww 1 2).map hD)):=by kernel_rfl
theorem zas:zn [.int 3,.int 1]=some (.lst ((ww 2 1).map hD)):=by kernel_rfl
theorem VP:zn [.int 3,.int 2]=some (.lst ((ww 2 2).map hD)):=by kernel_rfl
theorem zap:zn [.int 3,.int 3]=some (.lst ((ww 2 3).map hD)):=by kernel_rfl
theorem zam:zn [.int 4,.int 1]=some (.lst ((ww 3 1).map hD)):=by kernel_rfl
theorem zaw:zn [.int 4,.int 2]=some (.lst ((ww 3 2).map hD)):=by kernel_rfl
theorem V4:zn [.int 4,.int 3]=some (.lst ((ww 3 3).map hD)):=by kernel_rfl
theorem VF:zn [.int 4,.int 4]=some (.lst ((ww 3 4).map hD)):=by kernel_rfl
theorem VB:zn [.int 5,.int 1]=some (.lst ((ww 4 1).map hD)):=by kernel_rfl
theorem zar:zn [.int 5,.int 2]=some (.lst ((ww 4 2).map hD)):=by kernel_rfl
theorem VR:zn [.int 5,.int 3]=some (.lst ((ww 4 3).map hD)):=by kernel_rfl
theorem V9:zn [.int 5,.int 4]=some (.lst ((ww 4 4).map hD)):=by kernel_rfl
theorem zau:zn [.int 5,.int 5]=some (.lst ((ww 4 5).map hD)):=by kernel_rfl
theorem zbe:∀ k s:Nat,k<=4->1<=s->s<=k+1->zn [.int ((k:Int)+1),.int (s:Int)]=some (.lst ((ww k s).map hD))
 | 0,1,_,_,_=>VA
 | 1,1,_,_,_=>zac
 | 1,2,_,_,_=>zaD
 | 2,1,_,_,_=>zas
 | 2,2,_,_,_=>VP
 | 2,3,_,_,_=>zap
 | 3,1,_,_,_=>zam
 | 3,2,_,_,_=>zaw
 | 3,3,_,_,_=>V4
 | 3,4,_,_,_=>VF
 | 4,1,_,_,_=>VB
 | 4,2,_,_,_=>zar
 | 4,3,_,_,_=>VR
 | 4,4,_,_,_=>V9
 | 4,5,_,_,_=>zau
 | 0,s+2,_,_,h=>absurd h (by omega)
 | 1,s+3,_,_,h=>absurd h (by omega)
 | 2,s+4,_,_,h=>absurd h (by omega)
 | 3,s+5,_,_,h=>absurd h (by omega)
 | 4,s+6,_,_,h=>absurd h (by omega)
 | k+5,_,h,_,_=>absurd h (by omega)
theorem Xg (T:Txt K mg ad):y6 P w K mg base CX0 1 ad.f__law_all_heaps ad.e__law_all_heaps ["many","stones"] (@spD ⟨K⟩ 2 zn):=by
 letI:KK:=⟨K⟩
 refine xl (N:=["many","stones","found","k","longer","row"]) (ps:=["many","stones"]) T.d__law_all_heaps.fn zI (g:=wc) λcdv A outer s H E hr=>?_
 unfold wc wT wU
 exact(ze (yP (m:=false) (i:=2) zI.nd rfl (Or.inl rfl) (vt (Yi (za (w8 zc) zc))))
  (ze (ZT i9 rfl rfl T.z_range (za (edv 0) zc) (yx (zC (i:=3) zI.nd rfl (Or.inl rfl))) (ze (yP (m:=false) (i:=4) zI.nd rfl (Or.inl rfl) (vt (Yi zc)))
  (ze (Zw i9 rfl (wV (edv 2)) (yx (zC (i:=5) zI.nd rfl (Or.inr rfl))) (zf (yP (m:=false) (i:=4) zI.nd rfl (Or.inl rfl) (xn (edv 4) (vt (X8 (L:=["here"]) (M:=["many","stones","found","k","longer","row"]) rfl (YY (by rfl) (by rfl) (by rfl) (by with_unfolding_all rfl) (by rfl) (by rfl) (by kernel_rfl) (all_cons rfl wd)) (Zr rfl T.z_range (za (Xz (xn (edv 1) (zg zj)) (zP (vH rfl) Xh rfl T.z_sum Wy (za (edv 5) zc))) zc)) gs1 rb1 (λ_ _ _ _=>(zC (i:=0) zmE rfl (Or.inl rfl) (.inr rfl))) (λ_ _ _ _=>(xn (edv 6) (w8 (za (edv 0) zc))))))))))
  (zf (yP (m:=false) (i:=2) zI.nd rfl (Or.inl rfl) (edv 4))))))
  (zf (zB (vt (zdz rfl rfl T.z_sorted (za (vt (zfu (L:=["row"]) (M:=["many","stones","found","k","longer","·row"]) rfl (YY (by rfl) (by rfl) (by rfl) (by with_unfolding_all rfl) (by rfl) (by rfl) (by kernel_rfl) (all_cons rfl wd)) (wV (edv 2)) gs1 rb1 (λ_ _ _ _=>(zC (i:=0) zmK rfl (Or.inl rfl) (.inr rfl))) (λ_ _ _ _=>(yg (vE hr) xN (zG _) (zP (vH rfl) Xh rfl T.z_sum Wy (za (edv 0) zc)) (edv 2))) (λ_ _ _ _=>(edv 0)))) zc)))))))
def vd:SE->Ctl :=
 (sIf (tOf (zt 2 vf (zb (zd 0) (zb (zd 2) zw)))) (yJ (zd 2)) zR)
def vk:SE->Ctl :=
 (YV (iOf (zt 2 zn (zb (zr ixD (zd 0) (eC (.int 0))) (zb (zd 1) zw)))) (yt 2) vd)
def x3:SE->Ctl :=
 (zW (yZ ZH (zb (eC (.int 1)) (zb (zr vB (zr ixD (zd 0) (eC (.int 0))) (eC (.int 1))) zw)) (yt 1) vk)
  (yJ (eC .non)))
def Yh:List D->Option D:=fnD 3 x3
theorem zjz {a n:Nat}(h1:a<=6)(h2:n<=5):a ^ n < 5000000:=p6 (i3 (Nat.pow_le_pow_left h1 n) (Nat.pow_le_pow_right (by decide) h2)) (by decide)
theorem zbm {m:Int}{ts:List Tie}(ok:xJ m ts)(h28:ts.length<=28)(h5:m<=5):∃ h,Yh [zM m ts]=some (hD h)/\Zg m ts h:=by
 have hm:=ok.lo
 have hk:((m.toNat - 1:Nat):Int)+1=m:=by omega
 obtain⟨d,e,h,rfl,hf⟩:=zeb (m:=3) (g:=x3) (ds:=[zM m ts]) (R:=λd=>∃ h,d=hD h/\Zg m ts h) (ρ:=[.v (zM m ts),.no,.no]) rfl (by
  unfold x3
  refine xK (Vg (lo:=1) (c:=m.toNat) (λj ρ=>(∃ o1 o2,ρ=[.v (zM m ts),o1,o2])/\∀ s',1<=s'->s' < j+1->∀ g∈ww (m.toNat - 1) s',¬ Yz m ts g) ?_ ⟨⟨.no,.no,rfl⟩,λs' h1 h2=>absurd h1 (by omega)⟩ ?_ ?_)
  .have er:zb (eC (.int 1)) (zb (zr vB (zr ixD (zd 0) (eC (.int 0))) (eC (.int 1))) zw) (visG [.v (zM m ts),.no,.no])=some [.int 1,.int (m+1)]:=rfl
   rw[er,u0e]
   have e2:ZH [.int 1,.int (m+1)]=some (Zo 1 (m+1 - 1).toNat):=zdv (by decide) (by decide) (by omega) (by omega)
   rw[e2,show(m+1 - 1).toNat=m.toNat by omega]
  .rintro j ρ hj ⟨⟨o1,o2,rfl⟩,hlow⟩
   refine⟨[.v (zM m ts),.v (.int (1+(j:Int))),o2],rfl,?_⟩
   unfold vk
   have e1:=zbe (m.toNat - 1) (j+1) (by omega) (by omega) (by omega)
   rw[hk,show((j+1:Nat):Int)=1+(j:Int) by omega]at e1
   refine WY (ds:=(ww (m.toNat - 1) (j+1)).map hD) (λi ρ=>(∃ o2,ρ=[.v (zM m ts),.v (.int (1+(j:Int))),o2])/\∀ h∈(ww (m.toNat - 1) (j+1)).take i,¬ Yz m ts h) (zdi (vZ (ds:=[.int m,.int (1+(j:Int))]) rfl e1) rfl) ⟨⟨o2,rfl⟩,λh hh=>(by rw[u1K]at hh;cases hh)⟩ ?_ ?_
   .rintro i d ρ hd ⟨⟨o2,rfl⟩,ha⟩
    rw[r6]at hd
    obtain⟨h,hh,rfl⟩:=u9.mp hd
    obtain⟨l1,l2,l3⟩:=zf3 (j4 hh)
    have hl:(h.length:Int)=m:=by omega
    obtain⟨b,eb,hb⟩:=zdU ok h28 hl l2 (zjz (by omega) (by omega))
    refine⟨[.v (zM m ts),.v (.int (1+(j:Int))),.v (hD h)],rfl,?_⟩
    unfold vd
    refine W1 (c:=b) (zav (vZ (ds:=[zM m ts,hD h]) rfl eb)) (λz=>?_) (λz=>?_)
    .exact ZK rfl ⟨h,rfl,j+1,i,by omega,hlow,hh,hb.mp z,ha⟩
    .refine ZB rfl ⟨⟨_,rfl⟩,λg hg=>?_⟩
     rw[u1t,hh]at hg
     rcases o0.mp hg with hg | hg
     .exact ha g hg
     .cases j9.mp hg
      intro hsp
      rw[hb.mpr hsp]at z
      cases z
   .rintro ρ ⟨⟨o2,rfl⟩,ha⟩
    rw[u7,u1i]at ha
    refine⟨⟨_,_,rfl⟩,λs' h1 h2 g hg=>?_⟩
    by_cases c:s'=j+1
    .rw[c]at hg;exact ha g hg
    .exact hlow s' h1 (by omega) g hg
  .rintro ρ ⟨⟨o1,o2,rfl⟩,hlow⟩
   exfalso
   have h2:=Vz (m.toNat - 1)
   refine hlow (m.toNat - 1+1) (by omega) (by omega) _ h2 λk hk=>⟨_,.zero,?_⟩
   show 0 < (List.replicate (m.toNat - 1+1) (1:Int)).getD ((k:Int)).toNat 0
   rw[u0Y,u0l,u0w,t9 (by omega)]
   decide)
 exact⟨h,e,hf⟩
theorem zaa (T:Txt K mg ad):y6 P w K mg base CX0 3 ad.f__law_first ad.e__law_first ["web"] (@spD ⟨K⟩ 1 Yh):=by
 letI:KK:=⟨K⟩
 have G__law_spreads:=Wf (P:=P) (w:=w) (base:=base) T
 have G__law_all_heaps:=Xg (P:=P) (w:=w) (base:=base) T
 refine xl (N:=["web","stones","heap"]) (ps:=["web"]) T.d__law_first.fn v0 (g:=x3) λcdv A outer s H E hr=>?_
 unfold x3 vk vd
 exact(ze (zcS i9 rfl rfl T.z_range (za (zg zj) (za (xn (yC (edv 0) (zg zj) (λ_ _=>rfl)) (zg zj)) zc)) (yx (zC (i:=1) v0.nd rfl (Or.inl rfl))) (zf (Zw i9 rfl (wV (zo G__law_all_heaps hr rfl T.d__law_all_heaps (za (yC (edv 0) (zg zj) (λ_ _=>rfl)) (za (edv 1) zc)))) (yx (zC (i:=2) v0.nd rfl (Or.inl rfl))) (zf (xL (xv (zo G__law_spreads hr rfl T.d__law_spreads (za (edv 0) (za (edv 2) zc)))) (zf (zB (edv 2))) zH)))))
  (zf (zB (zbb zaG))))
theorem VO:bootBuiltins "ValueError"=some (.type "ValueError"):=by decide +kernel
theorem ziH {n:Nat}(h:n<=13):n<=sizeLine:=by rw[u1B];omega
theorem W3 (T:Txt K mg ad):zg9 P w K mg base 1 ad.f__law_kinds ad.e__law_kinds ["e"] (zeD (clT ad) (λj=>j < 13/\zcZ K (znc ad) ad.x_StoneError (clT ad j) j)):=by
 letI:KK:=⟨K⟩
 refine zki (N:=["e","found"]) (ps:=["e"]) T.d__law_kinds.fn xA (λvs H Q E h=>by obtain⟨a,j,od,rfl,_⟩:=h;rfl) λcdv A outer s H vs Q E ev hr hsp=>?_
 obtain⟨a,j,od,rfl,hH,⟨hj,kj⟩,q⟩:=hsp
 refine⟨_,(wl (Xy (i:=1) xA.nd rfl (Or.inl rfl) (zbt (zp (zN yG rfl T.z_isinstance zy (zp (pv 0) (zp (yF (v:=.ref ad.x_NoKind) rfl T.g_NoKind rfl) yw))) (zp (zN yG rfl T.z_isinstance zy (zp (pv 0) (zp (yF (v:=.ref ad.x_NoHeap) rfl T.g_NoHeap rfl) yw))) (zp (zN yG rfl T.z_isinstance zy (zp (pv 0) (zp (yF (v:=.ref ad.x_NoPlace) rfl T.g_NoPlace rfl) yw))) (zp (zN yG rfl T.z_isinstance zy (zp (pv 0) (zp (yF (v:=.ref ad.x_NoNumber) rfl T.g_NoNumber rfl) yw))) yw))))))
  (wl (Xy (i:=1) xA.nd rfl (Or.inl rfl) (zhu zda (pv 1) (zbt (zp (zN yG rfl T.z_isinstance zy (zp (pv 0) (zp (yF (v:=.ref ad.x_NoTally) rfl T.g_NoTally rfl) yw))) (zp (zN yG rfl T.z_isinstance zy (zp (pv 0) (zp (yF (v:=.ref ad.x_NotTree) rfl T.g_NotTree rfl) yw))) (zp (zN yG rfl T.z_isinstance zy (zp (pv 0) (zp (yF (v:=.ref ad.x_NotJoined) rfl T.g_NotJoined rfl) yw))) (zp (zN yG rfl T.z_isinstance zy (zp (pv 0) (zp (yF (v:=.ref ad.x_NoWeights) rfl T.g_NoWeights rfl) yw))) yw)))))))
  (wl (Xy (i:=1) xA.nd rfl (Or.inl rfl) (zhu zda (pv 1) (zbt (zp (zN yG rfl T.z_isinstance zy (zp (pv 0) (zp (yF (v:=.ref ad.x_NoRow) rfl T.g_NoRow rfl) yw))) (zp (zN yG rfl T.z_isinstance zy (zp (pv 0) (zp (yF (v:=.ref ad.x_NoWeb) rfl T.g_NoWeb rfl) yw))) (zp (zN yG rfl T.z_isinstance zy (zp (pv 0) (zp (yF (v:=.ref ad.x_NoSteps) rfl T.g_NoSteps rfl) yw))) (zp (zN yG rfl T.z_isinstance zy (zp (pv 0) (zp (yF (v:=.ref ad.x_NoText) rfl T.g_NoText rfl) yw))) yw)))))))
  (wl (Xy (i:=1) xA.nd rfl (Or.inl rfl) (zhu zda (pv 1) (zbt (zp (zN yG rfl T.z_isinstance zy (zp (pv 0) (zp (yF (v:=.ref ad.x_TooGreat) rfl T.g_TooGreat rfl) yw))) yw))))
  (wl (zjN (PW.pt (zlO (ziU (zi7 (zN yG rfl T.z_isinstance zy (zp (pv 0) (zp (yD (v:=.ty "ValueError") rfl T.z_ValueError VO rfl) yw))))) (zi6 (zfp zbJ (zcp u0x PySem.F.slot_list_count PySem.F.type_list_count zgE (pv 1) (zp vT yw)) zj (zG _))))) (Xk (zaV (zn3 zl4 zj))) zfP) (Xk (zaV (zcp u0x PySem.F.slot_list_index PySem.F.type_list_index ze0 (pv 1) (zp vT yw))))))))),?_⟩
 refine zfY (cs:=[ad.x_NoKind,ad.x_NoHeap,ad.x_NoPlace,ad.x_NoNumber]) (bs:=[0 == j,1 == j,2 == j,3 == j]) kj.look (u05 (λl=>(l.drop 0).take 4) kj.hot) (ziH (n:=4) (by decide)) rfl rfl hH fun σ1 H1 S1=>?_
 refine VT (cs:=[ad.x_NoTally,ad.x_NotTree,ad.x_NotJoined,ad.x_NoWeights]) (bs:=[4 == j,5 == j,6 == j,7 == j]) kj.look (u05 (λl=>(l.drop 4).take 4) kj.hot) (by exact ziH (n:=8) (by decide)) S1 fun σ2 H2 S2=>?_
 refine VT (cs:=[ad.x_NoRow,ad.x_NoWeb,ad.x_NoSteps,ad.x_NoText]) (bs:=[8 == j,9 == j,10 == j,11 == j]) kj.look (u05 (λl=>(l.drop 8).take 4) kj.hot) (by exact ziH (n:=12) (by decide)) S2 fun σ3 H3 S3=>?_
 refine VT (cs:=[ad.x_TooGreat]) (bs:=[12 == j]) kj.look (u05 (λl=>(l.drop 12).take 1) kj.hot) (by exact ziH (n:=13) (by decide)) S3 fun σ4 H4 S4=>?_
 exact zkm kj.val kj.look hj S4 (q _ S4.same)
def v6:SE->Ctl :=
 (zW (zlJ (xIf (tOf (zr WU (zd 0) (eC (.int 0)))) (xEx (zfc 1 Y5 (zb (zd 1) zw))) (xEx (zfc 1 xx (zb (zd 1) zw)))) (sIf (tOf (zr WU (zd 0) (eC (.int 0)))) (Y4 (zt 1 wm (zb (zd 1) zw))) (Y4 (zt 1 zU (zb (zd 1) zw)))) (zkH [12] (znV (zfD (fK [12]) (zfD (fA "many" [12]) (zfD (fA "most" [12]) (λ_=>some [])))))))
  (yJ (eC .non)))
def Zh:List D->Option D:=fnD 3 v6
theorem zkt {m:Int}{ts:List Tie}(ok:xJ m ts)(h:6 < m):xx [zM m ts]=some (jG m 6):=by
 have e1:=zlH ok
 show yM [.v (zM m ts),.no,.no]=_
 unfold yM
 refine zkv rfl (Yw (d:=.non) e1) ?_
 exact zkx (by decide) (by decide) h
theorem zel {m k:Int}{ts:List Tie}(ok:xJ m ts)(h:6 < m):Zh [.int k,zM m ts]=some (.tup [.int 12,.int m,.int 6]):=by
 have e:=zkt ok h
 refine Vt (ρ:=[.v (.int k),.v (zM m ts),.no]) rfl ?_
 unfold v6
 refine xK (ZK (zio (j:=jG m 6) (d:=.tup [.int 12,.int m,.int 6]) ?_ ?_) rfl)
 .have et:tOf (zr WU (zd 0) (eC (.int 0))) (visG [.v (.int k),.v (zM m ts),.no])=some (decide (k=0)):=zav (wg (x:=.int k) (y:=.int 0) rfl rfl zK)
  unfold xIf
  rw[et]
  cases decide (k=0) with
  | true=>exact e
  | false=>exact e
 .obtain⟨e1,e2⟩:=zfJ (S:=m) (T:=6) (by omega) (by decide) (by decide)
  unfold zkH znV zfD fK fA
  rw[e2,e1]
  rfl
theorem zbo (T:Txt K mg ad):y6 P w K mg base CX0 12 ad.f__law_came ad.e__law_came ["way","web"] (@spD ⟨K⟩ 2 Zh):=by
 letI:KK:=⟨K⟩
 have G_first_spread:=xF (P:=P) (w:=w) (base:=base) T
 have X_first_spread:=xb (P:=P) (w:=w) (base:=base) T
 have G_spread_need:=YX (P:=P) (w:=w) (base:=base) T
 have X_spread_need:=Yo (P:=P) (w:=w) (base:=base) T
 have H_kinds:=W3 (P:=P) (w:=w) (base:=base) T
 have okj:∀ j,j∈[12]->j < 13/\zcZ K (znc ad) ad.x_StoneError (clT ad j) j:=by
  intro j hj
  simp only[j7,i5,u1l]at hj
  rcases hj with rfl
  .exact⟨by decide,.of T.y_TooGreat⟩
 have exj:∀ (h:Nat->Option D) j d,zkH [12] h j=some d->PySem.W.exmOne K (.ref (clT ad j)) (.ref ad.x_StoneError)=some true:=λh j d e=>by rw[zlq ad j];exact(okj _ (zkF e)).2.exm
 have xat_many:∀ j,j % 16∈[12]->wf K (clT ad j)/\Zx K (clT ad j) "many":=by
  intro j hj
  rw[zlq ad j]
  generalize j % 16=m at hj ⊢
  simp only[j7,i5,u1l]at hj
  rcases hj with rfl
  .exact⟨.of T.ea_TooGreat,zcB T.na_TooGreat _ (by decide)⟩
 have xat_most:∀ j,j % 16∈[12]->wf K (clT ad j)/\Zx K (clT ad j) "most":=by
  intro j hj
  rw[zlq ad j]
  generalize j % 16=m at hj ⊢
  simp only[j7,i5,u1l]at hj
  rcases hj with rfl
  .exact⟨.of T.ea_TooGreat,zcB T.na_TooGreat _ (by decide)⟩
 refine xl (N:=["way","web","e"]) (ps:=["way","web"]) T.d__law_came.fn Xu (g:=v6) λcdv A outer s H E hr=>?_
 unfold v6
 exact(ze (zlj (i:=2) rfl rfl rfl Xu.nd rfl rfl rfl T.g_StoneError (λps W E0 hx=>(Z9 (zk4 (yg (vE hr) xN (zG _) (edv 0) (zg zj)) (Z9 (zb0 (zat (X_spread_need.mono (by decide)) hx hr rfl T.d_spread_need.at_ T.d_spread_need.kp T.d_spread_need.bd (za (edv 1) zc)))) (Z9 (zb0 (zat (X_first_spread.mono (by decide)) hx hr rfl T.d_first_spread.at_ T.d_first_spread.kp T.d_first_spread.bd (za (edv 1) zc))))))) (λps W=>(zf (xL (yg (vE hr) xN (zG _) (edv 0) (zg zj)) (zf (YI (zo G_spread_need hr rfl T.d_spread_need (za (edv 1) zc)))) (zf (YI (zo G_first_spread hr rfl T.d_first_spread (za (edv 1) zc))))))) (exj _) (λok ea=>(Xk (zaV (zi2 (zp (zh2 (E:=λ_ _ _=>False) H_kinds (hr.mono (by decide)) rfl T.d__law_kinds.at_ T.d__law_kinds.kp T.d__law_kinds.bd ok (zp (pv 2) yw)) (zp (zmF (pv 2) rfl) (zp (zmF (pv 2) rfl) yw))))))) (zmh (zmG (zaf (ziG (ok:=_) (zlq ad) okj) (zaf (zf6 xat_many) (zaf (zf6 xat_most) zkc))))))
  (zf (zB (zbb zaG))))
def zb9:SE->Ctl :=
 (sIf (yW (tOf (zt 2 wR (zb (zt 2 Zh (zb (zd 5) (zb (vy (zb (zd 4) (zb (vy (zb (vy (zb (eC (.int 0)) (zb (eC (.int 1)) zw))) zw)) zw))) zw))) (zb (vy (zb (eC (.int 12)) (zb (zd 4) (zb (eC (.int 6)) zw)))) zw))))) (yJ (eC (.bl false))) zR)
def VN:SE->Ctl :=
 (zW (wu false 2 (zt 3 v8 (zb (zr yL (zd 1) (eC (.int 3))) (zb (eC (.int 5)) (zb (zr gtD (zr wF (zd 1) (eC (.int 3))) (eC (.int 0))) zw)))))
  (zW (wu false 3 (zt 1 Yh (zb (zd 2) zw)))
  (zW (sIf (Zp (yW (tOf (zt 2 wR (zb (zt 1 zU (zb (zd 2) zw)) (zb (zd 3) zw))))) (yW (tOf (zt 2 wR (zb (zt 1 wm (zb (zd 2) zw)) (zb (eFn zeu (zb (zd 3) zw)) zw)))))) (yJ (eC (.bl false))) zR)
  (zW (wu false 4 (zr vB (eC (.int 7)) (zr wF (zd 1) (eC (.int 2)))))
  (yZ wL (zb (eC (.int 2)) zw) (yt 5) zb9)))))
def zhV:SE->Ctl :=
 (zW (YV (iOf (zr vB (wx (yO (zb (zt 2 y9 (zb (zd 0) (zb (eC (.int 0)) zw))) zw))) (eSl slD (zd 0) (x6 (eC (.int 1))) (x6 (eC (.int 3)))))) (yt 1) VN)
  (yJ (eC (.bl true))))
def zlT:List D->Option D:=fnD 6 zhV
theorem zme (n:Nat)(h:Hl):okE (n+2) (hD h)=true:=by
 show(h.map D.int).all (okE (n+1))=true
 rw[u1A,u0y]
 exact λ_ _=>rfl
theorem zjC (script:D)(z:Int)(o2 o3 o4 o5:Sl)(n b:SE->Prop)(r:D->Prop)(I:SE->Prop)(hI:∀ o2 o3 o4 o5,I [.v script,.v (.int z),o2,o3,o4,o5]):(VN [.v script,.v (.int z),o2,o3,o4,o5]).w I b n r:=by
 obtain⟨ts,ew,ok,h28⟩:=zek (c:=z / 3) (mo:=5) (jo:=decide (0 < z % 3)) (by decide) (by decide)
 obtain⟨m,hm⟩:∃ m:Int,1+z / 3 % 5=m:=⟨_,rfl⟩
 have hm5:m<=5:=by have:=u2d (z / 3) (show(0:Int) < 5 by decide);omega
 rw[hm]at ew ok
 have hm1:=ok.lo
 obtain⟨h,e1,f1⟩:=Zv ok hm5
 obtain⟨h',e2,f2⟩:=zbm ok h28 hm5
 obtain rfl:h=h':=f1.uniq f2
 have e3:=Xr e1
 unfold VN
 refine zA (ρ':=[.v script,.v (.int z),.v (zM m ts),o3,o4,o5]) (WP (ds:=[.int (z / 3),.int 5,.bl (decide (0 < z % 3))]) (xz (wg (x:=.int z) (y:=.int 3) rfl rfl (YR (by decide) (by decide))) (xz rfl (xz (wg (x:=.int (z % 3)) (y:=.int 0) (wg (x:=.int z) (y:=.int 3) rfl rfl (wQ (by decide))) rfl rfl) ZM))) ew) ?_
 refine zA (ρ':=[.v script,.v (.int z),.v (zM m ts),.v (hD h),o4,o5]) (WP (ds:=[_]) rfl e2) ?_
 refine zA (ziZ (znQ (b:=false) (c:=false) (zf8 (b:=true) (zav (vZ (ds:=[hD h,hD h]) (xz (vZ (ds:=[zM m ts]) rfl e1) (xz rfl ZM)) (zeU (zme 3 h))))) (zf8 (b:=true) (zav (vZ (ds:=[.int h.sum,.int h.sum]) (xz (vZ (ds:=[zM m ts]) rfl e3) (xz (zj8 rfl) ZM)) (zeU rfl)))))) ?_
 obtain⟨q,hq⟩:∃ q:Int,z % 2=q:=⟨_,rfl⟩
 obtain⟨q0,q1⟩:=ziB (by decide) hq
 refine zA (ρ':=[.v script,.v (.int z),.v (zM m ts),.v (hD h),.v (.int (7+q)),o5]) (zoh (wg (x:=.int 7) (y:=.int q) rfl (wg (x:=.int z) (y:=.int 2) rfl rfl (by rw[wQ (by decide),hq])) rfl)) ?_
 have ok7:xJ (7+q) [(0,1)]:=⟨by omega,by omega,λt ht=>by cases j9.mp ht;dsimp only;omega,List.pairwise_singleton _ _⟩
 refine Vg (lo:=0) (c:=2) (λ_ ρ=>∃ o5:Sl,ρ=[.v script,.v (.int z),.v (zM m ts),.v (hD h),.v (.int (7+q)),o5]) (show wL [.int 2]=some (Zo 0 2)from zdV (by decide) (by decide)) ⟨_,rfl⟩ ?_ ?_
 .rintro i ρ hi ⟨o5,rfl⟩
  refine⟨_,rfl,?_⟩
  unfold zb9
  exact ZB (ziZ (zf8 (b:=true) (zav (vZ (ds:=[.tup [.int 12,.int (7+q),.int 6],.tup [.int 12,.int (7+q),.int 6]]) (xz (vZ (ds:=[.int ((0:Int)+(i:Int)),zM (7+q) [(0,1)]]) rfl (zel ok7 (by omega))) (xz rfl ZM)) (zeU rfl))))) ⟨_,rfl⟩
 .rintro ρ ⟨o5,rfl⟩
  exact hI _ _ _ _
theorem zia (ns:List Int)(h:ns.length<=63):zlT [.scr ns]=some (.bl true):=by
 refine Vt (ρ:=[.v (.scr ns),.no,.no,.no,.no,.no]) rfl ?_
 unfold zhV
 obtain⟨xs,hxs⟩:=zhC (ρ:=[none,none,none,none,none]) ns 3 h
 refine xK (WY (ds:=xs.map .int) (λi ρ=>∃ o1 o2 o3 o4 o5,ρ=[.v (.scr ns),o1,o2,o3,o4,o5]) hxs ⟨_,_,_,_,_,rfl⟩ ?_ ?_)
 .rintro i d ρ hd ⟨o1,o2,o3,o4,o5,rfl⟩
  rw[r6]at hd
  obtain⟨z,hz,rfl⟩:=u9.mp hd
  exact⟨_,rfl,zjC _ _ _ _ _ _ _ _ _ _ λ_ _ _ _=>⟨_,_,_,_,_,rfl⟩⟩
 .rintro ρ ⟨o1,o2,o3,o4,o5,rfl⟩
  exact ZK rfl rfl
theorem zlM (T:Txt K mg ad):y6 P w K mg base CX0 20 ad.f_law ad.e_law ["script"] (zeG K):=by
 letI:KK:=⟨K⟩
 have G_first_spread:=xF (P:=P) (w:=w) (base:=base) T
 have X_first_spread:=xb (P:=P) (w:=w) (base:=base) T
 have G_spread_need:=YX (P:=P) (w:=w) (base:=base) T
 have X_spread_need:=Yo (P:=P) (w:=w) (base:=base) T
 have G__law_cell_at:=WJ (P:=P) (w:=w) (base:=base) T
 have G__law_same:=za0 (P:=P) (w:=w) (base:=base) T
 have G__law_web_by:=Va (P:=P) (w:=w) (base:=base) T
 have G__law_first:=zaa (P:=P) (w:=w) (base:=base) T
 have G__law_came:=zbo (P:=P) (w:=w) (base:=base) T
 refine(zl5 (p:=zlT) (xl (N:=["script","cell","web","due","many","way"]) (ps:=["script"]) T.d_law.fn Vl (g:=zhV) λcdv A outer s H E hr=>?_) zia).mono (j:=13) (by decide)
 unfold zhV VN zb9
 exact(ze (Zw i9 rfl (wV (xn (vt (Yi (za (zo G__law_cell_at hr rfl T.d__law_cell_at (za (edv 0) (za (zg zj) zc))) zc))) (zhA (edv 0) (zgR (zg zj)) (zgR (zg zj))))) (yx (zC (i:=1) Vl.nd rfl (Or.inl rfl))) (ze (yP (m:=false) (i:=2) Vl.nd rfl (Or.inl rfl) (zo G__law_web_by hr rfl T.d__law_web_by (za (Z7 (edv 1) (zg zj)) (za (zg zj) (za (YE za3 yH (zG _) (YM (edv 1) (zg zj)) (zg zj)) zc)))))
  (ze (yP (m:=false) (i:=3) Vl.nd rfl (Or.inl rfl) (zo G__law_first hr rfl T.d__law_first (za (edv 2) zc)))
  (ze (xL (zic (zb4 (Yp (xv (zo G__law_same hr rfl T.d__law_same (za (zo G_first_spread hr rfl T.d_first_spread (za (edv 2) zc)) (za (edv 3) zc))))) (WO (Yp (xv (zo G__law_same hr rfl T.d__law_same (za (zo G_spread_need hr rfl T.d_spread_need (za (edv 2) zc)) (za (zP (vH rfl) Xh rfl T.z_sum Wy (za (edv 3) zc)) zc)))))))) (zf (zB (YB vT))) zH)
  (ze (yP (m:=false) (i:=4) Vl.nd rfl (Or.inl rfl) (xn (zg zj) (YM (edv 1) (zg zj))))
  (zf (ZT i9 rfl rfl T.z_range (za (zg zj) zc) (yx (zC (i:=5) Vl.nd rfl (Or.inl rfl))) (zf (xL (Yp (xv (zo G__law_same hr rfl T.d__law_same (za (zo G__law_came hr rfl T.d__law_came (za (edv 5) (za (w8 (za (edv 4) (za (w8 (za (w8 (za (zg zj) (za (zg zj) zc))) zc)) zc))) zc))) (za (w8 (za (zg zj) (za (edv 4) (za (zg zj) zc)))) zc))))) (zf (zB (YB vT))) zH)))))))))
  (zf (zB (YB vT))))
end
theorem zn6 {us:List Value}(h:us.length=1):∃ x0,us=[x0]:=by
 cases us with
 | nil=>cases h
 | cons x0 us =>
  cases us with
  | nil=>exact⟨x0,rfl⟩
  | cons _ _=>cases h
theorem zn2 {us:List Value}(h:us.length=2):∃ x0 x1,us=[x0,x1]:=by
 cases us with
 | nil=>cases h
 | cons x0 us =>
  cases us with
  | nil=>cases h
  | cons x1 us =>
   cases us with
   | nil=>exact⟨x0,x1,rfl⟩
   | cons _ _=>cases h
theorem zlU {us:List Value}(h:us.length=3):∃ x0 x1 x2,us=[x0,x1,x2]:=by
 cases us with
 | nil=>cases h
 | cons x0 us =>
  cases us with
  | nil=>cases h
  | cons x1 us =>
   cases us with
   | nil=>cases h
   | cons x2 us =>
    cases us with
    | nil=>exact⟨x0,x1,x2,rfl⟩
    | cons _ _=>cases h
abbrev Lk (x:Str)(st:Stmt)(oc:Value)(od:Option Addr)(kV dc pm:Value)(an:Option Addr)(cd ct:Value)(sl:Array (Option Value)):Option Obj:=some ⟨oc,od,.func (W.fnOf x x (Ys st) (xU st) (zi st) .none kV dc pm an cd ct),sl⟩
theorem mkD {K:W.Frag}{h:Heap}{mg:Str->Option Value}{x:Str}{st:Stmt}{ps:List Str}{f:Addr}{oc kV dc pm cd ct:Value}{od an:Option Addr}{sl:Array (Option Value)}(X:K.In h)(G:h.Ns mainGlobals mg)(a:W.nsIn K mainGlobals x=some (some (.ref f)))(l:K.lookup f=Lk x st oc od kV dc pm an cd ct sl)(c:W.codeIn K cd x=true)(k:W.keepIn K (.ref f)=true)
 (b:∀ (kV doc pm:Value) (an:Option Addr) (cdv ct:Value) (us:List Value),us.length=ps.length->bindArgs (W.fnOf x x (Ys st) (xU st) (zi st) .none kV doc pm an cdv ct) ⟨us,[]⟩=pure (ps.zip us)):Def K mg x st ps f (W.fnOf x x (Ys st) (xU st) (zi st) .none kV dc pm an cd ct):=⟨zgO l c k,(zgO l c k).binds b,u0c X G a⟩
theorem bn1 {F:Value->Value->Value->Option Addr->Value->Value->List Value->Prop}(h:∀ a b c d e f x0,F a b c d e f [x0]):∀ a b c d e f us,us.length=1->F a b c d e f us:=λa b c d e f us hl=>by obtain⟨x0,rfl⟩:=zn6 hl;exact h a b c d e f x0
theorem bn2 {F:Value->Value->Value->Option Addr->Value->Value->List Value->Prop}(h:∀ a b c d e f x0 x1,F a b c d e f [x0,x1]):∀ a b c d e f us,us.length=2->F a b c d e f us:=λa b c d e f us hl=>by obtain⟨x0,x1,rfl⟩:=zn2 hl;exact h a b c d e f x0 x1
theorem bn3 {F:Value->Value->Value->Option Addr->Value->Value->List Value->Prop}(h:∀ a b c d e f x0 x1 x2,F a b c d e f [x0,x1,x2]):∀ a b c d e f us,us.length=3->F a b c d e f us:=λa b c d e f us hl=>by obtain⟨x0,x1,x2,rfl⟩:=zlU hl;exact h a b c d e f x0 x1 x2
theorem all_mk {l:W.OpenLaw} {w:World} {K:W.Frag} {h:Heap} {mg:Str->Option Value} {fa f0 f1 f2 f3 f4 f5 f6 f7 f8 f9 f10 f11 f12 f13 f14 f15 f16 f17 f18 f19 f20 f21 f22 f23 f24 f25 f26 f27 f28 f29 f30 f31 f32:Addr} (X:K.In h) (G:h.Ns mainGlobals mg) (hfa:mg "law"=some (.ref fa))
 {od0 an0 od1 an1 od2 an2 od3 an3 od4 an4 od5 an5 od6 an6 od7 an7 od8 an8 od9 an9 od10 an10 od11 an11 od12 an12 od13 an13 od14 an14 od15 an15 od16 an16 od17 an17 od18 an18 od19 an19 od20 an20 od21 an21 od22 an22 od23 an23 od24 an24 od25 an25 od26 an26 od27 an27 od28 an28 od29 an29 od30 an30 od31 an31 od32 an32:Option Addr} {sl0 sl1 sl2 sl3 sl4 sl5 sl6 sl7 sl8 sl9 sl10 sl11 sl12 sl13 sl14 sl15 sl16 sl17 sl18 sl19 sl20 sl21 sl22 sl23 sl24 sl25 sl26 sl27 sl28 sl29 sl30 sl31 sl32:Array (Option Value)} {oc0 kV0 dc0 pm0 cd0 ct0 oc1 kV1 dc1 pm1 cd1 ct1 oc2 kV2 dc2 pm2 cd2 ct2 oc3 kV3 dc3 pm3 cd3 ct3 oc4 kV4 dc4 pm4 cd4 ct4 oc5 kV5 dc5 pm5 cd5 ct5 oc6 kV6 dc6 pm6 cd6 ct6 oc7 kV7 dc7 pm7 cd7 ct7 oc8 kV8 dc8 pm8 cd8 ct8 oc9 kV9 dc9 pm9 cd9 ct9 oc10 kV10 dc10 pm10 cd10 ct10 oc11 kV11 dc11 pm11 cd11 ct11 oc12 kV12 dc12 pm12 cd12 ct12 oc13 kV13 dc13 pm13 cd13 ct13 oc14 kV14 dc14 pm14 cd14 ct14 oc15 kV15 dc15 pm15 cd15 ct15 oc16 kV16 dc16 pm16 cd16 ct16 oc17 kV17 dc17 pm17 cd17 ct17 oc18 kV18 dc18 pm18 cd18 ct18 oc19 kV19 dc19 pm19 cd19 ct19 oc20 kV20 dc20 pm20 cd20 ct20 oc21 kV21 dc21 pm21 cd21 ct21 oc22 kV22 dc22 pm22 cd22 ct22 oc23 kV23 dc23 pm23 cd23 ct23 oc24 kV24 dc24 pm24 cd24 ct24 oc25 kV25 dc25 pm25 cd25 ct25 oc26 kV26 dc26 pm26 cd26 ct26 oc27 kV27 dc27 pm27 cd27 ct27 oc28 kV28 dc28 pm28 cd28 ct28 oc29 kV29 dc29 pm29 cd29 ct29 oc30 kV30 dc30 pm30 cd30 ct30 oc31 kV31 dc31 pm31 cd31 ct31 oc32 kV32 dc32 pm32 cd32 ct32:Value} {tk0:Tok} {tk1:Tok} {tk2:Tok} {tk3:Tok}
 (a0:W.nsIn K mainGlobals "is_whole"=some (some (.ref f0))) (l0:K.lookup f0=Lk "is_whole" Zm oc0 od0 kV0 dc0 pm0 an0 cd0 ct0 sl0) (c0:W.codeIn K cd0 "is_whole"=true) (k0:W.keepIn K (.ref f0)=true)
 (a1:W.nsIn K mainGlobals "is_whole_within"=some (some (.ref f1))) (l1:K.lookup f1=Lk "is_whole_within" xE oc1 od1 kV1 dc1 pm1 an1 cd1 ct1 sl1) (c1:W.codeIn K cd1 "is_whole_within"=true) (k1:W.keepIn K (.ref f1)=true)
 (a2:W.nsIn K mainGlobals "must_be_at_most"=some (some (.ref f2))) (l2:K.lookup f2=Lk "must_be_at_most" xD oc2 od2 kV2 dc2 pm2 an2 cd2 ct2 sl2) (c2:W.codeIn K cd2 "must_be_at_most"=true) (k2:W.keepIn K (.ref f2)=true)
 (a3:W.nsIn K mainGlobals "is_place_count"=some (some (.ref f3))) (l3:K.lookup f3=Lk "is_place_count" xM oc3 od3 kV3 dc3 pm3 an3 cd3 ct3 sl3) (c3:W.codeIn K cd3 "is_place_count"=true) (k3:W.keepIn K (.ref f3)=true)
 (a4:W.nsIn K mainGlobals "is_place"=some (some (.ref f4))) (l4:K.lookup f4=Lk "is_place" Zl oc4 od4 kV4 dc4 pm4 an4 cd4 ct4 sl4) (c4:W.codeIn K cd4 "is_place"=true) (k4:W.keepIn K (.ref f4)=true)
 (a5:W.nsIn K mainGlobals "are_counts"=some (some (.ref f5))) (l5:K.lookup f5=Lk "are_counts" vY oc5 od5 kV5 dc5 pm5 an5 cd5 ct5 sl5) (c5:W.codeIn K cd5 "are_counts"=true) (k5:W.keepIn K (.ref f5)=true)
 (a6:W.nsIn K mainGlobals "is_pair"=some (some (.ref f6))) (l6:K.lookup f6=Lk "is_pair" Xc oc6 od6 kV6 dc6 pm6 an6 cd6 ct6 sl6) (c6:W.codeIn K cd6 "is_pair"=true) (k6:W.keepIn K (.ref f6)=true)
 (a7:W.nsIn K mainGlobals "are_ties"=some (some (.ref f7))) (l7:K.lookup f7=Lk "are_ties" Zd oc7 od7 kV7 dc7 pm7 an7 cd7 ct7 sl7) (c7:W.codeIn K cd7 "are_ties"=true) (k7:W.keepIn K (.ref f7)=true)
 (a8:W.nsIn K mainGlobals "is_web"=some (some (.ref f8))) (l8:K.lookup f8=Lk "is_web" WK oc8 od8 kV8 dc8 pm8 an8 cd8 ct8 sl8) (c8:W.codeIn K cd8 "is_web"=true) (k8:W.keepIn K (.ref f8)=true)
 (a9:W.nsIn K mainGlobals "must_be_web"=some (some (.ref f9))) (l9:K.lookup f9=Lk "must_be_web" vo oc9 od9 kV9 dc9 pm9 an9 cd9 ct9 sl9) (c9:W.codeIn K cd9 "must_be_web"=true) (k9:W.keepIn K (.ref f9)=true)
 (a10:W.nsIn K mainGlobals "tie_between"=some (some (.ref f10))) (l10:K.lookup f10=Lk "tie_between" vv oc10 od10 kV10 dc10 pm10 an10 cd10 ct10 sl10) (c10:W.codeIn K cd10 "tie_between"=true) (k10:W.keepIn K (.ref f10)=true)
 (a11:W.nsIn K mainGlobals "neighbours"=some (some (.ref f11))) (l11:K.lookup f11=Lk "neighbours" vQ oc11 od11 kV11 dc11 pm11 an11 cd11 ct11 sl11) (c11:W.codeIn K cd11 "neighbours"=true) (k11:W.keepIn K (.ref f11)=true)
 (a12:W.nsIn K mainGlobals "are_stones"=some (some (.ref f12))) (l12:K.lookup f12=Lk "are_stones" v9 oc12 od12 kV12 dc12 pm12 an12 cd12 ct12 sl12) (c12:W.codeIn K cd12 "are_stones"=true) (k12:W.keepIn K (.ref f12)=true)
 (a13:W.nsIn K mainGlobals "must_be_heap"=some (some (.ref f13))) (l13:K.lookup f13=Lk "must_be_heap" wD oc13 od13 kV13 dc13 pm13 an13 cd13 ct13 sl13) (c13:W.codeIn K cd13 "must_be_heap"=true) (k13:W.keepIn K (.ref f13)=true)
 (a14:W.nsIn K mainGlobals "all_steps"=some (some (.ref f14))) (l14:K.lookup f14=Lk "all_steps" YF oc14 od14 kV14 dc14 pm14 an14 cd14 ct14 sl14) (c14:W.codeIn K cd14 "all_steps"=true) (k14:W.keepIn K (.ref f14)=true)
 (a15:W.nsIn K mainGlobals "stepped"=some (some (.ref f15))) (l15:K.lookup f15=Lk "stepped" Xi oc15 od15 kV15 dc15 pm15 an15 cd15 ct15 sl15) (c15:W.codeIn K cd15 "stepped"=true) (k15:W.keepIn K (.ref f15)=true)
 (a16:W.nsIn K mainGlobals "heaps_behind"=some (some (.ref f16))) (l16:K.lookup f16=Lk "heaps_behind" wP oc16 od16 kV16 dc16 pm16 an16 cd16 ct16 sl16) (c16:W.codeIn K cd16 "heaps_behind"=true) (k16:W.keepIn K (.ref f16)=true)
 (a17:W.nsIn K mainGlobals "reached"=some (some (.ref f17))) (l17:K.lookup f17=Lk "reached" Xq oc17 od17 kV17 dc17 pm17 an17 cd17 ct17 sl17) (c17:W.codeIn K cd17 "reached"=true) (k17:W.keepIn K (.ref f17)=true)
 (a18:W.nsIn K mainGlobals "is_spread"=some (some (.ref f18))) (l18:K.lookup f18=Lk "is_spread" YD oc18 od18 kV18 dc18 pm18 an18 cd18 ct18 sl18) (c18:W.codeIn K cd18 "is_spread"=true) (k18:W.keepIn K (.ref f18)=true)
 (a19:W.nsIn K mainGlobals "heaps_of"=some (some (.ref f19))) (l19:K.lookup f19=Lk "heaps_of" Zi oc19 od19 kV19 dc19 pm19 an19 cd19 ct19 sl19) (c19:W.codeIn K cd19 "heaps_of"=true) (k19:W.keepIn K (.ref f19)=true)
 (a20:W.nsIn K mainGlobals "first_spread"=some (some (.ref f20))) (l20:K.lookup f20=Lk "first_spread" wM oc20 od20 kV20 dc20 pm20 an20 cd20 ct20 sl20) (c20:W.codeIn K cd20 "first_spread"=true) (k20:W.keepIn K (.ref f20)=true)
 (a21:W.nsIn K mainGlobals "spread_need"=some (some (.ref f21))) (l21:K.lookup f21=Lk "spread_need" vp oc21 od21 kV21 dc21 pm21 an21 cd21 ct21 sl21) (c21:W.codeIn K cd21 "spread_need"=true) (k21:W.keepIn K (.ref f21)=true)
 (a22:W.nsIn K mainGlobals "_law_cell_at"=some (some (.ref f22))) (l22:K.lookup f22=Lk "_law_cell_at" wH oc22 od22 kV22 dc22 pm22 an22 cd22 ct22 sl22) (c22:W.codeIn K cd22 "_law_cell_at"=true) (k22:W.keepIn K (.ref f22)=true)
 (a23:W.nsIn K mainGlobals "_law_same"=some (some (.ref f23))) (l23:K.lookup f23=Lk "_law_same" YA oc23 od23 kV23 dc23 pm23 an23 cd23 ct23 sl23) (c23:W.codeIn K cd23 "_law_same"=true) (k23:W.keepIn K (.ref f23)=true)
 (a24:W.nsIn K mainGlobals "_law_stir"=some (some (.ref f24))) (l24:K.lookup f24=Lk "_law_stir" Ym oc24 od24 kV24 dc24 pm24 an24 cd24 ct24 sl24) (c24:W.codeIn K cd24 "_law_stir"=true) (k24:W.keepIn K (.ref f24)=true)
 (a25:W.nsIn K mainGlobals "_law_web_by"=some (some (.ref f25))) (l25:K.lookup f25=Lk "_law_web_by" vg oc25 od25 kV25 dc25 pm25 an25 cd25 ct25 sl25) (c25:W.codeIn K cd25 "_law_web_by"=true) (k25:W.keepIn K (.ref f25)=true)
 (a26:W.nsIn K mainGlobals "_law_behind"=some (some (.ref f26))) (l26:K.lookup f26=Lk "_law_behind" vc oc26 od26 kV26 dc26 pm26 an26 cd26 ct26 sl26) (c26:W.codeIn K cd26 "_law_behind"=true) (k26:W.keepIn K (.ref f26)=true)
 (a27:W.nsIn K mainGlobals "_law_kinds"=some (some (.ref f27))) (l27:K.lookup f27=Lk "_law_kinds" Yc oc27 od27 kV27 dc27 pm27 an27 cd27 ct27 sl27) (c27:W.codeIn K cd27 "_law_kinds"=true) (k27:W.keepIn K (.ref f27)=true)
 (a28:W.nsIn K mainGlobals "_law_spreads"=some (some (.ref f28))) (l28:K.lookup f28=Lk "_law_spreads" wz oc28 od28 kV28 dc28 pm28 an28 cd28 ct28 sl28) (c28:W.codeIn K cd28 "_law_spreads"=true) (k28:W.keepIn K (.ref f28)=true)
 (a29:W.nsIn K mainGlobals "_law_all_heaps"=some (some (.ref f29))) (l29:K.lookup f29=Lk "_law_all_heaps" xP oc29 od29 kV29 dc29 pm29 an29 cd29 ct29 sl29) (c29:W.codeIn K cd29 "_law_all_heaps"=true) (k29:W.keepIn K (.ref f29)=true)
 (a30:W.nsIn K mainGlobals "_law_first"=some (some (.ref f30))) (l30:K.lookup f30=Lk "_law_first" vV oc30 od30 kV30 dc30 pm30 an30 cd30 ct30 sl30) (c30:W.codeIn K cd30 "_law_first"=true) (k30:W.keepIn K (.ref f30)=true)
 (a31:W.nsIn K mainGlobals "_law_came"=some (some (.ref f31))) (l31:K.lookup f31=Lk "_law_came" YK oc31 od31 kV31 dc31 pm31 an31 cd31 ct31 sl31) (c31:W.codeIn K cd31 "_law_came"=true) (k31:W.keepIn K (.ref f31)=true)
 (a32:W.nsIn K mainGlobals "law"=some (some (.ref f32))) (l32:K.lookup f32=Lk "law" zgV oc32 od32 kV32 dc32 pm32 an32 cd32 ct32 sl32) (c32:W.codeIn K cd32 "law"=true) (k32:W.keepIn K (.ref f32)=true)
 (gg0:W.nsIn K mainGlobals "MOST_PLACES"=some (some (.int 8 tk0)))
 (gg1:W.nsIn K mainGlobals "MOST_STONES"=some (some (.int 300 tk1)))
 (gg2:W.nsIn K mainGlobals "MOST_SEARCHED"=some (some (.int 12 tk2)))
 (gg3:W.nsIn K mainGlobals "MOST_SPREAD"=some (some (.int 6 tk3)))
 {xx0 xx1 xx2 xx3 xx4 xx5 xx6 xx7 xx8 xx9 xx10 xx11 xx12 xx13:Addr}
 (xa0:W.nsIn K mainGlobals "NoKind"=some (some (.ref xx0)))
 (xa1:W.nsIn K mainGlobals "NoHeap"=some (some (.ref xx1)))
 (xa2:W.nsIn K mainGlobals "NoPlace"=some (some (.ref xx2)))
 (xa3:W.nsIn K mainGlobals "NoNumber"=some (some (.ref xx3)))
 (xa4:W.nsIn K mainGlobals "NoTally"=some (some (.ref xx4)))
 (xa5:W.nsIn K mainGlobals "NotTree"=some (some (.ref xx5)))
 (xa6:W.nsIn K mainGlobals "NotJoined"=some (some (.ref xx6)))
 (xa7:W.nsIn K mainGlobals "NoWeights"=some (some (.ref xx7)))
 (xa8:W.nsIn K mainGlobals "NoRow"=some (some (.ref xx8)))
 (xa9:W.nsIn K mainGlobals "NoWeb"=some (some (.ref xx9)))
 (xa10:W.nsIn K mainGlobals "NoSteps"=some (some (.ref xx10)))
 (xa11:W.nsIn K mainGlobals "NoText"=some (some (.ref xx11)))
 (xa12:W.nsIn K mainGlobals "TooGreat"=some (some (.ref xx12)))
 (xa13:W.nsIn K mainGlobals "StoneError"=some (some (.ref xx13)))
 (xc12:zdf K [xx0,xx1,xx2,xx3,xx4,xx5,xx6,xx7,xx8,xx9,xx10,xx11,xx12] xx13 xx12 12=true)
 {yi12:Addr} {yod12 yan12:Option Addr} {ysl12:Array (Option Value)} {yoc12 ykV12 ydc12 ypm12 ycd12 yct12:Value}
 (ya12:W.findIn K (.ref xx12) "__init__"=some (some (.ref yi12))) (yl12:K.lookup yi12=some ⟨yoc12,yod12,.func (W.fnOf "__init__" "TooGreat.__init__" (Ys xS) (xU xS) (zi xS) .none ykV12 ydc12 ypm12 yan12 ycd12 yct12),ysl12⟩) (yc12:W.codeIn K ycd12 "TooGreat.__init__"=true) (yk12:W.keepIn K (.ref yi12)=true)
 (ye12:zlK K xx12 yi12=true) (yf12:zbM K xx12=true) (yg12:znT K xx12 ["many","most"]=true)
 (z0:W.nsIn K mainGlobals "ValueError"=some none)
 (z1:W.nsIn K mainGlobals "all"=some none)
 (z2:W.nsIn K mainGlobals "any"=some none)
 (z3:W.nsIn K mainGlobals "bool"=some none)
 (z4:W.nsIn K mainGlobals "enumerate"=some none)
 (z5:W.nsIn K mainGlobals "int"=some none)
 (z6:W.nsIn K mainGlobals "isinstance"=some none)
 (z7:W.nsIn K mainGlobals "len"=some none)
 (z8:W.nsIn K mainGlobals "list"=some none)
 (z9:W.nsIn K mainGlobals "max"=some none)
 (z10:W.nsIn K mainGlobals "min"=some none)
 (z11:W.nsIn K mainGlobals "range"=some none)
 (z12:W.nsIn K mainGlobals "sorted"=some none)
 (z13:W.nsIn K mainGlobals "str"=some none)
 (z14:W.nsIn K mainGlobals "sum"=some none)
 (z15:W.nsIn K mainGlobals "tuple"=some none)
 (z16:W.nsIn K mainGlobals "zip"=some none)
 : ∃ fd:FuncData,(∀ (s:Shared) (v:Value),BindsTo s fd ⟨[v],[]⟩ [("script",v)])/\∀ base:Heap,K.In base->base.Ns mainGlobals mg->y6 l.prog w K mg base CX0 20 fa fd ["script"] (zeG K):=by
 have e:=hfa.symm.trans (u0c X G a32)
 cases e
 have FY12:=zgO (st:=xS) yl12 yc12 yk12
 have T:Txt K mg ⟨_,_,_,_,_,_,_,_,_,_,_,_,_,_,_,_,_,_,_,_,_,_,_,_,_,_,_,_,_,_,_,_,_,_,_,_,_,_,_,_,_,_,_,_,_,_,_,_,_,_,_,_,_,_,_,_,_,_,_,_,_,_,_,_,_,_,tk0,tk1,tk2,tk3,xx0,xx1,xx2,xx3,xx4,xx5,xx6,xx7,xx8,xx9,xx10,xx11,xx12,xx13,_,_⟩:=⟨
  mkD X G a0 l0 c0 k0 (bn1 λ_ _ _ _ _ _ _=>rfl),
  mkD X G a1 l1 c1 k1 (bn3 λ_ _ _ _ _ _ _ _ _=>rfl),
  mkD X G a2 l2 c2 k2 (bn2 λ_ _ _ _ _ _ _ _=>rfl),
  mkD X G a3 l3 c3 k3 (bn1 λ_ _ _ _ _ _ _=>rfl),
  mkD X G a4 l4 c4 k4 (bn2 λ_ _ _ _ _ _ _ _=>rfl),
  mkD X G a5 l5 c5 k5 (bn2 λ_ _ _ _ _ _ _ _=>rfl),
  mkD X G a6 l6 c6 k6 (bn2 λ_ _ _ _ _ _ _ _=>rfl),
  mkD X G a7 l7 c7 k7 (bn2 λ_ _ _ _ _ _ _ _=>rfl),
  mkD X G a8 l8 c8 k8 (bn1 λ_ _ _ _ _ _ _=>rfl),
  mkD X G a9 l9 c9 k9 (bn1 λ_ _ _ _ _ _ _=>rfl),
  mkD X G a10 l10 c10 k10 (bn2 λ_ _ _ _ _ _ _ _=>rfl),
  mkD X G a11 l11 c11 k11 (bn2 λ_ _ _ _ _ _ _ _=>rfl),
  mkD X G a12 l12 c12 k12 (bn2 λ_ _ _ _ _ _ _ _=>rfl),
  mkD X G a13 l13 c13 k13 (bn2 λ_ _ _ _ _ _ _ _=>rfl),
  mkD X G a14 l14 c14 k14 (bn1 λ_ _ _ _ _ _ _=>rfl),
  mkD X G a15 l15 c15 k15 (bn2 λ_ _ _ _ _ _ _ _=>rfl),
  mkD X G a16 l16 c16 k16 (bn2 λ_ _ _ _ _ _ _ _=>rfl),
  mkD X G a17 l17 c17 k17 (bn2 λ_ _ _ _ _ _ _ _=>rfl),
  mkD X G a18 l18 c18 k18 (bn2 λ_ _ _ _ _ _ _ _=>rfl),
  mkD X G a19 l19 c19 k19 (bn2 λ_ _ _ _ _ _ _ _=>rfl),
  mkD X G a20 l20 c20 k20 (bn1 λ_ _ _ _ _ _ _=>rfl),
  mkD X G a21 l21 c21 k21 (bn1 λ_ _ _ _ _ _ _=>rfl),
  mkD X G a22 l22 c22 k22 (bn2 λ_ _ _ _ _ _ _ _=>rfl),
  mkD X G a23 l23 c23 k23 (bn2 λ_ _ _ _ _ _ _ _=>rfl),
  mkD X G a24 l24 c24 k24 (bn2 λ_ _ _ _ _ _ _ _=>rfl),
  mkD X G a25 l25 c25 k25 (bn3 λ_ _ _ _ _ _ _ _ _=>rfl),
  mkD X G a26 l26 c26 k26 (bn2 λ_ _ _ _ _ _ _ _=>rfl),
  mkD X G a27 l27 c27 k27 (bn1 λ_ _ _ _ _ _ _=>rfl),
  mkD X G a28 l28 c28 k28 (bn2 λ_ _ _ _ _ _ _ _=>rfl),
  mkD X G a29 l29 c29 k29 (bn2 λ_ _ _ _ _ _ _ _=>rfl),
  mkD X G a30 l30 c30 k30 (bn1 λ_ _ _ _ _ _ _=>rfl),
  mkD X G a31 l31 c31 k31 (bn2 λ_ _ _ _ _ _ _ _=>rfl),
  mkD X G a32 l32 c32 k32 (bn1 λ_ _ _ _ _ _ _=>rfl),
  u0c X G gg0,
  u0c X G gg1,
  u0c X G gg2,
  u0c X G gg3,
  p7 X G z0,
  p7 X G z1,
  p7 X G z2,
  p7 X G z3,
  p7 X G z4,
  p7 X G z5,
  p7 X G z6,
  p7 X G z7,
  p7 X G z8,
  p7 X G z9,
  p7 X G z10,
  p7 X G z11,
  p7 X G z12,
  p7 X G z13,
  p7 X G z14,
  p7 X G z15,
  p7 X G z16,
  u0c X G xa0,
  u0c X G xa1,
  u0c X G xa2,
  u0c X G xa3,
  u0c X G xa4,
  u0c X G xa5,
  u0c X G xa6,
  u0c X G xa7,
  u0c X G xa8,
  u0c X G xa9,
  u0c X G xa10,
  u0c X G xa11,
  u0c X G xa12,
  u0c X G xa13,
  xc12,
  FY12,
  FY12.binds (ps:=["self","many","most"]) (λ_ _ _ _ _ _ us hl=>by obtain⟨_,_,_,rfl⟩:=zlU hl;rfl),
  ye12,
  yf12,
  yg12⟩
 exact⟨_,λs v=>.of_eq rfl,λbase _ _=>zlM T⟩
theorem walk {l:W.OpenLaw}{q:Program}{loose:List Str}{XP:(Str->Option Value)->Heap->Prop}{YP:World->Heap->Prop}{d:DefRec}{K:Params->W.Frag}(hn:l.most=some 63)(hdf:d.params.defaults=[])
 (hY:∀ (w:World) (h:Heap),YP w h->(K w.params).In h)
 (F:∀ (w:World) (mg:Str->Option Value) (fa:Addr) (h:Heap),(K w.params).In h->h.Ns mainGlobals mg->mg d.name=some (.ref fa) ->
  ∃ fd:FuncData,(∀ (s:Shared) (u:Value),BindsTo s fd ⟨[u],[]⟩ [("script",u)])/\∀ base:Heap,(K w.params).In base->base.Ns mainGlobals mg->y6 l.prog w (K w.params) mg base CX0 20 fa fd ["script"] (zeG (K w.params))) :
 PySem.W.WalkO q loose XP YP l.row.toRowW d [] (λf vs=>PySem.call f vs) :=
 L2.walk_of (n:=63) (k:=20) (x:="script") (CX:=λ_=>CX0) (sp:=λw=>zeG (K w.params)) hn (by decide) hdf ⟨rfl,by decide,by decide⟩ hY F (λ_ _ a ns hl _ hS=>⟨a,ns,rfl,hS,hl,λ_=>rfl⟩) λ_ _ _ _ _ z=>z
end Mz
open PySem PySem.W PyProof.Rows
theorem PySem.W.Fast.tw17745286928367171525:True:=⟨⟩
theorem PySem.W.Fast.tw7086674170356409278:True:=⟨⟩
theorem PySem.W.Fast.tw18389614161296765733:True:=⟨⟩
theorem PySem.W.Fast.tw3323957424409436487:True:=⟨⟩
theorem PySem.W.Fast.tw11963171138246239180:True:=⟨⟩
theorem PySem.W.Fast.tw8059100710547825128:True:=⟨⟩
theorem PySem.W.Fast.tw2695929718906604526:True:=⟨⟩
theorem PySem.W.Fast.tw12928120218721430662:True:=⟨⟩
theorem PySem.W.Fast.tw7268626647916197897:True:=⟨⟩
theorem PySem.W.Fast.tw12388836048303068942:True:=⟨⟩
theorem PySem.W.Fast.tw8181767365768514759:True:=⟨⟩
theorem PySem.W.Fast.tw13450921339976649708:True:=⟨⟩
theorem PySem.W.Fast.tw12654258718027416709:True:=⟨⟩
theorem PySem.W.Fast.tw12209983475185663576:True:=⟨⟩
theorem PySem.W.Fast.tw16612136108619893467:True:=⟨⟩
theorem PySem.W.Fast.tw2773608429392185217:True:=⟨⟩
theorem PySem.W.Fast.tw3700350166599476673:True:=⟨⟩
theorem PySem.W.Fast.tw12516031740281155270:True:=⟨⟩
theorem PySem.W.Fast.tw18111710409377217674:True:=⟨⟩
theorem PySem.W.Fast.tw12861152628457912403:True:=⟨⟩
theorem PySem.W.Fast.tw7212346532457666616:True:=⟨⟩
theorem PySem.W.Fast.tw15784588925726660220:True:=⟨⟩
theorem PySem.W.Fast.tw5165452763444208303:True:=⟨⟩
theorem PySem.W.Fast.tw12304004516947984378:True:=⟨⟩
theorem PySem.W.Fast.tw1714276243192388231:True:=⟨⟩
theorem PySem.W.Fast.tw18407507896933816622:True:=⟨⟩
theorem PySem.W.Fast.tw480050259621201933:True:=⟨⟩
theorem PySem.W.Fast.tw15301736567433229835:True:=⟨⟩
theorem PySem.W.Fast.tw12104844654481512732:True:=⟨⟩
theorem PySem.W.Fast.tw66719319598038617:True:=⟨⟩
theorem PySem.W.Fast.tw9048337384209167373:True:=⟨⟩
theorem PySem.W.Fast.tw3773133958003241798:True:=⟨⟩
theorem PySem.W.Fast.tw5867874192392883989:True:=⟨⟩
theorem PySem.W.Fast.tw15127985431630601012:True:=⟨⟩
set_option maxRecDepth 100000 in
set_option maxHeartbeats 0 in
theorem PySem.Challenge.cw_twoforone_k81_whole_fewest_stones_spread_holds : PySem.Challenge.rw_twoforone_k81_whole_fewest_stones_spread.Holds := by
  w_on;o_law;k_head;(case hw=>w_witness2)
  k_fill
  refine Mz.walk (l:=PySem.Challenge.rw_twoforone_k81_whole_fewest_stones_spread) rfl rfl (fun w h Y=>PySem.W.kIn_of Y) ?F
  case F =>
    intro w mg fa h KX G hmg
    refine' Mz.all_mk KX G hmg ?a0 ?l0 ?c0 ?k0 ?a1 ?l1 ?c1 ?k1 ?a2 ?l2 ?c2 ?k2 ?a3 ?l3 ?c3 ?k3 ?a4 ?l4 ?c4 ?k4 ?a5 ?l5 ?c5 ?k5 ?a6 ?l6 ?c6 ?k6 ?a7 ?l7 ?c7 ?k7 ?a8 ?l8 ?c8 ?k8 ?a9 ?l9 ?c9 ?k9 ?a10 ?l10 ?c10 ?k10 ?a11 ?l11 ?c11 ?k11 ?a12 ?l12 ?c12 ?k12 ?a13 ?l13 ?c13 ?k13 ?a14 ?l14 ?c14 ?k14 ?a15 ?l15 ?c15 ?k15 ?a16 ?l16 ?c16 ?k16 ?a17 ?l17 ?c17 ?k17 ?a18 ?l18 ?c18 ?k18 ?a19 ?l19 ?c19 ?k19 ?a20 ?l20 ?c20 ?k20 ?a21 ?l21 ?c21 ?k21 ?a22 ?l22 ?c22 ?k22 ?a23 ?l23 ?c23 ?k23 ?a24 ?l24 ?c24 ?k24 ?a25 ?l25 ?c25 ?k25 ?a26 ?l26 ?c26 ?k26 ?a27 ?l27 ?c27 ?k27 ?a28 ?l28 ?c28 ?k28 ?a29 ?l29 ?c29 ?k29 ?a30 ?l30 ?c30 ?k30 ?a31 ?l31 ?c31 ?k31 ?a32 ?l32 ?c32 ?k32 ?gg0 ?gg1 ?gg2 ?gg3 ?xa0 ?xa1 ?xa2 ?xa3 ?xa4 ?xa5 ?xa6 ?xa7 ?xa8 ?xa9 ?xa10 ?xa11 ?xa12 ?xa13 ?xc12 ?ya12 ?yl12 ?yc12 ?yk12 ?ye12 ?yf12 ?yg12 ?z0 ?z1 ?z2 ?z3 ?z4 ?z5 ?z6 ?z7 ?z8 ?z9 ?z10 ?z11 ?z12 ?z13 ?z14 ?z15 ?z16
    case a0 | l0 | c0 | k0 | a1 | l1 | c1 | k1 | a2 | l2 | c2 | k2 | a3 | l3 | c3 | k3 | a4 | l4 | c4 | k4 | a5 | l5 | c5 | k5 | a6 | l6 | c6 | k6 | a7 | l7 | c7 | k7 | a8 | l8 | c8 | k8 | a9 | l9 | c9 | k9 | a10 | l10 | c10 | k10 | a11 | l11 | c11 | k11 | a12 | l12 | c12 | k12 | a13 | l13 | c13 | k13 | a14 | l14 | c14 | k14 | a15 | l15 | c15 | k15 | a16 | l16 | c16 | k16 | a17 | l17 | c17 | k17 | a18 | l18 | c18 | k18 | a19 | l19 | c19 | k19 | a20 | l20 | c20 | k20 | a21 | l21 | c21 | k21 | a22 | l22 | c22 | k22 | a23 | l23 | c23 | k23 | a24 | l24 | c24 | k24 | a25 | l25 | c25 | k25 | a26 | l26 | c26 | k26 | a27 | l27 | c27 | k27 | a28 | l28 | c28 | k28 | a29 | l29 | c29 | k29 | a30 | l30 | c30 | k30 | a31 | l31 | c31 | k31 | a32 | l32 | c32 | k32 | gg0 | gg1 | gg2 | gg3 | xa0 | xa1 | xa2 | xa3 | xa4 | xa5 | xa6 | xa7 | xa8 | xa9 | xa10 | xa11 | xa12 | xa13=>k_is
    case xc12=>kernel_rfl
    case ya12 | yl12 | yc12 | yk12=>k_is
    case ye12 | yf12 | yg12=>kernel_rfl
    case z0 | z1 | z2 | z3 | z4 | z5 | z6 | z7 | z8 | z9 | z10 | z11 | z12 | z13 | z14 | z15 | z16=>k_is
