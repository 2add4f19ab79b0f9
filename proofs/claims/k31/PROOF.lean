import PyProof.Rows.All
import Wide.All
import OpenK.AllK
import Wide.FinOn
import Lean
import PyProof.EqAt
import PyProof.EqKinds
import PyProof.TupleCall
import PyProof.NeKinds
import PyProof.OldK
import KE.KLam
import KE.KSortKey
import PySem.Challenge.RW_twoforone_k31_ways_of_trees
set_option Elab.async false
set_option linter.all false
set_option maxRecDepth 100000
set_option maxHeartbeats 4000000
def u3d:=@PySem.Around.under_plainId
def u1M:=@Array.Perm.refl
def u0G:=@Array.getElem?_toList
def r6:=@Array.length_toList
def u0H:=@Array.perm_iff_toList_perm
def u2U:=@Array.size_map
def u33:=@Array.size_push
def u0a:=@Array.toList_append
def u1x:=@Array.toList_push
def u1L:=@Array.toList_reverse
def u3v:=@Array.toList_setIfInBounds
def u0n:=@Bool.and_eq_true
def u2V:=@Bool.and_false
def u3P:=@Bool.and_true
def u12:=@Bool.eq_iff_iff
def u3A:=@Bool.false_eq_true
def u7:=@Bool.false_ne_true
def u2N:=@Bool.not_eq_true'
def u2z:=@Bool.or_eq_true
def u2A:=@PySem.Calls.spliced_cons
def u2O:=@PySem.Calls.spliced_nil
def u3N:=@PySem.F.args_zip_next_1
def u2h:=@PySem.F.plain_max_loop
def u1A:=@PySem.F.slot_tuple_iterator_next
def u13:=@PySem.F.slot_zip_next
def u1h:=@PySem.Heap.SameBut.update
def u4:=@PySem.Heap.get?_push_of_some
def r8:=@PySem.Heap.get?_push_size
def u0h:=@PySem.Heap.get?_update_other
def u14:=@PySem.Heap.get?_update_self
def j9:=@PySem.Heap.lt_size
def u1v:=@PySem.Heap.size_push
def u2l:=@Int.le_refl
def u2c:=@Int.toNat_natCast
def u1S:=@Int.toNat_of_nonneg
def u1w:=@Int.zero_add
def u0C:=@PyProof.Rows.KeyOrd.kle_of_klt
def u1l:=@PyProof.Rows.KeyOrd.kle_refl
def u2i:=@PyProof.Rows.KeyOrd.kle_trans
def u3O:=@List.Pairwise.imp_of_mem
def u2t:=@List.Perm.eq_of_pairwise
def u1Z:=@List.Perm.refl
def u3Q:=@List.all_cons
def u0o:=@List.all_eq_true
def u15:=@List.all_map
def b9:=@List.append_assoc
def u0L:=@List.append_nil
def u1T:=@List.cons.inj
def u24:=@List.countP_cons
def u2Y:=@List.countP_le_length
def u1r:=@List.drop_append_of_le_length
def u1k:=@List.drop_drop
def u0P:=@List.drop_eq_getElem_cons
def u2K:=@List.drop_eq_nil_of_le
def u2j:=@List.drop_length
def u09:=@List.drop_sublist
def u2W:=@List.drop_take
def u10:=@List.drop_zero
def u2Z:=@List.eq_nil_iff_forall_not_mem
def u3T:=@List.ext_getElem
def u2P:=@List.ext_getElem?
def u3l:=@List.filterMap_cons
def u2m:=@List.flatMap_append
def u2L:=@List.flatMap_singleton
def u1y:=@List.flatten_cons
def u16:=@List.forIn_cons
def u2g:=@List.forIn_nil
def d9:=@List.getD_eq_getElem?_getD
def u02:=@List.getElem?_append_left
def u0u:=@List.getElem?_append_right
def u1D:=@List.getElem?_drop
def u6:=@List.getElem?_eq_getElem
def u1a:=@List.getElem?_eq_none
def u8:=@List.getElem?_eq_some_iff
def j7:=@List.getElem?_map
def u1i:=@List.getElem?_range
def u1e:=@List.getElem?_replicate
def u0W:=@List.getElem?_set
def g9:=@List.getElem?_set_ne
def u01:=@List.getElem?_set_self
def u0r:=@List.getElem?_take_of_lt
def u3I:=@List.getElem?_zip_eq_some
def u25:=@List.getElem_inj
def u26:=@List.getElem_map
def u1W:=@List.getElem_mem
def u0i:=@List.getElem_of_mem
def u27:=@List.getElem_zip
def j6:=@List.length_append
def p9:=@List.length_cons
def i6:=@List.length_drop
def u1f:=@List.length_eq_zero_iff
def u2u:=@List.length_erase_of_mem
def u1E:=@List.length_filter_le
def u5:=@List.length_map
def u17:=@List.length_nil
def u0v:=@List.length_range
def u0S:=@List.length_replicate
def u2n:=@List.length_reverse
def u2B:=@List.length_set
def o9:=@List.length_take
def u03:=@List.length_zip
def u4d:=@List.mapM_cons
def u2Q:=@List.mapM_toArray
def u0M:=@List.map_append
def u0p:=@List.map_congr_left
def u0e:=@List.map_cons
def u3m:=@List.map_id
def u0j:=@List.map_map
def u35:=@List.map_nil
def u3B:=@List.map_set
def u3U:=@List.map_snd_zip
def u0w:=@List.mem_append
def u2e:=@List.mem_append_left
def o0:=@List.mem_append_right
def j5:=@List.mem_cons
def u0b:=@List.mem_cons_of_mem
def u0F:=@List.mem_cons_self
def u0k:=@List.mem_filter
def u1X:=@List.mem_flatMap
def u18:=@List.mem_iff_getElem?
def u0A:=@List.mem_map
def u2o:=@List.mem_map_of_mem
def j4:=@List.mem_of_getElem?
def u0c:=@List.mem_of_mem_drop
def u0l:=@List.mem_of_mem_take
def i8:=@List.mem_range
def u1s:=@List.mem_reverse
def d4:=@List.mem_singleton
def u3n:=@List.mergeSort_perm
def u3o:=@List.nil_append
def u0d:=@List.nodup_cons
def u0Y:=@List.nodup_iff_pairwise_ne
def u1J:=@List.nodup_nil
def u0V:=@List.nodup_range
def p4:=@List.not_mem_nil
def u3p:=@List.of_mem_zip
def u0R:=@List.pairwise_append
def u1g:=@List.pairwise_cons
def u0y:=@List.pairwise_iff_getElem
def u0Q:=@List.pairwise_map
def u2C:=@List.pairwise_mergeSort
def u19:=@List.pairwise_reverse
def u1m:=@List.perm_append_comm
def u3x:=@List.perm_ext_iff_of_nodup
def u3q:=@List.range_succ
def u0T:=@List.replicate_succ
def u2p:=@List.reverse_append
def u1z:=@List.reverse_perm
def u2f:=@List.reverse_reverse
def t9:=@List.size_toArray
def u2d:=@List.take_add_one
def i9:=@List.take_append_drop
def u28:=@List.take_append_of_le_length
def u1B:=@List.take_length
def p8:=@List.take_of_length_le
def u1N:=@List.take_sublist
def u4e:=@List.take_succ
def u11:=@List.take_take
def u4f:=@List.take_zero
def u29:=@List.toArray_inj
def u1Y:=@List.zipIdx_cons
def u3r:=@List.zipIdx_nil
def u1F:=@List.zip_cons_cons
def u3C:=@List.zip_nil_right
def u3s:=@Nat.add_le_add_left
def u2q:=@Nat.add_left_cancel
def u1t:=@Nat.add_sub_cancel_left
def i7:=@Nat.le_add_right
def u3D:=@Nat.le_of_eq
def u2a:=@Nat.le_of_lt
def u3V:=@Nat.le_of_not_lt
def q5:=@Nat.le_refl
def u2R:=@Nat.le_succ
def u0B:=@Nat.le_trans
def u0I:=@Nat.lt_irrefl
def u0f:=@Nat.lt_of_le_of_lt
def d8:=@Nat.lt_of_lt_of_le
def u1O:=@Nat.lt_succ_of_lt
def u3W:=@Nat.lt_succ_self
def u0N:=@Nat.min_eq_left
def u3a:=@Nat.min_eq_right
def u2k:=@Nat.min_le_right
def u2v:=@Nat.min_self
def u20:=@Nat.ne_of_gt
def p5:=@Nat.ne_of_lt
def u36:=@Nat.not_lt_zero
def u21:=@Nat.sub_self
def u1n:=@Nat.zero_add
def u0D:=@Nat.zero_le
def u1j:=@Ne.symm
def u3:=@Option.bind_eq_some_iff
def d7:=@Option.bind_some
def t7:=@Option.map_eq_some_iff
def u0x:=@Option.some.inj
def p7:=@PySem.PassesOwn.never
def u2D:=@Prod.ext
def u2w:=@PyProof.Rows.callWith_kw
def u0q:=@PyProof.Rows.callWith_type1
def u22:=@PyProof.Rows.kws_cons
def u3e:=@PyProof.Rows.kws_nil
def u0E:=@PyProof.Rows.slot_tuple_getitem
def u3J:=@PyProof.Rows.sortedAll_at
def u3y:=@PyProof.Rows.sortedAll_old
def u2x:=@PySem.F.args_tuple_add_2
def u2E:=@PySem.F.entry_tuple_add
def u0m:=@PySem.F.plainAttrs_list
def u0s:=@PySem.F.slot_list_append
def u2M:=@PySem.F.slot_tuple_add
def u0t:=@PySem.F.type_list_append
def u0O:=@PySem.W.kia_one
def u2S:=@PySem.W.kitx_dict
def u0g:=@PySem.W.mg_none_of
def u0z:=@PySem.mem_of_lookup
def u2F:=@PySem.SeqAt.EqAt.int_int
def u2G:=@PySem.SeqAt.EqAt.of_refs
def u37:=@StateT.run_pure
def u4l:=@and_true
def u1U:=@beq_eq_false_iff_ne
def p6:=@beq_iff_eq
def u1C:=@beq_self_eq_true
def u4c:=@PySem.call_meets
def u3E:=@PySem.codeAny_mono
def u1o:=@congrArg
def u3b:=@decide_eq_decide
def h9:=@decide_eq_false
def u0X:=@decide_eq_false_iff_not
def i5:=@decide_eq_true
def d5:=@decide_eq_true_eq
def u2b:=@PyProof.Rows.get?_update_seq
def u2y:=@getElem?_pos
def u4m:=@if_false
def j8:=@if_neg
def j3:=@if_pos
def u2H:=@if_true
def u1G:=@PyProof.Rows.listItems_at
def u1u:=@PyProof.Rows.listUpdate_at
def u1P:=@not_false_eq_true
def u2I:=@not_or
def u1H:=@of_decide_eq_false
def s0:=@of_decide_eq_true
def u06:=@or_false
def u23:=@PyProof.Rows.pairsOf_size
def u3h:=@PySem.plainId_quiet
def u2r:=@PyProof.Rows.seqEpoch_at
def u1K:=@PySem.sizeLine_eq
def u1I:=@PySem.wpAny_Call_Name_kw
def u1V:=@PySem.wpAny_attempt
def u0:=@PySem.wpAny_bind
def u0J:=@PySem.wpAny_callSpecial?_slot
def u07:=@PySem.wpAny_call_entry
def u3t:=@PySem.wpAny_execs_nil
def u0K:=@PySem.wpAny_field
def u08:=@PySem.wpAny_holding
def u2s:=@PySem.wpAny_letGo
def u04:=@PySem.wpAny_loadPart'
def u1b:=@PySem.wpAny_mono
def u2J:=@PySem.wpAny_newList
def u1c:=@PySem.wpAny_newObj_type
def u3L:=@PySem.wpAny_newTuple
def u3i:=@PySem.wpAny_onRaise
def u1Q:=@PySem.wpAny_passesOwn
def u9:=@PySem.wpAny_pure
def u2T:=@PySem.wpAny_pyIter_enum
def u1R:=@PySem.wpAny_pyIter_list
def u0Z:=@PySem.wpAny_pyIter_tuple
def u3c:=@PySem.wpAny_pyIter_zip
def u1p:=@PySem.wpAny_rule
def u05:=@PySem.wpAny_seqItems
def u1q:=@PySem.wpAny_setField_rec
def u1d:=@PySem.wpAny_truthy_bool
def u2X:=@PySem.wpAny_tryCatch
def u3F:=@PySem.wpAny_typeOf
def u3f:=@PySem.wpAny_updateSeq_pair
def r9:=@PyProof.Rows.wpS_bind
def u0U:=@PyProof.Rows.wpS_forRange
def u3u:=@PyProof.Rows.wpS_get
def u3G:=@PyProof.Rows.wpS_lift
def u3j:=@PyProof.Rows.wpS_modify
def u00:=@PyProof.Rows.wpS_mono
def d6:=@PyProof.Rows.wpS_pure
namespace L2
open PySem PySem.Spec PyProof.Rows
abbrev Key:=Sum Int Str
def zk6:Key->Value->Bool
 | .inl k,v=>Value.isInt k v
 | .inr x,v=>Value.isStrOf x v
def keyH (w:World):Key->Int
 | .inl k=>hashInt k
 | .inr x=>hashStr w x
theorem yo:∀ {k:Key} {v:Value},zk6 k v=true->(∃ i t,k=Sum.inl i/\v=Value.int i t)\/(∃ x t,k=Sum.inr x/\v=Value.str x t)
 | .inl i,v,h=>by
  obtain⟨t,e⟩:=Value.isInt_shape (k:=i) (v:=v) h
  exact .inl ⟨i,t,rfl,e⟩
 | .inr x,v,h=>by
  obtain⟨t,e⟩:=Value.isStrOf_shape (x:=x) (v:=v) h
  exact .inr ⟨x,t,rfl,e⟩
theorem zkI (a b:Int):decide ((Sum.inl a:Key)=Sum.inl b)=(a == b):=by
 by_cases e:a=b
 .subst e;simp
 .have h:¬ (Sum.inl a:Key)=Sum.inl b:=λq=>e (Sum.inl.inj q)
  rw[h9 h]
  exact(u1U.mpr e).symm
theorem zk5 (a b:Str):decide ((Sum.inr a:Key)=Sum.inr b)=decide (a=b):=by
 by_cases e:a=b
 .subst e;simp
 .have h:¬ (Sum.inr a:Key)=Sum.inr b:=λq=>e (Sum.inr.inj q)
  rw[h9 h,h9 e]
theorem zkp (a:Int)(b:Str):decide ((Sum.inl a:Key)=Sum.inr b)=false:=h9 (λq=>nomatch q)
theorem zkx (a:Str)(b:Int):decide ((Sum.inr a:Key)=Sum.inl b)=false:=h9 (λq=>nomatch q)
def zft (prog:Program)(w:World):PySem.KeyKind prog w Key where
 is:=zk6
 hash:=keyH w
 inj:=λv a b ha hb=>by
  rcases yo ha with ⟨i,t,rfl,rfl⟩ | ⟨x,t,rfl,rfl⟩
  .rcases yo hb with ⟨j,u,rfl,e⟩ | ⟨y,u,rfl,e⟩
   .injection e with e1 _;rw[e1]
   .exact nomatch e
  .rcases yo hb with ⟨j,u,rfl,e⟩ | ⟨y,u,rfl,e⟩
   .exact nomatch e
   .injection e with e1 _;rw[e1]
 byValue:=λk v h=>by
  rcases yo h with ⟨i,t,rfl,rfl⟩ | ⟨x,t,rfl,rfl⟩ <;> rfl
 pyHash:=λhv h=>by
  rcases yo hv with ⟨i,t,rfl,rfl⟩ | ⟨x,t,rfl,rfl⟩
  .exact wpAny_pyHash_int h
  .exact wpAny_pyHash_str h
 eqBool:=λhu hv h=>by
  rcases yo hu with ⟨i,t,rfl,rfl⟩ | ⟨x,t,rfl,rfl⟩
  .rcases yo hv with ⟨j,u,rfl,rfl⟩ | ⟨y,u,rfl,rfl⟩
   .rw[zkI]at h;exact wpAny_eqBool_int h
   .rw[zkp]at h;exact SeqAt.EqAt.int_str i t y u _ _ _ _ h
  .rcases yo hv with ⟨j,u,rfl,rfl⟩ | ⟨y,u,rfl,rfl⟩
   .rw[zkx]at h;exact SeqAt.EqAt.str_int x t j u _ _ _ _ h
   .rw[zk5]at h;exact wpAny_eqBool_str h
 «strs»:=λk x t v h=>by
  rcases yo h with ⟨i,u,rfl,e⟩ | ⟨y,u,rfl,e⟩
  .exact nomatch e
  .injection e with e1 _
   subst e1
   cases v <;> rfl
inductive V where
 | non | bl (b:Bool) | int (i:Int) | str (x:Str) | byt (b:Array UInt8) | flt (b:UInt64) | ref (a:Addr) | ty (n:String)
 deriving DecidableEq
def xk:V->Value->Prop
 | .non,u=>u=Value.none
 | .bl b,u=>u=Value.bool b
 | .int i,u=>∃ t,u=Value.int i t
 | .str x,u=>∃ t,u=Value.str x t
 | .byt b,u=>∃ t,u=Value.bytes b t
 | .flt b,u=>∃ t,u=Value.float b t
 | .ref a,u=>u=Value.ref a
 | .ty n,u=>u=Value.type n
abbrev yf:List V->List Value->Prop:=Paired xk
theorem yf.length {xs:List V}{us:List Value}(r:yf xs us):xs.length=us.length:=Paired.length r
theorem yf.get:∀ {xs:List V} {us:List Value} {i:Nat} {x:V},yf xs us->xs[i]?=some x->∃ u,us[i]?=some u/\xk x u
 | _,_,_,_,.nil,e=>by simp at e
 | _,_,0,_,.cons r _,e=>by simp at e;subst e;exact⟨_,rfl,r⟩
 | _,_,i+1,x,.cons _ t,e=>by
  obtain⟨u,h1,h2⟩:=yf.get (i:=i) (x:=x) t (by simpa using e)
  exact⟨u,by simpa using h1,h2⟩
theorem yf.set {x:V}{u:Value}(r:xk x u):∀ {xs:List V} {us:List Value} (i:Nat),yf xs us->yf (xs.set i x) (us.set i u)
 | _,_,_,.nil=>.nil
 | _,_,0,.cons _ t=>.cons r t
 | _,_,i+1,.cons q t=>.cons q (yf.set r i t)
theorem yf.append:∀ {xs ys:List V} {us ws:List Value},yf xs us->yf ys ws->yf (xs++ys) (us++ws):=by
 intro xs ys us ws h s
 induction h with
 | nil=>exact s
 | cons r t ih=>exact .cons r ih
theorem yf.take:∀ {xs:List V} {us:List Value} (n:Nat),yf xs us->yf (xs.take n) (us.take n)
 | _,_,0,_=>.nil
 | _,_,_+1,.nil=>.nil
 | _,_,n+1,.cons r t=>.cons r (yf.take n t)
theorem yf.drop:∀ {xs:List V} {us:List Value} (n:Nat),yf xs us->yf (xs.drop n) (us.drop n)
 | _,_,0,r=>r
 | _,_,_+1,.nil=>.nil
 | _,_,n+1,.cons _ t=>yf.drop n t
def zl3:Option V->Option Value->Prop
 | some v,some u=>xk v u
 | none,none=>True
 | _,_=>False
def KV {κ:Type}:List (κ × V)->List (κ × Value)->Prop:=Paired λ(p:κ × V) (q:κ × Value)=>p.1=q.1/\xk p.2 q.2
def kV:Key->V
 | .inl i=>.int i
 | .inr x=>.str x
inductive HO where
 | lst (xs:List V)
 | tup (xs:List V)
 | dK (kvs:List (Key × V)) | dT (kvs:List (List Key × V))
 | set (S:Int->Bool) (n:Nat)
 | ins (C dx:Addr) (fs:List (Str × V))
 | own (x:Addr)
 | xd (fs:List (Str × V))
 | met (f x:Addr)
 | rng (lo hi:Int)
 | frz (o:Obj) (u:HO)
 | tbl (ps:Array Value)
 | ext (φ:Heap->Prop)
abbrev Hp:=Addr->Option HO
def upd (H:Hp)(a:Addr)(o:HO):Hp:=λb=>if b=a then some o else H b
theorem zn {H:Hp}{a:Addr}{o:HO}:upd H a o a=some o:=by unfold upd;rw[j3 rfl]
theorem zq {H:Hp}{a b:Addr}{o:HO}(h:b≠a):upd H a o b=H b:=by unfold upd;rw[j8 h]
theorem zfl {H:Hp}{a:Addr}{o u:HO}:upd (upd H a o) a u=upd H a u:=by
 funext b;unfold upd;split <;> rfl
theorem zk {H:Hp}{a b:Addr}{o:HO}(h:H a=some o)(h':H b=none):a≠b:=by
 intro e;subst e;rw[h]at h';cases h'
section
variable (P:Program)(w:World)
def xt (H:Hp)(h:Heap)(a:Addr):HO->Prop
 | .lst xs=>xs.length<=sizeLine/\∃ (its:List Value) (n:Nat),yf xs its/\h.get? a=some { cls:=.type "list",data:=.seq its.toArray n }
 | .tup xs=>xs.length<=sizeLine/\∃ its:List Value,yf xs its/\IsTup h a its.toArray
 | .dK kvs=>kvs.length<=sizeLine/\(a == sysModules)=false/\∃ vs,KV kvs vs/\h.DictOf (zft P w) a vs
 | .dT kvs=>kvs.length<=sizeLine/\(a == sysModules)=false/\∃ xs:List (List Key × Addr × Value),
  Paired (λ(p:List Key × V) (q:List Key × Addr × Value)=>p.1=q.1/\H q.2.1=some (.tup (p.1.map kV))/\xk p.2 q.2.2) kvs xs /\
  ∃ o es ep,h.get? a=some o/\o.ExactDict/\o.data=.dict es ep/\es.toList=xs.map (entryOfKey (tupleKind (zft P w)))/\(xs.map (·.1)).Nodup
 | .set S n=>h.SetOf (intKind P w) a S n
 | .ins C dx fs=>H dx=some (.own a)/\fs.length<=1000/\dx≠a/\h.get? a=some (W.instObj C dx) /\
  ∃ mA,h.Ns1 dx mA/\(∀ f,zl3 (fs.lookup f) (mA f))/\PySem.Within mA (fs.map (·.1))
 | .own _=>∃ o,h.get? a=some o
 | .xd fs=>∃ mA,h.Ns1 a mA/\∀ f,zl3 (fs.lookup f) (mA f)
 | .rng lo hi=>∃ t u v,h.get? a=some { cls:=.type "range",data:=.fields #[.int lo t,.int hi u,.int 1 v] }
 | .frz o u=>h.get? a=some o/\xt H h a u
 | .tbl ps=>∃ qs:Array Value,h.get? a=some { cls:=.none,data:=.fields qs }/\TriplesOk qs.toList/\∀ pos c,codeAmong pos qs.toList=some c->∃ ca oc vs q t t2,c=.ref ca/\H ca=some (.frz oc (.own a))/\oc.data=.fields vs/\vs[1]?=some (.str q t)/\ps[0]?=some (.str q t2)
 | .met f x=>h.get? a=some (W.methodObj (.ref f) (.ref x))
 | .ext φ=>φ h/\(∃ o,h.get? a=some o)/\∀ h1 h2:Heap,φ h1->(∀ o,h1.get? a=some o->h2.get? a=some o)->φ h2
def HOk (H:Hp)(h:Heap):Prop:=∀ a o,H a=some o->xt P w H h a o
end
section
variable {P:Program}{w:World}{H H':Hp}{h h':Heap}{a:Addr}{o:HO}
theorem xt.lt (x:xt P w H h a o):a < h.objs.size:=by
 cases o with
 | lst xs=>obtain⟨_,_,_,_,e⟩:=x;exact j9 e
 | tup xs=>obtain⟨_,_,_,p⟩:=x;exact p.lt
 | dK kvs=>obtain⟨_,_,_,_,o,_,_,e,_⟩:=x;exact j9 e
 | dT kvs=>obtain⟨_,_,_,_,o,_,_,e,_⟩:=x;exact j9 e
 | set S n=>obtain⟨o,_,_,_,e,_⟩:=x;exact j9 e
 | ins C dx fs=>obtain⟨_,_,_,e,_⟩:=x;exact j9 e
 | own y=>obtain⟨_,e⟩:=x;exact j9 e
 | xd fs=>obtain⟨_,⟨_,_,_,e,_⟩,_⟩:=x;exact j9 e
 | rng lo hi=>obtain⟨_,_,_,e⟩:=x;exact j9 e
 | frz ob u=>obtain⟨e,_⟩:=x;exact j9 e
 | tbl ps=>obtain⟨_,e,_⟩:=x;exact j9 e
 | met f y=>exact j9 (show h.get? a=some _ from x)
 | ext φ=>obtain⟨_,⟨_,e⟩,_⟩:=x;exact j9 e
theorem Paired.mapP {α β:Type}{F G:α->β->Prop}:∀ {l₁:List α} {l₂:List β},Paired F l₁ l₂->(∀ a b,F a b->G a b)->Paired G l₁ l₂:=by
 intro l1 l2 h f
 induction h with
 | nil=>exact .nil
 | cons r t ih=>exact .cons (f _ _ r) ih
theorem xt.stay (x:xt P w H h a o)(k:∀ b u,(b=a\/H b=some (.own a))->h.get? b=some u->h'.get? b=some u)
 (ho:∀ b,H b=some (.own a)->H' b=some (.own a)) (ht:∀ b xs,H b=some (.tup xs)->H' b=some (.tup xs)) (hz:∀ b o u,H b=some (.frz o u)->H' b=some (.frz o u):=by(intro b ob u q;first | exact q | (rw[zq (zk q (by assumption))];exact q) | (rw[zq (λz=>by subst z;have mm:=‹Mut _›;rw[q]at mm;exact mm)];exact q))):xt P w H' h' a o:=by
 induction o with
 | lst xs=>obtain⟨z,its,n,r,e⟩:=x;exact⟨z,its,n,r,k _ _ (.inl rfl) e⟩
 | tup xs=>obtain⟨z,its,r,ob,e,c⟩:=x;exact⟨z,its,r,ob,k _ _ (.inl rfl) e,c⟩
 | dK kvs=>obtain⟨z,y,vs,r,ob,es,ep,e,c⟩:=x;exact⟨z,y,vs,r,ob,es,ep,k _ _ (.inl rfl) e,c⟩
 | dT kvs =>
  obtain⟨z,y,xs,r,ob,es,ep,e,c⟩:=x
  exact⟨z,y,xs,Paired.mapP r λp q z=>⟨z.1,ht _ _ z.2.1,z.2.2⟩,ob,es,ep,k _ _ (.inl rfl) e,c⟩
 | set S n=>obtain⟨ob,es,ep,t,e,c⟩:=x;exact⟨ob,es,ep,t,k _ _ (.inl rfl) e,c⟩
 | ins C dx fs =>
  obtain⟨d,z,ne,e,mA,⟨od,es,ep,e2,c⟩,r⟩:=x
  exact⟨ho _ d,z,ne,k _ _ (.inl rfl) e,mA,⟨od,es,ep,k _ _ (.inr d) e2,c⟩,r⟩
 | own y=>obtain⟨ob,e⟩:=x;exact⟨ob,k _ _ (.inl rfl) e⟩
 | xd fs=>obtain⟨mA,⟨od,es,ep,e,c⟩,r⟩:=x;exact⟨mA,⟨od,es,ep,k _ _ (.inl rfl) e,c⟩,r⟩
 | rng lo hi=>obtain⟨t,u,v,e⟩:=x;exact⟨t,u,v,k _ _ (.inl rfl) e⟩
 | frz ob u ih=>obtain⟨e,q⟩:=x;exact⟨k _ _ (.inl rfl) e,ih q⟩
 | tbl ps =>
  obtain⟨qs,e,tr,q⟩:=x
  refine⟨qs,k a _ (.inl rfl) e,tr,λpos c hc=>?_⟩
  obtain⟨ca,oc,vs,qn,t,t2,ec,ow,r⟩:=q pos c hc
  exact⟨ca,oc,vs,qn,t,t2,ec,hz _ _ _ ow,r⟩
 | met f y =>
  have e:h.get? a=some (W.methodObj (.ref f) (.ref y)):=x
  show h'.get? a=some (W.methodObj (.ref f) (.ref y))
  exact k a _ (.inl rfl) e
 | ext φ=>obtain⟨p,⟨o,e⟩,st⟩:=x;exact⟨st _ _ p λo q=>k _ _ (.inl rfl) q,⟨o,k _ _ (.inl rfl) e⟩,st⟩
theorem HOk.lt (x:HOk P w H h)(e:H a=some o):a < h.objs.size:=(x a o e).lt
theorem HOk.fresh (x:HOk P w H h)(e:h.objs.size<=a):H a=none:=by
 cases q:H a with
 | none=>rfl
 | some u=>exact absurd (d8 (x.lt q) e) (u0I _)
theorem HOk.kept (x:HOk P w H h)(k:∀ b u,h.get? b=some u->h'.get? b=some u):HOk P w H h':=λa o e =>
 (x a o e).stay (λb u _ q=>k b u q) (λ_ q=>q) λ_ _ q=>q
theorem HOk.laid (x:HOk P w H h)(k:∀ b u,h.get? b=some u->h'.get? b=some u)(hp:h.objs.size<=a)(new:xt P w (upd H a o) h' a o):HOk P w (upd H a o) h':=λb u e=>by
 have hn:=x.fresh hp
 by_cases hb:b=a
 .subst hb;rw[zn]at e;cases e;exact new
 .rw[zq hb]at e
  exact(x b u e).stay (λc v _ q=>k c v q) (λc q=>by rw[zq (zk q hn)];exact q) λc xs q=>by rw[zq (zk q hn)];exact q
end
def Rd (H:Hp)(a:Addr)(u:HO):Prop:=H a=some u\/∃ o,H a=some (.frz o u)
theorem Rd.ok {P:Program}{w:World}{H:Hp}{h:Heap}{a:Addr}{u:HO}(r:Rd H a u)(x:HOk P w H h):xt P w H h a u:=by
 rcases r with r | ⟨o,r⟩
 .exact x a u r
 .obtain⟨_,q⟩:=x a _ r
  exact q
def Mut:Option HO->Prop
 | some (.lst _)=>True
 | some (.dK _)=>True
 | some (.dT _)=>True
 | some (.set _ _)=>True
 | some (.ins _ _ _)=>True
 | some (.ext _)=>True
 | _=>False
section
variable {P:Program}{w:World}{H:Hp}{h h':Heap}{x e:Addr}{o':HO}
theorem HOk.write (ok:HOk P w H h)(mu:Mut (H x))(he:e=x\/H e=some (.own x))(k:∀ b u,b≠e->h.get? b=some u->h'.get? b=some u)(heo:∃ u,h'.get? e=some u)
 (new:xt P w (upd H x o') h' x o'):HOk P w (upd H x o') h':=λb u q=>by
 have nown:∀ c y,H c=some (.own y)->c≠x:=λc y r z=>by subst z;rw[r]at mu;exact mu
 have ntup:∀ c xs,H c=some (.tup xs)->c≠x:=λc xs r z=>by subst z;rw[r]at mu;exact mu
 by_cases hb:b=x
 .subst hb;rw[zn]at q;cases q;exact new
 .rw[zq hb]at q
  by_cases hbe:b=e
  .have q':H b=some (.own x):=by
    rcases he with z | z
    .exact absurd (hbe.trans z) hb
    .rw[hbe];exact z
   rw[q]at q';cases q'
   obtain⟨v,hv⟩:=heo
   exact⟨v,by rw[hbe];exact hv⟩
  .refine(ok b u q).stay (λc v hc r=>k c v ?_ r) (λc r=>by rw[zq (nown c b r)];exact r) λc xs r=>by rw[zq (ntup c xs r)];exact r
   rcases hc with rfl | hc
   .exact hbe
   .rintro rfl
    rcases he with z | z
    .exact nown c b hc z
    .rw[hc]at z;cases z;exact hb rfl
end
structure Un (fs ex:List Addr) (H H':Hp) (h h':Heap):Prop where
 keep:∀ b o,h.get? b=some o->H b=none->b∉fs->b∉ex->h'.get? b=some o
 slot:∀ b o,h.get? b=some o->H b=none->b∈fs->b∉ex->∃ sl,h'.get? b=some { o with slots:=sl }
 free:∀ b o,h.get? b=some o->H b=none->b∉ex->H' b=none
 there:∀ b o,h.get? b=some o->b∉ex->∃ o',h'.get? b=some o'
 tups:∀ b xs,H b=some (.tup xs)->H' b=some (.tup xs)
 frzs:∀ b o u,H b=some (.frz o u)->H' b=some (.frz o u)
 tbls:∀ b ps,H b=some (.tbl ps)->H' b=some (.tbl ps)
section
variable {fs fs' ex ex':List Addr}{H H1 H2:Hp}{h h1 h2 h':Heap}{a x e:Addr}{o:HO}
theorem Un.any (u:Un fs ex H H1 h h1){b:Addr}{ob:Obj}(q:h.get? b=some ob)(n:H b=none)(hx:b∉ex):∃ sl,h1.get? b=some { ob with slots:=sl }:=by
 by_cases hb:b∈fs
 .exact u.slot b ob q n hb hx
 .exact⟨ob.slots,u.keep b ob q n hb hx⟩
theorem Un.kept (k:∀ b u,h.get? b=some u->h'.get? b=some u):Un fs ex H H h h' :=
 ⟨λb ob q _ _ _=>k b ob q,λb ob q _ _ _=>⟨ob.slots,k b ob q⟩,λ_ _ _ n _=>n,λb ob q _=>⟨ob,k b ob q⟩,λ_ _ q=>q,λ_ _ _ q=>q,λ_ _ q=>q⟩
theorem Un.refl:Un fs ex H H h h:=Un.kept λ_ _ q=>q
theorem Un.laid (k:∀ b u,h.get? b=some u->h'.get? b=some u)(hp:h.objs.size<=a)(hn:H a=none):Un fs ex H (upd H a o) h h' where
 keep:=λb u q _ _ _=>k b u q
 slot:=λb u q _ _ _=>⟨u.slots,k b u q⟩
 free:=λb u q n _=>by rw[zq (p5 (d8 (j9 q) hp))];exact n
 there:=λb u q _=>⟨u,k b u q⟩
 tups:=λb xs q=>by rw[zq (zk q hn)];exact q
 frzs:=λb u xs q=>by rw[zq (zk q hn)];exact q
 tbls:=λb ps q=>by rw[zq (zk q hn)];exact q
theorem Un.write (mu:Mut (H x))(he:e=x\/H e=some (.own x))(k:∀ b u,b≠e->h.get? b=some u->h'.get? b=some u)(heo:∃ u,h'.get? e=some u):Un fs ex H (upd H x o) h h':=by
 have hx:∀ b,H b=none->b≠x:=λb n z=>by subst z;rw[n]at mu;exact mu
 have hb:∀ b,H b=none->b≠e:=λb n z=>by
  subst z
  rcases he with r | r
  .exact hx b n r
  .rw[n]at r;cases r
 have hm:∀ b u,H b=some u->¬ Mut (some u)->b≠x:=λb u q nm z=>by subst z;rw[q]at mu;exact nm mu
 refine⟨λb u q n _ _=>k b u (hb b n) q,λb u q n _ _=>⟨u.slots,k b u (hb b n) q⟩,λb u q n _=>by rw[zq (hx b n)];exact n,λb u q _=>?_,
  λb xs q=>by rw[zq (hm b _ q λz=>z)];exact q,λb u xs q=>by rw[zq (hm b _ q λz=>z)];exact q,λb ps q=>by rw[zq (hm b _ q λz=>z)];exact q⟩
 by_cases hbe:b=e
 .subst hbe;exact heo
 .exact⟨u,k b u hbe q⟩
end
def trk (h:Heap)(H:Hp):List Addr:=(List.range h.objs.size).filter λa=>(H a).isSome
def zea (h:Heap)(H:Hp):Heap:=W.hideAll h (trk h H)
theorem zbv (h:Heap)(H:Hp):(zea h H).objs.size=h.objs.size:=W.hideAll_size _ _
theorem zhl {h:Heap}{H:Hp}{b:Addr}{o:Obj}(e:h.get? b=some o)(n:H b=none):(zea h H).get? b=some o :=
 W.hideAll_get _ e λhm=>by
  have q:(H b).isSome=true:=(u0k.mp hm).2
  rw[n]at q;simp at q
theorem zjy {h:Heap}{H:Hp}{b:Addr}{o:Obj}(e:(zea h H).get? b=some o):h.get? b=some o/\H b=none:=by
 have e':h.get? b=some o:=W.of_hideAll (trk h H) e
 refine⟨e',?_⟩
 cases q:H b with
 | none=>rfl
 | some x =>
  have hm:b∈trk h H:=u0k.mpr ⟨i8.mpr (j9 e'),by simp[q]⟩
  have z:(zea h H).get? b=none:=W.hideAll_none (trk h H) hm
  rw[z]at e;cases e
def zjh (g h:Heap)(L:Addr):List (Addr × Obj):=(List.range h.objs.size).filterMap λa=>if a=L\/(g.get? a).isSome=true then none else (h.get? a).map λo=>(a,o)
def rest (g h:Heap)(L d:Addr):List (Addr × Obj):=(zjh g h L).filter λp=>decide (p.1≠d)
structure Mod (K:W.Frag) (mg:Str->Option Value) (base:Heap):Prop where
 kin:K.In base
 glob:base.Ns mainGlobals mg
 blt:∃ mb,base.Ns builtinsNs mb/\∀ x:Str,x≠"__name__"->mb x=bootBuiltins x
 nolimit:base.NoLimit
def YA (q:Str):Obj:={ cls:=.str q 0,data:=.freed }
def Bs (base h:Heap)(H:Hp):Prop:=(∀ b o,base.get? b=some o->h.get? b=some o/\H b=none)/\∀ P q,base.objs[P]?=some (YA q)->H P=some (.tbl #[.str q 0])
structure Cx where
 prog:Program
 w:World
 K:W.Frag
 mg:Str->Option Value
 base:Heap
 A:Around
 N:List Str
 s₀:Shared
 H₀:Hp
 env:Env
 outer:List Env
 stack:List Env
 ex:List Addr
 fn:Str->Bool
 calm:Bool
 pn:List (Addr × Obj)
 xe:Value->Shared->Prop
def frs (l:List Env):List Addr:=l.filterMap (·.frame)
abbrev Cx.fs (X:Cx):List Addr:=frs X.outer
def Vis (sc:Scope)(x:Str):Prop:=sc.names.lookup x=some .local\/sc.names.lookup x=some .cell\/sc.names.lookup x=some .free
def Loc (sc:Scope)(x:Str):Prop:=sc.names.lookup x=some .local\/sc.names.lookup x=some .cell
def Look (env:Env)(h:Heap)(m:Str->Option Value)(x:Str)(u:Value):Prop :=
 (env.kindOf x=some .local/\m x=some u)\/((env.kindOf x=some .cell\/env.kindOf x=some .free)/\∃ c,env.cells.lookup x=some c/\h.IsCell c (some u))
structure Cx.Ok (X:Cx):Prop where
 mod:Mod X.K X.mg X.base
 kind:X.env.scope.kind=.function
 glob:X.env.globals=mainGlobals
 blt:X.env.builtins=builtinsNs
 above:X.s₀.heap.objs.size<=X.env.locals
 inj:∀ x y c,X.env.cells.lookup x=some c->X.env.cells.lookup y=some c->x=y
 has:∀ x,(X.env.kindOf x=some .cell\/X.env.kindOf x=some .free)->∃ c,X.env.cells.lookup x=some c
 cab:∀ x c,X.fn x=true->X.env.cells.lookup x=some c->X.s₀.heap.objs.size<=c
 hd:X.calm=true->X.A.handled=none
 frames:X.A.frames=some X.stack
 stk:X.stack=X.outer\/(X.stack=X.env::X.outer/\X.env.frame=some X.env.locals)
 exf:∀ b∈X.ex,b≠X.env.locals/\∀ x c,X.env.cells.lookup x=some c->c≠b
 bs:Bs X.base X.s₀.heap X.H₀
 bsz:X.base.objs.size<=X.s₀.heap.objs.size
 noex:∀ b o,X.base.get? b=some o->b∉X.ex
 exfs:∀ b∈X.ex,b∉X.fs
 funs:X.s₀.heap.FunFrames X.base X.outer
 frf:∀ b∈X.fs,X.H₀ b=none
structure Inv (X:Cx) (pins:List (Addr × Obj)) (σ:List (Option V)) (H:Hp) (s:Shared):Prop where
 ok:X.Ok
 os:s.os=X.s₀.os
 bare:AllBare s.gens
 base:Un X.fs X.ex X.H₀ H X.s₀.heap s.heap
 loc:∃ m,s.heap.Ns X.env.locals m/\∀ (i:Nat) (x:Str) (v:V),X.N[i]?=some x->σ[i]?=some (some v)->Vis X.env.scope x->∃ u,xk v u/\Look X.env s.heap m x u
 cell:∀ x c,X.env.cells.lookup x=some c->∃ v,s.heap.IsCell c v
 free:H X.env.locals=none
 freeC:∀ x c,X.env.cells.lookup x=some c->H c=none
 pin:∀ p∈X.pn++pins,s.heap.get? p.1=some p.2/\H p.1=none/\p.1≠X.env.locals/\p.1∉X.fs/\∀ v,p.2.data≠.cell v
 hok:HOk X.prog X.w H s.heap
 len:σ.length=X.N.length
section
variable {X:Cx}{pins:List (Addr × Obj)}{σ:List (Option V)}{H H':Hp}{s:Shared}{h':Heap}
theorem Cx.Ok.nofr (ok:X.Ok){b:Addr}{o:Obj}(e:X.base.get? b=some o):b∉X.fs:=λhb=>by
 have:=(ok.funs.mem hb).1
 rw[e]at this;cases this
theorem Inv.bs (I:Inv X pins σ H s):Bs X.base s.heap H:=⟨λb o e =>
 ⟨I.base.keep b o (I.ok.bs.1 b o e).1 (I.ok.bs.1 b o e).2 (I.ok.nofr e) (I.ok.noex b o e),I.base.free b o (I.ok.bs.1 b o e).1 (I.ok.bs.1 b o e).2 (I.ok.noex b o e)⟩,λP q e=>I.base.tbls _ _ (I.ok.bs.2 P q e)⟩
theorem Inv.bk (I:Inv X pins σ H s):∀ b o,X.base.get? b=some o->s.heap.get? b=some o:=λb o e=>(I.bs.1 b o e).1
theorem Inv.mod (I:Inv X pins σ H s):Mod X.K X.mg X.base:=I.ok.mod
theorem Inv.kIn (I:Inv X pins σ H s):X.K.In s.heap:=I.ok.mod.kin.keeps I.bk
theorem Inv.nolimit (I:Inv X pins σ H s):s.heap.NoLimit:=I.ok.mod.nolimit.keeps I.bk
theorem Inv.fr (I:Inv X pins σ H s):∃ m,Fr X.base X.env.locals s.heap m :=
 let ⟨m,hn,_⟩:=I.loc
 ⟨m,hn,I.bk,u0B I.ok.bsz I.ok.above⟩
theorem Inv.lt (I:Inv X pins σ H s):X.env.locals < s.heap.objs.size:=let ⟨_,hn,_⟩:=I.loc;hn.lt
theorem Inv.sz (I:Inv X pins σ H s):X.s₀.heap.objs.size<=s.heap.objs.size:=u0B I.ok.above (u2a I.lt)
theorem Inv.nofs (I:Inv X pins σ H s){a:Addr}(h:s.heap.objs.size<=a):a∉X.fs:=λhb=>by
 obtain⟨_,o,ho,_⟩:=I.ok.funs.mem hb
 exact absurd (d8 (j9 ho) (u0B I.sz h)) (u0I _)
theorem Inv.cne (I:Inv X pins σ H s):∀ x c,X.env.cells.lookup x=some c->c≠X.env.locals:=λx c e z=>by
 obtain⟨v,o,ho,hd⟩:=I.cell x c e
 obtain⟨m,⟨o',es,ep,ho',hd',_⟩,_⟩:=I.loc
 rw[z,ho']at ho;cases ho;rw[hd']at hd;cases hd
theorem Inv.funs (I:Inv X pins σ H s):s.heap.FunFrames X.base X.outer:=by
 have all:∀ (l:List Env),(∀ b∈frs l,b∈X.fs)->X.s₀.heap.FunFrames X.base l->s.heap.FunFrames X.base l:=by
  intro l
  induction l with
  | nil=>intro _ _;trivial
  | cons env r ih =>
   intro hs hl
   obtain⟨hk,⟨L,o,hf,hn,ho,hd⟩,hr⟩:=hl
   have hL:L∈X.fs:=hs L (by unfold frs;rw[u3l,hf];exact u0F)
   obtain⟨sl,e⟩:=I.base.slot L o ho (I.ok.frf L hL) hL λz=>I.ok.exfs L z hL
   exact⟨hk,⟨L,_,hf,hn,e,hd⟩,ih (λb hb=>hs b (by unfold frs;rw[u3l,hf];exact u0b _ hb)) hr⟩
 exact all X.outer (λ_ hb=>hb) I.ok.funs
theorem Inv.stack (I:Inv X pins σ H s):s.heap.FunFrames X.base X.stack:=by
 rcases I.ok.stk with e | ⟨e,hf⟩
 .rw[e];exact I.funs
 .rw[e]
  obtain⟨m,hn,_⟩:=I.loc
  refine .cons (by rw[I.ok.kind];decide) hf hn ?_ I.funs
  exact Heap.get?_none_of_le (u0B I.ok.bsz I.ok.above)
theorem Inv.stkSub (I:Inv X pins σ H s):∀ b∈frs X.stack,b∈X.env.locals::X.fs:=λb hb=>by
 rcases I.ok.stk with e | ⟨e,hf⟩
 .rw[e]at hb;exact u0b _ hb
 .rw[e]at hb
  unfold frs at hb
  rw[u3l,hf]at hb
  exact hb
theorem Inv.stkFree (I:Inv X pins σ H s):∀ b∈frs X.stack,H b=none:=λb hb=>by
 rcases j5.mp (I.stkSub b hb)with e | hb
 .rw[e];exact I.free
 .obtain⟨_,o,ho,_⟩:=I.ok.funs.mem hb
  exact I.base.free b o ho (I.ok.frf b hb) λz=>I.ok.exfs b z hb
theorem Inv.step {g':Array GenState}{t':Nat}{d':Drawn}{ch:List Addr}(I:Inv X pins σ H s)
 (hch:∀ b∈ch,(b∈X.ex\/X.s₀.heap.objs.size<=b)/\b≠X.env.locals/\(∀ x c,X.env.cells.lookup x=some c->c≠b)/\∀ p∈X.pn++pins,p.1≠b)
 (keep:∀ b o,b≠X.env.locals->b∉X.fs->b∉ch->s.heap.get? b=some o->H b=none->h'.get? b=some o)
 (slot:∀ b o,b≠X.env.locals->b∈X.fs->b∉ch->s.heap.get? b=some o->H b=none->∃ sl,h'.get? b=some { o with slots:=sl }) (free:∀ b o,b∉ch->s.heap.get? b=some o->H b=none->H' b=none)
 (there:∀ b o,b∉ch->s.heap.get? b=some o->∃ o',h'.get? b=some o')
 (tups:∀ b xs,H b=some (.tup xs)->H' b=some (.tup xs)) (frzs:∀ b o u,H b=some (.frz o u)->H' b=some (.frz o u)) (tbls:∀ b ps,H b=some (.tbl ps)->H' b=some (.tbl ps))
 (ns:∀ m,s.heap.Ns X.env.locals m->h'.Ns X.env.locals m) (hok:HOk X.prog X.w H' h') (hg:AllBare g') :
 Inv X pins σ H' { s with heap:=h',gens:=g',drawn:=d',toks:=t' }:=by
 have neL:∀ b o,X.s₀.heap.get? b=some o->b≠X.env.locals:=λb o e=>p5 (d8 (j9 e) I.ok.above)
 have neC:∀ b o,X.s₀.heap.get? b=some o->b∉X.ex->b∉ch:=λb o e hx hb=>by
  rcases(hch b hb).1 with z | z
  .exact hx z
  .exact absurd (d8 (j9 e) z) (u0I _)
 have cellK:∀ x c,X.env.cells.lookup x=some c->∀ v,s.heap.IsCell c v->h'.IsCell c v:=λx c e v ⟨o,ho,hd⟩=>by
  have nch:c∉ch:=λz=>(hch c z).2.2.1 x c e rfl
  by_cases hc:c∈X.fs
  .obtain⟨sl,q⟩:=slot c o (I.cne x c e) hc nch ho (I.freeC x c e)
   exact⟨_,q,hd⟩
  .exact⟨o,keep c o (I.cne x c e) hc nch ho (I.freeC x c e),hd⟩
 refine⟨I.ok,I.os,hg,⟨λb o e n hb hx=>?_,λb o e n hb hx=>?_,λb o e n hx=>?_,λb o e hx=>?_,λb xs e=>tups b xs (I.base.tups b xs e),λb o xs e=>frzs b o xs (I.base.frzs b o xs e),λb ps e=>?_⟩,?_,λx c e=>?_,?_,λx c e=>?_,λp hp=>?_,hok,I.len⟩
 .exact keep b o (neL b o e) hb (neC b o e hx) (I.base.keep b o e n hb hx) (I.base.free b o e n hx)
 .obtain⟨sl,e1⟩:=I.base.slot b o e n hb hx
  obtain⟨sl',e2⟩:=slot b _ (neL b o e) hb (neC b o e hx) e1 (I.base.free b o e n hx)
  exact⟨sl',e2⟩
 .obtain⟨o',e1⟩:=I.base.there b o e hx
  exact free b o' (neC b o e hx) e1 (I.base.free b o e n hx)
 .obtain⟨o',e1⟩:=I.base.there b o e hx
  exact there b o' (neC b o e hx) e1
 .exact tbls b _ (I.base.tbls b ps e)
 .obtain⟨m,hn,hl⟩:=I.loc
  refine⟨m,ns m hn,λi x v e1 e2 e3=>?_⟩
  obtain⟨u,r,l⟩:=hl i x v e1 e2 e3
  refine⟨u,r,?_⟩
  rcases l with l | ⟨k,c,e,z⟩
  .exact .inl l
  .exact .inr ⟨k,c,e,cellK x c e _ z⟩
 .obtain⟨v,z⟩:=I.cell x c e
  exact⟨v,cellK x c e v z⟩
 .obtain⟨m,⟨o,_,_,ho,_⟩,_⟩:=I.loc
  exact free _ o (λz=>(hch _ z).2.1 rfl) ho I.free
 .obtain⟨v,o,ho,hd⟩:=I.cell x c e
  exact free c o (λz=>(hch c z).2.2.1 x c e rfl) ho (I.freeC x c e)
 .obtain⟨e,n,ne,nf,d⟩:=I.pin p hp
  have nch:p.1∉ch:=λz=>(hch p.1 z).2.2.2 p hp rfl
  exact⟨keep p.1 p.2 ne nf nch e n,free p.1 p.2 nch e n,ne,nf,d⟩
theorem Inv.un {t':Nat}(I:Inv X pins σ H s)(u:Un X.fs [] H H' s.heap h')(hok:HOk X.prog X.w H' h'):Inv X pins σ H' { s with heap:=h',toks:=t' }:=by
 obtain⟨m,⟨o,es,ep,ho,r⟩,_⟩:=id I.loc
 obtain⟨sl,hL⟩:=u.any ho I.free (by simp)
 exact I.step (g':=s.gens) (d':=s.drawn) (ch:=[]) (λ_ z=>nomatch z) (λb o _ hb _ e n=>u.keep b o e n hb (by simp)) (λb o _ hb _ e n=>u.slot b o e n hb (by simp)) (λb o _ e n=>u.free b o e n (by simp)) (λb o _ e=>u.there b o e (by simp)) u.tups u.frzs u.tbls (λm' hm=>by
  obtain⟨o',es',ep',ho',r'⟩:=hm
  rw[ho]at ho';cases ho'
  exact⟨_,es',ep',hL,r'⟩) hok I.bare
theorem Inv.call {g':Array GenState}{t':Nat}{d':Drawn}{ch:List Addr}(I:Inv X pins σ H s)(u:Un (frs X.stack) ch H H' s.heap h')(hok:HOk X.prog X.w H' h')(hg:AllBare g')
 (hch:∀ b∈ch,(b∈X.ex\/X.s₀.heap.objs.size<=b)/\b≠X.env.locals/\(∀ x c,X.env.cells.lookup x=some c->c≠b)/\∀ p∈X.pn++pins,p.1≠b) :
 Inv X pins σ H' { s with heap:=h',gens:=g',drawn:=d',toks:=t' }:=by
 obtain⟨m,⟨o,es,ep,ho,r⟩,_⟩:=id I.loc
 obtain⟨sl,hL⟩:=u.any ho I.free λz=>(hch _ z).2.1 rfl
 exact I.step (ch:=ch) hch (λb o hL hb hc e n=>u.keep b o e n (λz=>(j5.mp (I.stkSub b z)).elim hL hb) hc) (λb o _ _ hc e n=>u.any e n hc) (λb o hc e n=>u.free b o e n hc) (λb o hc e=>u.there b o e hc) u.tups u.frzs u.tbls (λm' hm=>by
  obtain⟨o',es',ep',ho',r'⟩:=hm
  rw[ho]at ho';cases ho'
  exact⟨_,es',ep',hL,r'⟩) hok hg
theorem Inv.turned {t':Nat}{it:Addr}(I:Inv X pins σ H s)(k:∀ b o,b≠it->s.heap.get? b=some o->h'.get? b=some o)(hn:H it=none)(hL:it≠X.env.locals)
 (h1:it∈X.ex\/X.s₀.heap.objs.size<=it) (h2:∀ x c,X.env.cells.lookup x=some c->c≠it) (h3:∀ p∈X.pn++pins,p.1≠it):Inv X pins σ H { s with heap:=h',toks:=t' }:=by
 have nit:∀ b u,H b=some u->b≠it:=λb u e z=>by rw[z,hn]at e;cases e
 refine I.step (g':=s.gens) (d':=s.drawn) (ch:=[it]) (λb hb=>?_) (λb o _ _ hc e _=>k b o (λz=>hc (by simp[z])) e) (λb o _ _ hc e _=>⟨o.slots,k b o (λz=>hc (by simp[z])) e⟩) (λ_ _ _ _ n=>n)
  (λb o hc e=>⟨o,k b o (λz=>hc (by simp[z])) e⟩) (λ_ _ e=>e) (λ_ _ _ e=>e) (λ_ _ e=>e) (λm hm=>?_) (λb u e=>?_) I.bare
 .have e:b=it:=by simpa using hb
  subst e
  exact⟨h1,hL,h2,h3⟩
 .obtain⟨o,es,ep,ho,r⟩:=hm
  exact⟨o,es,ep,k _ o (u1j hL) ho,r⟩
 .refine(I.hok b u e).stay (λc v hc q=>k c v ?_ q) (λ_ q=>q) λ_ _ q=>q
  rcases hc with z | z
  .rw[z];exact nit b u e
  .exact nit c _ z
theorem Inv.tok (I:Inv X pins σ H s)(t:Nat):Inv X pins σ H { s with toks:=t }:=I.un (h':=s.heap) (t':=t) Un.refl I.hok
theorem Inv.kept {t':Nat}(I:Inv X pins σ H s)(k:∀ b u,s.heap.get? b=some u->h'.get? b=some u):Inv X pins σ H { s with heap:=h',toks:=t' }:=I.un (Un.kept k) (I.hok.kept k)
theorem Inv.laid {a:Addr}{o:HO}{t':Nat}(I:Inv X pins σ H s)(k:∀ b u,s.heap.get? b=some u->h'.get? b=some u)(hp:s.heap.objs.size<=a)(new:xt X.prog X.w (upd H a o) h' a o) :
 Inv X pins σ (upd H a o) { s with heap:=h',toks:=t' }:=I.un (Un.laid k hp (I.hok.fresh hp)) (I.hok.laid k hp new)
theorem Inv.write {x e:Addr}{o:HO}{t':Nat}(I:Inv X pins σ H s)(mu:Mut (H x))(he:e=x\/H e=some (.own x))(k:∀ b u,b≠e->s.heap.get? b=some u->h'.get? b=some u)(heo:∃ u,h'.get? e=some u)
 (new:xt X.prog X.w (upd H x o) h' x o):Inv X pins σ (upd H x o) { s with heap:=h',toks:=t' }:=I.un (Un.write mu he k heo) (I.hok.write mu he k heo new)
theorem Inv.weak {σ':List (Option V)}(I:Inv X pins σ H s)(hl:σ'.length=σ.length)(w:∀ (i:Nat) v,σ'[i]?=some (some v)->σ[i]?=some (some v)):Inv X pins σ' H s :=
 ⟨I.ok,I.os,I.bare,I.base,let ⟨m,hn,hl'⟩:=I.loc;⟨m,hn,λi x v e1 e2 e3=>hl' i x v e1 (w i v e2) e3⟩,I.cell,I.free,I.freeC,I.pin,I.hok,hl.trans I.len⟩
theorem Inv.pins_of {pins':List (Addr × Obj)}(I:Inv X pins σ H s)(h:∀ p∈pins',s.heap.get? p.1=some p.2/\H p.1=none/\p.1≠X.env.locals/\p.1∉X.fs/\∀ v,p.2.data≠.cell v):Inv X pins' σ H s :=
 ⟨I.ok,I.os,I.bare,I.base,I.loc,I.cell,I.free,I.freeC,λp hp=>(u0w.mp hp).elim (λz=>I.pin p (u2e _ z)) (h p),I.hok,I.len⟩
theorem zcW {N:List Str}(hN:N.Nodup){i j:Nat}{x:Str}(a:N[i]?=some x)(b:N[j]?=some x):i=j:=by
 obtain⟨h1,e1⟩:=u8.mp a
 obtain⟨h2,e2⟩:=u8.mp b
 exact(u25 hN).mp (e1.trans e2.symm)
theorem zfV {M:Model}{A:Around}{E:Value->Shared->Prop}{i:Nat}{x:Str}{v:V}{u:Value}{Q:Unit->Shared->Prop}(I:Inv X pins σ H s)(hN:X.N.Nodup)(hi:X.N[i]?=some x)(hx:Loc X.env.scope x)(r:xk v u)
 (h:∀ s',Inv X pins (σ.set i (some v)) H s'->(∃ a,Heap.SameBut a s.heap s'.heap/\(a=X.env.locals\/X.env.cells.lookup x=some a))->Q () s') (hf:X.fn x=true\/X.env.scope.names.lookup x=some .local:=by first | exact .inl rfl | exact .inr rfl | assumption):wpAny M A (storeName X.env x u) Q E s:=by
 obtain⟨m,hn,hl⟩:=id I.loc
 have hcls:(X.env.scope.kind == .class||(X.env.scope.kind == .module&&X.env.locals != X.env.globals))=false:=by rw[I.ok.kind];rfl
 have hiσ:i < σ.length:=by rw[I.len];exact(u8.mp hi).1
 have cne:=I.cne
 have tracked:∀ {a:Addr} {h':Heap},(∃ o,s.heap.get? a=some o/\H a=none)->Heap.SameBut a s.heap h'->HOk X.prog X.w H h':=λ{a h'} ha hs b ob e=>by
  obtain⟨_,_,hfree⟩:=ha
  refine(I.hok b ob e).stay (λc w' hc q=>(hs.2 c ?_).trans q) (λ_ q=>q) λ_ _ q=>q
  rintro rfl
  rcases hc with rfl | hc
  .rw[hfree]at e;cases e
  .rw[hfree]at hc;cases hc
 rcases hx with hk | hk
 .refine wpAny_storeName_local hk hn (λh' hn' hs=>?_) hcls
  obtain⟨oL,_,_,hoL,_⟩:=id hn
  refine h _ ⟨I.ok,I.os,I.bare,⟨λb o e n hb hx=>?_,λb o e n hb hx=>?_,I.base.free,λb o e hx=>?_,I.base.tups,I.base.frzs,I.base.tbls⟩,⟨_,hn',λj y v' e1 e2 e3=>?_⟩,λy c e=>?_,I.free,I.freeC,λp hp=>?_,tracked ⟨oL,hoL,I.free⟩ hs,by simpa using I.len⟩ ⟨_,hs,.inl rfl⟩
  .exact(hs.2 b (p5 (d8 (j9 e) I.ok.above))).trans (I.base.keep b o e n hb hx)
  .obtain⟨sl,e1⟩:=I.base.slot b o e n hb hx
   exact⟨sl,(hs.2 b (p5 (d8 (j9 e) I.ok.above))).trans e1⟩
  .obtain⟨o',e1⟩:=I.base.there b o e hx
   exact⟨o',(hs.2 b (p5 (d8 (j9 e) I.ok.above))).trans e1⟩
  .by_cases hj:j=i
   .subst hj
    rw[hi]at e1;cases e1
    rw[u01 hiσ]at e2
    cases e2
    exact⟨u,r,.inl ⟨hk,by simp⟩⟩
   .rw[g9 (u1j hj)]at e2
    obtain⟨u',r',q⟩:=hl j y v' e1 e2 e3
    refine⟨u',r',?_⟩
    rcases q with ⟨k,e⟩ | ⟨k,c,e,z⟩
    .refine .inl ⟨k,?_⟩
     have:y≠x:=λe=>hj (zcW hN e1 (e ▸ hi))
     simp[this,e]
    .exact .inr ⟨k,c,e,z.sameBut hs (cne y c e)⟩
  .obtain⟨w',z⟩:=I.cell y c e
   exact⟨w',z.sameBut hs (cne y c e)⟩
  .obtain⟨e,n,ne,nf,d⟩:=I.pin p hp
   exact⟨(hs.2 p.1 ne).trans e,n,ne,nf,d⟩
 .have hfn:X.fn x=true:=by
   rcases hf with z | z
   .exact z
   .rw[z]at hk;cases hk
  obtain⟨c,hc⟩:=I.ok.has x (.inl hk)
  obtain⟨w',z⟩:=I.cell x c hc
  refine wpAny_storeName_cell I.ok.kind hk hc z (λh' hc' hs=>?_)
  obtain⟨oc,hoc,hocd⟩:=id z
  refine h { s with heap:=h' } ⟨I.ok,I.os,I.bare,⟨λb o e n hb hx=>?_,λb o e n hb hx=>?_,I.base.free,λb o e hx=>?_,I.base.tups,I.base.frzs,I.base.tbls⟩,⟨m,hn.sameBut hs (u1j (cne x c hc)),λj y v' e1 e2 e3=>?_⟩,λy c' e=>?_,I.free,I.freeC,λp hp=>?_,tracked ⟨oc,hoc,I.freeC x c hc⟩ hs,by simpa using I.len⟩ ⟨c,hs,.inr hc⟩
  .exact(hs.2 b (p5 (d8 (j9 e) (I.ok.cab x c hfn hc)))).trans (I.base.keep b o e n hb hx)
  .obtain⟨sl,e1⟩:=I.base.slot b o e n hb hx
   exact⟨sl,(hs.2 b (p5 (d8 (j9 e) (I.ok.cab x c hfn hc)))).trans e1⟩
  .obtain⟨o',e1⟩:=I.base.there b o e hx
   exact⟨o',(hs.2 b (p5 (d8 (j9 e) (I.ok.cab x c hfn hc)))).trans e1⟩
  .by_cases hj:j=i
   .subst hj
    rw[hi]at e1;cases e1
    rw[u01 hiσ]at e2
    cases e2
    exact⟨u,r,.inr ⟨.inl hk,c,hc,hc'⟩⟩
   .rw[g9 (u1j hj)]at e2
    obtain⟨u',r',q⟩:=hl j y v' e1 e2 e3
    refine⟨u',r',?_⟩
    rcases q with q | ⟨k,c',e,z'⟩
    .exact .inl q
    .refine .inr ⟨k,c',e,z'.sameBut hs ?_⟩
     rintro rfl
     exact hj (zcW hN e1 (I.ok.inj _ _ _ e hc ▸ hi))
  .by_cases hcc:c'=c
   .subst hcc;exact⟨_,hc'⟩
   .obtain⟨w2,z2⟩:=I.cell y c' e
    exact⟨w2,z2.sameBut hs hcc⟩
  .obtain⟨e,n,ne,nf,d⟩:=I.pin p hp
   refine⟨(hs.2 p.1 ?_).trans e,n,ne,nf,d⟩
   intro q
   rw[q,hoc]at e
   have q':oc=p.2:=u0x e
   exact d w' (by rw[<-q'];exact hocd)
theorem zdm {M:Model}{A:Around}{E:Value->Shared->Prop}{i:Nat}{x:Str}{v:V}{u:Value}{Q:Unit->Shared->Prop}(I:Inv X pins σ H s)(hN:X.N.Nodup)(hi:X.N[i]?=some x)(hx:Loc X.env.scope x)(r:xk v u)
 (h:∀ s',Inv X pins (σ.set i (some v)) H s'->Q () s') (hf:X.fn x=true\/X.env.scope.names.lookup x=some .local:=by first | exact .inl rfl | exact .inr rfl | assumption):wpAny M A (storeName X.env x u) Q E s :=
 zfV I hN hi hx r (λs' I' _=>h s' I') hf
theorem Inv.call' {s':Shared}{ch:List Addr}(I:Inv X pins σ H s)(ho:s'.os=s.os)(u:Un (frs X.stack) ch H H' s.heap s'.heap)(hok:HOk X.prog X.w H' s'.heap)(hg:AllBare s'.gens)
 (hch:∀ b∈ch,(b∈X.ex\/X.s₀.heap.objs.size<=b)/\b≠X.env.locals/\(∀ x c,X.env.cells.lookup x=some c->c≠b)/\∀ p∈X.pn++pins,p.1≠b):Inv X pins σ H' s':=by
 obtain⟨h',g',d',t',o'⟩:=s'
 have e:o'=s.os:=ho
 subst e
 exact I.call (g':=g') (t':=t') (d':=d') u hok hg hch
end
abbrev XK:=Value->Option Addr->Hp->Prop
abbrev St:=List (Option V)
abbrev VK:=V->Hp->Prop
abbrev TE:=St->Hp->VK->Prop
abbrev TT:=St->Hp->(Bool->Hp->Prop)->Prop
abbrev TA:=St->Hp->(List V->Hp->Prop)->Prop
structure zhM where
 nx:St->Hp->Prop
 rt:VK
 bk:St->Hp->Prop:=λ_ _=>False
 ct:St->Hp->Prop:=λ_ _=>False
abbrev TS:=zhM->St->Hp->Prop
def EP (X:Cx)(pins:List (Addr × Obj))(σ:St)(Q:VK)(u:Value)(s':Shared):Prop:=∃ v H',Inv X pins σ H' s'/\xk v u/\Q v H'
def TP (X:Cx)(pins:List (Addr × Obj))(σ:St)(Q:Bool->Hp->Prop)(b:Bool)(s':Shared):Prop:=∃ H',Inv X pins σ H' s'/\Q b H'
def AP (X:Cx)(pins:List (Addr × Obj))(σ:St)(Q:List V->Hp->Prop)(us:List Value)(s':Shared):Prop:=∃ vs H',Inv X pins σ H' s'/\yf vs us/\Q vs H'
def SP (X:Cx)(pins:List (Addr × Obj))(D:zhM)(f:Flow)(s':Shared):Prop :=
 match f with
 | .next=>∃ σ' H',Inv X pins σ' H' s'/\D.nx σ' H'
 | .brk=>∃ σ' H',Inv X pins σ' H' s'/\D.bk σ' H'
 | .cont=>∃ σ' H',Inv X pins σ' H' s'/\D.ct σ' H'
 | .ret u=>∃ v σ' H',Inv X pins σ' H' s'/\xk v u/\D.rt v H'
def PE (X:Cx)(e:Expr)(t:TE):Prop :=
 ∀ (pins:List (Addr × Obj)) (s:Shared) (σ:St) (H:Hp) (Q:VK),Inv X pins σ H s->t σ H Q->wpAny (model X.prog X.w) X.A (eval e X.env) (EP X pins σ Q) X.xe s
def PT (X:Cx)(e:Expr)(t:TT):Prop :=
 ∀ (pins:List (Addr × Obj)) (s:Shared) (σ:St) (H:Hp) (Q:Bool->Hp->Prop),Inv X pins σ H s->t σ H Q->wpAny (model X.prog X.w) X.A (isTrue e X.env (eval e X.env)) (TP X pins σ Q) X.xe s
def PW (X:Cx)(e:Expr)(t:TT):Prop :=
 ∀ (whole:Sem Value) (pins:List (Addr × Obj)) (s:Shared) (σ:St) (H:Hp) (Q:Bool->Hp->Prop),Inv X pins σ H s->t σ H Q->wpAny (model X.prog X.w) X.A (isTrue e X.env whole) (TP X pins σ Q) X.xe s
theorem PW.pt {X:Cx}{e:Expr}{t:TT}(h:PW X e t):PT X e t:=h _
def PA (X:Cx)(es:List Expr)(t:TA):Prop :=
 ∀ (pos:Pos) (pins:List (Addr × Obj)) (s:Shared) (σ:St) (H:Hp) (Q:List V->Hp->Prop),Inv X pins σ H s->t σ H Q->wpAny (model X.prog X.w) X.A (spliced (backTo pos (starEach es X.env))) (AP X pins σ Q) X.xe s
def PS (X:Cx)(st:Stmt)(t:TS):Prop :=
 ∀ (pins:List (Addr × Obj)) (s:Shared) (σ:St) (H:Hp) (D:zhM),Inv X pins σ H s->t D σ H->wpAny (model X.prog X.w) X.A (exec st X.env) (SP X pins D) X.xe s
def PSs (X:Cx)(st:List Stmt)(t:TS):Prop :=
 ∀ (pins:List (Addr × Obj)) (s:Shared) (σ:St) (H:Hp) (D:zhM),Inv X pins σ H s->t D σ H->wpAny (model X.prog X.w) X.A (execs st X.env) (SP X pins D) X.xe s
theorem thn {α:Type}{t:Sem α}{Q Q':α->Shared->Prop}{M:Model}{A:Around}{E:Value->Shared->Prop}{s:Shared}(h:wpAny M A t Q E s)(hQ:∀ a s,Q a s->Q' a s):wpAny M A t Q' E s:=u1b h hQ λ_ _ x=>x
section
variable {X:Cx}
theorem bin {a b:Expr}{ta tb:TE}(ha:PE X a ta)(hb:PE X b tb){pins:List (Addr × Obj)}{s:Shared}{σ:St}{H:Hp}{R:V->V->Hp->Prop}(I:Inv X pins σ H s)(h:ta σ H λx H1=>tb σ H1 λy H2=>R x y H2)
 {α:Type} {Q:α->Shared->Prop} {f:Value->Value->Sem α}
 (hf:∀ v u s2 x y H2,Inv X pins σ H2 s2->xk x v->xk y u->R x y H2->wpAny (model X.prog X.w) X.A (f v u) Q X.xe s2) :
 wpAny (model X.prog X.w) X.A (eval a X.env) (λv s₁=>wpAny (model X.prog X.w) X.A (eval b X.env) (λu s₂=>wpAny (model X.prog X.w) X.A (f v u) Q X.xe s₂) X.xe s₁) X.xe s:=by
 refine thn (ha pins s σ H _ I h) λv s1 hh9=>?_
 obtain⟨x,H1,I1,r1,q1⟩:=hh9
 refine thn (hb pins s1 σ H1 _ I1 q1) λu s2 hh9=>?_
 obtain⟨y,H2,I2,r2,q2⟩:=hh9
 exact hf v u s2 x y H2 I2 r1 r2 q2
def zjT (i:Nat):TE:=fun σ H Q=>∃ v,σ[i]?=some (some v)/\Q v H
def tC (v:V):TE:=λ_ H Q=>Q v H
theorem zkS {i:Nat} {x:Str} {pos:Pos} (hN:X.N[i]?=some x) (hv:Vis X.env.scope x) (hd:(x == ("__debug__":Str))=false:=by decide) (hcd:(x == ("__classdict__":Str))=false:=by decide):PE X (.Name x pos) (zjT i):=by
 intro pins s σ H Q I h
 obtain⟨v,e,h⟩:=h
 obtain⟨m,hn,hl⟩:=I.loc
 obtain⟨u,r,l⟩:=hl i x v hN e hv
 have fin:EP X pins σ Q u s:=⟨v,H,I,r,h⟩
 rcases l with ⟨hk,hm⟩ | ⟨hk,c,hc,hcell⟩
 .exact wpAny_Name (wpAny_loadName_local I.ok.kind hk hn hm fin) hd
 .rcases hk with hk | hk
  .exact wpAny_Name (wpAny_loadName_cell I.ok.kind hk hc hcell fin) hd
  .exact wpAny_Name (wpAny_loadName_free I.ok.kind hk hc hcell fin hcd) hd
theorem zj {i j pos}:PE X (.Constant (.int i) j pos) (tC (.int i)):=λ_ _ _ H _ I h=>wpAny_Constant_int ⟨.int i,H,I.tok _,⟨_,rfl⟩,h⟩
theorem XQ {b j pos}:PE X (.Constant (.bool b) j pos) (tC (.bl b)):=λ_ _ _ H _ I h=>Constant_bool ⟨.bl b,H,I,rfl,h⟩
theorem XL {j pos}:PE X (.Constant .none j pos) (tC .non):=λ_ _ _ H _ I h=>Constant_none ⟨.non,H,I,rfl,h⟩
def Gl (X:Cx)(x:Str):Prop:=X.env.kindOf x=some .globalImplicit
theorem zfo {E:Value->Shared->Prop}{pins:List (Addr × Obj)}{s:Shared}{σ:St}{H:Hp}{x:Str}{u:Value}{pos:Pos}{Q:Value->Shared->Prop}(I:Inv X pins σ H s)(hg:Gl X x)(hm:X.mg x=some u)(h:Q u s)
 (hd:(x == ("__debug__":Str))=false:=by decide):wpAny (model X.prog X.w) X.A (eval (.Name x pos) X.env) Q E s :=
 Calls.Name_function_global I.ok.kind hg (Calls.loadGlobal_global (by rw[I.ok.glob];exact I.mod.glob.keeps I.bk) hm h) hd
theorem vt {E:Value->Shared->Prop}{pins:List (Addr × Obj)}{s:Shared}{σ:St}{H:Hp}{x:Str}{u:Value}{pos:Pos}{Q:Value->Shared->Prop}(I:Inv X pins σ H s)(hg:Gl X x)(hm:X.mg x=none)(hv:bootBuiltins x=some u)(h:Q u s)
 (hn:x≠"__name__":=by decide) (hd:(x == ("__debug__":Str))=false:=by decide):wpAny (model X.prog X.w) X.A (eval (.Name x pos) X.env) Q E s:=by
 obtain⟨mb,h1,h2⟩:=I.mod.blt
 exact Calls.Name_function_global I.ok.kind hg (Calls.loadGlobal_builtin (by rw[I.ok.glob];exact I.mod.glob.keeps I.bk) hm (by rw[I.ok.blt];exact h1.keeps I.bk) ((h2 x hn).trans hv) h) hd
theorem ziE {x:Str} {v:V} {u:Value} {pos:Pos} (hg:Gl X x) (hm:X.mg x=some u) (r:xk v u) (hd:(x == ("__debug__":Str))=false:=by decide):PE X (.Name x pos) (tC v) :=
 λ_ _ _ H _ I h=>zfo I hg hm ⟨v,H,I,r,h⟩ hd
theorem yN {x:Str} {v:V} {u:Value} {pos:Pos} (hg:Gl X x) (hm:X.mg x=none) (hv:bootBuiltins x=some u) (r:xk v u) (hn:x≠"__name__":=by decide) (hd:(x == ("__debug__":Str))=false:=by decide):PE X (.Name x pos) (tC v) :=
 λ_ _ _ H _ I h=>vt I hg hm hv ⟨v,H,I,r,h⟩ hn hd
variable {a b:Expr}{ta tb:TE}{pos:Pos}
def PC (X:Cx)(op:CmpOp)(a b:Expr)(t:TE):Prop :=
 ∀ (pins:List (Addr × Obj)) (s:Shared) (σ:St) (H:Hp) (Q:VK),Inv X pins σ H s->t σ H Q ->
  wpAny (model X.prog X.w) X.A (eval a X.env) (λv s₁=>wpAny (model X.prog X.w) X.A (eval b X.env) (λu s₂=>wpAny (model X.prog X.w) X.A (compareOp op v u) (EP X pins σ Q) X.xe s₂) X.xe s₁) X.xe s
theorem zhD (b:Expr){op:CmpOp}(h:op≠.In)(h2:op≠.NotIn):behindInMarks op b=false:=by
 have e1:(op == CmpOp.In)=false:=by cases op <;> first | rfl | exact absurd rfl h
 have e2:(op == CmpOp.NotIn)=false:=by cases op <;> first | rfl | exact absurd rfl h2
 cases b <;> simp[behindInMarks,e1,e2]
def tB (t:TE):TT:=fun σ H Q=>t σ H λx H1=>∃ c,x=.bl c/\Q c H1
theorem pt_cmp {op:CmpOp}{t:TE}(h:PC X op a b t)(h1:behindInMarks op b=false:=by first | exact zhD _ (by decide) (by decide) | rfl):PT X (.Compare a [op] [b] pos) (tB t):=by
 intro pins s σ H Q I hw
 refine wpAny_isTrue_Compare1 (thn (h pins s σ H _ I hw) λv s1 h1=>thn h1 λu s2 h2=>thn h2 λc s3 hh9=>?_) h1
 obtain⟨x,H1,I1,r1,q1⟩:=hh9
 obtain⟨d,rfl,q⟩:=q1
 cases r1
 exact u1d ⟨H1,I1,q⟩
theorem zkL {e:Expr}{t:TE}(h:PE X e t)(he:∀ whole,isTrue e X.env whole=(do let v<-whole;standAt e.pos;holding [v] (truthy v)):=by intro _;rfl):PT X e (tB t):=by
 intro pins s σ H Q I hw
 refine isTrue_plain (thn (h pins s σ H _ I hw) λv s1 hh9=>?_) (he _)
 obtain⟨x,H1,I1,r1,q1⟩:=hh9
 obtain⟨d,rfl,q⟩:=q1
 cases r1
 exact u1d ⟨H1,I1,q⟩
variable {tA tB':TT}{rest:List Expr}
def tAnd (t u:TT):TT:=fun σ H Q=>t σ H λc H1=>if c=true then u σ H1 Q else Q false H1
def tOr (t u:TT):TT:=fun σ H Q=>t σ H λc H1=>if c=true then Q true H1 else u σ H1 Q
def tNot (t:TT):TT:=fun σ H Q=>t σ H λc H1=>Q (!c) H1
theorem zjq (ha:PT X a tA):PW X (.BoolOp .And [a] pos) tA:=by
 intro wh pins s σ H Q I h
 refine isTrue_and (thn (ha pins s σ H Q I h) λc s1 e=>?_)
 cases c with
 | true=>exact isTrue_and_nil e
 | false=>exact e
theorem zk3 (ha:PT X a tA):PW X (.BoolOp .Or [a] pos) tA:=by
 intro wh pins s σ H Q I h
 refine isTrue_or (thn (ha pins s σ H Q I h) λc s1 e=>?_)
 cases c with
 | false=>exact isTrue_or_nil e
 | true=>exact e
theorem zkb (ha:PT X a tA)(hb:PW X (.BoolOp .And (b::rest) pos) tB'):PW X (.BoolOp .And (a::b::rest) pos) (tAnd tA tB'):=by
 intro wh pins s σ H Q I h
 refine isTrue_and (thn (ha pins s σ H _ I h) λc s1 hh9=>?_)
 obtain⟨H1,I1,q1⟩:=hh9
 cases c with
 | true=>exact hb wh pins s1 σ H1 Q I1 q1
 | false=>exact⟨H1,I1,q1⟩
theorem zmu (ha:PT X a tA)(hb:PW X (.BoolOp .Or (b::rest) pos) tB'):PW X (.BoolOp .Or (a::b::rest) pos) (tOr tA tB'):=by
 intro wh pins s σ H Q I h
 refine isTrue_or (thn (ha pins s σ H _ I h) λc s1 hh9=>?_)
 obtain⟨H1,I1,q1⟩:=hh9
 cases c with
 | true=>exact⟨H1,I1,q1⟩
 | false=>exact hb wh pins s1 σ H1 Q I1 q1
theorem zlB (ha:PT X a tA):PT X (.UnaryOp .Not a pos) (tNot tA):=by
 intro pins s σ H Q I h
 exact isTrue_not (ha pins s σ H (λc H1=>Q (!c) H1) I h)
def zl4 (ta tb:TE):TE:=fun σ H Q=>ta σ H λx H1=>∃ c,x=.bl c/\if c=true then tb σ H1 Q else Q (.bl false) H1
def zme (ta:TE):TE:=fun σ H Q=>ta σ H λx H1=>∃ c,x=.bl c/\Q (.bl (!c)) H1
theorem zjU {op}{t:TE}(h:PE X a t):PE X (.BoolOp op [a] pos) t:=λpins s σ H Q I hw=>BoolOp_one (h pins s σ H Q I hw)
theorem zln (ha:PE X a ta)(hb:PE X (.BoolOp .And (b::rest) pos) tb):PE X (.BoolOp .And (a::b::rest) pos) (zl4 ta tb):=by
 intro pins s σ H Q I h
 refine BoolOp_and (thn (ha pins s σ H _ I h) λv s1 hh9=>?_)
 obtain⟨x,H1,I1,r1,q1⟩:=hh9
 obtain⟨c,rfl,q1⟩:=q1
 cases r1
 refine u1d ?_
 cases c with
 | true=>exact hb pins s1 σ H1 Q I1 q1
 | false=>exact⟨.bl false,H1,I1,rfl,q1⟩
theorem zlq (ha:PE X a ta):PE X (.UnaryOp .Not a pos) (zme ta):=by
 intro pins s σ H Q I h
 refine UnaryOp_ (thn (ha pins s σ H _ I h) λv s1 hh9=>?_)
 obtain⟨x,H1,I1,r1,q1⟩:=hh9
 obtain⟨c,rfl,q1⟩:=q1
 cases r1
 exact not_of (u1d ⟨.bl (!c),H1,I1,rfl,q1⟩)
end
def SqL (K:W.Frag)(H:Hp)(a:Addr)(xs:List V):Prop :=
 Rd H a (.lst xs) \/
  ∃ (o:Obj) (its:Array Value) (n:Nat),K.lookup a=some o/\o.cls=.type "list"/\o.dict=none/\o.data=.seq its n/\its.size<=sizeLine/\yf xs its.toList
def SqT (K:W.Frag)(H:Hp)(a:Addr)(xs:List V):Prop :=
 Rd H a (.tup xs) \/
  ∃ (o:Obj) (its:Array Value) (n:Nat),K.lookup a=some o/\o.cls=.type "tuple"/\o.data=.seq its n/\its.size<=sizeLine/\yf xs its.toList
def absV:Value->Option V
 | .none=>some .non
 | .bool b=>some (.bl b)
 | .int i _=>some (.int i)
 | .str x _=>some (.str x)
 | .bytes b _=>some (.byt b)
 | .float b _=>some (.flt b)
 | .ref a=>some (.ref a)
 | .type n=>some (.ty n)
 | _=>none
theorem xk.abs {x:V}{u:Value}(r:xk x u):absV u=some x:=by
 cases x with
 | non=>cases r;rfl
 | bl _=>cases r;rfl
 | int _=>obtain⟨t,rfl⟩:=r;rfl
 | str _=>obtain⟨t,rfl⟩:=r;rfl
 | byt _=>obtain⟨t,rfl⟩:=r;rfl
 | flt _=>obtain⟨t,rfl⟩:=r;rfl
 | ref _=>cases r;rfl
 | ty _=>cases r;rfl
theorem xk.inj {x y:V}{u:Value}(r:xk x u)(q:xk y u):x=y:=u0x (r.abs.symm.trans q.abs)
theorem yf.inj:∀ {xs ys:List V} {us:List Value},yf xs us->yf ys us->xs=ys:=by
 intro xs ys us h
 induction h generalizing ys with
 | nil=>intro h2;cases h2;rfl
 | cons r t ih=>intro h2;cases h2 with | cons r' t'=>rw[r.inj r',ih t']
section
variable {X:Cx}{pins:List (Addr × Obj)}{σ:St}{H:Hp}{s:Shared}{a:Addr}{xs ys:List V}
theorem SqL.of {K:W.Frag}(h:H a=some (.lst xs)):SqL K H a xs:=.inl (.inl h)
theorem SqT.of {K:W.Frag}(h:H a=some (.tup xs)):SqT K H a xs:=.inl (.inl h)
theorem Inv.list (I:Inv X pins σ H s)(h:SqL X.K H a xs):∃ its:List Value,yf xs its/\PlainL s.heap a its.toArray/\xs.length<=sizeLine:=by
 rcases h with h | ⟨o,its,n,hk,hc,hd,hs,hz,r⟩
 .obtain⟨z,its,n,r,e⟩:=h.ok I.hok
  exact⟨its,r,⟨_,n,e,rfl,rfl,rfl⟩,z⟩
 .refine⟨its.toList,r,⟨o,n,I.kIn a o hk,hc,hd,by simpa using hs⟩,?_⟩
  have e:=r.length
  simp only[r6]at e
  omega
theorem Inv.tuple (I:Inv X pins σ H s)(h:SqT X.K H a xs):∃ its:List Value,yf xs its/\IsTup s.heap a its.toArray/\xs.length<=sizeLine:=by
 rcases h with h | ⟨o,its,n,hk,hc,hs,hz,r⟩
 .obtain⟨z,its,r,p⟩:=h.ok I.hok
  exact⟨its,r,p,z⟩
 .refine⟨its.toList,r,⟨o,I.kIn a o hk,hc,n,by simpa using hs⟩,?_⟩
  have e:=r.length
  simp only[r6]at e
  omega
theorem Inv.list_inj (I:Inv X pins σ H s)(h:SqL X.K H a xs)(h':SqL X.K H a ys):xs=ys:=by
 obtain⟨its,r,⟨o,n,e,_,_,d⟩,_⟩:=I.list h
 obtain⟨its',r',⟨o',n',e',_,_,d'⟩,_⟩:=I.list h'
 rw[e]at e';cases e'
 rw[d]at d'
 injection d' with d1 _
 have:its=its':=by simpa using u1o Array.toList d1
 subst this
 exact r.inj r'
theorem Inv.tuple_inj (I:Inv X pins σ H s)(h:SqT X.K H a xs)(h':SqT X.K H a ys):xs=ys:=by
 obtain⟨its,r,⟨o,e,_,n,d⟩,_⟩:=I.tuple h
 obtain⟨its',r',⟨o',e',_,n',d'⟩,_⟩:=I.tuple h'
 rw[e]at e';cases e'
 rw[d]at d'
 injection d' with d1 _
 have:its=its':=by simpa using u1o Array.toList d1
 subst this
 exact r.inj r'
end
abbrev Cx.wish (X:Cx)(E:Value->Shared->Prop):Cx:={ X with xe:=E }
abbrev Cx.nox (X:Cx):Cx:=X.wish λ_ _=>False
theorem Cx.Ok.wish {X:Cx}(ok:X.Ok)(E:Value->Shared->Prop):(X.wish E).Ok :=
 ⟨ok.mod,ok.kind,ok.glob,ok.blt,ok.above,ok.inj,ok.has,ok.cab,ok.hd,ok.frames,ok.stk,ok.exf,ok.bs,ok.bsz,ok.noex,ok.exfs,ok.funs,ok.frf⟩
theorem Cx.Ok.unwish {X:Cx}{E:Value->Shared->Prop}(ok:(X.wish E).Ok):X.Ok :=
 ⟨ok.mod,ok.kind,ok.glob,ok.blt,ok.above,ok.inj,ok.has,ok.cab,ok.hd,ok.frames,ok.stk,ok.exf,ok.bs,ok.bsz,ok.noex,ok.exfs,ok.funs,ok.frf⟩
section
variable {X:Cx}{pins:List (Addr × Obj)}{σ:St}{H:Hp}{s:Shared}{E:Value->Shared->Prop}
theorem Inv.wish (I:Inv X pins σ H s)(E:Value->Shared->Prop):Inv (X.wish E) pins σ H s:=⟨I.ok.wish E,I.os,I.bare,I.base,I.loc,I.cell,I.free,I.freeC,I.pin,I.hok,I.len⟩
theorem Inv.unwish (I:Inv (X.wish E) pins σ H s):Inv X pins σ H s:=⟨I.ok.unwish,I.os,I.bare,I.base,I.loc,I.cell,I.free,I.freeC,I.pin,I.hok,I.len⟩
theorem SP.unwish {D:zhM}{f:Flow}{s':Shared}(h:SP (X.wish E) pins D f s'):SP X pins D f s':=by
 cases f with
 | next=>obtain⟨σ',H',I,q⟩:=h;exact⟨σ',H',I.unwish,q⟩
 | brk=>obtain⟨σ',H',I,q⟩:=h;exact⟨σ',H',I.unwish,q⟩
 | cont=>obtain⟨σ',H',I,q⟩:=h;exact⟨σ',H',I.unwish,q⟩
 | ret u=>obtain⟨v,σ',H',I,r,q⟩:=h;exact⟨v,σ',H',I.unwish,r,q⟩
theorem PSs.nox {st:List Stmt}{t:TS}(h:PSs X.nox st t):PSs X st t:=λpins s σ H D I hw =>
 u1b (h pins s σ H D (I.wish _) hw) (λ_ _ q=>q.unwish) λ_ _ z=>False.elim z
end
section
variable {X:Cx}{st:Stmt}{rest:List Stmt}{t u:TS}{e:Expr}{te:TE}{pos:Pos}
def zmj:TS:=λD σ H=>D.nx σ H
def tSeq (t u:TS):TS:=λD σ H=>t { D with nx:=u D } σ H
theorem ziP:PSs X [] zmj:=λ_ _ σ H _ I h=>u3t ⟨σ,H,I,h⟩
theorem zc3 (h1:PS X st t)(h2:PSs X rest u):PSs X (st::rest) (tSeq t u):=by
 intro pins s σ H D I h
 refine wpAny_execs_cons (thn (h1 pins s σ H { D with nx:=u D } I h) λf s1 q=>?_)
 cases f with
 | next =>
  obtain⟨σ',H',I',q⟩:=q
  exact h2 pins s1 σ' H' D I' q
 | ret v=>exact q
 | brk=>exact q
 | cont=>exact q
theorem zeG (h1:PS X st t):PSs X [st] t:=by
 intro pins s σ H D I h
 refine wpAny_execs_cons (thn (h1 pins s σ H D I h) λf s1 q=>?_)
 cases f with
 | next=>exact u3t q
 | ret v=>exact q
 | brk=>exact q
 | cont=>exact q
theorem Inv.quiet {pins:List (Addr × Obj)}{σ:St}{H:Hp}{s:Shared}(I:Inv X pins σ H s):interactive X.env=false:=by simp[interactive,I.ok.kind]
def zmc (te:TE):TS:=λD σ H=>te σ H λ_ H1=>D.nx σ H1
theorem zcM (he:PE X e te)(hs:swapsWith e none pos.line X.env=pure false:=by rfl):PS X (.Expr e pos) (zmc te):=by
 intro pins s σ H D I h
 exact wpAny_Expr_any (thn (he pins s σ H _ I h) λv s1 ⟨x,H1,I1,r1,q1⟩=>⟨σ,H1,I1,q1⟩) I.quiet hs
def tRet (te:TE):TS:=λD σ H=>te σ H D.rt
theorem zib (he:PE X e te):PS X (.Return (some e) pos) (tRet te):=by
 intro pins s σ H D I h
 exact wpAny_Return_some (thn (he pins s σ H _ I h) λv s1 ⟨x,H1,I1,r1,q1⟩=>⟨x,σ,H1,I1,r1,q1⟩)
def tIfS (c:TT)(t u:TS):TS:=λD σ H=>c σ H λb H1=>if b=true then t D σ H1 else u D σ H1
theorem zlZ {c:Expr}{a b:List Stmt}{tc:TT}(hc:PT X c tc)(ha:PSs X a t)(hb:PSs X b u):PS X (.If c a b pos) (tIfS tc t u):=by
 intro pins s σ H D I h
 refine wpAny_If (thn (hc pins s σ H _ I h) λd s1 hh9=>?_)
 obtain⟨H1,I1,q1⟩:=hh9
 cases d with
 | true=>exact ha pins s1 σ H1 D I1 q1
 | false=>exact hb pins s1 σ H1 D I1 q1
def zkD:TS:=λ_ _ _=>False
theorem zgG:PS X st zkD:=λ_ _ _ _ _ _ h=>h.elim
end
abbrev TG:=V->St->Hp->(St->Hp->Prop)->Prop
abbrev TGs:=List V->St->Hp->(St->Hp->Prop)->Prop
def PG (X:Cx)(target:Expr)(t:TG):Prop :=
 ∀ (pins:List (Addr × Obj)) (s:Shared) (σ:St) (H:Hp) (v:V) (u:Value) (Q:St->Hp->Prop),Inv X pins σ H s->xk v u->t v σ H Q ->
  wpAny (model X.prog X.w) X.A (assign target X.env u) (λ_ s'=>∃ σ' H',Inv X pins σ' H' s'/\Q σ' H') X.xe s
def PGs (X:Cx)(ts:List Expr)(t:TGs):Prop :=
 ∀ (pins:List (Addr × Obj)) (s:Shared) (σ:St) (H:Hp) (vs:List V) (us:List Value) (Q:St->Hp->Prop),Inv X pins σ H s->yf vs us->t vs σ H Q ->
  wpAny (model X.prog X.w) X.A (assignInOrder ((assignEach ts X.env).map (·.2)) us) (λ_ s'=>∃ σ' H',Inv X pins σ' H' s'/\Q σ' H') X.xe s
abbrev zmd:=V->V->V->Hp->(Hp->Prop)->Prop
def PSet (X:Cx)(t:zmd):Prop :=
 ∀ (pins:List (Addr × Obj)) (s:Shared) (σ:St) (H:Hp) (o i v:V) (ov iv u:Value) (Q:Hp->Prop),Inv X pins σ H s->xk o ov->xk i iv->xk v u->t o i v H Q ->
  wpAny (model X.prog X.w) X.A (setItem ov iv u) (λ_ s'=>∃ H',Inv X pins σ H' s'/\Q H') X.xe s
section
variable {X:Cx}{pos:Pos}
def Z4 (i:Nat):TG:=λv σ H Q=>Q (σ.set i (some v)) H
theorem zt {i:Nat}{x:Str}(hN:X.N.Nodup)(hi:X.N[i]?=some x)(hx:Loc X.env.scope x)(hf:X.fn x=true\/X.env.scope.names.lookup x=some .local:=by first | exact .inl rfl | exact .inr rfl | assumption):PG X (.Name x pos) (Z4 i):=by
 intro pins s σ H v u Q I r h
 exact wpAny_assign_Name (zdm I hN hi hx r (λs' I'=>⟨_,H,I',h⟩) hf)
def zlD:TGs:=λvs σ H Q=>vs=[]/\Q σ H
def zcE (t:TG)(u:TGs):TGs:=λvs σ H Q=>∃ v r,vs=v::r/\t v σ H fun σ' H'=>u r σ' H' Q
theorem zah:PGs X [] zlD:=by
 intro pins s σ H vs us Q I r h
 obtain⟨e,h⟩:=h
 subst e
 cases r
 exact assignInOrder_nil ⟨σ,H,I,h⟩
theorem vL {e:Expr}{es:List Expr}{t:TG}{u:TGs}(h1:PG X e t)(h2:PGs X es u)
 (hs:(assignEach (e::es) X.env).map (·.2)=assign e X.env::(assignEach es X.env).map (·.2):=by rfl):PGs X (e::es) (zcE t u):=by
 intro pins s σ H vs us Q I r h
 obtain⟨v,vr,e1,h⟩:=h
 subst e1
 cases r with
 | cons r rr =>
  rw[hs]
  refine assignInOrder_cons (thn (h1 pins s σ H _ _ _ I r h) λ_ s1 hh9=>?_)
  obtain⟨σ1,H1,I1,q1⟩:=hh9
  exact h2 pins s1 σ1 H1 _ _ Q I1 rr q1
def zlU (K:W.Frag)(n:Nat)(t:TGs):TG:=λv σ H Q=>∃ a xs,v=.ref a/\SqT K H a xs/\xs.length=n/\t xs σ H Q
theorem zc8 {es:List Expr}{k:Nat}{t:TGs}{n:Nat}(hc:X.calm=true)(h:PGs X es t)
 (hn:(assignEach es X.env).length=n:=by rfl) (hst:(assignEach es X.env).findIdx? (·.1)=none:=by rfl):PG X (.Tuple es k pos) (zlU X.K n t):=by
 intro pins s σ H v u Q I r hw
 obtain⟨a,xs,e1,hq,hl,hw⟩:=hw
 subst e1
 cases r
 obtain⟨its,rv,ht,hz⟩:=I.tuple hq
 refine assign_Tuple_tuple (I.ok.hd hc) ht (by simp[hn,<- hl,rv.length]) hst λh' hx=>?_
 have I1:Inv X pins σ H { s with heap:=h' }:=I.kept (t':=s.toks) λb o e=>hx b o (p5 (j9 e)) e
 exact h pins _ σ H xs _ Q I1 (by simpa using rv) hw
def gSub (to ti:TE)(t:zmd):TG:=λv σ H Q=>to σ H λo H1=>ti σ H1 λi H2=>t o i v H2 λH3=>Q σ H3
theorem zkz {o i:Expr}{to ti:TE}{t:zmd}(ho:PE X o to)(hi:PE X i ti)(hs:PSet X t)
 (ha:∀ v,assign (.Subscript o i pos) X.env v=(do
  let ov<-holding [v] (eval o X.env)
  let iv<-holding [v,ov] (eval i X.env)
  standAt pos
  holding [v,ov,iv] (setItem ov iv v)
  release [v,ov,iv] []):=by intro _;rfl):PG X (.Subscript o i pos) (gSub to ti t):=by
 intro pins s σ H v u Q I r h
 rw[ha]
 refine u0 (u08 (thn (ho pins s σ H _ I h) λov s1 hh9=>?_))
 obtain⟨x,H1,I1,r1,q1⟩:=hh9
 refine u0 (u08 (thn (hi pins s1 σ H1 _ I1 q1) λiv s2 hh9=>?_))
 obtain⟨y,H2,I2,r2,q2⟩:=hh9
 refine u0 (wpAny_standAt (u0 (u08 (thn (hs pins s2 σ H2 x y v ov iv u _ I2 r1 r2 r q2) λ_ s3 hh9=>?_))))
 obtain⟨H3,I3,q3⟩:=hh9
 exact wpAny_release ⟨σ,H3,I3,q3⟩
def zlN (te:TE)(g:TG):TS:=λD σ H=>te σ H λx H1=>g x σ H1 D.nx
theorem zlh {tg e:Expr}{te:TE}{g:TG}(he:PE X e te)(hg:PG X tg g)(hs:swapsWithSole [tg] e pos.line X.env=pure false:=by rfl)(hw:swappedStores [tg] e X.env=pure none:=by rfl)
 (h1:(assignEach [tg] X.env).map (·.2)=[assign tg X.env]:=by rfl):PS X (.Assign [tg] e pos) (zlN te g):=by
 intro pins s σ H D I h
 refine wpAny_Assign_stores (thn (he pins s σ H _ I h) λv s1 hh9=>?_) hs hw
 obtain⟨x,H1,I1,r1,q1⟩:=hh9
 rw[h1]
 exact thn (hg pins s1 σ H1 x v _ I1 r1 q1) λ_ s2 q=>q
theorem zh2 {i:Nat}{x:Str}{e:Expr}{te:TE}{pos':Pos}(hN:X.N.Nodup)(hi:X.N[i]?=some x)(hx:Loc X.env.scope x)(he:PE X e te)(hs:swapsWith e (some (.Name x pos')) pos.line X.env=pure false:=by rfl)(hf:X.fn x=true\/X.env.scope.names.lookup x=some .local:=by first | exact .inl rfl | exact .inr rfl | assumption) :
 PS X (.Assign [.Name x pos'] e pos) (zlN te (Z4 i)):=by
 intro pins s σ H D I h
 refine wpAny_Assign_Name (thn (he pins s σ H _ I h) λv s1 hh9=>?_) hs
 obtain⟨y,H1,I1,r1,q1⟩:=hh9
 exact zdm I1 hN hi hx r1 (λs2 I2=>⟨_,H1,I2,q1⟩) hf
def zj8 (c:TT)(tb:TS):TS:=λD σ H=>∃ W:Nat->St->Hp->Prop,(∃ m,W m σ H)/\∀ m σ H,W m σ H ->
 c σ H λb H1=>if b=true then ∃ N:St->Hp->Prop,(∀ σ' H',N σ' H'->∃ m',m' < m/\W m' σ' H')/\tb { D with nx:=N,ct:=N,bk:=D.nx } σ H1 else D.nx σ H1
theorem zhA {c:Expr}{body:List Stmt}{tc:TT}{tb:TS}(hp:PassesOwn (model X.prog X.w) X.A X.env X.xe)(hc:PT X c tc)(hb:PSs X body tb):PS X (.While c body [] pos) (zj8 tc tb):=by
 intro pins s σ H D I h
 obtain⟨W,⟨m0,w0⟩,turn⟩:=h
 refine wpAny_While (codeAny_whileLoop (λn s'=>∃ σ' H',Inv X pins σ' H' s'/\W n σ' H') ?_ m0 ⟨σ,H,I,w0⟩)
 rintro n s1 ⟨σ1,H1,I1,w1⟩
 refine u1Q hp (thn (hc pins s1 σ1 H1 _ I1 (turn n σ1 H1 w1)) λb s2 hh9=>?_)
 obtain⟨H2,I2,q2⟩:=hh9
 cases b with
 | true =>
  obtain⟨N,hN,q2⟩:=q2
  rw[j3 rfl]
  refine u1Q hp (thn (hb pins s2 σ1 H2 _ I2 q2) λf s3 q3=>?_)
  cases f with
  | next =>
   obtain⟨σ3,H3,I3,n3⟩:=q3
   obtain⟨m',hm,w3⟩:=hN σ3 H3 n3
   exact⟨m',hm,σ3,H3,I3,w3⟩
  | cont =>
   obtain⟨σ3,H3,I3,n3⟩:=q3
   obtain⟨m',hm,w3⟩:=hN σ3 H3 n3
   exact⟨m',hm,σ3,H3,I3,w3⟩
  | brk=>exact q3
  | ret v=>exact q3
 | false =>
  rw[j8 u7]
  exact u3t ⟨σ1,H2,I2,q2⟩
end
structure It where
 go:Nat->Hp->Prop
 yld:Nat->Hp->V->Hp->Prop
 stop:Nat->Hp->Prop
def VD (X:Cx)(pins:List (Addr × Obj))(H:Hp)(b:Addr):Prop :=
 H b=none/\b≠X.env.locals/\b∉X.fs/\(b∈X.ex\/X.s₀.heap.objs.size<=b)/\(∀ x c,X.env.cells.lookup x=some c->c≠b)/\∀ p∈X.pn++pins,p.1≠b
theorem Inv.fpOk {X:Cx}{pins:List (Addr × Obj)}{σ:St}{H H':Hp}{s:Shared}{b:Addr}(I:Inv X pins σ H s)(hb:s.heap.objs.size<=b)(hn:H' b=none):VD X pins H' b:=by
 refine⟨hn,u20 (d8 I.lt hb),I.nofs hb,.inr (u0B I.sz hb),λx c e z=>?_,λp hp z=>?_⟩
 .obtain⟨v,q⟩:=I.cell x c e
  exact absurd (d8 q.lt (by rw[z];exact hb)) (u0I _)
 .exact absurd (d8 (j9 (I.pin p hp).1) (by rw[z];exact hb)) (u0I _)
structure zhp (P:Program) (w:World) (K:W.Frag) (tg:Expr) (J:It) (fp:List Addr) (it:Addr) (tn:Nat->Heap->Prop):Prop where
 mem:it∈fp
 obj:∀ i h,tn i h->∀ b∈fp,∃ o,h.get? b=some o/\∀ v,o.data≠.cell v
 keep:∀ i h h',tn i h->(∀ b∈fp,∀ o,h.get? b=some o->h'.get? b=some o)->tn i h'
 item:∀ (X:Cx),X.prog=P->X.w=w->X.K=K->X.calm=true->∀ (i:Nat) (pins:List (Addr × Obj)) (s:Shared) (σ:St) (H:Hp) (E:Value->Shared->Prop),Inv X pins σ H s->(∀ b∈fp,VD X pins H b)->tn i s.heap->J.go i H ->
  wpAny (model P w) X.A (pyNext (.ref it)) (λr s1=>∃ u,r=some u /\
   wpAny (model P w) X.A (letOwnedTupleGo tg (.ref it) u) (λ_ s2=>∃ x H',Inv X pins σ H' s2/\xk x u/\J.yld i H x H'/\tn (i+1) s2.heap/\∀ b∈fp,H' b=none) E s1) E s
 done:∀ (X:Cx),X.prog=P->X.w=w->X.K=K->X.calm=true->∀ (i:Nat) (pins:List (Addr × Obj)) (s:Shared) (σ:St) (H:Hp) (E:Value->Shared->Prop),Inv X pins σ H s->(∀ b∈fp,VD X pins H b)->tn i s.heap->J.stop i H ->
  wpAny (model P w) X.A (pyNext (.ref it)) (λr s1=>r=none/\Inv X pins σ H s1) E s
 self:∀ (A:Around) (i:Nat) (s:Shared) (Q:Value->Shared->Prop) (E:Value->Shared->Prop),tn i s.heap->Q (.ref it) s->wpAny (model P w) A (pyIter (.ref it)) Q E s
abbrev TI:=St->Hp->(It->Hp->Prop)->Prop
def PIE (X:Cx)(pins:List (Addr × Obj))(σ:St)(tg:Expr)(R:It->Hp->Prop)(itv:Value)(s2:Shared):Prop :=
 ∃ (it:Addr) (fp:List Addr) (tn:Nat->Heap->Prop) (J:It) (H':Hp),itv=.ref it/\Inv X pins σ H' s2/\zhp X.prog X.w X.K tg J fp it tn/\tn 0 s2.heap/\(∀ b∈fp,VD X pins H' b)/\R J H'
def PI (X:Cx)(tg iter:Expr)(wi:TI):Prop :=
 ∀ (pins:List (Addr × Obj)) (s:Shared) (σ:St) (H:Hp) (R:It->Hp->Prop),Inv X pins σ H s->wi σ H R ->
  wpAny (model X.prog X.w) X.A (eval iter X.env) (λv s1=>wpAny (model X.prog X.w) X.A (pyIter v) (PIE X pins σ tg R) X.xe s1) X.xe s
theorem zhK {M:Model}{A:Around}{E:Value→Shared→Prop}{s:Shared}{tg:Expr}{it:Addr}{u:Value}{o:Obj}{n:String}{vs:Array Value}{Q:Unit→Shared→Prop}(ho:s.heap.get? it=some o)(hc:o.cls=.type n)(hd:o.data=.fields vs)
    (hn:["enumerate","zip","dict_itemiterator","dict_reverseitemiterator","odict_iterator","itertools.zip_longest","itertools.pairwise"].contains n=false) (hQ:Q () s):wpAny M A (letOwnedTupleGo tg (.ref it) u) Q E s:=by
  unfold letOwnedTupleGo
  cases tg <;> first
    | exact u9 hQ
    | (cases u <;> first
        | exact u9 hQ
        | (refine u0 (wpAny_load ho ?_)
           rw [hc,hd]
           show wpAny M A (if (["enumerate","zip","dict_itemiterator","dict_reverseitemiterator","odict_iterator","itertools.zip_longest","itertools.pairwise"].contains n&&vs[0]? == some (rawInt _))=true then _ else _) Q E s
           rw [j8 (by intro h;rw [hn,Bool.false_and] at h;cases h)]
           exact u9 hQ))
def Itl (K:W.Frag)(a:Addr):It :=
 ⟨λi H=>∃ xs x,SqL K H a xs/\xs[i]?=some x,λi H x H'=>H'=H/\∀ xs,SqL K H a xs->xs[i]?=some x,λi H=>∃ xs,SqL K H a xs/\xs.length<=i⟩
def Itt (K:W.Frag)(a:Addr):It :=
 ⟨λi H=>∃ xs x,SqT K H a xs/\xs[i]?=some x,λi H x H'=>H'=H/\∀ xs,SqT K H a xs->xs[i]?=some x,λi H=>∃ xs,SqT K H a xs/\xs.length<=i⟩
def Itr (lo:Int)(n:Nat):It:=⟨λi _=>i < n,λi H x H'=>H'=H/\x=.int (lo+i),λi _=>n<=i⟩
theorem zfJ {P:Program}{w:World}{K:W.Frag}{tg:Expr}(a it:Addr):zhp P w K tg (Itl K a) [it] it (λi h=>h.IsListIter it a i) where
 mem:=by simp
 obj:=λi h st b hb=>by
  have e:b=it:=by simpa using hb
  subst e
  obtain⟨o,e,c,d⟩:=st
  exact⟨o,e,λv z=>by rw[d]at z;cases z⟩
 keep:=λi h h' st k=>st.at λo e=>k it (by simp) o e
 item:=by
  intro X hP hw hK hc i pins s σ H E I hf st hg
  subst hP hw hK
  obtain⟨xs,x,hq,hx⟩:=hg
  obtain⟨its,rv,p,hz⟩:=I.list hq
  obtain⟨u,hu,ru⟩:=rv.get hx
  obtain⟨f0,f1,f2,f3,f4,f5⟩:=hf it (by simp)
  refine wpAny_pyNext_list_item st p.isList (x:=u) (by simpa using hu) λh' st' sb=>?_
  have I1:Inv X pins σ H { s with heap:=h' }:=I.turned (t':=s.toks) (λb o hb e=>(sb.2 b hb).trans e) f0 f1 f3 f4 f5
  obtain⟨o,e,c,d⟩:=id st'
  exact⟨u,rfl,zhK (s:={ s with heap:=h' }) e c d (by decide) ⟨x,H,I1,ru,⟨rfl,λys hy=>by rw[I.list_inj hy hq];exact hx⟩,st',λb hb=>(hf b hb).1⟩⟩
 done:=by
  intro X hP hw hK hc i pins s σ H E I hf st hg
  subst hP hw hK
  obtain⟨xs,hq,hx⟩:=hg
  obtain⟨its,rv,p,hz⟩:=I.list hq
  obtain⟨f0,f1,f2,f3,f4,f5⟩:=hf it (by simp)
  have hl:=rv.length
  exact wpAny_pyNext_list_end (I.ok.hd hc) st p.isList (by simp;omega) λh' eb=>⟨rfl,I.turned (t':=s.toks) (λb o hb e=>eb b o hb e) f0 f1 f3 f4 f5⟩
 self:=λ_ _ _ _ _ st h=>wpAny_pyIter_listiter st h
theorem zd0 {P:Program}{w:World}{K:W.Frag}{tg:Expr}(a it:Addr):zhp P w K tg (Itt K a) [it] it (λi h=>h.IsTupleIter it a i) where
 mem:=by simp
 obj:=λi h st b hb=>by
  have e:b=it:=by simpa using hb
  subst e
  obtain⟨o,e,c,d⟩:=st
  exact⟨o,e,λv z=>by rw[d]at z;cases z⟩
 keep:=λi h h' st k=>st.at λo e=>k it (by simp) o e
 item:=by
  intro X hP hw hK hc i pins s σ H E I hf st hg
  subst hP hw hK
  obtain⟨xs,x,hq,hx⟩:=hg
  obtain⟨its,rv,p,hz⟩:=I.tuple hq
  obtain⟨u,hu,ru⟩:=rv.get hx
  obtain⟨f0,f1,f2,f3,f4,f5⟩:=hf it (by simp)
  refine wpAny_pyNext_tuple_item st (show s.heap.IsTuple a its.toArray from p) (x:=u) (by simpa using hu) λh' st' sb=>?_
  have I1:Inv X pins σ H { s with heap:=h' }:=I.turned (t':=s.toks) (λb o hb e=>(sb.2 b hb).trans e) f0 f1 f3 f4 f5
  obtain⟨o,e,c,d⟩:=id st'
  exact⟨u,rfl,zhK (s:={ s with heap:=h' }) e c d (by decide) ⟨x,H,I1,ru,⟨rfl,λys hy=>by rw[I.tuple_inj hy hq];exact hx⟩,st',λb hb=>(hf b hb).1⟩⟩
 done:=by
  intro X hP hw hK hc i pins s σ H E I hf st hg
  subst hP hw hK
  obtain⟨xs,hq,hx⟩:=hg
  obtain⟨its,rv,p,hz⟩:=I.tuple hq
  obtain⟨f0,f1,f2,f3,f4,f5⟩:=hf it (by simp)
  have hl:=rv.length
  exact wpAny_pyNext_tuple_end (I.ok.hd hc) st (show s.heap.IsTuple a its.toArray from p) (by simp;omega) λh' eb=>⟨rfl,I.turned (t':=s.toks) (λb o hb e=>eb b o hb e) f0 f1 f3 f4 f5⟩
 self:=λ_ _ _ _ _ st h=>wpAny_pyIter_tupleiter st h
theorem zdD {P:Program}{w:World}{K:PySem.W.Frag}{tg:Expr}(it:Addr)(lo:Int)(n:Nat):zhp P w K tg (Itr lo n) [it] it (λi h=>IsRangeIter h it (lo+(i:Nat)*1) ((n:Int) - (i:Nat)) 1) where
 mem:=by simp
 obj:=λi h st b hb=>by
  have e:b=it:=by simpa using hb
  subst e
  exact⟨_,st,λv z=>by
   have z':Data.fields _=Data.cell v:=z
   cases z'⟩
 keep:=λi h h' st k=>k it (by simp) _ st
 item:=by
  intro X hP hw hK hc i pins s σ H E I hf st hg
  subst hP hw hK
  obtain⟨f0,f1,f2,f3,f4,f5⟩:=hf it (by simp)
  have W:=Walks.range (prog:=X.prog) (w:=X.w) (I.ok.hd hc) it lo 1 n
  refine W.item i s _ _ hg st λv h' tk hv st' kk=>?_
  obtain⟨t,rfl⟩:=hv
  have I1:Inv X pins σ H { s with heap:=h',toks:=tk }:=I.turned (λb o hb e=>kk b o (by simpa using hb) e) f0 f1 f3 f4 f5
  refine⟨_,rfl,zhK (s:={ s with heap:=h',toks:=tk }) (n:="range_iterator") st' rfl rfl (by decide) ⟨.int (lo+i),H,I1,⟨t,?_⟩,⟨rfl,rfl⟩,st',λb hb=>(hf b hb).1⟩⟩
  rw[Int.mul_one]
 done:=by
  intro X hP hw hK hc i pins s σ H E I hf st hg
  subst hP hw hK
  obtain⟨f0,f1,f2,f3,f4,f5⟩:=hf it (by simp)
  exact wpAny_pyNext_range_end (I.ok.hd hc) st (by have:n<=i:=hg;omega) λh' eb=>⟨rfl,I.turned (t':=s.toks) (λb o hb e=>eb b o hb e) f0 f1 f3 f4 f5⟩
 self:=λ_ _ _ _ _ st h=>wpAny_pyIter_rangeiter st h
section
variable {X:Cx}{tg:Expr}
theorem zcY {pins:List (Addr × Obj)}{σ:St}{H:Hp}{s:Shared}{R:It->Hp->Prop}{E:Value->Shared->Prop}{lo hi:Int}{t u v:Tok}{tk:Nat}(I:Inv X pins σ H s)(h1:-(2 ^ 62)<=lo)(h2:lo < 2 ^ 62)(h3:-(2 ^ 62)<=hi)(h4:hi < 2 ^ 62)
 (q:R (Itr lo (hi - lo).toNat) H):wpAny (model X.prog X.w) X.A (pyIter (.ref s.heap.objs.size)) (PIE X pins σ tg R) E { s with heap:=s.heap.push { cls:=.type "range",data:=.fields #[.int lo t,.int hi u,.int 1 v] },toks:=tk }:=by
 refine wpAny_pyIter_range (IsRange.new ..) (small_one h1 h2 h3 h4) ?_
 have I1:Inv X pins σ H { s with heap:=s.heap.push { cls:=.type "range",data:=.fields #[.int lo t,.int hi u,.int 1 v] },toks:=tk }:=I.kept λb o e=>u4 _ e
 refine⟨(s.heap.push { cls:=.type "range",data:=.fields #[.int lo t,.int hi u,.int 1 v] }).objs.size,[(s.heap.push { cls:=.type "range",data:=.fields #[.int lo t,.int hi u,.int 1 v] }).objs.size],_,_,H,rfl,
  I1.kept (t':=tk) λb o e=>u4 _ e,zdD _ lo (hi - lo).toNat,?_,λb hb=>?_,q⟩
 .have e1:lo+((0:Nat):Int)*1=lo:=by simp
  have e2:(((hi - lo).toNat:Nat):Int) - ((0:Nat):Int)=Builtin.Range.rangeSize lo hi 1:=by rw[rangeSize_one];split <;> omega
  show IsRangeIter _ _ (lo+((0:Nat):Int)*1) ((((hi - lo).toNat:Nat):Int) - ((0:Nat):Int)) 1
  rw[e1,e2]
  exact r8 _ rfl
 .have e:b=(s.heap.push { cls:=.type "range",data:=.fields #[.int lo t,.int hi u,.int 1 v] }).objs.size:=by simpa using hb
  subst e
  exact I1.fpOk (q5 _) (I1.hok.fresh (q5 _))
def zmg (ta:TA):TI:=fun σ H R=>ta σ H λvs H1=>∃ j:Int,vs=[.int j]/\-(2 ^ 62)<=j/\j < 2 ^ 62/\R (Itr 0 j.toNat) H1
def zl1 (ta:TA):TI:=fun σ H R=>ta σ H λvs H1=>∃ i j:Int,vs=[.int i,.int j]/\(-(2 ^ 62)<=i/\i < 2 ^ 62/\-(2 ^ 62)<=j/\j < 2 ^ 62)/\R (Itr i (j - i).toNat) H1
theorem zbH {a:Expr} {ta:TA} {p pos:Pos} (hg:Gl X "range") (hm:X.mg "range"=none) (ha:PA X [a] ta) (hs:starEach [a] X.env=[(false,eval a X.env)]:=by rfl):PI X tg (.Call (.Name "range" p) [a] [] pos) (zmg ta):=by
 intro pins s σ H R I h
 refine Call_ (vt I hg hm boot_range (u0q (thn (ha pos pins s σ H _ I h) λus s1 hh9=>?_) hs rfl))
 obtain⟨vs,H1,I1,r1,q1⟩:=hh9
 obtain⟨j,e,q1,q2,q⟩:=q1
 subst e
 cases r1 with
 | cons r rr =>
  cases rr
  obtain⟨t,rfl⟩:=r
  exact call_range_1 (zcY I1 (by omega) (by omega) q1 q2 (by simpa using q))
theorem zeF {a b:Expr} {ta:TA} {p pos:Pos} (hg:Gl X "range") (hm:X.mg "range"=none) (ha:PA X [a,b] ta) (hs:starEach [a,b] X.env=[(false,eval a X.env),(false,eval b X.env)]:=by rfl) (hs2:starEach [b] X.env=[(false,eval b X.env)]:=by rfl) :
 PI X tg (.Call (.Name "range" p) [a,b] [] pos) (zl1 ta):=by
 intro pins s σ H R I h
 refine Call_ (vt I hg hm boot_range (u0q (thn (ha pos pins s σ H _ I h) λus s1 hh9=>?_) (by rw[hs,hs2]) (by rw[hs2];rfl)))
 obtain⟨vs,H1,I1,r1,q1⟩:=hh9
 obtain⟨i,j,e,⟨q1,q2,q3,q4⟩,q⟩:=q1
 subst e
 cases r1 with
 | cons r rr =>
  cases rr with
  | cons r' rr =>
   cases rr
   obtain⟨t,rfl⟩:=r
   obtain⟨t',rfl⟩:=r'
   exact call_range_2 (zcY I1 q1 q2 q3 q4 q)
def tFor (wi:TI)(g:TG)(tb:TS):TS:=λD σ H=>wi σ H λJ H1=>∃ W:Nat->Nat->St->Hp->Prop,(∃ m,W 0 m σ H1)/\∀ i m σ H,W i m σ H ->
 (J.stop i H/\D.nx σ H)\/(J.go i H/\∃ N:St->Hp->Prop,(∀ σ' H',N σ' H'->∃ m',m' < m/\W (i+1) m' σ' H')/\∀ x H',J.yld i H x H'->g x σ H' fun σ2 H2=>tb { D with nx:=N,ct:=N,bk:=D.nx } σ2 H2)
def Yz (fp:List Addr)(h:Heap):List (Addr × Obj):=fp.filterMap λb=>(h.get? b).map λo=>(b,o)
theorem yH {fp:List Addr}{h:Heap}{b:Addr}{o:Obj}(hb:b∈fp)(e:h.get? b=some o):(b,o)∈Yz fp h:=List.mem_filterMap.mpr ⟨b,hb,by rw[e];rfl⟩
theorem zeg {fp:List Addr}{h:Heap}{p:Addr × Obj}(hp:p∈Yz fp h):p.1∈fp/\h.get? p.1=some p.2:=by
 obtain⟨b,hb,e⟩:=List.mem_filterMap.mp hp
 cases q:h.get? b with
 | none=>rw[q]at e;cases e
 | some o =>
  rw[q]at e
  have e':(b,o)=p:=u0x e
  subst e'
  exact⟨hb,q⟩
theorem Inv.pinned {pins:List (Addr × Obj)}{σ:St}{H:Hp}{s:Shared}{fp:List Addr}(I:Inv X pins σ H s)(hf:∀ b∈fp,VD X pins H b)(ho:∀ b∈fp,∃ o,s.heap.get? b=some o/\∀ v,o.data≠.cell v):Inv X (pins++Yz fp s.heap) σ H s :=
 I.pins_of λp hp=>(u0w.mp hp).elim (λz=>I.pin p (o0 _ z)) λz=>by
  obtain⟨hb,e⟩:=zeg z
  obtain⟨f0,f1,f2,_⟩:=hf p.1 hb
  obtain⟨o,e',d⟩:=ho p.1 hb
  rw[e]at e';cases e'
  exact⟨e,f0,f1,f2,d⟩
theorem Inv.unpinned {pins pl:List (Addr × Obj)}{σ:St}{H:Hp}{s:Shared}(I:Inv X (pins++pl) σ H s):Inv X pins σ H s:=I.pins_of λp hp=>I.pin p (o0 _ (u2e _ hp))
theorem zfu {iter:Expr}{body:List Stmt}{wi:TI}{g:TG}{tb:TS}{pos:Pos}(hp:PassesOwn (model X.prog X.w) X.A X.env X.xe)(hc:X.calm=true)(hi:PI X tg iter wi)(hg:PG X tg g)(hb:PSs X body tb)
 (hs:∀ x,foldedSetIterable iter X.env x=pure x:=by intro _;rfl):PS X (.For tg iter body [] pos) (tFor wi g tb):=by
 intro pins s σ H D I h
 refine wpAny_For (thn (hi pins s σ H _ I h) λv s1 h1=>thn h1 λitv s2 h2=>?_) hs
 obtain⟨it,fp,tn,J,H2,e,I2,T,st2,f2,W,⟨m0,w0⟩,turn⟩:=h2
 subst e
 -- what stays true of the iterator's objects through the loop
 have stat:∀ {H':Hp},(∀ b∈fp,H' b=none)->∀ b∈fp,VD X pins H' b:=λhn b hb=>⟨hn b hb,(f2 b hb).2⟩
 refine codeAny_forLoop_any (λn s'=>∃ i σ' H',Inv X pins σ' H' s'/\tn i s'.heap/\(∀ b∈fp,H' b=none)/\W i n σ' H') ?_ m0 ⟨0,σ,H2,I2,st2,λb hb=>(f2 b hb).1,w0⟩
 rintro n s3 ⟨i,σ3,H3,I3,st3,fr3,w3⟩
 rcases turn i n σ3 H3 w3 with ⟨stop,qn⟩ | ⟨go,N,hN,step⟩
 .refine u1Q hp (thn (T.done X rfl rfl rfl hc i pins s3 σ3 H3 X.xe I3 (stat fr3) st3 stop) λr s4 hh9=>?_)
  obtain⟨hr,I4⟩:=hh9
  subst hr
  exact u3t ⟨σ3,H3,I4,qn⟩
 .refine u1Q hp (thn (T.item X rfl rfl rfl hc i pins s3 σ3 H3 X.xe I3 (stat fr3) st3 go) λr s4 hh9=>?_)
  obtain⟨u,hr,h4⟩:=hh9
  subst hr
  refine u1Q hp (thn h4 λ_ s5 hh9=>?_)
  obtain⟨x,H5,I5,r5,y5,st5,fr5⟩:=hh9
  have I5':=I5.pinned (stat fr5) (T.obj _ _ st5)
  refine u1Q hp (thn (hg _ s5 σ3 H5 x u _ I5' r5 (step x H5 y5)) λ_ s6 hh9=>?_)
  obtain⟨σ6,H6,I6,q6⟩:=hh9
  refine u1Q hp (thn (hb _ s6 σ6 H6 _ I6 q6) λf s7 q7=>?_)
  have again:∀ {σ7:St} {H7:Hp},Inv X (pins++Yz fp s5.heap) σ7 H7 s7->N σ7 H7->∃ m,m < n/\∃ i σ' H',Inv X pins σ' H' s7/\tn i s7.heap/\(∀ b∈fp,H' b=none)/\W i m σ' H':=λ{σ7 H7} I7 n7=>by
   obtain⟨m',hm,w7⟩:=hN σ7 H7 n7
   refine⟨m',hm,i+1,σ7,H7,I7.unpinned,T.keep _ _ _ st5 λb hb o e=>(I7.pin (b,o) (o0 _ (o0 _ (yH hb e)))).1,λb hb=>?_,w7⟩
   obtain⟨o,e,d⟩:=T.obj _ _ st5 b hb
   exact(I7.pin (b,o) (o0 _ (o0 _ (yH hb e)))).2.1
  cases f with
  | next=>obtain⟨σ7,H7,I7,n7⟩:=q7;exact again I7 n7
  | cont=>obtain⟨σ7,H7,I7,n7⟩:=q7;exact again I7 n7
  | brk=>obtain⟨σ7,H7,I7,q7⟩:=q7;exact⟨σ7,H7,I7.unpinned,q7⟩
  | ret v=>obtain⟨x7,σ7,H7,I7,r7,q7⟩:=q7;exact⟨x7,σ7,H7,I7.unpinned,r7,q7⟩
end
abbrev R2:=V->V->Hp->VK->Prop
def OpR (X:Cx)(f:Value->Value->Sem Value)(r:R2):Prop :=
 ∀ (pins:List (Addr × Obj)) (s:Shared) (σ:St) (H:Hp) (x y:V) (v u:Value) (Q:VK),Inv X pins σ H s->xk x v->xk y u->r x y H Q ->
  wpAny (model X.prog X.w) X.A (f v u) (EP X pins σ Q) X.xe s
def UnR (X:Cx)(f:Value->Sem Value)(r:V->Hp->VK->Prop):Prop :=
 ∀ (pins:List (Addr × Obj)) (s:Shared) (σ:St) (H:Hp) (x:V) (v:Value) (Q:VK),Inv X pins σ H s->xk x v->r x H Q ->
  wpAny (model X.prog X.w) X.A (f v) (EP X pins σ Q) X.xe s
def Xp (X:Cx)(f:Value)(r:List V->Hp->VK->Prop):Prop :=
 ∀ (pins:List (Addr × Obj)) (s:Shared) (σ:St) (H:Hp) (xs:List V) (us:List Value) (Q:VK),Inv X pins σ H s->yf xs us->r xs H Q ->
  wpAny (model X.prog X.w) X.A (call f us) (EP X pins σ Q) X.xe s
def tOp (r:R2)(ta tb:TE):TE:=fun σ H Q=>ta σ H λx H1=>tb σ H1 λy H2=>r x y H2 Q
def tUn (r:V->Hp->VK->Prop)(ta:TE):TE:=fun σ H Q=>ta σ H λx H1=>r x H1 Q
def rI (C:Int->Int->Prop)(g:Int->Int->V):R2:=λx y H Q=>∃ i j,x=.int i/\y=.int j/\C i j/\Q (g i j) H
def rI0 (g:Int->Int->V):R2:=λx y H Q=>∃ i j,x=.int i/\y=.int j/\Q (g i j) H
def rU (g:Int->V):V->Hp->VK->Prop:=λx H Q=>∃ i,x=.int i/\Q (g i) H
section
variable {X:Cx}{a b c:Expr}{ta tb tc:TE}{pos:Pos}
theorem zl0 (ha:PE X a ta)(hb:PE X b tb){pins:List (Addr × Obj)}{s:Shared}{σ:St}{H:Hp}{R:V->V->Hp->Prop}(I:Inv X pins σ H s)
 (h:ta σ H λx H1=>tb σ H1 λy H2=>R x y H2) {Q:Value->Shared->Prop} {f:Value->Value->Sem Value}
 (hf:∀ v u s2 x y H2,Inv X pins σ H2 s2->xk x v->xk y u->R x y H2->wpAny (model X.prog X.w) X.A (f v u) Q X.xe s2) :
 wpAny (model X.prog X.w) X.A (eval a X.env) (λv s₁=>wpAny (model X.prog X.w) X.A (eval b X.env) (λu s₂=>wpAny (model X.prog X.w) X.A (f v u) Q X.xe s₂) X.xe s₁) X.xe s:=by
 refine thn (ha pins s σ H _ I h) λv s1 hh9=>?_
 obtain⟨x,H1,I1,r1,q1⟩:=hh9
 refine thn (hb pins s1 σ H1 _ I1 q1) λu s2 hh9=>?_
 obtain⟨y,H2,I2,r2,q2⟩:=hh9
 exact hf v u s2 x y H2 I2 r1 r2 q2
theorem zkX {op:Operator}{r:R2}(ho:OpR X (binaryOp op) r)(ha:PE X a ta)(hb:PE X b tb):PE X (.BinOp a op b pos) (tOp r ta tb):=by
 intro pins s σ H Q I h
 exact wpAny_BinOp (zl0 ha hb I h λv u s2 x y H2 I2 rx ry q=>ho pins s2 σ H2 x y v u Q I2 rx ry q)
theorem zml {op:UnaryOp}{r:V->Hp->VK->Prop}(ho:UnR X (unaryOp op) r)(ha:PE X a ta):PE X (.UnaryOp op a pos) (tUn r ta):=by
 intro pins s σ H Q I h
 exact UnaryOp_ (thn (ha pins s σ H _ I h) λv s1 ⟨x,H1,I1,r1,q1⟩=>ho pins s1 σ H1 x v Q I1 r1 q1)
theorem opI {f:Value->Value->Sem Value}{C:Int->Int->Prop}{g:Int->Int->Int}
 (rule:∀ (i j:Int) (t u:Tok) (s:Shared) (Q:Value->Shared->Prop) (E:Value->Shared->Prop),C i j->Q (.int (g i j) s.toks) { s with toks:=s.toks+1 }->wpAny (model X.prog X.w) X.A (f (.int i t) (.int j u)) Q E s) :
 OpR X f (rI C λi j=>.int (g i j)):=by
 intro pins s σ H x y v u Q I rx ry h
 obtain⟨i,j,rfl,rfl,hc,q⟩:=h
 obtain⟨t,rfl⟩:=rx
 obtain⟨t',rfl⟩:=ry
 exact rule i j t t' s _ _ hc ⟨.int (g i j),H,I.tok _,⟨_,rfl⟩,q⟩
theorem opI0 {f:Value->Value->Sem Value}{g:Int->Int->Int}
 (rule:∀ (i j:Int) (t u:Tok) (s:Shared) (Q:Value->Shared->Prop) (E:Value->Shared->Prop),Q (.int (g i j) s.toks) { s with toks:=s.toks+1 }->wpAny (model X.prog X.w) X.A (f (.int i t) (.int j u)) Q E s) :
 OpR X f (rI0 λi j=>.int (g i j)):=by
 intro pins s σ H x y v u Q I rx ry h
 obtain⟨i,j,rfl,rfl,q⟩:=h
 obtain⟨t,rfl⟩:=rx
 obtain⟨t',rfl⟩:=ry
 exact rule i j t t' s _ _ ⟨.int (g i j),H,I.tok _,⟨_,rfl⟩,q⟩
theorem zl7 {f:Value->Value->Sem Value}{g:Int->Int->Bool}
 (rule:∀ (i j:Int) (t u:Tok) (s:Shared) (Q:Value->Shared->Prop) (E:Value->Shared->Prop),Q (.bool (g i j)) s->wpAny (model X.prog X.w) X.A (f (.int i t) (.int j u)) Q E s) :
 OpR X f (rI0 λi j=>.bl (g i j)):=by
 intro pins s σ H x y v u Q I rx ry h
 obtain⟨i,j,rfl,rfl,q⟩:=h
 obtain⟨t,rfl⟩:=rx
 obtain⟨t',rfl⟩:=ry
 exact rule i j t t' s _ _ ⟨.bl (g i j),H,I,rfl,q⟩
def zl9 (i j:Int):Prop:=(-(2 ^ 64) < i/\i < 2 ^ 64)\/(-(2 ^ 64) < j/\j < 2 ^ 64)
theorem zl9.ok {i j:Int}(h:zl9 i j):IntMulOk i j:=by
 rcases h with ⟨h1,h2⟩ | ⟨h1,h2⟩
 .exact .of_left (intBits_le_64 h1 h2)
 .exact .of_right (intBits_le_64 h1 h2)
theorem zlk:OpR X (binaryOp .Add) (rI0 λi j=>.int (i+j)):=opI0 λ_ _ _ _ _ _ _ q=>add_int q
theorem zkF:OpR X (binaryOp .Sub) (rI0 λi j=>.int (i - j)):=opI0 λ_ _ _ _ _ _ _ q=>sub_int q
theorem zly:OpR X (binaryOp .Mult) (rI zl9 λi j=>.int (i*j)):=opI λ_ _ _ _ _ _ _ hc q=>mul_int q hc.ok
theorem zkU:OpR X (binaryOp .Mod) (rI (λ_ j=>0 < j) λi j=>.int (i % j)):=opI λi j _ _ _ _ _ hc q=>by
 have h1:(0:Int) < j:=hc
 exact mod_int' (by omega) (by rw[Int.fmod_eq_emod_of_nonneg i (by omega)];exact q)
theorem unI {f:Value->Sem Value}{g:Int->Int}
 (rule:∀ (i:Int) (t:Tok) (s:Shared) (Q:Value->Shared->Prop) (E:Value->Shared->Prop),Q (.int (g i) s.toks) { s with toks:=s.toks+1 }->wpAny (model X.prog X.w) X.A (f (.int i t)) Q E s) :
 UnR X f (rU λi=>.int (g i)):=by
 intro pins s σ H x v Q I rx h
 obtain⟨i,rfl,q⟩:=h
 obtain⟨t,rfl⟩:=rx
 exact rule i t s _ _ ⟨.int (g i),H,I.tok _,⟨_,rfl⟩,q⟩
theorem zkd:UnR X (unaryOp .USub) (rU λi=>.int (-i)):=unI λ_ _ _ _ _ q=>neg_int q
end
def scal:V->V->Bool
 | .non,.non=>true | .non,.int _=>true | .int _,.non=>true | .non,.bl _=>true | .bl _,.non=>true | .non,.str _=>true | .str _,.non=>true
 | .int _,.int _=>true | .bl _,.bl _=>true | .str _,.str _=>true | .byt _,.byt _=>true
 | .int _,.str _=>true | .str _,.int _=>true | .bl _,.str _=>true | .str _,.bl _=>true
 | _,_=>false
def rEq:R2:=λx y H Q=>scal x y=true/\Q (.bl (decide (x=y))) H
def rNe:R2:=λx y H Q=>scal x y=true/\Q (.bl (!decide (x=y))) H
theorem zgh {i j:Int}:decide (V.int i=V.int j)=(i == j):=by
 rw[u12]
 simp
theorem zix {i j:Bool}:decide (V.bl i=V.bl j)=(i == j):=by
 rw[u12]
 simp
theorem zfT {i j:Str}:decide (V.str i=V.str j)=(i == j):=by
 rw[u12]
 simp
theorem zey {i j:Array UInt8}:decide (V.byt i=V.byt j)=(i.toList == j.toList):=by
 rw[u12]
 cases i
 cases j
 simp
section
variable {X:Cx}{a b c:Expr}{ta tb tc:TE}{pos:Pos}
theorem zP {pins:List (Addr × Obj)}{σ:St}{H:Hp}{s:Shared}{Q:VK}{k k':Bool}(I:Inv X pins σ H s)(q:Q (.bl k) H)(e:k=k'):EP X pins σ Q (.bool k') s:=by
 subst e
 exact⟨.bl k,H,I,rfl,q⟩
theorem zmr:OpR X (compareOp .Eq) rEq:=by
 intro pins s σ H x y v u Q I rx ry h
 obtain⟨hs,q⟩:=h
 cases x with
 | non =>
  cases rx
  cases y with
  | non=>cases ry;exact PySem.EqNone.eq_none_none (zP I q (by simp))
  | bl j=>cases ry;exact PySem.EqNone.eq_none_bool (zP I q (by simp))
  | int j=>obtain⟨t',rfl⟩:=ry;exact PySem.EqNone.eq_none_int (zP I q (by simp))
  | str j=>obtain⟨t',rfl⟩:=ry;exact PySem.EqNone.eq_none_str (zP I q (by simp))
  | _=>exact absurd (show false=true from hs) u7
 | bl i =>
  cases rx
  cases y with
  | non=>cases ry;exact PySem.EqNone.eq_bool_none (zP I q (by simp))
  | bl j=>cases ry;exact eq_bool (zP I q zix)
  | str j=>obtain⟨t',rfl⟩:=ry;exact PySem.EqMixed.eq_bool_str (zP I q (by simp))
  | _=>exact absurd (show false=true from hs) u7
 | int i =>
  obtain⟨t,rfl⟩:=rx
  cases y with
  | non=>cases ry;exact PySem.EqNone.eq_int_none (zP I q (by simp))
  | int j=>obtain⟨t',rfl⟩:=ry;exact eq_int (zP I q zgh)
  | str j=>obtain⟨t',rfl⟩:=ry;exact PySem.EqMixed.eq_int_str (zP I q (by simp))
  | _=>exact absurd (show false=true from hs) u7
 | str i =>
  obtain⟨t,rfl⟩:=rx
  cases y with
  | non=>cases ry;exact PySem.EqNone.eq_str_none (zP I q (by simp))
  | bl j=>cases ry;exact PySem.EqMixed.eq_str_bool (zP I q (by simp))
  | int j=>obtain⟨t',rfl⟩:=ry;exact PySem.EqMixed.eq_str_int (zP I q (by simp))
  | str j=>obtain⟨t',rfl⟩:=ry;exact eq_str (zP I q zfT)
  | _=>exact absurd (show false=true from hs) u7
 | byt i =>
  obtain⟨t,rfl⟩:=rx
  cases y with
  | byt j=>obtain⟨t',rfl⟩:=ry;exact W.eq_bytes (zP I q zey)
  | _=>exact absurd (show false=true from hs) u7
 | _=>cases y <;> exact absurd (show false=true from hs) u7
theorem zcx:OpR X (compareOp .NotEq) rNe:=by
 intro pins s σ H x y v u Q I rx ry h
 obtain⟨hs,q⟩:=h
 cases x with
 | non =>
  cases rx
  cases y with
  | non=>cases ry;exact PySem.EqNone.ne_none_none (zP I q (by simp))
  | bl j=>cases ry;exact PySem.EqNone.ne_none_bool (zP I q (by simp))
  | int j=>obtain⟨t',rfl⟩:=ry;exact PySem.EqNone.ne_none_int (zP I q (by simp))
  | str j=>obtain⟨t',rfl⟩:=ry;exact PySem.EqNone.ne_none_str (zP I q (by simp))
  | _=>exact absurd (show false=true from hs) u7
 | bl i =>
  cases rx
  cases y with
  | non=>cases ry;exact PySem.EqNone.ne_bool_none (zP I q (by simp))
  | bl j=>cases ry;exact ne_bool (zP I q (u1o not zix))
  | str j=>obtain⟨t',rfl⟩:=ry;exact PySem.EqMixed.ne_bool_str (zP I q (by simp))
  | _=>exact absurd (show false=true from hs) u7
 | int i =>
  obtain⟨t,rfl⟩:=rx
  cases y with
  | non=>cases ry;exact PySem.EqNone.ne_int_none (zP I q (by simp))
  | int j=>obtain⟨t',rfl⟩:=ry;exact ne_int (zP I q (u1o not zgh))
  | str j=>obtain⟨t',rfl⟩:=ry;exact PySem.EqMixed.ne_int_str (zP I q (by simp))
  | _=>exact absurd (show false=true from hs) u7
 | str i =>
  obtain⟨t,rfl⟩:=rx
  cases y with
  | non=>cases ry;exact PySem.EqNone.ne_str_none (zP I q (by simp))
  | bl j=>cases ry;exact PySem.EqMixed.ne_str_bool (zP I q (by simp))
  | int j=>obtain⟨t',rfl⟩:=ry;exact PySem.EqMixed.ne_str_int (zP I q (by simp))
  | str j=>obtain⟨t',rfl⟩:=ry;exact ne_str (zP I q (u1o not zfT))
  | _=>exact absurd (show false=true from hs) u7
 | byt i =>
  obtain⟨t,rfl⟩:=rx
  cases y with
  | byt j=>obtain⟨t',rfl⟩:=ry;exact W.ne_bytes (zP I q (u1o not zey))
  | _=>exact absurd (show false=true from hs) u7
 | _=>cases y <;> exact absurd (show false=true from hs) u7
theorem zmp:OpR X (compareOp .Lt) (rI0 λi j=>.bl (decide (i < j))):=zl7 λ_ _ _ _ _ _ _ q=>lt_int q
theorem zhW:OpR X (compareOp .LtE) (rI0 λi j=>.bl (decide (i<=j))):=zl7 λ_ _ _ _ _ _ _ q=>le_int q
theorem zbr:OpR X (compareOp .Gt) (rI0 λi j=>.bl (decide (j < i))):=zl7 λ_ _ _ _ _ _ _ q=>gt_int q
theorem zkc:OpR X (compareOp .Is) (λx y H Q=>y=.non/\Q (.bl (decide (x=.non))) H):=by
 intro pins s σ H x y v u Q I rx ry h
 obtain⟨rfl,q⟩:=h
 cases ry
 refine is_none_gen (zP I q ?_)
 cases x <;> first
  | (cases rx;rfl)
  | (obtain⟨t,rfl⟩:=rx;rfl)
theorem zi5:OpR X (compareOp .IsNot) (λx y H Q=>y=.non/\Q (.bl (!decide (x=.non))) H):=by
 intro pins s σ H x y v u Q I rx ry h
 obtain⟨rfl,q⟩:=h
 cases ry
 refine isnot_none_gen (zP I q ?_)
 cases x <;> first
  | (cases rx;rfl)
  | (obtain⟨t,rfl⟩:=rx;rfl)
theorem OpR.or {f:Value->Value->Sem Value}{r r':R2}(h:OpR X f r)(h':OpR X f r'):OpR X f (λx y H Q=>r x y H Q\/r' x y H Q):=by
 intro pins s σ H x y v u Q I rx ry q
 rcases q with q | q
 .exact h pins s σ H x y v u Q I rx ry q
 .exact h' pins s σ H x y v u Q I rx ry q
theorem zJ (b:Expr){op:CmpOp}(h:op≠.In:=by decide)(h2:op≠.NotIn:=by decide):behindInMarks op b=false:=by
 have e1:(op == CmpOp.In)=false:=by cases op <;> first | rfl | exact absurd rfl h
 have e2:(op == CmpOp.NotIn)=false:=by cases op <;> first | rfl | exact absurd rfl h2
 cases b <;> simp[behindInMarks,e1,e2]
theorem zjD {op:CmpOp}{r:R2}(ho:OpR X (compareOp op) r)(ha:PE X a ta)(hb:PE X b tb)(hm:behindInMarks op b=false):PE X (.Compare a [op] [b] pos) (tOp r ta tb):=by
 intro pins s σ H Q I h
 exact wpAny_Compare1 (zl0 ha hb I h λv u s2 x y H2 I2 rx ry q=>ho pins s2 σ H2 x y v u Q I2 rx ry q) hm
def zk1 (t:TE):TT:=fun σ H Q=>t σ H λx H'=>∃ k,x=.bl k/\Q k H'
theorem ziV {op:CmpOp}{r:R2}(ho:OpR X (compareOp op) r)(ha:PE X a ta)(hb:PE X b tb)(hm:behindInMarks op b=false):PT X (.Compare a [op] [b] pos) (zk1 (tOp r ta tb)):=by
 intro pins s σ H Q I h
 refine wpAny_isTrue_Compare1 (thn (ha pins s σ H _ I h) λv s1 ⟨x,H1,I1,r1,q1⟩=>thn (hb pins s1 σ H1 _ I1 q1) λu s2 ⟨y,H2,I2,r2,q2⟩ =>
  thn (ho pins s2 σ H2 x y v u _ I2 r1 r2 q2) λc s3 ⟨z,H3,I3,r3,k,e,q3⟩=>?_) hm
 subst e
 cases r3
 exact u1d ⟨H3,I3,q3⟩
def zgu (r r':R2)(ta tb tc:TE):TE:=fun σ H Q=>ta σ H λx H1=>tb σ H1 λy H2=>r x y H2 λz H3=>∃ k,z=.bl k /\
 (if k=true then tc σ H3 λw' H4=>r' y w' H4 Q else Q (.bl false) H3)
theorem zgI {op op':CmpOp}{r r':R2}(ho:OpR X (compareOp op) r)(ho':OpR X (compareOp op') r')(ha:PE X a ta)(hb:PE X b tb)(hc:PE X c tc)
 (hm:lastMarks [op,op'] [b,c]=false:=by with_unfolding_all rfl):PE X (.Compare a [op,op'] [b,c] pos) (zgu r r' ta tb tc):=by
 intro pins s σ H Q I h
 refine Compare_chain (thn (ha pins s σ H _ I h) λv s1 ⟨x,H1,I1,r1,q1⟩=>chain_link (thn (hb pins s1 σ H1 _ I1 q1) λu s2 ⟨y,H2,I2,r2,q2⟩ =>
  thn (ho pins s2 σ H2 x y v u _ I2 r1 r2 q2) λd s3 ⟨z,H3,I3,r3,k,e,q3⟩=>?_)) hm
 subst e
 cases r3
 refine u1d ?_
 cases k with
 | false=>exact ite_ff ⟨.bl false,H3,I3,rfl,q3⟩
 | true=>exact ite_tt (chain_last (thn (hc pins s3 σ H3 _ I3 q3) λw' s4 ⟨z',H4,I4,r4,q4⟩=>ho' pins s4 σ H4 y z' u w' Q I4 r2 r4 q4))
theorem zaK:(sizeLine:Nat) < 2 ^ 63:=by rw[u1K];decide
theorem zdU:OpR X (binaryOp .Add) (λx y H Q=>∃ i j,x=.str i/\y=.str j/\i.length+j.length<=sizeLine/\Q (.str (i++j)) H):=by
 intro pins s σ H x y v u Q I rx ry h
 obtain⟨i,j,rfl,rfl,hz,q⟩:=h
 obtain⟨t,rfl⟩:=rx
 obtain⟨t',rfl⟩:=ry
 exact add_str (λt' tk=>⟨.str (i++j),H,I.tok _,⟨_,rfl⟩,q⟩) hz
theorem za7 {x:V}{us:List Value}(r:yf [x] us):∃ u,us=[u]/\xk x u:=by
 cases r with
 | cons r1 r2=>cases r2;exact⟨_,rfl,r1⟩
theorem zco {x y:V}{us:List Value}(r:yf [x,y] us):∃ u w',us=[u,w']/\xk x u/\xk y w':=by
 cases r with
 | cons r1 r2 =>
  cases r2 with
  | cons r3 r4=>cases r4;exact⟨_,_,rfl,r1,r3⟩
theorem ZK (hc:X.calm=true):Xp X (.builtin "max") (λxs H Q=>∃ i j,xs=[.int i,.int j]/\Q (.int (if j > i then j else i)) H):=by
 intro pins s σ H xs us Q I r h
 obtain⟨i,j,rfl,q⟩:=h
 obtain⟨u,w',rfl,⟨t,rfl⟩,⟨t',rfl⟩⟩:=zco r
 refine max_two_ints (I.ok.hd hc) λh' tk k=>⟨_,H,I.kept k,?_,q⟩
 by_cases hj:j > i
 .rw[j3 hj,j3 hj];exact⟨_,rfl⟩
 .rw[j8 hj,j8 hj];exact⟨_,rfl⟩
theorem Wu (hc:X.calm=true):Xp X (.builtin "min") (λxs H Q=>∃ i j,xs=[.int i,.int j]/\Q (.int (if j < i then j else i)) H):=by
 intro pins s σ H xs us Q I r h
 obtain⟨i,j,rfl,q⟩:=h
 obtain⟨u,w',rfl,⟨t,rfl⟩,⟨t',rfl⟩⟩:=zco r
 refine min_two_ints (I.ok.hd hc) λh' tk k=>⟨_,H,I.kept k,?_,q⟩
 by_cases hj:j < i
 .rw[j3 hj,j3 hj];exact⟨_,rfl⟩
 .rw[j8 hj,j8 hj];exact⟨_,rfl⟩
end
structure zmq (h:Heap) (x dx C:Addr) (mA:Str->Option Value):Prop where
 obj:h.get? x=some (W.instObj C dx)
 ns:h.Ns1 dx mA
 ne:dx≠x
theorem zgg {h:Heap}{dx:Addr}{mA:Str->Option Value}(n:h.Ns1 dx mA):∃ od,h.get? dx=some od/\∀ name,W.lookIn name od=some (mA name):=by
 obtain⟨o,es,ep,ho,hd,hk,_,hm⟩:=n
 refine⟨o,ho,λname=>?_⟩
 have e:=hm name
 unfold nsFind findBy at e
 rw[<-Array.find?_toList]at e
 unfold W.lookIn
 rw[hd]
 dsimp only
 split
 .rename_i y q
  rw[q]at e
  exact u1o some e
 .rename_i q
  rw[q]at e
  have a:es.toList.any (·.refKey)=false:=by
   rw[List.any_eq_false]
   intro y hy
   obtain⟨z,t,hkey⟩:=hk y (Array.mem_toList_iff.mp hy)
   simp[DictEntry.refKey,hkey]
  have a':¬ es.toList.any (·.refKey)=true:=by rw[a];exact u7
  rw[j8 a']
  exact u1o some e
theorem zmq.look {h:Heap}{x dx C:Addr}{mA:Str->Option Value}(I:zmq h x dx C mA):∃ od,PySem.W.InstAt h x (W.instObj C dx) C (some od)/\∀ name,W.lookIn name od=some (mA name) :=
 let ⟨od,ho,hl⟩:=zgg I.ns
 ⟨od,⟨I.obj,rfl,rfl,ho⟩,hl⟩
section
variable {P:Program}{w:World}{H H':Hp}{h h':Heap}{a C dx:Addr}{fs fs':List (Str × V)}
theorem zi2 (hok:HOk P w H h)(e:H a=some (.ins C dx fs)):∃ mA,zmq h a dx C mA/\(∀ f,zl3 (fs.lookup f) (mA f))/\PySem.Within mA (fs.map (·.1))/\fs.length<=1000/\H dx=some (.own a):=by
 obtain⟨d,z,ne,ob,mA,n,r,q⟩:=(show xt P w H h a (.ins C dx fs)from hok a _ e)
 exact⟨mA,⟨ob,n,ne⟩,r,q,z,d⟩
end
structure Cls (K:W.Frag) (C:Addr):Prop where
 pg:W.plainGet K C Str.empty=true
 hd:W.hasDictIn K C=true
 po:W.plainOver K C=true
 sa:W.findIn K (.ref C) "__setattr__"=some (some (.builtin "object.__setattr__"))
theorem Cls.get {K:W.Frag}{C:Addr}(c:Cls K C)(f:Str):W.plainGet K C f=true:=c.pg
section
variable {X:Cx}{pins:List (Addr × Obj)}{σ:St}{H:Hp}{s:Shared}{A:Around}{E:Value->Shared->Prop}{Q:Value->Shared->Prop}{c:Value}{b:Bool}
inductive zdu (K:W.Frag) (H:Hp):V->Value->Prop where
 | non:zdu K H .non (.type "NoneType")
 | bl (x:Bool):zdu K H (.bl x) (.type "bool")
 | int (i:Int):zdu K H (.int i) (.type "int")
 | str (x:Str):zdu K H (.str x) (.type "str")
 | flt (x:UInt64):zdu K H (.flt x) (.type "float")
 | lst {a:Addr} {xs:List V} (e:H a=some (.lst xs)):zdu K H (.ref a) (.type "list")
 | frz {a:Addr} {o:Obj} {xs:List V} (e:H a=some (.frz o (.lst xs))):zdu K H (.ref a) (.type "list")
 | tup {a:Addr} {xs:List V} (e:H a=some (.tup xs)):zdu K H (.ref a) (.type "tuple")
 | dK {a:Addr} {kvs:List (Key × V)} (e:H a=some (.dK kvs)):zdu K H (.ref a) (.type "dict")
 | dT {a:Addr} {kvs:List (List Key × V)} (e:H a=some (.dT kvs)):zdu K H (.ref a) (.type "dict")
 | ins {a C dx:Addr} {fs:List (Str × V)} (e:H a=some (.ins C dx fs)) (cl:Cls K C) (ha:W.findIn K (.ref C) "__class__"=some (some (.builtin "object.__class__")))
  (hn:W.specialIn K (.builtin "object.__class__") "__get__"=some (some (.builtin "getset_descriptor.__get__"))) (htk:W.takesIn K (.builtin "object.__class__")=some true)
  (hm:W.mroIn K C (.type "object")=some true):zdu K H (.ref a) (.ref C)
theorem zfM {x:V}{u t:Value}(I:Inv X pins σ H s)(rx:xk x u)(ty:zdu X.K H x t)(e:W.kitOne X.K t c=some b)(h:∀ tk,Q (.bool b) { s with toks:=tk }) :
 wpAny (model X.prog X.w) A (call (.builtin "isinstance") [u,c]) Q E s:=by
 cases ty with
 | non=>cases (show u=Value.none from rx);exact u0O W.kitx_none I.kIn True.intro e (λz=>nomatch z) h
 | bl y=>cases (show u=Value.bool y from rx);exact u0O W.kitx_bool I.kIn True.intro e (λz=>nomatch z) h
 | int i=>obtain⟨t,q⟩:=(show ∃ t,u=Value.int i t from rx);cases q;exact u0O W.kitx_int I.kIn True.intro e (λz=>nomatch z) h
 | str y=>obtain⟨t,q⟩:=(show ∃ t,u=Value.str y t from rx);cases q;exact u0O W.kitx_str I.kIn True.intro e (λz=>nomatch z) h
 | flt y=>obtain⟨t,q⟩:=(show ∃ t,u=Value.float y t from rx);cases q;exact u0O W.kitx_float I.kIn True.intro e (λz=>nomatch z) h
 | @lst a xs ea =>
  cases (show u=Value.ref a from rx)
  obtain⟨_,_,n,_,h1⟩:=(show xt X.prog X.w H s.heap a (.lst xs)from I.hok a _ ea)
  exact u0O W.kitx_list I.kIn ⟨_,h1,rfl⟩ e (λz=>nomatch z) h
 | @frz a ob xs ea =>
  cases (show u=Value.ref a from rx)
  obtain⟨_,_,_,n,_,h1⟩:=(show xt X.prog X.w H s.heap a (.frz ob (.lst xs))from I.hok a _ ea)
  exact u0O W.kitx_list I.kIn ⟨_,h1,rfl⟩ e (λz=>nomatch z) h
 | @tup a xs ea =>
  cases (show u=Value.ref a from rx)
  obtain⟨_,_,_,p⟩:=(show xt X.prog X.w H s.heap a (.tup xs)from I.hok a _ ea)
  obtain⟨o,h1,h2,_⟩:=p
  exact u0O W.kitx_tuple I.kIn ⟨o,h1,h2⟩ e (λz=>nomatch z) h
 | @dK a kvs ea =>
  cases (show u=Value.ref a from rx)
  obtain⟨_,_,vs,_,p⟩:=(show xt X.prog X.w H s.heap a (.dK kvs)from I.hok a _ ea)
  obtain⟨o,es,ep,h1,h2,_⟩:=p
  exact u0O u2S I.kIn ⟨o,h1,h2.1⟩ e (λz=>nomatch z) h
 | @dT a kvs ea =>
  cases (show u=Value.ref a from rx)
  obtain⟨_,_,xs,_,o,es,ep,h1,h2,_⟩:=(show xt X.prog X.w H s.heap a (.dT kvs)from I.hok a _ ea)
  exact u0O u2S I.kIn ⟨o,h1,h2.1⟩ e (λz=>nomatch z) h
 | @ins a C dx fs ea cl ha hn htk hm =>
  cases (show u=Value.ref a from rx)
  obtain⟨mA,O,_⟩:=zi2 I.hok ea
  obtain⟨od,J,_⟩:=O.look
  exact u0O (W.kitx_own (cl.get _) cl.hd ha hn htk hm) I.kIn J e (λz=>nomatch z) h
end
structure wC (k:Nat) (A:Around):Prop where
 hd:A.handled=none
 dp:A.depth+3*k+5 < recursionLimit
 un:A.units+16*k+200 < cLine
theorem wC.mono {j k:Nat}{A:Around}(r:wC k A)(h:j<=k):wC j A:=⟨r.hd,by have:=r.dp;omega,by have:=r.un;omega⟩
theorem wC.deeper {k:Nat}{A:Around}(r:wC (k+1) A)(env:Env):wC k (A.deeper env) :=
 ⟨r.hd,by have:=r.dp;show A.depth+1+3*k+5 < _;omega,by have:=r.un;show A.units+3+16*k+200 < _;omega⟩
theorem wC.in1 {k:Nat}{A:Around}(r:wC (k+1) A):wC k A.in1 :=
 ⟨r.hd,by have:=r.dp;show A.depth+3*k+5 < _;omega,by have:=r.un;show A.units+1+16*k+200 < _;omega⟩
theorem wC.depth {k:Nat}{A:Around}(r:wC k A):A.depth < recursionLimit:=by have:=r.dp;omega
theorem wC.units {k:Nat}{A:Around}(r:wC k A):A.units+64 < cLine:=by have:=r.un;omega
theorem wC.units0 {k:Nat}{A:Around}(r:wC k A):A.units < cLine:=by have:=r.un;omega
def tNil:TA:=λ_ H Q=>Q [] H
def zms (ta:TE)(tr:TA):TA:=fun σ H Q=>ta σ H λx H1=>tr σ H1 λxs H2=>Q (x::xs) H2
section
variable {X:Cx}{e:Expr}{es:List Expr}{te:TE}{t:TA}{pos:Pos}
theorem za6:PA X [] tNil:=λ_ _ _ _ H Q I h=>u2O ⟨[],H,I,.nil,h⟩
theorem Zz (ha:PE X e te)(hr:PA X es t)(hs:starEach (e::es) X.env=(false,eval e X.env)::starEach es X.env:=by rfl):PA X (e::es) (zms te t):=by
 intro pos pins s σ H Q I h
 rw[hs]
 show wpAny _ _ (spliced ((false,eval e X.env)::backTo pos (starEach es X.env))) _ _ s
 refine u2A (thn (ha pins s σ H _ I h) λu s1 hh9=>?_)
 obtain⟨x,H1,I1,r1,q1⟩:=hh9
 exact thn (hr pos pins s1 σ H1 _ I1 q1) λus s2 ⟨xs,H2,I2,r2,q2⟩=>⟨x::xs,H2,I2,.cons r1 r2,q2⟩
def tTup (t:TA):TE:=fun σ H Q=>t σ H λxs H1=>xs.length<=sizeLine/\∀ p,H1 p=none->Q (.ref p) (upd H1 p (.tup xs))
def tLst (t:TA):TE:=fun σ H Q=>t σ H λxs H1=>xs.length<=sizeLine/\∀ p,H1 p=none->Q (.ref p) (upd H1 p (.lst xs))
theorem zlx {x1}(h:PA X es t):PE X (.Tuple es x1 pos) (tTup t):=by
 intro pins s σ H Q I hq
 refine wpAny_Tuple_spliced (thn (h pos pins s σ H _ I hq) λus s1 ⟨xs,H1,I1,r,z,q⟩=>⟨by rw[<-r.length];exact z,?_⟩)
 have hf:H1 s1.heap.objs.size=none:=I1.hok.fresh (q5 _)
 refine⟨.ref s1.heap.objs.size,upd H1 s1.heap.objs.size (.tup xs),I1.laid (t':=s1.toks) (λb u e=>u4 _ e) (q5 _) ?_,rfl,q _ hf⟩
 exact⟨z,us,r,⟨_,r8 _ rfl,rfl,_,rfl⟩⟩
theorem zjX (h:PA X es t):PE X (.List es pos) (tLst t):=by
 intro pins s σ H Q I hq
 refine wpAny_List_spliced (thn (h pos pins s σ H _ I hq) λus s1 ⟨xs,H1,I1,r,z,q⟩=>⟨by rw[<-r.length];exact z,?_⟩)
 have hf:H1 s1.heap.objs.size=none:=I1.hok.fresh (q5 _)
 refine⟨.ref s1.heap.objs.size,upd H1 s1.heap.objs.size (.lst xs),I1.laid (t':=s1.toks) (λb u e=>u4 _ e) (q5 _) ?_,rfl,q _ hf⟩
 exact⟨z,us,0,r,r8 _ rfl⟩
end
abbrev Sp:=List V->Hp->VK->XK->Prop
abbrev CXT:=List Env->Hp->Shared->XK->Value->Shared->Prop
structure zlI (P:Program) (w:World) (K:W.Frag) (mg:Str->Option Value) (base:Heap) (A:Around) (outer:List Env) (s:Shared) (H:Hp):Prop where
 frames:A.frames=some outer
 mod:Mod K mg base
 bs:Bs base s.heap H
 bsz:base.objs.size<=s.heap.objs.size
 funs:s.heap.FunFrames base outer
 frf:∀ b∈frs outer,H b=none
 hok:HOk P w H s.heap
 bare:AllBare s.gens
def CE (outer:List Env)(P:Program)(w:World)(H:Hp)(s:Shared)(Q:VK)(u:Value)(s':Shared):Prop :=
 ∃ v H',s'.os=s.os/\AllBare s'.gens/\Un (frs outer) [] H H' s.heap s'.heap/\HOk P w H' s'.heap/\xk v u/\Q v H'
def CR (CX:CXT)(outer:List Env)(P:Program)(w:World)(H:Hp)(s:Shared)(Q:VK)(E:XK)(r:Result)(s':Shared):Prop :=
 match r with
 | .ok (.ret u)=>CE outer P w H s Q u s'
 | .ok _=>False
 | .error e=>CX outer H s E e s'
structure yW (P:Program) (w:World) (K:W.Frag) (mg:Str->Option Value) (base:Heap) (CX:CXT) (k:Nat) (f:Addr) (fd:FuncData) (ps:List Str) (sp:Sp):Prop where
 len:∀ vs H Q E,sp vs H Q E->vs.length=ps.length
 run:∀ (A:Around) (outer:List Env) (s:Shared) (H:Hp) (args:Args) (us:List Value) (vs:List V) (Q:VK) (E:XK),wC k A->zlI P w K mg base A outer s H->BindsTo s fd args (ps.zip us)->yf vs us->sp vs H Q E ->
  codeAny (model P w) A (.call (.ref f) args) (CR CX outer P w H s Q E) s
theorem yW.mono {P:Program}{w:World}{K:W.Frag}{mg:Str->Option Value}{base:Heap}{CX:CXT}{j k:Nat}{f:Addr}{fd:FuncData}{ps:List Str}{sp:Sp}(F:yW P w K mg base CX j f fd ps sp)(h:j<=k) :
 yW P w K mg base CX k f fd ps sp:=⟨F.len,λA outer s H args us vs Q E hr=>F.run A outer s H args us vs Q E (hr.mono h)⟩
theorem yW.imp {P:Program}{w:World}{K:W.Frag}{mg:Str->Option Value}{base:Heap}{CX:CXT}{k:Nat}{f:Addr}{fd:FuncData}{ps:List Str}{sp sp':Sp}(F:yW P w K mg base CX k f fd ps sp)
 (h:∀ vs H Q E,sp' vs H Q E->sp vs H Q E):yW P w K mg base CX k f fd ps sp' :=
 ⟨λvs H Q E q=>F.len vs H Q E (h _ _ _ _ q),λA outer s H args us vs Q E hr he hb hv hs=>F.run A outer s H args us vs Q E hr he hb hv (h _ _ _ _ hs)⟩
section
variable {X:Cx}{pins:List (Addr × Obj)}{σ:St}{H:Hp}{s s':Shared}
theorem Inv.env0 (I:Inv X pins σ H s):zlI X.prog X.w X.K X.mg X.base X.A X.stack s H :=
 ⟨I.ok.frames,I.ok.mod,I.bs,u0B I.ok.bsz I.sz,I.stack,I.stkFree,I.hok,I.bare⟩
theorem Inv.after {Q:VK}{u:Value}(I:Inv X pins σ H s)(h:CE X.stack X.prog X.w H s Q u s'):EP X pins σ Q u s':=by
 obtain⟨v,H',os,bare,un,hok,r,q⟩:=h
 obtain⟨hh,g,d,t,os'⟩:=s'
 obtain rfl:os'=s.os:=os
 exact⟨v,H',I.call (h':=hh) (g':=g) (d':=d) (t':=t) (ch:=[]) un hok bare (λb z=>absurd z (by simp)),r,q⟩
end
def zlX (sp:Sp)(dvs:List V)(E:XK)(t:TA):TE:=fun σ H Q=>t σ H λvs H1=>sp (vs++dvs) H1 Q E
def zbk (K:W.Frag)(fd:FuncData)(ps:List Str)(ds:List Value):Prop :=
 ∀ (s:Shared) (us:List Value),K.In s.heap->(us++ds).length=ps.length->BindsTo s fd ⟨us,[]⟩ (ps.zip (us++ds))
theorem zbk.all {K:W.Frag}{fd:FuncData}{ps:List Str}(h:∀ us:List Value,us.length=ps.length->bindArgs fd ⟨us,[]⟩=pure (ps.zip us)):zbk K fd ps []:=λs us _ hl=>by
 rw[u0L]at hl ⊢
 exact .of_eq (h us hl)
def zeK (CX:CXT)(X:Cx)(E:XK):Prop:=∀ (pins:List (Addr × Obj)) (σ:St) (H:Hp) (s:Shared) (e:Value) (s':Shared),Inv X pins σ H s->CX X.stack H s E e s'->X.xe e s'
section
variable {X:Cx}{CX:CXT}{k:Nat}{f C:Addr}{fd:FuncData}{ps:List Str}{sp:Sp}{dvs:List V}{ds:List Value}{E:XK}{x m:Str}{p pos apos:Pos}{e o:Expr}{es:List Expr}{ta:TE}{t:TA}
theorem zky {pins:List (Addr × Obj)}{σ:St}{H:Hp}{s:Shared}{Q:VK}{us:List Value}{vs:List V}(F:yW X.prog X.w X.K X.mg X.base CX k f fd ps sp)(hr:wC k X.A)(hb:zbk X.K fd ps ds)(hd:yf dvs ds)(hx:zeK CX X E)
 (I:Inv X pins σ H s) (r:yf vs us) (h:sp (vs++dvs) H Q E):wpAny (model X.prog X.w) X.A (call (.ref f) us) (EP X pins σ Q) X.xe s:=by
 have r2:yf (vs++dvs) (us++ds):=r.append hd
 have hl:(us++ds).length=ps.length:=by rw[<-r2.length];exact F.len _ _ _ _ h
 refine wpAny_call (u3E (F.run X.A X.stack s H ⟨us,[]⟩ (us++ds) (vs++dvs) Q E hr I.env0 (hb s us I.kIn hl) r2 h) λr s' hq=>?_)
 cases r with
 | error e=>exact hx pins σ H s e s' I hq
 | ok fl =>
  cases fl with
  | ret u=>exact I.after hq
  | next=>exact False.elim hq
  | brk=>exact False.elim hq
  | cont=>exact False.elim hq
theorem zgp (F:yW X.prog X.w X.K X.mg X.base CX k f fd ps sp)(hr:wC k X.A)(hg:Gl X x)(hm:X.mg x=some (.ref f))(hk:W.keepIn X.K (.ref f)=true)(hb:zbk X.K fd ps ds)(hd:yf dvs ds)(hx:zeK CX X E)
 (ha:PA X (e::es) t) (hdb:(x == ("__debug__":Str))=false:=by decide) (he:starEach (e::es) X.env=(false,eval e X.env)::starEach es X.env:=by rfl) (hpl:(backTo pos (starEach es X.env)).any (·.1)=false:=by rfl) :
 PE X (.Call (.Name x p) (e::es) [] pos) (zlX sp dvs E t):=by
 intro pins s σ H Q I h
 refine u1I (zfo I hg hm ?_ hdb)
 refine W.callWith_K (h₀:=X.base) I.ok.mod.kin hk (thn (ha pos pins s σ H _ I h) λus s1 ⟨vs,H1,I1,r,q⟩=>⟨I1.kIn,?_⟩) he hpl
 exact zky F hr hb hd hx I1 r q
end
structure zw (N P:List Str) (sc:Scope):Prop where
 kind:sc.kind=.function
 co:sc.isCoroutine=false
 gen:sc.isGenerator=false
 nd:N.Nodup
 pre:N.take P.length=P
 par:∀ x∈P,sc.names.lookup x=some .local\/sc.names.lookup x=some .cell
 nofree:∀ y∈sc.names,y.2≠.free
theorem zbf {kindOf:Str->Option NameKind}{x:Str}:∀ {binds:List (Str × Value)} {m:Str->Option Value},(∀ v,(x,v)∉binds)->bindL kindOf binds m x=m x
 | [],_,_=>rfl
 | (n,v)::r,m,h=>by
  unfold bindL
  rw[zbf λw hw=>h w (u0b _ hw)]
  split
  .have:x≠n:=by rintro rfl;exact h v u0F
   simp[this]
  .rfl
theorem zbL {kindOf:Str->Option NameKind}{x:Str}:∀ {binds:List (Str × Value)} {m:Str->Option Value},(∀ v,(x,v)∉binds)->bindC kindOf binds m x=m x
 | [],_,_=>rfl
 | (n,v)::r,m,h=>by
  unfold bindC
  rw[zbL λw hw=>h w (u0b _ hw)]
  split
  .rfl
  .have:x≠n:=by rintro rfl;exact h v u0F
   simp[this]
theorem zbR {kindOf:Str->Option NameKind}{x:Str}{v:Value}:∀ {P:List Str} {vs:List Value} {i:Nat} {m:Str->Option Value},P.Nodup->P[i]?=some x->vs[i]?=some v->kindOf x=some .local ->
 bindL kindOf (P.zip vs) m x=some v
 | [],_,_,_,_,h,_,_=>by simp at h
 | _::_,[],_,_,_,_,h,_=>by simp at h
 | p::P,w::vs,0,m,nd,h1,h2,hk=>by
  simp at h1 h2;subst h1;subst h2
  show bindL kindOf ((p,w)::P.zip vs) m p=_
  unfold bindL
  rw[zbf λv hv=>(u0d.mp nd).1 (u3p hv).1,j3 hk]
  simp
 | p::P,w::vs,i+1,m,nd,h1,h2,hk=>by
  show bindL kindOf ((p,w)::P.zip vs) m x=_
  unfold bindL
  exact zbR (i:=i) (u0d.mp nd).2 (by simpa using h1) (by simpa using h2) hk
theorem zbB {kindOf:Str->Option NameKind}{x:Str}{v:Value}:∀ {P:List Str} {vs:List Value} {i:Nat} {m:Str->Option Value},P.Nodup->P[i]?=some x->vs[i]?=some v->kindOf x≠some .local ->
 bindC kindOf (P.zip vs) m x=some v
 | [],_,_,_,_,h,_,_=>by simp at h
 | _::_,[],_,_,_,_,h,_=>by simp at h
 | p::P,w::vs,0,m,nd,h1,h2,hk=>by
  simp at h1 h2;subst h1;subst h2
  show bindC kindOf ((p,w)::P.zip vs) m p=_
  unfold bindC
  rw[zbL λv hv=>(u0d.mp nd).1 (u3p hv).1,j8 hk]
  simp
 | p::P,w::vs,i+1,m,nd,h1,h2,hk=>by
  show bindC kindOf ((p,w)::P.zip vs) m x=_
  unfold bindC
  exact zbB (i:=i) (u0d.mp nd).2 (by simpa using h1) (by simpa using h2) hk
def start (N:List Str)(vs:List V):St:=vs.map some++List.replicate (N.length - vs.length) none
def zec (CX:CXT)(P:Program)(w:World)(K:W.Frag)(mg:Str->Option Value)(base:Heap)(N:List Str)(qual:Str)(scope:Scope)(f:Addr)(cd:Value)(A:Around)(outer:List Env)(s:Shared)(H:Hp)(E:XK):Cx where
 prog:=P
 w:=w
 K:=K
 mg:=mg
 base:=base
 A:=A.deeper (envOfC qual scope s.heap.objs.size f cd)
 N:=N
 s₀:=s
 H₀:=H
 env:=envOfC qual scope s.heap.objs.size f cd
 outer:=outer
 stack:=envOfC qual scope s.heap.objs.size f cd::outer
 ex:=[]
 calm:=true
 fn:=λ_=>true
 pn:=[]
 xe:=λe s'=>wpAny (model P w) (A.deeper (envOfC qual scope s.heap.objs.size f cd)) (leaving (envOfC qual scope s.heap.objs.size f cd) e) (λ_ s''=>CX outer H s E e s'') (λe' s''=>CX outer H s E e' s'') s'
theorem zc6 {sc:Scope}{n:Nat}{x:Str}(h:sc.names.lookup x=some .cell):∃ c,(cellsFrom n sc.names []).lookup x=some c:=by
 have q:=W.cellsFrom_some sc.names n [] (.inl h)
 exact Option.isSome_iff_exists.mp q
theorem zeA {CX:CXT}{P:Program}{w:World}{K:W.Frag}{mg:Str->Option Value}{base:Heap}{N ps:List Str}{qual:Str}{scope:Scope}{f:Addr}{cd:Value}{A:Around}{outer:List Env}{s s1:Shared}{H:Hp}{E:XK}{us:List Value}{vs:List V}
 (S:zw N ps scope) (hd:A.handled=none) (e0:zlI P w K mg base A outer s H) (hl:vs.length=ps.length) (r:yf vs us)
 (x:InCallC s s.heap.objs.size (bindL (envOfC qual scope s.heap.objs.size f cd).kindOf (ps.zip us) λ_=>none) (cellsFrom (s.heap.objs.size+1) scope.names []) (bindC (envOfC qual scope s.heap.objs.size f cd).kindOf (ps.zip us) λ_=>none) s1) :
 Inv (zec CX P w K mg base N qual scope f cd A outer s H E) [] (start N vs) H s1:=by
 have hpl:ps.length<=N.length:=by have:=u1o List.length S.pre;rw[o9]at this;omega
 obtain⟨h1,tk,rfl,hk⟩:=x.done
 have noA:∀ b:Addr,b∉(zec CX P w K mg base N qual scope f cd A outer s H E).ex:=λb z=>absurd (show b∈([]:List Addr)from z) (by simp)
 refine⟨⟨e0.mod,S.kind,rfl,rfl,q5 _,λy z c h1 h2=>?_,λy hy=>?_,λy c _ h=>?_,λ_=>hd,Around.frames_deeper e0.frames,.inr ⟨rfl,rfl⟩,λb z=>absurd z (noA b),e0.bs,e0.bsz,λb _ _=>noA b,λb z=>absurd z (noA b),e0.funs,e0.frf⟩,
  rfl,e0.bare,Un.kept hk,⟨_,x.toInCall.ns,λi y v h1 h2 h3=>?_⟩,λy c h=>⟨_,x.cell y c h⟩,e0.hok.fresh (q5 _),λy c h=>?_,λp hp=>absurd (show p∈([]:List (Addr × Obj))from hp) (by simp),e0.hok.kept hk,?_⟩
 .exact name_of_addr x.apart (u0z h1) (u0z h2)
 .have hy:scope.names.lookup y=some .cell\/scope.names.lookup y=some .free:=hy
  rcases hy with hy | hy
  .exact zc6 hy
  .exact absurd rfl (S.nofree _ (u0z hy))
 .exact u2a (x.above y c (u0z h))
 .have hi:i < vs.length:=by
   unfold start at h2
   by_cases hi:i < vs.length
   .exact hi
   .rw[u0u (by simpa using hi)]at h2
    rw[u1e]at h2
    split at h2 <;> cases h2
  have ha:vs[i]?=some v:=by
   unfold start at h2
   rw[u02 (by simpa using hi),j7]at h2
   cases e:vs[i]? with
   | none=>rw[e]at h2;cases h2
   | some a=>rw[e]at h2;cases h2;rfl
  obtain⟨u,hu,rv⟩:=r.get ha
  have hp:ps[i]?=some y:=by
   rw[<-S.pre,u0r (by omega)];exact h1
  have ndP:ps.Nodup:=by rw[<-S.pre];exact S.nd.sublist (u1N _ _)
  refine⟨u,rv,?_⟩
  rcases S.par y (j4 hp)with k | k
  .exact .inl ⟨k,zbR ndP hp hu k⟩
  .obtain⟨c,e⟩:=zc6 (n:=s.heap.objs.size+1) k
   refine .inr ⟨.inl k,c,e,?_⟩
   have q:=x.cell y c e
   rw[zbB ndP hp hu (by show scope.names.lookup y≠_;rw[k];decide)]at q
   exact q
 .exact e0.hok.fresh (u2a (x.above y c (u0z h)))
 .unfold start
  show _=N.length
  rw[j6,u5,u0S]
  omega
theorem zld {CX:CXT}{P:Program}{w:World}{K:W.Frag}{mg:Str->Option Value}{base:Heap}{k:Nat}{f:Addr}{name qual:Str}{params:Arguments}{body:List Stmt}{scope:Scope}{dV kV doc pm cdv ct oc:Value}{an od:Option Addr}
 {osl:Array (Option Value)} {N ps:List Str} {sp:Sp} (lk:K.lookup f=some ⟨oc,od,.func (W.fnOf name qual params body scope dV kV doc pm an cdv ct),osl⟩) (hcd:W.codeIn K cdv qual=true) (S:zw N ps scope)
 (len:∀ vs H Q E,sp vs H Q E->vs.length=ps.length)
 (hbody:∀ (A:Around) (outer:List Env) (s:Shared) (H:Hp) (vs:List V) (Q:VK) (E:XK),wC k (A.deeper (envOfC qual scope s.heap.objs.size f cdv))->sp vs H Q E ->
  ∃ t,PSs (zec CX P w K mg base N qual scope f cdv A outer s H E) body t/\t { nx:=λ_ H'=>Q .non H',rt:=Q } (start N vs) H) :
 yW P w K mg base CX (k+1) f (W.fnOf name qual params body scope dV kV doc pm an cdv ct) ps sp:=by
 refine⟨len,λA outer s H args us vs Q E hr e0 hb r hsp=>?_⟩
 have hl:=len _ _ _ _ hsp
 have KX:K.In s.heap:=e0.mod.kin.keeps λb o e=>(e0.bs.1 b o e).1
 have lim:s.heap.NoLimit:=e0.mod.nolimit.keeps λb o e=>(e0.bs.1 b o e).1
 have hkind:∀ y∈ps.zip us,scope.names.lookup y.1=some .local\/(scope.names.lookup y.1=some .cell/\((cellsFrom (s.heap.objs.size+1) scope.names []).lookup y.1).isSome=true):=λ⟨n,v⟩ hy=>by
  rcases S.par n (u3p hy).1 with q | q
  .exact .inl q
  .exact .inr ⟨q,W.cellsFrom_some _ _ _ (.inl q)⟩
 refine codeAny_call_function hr.depth (KX _ _ lk) rfl S.co S.gen rfl (W.codeRec_of KX hcd) (hb _ _ _ _ ?_)
 refine wpAny_newFunctionEnv_cells S.kind hkind λenv he s1 x=>?_
 subst he
 refine⟨lim.keeps x.toInCall.keep,codeAny_func ?_⟩
 obtain⟨t,ht,hq⟩:=hbody A outer s H vs Q E (hr.deeper _) hsp
 have I:Inv (zec CX P w K mg base N qual scope f cdv A outer s H E) [] (start N vs) H s1:=zeA S hr.hd e0 hl r x
 refine u1b (ht [] s1 (start N vs) H _ I hq) (λfl s' hs=>?_) λe s' hs=>hs
 have fin:∀ {σ':St} {H':Hp} {v:V} {u:Value},Inv (zec CX P w K mg base N qual scope f cdv A outer s H E) [] σ' H' s'->xk v u->Q v H'->CE outer P w H s Q u s' :=
  λ{σ' H' v u} J rv q=>⟨v,H',J.os,J.bare,J.base,J.hok,rv,q⟩
 cases fl with
 | ret u =>
  obtain⟨v,σ',H',J,rv,q⟩:=hs
  exact fin J rv q
 | next =>
  obtain⟨σ',H',J,q⟩:=hs
  exact fin (v:=V.non) (u:=Value.none) J rfl q
 | brk =>
  obtain⟨_,_,_,q⟩:=hs
  exact False.elim q
 | cont =>
  obtain⟨_,_,_,q⟩:=hs
  exact False.elim q
section
variable {X:Cx}{x:Str}{p pos:Pos}{e:Expr}{es:List Expr}{t:TA}{id T:String}{r:List V->Hp->VK->Prop}
def tCB (r:List V->Hp->VK->Prop)(t:TA):TE:=fun σ H Q=>t σ H λvs H1=>r vs H1 Q
theorem X9 (hc:Xp X (.builtin id) r) (hg:Gl X x) (hm:X.mg x=none) (hv:bootBuiltins x=some (.builtin id)) (ha:PA X (e::es) t) (hn:x≠"__name__":=by decide) (hdb:(x == ("__debug__":Str))=false:=by decide)
 (he:starEach (e::es) X.env=(false,eval e X.env)::starEach es X.env:=by rfl) (hpl:(backTo pos (starEach es X.env)).any (·.1)=false:=by rfl):PE X (.Call (.Name x p) (e::es) [] pos) (tCB r t):=by
 intro pins s σ H Q I h
 refine u1I (vt I hg hm hv ?_ hn hdb)
 exact PyProof.Rows.callWith_builtin1 (thn (ha pos pins s σ H _ I h) λus s1 ⟨vs,H1,I1,r1,q1⟩=>hc pins s1 σ H1 vs us Q I1 r1 q1) he hpl
theorem za2 (hc:Xp X (.type T) r) (hg:Gl X x) (hm:X.mg x=none) (hv:bootBuiltins x=some (.type T)) (ha:PA X (e::es) t) (hn:x≠"__name__":=by decide) (hdb:(x == ("__debug__":Str))=false:=by decide)
 (he:starEach (e::es) X.env=(false,eval e X.env)::starEach es X.env:=by rfl) (hpl:(backTo pos (starEach es X.env)).any (·.1)=false:=by rfl):PE X (.Call (.Name x p) (e::es) [] pos) (tCB r t):=by
 intro pins s σ H Q I h
 refine u1I (vt I hg hm hv ?_ hn hdb)
 exact u0q (thn (ha pos pins s σ H _ I h) λus s1 ⟨vs,H1,I1,r1,q1⟩=>hc pins s1 σ H1 vs us Q I1 r1 q1) he hpl
end
end L2
namespace HT
open PySem PyProof.Rows
def lexLt:List Int->List Int->Bool
 | [],[]=>false
 | [],_::_=>true
 | _::_,[]=>false
 | x::xs,y::ys=>if x=y then lexLt xs ys else decide (x < y)
theorem lexLt_cons (x y:Int)(xs ys:List Int):lexLt (x::xs) (y::ys)=if x=y then lexLt xs ys else decide (x < y):=rfl
theorem VO:lexLt [] []=false:=rfl
theorem W8 (y:Int)(ys:List Int):lexLt [] (y::ys)=true:=rfl
theorem Va (x:Int)(xs:List Int):lexLt (x::xs) []=false:=rfl
theorem zde (A:Around)(s:Shared)(a:Int)(t:Tok)(c:Int)(u:Tok):∃ e,SeqAt.EqAt A s (.int a t) (.int c u) e/\(e=true↔a=c) :=
 ⟨(a == c),u2F a t c u,by simp⟩
theorem zhw (A:Around)(s:Shared)(a:Int)(t:Tok)(c:Int)(u:Tok)(prog:Program)(w:World)(E:Value->Shared->Prop)(Q:Value->Shared->Prop)(h:Q (.bool (decide (a < c))) s) :
 wpAny (model prog w) A (richCompare .Lt (.int a t) (.int c u)) Q E s :=
 (PyProof.Rows.lt_int h:wpAny (model prog w) A (compareOp .Lt (.int a t) (.int c u)) Q E s)
section
open PySem.SeqAt
open PySem.AutoSeq1 (wpAny_loadPart')
open PySem.MeetsSeq PySem.MeetsSeq2 PySem.MeetsSeq3
theorem zad (l b:Addr)(items items2:Array Value)(n n2:Nat)(dd dd2:Option Addr)(sl sl2:Array (Option Value))(ns ms:List Int)(hi:IntsAre items.toList ns)(hj:IntsAre items2.toList ms) :
 Meets (Builtin.«tuple.__lt__» ⟨[.ref l,.ref b],[]⟩)
  (λ_ R s=>s.heap.get? l=some { cls:=.type "tuple",dict:=dd,data:=.seq items n,slots:=sl }/\s.heap.get? b=some { cls:=.type "tuple",dict:=dd2,data:=.seq items2 n2,slots:=sl2 } /\
   R (.ok (.ret (.bool (lexLt ns ms)))) s) :=
 .of_wp λprog w A R s h=>by
  obtain⟨hp,g,d,tk,os⟩:=s;obtain⟨hl,hb,h⟩:=h
  have f2:=AutoSeq1.sub_tuple_tuple
  have z1:items.size=ns.length:=by rw[<-hi.length];simp
  have z2:items2.size=ms.length:=by rw[<-hj.length];simp
  wp_walk using u04 hl,u04 hb,wpAny_forIn_list _ (λrest b s'=>b.1=none/\s'=⟨hp,g,d,tk,os⟩/\∃ (vs ws:List Value) (ns' ms':List Int),rest=vs.zip ws /\
   IntsAre vs ns'/\IntsAre ws ms'/\ns'.length+items2.size=ms'.length+items.size/\R (.ok (.ret (.bool (lexLt ns' ms')))) ⟨hp,g,d,tk,os⟩) _
  case turn =>
   rintro⟨y,x⟩ rest b s' ⟨hb',rfl,vs,ws,ns',ms',hz,hvi,hwi,hlen,hR⟩
   cases hvi with
   | nil=>rw[List.zip_nil_left]at hz;cases hz
   | cons a t hvi' =>
    cases hwi with
    | nil=>rw[u3C]at hz;cases hz
    | cons c u hwi' =>
     rw[u1F]at hz
     injection hz with hyx hrest
     injection hyx with hy hx
     subst hy hx
     rw[lexLt_cons]at hR
     simp only[p9]at hlen
     obtain⟨e,he,hiff⟩:=zde A.in1 ⟨hp,g,d,tk,os⟩ a t c u
     refine u0 (he prog w _ _ ?_)
     cases e with
     | true =>
      rw[j3 (hiff.mp rfl)]at hR
      wp_walk
      exact⟨rfl,rfl,_,_,_,_,hrest,hvi',hwi',by omega,hR⟩
     | false =>
      rw[j8 (λq=>absurd (hiff.mpr q) u7)]at hR
      have hri:=zhw A.in1 ⟨hp,g,d,tk,os⟩ a t c u prog w
      wp_walk using hri
      exact⟨_,rfl,by simpa using hR⟩
  case fin =>
   rintro⟨b1,b2⟩ s' ⟨hb',rfl,vs,ws,ns',ms',hz,hvi,hwi,hlen,hR⟩
   simp only at hb'
   subst hb'
   have hv:lexLt ns' ms'=decide (items.size < items2.size):=by
    cases hvi with
    | nil =>
     cases hwi with
     | nil =>
      simp only[u17]at hlen
      rw[VO]
      exact(h9 (by omega)).symm
     | cons c u hw =>
      simp only[u17,p9]at hlen
      rw[W8]
      exact(i5 (by omega)).symm
    | cons a t hv =>
     cases hwi with
     | nil =>
      simp only[u17,p9]at hlen
      rw[Va]
      exact(h9 (by omega)).symm
     | cons c u hw =>
      rw[u1F]at hz
      cases hz
   rw[hv]at hR
   wp_walk
   exact⟨_,rfl,by simpa [Builtin.Tuple.tupleCompareSizes]using hR⟩
  case h =>
   exact⟨rfl,rfl,items.toList,items2.toList,ns,ms,rfl,hi,hj,by omega,h⟩
end
section
variable {prog:Program}{w:World}{A:Around}{E:Value->Shared->Prop}{s:Shared}
theorem lt_tupInts {l b:Addr}{items items2:Array Value}{ns ms:List Int}{Q:Value->Shared->Prop}(hl:IsTup s.heap l items)(hb:IsTup s.heap b items2)(hi:IntsAre items.toList ns)(hj:IntsAre items2.toList ms)
 (hu:A.units < cLine) (h:Q (.bool (lexLt ns ms)) s):wpAny (model prog w) A (compareOp .Lt (.ref l) (.ref b)) Q E s:=by
 obtain⟨⟨cls,dd,data,sl⟩,ho,hc,n,hd⟩:=id hl
 obtain⟨⟨cls2,dd2,data2,sl2⟩,ho2,hc2,n2,hd2⟩:=id hb
 simp only at hc hd hc2 hd2
 subst hc hd hc2 hd2
 exact richCompare_meets_room (op:=.Lt) ⟨_,ho,rfl⟩ ⟨_,ho2,rfl⟩ PySem.F.slot_tuple_lt PySem.F.entry_tuple_lt (PySem.F.args_tuple_lt_2 _ _) (zad l b items items2 n n2 dd dd2 sl sl2 ns ms hi hj)
  ⟨ho,ho2,show Value.bool (lexLt ns ms)≠Value.notImplemented/\Q (.bool (lexLt ns ms)) s from⟨(λx=>nomatch x),h⟩⟩ hu
theorem cat_tup {t b:Addr}{vs ws:List Value}{Q:Value->Shared->Prop}(ht:IsTup s.heap t vs.toArray)(hb:IsTup s.heap b ws.toArray)(hv:vs≠[])
 (h1:ws=[]->Q (.ref t) s) (h2:ws≠[]->Q (.ref s.heap.objs.size) { s with heap:=s.heap.push { cls:=.type "tuple",data:=.seq (vs++ws).toArray } })
 (hsz:vs.length+ws.length<=sizeLine):wpAny (model prog w) A (binaryOp .Add (.ref t) (.ref b)) Q E s:=by
 obtain⟨⟨cls,dd,data,sl⟩,ho,hc,n,hd⟩:=id ht
 obtain⟨⟨cls2,dd2,data2,sl2⟩,ho2,hc2,n2,hd2⟩:=id hb
 simp only at hc hd hc2 hd2
 subst hc hd hc2 hd2
 have e:vs.toArray++ws.toArray=(vs++ws).toArray:=by simp
 by_cases hw:ws=[]
 .exact concat_meets ⟨_,ho,rfl⟩ ⟨_,ho2,rfl⟩ noFill_tuple_add seq_tuple_add u2M u2E (u2x _ _)
   (tuple_addW1 t b vs.toArray ws.toArray n n2 dd dd2 sl sl2 (by simpa using hv) (by simp[hw])) ⟨ho,ho2,h1 hw⟩
 .refine concat_meets ⟨_,ho,rfl⟩ ⟨_,ho2,rfl⟩ noFill_tuple_add seq_tuple_add u2M u2E (u2x _ _)
   (tuple_addW2 t b vs.toArray ws.toArray n n2 dd dd2 sl sl2 (by simpa using hv) (by simpa using hw) (by rw[t9,t9];exact hsz)) ⟨ho,ho2,?_⟩
  rw[e]
  exact h2 hw
def sIx (n d:Nat):Option Int->Nat
 | none=>d
 | some v=>if v < 0 then (v+(n:Int)).toNat else min v.toNat n
theorem sIx_none (n d:Nat):sIx n d none=d:=rfl
theorem sIx_nat (n d k:Nat):sIx n d (some (k:Int))=min k n:=by
 show(if (k:Int) < 0 then ((k:Int)+(n:Int)).toNat else min (k:Int).toNat n)=min k n
 rw[j8 (by omega),u2c]
theorem zj9 (n d:Nat)(hd:d<=n)(o:Option Int):sIx n d o<=n:=by
 cases o with
 | none=>exact hd
 | some v =>
  show(if v < 0 then (v+(n:Int)).toNat else min v.toNat n)<=n
  by_cases hv:v < 0
  .rw[j3 hv];omega
  .rw[j8 hv];exact u2k _ _
theorem zfj (v:Int)(n d:Nat):(if v < 0 then max (v+(n:Int)) 0 else min v (n:Int))=((sIx n d (some v):Nat):Int):=by
 show(if v < 0 then max (v+(n:Int)) 0 else min v (n:Int))=(((if v < 0 then (v+(n:Int)).toNat else min v.toNat n):Nat):Int)
 by_cases hv:v < 0
 .simp only[j3 hv];omega
 .simp only[j8 hv];omega
theorem zdO (lo hi:Option Int)(n:Nat):Builtin.Slice.sliceAdjust lo hi 1 (n:Int)=(((sIx n 0 lo:Nat):Int),((sIx n n hi:Nat):Int)):=by
 have h1:¬ ((1:Int) < 0):=by omega
 unfold Builtin.Slice.sliceAdjust
 simp only[h1,u4m]
 refine u2D ?_ ?_
 .cases lo with
  | none=>rfl
  | some v=>exact zfj v n 0
 .cases hi with
  | none=>rfl
  | some v=>exact zfj v n n
theorem zd1 (i j:Nat):Builtin.Slice.slicePlaces (i:Int) (j:Int) 1=j - i:=by
 unfold Builtin.Slice.slicePlaces
 have h1:(1:Int) > 0:=by omega
 simp only[h1,u2H,Int.ediv_one]
 split <;> omega
theorem Vv {v:Value}{o:Option Int}{Q:Option Int->Shared->Prop}(p:IsPart v o)(h:Q o s):wpAny (model prog w) A (Builtin.Slice.slicePartIndex v) Q E s:=by
 cases p with
 | none=>exact slicePart_none h
 | int i t=>exact slicePart_int h
theorem v4 {sl:Addr}{vl vu:Value}{lo hi:Option Int}{n:Nat}{Q:Int × Int × Nat->Shared->Prop}(hs:s.heap.IsSliceOf sl vl vu .none)(pl:IsPart vl lo)(pu:IsPart vu hi)
 (h:Q (((sIx n 0 lo:Nat):Int),1,sIx n n hi - sIx n 0 lo) s):wpAny (model prog w) A (Builtin.Slice.sliceApplied (.ref sl) (pure (n:Int))) Q E s:=by
 obtain⟨os,hos,hcs,hds⟩:=id hs
 unfold Builtin.Slice.sliceApplied Builtin.Slice.sliceFields
 refine u0 (u0 (u0K hos hds (x:=vl) rfl (u0 (u0K hos hds (x:=vu) rfl (u0 (u0K hos hds (x:=.none) rfl (u9 ?_)))))))
 refine u0 (slicePart_none ?_)
 show wpAny _ _ (if ((1:Int) == 0)=true then _ else _) _ _ s
 rw[j8 (by decide)]
 refine u0 (Vv pl (u0 (Vv pu (u0 (u9 ?_)))))
 show wpAny _ _ (match Builtin.Slice.sliceAdjust lo hi 1 (n:Int)with | (lo,hi)=>pure (lo,(1:Int),Builtin.Slice.slicePlaces lo hi 1)) _ _ s
 rw[zdO lo hi n]
 show wpAny _ _ (pure (((sIx n 0 lo:Nat):Int),(1:Int),Builtin.Slice.slicePlaces ((sIx n 0 lo:Nat):Int) ((sIx n n hi:Nat):Int) 1)) _ _ s
 rw[zd1]
 exact u9 h
theorem zhB (xs:Array Value)(i k:Nat):((List.range k).filterMap λ(m:Nat)=>xs[((i:Int)+(m:Int)*1).toNat]?).toArray=((xs.toList.drop i).take k).toArray:=by
 have e:(λ(m:Nat)=>xs[((i:Int)+(m:Int)*1).toNat]?)=λm=>xs[i+m]?:=by
  funext m
  have:((i:Int)+(m:Int)*1).toNat=i+m:=by omega
  rw[this]
 rw[e]
 have:=pick_run xs i k
 rw[List.filterMap_map]at this
 have e2:((λx=>xs[x]?) ∘ λx=>i+x)=λm=>xs[i+m]?:=rfl
 rw[e2]at this
 rw[this]
theorem getItem_tuple_cut {t sl:Addr}{items:Array Value}{vl vu:Value}{lo hi:Option Int}{Q:Value->Shared->Prop}(ht:IsTup s.heap t items)(hs:s.heap.IsSliceOf sl vl vu .none)(pl:IsPart vl lo)(pu:IsPart vu hi)
 (hw:¬ (sIx items.size 0 lo=0/\sIx items.size items.size hi=items.size))
 (h:Q (.ref s.heap.objs.size) { s with heap:=s.heap.push { cls:=.type "tuple",data:=.seq ((items.toList.drop (sIx items.size 0 lo)).take (sIx items.size items.size hi - sIx items.size 0 lo)).toArray } })
 (hsz:items.size<=sizeLine):wpAny (model prog w) A (getItem (.ref t) (.ref sl)) Q E s:=by
 have htake:sizeOk (.seq ((items.toList.drop (sIx items.size 0 lo)).take (sIx items.size items.size hi - sIx items.size 0 lo)).toArray):=by
  show((items.toList.drop (sIx items.size 0 lo)).take (sIx items.size items.size hi - sIx items.size 0 lo)).toArray.size<=sizeLine
  rw[t9,o9,i6,r6]
  omega
 have hj:sIx items.size items.size hi<=items.size:=zj9 _ _ (q5 _) hi
 obtain⟨os,hos,hcs,hds⟩:=id hs
 have hTs:s.TypeIs (.ref sl) "slice":=⟨os,hos,hcs⟩
 unfold getItem
 try with_reducible refine u08 ?_
 first | refine u0 (u9 ?_) | skip
 refine u0 (wpAny_sequenceKey ht.typeIs (by decide) ?_)
 refine u0 (u0J (name:=Str.ofString "__getitem__") ht.typeIs u0E
  (u07 u0E ht.typeIs entry_tuple_getitem ?_ (args_tuple_getitem _ _)))
 show wpAny _ _ (Builtin.Tuple.tupleItemsOf (.ref t)>>=_) _ _ s
 refine u0 (tupleItemsOf_ ht ?_)
 refine u0 (u3F hTs ?_)
 rw[j3 (by decide)]
 refine u0 (v4 hs pl pu ?_)
 have hno:¬ ((((sIx items.size 0 lo:Nat):Int) == 0&&(1:Int) == 1&&(sIx items.size items.size hi - sIx items.size 0 lo) == items.size)=true):=by
  intro q
  rw[u0n,u0n]at q
  have q1:((sIx items.size 0 lo:Nat):Int)=0:=eq_of_beq q.1.1
  have q2:sIx items.size items.size hi - sIx items.size 0 lo=items.size:=eq_of_beq q.2
  exact hw ⟨by omega,by omega⟩
 show wpAny _ _ (if (((sIx items.size 0 lo:Nat):Int) == 0&&(1:Int) == 1&&(sIx items.size items.size hi - sIx items.size 0 lo) == items.size)=true then _ else _) _ _ s
 rw[j8 hno,zhB]
 first
  | exact u0 (m:=Builtin.Tuple.tupleExact _) (u1c (u9 ⟨_,rfl,u9 h⟩) htake)
  | exact u0 (m:=Builtin.Tuple.tupleExact _) (u1c (u0 (u9 (u9 ⟨_,rfl,u9 h⟩))) htake)
  | exact u0 (u0 (m:=Builtin.Tuple.tupleExact _) (u1c (u9 (u9 ⟨_,rfl,u9 h⟩)) htake))
  | exact u0 (u0 (m:=Builtin.Tuple.tupleExact _) (u1c (u9 ⟨_,rfl,u9 h⟩) htake))
end
end HT
namespace L2
open PySem PySem.Spec PyProof.Rows
abbrev TO:=St->Hp->(Option Int->Hp->Prop)->Prop
def PO (X:Cx)(e:Option Expr)(t:TO):Prop :=
 ∀ (pins:List (Addr × Obj)) (s:Shared) (σ:St) (H:Hp) (Q:Option Int->Hp->Prop),Inv X pins σ H s->t σ H Q ->
  wpAny (model X.prog X.w) X.A (evalPart e X.env) (λu s'=>∃ o H',Inv X pins σ H' s'/\IsPart u o/\Q o H') X.xe s
def zjr:TO:=λ_ H Q=>Q none H
def zmh (t:TE):TO:=fun σ H Q=>t σ H λx H1=>∃ i,x=.int i/\Q (some i) H1
theorem Xf {ns:List Int}:∀ {us:List Value},yf (ns.map V.int) us->IntsAre us ns:=by
 induction ns with
 | nil=>intro us r;rw[u35]at r;cases r;exact .nil
 | cons n ns ih =>
  intro us r
  rw[u0e]at r
  cases r with
  | cons r1 r2 =>
   obtain⟨t,e⟩:=r1
   subst e
   exact .cons n t (ih r2)
section
variable {X:Cx}{e:Expr}{te:TE}{lo hi:Option Expr}{tl th:TO}{pos p2:Pos}
theorem zjk:PO X none zjr:=by
 intro pins s σ H Q I h
 rw[evalPart_none]
 exact u9 ⟨none,H,I,.none,h⟩
theorem zjA (h:PE X e te):PO X (some e) (zmh te):=by
 intro pins s σ H Q I hw
 rw[evalPart_some]
 refine thn (h pins s σ H _ I hw) λu s1 hh9=>?_
 obtain⟨x,H1,I1,r1,q1⟩:=hh9
 obtain⟨i,rfl,q⟩:=q1
 obtain⟨t,rfl⟩:=r1
 exact⟨some i,H1,I1,.int i t,q⟩
def SlR (X:Cx)(r:V->Option Int->Option Int->Hp->VK->Prop):Prop :=
 ∀ (pins:List (Addr × Obj)) (s:Shared) (σ:St) (H:Hp) (x:V) (v vl vu:Value) (lo hi:Option Int) (sl:Addr) (Q:VK),Inv X pins σ H s->xk x v->s.heap.IsSliceOf sl vl vu .none->IsPart vl lo->IsPart vu hi->r x lo hi H Q ->
  ∃ T id,typeLookup (.type T) "__getitem__"=pure (some (.builtin id))/\s.TypeIs v T/\wpAny (model X.prog X.w) X.A (getItem v (.ref sl)) (EP X pins σ Q) X.xe s
theorem SlR.or {r r':V->Option Int->Option Int->Hp->VK->Prop}(h:SlR X r)(h':SlR X r'):SlR X (λx lo hi H Q=>r x lo hi H Q\/r' x lo hi H Q):=by
 intro pins s σ H x v vl vu lo hi sl Q I rx hs pl pu q
 rcases q with q | q
 .exact h pins s σ H x v vl vu lo hi sl Q I rx hs pl pu q
 .exact h' pins s σ H x v vl vu lo hi sl Q I rx hs pl pu q
def tSl (r:V->Option Int->Option Int->Hp->VK->Prop)(te:TE)(tl th:TO):TE:=fun σ H Q=>te σ H λx H1=>tl σ H1 λl H2=>th σ H2 λu H3=>r x l u H3 Q
theorem zcZ {r:V->Option Int->Option Int->Hp->VK->Prop}(hr:SlR X r)(he:PE X e te)(hl:PO X lo tl)(hu:PO X hi th):PE X (.Subscript e (.Slice lo hi none p2) pos) (tSl r te tl th):=by
 intro pins s σ H Q I h
 refine Subscript_ (thn (he pins s σ H _ I h) λv s1 hh9=>?_)
 obtain⟨x,H1,I1,r1,q1⟩:=hh9
 refine wpAny_Slice (thn (hl pins s1 σ H1 _ I1 q1) λvl s2 ⟨l,H2,I2,pl,q2⟩=>thn (hu pins s2 σ H2 _ I2 q2) λvu s3 hh9=>?_)
 obtain⟨u,H3,I3,pu,q3⟩:=hh9
 rw[evalPart_none]
 refine u9 ?_
 have I4:Inv X pins σ H3 { s3 with heap:=s3.heap.push { cls:=.type "slice",data:=.fields #[vl,vu,.none] } }:=I3.kept (t':=s3.toks) λb ob q=>u4 _ q
 obtain⟨T,id,hT,ht,hg⟩:=hr pins { s3 with heap:=s3.heap.push { cls:=.type "slice",data:=.fields #[vl,vu,.none] } } σ H3 x v vl vu l u s3.heap.objs.size Q I4 r1 (Heap.IsSliceOf.new ..) pl pu q3
 show wpAny (model X.prog X.w) X.A (subscriptTail e (.Slice lo hi none p2) v (.ref s3.heap.objs.size)) (EP X pins σ Q) X.xe { s3 with heap:=s3.heap.push { cls:=.type "slice",data:=.fields #[vl,vu,.none] } }
 exact tail_any (ops:=[.ref s3.heap.objs.size,v]) ht hT hg (by with_unfolding_all rfl)
def zcv (xs:List V)(lo hi:Option Int):List V:=(xs.drop (HT.sIx xs.length 0 lo)).take (HT.sIx xs.length xs.length hi - HT.sIx xs.length 0 lo)
theorem WC (xs:List V)(lo hi:Option Int):(zcv xs lo hi).length<=xs.length:=by
 unfold zcv
 rw[o9,i6]
 omega
def rSlT (K:W.Frag):V->Option Int->Option Int->Hp->VK->Prop:=λx lo hi H Q=>∃ a xs,x=.ref a/\SqT K H a xs /\
 ¬ (HT.sIx xs.length 0 lo=0/\HT.sIx xs.length xs.length hi=xs.length)/\∀ p,H p=none->Q (.ref p) (upd H p (.tup (zcv xs lo hi)))
theorem zk9:SlR X (rSlT X.K):=by
 intro pins s σ H x v vl vu lo hi sl Q I rx hs pl pu h
 obtain⟨a,xs,rfl,hx,hw,q⟩:=h
 cases rx
 obtain⟨its,r,ht,hz⟩:=I.tuple hx
 have hlen:its.toArray.size=xs.length:=by rw[t9];exact r.length.symm
 refine⟨"tuple",_,u0E.lookup,ht.typeIs,?_⟩
 refine HT.getItem_tuple_cut ht hs pl pu (by rw[hlen];exact hw) ?_ (by rw[hlen];exact hz)
 rw[hlen]
 refine⟨.ref s.heap.objs.size,_,I.laid (t':=s.toks) (o:=.tup (zcv xs lo hi)) (λb ob q=>u4 _ q) (q5 _) ?_,rfl,q _ (I.hok.fresh (q5 _))⟩
 exact⟨u0B (WC xs lo hi) hz,_,(r.drop (HT.sIx xs.length 0 lo)).take (HT.sIx xs.length xs.length hi - HT.sIx xs.length 0 lo),IsTup.new _ _⟩
def zl5 (K:W.Frag):R2:=λx y H Q=>∃ a b xs ys,x=.ref a/\y=.ref b/\SqT K H a xs/\SqT K H b ys/\xs≠[]/\xs.length+ys.length<=sizeLine /\
 (ys=[]->Q (.ref a) H)/\(ys≠[]->∀ p,H p=none->Q (.ref p) (upd H p (.tup (xs++ys))))
theorem yf.nil_iff {xs:List V}{us:List Value}(r:yf xs us):us=[]↔xs=[]:=by
 cases r with
 | nil=>simp
 | cons _ _=>simp
theorem zje:OpR X (binaryOp .Add) (zl5 X.K):=by
 intro pins s σ H x y v u Q I rx ry h
 obtain⟨a,b,xs,ys,rfl,rfl,ha,hb,hx,hz,q1,q2⟩:=h
 cases rx
 cases ry
 obtain⟨its,r1,p1,_⟩:=I.tuple ha
 obtain⟨its2,r2,p2,_⟩:=I.tuple hb
 refine HT.cat_tup p1 p2 (λz=>hx (r1.nil_iff.mp z)) (λz=>⟨.ref a,H,I,rfl,q1 (r2.nil_iff.mp z)⟩) (λz=>?_) (by rw[<-r1.length,<- r2.length];exact hz)
 refine⟨.ref s.heap.objs.size,_,I.laid (t':=s.toks) (o:=.tup (xs++ys)) (λb ob q=>u4 _ q) (q5 _) ?_,rfl,q2 (λw=>z (r2.nil_iff.mpr w)) _ (I.hok.fresh (q5 _))⟩
 exact⟨by rw[j6];exact hz,_,r1.append r2,IsTup.new _ _⟩
end
def ixN (n:Nat)(i:Int):Option Nat:=if 0<=i then (if i < n then some i.toNat else none)else if -(n:Int)<=i then some (i+n).toNat else none
def atI {α:Type}(xs:List α)(i:Int):Option α:=(ixN xs.length i).bind λj=>xs[j]?
theorem zff {n:Nat}{i:Int}{j:Nat}(h:ixN n i=some j):seqIndex? i n=some j/\j < n/\-(n:Int)<=i/\i < n:=by
 unfold ixN at h
 by_cases h0:0<=i
 .rw[j3 h0]at h
  by_cases h1:i < n
  .rw[j3 h1]at h
   have e:i.toNat=j:=u0x h
   exact⟨by rw[seqIndex_of h0 h1,e],by omega,by omega,h1⟩
  .rw[j8 h1]at h;cases h
 .rw[j8 h0]at h
  by_cases h1:-(n:Int)<=i
  .rw[j3 h1]at h
   have e:(i+n).toNat=j:=u0x h
   exact⟨by rw[seqIndex_neg (by omega) h1,e],by omega,h1,by omega⟩
  .rw[j8 h1]at h;cases h
theorem zb2 {α:Type}{xs:List α}{i:Int}{v:α}(h:atI xs i=some v):∃ j,seqIndex? i xs.length=some j/\xs[j]?=some v/\j < xs.length/\-(xs.length:Int)<=i/\i < xs.length:=by
 unfold atI at h
 cases e:ixN xs.length i with
 | none=>rw[e]at h;cases h
 | some j =>
  rw[e]at h
  obtain⟨h1,h2,h3,h4⟩:=zff e
  exact⟨j,h1,h,h2,h3,h4⟩
theorem zgq {α:Type}{xs:List α}{j:Nat}{v:α}(h:xs[j]?=some v):atI xs (j:Int)=some v:=by
 have hj:j < xs.length:=(u8.mp h).1
 have e:ixN xs.length (j:Int)=some j:=by
  unfold ixN
  rw[j3 (by omega),j3 (by omega)];simp
 unfold atI;rw[e];exact h
def zgA (b:Expr):Prop:=∀ o i,subscripted b false o i=operate [o,i] (getItem o i)
def IxR (X:Cx)(r:R2):Prop :=
 ∀ (value slice:Expr) (pins:List (Addr × Obj)) (s:Shared) (σ:St) (H:Hp) (x y:V) (v u:Value) (Q:VK),Inv X pins σ H s->xk x v->xk y u->r x y H Q ->
  subscripted slice false v u=operate [v,u] (getItem v u)->wpAny (model X.prog X.w) X.A (subscriptTail value slice v u) (EP X pins σ Q) X.xe s
def MtR (X:Cx)(id:String)(r:V->List V->Hp->VK->Prop):Prop :=
 ∀ (pins:List (Addr × Obj)) (s:Shared) (σ:St) (H:Hp) (x:V) (xs:List V) (v:Value) (us:List Value) (Q:VK),Inv X pins σ H s->xk x v->yf xs us->r x xs H Q ->
  wpAny (model X.prog X.w) X.A (call (.builtin id) (v::us)) (EP X pins σ Q) X.xe s
section
variable {X:Cx}{a b:Expr}{ta tb:TE}{pos:Pos}
theorem IxR.or {r r':R2}(h:IxR X r)(h':IxR X r'):IxR X (λx y H Q=>r x y H Q\/r' x y H Q):=by
 intro value slice pins s σ H x y v u Q I rx ry q hs
 rcases q with q | q
 .exact h value slice pins s σ H x y v u Q I rx ry q hs
 .exact h' value slice pins s σ H x y v u Q I rx ry q hs
theorem zmw {r:R2}(hr:IxR X r)(ha:PE X a ta)(hb:PE X b tb)(hs:zgA b):PE X (.Subscript a b pos) (tOp r ta tb):=by
 intro pins s σ H Q I h
 exact Subscript_ (zl0 ha hb I h λv u s2 x y H2 I2 rx ry q=>hr a b pins s2 σ H2 x y v u Q I2 rx ry q (hs _ _))
def rIxL (K:W.Frag):R2:=λx y H Q=>∃ p xs i v,x=.ref p/\y=.int i/\SqL K H p xs/\atI xs i=some v/\Q v H
def rIxT (K:W.Frag):R2:=λx y H Q=>∃ p xs i v,x=.ref p/\y=.int i/\SqT K H p xs/\atI xs i=some v/\Q v H
def rIxS:R2:=λx y H Q=>∃ z i c,x=.str z/\y=.int i/\z.length<=sizeLine/\atI z.cps.toList i=some c/\Q (.str ⟨#[c]⟩) H
theorem zi9:IxR X (rIxL X.K):=by
 intro value slice pins s σ H x y v u Q I rx ry h hs
 obtain⟨p,xs,i,z,rfl,rfl,hq,he,q⟩:=h
 cases rx
 obtain⟨t,rfl⟩:=ry
 obtain⟨its,r,pl,hz⟩:=I.list hq
 obtain⟨j,h1,h2,h3,h4,h5⟩:=zb2 he
 obtain⟨w,ew,rw'⟩:=r.get h2
 have hl:=r.length
 have hn:=zaK
 have fin:EP X pins σ Q w s:=⟨z,H,I,rw',q⟩
 by_cases h0:0<=i
 .have hj:i.toNat=j:=by
   rw[seqIndex_of h0 h5]at h1
   exact u0x h1
  exact item_listR pl.isList h0 (by omega) (by rw[hj];simpa using ew) fin hs
 .have hj:(i+(its.toArray.size:Int)).toNat=j:=by
   rw[seqIndex_neg (by omega) h4]at h1
   rw[t9,<- hl]
   exact u0x h1
  exact subscriptTail_builtinR (x:=w) pl.isList.typeIs slot_list_getitem.lookup
   (wpAny_getItem_list_neg (Q:=λr s'=>r=w/\EP X pins σ Q r s') pl.isList (by omega) (by rw[t9] <;> omega) (by omega) (by rw[hj];simpa using ew) ⟨rfl,fin⟩) hs
theorem zk2:IxR X (rIxT X.K):=by
 intro value slice pins s σ H x y v u Q I rx ry h hs
 obtain⟨p,xs,i,z,rfl,rfl,hq,he,q⟩:=h
 cases rx
 obtain⟨t,rfl⟩:=ry
 obtain⟨its,r,pl,hz⟩:=I.tuple hq
 obtain⟨j,h1,h2,h3,h4,h5⟩:=zb2 he
 obtain⟨w,ew,rw'⟩:=r.get h2
 have hl:=r.length
 have hn:=zaK
 have fin:EP X pins σ Q w s:=⟨z,H,I,rw',q⟩
 exact subscriptTail_builtinR (x:=w) pl.typeIs slot_tuple_getitem.lookup
  (getItem_tuple (j:=j) (Q:=λr s'=>r=w/\EP X pins σ Q r s') pl (by omega) (by omega) (by rw[t9,<- hl];exact h1) (by simpa using ew) ⟨rfl,fin⟩) hs
theorem zj7:IxR X rIxS:=by
 intro value slice pins s σ H x y v u Q I rx ry h hs
 obtain⟨z,i,c,rfl,rfl,hz,he,q⟩:=h
 obtain⟨t,rfl⟩:=rx
 obtain⟨t',rfl⟩:=ry
 obtain⟨j,h1,h2,h3,h4,h5⟩:=zb2 he
 have hl:z.cps.toList.length=z.length:=by simp[Str.length]
 rw[hl]at h1 h4 h5
 have hn:=zaK
 exact tail_any (typeIs_str s z t) slot_str_getitem.lookup (getItem_str (c:=c) (by
  have e1:decide (i < -(2 ^ 63:Int))=false:=h9 (by omega)
  have e2:decide (i >= 2 ^ 63)=false:=h9 (by omega)
  rw[e1,e2,Bool.or_false]) (by rw[h1];simpa using h2) ⟨.str ⟨#[c]⟩,H,I.tok _,⟨_,rfl⟩,q⟩) hs
def rIx (K:W.Frag):R2:=λx y H Q=>rIxL K x y H Q\/rIxT K x y H Q\/rIxS x y H Q
theorem zkQ:IxR X (rIx X.K):=zi9.or (zk2.or zj7)
theorem zdX (its:List Value) (n j:Nat) (u:Value):Obj.mapSeq (·.setIfInBounds j u) { cls:=.type "list",data:=.seq its.toArray n }={ cls:=.type "list",data:=.seq (its.set j u).toArray n }:=by
 simp[Obj.mapSeq]
theorem Inv.lst {pins:List (Addr × Obj)}{σ:St}{H:Hp}{s:Shared}{p:Addr}{xs:List V}(I:Inv X pins σ H s)(h:H p=some (.lst xs)) :
 ∃ (its:List Value) (n:Nat),yf xs its/\s.heap.get? p=some { cls:=.type "list",data:=.seq its.toArray n }/\xs.length<=sizeLine:=by
 obtain⟨z,its,n,r,e⟩:=I.hok p _ h
 exact⟨its,n,r,e,z⟩
theorem Inv.lstUpd {pins:List (Addr × Obj)}{σ:St}{H:Hp}{s:Shared}{p:Addr}{xs ys:List V}{its its':List Value}{n n':Nat}{f:Obj->Obj}(I:Inv X pins σ H s)(h:H p=some (.lst xs))
 (ho:s.heap.get? p=some { cls:=.type "list",data:=.seq its.toArray n }) (hf:f { cls:=.type "list",data:=.seq its.toArray n }={ cls:=.type "list",data:=.seq its'.toArray n' }) (r:yf ys its') (hz:ys.length<=sizeLine) (t:Nat) :
 Inv X pins σ (upd H p (.lst ys)) { s with heap:=s.heap.update p f,toks:=t }:=by
 have e:(s.heap.update p f).get? p=some { cls:=.type "list",data:=.seq its'.toArray n' }:=by
  rw[u14 f ho (by rw[hf] <;> rfl),hf]
 refine I.write (x:=p) (e:=p) (by rw[h];trivial) (.inl rfl) (λb u hb q=>(u0h _ _ (u1j hb)).trans q) ⟨_,e⟩ ?_
 exact⟨hz,its',n',r,e⟩
def zmk:V->V->V->Hp->(Hp->Prop)->Prop:=λo i v H Q=>∃ p xs k j,o=.ref p/\i=.int k/\H p=some (.lst xs)/\ixN xs.length k=some j/\Q (upd H p (.lst (xs.set j v)))
theorem zhN:PSet X zmk:=by
 intro pins s σ H o i v ov iv u Q I ro ri rv h
 obtain⟨p,xs,k,j,rfl,rfl,hp,hj,q⟩:=h
 cases ro
 obtain⟨t,rfl⟩:=ri
 obtain⟨its,n,r,ho,hz⟩:=I.lst hp
 obtain⟨h1,h2,h3,h4⟩:=zff hj
 have hl:=r.length
 have hn:=zaK
 have I':Inv X pins σ (upd H p (.lst (xs.set j v))) { s with heap:=s.heap.update p (Obj.mapSeq (·.setIfInBounds j u)) } :=
  I.lstUpd hp ho (zdX its n j u) (r.set rv j) (by rw[u2B];exact hz) s.toks
 by_cases h0:0<=k
 .have hk:k.toNat=j:=by
   rw[seqIndex_of h0 h4]at h1
   exact u0x h1
  exact W.ki_setAt ho h0 (by omega) (by rw[t9,<- hl];exact h4) (by rw[hk];exact⟨_,I',q⟩)
 .have hk:(k+(its.toArray.size:Int)).toNat=j:=by
   rw[seqIndex_neg (by omega) h3]at h1
   rw[t9,<- hl]
   exact u0x h1
  exact W.ki_setBack ho (by omega) (by rw[t9,<- hl];exact h3) (by omega) (by rw[hk];exact⟨_,I',q⟩)
theorem zbW (lo hi:Option Int)(n:Nat):(sliceBounds lo hi none n).1=((HT.sIx n 0 lo:Nat):Int)/\(sliceBounds lo hi none n).2.1=((HT.sIx n n hi:Nat):Int)/\(sliceBounds lo hi none n).2.2=1:=by
 refine⟨?_,?_,rfl⟩
 .cases lo with
  | none=>simp[sliceBounds,HT.sIx]
  | some i =>
   simp only[sliceBounds,HT.sIx,Option.getD_none,show(1:Int) > 0 by decide,u2H]
   by_cases h:i < 0
   .simp only[h,u2H] <;> omega
   .simp only[h,u4m] <;> omega
 .cases hi with
  | none=>simp[sliceBounds,HT.sIx]
  | some i =>
   simp only[sliceBounds,HT.sIx,Option.getD_none,show(1:Int) > 0 by decide,u2H]
   by_cases h:i < 0
   .simp only[h,u2H] <;> omega
   .simp only[h,u4m] <;> omega
theorem zaq (its:List Value)(lo hi:Option Int):slicePick its.toArray lo hi none=((its.drop (HT.sIx its.length 0 lo)).take (HT.sIx its.length its.length hi - HT.sIx its.length 0 lo)).toArray:=by
 obtain⟨h1,h2,h3⟩:=zbW lo hi its.toArray.size
 unfold slicePick
 rw[h1,h2,h3]
 simp only[sliceRange_one,pick_run,t9] <;> rfl
def rSlL (K:W.Frag):V->Option Int->Option Int->Hp->VK->Prop:=λx lo hi H Q=>∃ a xs,x=.ref a/\SqL K H a xs/\∀ p,H p=none->Q (.ref p) (upd H p (.lst (zcv xs lo hi)))
theorem zeX:SlR X (rSlL X.K):=by
 intro pins s σ H x v vl vu lo hi sl Q I rx hs pl pu h
 obtain⟨a,xs,rfl,hx,q⟩:=h
 cases rx
 obtain⟨its,r,ht,hz⟩:=I.list hx
 have hlen:=r.length
 refine⟨"list",_,slot_list_getitem.lookup,ht.isList.typeIs,?_⟩
 refine wpAny_getItem_list_slice ht.isList hs pl pu .none (by simp) ?_ (by rw[t9] <;> omega)
 rw[zaq,<- hlen]
 refine⟨.ref s.heap.objs.size,_,I.laid (t':=s.toks) (o:=.lst (zcv xs lo hi)) (λb ob q=>u4 _ q) (q5 _) ?_,rfl,q _ (I.hok.fresh (q5 _))⟩
 exact⟨u0B (WC xs lo hi) hz,_,0,(r.drop (HT.sIx xs.length 0 lo)).take (HT.sIx xs.length xs.length hi - HT.sIx xs.length 0 lo),r8 _ rfl⟩
def ziF:V->Bool
 | .non=>true
 | .bl _=>true
 | .int _=>true
 | .str _=>true
 | _=>false
def eqV:V->V->Bool
 | .non,.non=>true
 | .bl a,.bl b=>a == b
 | .bl a,.int b=>(if a then 1 else 0) == b
 | .int a,.bl b=>a == (if b then 1 else 0)
 | .int a,.int b=>a == b
 | .str a,.str b=>a == b
 | _,_=>false
theorem zin {A:Around}{s:Shared}{y x:V}{u v:Value}(ry:xk y u)(rx:xk x v)(fy:ziF y=true)(fx:ziF x=true):SeqAt.EqAt A s u v (eqV y x):=by
 cases y with
 | non =>
  cases ry
  cases x with
  | non=>cases rx;exact SeqAt.EqAt.same _
  | bl b=>cases rx;exact SeqAt.EqAt.none_bool b
  | int b=>obtain⟨t,rfl⟩:=rx;exact SeqAt.EqAt.none_int b t
  | str b=>obtain⟨t,rfl⟩:=rx;exact SeqAt.EqAt.none_str b t
  | _=>exact absurd (show false=true from fx) u7
 | bl a =>
  cases ry
  cases x with
  | non=>cases rx;exact SeqAt.EqAt.bool_none a
  | bl b=>cases rx;exact SeqAt.EqAt.bool_bool a b
  | int b=>obtain⟨t,rfl⟩:=rx;exact SeqAt.EqAt.bool_int a b t
  | str b=>obtain⟨t,rfl⟩:=rx;exact SeqAt.EqAt.bool_str a b t
  | _=>exact absurd (show false=true from fx) u7
 | int a =>
  obtain⟨t',rfl⟩:=ry
  cases x with
  | non=>cases rx;exact SeqAt.EqAt.int_none a t'
  | bl b=>cases rx;exact SeqAt.EqAt.int_bool a t' b
  | int b=>obtain⟨t,rfl⟩:=rx;exact u2F a t' b t
  | str b=>obtain⟨t,rfl⟩:=rx;exact SeqAt.EqAt.int_str a t' b t
  | _=>exact absurd (show false=true from fx) u7
 | str a =>
  obtain⟨t',rfl⟩:=ry
  cases x with
  | non=>cases rx;exact SeqAt.EqAt.str_none a t'
  | bl b=>cases rx;exact SeqAt.EqAt.str_bool a t' b
  | int b=>obtain⟨t,rfl⟩:=rx;exact SeqAt.EqAt.str_int a t' b t
  | str b=>obtain⟨t,rfl⟩:=rx;exact SeqAt.EqAt.str_str a t' b t
  | _=>exact absurd (show false=true from fx) u7
 | _=>exact absurd (show false=true from fy) u7
theorem zI:Xp X (.builtin "len") (λxs H Q=>∃ p ys,xs=[.ref p]/\(SqL X.K H p ys\/SqT X.K H p ys)/\Q (.int ys.length) H):=by
 intro pins s σ H xs us Q I r h
 obtain⟨p,ys,rfl,hq,q⟩:=h
 obtain⟨u,rfl,rx⟩:=za7 r
 cases rx
 have hn:=zaK
 rcases hq with hq | hq
 .obtain⟨its,r',pl,hz⟩:=I.list hq
  have hlen:=r'.length
  exact Calls.call_len_list pl.isList (by simp only[t9] <;> omega) ⟨.int ys.length,H,I.tok _,⟨s.toks+1,by rw[t9,hlen]⟩,q⟩
 .obtain⟨its,r',pl,hz⟩:=I.tuple hq
  have hlen:=r'.length
  exact len_tuple pl (by simp only[t9] <;> omega) ⟨.int ys.length,H,I.tok _,⟨s.toks+1,by rw[t9,hlen]⟩,q⟩
theorem zbT:Xp X (.type "list") (λxs H Q=>∃ p ys,xs=[.ref p]/\(SqL X.K H p ys\/SqT X.K H p ys)/\∀ l,H l=none->Q (.ref l) (upd H l (.lst ys))):=by
 intro pins s σ H xs us Q I r h
 obtain⟨p,ys,rfl,hq,q⟩:=h
 obtain⟨u,rfl,rx⟩:=za7 r
 cases rx
 have fin:∀ (its:List Value),yf ys its->ys.length<=sizeLine->∀ (h':Heap) (c':Nat),(∀ b o',s.heap.get? b=some o'->h'.get? b=some o') ->
  h'.get? s.heap.objs.size=some { cls:=.type "list",dict:=none,data:=.seq its.toArray c',slots:=#[] }->EP X pins σ Q (.ref s.heap.objs.size) { s with heap:=h' }:=λits r' hz h' c' kp e =>
  ⟨.ref s.heap.objs.size,_,I.laid (t':=s.toks) kp (q5 _) (show xt X.prog X.w _ h' _ (.lst ys) from⟨hz,its,c',r',e⟩),rfl,q _ (I.hok.fresh (q5 _))⟩
 rcases hq with hq | hq
 .obtain⟨its,r',pl,hz⟩:=I.list hq
  have hlen:=r'.length
  obtain⟨o,ho,hc,n,hd⟩:=pl.isList
  exact call_list_seq p (.inl rfl) ho hc hd (λh' c' kp e=>fin its r' hz h' c' kp e) (by simp only[t9] <;> omega)
 .obtain⟨its,r',pl,hz⟩:=I.tuple hq
  have hlen:=r'.length
  obtain⟨o,ho,hc,n,hd⟩:=pl
  exact call_list_seq p (.inr rfl) ho hc hd (λh' c' kp e=>fin its r' hz h' c' kp e) (by simp only[t9] <;> omega)
theorem yL:Xp X (.type "tuple") (λxs H Q=>∃ p ys,xs=[.ref p]/\((SqL X.K H p ys/\∀ l,H l=none->Q (.ref l) (upd H l (.tup ys)))\/(SqT X.K H p ys/\Q (.ref p) H))):=by
 intro pins s σ H xs us Q I r h
 obtain⟨p,ys,rfl,h⟩:=h
 obtain⟨u,rfl,rx⟩:=za7 r
 cases rx
 rcases h with ⟨hq,q⟩ | ⟨hq,q⟩
 .obtain⟨its,r',pl,hz⟩:=I.list hq
  have hlen:=r'.length
  refine call_tuple_list pl.isList (λh' kp=>?_) (by simp only[t9] <;> omega)
  have I1:Inv X pins σ H { s with heap:=h' }:=I.kept (t':=s.toks) kp
  have I2:Inv X pins σ (upd H h'.objs.size (.tup ys)) { s with heap:=h'.push { cls:=.type "tuple",data:=.seq its.toArray } } :=
   I1.laid (t':=s.toks) (λb o e=>u4 _ e) (q5 _) (show xt X.prog X.w _ _ _ (.tup ys) from⟨hz,its,r',IsTup.new _ _⟩)
  exact⟨.ref h'.objs.size,_,I2,rfl,q _ (I1.hok.fresh (q5 _))⟩
 .obtain⟨its,r',pl,hz⟩:=I.tuple hq
  exact call_tuple_same pl ⟨.ref p,H,I,rfl,q⟩
def tyV (K:W.Frag)(T:String)(x:V)(H:Hp):Prop:=match x with
 | .str _=>T="str"
 | .int _=>T="int"
 | .ref p=>(T="list"/\∃ xs,SqL K H p xs)\/(T="tuple"/\∃ o,K.lookup p=some o/\o.cls=.type "tuple"/\o.dict=none) \/
  (T="dict"/\((∃ kvs,H p=some (.dK kvs))\/∃ kvs,H p=some (.dT kvs)))\/(T="set"/\∃ S n,H p=some (.set S n))
 | _=>False
theorem zlr {pins:List (Addr × Obj)}{σ:St}{H:Hp}{s:Shared}{T:String}{x:V}{v:Value}(I:Inv X pins σ H s)(r:xk x v)(ty:tyV X.K T x H) :
 s.TypeIs v T/\∀ a,v=.ref a->∃ ob,s.heap.get? a=some ob/\ob.dict=none:=by
 cases x with
 | str z =>
  obtain⟨t,rfl⟩:=r
  cases (show T="str" from ty)
  exact⟨typeIs_str s z t,λ_ e=>nomatch e⟩
 | int i =>
  obtain⟨t,rfl⟩:=r
  cases (show T="int" from ty)
  exact⟨typeIs_int s i t,λ_ e=>nomatch e⟩
 | ref p =>
  cases r
  rcases ty with ⟨rfl,xs,hq⟩ | ⟨rfl,o,hk,hc,hd⟩ | ⟨rfl,hk⟩ | ⟨rfl,S,n,hk⟩
  .obtain⟨its,_,pl,_⟩:=I.list hq
   refine⟨pl.isList.typeIs,λa e=>?_⟩
   cases e
   obtain⟨o,n,e,c,hd,_⟩:=pl
   exact⟨o,e,hd⟩
  .refine⟨⟨o,I.kIn p o hk,hc⟩,λa e=>?_⟩
   cases e
   exact⟨o,I.kIn _ o hk,hd⟩
  .have z:∃ o,s.heap.get? p=some o/\o.ExactDict:=by
    rcases hk with ⟨kvs,hk⟩ | ⟨kvs,hk⟩
    .obtain⟨_,_,_,_,o,_,_,e,ex,_⟩:=I.hok p _ hk
     exact⟨o,e,ex⟩
    .obtain⟨_,_,_,_,o,_,_,e,ex,_⟩:=I.hok p _ hk
     exact⟨o,e,ex⟩
   obtain⟨o,e,ex⟩:=z
   refine⟨⟨o,e,ex.1⟩,λa e2=>?_⟩
   cases e2
   exact⟨o,e,ex.2.1⟩
  .obtain⟨o,_,_,_,e,ex,_⟩:=I.hok p _ hk
   refine⟨⟨o,e,ex.1⟩,λa e2=>?_⟩
   cases e2
   exact⟨o,e,ex.2.1⟩
 | _=>exact False.elim ty
def tBM (K:W.Frag)(T:String)(r:V->List V->Hp->VK->Prop)(to:TE)(t:TA):TE:=fun σ H Q=>to σ H λx H1=>tyV K T x H1/\t σ H1 λxs H2=>r x xs H2 Q
variable {o e:Expr}{es:List Expr}{to:TE}{t:TA}{name:Str}{apos cpos:Pos}{T id:String}{r:V->List V->Hp->VK->Prop}
theorem Vn (pa:PlainAttrs T) (slot:Slot T name id) (hty:typeOf (.builtin id)=pure (.type "method_descriptor")) (hm:MtR X id r) (ho:PE X o to) (ha:PA X (e::es) t)
 (hbase:attributeBase o name X.env (eval o X.env)=eval o X.env:=by rfl)
 (hfew:((backTo cpos (starEach (e::es) X.env)).all (λx=>!x.1)&&(backToKw cpos (keywordEach [] X.env)).all (λx=>x.1.isSome)
  && decide ((e::es).length+([]:List Keyword).length+(if ([]:List Keyword).isEmpty then 0 else 1) < 30))=true:=by rfl)
 (hline:(apos.endLine == cpos.line)=true:=by rfl) (hs:starEach (e::es) X.env=(false,eval e X.env)::starEach es X.env:=by rfl) (hplain:(backTo cpos (starEach es X.env)).any (·.1)=false:=by rfl) :
 PE X (.Call (.Attribute o name apos) (e::es) [] cpos) (tBM X.K T r to t):=by
 intro pins s σ H Q I h
 refine wpAny_Call_method_late hbase hfew hline rfl (thn (ho pins s σ H _ I h) λv s1 hh9=>?_)
 obtain⟨x,H1,I1,r1,ty,q1⟩:=hh9
 obtain⟨h1,h2⟩:=zlr I1 r1 ty
 refine⟨T,id,pa,slot,hty,h1,h2,?_⟩
 have hA:=ha cpos pins s1 σ H1 _ I1 q1
 rw[hs]at hA ⊢
 refine Calls.callWith_builtin (by show(false||(backTo cpos (starEach es X.env)).any (·.1))=false;rw[hplain] <;> rfl) (Calls.evalArgs_plain ?_)
 exact thn hA λus s2 ⟨vs,H2,I2,r2,q2⟩=>hm pins s2 σ H2 x vs v us Q I2 r1 r2 q2
/- xs.append(e),list.index on a module's tuple .. are MtR facts of 06m -/
end
def MtM (X:Cx)(id:String)(r:V->List V->Hp->VK->Prop):Prop :=
 ∀ (pins:List (Addr × Obj)) (s:Shared) (σ:St) (H:Hp) (x:V) (xs:List V) (v:Value) (us:List Value) (Q:VK),Inv X pins σ H s->xk x v->yf xs us->r x xs H Q ->
  wpAny (model X.prog X.w) X.A (call (.builtin id) (v::us)) (EP X pins σ Q) X.xe s
theorem yf.one:∀ {x:V} {us:List Value},yf [x] us->∃ u,us=[u]/\xk x u:=by
 intro x us h
 cases h with | cons r t=>cases t;exact⟨_,rfl,r⟩
theorem yf.two:∀ {x y:V} {us:List Value},yf [x,y] us->∃ u v,us=[u,v]/\xk x u/\xk y v:=by
 intro x y us h
 cases h with | cons r t=>cases t with | cons q t=>cases t;exact⟨_,_,rfl,r,q⟩
theorem yf.rep {xs:List V}{us:List Value}(h:yf xs us):∀ k:Nat,yf (List.replicate k xs).flatten (List.replicate k us).flatten
 | 0=>.nil
 | k+1=>by
  rw[u0T,u0T,u1y,u1y]
  exact yf.append h (yf.rep h k)
theorem zaZ (its:List Value):∀ (k:Nat) (acc:List Value),
 List.foldl (λx1 x2=>x1++x2) acc.toArray (List.replicate k its.toArray)=(acc++(List.replicate k its).flatten).toArray
 | 0,acc=>by simp
 | k+1,acc=>by
  have e:acc.toArray++its.toArray=(acc++its).toArray:=by simp
  have e2:(acc++its)++(List.replicate k its).flatten=acc++(List.replicate (k+1) its).flatten:=by
   rw[u0T,u1y,b9]
  rw[<-e2,<- zaZ its k (acc++its),<- e,u0T,List.foldl_cons]
section
variable {X:Cx}{pins:List (Addr × Obj)}{σ:St}{H:Hp}{s:Shared}{l b:Addr}{xs ys zs:List V}
theorem Inv.lset {its its':List Value}{n:Nat}{f:Array Value->Array Value}{t':Nat}(I:Inv X pins σ H s)(hH:H l=some (.lst xs))
 (e:s.heap.get? l=some { cls:=.type "list",data:=.seq its.toArray n }) (hf:f its.toArray=its'.toArray) (hv:yf ys its') (hz:ys.length<=sizeLine) :
 Inv X pins σ (upd H l (.lst ys)) { s with heap:=s.heap.update l (Obj.mapSeq f),toks:=t' }:=by
 have q:=PySem.IsL.update e f
 rw[hf]at q
 refine I.write (x:=l) (e:=l) (by rw[hH];exact trivial) (.inl rfl) (λb' u hb hu=>(u0h s.heap (Obj.mapSeq f) (u1j hb)).trans hu) ⟨_,q⟩ ?_
 exact⟨hz,its',_,hv,q⟩
theorem Inv.lnew {its:List Value}{t':Nat}(I:Inv X pins σ H s)(hv:yf ys its)(hz:ys.length<=sizeLine) :
 Inv X pins σ (upd H s.heap.objs.size (.lst ys)) { s with heap:=s.heap.push { cls:=.type "list",data:=.seq its.toArray },toks:=t' } :=
 I.laid (λ_ _ q=>u4 _ q) (q5 _) ⟨hz,its,0,hv,r8 _ rfl⟩
theorem Inv.fresh (I:Inv X pins σ H s):H s.heap.objs.size=none:=I.hok.fresh (q5 _)
theorem Inv.lstM (I:Inv X pins σ H s) (hH:H l=some (.lst xs)):xs.length<=sizeLine/\∃ (its:List Value) (n:Nat),yf xs its/\xs.length=its.length/\s.heap.get? l=some { cls:=.type "list",data:=.seq its.toArray n }:=by
 obtain⟨z,its,n,r,e⟩:=I.hok l _ hH
 exact⟨z,its,n,r,r.length,e⟩
theorem zc1 {n:Nat}(h:n<=sizeLine):Builtin.List.listTooLong n=false:=by
 unfold Builtin.List.listTooLong
 exact h9 (by omega)
end
section
variable {X:Cx}
def zf2:V->List V->Hp->VK->Prop:=λx vs H Q=>∃ l xs y,x=.ref l/\vs=[y]/\H l=some (.lst xs)/\xs.length < sizeLine/\Q .non (upd H l (.lst (xs++[y])))
theorem xh:MtM X "list.append" zf2:=by
 intro pins s σ H x vs v us Q I rx rv h
 obtain⟨l,xs,y,rfl,rfl,hH,hz,q⟩:=h
 cases rx
 obtain⟨u,rfl,ru⟩:=rv.one
 obtain⟨z,its,n,r,hl,e⟩:=I.lstM hH
 refine u4c F.slot_list_append ⟨_,e,rfl⟩ F.entry_list_append (F.args_list_append_2 _ _) (PySem.list_append l its.toArray n u (by rw[t9];omega)) ⟨e,?_⟩
 refine⟨.non,_,I.lset (its':=its++[u]) hH e (by simp) (r.append (.cons ru .nil)) ?_,rfl,q⟩
 rw[j6,List.length_singleton]
 omega
def ziB:V->List V->Hp->VK->Prop:=λx vs H Q=>∃ l b xs zs,x=.ref l/\vs=[.ref b]/\H l=some (.lst xs)/\H b=some (.lst zs)/\xs.length+zs.length<=sizeLine/\Q .non (upd H l (.lst (xs++zs)))
theorem zj5:MtM X "list.extend" ziB:=by
 intro pins s σ H x vs v us Q I rx rv h
 obtain⟨l,b,xs,zs,rfl,rfl,hH,hB,hz,q⟩:=h
 cases rx
 obtain⟨u,rfl,ru⟩:=rv.one
 cases ru
 obtain⟨z,its,n,r,hl,e⟩:=I.lstM hH
 obtain⟨z2,its2,n2,r2,hl2,e2⟩:=I.lstM hB
 have hsz:its.toArray.size+its2.toArray.size<=sizeLine:=by rw[t9,t9];omega
 have hlong:¬ (!its.toArray.isEmpty&&Builtin.List.listTooLong (its.toArray.size+its2.toArray.size))=true:=by
  rw[zc1 hsz,u2V]
  exact u7
 refine u4c F.slot_list_extend ⟨_,e,rfl⟩ F.entry_list_extend (F.args_list_extend_2 _ _)
  (AutoSeq1.list_extend_list_list_0 l its.toArray n b its2.toArray n2 hlong (by rw[t9];omega) (by omega)) ⟨e,e2,?_⟩
 refine⟨.non,_,I.lset (its':=its++its2) hH e (by simp) (r.append r2) ?_,rfl,q⟩
 rw[j6]
 omega
def rCat:R2:=λx y H Q=>∃ l b xs zs,x=.ref l/\y=.ref b/\H l=some (.lst xs)/\H b=some (.lst zs)/\xs.length+zs.length<=sizeLine/\∀ p,H p=none->Q (.ref p) (upd H p (.lst (xs++zs)))
theorem zkf:OpR X (binaryOp .Add) rCat:=by
 intro pins s σ H x y v u Q I rx ry h
 obtain⟨l,b,xs,zs,rfl,rfl,hH,hB,hz,q⟩:=h
 cases rx
 cases ry
 obtain⟨z,its,n,r,hl,e⟩:=I.lstM hH
 obtain⟨z2,its2,n2,r2,hl2,e2⟩:=I.lstM hB
 refine PySem.P.add_list e e2 ?_ (by rw[t9,t9];omega)
 have ea:its.toArray++its2.toArray=(its++its2).toArray:=by simp
 rw[ea]
 exact⟨.ref _,_,I.lnew (t':=s.toks) (r.append r2) (by rw[j6];omega),rfl,q _ I.fresh⟩
def rRep:R2:=λx y H Q=>∃ l k xs,x=.ref l/\y=.int k/\H l=some (.lst xs)/\-(2 ^ 63)<=k/\k < 2 ^ 63/\xs.length*k.toNat<=sizeLine /\
 ∀ p,H p=none->Q (.ref p) (upd H p (.lst (List.replicate k.toNat xs).flatten))
theorem zjH {α:Type}(xs:List α)(k:Nat):(List.replicate k xs).flatten.length=k*xs.length:=by
 induction k with
 | zero=>simp
 | succ k ih=>rw[u0T,u1y,j6,ih,Nat.succ_mul,Nat.add_comm]
theorem zh0:OpR X (binaryOp .Mult) rRep:=by
 intro pins s σ H x y v u Q I rx ry h
 obtain⟨l,k,xs,rfl,rfl,hH,h1,h2,hz,q⟩:=h
 cases rx
 obtain⟨t,rfl⟩:=ry
 obtain⟨z,its,n,r,hl,e⟩:=I.lstM hH
 have hlen:its.toArray.size*k.toNat<=sizeLine:=by rw[t9,<- hl];exact hz
 have hcap:¬ its.toArray.size*k.toNat > (2 ^ 63 - 1) / 8:=by
  have:(sizeLine:Nat)<=(2 ^ 63 - 1) / 8:=by decide
  omega
 have hfit:¬ (!Builtin.List.listFitsIndex k)=true:=by
  rw[fitsIndex_both h1 h2]
  exact u7
 have hlong:¬ Builtin.List.listTooLong (its.toArray.size*k.toNat)=true:=by
  rw[zc1 hlen]
  exact u7
 have hnew:List.foldl (λx1 x2=>x1++x2) #[] (List.replicate (if its.toArray.isEmpty=true then 0 else k.toNat) its.toArray)=(List.replicate k.toNat its).flatten.toArray:=by
  have f0:∀ m:Nat,List.foldl (λx1 x2=>x1++x2) #[] (List.replicate m its.toArray)=(List.replicate m its).flatten.toArray:=λm=>by
   have:=zaZ its m []
   rw[u3o]at this
   exact this
  rw[f0]
  cases its with
  | nil=>simp
  | cons a r'=>rw[j8 (by simp)]
 refine wpAny_binaryOp_repeat_ref (T:="list") (U:="int") (by decide) ⟨_,e,rfl⟩ (λs'=>typeIs_int s' k t) noFill_list_mul F.fills_int_mul F.slot_int_rmul repeat_list F.slot_int_index.lookup
  (u4c F.slot_int_rmul (typeIs_int s k t) F.entry_int_rmul (F.args_int_rmul_2 _ _) (int___rmul___int_list k t l its.toArray n)
   ⟨e,rfl,⟨_,e,rfl⟩,u4c F.slot_list_mul ⟨_,e,rfl⟩ F.entry_list_mul (F.args_list_mul_2 _ _) (AutoListH.list___mul___list_int_3 l its.toArray n k t hfit hcap hlong) ⟨e,?_⟩⟩)
 rw[hnew]
 exact⟨.ref _,_,I.lnew (t':=s.toks) (r.rep k.toNat) (by rw[zjH,Nat.mul_comm];exact hz),rfl,q _ I.fresh⟩
end
end L2
namespace Att
open PySem PySem.W PySem.Calls PyProof.Rows
theorem WB {P:Params}{h:Heap}:∀ (ns:List Int) (vs:List Value),WellAll P h vs (ns.map WData.int)->IntsAre vs ns:=by
 intro ns
 induction ns with
 | nil =>
  intro vs w
  rw[u35]at w
  cases w
  exact .nil
 | cons n ns ih =>
  intro vs w
  rw[u0e]at w
  cases w with
  | cons a b =>
   cases a
   exact .cons _ _ (ih _ b)
theorem zfY {l:OpenLaw}{n:Nat}(hn:l.most=some n){P:Params}{h:Heap}{args:List WData}{vals:List Value}
 (hpre:l.row.toRowW.claim.pre args=true) (hwl:WellAll P h vals args) :
 ∃ a vs ns,vals=[Value.ref a]/\args=[WData.list (ns.map WData.int)]/\h.get? a=some { cls:=.type "list",data:=.seq vs.toArray }/\IntsAre vs ns/\ns.length<=n:=by
 have hsh:WShape.hasAll [] args [.list .int]=true:=(pre_splitW hpre).1
 have hc:l.pre.holds [] { args:=args }=true:=(pre_splitW hpre).2
 obtain⟨d,r,rfl,h1,h2⟩:=hasAllW_cons hsh
 obtain rfl:=hasAllW_nil h2
 obtain⟨xs,rfl,h3⟩:=hasW_list h1
 obtain⟨ns,rfl⟩:=items_int h3
 have hlen:ns.length<=n:=by
  unfold OpenLaw.pre at hc
  have h4:(WTm.not (.lt (.lit (.int (n:Int))) (.len (.arg 0)))).holds [] { args:=[.list (ns.map .int)] }=true:=by
   have h4:=(holds_andW hc).1
   rw[hn]at h4
   exact h4
  have h5:=condW_of h4 (w_not (w_lt w_lit (w_len_list (w_arg rfl))))
  rw[u5]at h5
  refine u3V λq=>?_
  have q':(n:Int) < ((ns.length:Nat):Int):=by omega
  first
   | (rw[i5 q']at h5;exact absurd h5 (by decide))
   | (simp at h5;omega)
 cases hwl with
 | cons w1 w2 =>
  cases w2
  cases w1 with
  | list ho hall=>exact⟨_,_,ns,rfl,rfl,ho,WB ns _ hall,hlen⟩
theorem zeT (l:OpenLaw)(args:List WData):l.row.toRowW.claim.post args (.bool true) args=true :=
 postW_of (r:=l.row.toRowW) (X:=(true == true))
  (show WShape.has [] (.bool true) .bool=true by first | rfl | decide | simp[WShape.has,WShape.arms,WShape.armsAll])
  (show(WTm.eq .res (.lit (.bool true))).value [] { args:=args,res:=some (.bool true),after:=args }=some (.bool (true == true))from w_eq_bool (w_res rfl) w_lit) rfl
theorem attach_call {l:OpenLaw}{n:Nat}{q:Program}{loose:List Str}{XP:(Str->Option Value)->Heap->Prop}{YP:World->Heap->Prop}{d:DefRec}
 (hn:l.most=some n) (hdf:d.params.defaults=[])
 (call:∀ (w:World) (s₀ s₁:Shared) (mg mb:Str->Option Value) (fa:Addr) (o:Obj) (pm cd doc:Value) (a:Addr) (vs:List Value) (ns:List Int),
  Ground q loose [] XP w s₀ mg mb s₁.heap->YP w s₁.heap ->
  s₁.heap.get? fa=some o->o.data=.func (docDef d.name d.params d.body d.scope pm cd doc)->s₁.heap.CodeRec cd d.name->mg d.name=some (.ref fa) ->
  s₁.heap.get? a=some { cls:=.type "list",data:=.seq vs.toArray }->IntsAre vs ns->ns.length<=n->s₁.gens=#[] ->
  codeAny (model l.prog w) callerA (.call (.ref fa) ⟨[.ref a],[]⟩) (λr s'=>r=.ok (.ret (.bool true))/\OldK s₁.heap s'.heap/\s'.os=s₁.os/\AllBare s'.gens) s₁) :
 WalkO q loose XP YP l.row.toRowW d [] (λf vs=>PySem.call f vs):=by
 intro w s₀ s₁ mg mb G Y fa o pm cd doc dV kV ho hd hcd hD hmg hg args vals as hpre hlay hrd hwl hlo
 obtain rfl:dV=.none:=Dflts.none hD hdf
 obtain rfl:kV=.none:=Dflts.noKw hD
 obtain⟨a,vs,ns,rfl,rfl,hobj,hints,hlen⟩:=zfY hn hpre hwl
 refine enter_call (u3E (call w s₀ s₁ mg mb fa o pm cd doc a vs ns G Y ho (fd_plain hd) hcd hmg hobj hints hlen hg) λr s' hq=>?_)
 obtain⟨rfl,h2,h3,h4⟩:=hq
 exact⟨.inl ⟨.bool true,.bool true,[],rfl,λ_=>rfl,.bool true,zeT l _,λ_=>⟨List.Pairwise.nil,λ_ hm=>(nomatch hm)⟩⟩,h2,h3,h4⟩
section
variable {prog:Program}{w:World}{A:Around}{E:Value->Shared->Prop}{s:Shared}{K:Frag}
def ledger (h:Heap)(L d:Addr):List (Addr × Obj):=(List.range h.objs.size).filterMap λa=>if a=L\/a=d then none else (h.get? a).map λo=>(a,o)
end
end Att
namespace L2
open PySem PySem.Spec PyProof.Rows
theorem zaS:∀ {vs:List Value} {ns:List Int},IntsAre vs ns->yf (ns.map V.int) vs:=by
 intro vs ns h
 induction h with
 | nil=>exact .nil
 | cons n t h ih=>exact .cons ⟨t,rfl⟩ ih
def Zn (s:Stmt):Arguments:=match s with
 | .FunctionDef _ a _ _ _ _ _ _ _ _=>a
 | _=>{ posonlyargs:=[],args:=[],vararg:=none,kwonlyargs:=[],kw_defaults:=[],kwarg:=none,defaults:=[] }
def xf (s:Stmt):List Stmt:=match s with
 | .FunctionDef _ _ b _ _ _ _ _ _ _=>b
 | _=>[]
def zh (s:Stmt):Scope:=match s with
 | .FunctionDef _ _ _ _ _ _ sc _ _ _=>sc
 | _=>{ kind:=.function,names:=[],isGenerator:=false,isCoroutine:=false }
abbrev CX0:CXT:=λ_ _ _ _ _ _=>False
abbrev E0:XK:=λ_ _ _=>False
theorem zk7 {X:Cx}:zeK CX0 X E0:=λ_ _ _ _ _ _ _ h=>h.elim
structure Fun (K:W.Frag) (x qual:Str) (st:Stmt) (f:Addr) (fd:FuncData):Prop where
 ex:∃ (oc:Value) (od:Option Addr) (kV doc pm:Value) (an:Option Addr) (cdv ct:Value) (osl:Array (Option Value)),
  fd=W.fnOf x qual (Zn st) (xf st) (zh st) .none kV doc pm an cdv ct/\K.lookup f=some ⟨oc,od,.func fd,osl⟩/\W.codeIn K cdv qual=true
 kp:W.keepIn K (.ref f)=true
section
variable {P:Program}{w:World}{K:W.Frag}{mg:Str->Option Value}{base:Heap}
theorem Fun.ok {x qual:Str}{st:Stmt}{f:Addr}{fd:FuncData}{N ps:List Str}{k:Nat}{sp:Sp}(F:Fun K x qual st f fd)(S:zw N ps (zh st))(len:∀ vs H Q E,sp vs H Q E->vs.length=ps.length)
 (hbody:∀ (cdv:Value) (A:Around) (outer:List Env) (s:Shared) (H:Hp) (vs:List V) (Q:VK) (E:XK),wC k (A.deeper (envOfC qual (zh st) s.heap.objs.size f cdv))->sp vs H Q E ->
  ∃ t,PSs (zec CX0 P w K mg base N qual (zh st) f cdv A outer s H E).nox (xf st) t/\t { nx:=λ_ H'=>Q .non H',rt:=Q } (start N vs) H):yW P w K mg base CX0 (k+1) f fd ps sp:=by
 obtain⟨oc,od,kV,doc,pm,an,cdv,ct,osl,rfl,lk,hcd⟩:=F.ex
 refine zld lk hcd S len λA outer s H vs Q E hr hsp=>?_
 obtain⟨t,h,q⟩:=hbody cdv A outer s H vs Q E hr hsp
 exact⟨t,h.nox,q⟩
theorem Fun.binds {x qual:Str}{st:Stmt}{f:Addr}{fd:FuncData}{ps:List Str}(F:Fun K x qual st f fd)
 (h:∀ (kV doc pm:Value) (an:Option Addr) (cdv ct:Value) (us:List Value),us.length=ps.length->bindArgs (W.fnOf x qual (Zn st) (xf st) (zh st) .none kV doc pm an cdv ct) ⟨us,[]⟩=pure (ps.zip us)):zbk K fd ps []:=by
 obtain⟨oc,od,kV,doc,pm,an,cdv,ct,osl,rfl,lk,hcd⟩:=F.ex
 exact .all (h kV doc pm an cdv ct)
theorem zh4 {x qual:Str}{st:Stmt}{f:Addr}{oc:Value}{od an:Option Addr}{osl:Array (Option Value)}{kV doc pm cdv ct:Value}(l:K.lookup f=some ⟨oc,od,.func (W.fnOf x qual (Zn st) (xf st) (zh st) .none kV doc pm an cdv ct),osl⟩)
 (c:W.codeIn K cdv qual=true) (k:W.keepIn K (.ref f)=true):Fun K x qual st f (W.fnOf x qual (Zn st) (xf st) (zh st) .none kV doc pm an cdv ct):=⟨⟨oc,od,kV,doc,pm,an,cdv,ct,osl,rfl,l,c⟩,k⟩
end
theorem ZM {n:Nat}(h:n<=1000):n < sizeLine:=u0f h (by decide)
section
variable {X:Cx}
theorem pv (i:Nat) {x:Str} {pos:Pos} (hN:X.N[i]?=some x:=by rfl) (hv:Vis X.env.scope x:=by first | exact Or.inl rfl | exact Or.inr (Or.inl rfl) | exact Or.inr (Or.inr rfl)) (hd:(x == ("__debug__":Str))=false:=by decide)
 (hcd:(x == ("__classdict__":Str))=false:=by decide):PE X (.Name x pos) (zjT i):=zkS hN hv hd hcd
end
def yz (H H':Hp):Prop:=∀ b o,H b=some o->H' b=some o
theorem yz.refl (H:Hp):yz H H:=λ_ _ h=>h
theorem yz.trans {H H1 H2:Hp}(a:yz H H1)(b:yz H1 H2):yz H H2:=λc o h=>b c o (a c o h)
theorem yz.free {H H':Hp}(e:yz H H'){l:Addr}(h:H' l=Option.none):H l=Option.none:=by
 cases q:H l with
 | none=>rfl
 | some o =>
  rw[e l o q]at h
  cases h
theorem yz.seq {K:W.Frag}{H H':Hp}{a:Addr}{xs:List V}(e:yz H H')(h:SqL K H a xs):SqL K H' a xs:=by
 rcases h with (h | ⟨o,h⟩) | h
 .exact .inl (.inl (e _ _ h))
 .exact .inl (.inr ⟨o,e _ _ h⟩)
 .exact .inr h
theorem zcy {X:Cx}:Xp X (.builtin "isinstance") (λxs H Q=>∃ x n t b,xs=[x,.ty n]/\zdu X.K H x t/\W.kitOne X.K t (.type n)=some b/\Q (.bl b) H):=by
 intro pins s σ H xs us Q I r h
 obtain⟨x,n,t,b,rfl,ty,e,q⟩:=h
 obtain⟨u,w',rfl,rx,rt⟩:=zco r
 cases (show w'=Value.type n from rt)
 exact zfM I rx ty e λtk=>⟨.bl b,H,I.tok _,rfl,q⟩
theorem zgX {X:Cx}:OpR X (compareOp .Is) (λx y H Q=>∃ i j,x=.bl i/\y=.bl j/\Q (.bl (i == j)) H):=by
 intro pins s σ H x y v u Q I rx ry h
 obtain⟨i,j,rfl,rfl,q⟩:=h
 cases rx
 cases ry
 refine wpAny_is_plain (by rfl) ⟨.bl (i == j),H,I,?_,q⟩
 cases i <;> cases j <;> rfl
theorem zch {X:Cx}:OpR X (compareOp .IsNot) (λx y H Q=>∃ i j,x=.bl i/\y=.bl j/\Q (.bl (!(i == j))) H):=by
 intro pins s σ H x y v u Q I rx ry h
 obtain⟨i,j,rfl,rfl,q⟩:=h
 cases rx
 cases ry
 refine wpAny_isNot_plain (by rfl) ⟨.bl (!(i == j)),H,I,?_,q⟩
 cases i <;> cases j <;> rfl
def zh3 (K:W.Frag):R2:=λx y H Q=>∃ a b xs ys,x=.ref a/\y=.ref b/\SqT K H a xs/\SqT K H b ys/\xs.length+ys.length<=sizeLine /\
 (xs=[]->Q (.ref b) H)/\(xs≠[]->ys=[]->Q (.ref a) H)/\(xs≠[]->ys≠[]->∀ p,H p=none->Q (.ref p) (upd H p (.tup (xs++ys))))
theorem zgH {X:Cx}:OpR X (binaryOp .Add) (zh3 X.K):=by
 intro pins s σ H x y v u Q I rx ry h
 obtain⟨a,b,xs,ys,rfl,rfl,ha,hb,hz,q0,q1,q2⟩:=h
 by_cases hx:xs=[]
 .subst hx
  cases rx
  cases ry
  obtain⟨its,r,p,_⟩:=I.tuple ha
  obtain⟨its',r',p',_⟩:=I.tuple hb
  cases r
  obtain⟨⟨cls,dd,data,sl⟩,ho,hc,n,hd⟩:=id p
  obtain⟨⟨cls2,dd2,data2,sl2⟩,ho2,hc2,n2,hd2⟩:=id p'
  simp only at hc hd hc2 hd2
  subst hc hd hc2 hd2
  exact concat_meets ⟨_,ho,rfl⟩ ⟨_,ho2,rfl⟩ noFill_tuple_add seq_tuple_add u2M u2E (u2x _ _)
   (tuple_addW0 a b #[] its'.toArray n n2 dd dd2 sl sl2 rfl) ⟨ho,ho2,⟨.ref b,H,I,rfl,q0 rfl⟩⟩
 .refine zje pins s σ H (.ref a) (.ref b) v u Q I rx ry ⟨a,b,xs,ys,rfl,rfl,ha,hb,hx,hz,?_⟩
  exact⟨λe=>q1 hx e,λe=>q2 hx e⟩
inductive Xg:St->St->Prop where
 | nil:Xg [] []
 | non {a:Option V} {s t:St}:Xg s t->Xg (none::s) (a::t)
 | same {a:Option V} {s t:St}:Xg s t->Xg (a::s) (a::t)
theorem Xg.refl:∀ s:St,Xg s s
 | []=>.nil
 | _::r=>.same (Xg.refl r)
theorem Xg.length {s t:St}(h:Xg s t):s.length=t.length:=by
 induction h with
 | nil=>rfl
 | non _ ih=>simp[ih]
 | same _ ih=>simp[ih]
theorem Xg.get {s t:St}(h:Xg s t):∀ (i:Nat) (v:V),s[i]?=some (some v)->t[i]?=some (some v):=by
 induction h with
 | nil=>intro i v e;exact e
 | non _ ih =>
  intro i v e
  cases i with
  | zero=>simp at e
  | succ i=>simpa using ih i v (by simpa using e)
 | same _ ih =>
  intro i v e
  cases i with
  | zero=>simpa using e
  | succ i=>simpa using ih i v (by simpa using e)
theorem Xg.set {n:Nat}{v:V}:∀ {s t:St},Xg s t->s[n]?=some none->Xg s (t.set n (some v))
 | _,_,.nil,_=>.nil
 | _,_,.non (a:=a) h,e=>by
  cases n with
  | zero=>exact .non h
  | succ n=>exact .non (Xg.set h (by simpa using e))
 | _,_,.same (a:=a) h,e=>by
  cases n with
  | zero =>
   have e':a=none:=by simpa using e
   subst e'
   exact .non h
  | succ n=>exact .same (Xg.set h (by simpa using e))
theorem Inv.sub {X:Cx}{pins:List (Addr × Obj)}{σ σ':St}{H:Hp}{s:Shared}(I:Inv X pins σ H s)(h:Xg σ' σ):Inv X pins σ' H s:=I.weak h.length h.get
def PIf (X:Cx)(ifs:List Expr)(t:TT):Prop :=
 ∀ (pins:List (Addr × Obj)) (s:Shared) (σ:St) (H:Hp) (Q:Bool->Hp->Prop),Inv X pins σ H s->t σ H Q ->
  wpAny (model X.prog X.w) X.A (forIn ifs true λc r=>if r=true then do let ok<-isTrue c X.env (eval c X.env);pure (ForInStep.yield ok)else pure (ForInStep.yield r)) (TP X pins σ Q) X.xe s
def tYes:TT:=λ_ H Q=>Q true H
theorem zgx {X:Cx}:PIf X [] tYes:=by
 intro pins s σ H Q I h
 rw[u2g]
 exact u9 ⟨H,I,h⟩
theorem zjB {X:Cx}{c:Expr}{t:TT}(hc:PT X c t):PIf X [c] t:=by
 intro pins s σ H Q I h
 rw[u16]
 refine u0 ?_
 rw[j3 rfl]
 refine u0 (thn (hc pins s σ H Q I h) λb s1 q=>u9 ?_)
 show wpAny _ _ (forIn [] b _) _ _ _
 rw[u2g]
 exact u9 q
section
variable {prog:Program}{w:World}{A:Around}{R:Result->Shared->Prop}{s:Shared}
theorem Y5 {elt target iter:Expr}{ifs:List Expr}{scope:Scope}{pos:Pos}{it acc:Value}{env:Env}(I:Nat->Shared->Prop)
 (turn:∀ n s,I n s->wpAny (model prog w) A (pyNext it) (λr s₁=>match r with
  | none=>R (.ok .next) s₁
  | some v=>wpAny (model prog w) A (letOwnedTupleGo target it v) (λ_ s₁'=>wpAny (model prog w) A (assign target env v) (λ_ s₂ =>
   wpAny (model prog w) A (forIn ifs true λc r=>if r=true then do let ok<-isTrue c env (eval c env);pure (ForInStep.yield ok)else pure (ForInStep.yield r)) (λok s₃ =>
    if ok=true then wpAny (model prog w) A (eval elt env) (λx s₄ =>
     wpAny (model prog w) A (call (.builtin "list.append") [acc,x]) (λ_ s₅=>∃ m,m < n/\I m s₅) (λ_ _=>False) s₄) (λ_ _=>False) s₃
    else ∃ m,m < n/\I m s₃) (λ_ _=>False) s₂) (λ_ _=>False) s₁') (λ_ _=>False) s₁) (λ_ _=>False) s)
 (n:Nat) (h:I n s) :
 codeAny (model prog w) A (.compLoop (.ListComp elt [⟨target,iter,ifs,0⟩] scope pos) 0 it acc env) R s:=by
 refine codeAny_loop rfl I (λn s hI=>?_) n h
 show wpAny _ A ((compTurn (.ListComp elt [⟨target,iter,ifs,0⟩] scope pos) 0 it acc env).onRaise (λx=>do noteFrame x env;theTreesLotGoes x)) _ _ s
 refine wpAny_noted ?_
 rw[compTurn_list]
 refine u0 (wpAny_standAt (u0 (u1b (turn n s hI) (λr s₁ h₁=>?_) λ_ _ h'=>h'.elim)))
 cases r with
 | none=>exact u9 h₁
 | some v =>
  refine u0 (u1b h₁ (λ_ s₁' h₁'=>?_) λ_ _ h'=>h'.elim)
  refine u0 (u1b h₁' (λ_ s₂ h₂=>u0 (u1b h₂ (λok s₃ h₃=>?_) λ_ _ h'=>h'.elim)) λ_ _ h'=>h'.elim)
  cases ok with
  | false=>exact u9 ⟨rfl,h₃⟩
  | true =>
   exact u0 (u0 (u1b h₃ (λx s₄ h₄=>u0 (u1b h₄ (λ_ s₅ h₅=>u9 (u9 ⟨rfl,h₅⟩)) λ_ _ h'=>h'.elim)) λ_ _ h'=>h'.elim))
end
def tLC (wi:TI)(n:Nat)(g:TG)(tt:TT)(te:TE):TE:=fun σ H Q=>wi σ H λJ H1=>∀ D,H1 D=none->∃ W:Nat->Nat->List V->Hp->Prop,(∃ m,W 0 m [] (upd H1 D (.lst []))) /\
 ∀ i m ys H2,W i m ys H2->(J.stop i H2/\Q (.ref D) H2)\/(J.go i H2/\ys.length < sizeLine/\∀ x H3,J.yld i H2 x H3->g x (List.replicate n none++σ) H3 fun σ2 H4=>tt σ2 H4 λb H5 =>
  if b=true then te σ2 H5 λy H6=>H6 D=some (.lst ys)/\∃ m',m' < m/\W (i+1) m' (ys++[y]) (upd H6 D (.lst (ys++[y])))else ∃ m',m' < m/\W (i+1) m' ys H5)
theorem wW {α:Type}:∀ {l:List (Str × α)} {y:Str},y∈l.map Prod.fst->∃ c,l.lookup y=some c
 | [],_,h=>by simp at h
 | (k,v)::r,y,h=>by
  by_cases e:y=k
  .exact⟨v,by simp[List.lookup,e]⟩
  .obtain⟨c,hc⟩:=wW (l:=r) (y:=y) (by simpa [e]using h)
   have hb:(y == k)=false:=u1U.mpr e
   exact⟨c,by simp only[List.lookup,hb];exact hc⟩
theorem yC {α:Type}{P:α->Prop}:∀ p∈([]:List α),P p:=λ_ h=>nomatch h
theorem all_cons {α:Type}{P:α->Prop}{a:α}{l:List α}(h:P a)(t:∀ p∈l,P p):∀ p∈a::l,P p:=λp hp=>by
 rcases j5.mp hp with e | hp
 .rw[e];exact h
 .exact t p hp
theorem gs1 (σ:St)(v:V)(H:Hp)(Q:St->Hp->Prop)(h:Z4 0 v (List.replicate 1 none++σ) H Q):Z4 0 v (List.replicate 1 none++σ) H (fun σ2 H2=>Xg (List.replicate 1 none++σ) σ2/\Q σ2 H2):=⟨.set (.refl _) rfl,h⟩
theorem gs2 {K:W.Frag}(σ:St)(v:V)(H:Hp)(Q:St->Hp->Prop)(h:zlU K 2 (zcE (Z4 0) (zcE (Z4 1) zlD)) v (List.replicate 2 none++σ) H Q) :
 zlU K 2 (zcE (Z4 0) (zcE (Z4 1) zlD)) v (List.replicate 2 none++σ) H (fun σ2 H2=>Xg (List.replicate 2 none++σ) σ2/\Q σ2 H2):=by
 obtain⟨a,xs,e,hq,hl,x,r,e1,y,r2,e2,e3,q⟩:=h
 exact⟨a,xs,e,hq,hl,x,r,e1,y,r2,e2,e3,.set (.set (.refl _) rfl) rfl,q⟩
def zbw (X:Cx)(L M:List Str)(scope:Scope)(cl:List (Str × Addr))(s₀:Shared)(H₀:Hp)(ex:List Addr)(pn:List (Addr × Obj)):Cx :=
 { X with N:=L++M,s₀:=s₀,H₀:=H₀,env:=compEnvC scope cl s₀.heap.objs.size X.env,outer:=X.stack,stack:=X.stack,ex:=ex,fn:=λ_=>false,pn:=pn,xe:=λ_ _=>False }
structure xy (X:Cx) (L M:List Str) (scope:Scope) (cl:List (Str × Addr)):Prop where
 clos:closureFor scope X.env=pure cl
 cell:∀ y∈scope.names,y.2≠.cell
 kind:scope.kind=.function
 names:∀ y∈scope.names,y.2=.local->scope.names.lookup y.1=some .local
 sub:∀ y c,cl.lookup y=some c->X.env.cells.lookup y=some c
 has:∀ y,((relabel scope X.env).names.lookup y=some .cell\/(relabel scope X.env).names.lookup y=some .free)->∃ c,cl.lookup y=some c
 mlen:M.length=X.N.length
 msk:∀ (i:Nat) y,M[i]?=some y->Vis (relabel scope X.env) y->X.N[i]?=some y
 vis:∀ (i:Nat) y,M[i]?=some y->Vis (relabel scope X.env) y->((relabel scope X.env).names.lookup y=some .cell\/(relabel scope X.env).names.lookup y=some .free)
 out:∀ (i:Nat) y,M[i]?=some y->Vis (relabel scope X.env) y->Vis X.env.scope y/\X.env.kindOf y≠some .local
theorem Inv.letGo {X:Cx}{pins:List (Addr × Obj)}{σ:St}{H:Hp}{s:Shared}{C:Addr}{h':Heap}(I:Inv X pins σ H s)(f:VD X pins H C)(sb:Heap.SameBut C s.heap h'):Inv X pins σ H { s with heap:=h' }:=by
 obtain⟨f0,f1,f2,f3,f4,f5⟩:=f
 have ne:∀ b,b∉[C]->b≠C:=λb hb z=>hb (by rw[z];exact d4.mpr rfl)
 refine I.call' (s':={ s with heap:=h' }) (ch:=[C]) rfl ⟨λb o e _ _ hx=>(sb.2 b (ne b hx)).trans e,λb o e _ _ hx=>⟨o.slots,(sb.2 b (ne b hx)).trans e⟩,λ_ _ _ n _=>n,λb o e hx=>⟨o,(sb.2 b (ne b hx)).trans e⟩,λ_ _ q=>q,λ_ _ _ q=>q,λ_ _ q=>q⟩ ?_ I.bare λb hb=>?_
 .intro b ob e
  refine(I.hok b ob e).stay (λc v hc q=>(sb.2 c ?_).trans q) (λ_ q=>q) λ_ _ q=>q
  rintro rfl
  rcases hc with z | z
  .rw[<-z,f0]at e;cases e
  .rw[f0]at z;cases z
 .rw[d4.mp hb]
  exact⟨f3,f1,f4,f5⟩
theorem zfn {use:Option (Value->Sem Unit)}{Qf:Value->Shared->Prop}{X:Cx}{elt tg iter:Expr}{ifs:List Expr}{L M:List Str}{scope:Scope}{cl:List (Str × Addr)}{pos:Pos}{wi:TI}{g:TG}{tt:TT}{te:TE}
 (hc:X.calm=true) (S:xy X L M scope cl) (hi:PI X tg iter wi)
 (hgS:∀ (σ:St) (v:V) (H:Hp) (Q:St->Hp->Prop),g v (List.replicate L.length none++σ) H Q->g v (List.replicate L.length none++σ) H (fun σ2 H2=>Xg (List.replicate L.length none++σ) σ2/\Q σ2 H2))
 (hg:∀ s₀ H₀ ex pn,PG (zbw X L M scope cl s₀ H₀ ex pn) tg g) (ht:∀ s₀ H₀ ex pn,PIf (zbw X L M scope cl s₀ H₀ ex pn) ifs tt) (he:∀ s₀ H₀ ex pn,PE (zbw X L M scope cl s₀ H₀ ex pn) elt te)
 (hs:∀ x,foldedSetIterable iter X.env x=pure x:=by intro _;rfl) :
 ∀ (pos':Pos) (pins:List (Addr × Obj)) (s:Shared) (σ:St) (H:Hp) (Q:VK),Inv X pins σ H s->tLC wi L.length g tt te σ H Q ->
  (∀ (D C:Addr) (H':Hp) (s':Shared),Inv X pins σ H' s'->(∃ m,s'.heap.Ns C m)->VD X pins H' C->Q (.ref D) H'->compPost (model X.prog X.w) X.A X.xe use Qf (.ref D) C (.ok .next) s') ->
  wpAny (model X.prog X.w) X.A (comprehension (.ListComp elt [⟨tg,iter,ifs,0⟩] scope pos) scope X.env pos' (newList []) false (eval iter X.env) use) Qf X.xe s:=by
 intro pos' pins s σ H Q I h fin
 refine wpAny_comprehension_free (use:=use) rfl hs S.clos S.kind S.names (thn (hi pins s σ H _ I h) λv s1 h1=>thn h1 λitv s2 h2=>?_)
 obtain⟨it,fp,tn,J,H2,e,I2,T,st2,f2,q⟩:=h2
 subst e
 have hD:H2 s2.heap.objs.size=none:=I2.hok.fresh (q5 _)
 obtain⟨W,⟨m0,w0⟩,turn⟩:=q _ hD
 refine u1c (wpAny_newFunctionEnv S.cell (by intro y hy;simp at hy) (λh₁ hns₁ hsb₁=>?_) S.kind)
 have I3:Inv X pins σ (upd H2 s2.heap.objs.size (.lst [])) { s2 with heap:=s2.heap.push { cls:=.type "list",data:=.seq ([]:List Value).toArray } }:=by
  refine I2.laid (t':=s2.toks) (λb u e=>u4 _ e) (q5 _) ?_
  exact⟨u0D _,[],0,.nil,r8 _ rfl⟩
 generalize hs3:({ s2 with heap:=s2.heap.push { cls:=.type "list",data:=.seq ([]:List Value).toArray } }:Shared)=s3 at I3 hns₁ hsb₁ ⊢
 have hobj:∀ b∈fp,b < s2.heap.objs.size:=λb hb=>by
  obtain⟨o,ho,_⟩:=T.obj _ _ st2 b hb
  exact j9 ho
 have hz3:s3.heap.objs.size=s2.heap.objs.size+1:=by rw[<-hs3];exact u1v ..
 have k23:∀ b o,s2.heap.get? b=some o->s3.heap.get? b=some o:=λb o e=>by rw[<-hs3];exact u4 _ e
 have k34:∀ b o,s3.heap.get? b=some o->h₁.get? b=some o:=λb o e=>(hsb₁.2 b (p5 (j9 e))).trans (u4 _ e)
 generalize hH3:upd H2 s2.heap.objs.size (.lst [])=H3 at I3 w0
 have hfp3:∀ b∈fp,H3 b=none:=λb hb=>by
  rw[<-hH3,zq (p5 (hobj b hb))]
  exact(f2 b hb).1
 have nfs:∀ b∈fp,b∉frs X.stack:=λb hb z=>by
  obtain⟨_,n1,n2,_⟩:=f2 b hb
  rcases j5.mp (I3.stkSub b z)with e | e
  .exact n1 e
  .exact n2 e
 let Y:Cx:=zbw X L M scope cl s3 H3 fp (X.pn++pins)
 have OkY:Y.Ok:=by
  refine⟨I.ok.mod,S.kind,I.ok.glob,I.ok.blt,q5 _,λx y c h1 h2=>I.ok.inj x y c (S.sub x c h1) (S.sub y c h2),λx hx=>S.has x hx,(λx c h _=>absurd h u7),I.ok.hd,I.ok.frames,.inl rfl,λb hb=>⟨?_,λx c e z=>?_⟩,
   I3.bs,u0B I.ok.bsz I3.sz,λb o e hb=>?_,nfs,I3.stack,I3.stkFree⟩
  .show b≠s3.heap.objs.size
   exact p5 (d8 (hobj b hb) (by rw[hz3];exact u2R _))
  .exact(f2 b hb).2.2.2.2.1 x c (S.sub x c e) z
  .rcases(f2 b hb).2.2.2.1 with z | z
   .exact I.ok.noex b o e z
   .have h1:=j9 e
    have h2:=I.ok.bsz
    exact absurd (d8 h1 (u0B h2 z)) (u0I _)
 have I4:Inv Y [] (List.replicate L.length none++σ) H3 { s3 with heap:=h₁,toks:=s3.toks+([]:List (Str × Value)).length }:=by
  refine⟨OkY,rfl,I3.bare,Un.kept k34,⟨_,hns₁,λi y v e1 e2 e3=>?_⟩,λx c e=>?_,I3.hok.fresh (q5 _),λx c e=>I3.freeC x c (S.sub x c e),λp hp=>?_,I3.hok.kept k34,?_⟩
  .have hi:¬ i < L.length:=λhlt=>by
    rw[u02 (by simpa using hlt),u1e]at e2
    split at e2 <;> cases e2
   have e0':M[i - L.length]?=some y:=by
    have e1:(L++M)[i]?=some y:=e1
    rw[u0u (by omega)]at e1
    exact e1
   have e2':σ[i - L.length]?=some (some v):=by rw[u0u (by simpa using u3V hi)]at e2;simpa using e2
   have e1':=S.msk _ y e0' e3
   obtain⟨ov,ok⟩:=S.out _ y e0' e3
   obtain⟨m,hn,hl⟩:=I3.loc
   obtain⟨u,ru,lk⟩:=hl _ y v e1' e2' ov
   refine⟨u,ru,?_⟩
   rcases lk with ⟨hk,_⟩ | ⟨_,c,hc',hcell⟩
   .exact absurd hk ok
   .have kn:=S.vis _ y e0' e3
    obtain⟨c',hc2⟩:=S.has y kn
    have:=S.sub y c' hc2
    rw[hc']at this
    cases this
    refine .inr ⟨kn,c,hc2,?_⟩
    obtain⟨o,ho,hd⟩:=hcell
    exact⟨o,k34 _ _ ho,hd⟩
  .obtain⟨v,o,ho,hd⟩:=I3.cell x c (S.sub x c e)
   exact⟨v,o,k34 _ _ ho,hd⟩
  .have hp':p∈X.pn++pins:=u0L (X.pn++pins) ▸ hp
   obtain⟨a1,a2,a3,a4,a5⟩:=I3.pin p hp'
   refine⟨k34 _ _ a1,a2,p5 (j9 a1),λz=>?_,a5⟩
   rcases j5.mp (I3.stkSub p.1 z)with e | e
   .exact a3 e
   .exact a4 e
  .show(List.replicate L.length none++σ).length=(L++M).length
   rw[j6,j6,u0S,I.len,S.mlen]
 have fpY:∀ {H':Hp},(∀ b∈fp,H' b=none)->∀ b∈fp,VD Y [] H' b:=λ{H'} hn b hb=>by
  refine⟨hn b hb,(OkY.exf b hb).1,nfs b hb,.inl hb,(OkY.exf b hb).2,λp hp=>?_⟩
  have hp':p∈X.pn++pins:=u0L (X.pn++pins) ▸ hp
  exact(f2 b hb).2.2.2.2.2 p hp'
 have st4:tn 0 h₁:=T.keep _ _ _ st2 λb hb o e=>k34 b o (k23 b o e)
 -- behind the loop
 have back:∀ (H':Hp) (s':Shared),Inv Y [] (List.replicate L.length none++σ) H' s'->Q (.ref s2.heap.objs.size) H'->compPost (model X.prog X.w) X.A X.xe use Qf (.ref s2.heap.objs.size) s3.heap.objs.size (.ok .next) s':=λH' s' J' q'=>by
  obtain⟨m,hn,_⟩:=J'.loc
  refine fin _ _ H' s' (I3.call' (ch:=fp) J'.os J'.base J'.hok J'.bare λb hb=>?_) ⟨m,hn⟩ (I3.fpOk (q5 _) J'.free) q'
  obtain⟨_,n1,_,n3,n4,n5⟩:=f2 b hb
  exact⟨n3,n1,n4,n5⟩
 have loop:codeAny (model X.prog X.w) X.A (.compLoop (.ListComp elt [⟨tg,iter,ifs,0⟩] scope pos) 0 (.ref it) (.ref s2.heap.objs.size) (compEnvC scope cl s3.heap.objs.size X.env))
  (compPost (model X.prog X.w) X.A X.xe use Qf (.ref s2.heap.objs.size) s3.heap.objs.size) { s3 with heap:=h₁,toks:=s3.toks+([]:List (Str × Value)).length }:=by
  refine Y5 (λn s'=>∃ i ys H',Inv Y [] (List.replicate L.length none++σ) H' s'/\tn i s'.heap/\(∀ b∈fp,H' b=none)/\W i n ys H') ?_ m0 ⟨0,[],H3,I4,st4,hfp3,w0⟩
  rintro n s5 ⟨i,ys,H5,I5,st5,fr5,w5⟩
  rcases turn i n ys H5 w5 with ⟨stop,qn⟩ | ⟨go,hlen,step⟩
  .refine thn (T.done Y rfl rfl rfl hc i [] s5 _ H5 _ I5 (fpY fr5) st5 stop) λr s6 hh9=>?_
   obtain⟨hr,I6⟩:=hh9
   subst hr
   exact back H5 s6 I6 qn
  .refine thn (T.item Y rfl rfl rfl hc i [] s5 _ H5 _ I5 (fpY fr5) st5 go) λr s6 hh9=>?_
   obtain⟨u,hr,h6⟩:=hh9
   subst hr
   refine thn h6 λ_ s7 hh9=>?_
   obtain⟨x,H7,I7,r7,y7,st7,fr7⟩:=hh9
   have I7':=I7.pinned (fpY fr7) (T.obj _ _ st7)
   have g7:=hgS σ x H7 _ (step x H7 y7)
   refine thn (hg _ _ _ _ _ s7 _ H7 x u _ I7' r7 g7) λ_ s8 hh9=>?_
   obtain⟨σ8,H8,I8,sub8,q8⟩:=hh9
   have again:∀ {σ9:St} {H9:Hp} {s9:Shared} {zs:List V},Inv Y ([]++Yz fp s7.heap) σ9 H9 s9->Xg (List.replicate L.length none++σ) σ9->(∃ m',m' < n/\W (i+1) m' zs H9) ->
    ∃ m,m < n/\∃ i ys H',Inv Y [] (List.replicate L.length none++σ) H' s9/\tn i s9.heap/\(∀ b∈fp,H' b=none)/\W i m ys H':=λ{σ9 H9 s9 zs} I9 sub9 w9=>by
    obtain⟨m',hm,w9⟩:=w9
    refine⟨m',hm,i+1,zs,H9,(I9.sub sub9).unpinned,T.keep _ _ _ st7 λb hb o e=>(I9.pin (b,o) (o0 _ (o0 _ (yH hb e)))).1,λb hb=>?_,w9⟩
    obtain⟨o,e,d⟩:=T.obj _ _ st7 b hb
    exact(I9.pin (b,o) (o0 _ (o0 _ (yH hb e)))).2.1
   refine thn (ht _ _ _ _ _ s8 σ8 H8 _ I8 q8) λb s9 hh9=>?_
   obtain⟨H9,I9,q9⟩:=hh9
   cases b with
   | false =>
    rw[j8 u7]at q9
    rw[j8 u7]
    exact again I9 sub8 q9
   | true =>
    rw[j3 rfl]at q9
    rw[j3 rfl]
    refine thn (he _ _ _ _ _ s9 σ8 H9 _ I9 q9) λy s10 hh9=>?_
    obtain⟨yv,H10,I10,r10,hD10,w10⟩:=hh9
    obtain⟨z10,its,k,rv,e10⟩:ys.length<=sizeLine/\∃ (its:List Value) (n:Nat),yf ys its/\s10.heap.get? s2.heap.objs.size=some { cls:=.type "list",data:=.seq its.toArray n }:=I10.hok _ _ hD10
    have hl10:s10.heap.PlainList s2.heap.objs.size its.toArray:=⟨k,e10⟩
    refine wpAny_list_append_plain (hsz:=by rw[t9,<- rv.length];exact z10) hl10 λh11 hl11 sb11=>?_
    obtain⟨k',e11⟩:=hl11
    have I11:Inv Y ([]++Yz fp s7.heap) σ8 (upd H10 s2.heap.objs.size (.lst (ys++[yv]))) { s10 with heap:=h11 }:=by
     refine I10.write (x:=s2.heap.objs.size) (e:=s2.heap.objs.size) (t':=s10.toks) (by rw[hD10];exact True.intro) (.inl rfl) (λb u hb e=>(sb11.2 b hb).trans e) ⟨_,e11⟩ ?_
     refine⟨by rw[j6];show ys.length+1<=sizeLine;exact hlen,its++[y],k',rv.append (.cons r10 .nil),?_⟩
     rw[e11]
     simp
    exact again I11 sub8 w10
 exact codeAny_compStart_list loop (T.self _ 0 _ _ _ st4 loop)
theorem zh8 {X:Cx}{elt tg iter:Expr}{ifs:List Expr}{L M:List Str}{scope:Scope}{cl:List (Str × Addr)}{pos:Pos}{wi:TI}{g:TG}{tt:TT}{te:TE}
 (hc:X.calm=true) (S:xy X L M scope cl) (hi:PI X tg iter wi)
 (hgS:∀ (σ:St) (v:V) (H:Hp) (Q:St->Hp->Prop),g v (List.replicate L.length none++σ) H Q->g v (List.replicate L.length none++σ) H (fun σ2 H2=>Xg (List.replicate L.length none++σ) σ2/\Q σ2 H2))
 (hg:∀ s₀ H₀ ex pn,PG (zbw X L M scope cl s₀ H₀ ex pn) tg g) (ht:∀ s₀ H₀ ex pn,PIf (zbw X L M scope cl s₀ H₀ ex pn) ifs tt) (he:∀ s₀ H₀ ex pn,PE (zbw X L M scope cl s₀ H₀ ex pn) elt te)
 (hs:∀ x,foldedSetIterable iter X.env x=pure x:=by intro _;rfl) :
 PE X (.ListComp elt [⟨tg,iter,ifs,0⟩] scope pos) (tLC wi L.length g tt te):=by
 intro pins s σ H Q I h
 rw[eval_ListComp]
 refine zfn hc S hi hgS hg ht he hs _ pins s σ H Q I h λD C H' s' I' ⟨m,hn⟩ f q=>⟨m,hn,λh' sb=>⟨.ref D,_,I'.letGo f sb,rfl,q⟩⟩
theorem zla {i:Nat}{x:Str}{px spos:Pos}{X:Cx}{elt tg iter:Expr}{ifs:List Expr}{L M:List Str}{scope:Scope}{cl:List (Str × Addr)}{pos:Pos}{wi:TI}{g:TG}{tt:TT}{te:TE}
 (hN:X.N.Nodup) (hi':X.N[i]?=some x) (hx:Loc X.env.scope x) (hc:X.calm=true) (S:xy X L M scope cl) (hi:PI X tg iter wi)
 (hgS:∀ (σ:St) (v:V) (H:Hp) (Q:St->Hp->Prop),g v (List.replicate L.length none++σ) H Q->g v (List.replicate L.length none++σ) H (fun σ2 H2=>Xg (List.replicate L.length none++σ) σ2/\Q σ2 H2))
 (hg:∀ s₀ H₀ ex pn,PG (zbw X L M scope cl s₀ H₀ ex pn) tg g) (ht:∀ s₀ H₀ ex pn,PIf (zbw X L M scope cl s₀ H₀ ex pn) ifs tt) (he:∀ s₀ H₀ ex pn,PE (zbw X L M scope cl s₀ H₀ ex pn) elt te)
 (hs:∀ x,foldedSetIterable iter X.env x=pure x:=by intro _;rfl)
 (hsw:swapsWith (.ListComp elt [⟨tg,iter,ifs,0⟩] scope pos) (some (.Name x px)) spos.line X.env=pure true:=by rfl)
 (hf:X.fn x=true\/X.env.scope.names.lookup x=some .local:=by first | exact .inl rfl | exact .inr rfl | assumption) :
 PS X (.Assign [.Name x px] (.ListComp elt [⟨tg,iter,ifs,0⟩] scope pos) spos) (zlN (tLC wi L.length g tt te) (Z4 i)):=by
 intro pins s σ H D I h
 rw[exec_Assign_Name_used _ _ _ _ hsw]
 refine u0 (wpAny_standAt (u0 ?_))
 show wpAny _ X.A (do let _<-comprehension (.ListComp elt [⟨tg,iter,ifs,0⟩] scope pos) scope X.env _ (newList []) false (eval iter X.env) (some (assign (.Name x px) X.env))) _ _ s
 refine u0 (thn (zfn (use:=some (assign (.Name x px) X.env)) (Qf:=λ_ s'=>SP X pins D .next s') hc S hi hgS hg ht he hs _ pins s σ H _ I h λD' C H' s' I' ⟨m,hn⟩ f q=>?_) λ_ s' hq=>u9 (u9 hq))
 have hob:∀ b∈[C],∃ o,s'.heap.get? b=some o/\∀ v,o.data≠.cell v:=λb hb=>by
  rw[d4.mp hb]
  obtain⟨o,es,ep,e,d,_⟩:=hn
  exact⟨o,e,λv z=>by rw[z]at d;cases d⟩
 have I2:=I'.pinned (fp:=[C]) (λb hb=>by rw[d4.mp hb];exact f) hob
 refine thn (zt (pos:=px) hN hi' hx hf _ s' σ H' (.ref D') (.ref D') _ I2 rfl q) λ_ s2 hh9=>?_
 obtain⟨σ2,H2,I3,q3⟩:=hh9
 obtain⟨o,es,ep,e,d⟩:=hn
 have pn:=I3.pin (C,o) (o0 _ (o0 _ (yH (d4.mpr rfl) e)))
 exact⟨m,⟨o,es,ep,pn.1,d⟩,λh' sb=>⟨σ2,H2,I3.unpinned.letGo ⟨pn.2.1,f.2⟩ sb,q3⟩⟩
def YV (names rn dn:List (Str × NameKind))(N M cn:List Str):Bool :=
 names.all (λy=>decide (y.2≠.cell))&&names.all (λy=>decide (y.2=.local->names.lookup y.1=some .local)) &&
 rn.all (λy=>decide ((y.2=.cell\/y.2=.free)->y.1∈cn)) &&
 (M.length == N.length)&&(M.zip N).all (λp=>decide ((rn.lookup p.1=some .local\/rn.lookup p.1=some .cell\/rn.lookup p.1=some .free)->p.1=p.2)) &&
 M.all (λy=>decide ((rn.lookup y=some .local\/rn.lookup y=some .cell\/rn.lookup y=some .free) ->
  (rn.lookup y=some .cell\/rn.lookup y=some .free)/\(dn.lookup y=some .local\/dn.lookup y=some .cell\/dn.lookup y=some .free)/\dn.lookup y≠some .local))
theorem wL {X:Cx}{L N M cn:List Str}{scope:Scope}{cl:List (Str × Addr)}{rn dn:List (Str × NameKind)}(hr:(relabel scope X.env).names=rn)(hd:X.env.scope.names=dn)(hN:X.N=N)
 (clos:closureFor scope X.env=pure cl) (kind:scope.kind=.function) (hc:cl.map Prod.fst=cn) (good:YV scope.names rn dn N M cn=true) (sub:∀ p∈cl,X.env.cells.lookup p.1=some p.2):xy X L M scope cl:=by
 unfold YV at good
 simp only[u0n,u0o,d5]at good
 obtain⟨⟨⟨⟨⟨g1,g2⟩,g3⟩,g5⟩,g6⟩,g4⟩:=good
 have g5:M.length=N.length:=by simpa using g5
 refine⟨clos,g1,kind,g2,λy c h=>sub (y,c) (u0z h),λy h=>?_,by rw[hN];exact g5,λi y e v=>?_,λi y e v=>?_,λi y e v=>?_⟩
 .rw[hr]at h
  have hy:y∈cn:=by
   rcases h with h | h
   .exact g3 _ (u0z h) (.inl rfl)
   .exact g3 _ (u0z h) (.inr rfl)
  exact wW (by rw[hc];exact hy)
 .unfold Vis at v
  rw[hr]at v
  have hi:=(u8.mp e).1
  have hj:i < N.length:=by rw[<-g5];exact hi
  have hz:(M.zip N)[i]?=some (y,N[i]):=by
   rw[u3I]
   exact⟨e,u6 hj⟩
  have:=g6 _ (j4 hz) v
  rw[hN,u6 hj]
  exact u1o some this.symm
 .unfold Vis at v
  rw[hr]at v ⊢
  exact(g4 y (j4 e) v).1
 .unfold Vis at v
  rw[hr]at v
  obtain⟨_,k1,k2⟩:=g4 y (j4 e) v
  refine⟨?_,?_⟩
  .unfold Vis;rw[hd];exact k1
  .show X.env.scope.names.lookup y≠_;rw[hd];exact k2
end L2
namespace PySem
open Sem (wp)
open AutoSeq1 (wpAny_loadPart')
section
variable {prog:Program}{w:World}{A:Around}{E:Value->Shared->Prop}{s:Shared}
theorem Yr {it l:Addr}{i:Nat}{items}{x:Value}{Q:Value->Shared->Prop}(hit:s.heap.IsTupleIter it l i)
 (hl:s.heap.IsTuple l items) (hx:items[i]?=some x)
 (hQ:∀ h',h'.IsTupleIter it l (i+1)->Heap.SameBut it s.heap h'->Q x { s with heap:=h' }) :
 wpAny (model prog w) A (Builtin.SmallTypes.nextOf (.ref it)) Q E s:=by
 obtain⟨o,ho,hc,hd⟩:=id hit
 obtain⟨ol,hol,_,nl,hdl⟩:=hl
 unfold Builtin.SmallTypes.nextOf
 refine u0 (u0J (name:=Str.ofString "__next__") hit.typeIs u1A
  (u07 u1A hit.typeIs F.entry_tuple_iterator_next ?_ (F.args_tuple_iterator_next_1 _)))
 show wpAny _ _ (field (.ref it) 0>>=_) _ _ s
 refine u0 (u0K ho hd (x:=.ref l) rfl ?_)
 show wpAny _ _ (if (Value.ref l == Value.none)=true then _ else _) _ _ s
 rw[j8 (show ¬ ((Value.ref l == Value.none)=true)from u7)]
 show wpAny _ _ (field (.ref it) 1>>=_) _ _ s
 refine u0 (u0K ho hd (x:=.int i 0) rfl ?_)
 show wpAny _ _ (seqItems? (.ref l)>>=_) _ _ s
 refine u0 (u05 hol hdl ?_)
 simp only[u2c,hx]
 refine u0 (wpAny_setField ho hd (by simp) (u9 ⟨x,rfl,u9 (hQ _ ?_ (u1h ..))⟩))
 exact⟨_,u14 _ ho (Obj.isFreed_of_fields (Obj.data_mapFields hd _)),(Obj.cls_mapFields ..).trans hc,by
  rw[Obj.data_mapFields hd];simp[rawInt]⟩
theorem xZ {it l:Addr}{i:Nat}{items}{Q:Value->Shared->Prop}(hh:A.handled=none)
 (hit:s.heap.IsTupleIter it l i) (hl:s.heap.IsTuple l items) (hx:items[i]?=none)
 (hE:∀ h' e,Heap.ExtBut it s.heap h'->(∃ o,h'.get? e=some o/\o.cls=.type "StopIteration")->E (.ref e) { s with heap:=h' }) :
 wpAny (model prog w) A (Builtin.SmallTypes.nextOf (.ref it)) Q E s:=by
 obtain⟨o,ho,hc,hd⟩:=id hit
 obtain⟨ol,hol,_,nl,hdl⟩:=hl
 unfold Builtin.SmallTypes.nextOf
 refine u0 (u0J (name:=Str.ofString "__next__") hit.typeIs u1A
  (u07 u1A hit.typeIs F.entry_tuple_iterator_next ?_ (F.args_tuple_iterator_next_1 _)))
 show wpAny _ _ (field (.ref it) 0>>=_) _ _ s
 refine u0 (u0K ho hd (x:=.ref l) rfl ?_)
 show wpAny _ _ (if (Value.ref l == Value.none)=true then _ else _) _ _ s
 rw[j8 (show ¬ ((Value.ref l == Value.none)=true)from u7)]
 show wpAny _ _ (field (.ref it) 1>>=_) _ _ s
 refine u0 (u0K ho hd (x:=.int i 0) rfl ?_)
 show wpAny _ _ (seqItems? (.ref l)>>=_) _ _ s
 refine u0 (u05 hol hdl ?_)
 simp only[u2c,hx]
 refine u0 (u1p (u0 (wpAny_setField ho hd (by simp) ?_)))
 show wpAny _ _ (newExc (.type "StopIteration") []>>=_) _ _ _
 refine u0 ?_
 simp only[newExc,newTuple]
 refine u0 (u1c ?_ (by size_fits))
 refine u0 (m:=firstArgMember _ _) (wpAny_of_eq (a:=Value.none) (by first | rfl | (simp only[firstArgMember];rfl)) ?_)
 refine u1c ?_ (by size_fits)
 simp only[raiseNew]
 refine u0 (wpAny_handled ?_)
 first | rw[show A.in1.handled=none from hh] | rw[hh]
 refine u0 (u9 (wpAny_throw ?_))
 exact hE _ _ (((u1h ..).extBut.push _).push _) ⟨_,r8 _ rfl,rfl⟩
end
theorem YZ {prog:Program}{w:World}{A:Around}{E:Value->Shared->Prop}{s:Shared}{e it l:Addr}{i:Nat}{items:Array Value}{old:Value}{Q:Option Value->Shared->Prop}(hh:A.handled=none)
 (he:IsEnum s.heap e it i old) (hit:s.heap.IsTupleIter it l i) (hl:s.heap.IsTuple l items) (hx:items[i]?=none)
 (hQ:∀ h',Heap.ExtBut it s.heap h'->Q none { s with heap:=h' }):wpAny (model prog w) A (pyNext (.ref e)) Q E s:=by
 have hT:s.TypeIs (.ref e) "enumerate":=⟨_,he,rfl⟩
 unfold pyNext
 refine u0 (u1V (u0J (name:=Str.ofString "__next__") hT F.slot_enumerate_next
  (u07 F.slot_enumerate_next hT F.entry_enumerate_next ?_ (F.args_enumerate_next_1 _))))
 show wpAny _ _ (field (.ref e) 2>>=_) _ _ _
 refine u0 (u0K he rfl (x:=.ref it) rfl ?_)
 refine u0 (xZ hh hit hl hx λh' x he' hx'=>?_)
 obtain⟨o,ho,hc⟩:=hx'
 refine u0 (wpAny_isInstance (T:="StopIteration") (b:=true) ⟨o,ho,hc⟩ isSubtype_stop ?_)
 exact u9 (hQ _ he')
theorem YC {prog:Program}{w:World}{A:Around}(hh:A.handled=none)(it l:Addr)(hne:l≠it)(items:Array Value) :
 Draws prog w A it [it,l] items.size (λi v=>items[i]?=some v) (λi h=>h.IsTupleIter it l i/\h.IsTuple l items) where
 live:=λ_ _ st=>let ⟨o,ho,_⟩:=st.1;⟨o,ho⟩
 frame:=λ_ _ _ st hk=>by
  obtain⟨⟨o,ho,r⟩,⟨o2,ho2,r2⟩⟩:=st
  exact⟨⟨o,hk it (by simp) o ho,r⟩,⟨o2,hk l (by simp) o2 ho2,r2⟩⟩
 item:=λi s Q E hi st hQ=>by
  refine Yr st.1 st.2 (x:=items[i]) (by simp[hi]) λh' hit' hs'=>?_
  exact hQ _ h' s.toks (by simp[hi]) ⟨hit',st.2.extBut hs'.extBut hne⟩ hs'
 done:=λs Q E st hE=>xZ hh st.1 st.2 (by simp) hE
theorem ZL (l:Addr)(items:Array Value)(n:Nat)(dd:Option Addr)(sl:Array (Option Value)) :
 Meets (Builtin.«enumerate.__new__» ⟨[.type "enumerate",.ref l],[]⟩) (λ_ R s=>s.heap.get? l=some { cls:=.type "tuple",dict:=dd,data:=.seq items n,slots:=sl } /\
  R (.ok (.ret (.ref (s.heap.push { cls:=.type "tuple_iterator",data:=.fields #[.ref l,.int 0 0] }).objs.size)))
   { s with heap:=(s.heap.push { cls:=.type "tuple_iterator",data:=.fields #[.ref l,.int 0 0] }).push { cls:=.type "enumerate",data:=.fields #[.none,.bool false,.ref s.heap.objs.size,rawInt 0,.none,.none] } }) :=
 .of_wp λprog w A R s h=>by
  obtain⟨hp,g,d,tk,os⟩:=s;obtain⟨hl,h⟩:=h
  have hsub:=sub_enumerate
  have hL:Heap.IsTuple (Shared.heap ⟨hp,g,d,tk,os⟩) l items:=⟨_,hl,rfl,n,rfl⟩
  wp_walk using u04 hl
  refine wpAny_stack_any λst=>u9 ?_
  split
  .rename_i c _ _ _ _ _
   cases (c == Value.type "enumerate")
   .wp_walk using u04 hl,u0Z hL
    exact⟨_,rfl,h⟩
   .wp_walk using u04 hl,u0Z hL
    exact⟨_,rfl,h⟩
  .wp_walk using u04 hl,u0Z hL
   exact⟨_,rfl,h⟩
section
variable {prog:Program}{w:World}{A:Around}{E:Value->Shared->Prop}{s:Shared}
theorem Y4 {l:Addr}{items:Array Value}{Q:Value->Shared->Prop}
 (hl:s.heap.IsTuple l items)
 (h:∀ h',IsEnum h' (s.heap.objs.size+1) s.heap.objs.size 0 .none->h'.IsTupleIter s.heap.objs.size l 0->h'.objs.size=s.heap.objs.size+2 ->
  (∀ b o,s.heap.get? b=some o->h'.get? b=some o)->Q (.ref (s.heap.objs.size+1)) { s with heap:=h' }) :
 wpAny (model prog w) A (call (.type "enumerate") [.ref l]) Q E s:=by
 obtain⟨⟨cls,dd,data,sl⟩,ho,hc,n,hd⟩:=hl
 simp only at hc hd
 subst hc hd
 refine callType_new F.called_enumerate (by decide) (F.typeCall_enumerate_1 _) (F.newCall_enumerate_1 _) (λobj=>F.args_object_init_2 obj _) F.entry_enumerate_new
  (ZL l items n dd sl) ⟨ho,?_⟩
 have hz:(s.heap.push { cls:=.type "tuple_iterator",data:=.fields #[.ref l,.int 0 0] }).objs.size=s.heap.objs.size+1:=u1v ..
 show _/\_
 rw[hz]
 have he:IsEnum ((s.heap.push { cls:=.type "tuple_iterator",data:=.fields #[.ref l,.int 0 0] }).push
  { cls:=.type "enumerate",data:=.fields #[.none,.bool false,.ref s.heap.objs.size,rawInt 0,.none,.none] }) (s.heap.objs.size+1) s.heap.objs.size 0 .none:=by
  have:=r8 (s.heap.push { cls:=.type "tuple_iterator",data:=.fields #[.ref l,.int 0 0] })
   (o:={ cls:=.type "enumerate",data:=.fields #[.none,.bool false,.ref s.heap.objs.size,rawInt 0,.none,.none] }) rfl
  rw[hz]at this;exact this
 refine⟨⟨_,he,rfl⟩,h _ he ⟨_,u4 _ (r8 _ rfl),rfl,rfl⟩ (by rw[u1v,hz]) λb o x=>u4 _ (u4 _ x)⟩
end
end PySem
namespace L2
open PySem PySem.Spec PyProof.Rows
section
variable {X:Cx}{pins:List (Addr × Obj)}{σ:St}{H:Hp}{s:Shared}{h':Heap}
theorem Inv.grown {ch:List Addr}{T:Addr}{o:HO}{t':Nat}(I:Inv X pins σ H s)(hch:∀ b∈ch,VD X pins H b)(hT:s.heap.objs.size<=T)(k:∀ b u,b∉ch->s.heap.get? b=some u->h'.get? b=some u)
 (new:xt X.prog X.w (upd H T o) h' T o):Inv X pins σ (upd H T o) { s with heap:=h',toks:=t' }:=by
 have hn:H T=none:=I.hok.fresh hT
 have neT:∀ b u,s.heap.get? b=some u->b≠T:=λb u e=>p5 (d8 (j9 e) hT)
 have nch:∀ b u,H b=some u->b∉ch:=λb u e z=>by rw[(hch b z).1]at e;cases e
 refine I.step (g':=s.gens) (d':=s.drawn) (ch:=ch) (λb hb=>?_) (λb u _ _ hc e _=>k b u hc e) (λb u _ _ hc e _=>⟨u.slots,k b u hc e⟩) (λb u _ e n=>by rw[zq (neT b u e)];exact n)
  (λb u hc e=>⟨u,k b u hc e⟩) (λb xs e=>by rw[zq (zk e hn)];exact e) (λb u xs e=>by rw[zq (zk e hn)];exact e) (λb ps e=>by rw[zq (zk e hn)];exact e) (λm hm=>?_) (λb u e=>?_) I.bare
 .obtain⟨_,n1,_,n3,n4,n5⟩:=hch b hb
  exact⟨n3,n1,n4,n5⟩
 .obtain⟨ob,es,ep,ho,r⟩:=hm
  exact⟨ob,es,ep,k _ ob (λz=>(hch _ z).2.1 rfl) ho,r⟩
 .by_cases hb:b=T
  .subst hb;rw[zn]at e;cases e;exact new
  .rw[zq hb]at e
   refine(I.hok b u e).stay (λc v hc q=>k c v ?_ q) (λc q=>by rw[zq (zk q hn)];exact q) λc xs q=>by rw[zq (zk q hn)];exact q
   rcases hc with z | z
   .rw[z];exact nch b u e
   .exact nch c _ z
theorem Inv.turnedN {ch:List Addr}{t':Nat}(I:Inv X pins σ H s)(hch:∀ b∈ch,VD X pins H b)(k:∀ b u,b∉ch->s.heap.get? b=some u->h'.get? b=some u):Inv X pins σ H { s with heap:=h',toks:=t' }:=by
 have nch:∀ b u,H b=some u->b∉ch:=λb u e z=>by rw[(hch b z).1]at e;cases e
 refine I.step (g':=s.gens) (d':=s.drawn) (ch:=ch) (λb hb=>?_) (λb u _ _ hc e _=>k b u hc e) (λb u _ _ hc e _=>⟨u.slots,k b u hc e⟩) (λb u _ e n=>n)
  (λb u hc e=>⟨u,k b u hc e⟩) (λb xs e=>e) (λb u xs e=>e) (λ_ _ e=>e) (λm hm=>?_) (λb u e=>?_) I.bare
 .obtain⟨_,n1,_,n3,n4,n5⟩:=hch b hb
  exact⟨n3,n1,n4,n5⟩
 .obtain⟨ob,es,ep,ho,r⟩:=hm
  exact⟨ob,es,ep,k _ ob (λz=>(hch _ z).2.1 rfl) ho,r⟩
 .refine(I.hok b u e).stay (λc v hc q=>k c v ?_ q) (λc q=>q) λc xs q=>q
  rcases hc with z | z
  .rw[z];exact nch b u e
  .exact nch c _ z
end
def Iel (K:W.Frag)(a:Addr):It :=
 ⟨λi H=>∃ xs x,SqL K H a xs/\xs[i]?=some x,λi H v H'=>∃ T x,v=.ref T/\H T=none/\H'=upd H T (.tup [.int i,x])/\∀ xs,SqL K H a xs->xs[i]?=some x,λi H=>∃ xs,SqL K H a xs/\xs.length<=i⟩
def Iet (K:W.Frag)(a:Addr):It :=
 ⟨λi H=>∃ xs x,SqT K H a xs/\xs[i]?=some x,λi H v H'=>∃ T x,v=.ref T/\H T=none/\H'=upd H T (.tup [.int i,x])/\∀ xs,SqT K H a xs->xs[i]?=some x,λi H=>∃ xs,SqT K H a xs/\xs.length<=i⟩
theorem zdP {P:Program}{w:World}{K:W.Frag}{es:List Expr}{k:Nat}{tp:Pos}(a e it:Addr)(hne:e≠it) :
 zhp P w K (.Tuple es k tp) (Iel K a) [e,it] e (λi h=>(∃ old,IsEnum h e it i old)/\h.IsListIter it a i) where
 mem:=by simp
 obj:=λi h st b hb=>by
  obtain⟨⟨old,he⟩,o,ho,_,hd⟩:=st
  rcases j5.mp hb with rfl | hb
  .exact⟨_,he,λv z=>by cases z⟩
  .rw[d4.mp hb]
   exact⟨o,ho,λv z=>by rw[hd]at z;cases z⟩
 keep:=λi h h' st kk=>by
  obtain⟨⟨old,he⟩,hit⟩:=st
  exact⟨⟨old,kk e (by simp) _ he⟩,hit.at λo q=>kk it (by simp) o q⟩
 item:=by
  intro X hP hw hK hc i pins s σ H E I hf st hg
  subst hP hw hK
  obtain⟨⟨old,he⟩,hit⟩:=st
  obtain⟨xs,x,hq,hx⟩:=hg
  obtain⟨its,rv,p,hz⟩:=I.list hq
  obtain⟨u,hu,ru⟩:=rv.get hx
  refine wpAny_pyNext_enum_item he hit p.isList (x:=u) (by simpa using hu) hne λh1 ho1 hit1 hT1 hz1 hk1=>?_
  refine⟨_,rfl,wpAny_letOwnedTupleGo_enum ho1 λh2 he2 hs2=>?_⟩
  have hfr:H s.heap.objs.size=none:=I.hok.fresh (q5 _)
  have neE:s.heap.objs.size≠e:=u20 (j9 he)
  have hT2:h2.get? s.heap.objs.size=some { cls:=.type "tuple",data:=.seq #[.int i s.toks,u] }:=(hs2.2 _ neE).trans hT1
  refine⟨.ref s.heap.objs.size,upd H s.heap.objs.size (.tup [.int i,x]),?_,rfl,⟨_,x,rfl,hfr,rfl,λys hy=>by rw[I.list_inj hy hq];exact hx⟩,⟨⟨_,by simpa using he2⟩,hit1.at λo q=>(hs2.2 it (u1j hne)).trans q⟩,λb hb=>?_⟩
  .refine I.grown (ch:=[e,it]) hf (q5 _) (λb v hb q=>?_) ?_
   .have n1:b≠e:=λz=>hb (by simp[z])
    have n2:b≠it:=λz=>hb (by simp[z])
    exact(hs2.2 b n1).trans (hk1 b v n1 n2 q)
   .exact⟨by show 2<=sizeLine;decide,[.int i s.toks,u],.cons ⟨_,rfl⟩ (.cons ru .nil),⟨_,hT2,rfl,0,rfl⟩⟩
  .obtain⟨o,hb2,_⟩:∃ o,s.heap.get? b=some o/\True:=by
    rcases j5.mp hb with rfl | hb
    .exact⟨_,he,trivial⟩
    .rw[d4.mp hb]
     obtain⟨o,ho,_⟩:=hit
     exact⟨o,ho,trivial⟩
   rw[zq (p5 (j9 hb2))]
   exact(hf b hb).1
 done:=by
  intro X hP hw hK hc i pins s σ H E I hf st hg
  subst hP hw hK
  obtain⟨⟨old,he⟩,hit⟩:=st
  obtain⟨xs,hq,hx⟩:=hg
  obtain⟨its,rv,p,hz⟩:=I.list hq
  have hl:=rv.length
  exact wpAny_pyNext_enum_end (I.ok.hd hc) he hit p.isList (by simp;omega) λh1 hx1=>⟨rfl,I.turnedN (ch:=[e,it]) (t':=s.toks) hf λb v hb q=>hx1 b v (λz=>hb (by simp[z])) q⟩
 self:=λ_ _ _ _ _ st h=>u2T st.1.choose_spec h
theorem zdY {P:Program}{w:World}{K:W.Frag}{es:List Expr}{k:Nat}{tp:Pos}(a e it:Addr)(hne:e≠it)(hai:a≠it)(hae:a≠e) :
 zhp P w K (.Tuple es k tp) (Iet K a) [e,it] e (λi h=>(∃ old,IsEnum h e it i old)/\h.IsTupleIter it a i) where
 mem:=by simp
 obj:=λi h st b hb=>by
  obtain⟨⟨old,he⟩,o,ho,_,hd⟩:=st
  rcases j5.mp hb with rfl | hb
  .exact⟨_,he,λv z=>by cases z⟩
  .rw[d4.mp hb]
   exact⟨o,ho,λv z=>by rw[hd]at z;cases z⟩
 keep:=λi h h' st kk=>by
  obtain⟨⟨old,he⟩,o,ho,r⟩:=st
  exact⟨⟨old,kk e (by simp) _ he⟩,o,kk it (by simp) o ho,r⟩
 item:=by
  intro X hP hw hK hc i pins s σ H E I hf st hg
  subst hP hw hK
  obtain⟨⟨old,he⟩,hit⟩:=st
  obtain⟨xs,x,hq,hx⟩:=hg
  obtain⟨its,rv,p,hz⟩:=I.tuple hq
  obtain⟨u,hu,ru⟩:=rv.get hx
  have p':s.heap.IsTuple a its.toArray:=p
  have D:=YC (prog:=X.prog) (w:=X.w) (A:=X.A.in1) (I.ok.hd hc) it a hai its.toArray
  have hlt:i < its.toArray.size:=by
   obtain⟨h1,_⟩:=u8.mp hu
   simpa using h1
  refine wpAny_pyNext_enum_itemD D he ⟨hit,p'⟩ hlt hne (by simp[hne,u1j hae]) λu' h1 tk hP1 ho1 hit1 hT1 hz1 hk1=>?_
  have eu:u'=u:=by
   have:its[i]?=some u':=by simpa using hP1
   rw[hu]at this
   exact(u0x this).symm
  subst eu
  refine⟨_,rfl,wpAny_letOwnedTupleGo_enum ho1 λh2 he2 hs2=>?_⟩
  have hfr:H s.heap.objs.size=none:=I.hok.fresh (q5 _)
  have neE:s.heap.objs.size≠e:=u20 (j9 he)
  have hT2:h2.get? s.heap.objs.size=some { cls:=.type "tuple",data:=.seq #[.int i tk,u'] }:=(hs2.2 _ neE).trans hT1
  refine⟨.ref s.heap.objs.size,upd H s.heap.objs.size (.tup [.int i,x]),?_,rfl,⟨_,x,rfl,hfr,rfl,λys hy=>by rw[I.tuple_inj hy hq];exact hx⟩,⟨⟨_,by simpa using he2⟩,?_⟩,λb hb=>?_⟩
  .refine I.grown (ch:=[e,it]) hf (q5 _) (λb v hb q=>?_) ?_
   .have n1:b≠e:=λz=>hb (by simp[z])
    have n2:b≠it:=λz=>hb (by simp[z])
    exact(hs2.2 b n1).trans (hk1 b v n1 n2 q)
   .exact⟨by show 2<=sizeLine;decide,[.int i tk,u'],.cons ⟨_,rfl⟩ (.cons ru .nil),⟨_,hT2,rfl,0,rfl⟩⟩
  .obtain⟨o,ho,r⟩:=hit1.1
   exact⟨o,(hs2.2 it (u1j hne)).trans ho,r⟩
  .obtain⟨o,hb2,_⟩:∃ o,s.heap.get? b=some o/\True:=by
    rcases j5.mp hb with rfl | hb
    .exact⟨_,he,trivial⟩
    .rw[d4.mp hb]
     obtain⟨o,ho,_⟩:=hit
     exact⟨o,ho,trivial⟩
   rw[zq (p5 (j9 hb2))]
   exact(hf b hb).1
 done:=by
  intro X hP hw hK hc i pins s σ H E I hf st hg
  subst hP hw hK
  obtain⟨⟨old,he⟩,hit⟩:=st
  obtain⟨xs,hq,hx⟩:=hg
  obtain⟨its,rv,p,hz⟩:=I.tuple hq
  have hl:=rv.length
  have p':s.heap.IsTuple a its.toArray:=p
  exact YZ (I.ok.hd hc) he hit p' (by simp;omega) λh1 hx1=>⟨rfl,I.turnedN (ch:=[e,it]) (t':=s.toks) hf λb v hb q=>hx1 b v (λz=>hb (by simp[z])) q⟩
 self:=λ_ _ _ _ _ st h=>u2T st.1.choose_spec h
def zl2 (K:W.Frag)(ta:TA):TI:=fun σ H R=>ta σ H λvs H1=>∃ a,vs=[.ref a]/\((∃ xs,H1 a=some (.lst xs)/\R (Iel K a) H1)\/(∃ xs,SqT K H1 a xs/\R (Iet K a) H1))
theorem ziO {X:Cx} {es:List Expr} {k:Nat} {tp:Pos} {a:Expr} {ta:TA} {p pos:Pos} (hg:Gl X "enumerate") (hm:X.mg "enumerate"=none) (hb:bootBuiltins "enumerate"=some (.type "enumerate")) (ha:PA X [a] ta)
 (hs:starEach [a] X.env=[(false,eval a X.env)]:=by rfl):PI X (.Tuple es k tp) (.Call (.Name "enumerate" p) [a] [] pos) (zl2 X.K ta):=by
 intro pins s σ H R I h
 refine Call_ (vt I hg hm hb (u0q (thn (ha pos pins s σ H _ I h) λus s1 hh9=>?_) hs rfl))
 obtain⟨vs,H1,I1,r1,q1⟩:=hh9
 obtain⟨l,e,q⟩:=q1
 subst e
 obtain⟨u,rfl,ru⟩:=za7 r1
 cases ru
 have hn:∀ b,s1.heap.objs.size<=b->VD X pins H1 b:=λb hb=>I1.fpOk hb (I1.hok.fresh hb)
 have hne:s1.heap.objs.size+1≠s1.heap.objs.size:=by omega
 have hfp:∀ b∈[s1.heap.objs.size+1,s1.heap.objs.size],VD X pins H1 b:=λb hb=>by
  rcases j5.mp hb with rfl | hb
  .exact hn _ (u2R _)
  .rw[d4.mp hb];exact hn _ (q5 _)
 rcases q with ⟨xs,hx,q⟩ | ⟨xs,hx,q⟩
 .obtain⟨_,its,n,_,e⟩:xs.length<=sizeLine/\∃ (its:List Value) (n:Nat),yf xs its/\s1.heap.get? l=some { cls:=.type "list",data:=.seq its.toArray n }:=I1.hok _ _ hx
  refine call_enumerate_1 e λh2 he hit hz hk=>u2T he ?_
  exact⟨_,_,_,_,H1,rfl,I1.kept (t':=s1.toks) hk,zdP l _ _ hne,⟨⟨_,he⟩,hit⟩,hfp,q⟩
 .obtain⟨its,_,p1,_⟩:=I1.tuple hx
  have lt:l < s1.heap.objs.size:=by
   obtain⟨o,ho,_⟩:=p1
   exact j9 ho
  refine Y4 (show s1.heap.IsTuple l its.toArray from p1) λh2 he hit hz hk=>u2T he ?_
  exact⟨_,_,_,_,H1,rfl,I1.kept (t':=s1.toks) hk,zdY l _ _ hne (p5 lt) (p5 (u1O lt)),⟨⟨_,he⟩,hit⟩,hfp,q⟩
end L2
namespace HT
open PySem PyProof.Rows
def lexLe:List Int->List Int->Bool
 | [],_=>true
 | _::_,[]=>false
 | x::xs,y::ys=>if x=y then lexLe xs ys else decide (x<=y)
theorem zdw (x y:Int)(xs ys:List Int):lexLe (x::xs) (y::ys)=if x=y then lexLe xs ys else decide (x<=y):=rfl
theorem zg5 (A:Around)(s:Shared)(a:Int)(t:Tok)(c:Int)(u:Tok)(prog:Program)(w:World)(E:Value->Shared->Prop)(Q:Value->Shared->Prop)(h:Q (.bool (decide (a<=c))) s) :
 wpAny (model prog w) A (richCompare .LtE (.int a t) (.int c u)) Q E s :=
 (PyProof.Rows.le_int h:wpAny (model prog w) A (compareOp .LtE (.int a t) (.int c u)) Q E s)
section
open PySem.SeqAt
open PySem.AutoSeq1 (wpAny_loadPart')
open PySem.MeetsSeq PySem.MeetsSeq2 PySem.MeetsSeq3
theorem V4 (l b:Addr)(items items2:Array Value)(n n2:Nat)(dd dd2:Option Addr)(sl sl2:Array (Option Value))(ns ms:List Int)(hi:IntsAre items.toList ns)(hj:IntsAre items2.toList ms) :
 Meets (Builtin.«tuple.__le__» ⟨[.ref l,.ref b],[]⟩)
  (λ_ R s=>s.heap.get? l=some { cls:=.type "tuple",dict:=dd,data:=.seq items n,slots:=sl }/\s.heap.get? b=some { cls:=.type "tuple",dict:=dd2,data:=.seq items2 n2,slots:=sl2 } /\
   R (.ok (.ret (.bool (lexLe ns ms)))) s) :=
 .of_wp λprog w A R s h=>by
  obtain⟨hp,g,d,tk,os⟩:=s;obtain⟨hl,hb,h⟩:=h
  have f2:=AutoSeq1.sub_tuple_tuple
  have z1:items.size=ns.length:=by rw[<-hi.length];simp
  have z2:items2.size=ms.length:=by rw[<-hj.length];simp
  wp_walk using u04 hl,u04 hb,wpAny_forIn_list _ (λrest b s'=>b.1=none/\s'=⟨hp,g,d,tk,os⟩/\∃ (vs ws:List Value) (ns' ms':List Int),rest=vs.zip ws /\
   IntsAre vs ns'/\IntsAre ws ms'/\ns'.length+items2.size=ms'.length+items.size/\R (.ok (.ret (.bool (lexLe ns' ms')))) ⟨hp,g,d,tk,os⟩) _
  case turn =>
   rintro⟨y,x⟩ rest b s' ⟨hb',rfl,vs,ws,ns',ms',hz,hvi,hwi,hlen,hR⟩
   cases hvi with
   | nil=>rw[List.zip_nil_left]at hz;cases hz
   | cons a t hvi' =>
    cases hwi with
    | nil=>rw[u3C]at hz;cases hz
    | cons c u hwi' =>
     rw[u1F]at hz
     injection hz with hyx hrest
     injection hyx with hy hx
     subst hy hx
     rw[zdw]at hR
     simp only[p9]at hlen
     obtain⟨e,he,hiff⟩:=zde A.in1 ⟨hp,g,d,tk,os⟩ a t c u
     refine u0 (he prog w _ _ ?_)
     cases e with
     | true =>
      rw[j3 (hiff.mp rfl)]at hR
      wp_walk
      exact⟨rfl,rfl,_,_,_,_,hrest,hvi',hwi',by omega,hR⟩
     | false =>
      rw[j8 (λq=>absurd (hiff.mpr q) u7)]at hR
      have hri:=zg5 A.in1 ⟨hp,g,d,tk,os⟩ a t c u prog w
      wp_walk using hri
      exact⟨_,rfl,by simpa using hR⟩
  case fin =>
   rintro⟨b1,b2⟩ s' ⟨hb',rfl,vs,ws,ns',ms',hz,hvi,hwi,hlen,hR⟩
   simp only at hb'
   subst hb'
   have hv:lexLe ns' ms'=decide (items.size<=items2.size):=by
    cases hvi with
    | nil =>
     simp only[u17]at hlen
     show true=_
     exact(i5 (by omega)).symm
    | cons a t hv =>
     cases hwi with
     | nil =>
      simp only[u17,p9]at hlen
      show false=_
      exact(h9 (by omega)).symm
     | cons c u hw =>
      rw[u1F]at hz
      cases hz
   rw[hv]at hR
   wp_walk
   exact⟨_,rfl,by simpa [Builtin.Tuple.tupleCompareSizes]using hR⟩
  case h =>
   exact⟨rfl,rfl,items.toList,items2.toList,ns,ms,rfl,hi,hj,by omega,h⟩
end
section
variable {prog:Program}{w:World}{A:Around}{E:Value->Shared->Prop}{s:Shared}
theorem le_tupInts {l b:Addr}{items items2:Array Value}{ns ms:List Int}{Q:Value->Shared->Prop}(hl:IsTup s.heap l items)(hb:IsTup s.heap b items2)(hi:IntsAre items.toList ns)(hj:IntsAre items2.toList ms)
 (hu:A.units < cLine) (h:Q (.bool (lexLe ns ms)) s):wpAny (model prog w) A (compareOp .LtE (.ref l) (.ref b)) Q E s:=by
 obtain⟨⟨cls,dd,data,sl⟩,ho,hc,n,hd⟩:=id hl
 obtain⟨⟨cls2,dd2,data2,sl2⟩,ho2,hc2,n2,hd2⟩:=id hb
 simp only at hc hd hc2 hd2
 subst hc hd hc2 hd2
 exact richCompare_meets_room (op:=.LtE) ⟨_,ho,rfl⟩ ⟨_,ho2,rfl⟩ PySem.F.slot_tuple_le PySem.F.entry_tuple_le (PySem.F.args_tuple_le_2 _ _) (V4 l b items items2 n n2 dd dd2 sl sl2 ns ms hi hj)
  ⟨ho,ho2,show Value.bool (lexLe ns ms)≠Value.notImplemented/\Q (.bool (lexLe ns ms)) s from⟨(λx=>nomatch x),h⟩⟩ hu
end
end HT
namespace L2
open PySem PySem.Spec PyProof.Rows
def rLeT (K:W.Frag):R2:=λx y H Q=>∃ a b ns ms,x=.ref a/\y=.ref b/\SqT K H a (ns.map V.int)/\SqT K H b (ms.map V.int)/\Q (.bl (HT.lexLe ns ms)) H
theorem zjY {X:Cx}(hu:X.A.units < cLine):OpR X (compareOp .LtE) (rLeT X.K):=by
 intro pins s σ H x y v u Q I rx ry h
 obtain⟨a,b,ns,ms,rfl,rfl,ha,hb,q⟩:=h
 cases rx
 cases ry
 obtain⟨its,r1,p1,_⟩:=I.tuple ha
 obtain⟨its2,r2,p2,_⟩:=I.tuple hb
 have i1:IntsAre its.toArray.toList ns:=Xf r1
 have i2:IntsAre its2.toArray.toList ms:=Xf r2
 exact HT.le_tupInts p1 p2 i1 i2 hu ⟨.bl (HT.lexLe ns ms),H,I,rfl,q⟩
end L2
namespace HT
open PySem PyProof.Rows
section
variable {prog:Program}{w:World}{A:Around}{E:Value->Shared->Prop}{s:Shared}
theorem own_getItem_whole {t sl:Addr}{items:Array Value}{vl vu:Value}{lo hi:Option Int}{Q:Value->Shared->Prop}(ht:IsTup s.heap t items)(hs:s.heap.IsSliceOf sl vl vu .none)(pl:IsPart vl lo)(pu:IsPart vu hi)
 (hw:sIx items.size 0 lo=0/\sIx items.size items.size hi=items.size) (h:Q (.ref t) s):wpAny (model prog w) A (getItem (.ref t) (.ref sl)) Q E s:=by
 obtain⟨os,hos,hcs,hds⟩:=id hs
 have hTs:s.TypeIs (.ref sl) "slice":=⟨os,hos,hcs⟩
 unfold getItem
 try with_reducible refine u08 ?_
 first | refine u0 (u9 ?_) | skip
 refine u0 (wpAny_sequenceKey ht.typeIs (by decide) ?_)
 refine u0 (u0J (name:=Str.ofString "__getitem__") ht.typeIs u0E
  (u07 u0E ht.typeIs entry_tuple_getitem ?_ (args_tuple_getitem _ _)))
 show wpAny _ _ (Builtin.Tuple.tupleItemsOf (.ref t)>>=_) _ _ s
 refine u0 (tupleItemsOf_ ht ?_)
 refine u0 (u3F hTs ?_)
 rw[j3 (by decide)]
 refine u0 (v4 hs pl pu ?_)
 have hyes:(((sIx items.size 0 lo:Nat):Int) == 0&&(1:Int) == 1&&(sIx items.size items.size hi - sIx items.size 0 lo) == items.size)=true:=by
  rw[hw.1,hw.2]
  simp
 show wpAny _ _ (if (((sIx items.size 0 lo:Nat):Int) == 0&&(1:Int) == 1&&(sIx items.size items.size hi - sIx items.size 0 lo) == items.size)=true then _ else _) _ _ s
 rw[j3 hyes]
 refine u0 (m:=Builtin.Tuple.tupleIsExact (.ref t)) ?_
 unfold Builtin.Tuple.tupleIsExact
 refine u0 (u3F ht.typeIs (u9 ?_))
 rw[j3 (by decide)]
 refine u0 (u1p ?_)
 first
  | exact u9 ⟨_,rfl,u9 h⟩
  | exact u0 (u9 (u9 ⟨_,rfl,u9 h⟩))
end
end HT
namespace PySem
open Sem (wp)
theorem yj {prog:Program}{w:World}{A:Around}{it a:Addr}{fp:List Addr}{n k:Nat}{P:Nat->Value->Prop}{St:Nat->Heap->Prop}(D:Draws prog w A it fp n P St){h h':Heap}(st:St k h)(sb:Heap.SameBut a h h')(na:a∉fp):St k h' :=
 D.frame _ _ _ st λb hb o e=>(sb.2 b λz=>na (z ▸ hb)).trans e
structure zbp (z TI TO i1 i2:Addr) (fp1 fp2:List Addr):Prop where
 nd:[z,TI,TO,i1,i2].Nodup
 z1:z∉fp1
 z2:z∉fp2
 o1:TO∉fp1
 o2:TO∉fp2
 i12:i1∉fp2
 i21:i2∉fp1
section
variable {prog:Program}{w:World}{A:Around}{E:Value->Shared->Prop}{s:Shared}{z TI TO i1 i2:Addr}{fp1 fp2:List Addr}{n1 n2 k1 k2:Nat}{P1 P2:Nat->Value->Prop}{St1 St2:Nat->Heap->Prop}{a b:Value}
theorem zbG {Q:Value->Shared->Prop}(D1:Draws prog w A i1 fp1 n1 P1 St1)(D2:Draws prog w A i2 fp2 n2 P2 St2)(ap:zbp z TI TO i1 i2 fp1 fp2)
 (hz:IsZip s.heap z TI TO .none) (hTI:IsPair s.heap TI (.ref i1) (.ref i2)) (hTO:IsPair s.heap TO a b) (h1:St1 k1 s.heap) (h2:St2 k2 s.heap) (l1:k1 < n1) (l2:k2 < n2)
 (hQ:∀ x y h' tk,P1 k1 x->P2 k2 y->IsZip h' z TI TO (rawInt s.heap.objs.size)->IsPair h' TO x y->St1 (k1+1) h'->St2 (k2+1) h'->IsPair h' s.heap.objs.size x y ->
  (∀ c o,c∉[z,TO,i1,i2]->s.heap.get? c=some o->h'.get? c=some o)->Q (.ref s.heap.objs.size) { s with heap:=h',toks:=tk }) :
 wpAny (model prog w) A (Builtin.«zip.__next__» ⟨[.ref z],[]⟩) (λfin s'=>∃ v,fin=.done (.ret v)/\Q v s') E s:=by
 obtain⟨nd,az1,az2,ao1,ao2,a12,a21⟩:=ap
 simp only[u0d,j5,p4,u06,u2I,u1P,u1J,u4l]at nd
 obtain⟨⟨n1',n2',n3',n4'⟩,⟨n5,n6,n7⟩,⟨n8,n9⟩,n10⟩:=nd
 show wpAny _ _ (field (.ref z) 2>>=_) _ _ _
 refine u0 (u0K hz rfl (x:=.bool false) rfl ?_)
 show wpAny _ _ (field (.ref z) 3>>=_) _ _ _
 refine u0 (u0K hz rfl (x:=.ref TI) rfl (u0 (u05 hTI rfl ?_)))
 show wpAny _ _ (Builtin.SmallTypes.ownedTupleIsFree (.ref z)>>=_) _ _ _
 refine u0 ?_
 unfold Builtin.SmallTypes.ownedTupleIsFree
 refine u0 (u0K hz rfl (x:=.none) rfl (u9 ?_))
 simp only[u2H]
 refine u0 (u1p (u0 (u0K hz rfl (x:=.ref TO) rfl (u0 (u1q hz (by simp) λg1 z1 b1=>?_)))))
 refine u0 ?_
 simp only[u1Y,u3r,u16,u2g]
 refine u0 (u0 (u3i ?_))
 show wpAny _ _ (Builtin.SmallTypes.nextOf (.ref i1)>>=_) _ _ _
 refine u0 (D1.item k1 _ _ _ l1 (yj D1 h1 b1 az1) λx g2 tk2 px st2 b2=>u9 ?_)
 have o2:IsPair g2 TO a b:=(b2.2 TO n8).trans ((b1.2 TO (u1j n2')).trans hTO)
 refine u0 (u05 o2 rfl (u0 (u3f o2 λg3 o3 b3=>?_)))
 refine u0 (u2s (u9 ?_))
 refine u0 (u0 (u3i ?_))
 show wpAny _ _ (Builtin.SmallTypes.nextOf (.ref i2)>>=_) _ _ _
 have s23:St2 k2 g3:=yj D2 (yj D2 (yj D2 h2 b1 az2) b2 a12) b3 ao2
 refine u0 (D2.item k2 _ _ _ l2 s23 λy g4 tk4 py st4 b4=>u9 ?_)
 have o4:IsPair g4 TO x b:=(b4.2 TO n9).trans o3
 refine u0 (u05 o4 rfl (u0 (u3f o4 λg5 o5 b5=>?_)))
 replace o5:IsPair g5 TO x y:=o5
 refine u0 (u2s (u9 (u9 ?_)))
 refine u0 (u05 o5 rfl ?_)
 show wpAny _ _ (newTuple [x,y]>>=_) _ _ _
 refine u0 (u3L ?_)
 have hsz:g5.objs.size=s.heap.objs.size:=by rw[b5.1,b4.1,b3.1,b2.1,b1.1]
 have z5:IsZip g5 z TI TO .ellipsis:=(b5.2 z n2').trans ((b4.2 z n4').trans ((b3.2 z n2').trans ((b2.2 z n3').trans z1)))
 have zlt:z < g5.objs.size:=j9 z5
 show wpAny _ _ (Builtin.SmallTypes.ownedTupleHandOut (.ref z) (.ref g5.objs.size)>>=_) _ _ _
 refine u0 ?_
 unfold Builtin.SmallTypes.ownedTupleHandOut
 have z6:IsZip (g5.push { cls:=.type "tuple",data:=.seq #[x,y] }) z TI TO .ellipsis:=u4 _ z5
 refine u0 (u1q z6 (by simp) λg7 z7 b7=>?_)
 refine u1q z7 (by simp) λg8 z8 b8=>?_
 have up:∀ c o,c≠z->g5.get? c=some o->g8.get? c=some o:=λc o n e=>(b8.2 c n).trans ((b7.2 c n).trans (u4 _ e))
 have t8:IsPair g8 g5.objs.size x y:=(b8.2 _ (u20 zlt)).trans ((b7.2 _ (u20 zlt)).trans (r8 _ rfl))
 have e8:IsZip g8 z TI TO (rawInt g5.objs.size):=z8
 rw[hsz]at e8 t8
 refine u9 ⟨_,rfl,?_⟩
 show Q (.ref g5.objs.size) _
 rw[hsz]
 have f1:St1 (k1+1) g5:=yj D1 (yj D1 (yj D1 st2 b3 ao1) b4 a21) b5 ao1
 have f2:St2 (k2+1) g5:=yj D2 st4 b5 ao2
 refine hQ x y g8 _ px py e8 (up _ _ (u1j n2') o5) (D1.frame _ _ _ f1 λc hc o e=>up c o (λq=>az1 (q ▸ hc)) e) (D2.frame _ _ _ f2 λc hc o e=>up c o (λq=>az2 (q ▸ hc)) e) t8 λc o hc e=>?_
 simp only[j5,p4,u06,u2I]at hc
 obtain⟨c1,c2,c3,c4⟩:=hc
 exact up c o c1 ((b5.2 c c2).trans ((b4.2 c c4).trans ((b3.2 c c2).trans ((b2.2 c c3).trans ((b1.2 c c1).trans e)))))
theorem zcn {Q:Fin->Shared->Prop}(D1:Draws prog w A i1 fp1 n1 P1 St1)(az1:z∉fp1)(nz:i1≠z)
 (hz:IsZip s.heap z TI TO .none) (hTI:IsPair s.heap TI (.ref i1) (.ref i2)) (h1:St1 n1 s.heap)
 (hE:∀ h' e,(∀ c o,c≠z->c≠i1->s.heap.get? c=some o->h'.get? c=some o)->(∃ o,h'.get? e=some o/\o.cls=.type "StopIteration")->E (.ref e) { s with heap:=h' }) :
 wpAny (model prog w) A (Builtin.«zip.__next__» ⟨[.ref z],[]⟩) Q E s:=by
 show wpAny _ _ (field (.ref z) 2>>=_) _ _ _
 refine u0 (u0K hz rfl (x:=.bool false) rfl ?_)
 show wpAny _ _ (field (.ref z) 3>>=_) _ _ _
 refine u0 (u0K hz rfl (x:=.ref TI) rfl (u0 (u05 hTI rfl ?_)))
 show wpAny _ _ (Builtin.SmallTypes.ownedTupleIsFree (.ref z)>>=_) _ _ _
 refine u0 ?_
 unfold Builtin.SmallTypes.ownedTupleIsFree
 refine u0 (u0K hz rfl (x:=.none) rfl (u9 ?_))
 simp only[u2H]
 refine u0 (u1p (u0 (u0K hz rfl (x:=.ref TO) rfl (u0 (u1q hz (by simp) λg1 z1 b1=>?_)))))
 refine u0 ?_
 simp only[u1Y,u3r,u16,u2g]
 refine u0 (u0 (u3i ?_))
 show wpAny _ _ (Builtin.SmallTypes.nextOf (.ref i1)>>=_) _ _ _
 refine u0 (D1.done _ _ _ (yj D1 h1 b1 az1) λg2 e b2 he=>?_)
 obtain⟨oe,hoe,hce⟩:=he
 have z2:IsZip g2 z TI TO .ellipsis:=b2 _ _ (u1j nz) z1
 have nez:e≠z:=λq=>by subst q;rw[z2]at hoe;cases hoe;simp at hce
 exact u1q z2 (by simp) λg3 _ b3=>hE g3 e (λc o c1 c2 q=>(b3.2 c c1).trans (b2 c o c2 ((b1.2 c c1).trans q))) ⟨oe,(b3.2 e nez).trans hoe,hce⟩
end
def WW (b:Bool)(h:Heap)(it l:Addr)(k:Nat):Prop:=if b=true then h.IsListIter it l k else h.IsTupleIter it l k
def zdZ (b:Bool)(h:Heap)(l:Addr)(items:Array Value):Prop:=if b=true then h.IsList l items else h.IsTuple l items
theorem Yt {prog:Program}{w:World}{A:Around}(hh:A.handled=none)(b:Bool)(it l:Addr)(hne:l≠it)(items:Array Value) :
 Draws prog w A it [it,l] items.size (λi v=>items[i]?=some v) (λi h=>WW b h it l i/\zdZ b h l items):=by
 cases b with
 | true=>exact Draws.list hh it l hne items
 | false=>exact YC hh it l hne items
def zeZ (b:Bool) (l:Addr):Obj:={ cls:=.type (if b=true then "list_iterator" else "tuple_iterator"),data:=.fields #[.ref l,.int 0 0] }
abbrev zpA (h:Heap)(b1:Bool)(l1:Addr):Heap:=h.push (zeZ b1 l1)
abbrev zpB (h:Heap)(b1 b2:Bool)(l1 l2:Addr):Heap:=(zpA h b1 l1).push (zeZ b2 l2)
abbrev zpC (h:Heap) (b1 b2:Bool) (l1 l2:Addr):Heap:=(zpB h b1 b2 l1 l2).push (Obj.mk (.type "tuple") none (.seq #[.ref h.objs.size,.ref (zpA h b1 l1).objs.size]) #[])
abbrev zpD (h:Heap) (b1 b2:Bool) (l1 l2:Addr):Heap:=(zpC h b1 b2 l1 l2).push (Obj.mk (.type "tuple") none (.seq #[.none,.none]) #[])
abbrev zpE (h:Heap) (b1 b2:Bool) (l1 l2:Addr):Heap:=(zpD h b1 b2 l1 l2).push (Obj.mk (.type "zip") none (.fields #[.none,.bool false,.bool false,.ref (zpB h b1 b2 l1 l2).objs.size,.ref (zpC h b1 b2 l1 l2).objs.size]) #[])
theorem zcB (b1 b2:Bool)(l1 l2:Addr)(xs ys:Array Value) :
 Meets (Builtin.«zip.__new__» ⟨[.type "zip",.ref l1,.ref l2],[]⟩) (λ_ R s=>zdZ b1 s.heap l1 xs/\zdZ b2 s.heap l2 ys /\
  R (.ok (.ret (.ref (zpD s.heap b1 b2 l1 l2).objs.size))) { s with heap:=zpE s.heap b1 b2 l1 l2 }) :=
 .of_wp λprog w A R s h=>by
  obtain⟨hp,g,d,tk,os⟩:=s;obtain⟨hl1,hl2,h⟩:=h
  have hsub:=sub_zip
  cases b1 with
  | true =>
   have hL1:Heap.IsList (Shared.heap ⟨hp,g,d,tk,os⟩) l1 xs:=hl1
   cases b2 with
   | true =>
    have hL2:Heap.IsList (Shared.heap ⟨hp.push { cls:=.type "list_iterator",data:=.fields #[.ref l1,.int 0 0] },g,d,tk,os⟩) l2 ys:=Heap.IsList.push hl2 _
    wp_walk using u1R hL1,u1R hL2
    exact⟨_,rfl,h⟩
   | false =>
    have hL2:Heap.IsTuple (Shared.heap ⟨hp.push { cls:=.type "list_iterator",data:=.fields #[.ref l1,.int 0 0] },g,d,tk,os⟩) l2 ys:=Heap.IsTuple.push hl2 _
    wp_walk using u1R hL1,u0Z hL2
    exact⟨_,rfl,h⟩
  | false =>
   have hL1:Heap.IsTuple (Shared.heap ⟨hp,g,d,tk,os⟩) l1 xs:=hl1
   cases b2 with
   | true =>
    have hL2:Heap.IsList (Shared.heap ⟨hp.push { cls:=.type "tuple_iterator",data:=.fields #[.ref l1,.int 0 0] },g,d,tk,os⟩) l2 ys:=Heap.IsList.push hl2 _
    wp_walk using u0Z hL1,u1R hL2
    exact⟨_,rfl,h⟩
   | false =>
    have hL2:Heap.IsTuple (Shared.heap ⟨hp.push { cls:=.type "tuple_iterator",data:=.fields #[.ref l1,.int 0 0] },g,d,tk,os⟩) l2 ys:=Heap.IsTuple.push hl2 _
    wp_walk using u0Z hL1,u0Z hL2
    exact⟨_,rfl,h⟩
end PySem
namespace PySem
section
variable {prog:Program}{w:World}{A:Around}{E:Value->Shared->Prop}{s:Shared}
theorem XE {b1 b2:Bool}{l1 l2:Addr}{xs ys:Array Value}{Q:Value->Shared->Prop}(hl1:zdZ b1 s.heap l1 xs)(hl2:zdZ b2 s.heap l2 ys)
 (h:∀ h',IsZip h' (s.heap.objs.size+4) (s.heap.objs.size+2) (s.heap.objs.size+3) .none->IsPair h' (s.heap.objs.size+2) (.ref s.heap.objs.size) (.ref (s.heap.objs.size+1)) ->
  IsPair h' (s.heap.objs.size+3) .none .none->WW b1 h' s.heap.objs.size l1 0->WW b2 h' (s.heap.objs.size+1) l2 0 ->
  (∀ c o,s.heap.get? c=some o->h'.get? c=some o)->Q (.ref (s.heap.objs.size+4)) { s with heap:=h' }) :
 wpAny (model prog w) A (call (.type "zip") [.ref l1,.ref l2]) Q E s:=by
 refine callType_new F.called_zip (by decide) (F.typeCall_zip_2 _ _) (F.newCall_zip_2 _ _) (λobj=>F.args_object_init_3 obj _ _) F.entry_zip_new
  (zcB b1 b2 l1 l2 xs ys) ⟨hl1,hl2,?_⟩
 have z1:(zpA s.heap b1 l1).objs.size=s.heap.objs.size+1:=u1v ..
 have z2:(zpB s.heap b1 b2 l1 l2).objs.size=s.heap.objs.size+2:=by rw[u1v,z1]
 have z3:(zpC s.heap b1 b2 l1 l2).objs.size=s.heap.objs.size+3:=by rw[u1v,z2]
 have z4:(zpD s.heap b1 b2 l1 l2).objs.size=s.heap.objs.size+4:=by rw[u1v,z3]
 have g5:(zpE s.heap b1 b2 l1 l2).get? (zpD s.heap b1 b2 l1 l2).objs.size=some _:=r8 _ rfl
 have g4:(zpE s.heap b1 b2 l1 l2).get? (zpC s.heap b1 b2 l1 l2).objs.size=some _:=u4 _ (r8 _ rfl)
 have g3:(zpE s.heap b1 b2 l1 l2).get? (zpB s.heap b1 b2 l1 l2).objs.size=some _:=u4 _ (u4 _ (r8 _ rfl))
 have g2:(zpE s.heap b1 b2 l1 l2).get? (zpA s.heap b1 l1).objs.size=some (zeZ b2 l2):=u4 _ (u4 _ (u4 _ (r8 _ rfl)))
 have g1:(zpE s.heap b1 b2 l1 l2).get? s.heap.objs.size=some (zeZ b1 l1):=u4 _ (u4 _ (u4 _ (u4 _ (r8 _ rfl))))
 show _/\_
 rw[z2,z3,z4]at g5
 rw[z1,z2]at g3
 rw[z3]at g4
 rw[z1]at g2
 rw[z4]
 have it0:∀ {b:Bool} {l c:Addr},(zpE s.heap b1 b2 l1 l2).get? c=some (zeZ b l)->WW b (zpE s.heap b1 b2 l1 l2) c l 0:=λ{b l c} e=>by
  cases b
  .exact⟨_,e,rfl,rfl⟩
  .exact⟨_,e,rfl,rfl⟩
 exact⟨⟨_,g5,rfl⟩,h _ g5 g3 g4 (it0 g1) (it0 g2) λc o x =>
  u4 _ (u4 _ (u4 _ (u4 _ (u4 _ x))))⟩
variable {z TI TO i1 i2:Addr}{fp1 fp2:List Addr}{n1 n2 k1 k2:Nat}{P1 P2:Nat->Value->Prop}{St1 St2:Nat->Heap->Prop}{a b:Value}
theorem Zl {Q:Option Value->Shared->Prop}(D1:Draws prog w A.in1 i1 fp1 n1 P1 St1)(D2:Draws prog w A.in1 i2 fp2 n2 P2 St2)(ap:zbp z TI TO i1 i2 fp1 fp2)
 (hz:IsZip s.heap z TI TO .none) (hTI:IsPair s.heap TI (.ref i1) (.ref i2)) (hTO:IsPair s.heap TO a b) (h1:St1 k1 s.heap) (h2:St2 k2 s.heap) (l1:k1 < n1) (l2:k2 < n2)
 (hQ:∀ x y h' tk,P1 k1 x->P2 k2 y->IsZip h' z TI TO (rawInt s.heap.objs.size)->IsPair h' TO x y->St1 (k1+1) h'->St2 (k2+1) h'->IsPair h' s.heap.objs.size x y ->
  (∀ c o,c∉[z,TO,i1,i2]->s.heap.get? c=some o->h'.get? c=some o)->Q (some (.ref s.heap.objs.size)) { s with heap:=h',toks:=tk }) :
 wpAny (model prog w) A (pyNext (.ref z)) Q E s:=by
 have hT:s.TypeIs (.ref z) "zip":=⟨_,hz,rfl⟩
 unfold pyNext
 exact u0 (u1V (u0J (name:=Str.ofString "__next__") hT u13
  (u07 u13 hT F.entry_zip_next
   (zbG D1 D2 ap hz hTI hTO h1 h2 l1 l2 λx y h' tk a1 a2 a3 a4 a5 a6 a7 a8=>u9 (hQ x y h' tk a1 a2 a3 a4 a5 a6 a7 a8)) (u3N _))))
theorem ZW {Q:Option Value->Shared->Prop}(D1:Draws prog w A.in1 i1 fp1 n1 P1 St1)(az1:z∉fp1)(nz:i1≠z)
 (hz:IsZip s.heap z TI TO .none) (hTI:IsPair s.heap TI (.ref i1) (.ref i2)) (h1:St1 n1 s.heap)
 (hQ:∀ h',(∀ c o,c≠z->c≠i1->s.heap.get? c=some o->h'.get? c=some o)->Q none { s with heap:=h' }):wpAny (model prog w) A (pyNext (.ref z)) Q E s:=by
 have hT:s.TypeIs (.ref z) "zip":=⟨_,hz,rfl⟩
 unfold pyNext
 refine u0 (u1V (u0J (name:=Str.ofString "__next__") hT u13
  (u07 u13 hT F.entry_zip_next (zcn D1 az1 nz hz hTI h1 λh' e hk he=>?_) (u3N _))))
 obtain⟨o,ho,hc⟩:=he
 refine u0 (wpAny_isInstance (T:="StopIteration") (b:=true) ⟨o,ho,hc⟩ isSubtype_stop ?_)
 exact u9 (hQ _ hk)
end
end PySem
namespace L2
open PySem PySem.Spec PyProof.Rows
def Sq (b:Bool)(K:W.Frag)(H:Hp)(a:Addr)(xs:List V):Prop:=if b=true then SqL K H a xs else SqT K H a xs
theorem Inv.sq {X:Cx}{pins:List (Addr × Obj)}{σ:St}{H:Hp}{s:Shared}{a:Addr}{xs:List V}{b:Bool}(I:Inv X pins σ H s)(h:Sq b X.K H a xs):∃ its:List Value,yf xs its/\zdZ b s.heap a its.toArray/\a < s.heap.objs.size:=by
 cases b with
 | true =>
  obtain⟨its,r,p,_⟩:=I.list (show SqL X.K H a xs from h)
  exact⟨its,r,p.isList,by obtain⟨o,n,ho,_⟩:=p;exact j9 ho⟩
 | false =>
  obtain⟨its,r,p,_⟩:=I.tuple (show SqT X.K H a xs from h)
  exact⟨its,r,p,by obtain⟨o,ho,_⟩:=p;exact j9 ho⟩
theorem Inv.sq_inj {X:Cx}{pins:List (Addr × Obj)}{σ:St}{H:Hp}{s:Shared}{a:Addr}{xs ys:List V}{b:Bool}(I:Inv X pins σ H s)(h:Sq b X.K H a xs)(h':Sq b X.K H a ys):xs=ys:=by
 cases b with
 | true=>exact I.list_inj h h'
 | false=>exact I.tuple_inj h h'
def Izp (K:W.Frag)(b1 b2:Bool)(l1 l2:Addr):It :=
 ⟨λi H=>∃ xs ys x y,Sq b1 K H l1 xs/\Sq b2 K H l2 ys/\xs[i]?=some x/\ys[i]?=some y,
  λi H v H'=>∃ T x y,v=.ref T/\H T=none/\H'=upd H T (.tup [x,y])/\(∀ xs,Sq b1 K H l1 xs->xs[i]?=some x)/\(∀ ys,Sq b2 K H l2 ys->ys[i]?=some y),
  λi H=>∃ xs,Sq b1 K H l1 xs/\i=xs.length⟩
theorem ZT {b:Bool}{h:Heap}{it l:Addr}{k:Nat}(x:WW b h it l k):∃ o,h.get? it=some o/\∀ v,o.data≠.cell v:=by
 cases b
 .obtain⟨o,ho,_,hd⟩:=x
  exact⟨o,ho,λv z=>by rw[hd]at z;cases z⟩
 .obtain⟨o,ho,_,hd⟩:=x
  exact⟨o,ho,λv z=>by rw[hd]at z;cases z⟩
theorem XW {b:Bool}{h h':Heap}{it l:Addr}{k:Nat}(x:WW b h it l k)(e:∀ o,h.get? it=some o->h'.get? it=some o):WW b h' it l k:=by
 cases b
 .obtain⟨o,ho,r⟩:=x
  exact⟨o,e o ho,r⟩
 .obtain⟨o,ho,r⟩:=x
  exact⟨o,e o ho,r⟩
theorem ZQ {P:Program}{w:World}{K:W.Frag}{es:List Expr}{k:Nat}{tp:Pos}(b1 b2:Bool)(l1 l2 z TI TO i1 i2:Addr)(ap:zbp z TI TO i1 i2 [i1,l1] [i2,l2])(n1:l1≠i1)(n2:l2≠i2) :
 zhp P w K (.Tuple es k tp) (Izp K b1 b2 l1 l2) [z,TI,TO,i1,i2] z (λi h=>IsZip h z TI TO .none/\IsPair h TI (.ref i1) (.ref i2)/\(∃ a b,IsPair h TO a b)/\WW b1 h i1 l1 i/\WW b2 h i2 l2 i) where
 mem:=by simp
 obj:=λi h st b hb=>by
  obtain⟨hz,hTI,⟨a,c,hTO⟩,h1,h2⟩:=st
  simp only[j5,p4,u06]at hb
  rcases hb with rfl | rfl | rfl | rfl | rfl
  .exact⟨_,hz,λv z=>by cases z⟩
  .exact⟨_,hTI,λv z=>by cases z⟩
  .exact⟨_,hTO,λv z=>by cases z⟩
  .exact ZT h1
  .exact ZT h2
 keep:=λi h h' st kk=>by
  obtain⟨hz,hTI,⟨a,c,hTO⟩,h1,h2⟩:=st
  exact⟨kk z (by simp) _ hz,kk TI (by simp) _ hTI,⟨a,c,kk TO (by simp) _ hTO⟩,XW h1 λo q=>kk i1 (by simp) o q,XW h2 λo q=>kk i2 (by simp) o q⟩
 item:=by
  intro X hP hw hK hc i pins s σ H E I hf st hg
  subst hP hw hK
  obtain⟨hz,hTI,⟨a,c,hTO⟩,h1,h2⟩:=st
  obtain⟨xs,ys,x,y,hq1,hq2,hx,hy⟩:=hg
  obtain⟨its,rv,p,_⟩:=I.sq hq1
  obtain⟨its2,rv2,p2,_⟩:=I.sq hq2
  obtain⟨u,hu,ru⟩:=rv.get hx
  obtain⟨u2,hu2,ru2⟩:=rv2.get hy
  have hl1:i < its.toArray.size:=by simpa using (u8.mp hu).1
  have hl2:i < its2.toArray.size:=by simpa using (u8.mp hu2).1
  have hh:X.A.in1.handled=none:=I.ok.hd hc
  refine Zl (Yt hh b1 i1 l1 n1 its.toArray) (Yt hh b2 i2 l2 n2 its2.toArray) ap hz hTI hTO ⟨h1,p⟩ ⟨h2,p2⟩ hl1 hl2 λv1 v2 h' tk e1 e2 hz' hTO' s1 s2 hT' hk=>?_
  have eu:v1=u:=by
   have:its[i]?=some v1:=by simpa using e1
   rw[hu]at this
   exact(u0x this).symm
  have eu2:v2=u2:=by
   have:its2[i]?=some v2:=by simpa using e2
   rw[hu2]at this
   exact(u0x this).symm
  subst eu eu2
  obtain⟨nd,az1,az2,ao1,ao2,a12,a21⟩:=ap
  simp only[u0d,j5,p4,u06,u2I,u1P,u1J,u4l]at nd
  obtain⟨⟨m1,m2,m3,m4⟩,⟨m5,m6,m7⟩,⟨m8,m9⟩,m10⟩:=nd
  refine⟨_,rfl,wpAny_letOwnedTupleGo_zip hz' λh2' hz2 hs2=>?_⟩
  have hfr:H s.heap.objs.size=none:=I.hok.fresh (q5 _)
  have neZ:s.heap.objs.size≠z:=u20 (j9 hz)
  have hT2:IsPair h2' s.heap.objs.size v1 v2:=(hs2.2 _ neZ).trans hT'
  have hTI':IsPair h' TI (.ref i1) (.ref i2):=hk TI _ (by simp[u1j m1,m5,m6,m7]) hTI
  have lt:∀ b∈[z,TI,TO,i1,i2],b < s.heap.objs.size:=λb hb=>by
   simp only[j5,p4,u06]at hb
   rcases hb with rfl | rfl | rfl | rfl | rfl
   .exact j9 hz
   .exact j9 hTI
   .exact j9 hTO
   .obtain⟨o,ho,_⟩:=ZT h1;exact j9 ho
   .obtain⟨o,ho,_⟩:=ZT h2;exact j9 ho
  refine⟨.ref s.heap.objs.size,upd H s.heap.objs.size (.tup [x,y]),?_,rfl,⟨_,x,y,rfl,hfr,rfl,λzs hz=>by rw[I.sq_inj hz hq1];exact hx,λzs hz=>by rw[I.sq_inj hz hq2];exact hy⟩,
   ⟨hz2,(hs2.2 TI (u1j m1)).trans hTI',⟨_,_,(hs2.2 TO (u1j m2)).trans hTO'⟩,XW s1.1 λo q=>(hs2.2 i1 (u1j m3)).trans q,XW s2.1 λo q=>(hs2.2 i2 (u1j m4)).trans q⟩,λb hb=>?_⟩
  .refine I.grown (ch:=[z,TI,TO,i1,i2]) hf (q5 _) (λb v hb q=>?_) ?_
   .have nb:b≠z:=λw=>hb (by simp[w])
    refine(hs2.2 b nb).trans (hk b v (λw=>hb ?_) q)
    simp only[j5,p4,u06]at w ⊢
    rcases w with w | w | w | w
    .exact .inl w
    .exact .inr (.inr (.inl w))
    .exact .inr (.inr (.inr (.inl w)))
    .exact .inr (.inr (.inr (.inr w)))
   .exact⟨by show 2<=sizeLine;decide,[v1,v2],.cons ru (.cons ru2 .nil),⟨_,hT2,rfl,0,rfl⟩⟩
  .rw[zq (p5 (lt b hb))]
   exact(hf b hb).1
 done:=by
  intro X hP hw hK hc i pins s σ H E I hf st hg
  subst hP hw hK
  obtain⟨hz,hTI,⟨a,c,hTO⟩,h1,h2⟩:=st
  obtain⟨xs,hq,rfl⟩:=hg
  obtain⟨its,rv,p,_⟩:=I.sq hq
  have hl:=rv.length
  have hh:X.A.in1.handled=none:=I.ok.hd hc
  have D:=Yt (prog:=X.prog) (w:=X.w) hh b1 i1 l1 n1 its.toArray
  refine ZW D ap.z1 ?_ hz hTI ⟨by rw[t9,<- hl];exact h1,p⟩ λh' hk=>⟨rfl,I.turnedN (ch:=[z,TI,TO,i1,i2]) (t':=s.toks) hf λb v hb q=>hk b v (λw=>hb (by simp[w])) (λw=>hb (by simp[w])) q⟩
  have nd:=ap.nd
  simp only[u0d,j5,p4,u06,u2I,u1P,u1J,u4l]at nd
  exact u1j nd.1.2.2.1
 self:=λ_ _ _ _ _ st h=>u3c st.1 h
def iZip (K:W.Frag)(ta:TA):TI:=fun σ H R=>ta σ H λvs H1=>∃ b1 b2 l1 l2 xs ys,vs=[.ref l1,.ref l2]/\Sq b1 K H1 l1 xs/\Sq b2 K H1 l2 ys/\R (Izp K b1 b2 l1 l2) H1
theorem zkP {X:Cx} {es:List Expr} {k:Nat} {tp:Pos} {a b:Expr} {ta:TA} {p pos:Pos} (hg:Gl X "zip") (hm:X.mg "zip"=none) (hb:bootBuiltins "zip"=some (.type "zip")) (ha:PA X [a,b] ta)
 (hs:starEach [a,b] X.env=[(false,eval a X.env),(false,eval b X.env)]:=by rfl) (hs2:starEach [b] X.env=[(false,eval b X.env)]:=by rfl):PI X (.Tuple es k tp) (.Call (.Name "zip" p) [a,b] [] pos) (iZip X.K ta):=by
 intro pins s σ H R I h
 refine Call_ (vt I hg hm hb (u0q (thn (ha pos pins s σ H _ I h) λus s1 hh9=>?_) (by rw[hs,hs2]) (by rw[hs2];rfl)))
 obtain⟨vs,H1,I1,r1,q1⟩:=hh9
 obtain⟨b1,b2,l1,l2,xs,ys,e,hq1,hq2,q⟩:=q1
 subst e
 obtain⟨u,u2,rfl,ru,ru2⟩:=zco r1
 cases ru
 cases ru2
 obtain⟨its,rv,p1,lt1⟩:=I1.sq hq1
 obtain⟨its2,rv2,p2,lt2⟩:=I1.sq hq2
 refine XE p1 p2 λh2 hz hTI hTO hi1 hi2 hk=>u3c hz ?_
 have hn:∀ b,s1.heap.objs.size<=b->VD X pins H1 b:=λb hb=>I1.fpOk hb (I1.hok.fresh hb)
 have ap:zbp (s1.heap.objs.size+4) (s1.heap.objs.size+2) (s1.heap.objs.size+3) s1.heap.objs.size (s1.heap.objs.size+1) [s1.heap.objs.size,l1] [s1.heap.objs.size+1,l2]:=by
  have q1:l1≠s1.heap.objs.size:=p5 lt1
  have q2:∀ j:Nat,s1.heap.objs.size+j≠l1:=λj e=>u0I _ (d8 (by rw[<-e]at lt1;exact lt1) (i7 _ _))
  have q3:∀ j:Nat,s1.heap.objs.size+j≠l2:=λj e=>u0I _ (d8 (by rw[<-e]at lt2;exact lt2) (i7 _ _))
  have ne:∀ i j:Nat,i≠j->s1.heap.objs.size+i≠s1.heap.objs.size+j:=λi j h e=>h (u2q e)
  have n0:∀ i:Nat,i≠0->s1.heap.objs.size+i≠s1.heap.objs.size:=λi h e=>h (u2q (n:=s1.heap.objs.size) (m:=i) (k:=0) e)
  refine⟨?_,?_,?_,?_,?_,?_,?_⟩
  .simp only[u0d,j5,p4,u06,u2I,u1P,u1J,u4l]
   exact⟨⟨ne 4 2 (by decide),ne 4 3 (by decide),n0 4 (by decide),ne 4 1 (by decide)⟩,⟨ne 2 3 (by decide),n0 2 (by decide),ne 2 1 (by decide)⟩,⟨n0 3 (by decide),ne 3 1 (by decide)⟩,u1j (n0 1 (by decide))⟩
  .simp only[j5,p4,u06,u2I];exact⟨n0 4 (by decide),q2 4⟩
  .simp only[j5,p4,u06,u2I];exact⟨ne 4 1 (by decide),q3 4⟩
  .simp only[j5,p4,u06,u2I];exact⟨n0 3 (by decide),q2 3⟩
  .simp only[j5,p4,u06,u2I];exact⟨ne 3 1 (by decide),q3 3⟩
  .simp only[j5,p4,u06,u2I];exact⟨u1j (n0 1 (by decide)),q3 0⟩
  .simp only[j5,p4,u06,u2I];exact⟨n0 1 (by decide),q2 1⟩
 refine⟨_,_,_,_,H1,rfl,I1.kept (t':=s1.toks) hk,ZQ b1 b2 l1 l2 _ _ _ _ _ ap (p5 lt1) (p5 (u1O lt2)),⟨hz,hTI,⟨_,_,hTO⟩,hi1,hi2⟩,λb hb=>?_,q⟩
 simp only[j5,p4,u06]at hb
 rcases hb with rfl | rfl | rfl | rfl | rfl
 .exact hn _ (i7 _ _)
 .exact hn _ (i7 _ _)
 .exact hn _ (i7 _ _)
 .exact hn _ (q5 _)
 .exact hn _ (i7 _ _)
end L2
namespace OwnSort
open PySem PyProof.Rows
section pure
variable {κ:KeyKind}{xs:Array Keyed}
theorem turned {n:Nat}(hn:n<=xs.size)(h:NonIncK κ xs n):SortedToK κ (mirror xs 0 n ((n - 0) / 2)) n:=λi j hij hj=>by
 rw[KK_mirror hn,KK_mirror hn,j3 ⟨by omega,by omega⟩,j3 ⟨by omega,by omega⟩]
 exact h _ _ (by omega) (by omega)
end pure
abbrev Pr:=Int × Int
def bltP (s t:Pr):Bool:=decide (s.1 < t.1\/(s.1=t.1/\s.2 < t.2))
def TP (h:Heap) (v:Value) (t:Pr):Prop:=∃ a o n tx ty,v=.ref a/\h.get? a=some o/\o.cls=.type "tuple"/\o.data=.seq #[.int t.1 tx,.int t.2 ty] n
theorem TP.uniq {h:Heap}{v:Value}{s t:Pr}(x:TP h v s)(y:TP h v t):s=t:=by
 obtain⟨a,o,n,tx,ty,rfl,e1,_,d1⟩:=x
 obtain⟨b,o2,n2,ux,uy,e,e2,_,d2⟩:=y
 cases e
 rw[e1]at e2
 cases e2
 rw[d1]at d2
 injection d2 with d2 _
 have:=u1o Array.toList d2
 simp at this
 exact u2D this.1.1 this.2.1
theorem TP.keep {h h':Heap}{v:Value}{t:Pr}(x:TP h v t)(k:∀ b o,h.get? b=some o->h'.get? b=some o):TP h' v t:=by
 obtain⟨a,o,n,tx,ty,e,e1,r⟩:=x
 exact⟨a,o,n,tx,ty,e,k _ _ e1,r⟩
open Classical in
noncomputable def keyP (h:Heap)(v:Value):Option Pr:=if x:∃ t,TP h v t then some x.choose else none
theorem keyP_of {h:Heap}{v:Value}{t:Pr}(x:TP h v t):keyP h v=some t:=by
 unfold keyP
 have y:∃ t,TP h v t:=⟨t,x⟩
 rw[dif_pos y,y.choose_spec.uniq x]
@[reducible] noncomputable def kindP (h:Heap):KeyKind where
 α:=Pr
 blt:=bltP
 irrefl a:=by unfold bltP;exact h9 (by omega)
 trans a b c h1 h2:=by unfold bltP at *;rw[d5]at *;omega
 negTrans a b c h:=by unfold bltP at *;rw[d5]at *;rw[d5];omega
 total a b h1 h2:=by
  unfold bltP at *
  rw[u0X]at *
  exact u2D (by omega) (by omega)
 keyOf:=keyP h
 dflt:=(0,0)
theorem zaU (b:Bool)(x y:Value):keyLt' (tuples' b) x y=(do
 let xs<-Builtin.List.listItems x
 let ys<-Builtin.List.listItems y
 for ((p,q),i)in (xs.toList.zip ys.toList).zipIdx do
  if !(<- eqBool p q)then return<-oneLt' (b&&i == 0) p q
 return xs.size < ys.size):=rfl
theorem zbi (v:Value):firstOfTuple' v=(do
 if (<- typeOf v) != .type "tuple" then return none
 return (<- Builtin.List.listItems v)[0]?):=rfl
section
variable {prog:Program}{w:World}{A:Around}{E:Value->Shared->Prop}{s:Shared}
theorem lt0 {a b:Int}{t u:Tok}{Q:Bool->Shared->Prop}(h:Q (decide (a < b)) s):wpAny (model prog w) A (oneLt' false (.int a t) (.int b u)) Q E s:=by
 rw[oneLt'_eq]
 rw[j8 u7]
 exact u0 (PyProof.Rows.lt_int (u1d h))
theorem VX:∀ {fs:List Value},(∀ f∈fs,∃ i t,f=.int i t)->fs.mapM typeOf=pure (fs.map λ_=>Value.type "int")
 | [],_=>by simp
 | f::fs,h=>by
  obtain⟨i,t,rfl⟩:=h f u0F
  rw[u4d,VX λg hg=>h g (u0b _ hg),show typeOf (.int i t)=pure (.type "int")from rfl]
  simp
end
end OwnSort
namespace OwnTim
open PySem PyProof.Rows
abbrev SM:=StateT SortSt Sem
def gal:Bool->Keyed->Array Keyed->Nat->Nat->Nat->SM (Option Nat):=sortPriv% PySem.Builtin.gallop
def bey (l:Bool)(q:Keyed)(v:Array Keyed)(b i:Nat):SM (Option Bool):=do
 let x<-elem' v (b+i)
 if l then lt' x q else
  return (<- lt' q x).map (!·)
def zdl (l:Bool)(q:Keyed)(v:Array Keyed)(b n x0 y0:Nat):SM (Option Nat):=do
 let mut x:=x0
 let mut y:=y0
 for _ in [0:n] do
  if x >= y then break
  let c:=x+(y - x) / 2
  let some z<-bey l q v b c | return none
  if z then x:=c+1 else y:=c
 return some y
theorem zlb (l:Bool)(q:Keyed)(v:Array Keyed)(b n t:Nat):gal l q v b n t=(do
 let some r<-bey l q v b t | return none
 let mut u:=0
 let mut o:=1
 if r then
  let w:=n - t
  for _ in [0:n] do
   if o >= w then break
   let some z<-bey l q v b (t+o) | return none
   if !z then break
   u:=o
   o:=2*o+1
  zdl l q v b n (t+u+1) (t+min o w)
 else
  let w:=t+1
  for _ in [0:n] do
   if o >= w then break
   let some z<-bey l q v b (t - o) | return none
   if z then break
   u:=o
   o:=2*o+1
  zdl l q v b n (t+1 - min o w) (t - u)):=rfl
section
variable {prog:Program}{w:World}{A:Around}{E:Value->Shared->Prop}{s:Shared}{st:SortSt}
theorem zfU {l:Bool}{q:Keyed}{v:Array Keyed}{b n t:Nat}{f:Nat->Bool}{P:Option Nat->SortSt->Prop}(BY:∀ i,i < n->∀ Q:Option Bool->SortSt->Prop,Q (some (f i)) st->wpS (model prog w) A E s (bey l q v b i) Q st)
 (hm:∀ i j,i<=j->j < n->f j=true->f i=true) (ht:t < n) (h:∀ k,k<=n->(∀ i,i < k->f i=true)->(∀ i,k<=i->i < n->f i=false)->P (some k) st):wpS (model prog w) A E s (gal l q v b n t) P st:=by
 have hm':∀ i j,i<=j->j < n->f i=false->f j=false:=λi j hij hj hf=>by
  cases e:f j with
  | false=>rfl
  | true=>rw[hm i j hij hj e]at hf;cases hf
 rw[zlb]
 dsimp only
 have last:∀ x y:Nat,x<=y->y<=n->(∀ i,i < x->f i=true)->(∀ i,y<=i->i < n->f i=false)->wpS (model prog w) A E s (zdl l q v b n x y) P st:=λx y hxy hy h1 h2=>by
  unfold zdl
  dsimp only
  refine r9 (u00 (u0U (I:=λi c t'=>t'=st/\∃ x y,c=(none,x,y)/\x<=y/\y<=n/\y - x<=n - i/\(∀ i,i < x->f i=true)/\∀ i,y<=i->i < n->f i=false) (Q:=λc t'=>t'=st/\∃ y,c=(none,y,y)/\y<=n/\(∀ i,i < y->f i=true)/\∀ i,y<=i->i < n->f i=false)
   (λi c t' _ hi hI=>?_) (λc t' hI=>?_) ⟨rfl,x,y,rfl,hxy,hy,by omega,h1,h2⟩) λc t' hI=>?_)
  .obtain⟨rfl,x,y,rfl,a1,a2,a3,a4,a5⟩:=hI
   dsimp only
   by_cases c1:x >= y
   .rw[j3 c1]
    obtain rfl:x=y:=by omega
    exact d6 ⟨rfl,x,rfl,a2,a4,a5⟩
   .rw[j8 c1]
    obtain⟨c,hc⟩:∃ c,x+(y - x) / 2=c:=⟨_,rfl⟩
    rw[hc]
    have c2:x<=c/\c < y:=by omega
    refine r9 (BY c (by omega) _ ?_)
    dsimp only
    cases e:f c with
    | true =>
     rw[j3 rfl]
     exact d6 ⟨rfl,c+1,y,rfl,by omega,a2,by omega,λj hj=>hm j c (by omega) (by omega) e,a5⟩
    | false =>
     rw[j8 u7]
     exact d6 ⟨rfl,x,c,rfl,by omega,by omega,by omega,a4,λj hj hn=>hm' c j hj hn e⟩
  .obtain⟨rfl,x,y,rfl,a1,a2,a3,a4,a5⟩:=hI
   obtain rfl:x=y:=by omega
   exact⟨rfl,x,rfl,a2,a4,a5⟩
  .obtain⟨rfl,y,rfl,a2,a4,a5⟩:=hI
   exact d6 (h y a2 a4 a5)
 refine r9 (BY t ht _ ?_)
 dsimp only
 cases e:f t with
 | true =>
  rw[j3 rfl]
  refine r9 (u00 (u0U (I:=λi c t'=>t'=st/\∃ u o,c=(none,u,o)/\t+u < n/\u+1<=o/\i+1<=o/\f (t+u)=true) (Q:=λc t'=>t'=st/\∃ u o,c=(none,u,o)/\t+u < n/\u+1<=o/\f (t+u)=true/\(n - t<=o\/(t+o < n/\f (t+o)=false)))
   (λi c t' _ hi hI=>?_) (λc t' hI=>?_) ⟨rfl,0,1,rfl,ht,by omega,by omega,e⟩) λc t' hI=>?_)
  .obtain⟨rfl,u,o,rfl,a1,a2,a3,a4⟩:=hI
   dsimp only
   by_cases c1:o >= n - t
   .rw[j3 c1]
    exact d6 ⟨rfl,u,o,rfl,a1,a2,a4,.inl c1⟩
   .rw[j8 c1]
    refine r9 (BY (t+o) (by omega) _ ?_)
    dsimp only
    cases e2:f (t+o) with
    | false=>exact d6 ⟨rfl,u,o,rfl,a1,a2,a4,.inr ⟨by omega,e2⟩⟩
    | true=>exact d6 ⟨rfl,o,2*o+1,rfl,by omega,by omega,by omega,e2⟩
  .obtain⟨rfl,u,o,rfl,a1,a2,a3,a4⟩:=hI
   exact⟨rfl,u,o,rfl,a1,a2,a4,.inl (by omega)⟩
  .obtain⟨rfl,u,o,rfl,a1,a2,a4,a5⟩:=hI
   have e3:min o (n - t)<=n - t:=u2k _ _
   have e5:u+1<=min o (n - t):=Nat.le_min.mpr ⟨a2,by omega⟩
   have e6:(min o (n - t)=n - t/\n - t<=o)\/(min o (n - t)=o/\t+o < n/\f (t+o)=false):=by
    rcases a5 with a5 | a5
    .exact .inl ⟨u3a a5,a5⟩
    .exact .inr ⟨u0N (by omega),a5⟩
   dsimp only
   refine last (t+u+1) (t+min o (n - t)) (by omega) (by omega) (λi hi=>hm i (t+u) (by omega) a1 a4) λi hi hn=>?_
   rcases e6 with ⟨a5,_⟩ | ⟨a5,a6,a7⟩
   .rw[a5]at hi
    omega
   .rw[a5]at hi
    exact hm' (t+o) i hi hn a7
 | false =>
  rw[j8 u7]
  refine r9 (u00 (u0U (I:=λi c t'=>t'=st/\∃ u o,c=(none,u,o)/\u<=t/\u+1<=o/\i+1<=o/\f (t - u)=false) (Q:=λc t'=>t'=st/\∃ u o,c=(none,u,o)/\u<=t/\u+1<=o/\f (t - u)=false/\(t+1<=o\/(o<=t/\f (t - o)=true)))
   (λi c t' _ hi hI=>?_) (λc t' hI=>?_) ⟨rfl,0,1,rfl,by omega,by omega,by omega,e⟩) λc t' hI=>?_)
  .obtain⟨rfl,u,o,rfl,a1,a2,a3,a4⟩:=hI
   dsimp only
   by_cases c1:o >= t+1
   .rw[j3 c1]
    exact d6 ⟨rfl,u,o,rfl,a1,a2,a4,.inl c1⟩
   .rw[j8 c1]
    refine r9 (BY (t - o) (by omega) _ ?_)
    dsimp only
    cases e2:f (t - o) with
    | true=>exact d6 ⟨rfl,u,o,rfl,a1,a2,a4,.inr ⟨by omega,e2⟩⟩
    | false=>exact d6 ⟨rfl,o,2*o+1,rfl,by omega,by omega,by omega,e2⟩
  .obtain⟨rfl,u,o,rfl,a1,a2,a3,a4⟩:=hI
   exact⟨rfl,u,o,rfl,a1,a2,a4,.inl (by omega)⟩
  .obtain⟨rfl,u,o,rfl,a1,a2,a4,a5⟩:=hI
   have e3:min o (t+1)<=t+1:=u2k _ _
   have e5:u+1<=min o (t+1):=Nat.le_min.mpr ⟨a2,by omega⟩
   have e6:min o (t+1)=t+1\/(min o (t+1)=o/\o<=t/\f (t - o)=true):=by
    rcases a5 with a5 | a5
    .exact .inl (u3a a5)
    .exact .inr ⟨u0N (by omega),a5⟩
   dsimp only
   refine last (t+1 - min o (t+1)) (t - u) (by omega) (by omega) (λi hi=>?_) λi hi hn=>hm' (t - u) i hi hn a4
   rcases e6 with a5 | ⟨a5,a6,a7⟩
   .rw[a5]at hi
    omega
   .rw[a5]at hi
    exact hm i (t - o) (by omega) (by omega) a7
end
structure WI {α:Type} (R:α->α->Prop) (xs ys o:List α) (i j:Nat):Prop where
 pi:i<=xs.length
 pj:j<=ys.length
 pm:o.Perm (xs.take i++ys.take j)
 so:o.Pairwise R
 bx:∀ z∈o,∀ x∈xs.drop i,R z x
 by_:∀ z∈o,∀ y∈ys.drop j,R z y
section
variable {α:Type}{R:α->α->Prop}{xs ys o:List α}{i j k:Nat}
theorem WI.swap (w:WI R xs ys o i j):WI R ys xs o j i:=⟨w.pj,w.pi,w.pm.trans u1m,w.so,w.by_,w.bx⟩
theorem WI.runA (w:WI R xs ys o i j)(sx:xs.Pairwise R)(hk:i+k<=xs.length)(h:∀ x∈(xs.drop i).take k,∀ y∈ys.drop j,R x y):WI R xs ys (o++(xs.drop i).take k) (i+k) j:=by
 have hs:(xs.drop i).Pairwise R:=sx.sublist (u09 _ _)
 have hd:xs.drop (i+k)=(xs.drop i).drop k:=by rw[u1k]
 refine⟨hk,w.pj,?_,?_,λz hz x hx=>?_,λz hz y hy=>?_⟩
 .rw[List.take_add]
  refine(w.pm.append_right _).trans ?_
  rw[b9,b9]
  exact List.Perm.append_left _ u1m
 .rw[u0R]
  exact⟨w.so,hs.sublist (u1N _ _),λa ha b hb=>w.bx a ha b (u0l hb)⟩
 .rw[hd]at hx
  rcases u0w.mp hz with hz | hz
  .exact w.bx z hz x (u0c hx)
  .have e:=i9 k (xs.drop i)
   rw[<-e,u0R]at hs
   exact hs.2.2 z hz x hx
 .rcases u0w.mp hz with hz | hz
  .exact w.by_ z hz y hy
  .exact h z hz y hy
theorem WI.runB (w:WI R xs ys o i j)(sy:ys.Pairwise R)(hk:j+k<=ys.length)(h:∀ y∈(ys.drop j).take k,∀ x∈xs.drop i,R y x):WI R xs ys (o++(ys.drop j).take k) i (j+k):=(w.swap.runA sy hk h).swap
theorem zkK {l:List α}{x:α}{i:Nat}(h:l[i]?=some x):(l.drop i).take 1=[x]:=by
 obtain⟨hi,rfl⟩:=u8.mp h
 rw[u0P hi]
 rfl
theorem WI.pushA {x:α}(w:WI R xs ys o i j)(sx:xs.Pairwise R)(hx:xs[i]?=some x)(h:∀ y∈ys.drop j,R x y):WI R xs ys (o++[x]) (i+1) j:=by
 have hi:=(u8.mp hx).1
 have:=w.runA (k:=1) sx (by omega) (by rw[zkK hx];intro z hz y hy;rw[d4.mp hz];exact h y hy)
 rw[zkK hx]at this
 exact this
theorem WI.pushB {y:α}(w:WI R xs ys o i j)(sy:ys.Pairwise R)(hy:ys[j]?=some y)(h:∀ x∈xs.drop i,R y x):WI R xs ys (o++[y]) i (j+1):=(w.swap.pushA sy hy h).swap
theorem WI.done (w:WI R xs ys o i j)(sx:xs.Pairwise R)(sy:ys.Pairwise R)(h:∀ x∈xs.drop i,∀ y∈ys.drop j,R x y):(o++xs.drop i++ys.drop j).Perm (xs++ys)/\(o++xs.drop i++ys.drop j).Pairwise R:=by
 constructor
 .have e1:=i9 i xs
  have e2:=i9 j ys
  have p:(o++xs.drop i++ys.drop j).Perm (xs.take i++ys.take j++xs.drop i++ys.drop j):=(w.pm.append_right _).append_right _
  refine p.trans ?_
  have q:(xs.take i++ys.take j++xs.drop i++ys.drop j).Perm (xs.take i++xs.drop i++(ys.take j++ys.drop j)):=by
   rw[b9 (xs.take i),b9 (xs.take i),b9 (xs.take i)]
   refine List.Perm.append_left _ ?_
   rw[<-b9]
   exact u1m.append_right _
  rw[e1,e2]at q
  exact q
 .rw[u0R,u0R]
  refine⟨⟨w.so,sx.sublist (u09 _ _),w.bx⟩,sy.sublist (u09 _ _),λa ha b hb=>?_⟩
  rcases u0w.mp ha with ha | ha
  .exact w.by_ a ha b hb
  .exact h a ha b hb
theorem WR (hr:∀ a:α,R a a)(sx:xs.Pairwise R){x:α}(hx:xs[i]?=some x):∀ z∈xs.drop i,R x z:=by
 obtain⟨hi,rfl⟩:=u8.mp hx
 intro z hz
 have hs:(xs.drop i).Pairwise R:=sx.sublist (u09 _ _)
 rw[u0P hi]at hs hz
 rcases j5.mp hz with rfl | hz
 .exact hr _
 .exact(u1g.mp hs).1 z hz
end
def mlo:Array Keyed->Array Keyed->SM (Array Keyed):=sortPriv% PySem.Builtin.mergeLo
def zaY:Nat->SM Unit:=sortPriv% PySem.Builtin.setMinGallop
theorem zg1 (g:Nat):zaY g=modify λs=>SortSt.mk' (kindOf s) (arrOf s) (pendingOf s) g (failedOf s):=rfl
abbrev KA:=Array Keyed
abbrev Z1:=Option KA × KA × Nat × Nat × Nat × Nat
abbrev Z2:=Option KA × KA × Nat × Nat × Nat × Nat × Nat
abbrev Z3:=Option KA × KA × Nat × Nat × Nat
abbrev dn (v u o:KA)(i j:Nat):KA:=o++v.extract i v.size++u.extract j u.size
abbrev ls (v u o:KA)(i j:Nat):KA:=o++u.extract j u.size++v.extract i v.size
def zlL (v u:KA)(g:Nat)(z:Z1):SM (ForInStep Z1):=do
 let e<-elem' u z.2.2.2.1
 let f<-elem' v z.2.2.1
 let some b<-lt' e f | pure (.done (some (dn v u z.2.1 z.2.2.1 z.2.2.2.1),z.2.1,z.2.2.1,z.2.2.2.1,z.2.2.2.2.1,z.2.2.2.2.2))
 if b=true then do
  let e<-elem' u z.2.2.2.1
  if (z.2.2.2.1+1 == u.size)=true then pure (.done (some (dn v u (z.2.1.push e) z.2.2.1 (z.2.2.2.1+1)),z.2.1.push e,z.2.2.1,z.2.2.2.1+1,0,z.2.2.2.2.2+1))
  else if z.2.2.2.2.2+1 >= g then pure (.done (none,z.2.1.push e,z.2.2.1,z.2.2.2.1+1,0,z.2.2.2.2.2+1))
  else pure (.yield (none,z.2.1.push e,z.2.2.1,z.2.2.2.1+1,0,z.2.2.2.2.2+1))
 else do
  let f<-elem' v z.2.2.1
  if (z.2.2.1+1+1 == v.size)=true then pure (.done (some (ls v u (z.2.1.push f) (z.2.2.1+1) z.2.2.2.1),z.2.1.push f,z.2.2.1+1,z.2.2.2.1,z.2.2.2.2.1+1,0))
  else if z.2.2.2.2.1+1 >= g then pure (.done (none,z.2.1.push f,z.2.2.1+1,z.2.2.2.1,z.2.2.2.2.1+1,0))
  else pure (.yield (none,z.2.1.push f,z.2.2.1+1,z.2.2.2.1,z.2.2.2.2.1+1,0))
def loC (v u o:KA)(i j g c d:Nat):SM (ForInStep Z2):=do
 let f<-elem' v i
 if (i+1+1 == v.size)=true then pure (.done (some (ls v u (o.push f) (i+1) j),o.push f,i+1,j,g,c,d))
 else if (decide (c < 7)&&decide (d < 7))=true then pure (.done (none,o.push f,i+1,j,g,c,d))
 else pure (.yield (none,o.push f,i+1,j,g,c,d))
def loB (v u o:KA)(i j g c d:Nat):SM (ForInStep Z2):=do
 let e<-elem' u j
 if (j+1 == u.size)=true then pure (.done (some (dn v u (o.push e) i (j+1)),o.push e,i,j+1,g,c,d))
 else do
  let f<-elem' v i
  let some k<-gal true f u (j+1) (u.size - (j+1)) 0 | pure (.done (some (dn v u (o.push e) i (j+1)),o.push e,i,j+1,g,c,d))
  if k > 0 then
   if (j+1+k == u.size)=true then pure (.done (some (dn v u (o.push e++u.extract (j+1) (j+1+k)) i (j+1+k)),o.push e++u.extract (j+1) (j+1+k),i,j+1+k,g,c,k))
   else loC v u (o.push e++u.extract (j+1) (j+1+k)) i (j+1+k) g c k
  else loC v u (o.push e) i (j+1) g c k
def loA (v u o:KA)(i j g c d:Nat):SM (ForInStep Z2):=do
 zaY g
 let e<-elem' u j
 let some k<-gal false e v i (v.size - i) 0 | pure (.done (some (dn v u o i j),o,i,j,g,c,d))
 if k > 0 then
  if (i+k+1 == v.size)=true then pure (.done (some (ls v u (o++v.extract i (i+k)) (i+k) j),o++v.extract i (i+k),i+k,j,g,k,d))
  else if (i+k == v.size)=true then pure (.done (some (dn v u (o++v.extract i (i+k)) (i+k) j),o++v.extract i (i+k),i+k,j,g,k,d))
  else loB v u (o++v.extract i (i+k)) (i+k) j g k d
 else loB v u o i j g k d
def zlG (v u:KA)(z:Z2):SM (ForInStep Z2) :=
 if z.2.2.2.2.1 > 1 then loA v u z.2.1 z.2.2.1 z.2.2.2.1 (z.2.2.2.2.1 - 1) z.2.2.2.2.2.1 z.2.2.2.2.2.2
 else loA v u z.2.1 z.2.2.1 z.2.2.2.1 z.2.2.2.2.1 z.2.2.2.2.2.1 z.2.2.2.2.2.2
def zlP (v u:KA)(z:Z3):SM (ForInStep Z3):=do
 let y<-forIn [0:v.size+u.size] ((none,z.2.1,z.2.2.1,z.2.2.2.1,0,0):Z1) λ_ q=>zlL v u z.2.2.2.2 q
 match y.1 with
 | some r=>pure (.done (some r,y.2.1,y.2.2.1,y.2.2.2.1,z.2.2.2.2))
 | none=>do
  rule "list.sort.gallop"
  let x<-forIn [0:v.size+u.size] ((none,y.2.1,y.2.2.1,y.2.2.2.1,z.2.2.2.2+1,y.2.2.2.2.1,y.2.2.2.2.2):Z2) λ_ q=>zlG v u q
  match x.1 with
  | some r=>pure (.done (some r,x.2.1,x.2.2.1,x.2.2.2.1,x.2.2.2.2.1))
  | none=>do
   zaY (x.2.2.2.2.1+1)
   pure (.yield (none,x.2.1,x.2.2.1,x.2.2.2.1,x.2.2.2.2.1+1))
theorem zlv (v u:KA):mlo v u=(do
 rule "list.sort.merge-lo"
 let e<-elem' u 0
 if (1 == u.size)=true then pure (dn v u #[e] 0 1)
 else if (0+1 == v.size)=true then pure (ls v u #[e] 0 1)
 else do
  let g<-get
  let z<-forIn [0:v.size+u.size] ((none,#[e],0,1,gallopOf g):Z3) λ_ q=>zlP v u q
  match z.1 with
  | some r=>pure r
  | none=>(unsupported ("internal:list.sort.merge-bound"))):=by
 show @bind SM _ _ _ _ _=_
 dsimp only[zlP,zlG,loA,loB,loC,zlL,elem',lt',gal,zaY,gallopOf]
 congr 1;funext _;congr 1;funext e
 congr 1;congr 1;congr 1;funext g;congr 1
 .congr 1;funext _ z;congr 1
  funext x
  obtain⟨r,x⟩:=x
  cases r with
  | some r=>rfl
  | none =>
   dsimp only
   congr 1;funext _;congr 1
   funext y;obtain⟨r,y⟩:=y;cases r <;> rfl
 .funext y;obtain⟨r,y⟩:=y;cases r <;> rfl
def ky (κ:KeyKind)(x:Keyed):κ.α:=(κ.keyOf x.1).getD κ.dflt
def LE (κ:KeyKind)(x y:Keyed):Prop:=κ.kle (ky κ x) (ky κ y)
theorem LE.refl {κ:KeyKind}(x:Keyed):LE κ x x:=u1l _
theorem LE.trans {κ:KeyKind}{x y z:Keyed}(h:LE κ x y)(h2:LE κ y z):LE κ x z:=u2i h h2
def LtE (prog:Program)(w:World)(A:Around)(E:Value->Shared->Prop)(s:Shared)(κ:KeyKind)(k:SortKind)(D:Keyed->Prop):Prop :=
 ∀ (st:SortSt) (x y:Keyed) (Q:Option Bool->SortSt->Prop),kindOf st=k->D x->D y->Q (some (κ.blt (ky κ x) (ky κ y))) st->wpS (model prog w) A E s (lt' x y) Q st
structure Sm (st t:SortSt):Prop where
 kd:kindOf t=kindOf st
 ar:arrOf t=arrOf st
 pd:pendingOf t=pendingOf st
 fl:failedOf t=failedOf st
theorem Sm.refl (st:SortSt):Sm st st:=⟨rfl,rfl,rfl,rfl⟩
theorem Sm.trans {a b c:SortSt}(h:Sm a b)(h2:Sm b c):Sm a c:=⟨h2.kd.trans h.kd,h2.ar.trans h.ar,h2.pd.trans h.pd,h2.fl.trans h.fl⟩
section
variable {prog:Program}{w:World}{A:Around}{E:Value->Shared->Prop}{s:Shared}{st:SortSt}{κ:KeyKind}{k:SortKind}{D:Keyed->Prop}
theorem zG {v:KA}{i:Nat}{x:Keyed}{Q:Keyed->SortSt->Prop}(h:v.toList[i]?=some x)(q:Q x st):wpS (model prog w) A E s (elem' v i) Q st:=by
 rw[elem'_eq,show v[i]?=some x by rw[<-h];simp]
 exact d6 q
theorem ZF {g:Nat}{Q:Unit->SortSt->Prop}(h:∀ t,Sm st t->Q () t):wpS (model prog w) A E s (zaY g) Q st:=by
 rw[zg1]
 exact u3j (h _ ⟨rfl,rfl,rfl,rfl⟩)
theorem Xq {xs:List Keyed}{b n i:Nat}(hi:i < n)(hn:b+n<=xs.length):∃ x,xs[b+i]?=some x/\((xs.drop b).take n)[i]?=some x:=by
 have:b+i < xs.length:=by omega
 refine⟨xs[b+i],u6 this,?_⟩
 rw[u0r hi,u1D,u6 this]
theorem vD {α:Type}{l:List α}{k:Nat}{x:α}(h:x∈l.take k):∃ i,i < k/\l[i]?=some x:=by
 obtain⟨i,hi⟩:=u18.mp h
 by_cases c:i < k
 .exact⟨i,c,by rw[<-hi,u0r c]⟩
 .rw[u1a (by rw[o9];omega)]at hi
  cases hi
theorem ZA {α:Type}{l:List α}{k:Nat}{x:α}(h:x∈l.drop k):∃ i,k<=i/\l[i]?=some x:=by
 obtain⟨i,hi⟩:=u18.mp h
 rw[u1D]at hi
 exact⟨k+i,by omega,hi⟩
theorem VV {l:List Keyed}(sx:l.Pairwise (LE κ)){i j:Nat}{x y:Keyed}(hij:i<=j)(hx:l[i]?=some x)(hy:l[j]?=some y):LE κ x y:=by
 by_cases e:i=j
 .subst e
  rw[hx]at hy
  cases hy
  exact LE.refl _
 .obtain⟨h1,rfl⟩:=u8.mp hx
  obtain⟨h2,rfl⟩:=u8.mp hy
  exact u0y.mp sx i j h1 h2 (by omega)
theorem zaB {q:Keyed}{v:KA}{b n t:Nat}{P:Option Nat->SortSt->Prop}(L:LtE prog w A E s κ k D)(hk:kindOf st=k)(hq:D q)(hd:∀ x∈(v.toList.drop b).take n,D x)(hn:b+n<=v.toList.length)(ht:t < n)(sx:((v.toList.drop b).take n).Pairwise (LE κ))
 (h:∀ m,m<=n->(∀ x∈((v.toList.drop b).take n).take m,LE κ x q)->(∀ x∈((v.toList.drop b).take n).drop m,κ.klt (ky κ q) (ky κ x))->P (some m) st):wpS (model prog w) A E s (gal false q v b n t) P st:=by
 let f:Nat->Bool:=λi=>match ((v.toList.drop b).take n)[i]? with
  | some x=>!(κ.blt (ky κ q) (ky κ x))
  | none=>false
 have fx:∀ {i x},((v.toList.drop b).take n)[i]?=some x->f i=!(κ.blt (ky κ q) (ky κ x)):=λ{i x} e=>by show(match ((v.toList.drop b).take n)[i]? with | some x=>!(κ.blt (ky κ q) (ky κ x)) | none=>false)=_;rw[e]
 refine zfU (f:=f) (λi hi Q hQ=>?_) (λi j hij hj hf=>?_) ht λm hm h1 h2=>h m hm (λx hx=>?_) λx hx=>?_
 .obtain⟨x,e1,e2⟩:=Xq hi hn
  rw[fx e2]at hQ
  unfold bey
  refine r9 (zG e1 ?_)
  rw[j8 u7]
  exact r9 (L _ _ _ _ hk hq (hd x (j4 e2)) (d6 hQ))
 .obtain⟨x,_,e1⟩:=Xq (i:=i) (by omega) hn
  obtain⟨y,_,e2⟩:=Xq hj hn
  rw[fx e2,u2N]at hf
  rw[fx e1,u2N]
  exact LE.trans (κ:=κ) (y:=y) (VV sx hij e1 e2) hf
 .obtain⟨i,hi,e⟩:=vD hx
  have:=h1 i hi
  rw[fx e,u2N]at this
  exact this
 .obtain⟨i,hi,e⟩:=ZA hx
  have hil:i < n:=by
   have:=(u8.mp e).1
   rw[o9]at this
   omega
  have:=h2 i hi hil
  rw[fx e,Bool.not_eq_false']at this
  exact this
theorem V7 {q:Keyed}{v:KA}{b n t:Nat}{P:Option Nat->SortSt->Prop}(L:LtE prog w A E s κ k D)(hk:kindOf st=k)(hq:D q)(hd:∀ x∈(v.toList.drop b).take n,D x)(hn:b+n<=v.toList.length)(ht:t < n)(sx:((v.toList.drop b).take n).Pairwise (LE κ))
 (h:∀ m,m<=n->(∀ x∈((v.toList.drop b).take n).take m,κ.klt (ky κ x) (ky κ q))->(∀ x∈((v.toList.drop b).take n).drop m,LE κ q x)->P (some m) st):wpS (model prog w) A E s (gal true q v b n t) P st:=by
 let f:Nat->Bool:=λi=>match ((v.toList.drop b).take n)[i]? with
  | some x=>κ.blt (ky κ x) (ky κ q)
  | none=>false
 have fx:∀ {i x},((v.toList.drop b).take n)[i]?=some x->f i=κ.blt (ky κ x) (ky κ q):=λ{i x} e=>by show(match ((v.toList.drop b).take n)[i]? with | some x=>κ.blt (ky κ x) (ky κ q) | none=>false)=_;rw[e]
 refine zfU (f:=f) (λi hi Q hQ=>?_) (λi j hij hj hf=>?_) ht λm hm h1 h2=>h m hm (λx hx=>?_) λx hx=>?_
 .obtain⟨x,e1,e2⟩:=Xq hi hn
  rw[fx e2]at hQ
  unfold bey
  refine r9 (zG e1 ?_)
  rw[j3 rfl]
  exact L _ _ _ _ hk (hd x (j4 e2)) hq hQ
 .obtain⟨x,_,e1⟩:=Xq (i:=i) (by omega) hn
  obtain⟨y,_,e2⟩:=Xq hj hn
  rw[fx e2]at hf
  rw[fx e1]
  exact KeyOrd.klt_of_kle_of_klt (VV sx hij e1 e2) hf
 .obtain⟨i,hi,e⟩:=vD hx
  have:=h1 i hi
  rw[fx e]at this
  exact this
 .obtain⟨i,hi,e⟩:=ZA hx
  have hil:i < n:=by
   have:=(u8.mp e).1
   rw[o9]at this
   omega
  have:=h2 i hi hil
  rw[fx e]at this
  exact this
end
structure Two (κ:KeyKind) (D:Keyed->Prop) (v u:KA):Prop where
 dv:∀ x∈v.toList,D x
 du:∀ y∈u.toList,D y
 sv:v.toList.Pairwise (LE κ)
 su:u.toList.Pairwise (LE κ)
def Fn (κ:KeyKind)(v u r:KA):Prop:=r.toList.Perm (v.toList++u.toList)/\r.toList.Pairwise (LE κ)
structure MI (κ:KeyKind) (v u o:KA) (i j:Nat):Prop where
 li:i+1 < v.size
 lj:j < u.size
 wi:WI (LE κ) v.toList u.toList o.toList i j
section
variable {prog:Program}{w:World}{A:Around}{E:Value->Shared->Prop}{s:Shared}{st:SortSt}{κ:KeyKind}{k:SortKind}{D:Keyed->Prop}{v u o:KA}{i j:Nat}
theorem wc (v:KA)(i j:Nat):(v.extract i j).toList=(v.toList.drop i).take (j - i):=by simp
theorem zao (v:KA)(i:Nat):(v.extract i v.size).toList=v.toList.drop i:=by
 rw[wc,p8 (by rw[i6,r6];omega)]
theorem zbX (T:Two κ D v u)(w:WI (LE κ) v.toList u.toList o.toList i j)(h:j=u.size\/i=v.size):Fn κ v u (dn v u o i j):=by
 have:=w.done T.sv T.su λx hx y hy=>by
  rcases h with rfl | rfl
  .rw[<-r6,u2j]at hy;cases hy
  .rw[<-r6,u2j]at hx;cases hx
 unfold Fn dn
 rw[u0a,u0a,zao,zao]
 exact this
theorem zc5 (T:Two κ D v u)(w:WI (LE κ) v.toList u.toList o.toList i j)(hi:i+1=v.size)(top:∀ y∈u.toList,∀ x,v.toList[v.size - 1]?=some x->LE κ y x):Fn κ v u (ls v u o i j):=by
 have:=w.swap.done T.su T.sv λy hy x hx=>by
  refine top y (u0c hy) x ?_
  obtain⟨a,ha,e⟩:=ZA hx
  have hl:=(u8.mp e).1
  rw[r6]at hl
  rw[show v.size - 1=a by omega]
  exact e
 unfold Fn ls
 rw[u0a,u0a,zao,zao]
 exact⟨this.1.trans u1m,this.2⟩
theorem Vi {v:KA}{i:Nat}(h:i < v.size):∃ x,v.toList[i]?=some x:=⟨_,u6 (by rw[r6];exact h)⟩
def Ok2 (κ:KeyKind)(v u:KA)(n:Nat)(c:Z2):Prop:=(∃ r,c.1=some r/\Fn κ v u r)\/(c.1=none/\MI κ v u c.2.1 c.2.2.1 c.2.2.2.1/\n<=c.2.2.1+c.2.2.2.1)
def Go2 (κ:KeyKind)(v u:KA)(n:Nat):ForInStep Z2->Prop
 | .done c=>Ok2 κ v u n c
 | .yield c=>c.1=none/\MI κ v u c.2.1 c.2.2.1 c.2.2.2.1/\n<=c.2.2.1+c.2.2.2.1
variable {top:∀ y∈u.toList,∀ x,v.toList[v.size - 1]?=some x->LE κ y x}{g c d n:Nat}
theorem zfA (T:Two κ D v u)(top:∀ y∈u.toList,∀ x,v.toList[v.size - 1]?=some x->LE κ y x)(m:MI κ v u o i j){x:Keyed}(hx:v.toList[i]?=some x)(h:∀ y∈u.toList.drop j,LE κ x y)(hn:n<=i+j):wpS (model prog w) A E s (loC v u o i j g c d) (λr t=>t=st/\Go2 κ v u n r) st:=by
 unfold loC
 refine r9 (zG hx ?_)
 have w':=m.wi.pushA T.sv hx h
 rw[<-u1x]at w'
 have li:=m.li
 by_cases e:i+1+1=v.size
 .rw[j3 (p6.mpr e)]
  exact d6 ⟨rfl,.inl ⟨_,rfl,zc5 T w' e top⟩⟩
 .rw[j8 (λz=>e (p6.mp z))]
  have m':MI κ v u (o.push x) (i+1) j:=⟨by omega,m.lj,w'⟩
  split
  .exact d6 ⟨rfl,.inr ⟨rfl,m',by show n<=i+1+j;omega⟩⟩
  .exact d6 ⟨rfl,rfl,m',by show n<=i+1+j;omega⟩
theorem zfi (L:LtE prog w A E s κ k D)(hk:kindOf st=k)(T:Two κ D v u)(top:∀ y∈u.toList,∀ x,v.toList[v.size - 1]?=some x->LE κ y x)(m:MI κ v u o i j){y:Keyed}(hy:u.toList[j]?=some y)(h:∀ x∈v.toList.drop i,LE κ y x)(hn:n<=i+j):wpS (model prog w) A E s (loB v u o i j g c d) (λr t=>t=st/\Go2 κ v u n r) st:=by
 unfold loB
 refine r9 (zG hy ?_)
 have w':=m.wi.pushB T.su hy h
 rw[<-u1x]at w'
 have li:=m.li
 have lj:=m.lj
 by_cases e:j+1=u.size
 .rw[j3 (p6.mpr e)]
  exact d6 ⟨rfl,.inl ⟨_,rfl,zbX T w' (.inl e)⟩⟩
 .rw[j8 (λz=>e (p6.mp z))]
  obtain⟨x,hx⟩:=Vi (v:=v) (i:=i) (by omega)
  refine r9 (zG hx ?_)
  have hul:u.toList.length=u.size:=r6
  have eseg:(u.toList.drop (j+1)).take (u.size - (j+1))=u.toList.drop (j+1):=p8 (by rw[i6];omega)
  refine r9 (V7 L hk (T.dv x (j4 hx)) (λz hz=>T.du z (u0c (u0l hz))) (by omega) (by omega) (by rw[eseg];exact T.su.sublist (u09 _ _)) λq hq h1 h2=>?_)
  rw[eseg]at h1 h2
  dsimp only
  have hx2:=WR (LE.refl (κ:=κ)) T.sv hx
  have w2:=w'.runB (k:=q) T.su (by omega) λz hz a ha=>LE.trans (u0C (h1 z hz)) (hx2 a ha)
  have h3:∀ z∈u.toList.drop (j+1+q),LE κ x z:=λz hz=>h2 z (by rw[u1k];exact hz)
  by_cases e0:q > 0
  .rw[j3 e0]
   have ee:(o.push y++u.extract (j+1) (j+1+q)).toList=(o.push y).toList++(u.toList.drop (j+1)).take q:=by rw[u0a,wc,u1t]
   rw[<-ee]at w2
   by_cases e1:j+1+q=u.size
   .rw[j3 (p6.mpr e1)]
    exact d6 ⟨rfl,.inl ⟨_,rfl,zbX T w2 (.inl e1)⟩⟩
   .rw[j8 (λz=>e1 (p6.mp z))]
    exact zfA T top ⟨li,by omega,w2⟩ hx h3 (by omega)
  .rw[j8 e0]
   obtain rfl:q=0:=by omega
   exact zfA T top ⟨li,by omega,w'⟩ hx h3 (by omega)
theorem zfz (L:LtE prog w A E s κ k D)(hk:kindOf st=k)(T:Two κ D v u)(top:∀ y∈u.toList,∀ x,v.toList[v.size - 1]?=some x->LE κ y x)(m:MI κ v u o i j)(hn:n<=i+j):wpS (model prog w) A E s (loA v u o i j g c d) (λr t=>Sm st t/\Go2 κ v u n r) st:=by
 unfold loA
 refine r9 (ZF λt ht=>?_)
 obtain⟨y,hy⟩:=Vi m.lj
 refine r9 (zG hy ?_)
 have li:=m.li
 have lj:=m.lj
 have hvl:v.toList.length=v.size:=r6
 have eseg:(v.toList.drop i).take (v.size - i)=v.toList.drop i:=p8 (by rw[i6];omega)
 refine r9 (zaB L (ht.kd.trans hk) (T.du y (j4 hy)) (λz hz=>T.dv z (u0c (u0l hz))) (by omega) (by omega) (by rw[eseg];exact T.sv.sublist (u09 _ _)) λq hq h1 h2=>?_)
 rw[eseg]at h1 h2
 dsimp only
 have hy2:=WR (LE.refl (κ:=κ)) T.su hy
 have w2:=m.wi.runA (k:=q) T.sv (by omega) λz hz a ha=>LE.trans (h1 z hz) (hy2 a ha)
 have h3:∀ z∈v.toList.drop (i+q),LE κ y z:=λz hz=>u0C (h2 z (by rw[u1k];exact hz))
 by_cases e0:q > 0
 .rw[j3 e0]
  have ee:(o++v.extract i (i+q)).toList=o.toList++(v.toList.drop i).take q:=by rw[u0a,wc,u1t]
  rw[<-ee]at w2
  by_cases e1:i+q+1=v.size
  .rw[j3 (p6.mpr e1)]
   exact d6 ⟨ht,.inl ⟨_,rfl,zc5 T w2 e1 top⟩⟩
  .rw[j8 (λz=>e1 (p6.mp z))]
   by_cases e2:i+q=v.size
   .rw[j3 (p6.mpr e2)]
    exact d6 ⟨ht,.inl ⟨_,rfl,zbX T w2 (.inr e2)⟩⟩
   .rw[j8 (λz=>e2 (p6.mp z))]
    exact u00 (zfi L (ht.kd.trans hk) T top ⟨by omega,lj,w2⟩ hy h3 (by omega)) λr t' h=>⟨h.1 ▸ ht,h.2⟩
 .rw[j8 e0]
  obtain rfl:q=0:=by omega
  exact u00 (zfi L (ht.kd.trans hk) T top m hy h3 hn) λr t' h=>⟨h.1 ▸ ht,h.2⟩
def Ok1 (κ:KeyKind)(v u:KA)(n:Nat)(c:Z1):Prop:=(∃ r,c.1=some r/\Fn κ v u r)\/(c.1=none/\MI κ v u c.2.1 c.2.2.1 c.2.2.2.1/\n<=c.2.2.1+c.2.2.2.1)
def Go1 (κ:KeyKind)(v u:KA)(n:Nat):ForInStep Z1->Prop
 | .done c=>Ok1 κ v u n c
 | .yield c=>c.1=none/\MI κ v u c.2.1 c.2.2.1 c.2.2.2.1/\n<=c.2.2.1+c.2.2.2.1
theorem zhT (L:LtE prog w A E s κ k D)(hk:kindOf st=k)(T:Two κ D v u)(top:∀ y∈u.toList,∀ x,v.toList[v.size - 1]?=some x->LE κ y x){z:Z1}(m:MI κ v u z.2.1 z.2.2.1 z.2.2.2.1):wpS (model prog w) A E s (zlL v u g z) (λr t=>t=st/\Go1 κ v u (z.2.2.1+z.2.2.2.1+1) r) st:=by
 obtain⟨r,o,i,j,c,d⟩:=z
 dsimp only at m ⊢
 have li:=m.li
 have lj:=m.lj
 unfold zlL
 obtain⟨y,hy⟩:=Vi lj
 obtain⟨x,hx⟩:=Vi (v:=v) (i:=i) (by omega)
 refine r9 (zG hy (r9 (zG hx (r9 (L _ _ _ _ hk (T.du y (j4 hy)) (T.dv x (j4 hx)) ?_)))))
 dsimp only
 have hx2:=WR (LE.refl (κ:=κ)) T.sv hx
 have hy2:=WR (LE.refl (κ:=κ)) T.su hy
 cases e:κ.blt (ky κ y) (ky κ x) with
 | true =>
  rw[j3 rfl]
  refine r9 (zG hy ?_)
  have w':=m.wi.pushB T.su hy λa ha=>LE.trans (u0C e) (hx2 a ha)
  rw[<-u1x]at w'
  by_cases e1:j+1=u.size
  .rw[j3 (p6.mpr e1)]
   exact d6 ⟨rfl,.inl ⟨_,rfl,zbX T w' (.inl e1)⟩⟩
  .rw[j8 (λz=>e1 (p6.mp z))]
   have m':MI κ v u (o.push y) i (j+1):=⟨li,by omega,w'⟩
   split
   .exact d6 ⟨rfl,.inr ⟨rfl,m',by show i+j+1<=i+(j+1);omega⟩⟩
   .exact d6 ⟨rfl,rfl,m',by show i+j+1<=i+(j+1);omega⟩
 | false =>
  rw[j8 u7]
  refine r9 (zG hx ?_)
  have w':=m.wi.pushA T.sv hx λa ha=>LE.trans (κ:=κ) (y:=y) e (hy2 a ha)
  rw[<-u1x]at w'
  by_cases e1:i+1+1=v.size
  .rw[j3 (p6.mpr e1)]
   exact d6 ⟨rfl,.inl ⟨_,rfl,zc5 T w' e1 top⟩⟩
  .rw[j8 (λz=>e1 (p6.mp z))]
   have m':MI κ v u (o.push x) (i+1) j:=⟨by omega,lj,w'⟩
   split
   .exact d6 ⟨rfl,.inr ⟨rfl,m',by show i+j+1<=i+1+j;omega⟩⟩
   .exact d6 ⟨rfl,rfl,m',by show i+j+1<=i+1+j;omega⟩
end
section
variable {prog:Program}{w:World}{A:Around}{E:Value->Shared->Prop}{s:Shared}{st:SortSt}{κ:KeyKind}{k:SortKind}{D:Keyed->Prop}{v u o:KA}{i j:Nat}
def Go3 (κ:KeyKind)(v u:KA)(n:Nat):ForInStep Z3->Prop
 | .done c=>∃ r,c.1=some r/\Fn κ v u r
 | .yield c=>c.1=none/\MI κ v u c.2.1 c.2.2.1 c.2.2.2.1/\n<=c.2.2.1+c.2.2.2.1
theorem zhx {z:Z2}{n:Nat}(L:LtE prog w A E s κ k D)(hk:kindOf st=k)(T:Two κ D v u)(top:∀ y∈u.toList,∀ x,v.toList[v.size - 1]?=some x->LE κ y x)(m:MI κ v u z.2.1 z.2.2.1 z.2.2.2.1)(hn:n<=z.2.2.1+z.2.2.2.1):wpS (model prog w) A E s (zlG v u z) (λr t=>Sm st t/\Go2 κ v u n r) st:=by
 unfold zlG
 split
 .exact zfz L hk T top m hn
 .exact zfz L hk T top m hn
theorem zhj {z:Z3}(L:LtE prog w A E s κ k D)(hk:kindOf st=k)(T:Two κ D v u)(top:∀ y∈u.toList,∀ x,v.toList[v.size - 1]?=some x->LE κ y x)(m:MI κ v u z.2.1 z.2.2.1 z.2.2.2.1):wpS (model prog w) A E s (zlP v u z) (λr t=>Sm st t/\Go3 κ v u (z.2.2.1+z.2.2.2.1+1) r) st:=by
 unfold zlP
 have li:=m.li
 refine r9 (u00 (u0U (I:=λx c t=>t=st/\c.1=none/\MI κ v u c.2.1 c.2.2.1 c.2.2.2.1/\(x=0\/z.2.2.1+z.2.2.2.1+1<=c.2.2.1+c.2.2.2.1)/\z.2.2.1+z.2.2.2.1<=c.2.2.1+c.2.2.2.1) (Q:=λc t=>t=st/\Ok1 κ v u (z.2.2.1+z.2.2.2.1+1) c)
  (λx c t _ _ hI=>?_) (λc t hI=>?_) ⟨rfl,rfl,m,.inl rfl,q5 _⟩) λy t hI=>?_)
 .obtain⟨rfl,h1,h2,h3,h4⟩:=hI
  refine u00 (zhT L hk T top h2) λr t' h=>?_
  obtain⟨rfl,hr⟩:=h
  cases r with
  | done c' =>
   rcases hr with hr | ⟨a1,a2,a3⟩
   .exact⟨rfl,.inl hr⟩
   .exact⟨rfl,.inr ⟨a1,a2,by omega⟩⟩
  | yield c' =>
   obtain⟨a1,a2,a3⟩:=hr
   exact⟨rfl,a1,a2,.inr (by omega),by omega⟩
 .obtain⟨rfl,h1,h2,h3,h4⟩:=hI
  refine⟨rfl,.inr ⟨h1,h2,?_⟩⟩
  rcases h3 with h3 | h3
  .exfalso
   have:max 0 (v.size+u.size)=v.size+u.size:=by omega
   omega
  .exact h3
 .obtain⟨rfl,hy⟩:=hI
  rcases hy with ⟨r,e,hr⟩ | ⟨e,m1,h1⟩
  .rw[e]
   exact d6 ⟨Sm.refl _,r,rfl,hr⟩
  .rw[e]
   dsimp only
   refine r9 (u3G (u1p ⟨rfl,?_⟩))
   refine r9 (u00 (u0U (I:=λx c t'=>Sm t t'/\c.1=none/\MI κ v u c.2.1 c.2.2.1 c.2.2.2.1/\z.2.2.1+z.2.2.2.1+1<=c.2.2.1+c.2.2.2.1) (Q:=λc t'=>Sm t t'/\Ok2 κ v u (z.2.2.1+z.2.2.2.1+1) c)
    (λx c t' _ _ hI=>?_) (λc t' hI=>?_) ⟨Sm.refl _,rfl,m1,h1⟩) λx t' hI=>?_)
   .obtain⟨hs,b1,b2,b3⟩:=hI
    refine u00 (zhx L (hs.kd.trans hk) T top b2 b3) λr t2 h=>?_
    obtain⟨hs2,hr⟩:=h
    cases r with
    | done c'=>exact⟨hs.trans hs2,hr⟩
    | yield c'=>exact⟨hs.trans hs2,hr⟩
   .obtain⟨hs,b1,b2,b3⟩:=hI
    exact⟨hs,.inr ⟨b1,b2,b3⟩⟩
   .obtain⟨hs,hx⟩:=hI
    rcases hx with ⟨r,e,hr⟩ | ⟨e,m2,h2⟩
    .rw[e]
     exact d6 ⟨hs,r,rfl,hr⟩
    .rw[e]
     exact r9 (ZF λt2 hs2=>d6 ⟨hs.trans hs2,rfl,m2,h2⟩)
theorem zjf {P:KA->SortSt->Prop}(L:LtE prog w A E s κ k D)(hk:kindOf st=k)(T:Two κ D v u)(hv:0 < v.size)(hu:0 < u.size)(top:∀ y∈u.toList,∀ x,v.toList[v.size - 1]?=some x->LE κ y x)(bot:∀ x∈v.toList,∀ y,u.toList[0]?=some y->LE κ y x)
 (h:∀ r t,Sm st t->Fn κ v u r->P r t):wpS (model prog w) A E s (mlo v u) P st:=by
 rw[zlv]
 refine r9 (u3G (u1p ⟨rfl,?_⟩))
 obtain⟨y,hy⟩:=Vi hu
 refine r9 (zG hy ?_)
 have w0:WI (LE κ) v.toList u.toList [] 0 0:=⟨u0D _,u0D _,u1Z _,List.Pairwise.nil,(λz hz=>by cases hz),(λz hz=>by cases hz)⟩
 have w1:WI (LE κ) v.toList u.toList (#[y]:KA).toList 0 1:=w0.pushB T.su hy λx hx=>bot x (u0c hx) y hy
 by_cases e1:1=u.size
 .rw[j3 (p6.mpr e1)]
  exact d6 (h _ _ (Sm.refl _) (zbX T w1 (.inl e1)))
 rw[j8 (λz=>e1 (p6.mp z))]
 by_cases e2:0+1=v.size
 .rw[j3 (p6.mpr e2)]
  exact d6 (h _ _ (Sm.refl _) (zc5 T w1 e2 top))
 rw[j8 (λz=>e2 (p6.mp z))]
 refine r9 (u3u ?_)
 refine r9 (u00 (u0U (I:=λx c t=>Sm st t/\c.1=none/\MI κ v u c.2.1 c.2.2.1 c.2.2.2.1/\x+1<=c.2.2.1+c.2.2.2.1) (Q:=λc t=>Sm st t/\∃ r,c.1=some r/\Fn κ v u r)
  (λx c t _ _ hI=>?_) (λc t hI=>?_) ⟨Sm.refl _,rfl,⟨by show 0+1 < v.size;omega,by show 1 < u.size;omega,w1⟩,by show 0+1<=0+1;omega⟩) λy t hI=>?_)
 .obtain⟨hs,b1,b2,b3⟩:=hI
  refine u00 (zhj L (hs.kd.trans hk) T top b2) λr t2 h=>?_
  obtain⟨hs2,hr⟩:=h
  cases r with
  | done c'=>exact⟨hs.trans hs2,hr⟩
  | yield c'=>exact⟨hs.trans hs2,hr.1,hr.2.1,by have:=hr.2.2;omega⟩
 .obtain⟨hs,b1,b2,b3⟩:=hI
  exfalso
  have:=b2.li
  have:=b2.lj
  have:max 0 (v.size+u.size)=v.size+u.size:=by omega
  omega
 .obtain⟨hs,r,e,hr⟩:=hI
  rw[e]
  exact d6 (h r t hs hr)
end
def mhi:Array Keyed->Array Keyed->SM (Array Keyed):=sortPriv% PySem.Builtin.mergeHi
abbrev Y1:=Option KA × Nat × Nat × KA × Nat × Nat
abbrev Y2:=Option KA × Nat × Nat × KA × Nat × Nat × Nat
abbrev Y3:=Option KA × Nat × Nat × KA × Nat
abbrev dh (v u o:KA)(i j:Nat):KA:=v.extract 0 i++u.extract 0 j++o.reverse
abbrev fh (v u o:KA)(i j:Nat):KA:=u.extract 0 j++v.extract 0 i++o.reverse
def zlJ (v u:KA)(g:Nat)(z:Y1):SM (ForInStep Y1):=do
 let e<-elem' u (z.2.2.1 - 1)
 let f<-elem' v (z.2.1 - 1)
 let some b<-lt' e f | pure (.done (some (dh v u z.2.2.2.1 z.2.1 z.2.2.1),z.2.1,z.2.2.1,z.2.2.2.1,z.2.2.2.2.1,z.2.2.2.2.2))
 if b=true then do
  let f<-elem' v (z.2.1 - 1)
  if (z.2.1 - 1 == 0)=true then pure (.done (some (dh v u (z.2.2.2.1.push f) (z.2.1 - 1) z.2.2.1),z.2.1 - 1,z.2.2.1,z.2.2.2.1.push f,z.2.2.2.2.1+1,0))
  else if z.2.2.2.2.1+1 >= g then pure (.done (none,z.2.1 - 1,z.2.2.1,z.2.2.2.1.push f,z.2.2.2.2.1+1,0))
  else pure (.yield (none,z.2.1 - 1,z.2.2.1,z.2.2.2.1.push f,z.2.2.2.2.1+1,0))
 else do
  let e<-elem' u (z.2.2.1 - 1)
  if (z.2.2.1 - 1 == 1)=true then pure (.done (some (fh v u (z.2.2.2.1.push e) z.2.1 (z.2.2.1 - 1)),z.2.1,z.2.2.1 - 1,z.2.2.2.1.push e,0,z.2.2.2.2.2+1))
  else if z.2.2.2.2.2+1 >= g then pure (.done (none,z.2.1,z.2.2.1 - 1,z.2.2.2.1.push e,0,z.2.2.2.2.2+1))
  else pure (.yield (none,z.2.1,z.2.2.1 - 1,z.2.2.2.1.push e,0,z.2.2.2.2.2+1))
def hiC (v u o:KA)(i j g c d:Nat):SM (ForInStep Y2):=do
 let f<-elem' v (i - 1)
 if (i - 1 == 0)=true then pure (.done (some (dh v u (o.push f) (i - 1) j),i - 1,j,o.push f,g,c,d))
 else if (decide (c < 7)&&decide (d < 7))=true then pure (.done (none,i - 1,j,o.push f,g,c,d))
 else pure (.yield (none,i - 1,j,o.push f,g,c,d))
def hiB (v u o:KA)(i j g c d:Nat):SM (ForInStep Y2):=do
 let e<-elem' u (j - 1)
 if (j - 1 == 1)=true then pure (.done (some (fh v u (o.push e) i (j - 1)),i,j - 1,o.push e,g,c,d))
 else do
  let f<-elem' v (i - 1)
  let some p<-gal true f u 0 (j - 1) (j - 1 - 1) | pure (.done (some (dh v u (o.push e) i (j - 1)),i,j - 1,o.push e,g,c,d))
  if j - 1 - p > 0 then
   if (p == 1)=true then pure (.done (some (fh v u (o.push e++(u.extract p (j - 1)).reverse) i p),i,p,o.push e++(u.extract p (j - 1)).reverse,g,c,j - 1 - p))
   else if (p == 0)=true then pure (.done (some (dh v u (o.push e++(u.extract p (j - 1)).reverse) i p),i,p,o.push e++(u.extract p (j - 1)).reverse,g,c,j - 1 - p))
   else hiC v u (o.push e++(u.extract p (j - 1)).reverse) i p g c (j - 1 - p)
  else hiC v u (o.push e) i (j - 1) g c (j - 1 - p)
def hiA (v u o:KA)(i j g c d:Nat):SM (ForInStep Y2):=do
 zaY g
 let e<-elem' u (j - 1)
 let some p<-gal false e v 0 i (i - 1) | pure (.done (some (dh v u o i j),i,j,o,g,c,d))
 if i - p > 0 then
  if (p == 0)=true then pure (.done (some (dh v u (o++(v.extract p i).reverse) p j),p,j,o++(v.extract p i).reverse,g,i - p,d))
  else hiB v u (o++(v.extract p i).reverse) p j g (i - p) d
 else hiB v u o i j g (i - p) d
def zlT (v u:KA)(z:Y2):SM (ForInStep Y2) :=
 if z.2.2.2.2.1 > 1 then hiA v u z.2.2.2.1 z.2.1 z.2.2.1 (z.2.2.2.2.1 - 1) z.2.2.2.2.2.1 z.2.2.2.2.2.2
 else hiA v u z.2.2.2.1 z.2.1 z.2.2.1 z.2.2.2.2.1 z.2.2.2.2.2.1 z.2.2.2.2.2.2
def zlS (v u:KA)(z:Y3):SM (ForInStep Y3):=do
 let y<-forIn [0:v.size+u.size] ((none,z.2.1,z.2.2.1,z.2.2.2.1,0,0):Y1) λ_ q=>zlJ v u z.2.2.2.2 q
 match y.1 with
 | some r=>pure (.done (some r,y.2.1,y.2.2.1,y.2.2.2.1,z.2.2.2.2))
 | none=>do
  rule "list.sort.gallop"
  let x<-forIn [0:v.size+u.size] ((none,y.2.1,y.2.2.1,y.2.2.2.1,z.2.2.2.2+1,y.2.2.2.2.1,y.2.2.2.2.2):Y2) λ_ q=>zlT v u q
  match x.1 with
  | some r=>pure (.done (some r,x.2.1,x.2.2.1,x.2.2.2.1,x.2.2.2.2.1))
  | none=>do
   zaY (x.2.2.2.2.1+1)
   pure (.yield (none,x.2.1,x.2.2.1,x.2.2.2.1,x.2.2.2.2.1+1))
theorem zku (v u:KA):mhi v u=(do
 rule "list.sort.merge-hi"
 let e<-elem' v (v.size - 1)
 if (v.size - 1 == 0)=true then pure (dh v u #[e] (v.size - 1) u.size)
 else if (u.size == 1)=true then pure (fh v u #[e] (v.size - 1) u.size)
 else do
  let g<-get
  let z<-forIn [0:v.size+u.size] ((none,v.size - 1,u.size,#[e],gallopOf g):Y3) λ_ q=>zlS v u q
  match z.1 with
  | some r=>pure r
  | none=>(unsupported ("internal:list.sort.merge-bound"))):=by
 show @bind SM _ _ _ _ _=_
 dsimp only[zlS,zlT,hiA,hiB,hiC,zlJ,elem',lt',gal,zaY,gallopOf]
 congr 1;funext _;congr 1;funext e
 congr 1;congr 1;congr 1;funext g;congr 1
 .congr 1;funext _ z;congr 1
  funext x
  obtain⟨r,x⟩:=x
  cases r with
  | some r=>rfl
  | none =>
   dsimp only
   congr 1;funext _;congr 1
   funext y;obtain⟨r,y⟩:=y;cases r <;> rfl
 .funext y;obtain⟨r,y⟩:=y;cases r <;> rfl
structure MH (κ:KeyKind) (v u o:KA) (i j:Nat):Prop where
 li:i<=v.size
 lj:j<=u.size
 wi:WI (λa b=>LE κ b a) v.toList.reverse u.toList.reverse o.toList (v.size - i) (u.size - j)
section
variable {κ:KeyKind}{D:Keyed->Prop}{v u o:KA}{i j:Nat}
theorem yI {v:KA}{i:Nat}(h:i<=v.size):v.toList.reverse.drop (v.size - i)=(v.toList.take i).reverse:=by
 rw[List.drop_reverse,r6,Nat.sub_sub_self h]
theorem xa {l:List Keyed}(h:l.Pairwise (LE κ)):l.reverse.Pairwise λa b=>LE κ b a:=u19.mpr h
theorem zfd {v:KA}{i:Nat}(h0:0 < i)(h:i<=v.size):v.toList.reverse[v.size - i]?=v.toList[i - 1]?:=by
 rw[List.getElem?_reverse (by rw[r6];omega),r6,show v.size - 1 - (v.size - i)=i - 1 by omega]
theorem MH.pushA (T:Two κ D v u)(m:MH κ v u o i j)(h0:0 < i){x:Keyed}(hx:v.toList[i - 1]?=some x)(h:∀ y∈u.toList.take j,LE κ y x):MH κ v u (o.push x) (i - 1) j:=by
 have li:=m.li
 refine⟨by omega,m.lj,?_⟩
 have:=m.wi.pushA (x:=x) (xa T.sv) (by rw[zfd h0 li];exact hx) λy hy=>h y (by rw[yI m.lj]at hy;exact u1s.mp hy)
 rw[<-u1x,show v.size - i+1=v.size - (i - 1) by omega]at this
 exact this
theorem MH.pushB (T:Two κ D v u)(m:MH κ v u o i j)(h0:0 < j){y:Keyed}(hy:u.toList[j - 1]?=some y)(h:∀ x∈v.toList.take i,LE κ x y):MH κ v u (o.push y) i (j - 1):=by
 have lj:=m.lj
 refine⟨m.li,by omega,?_⟩
 have:=m.wi.pushB (y:=y) (xa T.su) (by rw[zfd h0 lj];exact hy) λx hx=>h x (by rw[yI m.li]at hx;exact u1s.mp hx)
 rw[<-u1x,show u.size - j+1=u.size - (j - 1) by omega]at this
 exact this
theorem zaC {v:KA}{p i:Nat}(hp:p<=i)(h:i<=v.size):(v.toList.reverse.drop (v.size - i)).take (i - p)=(v.extract p i).reverse.toList:=by
 rw[yI h,List.take_reverse,u1L,wc,o9,r6,u0N h,Nat.sub_sub_self hp,u2W]
theorem MH.runA (T:Two κ D v u)(m:MH κ v u o i j){p:Nat}(hp:p<=i)(h:∀ x∈(v.toList.take i).drop p,∀ y∈u.toList.take j,LE κ y x):MH κ v u (o++(v.extract p i).reverse) p j:=by
 have li:=m.li
 refine⟨by omega,m.lj,?_⟩
 have:=m.wi.runA (k:=i - p) (xa T.sv) (by rw[u2n,r6];omega) λx hx y hy=>by
  rw[zaC hp li,u1L,wc]at hx
  rw[yI m.lj]at hy
  exact h x (by rw[u2W];exact u1s.mp hx) y (u1s.mp hy)
 rw[zaC hp li,<- u0a,show v.size - i+(i - p)=v.size - p by omega]at this
 exact this
theorem MH.runB (T:Two κ D v u)(m:MH κ v u o i j){p:Nat}(hp:p<=j)(h:∀ y∈(u.toList.take j).drop p,∀ x∈v.toList.take i,LE κ x y):MH κ v u (o++(u.extract p j).reverse) i p:=by
 have lj:=m.lj
 refine⟨m.li,by omega,?_⟩
 have:=m.wi.runB (k:=j - p) (xa T.su) (by rw[u2n,r6];omega) λx hx y hy=>by
  rw[zaC hp lj,u1L,wc]at hx
  rw[yI m.li]at hy
  exact h x (by rw[u2W];exact u1s.mp hx) y (u1s.mp hy)
 rw[zaC hp lj,<- u0a,show u.size - j+(j - p)=u.size - p by omega]at this
 exact this
theorem X8 (v:KA)(i:Nat):(v.extract 0 i).toList=v.toList.take i:=by rw[wc,u10,Nat.sub_zero]
theorem zaN (T:Two κ D v u)(m:MH κ v u o i j)(h:i=0\/j=0):Fn κ v u (dh v u o i j):=by
 have e:=m.wi.swap.done (xa T.su) (xa T.sv) λy hy x hx=>by
  rw[yI m.lj]at hy
  rw[yI m.li]at hx
  rcases h with rfl | rfl
  .rw[u4f]at hx;cases hx
  .rw[u4f]at hy;cases hy
 rw[yI m.lj,yI m.li]at e
 have er:(dh v u o i j).toList=(o.toList++(u.toList.take j).reverse++(v.toList.take i).reverse).reverse:=by
  unfold dh
  rw[u0a,u0a,X8,X8,u1L,u2p,u2p,u2f,u2f,b9]
 constructor
 .rw[er]
  refine(u1z _).trans (e.1.trans ?_)
  exact(u1m).trans ((u1z _).append (u1z _))
 .rw[er,u19]
  exact e.2
theorem zcT (T:Two κ D v u)(m:MH κ v u o i j)(hj:j=1)(bot:∀ x∈v.toList,∀ y,u.toList[0]?=some y->LE κ y x):Fn κ v u (fh v u o i j):=by
 have e:=m.wi.done (xa T.sv) (xa T.su) λx hx y hy=>by
  rw[yI m.lj]at hy
  rw[yI m.li]at hx
  refine bot x (u0l (u1s.mp hx)) y ?_
  obtain⟨a,ha,ea⟩:=vD (u1s.mp hy)
  obtain rfl:a=0:=by omega
  exact ea
 rw[yI m.lj,yI m.li]at e
 have er:(fh v u o i j).toList=(o.toList++(v.toList.take i).reverse++(u.toList.take j).reverse).reverse:=by
  unfold fh
  rw[u0a,u0a,X8,X8,u1L,u2p,u2p,u2f,u2f,b9]
 constructor
 .rw[er]
  exact(u1z _).trans (e.1.trans ((u1z _).append (u1z _)))
 .rw[er,u19]
  exact e.2
theorem zbK {l:List Keyed}(s:l.Pairwise (LE κ)){i:Nat}{x:Keyed}(h0:0 < i)(hx:l[i - 1]?=some x):∀ z∈l.take i,LE κ z x:=λz hz=>by
 obtain⟨a,ha,e⟩:=vD hz
 exact VV s (by omega) e hx
def Oj2 (κ:KeyKind)(v u:KA)(n:Nat)(c:Y2):Prop:=(∃ r,c.1=some r/\Fn κ v u r)\/(c.1=none/\(0 < c.2.1/\1 < c.2.2.1)/\MH κ v u c.2.2.2.1 c.2.1 c.2.2.1/\c.2.1+c.2.2.1<=n)
def Gj2 (κ:KeyKind)(v u:KA)(n:Nat):ForInStep Y2->Prop
 | .done c=>Oj2 κ v u n c
 | .yield c=>c.1=none/\(0 < c.2.1/\1 < c.2.2.1)/\MH κ v u c.2.2.2.1 c.2.1 c.2.2.1/\c.2.1+c.2.2.1<=n
end
section
variable {prog:Program}{w:World}{A:Around}{E:Value->Shared->Prop}{s:Shared}{st:SortSt}{κ:KeyKind}{k:SortKind}{D:Keyed->Prop}{v u o:KA}{i j g c d n:Nat}
theorem zfO (T:Two κ D v u)(m:MH κ v u o i j)(h0:0 < i)(h1:1 < j){x:Keyed}(hx:v.toList[i - 1]?=some x)(h:∀ y∈u.toList.take j,LE κ y x)(hn:i+j<=n):wpS (model prog w) A E s (hiC v u o i j g c d) (λr t=>t=st/\Gj2 κ v u n r) st:=by
 unfold hiC
 refine r9 (zG hx ?_)
 have m':=m.pushA T h0 hx h
 by_cases e:i - 1=0
 .rw[j3 (p6.mpr e)]
  exact d6 ⟨rfl,.inl ⟨_,rfl,zaN T m' (.inl e)⟩⟩
 .rw[j8 (λz=>e (p6.mp z))]
  split
  .exact d6 ⟨rfl,.inr ⟨rfl,⟨by show 0 < i - 1;omega,h1⟩,m',by show i - 1+j<=n;omega⟩⟩
  .exact d6 ⟨rfl,rfl,⟨by show 0 < i - 1;omega,h1⟩,m',by show i - 1+j<=n;omega⟩
theorem zeC (L:LtE prog w A E s κ k D)(hk:kindOf st=k)(T:Two κ D v u)(bot:∀ x∈v.toList,∀ y,u.toList[0]?=some y->LE κ y x)(m:MH κ v u o i j)(h0:0 < i)(h1:1 < j){y:Keyed}(hy:u.toList[j - 1]?=some y)(h:∀ x∈v.toList.take i,LE κ x y)(hn:i+j<=n):wpS (model prog w) A E s (hiB v u o i j g c d) (λr t=>t=st/\Gj2 κ v u n r) st:=by
 unfold hiB
 refine r9 (zG hy ?_)
 have m':=m.pushB T (by omega) hy h
 have li:=m.li
 have lj:=m.lj
 by_cases e:j - 1=1
 .rw[j3 (p6.mpr e)]
  exact d6 ⟨rfl,.inl ⟨_,rfl,zcT T m' e bot⟩⟩
 .rw[j8 (λz=>e (p6.mp z))]
  obtain⟨x,hx⟩:=Vi (v:=v) (i:=i - 1) (by omega)
  refine r9 (zG hx ?_)
  have hul:u.toList.length=u.size:=r6
  have eseg:(u.toList.drop 0).take (j - 1)=u.toList.take (j - 1):=by rw[u10]
  refine r9 (V7 L hk (T.dv x (j4 hx)) (λz hz=>T.du z (u0c (u0l hz))) (by omega) (by omega) (by rw[eseg];exact T.su.sublist (u1N _ _)) λp hp g1 g2=>?_)
  rw[eseg]at g1 g2
  dsimp only
  have hx2:=zbK T.sv h0 hx
  have m2:=m'.runB T hp λz hz a ha=>LE.trans (hx2 a ha) (g2 z hz)
  have h3:∀ z∈u.toList.take p,LE κ z x:=λz hz=>u0C (g1 z (by rw[u11,u0N hp];exact hz))
  by_cases e0:j - 1 - p > 0
  .rw[j3 e0]
   by_cases e1:p=1
   .rw[j3 (p6.mpr e1)]
    exact d6 ⟨rfl,.inl ⟨_,rfl,zcT T m2 e1 bot⟩⟩
   .rw[j8 (λz=>e1 (p6.mp z))]
    by_cases e2:p=0
    .rw[j3 (p6.mpr e2)]
     exact d6 ⟨rfl,.inl ⟨_,rfl,zaN T m2 (.inr e2)⟩⟩
    .rw[j8 (λz=>e2 (p6.mp z))]
     exact zfO T m2 h0 (by omega) hx h3 (by omega)
  .rw[j8 e0]
   obtain rfl:p=j - 1:=by omega
   exact zfO T m' h0 (by omega) hx h3 (by omega)
theorem zem (L:LtE prog w A E s κ k D)(hk:kindOf st=k)(T:Two κ D v u)(bot:∀ x∈v.toList,∀ y,u.toList[0]?=some y->LE κ y x)(m:MH κ v u o i j)(h0:0 < i)(h1:1 < j)(hn:i+j<=n):wpS (model prog w) A E s (hiA v u o i j g c d) (λr t=>Sm st t/\Gj2 κ v u n r) st:=by
 unfold hiA
 refine r9 (ZF λt ht=>?_)
 have li:=m.li
 have lj:=m.lj
 obtain⟨y,hy⟩:=Vi (v:=u) (i:=j - 1) (by omega)
 refine r9 (zG hy ?_)
 have hvl:v.toList.length=v.size:=r6
 have eseg:(v.toList.drop 0).take i=v.toList.take i:=by rw[u10]
 refine r9 (zaB L (ht.kd.trans hk) (T.du y (j4 hy)) (λz hz=>T.dv z (u0c (u0l hz))) (by omega) (by omega) (by rw[eseg];exact T.sv.sublist (u1N _ _)) λp hp g1 g2=>?_)
 rw[eseg]at g1 g2
 dsimp only
 have hy2:=zbK T.su (i:=j) (by omega) hy
 have m2:=m.runA T hp λz hz a ha=>LE.trans (hy2 a ha) (u0C (g2 z hz))
 have h3:∀ z∈v.toList.take p,LE κ z y:=λz hz=>g1 z (by rw[u11,u0N hp];exact hz)
 by_cases e0:i - p > 0
 .rw[j3 e0]
  by_cases e1:p=0
  .rw[j3 (p6.mpr e1)]
   exact d6 ⟨ht,.inl ⟨_,rfl,zaN T m2 (.inl e1)⟩⟩
  .rw[j8 (λz=>e1 (p6.mp z))]
   exact u00 (zeC L (ht.kd.trans hk) T bot m2 (by omega) h1 hy h3 (by omega)) λr t' h=>⟨h.1 ▸ ht,h.2⟩
 .rw[j8 e0]
  obtain rfl:p=i:=by omega
  exact u00 (zeC L (ht.kd.trans hk) T bot m h0 h1 hy h3 hn) λr t' h=>⟨h.1 ▸ ht,h.2⟩
def Oj1 (κ:KeyKind)(v u:KA)(n:Nat)(c:Y1):Prop:=(∃ r,c.1=some r/\Fn κ v u r)\/(c.1=none/\(0 < c.2.1/\1 < c.2.2.1)/\MH κ v u c.2.2.2.1 c.2.1 c.2.2.1/\c.2.1+c.2.2.1<=n)
def Gj1 (κ:KeyKind)(v u:KA)(n:Nat):ForInStep Y1->Prop
 | .done c=>Oj1 κ v u n c
 | .yield c=>c.1=none/\(0 < c.2.1/\1 < c.2.2.1)/\MH κ v u c.2.2.2.1 c.2.1 c.2.2.1/\c.2.1+c.2.2.1<=n
theorem zg4 (L:LtE prog w A E s κ k D)(hk:kindOf st=k)(T:Two κ D v u)(bot:∀ x∈v.toList,∀ y,u.toList[0]?=some y->LE κ y x){z:Y1}(m:MH κ v u z.2.2.2.1 z.2.1 z.2.2.1)(h0:0 < z.2.1/\1 < z.2.2.1):wpS (model prog w) A E s (zlJ v u g z) (λr t=>t=st/\Gj1 κ v u (z.2.1+z.2.2.1 - 1) r) st:=by
 obtain⟨r,i,j,o,c,d⟩:=z
 dsimp only at m h0 ⊢
 obtain⟨h0,h1⟩:=h0
 have li:=m.li
 have lj:=m.lj
 unfold zlJ
 obtain⟨y,hy⟩:=Vi (v:=u) (i:=j - 1) (by omega)
 obtain⟨x,hx⟩:=Vi (v:=v) (i:=i - 1) (by omega)
 refine r9 (zG hy (r9 (zG hx (r9 (L _ _ _ _ hk (T.du y (j4 hy)) (T.dv x (j4 hx)) ?_)))))
 dsimp only
 have hx2:=zbK T.sv h0 hx
 have hy2:=zbK T.su (i:=j) (by omega) hy
 cases e:κ.blt (ky κ y) (ky κ x) with
 | true =>
  rw[j3 rfl]
  refine r9 (zG hx ?_)
  have m':=m.pushA T h0 hx λa ha=>LE.trans (hy2 a ha) (u0C e)
  by_cases e1:i - 1=0
  .rw[j3 (p6.mpr e1)]
   exact d6 ⟨rfl,.inl ⟨_,rfl,zaN T m' (.inl e1)⟩⟩
  .rw[j8 (λz=>e1 (p6.mp z))]
   split
   .exact d6 ⟨rfl,.inr ⟨rfl,⟨by show 0 < i - 1;omega,h1⟩,m',by show i - 1+j<=i+j - 1;omega⟩⟩
   .exact d6 ⟨rfl,rfl,⟨by show 0 < i - 1;omega,h1⟩,m',by show i - 1+j<=i+j - 1;omega⟩
 | false =>
  rw[j8 u7]
  refine r9 (zG hy ?_)
  have m':=m.pushB T (by omega) hy λa ha=>LE.trans (κ:=κ) (y:=x) (hx2 a ha) e
  by_cases e1:j - 1=1
  .rw[j3 (p6.mpr e1)]
   exact d6 ⟨rfl,.inl ⟨_,rfl,zcT T m' e1 bot⟩⟩
  .rw[j8 (λz=>e1 (p6.mp z))]
   split
   .exact d6 ⟨rfl,.inr ⟨rfl,⟨h0,by show 1 < j - 1;omega⟩,m',by show i+(j - 1)<=i+j - 1;omega⟩⟩
   .exact d6 ⟨rfl,rfl,⟨h0,by show 1 < j - 1;omega⟩,m',by show i+(j - 1)<=i+j - 1;omega⟩
theorem zho {z:Y2}(L:LtE prog w A E s κ k D)(hk:kindOf st=k)(T:Two κ D v u)(bot:∀ x∈v.toList,∀ y,u.toList[0]?=some y->LE κ y x)(m:MH κ v u z.2.2.2.1 z.2.1 z.2.2.1)(h0:0 < z.2.1/\1 < z.2.2.1)(hn:z.2.1+z.2.2.1<=n):wpS (model prog w) A E s (zlT v u z) (λr t=>Sm st t/\Gj2 κ v u n r) st:=by
 unfold zlT
 split
 .exact zem L hk T bot m h0.1 h0.2 hn
 .exact zem L hk T bot m h0.1 h0.2 hn
def Gj3 (κ:KeyKind)(v u:KA)(n:Nat):ForInStep Y3->Prop
 | .done c=>∃ r,c.1=some r/\Fn κ v u r
 | .yield c=>c.1=none/\(0 < c.2.1/\1 < c.2.2.1)/\MH κ v u c.2.2.2.1 c.2.1 c.2.2.1/\c.2.1+c.2.2.1<=n
theorem zhm {z:Y3}(L:LtE prog w A E s κ k D)(hk:kindOf st=k)(T:Two κ D v u)(bot:∀ x∈v.toList,∀ y,u.toList[0]?=some y->LE κ y x)(m:MH κ v u z.2.2.2.1 z.2.1 z.2.2.1)(h0:0 < z.2.1/\1 < z.2.2.1):wpS (model prog w) A E s (zlS v u z) (λr t=>Sm st t/\Gj3 κ v u (z.2.1+z.2.2.1 - 1) r) st:=by
 unfold zlS
 have li:=m.li
 have lj:=m.lj
 refine r9 (u00 (u0U (I:=λx c t=>t=st/\c.1=none/\(0 < c.2.1/\1 < c.2.2.1)/\MH κ v u c.2.2.2.1 c.2.1 c.2.2.1/\(x=0\/c.2.1+c.2.2.1<=z.2.1+z.2.2.1 - 1)/\c.2.1+c.2.2.1<=z.2.1+z.2.2.1) (Q:=λc t=>t=st/\Oj1 κ v u (z.2.1+z.2.2.1 - 1) c)
  (λx c t _ _ hI=>?_) (λc t hI=>?_) ⟨rfl,rfl,h0,m,.inl rfl,q5 _⟩) λy t hI=>?_)
 .obtain⟨rfl,h1,h2,h3,h4,h5⟩:=hI
  refine u00 (zg4 L hk T bot h3 h2) λr t' h=>?_
  obtain⟨rfl,hr⟩:=h
  cases r with
  | done c' =>
   rcases hr with hr | ⟨a1,a2,a3,a4⟩
   .exact⟨rfl,.inl hr⟩
   .exact⟨rfl,.inr ⟨a1,a2,a3,by omega⟩⟩
  | yield c' =>
   obtain⟨a1,a2,a3,a4⟩:=hr
   exact⟨rfl,a1,a2,a3,.inr (by omega),by omega⟩
 .obtain⟨rfl,h1,h2,h3,h4,h5⟩:=hI
  refine⟨rfl,.inr ⟨h1,h2,h3,?_⟩⟩
  rcases h4 with h4 | h4
  .exfalso
   have:max 0 (v.size+u.size)=v.size+u.size:=by omega
   omega
  .exact h4
 .obtain⟨rfl,hy⟩:=hI
  rcases hy with ⟨r,e,hr⟩ | ⟨e,p1,m1,h1⟩
  .rw[e]
   exact d6 ⟨Sm.refl _,r,rfl,hr⟩
  .rw[e]
   dsimp only
   refine r9 (u3G (u1p ⟨rfl,?_⟩))
   refine r9 (u00 (u0U (I:=λx c t'=>Sm t t'/\c.1=none/\(0 < c.2.1/\1 < c.2.2.1)/\MH κ v u c.2.2.2.1 c.2.1 c.2.2.1/\c.2.1+c.2.2.1<=z.2.1+z.2.2.1 - 1) (Q:=λc t'=>Sm t t'/\Oj2 κ v u (z.2.1+z.2.2.1 - 1) c)
    (λx c t' _ _ hI=>?_) (λc t' hI=>?_) ⟨Sm.refl _,rfl,p1,m1,h1⟩) λx t' hI=>?_)
   .obtain⟨hs,b1,b2,b3,b4⟩:=hI
    refine u00 (zho L (hs.kd.trans hk) T bot b3 b2 b4) λr t2 h=>?_
    obtain⟨hs2,hr⟩:=h
    cases r with
    | done c'=>exact⟨hs.trans hs2,hr⟩
    | yield c'=>exact⟨hs.trans hs2,hr⟩
   .obtain⟨hs,b1,b2,b3,b4⟩:=hI
    exact⟨hs,.inr ⟨b1,b2,b3,b4⟩⟩
   .obtain⟨hs,hx⟩:=hI
    rcases hx with ⟨r,e,hr⟩ | ⟨e,p2,m2,h2⟩
    .rw[e]
     exact d6 ⟨hs,r,rfl,hr⟩
    .rw[e]
     exact r9 (ZF λt2 hs2=>d6 ⟨hs.trans hs2,rfl,p2,m2,h2⟩)
theorem zjI {P:KA->SortSt->Prop}(L:LtE prog w A E s κ k D)(hk:kindOf st=k)(T:Two κ D v u)(hv:0 < v.size)(hu:0 < u.size)(top:∀ y∈u.toList,∀ x,v.toList[v.size - 1]?=some x->LE κ y x)(bot:∀ x∈v.toList,∀ y,u.toList[0]?=some y->LE κ y x)
 (h:∀ r t,Sm st t->Fn κ v u r->P r t):wpS (model prog w) A E s (mhi v u) P st:=by
 rw[zku]
 refine r9 (u3G (u1p ⟨rfl,?_⟩))
 obtain⟨x,hx⟩:=Vi (v:=v) (i:=v.size - 1) (by omega)
 refine r9 (zG hx ?_)
 have m0:MH κ v u #[] v.size u.size:=⟨q5 _,q5 _,by
  rw[u21,u21]
  exact⟨u0D _,u0D _,u1Z _,List.Pairwise.nil,(λz hz=>by cases hz),(λz hz=>by cases hz)⟩⟩
 have m1:MH κ v u #[x] (v.size - 1) u.size:=m0.pushA T hv hx λy hy=>top y (u0l hy) x hx
 by_cases e1:v.size - 1=0
 .rw[j3 (p6.mpr e1)]
  exact d6 (h _ _ (Sm.refl _) (zaN T m1 (.inl e1)))
 rw[j8 (λz=>e1 (p6.mp z))]
 by_cases e2:u.size=1
 .rw[j3 (p6.mpr e2)]
  exact d6 (h _ _ (Sm.refl _) (zcT T m1 e2 bot))
 rw[j8 (λz=>e2 (p6.mp z))]
 refine r9 (u3u ?_)
 refine r9 (u00 (u0U (I:=λx c t=>Sm st t/\c.1=none/\(0 < c.2.1/\1 < c.2.2.1)/\MH κ v u c.2.2.2.1 c.2.1 c.2.2.1/\x+(c.2.1+c.2.2.1)<=v.size+u.size) (Q:=λc t=>Sm st t/\∃ r,c.1=some r/\Fn κ v u r)
  (λx c t _ _ hI=>?_) (λc t hI=>?_) ⟨Sm.refl _,rfl,⟨by show 0 < v.size - 1;omega,by show 1 < u.size;omega⟩,m1,by show 0+(v.size - 1+u.size)<=v.size+u.size;omega⟩) λy t hI=>?_)
 .obtain⟨hs,b1,b2,b3,b4⟩:=hI
  refine u00 (zhm L (hs.kd.trans hk) T bot b3 b2) λr t2 h=>?_
  obtain⟨hs2,hr⟩:=h
  cases r with
  | done c'=>exact⟨hs.trans hs2,hr⟩
  | yield c'=>exact⟨hs.trans hs2,hr.1,hr.2.1,hr.2.2.1,by have:=hr.2.2.2;omega⟩
 .obtain⟨hs,b1,b2,b3,b4⟩:=hI
  exfalso
  have:max 0 (v.size+u.size)=v.size+u.size:=by omega
  omega
 .obtain⟨hs,r,e,hr⟩:=hI
  rw[e]
  exact d6 (h r t hs hr)
end
abbrev Pd:=Array (Nat × Nat × Nat)
theorem zlw (i:Nat):mergeAt' i=(do
 let z<-get
 let (some (a,m,p),some (b,n,_)):=((pendingOf z)[i]?,(pendingOf z)[i+1]?) | (unsupported ("internal:list.sort.pending"))
 set (setPending z (((pendingOf z).setIfInBounds i (a,m+n,p)).eraseIdxIfInBounds (i+1)))
 let some k<-gal false (<- elem' (arrOf z) b) (arrOf z) a m 0 | return false
 let (a,m):=(a+k,m - k)
 if m == 0 then return true
 let some n<-gal true (<- elem' (arrOf z) (a+m - 1)) (arrOf z) b n (n - 1) | return false
 if n == 0 then return true
 let x:=(arrOf z).extract a b
 let y:=(arrOf z).extract b (b+n)
 let r<-if m<=n then mlo x y else mhi x y
 modify λs=>setArr s (r.toList.zipIdx.foldl (λx (y,j)=>x.setIfInBounds (a+j) y) (arrOf s))
 return (failedOf (<- get)).isNone):=rfl
theorem zhV:∀ (m:List Keyed) (x:KA) (b n:Nat),b+n+m.length<=x.size->((m.zipIdx n).foldl (λx z=>x.setIfInBounds (b+z.2) z.1) x).toList=x.toList.take (b+n)++m++x.toList.drop (b+n+m.length):=by
 intro m
 induction m with
 | nil=>intro x b n h;simp
 | cons y m ih =>
  intro x b n h
  rw[p9]at h
  rw[u1Y,List.foldl_cons]
  rw[ih (x.setIfInBounds (b+n) y) b (n+1) (by rw[Array.size_setIfInBounds];omega)]
  rw[u3v,p9,show b+(n+1)=b+n+1 by omega,show b+n+1+m.length=b+n+(m.length+1) by omega]
  have hl:b+n < x.toList.length:=by rw[r6];omega
  rw[List.drop_set_of_lt (by omega),List.take_set]
  have e1:(x.toList.take (b+n+1)).set (b+n) y=x.toList.take (b+n)++[y]:=by
   rw[u2d,u6 hl]
   have:(x.toList.take (b+n)).length=b+n:=by rw[o9];omega
   rw[List.set_append_right _ _ (by omega),this,u21]
   rfl
  rw[e1,b9,b9,b9]
  rfl
theorem ZV {l:List Keyed}{a m k:Nat}(h:k<=m):l.take (a+k)=l.take a++((l.drop a).take m).take k:=by
 rw[List.take_add,u11,u0N h]
theorem zhu {l:List Keyed}{b n q:Nat}(h:q<=n)(hl:b+n<=l.length):l.drop (b+q)=((l.drop b).take n).drop q++l.drop (b+n):=by
 have e:(l.drop b).take n++(l.drop b).drop n=l.drop b:=i9 n (l.drop b)
 rw[<-u1k,<- u1k]
 have e2:(l.drop b).drop q=((l.drop b).take n++(l.drop b).drop n).drop q:=by rw[e]
 rw[e2,u1r (by rw[o9,i6];omega)]
theorem ziJ {prog:Program}{w:World}{A:Around}{E:Value->Shared->Prop}{s:Shared}{st z:SortSt}{Q:PUnit->SortSt->Prop}(h:Q ⟨⟩ z):wpS (model prog w) A E s (set z:SM PUnit) Q st:=u3j (f:=λ_=>z) h
section
variable {prog:Program}{w:World}{A:Around}{E:Value->Shared->Prop}{s:Shared}{st:SortSt}{κ:KeyKind}{k:SortKind}{D:Keyed->Prop}
theorem zkV {l r:List Keyed}{q:Keyed}(sl:l.Pairwise (LE κ))(sr:r.Pairwise (LE κ))(h1:∀ x∈l,LE κ x q)(h2:∀ y∈r,LE κ q y):(l++r).Pairwise (LE κ):=by
 rw[u0R]
 exact⟨sl,sr,λx hx y hy=>LE.trans (h1 x hx) (h2 y hy)⟩
theorem zjl {P:Bool->SortSt->Prop}{i a m p b n x:Nat}{l S1 S2:List Keyed}(L:LtE prog w A E s κ k D)(hk:kindOf st=k)(hf:failedOf st=none)(h1:(pendingOf st)[i]?=some (a,m,p))(h2:(pendingOf st)[i+1]?=some (b,n,x))
 (el:(arrOf st).toList=l) (hd:∀ x∈l,D x) (hb:a+m=b) (hn:b+n<=l.length) (m0:0 < m) (n0:0 < n) (e1:(l.drop a).take m=S1) (e2:(l.drop b).take n=S2) (s1:S1.Pairwise (LE κ)) (s2:S2.Pairwise (LE κ))
 (h:∀ t M,kindOf t=k->failedOf t=none->pendingOf t=((pendingOf st).setIfInBounds i (a,m+n,p)).eraseIdxIfInBounds (i+1)->(arrOf t).toList=l.take a++M++l.drop (b+n)->M.Perm (S1++S2)->M.Pairwise (LE κ)->P true t):wpS (model prog w) A E s (mergeAt' i) P st:=by
 have hsz:(arrOf st).size=l.length:=by rw[<-el,r6]
 have l1:S1.length=m:=by rw[<-e1,o9,i6];omega
 have l2:S2.length=n:=by rw[<-e2,o9,i6];omega
 have whole:l=l.take a++(S1++S2)++l.drop (b+n):=by
  have q1:=ZV (l:=l) (a:=a) (q5 m)
  rw[e1,show S1.take m=S1 from p8 (by omega),hb]at q1
  have q2:=ZV (l:=l) (a:=b) (q5 n)
  rw[e2,show S2.take n=S2 from p8 (by omega),q1]at q2
  have q3:=i9 (b+n) l
  rw[q2]at q3
  rw[<-b9]
  exact q3.symm
 have get1:∀ {i x},S1[i]?=some x->l[a+i]?=some x:=λ{i x} e=>by
  have hi:i < m:=by have:=(u8.mp e).1;omega
  rw[<-e1,u0r hi,u1D]at e
  exact e
 have get2:∀ {i x},S2[i]?=some x->l[b+i]?=some x:=λ{i x} e=>by
  have hi:i < n:=by have:=(u8.mp e).1;omega
  rw[<-e2,u0r hi,u1D]at e
  exact e
 have d1:∀ x∈S1,D x:=λx hx=>hd x (by rw[<-e1]at hx;exact u0c (u0l hx))
 have d2:∀ x∈S2,D x:=λx hx=>hd x (by rw[<-e2]at hx;exact u0c (u0l hx))
 rw[zlw]
 refine r9 (u3u ?_)
 dsimp only
 rw[h1,h2]
 dsimp only
 refine r9 (ziJ ?_)
 obtain⟨y0,hy0⟩:∃ y,S2[0]?=some y:=⟨_,u6 (by omega)⟩
 refine r9 (zG (by rw[el];exact get2 hy0) ?_)
 have hy2:∀ y∈S2,LE κ y0 y:=λy hy=>WR (LE.refl (κ:=κ)) s2 hy0 y (by rw[u10];exact hy)
 have hkz:kindOf (setPending st (((pendingOf st).setIfInBounds i (a,m+n,p)).eraseIdxIfInBounds (i+1)))=k:=hk
 refine r9 (zaB L hkz (d2 y0 (j4 hy0)) (λz hz=>d1 z (by rw[el,e1]at hz;exact hz)) (by rw[el];omega) (by omega) (by rw[el,e1];exact s1) λc hc g1 g2=>?_)
 rw[el,e1]at g1 g2
 dsimp only
 by_cases c0:m - c=0
 .rw[j3 (p6.mpr c0)]
  refine d6 (h _ (S1++S2) hk hf rfl (by show(arrOf st).toList=_;rw[el];exact whole) (u1Z _) (zkV s1 s2 (λx hx=>g1 x ?_) hy2))
  rw[p8 (by omega)]
  exact hx
 rw[j8 (λz=>c0 (p6.mp z))]
 obtain⟨x0,hx0⟩:∃ x,S1[m - 1]?=some x:=⟨_,u6 (by omega)⟩
 refine r9 (zG (x:=x0) (by rw[el,show a+c+(m - c) - 1=a+(m - 1) by omega];exact get1 hx0) ?_)
 have hx2:∀ x∈S1,LE κ x x0:=λx hx=>zbK s1 (i:=m) (by omega) hx0 x (by rw[p8 (by omega)];exact hx)
 refine r9 (V7 L hkz (d1 x0 (j4 hx0)) (λz hz=>d2 z (by rw[el,e2]at hz;exact hz)) (by rw[el];omega) (by omega) (by rw[el,e2];exact s2) λq hq g3 g4=>?_)
 rw[el,e2]at g3 g4
 dsimp only
 by_cases q0:q=0
 .rw[j3 (p6.mpr q0)]
  subst q0
  exact d6 (h _ (S1++S2) hk hf rfl (by show(arrOf st).toList=_;rw[el];exact whole) (u1Z _) (zkV s1 s2 hx2 g4))
 rw[j8 (λz=>q0 (p6.mp z))]
 have ev:((arrOf st).extract (a+c) b).toList=S1.drop c:=by
  rw[wc,el,<- e1,u2W,u1k,show b - (a+c)=m - c by omega]
 have eu:((arrOf st).extract b (b+q)).toList=S2.take q:=by
  rw[wc,el,<- e2,u11,u1t,u0N hq]
 have T:Two κ D ((arrOf st).extract (a+c) b) ((arrOf st).extract b (b+q)):=by
  refine⟨?_,?_,?_,?_⟩
  .rw[ev];exact λx hx=>d1 x (u0c hx)
  .rw[eu];exact λx hx=>d2 x (u0l hx)
  .rw[ev];exact s1.sublist (u09 _ _)
  .rw[eu];exact s2.sublist (u1N _ _)
 have zv:((arrOf st).extract (a+c) b).size=m - c:=by rw[<-r6,ev,i6];omega
 have zu:((arrOf st).extract b (b+q)).size=q:=by rw[<-r6,eu,o9];omega
 have top:∀ y∈((arrOf st).extract b (b+q)).toList,∀ x,((arrOf st).extract (a+c) b).toList[((arrOf st).extract (a+c) b).size - 1]?=some x->LE κ y x:=by
  intro y hy x hx
  rw[eu]at hy
  rw[zv,ev,u1D,show c+(m - c - 1)=m - 1 by omega,hx0]at hx
  cases hx
  exact u0C (g3 y hy)
 have bot:∀ x∈((arrOf st).extract (a+c) b).toList,∀ y,((arrOf st).extract b (b+q)).toList[0]?=some y->LE κ y x:=by
  intro x hx y hy
  rw[ev]at hx
  rw[eu,u0r (by omega),hy0]at hy
  cases hy
  exact u0C (g2 x hx)
 have fin:∀ r t,Sm (setPending st (((pendingOf st).setIfInBounds i (a,m+n,p)).eraseIdxIfInBounds (i+1))) t->Fn κ ((arrOf st).extract (a+c) b) ((arrOf st).extract b (b+q)) r->wpS (model prog w) A E s (do
  modify λs=>setArr s (r.toList.zipIdx.foldl (λx z=>x.setIfInBounds (a+c+z.2) z.1) (arrOf s))
  let z<-get
  pure (failedOf z).isNone:SM Bool) P t:=λr t hs hr=>by
  refine r9 (u3j (r9 (u3u ?_)))
  have hf':failedOf t=none:=hs.fl.trans hf
  show wpS _ _ _ _ (pure (failedOf t).isNone) _ _
  rw[hf']
  have ha:arrOf t=arrOf st:=hs.ar
  obtain⟨rp,rs⟩:=hr
  rw[ev,eu]at rp
  have rl:r.toList.length=m - c+q:=by rw[rp.length_eq,j6,i6,o9];omega
  refine d6 (h _ (S1.take c++r.toList++S2.drop q) (hs.kd.trans hk) hf' hs.pd ?_ ?_ ?_)
  .show((r.toList.zipIdx.foldl (λx z=>x.setIfInBounds (a+c+z.2) z.1) (arrOf t))).toList=_
   rw[ha,zhV r.toList (arrOf st) (a+c) 0 (by rw[rl,hsz];omega),el,Nat.add_zero,rl,show a+c+(m - c+q)=b+q by omega,ZV (l:=l) (a:=a) hc,e1,zhu hq hn,e2]
   simp only[b9]
  .refine((rp.append_left (S1.take c)).append_right (S2.drop q)).trans ?_
   rw[<-b9,i9,b9,i9]
  .rw[b9]
   have s3:(r.toList++S2.drop q).Pairwise (LE κ):=by
    rw[u0R]
    refine⟨rs,s2.sublist (u09 _ _),λx hx y hy=>?_⟩
    rcases u0w.mp (rp.mem_iff.mp hx)with hx | hx
    .exact LE.trans (hx2 x (u0c hx)) (g4 y hy)
    .have:=i9 q S2
     rw[<-this,u0R]at s2
     exact s2.2.2 x hx y hy
   rw[u0R]
   refine⟨s1.sublist (u1N _ _),s3,λx hx y hy=>?_⟩
   rcases u0w.mp hy with hy | hy
   .rcases u0w.mp (rp.mem_iff.mp hy)with hy | hy
    .have:=i9 c S1
     rw[<-this,u0R]at s1
     exact s1.2.2 x hx y hy
    .exact LE.trans (g1 x hx) (hy2 y (u0l hy))
   .exact LE.trans (g1 x hx) (hy2 y (u0c hy))
 by_cases cc:m - c<=q
 .rw[j3 cc]
  exact r9 (zjf L hkz T (by omega) (by omega) top bot fin)
 .rw[j8 cc]
  exact r9 (zjI L hkz T (by omega) (by omega) top bot fin)
end
def zlf (lo a n:Nat):SM AscSt :=
 forIn [a:n] ((none,a):AscSt) λ_ c=>do
  let some z<-ltAt' (lo+c.2) (lo+c.2 - 1) | pure (.done (some none,c.2))
  if z=true then pure (.done (none,c.2))else pure (.yield (none,c.2+1))
def zge (lo n m:Nat):SM (Option Nat):=do
 reverseSlice' lo (lo+n)
 let c<-zlf lo n m
 match c.1 with
 | some r=>pure r
 | none=>pure (some c.2)
def zhr (lo n m:Nat):SM DescSt :=
 forIn [n:m] ((none,n,0):DescSt) λ_ c=>do
  let some z<-ltAt' (lo+c.2.1) (lo+c.2.1 - 1) | pure (.done (some none,c.2.1,c.2.2))
  if z=true then
   if c.2.2 > 0 then do
    reverseSlice' (lo+c.2.1 - (c.2.2+1)) (lo+c.2.1)
    pure (.yield (none,c.2.1+1,0))
   else pure (.yield (none,c.2.1+1,0))
  else do
   let some y<-ltAt' (lo+c.2.1 - 1) (lo+c.2.1) | pure (.done (some none,c.2.1,c.2.2))
   if y=true then pure (.done (none,c.2.1,c.2.2))else pure (.yield (none,c.2.1+1,c.2.2+1))
def ze2 (lo n m:Nat):SM (Option Nat):=do
 (rule ("list.sort.descending-run"))
 let c<-zhr lo (n+1) m
 match c.1 with
 | some r=>pure r
 | none =>
  if c.2.2 > 0 then do
   reverseSlice' (lo+c.2.1 - (c.2.2+1)) (lo+c.2.1)
   zge lo c.2.1 m
  else zge lo c.2.1 m
theorem zgf (lo m:Nat):countRun' lo m=(do
 let c<-zlf lo 1 m
 match c.1 with
 | some r=>pure r
 | none =>
  if (c.2 == m)=true then pure (some c.2)
  else if c.2 > 1 then do
   let some z<-ltAt' lo (lo+c.2 - 1) | pure none
   if z=true then pure (some c.2)else do
    reverseSlice' lo (lo+c.2)
    ze2 lo c.2 m
  else ze2 lo c.2 m):=by
 rw[countRun'_eq]
 unfold ze2 zge zhr zlf
 dsimp only
 congr 1
 funext c
 obtain⟨r,n⟩:=c
 cases r with
 | some r=>rfl
 | none =>
  dsimp only
  split
  .rfl
  .split
   .congr 1
    funext x
    cases x with
    | none=>rfl
    | some z =>
     dsimp only
     split
     .rfl
     .congr 1;funext _;congr 1;funext _;congr 1;funext d
      obtain⟨r2,n2,q2⟩:=d
      cases r2 with
      | some r2=>rfl
      | none =>
       dsimp only
       split
       .congr 1;funext _;congr 1;funext _;congr 1;funext e
        obtain⟨r3,n3⟩:=e
        cases r3 <;> rfl
       .congr 1;funext _;congr 1;funext e
        obtain⟨r3,n3⟩:=e
        cases r3 <;> rfl
   .congr 1;funext _;congr 1;funext d
    obtain⟨r2,n2,q2⟩:=d
    cases r2 with
    | some r2=>rfl
    | none =>
     dsimp only
     split
     .congr 1;funext _;congr 1;funext _;congr 1;funext e
      obtain⟨r3,n3⟩:=e
      cases r3 <;> rfl
     .congr 1;funext _;congr 1;funext e
      obtain⟨r3,n3⟩:=e
      cases r3 <;> rfl
structure SL (k:SortKind) (a₀ X:KA) (lo:Nat) (p:Pd) (st:SortSt):Prop where
 pm:(arrOf st).Perm a₀
 kd:kindOf st=k
 fl:failedOf st=none
 pd:pendingOf st=p
 bl:∀ i,i < lo->(arrOf st)[i]?=X[i]?
def SO (κ:KeyKind)(xs:KA)(lo n:Nat):Prop:=∀ i j,i<=j->j < n->κ.kle (KK κ xs (lo+i)) (KK κ xs (lo+j))
def NO (κ:KeyKind)(xs:KA)(lo n:Nat):Prop:=∀ i j,i<=j->j < n->κ.kle (KK κ xs (lo+j)) (KK κ xs (lo+i))
section
variable {prog:Program}{w:World}{A:Around}{E:Value->Shared->Prop}{s:Shared}{st:SortSt}{κ:KeyKind}{k:SortKind}{a₀ X:KA}{lo:Nat}{p:Pd}
theorem SL.sz (S:SL k a₀ X lo p st):(arrOf st).size=a₀.size:=S.pm.size_eq
theorem SL.put (S:SL k a₀ X lo p st){ys:KA}(h:ys.Perm (arrOf st))(b:∀ i,i < lo->ys[i]?=(arrOf st)[i]?):SL k a₀ X lo p (setArr st ys):=⟨h.trans S.pm,S.kd,S.fl,S.pd,λi hi=>(b i hi).trans (S.bl i hi)⟩
theorem SL.mirror (S:SL k a₀ X lo p st){i j:Nat}(hi:lo<=i)(hj:j<=a₀.size):SL k a₀ X lo p (setArr st (mirror (arrOf st) i j ((j - i) / 2))) :=
 S.put (mirror_perm _ _ _ _) λq hq=>by rw[getElem?_mirror_all (by rw[S.sz];exact hj),j8 (by omega)]
theorem zes {xs:KA}{i:Nat}{x:Keyed}(h:xs[i]?=some x):KK κ xs i=ky κ x:=by
 unfold KK
 rw[h]
 rfl
theorem Z7 {i j:Nat}{Q:Option Bool->SortSt->Prop}(L:LtE prog w A E s κ k (·∈a₀.toList))(S:SL k a₀ X lo p st)(hi:i < a₀.size)(hj:j < a₀.size)(q:Q (some (κ.blt (KK κ (arrOf st) i) (KK κ (arrOf st) j))) st):wpS (model prog w) A E s (ltAt' i j) Q st:=by
 have look:∀ {i},i < a₀.size->∃ x,(arrOf st)[i]?=some x/\x∈a₀.toList:=λ{i} hi=>by
  have hi':i < (arrOf st).size:=by rw[S.sz];exact hi
  exact⟨(arrOf st)[i],u2y _ i hi',(u0H.mp S.pm).mem_iff.mp (by simp)⟩
 obtain⟨x,e1,m1⟩:=look hi
 obtain⟨y,e2,m2⟩:=look hj
 rw[zes e1,zes e2]at q
 rw[ltAt'_eq]
 refine r9 (u3u ?_)
 show wpS _ _ _ _ (elem' (arrOf st) i>>=λx=>elem' (arrOf st) j>>=λy=>lt' x y) Q st
 rw[elem'_eq,elem'_eq,e1,e2]
 exact r9 (d6 (r9 (d6 (L _ _ _ _ S.kd m1 m2 q))))
theorem SO.up {xs:KA}{x:Nat}(h:SO κ xs lo x)(hx:1<=x)(e:κ.kle (KK κ xs (lo+x - 1)) (KK κ xs (lo+x))):SO κ xs lo (x+1):=λi j hij hj=>by
 by_cases c:j < x
 .exact h i j hij c
 .obtain rfl:j=x:=by omega
  by_cases d:i=j
  .rw[d];exact u1l _
  .have:=h i (j - 1) (by omega) (by omega)
   rw[show lo+(j - 1)=lo+j - 1 by omega]at this
   exact u2i this e
theorem NO.down {xs:KA}{x:Nat}(h:NO κ xs lo x)(hx:1<=x)(e:κ.kle (KK κ xs (lo+x)) (KK κ xs (lo+x - 1))):NO κ xs lo (x+1):=λi j hij hj=>by
 by_cases c:j < x
 .exact h i j hij c
 .obtain rfl:j=x:=by omega
  by_cases d:i=j
  .rw[d];exact u1l _
  .have:=h i (j - 1) (by omega) (by omega)
   rw[show lo+(j - 1)=lo+j - 1 by omega]at this
   exact u2i e this
theorem SO.one {xs:KA}:SO κ xs lo 1:=λi j hij hj=>by
 obtain rfl:i=j:=by omega
 exact u1l _
theorem NO.one {xs:KA}:NO κ xs lo 1:=λi j hij hj=>by
 obtain rfl:i=j:=by omega
 exact u1l _
theorem NO.of {xs ys:KA}{n:Nat}(h:NO κ xs lo n)(e:∀ i,KK κ ys i=KK κ xs i):NO κ ys lo n:=λi j hij hj=>by rw[e,e];exact h i j hij hj
theorem NO.turn {xs:KA}{n:Nat}(h:NO κ xs lo n)(hn:lo+n<=xs.size):SO κ (mirror xs lo (lo+n) ((lo+n - lo) / 2)) lo n:=λi j hij hj=>by
 rw[KK_mirror hn,KK_mirror hn,j3 ⟨by omega,by omega⟩,j3 ⟨by omega,by omega⟩]
 have:=h (n - 1 - j) (n - 1 - i) (by omega) (by omega)
 rw[show lo+(n - 1 - i)=lo+(lo+n) - 1 - (lo+i) by omega,show lo+(n - 1 - j)=lo+(lo+n) - 1 - (lo+j) by omega]at this
 exact this
theorem zc2 {a n:Nat}{Q:AscSt->SortSt->Prop}(L:LtE prog w A E s κ k (·∈a₀.toList))(hn:lo+n<=a₀.size)(ha:1<=a)(han:a<=n)(S:SL k a₀ X lo p st)(hs:SO κ (arrOf st) lo a)
 (h:∀ m,a<=m->m<=n->SO κ (arrOf st) lo m->(m=n\/κ.klt (KK κ (arrOf st) (lo+m)) (KK κ (arrOf st) (lo+m - 1)))->Q (none,m) st):wpS (model prog w) A E s (zlf lo a n) Q st:=by
 unfold zlf
 refine u0U (I:=λx c t=>(t=st/\c=(none,x))/\SO κ (arrOf st) lo x) (λx c t h1 h2 hI=>?_) (λc t hI=>?_) ⟨⟨rfl,rfl⟩,hs⟩
 .obtain⟨⟨rfl,rfl⟩,hx⟩:=hI
  refine r9 (Z7 L S (by omega) (by omega) ?_)
  dsimp only
  cases c:κ.blt (KK κ (arrOf t) (lo+x)) (KK κ (arrOf t) (lo+x - 1)) with
  | true=>exact d6 (h x h1 (by omega) hx (.inr c))
  | false=>exact d6 ⟨⟨rfl,rfl⟩,hx.up (by omega) c⟩
 .obtain⟨⟨rfl,rfl⟩,hx⟩:=hI
  have e:max a n=n:=by omega
  rw[e]at hx ⊢
  exact h n han (q5 _) hx (.inl rfl)
theorem zbe {n m:Nat}{Q:Option Nat->SortSt->Prop}(L:LtE prog w A E s κ k (·∈a₀.toList))(hm:lo+m<=a₀.size)(h1:1<=n)(hnm:n<=m)(S:SL k a₀ X lo p st)(hs:NO κ (arrOf st) lo n)
 (h:∀ r t,SL k a₀ X lo p t->1<=r->r<=m->SO κ (arrOf t) lo r->Q (some r) t):wpS (model prog w) A E s (zge lo n m) Q st:=by
 unfold zge
 have S':=S.mirror (i:=lo) (j:=lo+n) (q5 _) (by omega)
 exact r9 (wpS_reverse (r9 (zc2 L hm h1 hnm S' (hs.turn (by rw[S.sz];omega)) λr g1 g2 g3 _=>d6 (h r _ S' (by omega) g2 g3))))
theorem zfX {n m:Nat}{Q:DescSt->SortSt->Prop}(L:LtE prog w A E s κ k (·∈a₀.toList))(hm:lo+m<=a₀.size)(h1:1<=n)(hnm:n<=m)(S:SL k a₀ X lo p st)(hs:NO κ (arrOf st) lo n)
 (h:∀ r q t,SL k a₀ X lo p t->n<=r->r<=m->NO κ (arrOf t) lo r->q+1<=r->(∀ i,lo+r - (q+1)<=i->i < lo+r->KK κ (arrOf t) i=KK κ (arrOf t) (lo+r - 1))->Q (none,r,q) t):wpS (model prog w) A E s (zhr lo n m) Q st:=by
 unfold zhr
 refine u0U (I:=λx c t=>∃ q,c=(none,x,q)/\SL k a₀ X lo p t/\NO κ (arrOf t) lo x/\q+1<=x/\∀ i,lo+x - (q+1)<=i->i < lo+x->KK κ (arrOf t) i=KK κ (arrOf t) (lo+x - 1))
  (λx c t g1 g2 hI=>?_) (λc t hI=>?_) ⟨0,rfl,S,hs,h1,λi c1 c2=>by rw[show i=lo+n - 1 by omega]⟩
 .obtain⟨q,rfl,S1,ni,hq,he⟩:=hI
  dsimp only
  refine r9 (Z7 L S1 (by omega) (by omega) ?_)
  dsimp only
  cases c:κ.blt (KK κ (arrOf t) (lo+x)) (KK κ (arrOf t) (lo+x - 1)) with
  | true =>
   have d:=ni.down (by omega) (u0C c)
   rw[j3 rfl]
   by_cases hq0:q > 0
   .rw[j3 hq0]
    exact r9 (wpS_reverse (d6 ⟨0,rfl,S1.mirror (by omega) (by omega),d.of (KK_mirror_equal (by rw[S1.sz];omega) he),by omega,λi c1 c2=>by rw[show i=lo+(x+1) - 1 by omega]⟩))
   .rw[j8 hq0]
    exact d6 ⟨0,rfl,S1,d,by omega,λi c1 c2=>by rw[show i=lo+(x+1) - 1 by omega]⟩
  | false =>
   rw[j8 u7]
   refine r9 (Z7 L S1 (by omega) (by omega) ?_)
   dsimp only
   cases c2:κ.blt (KK κ (arrOf t) (lo+x - 1)) (KK κ (arrOf t) (lo+x)) with
   | true=>exact d6 (h x q t S1 g1 (by omega) ni hq he)
   | false =>
    have same:KK κ (arrOf t) (lo+x)=KK κ (arrOf t) (lo+x - 1):=KeyOrd.kle_antisymm c2 c
    refine d6 ⟨q+1,rfl,S1,ni.down (by omega) c2,by omega,λi d1 d2=>?_⟩
    show KK κ (arrOf t) i=KK κ (arrOf t) (lo+x)
    by_cases di:i=lo+x
    .rw[di]
    .rw[same];exact he i (by omega) (by omega)
 .obtain⟨q,rfl,S1,ni,hq,he⟩:=hI
  have e:max n m=m:=by omega
  rw[e]at ni hq he ⊢
  exact h m q t S1 hnm (q5 _) ni hq he
theorem za3 {n m:Nat}{Q:Option Nat->SortSt->Prop}(L:LtE prog w A E s κ k (·∈a₀.toList))(hm:lo+m<=a₀.size)(hnm:n+1<=m)(S:SL k a₀ X lo p st)(hs:NO κ (arrOf st) lo (n+1))
 (h:∀ r t,SL k a₀ X lo p t->1<=r->r<=m->SO κ (arrOf t) lo r->Q (some r) t):wpS (model prog w) A E s (ze2 lo n m) Q st:=by
 unfold ze2
 refine r9 (u3G (u1p ⟨rfl,r9 (zfX L hm (by omega) hnm S hs λr q t S1 r1 r2 ni hq he=>?_)⟩))
 dsimp only
 by_cases hq0:q > 0
 .rw[j3 hq0]
  exact r9 (wpS_reverse (zbe (n:=r) L hm (by omega) r2 (S1.mirror (by omega) (by omega)) (ni.of (KK_mirror_equal (by rw[S1.sz];omega) he)) h))
 .rw[j8 hq0]
  exact zbe (n:=r) L hm (by omega) r2 S1 ni h
theorem zdE {m:Nat}{Q:Option Nat->SortSt->Prop}(L:LtE prog w A E s κ k (·∈a₀.toList))(hm:lo+m<=a₀.size)(h1:1<=m)(S:SL k a₀ X lo p st)
 (h:∀ r t,SL k a₀ X lo p t->1<=r->r<=m->SO κ (arrOf t) lo r->Q (some r) t):wpS (model prog w) A E s (countRun' lo m) Q st:=by
 rw[zgf]
 refine r9 (zc2 L hm (q5 1) h1 S SO.one λn n1 n2 sn or=>?_)
 dsimp only
 by_cases e:n=m
 .rw[j3 (by rw[e];exact u1C m)]
  exact d6 (h n st S n1 n2 sn)
 .rw[j8 (λz=>e (eq_of_beq z))]
  have lt:=or.resolve_left e
  by_cases g:n > 1
  .rw[j3 g]
   refine r9 (Z7 L S (by omega) (by omega) ?_)
   dsimp only
   cases c:κ.blt (KK κ (arrOf st) lo) (KK κ (arrOf st) (lo+n - 1)) with
   | true=>exact d6 (h n st S n1 n2 sn)
   | false =>
    have eq:∀ i,lo<=i->i < lo+n->KK κ (arrOf st) i=KK κ (arrOf st) (lo+n - 1):=λi hl hi=>by
     have z1:=sn (i - lo) (n - 1) (by omega) (by omega)
     have z2:=sn 0 (i - lo) (by omega) (by omega)
     rw[show lo+(i - lo)=i by omega,show lo+(n - 1)=lo+n - 1 by omega]at z1
     rw[show lo+(i - lo)=i by omega,Nat.add_zero]at z2
     exact KeyOrd.kle_antisymm z1 (u2i c z2)
    have ni:NO κ (arrOf st) lo n:=λi j _ hj=>by rw[eq (lo+i) (by omega) (by omega),eq (lo+j) (by omega) (by omega)];exact u1l _
    rw[j8 u7]
    exact r9 (wpS_reverse (za3 L hm (by omega) (S.mirror (q5 _) (by omega)) ((ni.down (by omega) (u0C lt)).of (KK_mirror_equal (by rw[S.sz];omega) eq)) h))
  .rw[j8 g]
   obtain rfl:n=1:=by omega
   exact za3 L hm (by omega) S (NO.one.down (q5 1) (u0C lt)) h
theorem SL.bubble (S:SL k a₀ X lo p st){x l:Nat}(hl:l<=x)(hx:lo+x < a₀.size):SL k a₀ X lo p (setArr st (bubble (arrOf st) (lo+x) (lo+x - (lo+l)))) :=
 S.put (bubble_perm _ _ _) λq hq=>by rw[getElem?_bubble (by rw[S.sz];exact hx) _ (by omega),j8 (by omega),j8 (by omega)]
theorem ziC {xs:KA}{x l:Nat}(hz:lo+x < xs.size)(hl:l<=x)(sx:SO κ xs lo x)(low:∀ i,i < l->κ.kle (KK κ xs (lo+i)) (KK κ xs (lo+x)))(up:∀ i,l<=i->i < x->κ.klt (KK κ xs (lo+x)) (KK κ xs (lo+i))):SO κ (bubble xs (lo+x) (lo+x - (lo+l))) lo (x+1):=by
 have key:∀ i,i < x+1->KK κ (bubble xs (lo+x) (lo+x - (lo+l))) (lo+i)=if i=l then KK κ xs (lo+x)else if l < i then KK κ xs (lo+(i - 1))else KK κ xs (lo+i):=λi hi=>by
  rw[KK_bubble hz (by omega)]
  by_cases c:i=l
  .rw[j3 (by omega),j3 c]
  .rw[j8 (by omega),j8 c]
   by_cases c2:l < i
   .rw[j3 ⟨by omega,by omega⟩,j3 c2,show lo+i - 1=lo+(i - 1) by omega]
   .rw[j8 (by omega),j8 c2]
 intro i j hij hj
 rw[key i (by omega),key j hj]
 by_cases i1:i=l
 .rw[j3 i1]
  by_cases j1:j=l
  .rw[j3 j1];exact u1l _
  .rw[j8 j1,j3 (by omega)]
   exact u0C (up (j - 1) (by omega) (by omega))
 .rw[j8 i1]
  by_cases i2:l < i
  .rw[j3 i2,j8 (by omega),j3 (by omega)]
   exact sx (i - 1) (j - 1) (by omega) (by omega)
  .rw[j8 i2]
   by_cases j1:j=l
   .rw[j3 j1];exact low i (by omega)
   .rw[j8 j1]
    by_cases j2:l < j
    .rw[j3 j2];exact sx i (j - 1) (by omega) (by omega)
    .rw[j8 j2];exact sx i j hij (by omega)
theorem zg9 {n r:Nat}{Q:Bool->SortSt->Prop}(L:LtE prog w A E s κ k (·∈a₀.toList))(hn:lo+n<=a₀.size)(hr:r<=n)(h1:1<=r)(S:SL k a₀ X lo p st)(hs:SO κ (arrOf st) lo r)
 (h:∀ t,SL k a₀ X lo p t->SO κ (arrOf t) lo n->Q true t):wpS (model prog w) A E s (binarySort' lo n r) Q st:=by
 rw[binarySort'_eq]
 rw[show max r 1=r by omega]
 refine r9 (u00 (u0U (I:=λx c t=>c=(none,())/\SL k a₀ X lo p t/\SO κ (arrOf t) lo x) (Q:=λc t=>c=(none,())/\SL k a₀ X lo p t/\SO κ (arrOf t) lo n)
  (λx c t g1 g2 hI=>?_) (λc t hI=>?_) ⟨rfl,S,hs⟩) λc t hI=>?_)
 .obtain⟨rfl,S1,sx⟩:=hI
  refine r9 (u00 (u0U
   (I:=λy c t'=>t'=t/\∃ l u,c=(none,l,u)/\(l<=u/\u<=x/\u - l<=x - y)/\(∀ i,i < l->κ.kle (KK κ (arrOf t) (lo+i)) (KK κ (arrOf t) (lo+x)))/\∀ i,u<=i->i < x->κ.klt (KK κ (arrOf t) (lo+x)) (KK κ (arrOf t) (lo+i)))
   (Q:=λc t'=>t'=t/\∃ l u,c=(none,l,u)/\l<=x/\(∀ i,i < l->κ.kle (KK κ (arrOf t) (lo+i)) (KK κ (arrOf t) (lo+x)))/\∀ i,l<=i->i < x->κ.klt (KK κ (arrOf t) (lo+x)) (KK κ (arrOf t) (lo+i)))
   (λy c t' y1 y2 hJ=>?_) (λc t' hJ=>?_) ⟨rfl,0,x,rfl,⟨u0D _,q5 _,q5 _⟩,λi hi=>absurd hi (u36 _),λi i1 i2=>absurd (u0f i1 i2) (u0I _)⟩) λc t' hJ=>?_)
  .obtain⟨rfl,l,u,rfl,⟨e1,e2,e3⟩,low,up⟩:=hJ
   dsimp only
   by_cases c1:l >= u
   .rw[j3 c1]
    obtain rfl:l=u:=by omega
    exact d6 ⟨rfl,l,l,rfl,e2,low,up⟩
   .rw[j8 c1]
    obtain⟨md,hmd⟩:∃ md,(l+u) / 2=md:=⟨_,rfl⟩
    rw[hmd]
    have m1:l<=md/\md < u:=by omega
    refine r9 (Z7 L S1 (by omega) (by omega) ?_)
    dsimp only
    cases c2:κ.blt (KK κ (arrOf t') (lo+x)) (KK κ (arrOf t') (lo+md)) with
    | true=>exact d6 ⟨rfl,l,md,rfl,⟨m1.1,by omega,by omega⟩,low,λi i1 i2=>KeyOrd.klt_of_klt_of_kle c2 (sx md i i1 i2)⟩
    | false=>exact d6 ⟨rfl,md+1,u,rfl,⟨by omega,e2,by omega⟩,λi i1=>u2i (sx i md (by omega) (by omega)) c2,up⟩
  .obtain⟨rfl,l,u,rfl,⟨e1,e2,e3⟩,low,up⟩:=hJ
   obtain rfl:l=u:=by omega
   exact⟨rfl,l,l,rfl,e2,low,up⟩
  .obtain⟨rfl,l,u,rfl,e2,low,up⟩:=hJ
   dsimp only
   rw[moveDown'_eq]
   exact r9 (u3j (d6 ⟨rfl,S1.bubble e2 (by omega),ziC (by rw[S1.sz];omega) e2 sx low up⟩))
 .obtain⟨e1,S1,sx⟩:=hI
  rw[show max r n=n by omega]at sx
  exact⟨e1,S1,sx⟩
 .obtain⟨rfl,S1,sx⟩:=hI
  exact d6 (h t S1 sx)
end
abbrev U1:=Option Unit × Unit
abbrev U2:=Option Unit × Nat
def zlK (q:Nat)(_:U1):SM (ForInStep U1):=do
 let z<-get
 let some (_,_,o):=(if (pendingOf z).size > 1 then (pendingOf z)[(pendingOf z).size - 2]? else none) | pure (.done (none,()))
 if o<=q then pure (.done (none,()))else do
  let b<-mergeAt' ((pendingOf z).size - 2)
  if (!b)=true then pure (.done (some (),()))else pure (.yield (none,()))
def zbV (N lo n:Nat):SM (ForInStep U2):=do
 let z<-get
 let some (a,m,_):=(pendingOf z).back? | do
  modify λs=>setPending s ((pendingOf s).push (lo,n,0))
  pure (.yield (none,lo+n))
 let c<-forIn [0:N] ((none,()):U1) λ_ c=>zlK (power' N (2*a+m) (2*a+m+m+n) N) c
 match c.1 with
 | some r=>pure (.done (some r,lo))
 | none=>do
  modify λs=>setPending s ((pendingOf s).modify ((pendingOf s).size - 1) λx=>(x.1,x.2.1,power' N (2*a+m) (2*a+m+m+n) N))
  modify λs=>setPending s ((pendingOf s).push (lo,n,0))
  pure (.yield (none,lo+n))
def zlM (N M:Nat)(c:U2):SM (ForInStep U2) :=
 if c.2 >= N then pure (.done (none,c.2))else do
  let some f<-countRun' c.2 (N - c.2) | pure (.done (some (),c.2))
  if f < M then do
   (rule ("list.sort.binary-insertion"))
   let b<-binarySort' c.2 (min (N - c.2) M) f
   if (!b)=true then pure (.done (some (),c.2))else zbV N c.2 (min (N - c.2) M)
  else zbV N c.2 f
def zl8 (p:Pd):Nat:=if ((if p.size - 2 > 0 then p[p.size - 2 - 1]?.map (·.2.1)else none).any (· < (p[p.size - 2+1]?.elim 0 (·.2.1))))=true then p.size - 2 - 1 else p.size - 2
def zmC (_:U1):SM (ForInStep U1):=do
 let z<-get
 if (pendingOf z).size<=1 then pure (.done (none,()))else do
  let b<-mergeAt' (zl8 (pendingOf z))
  if (!b)=true then pure (.done (some (),()))else pure (.yield (none,()))
theorem zi1:sortRuns'=(do
 let z<-get
 let c<-forIn [0:(arrOf z).size] ((none,0):U2) λ_ c=>zlM (arrOf z).size (minRun' (arrOf z).size (arrOf z).size 0) c
 match c.1 with
 | some r=>pure r
 | none=>do
  let d<-forIn [0:(arrOf z).size] ((none,()):U1) λ_ d=>zmC d
  match d.1 with
  | some r=>pure r
  | none=>pure ()):=by
 rw[sortRuns'_eq]
 dsimp only[zlM,zbV,zlK,zmC,zl8]
 congr 1;funext z;congr 1
 .congr 1;funext _ c
  congr 1;congr 1;funext f
  cases f with
  | none=>rfl
  | some f =>
   dsimp only
   split
   .congr 1;funext _;congr 1;funext b
    congr 1;congr 1;funext y
    cases (pendingOf y).back? with
    | none=>rfl
    | some r =>
     dsimp only
     congr 1;funext d;obtain⟨r,d⟩:=d;cases r <;> rfl
   .congr 1;funext y
    cases (pendingOf y).back? with
    | none=>rfl
    | some r =>
     dsimp only
     congr 1;funext d;obtain⟨r,d⟩:=d;cases r <;> rfl
 .funext c;obtain⟨r,c⟩:=c
  cases r with
  | some r=>rfl
  | none =>
   dsimp only
   congr 1;funext d;obtain⟨r,d⟩:=d;cases r <;> rfl
def XT (κ:KeyKind)(l:List Keyed):Nat->List (Nat × Nat)->Nat->Prop
 | a,[],b=>a=b
 | a,r::p,b=>r.1=a/\0 < r.2/\((l.drop a).take r.2).Pairwise (LE κ)/\XT κ l (a+r.2) p b
section
variable {κ:KeyKind}{l l':List Keyed}
theorem XT.le:∀ {p:List (Nat × Nat)} {a b:Nat},XT κ l a p b->a+p.length<=b
 | [],a,b,h=>by have:a=b:=h;rw[this];exact q5 _
 | r::p,a,b,h=>by have:=XT.le h.2.2.2;have:=h.2.1;rw[p9];omega
theorem XT.split:∀ {p q:List (Nat × Nat)} {a b:Nat},XT κ l a (p++q) b->∃ c,XT κ l a p c/\XT κ l c q b
 | [],q,a,b,h=>⟨a,rfl,h⟩
 | r::p,q,a,b,h=>by
  obtain⟨c,h1,h2⟩:=XT.split (p:=p) h.2.2.2
  exact⟨c,⟨h.1,h.2.1,h.2.2.1,h1⟩,h2⟩
theorem XT.join:∀ {p q:List (Nat × Nat)} {a b c:Nat},XT κ l a p c->XT κ l c q b->XT κ l a (p++q) b
 | [],q,a,b,c,h,h2=>by have:a=c:=h;rw[this];exact h2
 | r::p,q,a,b,c,h,h2=>⟨h.1,h.2.1,h.2.2.1,XT.join h.2.2.2 h2⟩
theorem XT.low:∀ {p:List (Nat × Nat)} {a b:Nat},XT κ l a p b->l'.take b=l.take b->XT κ l' a p b
 | [],a,b,h,_=>h
 | r::p,a,b,h,e=>by
  have hl:=h.2.2.2.le
  refine⟨h.1,h.2.1,?_,h.2.2.2.low e⟩
  have key:∀ m:List Keyed,(m.drop a).take r.2=((m.take b).drop a).take r.2:=λm=>by
   rw[u2W,u11,u0N (by omega)]
  rw[key,e,<- key]
  exact h.2.2.1
theorem XT.high:∀ {p:List (Nat × Nat)} {a b:Nat},XT κ l a p b->l'.drop a=l.drop a->XT κ l' a p b
 | [],a,b,h,_=>h
 | r::p,a,b,h,e=>by
  refine⟨h.1,h.2.1,by rw[e];exact h.2.2.1,h.2.2.2.high ?_⟩
  rw[<-u1k,e,u1k]
end
abbrev g2 (r:Nat × Nat × Nat):Nat × Nat:=(r.1,r.2.1)
structure ST (κ:KeyKind) (k:SortKind) (a₀:KA) (hi:Nat) (st:SortSt):Prop where
 pm:(arrOf st).Perm a₀
 kd:kindOf st=k
 fl:failedOf st=none
 sg:XT κ (arrOf st).toList 0 ((pendingOf st).toList.map g2) hi
section
variable {prog:Program}{w:World}{A:Around}{E:Value->Shared->Prop}{s:Shared}{st:SortSt}{κ:KeyKind}{k:SortKind}{a₀:KA}{hi:Nat}
theorem ST.sz (S:ST κ k a₀ hi st):(arrOf st).size=a₀.size:=S.pm.size_eq
theorem ST.mem (S:ST κ k a₀ hi st):∀ x∈(arrOf st).toList,x∈a₀.toList:=λx hx=>(u0H.mp S.pm).mem_iff.mp hx
theorem zgl {α:Type}{l:List α}{i:Nat}(h:i+1 < l.length):∃ P x y Q,l=P++x::y::Q/\P.length=i:=by
 refine⟨l.take i,l[i],l[i+1],l.drop (i+2),?_,by rw[o9];omega⟩
 have e1:l.drop i=l[i]::l[i+1]::l.drop (i+2):=by rw[u0P (by omega),u0P h]
 rw[<-e1,i9]
theorem zaO {i:Nat}{Q:Bool->SortSt->Prop}(L:LtE prog w A E s κ k (·∈a₀.toList))(S:ST κ k a₀ hi st)(hi2:i+1 < (pendingOf st).size)(hle:hi<=a₀.size)
 (h:∀ t,ST κ k a₀ hi t->(pendingOf t).size+1=(pendingOf st).size->(arrOf t).toList.drop hi=(arrOf st).toList.drop hi->Q true t):wpS (model prog w) A E s (mergeAt' i) Q st:=by
 obtain⟨P,⟨a,m,p⟩,⟨b,n,x⟩,R,e,hP⟩:=zgl (l:=(pendingOf st).toList) (i:=i) (by rw[r6];exact hi2)
 have sg:=S.sg
 rw[e,u0M,u0e,u0e]at sg
 obtain⟨c,s1,sa,m0,so1,sb,n0,so2,s2⟩:=sg.split
 have sa':a=c:=sa
 have sb':b=c+m:=sb
 subst sa' sb'
 dsimp only at m0 n0 so1 so2 s2
 have hl2:=s2.le
 have hz:(arrOf st).toList.length=a₀.size:=by rw[r6,S.sz]
 have p1:(pendingOf st)[i]?=some (a,m,p):=by
  rw[<-u0G,e,u0u (by omega),hP,u21]
  rfl
 have p2:(pendingOf st)[i+1]?=some (a+m,n,x):=by
  rw[<-u0G,e,u0u (by omega),hP,u1t]
  rfl
 refine zjl L S.kd S.fl p1 p2 rfl S.mem rfl (by omega) m0 n0 rfl rfl so1 so2 λt M t1 t2 t3 t4 t5 t6=>?_
 have ep:(pendingOf t).toList=P++(a,m+n,p)::R:=by
  rw[t3,Array.toList_eraseIdxIfInBounds,u3v,e,List.set_append_right _ _ (by omega),hP,u21,List.eraseIdx_append_of_length_le (by omega),hP,u1t]
  rfl
 have lP:((arrOf st).toList.take a).length=a:=by rw[o9];omega
 have lM:M.length=m+n:=by rw[t5.length_eq,j6,o9,o9,i6,i6];omega
 have d1:(arrOf t).toList.take a=(arrOf st).toList.take a:=by rw[t4,b9,u28 (by omega),p8 (by omega)]
 have d2:(arrOf t).toList.drop (a+m+n)=(arrOf st).toList.drop (a+m+n):=by
  rw[t4,u1r (by rw[j6];omega),u2K (by rw[j6];omega),u3o]
 have d3:((arrOf t).toList.drop a).take (m+n)=M:=by
  rw[t4,b9,u1r (by omega),u2K (by omega),u3o,u28 (by omega),p8 (by omega)]
 refine h t ⟨?_,t1,t2,?_⟩ ?_ ?_
 .refine u0H.mpr (List.Perm.trans ?_ (u0H.mp S.pm))
  rw[t4]
  have q1:=ZV (l:=(arrOf st).toList) (a:=a) (q5 m)
  rw[u11,u2v]at q1
  have q2:=ZV (l:=(arrOf st).toList) (a:=a+m) (q5 n)
  rw[u11,u2v,q1]at q2
  have q3:=i9 (a+m+n) (arrOf st).toList
  rw[q2]at q3
  have q4:(arrOf st).toList.Perm (List.take a (arrOf st).toList++(List.take m (List.drop a (arrOf st).toList)++List.take n (List.drop (a+m) (arrOf st).toList))++List.drop (a+m+n) (arrOf st).toList):=by
   rw[<-b9,q3]
  exact((t5.append_left _).append_right _).trans q4.symm
 .rw[ep,u0M,u0e]
  refine(s1.low d1).join ⟨rfl,by show 0 < m+n;omega,by show(((arrOf t).toList.drop a).take (m+n)).Pairwise _;rw[d3];exact t6,?_⟩
  have:XT κ (arrOf t).toList (a+m+n) (R.map g2) hi:=s2.high d2
  show XT κ (arrOf t).toList (a+(m+n)) (R.map g2) hi
  rw[<-Nat.add_assoc]
  exact this
 .rw[<-r6,<- r6,ep,e]
  simp only[j6,p9]
  omega
 .rw[show hi=a+m+n+(hi - (a+m+n)) by omega,<- u1k,d2,u1k]
theorem zfp {xs:KA}{lo n:Nat}(h:SO κ xs lo n):((xs.toList.drop lo).take n).Pairwise (LE κ):=by
 rw[u0y]
 intro i j hi hj hij
 have hj2:j < n:=by rw[o9]at hj;omega
 have z:=h i j (by omega) hj2
 have e:∀ {q} (hq:q < ((xs.toList.drop lo).take n).length),KK κ xs (lo+q)=ky κ ((xs.toList.drop lo).take n)[q]:=λ{q} hq=>by
  refine zes ?_
  have hq2:q < n:=by rw[o9]at hq;omega
  rw[<-u0G,<- u1D,<- u0r hq2,u6 hq]
 rw[e hi,e hj]at z
 exact z
theorem ST.push (S:ST κ k a₀ hi st){n:Nat}(hn:0 < n)(h:(((arrOf st).toList.drop hi).take n).Pairwise (LE κ)):ST κ k a₀ (hi+n) (setPending st ((pendingOf st).push (hi,n,0))):=by
 refine⟨S.pm,S.kd,S.fl,?_⟩
 show XT κ (arrOf st).toList 0 (((pendingOf st).push (hi,n,0)).toList.map g2) (hi+n)
 rw[u1x,u0M]
 exact S.sg.join ⟨rfl,hn,h,rfl⟩
theorem zi7 {f:Nat × Nat × Nat->Nat × Nat × Nat}(hf:∀ r,g2 (f r)=g2 r)(p:Pd)(i:Nat):(p.modify i f).toList.map g2=p.toList.map g2:=by
 refine u2P λj=>?_
 rw[Array.toList_modify,j7,j7,List.getElem?_modify]
 cases p.toList[j]? with
 | none=>rfl
 | some r =>
  show Option.map g2 (some (if i=j then f r else r))=_
  split
  .exact u1o some (hf r)
  .rfl
theorem ST.mod (S:ST κ k a₀ hi st){f:Nat × Nat × Nat->Nat × Nat × Nat}(hf:∀ r,g2 (f r)=g2 r)(i:Nat):ST κ k a₀ hi (setPending st ((pendingOf st).modify i f)):=by
 refine⟨S.pm,S.kd,S.fl,?_⟩
 show XT κ (arrOf st).toList 0 (((pendingOf st).modify i f).toList.map g2) hi
 rw[zi7 hf]
 exact S.sg
theorem VA {N n:Nat}(L:LtE prog w A E s κ k (·∈a₀.toList))(S:ST κ k a₀ hi st)(hn:0 < n)(hle:hi+n<=a₀.size)(so:(((arrOf st).toList.drop hi).take n).Pairwise (LE κ)) :
 wpS (model prog w) A E s (zbV N hi n) (λr t=>r=.yield (none,hi+n)/\ST κ k a₀ (hi+n) t) st:=by
 unfold zbV
 refine r9 (u3u ?_)
 cases e:(pendingOf st).back? with
 | none=>exact r9 (u3j (d6 ⟨rfl,S.push hn so⟩))
 | some r =>
  obtain⟨a,m,q⟩:=r
  dsimp only
  refine r9 (u00 (u0U (I:=λ_ c t=>c=(none,())/\ST κ k a₀ hi t/\(arrOf t).toList.drop hi=(arrOf st).toList.drop hi) (Q:=λc t=>c=(none,())/\ST κ k a₀ hi t/\(arrOf t).toList.drop hi=(arrOf st).toList.drop hi)
   (λx c t _ _ hI=>?_) (λc t hI=>hI) ⟨rfl,S,rfl⟩) λc t hI=>?_)
  .obtain⟨rfl,S1,d1⟩:=hI
   unfold zlK
   refine r9 (u3u ?_)
   by_cases c1:(pendingOf t).size > 1
   .rw[j3 c1]
    cases e2:(pendingOf t)[(pendingOf t).size - 2]? with
    | none=>exact d6 ⟨rfl,S1,d1⟩
    | some r =>
     obtain⟨r1,r2,o⟩:=r
     dsimp only
     split
     .exact d6 ⟨rfl,S1,d1⟩
     .refine r9 (zaO L S1 (by omega) (by omega) λt2 S2 _ d2=>?_)
      exact d6 ⟨rfl,S2,d2.trans d1⟩
   .rw[j8 c1]
    exact d6 ⟨rfl,S1,d1⟩
  .obtain⟨rfl,S1,d1⟩:=hI
   dsimp only
   refine r9 (u3j (r9 (u3j (d6 ⟨rfl,?_⟩))))
   exact(S1.mod (f:=λx=>(x.1,x.2.1,power' N (2*a+m) (2*a+m+m+n) N)) (λ_=>rfl) ((pendingOf t).size - 1)).push hn (by show(((arrOf t).toList.drop hi).take n).Pairwise (LE κ);rw[d1];exact so)
theorem zgZ {xs ys:KA}{lo:Nat}(h:∀ i,i < lo->ys[i]?=xs[i]?):ys.toList.take lo=xs.toList.take lo:=by
 refine u2P λi=>?_
 by_cases c:i < lo
 .rw[u0r c,u0r c,u0G,u0G]
  exact h i c
 .rw[u1a (by rw[o9];omega),u1a (by rw[o9];omega)]
theorem ST.sl (S:ST κ k a₀ hi st):SL k a₀ (arrOf st) hi (pendingOf st) st:=⟨S.pm,S.kd,S.fl,rfl,λ_ _=>rfl⟩
theorem ST.from (S:ST κ k a₀ hi st){t:SortSt}(T:SL k a₀ (arrOf st) hi (pendingOf st) t):ST κ k a₀ hi t:=⟨T.pm,T.kd,T.fl,by rw[T.pd];exact S.sg.low (zgZ T.bl)⟩
theorem zgP {M:Nat}{c:U2}(L:LtE prog w A E s κ k (·∈a₀.toList))(S:ST κ k a₀ c.2 st)(hc:c.1=none)(hle:c.2<=a₀.size) :
 wpS (model prog w) A E s (zlM a₀.size M c) (λr t=>(c.2=a₀.size/\r=.done (none,c.2)/\t=st)\/∃ n,0 < n/\c.2+n<=a₀.size/\r=.yield (none,c.2+n)/\ST κ k a₀ (c.2+n) t) st:=by
 unfold zlM
 by_cases c1:c.2 >= a₀.size
 .rw[j3 c1]
  exact d6 (.inl ⟨by omega,rfl,rfl⟩)
 .rw[j8 c1]
  refine r9 (zdE (m:=a₀.size - c.2) L (by omega) (by omega) S.sl λf t T f1 f2 so=>?_)
  dsimp only
  have S1:=S.from T
  by_cases c2:f < M
  .rw[j3 c2]
   refine r9 (u3G (u1p ⟨rfl,?_⟩))
   have hm:f<=min (a₀.size - c.2) M:=Nat.le_min.mpr ⟨f2,by omega⟩
   have hm2:min (a₀.size - c.2) M<=a₀.size - c.2:=Nat.min_le_left _ _
   refine r9 (zg9 (n:=min (a₀.size - c.2) M) L (by omega) hm f1 S1.sl so λt2 T2 so2=>?_)
   exact u00 (VA L (S1.from T2) (by omega) (by omega) (zfp so2)) λr t3 h=>.inr ⟨_,by omega,by omega,h.1,h.2⟩
  .rw[j8 c2]
   exact u00 (VA L S1 (by omega) (by omega) (zfp so)) λr t3 h=>.inr ⟨f,by omega,by omega,h.1,h.2⟩
theorem zju {p:Pd}(h:1 < p.size):zl8 p+1 < p.size:=by
 have key:∀ b:Bool,(if b=true then p.size - 2 - 1 else p.size - 2)+1 < p.size:=λb=>by
  cases b with
  | true=>rw[j3 rfl];omega
  | false=>rw[j8 u7];omega
 exact key _
theorem own_runsE {Q:Unit->SortSt->Prop}(L:LtE prog w A E s κ k (·∈a₀.toList))(pm:(arrOf st).Perm a₀)(kd:kindOf st=k)(fl:failedOf st=none)(pd:pendingOf st=#[])
 (h:∀ t,(arrOf t).Perm a₀->failedOf t=none->SortedToK κ (arrOf t) a₀.size->Q () t):wpS (model prog w) A E s sortRuns' Q st:=by
 rw[zi1]
 refine r9 (u3u ?_)
 have hz:(arrOf st).size=a₀.size:=pm.size_eq
 rw[hz]
 have S0:ST κ k a₀ 0 st:=⟨pm,kd,fl,by rw[pd];exact rfl⟩
 refine r9 (u00 (u0U (I:=λx c t=>c.1=none/\ST κ k a₀ c.2 t/\c.2<=a₀.size/\(x<=c.2\/c.2=a₀.size)) (Q:=λc t=>c.1=none/\ST κ k a₀ a₀.size t)
  (λx c t _ hx hI=>?_) (λc t hI=>?_) ⟨rfl,S0,u0D _,.inl (q5 _)⟩) λc t hI=>?_)
 .obtain⟨h1,h2,h3,h4⟩:=hI
  refine u00 (zgP L h2 h1 h3) λr t2 hr=>?_
  rcases hr with ⟨e,rfl,rfl⟩ | ⟨n,n0,n1,rfl,S2⟩
  .exact⟨rfl,by rw[e]at h2;exact h2⟩
  .exact⟨rfl,S2,n1,by rcases h4 with h4 | h4 <;> (show x+1<=c.2+n\/c.2+n=a₀.size;omega)⟩
 .obtain⟨h1,h2,h3,h4⟩:=hI
  refine⟨h1,?_⟩
  have e:c.2=a₀.size:=by
   rcases h4 with h4 | h4
   .have:max 0 a₀.size=a₀.size:=by omega
    omega
   .exact h4
  rw[e]at h2
  exact h2
 .obtain⟨h1,S1⟩:=hI
  rw[h1]
  dsimp only
  have len:=S1.sg.le
  rw[u5,r6]at len
  refine r9 (u00 (u0U (I:=λx d t=>d=(none,())/\ST κ k a₀ a₀.size t/\(pendingOf t).size+x<=a₀.size) (Q:=λd t=>d=(none,())/\ST κ k a₀ a₀.size t/\(pendingOf t).size<=1)
   (λx d t _ hx hI=>?_) (λd t hI=>?_) ⟨rfl,S1,by omega⟩) λd t hI=>?_)
  .obtain⟨rfl,S2,h2⟩:=hI
   unfold zmC
   refine r9 (u3u ?_)
   by_cases c1:(pendingOf t).size<=1
   .rw[j3 c1]
    exact d6 ⟨rfl,S2,c1⟩
   .rw[j8 c1]
    refine r9 (zaO L S2 (zju (by omega)) (q5 _) λt2 S3 e3 _=>?_)
    exact d6 ⟨rfl,S3,by omega⟩
  .obtain⟨rfl,S2,h2⟩:=hI
   refine⟨rfl,S2,?_⟩
   have:max 0 a₀.size=a₀.size:=by omega
   omega
  .obtain⟨rfl,S2,h2⟩:=hI
   refine d6 (h t S2.pm S2.fl ?_)
   have sz:(arrOf t).toList.length=a₀.size:=by rw[r6,S2.sz]
   have so:(arrOf t).toList.Pairwise (LE κ):=by
    have sg:=S2.sg
    have hl:((pendingOf t).toList.map g2).length<=1:=by rw[u5,r6];exact h2
    match e:(pendingOf t).toList.map g2 with
    | [] =>
     rw[e]at sg
     have z:0=a₀.size:=sg
     have:(arrOf t).toList=[]:=u1f.mp (by omega)
     rw[this]
     exact List.Pairwise.nil
    | [r] =>
     rw[e]at sg
     obtain⟨_,_,s3,s4⟩:=sg
     have z:0+r.2=a₀.size:=s4
     rw[u10,p8 (by omega)]at s3
     exact s3
    | r::r2::q=>rw[e]at hl;simp at hl
   intro i j hij hj
   obtain⟨y,hy⟩:∃ y,(arrOf t).toList[j]?=some y:=⟨_,u6 (by omega)⟩
   obtain⟨x,hx⟩:∃ x,(arrOf t).toList[i]?=some x:=⟨_,u6 (by omega)⟩
   rw[zes (by rw[<-u0G];exact hx),zes (by rw[<-u0G];exact hy)]
   exact VV so hij hx hy
end
end OwnTim
namespace OwnSortT
open PySem PyProof.Rows OwnSort
theorem lex_irr:∀ a:List Int,HT.lexLt a a=false:=by
 intro a
 induction a with
 | nil=>rfl
 | cons x xs ih=>rw[HT.lexLt_cons,j3 rfl,ih]
theorem lex_trans:∀ a b c:List Int,HT.lexLt a b=true->HT.lexLt b c=true->HT.lexLt a c=true:=by
 intro a
 induction a with
 | nil =>
  intro b c h1 h2
  cases c with
  | nil=>cases b <;> cases h2
  | cons _ _=>rfl
 | cons x xs ih =>
  intro b c h1 h2
  cases b with
  | nil=>cases h1
  | cons y ys=>cases c with
   | nil=>cases h2
   | cons z zs =>
    rw[HT.lexLt_cons]at h1 h2 ⊢
    by_cases e1:x=y
    .rw[j3 e1]at h1
     by_cases e2:y=z
     .rw[j3 e2]at h2;rw[j3 (e1.trans e2)];exact ih _ _ h1 h2
     .rw[j8 e2,d5]at h2;rw[j8 (by omega),d5];omega
    .rw[j8 e1,d5]at h1
     by_cases e2:y=z
     .rw[j8 (by omega),d5];omega
     .rw[j8 e2,d5]at h2;rw[j8 (by omega),d5];omega
theorem lex_total:∀ a b:List Int,HT.lexLt a b=false->HT.lexLt b a=false->a=b:=by
 intro a
 induction a with
 | nil =>
  intro b h1 h2
  cases b with
  | nil=>rfl
  | cons _ _=>cases h1
 | cons x xs ih =>
  intro b h1 h2
  cases b with
  | nil=>cases h2
  | cons y ys =>
   rw[HT.lexLt_cons]at h1 h2
   by_cases e:x=y
   .rw[j3 e]at h1;rw[j3 e.symm]at h2;rw[e,ih _ h1 h2]
   .rw[j8 e,u0X]at h1;rw[j8 (u1j e),u0X]at h2;omega
theorem lex_neg (a b c:List Int)(h:HT.lexLt a c=true):HT.lexLt a b=true\/HT.lexLt b c=true:=by
 cases h1:HT.lexLt a b with
 | true=>exact .inl rfl
 | false =>
  refine .inr ?_
  cases h2:HT.lexLt b a with
  | true=>exact lex_trans _ _ _ h2 h
  | false=>rw[<-lex_total _ _ h1 h2];exact h
def TT (h:Heap) (v:Value) (t:List Int):Prop:=∃ a o n its,v=.ref a/\h.get? a=some o/\o.cls=.type "tuple"/\o.data=.seq its.toArray n/\IntsAre its t/\t≠[]
theorem Wj:∀ {vs:List Value} {ns ms:List Int},IntsAre vs ns->IntsAre vs ms->ns=ms:=by
 intro vs ns ms h
 induction h generalizing ms with
 | nil=>intro h2;cases h2;rfl
 | cons n t h ih=>intro h2;cases h2 with | cons n' t' h'=>rw[ih h']
theorem TT.uniq {h:Heap}{v:Value}{s t:List Int}(x:TT h v s)(y:TT h v t):s=t:=by
 obtain⟨a,o,n,its,rfl,e1,_,d1,i1,_⟩:=x
 obtain⟨b,p,m,its',e,e2,_,d2,i2,_⟩:=y
 cases e
 rw[e1]at e2
 cases e2
 rw[d1]at d2
 have e3:its.toArray=its'.toArray:=by injection d2
 cases u29 e3
 exact Wj i1 i2
theorem TT.keep {h h':Heap}{v:Value}{t:List Int}(x:TT h v t)(k:∀ b o,h.get? b=some o->h'.get? b=some o):TT h' v t:=by
 obtain⟨a,o,n,its,e,e1,r⟩:=x
 exact⟨a,o,n,its,e,k _ _ e1,r⟩
theorem TT.keepT {h h':Heap} {v:Value} {t:List Int} (x:TT h v t) (k:∀ b o,o.cls=.type "tuple"->h.get? b=some o->h'.get? b=some o):TT h' v t:=by
 obtain⟨a,o,n,its,e,e1,c,r⟩:=x
 exact⟨a,o,n,its,e,k _ _ c e1,c,r⟩
open Classical in
noncomputable def zaX (h:Heap)(v:Value):Option (List Int):=if x:∃ t,TT h v t then some x.choose else none
theorem zcR {h:Heap}{v:Value}{t:List Int}(x:TT h v t):zaX h v=some t:=by
 unfold zaX
 have y:∃ t,TT h v t:=⟨t,x⟩
 rw[dif_pos y,y.choose_spec.uniq x]
@[reducible] noncomputable def zdr (h:Heap):KeyKind where
 α:=List Int
 blt:=HT.lexLt
 irrefl:=lex_irr
 trans:=lex_trans
 negTrans:=lex_neg
 total:=lex_total
 keyOf:=zaX h
 dflt:=[]
section
variable {prog:Program}{w:World}{A:Around}{E:Value->Shared->Prop}{s:Shared}
def zjN (d:Bool):List Int->List Int->Bool
 | x::xs,y::ys=>if x=y then zjN d xs ys else decide (x < y)
 | _,_=>d
theorem zjd:∀ a b:List Int,zjN (decide (a.length < b.length)) a b=HT.lexLt a b:=by
 intro a
 induction a with
 | nil=>intro b;cases b with
  | nil=>rfl
  | cons _ _=>rfl
 | cons x xs ih=>intro b;cases b with
  | nil=>rfl
  | cons y ys =>
   rw[HT.lexLt_cons,<- ih ys]
   show(if x=y then zjN (decide (xs.length+1 < ys.length+1)) xs ys else decide (x < y))=_
   rw[show decide (xs.length+1 < ys.length+1)=decide (xs.length < ys.length) by congr 1;apply propext;omega]
def zf9 (x:(Value × Value) × Nat)(_:Option Bool × Unit):Sem (ForInStep (Option Bool × Unit)):=do
 let b<-eqBool x.1.1 x.1.2
 if (!b)=true then do
  let c<-oneLt' (true&&x.2 == 0) x.1.1 x.1.2
  pure (ForInStep.done (some c,()))
 else pure (ForInStep.yield (none,()))
theorem zg0 {d:Bool}:∀ {xs:List Value} {ns:List Int} {ys:List Value} {ms:List Int} {k:Nat} {Q:Option Bool × Unit->Shared->Prop},IntsAre xs ns->IntsAre ys ms->(∀ r:Option Bool × Unit,r.1.getD d=zjN d ns ms->Q r s) ->
 wpAny (model prog w) A (forIn ((xs.zip ys).zipIdx k) ((none,()):Option Bool × Unit) zf9) Q E s:=by
 intro xs ns ys ms k Q h1
 induction h1 generalizing ys ms k with
 | nil=>intro h2 q;exact u9 (q (none,()) rfl)
 | cons x t h1 ih =>
  intro h2 q
  cases h2 with
  | nil=>exact u9 (q (none,()) rfl)
  | cons y u h2 =>
   rw[u1F,u1Y,u16]
   refine u0 (u0 (u2F x t y u prog w E _ ?_))
   by_cases c:x=y
   .rw[show(x == y)=true by rw[c];exact u1C _]
    refine u9 (ih h2 λr hr=>q r (hr.trans ?_))
    show _=(if x=y then zjN d _ _ else decide (x < y))
    rw[j3 c]
   .rw[show(x == y)=false by simpa using c]
    have q0:Q (some (decide (x < y)),()) s:=q _ (by
     show decide (x < y)=(if x=y then zjN d _ _ else decide (x < y))
     rw[j8 c])
    cases k with
    | zero=>exact u0 (oneLt_int (u9 (u9 q0)))
    | succ k=>exact u0 (lt0 (u9 (u9 q0)))
theorem ze0 {x y:Value}{a b:List Int}{Q:Bool->Shared->Prop}(hx:TT s.heap x a)(hy:TT s.heap y b)(h:Q (HT.lexLt a b) s):wpAny (model prog w) A (keyLt' (tuples' true) x y) Q E s:=by
 obtain⟨p,o,n,xs,rfl,e1,_,d1,i1,_⟩:=hx
 obtain⟨q,o2,n2,ys,rfl,e2,_,d2,i2,_⟩:=hy
 rw[zaU]
 refine u0 (u1G e1 d1 (u0 (u1G e2 d2 ?_)))
 show wpAny _ _ (forIn ((xs.zip ys).zipIdx 0) ((none,()):Option Bool × Unit) zf9>>=_) _ _ _
 refine u0 (zg0 (d:=decide (xs.length < ys.length)) i1 i2 λr hr=>?_)
 have e:Q (r.1.getD (decide (xs.length < ys.length))) s:=by
  rw[hr,i1.length,i2.length,zjd];exact h
 obtain⟨r1,u⟩:=r
 cases r1 with
 | none=>exact u9 e
 | some v=>exact u9 e
theorem zhE {vs:List Value}(hT:∀ v∈vs,∃ t,TT s.heap v t):OwnTim.LtE prog w A E s (zdr s.heap) (tuples' true) (·∈(pairsOf vs).toList):=by
 intro st x y Q hk hx hy h
 have look:∀ {x:Keyed},x∈(pairsOf vs).toList->∃ t,TT s.heap x.1 t/\OwnTim.ky (zdr s.heap) x=t:=λ{x} hm=>by
  rw[pairsOf_toList]at hm
  obtain⟨t,ht⟩:=hT _ (mem_zip_self hm).2
  refine⟨t,ht,?_⟩
  unfold OwnTim.ky
  show(zaX s.heap x.1).getD _=t
  rw[zcR ht]
  rfl
 obtain⟨a,ta,ka⟩:=look hx
 obtain⟨b,tb,kb⟩:=look hy
 rw[ka,kb]at h
 rw[lt'_eq]
 refine r9 (u3u ?_)
 rw[hk]
 exact r9 (u3G (u1V (ze0 ta tb ⟨rfl,d6 h⟩)))
theorem Vy:∀ {vs:List Value} {Q:List (Option Value)->Shared->Prop},(∀ v∈vs,∃ t,TT s.heap v t)->(∀ fs:List Value,fs.length=vs.length->(∀ f∈fs,∃ i t,f=.int i t)->Q (fs.map some) s)->wpAny (model prog w) A (vs.mapM firstOfTuple') Q E s
 | [],Q,_,h=>by rw[List.mapM_nil];exact u9 (h [] rfl (by simp))
 | v::vs,Q,hT,h=>by
  obtain⟨t,a,o,n,its,rfl,e1,c1,d1,hi,hne⟩:=hT v u0F
  obtain⟨z,zs,i0,tk,rfl,rfl⟩:∃ z zs i0 tk,its=z::zs/\z=.int i0 tk:=by
   cases hi with
   | nil=>exact absurd rfl hne
   | cons i0 tk hi=>exact⟨_,_,_,_,rfl,rfl⟩
  rw[u4d,zbi]
  refine u0 (u0 (u3F (T:="tuple") ⟨o,e1,c1⟩ ?_))
  rw[j8 (by simp)]
  refine u0 (u1G e1 d1 (u9 (u0 (Vy (λu hu=>hT u (u0b _ hu)) λfs hl hf=>u9 ?_))))
  exact h (.int i0 tk::fs) (by simp[hl]) λf hf'=>by
   rcases j5.mp hf' with rfl | hf'
   .exact⟨_,_,rfl⟩
   .exact hf f hf'
theorem zgt {v₁:Value}{vs:List Value}{Q:SortKind->Shared->Prop}(hT:∀ v∈v₁::vs,∃ t,TT s.heap v t)(h:Q (tuples' true) s):wpAny (model prog w) A (keyKind' (v₁::vs).toArray) Q E s:=by
 rw[keyKind'_eq,u2Q,<- bind_pure_comp,bind_assoc]
 refine u0 (Vy hT λfs hl hf=>u0 (u9 ?_))
 cases fs with
 | nil=>simp at hl
 | cons f fs =>
  rw[j3 (by simp)]
  have ef:((f::fs).map some).toArray.filterMap id=(f::fs).toArray:=by simp
  refine u0 (u1p ?_)
  rw[ef,oneTypeOnly'_eq,u2Q,VX hf]
  simp only[map_pure,pure_bind]
  rw[show(List.map (λ_=>Value.type "int") (f::fs)).toArray[0]?=some (Value.type "int") by simp]
  have al:((List.map (λ_=>Value.type "int") (f::fs)).toArray.all λx=>x == Value.type "int")=true:=by
   simp only[List.all_toArray,u15,u0o]
   intro _ _
   rfl
  simp only[al,u2H,pure_bind,Option.any_some]
  rw[show(Value.type "int" != Value.type "tuple")=true by decide +kernel]
  exact u9 h
end
def Rise (h:Heap)(out:List Value):Prop:=∃ ts:List (List Int),out.length=ts.length/\(∀ (i:Nat) (v:Value) (t:(List Int)),out[i]?=some v->ts[i]?=some t->TT h v t)/\ts.Pairwise λa b=>HT.lexLt b a=false
theorem zgj {h h':Heap}{vs:List Value}{xs:Array Keyed}(hT:∀ v∈vs,∃ t,TT h v t)(hk:∀ v t,TT h v t->TT h' v t)(pm:xs.Perm (pairsOf vs))(hs:SortedToK (zdr h') xs (pairsOf vs).size):(xs.map (·.2)).toList.Perm vs/\Rise h (xs.map (·.2)).toList:=by
 have hl:xs.toList.Perm (vs.zip vs):=by rw[<-pairsOf_toList];exact u0H.mp pm
 have hm:∀ p∈xs.toList,p.1=p.2/\p.1∈vs:=λp hp=>mem_zip_self (hl.mem_iff.mp hp)
 have e2:(xs.map (·.2)).toList=xs.toList.map (·.2):=by simp
 rw[e2]
 refine⟨?_,xs.toList.map λp=>(zaX h' p.1).getD ([]:List Int),by simp,λi v t hv ht=>?_,?_⟩
 .have:=hl.map (·.2)
  rwa[show(vs.zip vs).map (·.2)=vs from u3U (q5 _)]at this
 .rw[j7]at hv ht
  cases hx:xs.toList[i]? with
  | none=>rw[hx]at hv;cases hv
  | some p =>
   rw[hx]at hv ht
   cases hv
   cases ht
   obtain⟨q1,q2⟩:=hm p (j4 hx)
   obtain⟨t,ht⟩:=hT _ q2
   show TT h p.2 ((zaX h' p.1).getD ([]:List Int))
   rw[zcR (hk _ _ ht),<- q1]
   exact ht
 .rw[u0y]
  intro i j hi hj hij
  have hi':i < xs.size:=by simpa using hi
  have hj':j < xs.size:=by simpa using hj
  have:=hs i j (u2a hij) (by rw[<-pm.size_eq];exact hj')
  unfold KK at this
  rw[u2y xs i hi',u2y xs j hj']at this
  have this:HT.lexLt ((zaX h' xs[j].1).getD ([]:List Int)) ((zaX h' xs[i].1).getD ([]:List Int))=false:=this
  simpa using this
section
variable {prog:Program}{w:World}{A:Around}{E:Value->Shared->Prop}{s:Shared}
theorem Ve {a:Addr} {vs:List Value} {n:Nat} {P:Fin->Shared->Prop} (ho:s.heap.get? a=some (seqObj "list" vs.toArray n)) (hT:∀ v∈vs,∃ t,TT s.heap v t) (h64:vs.length < 10000000)
 (h:∀ out:Array Value,out.toList.Perm vs->Rise s.heap out.toList->P (.done (.ret .none)) { s with heap:=sortedHeap s.heap a vs out }):wpAny (model prog w) A (Builtin.«list.sort» ⟨[.ref a],[]⟩) P E s:=by
 have la:a < s.heap.objs.size:=j9 ho
 have zl:vs.toArray.size=vs.length:=t9
 obtain⟨e1,o1⟩:∃ e1,(s.heap.update a (Obj.mapSeq λ_=>#[])).get? a=some (seqObj "list" #[] e1):=⟨_,u2b ho (λ_=>#[])⟩
 have o6:(((s.heap.update a (Obj.mapSeq λ_=>#[])).push (seqObj "tuple" vs.toArray 0)).push (seqObj "list" #[] 0)).get? a=some (seqObj "list" #[] e1):=u4 _ (u4 _ o1)
 have up:∀ b o,o.cls=.type "tuple"->s.heap.get? b=some o->(((s.heap.update a (Obj.mapSeq λ_=>#[])).push (seqObj "tuple" vs.toArray 0)).push (seqObj "list" #[] 0)).get? b=some o:=λb o c e=>by
  refine u4 _ (u4 _ ((u0h _ _ λz=>?_).trans e))
  subst z
  rw[ho]at e
  cases e
  exact absurd (show Value.type "list"=Value.type "tuple" from c) (by decide +kernel)
 have hT6:∀ v∈vs,∃ t,TT (((s.heap.update a (Obj.mapSeq λ_=>#[])).push (seqObj "tuple" vs.toArray 0)).push (seqObj "list" #[] 0)) v t:=λv hv=>let ⟨t,ht⟩:=hT v hv;⟨t,ht.keepT up⟩
 rw[list_sort_plain]
 refine u0 (u1G ho rfl (u0 (u1u ho rfl (u0 (u2r o1 rfl (u0 (u3L (u0 (u2J (u08 ?_))))))))))
 show wpAny (model prog w) A _ P E { s with heap:=((s.heap.update a (Obj.mapSeq λ_=>#[])).push (seqObj "tuple" vs.toArray 0)).push (seqObj "list" #[] 0) }
 by_cases c2:vs.toArray.size < 2
 .rw[j3 c2,j3 c2]
  refine u0 (u9 ?_)
  dsimp only
  rw[u37]
  refine u0 (u9 ?_)
  obtain⟨r1,r2⟩:=zgj (xs:=pairsOf vs) hT (λv t ht=>ht) (u1M _) (λi j hij hj=>by
   obtain rfl:i=j:=by rw[u23]at hj;omega
   exact u1l _)
  refine u0 (u2r o6 rfl (u0 (u1u o6 rfl ?_ (hsz2:=by rw[u2U];show(pairsOf vs).size<=_;rw[u23,u1K];omega))))
  rw[show(e1 != e1)=false by simp]
  exact u9 (h _ r1 r2)
 .rw[j8 c2,j8 c2]
  cases vs with
  | nil=>simp at c2
  | cons v₁ rest =>
   refine u0 (zgt hT6 ?_)
   refine u0 (u1b (OwnTim.own_runsE (st:=SortSt.mk' (tuples' true) ((v₁::rest).toArray.zip (v₁::rest).toArray) #[] 7 none) (Q:=λ_ t=>(arrOf t).Perm (pairsOf (v₁::rest))/\failedOf t=none/\SortedToK (zdr _) (arrOf t) (pairsOf (v₁::rest)).size)
    (zhE hT6) (u1M _) rfl rfl rfl λt p1 p2 p3=>⟨p1,p2,p3⟩) ?_ λ_ _ e=>e)
   rintro⟨⟨⟩,t⟩ s' ⟨rfl,p1,p2,p3⟩
   obtain⟨r1,r2⟩:=zgj hT (λv t ht=>ht.keepT up) p1 p3
   refine u0 (u2r o6 rfl (u0 (u1u o6 rfl ?_ (hsz2:=by rw[u2U];show(arrOf t).size<=_;rw[p1.size_eq,u23,u1K];omega))))
   rw[p2,show(e1 != e1)=false by simp]
   exact u9 (h _ r1 r2)
theorem ownT_sorted {l:Addr}{vs:List Value}{Q:Value->Shared->Prop}(hl:s.heap.IsList l vs.toArray)(hT:∀ v∈vs,∃ t,TT s.heap v t)(h64:vs.length < 10000000)
 (h:∀ out:Array Value,out.toList.Perm vs->Rise s.heap out.toList->Q (.ref (s.heap.objs.size+1)) { s with heap:=sortedAll s.heap vs out }):wpAny (model prog w) A (call (.builtin "sorted") [.ref l]) Q E s:=by
 have z1:((s.heap.push (seqObj "list" #[] 0)).update s.heap.objs.size (Obj.mapSeq (·++vs.toArray))).objs.size=s.heap.objs.size+1:=(Heap.size_update ..).trans (size_push' _ _)
 have oL:(((s.heap.push (seqObj "list" #[] 0)).update s.heap.objs.size (Obj.mapSeq (·++vs.toArray))).push (seqObj "list" vs.toArray 0)).get? (s.heap.objs.size+1)=some (seqObj "list" vs.toArray 0):=z1 ▸ r8 _ rfl
 have up:∀ b o,s.heap.get? b=some o->(((s.heap.push (seqObj "list" #[] 0)).update s.heap.objs.size (Obj.mapSeq (·++vs.toArray))).push (seqObj "list" vs.toArray 0)).get? b=some o:=λb o e =>
  u4 _ ((u0h _ _ λz=>by subst z;exact absurd (j9 e) (u0I _)).trans (u4 _ e))
 refine Calls.call_function_entry kind_sorted plain_sorted entry_sorted (args_sorted1 _) ?_
 unfold Builtin.«sorted»
 refine u0 (m:=checkCount "sorted" 1 1 _) (u9 (u0 (collect_list hl (u0 (u2J ?_)))))
 show wpAny _ _ _ _ _ (Shared.mk (((s.heap.push (seqObj "list" #[] 0)).update s.heap.objs.size (Obj.mapSeq (·++vs.toArray))).push (seqObj "list" vs.toArray 0)) s.gens s.drawn s.toks s.os)
 rw[z1]
 refine u0 (u08 (u07 slot_list_sort ⟨_,oL,rfl⟩ entry_list_sort (Ve oL (λv hv=>let ⟨t,ht⟩:=hT v hv;⟨t,ht.keep up⟩) h64 λout p1 p2=>⟨_,rfl,u9 ⟨_,rfl,h out p1 ?_⟩⟩) (args_list_sort _)))
 obtain⟨ts,q1,q2,q3⟩:=p2
 refine⟨ts,q1,λi v t hv ht=>?_,q3⟩
 obtain⟨t0,ht0⟩:=hT v (p1.mem_iff.mp (j4 hv))
 rw[(q2 i v t hv ht).uniq (ht0.keep up)]
 exact ht0
end
end OwnSortT
namespace OwnSort
open PySem PyProof.Rows
def Rise (h:Heap)(out:List Value):Prop:=∃ ts:List Pr,out.length=ts.length/\(∀ (i:Nat) (v:Value) (t:Pr),out[i]?=some v->ts[i]?=some t->TP h v t)/\ts.Pairwise λa b=>bltP b a=false
theorem TP.tt {h:Heap}{v:Value}{t:Pr}(x:TP h v t):OwnSortT.TT h v [t.1,t.2]:=by
 obtain⟨a,o,n,tx,ty,e1,e2,e3,e4⟩:=x
 exact⟨a,o,n,[.int t.1 tx,.int t.2 ty],e1,e2,e3,e4,.cons _ _ (.cons _ _ .nil),List.cons_ne_nil _ _⟩
theorem zhy (a b:Pr):HT.lexLt [a.1,a.2] [b.1,b.2]=bltP a b:=by
 rw[HT.lexLt_cons,HT.lexLt_cons]
 unfold bltP
 by_cases c:a.1=b.1
 .rw[j3 c]
  by_cases c2:a.2=b.2
  .rw[j3 c2,h9 (by omega)];rfl
  .rw[j8 c2,u3b];omega
 .rw[j8 c,u3b];omega
theorem zgB {h:Heap}{vs out:List Value}(hT:∀ v∈vs,∃ t,TP h v t)(pm:out.Perm vs)(r:OwnSortT.Rise h out):Rise h out:=by
 obtain⟨ts,l1,l2,l3⟩:=r
 have key:∀ (i:Nat) (v:Value) (t:List Int),out[i]?=some v->ts[i]?=some t->∃ p:Pr,TP h v p/\t=[p.1,p.2]:=λi v t h1 h2=>by
  obtain⟨p,hp⟩:=hT v (pm.mem_iff.mp (j4 h1))
  exact⟨p,hp,OwnSortT.TT.uniq (l2 i v t h1 h2) hp.tt⟩
 have ex:∀ t∈ts,∃ p:Pr,t=[p.1,p.2]:=λt ht=>by
  obtain⟨i,hi,rfl⟩:=u0i ht
  obtain⟨p,_,e⟩:=key i out[i] ts[i] (u6 (by omega)) (u6 hi)
  exact⟨p,e⟩
 refine⟨ts.map λt=>(t.getD 0 0,t.getD 1 0),by rw[u5,l1],λi v t h1 h2=>?_,?_⟩
 .rw[j7]at h2
  obtain⟨u,hu,rfl⟩:=t7.mp h2
  obtain⟨p,hp,rfl⟩:=key i v u h1 hu
  exact hp
 .rw[u0Q]
  refine l3.imp_of_mem λ{a b} ha hb hab=>?_
  obtain⟨p,rfl⟩:=ex a ha
  obtain⟨q,rfl⟩:=ex b hb
  rw[zhy]at hab
  exact hab
section
variable {prog:Program}{w:World}{A:Around}{E:Value->Shared->Prop}{s:Shared}
theorem own_sorted {l:Addr}{vs:List Value}{Q:Value->Shared->Prop}(hl:s.heap.IsList l vs.toArray)(hT:∀ v∈vs,∃ t,TP s.heap v t)(h64:vs.length < 64)
 (h:∀ out:Array Value,out.toList.Perm vs->Rise s.heap out.toList->Q (.ref (s.heap.objs.size+1)) { s with heap:=sortedAll s.heap vs out }):wpAny (model prog w) A (call (.builtin "sorted") [.ref l]) Q E s :=
 OwnSortT.ownT_sorted hl (λv hv=>(hT v hv).imp' (λt=>[t.1,t.2]) λ_ ht=>ht.tt) (by omega) λout p r=>h out p (zgB hT p r)
end
end OwnSort
namespace Dl
open PySem L2
class KK where
 K:W.Frag
inductive D where
 | non | bl (b:Bool) | int (i:Int) | str (x:Str) | tup (ds:List D) | lst (ds:List D) | scr (ns:List Int)
  | dct (z t:Bool) (ks:List (List Key)) (vs:List D)
 deriving Inhabited
section
variable [KK]
def zlm (o:HO)(t:Bool)(ks:List (List Key))(xs:List V):Prop :=
 if t=true then ∃ kvs,o=.dT kvs/\kvs.map (·.1)=ks/\kvs.map (·.2)=xs else ∃ kvs:List (Key × V),o=.dK kvs/\kvs.map (λp=>[p.1])=ks/\kvs.map (·.2)=xs
def zcw (H:Hp)(a:Addr)(z t:Bool)(ks:List (List Key))(xs:List V):Prop :=
 ∃ u,zlm u t ks xs/\if z=true then ∃ ob,H a=some (.frz ob u)else H a=some u
theorem zcw.mono {H H':Hp}{a:Addr}{z t:Bool}{ks:List (List Key)}{xs:List V}(s:yz H H')(h:zcw H a z t ks xs):zcw H' a z t ks xs:=by
 obtain⟨u,h1,h2⟩:=h
 refine⟨u,h1,?_⟩
 cases z with
 | true =>
  rw[j3 rfl]at h2 ⊢
  obtain⟨ob,h2⟩:=h2
  exact⟨ob,s _ _ h2⟩
 | false =>
  rw[j8 u7]at h2 ⊢
  exact s _ _ h2
theorem zcw.rd {H:Hp}{a:Addr}{z t:Bool}{ks:List (List Key)}{xs:List V}(h:zcw H a z t ks xs):∃ u,zlm u t ks xs/\Rd H a u:=by
 obtain⟨u,h1,h2⟩:=h
 refine⟨u,h1,?_⟩
 cases z with
 | true =>
  rw[j3 rfl]at h2
  obtain⟨ob,h2⟩:=h2
  exact .inr ⟨ob,h2⟩
 | false =>
  rw[j8 u7]at h2
  exact .inl h2
mutual
def At (H:Hp):D->V->Prop
 | .non,v=>v=.non
 | .bl b,v=>v=.bl b
 | .int i,v=>v=.int i
 | .str x,v=>v=.str x
 | .tup ds,v=>∃ a xs,v=.ref a/\H a=some (.tup xs)/\AtL H ds xs
 | .lst ds,v=>∃ a xs,v=.ref a/\H a=some (.lst xs)/\AtL H ds xs
 | .scr ns,v=>∃ a,v=.ref a/\SqL KK.K H a (ns.map V.int)
 | .dct z t ks vs,v=>∃ a xs,v=.ref a/\zcw H a z t ks xs/\AtL H vs xs
def AtL (H:Hp):List D->List V->Prop
 | [],xs=>xs=[]
 | d::ds,xs=>∃ x r,xs=x::r/\At H d x/\AtL H ds r
end
mutual
theorem At.mono {H H':Hp}(s:yz H H'):∀ {d:D} {v:V},At H d v->At H' d v
 | .non,_,h=>by unfold At at h ⊢;exact h
 | .bl _,_,h=>by unfold At at h ⊢;exact h
 | .int _,_,h=>by unfold At at h ⊢;exact h
 | .str _,_,h=>by unfold At at h ⊢;exact h
 | .tup ds,_,h=>by
  unfold At at h ⊢
  obtain⟨a,xs,e,hx,hl⟩:=h
  exact⟨a,xs,e,s _ _ hx,AtL.mono s hl⟩
 | .lst ds,_,h=>by
  unfold At at h ⊢
  obtain⟨a,xs,e,hx,hl⟩:=h
  exact⟨a,xs,e,s _ _ hx,AtL.mono s hl⟩
 | .scr ns,_,h=>by
  unfold At at h ⊢
  obtain⟨a,e,hx⟩:=h
  exact⟨a,e,s.seq hx⟩
 | .dct z t ks vs,_,h=>by
  unfold At at h ⊢
  obtain⟨a,xs,e,hx,hl⟩:=h
  exact⟨a,xs,e,hx.mono s,AtL.mono s hl⟩
theorem AtL.mono {H H':Hp}(s:yz H H'):∀ {ds:List D} {xs:List V},AtL H ds xs->AtL H' ds xs
 | [],_,h=>by unfold AtL at h ⊢;exact h
 | d::ds,_,h=>by
  unfold AtL at h ⊢
  obtain⟨x,r,e,h1,h2⟩:=h
  exact⟨x,r,e,At.mono s h1,AtL.mono s h2⟩
end
mutual
def noL:D->Bool
 | .tup ds=>zlR ds
 | .lst _=>false
 | .scr _=>false
 | .dct _ _ _ _=>false
 | _=>true
def zlR:List D->Bool
 | []=>true
 | d::ds=>noL d&&zlR ds
end
mutual
theorem At.flat {G F:Hp}(h:∀ q xs,G q=some (.tup xs)->F q=some (.tup xs)):∀ {d:D} {v:V},noL d=true->At G d v->At F d v
 | .non,_,_,a=>by unfold At at a ⊢;exact a
 | .bl _,_,_,a=>by unfold At at a ⊢;exact a
 | .int _,_,_,a=>by unfold At at a ⊢;exact a
 | .str _,_,_,a=>by unfold At at a ⊢;exact a
 | .tup ds,_,n,a=>by
  unfold At at a ⊢
  unfold noL at n
  obtain⟨p,xs,e,hx,hl⟩:=a
  exact⟨p,xs,e,h _ _ hx,AtL.flat h n hl⟩
 | .lst ds,_,n,_=>by unfold noL at n;cases n
 | .scr ds,_,n,_=>by unfold noL at n;cases n
 | .dct _ _ _ _,_,n,_=>by unfold noL at n;cases n
theorem AtL.flat {G F:Hp}(h:∀ q xs,G q=some (.tup xs)->F q=some (.tup xs)):∀ {ds:List D} {xs:List V},zlR ds=true->AtL G ds xs->AtL F ds xs
 | [],_,_,a=>by unfold AtL at a ⊢;exact a
 | d::ds,_,n,a=>by
  unfold AtL at a ⊢
  unfold zlR at n
  rw[u0n]at n
  obtain⟨x,r,e,h1,h2⟩:=a
  exact⟨x,r,e,At.flat h n.1 h1,AtL.flat h n.2 h2⟩
end
section
variable {H H':Hp}{d:D}{ds es:List D}{v x:V}{xs ys:List V}
theorem At.int {i:Int}:At H (.int i) (.int i):=by unfold At;rfl
theorem At.bl {b:Bool}:At H (.bl b) (.bl b):=by unfold At;rfl
theorem At.non:At H .non .non:=by unfold At;rfl
theorem At.str {y:Str}:At H (.str y) (.str y):=by unfold At;rfl
theorem At.tup {a:Addr}(h:H a=some (.tup xs))(hl:AtL H ds xs):At H (.tup ds) (.ref a):=by unfold At;exact⟨a,xs,rfl,h,hl⟩
theorem At.lst {a:Addr}(h:H a=some (.lst xs))(hl:AtL H ds xs):At H (.lst ds) (.ref a):=by unfold At;exact⟨a,xs,rfl,h,hl⟩
theorem AtL.nil:AtL H [] []:=by unfold AtL;rfl
theorem AtL.cons (h:At H d x)(hl:AtL H ds xs):AtL H (d::ds) (x::xs):=by unfold AtL;exact⟨x,xs,rfl,h,hl⟩
theorem At.int_inv {i:Int}(h:At H (.int i) v):v=.int i:=by unfold At at h;exact h
theorem At.bl_inv {b:Bool}(h:At H (.bl b) v):v=.bl b:=by unfold At at h;exact h
theorem At.non_inv (h:At H .non v):v=.non:=by unfold At at h;exact h
theorem At.str_inv {y:Str}(h:At H (.str y) v):v=.str y:=by unfold At at h;exact h
theorem At.tup_inv (h:At H (.tup ds) v):∃ a xs,v=.ref a/\H a=some (.tup xs)/\AtL H ds xs:=by unfold At at h;exact h
theorem At.lst_inv (h:At H (.lst ds) v):∃ a xs,v=.ref a/\H a=some (.lst xs)/\AtL H ds xs:=by unfold At at h;exact h
theorem At.scr_inv {ns:List Int}(h:At H (.scr ns) v):∃ a,v=.ref a/\SqL KK.K H a (ns.map V.int):=by unfold At at h;exact h
theorem At.dct_inv {z t:Bool}{ks:List (List Key)}{vs:List D}(h:At H (.dct z t ks vs) v):∃ a xs,v=.ref a/\zcw H a z t ks xs/\AtL H vs xs:=by unfold At at h;exact h
theorem AtL.nil_inv (h:AtL H [] xs):xs=[]:=by unfold AtL at h;exact h
theorem AtL.cons_inv (h:AtL H (d::ds) xs):∃ x r,xs=x::r/\At H d x/\AtL H ds r:=by unfold AtL at h;exact h
theorem AtL.length:∀ {ds:List D} {xs:List V},AtL H ds xs->xs.length=ds.length
 | [],_,h=>by rw[h.nil_inv];rfl
 | _::_,_,h=>by
  obtain⟨x,r,rfl,_,h2⟩:=h.cons_inv
  rw[p9,p9,AtL.length h2]
theorem AtL.get:∀ {ds:List D} {xs:List V} {i:Nat} {d:D},AtL H ds xs->ds[i]?=some d->∃ x,xs[i]?=some x/\At H d x
 | [],_,_,_,_,e=>by simp at e
 | _::_,_,i,_,h,e=>by
  obtain⟨x,r,rfl,h1,h2⟩:=h.cons_inv
  cases i with
  | zero =>
   simp at e
   subst e
   exact⟨x,rfl,h1⟩
  | succ i =>
   obtain⟨y,hy,ha⟩:=AtL.get (i:=i) h2 (by simpa using e)
   exact⟨y,by simpa using hy,ha⟩
theorem AtL.append:∀ {ds es:List D} {xs ys:List V},AtL H ds xs->AtL H es ys->AtL H (ds++es) (xs++ys)
 | [],_,_,_,h,k=>by rw[h.nil_inv];exact k
 | _::_,_,_,_,h,k=>by
  obtain⟨x,r,rfl,h1,h2⟩:=h.cons_inv
  exact .cons h1 (AtL.append h2 k)
theorem AtL.snoc (h:AtL H ds xs)(k:At H d v):AtL H (ds++[d]) (xs++[v]):=h.append (.cons k .nil)
theorem AtL.take:∀ (n:Nat) {ds:List D} {xs:List V},AtL H ds xs->AtL H (ds.take n) (xs.take n)
 | 0,_,_,_=>by simpa using AtL.nil
 | n+1,[],_,h=>by rw[h.nil_inv];simpa using AtL.nil
 | n+1,_::_,_,h=>by
  obtain⟨x,r,rfl,h1,h2⟩:=h.cons_inv
  rw[List.take_succ_cons,List.take_succ_cons]
  exact .cons h1 (AtL.take n h2)
theorem AtL.drop:∀ (n:Nat) {ds:List D} {xs:List V},AtL H ds xs->AtL H (ds.drop n) (xs.drop n)
 | 0,_,_,h=>h
 | n+1,[],_,h=>by rw[h.nil_inv];simpa using AtL.nil
 | n+1,_::_,_,h=>by
  obtain⟨x,r,rfl,h1,h2⟩:=h.cons_inv
  rw[List.drop_succ_cons,List.drop_succ_cons]
  exact AtL.drop n h2
theorem AtL.set:∀ (n:Nat) {ds:List D} {xs:List V},AtL H ds xs->At H d v->AtL H (ds.set n d) (xs.set n v)
 | _,[],_,h,_=>by rw[h.nil_inv];simpa using AtL.nil
 | 0,_::_,_,h,k=>by
  obtain⟨x,r,rfl,h1,h2⟩:=h.cons_inv
  exact .cons k h2
 | n+1,_::_,_,h,k=>by
  obtain⟨x,r,rfl,h1,h2⟩:=h.cons_inv
  exact .cons h1 (AtL.set n h2 k)
theorem AtL.reverse:∀ {ds:List D} {xs:List V},AtL H ds xs->AtL H ds.reverse xs.reverse
 | [],_,h=>by rw[h.nil_inv];exact .nil
 | _::_,_,h=>by
  obtain⟨x,r,rfl,h1,h2⟩:=h.cons_inv
  rw[List.reverse_cons,List.reverse_cons]
  exact(AtL.reverse h2).snoc h1
theorem AtL.rep (h:AtL H ds xs):∀ k:Nat,AtL H (List.replicate k ds).flatten (List.replicate k xs).flatten
 | 0=>.nil
 | k+1=>by
  rw[u0T,u0T,u1y,u1y]
  exact h.append (AtL.rep h k)
theorem AtL.ints (ns:List Int):AtL H (ns.map D.int) (ns.map V.int):=by
 induction ns with
 | nil=>exact .nil
 | cons n r ih=>exact .cons .int ih
theorem AtL.of_ints:∀ {ns:List Int} {xs:List V},AtL H (ns.map D.int) xs->xs=ns.map V.int
 | [],_,h=>h.nil_inv
 | n::r,_,h=>by
  obtain⟨x,r',rfl,h1,h2⟩:=AtL.cons_inv (by simpa using h)
  rw[h1.int_inv,AtL.of_ints h2]
  rfl
end
def tyN:D->String
 | .non=>"NoneType" | .bl _=>"bool" | .int _=>"int" | .str _=>"str" | .tup _=>"tuple" | .lst _=>"list" | .scr _=>"list" | .dct _ _ _ _=>"dict"
def Hid (F':Hp)(p:Addr)(o:HO):Prop:=F' p=none\/((∃ xs,o=.tup xs)/\F' p=some o)
def Keep (F H F' H':Hp):Prop:=∀ p o,F p=none->H p=some o->Hid F' p o/\H' p=some o
structure Gr (F H F' H':Hp):Prop where
 ff:yz F F'
 fh:yz F' H'
 kp:Keep F H F' H'
theorem Gr.refl {F H:Hp}(s:yz F H):Gr F H F H:=⟨yz.refl _,s,λ_ _ a b=>⟨.inl a,b⟩⟩
theorem Gr.trans {F H F1 H1 F2 H2:Hp}(a:Gr F H F1 H1)(b:Gr F1 H1 F2 H2):Gr F H F2 H2 :=
 ⟨a.ff.trans b.ff,b.fh,λp o e1 e2=>by
  obtain⟨x,y⟩:=a.kp p o e1 e2
  rcases x with x | ⟨x1,x2⟩
  .exact b.kp p o x y
  .exact⟨.inr ⟨x1,b.ff _ _ x2⟩,b.fh _ _ (b.ff _ _ x2)⟩⟩
theorem Gr.kl {F H F' H':Hp}{p:Addr}{o:HO}(g:Gr F H F' H')(n:∀ xs,o≠.tup xs)(e1:F p=none)(e2:H p=some o):F' p=none/\H' p=some o:=by
 obtain⟨x,y⟩:=g.kp p o e1 e2
 rcases x with x | ⟨⟨xs,x1⟩,_⟩
 .exact⟨x,y⟩
 .exact absurd x1 (n xs)
theorem Gr.alloc {F H:Hp}{p:Addr}(s:yz F H)(h:H p=none)(o:HO):Gr F H (upd F p o) (upd H p o):=by
 have hF:F p=none:=s.free h
 refine⟨λb u q=>?_,λb u q=>?_,λb u q r=>?_⟩
 .rw[zq (zk q hF)];exact q
 .by_cases e:b=p
  .subst e;rw[zn]at q ⊢;exact q
  .rw[zq e]at q ⊢;exact s b u q
 .have e:b≠p:=zk r h
  rw[zq e];exact⟨.inl (by rw[zq e];exact q),r⟩
theorem Gr.hide {F H:Hp}{p:Addr}(s:yz F H)(h:H p=none)(o:HO):Gr F H F (upd H p o):=by
 refine⟨yz.refl _,λb u q=>?_,λb u q r=>?_⟩
 .rw[zq (zk (s b u q) h)];exact s b u q
 .have e:b≠p:=zk r h
  rw[zq e];exact⟨.inl q,r⟩
theorem Gr.show {F H:Hp}{p:Addr}{o:HO}{F0 H0:Hp}(g:Gr F0 H0 F H)(h0:H0 p=none)(hF:F p=none)(h:H p=some o):Gr F0 H0 (upd F p o) H:=by
 refine⟨λb u q=>?_,λb u q=>?_,λb u q r=>?_⟩
 .have:=g.ff b u q
  rw[zq (zk this hF)];exact this
 .by_cases e:b=p
  .subst e;rw[zn]at q;rw[<-q];exact h
  .rw[zq e]at q;exact g.fh b u q
 .have e:b≠p:=zk r h0
  obtain⟨x,y⟩:=g.kp b u q r
  refine⟨?_,y⟩
  unfold Hid
  rw[zq e]
  exact x
abbrev Ev:=List (Option D)
def VAt (F:Hp)(ρ:Ev)(σ:St):Prop:=∀ (i:Nat) (d:D),ρ[i]?=some (some d)->∃ v,σ[i]?=some (some v)/\At F d v
theorem VAt.mono {F F':Hp}{ρ:Ev}{σ:St}(h:VAt F ρ σ)(s:yz F F'):VAt F' ρ σ:=λi d e=>let ⟨v,e1,a⟩:=h i d e;⟨v,e1,a.mono s⟩
def RE (t:TE)(f:Ev->Option D):Prop :=
 ∀ (σ:St) (ρ:Ev) (F H:Hp) (d:D) (Q:VK),yz F H->VAt F ρ σ->f ρ=some d->(∀ F' H' v,Gr F H F' H'->At F' d v->Q v H')->t σ H Q
def RT (t:TT)(f:Ev->Option Bool):Prop :=
 ∀ (σ:St) (ρ:Ev) (F H:Hp) (b:Bool) (Q:Bool->Hp->Prop),yz F H->VAt F ρ σ->f ρ=some b->(∀ F' H',Gr F H F' H'->Q b H')->t σ H Q
def RA (t:TA)(f:Ev->Option (List D)):Prop :=
 ∀ (σ:St) (ρ:Ev) (F H:Hp) (ds:List D) (Q:List V->Hp->Prop),yz F H->VAt F ρ σ->f ρ=some ds->(∀ F' H' vs,Gr F H F' H'->AtL F' ds vs->Q vs H')->t σ H Q
def RF (t:TE)(f:Ev->Option (List D)):Prop :=
 ∀ (σ:St) (ρ:Ev) (F H:Hp) (ds:List D) (Q:VK),yz F H->VAt F ρ σ->f ρ=some ds->(∀ F' H' p xs,Gr F H F' H'->H p=none->F' p=none->H' p=some (.lst xs)->AtL F' ds xs->Q (.ref p) H')->t σ H Q
def ED (X:Cx)(e:Expr)(f:Ev->Option D):Prop:=∃ t,PE X e t/\RE t f
def TD (X:Cx)(e:Expr)(f:Ev->Option Bool):Prop:=∃ t,PT X e t/\RT t f
def WD (X:Cx)(e:Expr)(f:Ev->Option Bool):Prop:=∃ t,PW X e t/\RT t f
def AD (X:Cx)(es:List Expr)(f:Ev->Option (List D)):Prop:=∃ t,PA X es t/\RA t f
def FL (X:Cx)(e:Expr)(f:Ev->Option (List D)):Prop:=∃ t,PE X e t/\RF t f
section
variable {X:Cx}{a b c:Expr}{pos:Pos}
def yT (f:Ev->Option (List D)):Ev->Option D:=fun ρ=>(f ρ).map .lst
theorem yX {f:Ev->Option (List D)}(h:FL X a f):ED X a (yT f):=by
 obtain⟨t,ht,r⟩:=h
 refine⟨t,ht,fun σ ρ F H d Q s va e q=>?_⟩
 obtain⟨ds,e1,rfl⟩:=t7.mp e
 refine r σ ρ F H ds Q s va e1 λF' H' p xs g h0 hF hH hx=>?_
 have g2:=g.show h0 hF hH
 exact q _ _ _ g2 (At.lst zn (hx.mono (λb u e=>by rw[zq (zk e hF)];exact e)))
def zc (i:Nat):Ev->Option D:=fun ρ=>(ρ[i]?).getD none
theorem zkA (i:Nat)(h:PE X a (zjT i)):ED X a (zc i):=by
 refine⟨_,h,fun σ ρ F H d Q s va e q=>?_⟩
 have e':ρ[i]?=some (some d):=by
  unfold zc at e
  cases h:ρ[i]? with
  | none=>rw[h]at e;cases e
  | some x=>rw[h]at e;cases x with
   | none=>cases e
   | some y=>cases e;rfl
 obtain⟨v,e1,a1⟩:=va i d e'
 exact⟨v,e1,q _ _ _ (.refl s) a1⟩
def eC (d:D):Ev->Option D:=λ_=>some d
theorem zi {i:Int}(h:PE X a (tC (.int i))):ED X a (eC (.int i)):=⟨_,h,λ_ _ _ _ _ _ s _ e q=>by cases e;exact q _ _ _ (.refl s) .int⟩
theorem XV {i:Bool}(h:PE X a (tC (.bl i))):ED X a (eC (.bl i)):=⟨_,h,λ_ _ _ _ _ _ s _ e q=>by cases e;exact q _ _ _ (.refl s) .bl⟩
theorem XA (h:PE X a (tC .non)):ED X a (eC .non):=⟨_,h,λ_ _ _ _ _ _ s _ e q=>by cases e;exact q _ _ _ (.refl s) .non⟩
def OpD (r:R2)(g:D->D->Option D):Prop :=
 ∀ (F H:Hp) (x y:V) (d e z:D) (Q:VK),yz F H->At F d x->At F e y->g d e=some z->(∀ F' H' v,Gr F H F' H'->At F' z v->Q v H')->r x y H Q
def zm (g:D->D->Option D)(f h:Ev->Option D):Ev->Option D:=fun ρ=>(f ρ).bind λx=>(h ρ).bind λy=>g x y
theorem zgY {r:R2}{g:D->D->Option D}{ta tb:TE}{f h:Ev->Option D}(hg:OpD r g)(ra:RE ta f)(rb:RE tb h):RE (tOp r ta tb) (zm g f h):=by
 intro σ ρ F H z Q s va e q
 obtain⟨x,e1,e⟩:=u3.mp e
 obtain⟨y,e2,e⟩:=u3.mp e
 refine ra σ ρ F H x _ s va e1 λF1 H1 v g1 a1=>?_
 refine rb σ ρ F1 H1 y _ g1.fh (va.mono g1.ff) e2 λF2 H2 u g2 a2=>?_
 exact hg F2 H2 v u x y z Q g2.fh (a1.mono g2.ff) a2 e λF3 H3 w g3 a3=>q F3 H3 w ((g1.trans g2).trans g3) a3
theorem zbO {op:Operator}{r:R2}{g:D->D->Option D}{f h:Ev->Option D}(ho:OpR X (binaryOp op) r)(hg:OpD r g)(ha:ED X a f)(hb:ED X b h):ED X (.BinOp a op b pos) (zm g f h) :=
 let ⟨_,pa,ra⟩:=ha
 let ⟨_,pb,rb⟩:=hb
 ⟨_,zkX ho pa pb,zgY hg ra rb⟩
theorem XH {op:CmpOp}{r:R2}{g:D->D->Option D}{f h:Ev->Option D}(ho:OpR X (compareOp op) r)(hg:OpD r g)(hm:behindInMarks op b=false)(ha:ED X a f)(hb:ED X b h):ED X (.Compare a [op] [b] pos) (zm g f h) :=
 let ⟨_,pa,ra⟩:=ha
 let ⟨_,pb,rb⟩:=hb
 ⟨_,zjD ho pa pb hm,zgY hg ra rb⟩
def asB:D->Option Bool
 | .bl b=>some b
 | _=>none
theorem X7 {d:D}{b:Bool}(h:asB d=some b):d=.bl b:=by
 cases d <;> first | (cases h;rfl) | cases h
def tOf (f:Ev->Option D):Ev->Option Bool:=fun ρ=>(f ρ).bind asB
theorem zlj {t:TE}{f:Ev->Option D}(r:RE t f):RT (zk1 t) (tOf f):=by
 intro σ ρ F H b Q s va e q
 obtain⟨x,e1,e⟩:=u3.mp e
 cases X7 e
 exact r σ ρ F H _ _ s va e1 λF1 H1 v g1 a1=>⟨b,a1.bl_inv,q F1 H1 g1⟩
theorem ya {op:CmpOp}{r:R2}{g:D->D->Option D}{f h:Ev->Option D}(ho:OpR X (compareOp op) r)(hg:OpD r g)(hm:behindInMarks op b=false)(ha:ED X a f)(hb:ED X b h):TD X (.Compare a [op] [b] pos) (tOf (zm g f h)) :=
 let ⟨_,pa,ra⟩:=ha
 let ⟨_,pb,rb⟩:=hb
 ⟨_,ziV ho pa pb hm,zlj (zgY hg ra rb)⟩
theorem v6 {f:Ev->Option D}(ha:ED X a f)(he:∀ whole,isTrue a X.env whole=(do let v<-whole;standAt a.pos;holding [v] (truthy v)):=by intro _;rfl):TD X a (tOf f) :=
 let ⟨_,pa,ra⟩:=ha
 ⟨_,zkL pa he,zlj ra⟩
def vG (f g:Ev->Option Bool):Ev->Option Bool:=fun ρ=>(f ρ).bind λc=>if c=true then g ρ else some false
def XU (f g:Ev->Option Bool):Ev->Option Bool:=fun ρ=>(f ρ).bind λc=>if c=true then some true else g ρ
def xr (f:Ev->Option Bool):Ev->Option Bool:=fun ρ=>(f ρ).map (!·)
theorem ze8 {f:Ev->Option Bool}(ha:TD X a f):WD X (.BoolOp .And [a] pos) f:=let ⟨_,pa,ra⟩:=ha;⟨_,zjq pa,ra⟩
theorem VG {f:Ev->Option Bool}(ha:TD X a f):WD X (.BoolOp .Or [a] pos) f:=let ⟨_,pa,ra⟩:=ha;⟨_,zk3 pa,ra⟩
theorem zh5 {rest:List Expr}{f g:Ev->Option Bool}(ha:TD X a f)(hb:WD X (.BoolOp .And (b::rest) pos) g):WD X (.BoolOp .And (a::b::rest) pos) (vG f g):=by
 obtain⟨ta,pa,ra⟩:=ha
 obtain⟨tb,pb,rb⟩:=hb
 refine⟨_,zkb pa pb,fun σ ρ F H z Q s va e q=>?_⟩
 obtain⟨x,e1,e⟩:=u3.mp e
 refine ra σ ρ F H x _ s va e1 λF1 H1 g1=>?_
 cases x with
 | true =>
  rw[j3 rfl]at e ⊢
  exact rb σ ρ F1 H1 z Q g1.fh (va.mono g1.ff) e λF2 H2 g2=>q F2 H2 (g1.trans g2)
 | false =>
  rw[j8 u7]at e ⊢
  cases e
  exact q F1 H1 g1
theorem zdN {rest:List Expr}{f g:Ev->Option Bool}(ha:TD X a f)(hb:WD X (.BoolOp .Or (b::rest) pos) g):WD X (.BoolOp .Or (a::b::rest) pos) (XU f g):=by
 obtain⟨ta,pa,ra⟩:=ha
 obtain⟨tb,pb,rb⟩:=hb
 refine⟨_,zmu pa pb,fun σ ρ F H z Q s va e q=>?_⟩
 obtain⟨x,e1,e⟩:=u3.mp e
 refine ra σ ρ F H x _ s va e1 λF1 H1 g1=>?_
 cases x with
 | false =>
  rw[j8 u7]at e ⊢
  exact rb σ ρ F1 H1 z Q g1.fh (va.mono g1.ff) e λF2 H2 g2=>q F2 H2 (g1.trans g2)
 | true =>
  rw[j3 rfl]at e ⊢
  cases e
  exact q F1 H1 g1
theorem zik {f:Ev->Option Bool}(h:WD X a f):TD X a f:=let ⟨_,p,r⟩:=h;⟨_,p.pt,r⟩
theorem ZO {f:Ev->Option Bool}(ha:TD X a f):TD X (.UnaryOp .Not a pos) (xr f):=by
 obtain⟨ta,pa,ra⟩:=ha
 refine⟨_,zlB pa,fun σ ρ F H z Q s va e q=>?_⟩
 obtain⟨x,e1,rfl⟩:=t7.mp e
 exact ra σ ρ F H x _ s va e1 λF1 H1 g1=>q F1 H1 g1
def Xe (f g:Ev->Option D):Ev->Option D:=fun ρ=>((f ρ).bind asB).bind λc=>if c=true then g ρ else some (.bl false)
def eOr (f g:Ev->Option D):Ev->Option D:=fun ρ=>((f ρ).bind asB).bind λc=>if c=true then some (.bl true)else g ρ
def zaD (f:Ev->Option D):Ev->Option D:=fun ρ=>((f ρ).bind asB).map λc=>.bl (!c)
theorem XJ {op}{f:Ev->Option D}(ha:ED X a f):ED X (.BoolOp op [a] pos) f:=let ⟨_,pa,ra⟩:=ha;⟨_,zjU pa,ra⟩
theorem Y9 {rest:List Expr}{f g:Ev->Option D}(ha:ED X a f)(hb:ED X (.BoolOp .And (b::rest) pos) g):ED X (.BoolOp .And (a::b::rest) pos) (Xe f g):=by
 obtain⟨ta,pa,ra⟩:=ha
 obtain⟨tb,pb,rb⟩:=hb
 refine⟨_,zln pa pb,fun σ ρ F H z Q s va e q=>?_⟩
 obtain⟨x,e1,e⟩:=u3.mp e
 obtain⟨y,e1,e2⟩:=u3.mp e1
 cases X7 e2
 refine ra σ ρ F H _ _ s va e1 λF1 H1 v g1 a1=>⟨x,a1.bl_inv,?_⟩
 cases x with
 | true =>
  rw[j3 rfl]at e ⊢
  exact rb σ ρ F1 H1 z Q g1.fh (va.mono g1.ff) e λF2 H2 w g2 a2=>q F2 H2 w (g1.trans g2) a2
 | false =>
  rw[j8 u7]at e ⊢
  cases e
  exact q F1 H1 _ g1 .bl
theorem ziq {f:Ev->Option D}(ha:ED X a f):ED X (.UnaryOp .Not a pos) (zaD f):=by
 obtain⟨ta,pa,ra⟩:=ha
 refine⟨_,zlq pa,fun σ ρ F H z Q s va e q=>?_⟩
 obtain⟨x,e1,rfl⟩:=t7.mp e
 obtain⟨y,e1,e2⟩:=u3.mp e1
 cases X7 e2
 exact ra σ ρ F H _ _ s va e1 λF1 H1 v g1 a1=>⟨x,a1.bl_inv,q F1 H1 _ g1 .bl⟩
def eIf (t:Ev->Option Bool)(f g:Ev->Option D):Ev->Option D:=fun ρ=>(t ρ).bind λc=>if c=true then f ρ else g ρ
def eUn (g:D->Option D)(f:Ev->Option D):Ev->Option D:=fun ρ=>(f ρ).bind g
def ZC:D->Option D
 | .int i=>some (.int (-i))
 | _=>none
theorem Xz {f:Ev->Option D}(ha:ED X a f):ED X (.UnaryOp .USub a pos) (eUn ZC f):=by
 obtain⟨ta,pa,ra⟩:=ha
 refine⟨_,zml zkd pa,fun σ ρ F H z Q s va e q=>?_⟩
 obtain⟨x,e1,e⟩:=u3.mp e
 cases x <;> try cases e
 exact ra σ ρ F H _ _ s va e1 λF1 H1 v g1 a1=>⟨_,a1.int_inv,q F1 H1 _ g1 .int⟩
def zr:Ev->Option (List D):=λ_=>some []
def zb (f:Ev->Option D)(g:Ev->Option (List D)):Ev->Option (List D):=fun ρ=>(f ρ).bind λd=>(g ρ).map (d::·)
theorem zd:AD X [] zr:=⟨_,za6,λ_ _ _ _ _ _ s _ e q=>by cases e;exact q _ _ _ (.refl s) .nil⟩
theorem za {e:Expr}{es:List Expr}{f:Ev->Option D}{g:Ev->Option (List D)}(ha:ED X e f)(hr:AD X es g)(hs:starEach (e::es) X.env=(false,eval e X.env)::starEach es X.env:=by rfl):AD X (e::es) (zb f g):=by
 obtain⟨ta,pa,ra⟩:=ha
 obtain⟨tb,pb,rb⟩:=hr
 refine⟨_,Zz pa pb hs,fun σ ρ F H z Q s va e q=>?_⟩
 obtain⟨x,e1,e⟩:=u3.mp e
 obtain⟨ds,e2,rfl⟩:=t7.mp e
 refine ra σ ρ F H x _ s va e1 λF1 H1 v g1 a1=>?_
 exact rb σ ρ F1 H1 ds _ g1.fh (va.mono g1.ff) e2 λF2 H2 w g2 a2=>q F2 H2 _ (g1.trans g2) (.cons (a1.mono g2.ff) a2)
def lim (n:Nat):Bool:=decide (n<=sizeLine)
def wQ (g:Ev->Option (List D)):Ev->Option D:=fun ρ=>(g ρ).bind λds=>if lim ds.length=true then some (.tup ds)else none
def yc (g:Ev->Option (List D)):Ev->Option (List D):=fun ρ=>(g ρ).bind λds=>if lim ds.length=true then some ds else none
theorem x3 {es:List Expr}{x1}{g:Ev->Option (List D)}(h:AD X es g):ED X (.Tuple es x1 pos) (wQ g):=by
 obtain⟨ta,pa,ra⟩:=h
 refine⟨_,zlx pa,fun σ ρ F H z Q s va e q=>?_⟩
 obtain⟨ds,e1,e⟩:=u3.mp e
 split at e <;> cases e
 rename_i hl
 refine ra σ ρ F H ds _ s va e1 λF1 H1 vs g1 a1=>⟨by rw[a1.length];exact s0 hl,λp hp=>?_⟩
 have g2:=Gr.alloc g1.fh hp (.tup vs)
 exact q _ _ _ (g1.trans g2) (.tup zn (a1.mono g2.ff))
theorem xm {es:List Expr}{g:Ev->Option (List D)}(h:AD X es g):FL X (.List es pos) (yc g):=by
 obtain⟨ta,pa,ra⟩:=h
 refine⟨_,zjX pa,fun σ ρ F H z Q s va e q=>?_⟩
 obtain⟨ds,e1,e⟩:=u3.mp e
 split at e <;> cases e
 rename_i hl
 refine ra σ ρ F H _ _ s va e1 λF1 H1 vs g1 a1=>⟨by rw[a1.length];exact s0 hl,λp hp=>?_⟩
 have g2:=Gr.hide g1.fh hp (.lst vs)
 have h0:H p=none:=by
  cases e:H p with
  | none=>rfl
  | some o =>
   cases e2:F p with
   | none=>rw[(g1.kp p o e2 e).2]at hp;cases hp
   | some u=>rw[g1.fh _ _ (g1.ff _ _ e2)]at hp;cases hp
 exact q _ _ _ _ (g1.trans g2) h0 (g1.fh.free hp) zn a1
end
end
end Dl
namespace Dl
open PySem L2
variable [KK]
inductive Sl where
 | no | v (d:D) | o (ds:List D) | m (t:Bool) (ks:List (List Key)) (vs:List D)
 deriving Inhabited
abbrev SE:=List Sl
def Sl.f:Sl->Option D
 | .v d=>some d
 | _=>none
def Sl.g:Sl->Option D
 | .v d=>some d
 | .o ds=>some (.lst ds)
 | .m t ks vs=>some (.dct false t ks vs)
 | .no=>none
def Sl.isO:Sl->Bool
 | .o _=>true
 | .m _ _ _=>true
 | _=>false
def visF (ρ:SE):Ev:=ρ.map Sl.f
def visG (ρ:SE):Ev:=ρ.map Sl.g
def zeb (F:Hp)(o:HO):Sl->Prop
 | .o ds=>∃ xs,o=.lst xs/\AtL F ds xs
 | .m t ks ds=>∃ xs,zlm o t ks xs/\AtL F ds xs
 | _=>False
theorem zeb.mono {F F':Hp}{o:HO}{s:Sl}(h:zeb F o s)(k:yz F F'):zeb F' o s:=by
 cases s with
 | no=>exact h
 | v d=>exact h
 | o ds=>obtain⟨xs,e,a⟩:=h;exact⟨xs,e,a.mono k⟩
 | m t ks ds=>obtain⟨xs,e,a⟩:=h;exact⟨xs,e,a.mono k⟩
theorem zeb.isO {F:Hp}{o:HO}{s:Sl}(h:zeb F o s):s.isO=true:=by
 cases s with
 | no=>exact h.elim
 | v d=>exact h.elim
 | o ds=>rfl
 | m t ks ds=>rfl
theorem zeb.ntup {F:Hp}{o:HO}{s:Sl}(h:zeb F o s)(xs:List V):o≠.tup xs:=by
 cases s with
 | no=>exact h.elim
 | v d=>exact h.elim
 | o ds=>obtain⟨ys,rfl,_⟩:=h;intro e;cases e
 | m t ks ds =>
  obtain⟨ys,e,_⟩:=h
  unfold zlm at e
  split at e
  .obtain⟨kvs,rfl,_⟩:=e;intro e;cases e
  .obtain⟨kvs,rfl,_⟩:=e;intro e;cases e
theorem zeb.at {F G:Hp}{o:HO}{s:Sl}{d:D}{p:Addr}(h:zeb F o s)(e:s.g=some d)(hp:G p=some o)(k:yz F G):At G d (.ref p):=by
 cases s with
 | no=>exact h.elim
 | v d=>exact h.elim
 | o ds =>
  cases e
  obtain⟨xs,rfl,a⟩:=h
  exact .lst hp (a.mono k)
 | m t ks ds =>
  cases e
  obtain⟨xs,e,a⟩:=h
  unfold At
  exact⟨p,xs,rfl,⟨o,e,hp⟩,a.mono k⟩
structure Rl (Fb Hb F H:Hp) (ρ:SE) (σ:St):Prop where
 gr:Gr Fb Hb F H
 vals:∀ (i:Nat) (d:D),ρ[i]?=some (.v d)->∃ v,σ[i]?=some (some v)/\At F d v
 ows:∀ (i:Nat) (s:Sl),ρ[i]?=some s->s.isO=true->∃ p o,σ[i]?=some (some (.ref p))/\Hb p=none/\F p=none/\H p=some o/\zeb F o s
 dis:∀ (i j:Nat) (p:Addr) (s t:Sl),ρ[i]?=some s->ρ[j]?=some t->s.isO=true->t.isO=true->σ[i]?=some (some (.ref p))->σ[j]?=some (some (.ref p))->i=j
 len:ρ.length=σ.length
section
variable {Fb Hb F H F' H':Hp}{ρ ρ':SE}{σ σ':St}
theorem Rl.owns (r:Rl Fb Hb F H ρ σ)(i:Nat)(ds:List D)(e:ρ[i]?=some (.o ds)):∃ p xs,σ[i]?=some (some (.ref p))/\Hb p=none/\F p=none/\H p=some (.lst xs)/\AtL F ds xs:=by
 obtain⟨p,o,e1,e2,e3,e4,xs,rfl,a⟩:=r.ows i _ e rfl
 exact⟨p,xs,e1,e2,e3,e4,a⟩
theorem Rl.grow (r:Rl Fb Hb F H ρ σ)(g:Gr F H F' H'):Rl Fb Hb F' H' ρ σ:=by
 refine⟨r.gr.trans g,λi d e=>?_,λi s e h=>?_,r.dis,r.len⟩
 .obtain⟨v,e1,a⟩:=r.vals i d e
  exact⟨v,e1,a.mono g.ff⟩
 .obtain⟨p,o,e1,e2,e3,e4,a⟩:=r.ows i s e h
  obtain⟨k1,k2⟩:=g.kl a.ntup e3 e4
  exact⟨p,o,e1,e2,k1,k2,a.mono g.ff⟩
theorem Rl.visF (r:Rl Fb Hb F H ρ σ):VAt F (visF ρ) σ:=λi d e=>by
 unfold Dl.visF at e
 rw[j7]at e
 cases h:ρ[i]? with
 | none=>rw[h]at e;cases e
 | some x =>
  rw[h]at e
  cases x with
  | no=>cases e
  | v d' =>
   cases e
   exact r.vals i d h
  | o ds=>cases e
  | m t ks ds=>cases e
def Own (ρ:SE)(σ:St)(p:Addr):Prop:=∃ (i:Nat) (s:Sl),ρ[i]?=some s/\s.isO=true/\σ[i]?=some (some (.ref p))
open Classical in
noncomputable def gOf (ρ:SE)(σ:St)(F H:Hp):Hp:=λp=>if Own ρ σ p then H p else F p
open Classical in
noncomputable def fOf (ρ:SE)(σ:St)(G:Hp):Hp:=λp=>if Own ρ σ p then none else G p
theorem Rl.own (r:Rl Fb Hb F H ρ σ){p:Addr}(h:Own ρ σ p):Hb p=none/\F p=none/\∃ o,H p=some o/\∀ xs,o≠.tup xs:=by
 obtain⟨i,s,e1,e2,e3⟩:=h
 obtain⟨q,o,e4,e5,e6,e7,a⟩:=r.ows i s e1 e2
 rw[e3]at e4
 cases e4
 exact⟨e5,e6,o,e7,a.ntup⟩
theorem Rl.notown (r:Rl Fb Hb F H ρ σ){q:Addr}(h:H q=none)(j:Nat)(s:Sl)(e1:ρ[j]?=some s)(e2:s.isO=true):σ[j]?≠some (some (.ref q)):=λe=>by
 obtain⟨p,o,f1,_,_,f4,_⟩:=r.ows j s e1 e2
 rw[e]at f1
 cases f1
 rw[h]at f4
 cases f4
theorem Rl.notbase (r:Rl Fb Hb F H ρ σ){q:Addr}(h:H q=none):Hb q=none:=by
 cases z:Hb q with
 | none=>rfl
 | some o =>
  cases z2:Fb q with
  | none=>rw[(r.gr.kp q o z2 z).2]at h;cases h
  | some u=>rw[r.gr.fh _ _ (r.gr.ff _ _ z2)]at h;cases h
theorem Rl.fg (r:Rl Fb Hb F H ρ σ):yz F (gOf ρ σ F H):=λp o e=>by
 unfold gOf
 split
 .exact r.gr.fh p o e
 .exact e
theorem Rl.gh (r:Rl Fb Hb F H ρ σ):yz (gOf ρ σ F H) H:=λp o e=>by
 unfold gOf at e
 split at e
 .exact e
 .exact r.gr.fh p o e
theorem Rl.visG (r:Rl Fb Hb F H ρ σ):VAt (gOf ρ σ F H) (visG ρ) σ:=λi d e=>by
 unfold Dl.visG at e
 rw[j7]at e
 cases h:ρ[i]? with
 | none=>rw[h]at e;cases e
 | some x =>
  rw[h]at e
  have e:x.g=some d:=u0x e
  have own:x.isO=true->∃ v,σ[i]?=some (some v)/\At (gOf ρ σ F H) d v:=λhx=>by
   obtain⟨p,o,e1,e2,e3,e4,a⟩:=r.ows i x h hx
   refine⟨_,e1,a.at e ?_ r.fg⟩
   unfold gOf
   rw[j3 ⟨i,x,h,hx,e1⟩]
   exact e4
  cases x with
  | no=>cases e
  | v d' =>
   cases e
   obtain⟨v,e1,a⟩:=r.vals i d h
   exact⟨v,e1,a.mono r.fg⟩
  | o ds=>exact own rfl
  | m t ks ds=>exact own rfl
theorem Rl.back {G':Hp}(r:Rl Fb Hb F H ρ σ)(g:Gr (gOf ρ σ F H) H G' H'):Gr F H (fOf ρ σ G') H'/\∀ q xs,G' q=some (.tup xs)->fOf ρ σ G' q=some (.tup xs):=by
 refine⟨⟨λp o e=>?_,λp o e=>?_,λp o e1 e2=>?_⟩,λq xs e=>?_⟩
 .unfold fOf
  rw[j8 (λh=>by rw[(r.own h).2.1]at e;cases e)]
  exact g.ff p o (r.fg p o e)
 .unfold fOf at e
  split at e
  .cases e
  .exact g.fh p o e
 .by_cases h:Own ρ σ p
  .refine⟨.inl (by unfold fOf;rw[j3 h]),g.fh p o (g.ff p o ?_)⟩
   unfold gOf
   rw[j3 h]
   exact e2
  .obtain⟨x,y⟩:=g.kp p o (by unfold gOf;rw[j8 h];exact e1) e2
   refine⟨?_,y⟩
   unfold Hid fOf
   rw[j8 h]
   exact x
 .unfold fOf
  rw[j8 (λh=>?_)]
  .exact e
  .obtain⟨_,_,o,e2,n⟩:=r.own h
   have:G' q=some o:=g.ff q _ (by unfold gOf;rw[j3 h];exact e2)
   rw[this]at e
   cases e
   exact n xs rfl
theorem Rl.out {G':Hp}(r:Rl Fb Hb F H ρ σ)(g:Gr (gOf ρ σ F H) H G' H'):Gr Fb Hb G' H':=by
 refine⟨λp o e=>g.ff p o (r.fg p o (r.gr.ff p o e)),g.fh,λp o e1 e2=>?_⟩
 obtain⟨k1,k2⟩:=r.gr.kp p o e1 e2
 have e3:gOf ρ σ F H p=F p:=by
  unfold gOf
  rw[j8 (λh=>by rw[(r.own h).1]at e2;cases e2)]
 rcases k1 with k1 | ⟨k1,k3⟩
 .exact g.kp p o (by rw[e3];exact k1) k2
 .have:=g.ff p o (by rw[e3];exact k3)
  exact⟨.inr ⟨k1,this⟩,g.fh _ _ this⟩
theorem Rl.set (r:Rl Fb Hb F H ρ σ){i:Nat}{d:D}{v:V}(a:At F d v):Rl Fb Hb F H (ρ.set i (.v d)) (σ.set i (some v)):=by
 have nj:∀ {j:Nat} {s:Sl},(ρ.set i (.v d))[j]?=some s->s.isO=true->i≠j:=λ{j s} h ho e=>by
  subst e
  rw[u0W]at h
  simp only[u2H]at h
  split at h <;> cases h
  cases ho
 refine⟨r.gr,λj e h=>?_,λj s h ho=>?_,λj k p s t h1 h2 o1 o2 h3 h4=>?_,by simp[r.len]⟩
 .by_cases hj:i=j
  .subst hj
   rw[u0W]at h
   simp only[u2H]at h
   split at h
   .rename_i hl
    cases h
    refine⟨v,?_,a⟩
    rw[u0W]
    simp[<-r.len,hl]
   .cases h
  .rw[g9 hj]at h ⊢
   exact r.vals j e h
 .have hj:=nj h ho
  rw[g9 hj]at h ⊢
  exact r.ows j s h ho
 .have a1:=nj h1 o1
  have a2:=nj h2 o2
  rw[g9 a1]at h1 h3
  rw[g9 a2]at h2 h4
  exact r.dis j k p s t h1 h2 o1 o2 h3 h4
theorem Rl.setW (r:Rl Fb Hb F H ρ σ){i:Nat}{w:Sl}{p:Addr}{o:HO}(h0:Hb p=none)(hF:F p=none)(hH:H p=some o)(a:zeb F o w)
 (nw:∀ (j:Nat) (s:Sl),ρ[j]?=some s->s.isO=true->σ[j]?≠some (some (.ref p))):Rl Fb Hb F H (ρ.set i w) (σ.set i (some (.ref p))):=by
 have at_i:∀ {s:Sl},(ρ.set i w)[i]?=some s->i < ρ.length/\s=w:=λ{s} h=>by
  rw[u0W]at h
  simp only[u2H]at h
  split at h
  .rename_i hl
   cases h
   exact⟨hl,rfl⟩
  .cases h
 have st_i:i < ρ.length->(σ.set i (some (V.ref p)))[i]?=some (some (.ref p)):=λhl=>by
  rw[u0W]
  simp[<-r.len,hl]
 refine⟨r.gr,λj e h=>?_,λj s h ho=>?_,λj k q s t h1 h2 o1 o2 h3 h4=>?_,by simp[r.len]⟩
 .by_cases hj:i=j
  .subst hj
   have e:=(at_i h).2
   have:=a.isO
   rw[<-e]at this
   cases this
  .rw[g9 hj]at h ⊢
   exact r.vals j e h
 .by_cases hj:i=j
  .subst hj
   obtain⟨hl,e⟩:=at_i h
   subst e
   exact⟨p,o,st_i hl,h0,hF,hH,a⟩
  .rw[g9 hj]at h ⊢
   exact r.ows j s h ho
 .by_cases hj:i=j
  .subst hj
   by_cases hk:i=k
   .exact hk
   .obtain⟨hl,_⟩:=at_i h1
    rw[st_i hl]at h3
    cases h3
    rw[g9 hk]at h2 h4
    exact absurd h4 (nw k t h2 o2)
  .by_cases hk:i=k
   .subst hk
    obtain⟨hl,_⟩:=at_i h2
    rw[st_i hl]at h4
    cases h4
    rw[g9 hj]at h1 h3
    exact absurd h3 (nw j s h1 o1)
   .rw[g9 hj]at h1 h3
    rw[g9 hk]at h2 h4
    exact r.dis j k q s t h1 h2 o1 o2 h3 h4
theorem Rl.setO (r:Rl Fb Hb F H ρ σ){i:Nat}{ds:List D}{p:Addr}{xs:List V}(h0:Hb p=none)(hF:F p=none)(hH:H p=some (.lst xs))(a:AtL F ds xs)
 (nw:∀ (j:Nat) (s:Sl),ρ[j]?=some s->s.isO=true->σ[j]?≠some (some (.ref p))):Rl Fb Hb F H (ρ.set i (.o ds)) (σ.set i (some (.ref p))):=r.setW h0 hF hH ⟨xs,rfl,a⟩ nw
theorem Rl.mutW (r:Rl Fb Hb F H ρ σ){i:Nat}{w w':Sl}{p:Addr}{o':HO}(e:ρ[i]?=some w)(hw:w.isO=true)(e1:σ[i]?=some (some (.ref p)))(a:zeb F o' w'):Rl Fb Hb F (upd H p o') (ρ.set i w') σ:=by
 obtain⟨q,o,e2,h0,hF,hH,_⟩:=r.ows i w e hw
 rw[e1]at e2
 cases e2
 have hi:i < ρ.length:=(u8.mp e).1
 have neP:∀ {j:Nat} {s:Sl} {q:Addr},i≠j->ρ[j]?=some s->s.isO=true->σ[j]?=some (some (.ref q))->q≠p:=λ{j s q} hne h1 ho h2 z=>by
  subst z
  exact hne (r.dis i j q w s e h1 hw ho e1 h2)
 refine⟨⟨r.gr.ff,λb o z=>?_,λb o z1 z2=>?_⟩,λj d h=>?_,λj s h ho=>?_,λj k q s t h1 h2 o1 o2 h3 h4=>?_,by simp[r.len]⟩
 .rw[zq (zk z hF)]
  exact r.gr.fh b o z
 .rw[zq (zk z2 h0)]
  exact r.gr.kp b o z1 z2
 .by_cases hj:i=j
  .subst hj
   rw[u01 hi]at h
   cases h
   exact(Bool.noConfusion a.isO)
  .rw[g9 hj]at h
   exact r.vals j d h
 .by_cases hj:i=j
  .subst hj
   rw[u01 hi]at h
   cases h
   exact⟨p,o',e1,h0,hF,zn,a⟩
  .rw[g9 hj]at h
   obtain⟨q,z,f1,f2,f3,f4,f5⟩:=r.ows j s h ho
   refine⟨q,z,f1,f2,f3,?_,f5⟩
   rw[zq (neP hj h ho f1)]
   exact f4
 .have back:∀ {j:Nat} {s:Sl},(ρ.set i w')[j]?=some s->s.isO=true->∃ s',ρ[j]?=some s'/\s'.isO=true:=λ{j s} h ho=>by
   by_cases hj:i=j
   .subst hj;exact⟨w,e,hw⟩
   .rw[g9 hj]at h;exact⟨s,h,ho⟩
  obtain⟨f1,g1,g1'⟩:=back h1 o1
  obtain⟨f2,g2,g2'⟩:=back h2 o2
  exact r.dis j k q f1 f2 g1 g2 g1' g2' h3 h4
theorem Rl.mutate (r:Rl Fb Hb F H ρ σ){i:Nat}{ds es:List D}{p:Addr}{ys:List V}(e:ρ[i]?=some (.o ds))(e1:σ[i]?=some (some (.ref p)))(a:AtL F es ys):Rl Fb Hb F (upd H p (.lst ys)) (ρ.set i (.o es)) σ :=
 r.mutW e rfl e1 ⟨ys,rfl,a⟩
def Sl.fz:Sl->Sl
 | .o ds=>.v (.lst ds)
 | .m t ks vs=>.v (.dct false t ks vs)
 | s=>s
def zlV (ρ:SE)(i:Nat):SE:=ρ.set i ((ρ[i]?).getD .no).fz
theorem Rl.freeze (r:Rl Fb Hb F H ρ σ)(i:Nat):∃ F',Rl Fb Hb F' H (zlV ρ i) σ:=by
 unfold zlV
 cases h:ρ[i]? with
 | none =>
  refine⟨F,?_⟩
  rw[List.set_eq_of_length_le (List.getElem?_eq_none_iff.mp h)]
  exact r
 | some s =>
  have hi:i < ρ.length:=(u8.mp h).1
  have same:s.fz=s->∃ F',Rl Fb Hb F' H (ρ.set i ((some s).getD .no).fz) σ:=λe=>by
   refine⟨F,?_⟩
   show Rl Fb Hb F H (ρ.set i s.fz) σ
   rw[e]
   have:ρ.set i s=ρ:=by
    apply u2P
    intro j
    by_cases hj:i=j
    .subst hj;rw[u01 hi,h]
    .rw[g9 hj]
   rw[this]
   exact r
  have give:∀ d,s.isO=true->s.g=some d->s.fz=.v d->∃ F',Rl Fb Hb F' H (ρ.set i ((some s).getD .no).fz) σ:=λd ho hg hz=>by
   obtain⟨p,o,e1,e2,e3,e4,a⟩:=r.ows i s h ho
   have sF:yz F (upd F p o):=λb u e=>by rw[zq (zk e e3)];exact e
   show ∃ F',Rl Fb Hb F' H (ρ.set i s.fz) σ
   rw[hz]
   have nj:∀ {j:Nat} {t:Sl},(ρ.set i (.v d))[j]?=some t->t.isO=true->i≠j:=λ{j t} h ht e=>by
    subst e
    rw[u01 hi]at h
    cases h
    cases ht
   refine⟨upd F p o,r.gr.show e2 e3 e4,λj e z=>?_,λj t z ht=>?_,λj k q t u h1 h2 o1 o2 h3 h4=>?_,by simp[r.len]⟩
   .by_cases hj:i=j
    .subst hj
     rw[u01 hi]at z
     cases z
     exact⟨_,e1,a.at hg zn sF⟩
    .rw[g9 hj]at z
     obtain⟨v,f1,f2⟩:=r.vals j e z
     exact⟨v,f1,f2.mono sF⟩
   .have hj:=nj z ht
    rw[g9 hj]at z
    obtain⟨q,y,f1,f2,f3,f4,f5⟩:=r.ows j t z ht
    refine⟨q,y,f1,f2,?_,f4,f5.mono sF⟩
    rw[zq (λw=>hj (r.dis i j p s t h z ho ht e1 (by rw[<-w];exact f1)))]
    exact f3
   .have a1:=nj h1 o1
    have a2:=nj h2 o2
    rw[g9 a1]at h1
    rw[g9 a2]at h2
    exact r.dis j k q t u h1 h2 o1 o2 h3 h4
  cases s with
  | no=>exact same rfl
  | v d=>exact same rfl
  | o ds=>exact give _ rfl rfl rfl
  | m t ks ds=>exact give _ rfl rfl rfl
end
inductive Ctl where
 | nx (ρ:SE) | rt (d:D) | bk (ρ:SE) | ct (ρ:SE) | no
 deriving Inhabited
def SOk (Fb Hb:Hp)(E:zhM):Ctl->Prop
 | .nx ρ=>∀ F H σ,Rl Fb Hb F H ρ σ->E.nx σ H
 | .bk ρ=>∀ F H σ,Rl Fb Hb F H ρ σ->E.bk σ H
 | .ct ρ=>∀ F H σ,Rl Fb Hb F H ρ σ->E.ct σ H
 | .rt d=>∀ F H v,Gr Fb Hb F H->At F d v->E.rt v H
 | .no=>False
def RS (t:TS)(g:SE->Ctl):Prop:=∀ (Fb Hb F H:Hp) (ρ:SE) (σ:St) (E:zhM),Rl Fb Hb F H ρ σ->SOk Fb Hb E (g ρ)->t E σ H
def SD (X:Cx)(st:Stmt)(g:SE->Ctl):Prop:=∃ t,PS X st t/\RS t g
def SDs (X:Cx)(sts:List Stmt)(g:SE->Ctl):Prop:=∃ t,PSs X sts t/\RS t g
section
variable {X:Cx}{st:Stmt}{sts:List Stmt}{a b c e:Expr}{pos pos':Pos}
def yk:SE->Ctl:=.nx
def zS (g h:SE->Ctl):SE->Ctl:=fun ρ=>match g ρ with
 | .nx ρ'=>h ρ'
 | .rt d=>.rt d
 | .bk ρ'=>.bk ρ'
 | .ct ρ'=>.ct ρ'
 | .no=>.no
theorem zO:SDs X [] yk:=⟨_,ziP,λ_ _ F H ρ σ E r h=>h F H σ r⟩
theorem ze {g h:SE->Ctl}(h1:SD X st g)(h2:SDs X sts h):SDs X (st::sts) (zS g h):=by
 obtain⟨t,p,r⟩:=h1
 obtain⟨u,p2,r2⟩:=h2
 refine⟨_,zc3 p p2,λFb Hb F H ρ σ E rl k=>?_⟩
 refine r Fb Hb F H ρ σ { E with nx:=u E } rl ?_
 unfold zS at k
 cases e:g ρ with
 | nx ρ' =>
  rw[e]at k
  exact λF' H' σ' rl'=>r2 Fb Hb F' H' ρ' σ' E rl' k
 | rt d=>rw[e]at k;exact k
 | bk d=>rw[e]at k;exact k
 | ct d=>rw[e]at k;exact k
 | no=>rw[e]at k;exact k
theorem zg {g:SE->Ctl}(h1:SD X st g):SDs X [st] g:=let ⟨_,p,r⟩:=h1;⟨_,zeG p,r⟩
def sFz (i:Nat)(g:SE->Ctl):SE->Ctl:=fun ρ=>g (zlV ρ i)
theorem YG {g:SE->Ctl}(i:Nat)(h:SDs X sts g):SDs X sts (sFz i g):=by
 obtain⟨t,p,r⟩:=h
 refine⟨_,p,λFb Hb F H ρ σ E rl k=>?_⟩
 obtain⟨F',rl'⟩:=rl.freeze i
 exact r Fb Hb F' H _ σ E rl' k
def sNo:SE->Ctl:=λ_=>.no
theorem zax:SD X st sNo:=⟨_,zgG,λ_ _ _ _ _ _ _ _ h=>h.elim⟩
def yU (f:Ev->Option D):SE->Ctl:=fun ρ=>match f (visG ρ) with
 | some d=>.rt d
 | none=>.no
theorem zE {f:Ev->Option D}(h:ED X e f):SD X (.Return (some e) pos) (yU f):=by
 obtain⟨t,p,r⟩:=h
 refine⟨_,zib p,λFb Hb F H ρ σ E rl k=>?_⟩
 unfold yU at k
 cases h:f (visG ρ) with
 | none=>rw[h]at k;exact k.elim
 | some d =>
  rw[h]at k
  exact r σ _ _ H d _ rl.gh rl.visG h λF' H' v g av=>k F' H' v (rl.out g) av
def Y0:SE->Ctl:=λ_=>.rt .non
def vEv (m:Bool)(f:Ev->Option D)(ρ:SE):Option D:=if m=true then (f (visG ρ)).bind λd=>if noL d=true then some d else none else f (visF ρ)
theorem RE.at {Fb Hb F H:Hp}{ρ:SE}{σ:St}{m:Bool}{f:Ev->Option D}{t:TE}{d:D}{Q:VK}(r:RE t f)(rl:Rl Fb Hb F H ρ σ)(h:vEv m f ρ=some d)(q:∀ F' H' v,Gr F H F' H'->At F' d v->Q v H'):t σ H Q:=by
 unfold vEv at h
 cases m with
 | false =>
  rw[j8 u7]at h
  exact r σ _ _ H d _ rl.gr.fh rl.visF h q
 | true =>
  rw[j3 rfl]at h
  obtain⟨d',h1,h2⟩:=u3.mp h
  split at h2 <;> cases h2
  rename_i hn
  refine r σ _ _ H d _ rl.gh rl.visG h1 λF' H' v g av=>?_
  obtain⟨g2,fl⟩:=rl.back g
  exact q _ H' v g2 (av.flat fl hn)
def xL (m:Bool)(i:Nat)(f:Ev->Option D):SE->Ctl:=fun ρ=>match vEv m f ρ with
 | some d=>.nx (ρ.set i (.v d))
 | none=>.no
theorem yr {m:Bool}{i:Nat}{x:Str}{f:Ev->Option D}(hN:X.N.Nodup)(hi:X.N[i]?=some x)(hx:Loc X.env.scope x)(he:ED X e f)(hs:swapsWith e (some (.Name x pos')) pos.line X.env=pure false:=by rfl)
 (hf:X.fn x=true\/X.env.scope.names.lookup x=some .local:=by first | exact .inl rfl | exact .inr rfl | assumption):SD X (.Assign [.Name x pos'] e pos) (xL m i f):=by
 obtain⟨t,p,r⟩:=he
 refine⟨_,zh2 hN hi hx p hs hf,λFb Hb F H ρ σ E rl k=>?_⟩
 unfold xL at k
 cases h:vEv m f ρ with
 | none=>rw[h]at k;exact k.elim
 | some d =>
  rw[h]at k
  exact r.at rl h λF' H' v g av=>k F' H' _ ((rl.grow g).set av)
def X0 (f:Ev->Option D):SE->Ctl:=fun ρ=>match f (visG ρ) with
 | some _=>.nx ρ
 | none=>.no
theorem VP {f:Ev->Option D}(he:ED X e f)(hs:swapsWith e none pos.line X.env=pure false:=by rfl):SD X (.Expr e pos) (X0 f):=by
 obtain⟨t,p,r⟩:=he
 refine⟨_,zcM p hs,λFb Hb F H ρ σ E rl k=>?_⟩
 unfold X0 at k
 cases h:f (visG ρ) with
 | none=>rw[h]at k;exact k.elim
 | some d =>
  rw[h]at k
  exact r σ _ _ H d _ rl.gh rl.visG h λF' H' v g av=>k _ H' σ (rl.grow (rl.back g).1)
def vY (i:Nat)(f:Ev->Option (List D)):SE->Ctl:=fun ρ=>match f (visF ρ) with
 | some ds=>.nx (ρ.set i (.o ds))
 | none=>.no
theorem vh {i:Nat}{x:Str}{f:Ev->Option (List D)}(hN:X.N.Nodup)(hi:X.N[i]?=some x)(hx:Loc X.env.scope x)(he:FL X e f)(hs:swapsWith e (some (.Name x pos')) pos.line X.env=pure false:=by rfl)
 (hf:X.fn x=true\/X.env.scope.names.lookup x=some .local:=by first | exact .inl rfl | exact .inr rfl | assumption):SD X (.Assign [.Name x pos'] e pos) (vY i f):=by
 obtain⟨t,p,r⟩:=he
 refine⟨_,zh2 hN hi hx p hs hf,λFb Hb F H ρ σ E rl k=>?_⟩
 unfold vY at k
 cases h:f (visF ρ) with
 | none=>rw[h]at k;exact k.elim
 | some ds =>
  rw[h]at k
  refine r σ _ _ H ds _ rl.gr.fh rl.visF h λF' H' q xs g h0 hF hH hx=>?_
  have rl2:=rl.grow g
  exact k F' H' _ (rl2.setO (rl.notbase h0) hF hH hx (rl.notown h0))
def sIf (t:Ev->Option Bool)(g h:SE->Ctl):SE->Ctl:=fun ρ=>match t (visG ρ) with
 | some true=>g ρ
 | some false=>h ρ
 | none=>.no
theorem x5 {as bs:List Stmt}{t:Ev->Option Bool}{g h:SE->Ctl}(hc:TD X c t)(ha:SDs X as g)(hb:SDs X bs h):SD X (.If c as bs pos) (sIf t g h):=by
 obtain⟨tc,pc,rc⟩:=hc
 obtain⟨ta,pa,ra⟩:=ha
 obtain⟨tb,pb,rb⟩:=hb
 refine⟨_,zlZ pc pa pb,λFb Hb F H ρ σ E rl k=>?_⟩
 unfold sIf at k
 cases h:t (visG ρ) with
 | none=>rw[h]at k;exact k.elim
 | some d =>
  rw[h]at k
  refine rc σ _ _ H d _ rl.gh rl.visG h λF' H' g=>?_
  have rl2:=rl.grow (rl.back g).1
  cases d with
  | true=>rw[j3 rfl];exact ra Fb Hb _ H' ρ σ E rl2 k
  | false=>rw[j8 u7];exact rb Fb Hb _ H' ρ σ E rl2 k
def Yd (t:Ev->Option Bool)(g:SE->Ctl):Nat->SE->Ctl
 | 0,_=>.no
 | n+1,ρ=>match t (visG ρ) with
  | some true=>match g ρ with
   | .nx ρ'=>Yd t g n ρ'
   | .ct ρ'=>Yd t g n ρ'
   | .bk ρ'=>.nx ρ'
   | .rt d=>.rt d
   | .no=>.no
  | some false=>.nx ρ
  | none=>.no
theorem zaw {as:List Stmt}{t:Ev->Option Bool}{g:SE->Ctl}(n:Nat)(hp:PassesOwn (model X.prog X.w) X.A X.env X.xe)(hc:TD X c t)(ha:SDs X as g):SD X (.While c as [] pos) (Yd t g n):=by
 obtain⟨tc,pc,rc⟩:=hc
 obtain⟨ta,pa,ra⟩:=ha
 refine⟨_,zhA hp pc pa,λFb Hb F H ρ σ E rl k=>?_⟩
 refine⟨λm σ H=>∃ F ρ,Rl Fb Hb F H ρ σ/\SOk Fb Hb E (Yd t g m ρ),⟨n,F,ρ,rl,k⟩,?_⟩
 rintro m σ H ⟨F,ρ,rl,k⟩
 cases m with
 | zero=>exact k.elim
 | succ m =>
  unfold Yd at k
  cases h:t (visG ρ) with
  | none=>rw[h]at k;exact k.elim
  | some d =>
   rw[h]at k
   refine rc σ _ _ H d _ rl.gh rl.visG h λF' H' gr=>?_
   have rl2:=rl.grow (rl.back gr).1
   cases d with
   | false=>rw[j8 u7];exact k _ H' σ rl2
   | true =>
    rw[j3 rfl]
    refine⟨fun σ H=>∃ F ρ,Rl Fb Hb F H ρ σ/\SOk Fb Hb E (Yd t g m ρ),fun σ' H' w=>⟨m,u3W m,w⟩,?_⟩
    refine ra Fb Hb _ H' ρ σ _ rl2 ?_
    dsimp only at k
    cases hg:g ρ with
    | nx ρ'=>rw[hg]at k;exact λF2 H2 σ2 r2=>⟨F2,ρ',r2,k⟩
    | ct ρ'=>rw[hg]at k;exact λF2 H2 σ2 r2=>⟨F2,ρ',r2,k⟩
    | bk ρ'=>rw[hg]at k;exact k
    | rt d=>rw[hg]at k;exact k
    | no=>rw[hg]at k;exact k.elim
def RG (t:TG)(b:D->SE->Option SE):Prop:=∀ (Fb Hb F H:Hp) (ρ ρ':SE) (σ:St) (d:D) (v:V) (Q:St->Hp->Prop),Rl Fb Hb F H ρ σ->At F d v->b d ρ=some ρ'->(∀ σ',Rl Fb Hb F H ρ' σ'->Q σ' H)->t v σ H Q
def RGs (t:TGs)(b:List D->SE->Option SE):Prop:=∀ (Fb Hb F H:Hp) (ρ ρ':SE) (σ:St) (ds:List D) (vs:List V) (Q:St->Hp->Prop),Rl Fb Hb F H ρ σ->AtL F ds vs->b ds ρ=some ρ'->(∀ σ',Rl Fb Hb F H ρ' σ'->Q σ' H)->t vs σ H Q
def BD (X:Cx)(tg:Expr)(b:D->SE->Option SE):Prop:=∃ t,PG X tg t/\RG t b
def BDs (X:Cx)(tgs:List Expr)(b:List D->SE->Option SE):Prop:=∃ t,PGs X tgs t/\RGs t b
def yd (i:Nat):D->SE->Option SE:=λd ρ=>some (ρ.set i (.v d))
theorem zM {i:Nat}(h:PG X a (Z4 i)):BD X a (yd i):=by
 refine⟨_,h,λFb Hb F H ρ ρ' σ d v Q rl av e q=>?_⟩
 cases e
 exact q _ (rl.set av)
def Vj:List D->SE->Option SE
 | [],ρ=>some ρ
 | _,_=>none
def xT (b:D->SE->Option SE)(c:List D->SE->Option SE):List D->SE->Option SE
 | d::ds,ρ=>(b d ρ).bind (c ds)
 | [],_=>none
theorem zap:BDs X [] Vj:=by
 refine⟨_,zah,λFb Hb F H ρ ρ' σ ds vs Q rl av e q=>?_⟩
 cases ds with
 | nil=>cases e;exact⟨av.nil_inv,q _ rl⟩
 | cons _ _=>cases e
theorem wE {es:List Expr}{b:D->SE->Option SE}{c:List D->SE->Option SE}(h1:BD X e b)(h2:BDs X es c)
 (hs:(assignEach (e::es) X.env).map (·.2)=assign e X.env::(assignEach es X.env).map (·.2):=by rfl):BDs X (e::es) (xT b c):=by
 obtain⟨t,p,r⟩:=h1
 obtain⟨u,p2,r2⟩:=h2
 refine⟨_,vL p p2 hs,λFb Hb F H ρ ρ' σ ds vs Q rl av e q=>?_⟩
 cases ds with
 | nil=>cases e
 | cons d ds =>
  obtain⟨x,xs,rfl,a1,a2⟩:=av.cons_inv
  obtain⟨ρ1,e1,e2⟩:=u3.mp e
  exact⟨x,xs,rfl,r Fb Hb F H ρ ρ1 σ d x _ rl a1 e1 fun σ1 rl1=>r2 Fb Hb F H ρ1 ρ' σ1 ds xs Q rl1 a2 e2 q⟩
def W4 (n:Nat)(c:List D->SE->Option SE):D->SE->Option SE
 | .tup ds,ρ=>if ds.length=n then c ds ρ else none
 | _,_=>none
theorem zcV {es:List Expr}{k:Nat}{n:Nat}{c:List D->SE->Option SE}(hc:X.calm=true)(h:BDs X es c)
 (hn:(assignEach es X.env).length=n:=by rfl) (hst:(assignEach es X.env).findIdx? (·.1)=none:=by rfl):BD X (.Tuple es k pos) (W4 n c):=by
 obtain⟨t,p,r⟩:=h
 refine⟨_,zc8 hc p hn hst,λFb Hb F H ρ ρ' σ d v Q rl av e q=>?_⟩
 cases d with
 | tup ds =>
  unfold W4 at e
  dsimp only at e
  split at e
  .rename_i hl
   obtain⟨a,xs,rfl,hx,al⟩:=av.tup_inv
   exact⟨a,xs,rfl,SqT.of (rl.gr.fh _ _ hx),by rw[al.length];exact hl,r Fb Hb F H ρ ρ' σ ds xs Q rl al e q⟩
  .cases e
 | _=>cases e
def zbZ (m:Bool)(f:Ev->Option D)(b:D->SE->Option SE):SE->Ctl:=fun ρ=>match (vEv m f ρ).bind λd=>b d ρ with
 | some ρ'=>.nx ρ'
 | none=>.no
def Xm (m:Bool)(i:Nat)(fk fe:Ev->Option D):SE->Ctl:=fun ρ=>match (vEv m fe ρ).bind λd=>(fk (visG ρ)).bind λk=>match ρ[i]?,k with
 | some (.o ds),.int k=>(ixN ds.length k).map λj=>ρ.set i (.o (ds.set j d))
 | _,_=>none with
 | some ρ'=>.nx ρ'
 | none=>.no
theorem zaQ {m:Bool}{i:Nat}{ko:Expr}{fk fe:Ev->Option D}(he:ED X e fe)(ho:PE X a (zjT i))(hk:ED X ko fk)(hs:swapsWithSole [.Subscript a ko pos'] e pos.line X.env=pure false:=by rfl)(hw:swappedStores [.Subscript a ko pos'] e X.env=pure none:=by rfl)
 (h1:(assignEach [.Subscript a ko pos'] X.env).map (·.2)=[assign (.Subscript a ko pos') X.env]:=by rfl)
 (ha:∀ v,assign (.Subscript a ko pos') X.env v=(do
  let ov<-holding [v] (eval a X.env)
  let iv<-holding [v,ov] (eval ko X.env)
  standAt pos'
  holding [v,ov,iv] (setItem ov iv v)
  release [v,ov,iv] []):=by intro _;rfl):SD X (.Assign [.Subscript a ko pos'] e pos) (Xm m i fk fe):=by
 obtain⟨t,p,r⟩:=he
 obtain⟨tk,pk,rk⟩:=hk
 refine⟨_,zlh p (zkz ho pk zhN ha) hs hw h1,λFb Hb F H ρ σ E rl k=>?_⟩
 unfold Xm at k
 cases h:(vEv m fe ρ).bind λd=>(fk (visG ρ)).bind λk=>match ρ[i]?,k with
  | some (.o ds),.int k=>(ixN ds.length k).map λj=>ρ.set i (.o (ds.set j d))
  | _,_=>none with
 | none=>rw[h]at k;exact k.elim
 | some ρ' =>
  rw[h]at k
  obtain⟨d,e1,e2⟩:=u3.mp h
  obtain⟨kd,e3,e2⟩:=u3.mp e2
  cases hs:ρ[i]? with
  | none=>rw[hs]at e2;cases e2
  | some sl =>
   rw[hs]at e2
   cases sl with
   | no=>cases e2
   | v _=>cases e2
   | m _ _ _=>cases e2
   | o ds =>
    cases kd with
    | int kk =>
     obtain⟨j,e4,rfl⟩:=t7.mp e2
     refine r.at rl e1 λF' H' v g av=>?_
     have rl2:=rl.grow g
     obtain⟨q,xs,f1,_⟩:=rl2.owns i ds hs
     refine⟨_,f1,?_⟩
     refine rk σ _ _ H' _ _ rl2.gh rl2.visG e3 λF3 H3 v3 g3 av3=>?_
     obtain⟨gb,_⟩:=rl2.back g3
     have rl3:=rl2.grow gb
     obtain⟨q3,xs3,f1',_,_,f4,f5⟩:=rl3.owns i ds hs
     rw[f1]at f1'
     cases f1'
     refine⟨q,xs3,kk,j,rfl,av3.int_inv,f4,by rw[f5.length];exact e4,?_⟩
     exact k _ _ σ (rl3.mutate hs f1 (f5.set j (av.mono gb.ff)))
    | _=>cases e2
end
end Dl
namespace L2
open PySem PySem.Spec PyProof.Rows
section
variable {X:Cx}{tg:Expr}
def iSeq (K:W.Frag)(tl:TE):TI:=fun σ H R=>tl σ H λx H1=>(∃ a,x=.ref a/\(∃ xs,SqL K H1 a xs)/\R (Itl K a) H1)\/(∃ a,x=.ref a/\(∃ xs,SqT K H1 a xs)/\R (Itt K a) H1)
theorem zkO {l:Expr}{tl:TE}(hl:PE X l tl):PI X tg l (iSeq X.K tl):=by
 intro pins s σ H R I h
 refine thn (hl pins s σ H _ I h) λv s1 hh9=>?_
 obtain⟨x,H1,I1,r1,q1⟩:=hh9
 rcases q1 with ⟨a,e,⟨xs,hq⟩,q⟩ | ⟨a,e,⟨xs,hq⟩,q⟩
 .subst e
  cases r1
  obtain⟨its,rv,p,hz⟩:=I1.list hq
  refine u1R p.isList ?_
  refine⟨s1.heap.objs.size,[s1.heap.objs.size],_,_,H1,rfl,I1.kept (t':=s1.toks) λb o e=>u4 _ e,zfJ a _,⟨_,r8 _ rfl,rfl,rfl⟩,λb hb=>?_,q⟩
  have e:b=s1.heap.objs.size:=by simpa using hb
  subst e
  exact I1.fpOk (q5 _) (I1.hok.fresh (q5 _))
 .subst e
  cases r1
  obtain⟨its,rv,p,hz⟩:=I1.tuple hq
  refine u0Z (show s1.heap.IsTuple a its.toArray from p) ?_
  refine⟨s1.heap.objs.size,[s1.heap.objs.size],_,_,H1,rfl,I1.kept (t':=s1.toks) λb o e=>u4 _ e,zd0 a _,⟨_,r8 _ rfl,rfl,rfl⟩,λb hb=>?_,q⟩
  have e:b=s1.heap.objs.size:=by simpa using hb
  subst e
  exact I1.fpOk (q5 _) (I1.hok.fresh (q5 _))
end
end L2
namespace Dl
open PySem L2
variable [KK]
def zjP (J:It)(F:Hp)(ds:List D):Prop:=∀ (i:Nat) (F2 H2:Hp),yz F F2->yz F2 H2->(i=ds.length->J.stop i H2) /\
 ∀ d,ds[i]?=some d->J.go i H2/\∀ x H3,J.yld i H2 x H3->∃ F3,Gr F2 H2 F3 H3/\At F3 d x
def RI (wi:TI)(f:Ev->Option (List D)):Prop :=
 ∀ (σ:St) (ρ:Ev) (F H:Hp) (ds:List D) (R:It->Hp->Prop),yz F H->VAt F ρ σ->f ρ=some ds->(∀ F' H' J,Gr F H F' H'->zjP J F' ds->R J H')->wi σ H R
def ID (X:Cx)(tg iter:Expr)(f:Ev->Option (List D)):Prop:=∃ wi,PI X tg iter wi/\RI wi f
def y6:D->Option (List D)
 | .lst ds=>some ds
 | .tup ds=>some ds
 | _=>none
section
variable {X:Cx}{tg a b c e:Expr}{pos:Pos}
theorem zk8 {K:W.Frag}{F:Hp}{p:Addr}{xs:List V}{ds:List D}(h:F p=some (.lst xs))(al:AtL F ds xs):zjP (Itl K p) F ds:=by
 intro i F2 H2 s1 s2
 have q:SqL K H2 p xs:=SqL.of (s2 _ _ (s1 _ _ h))
 refine⟨λhl=>⟨xs,q,by rw[al.length,hl];exact q5 _⟩,λd hd=>?_⟩
 obtain⟨x,hx,ax⟩:=al.get hd
 refine⟨⟨xs,x,q,hx⟩,λy H3 hy=>?_⟩
 obtain⟨rfl,hy⟩:=hy
 have:=hy xs q
 rw[hx]at this
 cases this
 exact⟨F2,.refl s2,ax.mono s1⟩
theorem zlc {K:W.Frag}{F:Hp}{p:Addr}{xs:List V}{ds:List D}(h:F p=some (.tup xs))(al:AtL F ds xs):zjP (Itt K p) F ds:=by
 intro i F2 H2 s1 s2
 have q:SqT K H2 p xs:=SqT.of (s2 _ _ (s1 _ _ h))
 refine⟨λhl=>⟨xs,q,by rw[al.length,hl];exact q5 _⟩,λd hd=>?_⟩
 obtain⟨x,hx,ax⟩:=al.get hd
 refine⟨⟨xs,x,q,hx⟩,λy H3 hy=>?_⟩
 obtain⟨rfl,hy⟩:=hy
 have:=hy xs q
 rw[hx]at this
 cases this
 exact⟨F2,.refl s2,ax.mono s1⟩
def iOf (f:Ev->Option D):Ev->Option (List D):=fun ρ=>(f ρ).bind y6
theorem xM {f:Ev->Option D}(ha:ED X a f):ID X tg a (iOf f):=by
 obtain⟨t,p,r⟩:=ha
 refine⟨_,zkO p,fun σ ρ F H ds R s va e q=>?_⟩
 obtain⟨d,e1,e2⟩:=u3.mp e
 refine r σ ρ F H d _ s va e1 λF1 H1 v g1 a1=>?_
 cases d <;> try cases e2
 .obtain⟨p,xs,rfl,hx,al⟩:=a1.tup_inv
  exact .inr ⟨p,rfl,⟨xs,SqT.of (g1.fh _ _ hx)⟩,q F1 H1 _ g1 (zlc hx al)⟩
 .obtain⟨p,xs,rfl,hx,al⟩:=a1.lst_inv
  exact .inl ⟨p,rfl,⟨xs,SqL.of (g1.fh _ _ hx)⟩,q F1 H1 _ g1 (zk8 hx al)⟩
def XX (lo:Int)(n:Nat):List D:=(List.range n).map λk:Nat=>.int (lo+k)
theorem ze4 {F:Hp}(lo:Int)(n:Nat):zjP (Itr lo n) F (XX lo n):=by
 intro i F2 H2 s1 s2
 have hlen:(XX lo n).length=n:=by unfold XX;simp
 refine⟨λhl=>by rw[hlen]at hl;rw[hl];exact q5 _,λd hd=>?_⟩
 have hi:i < n:=by
  have:=(u8.mp hd).1
  omega
 refine⟨hi,λy H3 hy=>?_⟩
 obtain⟨rfl,rfl⟩:=hy
 refine⟨F2,.refl s2,?_⟩
 unfold XX at hd
 rw[j7,u1i hi]at hd
 cases hd
 exact .int
@[irreducible] def zgD (j:Int):Bool:=decide (-(2 ^ 62)<=j/\j < 2 ^ 62)
omit [KK] in
theorem yK {j:Int}:zgD j=true↔-(2 ^ 62)<=j/\j < 2 ^ 62:=by unfold zgD;exact decide_eq_true_iff
def wB:List D->Option (List D)
 | [.int j]=>if zgD j=true then some (XX 0 j.toNat)else none
 | _=>none
def W2:List D->Option (List D)
 | [.int i,.int j]=>if zgD i=true/\zgD j=true then some (XX i (j - i).toNat)else none
 | _=>none
def W5 (g:List D->Option (List D))(f:Ev->Option (List D)):Ev->Option (List D):=fun ρ=>(f ρ).bind g
theorem zaL {p:Pos} {f:Ev->Option (List D)} (hg:Gl X "range") (hm:X.mg "range"=none) (ha:AD X [a] f) (hs:starEach [a] X.env=[(false,eval a X.env)]:=by rfl):ID X tg (.Call (.Name "range" p) [a] [] pos) (W5 wB f):=by
 obtain⟨t,pa,r⟩:=ha
 refine⟨_,zbH hg hm pa hs,fun σ ρ F H ds R s va e q=>?_⟩
 obtain⟨d,e1,e2⟩:=u3.mp e
 refine r σ ρ F H d _ s va e1 λF1 H1 v g1 a1=>?_
 unfold wB at e2
 split at e2
 .split at e2
  .cases e2
   rename_i hc
   obtain⟨x,r',rfl,ax,ar⟩:=a1.cons_inv
   cases ar.nil_inv
   exact⟨_,by rw[ax.int_inv],(yK.mp hc).1,(yK.mp hc).2,q F1 H1 _ g1 (ze4 0 _)⟩
  .cases e2
 .cases e2
def W1 (n:Nat):List D->List D
 | []=>[]
 | d::ds=>.tup [.int n,d]::W1 (n+1) ds
omit [KK] in
theorem Xb (ds:List D):∀ (n i:Nat),(W1 n ds)[i]?=(ds[i]?).map λd=>.tup [.int ((n+i:Nat):Int),d]:=by
 induction ds with
 | nil=>intro n i;simp[W1]
 | cons d ds ih =>
  intro n i
  cases i with
  | zero=>simp[W1]
  | succ i =>
   show(W1 (n+1) ds)[i]?=(ds[i]?).map _
   rw[ih]
   have:n+1+i=n+(i+1):=by omega
   rw[this]
omit [KK] in
theorem wJ (ds:List D):∀ n,(W1 n ds).length=ds.length:=by
 induction ds with
 | nil=>intro n;rfl
 | cons d ds ih=>intro n;simp[W1,ih]
def yY (f:Ev->Option (List D)):Ev->Option (List D):=fun ρ=>(f ρ).bind λas=>match as with
 | [d]=>(y6 d).map (W1 0)
 | _=>none
theorem zeI {es:List Expr} {k:Nat} {tp p:Pos} {f:Ev->Option (List D)} (hg:Gl X "enumerate") (hm:X.mg "enumerate"=none) (hb:bootBuiltins "enumerate"=some (.type "enumerate")) (ha:AD X [a] f)
 (hs:starEach [a] X.env=[(false,eval a X.env)]:=by rfl):ID X (.Tuple es k tp) (.Call (.Name "enumerate" p) [a] [] pos) (yY f):=by
 obtain⟨t,pa,r⟩:=ha
 refine⟨_,ziO hg hm hb pa hs,fun σ ρ F H ds R s va e q=>?_⟩
 obtain⟨as,e1,e2⟩:=u3.mp e
 refine r σ ρ F H as _ s va e1 λF1 H1 v g1 a1=>?_
 split at e2
 .obtain⟨x,r',rfl,ax,ar⟩:=a1.cons_inv
  cases ar.nil_inv
  obtain⟨es,e3,rfl⟩:=t7.mp e2
  rename_i d
  cases d <;> try cases e3
  .obtain⟨p,xs,rfl,hx,al⟩:=ax.tup_inv
   refine⟨p,rfl,.inr ⟨xs,SqT.of (g1.fh _ _ hx),q F1 H1 _ g1 λi F2 H2 s1 s2=>?_⟩⟩
   have qq:SqT X.K H2 p xs:=SqT.of (s2 _ _ (s1 _ _ hx))
   refine⟨λhl=>⟨xs,qq,by rw[al.length,hl,wJ];exact q5 _⟩,λd hd=>?_⟩
   rw[Xb]at hd
   obtain⟨d',hd',rfl⟩:=t7.mp hd
   obtain⟨x,hxi,ax⟩:=al.get hd'
   refine⟨⟨xs,x,qq,hxi⟩,λy H3 hy=>?_⟩
   obtain⟨T,y,rfl,hT,rfl,hy⟩:=hy
   have:=hy xs qq
   rw[hxi]at this
   cases this
   have g3:=Gr.alloc s2 hT (.tup [.int i,x])
   exact⟨_,g3,.tup zn (.cons (by rw[u1n];exact .int) (.cons (ax.mono (s1.trans g3.ff)) .nil))⟩
  .obtain⟨p,xs,rfl,hx,al⟩:=ax.lst_inv
   refine⟨p,rfl,.inl ⟨xs,g1.fh _ _ hx,q F1 H1 _ g1 λi F2 H2 s1 s2=>?_⟩⟩
   have qq:SqL X.K H2 p xs:=SqL.of (s2 _ _ (s1 _ _ hx))
   refine⟨λhl=>⟨xs,qq,by rw[al.length,hl,wJ];exact q5 _⟩,λd hd=>?_⟩
   rw[Xb]at hd
   obtain⟨d',hd',rfl⟩:=t7.mp hd
   obtain⟨x,hxi,ax⟩:=al.get hd'
   refine⟨⟨xs,x,qq,hxi⟩,λy H3 hy=>?_⟩
   obtain⟨T,y,rfl,hT,rfl,hy⟩:=hy
   have:=hy xs qq
   rw[hxi]at this
   cases this
   have g3:=Gr.alloc s2 hT (.tup [.int i,x])
   exact⟨_,g3,.tup zn (.cons (by rw[u1n];exact .int) (.cons (ax.mono (s1.trans g3.ff)) .nil))⟩
 .cases e2
def hb2 (F1 Hb:Hp):Hp:=λp=>match F1 p with
 | some o=>some o
 | none=>Hb p
theorem XZ {F1 Hb:Hp}{p:Addr}(h:F1 p=none):hb2 F1 Hb p=Hb p:=by unfold hb2;rw[h]
theorem zg7 {F1 Hb:Hp}{p:Addr}{o:HO}(h:F1 p=some o):hb2 F1 Hb p=some o:=by unfold hb2;rw[h]
theorem Gr.up {Fb Hb F1 H1 F H:Hp}(g1:Gr Fb Hb F1 H1)(g:Gr F1 (hb2 F1 Hb) F H):Gr Fb Hb F H:=by
 refine⟨g1.ff.trans g.ff,g.fh,λp o e1 e2=>?_⟩
 rcases(g1.kp p o e1 e2).1 with n | ⟨n1,n2⟩
 .exact g.kp p o n (by rw[XZ n];exact e2)
 .exact⟨.inr ⟨n1,g.ff _ _ n2⟩,g.fh _ _ (g.ff _ _ n2)⟩
theorem Gr.dn {Fb Hb F1 F H:Hp}(g:Gr Fb Hb F H)(s1:yz Fb F1)(s:yz F1 F):Gr F1 (hb2 F1 Hb) F H:=by
 refine⟨s,g.fh,λp o e1 e2=>?_⟩
 rw[XZ e1]at e2
 exact g.kp p o (s1.free e1) e2
theorem Rl.up {Fb Hb F1 H1 F H:Hp}{ρ:SE}{σ:St}(g1:Gr Fb Hb F1 H1)(r:Rl F1 (hb2 F1 Hb) F H ρ σ):Rl Fb Hb F H ρ σ:=by
 refine⟨g1.up r.gr,r.vals,λi s e ho=>?_,r.dis,r.len⟩
 obtain⟨p,o,e1,e2,e3⟩:=r.ows i s e ho
 refine⟨p,o,e1,?_,e3⟩
 cases h:F1 p with
 | none=>rw[XZ h]at e2;exact e2
 | some o=>rw[zg7 h]at e2;cases e2
theorem Rl.dn {Fb Hb F1 F H:Hp}{ρ:SE}{σ:St}(r:Rl Fb Hb F H ρ σ)(s1:yz Fb F1)(s:yz F1 F):Rl F1 (hb2 F1 Hb) F H ρ σ:=by
 refine⟨r.gr.dn s1 s,r.vals,λi t e ho=>?_,r.dis,r.len⟩
 obtain⟨p,o,e1,e2,e3,e4⟩:=r.ows i t e ho
 refine⟨p,o,e1,?_,e3,e4⟩
 rw[XZ (s.free e3)]
 exact e2
def zez (b:D->SE->Option SE)(g:SE->Ctl):List D->SE->Ctl
 | [],ρ=>.nx ρ
 | d::ds,ρ=>match b d ρ with
  | none=>.no
  | some ρ1=>match g ρ1 with
   | .nx ρ'=>zez b g ds ρ'
   | .ct ρ'=>zez b g ds ρ'
   | .bk ρ'=>.nx ρ'
   | .rt d=>.rt d
   | .no=>.no
def ZB (f:Ev->Option (List D))(b:D->SE->Option SE)(g:SE->Ctl):SE->Ctl:=fun ρ=>match f (visF ρ) with
 | some ds=>zez b g ds ρ
 | none=>.no
theorem zep {Fb Hb F1 H1:Hp}{ρ:SE}{σ:St}{E:zhM}{J:It}{g:TG}{tb:TS}{ds:List D}{b:D->SE->Option SE}{gb:SE->Ctl}(hit:zjP J F1 ds)(rg:RG g b)(rb:RS tb gb)(rl0:Rl Fb Hb F1 H1 ρ σ)(k:SOk Fb Hb E (zez b gb ds ρ)) :
 ∃ W:Nat->Nat->St->Hp->Prop,(∃ m,W 0 m σ H1)/\∀ i m σ H,W i m σ H ->
  (J.stop i H/\E.nx σ H)\/(J.go i H/\∃ N:St->Hp->Prop,(∀ σ' H',N σ' H'->∃ m',m' < m/\W (i+1) m' σ' H')/\∀ x H',J.yld i H x H'->g x σ H' fun σ2 H2=>tb { E with nx:=N,ct:=N,bk:=E.nx } σ2 H2):=by
 refine⟨λi m σ H=>m=ds.length - i/\i<=ds.length/\∃ F ρ,yz F1 F/\Rl Fb Hb F H ρ σ/\SOk Fb Hb E (zez b gb (ds.drop i) ρ),⟨ds.length,by simp,u0D _,F1,ρ,yz.refl _,rl0,k⟩,?_⟩
 rintro i m σ H ⟨rfl,hi,F,ρ,s1,rl,k⟩
 obtain⟨stop,go⟩:=hit i F H s1 rl.gr.fh
 by_cases hlt:i < ds.length
 .have hd:ds.drop i=ds[i]::ds.drop (i+1):=u0P hlt
  rw[hd]at k
  unfold zez at k
  obtain⟨g1,g2⟩:=go ds[i] (by simp[hlt])
  refine .inr ⟨g1,fun σ H=>∃ F ρ,yz F1 F/\Rl Fb Hb F H ρ σ/\SOk Fb Hb E (zez b gb (ds.drop (i+1)) ρ),fun σ' H' w=>⟨ds.length - (i+1),by omega,rfl,hlt,w⟩,λx H' hy=>?_⟩
  obtain⟨F3,g3,a3⟩:=g2 x H' hy
  cases hb:b ds[i] ρ with
  | none=>rw[hb]at k;exact k.elim
  | some ρ1 =>
   rw[hb]at k
   dsimp only at k
   refine rg Fb Hb F3 H' ρ ρ1 σ _ x _ (rl.grow g3) a3 hb fun σ2 rl2=>?_
   have s3:=s1.trans g3.ff
   refine rb F1 (hb2 F1 Hb) F3 H' ρ1 σ2 _ (rl2.dn rl0.gr.ff s3) ?_
   cases hg:gb ρ1 with
   | nx ρ'=>rw[hg]at k;exact λF4 H4 σ4 r4=>⟨F4,ρ',r4.gr.ff,r4.up rl0.gr,k⟩
   | ct ρ'=>rw[hg]at k;exact λF4 H4 σ4 r4=>⟨F4,ρ',r4.gr.ff,r4.up rl0.gr,k⟩
   | bk ρ'=>rw[hg]at k;exact λF4 H4 σ4 r4=>k F4 H4 σ4 (r4.up rl0.gr)
   | rt d=>rw[hg]at k;exact λF4 H4 v g4 a4=>k F4 H4 v (rl0.gr.up g4) a4
   | no=>rw[hg]at k;exact k.elim
 .have e:i=ds.length:=by omega
  subst e
  rw[u2j]at k
  exact .inl ⟨stop rfl,k F H σ rl⟩
theorem Y8 {iter:Expr}{body:List Stmt}{f:Ev->Option (List D)}{b:D->SE->Option SE}{g:SE->Ctl}(hp:PassesOwn (model X.prog X.w) X.A X.env X.xe)(hc:X.calm=true)(hi:ID X tg iter f)(hg:BD X tg b)(hb:SDs X body g)
 (hs:∀ x,foldedSetIterable iter X.env x=pure x:=by intro _;rfl):SD X (.For tg iter body [] pos) (ZB f b g):=by
 obtain⟨wi,pi,ri⟩:=hi
 obtain⟨tg',pg,rg⟩:=hg
 obtain⟨tb,pb,rb⟩:=hb
 refine⟨_,zfu hp hc pi pg pb hs,λFb Hb F H ρ σ E rl k=>?_⟩
 unfold ZB at k
 cases h:f (visF ρ) with
 | none=>rw[h]at k;exact k.elim
 | some ds =>
  rw[h]at k
  exact ri σ _ _ H ds _ rl.gr.fh rl.visF h λF1 H1 J g1 ok=>zep ok rg rb (rl.grow g1) k
end
def lcD (b:D->Option (List (Option D)))(t:Ev->Option Bool)(f:Ev->Option D)(ρ:Ev):List D->Option (List D)
 | []=>some []
 | d::ds=>(b d).bind λown=>(t (own++ρ)).bind λc=>if c=true then (f (own++ρ)).bind λy=>(lcD b t f ρ ds).map (y::·)else lcD b t f ρ ds
def fLC (i:Ev->Option (List D))(b:D->Option (List (Option D)))(t:Ev->Option Bool)(f:Ev->Option D):Ev->Option (List D):=fun ρ=>(i ρ).bind λds=>if lim ds.length=true then lcD b t f ρ ds else none
def b1:D->Option (List (Option D)):=λd=>some [some d]
def b2:D->Option (List (Option D))
 | .tup [x,y]=>some [some x,some y]
 | _=>none
def RB (n:Nat)(t:TG)(b:D->Option (List (Option D))):Prop:=∀ (σ:St) (ρ:Ev) (F H:Hp) (d:D) (v:V) (own:List (Option D)) (Q:St->Hp->Prop),yz F H->VAt F ρ σ->At F d v->b d=some own->(∀ σ',VAt F (own++ρ) σ'->Q σ' H)->t v (List.replicate n none++σ) H Q
def yM:Ev->Option Bool:=λ_=>some true
theorem ziz:RT tYes yM:=λ_ _ _ _ _ _ s _ e q=>by cases e;exact q _ _ (.refl s)
theorem ziW {wi:TI}{n:Nat}{g:TG}{tt:TT}{te:TE}{fi:Ev->Option (List D)}{b:D->Option (List (Option D))}{ft:Ev->Option Bool}{fe:Ev->Option D}(ri:RI wi fi)(rg:RB n g b)(rt:RT tt ft)(re:RE te fe) :
 RF (tLC wi n g tt te) (fLC fi b ft fe):=by
 intro σ ρ F H out Q s va e q
 obtain⟨ds,e1,e2⟩:=u3.mp e
 split at e2 <;> try cases e2
 rename_i hlim
 have hlim:ds.length<=sizeLine:=s0 hlim
 refine ri σ ρ F H ds _ s va e1 λF1 H1 J g1 ok=>?_
 intro P hP
 have hF1:F1 P=none:=g1.fh.free hP
 have hH0:H P=none:=by
  cases e:H P with
  | none=>rfl
  | some o =>
   cases e2:F P with
   | none=>rw[(g1.kp P o e2 e).2]at hP;cases hP
   | some u=>rw[g1.fh _ _ (g1.ff _ _ e2)]at hP;cases hP
 refine⟨λi m ys H2=>m=ds.length - i/\i<=ds.length/\∃ F2 done,Gr F1 H1 F2 H2/\Gr F1 (upd H1 P (.lst [])) F2 (upd H2 P (.lst []))/\F2 P=none/\H2 P=some (.lst ys)/\AtL F2 done ys/\done.length<=i/\∃ more,lcD b ft fe ρ (ds.drop i)=some more/\done++more=out,⟨ds.length,by simp,u0D _,F1,[],Gr.hide g1.fh hP _,?_,hF1,zn,.nil,u0D _,out,e2,rfl⟩,?_⟩
 .rw[zfl]
  exact .refl λb u z=>by rw[zq (zk z hF1)];exact g1.fh b u z
 rintro i m ys H2 ⟨rfl,hi,F2,done,g2,g2',hF2,hH2,al,hdl,more,hm,hout⟩
 obtain⟨stop,go⟩:=ok i F2 H2 g2.ff g2.fh
 by_cases hlt:i < ds.length
 .have hd:ds.drop i=ds[i]::ds.drop (i+1):=u0P hlt
  rw[hd]at hm
  unfold lcD at hm
  obtain⟨own,hb,hm⟩:=u3.mp hm
  obtain⟨cb,hc,hm⟩:=u3.mp hm
  obtain⟨k1,k2⟩:=go ds[i] (by simp[hlt])
  refine .inr ⟨k1,by rw[al.length];omega,λx H3 hy=>?_⟩
  obtain⟨F3,g3,a3⟩:=k2 x H3 hy
  refine rg σ ρ F3 H3 ds[i] x own _ g3.fh (va.mono (g1.ff.trans (g2.ff.trans g3.ff))) a3 hb fun σ4 va4=>?_
  refine rt σ4 _ F3 H3 cb _ g3.fh va4 hc λF5 H5 g5=>?_
  have g35:=g3.trans g5
  obtain⟨n5,h5⟩:=g35.kl (λ_ e=>by cases e) hF2 hH2
  have keep2:∀ {F6 H6:Hp} {o:HO},Gr F2 H2 F6 H6->F6 P=none->Gr F1 (upd H1 P (.lst [])) F6 (upd (upd H6 P o) P (.lst [])):=λ{F6 H6 o} g6 n6=>by
   rw[zfl]
   refine⟨g2.ff.trans g6.ff,λb u z=>?_,λb u z1 z2=>?_⟩
   .rw[zq (zk z n6)];exact g6.fh b u z
   .by_cases hbP:b=P
    .subst hbP
     rw[zn]at z2 ⊢
     exact⟨.inl n6,z2⟩
    .rw[zq hbP]at z2 ⊢
     exact(g2.trans g6).kp b u z1 z2
  have keep1:∀ {F6 H6:Hp} {o:HO},Gr F2 H2 F6 H6->F6 P=none->Gr F1 H1 F6 (upd H6 P o):=λ{F6 H6 o} g6 n6=>by
   refine⟨g2.ff.trans g6.ff,λb u z=>?_,λb u z1 z2=>?_⟩
   .rw[zq (zk z n6)];exact g6.fh b u z
   .rw[zq (zk z2 hP)]
    exact(g2.trans g6).kp b u z1 z2
  cases cb with
  | false =>
   rw[j8 u7]at hm ⊢
   have ups:H5=upd H5 P (.lst ys):=by
    funext b
    by_cases hbP:b=P
    .subst hbP;rw[zn];exact h5
    .rw[zq hbP]
   refine⟨ds.length - (i+1),by omega,rfl,hlt,F5,done,?_,?_,n5,h5,al.mono g35.ff,by omega,more,hm,hout⟩
   .rw[ups];exact keep1 g35 n5
   .have:=keep2 (o:=.lst ys) g35 n5
    rw[<-ups]at this
    exact this
  | true =>
   rw[j3 rfl]at hm ⊢
   obtain⟨y,hy,hm⟩:=u3.mp hm
   obtain⟨rest,hm',rfl⟩:=t7.mp hm
   refine re σ4 _ F5 H5 y _ g5.fh (va4.mono g5.ff) hy λF6 H6 v g6 a6=>?_
   have g36:=g35.trans g6
   obtain⟨n6,h6⟩:=g36.kl (λ_ e=>by cases e) hF2 hH2
   refine⟨h6,ds.length - (i+1),by omega,rfl,hlt,F6,done++[y],keep1 g36 n6,keep2 g36 n6,n6,zn,(al.mono g36.ff).snoc a6,by rw[j6];simp;omega,rest,hm',by rw[<-hout,b9];rfl⟩
 .have e:i=ds.length:=by omega
  subst e
  rw[u2j]at hm
  cases hm
  rw[u0L]at hout
  subst hout
  exact .inl ⟨stop rfl,q F2 H2 P ys (g1.trans g2) hH0 hF2 hH2 al⟩
theorem rb1:RB 1 (Z4 0) b1:=by
 intro σ ρ F H d v own Q s va av e q
 cases e
 refine q _ λi d' h=>?_
 cases i with
 | zero=>cases h;exact⟨v,rfl,av⟩
 | succ i=>exact va i d' h
theorem rb2 {K:W.Frag}:RB 2 (zlU K 2 (zcE (Z4 0) (zcE (Z4 1) zlD))) b2:=by
 intro σ ρ F H d v own Q s va av e q
 unfold b2 at e
 split at e <;> cases e
 obtain⟨p,xs,rfl,hx,al⟩:=av.tup_inv
 obtain⟨x,r,rfl,ax,al⟩:=al.cons_inv
 obtain⟨y,r,rfl,ay,al⟩:=al.cons_inv
 cases al.nil_inv
 refine⟨p,_,rfl,SqT.of (s _ _ hx),rfl,x,_,rfl,y,_,rfl,rfl,?_⟩
 refine q _ λi d' h=>?_
 match i,h with
 | 0,h=>cases h;exact⟨x,rfl,ax⟩
 | 1,h=>cases h;exact⟨y,rfl,ay⟩
 | i+2,h=>exact va i d' h
def tCan (f:Ev->Option D):TE:=fun σ H Q=>∃ ρ F d,yz F H/\VAt F ρ σ/\f ρ=some d/\∀ F' H' v,Gr F H F' H'->At F' d v->Q v H'
def zlp (f:Ev->Option Bool):TT:=fun σ H Q=>∃ ρ F d,yz F H/\VAt F ρ σ/\f ρ=some d/\∀ F' H',Gr F H F' H'->Q d H'
theorem ED.can {X:Cx}{e:Expr}{f:Ev->Option D}(h:ED X e f):PE X e (tCan f):=by
 obtain⟨t,p,r⟩:=h
 rintro pins s σ H Q I ⟨ρ,F,d,h1,h2,h3,h4⟩
 exact p pins s σ H Q I (r σ ρ F H d Q h1 h2 h3 h4)
theorem TD.can {X:Cx}{e:Expr}{f:Ev->Option Bool}(h:TD X e f):PT X e (zlp f):=by
 obtain⟨t,p,r⟩:=h
 rintro pins s σ H Q I ⟨ρ,F,d,h1,h2,h3,h4⟩
 exact p pins s σ H Q I (r σ ρ F H d Q h1 h2 h3 h4)
theorem Vx {f:Ev->Option D}:RE (tCan f) f:=λ_ ρ F _ d _ h1 h2 h3 h4=>⟨ρ,F,d,h1,h2,h3,h4⟩
theorem zkJ {f:Ev->Option Bool}:RT (zlp f) f:=λ_ ρ F _ d _ h1 h2 h3 h4=>⟨ρ,F,d,h1,h2,h3,h4⟩
theorem XC {X:Cx}{elt tg iter:Expr}{L M:List Str}{scope:Scope}{cl:List (Str × Addr)}{pos:Pos}{fi:Ev->Option (List D)}{b:D->Option (List (Option D))}{fe:Ev->Option D}{g:TG}
 (hc:X.calm=true) (S:xy X L M scope cl) (hi:ID X tg iter fi)
 (hgS:∀ (σ:St) (v:V) (H:Hp) (Q:St->Hp->Prop),g v (List.replicate L.length none++σ) H Q->g v (List.replicate L.length none++σ) H (fun σ2 H2=>Xg (List.replicate L.length none++σ) σ2/\Q σ2 H2))
 (hrb:RB L.length g b)
 (hg:∀ s₀ H₀ ex pn,PG (zbw X L M scope cl s₀ H₀ ex pn) tg g) (he:∀ s₀ H₀ ex pn,ED (zbw X L M scope cl s₀ H₀ ex pn) elt fe)
 (hs:∀ x,foldedSetIterable iter X.env x=pure x:=by intro _;rfl):FL X (.ListComp elt [⟨tg,iter,[],0⟩] scope pos) (fLC fi b yM fe):=by
 obtain⟨wi,pi,ri⟩:=hi
 exact⟨_,zh8 hc S pi hgS hg (λ_ _ _ _=>zgx) (λ_ _ _ _=>(he _ _ _ _).can) hs,ziW ri hrb ziz Vx⟩
theorem za1 {X:Cx}{elt tg iter c:Expr}{L M:List Str}{scope:Scope}{cl:List (Str × Addr)}{pos:Pos}{fi:Ev->Option (List D)}{b:D->Option (List (Option D))}{ft:Ev->Option Bool}{fe:Ev->Option D}{g:TG}
 (hc:X.calm=true) (S:xy X L M scope cl) (hi:ID X tg iter fi)
 (hgS:∀ (σ:St) (v:V) (H:Hp) (Q:St->Hp->Prop),g v (List.replicate L.length none++σ) H Q->g v (List.replicate L.length none++σ) H (fun σ2 H2=>Xg (List.replicate L.length none++σ) σ2/\Q σ2 H2))
 (hrb:RB L.length g b)
 (hg:∀ s₀ H₀ ex pn,PG (zbw X L M scope cl s₀ H₀ ex pn) tg g) (ht:∀ s₀ H₀ ex pn,TD (zbw X L M scope cl s₀ H₀ ex pn) c ft) (he:∀ s₀ H₀ ex pn,ED (zbw X L M scope cl s₀ H₀ ex pn) elt fe)
 (hs:∀ x,foldedSetIterable iter X.env x=pure x:=by intro _;rfl):FL X (.ListComp elt [⟨tg,iter,[c],0⟩] scope pos) (fLC fi b ft fe):=by
 obtain⟨wi,pi,ri⟩:=hi
 exact⟨_,zh8 hc S pi hgS hg (λ_ _ _ _=>zjB (ht _ _ _ _).can) (λ_ _ _ _=>(he _ _ _ _).can) hs,ziW ri hrb zkJ Vx⟩
theorem zkv {t:TE}{f:Ev->Option (List D)}(r:RF t f):RE t (yT f):=by
 intro σ ρ F H d Q s va e q
 obtain⟨ds,e1,rfl⟩:=t7.mp e
 refine r σ ρ F H ds Q s va e1 λF' H' p xs g h0 hF hH hx=>?_
 have g2:=g.show h0 hF hH
 exact q _ _ _ g2 (At.lst zn (hx.mono (λb u e=>by rw[zq (zk e hF)];exact e)))
def FLS (X:Cx)(i:Nat)(st:Stmt)(f:Ev->Option (List D)):Prop:=∃ t,PS X st (zlN t (Z4 i))/\RF t f
theorem zi8 {m:Bool}{i:Nat}{st:Stmt}{f:Ev->Option (List D)}(he:FLS X i st f):SD X st (xL m i (yT f)):=by
 obtain⟨t,p,r⟩:=he
 refine⟨_,p,λFb Hb F H ρ σ E rl k=>?_⟩
 unfold xL at k
 cases h:vEv m (yT f) ρ with
 | none=>rw[h]at k;exact k.elim
 | some d =>
  rw[h]at k
  exact(zkv r).at rl h λF' H' v g av=>k F' H' _ ((rl.grow g).set av)
theorem zjw {i:Nat}{x:Str}{px spos:Pos}{X:Cx}{elt tg iter:Expr}{L M:List Str}{scope:Scope}{cl:List (Str × Addr)}{pos:Pos}{fi:Ev->Option (List D)}{b:D->Option (List (Option D))}{fe:Ev->Option D}{g:TG}
 (hN:X.N.Nodup) (hi':X.N[i]?=some x) (hx:Loc X.env.scope x) (hc:X.calm=true) (S:xy X L M scope cl) (hi:ID X tg iter fi)
 (hgS:∀ (σ:St) (v:V) (H:Hp) (Q:St->Hp->Prop),g v (List.replicate L.length none++σ) H Q->g v (List.replicate L.length none++σ) H (fun σ2 H2=>Xg (List.replicate L.length none++σ) σ2/\Q σ2 H2))
 (hrb:RB L.length g b)
 (hg:∀ s₀ H₀ ex pn,PG (zbw X L M scope cl s₀ H₀ ex pn) tg g) (he:∀ s₀ H₀ ex pn,ED (zbw X L M scope cl s₀ H₀ ex pn) elt fe)
 (hs:∀ x,foldedSetIterable iter X.env x=pure x:=by intro _;rfl)
 (hsw:swapsWith (.ListComp elt [⟨tg,iter,[],0⟩] scope pos) (some (.Name x px)) spos.line X.env=pure true:=by rfl)
 (hf:X.fn x=true\/X.env.scope.names.lookup x=some .local:=by first | exact .inl rfl | exact .inr rfl | assumption):FLS X i (.Assign [.Name x px] (.ListComp elt [⟨tg,iter,[],0⟩] scope pos) spos) (fLC fi b yM fe):=by
 obtain⟨wi,pi,ri⟩:=hi
 exact⟨_,zla hN hi' hx hc S pi hgS hg (λ_ _ _ _=>zgx) (λ_ _ _ _=>(he _ _ _ _).can) hs hsw hf,ziW ri hrb ziz Vx⟩
def fnD (n:Nat)(g:SE->Ctl)(ds:List D):Option D:=match g (ds.map .v++List.replicate (n - ds.length) .no) with
 | .rt d=>some d
 | .nx _=>some .non
 | _=>none
def spD (m:Nat)(p:List D->Option D):Sp:=λvs H Q _=>∃ ds d F,ds.length=m/\yz F H/\AtL F ds vs/\p ds=some d/\∀ F' H' v,Gr F H F' H'->At F' d v->Q v H'
theorem XY {F H:Hp}{N:List Str}{ds:List D}{vs:List V}(s:yz F H)(a:AtL F ds vs):Rl F H F H (ds.map .v++List.replicate (N.length - ds.length) .no) (L2.start N vs):=by
 have hl:=a.length
 have noO:∀ (i:Nat) (t:Sl),(ds.map Sl.v++List.replicate (N.length - ds.length) Sl.no)[i]?=some t->t.isO=true->False:=λi t h ho=>by
  by_cases hi:i < ds.length
  .rw[u02 (by simpa using hi),j7]at h
   cases e:ds[i]? with
   | none=>rw[e]at h;cases h
   | some d=>rw[e]at h;cases h;cases ho
  .rw[u0u (by simpa using hi),u1e]at h
   split at h <;> cases h
   cases ho
 refine⟨.refl s,λi d h=>?_,λi t h ho=>(noO i t h ho).elim,λi j p t u h _ ho=>(noO i t h ho).elim,?_⟩
 .by_cases hi:i < ds.length
  .rw[u02 (by simpa using hi),j7]at h
   cases e:ds[i]? with
   | none=>rw[e]at h;cases h
   | some d' =>
    rw[e]at h
    cases h
    obtain⟨x,hx,ax⟩:=a.get e
    refine⟨x,?_,ax⟩
    unfold L2.start
    rw[u02 (by simpa [hl]using hi),j7,hx]
    rfl
  .rw[u0u (by simpa using hi),u1e]at h
   split at h <;> cases h
 .unfold L2.start
  simp[hl]
theorem xw {P:Program}{w:World}{K:W.Frag}{mg:Str->Option Value}{base:Heap}{x qual:Str}{st:Stmt}{f:Addr}{fd:FuncData}{N ps:List Str}{k:Nat}{g:SE->Ctl}(Fu:Fun K x qual st f fd)(S:zw N ps (zh st))
 (hb:∀ (cdv:Value) (A:Around) (outer:List Env) (s:Shared) (H:Hp) (E:XK),wC k (A.deeper (PyProof.Rows.envOfC qual (zh st) s.heap.objs.size f cdv))->SDs (zec CX0 P w K mg base N qual (zh st) f cdv A outer s H E).nox (xf st) g) :
 yW P w K mg base CX0 (k+1) f fd ps (spD ps.length (fnD N.length g)):=by
 refine Fu.ok S (λvs H Q E h=>?_) λcdv A outer s H vs Q E hr h=>?_
 .obtain⟨ds,d,F,hl,_,a,_⟩:=h
  rw[a.length];exact hl
 .obtain⟨ds,d,F,hl,sm,a,e,q⟩:=h
  obtain⟨t,p,r⟩:=hb cdv A outer s H E hr
  refine⟨t,p,r F H F H _ _ _ (XY sm a) ?_⟩
  unfold fnD at e
  cases hg:g (ds.map .v++List.replicate (N.length - ds.length) .no) with
  | rt d'=>rw[hg]at e;cases e;exact λF' H' v g av=>q F' H' v g av
  | nx ρ=>rw[hg]at e;cases e;exact λF' H' σ rl=>q F' H' _ rl.gr .non
  | bk ρ=>rw[hg]at e;cases e
  | ct ρ=>rw[hg]at e;cases e
  | no=>rw[hg]at e;cases e
theorem vZ {P:Program}{w:World}{K:W.Frag}{mg:Str->Option Value}{base:Heap}{f:Addr}{fd:FuncData}{ps:List Str}{k m:Nat}{p q:List D->Option D}(F:yW P w K mg base CX0 k f fd ps (spD m p))(h:∀ ds d,ds.length=m->q ds=some d->p ds=some d):yW P w K mg base CX0 k f fd ps (spD m q) :=
 F.imp λvs H Q E ⟨ds,d,F',h1,h2,h3,h4,h5⟩=>⟨ds,d,F',h1,h2,h3,h ds d h1 h4,h5⟩
def zz (m:Nat)(p:List D->Option D)(f:Ev->Option (List D)):Ev->Option D:=fun ρ=>(f ρ).bind λds=>if ds.length=m then p ds else none
theorem zfe {X:Cx}{x:Str}{k m:Nat}{f:Addr}{fd:FuncData}{ps:List Str}{p:List D->Option D}{e:Expr}{es:List Expr}{pp pos:Pos}{fa:Ev->Option (List D)}(F:yW X.prog X.w X.K X.mg X.base CX0 k f fd ps (spD m p))(hr:wC k X.A)(hg:Gl X x)(hm:X.mg x=some (.ref f))(hk:W.keepIn X.K (.ref f)=true)(hb:zbk X.K fd ps [])
 (ha:AD X (e::es) fa) (hdb:(x == ("__debug__":Str))=false:=by decide) (he:starEach (e::es) X.env=(false,eval e X.env)::starEach es X.env:=by rfl) (hpl:(backTo pos (starEach es X.env)).any (·.1)=false:=by rfl) :
 ED X (.Call (.Name x pp) (e::es) [] pos) (zz m p fa):=by
 obtain⟨t,pa,r⟩:=ha
 refine⟨_,zgp F hr hg hm hk hb .nil zk7 pa hdb he hpl,fun σ ρ F0 H d Q s va e q=>?_⟩
 obtain⟨ds,e1,e2⟩:=u3.mp e
 split at e2 <;> try cases e2
 rename_i hl
 refine r σ ρ F0 H ds _ s va e1 λF1 H1 vs g1 a1=>?_
 refine⟨ds,d,F1,hl,g1.fh,by rw[u0L];exact a1,e2,λF' H' v g av=>q F' H' v (g1.trans g) av⟩
end Dl
namespace Dl
open PySem L2
variable [KK]
section
variable {X:Cx}{a b c e:Expr}{pos:Pos}
theorem VQ:bootBuiltins "isinstance"=some (.builtin "isinstance"):=by decide +kernel
theorem Ys:bootBuiltins "len"=some (.builtin "len"):=by decide +kernel
theorem zeO:bootBuiltins "min"=some (.builtin "min"):=by decide +kernel
theorem zbg:bootBuiltins "max"=some (.builtin "max"):=by decide +kernel
theorem YL:bootBuiltins "sorted"=some (.builtin "sorted"):=by decide +kernel
theorem zfW:bootBuiltins "int"=some (.type "int"):=by decide +kernel
theorem V1:bootBuiltins "bool"=some (.type "bool"):=by decide +kernel
theorem xu:bootBuiltins "tuple"=some (.type "tuple"):=by decide +kernel
theorem zct:bootBuiltins "list"=some (.type "list"):=by decide +kernel
theorem zh9:bootBuiltins "str"=some (.type "str"):=by decide +kernel
theorem XF:bootBuiltins "enumerate"=some (.type "enumerate"):=by decide +kernel
theorem zb4:bootBuiltins "reversed"=some (.type "reversed"):=by decide +kernel
theorem zif:bootBuiltins "zip"=some (.type "zip"):=by decide +kernel
def Vb (C:Int->Int->Bool)(g:Int->Int->Int):D->D->Option D
 | .int i,.int j=>if C i j=true then some (.int (g i j))else none
 | _,_=>none
def wR (g:Int->Int->Int):D->D->Option D
 | .int i,.int j=>some (.int (g i j))
 | _,_=>none
def Vr (g:Int->Int->Bool):D->D->Option D
 | .int i,.int j=>some (.bl (g i j))
 | _,_=>none
theorem VR {C:Int->Int->Prop}{Cb:Int->Int->Bool}{g:Int->Int->Int}(h:∀ i j,Cb i j=true->C i j):OpD (rI C λi j=>.int (g i j)) (Vb Cb g):=by
 intro F H x y d e z Q s ax ay ez q
 cases d <;> try cases ez
 cases e <;> try cases ez
 unfold Vb at ez
 dsimp only at ez
 split at ez <;> cases ez
 rename_i hc
 exact⟨_,_,ax.int_inv,ay.int_inv,h _ _ hc,q F H _ (.refl s) .int⟩
theorem zbN {g:Int->Int->Int}:OpD (rI0 λi j=>.int (g i j)) (wR g):=by
 intro F H x y d e z Q s ax ay ez q
 cases d <;> try cases ez
 cases e <;> try cases ez
 exact⟨_,_,ax.int_inv,ay.int_inv,q F H _ (.refl s) .int⟩
theorem xi {g:Int->Int->Bool}:OpD (rI0 λi j=>.bl (g i j)) (Vr g):=by
 intro F H x y d e z Q s ax ay ez q
 cases d <;> try cases ez
 cases e <;> try cases ez
 exact⟨_,_,ax.int_inv,ay.int_inv,q F H _ (.refl s) .bl⟩
theorem zaP {r r':R2}{g g':D->D->Option D}(h:OpD r g)(h':OpD r' g'):OpD (λx y H Q=>r x y H Q\/r' x y H Q) (λd e=>(g d e).or (g' d e)):=by
 intro F H x y d e z Q s ax ay ez q
 dsimp only at ez
 cases hg:g d e with
 | some z'=>rw[hg]at ez;cases ez;exact .inl (h F H x y d e z Q s ax ay hg q)
 | none=>rw[hg]at ez;exact .inr (h' F H x y d e z Q s ax ay ez q)
def zle:D->D->Option D
 | .tup a,.tup b=>if lim (a.length+b.length)=true then some (.tup (a++b))else none
 | _,_=>none
def zj3:D->D->Option (List D)
 | .lst a,.lst b=>if lim (a.length+b.length)=true then some (a++b)else none
 | _,_=>none
def zfQ (d e:D):Option D:=(zj3 d e).map .lst
def zki:D->D->Option D
 | .str a,.str b=>if lim (a.length+b.length)=true then some (.str (a++b))else none
 | _,_=>none
theorem zg2 {K:W.Frag}:OpD (zh3 K) zle:=by
 intro F H x y d e z Q s ax ay ez q
 cases d <;> try cases ez
 cases e <;> try cases ez
 unfold zle at ez
 dsimp only at ez
 split at ez <;> cases ez
 rename_i hl
 obtain⟨p,xs,rfl,hx,al⟩:=ax.tup_inv
 obtain⟨p2,ys,rfl,hy,bl⟩:=ay.tup_inv
 refine⟨p,p2,xs,ys,rfl,rfl,SqT.of (s _ _ hx),SqT.of (s _ _ hy),by rw[al.length,bl.length];exact s0 hl,λe1=>?_,λ_ e2=>?_,λ_ _ r hr=>?_⟩
 .subst e1
  have:(_:List D)=[]:=u1f.mp al.length.symm
  subst this
  exact q F H _ (.refl s) (.tup hy bl)
 .subst e2
  have:(_:List D)=[]:=u1f.mp bl.length.symm
  subst this
  rw[u0L]at q
  exact q F H _ (.refl s) (.tup hx al)
 .have g:=Gr.alloc s hr (.tup (xs++ys))
  exact q _ _ _ g (.tup zn ((al.append bl).mono g.ff))
theorem zgM:OpD rCat zfQ:=by
 intro F H x y d e z Q s ax ay ez q
 cases d <;> try cases ez
 cases e <;> try cases ez
 unfold zfQ zj3 at ez
 dsimp only at ez
 split at ez <;> cases ez
 rename_i hl
 obtain⟨p,xs,rfl,hx,al⟩:=ax.lst_inv
 obtain⟨p2,ys,rfl,hy,bl⟩:=ay.lst_inv
 refine⟨p,p2,xs,ys,rfl,rfl,s _ _ hx,s _ _ hy,by rw[al.length,bl.length];exact s0 hl,λr hr=>?_⟩
 have g:=Gr.alloc s hr (.lst (xs++ys))
 exact q _ _ _ g (.lst zn ((al.append bl).mono g.ff))
theorem zhL:OpD (λx y H Q=>∃ i j,x=.str i/\y=.str j/\i.length+j.length<=sizeLine/\Q (.str (i++j)) H) zki:=by
 intro F H x y d e z Q s ax ay ez q
 cases d <;> try cases ez
 cases e <;> try cases ez
 unfold zki at ez
 dsimp only at ez
 split at ez <;> cases ez
 rename_i hl
 exact⟨_,_,ax.str_inv,ay.str_inv,s0 hl,q F H _ (.refl s) .str⟩
def w6:D->D->Option D
 | .int i,.int j=>some (.int (i+j))
 | .tup a,.tup b=>if lim (a.length+b.length)=true then some (.tup (a++b))else none
 | .lst a,.lst b=>if lim (a.length+b.length)=true then some (.lst (a++b))else none
 | .str a,.str b=>if lim (a.length+b.length)=true then some (.str (a++b))else none
 | _,_=>none
theorem zcA {r:R2}{g g':D->D->Option D}(h:OpD r g)(k:∀ d e z,g' d e=some z->g d e=some z):OpD r g':=λF H x y d e z Q s ax ay ez q=>h F H x y d e z Q s ax ay (k d e z ez) q
theorem xo {f h:Ev->Option D}(ha:ED X a f)(hb:ED X b h):ED X (.BinOp a .Add b pos) (zm w6 f h) :=
 zbO (((zlk.or zgH).or zkf).or zdU) (zcA (zaP (zaP (zaP (zbN (g:=λi j=>i+j)) zg2) zgM) zhL) λd e z h=>by
  cases d <;> try cases h
  all_goals cases e <;> try cases h
  .rfl
  .unfold w6 at h;dsimp only at h;split at h <;> cases h;rename_i hl;simp[wR,zle,hl,zfQ,zj3,zki]
  .unfold w6 at h;dsimp only at h;split at h <;> cases h;rename_i hl;simp[wR,zle,hl,zfQ,zj3,zki]
  .unfold w6 at h;dsimp only at h;split at h <;> cases h;rename_i hl;simp[wR,zle,hl,zfQ,zj3,zki]) ha hb
def zkB (g:D->D->Option (List D))(f h:Ev->Option D):Ev->Option (List D):=fun ρ=>(f ρ).bind λx=>(h ρ).bind λy=>g x y
theorem XN {F H F1 H1:Hp}{p:Addr}(g1:Gr F H F1 H1)(hp:H1 p=none):H p=none:=by
 cases e:H p with
 | none=>rfl
 | some o =>
  cases e2:F p with
  | none=>rw[(g1.kp p o e2 e).2]at hp;cases hp
  | some u=>rw[g1.fh _ _ (g1.ff _ _ e2)]at hp;cases hp
def WE (i j:Int):Bool:=decide ((-(2 ^ 64) < i/\i < 2 ^ 64)\/(-(2 ^ 64) < j/\j < 2 ^ 64))
def zgC:D->D->Option (List D)
 | .lst a,.int k=>if -(2 ^ 63)<=k/\k < 2 ^ 63/\lim (a.length*k.toNat)=true then some (List.replicate k.toNat a).flatten else none
 | _,_=>none
def zhv (d e:D):Option D:=(zgC d e).map .lst
def Y6:D->D->Option D
 | .int i,.int j=>if WE i j=true then some (.int (i*j))else none
 | .lst a,.int k=>if -(2 ^ 63)<=k/\k < 2 ^ 63/\lim (a.length*k.toNat)=true then some (.lst (List.replicate k.toNat a).flatten)else none
 | _,_=>none
theorem zhS:OpD rRep zhv:=by
 intro F H x y d e z Q s ax ay ez q
 cases d <;> try cases ez
 cases e <;> try cases ez
 unfold zhv zgC at ez
 dsimp only at ez
 split at ez <;> cases ez
 rename_i hl
 obtain⟨p,xs,rfl,hx,al⟩:=ax.lst_inv
 refine⟨p,_,xs,rfl,ay.int_inv,s _ _ hx,hl.1,hl.2.1,by rw[al.length];exact s0 hl.2.2,λr hr=>?_⟩
 rename_i ds k
 have g:=Gr.alloc s hr (.lst (List.replicate k.toNat xs).flatten)
 exact q _ _ _ g (.lst zn ((al.rep _).mono g.ff))
theorem VM {f h:Ev->Option D}(ha:ED X a f)(hb:ED X b h):ED X (.BinOp a .Mult b pos) (zm Y6 f h) :=
 zbO (zly.or zh0) (zcA (zaP (VR (Cb:=WE) (g:=λi j=>i*j) λi j h=>by have h':=s0 (show decide ((-(2 ^ 64) < i/\i < 2 ^ 64)\/(-(2 ^ 64) < j/\j < 2 ^ 64))=true from h);exact h') zhS) λd e z h=>by
  cases d <;> try cases h
  all_goals cases e <;> try cases h
  .unfold Y6 at h;dsimp only at h;split at h <;> cases h;rename_i hl;simp[Vb,hl]
  .unfold Y6 at h;dsimp only at h;split at h <;> cases h;rename_i hl;show(zhv _ _)=_;unfold zhv zgC;dsimp only;rw[j3 hl];rfl) ha hb
theorem zej {f h:Ev->Option D}(ha:ED X a f)(hb:ED X b h):FL X (.BinOp a .Mult b pos) (zkB zgC f h):=by
 obtain⟨ta,pa,ra⟩:=ha
 obtain⟨tb,pb,rb⟩:=hb
 refine⟨_,zkX zh0 pa pb,fun σ ρ F H z Q s va e q=>?_⟩
 obtain⟨x,e1,e3⟩:=u3.mp e
 obtain⟨y,e2,ez⟩:=u3.mp e3
 clear e e3
 refine ra σ ρ F H x _ s va e1 λF1 H1 v g1 a1=>?_
 refine rb σ ρ F1 H1 y _ g1.fh (va.mono g1.ff) e2 λF2 H2 u g2 a2=>?_
 cases x <;> try cases ez
 cases y <;> try cases ez
 unfold zgC at ez
 dsimp only at ez
 split at ez <;> cases ez
 rename_i hl
 obtain⟨p,xs,rfl,hx,al⟩:=(a1.mono g2.ff).lst_inv
 refine⟨p,_,xs,rfl,a2.int_inv,g2.fh _ _ hx,hl.1,hl.2.1,by rw[al.length];exact s0 hl.2.2,λr hr=>?_⟩
 exact q _ _ _ _ ((g1.trans g2).trans (Gr.hide g2.fh hr _)) (XN (g1.trans g2) hr) (g2.fh.free hr) zn (al.rep _)
def Z9:=wR λi j=>i - j
def xU:=Vb (λ_ j=>decide (0 < j/\j < 1606938044258990275541962092341162602522202993782792835301376)) λi j=>i / j
def v7:=Vb (λ_ j=>decide (0 < j)) λi j=>i % j
theorem Wi {f h:Ev->Option D}(ha:ED X a f)(hb:ED X b h):ED X (.BinOp a .Sub b pos) (zm Z9 f h):=zbO zkF zbN ha hb
theorem zhC:OpR X (binaryOp .FloorDiv) (rI (λ_ j=>0 < j/\j < 1606938044258990275541962092341162602522202993782792835301376) λi j=>.int (i / j)):=opI λi j _ _ _ _ _ hc q=>by
 have h1:(0:Int) < j:=hc.1
 have h2:j < 1606938044258990275541962092341162602522202993782792835301376:=hc.2
 refine PyProof.Rows.floordiv_int (by omega) (by rw[Int.fdiv_eq_ediv_of_nonneg i (by omega)];exact q) (.inl (PyProof.noPylong_of_log2 ?_))
 have h0:j.natAbs≠0:=by omega
 have h3:j.natAbs < 1606938044258990275541962092341162602522202993782792835301376:=by omega
 have h4:j.natAbs.log2 < 200:=(Nat.log2_lt h0).mpr h3
 omega
theorem zau {f h:Ev->Option D}(ha:ED X a f)(hb:ED X b h):ED X (.BinOp a .FloorDiv b pos) (zm xU f h):=zbO zhC (VR λ_ _ h=>by have h':=s0 h;exact h') ha hb
theorem Xa {f h:Ev->Option D}(ha:ED X a f)(hb:ED X b h):ED X (.BinOp a .Mod b pos) (zm v7 f h):=zbO zkU (VR λ_ _ h=>by have h':=s0 h;exact h') ha hb
def ltD:=Vr λi j=>decide (i < j)
def leD:=Vr λi j=>decide (i<=j)
def gtD:=Vr λi j=>decide (j < i)
def geD:=Vr λi j=>decide (j<=i)
def eqS:D->D->Option Bool
 | .non,.non=>some true
 | .int i,.int j=>some (decide (i=j))
 | .bl i,.bl j=>some (decide (i=j))
 | .str i,.str j=>some (decide (i=j))
 | .non,.int _=>some false | .int _,.non=>some false | .non,.bl _=>some false | .bl _,.non=>some false | .non,.str _=>some false | .str _,.non=>some false
 | .int _,.str _=>some false | .str _,.int _=>some false | .bl _,.str _=>some false | .str _,.bl _=>some false
 | _,_=>none
def eqD (d e:D):Option D:=(eqS d e).map .bl
def neD (d e:D):Option D:=(eqS d e).map λc=>.bl (!c)
theorem ziy:OpD rEq eqD:=by
 intro F H x y d e z Q s ax ay ez q
 obtain⟨c,e1,rfl⟩:=t7.mp ez
 cases d <;> cases e <;> try cases e1
 .cases ax.non_inv;cases ay.non_inv;exact⟨rfl,q F H _ (.refl s) .bl⟩
 .cases ax.non_inv;cases ay.bl_inv;exact⟨rfl,q F H _ (.refl s) .bl⟩
 .cases ax.non_inv;cases ay.int_inv;exact⟨rfl,q F H _ (.refl s) .bl⟩
 .cases ax.non_inv;cases ay.str_inv;exact⟨rfl,q F H _ (.refl s) .bl⟩
 .cases ax.bl_inv;cases ay.non_inv;exact⟨rfl,q F H _ (.refl s) .bl⟩
 .cases ax.bl_inv;cases ay.bl_inv;refine⟨rfl,?_⟩;rw[show ∀ i j:Bool,decide (V.bl i=V.bl j)=decide (i=j)from λi j=>by simp];exact q F H _ (.refl s) .bl
 .cases ax.bl_inv;cases ay.str_inv;exact⟨rfl,q F H _ (.refl s) .bl⟩
 .cases ax.int_inv;cases ay.non_inv;exact⟨rfl,q F H _ (.refl s) .bl⟩
 .cases ax.int_inv;cases ay.int_inv;refine⟨rfl,?_⟩;rw[show ∀ i j:Int,decide (V.int i=V.int j)=decide (i=j)from λi j=>by simp];exact q F H _ (.refl s) .bl
 .cases ax.int_inv;cases ay.str_inv;exact⟨rfl,q F H _ (.refl s) .bl⟩
 .cases ax.str_inv;cases ay.non_inv;exact⟨rfl,q F H _ (.refl s) .bl⟩
 .cases ax.str_inv;cases ay.bl_inv;exact⟨rfl,q F H _ (.refl s) .bl⟩
 .cases ax.str_inv;cases ay.int_inv;exact⟨rfl,q F H _ (.refl s) .bl⟩
 .cases ax.str_inv;cases ay.str_inv;refine⟨rfl,?_⟩;rw[show ∀ i j:Str,decide (V.str i=V.str j)=decide (i=j)from λi j=>by simp];exact q F H _ (.refl s) .bl
theorem WZ:OpD rNe neD:=by
 intro F H x y d e z Q s ax ay ez q
 obtain⟨c,e1,rfl⟩:=t7.mp ez
 have:=ziy F H x y d e (.bl c) (λv H'=>∃ b,v=.bl b/\Q (.bl (!b)) H') s ax ay (by unfold eqD;rw[e1];rfl) λF' H' v g av=>⟨c,av.bl_inv,q F' H' _ g .bl⟩
 obtain⟨h1,b,h2,h3⟩:=this
 cases h2
 exact⟨h1,h3⟩
def XG:D->D->Option D
 | d,.non=>some (.bl (match d with | .non=>true | _=>false))
 | .bl a,.bl b=>some (.bl (a == b))
 | _,_=>none
def zL:D->D->Option D
 | d,.non=>some (.bl (match d with | .non=>false | _=>true))
 | .bl a,.bl b=>some (.bl (!(a == b)))
 | _,_=>none
theorem zeH {F:Hp}{d:D}{x:V}(h:At F d x):decide (x=V.non)=(match d with | .non=>true | _=>false):=by
 cases d with
 | non=>cases h.non_inv;rfl
 | bl b=>cases h.bl_inv;rfl
 | int b=>cases h.int_inv;rfl
 | str b=>cases h.str_inv;rfl
 | tup ds=>obtain⟨a,xs,rfl,_⟩:=h.tup_inv;rfl
 | lst ds=>obtain⟨a,xs,rfl,_⟩:=h.lst_inv;rfl
 | scr ds=>obtain⟨a,rfl,_⟩:=h.scr_inv;rfl
 | dct z t ks vs=>obtain⟨a,xs,rfl,_⟩:=h.dct_inv;rfl
theorem zat:OpD (λx y H Q=>(y=.non/\Q (.bl (decide (x=.non))) H)\/∃ i j,x=.bl i/\y=.bl j/\Q (.bl (i == j)) H) XG:=by
 intro F H x y d e z Q s ax ay ez q
 unfold XG at ez
 split at ez
 .cases ez
  refine .inl ⟨ay.non_inv,?_⟩
  rw[zeH ax]
  have:=q F H _ (.refl s) .bl
  cases d <;> exact this
 .cases ez
  exact .inr ⟨_,_,ax.bl_inv,ay.bl_inv,q F H _ (.refl s) .bl⟩
 .cases ez
theorem VF:OpD (λx y H Q=>(y=.non/\Q (.bl (!decide (x=.non))) H)\/∃ i j,x=.bl i/\y=.bl j/\Q (.bl (!(i == j))) H) zL:=by
 intro F H x y d e z Q s ax ay ez q
 unfold zL at ez
 split at ez
 .cases ez
  refine .inl ⟨ay.non_inv,?_⟩
  rw[zeH ax]
  have:=q F H _ (.refl s) .bl
  cases d <;> exact this
 .cases ez
  exact .inr ⟨_,_,ax.bl_inv,ay.bl_inv,q F H _ (.refl s) .bl⟩
 .cases ez
theorem zdv:OpR X (compareOp .Is) (λx y H Q=>(y=.non/\Q (.bl (decide (x=.non))) H)\/∃ i j,x=.bl i/\y=.bl j/\Q (.bl (i == j)) H):=zkc.or zgX
theorem zaW:OpR X (compareOp .IsNot) (λx y H Q=>(y=.non/\Q (.bl (!decide (x=.non))) H)\/∃ i j,x=.bl i/\y=.bl j/\Q (.bl (!(i == j))) H):=zi5.or zch
def xv (g g':D->D->Option D)(f h k:Ev->Option D):Ev->Option D:=fun ρ=>(f ρ).bind λx=>(h ρ).bind λy=>((g x y).bind asB).bind λc=>if c=true then (k ρ).bind λz=>g' y z else some (.bl false)
theorem zhg {r r':R2}{g g':D->D->Option D}{ta tb tc:TE}{f h k:Ev->Option D}(hg:OpD r g)(hg':OpD r' g')(ra:RE ta f)(rb:RE tb h)(rc:RE tc k):RE (zgu r r' ta tb tc) (xv g g' f h k):=by
 intro σ ρ F H z Q s va e q
 obtain⟨x,e1,e⟩:=u3.mp e
 obtain⟨y,e2,e⟩:=u3.mp e
 obtain⟨c,e3,e⟩:=u3.mp e
 obtain⟨cd,e3,e4⟩:=u3.mp e3
 cases X7 e4
 refine ra σ ρ F H x _ s va e1 λF1 H1 v g1 a1=>?_
 refine rb σ ρ F1 H1 y _ g1.fh (va.mono g1.ff) e2 λF2 H2 u g2 a2=>?_
 refine hg F2 H2 v u x y _ _ g2.fh (a1.mono g2.ff) a2 e3 λF3 H3 w g3 a3=>⟨c,a3.bl_inv,?_⟩
 have g123:=(g1.trans g2).trans g3
 cases c with
 | true =>
  rw[j3 rfl]at e ⊢
  obtain⟨z',e5,e6⟩:=u3.mp e
  refine rc σ ρ F3 H3 z' _ g3.fh (va.mono g123.ff) e5 λF4 H4 w4 g4 a4=>?_
  exact hg' F4 H4 u w4 y z' z Q g4.fh (a2.mono (g3.ff.trans g4.ff)) a4 e6 λF5 H5 w5 g5 a5=>q F5 H5 w5 ((g123.trans g4).trans g5) a5
 | false =>
  rw[j8 u7]at e ⊢
  cases e
  exact q F3 H3 _ g123 .bl
theorem zha {op op':CmpOp}{r r':R2}{g g':D->D->Option D}{f h k:Ev->Option D}(ho:OpR X (compareOp op) r)(ho':OpR X (compareOp op') r')(hg:OpD r g)(hg':OpD r' g')(ha:ED X a f)(hb:ED X b h)(hc:ED X c k)
 (pch:∀ {ta tb tc:TE},PE X a ta->PE X b tb->PE X c tc->PE X (.Compare a [op,op'] [b,c] pos) (zgu r r' ta tb tc)):ED X (.Compare a [op,op'] [b,c] pos) (xv g g' f h k) :=
 let ⟨_,pa,ra⟩:=ha
 let ⟨_,pb,rb⟩:=hb
 let ⟨_,pc,rc⟩:=hc
 ⟨_,pch pa pb pc,zhg hg hg' ra rb rc⟩
def zdn:List D->Option (List Int)
 | []=>some []
 | .int b::ds=>(zdn ds).map (b::·)
 | _=>none
omit [KK] in
theorem Wc:∀ {ds:List D} {bs:List Int},zdn ds=some bs->ds=bs.map .int
 | [],bs,h=>by cases h;rfl
 | d::ds,bs,h=>by
  cases d <;> try cases h
  obtain⟨cs,h1,rfl⟩:=t7.mp h
  rw[Wc h1]
  rfl
def leT:D->D->Option D
 | .tup a,.tup b=>(zdn a).bind λns=>(zdn b).map λms=>.bl (HT.lexLe ns ms)
 | _,_=>none
theorem zjb {K:W.Frag}:OpD (rLeT K) leT:=by
 intro F H x y d e z Q s ax ay ez q
 cases d <;> try cases ez
 cases e <;> try cases ez
 obtain⟨ns,e1,e2⟩:=u3.mp ez
 obtain⟨ms,e3,rfl⟩:=t7.mp e2
 rw[Wc e1]at ax
 rw[Wc e3]at ay
 obtain⟨p,xs,rfl,hx,al⟩:=ax.tup_inv
 obtain⟨p2,ys,rfl,hy,bl⟩:=ay.tup_inv
 cases al.of_ints
 cases bl.of_ints
 exact⟨p,p2,ns,ms,rfl,rfl,SqT.of (s _ _ hx),SqT.of (s _ _ hy),q F H _ (.refl s) .bl⟩
def ixD:D->D->Option D
 | .lst ds,.int i=>atI ds i
 | .tup ds,.int i=>atI ds i
 | .scr ns,.int i=>(atI ns i).map .int
 | _,_=>none
theorem AtL.atI {F:Hp}{ds:List D}{xs:List V}{i:Int}{d:D}(al:AtL F ds xs)(h:L2.atI ds i=some d):∃ x,L2.atI xs i=some x/\At F d x:=by
 unfold L2.atI at h ⊢
 obtain⟨j,e1,e2⟩:=u3.mp h
 obtain⟨x,hx,ax⟩:=al.get e2
 exact⟨x,by rw[al.length,e1];exact hx,ax⟩
theorem zkt:OpD (rIx KK.K) ixD:=by
 intro F H x y d e z Q s ax ay ez q
 cases e <;> try (cases d <;> cases ez)
 cases ay.int_inv
 cases d with
 | lst ds =>
  obtain⟨p,xs,rfl,hx,al⟩:=ax.lst_inv
  obtain⟨v,e1,av⟩:=al.atI ez
  exact .inl ⟨p,xs,_,v,rfl,rfl,SqL.of (s _ _ hx),e1,q F H _ (.refl s) av⟩
 | tup ds =>
  obtain⟨p,xs,rfl,hx,al⟩:=ax.tup_inv
  obtain⟨v,e1,av⟩:=al.atI ez
  exact .inr (.inl ⟨p,xs,_,v,rfl,rfl,SqT.of (s _ _ hx),e1,q F H _ (.refl s) av⟩)
 | scr ns =>
  obtain⟨p,rfl,hx⟩:=ax.scr_inv
  obtain⟨n,e1,rfl⟩:=t7.mp ez
  refine .inl ⟨p,ns.map V.int,_,.int n,rfl,rfl,s.seq hx,?_,q F H _ (.refl s) .int⟩
  unfold L2.atI at e1 ⊢
  rw[u5]
  obtain⟨j,e2,e3⟩:=u3.mp e1
  rw[e2]
  show(ns.map V.int)[j]?=_
  rw[j7,e3]
  rfl
 | _=>cases ez
theorem zB {f h:Ev->Option D}(ha:ED X a f)(hb:ED X b h)(hs:zgA b)(hK:X.K=KK.K:=by rfl):ED X (.Subscript a b pos) (zm ixD f h) :=
 let ⟨_,pa,ra⟩:=ha
 let ⟨_,pb,rb⟩:=hb
 ⟨_,zmw zkQ pa pb hs,zgY (by rw[hK];exact zkt) ra rb⟩
def W3 {α:Type}(xs:List α)(lo hi:Option Int):List α:=(xs.drop (HT.sIx xs.length 0 lo)).take (HT.sIx xs.length xs.length hi - HT.sIx xs.length 0 lo)
theorem AtL.cut {F:Hp}{ds:List D}{xs:List V}{lo hi:Option Int}(al:AtL F ds xs):AtL F (W3 ds lo hi) (zcv xs lo hi):=by
 unfold W3 zcv
 rw[al.length]
 exact(al.drop _).take _
def OD (X:Cx)(e:Option Expr)(f:Ev->Option (Option Int)):Prop:=∃ t,PO X e t/\∀ (σ:St) (ρ:Ev) (F H:Hp) (i:Option Int) (Q:Option Int->Hp->Prop),yz F H->VAt F ρ σ->f ρ=some i->(∀ F' H',Gr F H F' H'->Q i H')->t σ H Q
def wP:Ev->Option (Option Int):=λ_=>some none
def asI:D->Option Int
 | .int i=>some i
 | _=>none
def xI (f:Ev->Option D):Ev->Option (Option Int):=fun ρ=>((f ρ).bind asI).map some
theorem zfG:OD X none wP:=⟨_,zjk,λ_ _ _ _ _ _ s _ e q=>by cases e;exact q _ _ (.refl s)⟩
theorem zak {f:Ev->Option D}(h:ED X e f):OD X (some e) (xI f):=by
 obtain⟨t,p,r⟩:=h
 refine⟨_,zjA p,fun σ ρ F H i Q s va e q=>?_⟩
 obtain⟨j,e1,rfl⟩:=t7.mp e
 obtain⟨d,e1,e2⟩:=u3.mp e1
 cases d <;> cases e2
 exact r σ ρ F H _ _ s va e1 λF1 H1 v g1 a1=>⟨_,a1.int_inv,q F1 H1 g1⟩
def slL:D->Option Int->Option Int->Option (List D)
 | .lst ds,lo,hi=>some (W3 ds lo hi)
 | .scr ns,lo,hi=>some ((W3 ns lo hi).map .int)
 | _,_,_=>none
def slD:D->Option Int->Option Int->Option D
 | .lst ds,lo,hi=>some (.lst (W3 ds lo hi))
 | .scr ns,lo,hi=>some (.lst ((W3 ns lo hi).map .int))
 | .tup ds,lo,hi=>some (.tup (W3 ds lo hi))
 | _,_,_=>none
def eSl (g:D->Option Int->Option Int->Option D)(f:Ev->Option D)(l h:Ev->Option (Option Int)):Ev->Option D:=fun ρ=>(f ρ).bind λd=>(l ρ).bind λlo=>(h ρ).bind λhi=>g d lo hi
def fSl (g:D->Option Int->Option Int->Option (List D))(f:Ev->Option D)(l h:Ev->Option (Option Int)):Ev->Option (List D):=fun ρ=>(f ρ).bind λd=>(l ρ).bind λlo=>(h ρ).bind λhi=>g d lo hi
omit [KK] in
theorem zdi {ns:List Int}{lo hi:Option Int}:zcv (ns.map V.int) lo hi=(W3 ns lo hi).map V.int:=by
 unfold zcv W3
 rw[u5,List.map_take,List.map_drop]
end
end Dl
namespace L2
open PySem PySem.Spec PyProof.Rows
def rSlN:V->Option Int->Option Int->Hp->VK->Prop:=λx lo hi H Q=>∃ a xs,x=.ref a/\H a=some (.tup xs)/\(zcv xs lo hi=xs->Q (.ref a) H)/\∀ p,H p=none->Q (.ref p) (upd H p (.tup (zcv xs lo hi)))
theorem zjz {X:Cx}:SlR X rSlN:=by
 intro pins s σ H x v vl vu lo hi sl Q I rx hs pl pu h
 obtain⟨a,xs,rfl,hx,q1,q2⟩:=h
 by_cases hw:HT.sIx xs.length 0 lo=0/\HT.sIx xs.length xs.length hi=xs.length
 .cases rx
  obtain⟨its,r,ht,hz⟩:=I.tuple (SqT.of hx)
  have hlen:its.toArray.size=xs.length:=by rw[t9];exact r.length.symm
  refine⟨"tuple",_,u0E.lookup,ht.typeIs,?_⟩
  refine HT.own_getItem_whole ht hs pl pu (by rw[hlen];exact hw) ⟨.ref a,H,I,rfl,q1 ?_⟩
  unfold zcv
  rw[hw.1,hw.2,u10,Nat.sub_zero,u1B]
 .exact zk9 pins s σ H (.ref a) v vl vu lo hi sl Q I rx hs pl pu ⟨a,xs,rfl,SqT.of hx,hw,q2⟩
end L2
namespace Dl
open PySem L2
variable [KK]
section
variable {X:Cx}{a b c e:Expr}{pos:Pos}
theorem zdt {lo hi:Option Expr}{p2:Pos}{f:Ev->Option D}{l h:Ev->Option (Option Int)}(ha:ED X a f)(hl:OD X lo l)(hh:OD X hi h)(hK:X.K=KK.K:=by rfl):ED X (.Subscript a (.Slice lo hi none p2) pos) (eSl slD f l h):=by
 obtain⟨ta,pa,ra⟩:=ha
 obtain⟨tl,ppl,rl⟩:=hl
 obtain⟨th,ph,rh⟩:=hh
 refine⟨_,zcZ (zeX.or zjz) pa ppl ph,fun σ ρ F H z Q s va e q=>?_⟩
 obtain⟨d,e1,e⟩:=u3.mp e
 obtain⟨i,e2,e⟩:=u3.mp e
 obtain⟨j,e3,e⟩:=u3.mp e
 refine ra σ ρ F H d _ s va e1 λF1 H1 v g1 a1=>?_
 refine rl σ ρ F1 H1 i _ g1.fh (va.mono g1.ff) e2 λF2 H2 g2=>?_
 refine rh σ ρ F2 H2 j _ g2.fh (va.mono (g1.ff.trans g2.ff)) e3 λF3 H3 g3=>?_
 have g123:=(g1.trans g2).trans g3
 have a3:=a1.mono (g2.ff.trans g3.ff)
 cases d <;> try cases e
 .obtain⟨p,xs,rfl,hx,al⟩:=a3.tup_inv
  refine .inr ⟨p,xs,rfl,g3.fh _ _ hx,λec=>?_,λr hr=>?_⟩
  .have:=al.cut (lo:=i) (hi:=j)
   rw[ec]at this
   exact q F3 H3 _ g123 (.tup hx this)
  .have g:=Gr.alloc g3.fh hr (.tup (zcv xs i j))
   exact q _ _ _ (g123.trans g) (.tup zn (al.cut.mono g.ff))
 .obtain⟨p,xs,rfl,hx,al⟩:=a3.lst_inv
  refine .inl ⟨p,xs,rfl,SqL.of (g3.fh _ _ hx),λr hr=>?_⟩
  have g:=Gr.alloc g3.fh hr (.lst (zcv xs i j))
  exact q _ _ _ (g123.trans g) (.lst zn (al.cut.mono g.ff))
 .rename_i ns _ _
  obtain⟨p,rfl,hx⟩:=a3.scr_inv
  refine .inl ⟨p,_,rfl,(by rw[hK];exact g3.fh.seq hx),λr hr=>?_⟩
  rw[zdi]
  have g:=Gr.alloc g3.fh hr (.lst ((W3 ns i j).map V.int))
  exact q _ _ _ (g123.trans g) (.lst zn (.ints _))
theorem zhi {lo hi:Option Expr}{p2:Pos}{f:Ev->Option D}{l h:Ev->Option (Option Int)}(ha:ED X a f)(hl:OD X lo l)(hh:OD X hi h)(hK:X.K=KK.K:=by rfl):FL X (.Subscript a (.Slice lo hi none p2) pos) (fSl slL f l h):=by
 obtain⟨ta,pa,ra⟩:=ha
 obtain⟨tl,ppl,rl⟩:=hl
 obtain⟨th,ph,rh⟩:=hh
 refine⟨_,zcZ zeX pa ppl ph,fun σ ρ F H z Q s va e q=>?_⟩
 obtain⟨d,e1,e⟩:=u3.mp e
 obtain⟨i,e2,e⟩:=u3.mp e
 obtain⟨j,e3,e⟩:=u3.mp e
 refine ra σ ρ F H d _ s va e1 λF1 H1 v g1 a1=>?_
 refine rl σ ρ F1 H1 i _ g1.fh (va.mono g1.ff) e2 λF2 H2 g2=>?_
 refine rh σ ρ F2 H2 j _ g2.fh (va.mono (g1.ff.trans g2.ff)) e3 λF3 H3 g3=>?_
 have g123:=(g1.trans g2).trans g3
 have a3:=a1.mono (g2.ff.trans g3.ff)
 cases d <;> try cases e
 .obtain⟨p,xs,rfl,hx,al⟩:=a3.lst_inv
  refine⟨p,xs,rfl,SqL.of (g3.fh _ _ hx),λr hr=>?_⟩
  exact q _ _ _ _ (g123.trans (Gr.hide g3.fh hr _)) (XN g123 hr) (g3.fh.free hr) zn al.cut
 .obtain⟨p,rfl,hx⟩:=a3.scr_inv
  refine⟨p,_,rfl,(by rw[hK];exact g3.fh.seq hx),λr hr=>?_⟩
  rw[zdi]
  exact q _ _ _ _ (g123.trans (Gr.hide g3.fh hr _)) (XN g123 hr) (g3.fh.free hr) zn (.ints _)
def CaD (r:List V->Hp->VK->Prop)(g:List D->Option D):Prop:=∀ (F H:Hp) (vs:List V) (ds:List D) (z:D) (Q:VK),yz F H->AtL F ds vs->g ds=some z->(∀ F' H' v,Gr F H F' H'->At F' z v->Q v H')->r vs H Q
def eFn (g:List D->Option D)(f:Ev->Option (List D)):Ev->Option D:=fun ρ=>(f ρ).bind g
def fFn (g:List D->Option (List D))(f:Ev->Option (List D)):Ev->Option (List D):=fun ρ=>(f ρ).bind g
theorem zU {x:Str}{id:String}{p:Pos}{es:List Expr}{r:List V->Hp->VK->Prop}{g:List D->Option D}{f:Ev->Option (List D)}(hc:Xp X (.builtin id) r)(hg:CaD r g)(hgl:Gl X x)(hm:X.mg x=none)(hv:bootBuiltins x=some (.builtin id))(ha:AD X (e::es) f)
 (hn:x≠"__name__":=by decide) (hdb:(x == ("__debug__":Str))=false:=by decide) (he:starEach (e::es) X.env=(false,eval e X.env)::starEach es X.env:=by rfl) (hpl:(backTo pos (starEach es X.env)).any (·.1)=false:=by rfl) :
 ED X (.Call (.Name x p) (e::es) [] pos) (eFn g f):=by
 obtain⟨t,pa,ra⟩:=ha
 refine⟨_,X9 hc hgl hm hv pa hn hdb he hpl,fun σ ρ F H z Q s va e q=>?_⟩
 obtain⟨ds,e1,e2⟩:=u3.mp e
 refine ra σ ρ F H ds _ s va e1 λF1 H1 vs g1 a1=>?_
 exact hg F1 H1 vs ds z Q g1.fh a1 e2 λF' H' v g av=>q F' H' v (g1.trans g) av
theorem w8 {x:Str}{T:String}{p:Pos}{es:List Expr}{r:List V->Hp->VK->Prop}{g:List D->Option D}{f:Ev->Option (List D)}(hc:Xp X (.type T) r)(hg:CaD r g)(hgl:Gl X x)(hm:X.mg x=none)(hv:bootBuiltins x=some (.type T))(ha:AD X (e::es) f)
 (hn:x≠"__name__":=by decide) (hdb:(x == ("__debug__":Str))=false:=by decide) (he:starEach (e::es) X.env=(false,eval e X.env)::starEach es X.env:=by rfl) (hpl:(backTo pos (starEach es X.env)).any (·.1)=false:=by rfl) :
 ED X (.Call (.Name x p) (e::es) [] pos) (eFn g f):=by
 obtain⟨t,pa,ra⟩:=ha
 refine⟨_,za2 hc hgl hm hv pa hn hdb he hpl,fun σ ρ F H z Q s va e q=>?_⟩
 obtain⟨ds,e1,e2⟩:=u3.mp e
 refine ra σ ρ F H ds _ s va e1 λF1 H1 vs g1 a1=>?_
 exact hg F1 H1 vs ds z Q g1.fh a1 e2 λF' H' v g av=>q F' H' v (g1.trans g) av
def Zb:List D->Option D
 | [.lst ds]=>some (.int ds.length)
 | [.tup ds]=>some (.int ds.length)
 | [.scr ds]=>some (.int ds.length)
 | _=>none
theorem wk:CaD (λxs H Q=>∃ p ys,xs=[.ref p]/\(SqL KK.K H p ys\/SqT KK.K H p ys)/\Q (.int ys.length) H) Zb:=by
 intro F H vs ds z Q s al e q
 unfold Zb at e
 split at e <;> cases e
 all_goals
  obtain⟨x,r,rfl,ax,ar⟩:=al.cons_inv
  cases ar.nil_inv
 .obtain⟨p,xs,rfl,hx,bl⟩:=ax.lst_inv
  exact⟨p,xs,rfl,.inl (SqL.of (s _ _ hx)),by rw[bl.length];exact q F H _ (.refl s) .int⟩
 .obtain⟨p,xs,rfl,hx,bl⟩:=ax.tup_inv
  exact⟨p,xs,rfl,.inr (SqT.of (s _ _ hx)),by rw[bl.length];exact q F H _ (.refl s) .int⟩
 .obtain⟨p,rfl,hx⟩:=ax.scr_inv
  exact⟨p,_,rfl,.inl ((s.seq hx)),by rw[u5];exact q F H _ (.refl s) .int⟩
def zcj:List D->Option D
 | [.int i,.int j]=>some (.int (if j > i then j else i))
 | _=>none
def zeN:List D->Option D
 | [.int i,.int j]=>some (.int (if j < i then j else i))
 | _=>none
theorem zdf {g:Int->Int->Int}:CaD (λxs H Q=>∃ i j,xs=[.int i,.int j]/\Q (.int (g i j)) H) (λds=>match ds with | [.int i,.int j]=>some (.int (g i j)) | _=>none):=by
 intro F H vs ds z Q s al e q
 dsimp only at e
 split at e <;> cases e
 obtain⟨x,r,rfl,ax,ar⟩:=al.cons_inv
 obtain⟨y,r,rfl,ay,ar⟩:=ar.cons_inv
 cases ar.nil_inv
 exact⟨_,_,by rw[ax.int_inv,ay.int_inv],q F H _ (.refl s) .int⟩
theorem Wa:CaD (λxs H Q=>∃ i j,xs=[.int i,.int j]/\Q (.int (if j > i then j else i)) H) zcj:=zdf (g:=λi j=>if j > i then j else i)
theorem zal:CaD (λxs H Q=>∃ i j,xs=[.int i,.int j]/\Q (.int (if j < i then j else i)) H) zeN:=zdf (g:=λi j=>if j < i then j else i)
def yb:List D->Option D
 | [.lst ds]=>some (.tup ds)
 | [.tup ds]=>some (.tup ds)
 | _=>none
theorem vn {K:W.Frag}:CaD (λxs H Q=>∃ p ys,xs=[.ref p]/\((SqL K H p ys/\∀ l,H l=none->Q (.ref l) (upd H l (.tup ys)))\/(SqT K H p ys/\Q (.ref p) H))) yb:=by
 intro F H vs ds z Q s al e q
 unfold yb at e
 split at e <;> cases e
 all_goals
  obtain⟨x,r,rfl,ax,ar⟩:=al.cons_inv
  cases ar.nil_inv
 .obtain⟨p,xs,rfl,hx,bl⟩:=ax.lst_inv
  refine⟨p,xs,rfl,.inl ⟨SqL.of (s _ _ hx),λl hl=>?_⟩⟩
  have g:=Gr.alloc s hl (.tup xs)
  exact q _ _ _ g (.tup zn (bl.mono g.ff))
 .obtain⟨p,xs,rfl,hx,bl⟩:=ax.tup_inv
  exact⟨p,xs,rfl,.inr ⟨SqT.of (s _ _ hx),q F H _ (.refl s) (.tup hx bl)⟩⟩
def vM:List D->Option (List D)
 | [.lst ds]=>some ds
 | [.tup ds]=>some ds
 | [.scr ns]=>some (ns.map .int)
 | _=>none
theorem ziX {p:Pos} {f:Ev->Option (List D)} (hgl:Gl X "list") (hm:X.mg "list"=none) (ha:AD X [e] f) (hK:X.K=KK.K:=by rfl)
 (he:starEach [e] X.env=(false,eval e X.env)::starEach [] X.env:=by rfl) (hpl:(backTo pos (starEach [] X.env)).any (·.1)=false:=by rfl):FL X (.Call (.Name "list" p) [e] [] pos) (fFn vM f):=by
 obtain⟨t,pa,ra⟩:=ha
 refine⟨_,za2 zbT hgl hm zct pa (by decide) (by decide) he hpl,fun σ ρ F H z Q s va e q=>?_⟩
 obtain⟨ds,e1,e2⟩:=u3.mp e
 refine ra σ ρ F H ds _ s va e1 λF1 H1 vs g1 a1=>?_
 unfold vM at e2
 split at e2 <;> cases e2
 all_goals
  obtain⟨x,r,rfl,ax,ar⟩:=a1.cons_inv
  cases ar.nil_inv
 .obtain⟨p,xs,rfl,hx,bl⟩:=ax.lst_inv
  exact⟨p,xs,rfl,.inl (SqL.of (g1.fh _ _ hx)),λl hl=>q _ _ _ _ (g1.trans (Gr.hide g1.fh hl _)) (XN g1 hl) (g1.fh.free hl) zn bl⟩
 .obtain⟨p,xs,rfl,hx,bl⟩:=ax.tup_inv
  exact⟨p,xs,rfl,.inr (SqT.of (g1.fh _ _ hx)),λl hl=>q _ _ _ _ (g1.trans (Gr.hide g1.fh hl _)) (XN g1 hl) (g1.fh.free hl) zn bl⟩
 .obtain⟨p,rfl,hx⟩:=ax.scr_inv
  exact⟨p,_,rfl,.inl (by rw[hK];exact g1.fh.seq hx),λl hl=>q _ _ _ _ (g1.trans (Gr.hide g1.fh hl _)) (XN g1 hl) (g1.fh.free hl) zn (.ints _)⟩
inductive TyD (K:W.Frag) (H:Hp):V->Value->Prop where
 | of {v:V} {t:Value} (h:zdu K H v t):TyD K H v t
 | dd {a:Addr} {u:HO} (h:Rd H a u) (d:(∃ kvs,u=.dK kvs)\/∃ kvs,u=.dT kvs):TyD K H (.ref a) (.type "dict")
theorem zbJ {X:Cx}:Xp X (.builtin "isinstance") (λxs H Q=>∃ x n t b,xs=[x,.ty n]/\TyD X.K H x t/\W.kitOne X.K t (.type n)=some b/\Q (.bl b) H):=by
 intro pins s σ H xs us Q I r h
 obtain⟨x,n,t,b,rfl,ty,e,q⟩:=h
 cases ty with
 | of ty=>exact zcy pins s σ H _ us Q I r ⟨x,n,t,b,rfl,ty,e,q⟩
 | @dd a u h d =>
  cases r with
  | cons r1 r2 =>
   cases r2 with
   | cons r3 r4 =>
    cases r4
    cases r1
    cases r3
    have ok:=h.ok I.hok
    rcases d with ⟨kvs,rfl⟩ | ⟨kvs,rfl⟩
    .obtain⟨_,_,vs,_,p⟩:=(show xt X.prog X.w H s.heap a (.dK kvs)from ok)
     obtain⟨o,es,ep,h1,h2,_⟩:=p
     exact u0O u2S I.kIn ⟨o,h1,h2.1⟩ e (λz=>nomatch z) λtk=>⟨.bl b,H,I.tok tk,rfl,q⟩
    .obtain⟨_,_,xs,_,o,es,ep,h1,h2,_⟩:=(show xt X.prog X.w H s.heap a (.dT kvs)from ok)
     exact u0O u2S I.kIn ⟨o,h1,h2.1⟩ e (λz=>nomatch z) λtk=>⟨.bl b,H,I.tok tk,rfl,q⟩
theorem At.ty {K:W.Frag}{F H:Hp}(s:yz F H):∀ {d:D} {v:V},At F d v->(∀ ns,d≠.scr ns)->TyD K H v (.type (tyN d))
 | .non,_,h,_=>by cases h.non_inv;exact .of .non
 | .bl b,_,h,_=>by cases h.bl_inv;exact .of (.bl b)
 | .int i,_,h,_=>by cases h.int_inv;exact .of (.int i)
 | .str x,_,h,_=>by cases h.str_inv;exact .of (.str x)
 | .tup ds,_,h,_=>by obtain⟨a,xs,rfl,e,_⟩:=h.tup_inv;exact .of (.tup (s _ _ e))
 | .lst ds,_,h,_=>by obtain⟨a,xs,rfl,e,_⟩:=h.lst_inv;exact .of (.lst (s _ _ e))
 | .scr ns,_,_,n=>absurd rfl (n ns)
 | .dct z t ks vs,_,h,_=>by
  obtain⟨a,xs,rfl,d,_⟩:=h.dct_inv
  obtain⟨u,e1,e2⟩:=(d.mono s).rd
  exact .dd e2 (by
   unfold zlm at e1
   split at e1
   .obtain⟨kvs,rfl,_⟩:=e1;exact .inr ⟨kvs,rfl⟩
   .obtain⟨kvs,rfl,_⟩:=e1;exact .inl ⟨kvs,rfl⟩)
inductive Ty where
 | int | bool | tuple | list | str
def Ty.nm:Ty->String
 | .int=>"int" | .bool=>"bool" | .tuple=>"tuple" | .list=>"list" | .str=>"str"
def isT:Ty->D->Bool
 | .int,.int _=>true | .int,.bl _=>true
 | .bool,.bl _=>true
 | .tuple,.tup _=>true
 | .list,.lst _=>true
 | .str,.str _=>true
 | _,_=>false
def yR (n:Ty):D->Option D
 | .scr _=>none
 | d=>some (.bl (isT n d))
theorem zkG (K:W.Frag)(n:Ty)(d:D)(h:∀ ns,d≠.scr ns):W.kitOne K (.type (tyN d)) (.type n.nm)=some (isT n d):=by
 cases n <;> cases d <;> first | exact absurd rfl (h _) | kernel_rfl
theorem zN {p:Pos} {f:Ev->Option D} (n:Ty) (hgl:Gl X "isinstance") (hm:X.mg "isinstance"=none) (ha:ED X a f) (hb:PE X b (tC (.ty n.nm)))
 (hs:starEach [a,b] X.env=(false,eval a X.env)::starEach [b] X.env:=by rfl) (hs2:starEach [b] X.env=(false,eval b X.env)::starEach [] X.env:=by rfl) (hpl:(backTo pos (starEach [b] X.env)).any (·.1)=false:=by rfl) :
 ED X (.Call (.Name "isinstance" p) [a,b] [] pos) (eUn (yR n) f):=by
 obtain⟨t,pa,ra⟩:=ha
 refine⟨_,X9 zbJ hgl hm VQ (Zz pa (Zz hb za6 hs2) hs) (by decide) (by decide) hs hpl,fun σ ρ F H z Q s va e q=>?_⟩
 obtain⟨d,e1,e2⟩:=u3.mp e
 refine ra σ ρ F H d _ s va e1 λF1 H1 v g1 a1=>?_
 have ns:∀ ns,d≠.scr ns:=λns h=>by subst h;cases e2
 have e3:z=.bl (isT n d):=by
  cases d <;> first | exact(u0x e2).symm | exact absurd rfl (ns _)
 subst e3
 exact⟨v,n.nm,_,_,rfl,a1.ty g1.fh ns,zkG _ n d ns,q F1 H1 _ g1 .bl⟩
def ZY (m:Bool)(i:Nat)(f:Ev->Option D):SE->Ctl:=fun ρ=>match (vEv m f ρ).bind λd=>match ρ[i]? with
 | some (.o ds)=>if decide (ds.length < sizeLine)=true then some (ρ.set i (.o (ds++[d])))else none
 | _=>none with
 | some ρ'=>.nx ρ'
 | none=>.no
theorem ZE {m:Bool}{i:Nat}{p pos':Pos}{f:Ev->Option D}(ho:PE X a (zjT i))(he:ED X e f)
 (hp:∀ {ta:TE} {t:TA},PE X a ta->PA X [e] t->PE X (.Call (.Attribute a "append" p) [e] [] pos') (tBM X.K "list" zf2 ta t)) (hsw:swapsWith (.Call (.Attribute a "append" p) [e] [] pos') none pos.line X.env=pure false:=by rfl)
 (hs:starEach [e] X.env=(false,eval e X.env)::starEach [] X.env:=by rfl):SD X (.Expr (.Call (.Attribute a "append" p) [e] [] pos') pos) (ZY m i f):=by
 obtain⟨t,pe,re⟩:=he
 refine⟨_,zcM (hp ho (Zz pe za6 hs)) hsw,λFb Hb F H ρ σ E rl k=>?_⟩
 unfold ZY at k
 cases h:(vEv m f ρ).bind λd=>match ρ[i]? with
  | some (.o ds)=>if decide (ds.length < sizeLine)=true then some (ρ.set i (.o (ds++[d])))else none
  | _=>none with
 | none=>rw[h]at k;exact k.elim
 | some ρ' =>
  rw[h]at k
  obtain⟨d,e1,e2⟩:=u3.mp h
  cases hs:ρ[i]? with
  | none=>rw[hs]at e2;cases e2
  | some sl =>
   rw[hs]at e2
   cases sl with
   | no=>cases e2
   | v _=>cases e2
   | m _ _ _=>cases e2
   | o ds =>
    dsimp only at e2
    split at e2 <;> cases e2
    rename_i hl
    obtain⟨q,xs,f1,f2,f3,f4,f5⟩:=rl.owns i ds hs
    refine⟨_,f1,.inl ⟨rfl,xs,SqL.of f4⟩,?_⟩
    refine re.at rl e1 λF' H' v g av=>?_
    have rl2:=rl.grow g
    obtain⟨q2,xs2,f1',_,_,f4',f5'⟩:=rl2.owns i ds hs
    rw[f1]at f1'
    cases f1'
    refine⟨q,xs2,v,rfl,rfl,f4',by rw[f5'.length];exact s0 hl,?_⟩
    exact k _ _ σ (rl2.mutate hs f1 (f5'.snoc av))
def zbY (i:Nat)(f:Ev->Option D):SE->Ctl:=fun ρ=>match (f (visF ρ)).bind λd=>match ρ[i]?,d with
 | some (.o ds),.lst es=>if lim (ds.length+es.length)=true then some (ρ.set i (.o (ds++es)))else none
 | _,_=>none with
 | some ρ'=>.nx ρ'
 | none=>.no
end
end Dl
namespace Dl
open PySem L2
variable [KK]
def okE:Nat->D->Bool
 | _,.scr _=>false
 | _,.dct _ _ _ _=>false
 | 0,.tup _=>false
 | 0,.lst _=>false
 | n+1,.tup ds=>ds.all (okE n)
 | n+1,.lst ds=>ds.all (okE n)
 | _,_=>true
def eqN:Nat->D->D->Bool
 | _,.non,.non=>true
 | _,.bl a,.bl b=>a == b
 | _,.bl a,.int b=>(if a then 1 else 0) == b
 | _,.int a,.bl b=>a == (if b then 1 else 0)
 | _,.int a,.int b=>a == b
 | _,.str a,.str b=>a == b
 | n+1,.tup a,.tup b=>(List.zipWith (eqN n) a b).all id&&a.length == b.length
 | n+1,.lst a,.lst b=>(List.zipWith (eqN n) a b).all id&&a.length == b.length
 | _,_,_=>false
omit [KK] in
theorem zav {n:Nat}:∀ (a b:List D),(List.zipWith (eqN n) a b).all id=(List.range (min a.length b.length)).all λj=>eqN n (a.getD j .non) (b.getD j .non):=by
 intro a b
 have:List.zipWith (eqN n) a b=(List.range (min a.length b.length)).map λj=>eqN n (a.getD j .non) (b.getD j .non):=by
  apply u3T
  .simp
  .intro i h1 h2
   simp at h1 h2
   have g1:i < a.length:=d8 h1 (Nat.min_le_left _ _)
   have g2:i < b.length:=d8 h1 (u2k _ _)
   simp[g1,g2]
 rw[this,u15]
 rfl
omit [KK] in
def vOf:D->V
 | .bl b=>.bl b
 | .int i=>.int i
 | .str t=>.str t
 | _=>.non
theorem xS {F:Hp}{d:D}{x:V}(h:okE 0 d=true)(a:At F d x):x=vOf d:=by
 cases d with
 | non=>exact a.non_inv
 | bl b=>exact a.bl_inv
 | int b=>exact a.int_inv
 | str b=>exact a.str_inv
 | _=>cases h
omit [KK] in
theorem X2 {d:D}(h:okE 0 d=true):ziF (vOf d)=true:=by
 cases d <;> first | rfl | cases h
omit [KK] in
theorem zaA {d:D}{p:Addr}(h:okE 0 d=true)(e:vOf d=.ref p):False:=by
 cases d <;> first | (cases h;done) | (cases e;done)
def dOfV:V->D
 | .bl b=>.bl b
 | .int i=>.int i
 | .str t=>.str t
 | _=>.non
omit [KK] in
theorem zee {d:D}(h:okE 0 d=true):dOfV (vOf d)=d:=by
 cases d <;> first | rfl | (cases h;done)
omit [KK] in
theorem zeP {d e:D}(h1:okE 0 d=true)(h2:okE 0 e=true)(h:vOf d=vOf e):d=e:=by
 rw[<-zee h1,h,zee h2]
omit [KK] in
theorem xK {n:Nat}{d:D}(h:okE (n+1) d=true):okE 0 d=true\/(∃ ds,d=.tup ds/\ds.all (okE n)=true)\/∃ ds,d=.lst ds/\ds.all (okE n)=true:=by
 cases d with
 | tup ds=>exact .inr (.inl ⟨ds,rfl,h⟩)
 | lst ds=>exact .inr (.inr ⟨ds,rfl,h⟩)
 | scr _=>cases h
 | dct _ _ _ _=>cases h
 | _=>exact .inl rfl
theorem zgr {F:Hp}{n:Nat}(ih:∀ {d e:D} {v:V},okE n d=true->okE n e=true->At F d v->At F e v->d=e):∀ {xs:List V} {ds es:List D},ds.all (okE n)=true->es.all (okE n)=true->AtL F ds xs->AtL F es xs->ds=es:=by
 intro xs
 induction xs with
 | nil =>
  intro ds es _ _ a1 a2
  exact(u1f.mp a1.length.symm).trans (u1f.mp a2.length.symm).symm
 | cons x xs ih2 =>
  intro ds es h1 h2 a1 a2
  cases ds with
  | nil=>cases a1.nil_inv
  | cons d ds=>cases es with
   | nil=>cases a2.nil_inv
   | cons e es =>
    obtain⟨y,r,e1,b1,c1⟩:=a1.cons_inv
    obtain⟨y2,r2,e2,b2,c2⟩:=a2.cons_inv
    cases e1
    cases e2
    rw[u3Q,u0n]at h1 h2
    rw[ih2 h1.2 h2.2 c1 c2,ih h1.1 h2.1 b1 b2]
theorem zic {F:Hp}:∀ (n:Nat) {d e:D} {v:V},okE n d=true->okE n e=true->At F d v->At F e v->d=e:=by
 intro n
 induction n with
 | zero =>
  intro d e v h1 h2 a1 a2
  exact zeP h1 h2 ((xS h1 a1).symm.trans (xS h2 a2))
 | succ n ih =>
  intro d e v h1 h2 a1 a2
  rcases xK h1 with f1 | ⟨ds,rfl,k1⟩ | ⟨ds,rfl,k1⟩
  .have e1:=xS f1 a1
   rcases xK h2 with f2 | ⟨es,rfl,_⟩ | ⟨es,rfl,_⟩
   .exact zeP f1 f2 (e1.symm.trans (xS f2 a2))
   .obtain⟨p,xs,e2,_⟩:=a2.tup_inv
    exact(zaA f1 (e1.symm.trans e2)).elim
   .obtain⟨p,xs,e2,_⟩:=a2.lst_inv
    exact(zaA f1 (e1.symm.trans e2)).elim
  .obtain⟨p,xs,e0,hx,al⟩:=a1.tup_inv
   rcases xK h2 with f2 | ⟨es,rfl,k2⟩ | ⟨es,rfl,k2⟩
   .exact(zaA f2 ((xS f2 a2).symm.trans e0)).elim
   .obtain⟨q,ys,e1,hy,bl⟩:=a2.tup_inv
    cases e0.symm.trans e1
    cases hx.symm.trans hy
    rw[zgr ih k1 k2 al bl]
   .obtain⟨q,ys,e1,hy,bl⟩:=a2.lst_inv
    cases e0.symm.trans e1
    cases hx.symm.trans hy
  .obtain⟨p,xs,e0,hx,al⟩:=a1.lst_inv
   rcases xK h2 with f2 | ⟨es,rfl,k2⟩ | ⟨es,rfl,k2⟩
   .exact(zaA f2 ((xS f2 a2).symm.trans e0)).elim
   .obtain⟨q,ys,e1,hy,bl⟩:=a2.tup_inv
    cases e0.symm.trans e1
    cases hx.symm.trans hy
   .obtain⟨q,ys,e1,hy,bl⟩:=a2.lst_inv
    cases e0.symm.trans e1
    cases hx.symm.trans hy
    rw[zgr ih k1 k2 al bl]
omit [KK] in
theorem zc9:∀ (n:Nat) {d:D},okE n d=true->eqN n d d=true:=by
 intro n
 induction n with
 | zero =>
  intro d h
  cases d with
  | tup _=>cases h
  | lst _=>cases h
  | scr _=>cases h
  | dct _ _ _ _=>cases h
  | _=>first | rfl | exact i5 rfl | exact u1C _
 | succ n ih =>
  have ihl:∀ {ds:List D},ds.all (okE n)=true->(List.zipWith (eqN n) ds ds).all id=true:=by
   intro ds
   induction ds with
   | nil=>intro _;rfl
   | cons d ds ih2 =>
    intro h
    rw[u3Q,u0n]at h
    rw[List.zipWith_cons_cons,u3Q,ih2 h.2,u3P]
    exact ih h.1
  intro d h
  cases d with
  | tup ds=>show((List.zipWith (eqN n) ds ds).all id&&ds.length == ds.length)=true;rw[ihl h];simp
  | lst ds=>show((List.zipWith (eqN n) ds ds).all id&&ds.length == ds.length)=true;rw[ihl h];simp
  | scr _=>cases h
  | dct _ _ _ _=>cases h
  | _=>first | rfl | exact i5 rfl | exact u1C _
theorem zit {F:Hp}(n:Nat){d e:D}{v:V}(h1:okE n d=true)(h2:okE n e=true)(a1:At F d v)(a2:At F e v):eqN n d e=true:=by
 rw[zic n h1 h2 a1 a2]
 exact zc9 n h2
omit [KK] in
theorem wz {n:Nat}{ds:List D}{j:Nat}(h:ds.all (okE n)=true)(hj:j < ds.length):okE n (ds.getD j .non)=true:=by
 have:ds.getD j .non=ds[j]:=by simp[hj]
 rw[this]
 exact u0o.mp h _ (u1W hj)
theorem AtL.nth {F:Hp}{ds:List D}{xs:List V}{us:List Value}{j:Nat}(al:AtL F ds xs)(r:yf xs us)(h:j < us.length):∃ x,At F (ds.getD j .non) x/\xk x us[j]:=by
 have hl:=al.length
 have hl2:=r.length
 have hj:j < ds.length:=by omega
 obtain⟨x,hx,ax⟩:=al.get (i:=j) (d:=ds[j]) (by simp[hj])
 obtain⟨u,hu,ru⟩:=r.get hx
 refine⟨x,by rw[show ds.getD j .non=ds[j] by simp[hj]];exact ax,?_⟩
 have:us[j]?=some us[j]:=by simp[h]
 rw[hu]at this
 cases this
 exact ru
omit [KK] in
theorem zda {n:Nat}{d e:D}(h1:okE 0 d=true)(h2:okE 0 e=true):eqN n d e=eqV (vOf d) (vOf e):=by
 cases n <;> cases d <;> first | (cases h1;done) | skip
 all_goals cases e <;> first | (cases h2;done) | rfl
omit [KK] in
theorem zdq {n:Nat}{d:D}(ds:List D)(h:okE 0 d=true):eqN (n+1) d (.tup ds)=false/\eqN (n+1) d (.lst ds)=false/\eqN (n+1) (.tup ds) d=false/\eqN (n+1) (.lst ds) d=false:=by
 cases d <;> first | exact⟨rfl,rfl,rfl,rfl⟩ | cases h
omit [KK] in
theorem VZ {A:Around}{s:Shared}{d:D}{u:Value}{p:Addr}{its:Array Value}(h:okE 0 d=true)(r:xk (vOf d) u)(hu:A.units < cLine) :
 (s.heap.IsTuple p its->SeqAt.EqAt A s u (.ref p) false/\SeqAt.EqAt A s (.ref p) u false)/\(s.heap.IsList p its->SeqAt.EqAt A s u (.ref p) false/\SeqAt.EqAt A s (.ref p) u false):=by
 cases d with
 | non=>cases r;exact⟨λht=>⟨.none_tuple ht hu,.tuple_none ht hu⟩,λht=>⟨.none_list ht hu,.list_none ht hu⟩⟩
 | bl b=>cases r;exact⟨λht=>⟨.bool_tuple b ht hu,.tuple_bool b ht hu⟩,λht=>⟨.bool_list b ht hu,.list_bool b ht hu⟩⟩
 | int b=>obtain⟨t,rfl⟩:=r;exact⟨λht=>⟨.int_tuple b t ht hu,.tuple_int b t ht hu⟩,λht=>⟨.int_list b t ht hu,.list_int b t ht hu⟩⟩
 | str b=>obtain⟨t,rfl⟩:=r;exact⟨λht=>⟨.str_tuple b t ht hu,.tuple_str b t ht hu⟩,λht=>⟨.str_list b t ht hu,.list_str b t ht hu⟩⟩
 | _=>cases h
theorem VU {X:Cx}{pins:List (Addr × Obj)}{σ:St}{F H:Hp}{s:Shared}(I:Inv X pins σ H s)(sm:yz F H){ds:List D}{x:V}{u:Value}(a:At F (.tup ds) x)(r:xk x u):∃ p its xs,u=.ref p/\x=.ref p/\yf xs its/\AtL F ds xs/\s.heap.IsTuple p its.toArray:=by
 obtain⟨p,xs,rfl,hx,al⟩:=a.tup_inv
 cases r
 obtain⟨its,rv,ht,hz⟩:=I.tuple (SqT.of (sm _ _ hx))
 exact⟨p,its,xs,rfl,rfl,rv,al,ht⟩
theorem V5 {X:Cx}{pins:List (Addr × Obj)}{σ:St}{F H:Hp}{s:Shared}(I:Inv X pins σ H s)(sm:yz F H){ds:List D}{x:V}{u:Value}(a:At F (.lst ds) x)(r:xk x u):∃ p its xs,u=.ref p/\x=.ref p/\yf xs its/\AtL F ds xs/\s.heap.IsList p its.toArray:=by
 obtain⟨p,xs,rfl,hx,al⟩:=a.lst_inv
 cases r
 obtain⟨its,rv,ht,hz⟩:=I.list (SqL.of (sm _ _ hx))
 exact⟨p,its,xs,rfl,rfl,rv,al,ht.isList⟩
omit [KK] in
theorem zfs {n:Nat}(ds es:List D):((List.zipWith (eqN n) ds es).all id&&ds.length == es.length)=((List.range (min ds.length es.length)).all (λj=>eqN n (ds.getD j .non) (es.getD j .non))&&ds.length == es.length):=by rw[zav]
theorem zcQ {X:Cx}{pins:List (Addr × Obj)}{σ:St}{F H:Hp}{s:Shared}(I:Inv X pins σ H s)(sm:yz F H):∀ (n:Nat) {A:Around} {d e:D} {x y:V} {u v:Value},okE n d=true->okE n e=true->At F d x->At F e y->xk x u->xk y v->A.units+n < cLine->SeqAt.EqAt A s u v (eqN n d e):=by
 intro n
 induction n with
 | zero =>
  intro A d e x y u v h1 h2 a1 a2 r1 r2 hu
  cases xS h1 a1
  cases xS h2 a2
  rw[zda h1 h2]
  exact zin r1 r2 (X2 h1) (X2 h2)
 | succ n ih =>
  intro A d e x y u v h1 h2 a1 a2 r1 r2 hu
  have hu0:A.units < cLine:=u0f (i7 _ _) hu
  have hu1:A.units+1+n < cLine:=by rw[Nat.add_assoc,Nat.add_comm 1 n];exact hu
  rcases xK h1 with f1 | ⟨ds,rfl,k1⟩ | ⟨ds,rfl,k1⟩
  .cases xS f1 a1
   rcases xK h2 with f2 | ⟨es,rfl,k2⟩ | ⟨es,rfl,k2⟩
   .cases xS f2 a2
    rw[zda f1 f2]
    exact zin r1 r2 (X2 f1) (X2 f2)
   .obtain⟨q,its2,ys,rfl,_,_,_,ht2⟩:=VU I sm a2 r2
    rw[(zdq es f1).1]
    exact((VZ f1 r1 hu0).1 ht2).1
   .obtain⟨q,its2,ys,rfl,_,_,_,ht2⟩:=V5 I sm a2 r2
    rw[(zdq es f1).2.1]
    exact((VZ f1 r1 hu0).2 ht2).1
  .obtain⟨p,its,xs,rfl,hxp,rv,al,ht⟩:=VU I sm a1 r1
   rcases xK h2 with f2 | ⟨es,rfl,k2⟩ | ⟨es,rfl,k2⟩
   .cases xS f2 a2
    rw[(zdq ds f2).2.2.1]
    exact((VZ f2 r2 hu0).1 ht).2
   .obtain⟨q,its2,ys,rfl,hyq,rv2,bl,ht2⟩:=VU I sm a2 r2
    by_cases hpq:p=q
    .subst hpq
     rw[hxp]at a1
     rw[hyq]at a2
     rw[zit (n+1) h1 h2 a1 a2]
     exact .same _
    .have hl1:its.toArray.size=ds.length:=by rw[t9,<- rv.length,al.length]
     have hl2:its2.toArray.size=es.length:=by rw[t9,<- rv2.length,bl.length]
     have:=SeqAt.RcAt.tuples (A:=A) (e:=λj=>eqN n (ds.getD j .non) (es.getD j .non)) ht ht2 hu0 λj g1 g2=>by
      obtain⟨x',ax,rx⟩:=al.nth rv (j:=j) g1
      obtain⟨y',ay,ry⟩:=bl.nth rv2 (j:=j) g2
      exact ih (wz k1 (hl1 ▸ g1)) (wz k2 (hl2 ▸ g2)) ax ay rx ry hu1
     rw[hl1,hl2]at this
     rw[show eqN (n+1) (.tup ds) (.tup es)=_ from zfs ds es]
     exact u2G hpq this
   .obtain⟨q,its2,ys,rfl,_,_,_,ht2⟩:=V5 I sm a2 r2
    exact .tuple_list ht ht2 hu0
  .obtain⟨p,its,xs,rfl,hxp,rv,al,ht⟩:=V5 I sm a1 r1
   rcases xK h2 with f2 | ⟨es,rfl,k2⟩ | ⟨es,rfl,k2⟩
   .cases xS f2 a2
    rw[(zdq ds f2).2.2.2]
    exact((VZ f2 r2 hu0).2 ht).2
   .obtain⟨q,its2,ys,rfl,_,_,_,ht2⟩:=VU I sm a2 r2
    exact .list_tuple ht ht2 hu0
   .obtain⟨q,its2,ys,rfl,hyq,rv2,bl,ht2⟩:=V5 I sm a2 r2
    by_cases hpq:p=q
    .subst hpq
     rw[hxp]at a1
     rw[hyq]at a2
     rw[zit (n+1) h1 h2 a1 a2]
     exact .same _
    .have hl1:its.toArray.size=ds.length:=by rw[t9,<- rv.length,al.length]
     have hl2:its2.toArray.size=es.length:=by rw[t9,<- rv2.length,bl.length]
     rw[show eqN (n+1) (.lst ds) (.lst es)=_ from zfs ds es]
     by_cases hle:ds.length=es.length
     .have:=SeqAt.RcAt.lists (A:=A) (e:=λj=>eqN n (ds.getD j .non) (es.getD j .non)) ht ht2 (by rw[hl1,hl2,hle]) hu0 λj g1 g2=>by
       obtain⟨x',ax,rx⟩:=al.nth rv (j:=j) g1
       obtain⟨y',ay,ry⟩:=bl.nth rv2 (j:=j) g2
       exact ih (wz k1 (hl1 ▸ g1)) (wz k2 (hl2 ▸ g2)) ax ay rx ry hu1
      rw[hl1]at this
      rw[<-hle,u2v,u1C,u3P]
      exact u2G hpq this
     .have:=SeqAt.RcAt.lists_lengths (A:=A) ht ht2 (by rw[hl1,hl2];exact bne_iff_ne.mpr hle) hu0
      rw[u1U.mpr hle,u2V]
      exact u2G hpq this
def zj4 (d:D)(es:List D):Option Bool:=if okE 20 d=true/\es.all (okE 20)=true then some (es.any λe=>eqN 20 e d)else none
def inD (d e:D):Option D:=(y6 e).bind λes=>(zj4 d es).map .bl
open Classical in
noncomputable def zgF (F:Hp)(d:D)(u:Value):Bool:=decide (∃ d0 x,At F d0 x/\xk x u/\okE 20 d0=true/\eqN 20 d0 d=true)
open Classical in
theorem zfP {F:Hp}{d d0:D}{x:V}{u:Value}(a:At F d0 x)(r:xk x u)(k:okE 20 d0=true):zgF F d u=eqN 20 d0 d:=by
 unfold zgF
 cases h:eqN 20 d0 d with
 | true=>exact i5 ⟨d0,x,a,r,k,h⟩
 | false =>
  refine h9 ?_
  rintro⟨d1,y,a1,r1,k1,h1⟩
  have e:=r1.inj r
  subst e
  rw[zic 20 k1 k a1 a]at h1
  rw[h1]at h
  cases h
theorem zae {F:Hp}{d:D}:∀ {ds:List D} {xs:List V} {us:List Value},AtL F ds xs->yf xs us->ds.all (okE 20)=true->us.any (zgF F d)=ds.any λe=>eqN 20 e d
 | [],_,_,al,r,_=>by cases al.nil_inv;cases r;rfl
 | e::ds,_,_,al,r,k=>by
  obtain⟨x,xs,rfl,a1,a2⟩:=al.cons_inv
  cases r with
  | cons r1 r2 =>
   rw[u3Q,u0n]at k
   rw[List.any_cons,List.any_cons,zfP a1 r1 k.1,zae a2 r2 k.2]
section
variable {X:Cx}
def rInD (neg:Bool):R2:=λx y H Q=>∃ F d e es b,yz F H/\At F d x/\At F e y/\y6 e=some es/\zj4 d es=some b/\Q (.bl (if neg then !b else b)) H
theorem zio {k:Nat}(hr:wC k X.A):OpR X (compareOp .In) (rInD false):=by
 intro pins s σ H x y v u Q I rx ry h
 obtain⟨F,d,e,es,b,sm,a1,a2,hs,hb,q⟩:=h
 unfold zj4 at hb
 split at hb <;> cases hb
 rename_i hk
 have hu:X.A.in1.units+20 < cLine:=by have:=hr.un;show X.A.units+1+20 < cLine;omega
 have mem:∀ {xs:List V} {us:List Value},AtL F es xs->yf xs us->∀ z∈us,SeqAt.EqAt X.A.in1 s z v (zgF F d z):=λ{xs us} al r z hz=>by
  obtain⟨j,hj,rfl⟩:=u0i hz
  obtain⟨x',ax,rx'⟩:=al.nth r hj
  have hj':j < es.length:=by have:=al.length;have:=r.length;omega
  have k2:=wz hk.2 hj'
  rw[zfP ax rx' k2]
  exact zcQ I sm 20 k2 hk.1 ax a1 rx' rx hu
 cases e <;> cases hs
 .obtain⟨p,xs,rfl,hx,al⟩:=a2.tup_inv
  cases ry
  obtain⟨its,r,pl,hz⟩:=I.tuple (SqT.of (sm _ _ hx))
  refine SeqAt.in_tupleAt (zgF F d) pl (λz hz=>mem al r z (by simpa using hz)) ⟨.bl _,H,I,rfl,?_⟩
  rw[show its.toArray.any (zgF F d)=its.any (zgF F d) by simp,zae al r hk.2]
  exact q
 .obtain⟨p,xs,rfl,hx,al⟩:=a2.lst_inv
  cases ry
  obtain⟨its,r,pl,hz⟩:=I.list (SqL.of (sm _ _ hx))
  refine SeqAt.in_listAt (zgF F d) pl.isList (λz hz=>mem al r z (by simpa using hz)) ⟨.bl _,H,I,rfl,?_⟩
  rw[show its.toArray.any (zgF F d)=its.any (zgF F d) by simp,zae al r hk.2]
  exact q
theorem zie:OpD (rInD false) inD:=by
 intro F H x y d e z Q s ax ay ez q
 obtain⟨es,e1,e2⟩:=u3.mp ez
 obtain⟨b,e3,rfl⟩:=t7.mp e2
 exact⟨F,d,e,es,b,s,ax,ay,e1,e3,q F H _ (.refl s) .bl⟩
def eqG (d e:D):Option Bool:=match d,e with
 | .tup _,.tup _=>if okE 20 d=true/\okE 20 e=true then some (eqN 20 d e)else none
 | .lst _,.lst _=>if okE 20 d=true/\okE 20 e=true then some (eqN 20 d e)else none
 | _,_=>eqS d e
def zaH (d e:D):Option D:=(eqG d e).map .bl
def zlF:R2:=λx y H Q=>∃ F d e,yz F H/\At F d x/\At F e y/\((∃ ds es,d=.tup ds/\e=.tup es)\/(∃ ds es,d=.lst ds/\e=.lst es))/\okE 20 d=true/\okE 20 e=true/\Q (.bl (eqN 20 d e)) H
theorem zks {k:Nat}(hr:wC k X.A):OpR X (compareOp .Eq) zlF:=by
 intro pins s σ H x y v u Q I rx ry h
 obtain⟨F,d,e,sm,a1,a2,hk,k1,k2,q⟩:=h
 have hu:X.A.units+30 < cLine:=by have:=hr.un;omega
 rcases hk with ⟨ds,es,rfl,rfl⟩ | ⟨ds,es,rfl,rfl⟩
 .obtain⟨p,xs,rfl,hx,al⟩:=a1.tup_inv
  obtain⟨p2,ys,rfl,hy,bl⟩:=a2.tup_inv
  cases rx
  cases ry
  obtain⟨its,r,ht,hz⟩:=I.tuple (SqT.of (sm _ _ hx))
  obtain⟨its2,r2,ht2,hz2⟩:=I.tuple (SqT.of (sm _ _ hy))
  have hl1:its.toArray.size=ds.length:=by rw[t9,<- r.length,al.length]
  have hl2:its2.toArray.size=es.length:=by rw[t9,<- r2.length,bl.length]
  refine SeqAt.eq_tupleAt (e:=λj=>eqN 19 (ds.getD j .non) (es.getD j .non)) (show s.heap.IsTuple p its.toArray from ht) (show s.heap.IsTuple p2 its2.toArray from ht2) (by omega) (λj g1 g2=>?_) ⟨.bl _,H,I,rfl,?_⟩
  .obtain⟨x',ax,rx⟩:=al.nth r (j:=j) (by simpa using g1)
   obtain⟨y',ay,ry⟩:=bl.nth r2 (j:=j) (by simpa using g2)
   exact zcQ I sm 19 (wz k1 (by rw[<-hl1];exact g1)) (wz k2 (by rw[<-hl2];exact g2)) ax ay (by simpa using rx) (by simpa using ry) (u0f (show X.A.units+20<=X.A.units+30 from u3s (by decide) _) hu)
  .rw[hl1,hl2,<- zav]
   exact q
 .obtain⟨p,xs,rfl,hx,al⟩:=a1.lst_inv
  obtain⟨p2,ys,rfl,hy,bl⟩:=a2.lst_inv
  cases rx
  cases ry
  obtain⟨its,r,ht,hz⟩:=I.list (SqL.of (sm _ _ hx))
  obtain⟨its2,r2,ht2,hz2⟩:=I.list (SqL.of (sm _ _ hy))
  have hl1:its.toArray.size=ds.length:=by rw[t9,<- r.length,al.length]
  have hl2:its2.toArray.size=es.length:=by rw[t9,<- r2.length,bl.length]
  have e1:eqN 20 (.lst ds) (.lst es)=((List.range (min ds.length es.length)).all (λj=>eqN 19 (ds.getD j .non) (es.getD j .non))&&ds.length == es.length):=by
   show((List.zipWith (eqN 19) ds es).all id&&ds.length == es.length)=_
   rw[zav]
  by_cases hle:ds.length=es.length
  .refine SeqAt.eq_listAt (e:=λj=>eqN 19 (ds.getD j .non) (es.getD j .non)) ht.isList ht2.isList (by rw[hl1,hl2];exact hle) (u0f (i7 _ 30) hu) (λj g1 g2=>?_) ⟨.bl _,H,I,rfl,?_⟩
   .obtain⟨x',ax,rx⟩:=al.nth r (j:=j) (by simpa using g1)
    obtain⟨y',ay,ry⟩:=bl.nth r2 (j:=j) (by simpa using g2)
    exact zcQ I sm 19 (wz k1 (by rw[<-hl1];exact g1)) (wz k2 (by rw[<-hl2];exact g2)) ax ay (by simpa using rx) (by simpa using ry) (u0f (show X.A.units+20<=X.A.units+30 from u3s (by decide) _) hu)
   .rw[hl1]
    rw[e1,<- hle,u2v]at q
    simpa using q
  .refine SeqAt.eq_list_lengthsAt ht.isList ht2.isList (by rw[hl1,hl2];simpa using hle) (u0f (i7 _ 30) hu) ⟨.bl _,H,I,rfl,?_⟩
   have:(ds.length == es.length)=false:=by simpa using hle
   rw[e1,this,u2V]at q
   exact q
theorem zjv:OpD zlF (λd e=>match d,e with
 | .tup _,.tup _=>if okE 20 d=true/\okE 20 e=true then some (.bl (eqN 20 d e))else none
 | .lst _,.lst _=>if okE 20 d=true/\okE 20 e=true then some (.bl (eqN 20 d e))else none
 | _,_=>none):=by
 intro F H x y d e z Q s ax ay ez q
 dsimp only at ez
 split at ez
 .split at ez <;> cases ez
  rename_i hk
  exact⟨F,_,_,s,ax,ay,.inl ⟨_,_,rfl,rfl⟩,hk.1,hk.2,q F H _ (.refl s) .bl⟩
 .split at ez <;> cases ez
  rename_i hk
  exact⟨F,_,_,s,ax,ay,.inr ⟨_,_,rfl,rfl⟩,hk.1,hk.2,q F H _ (.refl s) .bl⟩
 .cases ez
theorem Z8 {k:Nat}(hr:wC k X.A):OpR X (compareOp .Eq) (λx y H Q=>rEq x y H Q\/zlF x y H Q):=zmr.or (zks hr)
theorem vK:OpD (λx y H Q=>rEq x y H Q\/zlF x y H Q) zaH:=by
 refine zcA (zaP ziy zjv) λd e z h=>?_
 obtain⟨b,hb,rfl⟩:=t7.mp h
 unfold eqG at hb
 split at hb
 .split at hb <;> cases hb
  rename_i hk
  show(Option.or none (if okE 20 _=true/\okE 20 _=true then some (D.bl (eqN 20 _ _))else none))=_
  rw[j3 hk]
  rfl
 .split at hb <;> cases hb
  rename_i hk
  show(Option.or none (if okE 20 _=true/\okE 20 _=true then some (D.bl (eqN 20 _ _))else none))=_
  rw[j3 hk]
  rfl
 .show((eqD d e).or _)=_
  unfold eqD
  rw[hb]
  rfl
theorem seq_walk {pins:List (Addr × Obj)}{σ:St}{H:Hp}{s:Shared}{a:Addr}{xs:List V}{A:Around}{Q:Value->Shared->Prop}{E:Value->Shared->Prop}(I:Inv X pins σ H s)(hh:A.handled=none)(h:SqL X.K H a xs\/SqT X.K H a xs)
 (k:∀ (it:Addr) (its:List Value) (fp wr:List Addr) (St:Nat->Heap->Prop) (s₂:Shared),yf xs its->Walks X.prog X.w A it fp wr its.length (λi v=>its[i]?=some v) St->St 0 s₂.heap->(∀ b∈fp,b < s₂.heap.objs.size) ->
  (∀ (h':Heap) (tk:Nat),(∀ b o,b∉wr->s₂.heap.get? b=some o->h'.get? b=some o)->Inv X pins σ H { s₂ with heap:=h',toks:=tk })->Q (.ref it) s₂) :
 wpAny (model X.prog X.w) A (pyIter (.ref a)) Q E s:=by
 have back:∀ {o:Obj} {s₂:Shared},s₂={ s with heap:=s.heap.push o }->∀ (h':Heap) (tk:Nat),(∀ b u,b∉[s.heap.objs.size]->s₂.heap.get? b=some u->h'.get? b=some u)->Inv X pins σ H { s₂ with heap:=h',toks:=tk }:=λ{o s₂} e h' tk kk=>by
  subst e
  exact I.kept (t':=tk) λb u z=>kk b u (by simpa using p5 (j9 z)) (u4 _ z)
 rcases h with h | h
 .obtain⟨its,rv,p,hz⟩:=I.list h
  have lt:a < s.heap.objs.size:=by obtain⟨o,n,ho,_⟩:=p;exact j9 ho
  refine u1R p.isList ?_
  have W:=Walks.list (prog:=X.prog) (w:=X.w) (A:=A) hh s.heap.objs.size a (p5 lt) its.toArray
  refine k s.heap.objs.size its [s.heap.objs.size,a] [s.heap.objs.size] (λi h=>h.IsListIter s.heap.objs.size a i/\h.IsList a its.toArray) _ rv (by simpa using W) ⟨⟨_,r8 _ rfl,rfl,rfl⟩,p.isList.at λo e=>u4 _ e⟩ (λb hb=>?_) (back rfl)
  show b < (s.heap.push _).objs.size
  rw[u1v]
  rcases j5.mp hb with rfl | hb
  .exact u3W _
  .rw[d4.mp hb];exact u1O lt
 .obtain⟨its,rv,p,hz⟩:=I.tuple h
  have p':s.heap.IsTuple a its.toArray:=p
  have lt:a < s.heap.objs.size:=by obtain⟨o,ho,_⟩:=p;exact j9 ho
  refine u0Z p' ?_
  have W:=Walks.tuple (prog:=X.prog) (w:=X.w) (A:=A) hh s.heap.objs.size a (p5 lt) its.toArray
  refine k s.heap.objs.size its [s.heap.objs.size,a] [s.heap.objs.size] (λi h=>h.IsTupleIter s.heap.objs.size a i/\h.IsTuple a its.toArray) _ rv (by simpa using W) ⟨⟨_,r8 _ rfl,rfl,rfl⟩,p'.at λo e=>u4 _ e⟩ (λb hb=>?_) (back rfl)
  show b < (s.heap.push _).objs.size
  rw[u1v]
  rcases j5.mp hb with rfl | hb
  .exact u3W _
  .rw[d4.mp hb];exact u1O lt
end
end Dl
namespace Dl
open PySem L2
variable [KK]
section
variable {X:Cx}
omit [KK] in
theorem vals_int {ns:List Int}{its:List Value}{i:Nat}{v:Value}(r:yf (ns.map V.int) its)(h:its[i]?=some v):∃ t,v=.int (ns.getD i 0) t:=by
 have hl:=r.length
 have hi:i < its.length:=(u8.mp h).1
 rw[u5]at hl
 obtain⟨u,hu,ru⟩:=r.get (i:=i) (x:=.int (ns[i]'(by omega))) (by rw[j7];simp[show i < ns.length by omega])
 rw[h]at hu
 cases hu
 obtain⟨t,rfl⟩:=ru
 exact⟨t,by simp[show i < ns.length by omega]⟩
def maxL (ns:List Int):Int:=(ns.max?).getD 0
omit [KK] in
theorem best_ge (f:Nat→Int):∀ k i,i≤k→f i≤f (argBest (fun i j=>decide (f j < f i)) k)∧argBest (fun i j=>decide (f j < f i)) k≤k:=by
  intro k
  induction k with
  | zero => intro i hi; have : i = 0 := by omega
            subst this;exact ⟨u2l _,q5 _⟩
  | succ k ih =>
    intro i hi
    unfold argBest
    obtain ⟨h1,h2⟩:=ih (min i k) (u2k _ _)
    split
    · rename_i hc
      have hc:f (argBest (fun i j=>decide (f j < f i)) k) < f (k+1):=s0 hc
      refine ⟨?_,q5 _⟩
      by_cases hik:i≤k
      · rw [u0N hik] at h1;omega
      · have:i=k+1:=by omega
        subst this;exact u2l _
    · rename_i hc
      have hc:¬ f (argBest (fun i j=>decide (f j < f i)) k) < f (k+1):=fun z=>hc (i5 z)
      refine ⟨?_,by omega⟩
      by_cases hik:i≤k
      · rw [u0N hik] at h1;exact h1
      · have:i=k+1:=by omega
        subst this;omega
omit [KK] in
theorem max_is {ns:List Int}{m:Int}(h1:m∈ns)(h2:∀ x∈ns,x<=m):maxL ns=m:=by
 unfold maxL
 rw[List.max?_eq_some_iff.mpr ⟨h1,h2⟩]
 rfl
omit [KK] in
theorem getD_mem {ns:List Int}{k:Nat}(h:k < ns.length):ns.getD k 0∈ns:=by
 rw[d9,u6 h]
 exact u1W h
omit [KK] in
theorem getD_at {ns:List Int}{k:Nat}(h:k < ns.length):ns.getD k 0=ns[k]:=by
 rw[d9,u6 h]
 rfl
def V8:List D->Option (List Int)
 | []=>some []
 | .int b::ds=>(V8 ds).map (b::·)
 | _=>none
omit [KK] in
theorem Zp:∀ {ds:List D} {bs:List Int},V8 ds=some bs->ds=bs.map .int
 | [],bs,h=>by cases h;rfl
 | d::ds,bs,h=>by
  cases d <;> try cases h
  obtain⟨cs,h1,rfl⟩:=t7.mp h
  rw[Zp h1]
  rfl
omit [KK] in
theorem ZN (bs:List Int):V8 (bs.map .int)=some bs:=by
 induction bs with
 | nil=>rfl
 | cons b r ih=>show(V8 (r.map .int)).map (b::·)=_;rw[ih];rfl
end
end Dl
namespace Dl
open PySem L2
variable [KK]
section
variable {X:Cx}{tg a b c e:Expr}{pos:Pos}
def VH:List D->List D->List D
 | x::xs,y::ys=>.tup [x,y]::VH xs ys
 | _,_=>[]
omit [KK] in
theorem VY:∀ (xs ys:List D) (i:Nat),(VH xs ys)[i]?=match xs[i]?,ys[i]? with | some x,some y=>some (.tup [x,y]) | _,_=>none
 | [],ys,i=>by simp[VH]
 | x::xs,[],i=>by simp[VH]
 | x::xs,y::ys,0=>by simp[VH]
 | x::xs,y::ys,i+1=>by simpa [VH]using VY xs ys i
omit [KK] in
theorem Wp:∀ (xs ys:List D),xs.length<=ys.length->(VH xs ys).length=xs.length
 | [],ys,_=>by simp[VH]
 | x::xs,[],h=>by simp at h
 | x::xs,y::ys,h=>by simp[VH,Wp xs ys (by simpa using h)]
def v8 (f:Ev->Option (List D)):Ev->Option (List D):=fun ρ=>(f ρ).bind λas=>match as with
 | [d,e]=>(y6 d).bind λxs=>(y6 e).bind λys=>if xs.length<=ys.length then some (VH xs ys)else none
 | _=>none
theorem zgV {K:W.Frag}{F H:Hp}{d:D}{v:V}{ds:List D}(s:yz F H)(h:At F d v)(e:y6 d=some ds):∃ b p xs,v=.ref p/\(∀ {F' H':Hp},yz F F'->yz F' H'->Sq b K H' p xs)/\AtL F ds xs:=by
 cases d <;> cases e
 .obtain⟨p,xs,rfl,hx,al⟩:=h.tup_inv
  exact⟨false,p,xs,rfl,λs1 s2=>SqT.of (s2 _ _ (s1 _ _ hx)),al⟩
 .obtain⟨p,xs,rfl,hx,al⟩:=h.lst_inv
  exact⟨true,p,xs,rfl,λs1 s2=>SqL.of (s2 _ _ (s1 _ _ hx)),al⟩
theorem zjZ {es:List Expr} {k:Nat} {tp p:Pos} {f:Ev->Option (List D)} (hg:Gl X "zip") (hm:X.mg "zip"=none) (ha:AD X [a,b] f)
 (hs:starEach [a,b] X.env=[(false,eval a X.env),(false,eval b X.env)]:=by rfl) (hs2:starEach [b] X.env=[(false,eval b X.env)]:=by rfl):ID X (.Tuple es k tp) (.Call (.Name "zip" p) [a,b] [] pos) (v8 f):=by
 obtain⟨t,pa,r⟩:=ha
 refine⟨_,zkP hg hm zif pa hs hs2,fun σ ρ F H ds R s va e q=>?_⟩
 obtain⟨as,e1,e2⟩:=u3.mp e
 refine r σ ρ F H as _ s va e1 λF1 H1 v g1 a1=>?_
 split at e2
 .obtain⟨x,r',rfl,ax,ar⟩:=a1.cons_inv
  obtain⟨y,r',rfl,ay,ar⟩:=ar.cons_inv
  cases ar.nil_inv
  obtain⟨xs,e3,e2'⟩:=u3.mp e2
  obtain⟨ys,e4,e2''⟩:=u3.mp e2'
  clear e2 e2' e
  split at e2'' <;> cases e2''
  rename_i hle
  obtain⟨b1,p1,us,rfl,sq1,al⟩:=zgV (K:=X.K) g1.fh ax e3
  obtain⟨b2,p2,ws,rfl,sq2,bl⟩:=zgV (K:=X.K) g1.fh ay e4
  refine⟨b1,b2,p1,p2,us,ws,rfl,sq1 (yz.refl _) g1.fh,sq2 (yz.refl _) g1.fh,q F1 H1 _ g1 λi F2 H2 s1 s2=>?_⟩
  have q1:=sq1 s1 s2
  have q2:=sq2 s1 s2
  refine⟨λhl=>⟨us,q1,by rw[hl,Wp _ _ hle,al.length]⟩,λd hd=>?_⟩
  rw[VY]at hd
  cases h1:xs[i]? with
  | none=>rw[h1]at hd;cases hd
  | some x =>
   cases h2:ys[i]? with
   | none=>rw[h1,h2]at hd;cases hd
   | some y =>
    rw[h1,h2]at hd
    cases hd
    obtain⟨u,hu,au⟩:=al.get h1
    obtain⟨u2,hu2,au2⟩:=bl.get h2
    refine⟨⟨us,ws,u,u2,q1,q2,hu,hu2⟩,λz H3 hz=>?_⟩
    obtain⟨T,x',y',rfl,hT,rfl,hx',hy'⟩:=hz
    have e5:=hx' us q1
    have e6:=hy' ws q2
    rw[hu]at e5
    rw[hu2]at e6
    cases e5
    cases e6
    have g3:=Gr.alloc s2 hT (.tup [u,u2])
    exact⟨_,g3,.tup zn (.cons (au.mono (s1.trans g3.ff)) (.cons (au2.mono (s1.trans g3.ff)) .nil))⟩
 .cases e2
def yO (g:List D->Option (List D))(f:Ev->Option (List D))(b:D->SE->Option SE)(h:SE->Ctl):SE->Ctl:=fun ρ=>match (f (visG ρ)).bind g with
 | some ds=>zez b h ds ρ
 | none=>.no
theorem xD {p pos':Pos} {body:List Stmt} {f:Ev->Option (List D)} {b':D->SE->Option SE} {g:SE->Ctl} (hp:PassesOwn (model X.prog X.w) X.A X.env X.xe) (hc:X.calm=true) (hgl:Gl X "range") (hm:X.mg "range"=none) (ha:AD X [a] f) (hg:BD X tg b') (hb:SDs X body g)
 (hs0:starEach [a] X.env=[(false,eval a X.env)]:=by rfl) (hs:∀ x,foldedSetIterable (.Call (.Name "range" p) [a] [] pos) X.env x=pure x:=by intro _;rfl):SD X (.For tg (.Call (.Name "range" p) [a] [] pos) body [] pos') (yO wB f b' g):=by
 obtain⟨t,pa,r⟩:=ha
 obtain⟨tg',pg,rg⟩:=hg
 obtain⟨tb,pb,rb⟩:=hb
 refine⟨_,zfu hp hc (zbH hgl hm pa hs0) pg pb hs,λFb Hb F H ρ σ E rl k=>?_⟩
 unfold yO at k
 cases h:(f (visG ρ)).bind wB with
 | none=>rw[h]at k;exact k.elim
 | some ds =>
  rw[h]at k
  obtain⟨as,e1,e2⟩:=u3.mp h
  refine r σ _ _ H as _ rl.gh rl.visG e1 λF1 H1 vs g1 a1=>?_
  have rl2:=rl.grow (rl.back g1).1
  unfold wB at e2
  split at e2
  .split at e2 <;> cases e2
   rename_i hc
   obtain⟨x,r',rfl,ax,ar⟩:=a1.cons_inv
   cases ar.nil_inv
   exact⟨_,by rw[ax.int_inv],(yK.mp hc).1,(yK.mp hc).2,zep (ze4 0 _) rg rb rl2 k⟩
  .cases e2
theorem zhH {p pos':Pos} {body:List Stmt} {f:Ev->Option (List D)} {b':D->SE->Option SE} {g:SE->Ctl} (hp:PassesOwn (model X.prog X.w) X.A X.env X.xe) (hc:X.calm=true) (hgl:Gl X "range") (hm:X.mg "range"=none) (ha:AD X [a,b] f) (hg:BD X tg b') (hb:SDs X body g)
 (hs0:starEach [a,b] X.env=[(false,eval a X.env),(false,eval b X.env)]:=by rfl) (hs2:starEach [b] X.env=[(false,eval b X.env)]:=by rfl) (hs:∀ x,foldedSetIterable (.Call (.Name "range" p) [a,b] [] pos) X.env x=pure x:=by intro _;rfl):SD X (.For tg (.Call (.Name "range" p) [a,b] [] pos) body [] pos') (yO W2 f b' g):=by
 obtain⟨t,pa,r⟩:=ha
 obtain⟨tg',pg,rg⟩:=hg
 obtain⟨tb,pb,rb⟩:=hb
 refine⟨_,zfu hp hc (zeF hgl hm pa hs0 hs2) pg pb hs,λFb Hb F H ρ σ E rl k=>?_⟩
 unfold yO at k
 cases h:(f (visG ρ)).bind W2 with
 | none=>rw[h]at k;exact k.elim
 | some ds =>
  rw[h]at k
  obtain⟨as,e1,e2⟩:=u3.mp h
  refine r σ _ _ H as _ rl.gh rl.visG e1 λF1 H1 vs g1 a1=>?_
  have rl2:=rl.grow (rl.back g1).1
  unfold W2 at e2
  split at e2
  .split at e2 <;> cases e2
   rename_i hc
   obtain⟨x,r',rfl,ax,ar⟩:=a1.cons_inv
   obtain⟨y,r',rfl,ay,ar⟩:=ar.cons_inv
   cases ar.nil_inv
   exact⟨_,_,by rw[ax.int_inv,ay.int_inv],⟨(yK.mp hc.1).1,(yK.mp hc.1).2,(yK.mp hc.2).1,(yK.mp hc.2).2⟩,zep (ze4 _ _) rg rb rl2 k⟩
  .cases e2
end
theorem ziA {P:Program}{w:World}{K:W.Frag}{mg:Str->Option Value}{base:Heap}{f:Addr}{fd:FuncData}{ps:List Str}{k m:Nat}:yW P w K mg base CX0 k f fd ps (spD m λ_=>none):=by
 refine⟨λvs H Q E h=>?_,λA outer s H args us vs Q E _ _ _ _ h=>?_⟩
 .obtain⟨_,_,_,_,_,_,e,_⟩:=h
  cases e
 .obtain⟨_,_,_,_,_,_,e,_⟩:=h
  cases e
def zj1 (n:Nat)(g:(List D->Option D)->SE->Ctl):Nat->List D->Option D
 | 0=>λ_=>none
 | k+1=>fnD n (g (zj1 n g k))
theorem zkR {P:Program}{w:World}{K:W.Frag}{mg:Str->Option Value}{base:Heap}{x qual:Str}{st:Stmt}{f:Addr}{fd:FuncData}{N ps:List Str}{k0:Nat}{g:(List D->Option D)->SE->Ctl}(Fu:Fun K x qual st f fd)(S:zw N ps (zh st))
 (hb:∀ (k:Nat) (r:List D->Option D),yW P w K mg base CX0 (k0+k) f fd ps (spD ps.length r)->∀ (cdv:Value) (A:Around) (outer:List Env) (s:Shared) (H:Hp) (E:XK),wC (k0+k) (A.deeper (PyProof.Rows.envOfC qual (zh st) s.heap.objs.size f cdv))->SDs (zec CX0 P w K mg base N qual (zh st) f cdv A outer s H E).nox (xf st) (g r)) :
 ∀ n,yW P w K mg base CX0 (k0+n) f fd ps (spD ps.length (zj1 N.length g n)):=by
 intro n
 induction n with
 | zero=>exact ziA
 | succ n ih=>exact xw Fu S λcdv A outer s H E hr=>hb n _ ih cdv A outer s H E hr
def ze3 (K:W.Frag):Sp:=λvs H Q _=>∃ (a:Addr) (ns:List Int),vs=[.ref a]/\SqL K H a (ns.map V.int)/\ns.length<=63/\∀ H',Q (.bl true) H'
end Dl
namespace Dl
open PySem L2
theorem zkZ {P:Program}{w:World}{K:W.Frag}{mg:Str->Option Value}{base:Heap}{f:Addr}{fd:FuncData}{ps:List Str}{k:Nat}{p:List D->Option D}(F:yW P w K mg base CX0 k f fd ps (@spD ⟨K⟩ 1 p))(h:∀ ns:List Int,ns.length<=63->p [.scr ns]=some (.bl true)) :
 yW P w K mg base CX0 k f fd ps (ze3 K):=by
 letI:KK:=⟨K⟩
 refine F.imp λvs H Q E hs=>?_
 obtain⟨a,ns,rfl,hq,hl,q⟩:=hs
 refine⟨[.scr ns],.bl true,H,rfl,yz.refl _,.cons ?_ .nil,h ns hl,λF' H' v _ av=>?_⟩
 .unfold At
  exact⟨a,rfl,hq⟩
 .rw[av.bl_inv]
  exact q H'
structure Def (K:W.Frag) (mg:Str->Option Value) (x:Str) (st:Stmt) (ps:List Str) (f:Addr) (fd:FuncData):Prop where
 fn:Fun K x x st f fd
 bd:zbk K fd ps []
 at_:mg x=some (.ref f)
theorem Def.kp {K:W.Frag}{mg:Str->Option Value}{x:Str}{st:Stmt}{ps:List Str}{f:Addr}{fd:FuncData}(d:Def K mg x st ps f fd):W.keepIn K (.ref f)=true:=d.fn.kp
inductive Ctl.w:Ctl->(SE->Prop)->(SE->Prop)->(SE->Prop)->(D->Prop)->Prop where
 | nx {ρ:SE} {n b k:SE->Prop} {r:D->Prop}:n ρ->Ctl.w (.nx ρ) n b k r
 | bk {ρ:SE} {n b k:SE->Prop} {r:D->Prop}:b ρ->Ctl.w (.bk ρ) n b k r
 | ct {ρ:SE} {n b k:SE->Prop} {r:D->Prop}:k ρ->Ctl.w (.ct ρ) n b k r
 | rt {d:D} {n b k:SE->Prop} {r:D->Prop}:r d->Ctl.w (.rt d) n b k r
section
variable {ρ:SE}{d:D}{n b k:SE->Prop}{r:D->Prop}
theorem Ctl.w.nxi (h:Ctl.w (.nx ρ) n b k r):n ρ:=by cases h;assumption
theorem Ctl.w.bki (h:Ctl.w (.bk ρ) n b k r):b ρ:=by cases h;assumption
theorem Ctl.w.cti (h:Ctl.w (.ct ρ) n b k r):k ρ:=by cases h;assumption
theorem Ctl.w.rti (h:Ctl.w (.rt d) n b k r):r d:=by cases h;assumption
theorem Ctl.w.noi (h:Ctl.w .no n b k r):False:=by cases h
end
abbrev noP:SE->Prop:=λ_=>False
section
variable {g h:SE->Ctl}{ρ ρ':SE}{n b k:SE->Prop}{r:D->Prop}
theorem y9 (e:(g ρ).w (fun ρ'=>(h ρ').w n b k r) b k r):(zS g h ρ).w n b k r:=by
 unfold zS
 cases hg:g ρ with
 | nx ρ'=>rw[hg]at e;exact e.nxi
 | bk ρ'=>rw[hg]at e;exact .bk e.bki
 | ct ρ'=>rw[hg]at e;exact .ct e.cti
 | rt d=>rw[hg]at e;exact .rt e.rti
 | no=>rw[hg]at e;exact e.noi.elim
theorem zA (e:g ρ=.nx ρ')(q:(h ρ').w n b k r):(zS g h ρ).w n b k r:=y9 (by rw[e];exact .nx q)
theorem Yc (e:g ρ=.nx ρ')(q:n ρ'):(g ρ).w n b k r:=by rw[e];exact .nx q
theorem XD {d:D}(e:g ρ=.rt d)(q:r d):(g ρ).w n b k r:=by rw[e];exact .rt q
theorem Vh {t:Ev->Option Bool}{c:Bool}(e:t (visG ρ)=some c)(h1:c=true->(g ρ).w n b k r)(h2:c=false->(h ρ).w n b k r):(sIf t g h ρ).w n b k r:=by
 unfold sIf
 rw[e]
 cases c with
 | true=>exact h1 rfl
 | false=>exact h2 rfl
theorem zed {i:Nat}(e:zlV ρ i=ρ')(q:(g ρ').w n b k r):(sFz i g ρ).w n b k r:=by
 unfold sFz
 rw[e]
 exact q
theorem zeV {bd:D->SE->Option SE}(I:Nat->SE->Prop):∀ (ds:List D) (j:Nat) (ρ:SE),I j ρ ->
 (∀ i d ρ,ds[i]?=some d->I (j+i) ρ->∃ ρ1,bd d ρ=some ρ1/\(g ρ1).w (I (j+i+1)) n (I (j+i+1)) r)->(∀ ρ,I (j+ds.length) ρ->n ρ)->(zez bd g ds ρ).w n b k r
 | [],j,ρ,h0,_,fin=>.nx (fin ρ h0)
 | d::ds,j,ρ,h0,step,fin=>by
  obtain⟨ρ1,e1,e2⟩:=step 0 d ρ rfl h0
  unfold zez
  rw[e1]
  dsimp only
  have next:∀ ρ',I (j+1) ρ'->(zez bd g ds ρ').w n b k r:=fun ρ' h'=>zeV I ds (j+1) ρ' h'
   (λi d' ρ hd hI=>by
    have:=step (i+1) d' ρ (by simpa using hd) (by rw[show j+(i+1)=j+1+i by omega];exact hI)
    rwa[show j+(i+1)+1=j+1+i+1 by omega]at this)
   (fun ρ hI=>fin ρ (by rw[p9,show j+(ds.length+1)=j+1+ds.length by omega];exact hI))
  cases hg:g ρ1 with
  | nx ρ'=>rw[hg]at e2;exact next ρ' e2.nxi
  | ct ρ'=>rw[hg]at e2;exact next ρ' e2.cti
  | bk ρ'=>rw[hg]at e2;exact .nx e2.bki
  | rt d'=>rw[hg]at e2;exact .rt e2.rti
  | no=>rw[hg]at e2;exact e2.noi.elim
theorem WS {f:Ev->Option (List D)}{bd:D->SE->Option SE}{ds:List D}(I:Nat->SE->Prop)(e:f (visF ρ)=some ds)(h0:I 0 ρ)
 (step:∀ i d ρ,ds[i]?=some d->I i ρ->∃ ρ1,bd d ρ=some ρ1/\(g ρ1).w (I (i+1)) n (I (i+1)) r) (fin:∀ ρ,I ds.length ρ->n ρ):(ZB f bd g ρ).w n b k r:=by
 unfold ZB
 rw[e]
 exact zeV I ds 0 ρ h0 (λi d ρ hd hI=>by rw[u1n]at hI ⊢;exact step i d ρ hd hI) (fun ρ hI=>fin ρ (by rw[u1n]at hI;exact hI))
theorem YK {f:Ev->Option (List D)}{bd:D->SE->Option SE}{rg:List D->Option (List D)}{lo:Int}{c:Nat}(I:Nat->SE->Prop)(e:(f (visG ρ)).bind rg=some (XX lo c))(h0:I 0 ρ)
 (step:∀ (i:Nat) ρ,i < c->I i ρ->∃ ρ1,bd (.int (lo+i)) ρ=some ρ1/\(g ρ1).w (I (i+1)) n (I (i+1)) r) (fin:∀ ρ,I c ρ->n ρ):(yO rg f bd g ρ).w n b k r:=by
 unfold yO
 rw[e]
 refine zeV I (XX lo c) 0 ρ h0 (λi d ρ hd hI=>?_) (fun ρ hI=>fin ρ ?_)
 .rw[u1n]at hI ⊢
  unfold XX at hd
  rw[j7]at hd
  by_cases hi:i < c
  .rw[u1i hi]at hd
   cases hd
   exact step i ρ hi hI
  .rw[u1a (by simpa using hi)]at hd
   cases hd
 .rw[u1n]at hI
  rwa[show(XX lo c).length=c by unfold XX;simp]at hI
theorem zkM {n' b' k':SE->Prop}{r':D->Prop}{c:Ctl}(q:c.w n b k r)(h1:∀ ρ,n ρ->n' ρ)(h2:∀ ρ,b ρ->b' ρ)(h3:∀ ρ,k ρ->k' ρ)(h4:∀ d,r d->r' d):c.w n' b' k' r':=by
 cases q with
 | nx q=>exact .nx (h1 _ q)
 | bk q=>exact .bk (h2 _ q)
 | ct q=>exact .ct (h3 _ q)
 | rt q=>exact .rt (h4 _ q)
theorem Wo {t:Ev->Option Bool}(I:SE->Prop)(μ:SE->Nat)(step:∀ ρ,I ρ->∃ c,t (visG ρ)=some c/\(c=true->(g ρ).w (fun ρ'=>I ρ'/\μ ρ' < μ ρ) n (fun ρ'=>I ρ'/\μ ρ' < μ ρ) r)/\(c=false->n ρ)):∀ (fu:Nat) (ρ:SE),I ρ->μ ρ < fu->(Yd t g fu ρ).w n b k r
 | 0,ρ,_,hf=>by omega
 | fu+1,ρ,hI,hf=>by
  obtain⟨c,e,q1,q2⟩:=step ρ hI
  unfold Yd
  rw[e]
  cases c with
  | false=>exact .nx (q2 rfl)
  | true =>
   have q:=q1 rfl
   dsimp only
   cases hg:g ρ with
   | nx ρ'=>rw[hg]at q;exact Wo I μ step fu ρ' q.nxi.1 (by have:=q.nxi.2;omega)
   | ct ρ'=>rw[hg]at q;exact Wo I μ step fu ρ' q.cti.1 (by have:=q.cti.2;omega)
   | bk ρ'=>rw[hg]at q;exact .nx q.bki
   | rt d'=>rw[hg]at q;exact .rt q.rti
   | no=>rw[hg]at q;exact q.noi.elim
end
theorem Vm {m:Nat}{g:SE->Ctl}{ds:List D}{d:D}{ρ:SE}(e:ds.map .v++List.replicate (m - ds.length) .no=ρ)(q:(g ρ).w (λ_=>d=.non) noP noP (λd'=>d'=d)):fnD m g ds=some d:=by
 unfold fnD
 rw[e]
 cases hg:g ρ with
 | nx ρ'=>rw[hg]at q;rw[show d=.non from q.nxi]
 | rt d'=>rw[hg]at q;rw[show d'=d from q.rti]
 | bk _=>rw[hg]at q;exact q.bki.elim
 | ct _=>rw[hg]at q;exact q.cti.elim
 | no=>rw[hg]at q;exact q.noi.elim
theorem ZI {m:Bool}{i:Nat}{f:Ev->Option D}{ρ:SE}{ds:List D}{d:D}(h1:vEv m f ρ=some d)(h2:ρ[i]?=some (.o ds))(h3:ds.length<=1000):ZY m i f ρ=.nx (ρ.set i (.o (ds++[d]))):=by
 unfold ZY
 rw[h1,h2]
 show(match (if decide (ds.length < sizeLine)=true then some (ρ.set i (.o (ds++[d])))else none)with | some ρ'=>Ctl.nx ρ' | none=>Ctl.no)=_
 rw[j3 (i5 (ZM h3))]
theorem wV {b:D->Option (List (Option D))}{t:Ev->Option Bool}{f:Ev->Option D}{ρ:Ev}{α:Type}(c:α->D)(y:α->D):∀ (xs:List α),(∀ x∈xs,∃ own,b (c x)=some own/\t (own++ρ)=some true/\f (own++ρ)=some (y x))->lcD b t f ρ (xs.map c)=some (xs.map y)
 | [],_=>rfl
 | x::xs,h=>by
  obtain⟨own,h1,h2,h3⟩:=h x u0F
  show lcD b t f ρ (c x::xs.map c)=_
  unfold lcD
  rw[h1]
  simp only[d7,h2,u2H,h3,wV c y xs λz hz=>h z (u0b _ hz)]
  rfl
theorem vd {b:D->Option (List (Option D))}{t:Ev->Option Bool}{f:Ev->Option D}{ρ:Ev}{α:Type}(c:α->D)(p:α->Bool)(y:α->D):∀ (xs:List α),(∀ x∈xs,∃ own,b (c x)=some own/\t (own++ρ)=some (p x)/\(p x=true->f (own++ρ)=some (y x)))->lcD b t f ρ (xs.map c)=some ((xs.filter p).map y)
 | [],_=>rfl
 | x::xs,h=>by
  obtain⟨own,h1,h2,h3⟩:=h x u0F
  have ih:=vd c p y xs λz hz=>h z (u0b _ hz)
  show lcD b t f ρ (c x::xs.map c)=_
  unfold lcD
  rw[h1]
  simp only[d7,h2]
  cases hp:p x with
  | false =>
   rw[j8 u7,ih,List.filter_cons,j8 (by rw[hp];exact u7)]
  | true =>
   rw[j3 rfl,h3 hp,ih,List.filter_cons,j3 hp]
   rfl
mutual
def noS:D->Bool
 | .tup ds=>zia ds
 | .lst ds=>zia ds
 | .scr _=>false
 | _=>true
def zia:List D->Bool
 | []=>true
 | d::ds=>noS d&&zia ds
end
theorem YN:∀ {ds:List D} {i:Nat} {d:D},zia ds=true->ds[i]?=some d->noS d=true
 | [],_,_,_,h=>by simp at h
 | d::ds,i,e,h,he=>by
  unfold zia at h
  rw[u0n]at h
  cases i with
  | zero=>simp at he;subst he;exact h.1
  | succ i=>exact YN h.2 (by simpa using he)
theorem xg {n:Nat}(h:n<=1000):lim n=true:=by
 unfold lim
 exact i5 (u2a (ZM h))
theorem Wm (lo:Int)(n:Nat):(XX lo n).length=n:=by unfold XX;simp
end Dl
namespace Dl
open PySem L2
abbrev Pr:=Int × Int
def prD (t:Pr):D:=.tup [.int t.1,.int t.2]
def zlQ:D->Option Pr
 | .tup [.int a,.int b]=>some (a,b)
 | _=>none
def WP:List D->Option (List Pr)
 | []=>some []
 | d::ds=>(zlQ d).bind λt=>(WP ds).map (t::·)
theorem zja {d:D}{t:Pr}(h:zlQ d=some t):d=prD t:=by
 unfold zlQ at h
 split at h
 .cases h;rfl
 .cases h
theorem zc4:∀ {ds:List D} {ts:List Pr},WP ds=some ts->ds=ts.map prD
 | [],ts,h=>by cases h;rfl
 | d::ds,ts,h=>by
  unfold WP at h
  obtain⟨t,h1,h2⟩:=u3.mp h
  obtain⟨us,h3,rfl⟩:=t7.mp h2
  rw[zja h1,zc4 h3]
  rfl
theorem Wv (ts:List Pr):WP (ts.map prD)=some ts:=by
 induction ts with
 | nil=>rfl
 | cons t ts ih =>
  show(zlQ (prD t)).bind (λu=>(WP (ts.map prD)).map (u::·))=_
  rw[ih]
  rfl
def zjQ (a b:Pr):Bool:=!OwnSort.bltP b a
def Zy (ts:List Pr):List Pr:=ts.mergeSort zjQ
def leI (a b:Int):Bool:=decide (a<=b)
def VS (ns:List Int):List Int:=ns.mergeSort leI
theorem VJ {a b:Pr}:OwnSort.bltP b a=false↔zjQ a b=true:=by unfold zjQ;simp
theorem wM {a b:Pr}:zjQ a b=true↔a.1 < b.1\/(a.1=b.1/\a.2<=b.2):=by
 rw[<-VJ]
 unfold OwnSort.bltP
 rw[u0X]
 omega
theorem Xn {ts us:List Pr}(p:us.Perm ts)(h:us.Pairwise λa b=>OwnSort.bltP b a=false):us=Zy ts:=by
 refine u2t (le:=λa b=>zjQ a b=true) (λa b _ _ h1 h2=>?_) (h.imp λx=>VJ.mp x) ?_ (p.trans (u3n _ _).symm)
 .rw[wM]at h1 h2
  exact u2D (by omega) (by omega)
 .exact u2C (λa b c h1 h2=>by rw[wM]at *;omega) (λa b=>by rw[u2z,wM,wM];omega) _
theorem Vw {ts us:List Int}(p:us.Perm ts)(h:us.Pairwise (·<=·)):us=VS ts:=by
 refine u2t (le:=λa b=>leI a b=true) (λa b _ _ h1 h2=>?_) (h.imp λx=>i5 x) ?_ (p.trans (u3n _ _).symm)
 .unfold leI at h1 h2
  rw[d5]at h1 h2
  omega
 .exact u2C (λa b c h1 h2=>by unfold leI at *;rw[d5]at *;omega) (λa b=>by unfold leI;rw[u2z,d5,d5];omega) _
def Xv:List D->Option (List D)
 | [.lst ds]=>if ds.length < 64 then match WP ds with
  | some ts=>some ((Zy ts).map prD)
  | none=>match V8 ds with
   | some ns=>some ((VS ns).map .int)
   | none=>none
  else none
 | _=>none
variable [KK]
section
variable {X:Cx}{e:Expr}{pos:Pos}
theorem At.pr_inv {F:Hp}{t:Pr}{v:V}(h:At F (prD t) v):∃ a,v=.ref a/\F a=some (.tup [.int t.1,.int t.2]):=by
 obtain⟨a,xs,rfl,hx,al⟩:=h.tup_inv
 obtain⟨x,r,rfl,a1,al⟩:=al.cons_inv
 obtain⟨y,r,rfl,a2,al⟩:=al.cons_inv
 cases al.nil_inv
 cases a1.int_inv
 cases a2.int_inv
 exact⟨a,rfl,hx⟩
theorem za0 (hc:X.calm=true):Xp X (.builtin "sorted") (λxs H Q=>∃ F p ys ds out,xs=[.ref p]/\yz F H/\H p=some (.lst ys)/\AtL F ds ys/\Xv [.lst ds]=some out/\∀ l zs,H l=none->AtL F out zs->Q (.ref l) (upd H l (.lst zs))):=by
 intro pins s σ H xs us Q I r h
 obtain⟨F,p,ys,ds,out,rfl,sm,hp,al,hs,q⟩:=h
 obtain⟨u,rfl,ru⟩:=za7 r
 cases ru
 obtain⟨its,rv,pl,hz⟩:=I.list (SqL.of hp)
 have hlen:its.length=ds.length:=by rw[<-rv.length,al.length]
 unfold Xv at hs
 dsimp only at hs
 split at hs <;> try cases hs
 rename_i h64
 have fin:∀ (zs:List V) (ws:List Value),zs.length < 64->yf zs ws->AtL F out zs->EP X pins σ Q (.ref (s.heap.objs.size+1)) { s with heap:=PyProof.Rows.sortedAll s.heap its ws.toArray }:=λzs ws hl rz az=>by
  have hn:H (s.heap.objs.size+1)=none:=I.hok.fresh (u2R _)
  obtain⟨ep,he⟩:=u3J s.heap its ws.toArray
  refine⟨.ref (s.heap.objs.size+1),upd H (s.heap.objs.size+1) (.lst zs),I.laid (t':=s.toks) (λb o z=>u3y z) (u2R _) ?_,rfl,q _ zs hn az⟩
  exact⟨u2a (ZM (by omega)),ws,ep,rz,he⟩
 split at hs
 .rename_i ts hts
  cases hs
  have eds:=zc4 hts
  subst eds
  have look:∀ {v:Value},v∈its->∃ a t,v=.ref a/\t∈ts/\F a=some (.tup [.int t.1,.int t.2])/\OwnSort.TP s.heap v t:=λ{v} hv=>by
   obtain⟨j,hj,rfl⟩:=u0i hv
   have hj2:j < ts.length:=by rw[u5]at hlen;omega
   obtain⟨x,hx,ax⟩:=al.get (i:=j) (d:=prD ts[j]) (by rw[j7];simp[hj2])
   obtain⟨a,rfl,ha⟩:=ax.pr_inv
   obtain⟨v,hv,rvv⟩:=rv.get hx
   have e1:its[j]?=some its[j]:=by simp[hj]
   rw[hv]at e1
   cases e1
   have e2:its[j]=.ref a:=rvv
   refine⟨a,ts[j],e2,u1W hj2,ha,?_⟩
   obtain⟨us,ru,⟨o,ho,hcl,n,hd⟩,_⟩:=I.tuple (SqT.of (sm _ _ ha))
   obtain⟨u1,u2,rfl,r1,r2⟩:=zco ru
   obtain⟨t1,rfl⟩:=r1
   obtain⟨t2,rfl⟩:=r2
   exact⟨a,o,n,t1,t2,e2,ho,hcl,hd⟩
  refine OwnSort.own_sorted pl.isList (λv hv=>let ⟨a,t,_,_,_,ht⟩:=look hv;⟨t,ht⟩) (by omega) λo2 pm ri=>?_
  obtain⟨us,l1,l2,l3⟩:=ri
  have hlo:o2.toList.length=ts.length:=by rw[pm.length_eq,hlen,u5]
  -- the values' addresses
  have zsOf:∀ (ws:List Value) (vs:List Pr),ws.length=vs.length->(∀ w∈ws,w∈its)->(∀ (i:Nat) v t,ws[i]?=some v->vs[i]?=some t->OwnSort.TP s.heap v t)->∃ zs:List V,yf zs ws/\AtL F (vs.map prD) zs:=by
   intro ws
   induction ws with
   | nil =>
    intro vs hl _ _
    cases vs with
    | nil=>exact⟨[],.nil,.nil⟩
    | cons _ _=>simp at hl
   | cons w ws ih =>
    intro vs hl hm ht
    cases vs with
    | nil=>simp at hl
    | cons t vs =>
     obtain⟨zs,z1,z2⟩:=ih vs (by simpa using hl) (λw' hw'=>hm w' (u0b _ hw')) (λi v t h1 h2=>ht (i+1) v t (by simpa using h1) (by simpa using h2))
     obtain⟨a,t',rfl,_,ha,htp⟩:=look (hm w u0F)
     have et:t'=t:=htp.uniq (ht 0 _ t rfl rfl)
     subst et
     exact⟨.ref a::zs,.cons rfl z1,.cons (.tup ha (.cons .int (.cons .int .nil))) z2⟩
  obtain⟨zs,z1,z2⟩:=zsOf o2.toList us l1 (λw hw=>pm.mem_iff.mp hw) l2
  have keysPerm:us.Perm ts:=by
   -- by the keys of the values
   have kv:∀ (ws:List Value) (vs:List Pr),ws.length=vs.length->(∀ (i:Nat) v t,ws[i]?=some v->vs[i]?=some t->OwnSort.TP s.heap v t)->vs=ws.map λv=>(OwnSort.keyP s.heap v).getD (0,0):=by
    intro ws
    induction ws with
    | nil=>intro vs hl _;cases vs with
     | nil=>rfl
     | cons _ _=>simp at hl
    | cons w ws ih =>
     intro vs hl ht
     cases vs with
     | nil=>simp at hl
     | cons t vs =>
      rw[u0e,OwnSort.keyP_of (ht 0 w t rfl rfl),<- ih vs (by simpa using hl) λi v t h1 h2=>ht (i+1) v t (by simpa using h1) (by simpa using h2)]
      rfl
   rw[kv _ _ l1 l2,kv its ts (by rw[hlen,u5]) λi v t h1 h2=>?_]
   .exact pm.map _
   .obtain⟨x,hx,ax⟩:=al.get (i:=i) (d:=prD t) (by rw[j7,h2];rfl)
    obtain⟨a,rfl,ha⟩:=ax.pr_inv
    obtain⟨v',hv',rvv⟩:=rv.get hx
    rw[h1]at hv'
    cases hv'
    obtain⟨us',ru',⟨o,ho,hcl,n,hd⟩,_⟩:=I.tuple (SqT.of (sm _ _ ha))
    obtain⟨u1,u2,rfl,r1,r2⟩:=zco ru'
    obtain⟨t1,rfl⟩:=r1
    obtain⟨t2,rfl⟩:=r2
    exact⟨a,o,n,t1,t2,rvv,ho,hcl,hd⟩
  have e3:=Xn keysPerm l3
  rw[e3]at z2
  have:=fin zs o2.toList (by rw[z1.length];rw[u5]at h64;omega) z1 z2
  simpa using this
 .split at hs <;> try cases hs
  rename_i ns hns
  have eds:=Zp hns
  subst eds
  have hI:PyProof.Rows.IntsAre its ns:=Xf (by rw[<-al.of_ints];exact rv)
  refine PyProof.Rows.sorted_ints pl.isList hI (by omega) λo2 ns' h1 h2 h3=>?_
  have e3:=Vw h2 h3
  subst e3
  have z1:yf ((VS ns).map V.int) o2.toList:=zaS h1
  have:=fin ((VS ns).map V.int) o2.toList (by rw[u5,h2.length_eq];rw[u5]at h64;omega) z1 (.ints _)
  simpa using this
theorem ZJ {p:Pos} {f:Ev->Option (List D)} (hc:X.calm=true) (hgl:Gl X "sorted") (hm:X.mg "sorted"=none) (ha:AD X [e] f)
 (he:starEach [e] X.env=(false,eval e X.env)::starEach [] X.env:=by rfl) (hpl:(backTo pos (starEach [] X.env)).any (·.1)=false:=by rfl):FL X (.Call (.Name "sorted" p) [e] [] pos) (fFn Xv f):=by
 obtain⟨t,pa,ra⟩:=ha
 refine⟨_,X9 (za0 hc) hgl hm YL pa (by decide) (by decide) he hpl,fun σ ρ F H z Q s va e q=>?_⟩
 obtain⟨ds,e1,e2⟩:=u3.mp e
 refine ra σ ρ F H ds _ s va e1 λF1 H1 vs g1 a1=>?_
 have e2':=e2
 unfold Xv at e2'
 split at e2'
 .obtain⟨x,r,rfl,ax,ar⟩:=a1.cons_inv
  cases ar.nil_inv
  obtain⟨p,ys,rfl,hx,bl⟩:=ax.lst_inv
  exact⟨F1,p,ys,_,z,rfl,g1.fh,g1.fh _ _ hx,bl,e2,λl zs hl az=>q _ _ _ _ (g1.trans (Gr.hide g1.fh hl _)) (XN g1 hl) (g1.fh.free hl) zn az⟩
 .cases e2'
end
end Dl
namespace L2
open PySem PySem.Spec PyProof.Rows
section
variable {X:Cx}
def zfC:V->List V->Hp->VK->Prop:=λx vs H Q=>∃ l xs i y,x=.ref l/\vs=[.int i,y]/\H l=some (.lst xs)/\xs.length < sizeLine/\0<=i/\i < 2 ^ 63/\Q .non (upd H l (.lst (xs.take i.toNat++y::xs.drop i.toNat)))
theorem ziI (its:List Value)(u:Value)(x:Int)(h0:0<=x) :
 (λxs:Array Value=>have k:=if x < 0 then (x+((xs.size:Nat):Int)).toNat else min x.toNat xs.size;(xs.extract 0 k).push u++xs.extract k) its.toArray=(its.take x.toNat++u::its.drop x.toNat).toArray:=by
 have hn:¬ x < 0:=by omega
 apply Array.ext'
 simp only[j8 hn]
 by_cases c:x.toNat<=its.length
 .simp[u0N c]
  exact p8 (by rw[i6];exact q5 _)
 .have e:min x.toNat its.length=its.length:=by omega
  have e1:its.take x.toNat=its:=p8 (by omega)
  have e2:its.drop x.toNat=[]:=u2K (by omega)
  simp[e,e1,e2]
theorem zeD:MtM X "list.insert" zfC:=by
 intro pins s σ H x vs v us Q I rx rv h
 obtain⟨l,xs,i,y,rfl,rfl,hH,hz,h0,h1,q⟩:=h
 cases rx
 obtain⟨u,w,rfl,ru,rw'⟩:=rv.two
 obtain⟨t,rfl⟩:=ru
 obtain⟨z,its,n,r,hl,e⟩:=I.lstM hH
 have hfit:¬(!Builtin.List.listFitsIndex i)=true:=by
  have:Builtin.List.listFitsIndex i=true:=fitsIndex_both (by omega) h1
  rw[this]
  exact u7
 refine u4c F.slot_list_insert ⟨_,e,rfl⟩ F.entry_list_insert (F.args_list_insert_3 _ _ _) (AutoListH.list_insert_list_int_val_1 l its.toArray n i t w hfit (by rw[t9];omega)) ⟨e,?_⟩
 refine⟨.non,_,I.lset (its':=its.take i.toNat++w::its.drop i.toNat) hH e (ziI its w i h0) ((r.take _).append (.cons rw' (r.drop _))) ?_,rfl,q⟩
 rw[j6,p9,o9,i6]
 omega
end
end L2
namespace Dl
open PySem L2
section
variable [KK]{X:Cx}{a e k:Expr}{pos:Pos}
def zjS (ds:List D)(i:Int)(d:D):List D:=ds.take i.toNat++d::ds.drop i.toNat
def zkq (m:Bool)(i:Nat)(fk f:Ev->Option D):SE->Ctl:=fun ρ=>match (vEv m fk ρ).bind λkd=>(vEv m f ρ).bind λd=>match ρ[i]?,kd with
 | some (.o ds),.int j=>if (decide (ds.length < sizeLine)&&decide (0<=j/\j < 2 ^ 63))=true then some (ρ.set i (.o (zjS ds j d)))else none
 | _,_=>none with
 | some ρ'=>.nx ρ'
 | none=>.no
theorem zjV {m:Bool}{i:Nat}{p pos':Pos}{fk f:Ev->Option D}(ho:PE X a (zjT i))(hk:ED X k fk)(he:ED X e f)
 (hp:∀ {ta:TE} {t:TA},PE X a ta->PA X [k,e] t->PE X (.Call (.Attribute a "insert" p) [k,e] [] pos') (tBM X.K "list" zfC ta t)) (hsw:swapsWith (.Call (.Attribute a "insert" p) [k,e] [] pos') none pos.line X.env=pure false:=by rfl)
 (hs:starEach [k,e] X.env=(false,eval k X.env)::starEach [e] X.env:=by rfl) (hs2:starEach [e] X.env=(false,eval e X.env)::starEach [] X.env:=by rfl):SD X (.Expr (.Call (.Attribute a "insert" p) [k,e] [] pos') pos) (zkq m i fk f):=by
 obtain⟨tk,pk,rk⟩:=hk
 obtain⟨t,pe,re⟩:=he
 refine⟨_,zcM (hp ho (Zz pk (Zz pe za6 hs2) hs)) hsw,λFb Hb F H ρ σ E rl kk=>?_⟩
 unfold zkq at kk
 cases h:(vEv m fk ρ).bind λkd=>(vEv m f ρ).bind λd=>match ρ[i]?,kd with
  | some (.o ds),.int j=>if (decide (ds.length < sizeLine)&&decide (0<=j/\j < 2 ^ 63))=true then some (ρ.set i (.o (zjS ds j d)))else none
  | _,_=>none with
 | none=>rw[h]at kk;exact kk.elim
 | some ρ' =>
  rw[h]at kk
  obtain⟨kd,e0,e2⟩:=u3.mp h
  obtain⟨d,e1,e2⟩:=u3.mp e2
  cases hs:ρ[i]? with
  | none=>rw[hs]at e2;cases e2
  | some sl =>
   rw[hs]at e2
   cases sl with
   | no=>cases e2
   | v _=>cases e2
   | m _ _ _=>cases e2
   | o ds =>
    cases kd with
    | int j =>
     dsimp only at e2
     split at e2 <;> cases e2
     rename_i hl
     rw[u0n]at hl
     have hj:=s0 hl.2
     obtain⟨q,xs,f1,f2,f3,f4,f5⟩:=rl.owns i ds hs
     refine⟨_,f1,.inl ⟨rfl,xs,SqL.of f4⟩,?_⟩
     refine rk.at rl e0 λF0 H0 vk g0 ak=>?_
     have rl1:=rl.grow g0
     refine re.at rl1 e1 λF' H' v g av=>?_
     have rl2:=rl1.grow g
     obtain⟨q2,xs2,f1',_,_,f4',f5'⟩:=rl2.owns i ds hs
     rw[f1]at f1'
     cases f1'
     cases ak.int_inv
     refine⟨q,xs2,j,v,rfl,rfl,f4',by rw[f5'.length];exact s0 hl.1,hj.1,hj.2,?_⟩
     exact kk _ _ σ (rl2.mutate hs f1 ((f5'.take _).append (.cons av (f5'.drop _))))
    | _=>cases e2
end
theorem zkT {m:Bool}{i:Nat}{fk f:Ev->Option D}{ρ:SE}{ds:List D}{d:D}{k:Int}(h0:vEv m fk ρ=some (.int k))(h1:vEv m f ρ=some d)(h2:ρ[i]?=some (.o ds))(h3:ds.length<=1000)(h4:0<=k)(h5:k<=1000):zkq m i fk f ρ=.nx (ρ.set i (.o (zjS ds k d))):=by
 unfold zkq
 rw[h0,h1,h2]
 show(match (if (decide (ds.length < sizeLine)&&decide (0<=k/\k < 2 ^ 63))=true then some (ρ.set i (.o (zjS ds k d)))else none)with | some ρ'=>Ctl.nx ρ' | none=>Ctl.no)=_
 have hs:ds.length < sizeLine:=ZM h3
 rw[j3 (by rw[i5 hs,i5 ⟨h4,by omega⟩];rfl)]
end Dl
namespace Dl
open PySem L2
variable [KK]
def zjJ (m:Nat)(p:List D->Option (List D)):Sp:=λvs H Q _=>∃ ds es F,ds.length=m/\yz F H/\AtL F ds vs/\p ds=some es/\∀ F' H' q xs,Gr F H F' H'->H q=none->F' q=none->H' q=some (.lst xs)->AtL F' es xs->Q (.ref q) H'
def SDO (X:Cx)(sts:List Stmt)(g:SE->Ctl)(i:Nat):Prop:=∃ t,PSs X sts t/\∀ (Fb Hb F H:Hp) (ρ:SE) (σ:St) (E:zhM),Rl Fb Hb F H ρ σ->∀ (ρ':SE) (es:List D),g ρ=.nx ρ'->ρ'[i]?=some (.o es) ->
 (∀ F' H' q xs,Gr Fb Hb F' H'->Hb q=none->F' q=none->H' q=some (.lst xs)->AtL F' es xs->E.rt (.ref q) H')->t E σ H
section
variable {X:Cx}{st:Stmt}{sts:List Stmt}{a e:Expr}{pos:Pos}
theorem wG {g h:SE->Ctl}{i:Nat}(h1:SD X st g)(h2:SDO X sts h i):SDO X (st::sts) (zS g h) i:=by
 obtain⟨t,p,r⟩:=h1
 obtain⟨u,p2,r2⟩:=h2
 refine⟨_,zc3 p p2,λFb Hb F H ρ σ E rl ρ' es hg hi k=>?_⟩
 refine r Fb Hb F H ρ σ { E with nx:=u E } rl ?_
 unfold zS at hg
 cases e:g ρ with
 | nx ρ1 =>
  rw[e]at hg
  exact λF' H' σ' rl'=>r2 Fb Hb F' H' ρ1 σ' E rl' ρ' es hg hi k
 | rt d=>rw[e]at hg;cases hg
 | bk d=>rw[e]at hg;cases hg
 | ct d=>rw[e]at hg;cases hg
 | no=>rw[e]at hg;cases hg
theorem zjW {g:SE->Ctl}{i:Nat}(j:Nat)(h:SDO X sts g i):SDO X sts (sFz j g) i:=by
 obtain⟨t,p,r⟩:=h
 refine⟨_,p,λFb Hb F H ρ σ E rl ρ' es hg hi k=>?_⟩
 obtain⟨F',rl'⟩:=rl.freeze j
 exact r Fb Hb F' H _ σ E rl' ρ' es hg hi k
end
def zim (n:Nat)(g:SE->Ctl)(i:Nat)(ds:List D):Option (List D):=match g (ds.map .v++List.replicate (n - ds.length) .no) with
 | .nx ρ=>match ρ[i]? with
  | some (.o es)=>some es
  | _=>none
 | _=>none
theorem zkC {P:Program}{w:World}{K:W.Frag}{mg:Str->Option Value}{base:Heap}{x qual:Str}{st:Stmt}{f:Addr}{fd:FuncData}{N ps:List Str}{k:Nat}{g:SE->Ctl}{i:Nat}(Fu:Fun K x qual st f fd)(S:zw N ps (zh st))
 (hb:∀ (cdv:Value) (A:Around) (outer:List Env) (s:Shared) (H:Hp) (E:XK),wC k (A.deeper (PyProof.Rows.envOfC qual (zh st) s.heap.objs.size f cdv))->SDO (zec CX0 P w K mg base N qual (zh st) f cdv A outer s H E).nox (xf st) g i) :
 yW P w K mg base CX0 (k+1) f fd ps (zjJ ps.length (zim N.length g i)):=by
 refine Fu.ok S (λvs H Q E h=>?_) λcdv A outer s H vs Q E hr h=>?_
 .obtain⟨ds,d,F,hl,_,a,_⟩:=h
  rw[a.length];exact hl
 .obtain⟨ds,es,F,hl,sm,a,e,q⟩:=h
  obtain⟨t,p,r⟩:=hb cdv A outer s H E hr
  unfold zim at e
  cases hg:g (ds.map .v++List.replicate (N.length - ds.length) .no) with
  | nx ρ =>
   rw[hg]at e
   dsimp only at e
   cases hi:ρ[i]? with
   | none=>rw[hi]at e;cases e
   | some sl =>
    rw[hi]at e
    cases sl with
    | no=>cases e
    | v _=>cases e
    | m _ _ _=>cases e
    | o es' =>
     cases e
     exact⟨t,p,r F H F H _ _ _ (XY sm a) ρ es hg hi λF' H' q' xs g h0 hF hH hx=>q F' H' q' xs g h0 hF hH hx⟩
  | rt d'=>rw[hg]at e;cases e
  | bk ρ=>rw[hg]at e;cases e
  | ct ρ=>rw[hg]at e;cases e
  | no=>rw[hg]at e;cases e
theorem zih {P:Program}{w:World}{K:W.Frag}{mg:Str->Option Value}{base:Heap}{f:Addr}{fd:FuncData}{ps:List Str}{k m:Nat}{p:List D->Option (List D)}(F:yW P w K mg base CX0 k f fd ps (zjJ m p)):yW P w K mg base CX0 k f fd ps (spD m λds=>(p ds).map .lst) :=
 F.imp λvs H Q E ⟨ds,d,F',h1,h2,h3,h4,h5⟩=>by
  obtain⟨es,e1,rfl⟩:=t7.mp h4
  exact⟨ds,es,F',h1,h2,h3,e1,λF2 H2 q xs g h0 hF hH hx=>h5 _ _ _ (g.show h0 hF hH) (At.lst zn (hx.mono (λb u e=>by rw[zq (zk e hF)];exact e)))⟩
def zbQ (m:Nat)(p:List D->Option (List D))(f:Ev->Option (List D)):Ev->Option (List D):=fun ρ=>(f ρ).bind λds=>if ds.length=m then p ds else none
theorem ze5 {X:Cx}{x:Str}{k m:Nat}{f:Addr}{fd:FuncData}{ps:List Str}{p:List D->Option (List D)}{e:Expr}{es:List Expr}{pp pos:Pos}{fa:Ev->Option (List D)}(F:yW X.prog X.w X.K X.mg X.base CX0 k f fd ps (zjJ m p))(hr:wC k X.A)(hg:Gl X x)(hm:X.mg x=some (.ref f))(hk:W.keepIn X.K (.ref f)=true)(hb:zbk X.K fd ps [])
 (ha:AD X (e::es) fa) (hdb:(x == ("__debug__":Str))=false:=by decide) (he:starEach (e::es) X.env=(false,eval e X.env)::starEach es X.env:=by rfl) (hpl:(backTo pos (starEach es X.env)).any (·.1)=false:=by rfl) :
 FL X (.Call (.Name x pp) (e::es) [] pos) (zbQ m p fa):=by
 obtain⟨t,pa,r⟩:=ha
 refine⟨_,zgp F hr hg hm hk hb .nil zk7 pa hdb he hpl,fun σ ρ F0 H d Q s va e q=>?_⟩
 obtain⟨ds,e1,e2⟩:=u3.mp e
 split at e2 <;> try cases e2
 rename_i hl
 refine r σ ρ F0 H ds _ s va e1 λF1 H1 vs g1 a1=>?_
 refine⟨ds,d,F1,hl,g1.fh,by rw[u0L];exact a1,e2,λF' H' q' xs g h0 hF hH hx=>q F' H' q' xs (g1.trans g) (XN g1 h0) hF hH hx⟩
omit [KK] in
theorem zh7 {m:Nat}{g:SE->Ctl}{i:Nat}{ds es:List D}{ρ:SE}(e:ds.map .v++List.replicate (m - ds.length) .no=ρ)(q:(g ρ).w (fun ρ'=>ρ'[i]?=some (.o es)) noP noP (λ_=>False)):zim m g i ds=some es:=by
 unfold zim
 rw[e]
 cases hg:g ρ with
 | nx ρ'=>rw[hg]at q;dsimp only;rw[q.nxi]
 | bk ρ'=>rw[hg]at q;exact q.bki.elim
 | ct ρ'=>rw[hg]at q;exact q.cti.elim
 | rt d=>rw[hg]at q;exact q.rti.elim
 | no=>rw[hg]at q;exact q.noi.elim
end Dl
namespace Dl
open PySem L2
section
variable [KK]
section
variable {κ:Type}[DecidableEq κ](f:κ->List Key)(hf:∀ a b,f a=f b->a=b)
include hf
end
end
end Dl
namespace Dl
open PySem L2
variable [KK]
section
variable {X:Cx}
def rNeL:R2:=λx y H Q=>∃ F ds es,yz F H/\At F (.lst ds) x/\At F (.lst es) y/\okE 20 (.lst ds)=true/\okE 20 (.lst es)=true/\Q (.bl (!eqN 20 (.lst ds) (.lst es))) H
theorem zis {k:Nat}(hr:wC k X.A):OpR X (compareOp .NotEq) rNeL:=by
 intro pins s σ H x y v u Q I rx ry h
 obtain⟨F,ds,es,sm,a1,a2,k1,k2,q⟩:=h
 have hu:X.A.units+30 < cLine:=by have:=hr.un;omega
 obtain⟨p,xs,rfl,hx,al⟩:=a1.lst_inv
 obtain⟨p2,ys,rfl,hy,bl⟩:=a2.lst_inv
 cases rx
 cases ry
 obtain⟨its,r,ht,hz⟩:=I.list (SqL.of (sm _ _ hx))
 obtain⟨its2,r2,ht2,hz2⟩:=I.list (SqL.of (sm _ _ hy))
 have hl1:its.toArray.size=ds.length:=by rw[t9,<- r.length,al.length]
 have hl2:its2.toArray.size=es.length:=by rw[t9,<- r2.length,bl.length]
 have e1:eqN 20 (.lst ds) (.lst es)=((List.range (min ds.length es.length)).all (λj=>eqN 19 (ds.getD j .non) (es.getD j .non))&&ds.length == es.length):=by
  show((List.zipWith (eqN 19) ds es).all id&&ds.length == es.length)=_
  rw[zav]
 by_cases hle:ds.length=es.length
 .refine SeqAt.RcNeAt.lists (e:=λj=>eqN 19 (ds.getD j .non) (es.getD j .non)) ht.isList ht2.isList (by rw[hl1,hl2];exact hle) (u0f (i7 _ 30) hu) (λj g1 g2=>?_) _ _ _ _ ⟨.bl _,H,I,rfl,?_⟩
  .obtain⟨x',ax,rx⟩:=al.nth r (j:=j) (by simpa using g1)
   obtain⟨y',ay,ry⟩:=bl.nth r2 (j:=j) (by simpa using g2)
   exact zcQ I sm 19 (wz k1 (by rw[<-hl1];exact g1)) (wz k2 (by rw[<-hl2];exact g2)) ax ay (by simpa using rx) (by simpa using ry) (u0f (show X.A.units+20<=X.A.units+30 from u3s (by decide) _) hu)
  .rw[hl1]
   rw[e1,<- hle,u2v]at q
   simpa using q
 .refine SeqAt.RcNeAt.lists_lengths ht.isList ht2.isList (by rw[hl1,hl2];simpa using hle) (u0f (i7 _ 30) hu) _ _ _ _ ⟨.bl _,H,I,rfl,?_⟩
  have:(ds.length == es.length)=false:=by simpa using hle
  rw[e1,this,u2V]at q
  exact q
end
def zjM:D->D->Option D
 | .lst ds,.lst es=>if (okE 20 (.lst ds)&&okE 20 (.lst es))=true then some (.bl (!eqN 20 (.lst ds) (.lst es)))else none
 | _,_=>none
theorem zeU:OpD rNeL zjM:=by
 intro F H x y d e z Q s ax ay ez q
 unfold zjM at ez
 split at ez
 .split at ez <;> cases ez
  rename_i hk
  rw[u0n]at hk
  exact⟨F,_,_,s,ax,ay,hk.1,hk.2,q F H _ (.refl s) .bl⟩
 .cases ez
end Dl
namespace Dl
open PySem L2 PySem.Spec PyProof.Rows
variable [KK]{X:Cx}{e:Expr}
def revD:D->Option (List D)
 | .lst ds=>some ds.reverse
 | _=>none
def zlE (f:Ev->Option D):Ev->Option (List D):=fun ρ=>(f ρ).bind revD
end Dl
namespace L2
open PySem PySem.Spec PyProof.Rows
theorem zd3 {acc:Array Value}{j:Nat}(h:ItemsOf (λi v=>∃ t,v=Value.int (0+(i:Int)*1) t) acc j):yf ((List.range j).map λk:Nat=>V.int (k:Int)) acc.toList:=by
 have gen:∀ (vs:List Value) (a:Nat),(∀ i v,vs[i]?=some v->∃ t,v=Value.int (0+((a+i:Nat):Int)*1) t)->yf ((List.range' a vs.length).map λk:Nat=>V.int (k:Int)) vs:=by
  intro vs
  induction vs with
  | nil=>intro a _;exact .nil
  | cons v vs ih =>
   intro a h
   refine .cons ?_ (ih (a+1) λi v hv=>?_)
   .obtain⟨t,rfl⟩:=h 0 v rfl
    exact⟨t,by rw[show(0:Int)+((a+0:Nat):Int)*1=(a:Int) by omega]⟩
   .have:=h (i+1) v (by simpa using hv)
    rwa[show a+(i+1)=a+1+i by omega]at this
 have:=gen acc.toList 0 λi v hv=>by
  rw[u1n]
  exact h.2 i v (by simpa using hv)
 rw[r6,h.1]at this
 rwa[List.range_eq_range']
end L2
namespace Dl
open PySem L2 PySem.Spec PyProof.Rows
variable [KK]{X:Cx}{e:Expr}
def lrD:D->Option (List D)
 | .int j=>if 0<=j/\j<=1000 then some ((List.range j.toNat).map λk:Nat=>.int (k:Int))else none
 | _=>none
end Dl
namespace L2
open PySem PySem.Spec PyProof.Rows
open Sem (wp)
section
variable {prog:Program}{w:World}{A:Around}{E:Value->Shared->Prop}{h:Heap}{g:Array GenState}{d:Drawn}{t:Nat}{os:OsState}
 {nm q:Str} {C N fI:Addr} {bs bm:List Value} {hdct:Bool} {sn:List Str} {sub:List Value} {ab:Bool} {col:Option Bool} {dd:Option Addr} {k0 k1 k2 k3 k5:Option Value} {mN:Str->Option Value} {us:List Value} {oI:Obj}
end
end L2
namespace L2
open PySem PySem.Spec PyProof.Rows
section
variable {prog:Program}{w:World}{A:Around}{E:Value->Shared->Prop}{s:Shared}{env:Env}
 {nm q:Str} {C N fI:Addr} {bs bm:List Value} {hdct:Bool} {sn:List Str} {sub:List Value} {ab:Bool} {col:Option Bool} {dd:Option Addr} {k0 k1 k2 k3 k5:Option Value} {mN:Str->Option Value} {oI:Obj}
end
end L2
namespace PySem
section
variable {prog:Program}{w:World}{A:Around}{R:Result->Shared->Prop}{it S:Addr}{fp wr:List Addr}{n:Nat}{P:Nat->Value->Prop}{St:Nat->Heap->Prop}{kw:List (Str × Value)}
theorem vU:(toString "max"++toString ".loop":String)="max.loop":=by decide
theorem WU {s:Shared}(k:wpAny (model prog w) A.in1 (Builtin.«max.loop» ⟨[.ref it,.none,.ref S],kw⟩) (λfin s'=>match fin with | .done f=>R (.ok f) s' | .again c'=>c'.quiet=true/\codeAny (model prog w) A c' R s') (λe s'=>R (.error e) s') s) :
 codeAny (model prog w) A (.builtin "max.loop" ⟨[.ref it,.none,.ref S],kw⟩) R s:=codeAny_builtin F.entry_max_loop (by rw[u3d u2h _];exact k)
theorem zgy (W:Walks prog w A.in1 it fp wr n P St)(bt:Nat->Nat->Bool)(cm:CmpOf prog w A.in1 .Gt P bt)(nf:S∉fp):∀ (left j:Nat) (s:Shared) (v0:Value) (c:Nat),j+1+left=n->St (j+1) s.heap->P (argBest bt j) v0 ->
 s.heap.get? S=some { cls:=.type "list",dict:=none,data:=.seq #[v0,v0] c,slots:=#[] } ->
 (∀ v g tk,P (argBest bt (n - 1)) v->(∀ b o,b∉wr->b≠S->s.heap.get? b=some o->g.get? b=some o)->R (.ok (.ret v)) { s with heap:=g,toks:=tk }) ->
 codeAny (model prog w) A (.builtin "max.loop" ⟨[.ref it,.none,.ref S],kw⟩) R s:=by
 have nw:S∉wr:=λz=>nf (W.sub _ z)
 intro left
 induction left with
 | zero =>
  intro j s v0 c e st p0 hS k
  have ej:j+1=n:=e
  refine WU ?_
  show wpAny _ A.in1 (seqItems? (.ref S)>>=_) _ _ s;refine u0 (u05 hS rfl ?_)
  show wpAny _ A.in1 (tryCatch (pyNext (.ref it)) _>>=_) _ _ s;refine u0 (u2X (W.done s _ _ (ej ▸ st) λg tk kk=>?_))
  show wpAny _ A.in1 (updateSeq S (λ_=>#[])>>=_) _ _ _;refine u0 (wpAny_updateSeq (kk S _ nw hS) rfl (u0 (u2s (u9 (k v0 _ tk (ej ▸ p0) λb o b1 b2 q=>?_)))))
  exact(u0h _ _ (u1j b2)).trans (kk b o b1 q)
 | succ left ih =>
  intro j s v0 c e st p0 hS k
  refine WU ?_
  show wpAny _ A.in1 (seqItems? (.ref S)>>=_) _ _ s;refine u0 (u05 hS rfl ?_)
  show wpAny _ A.in1 (tryCatch (pyNext (.ref it)) _>>=_) _ _ s;refine u0 (u2X (W.item (j+1) s _ _ (by omega) st λv g tk pv st' kk=>?_))
  have hS':=kk S _ nw hS
  show wpAny _ A.in1 (tryCatch (holding [v,v] (richCompare .Gt v v0>>=_)) _>>=_) _ _ _;refine u0 (u2X (u08 (u0 (cm (j+1) (argBest bt j) v v0 _ _ _ pv p0 (u0 (u08 (u1d (u0 (u2s (u9 ?_))))))))))
  cases hb:bt (j+1) (argBest bt j) with
  | true =>
   simp only[u2H];refine u0 (wpAny_updateSeq hS' rfl (u0 (u2s ?_)))
   rw[vU];refine u9 ⟨u3h u2h _,ih (j+1) _ v _ (by omega) (W.frame _ _ _ st' λb bf o q=>?_) (by rw[argBest,j3 hb];exact pv) (u14 _ hS' rfl) λv1 g1 tk1 p1 kk1=>?_⟩
   .exact(u0h _ _ (λz:S=b=>nf (z ▸ bf))).trans q
   .exact k v1 g1 tk1 p1 λb o b1 b2 q=>kk1 b o b1 b2 ((u0h _ _ (u1j b2)).trans (kk b o b1 q))
  | false =>
   simp only[u3A,u4m];refine u0 (u2s ?_)
   rw[vU];exact u9 ⟨u3h u2h _,ih (j+1) _ v0 c (by omega) st' (by rw[argBest,j8 (by rw[hb];exact u7)];exact p0) hS' λv1 g1 tk1 p1 kk1=>k v1 g1 tk1 p1 λb o b1 b2 q=>kk1 b o b1 b2 (kk b o b1 q)⟩
theorem zhe {s:Shared}{c:Nat}{d:Value}(W:Walks prog w A.in1 it fp wr n P St)(bt:Nat->Nat->Bool)(cm:CmpOf prog w A.in1 .Gt P bt)(nf:S∉fp)(st:St 0 s.heap)
 (hS:s.heap.get? S=some { cls:=.type "list",dict:=none,data:=.seq #[] c,slots:=#[] })
 (k:∀ v g tk,(if n=0 then v=d else P (argBest bt (n - 1)) v)->(∀ b o,b∉wr->b≠S->s.heap.get? b=some o->g.get? b=some o)->R (.ok (.ret v)) { s with heap:=g,toks:=tk }) :
 codeAny (model prog w) A (.builtin "max.loop" ⟨[.ref it,.none,.ref S],[("default",d)]⟩) R s:=by
 have nw:S∉wr:=λz=>nf (W.sub _ z)
 refine WU ?_
 show wpAny _ A.in1 (seqItems? (.ref S)>>=_) _ _ s;refine u0 (u05 hS rfl ?_)
 show wpAny _ A.in1 (tryCatch (pyNext (.ref it)) _>>=_) _ _ s
 by_cases hn:n=0
 .refine u0 (u2X (W.done s _ _ (hn ▸ st) λg tk kk=>?_))
  show wpAny _ A.in1 (rule _>>=_) _ _ _;exact u0 (u1p (u9 (k d g tk (by rw[j3 hn]) λb o b1 _ q=>kk b o b1 q)))
 .refine u0 (u2X (W.item 0 s _ _ (Nat.pos_of_ne_zero hn) st λv g tk pv st' kk=>?_))
  have hS':=kk S _ nw hS
  show wpAny _ A.in1 (updateSeq S (λ_=>#[v,v])>>=_) _ _ _;refine u0 (wpAny_updateSeq hS' rfl ?_)
  rw[vU];refine u9 ⟨u3h u2h _,zgy W bt cm nf (n - 1) 0 _ v _ (by omega) (W.frame _ _ _ st' λb bf o q=>?_) pv (u14 _ hS' rfl) λv1 g1 tk1 p1 kk1=>?_⟩
  .exact(u0h _ _ (λz:S=b=>nf (z ▸ bf))).trans q
  .exact k v1 g1 tk1 (by rw[j8 hn];exact p1) λb o b1 b2 q=>kk1 b o b1 b2 ((u0h _ _ (u1j b2)).trans (kk b o b1 q))
end
theorem zb7 (x d:Value):argsOk "max" ⟨[x],[(Str.ofString "default",d)]⟩:=by unfold argsOk;kernel_rfl
theorem V2 {prog:Program}{w:World}{A:Around}{E:Value->Shared->Prop}{s:Shared}{x d:Value}{Q:Value->Shared->Prop}
 (h:wpAny (model prog w) A.in1 (pyIter x) (λi s₂=>∃ it fp wr n P St bt,i=.ref it/\Walks prog w A.in1 it fp wr n P St/\St 0 s₂.heap/\(∀ b∈fp,b < s₂.heap.objs.size)/\CmpOf prog w A.in1 .Gt P bt /\
  ∀ v g tk,(if n=0 then v=d else P (argBest bt (n - 1)) v)->(∀ b o,b∉wr->s₂.heap.get? b=some o->g.get? b=some o)->Q v { s₂ with heap:=g,toks:=tk }) E s) :
 wpAny (model prog w) A (call (.builtin "max") [x] [(Str.ofString "default",d)]) Q E s:=by
 refine PyProof.Rows.kmk_tree F.kind_max F.plain_max F.entry_max (zb7 x d) ?_
 show wpAny _ A.in1 (Builtin.Builtins.bindParams "max" ["key","default"] 0 ⟨[],[(Str.ofString "default",d)]⟩>>=_) _ _ s
 refine u0 (wpAny_of_eq (show Builtin.Builtins.bindParams "max" ["key","default"] 0 ⟨[],[(Str.ofString "default",d)]⟩=pure [none,some d]from rfl) (u0 (u9 ?_)))
 refine u0 (u1b h (λi s₂ h₂=>?_) λ_ _ e=>e)
 obtain⟨it,fp,wr,n,P,St,bt,rfl,W,st,hfp,cm,k⟩:=h₂
 refine u0 (u1c ?_)
 have nf:s₂.heap.objs.size∉fp:=λz=>u0I _ (hfp _ z)
 rw[vU]
 refine u9 ⟨u3h u2h _,zhe W bt cm nf (W.frame _ _ _ st λb _ o e=>u4 _ e) (r8 _ rfl) λv g tk p kk=>?_⟩
 exact k v g tk p λb o b1 e=>kk b o b1 (p5 (j9 e)) (u4 _ e)
end PySem
namespace L2
open PySem PySem.Spec PyProof.Rows
section
variable {X:Cx}{e de:Expr}{p pos kp:Pos}{t:TA}{td:TE}
def zmi (K:W.Frag)(t:TA)(td:TE):TE:=fun σ H Q=>t σ H λvs H1=>td σ H1 λy H2=>∃ (a:Addr) (ns:List Int) (k:Int),vs=[.ref a]/\y=.int k/\SqL K H2 a (ns.map V.int)/\Q (.int (if ns=[]then k else Dl.maxL ns)) H2
theorem zi4 (hc:X.calm=true) (hg:Gl X "max") (hm:X.mg "max"=none) (hv:bootBuiltins "max"=some (.builtin "max")) (ha:PA X [e] t) (hd:PE X de td) (he:backTo pos (starEach [e] X.env)=(false,eval e X.env)::backTo pos (starEach [] X.env):=by rfl) (hpl:(backTo pos (starEach [e] X.env)).any (·.1)=false:=by rfl) :
 PE X (.Call (.Name "max" p) [e] [⟨some "default",de,kp⟩] pos) (zmi X.K t td):=by
 intro pins s σ H Q I h
 refine u1I (vt I hg hm hv ?_ (by decide) (by decide))
 refine u2w (thn (ha pos pins s σ H _ I h) λus s1 ⟨vs,H1,I1,r1,q1⟩=>u22 (thn (hd pins s1 σ H1 _ I1 q1) λud s2 ⟨y,H2,I2,r2,q2⟩=>u3e ?_)) he hpl
 obtain⟨a,ns,k,rfl,rfl,hq,q⟩:=q2
 obtain⟨u,rfl,ru⟩:=za7 r1
 cases ru
 obtain⟨tk0,rfl⟩:=r2
 letI:Dl.KK:=⟨X.K⟩
 refine V2 (Dl.seq_walk I2 (I2.ok.hd hc) (.inl hq) λit its fp wr St s₂ rv W st fpl back=>?_)
 have hl:=rv.length
 rw[u5]at hl
 refine⟨it,fp,wr,_,_,St,λi j=>decide (ns.getD j 0 < ns.getD i 0),rfl,W,st,fpl,λi j vi vj s Q E hi hj hQ=>?_,λv h' tk hv kk=>?_⟩
 .obtain⟨t1,rfl⟩:=Dl.vals_int rv hi
  obtain⟨t2,rfl⟩:=Dl.vals_int rv hj
  exact PyProof.Rows.gt_int hQ
 .by_cases hn:ns=[]
  .subst hn
   have h0:its.length=0:=hl.symm
   rw[j3 h0]at hv
   subst hv
   exact⟨.int k,H2,back h' tk kk,⟨tk0,rfl⟩,by rw[j3 rfl]at q;exact q⟩
  .have hpos:0 < ns.length:=List.length_pos_iff.mpr hn
   rw[j8 (by omega)]at hv
   obtain⟨t,rfl⟩:=Dl.vals_int rv hv
   rw[j8 hn]at q
   refine⟨.int (Dl.maxL ns),H2,back h' tk kk,⟨t,?_⟩,q⟩
   have key:=Dl.best_ge (λi=>ns.getD i 0) (its.length - 1)
   have hb:argBest (λi j=>decide (ns.getD j 0 < ns.getD i 0)) (its.length - 1) < ns.length:=by
    have:=(key 0 (u0D _)).2
    omega
   rw[Dl.max_is (m:=ns.getD (argBest (λi j=>decide (ns.getD j 0 < ns.getD i 0)) (its.length - 1)) 0) (Dl.getD_mem hb)]
   intro x hx
   obtain⟨j,hj,rfl⟩:=u0i hx
   have:=(key j (by omega)).1
   rw[<-Dl.getD_at hj]
   exact this
end
end L2
namespace Dl
open PySem L2
variable [KK]
section
variable {X:Cx}{e de:Expr}{p pos kp:Pos}
def zb3:D->D->Option D
 | .lst ds,.int k=>(V8 ds).map λns=>.int (if ns=[]then k else maxL ns)
 | _,_=>none
theorem zf3 {f h:Ev->Option D} (hc:X.calm=true) (hg:Gl X "max") (hm:X.mg "max"=none) (ha:ED X e f) (hd:ED X de h) (hs:starEach [e] X.env=(false,eval e X.env)::starEach [] X.env:=by rfl) (he:backTo pos (starEach [e] X.env)=(false,eval e X.env)::backTo pos (starEach [] X.env):=by rfl) (hpl:(backTo pos (starEach [e] X.env)).any (·.1)=false:=by rfl) :
 ED X (.Call (.Name "max" p) [e] [⟨some "default",de,kp⟩] pos) (zm zb3 f h):=by
 obtain⟨ta,pa,ra⟩:=ha
 obtain⟨td,pd,rd⟩:=hd
 refine⟨_,zi4 hc hg hm zbg (Zz pa za6 hs) pd he hpl,fun σ ρ F H z Q s va e q=>?_⟩
 obtain⟨d,e1,e⟩:=u3.mp e
 obtain⟨k,e2,e3⟩:=u3.mp e
 refine ra σ ρ F H d _ s va e1 λF1 H1 v g1 a1=>?_
 refine rd σ ρ F1 H1 k _ g1.fh (va.mono g1.ff) e2 λF2 H2 y g2 a2=>?_
 unfold zb3 at e3
 split at e3 <;> try cases e3
 obtain⟨ns,hn,rfl⟩:=t7.mp e3
 cases Zp hn
 obtain⟨a,xs,rfl,hx,al⟩:=(a1.mono g2.ff).lst_inv
 cases al.of_ints
 exact⟨a,ns,_,rfl,a2.int_inv,SqL.of (g2.fh _ _ hx),q F2 H2 _ (g1.trans g2) .int⟩
end
end Dl
namespace Dl
open PySem L2
def zjL (t:List Int):List (List Int)->List (List Int)
 | []=>[t]
 | u::us=>if HT.lexLt u t=true then u::zjL t us else t::u::us
def yh:List (List Int)->List (List Int)
 | []=>[]
 | t::ts=>zjL t (yh ts)
theorem zbl (t:List Int):∀ us:List (List Int),(zjL t us).Perm (t::us):=by
 intro us
 induction us with
 | nil=>exact u1Z _
 | cons u us ih =>
  unfold zjL
  split
  .exact(ih.cons u).trans (List.Perm.swap _ _ _)
  .exact u1Z _
theorem xC:∀ ts:List (List Int),(yh ts).Perm ts:=by
 intro ts
 induction ts with
 | nil=>exact u1Z _
 | cons t ts ih=>exact(zbl t _).trans (ih.cons t)
theorem zf4 (t:List Int):∀ us:List (List Int),us.Pairwise (λa b=>HT.lexLt b a=false)->(zjL t us).Pairwise λa b=>HT.lexLt b a=false:=by
 intro us
 induction us with
 | nil=>intro _;exact List.pairwise_singleton _ _
 | cons u us ih =>
  intro h
  rw[u1g]at h
  unfold zjL
  by_cases c:HT.lexLt u t=true
  .rw[j3 c]
   refine u1g.mpr ⟨λv hv=>?_,ih h.2⟩
   rcases j5.mp ((zbl t us).mem_iff.mp hv)with rfl | hv
   .cases e:HT.lexLt v u with
    | false=>rfl
    | true =>
     have:=OwnSortT.lex_trans _ _ _ c e
     rw[OwnSortT.lex_irr]at this
     cases this
   .exact h.1 v hv
  .rw[j8 c]
   have c:HT.lexLt u t=false:=by cases e:HT.lexLt u t with
    | false=>rfl
    | true=>exact absurd e c
   refine u1g.mpr ⟨λv hv=>?_,u1g.mpr h⟩
   rcases j5.mp hv with rfl | hv
   .exact c
   .cases e:HT.lexLt v t with
    | false=>rfl
    | true =>
     rcases OwnSortT.lex_neg v u t e with z | z
     .rw[h.1 v hv]at z;cases z
     .rw[c]at z;cases z
theorem vX:∀ ts:List (List Int),(yh ts).Pairwise λa b=>HT.lexLt b a=false:=by
 intro ts
 induction ts with
 | nil=>exact List.Pairwise.nil
 | cons t ts ih=>exact zf4 t _ ih
theorem Zh {ts us:List (List Int)}(p:us.Perm ts)(h:us.Pairwise λa b=>HT.lexLt b a=false):us=yh ts :=
 u2t (le:=λa b=>HT.lexLt b a=false) (λa b _ _ h1 h2=>OwnSortT.lex_total _ _ h2 h1) h (vX ts) (p.trans (xC ts).symm)
variable [KK]
end Dl
namespace Dl
open PySem L2
def b3:D->Option (List (Option D))
 | .tup [x,y,z]=>some [some x,some y,some z]
 | _=>none
end Dl
namespace Dl
open PySem L2
variable [KK]
theorem edv {X:Cx} (i:Nat) {x:Str} {pos:Pos} (hN:X.N[i]?=some x:=by rfl) (hv:Vis X.env.scope x:=by first | exact Or.inl rfl | exact Or.inr (Or.inl rfl) | exact Or.inr (Or.inr rfl)) (hd:(x == ("__debug__":Str))=false:=by decide)
 (hcd:(x == ("__classdict__":Str))=false:=by decide):ED X (.Name x pos) (zc i):=zkA i (pv i hN hv hd hcd)
theorem zo {X:Cx}{x:Str}{j k m:Nat}{f:Addr}{fd:FuncData}{ps:List Str}{st:Stmt}{p:List D->Option D}{e:Expr}{es:List Expr}{pp pos:Pos}{fa:Ev->Option (List D)}(F:yW X.prog X.w X.K X.mg X.base CX0 j f fd ps (spD m p))(hr:wC k X.A)(hg:Gl X x)(d:Def X.K X.mg x st ps f fd)
 (ha:AD X (e::es) fa) (hj:j<=k:=by decide) (hdb:(x == ("__debug__":Str))=false:=by decide) (he:starEach (e::es) X.env=(false,eval e X.env)::starEach es X.env:=by rfl) (hpl:(backTo pos (starEach es X.env)).any (·.1)=false:=by rfl) :
 ED X (.Call (.Name x pp) (e::es) [] pos) (zz m p fa):=zfe (F.mono hj) hr hg d.at_ d.kp d.bd ha hdb he hpl
end Dl
namespace L2
open PySem PySem.Spec PyProof.Rows PySem.W
structure ZR (base:Heap) (mg:Str->Option Value) (c P:Addr) (q:Str):Prop where
 hd:CodeHd base c P
 mt:base.objs[P]?=some (YA q)
 bm:base.BuiltinsAt mg P
def zbm (H:Hp)(ca:Addr)(q:Str):Prop:=∃ oc vs t P,H ca=some (.frz oc (.own P))/\oc.data=.fields vs/\vs[1]?=some (.str q t)
theorem zbm.at {P:Program}{w:World}{H:Hp}{h:Heap}{ca:Addr}{q:Str}(x:zbm H ca q)(ok:HOk P w H h):h.CodeRec (.ref ca) q:=by
 obtain⟨oc,vs,t,P',e,d,g⟩:=x
 exact⟨ca,oc,vs,t,rfl,(ok ca _ e).1,d,g⟩
theorem zbm.mono {H H':Hp}{ca:Addr}{q:Str}(x:zbm H ca q)(k:∀ b o,H b=some o->H' b=some o):zbm H' ca q:=by
 obtain⟨oc,vs,t,P',e,r⟩:=x
 exact⟨oc,vs,t,P',k _ _ e,r⟩
theorem zfy {base:Heap}{P:Addr}{q:Str}(h:base.objs[P]?=some (YA q)):base.get? P=none:=by
 unfold Heap.get?
 rw[h]
 rfl
theorem zd4 {pos p2:Pos}{c x:Value}(l:List Value)(h:TriplesOk l)(hc:codeAmong pos (l++[rawInt p2.line,rawInt p2.col,x])=some c):codeAmong pos l=some c\/c=x:=by
 fun_induction TriplesOk l with
 | case1 =>
  simp only[u3o,codeAmong,rawInt]at hc
  split at hc
  .cases hc;exact .inr rfl
  .cases hc
 | case2 a t b u y rest ih =>
  simp only[List.cons_append,codeAmong]at hc ⊢
  split at hc
  .rename_i hh;rw[j3 hh];exact .inl hc
  .rename_i hh;rw[j8 hh];exact ih h hc
 | case3 l h1 h2=>exact h.elim
section
variable {X:Cx}{pins:List (Addr × Obj)}{σ:St}{H:Hp}{s:Shared}{c P:Addr}{q:Str}{params:Arguments}{body:Expr}{scope:Scope}{pos:Pos}{clos:List (Str × Addr)}{A:Around}{E:Value->Shared->Prop}
abbrev zaJ (X:Cx) (q:Str) (params:Arguments) (body:Expr) (scope:Scope) (clos:List (Str × Addr)) (ca:Addr) (ctv:Value):Obj:=kla_obj "<lambda>" q params body scope clos ((X.mg "__name__").getD .none) ca ctv
theorem Inv.pushed {h':Heap}{tk:Nat}{o:Obj}(I:Inv X pins σ H { s with heap:=h',toks:=tk })(hd:∀ v,o.data≠.cell v)(hf:o.data≠.freed)(hfd:(h'.push o).get? h'.objs.size=some o) :
 Inv X (pins++Yz [h'.objs.size] (h'.push o)) σ H { s with heap:=h'.push o,toks:=tk }:=by
 have I2:=I.un (t':=tk) (H':=H) (h':=h'.push o) (Un.kept λ_ _ q=>u4 _ q) (I.hok.kept λ_ _ q=>u4 _ q)
 exact I2.pinned (fp:=[h'.objs.size]) (λb hb=>by rw[d4.mp hb];exact I.fpOk (q5 _) (I.hok.fresh (q5 _))) (λb hb=>by rw[d4.mp hb];exact⟨o,hfd,hd⟩)
theorem zdp {Q:Value->Shared->Prop} (L:ZR X.base X.mg c P q) (hcd:X.env.code=.ref c) (hcl:closureFor scope X.env=pure clos) (hdef:defaultsOf params X.env=([],[])) (hq:X.env.qual++"<lambda>"=q) (I:Inv X pins σ H s)
 (h:∀ (f ca:Addr) (ctv:Value) (H':Hp) (s':Shared),(∀ b o,H b=some o->H' b=some o)->Inv X (pins++Yz [f] s'.heap) σ H' s'->s'.heap.get? f=some (zaJ X q params body scope clos ca ctv)->zbm H' ca q->Q (.ref f) s') :
 wpAny (model X.prog X.w) A (eval (.Lambda params body scope pos) X.env) Q E s:=by
 refine kla_eval hdef ?_
 rw[hq]
 have tb:H P=some (.tbl #[.str q 0]):=I.bs.2 P q L.mt
 obtain⟨qs,eP,tr,all⟩:=(show xt X.prog X.w H s.heap P (.tbl #[.str q 0])from I.hok P _ tb)
 have C:=L.hd.keeps I.bk
 have hg:s.heap.Ns mainGlobals X.mg:=I.ok.mod.glob.keeps I.bk
 have hgP:mainGlobals≠P:=λz=>by
  obtain⟨o,es,ep,e,hd,_⟩:=I.ok.mod.glob
  rw[z,zfy L.mt]at e
  cases e
 have hb:=L.bm.keeps I.bk
 cases hcode:codeAmong pos qs.toList with
 | some cv =>
  obtain⟨ca,oc,vs,q',t,t2,rfl,ow,od,ov,ep⟩:=all pos cv hcode
  obtain rfl:q'=q:=by
   have:some (Value.str q 0)=some (.str q' t2):=ep
   cases this
   rfl
  refine kla_makeFunctionHit (mg:=X.mg) hcl I.ok.glob hg hcd C eP tr hcode hb λctv h' tk hk hsz=>?_
  have I1:=I.un (t':=tk) (H':=H) (h':=h') (Un.kept hk) (I.hok.kept hk)
  refine h _ ca ctv H _ (λ_ _ e=>e) (I1.pushed (o:=zaJ X q' params body scope clos ca ctv) (λv z=>by cases z) (λz=>by cases z) (r8 _ rfl)) (r8 _ rfl) ⟨oc,vs,t,P,ow,od,ov⟩
 | none =>
  refine kla_makeFunction (mg:=X.mg) hcl I.ok.glob hg hcd C eP tr hcode hgP hb λc' ctv h' tk hx hge hlt hrec htb=>?_
  have hc0:H c'=none:=I.hok.fresh hge
  have cP:c'≠P:=λz=>by rw[z,tb]at hc0;cases hc0
  obtain⟨c2,oc,vs,t,e2,hoc,hdc,hv⟩:=id hrec
  cases e2
  have ext:∀ b o,H b=some o->upd H c' (.frz oc (.own P)) b=some o:=λb o e=>by rw[zq (zk e hc0)];exact e
  have hP':∀ b,H b=none->b≠P:=λb e z=>by rw[z,tb]at e;cases e
  have hok:HOk X.prog X.w (upd H c' (.frz oc (.own P))) h':=λa o e=>by
   by_cases ha:a=c'
   .subst ha
    rw[zn]at e
    cases e
    exact⟨hoc,oc,hoc⟩
   .rw[zq ha]at e
    by_cases hp:a=P
    .subst hp
     rw[tb]at e
     cases e
     refine⟨_,htb,?_,λp2 cc hcc=>?_⟩
     .rw[u0a];exact TriplesOk_snoc _ _ _ _ tr
     .rw[u0a]at hcc
      rcases zd4 _ tr hcc with hcc | rfl
      .obtain⟨ca,o3,v3,q',t3,t4,ec,ow,r⟩:=all p2 cc hcc
       exact⟨ca,o3,v3,q',t3,t4,ec,ext _ _ ow,r⟩
      .exact⟨c',oc,vs,q,t,0,rfl,zn,hdc,hv,rfl⟩
    .refine(I.hok a o e).stay (λb u hb g=>hx b u ?_ g) (λb g=>ext _ _ g) (λb xs g=>ext _ _ g) λb o u g=>ext _ _ g
     rcases hb with rfl | hb
     .exact hp
     .intro z
      rw[z,tb]at hb
      cases hb
  have I1:Inv X pins σ (upd H c' (.frz oc (.own P))) { s with heap:=h',toks:=tk }:=I.un (t':=tk)
   ⟨λb o e n _ _=>hx b o (hP' b n) e,λb o e n _ _=>⟨o.slots,hx b o (hP' b n) e⟩,λb o e n _=>by rw[zq (p5 (d8 (j9 e) hge))];exact n,λb o e _=>(by
    by_cases z:b=P
    .exact⟨_,z ▸ htb⟩
    .exact⟨o,hx b o z e⟩),λb xs e=>ext _ _ e,λb o u e=>ext _ _ e,λb ps e=>ext _ _ e⟩ hok
  refine h _ c' ctv _ _ ext (I1.pushed (o:=zaJ X q params body scope clos c' ctv) (λv z=>by cases z) (λz=>by cases z) (r8 _ rfl)) (r8 _ rfl) ⟨oc,vs,t,P,zn,hdc,hv⟩
end
structure wF (X:Cx) (x:Str) (M:List Str) (scope:Scope) (cl:List (Str × Addr)):Prop where
 clos:closureFor scope X.env=pure cl
 cell:∀ y∈scope.names,y.2≠.cell
 kind:scope.kind=.function
 par:scope.names.lookup x=some .local
 co:scope.isCoroutine=false
 gen:scope.isGenerator=false
 sub:∀ y c,cl.lookup y=some c->X.env.cells.lookup y=some c
 has:∀ y,(scope.names.lookup y=some .cell\/scope.names.lookup y=some .free)->∃ c,cl.lookup y=some c
 mlen:M.length=X.N.length
 msk:∀ (i:Nat) y,M[i]?=some y->Vis scope y->X.N[i]?=some y
 vis:∀ (i:Nat) y,M[i]?=some y->Vis scope y->(scope.names.lookup y=some .cell\/scope.names.lookup y=some .free)
 out:∀ (i:Nat) y,M[i]?=some y->Vis scope y->Vis X.env.scope y/\X.env.kindOf y≠some .local
def zbh (X:Cx)(x:Str)(M:List Str)(q:Str)(scope:Scope)(cl:List (Str × Addr))(f ca:Addr)(A:Around)(s:Shared)(H:Hp):Cx :=
 { X with A:=A.deeper (envX q scope s.heap.objs.size f (.ref ca) cl),N:=x::M,s₀:=s,H₀:=H,env:=envX q scope s.heap.objs.size f (.ref ca) cl,outer:=X.stack,stack:=envX q scope s.heap.objs.size f (.ref ca) cl::X.stack,ex:=[],calm:=true,fn:=λ_=>false,pn:=[],xe:=λ_ _=>False }
section
variable {X:Cx}{pins:List (Addr × Obj)}{σ:St}{H:Hp}{s:Shared}{q x:Str}{params:Arguments}{body:Expr}{scope:Scope}{cl:List (Str × Addr)}{M:List Str}{A:Around}{f ca:Addr}{ctv:Value}{v:V}{u:Value}{te:TE}{Q:VK}{k:Nat}
theorem zhh (S:wF X x M scope cl)(hr:wC k A)(hfr:A.frames=some X.stack)(I:Inv X pins σ H s)(ho:s.heap.get? f=some (zaJ X q params body scope cl ca ctv))(rc:zbm H ca q)
 (hbind:bindArgs (kla_fn "<lambda>" q params body scope cl ((X.mg "__name__").getD .none) (.ref ca) ctv) ⟨[u],[]⟩=pure [(x,u)]) (he:PE (zbh X x M q scope cl f ca A s H) body te) (rv:xk v u) (ht:te (some v::σ) H Q) :
 codeAny (model X.prog X.w) A (.call (.ref f) ⟨[u],[]⟩) (λr s'=>∃ y,r=.ok (.ret y)/\EP X pins σ Q y s') s:=by
 refine kla_callFunE hr.depth ho rfl S.co S.gen rfl (rc.at I.hok) ?_
 rw[hbind]
 refine u9 (wpAny_newFunctionEnv S.cell (λy hy=>by rw[d4.mp hy];exact S.par) (λh₁ hns hsb=>?_) S.kind)
 have k34:∀ b o,s.heap.get? b=some o->h₁.get? b=some o:=λb o e=>hsb.extBut b o (p5 (j9 e)) (u4 _ e)
 refine⟨I.nolimit.keeps k34,?_⟩
 show codeAny _ _ (.expr body (envX q scope s.heap.objs.size f (.ref ca) cl)) _ _
 let Y:Cx:=zbh X x M q scope cl f ca A s H
 have noA:∀ b:Addr,b∉Y.ex:=λb z=>absurd (show b∈([]:List Addr)from z) (by simp)
 have OkY:Y.Ok:=⟨I.ok.mod,S.kind,rfl,rfl,q5 _,λy z c h1 h2=>I.ok.inj y z c (S.sub y c h1) (S.sub z c h2),λy hy=>S.has y hy,(λy c h _=>absurd h u7),λ_=>hr.hd,Around.frames_deeper hfr,.inr ⟨rfl,rfl⟩,λb z=>absurd z (noA b),I.bs,u0B I.ok.bsz I.sz,λb _ _=>noA b,λb z=>absurd z (noA b),I.stack,I.stkFree⟩
 have IY:Inv Y [] (some v::σ) H { s with heap:=h₁,toks:=s.toks+[(x,u)].length }:=by
  refine⟨OkY,rfl,I.bare,Un.kept k34,⟨_,hns,λi y w e1 e2 e3=>?_⟩,λy c e=>?_,I.hok.fresh (q5 _),λy c e=>I.freeC y c (S.sub y c e),λp hp=>absurd (show p∈([]:List (Addr × Obj))from hp) (by simp),I.hok.kept k34,?_⟩
  .cases i with
   | zero =>
    have e1:some x=some y:=e1
    have e2:some (some v)=some (some w):=e2
    cases e1
    cases e2
    refine⟨u,rv,.inl ⟨S.par,?_⟩⟩
    show List.lookup x ([(x,u)].reverse)=some u
    simp
   | succ i =>
    have e0':M[i]?=some y:=e1
    have e2':σ[i]?=some (some w):=e2
    have e1':=S.msk _ y e0' e3
    obtain⟨ov,ok⟩:=S.out _ y e0' e3
    obtain⟨m,hn,hl⟩:=I.loc
    obtain⟨u2,ru,lk⟩:=hl _ y w e1' e2' ov
    refine⟨u2,ru,?_⟩
    rcases lk with ⟨hk,_⟩ | ⟨_,c,hc',hcell⟩
    .exact absurd hk ok
    .have kn:=S.vis _ y e0' e3
     obtain⟨c',hc2⟩:=S.has y kn
     have:=S.sub y c' hc2
     rw[hc']at this
     cases this
     refine .inr ⟨kn,c,hc2,?_⟩
     obtain⟨o,ho,hd⟩:=hcell
     exact⟨o,k34 _ _ ho,hd⟩
  .obtain⟨w,o,ho,hd⟩:=I.cell y c (S.sub y c e)
   exact⟨w,o,k34 _ _ ho,hd⟩
  .show σ.length+1=M.length+1
   rw[I.len,S.mlen]
 refine kla_codeExpr (u1b (he [] _ _ H Q IY ht) (λy s' h=>?_) λe s' z=>z.elim)
 obtain⟨w,H',J,rw',q'⟩:=h
 exact⟨y,rfl,I.after ⟨w,H',J.os,J.bare,J.base,J.hok,rw',q'⟩⟩
end
section
variable {X:Cx}{pins:List (Addr × Obj)}{σ:St}{H:Hp}{s:Shared}
theorem Inv.own2 {b:Addr}{h':Heap}{tk:Nat}(I:Inv X pins σ H s)(f:VD X pins H b)(k:∀ c o,c≠b->s.heap.get? c=some o->h'.get? c=some o)(hb:∃ o,h'.get? b=some o):Inv X pins σ H { s with heap:=h',toks:=tk }:=by
 obtain⟨f0,f1,f2,f3,f4,f5⟩:=f
 have k':∀ c o,c∉[b]->s.heap.get? c=some o->h'.get? c=some o:=λc o hc e=>k c o (λz=>hc (d4.mpr z)) e
 refine I.call' (s':={ s with heap:=h',toks:=tk }) (ch:=[b]) rfl ⟨λc o e _ _ hx=>k' c o hx e,λc o e _ _ hx=>⟨o.slots,k' c o hx e⟩,λ_ _ _ n _=>n,λc o e hx=>⟨o,k' c o hx e⟩,λ_ _ q=>q,λ_ _ _ q=>q,λ_ _ q=>q⟩ ?_ I.bare λc hc=>?_
 .intro c oc e
  refine(I.hok c oc e).stay (λc' v hc q=>k c' v (λz=>?_) q) (λ_ q=>q) λ_ _ q=>q
  subst z
  rcases hc with z | z
  .rw[<-z,f0]at e;cases e
  .rw[f0]at z;cases z
 .rw[d4.mp hc]
  exact⟨f3,f1,f4,f5⟩
def zdx (md:Bool)(H:Hp)(b:Addr)(t:List Int):Prop:=match md with
 | false=>H b=some (.tup (t.map V.int))
 | true=>∃ i c us,t=i::us/\H b=some (.tup [.int i,.ref c])/\H c=some (.tup (us.map V.int))
theorem zdx.mono {md:Bool}{H H':Hp}{b:Addr}{t:List Int}(x:zdx md H b t)(k:∀ b o,H b=some o->H' b=some o):zdx md H' b t:=by
 cases md with
 | false=>exact k _ _ x
 | true =>
  obtain⟨i,c,us,e,h1,h2⟩:=x
  exact⟨i,c,us,e,k _ _ h1,k _ _ h2⟩
structure zjF (md:Bool) (X:Cx) (pins:List (Addr × Obj)) (σ:St) (H0:Hp) (a kS:Addr) (e1:Nat) (ts:List (List Int)) (keys:Array Value) (H:Hp) (s:Shared):Prop where
 inv:Inv X pins σ H s
 up:∀ b o,H0 b=some o->H b=some o
 ha:s.heap.get? a=some (seqObj "list" #[] e1)
 hk:∃ e,s.heap.get? kS=some (seqObj "list" keys e)
 fa:VD X pins H a
 fk:VD X pins H kS
 ks:keys.size<=ts.length/\∀ (j:Nat) (v:Value),keys[j]?=some v->∃ b t,v=.ref b/\ts[j]?=some t/\zdx md H b t
theorem zhf {md:Bool}{H0:Hp}{a kS f:Addr}{e1:Nat}{vs:List Value}{ts:List (List Int)}{P:PySem.Fin->Shared->Prop}{E:Value->Shared->Prop}{A:Around}(hak:a≠kS)(hlen:ts.length=vs.length)(hz:vs.length < sizeLine)
 (turn:∀ (i:Nat) (v:Value) (t:List Int),vs[i]?=some v->ts[i]?=some t->∀ (pins1:List (Addr × Obj)) (H1:Hp) (s1:Shared),(∀ b o,H0 b=some o->H1 b=some o)->Inv X (pins++pins1) σ H1 s1 ->
  wpAny (model X.prog X.w) A (call (.ref f) [v]) (λy s2=>∃ b H2,y=.ref b/\(∀ b o,H1 b=some o->H2 b=some o)/\zdx md H2 b t/\Inv X (pins++pins1) σ H2 s2) (λ_ _=>False) s1)
 (S:zjF md X pins σ H0 a kS e1 ts #[] H s)
 (fin:∀ keys H' s',zjF md X pins σ H0 a kS e1 ts keys H' s'->keys.size=vs.length->wpAny (model X.prog X.w) A (ksk_end a false vs.toArray e1 (.ref kS) keys) P E s') :
 wpAny (model X.prog X.w) A (ksk_rest a (.ref f) false vs.toArray e1 (.ref kS)) P E s:=by
 unfold ksk_rest
 refine u0 (u1p ?_)
 first
  | rw[List.forIn_toArray]
  | (rw[<-Array.forIn_toList];simp only[List.toList_toArray])
  | rw[<-Array.forIn_toList]
 refine u0 (ksk_fold (λi s'=>∃ keys H',zjF md X pins σ H0 a kS e1 ts keys H' s'/\keys.size=i) vs 0 s ⟨#[],H,S,rfl⟩ ?step ?done)
 case step =>
  rintro j x s' hx ⟨keys,H1,S1,hj⟩
  rw[u1n]at hj ⊢
  have hjv:j < vs.length:=(u8.mp hx).1
  obtain⟨tj,hjt⟩:∃ t,ts[j]?=some t:=⟨_,u6 (by omega)⟩
  obtain⟨e,hk⟩:=S1.hk
  have nc:∀ {o:Obj} {its:Array Value} {n:Nat},o=seqObj "list" its n->∀ v,o.data≠.cell v:=λh v z=>by rw[h]at z;cases z
  have I1:=S1.inv.pinned (fp:=[a,kS]) (λb hb=>by
   rcases j5.mp hb with rfl | hb
   .exact S1.fa
   .rw[d4.mp hb];exact S1.fk) (λb hb=>by
   rcases j5.mp hb with rfl | hb
   .exact⟨_,S1.ha,nc rfl⟩
   .rw[d4.mp hb];exact⟨_,hk,nc rfl⟩)
  refine u0 (u1V (u1b (turn j x tj hx hjt _ H1 s' S1.up I1) (λy s2 he=>?_) λ_ _ hF=>hF.elim))
  obtain⟨b,H2,rfl,up2,hb2,I2⟩:=he
  have pa:=I2.pin (a,seqObj "list" #[] e1) (o0 _ (o0 _ (yH (.head _) S1.ha)))
  have pk:=I2.pin (kS,seqObj "list" keys e) (o0 _ (o0 _ (yH (.tail _ (.head _)) hk)))
  have I3:=I2.unpinned
  try dsimp only
  obtain⟨c2,hc2⟩:∃ c2,(s2.heap.update kS (Obj.mapSeq (·.push (.ref b)))).get? kS=some (seqObj "list" (keys.push (.ref b)) c2):=⟨_,u2b pk.1 (·.push (.ref b))⟩
  have s1:=u1h s2.heap kS (Obj.mapSeq (·.push (.ref b)))
  refine u0 (u1u pk.1 rfl ?_ (by rw[hj];omega) (u0B (u3D (u33 ..)) (by rw[hj];omega)))
  refine u9 ⟨rfl,keys.push (.ref b),H2,⟨?_,λc o z=>up2 _ _ (S1.up _ _ z),(s1.2 a hak).trans pa.1,⟨c2,hc2⟩,⟨pa.2.1,S1.fa.2⟩,⟨pk.2.1,S1.fk.2⟩,?_,λi v hv=>?_⟩,by rw[u33,hj]⟩
  .exact I3.own2 (b:=kS) (tk:=s2.toks) ⟨pk.2.1,S1.fk.2⟩ (λc o hc z=>(s1.2 c hc).trans z) ⟨_,hc2⟩
  .rw[u33,hj];omega
  .rw[Array.getElem?_push]at hv
   split at hv
   .rename_i hi
    cases hv
    refine⟨b,tj,rfl,?_,hb2⟩
    rw[hi,hj]
    exact hjt
   .obtain⟨b2,t2,e1',e2',e3'⟩:=S1.ks.2 i v hv
    exact⟨b2,t2,e1',e2',e3'.mono up2⟩
 case done =>
  rintro s' ⟨keys,H1,S1,hj⟩
  obtain⟨e,hk⟩:=S1.hk
  refine u0 (u1G hk rfl (fin keys H1 s' S1 (by rw[hj,u1n])))
end
end L2
namespace OwnSortT
open PySem PyProof.Rows OwnSort
def NT (h:Heap) (v:Value) (t:List Int):Prop:=∃ a o n i tk c us,v=.ref a/\h.get? a=some o/\o.cls=.type "tuple"/\o.data=.seq [Value.int i tk,.ref c].toArray n/\t=i::us/\∃ o2 n2 its,h.get? c=some o2/\o2.cls=.type "tuple"/\o2.data=.seq its.toArray n2/\IntsAre its us
theorem NT.uniq {h:Heap}{v:Value}{s t:List Int}(x:NT h v s)(y:NT h v t):s=t:=by
 obtain⟨a,o,n,i,tk,c,us,rfl,e1,_,d1,rfl,o2,n2,its,f1,_,g1,i1⟩:=x
 obtain⟨b,p,m,j,tj,d,ws,e,e2,_,d2,rfl,p2,m2,its',f2,_,g2,i2⟩:=y
 cases e
 rw[e1]at e2
 cases e2
 rw[d1]at d2
 have e3:[Value.int i tk,.ref c].toArray=[Value.int j tj,.ref d].toArray:=by injection d2
 have e3:=u29 e3
 cases e3
 rw[f1]at f2
 cases f2
 rw[g1]at g2
 have e4:its.toArray=its'.toArray:=by injection g2
 cases u29 e4
 rw[Wj i1 i2]
def TN (md:Bool)(h:Heap)(v:Value)(t:List Int):Prop:=match md with
 | false=>TT h v t
 | true=>NT h v t
theorem TN.uniq {md:Bool}{h:Heap}{v:Value}{s t:List Int}(x:TN md h v s)(y:TN md h v t):s=t:=by
 cases md with
 | false=>exact TT.uniq x y
 | true=>exact NT.uniq x y
open Classical in
noncomputable def keyTN (md:Bool)(h:Heap)(v:Value):Option (List Int):=if x:∃ t,TN md h v t then some x.choose else none
theorem keyTN_of {md:Bool}{h:Heap}{v:Value}{t:List Int}(x:TN md h v t):keyTN md h v=some t:=by
 unfold keyTN
 have y:∃ t,TN md h v t:=⟨t,x⟩
 rw[dif_pos y,y.choose_spec.uniq x]
@[reducible] noncomputable def XI (md:Bool) (h:Heap):KeyKind where
 α:=List Int
 blt:=HT.lexLt
 irrefl:=lex_irr
 trans:=lex_trans
 negTrans:=lex_neg
 total:=lex_total
 keyOf:=keyTN md h
 dflt:=[]
section
variable {prog:Program}{w:World}{A:Around}{E:Value->Shared->Prop}{s:Shared}
theorem zfI:∀ {vs:List Value} {ns:List Int},IntsAre vs ns->∀ {j:Nat} (h:j < vs.length),∃ t,vs[j]=.int (ns.getD j 0) t:=by
 intro vs ns h
 induction h with
 | nil=>intro j h;simp at h
 | cons n t h ih =>
  intro j hj
  cases j with
  | zero=>exact⟨t,rfl⟩
  | succ j=>exact ih (by simpa using hj)
theorem ziM:∀ (ns ms:List Int),((List.range (min ns.length ms.length)).all (λj=>ns.getD j 0 == ms.getD j 0)&&ns.length == ms.length)=decide (ns=ms):=by
 intro ns ms
 rw[u12,u0n,u0o,p6,d5]
 constructor
 .rintro⟨h1,h2⟩
  refine u3T h2 λi g1 g2=>?_
  have:=h1 i (i8.mpr (by omega))
  rw[p6,d9,d9,u6 g1,u6 g2]at this
  exact this
 .rintro rfl
  exact⟨λj _=>u1C _,rfl⟩
theorem zjG {c d:Addr} {o o2:Obj} {n n2:Nat} {xs ys:List Value} {ns ms:List Int} (hu:A.units < cLine) (e1:s.heap.get? c=some o) (c1:o.cls=.type "tuple") (d1:o.data=.seq xs.toArray n) (i1:IntsAre xs ns) (e2:s.heap.get? d=some o2) (c2:o2.cls=.type "tuple") (d2:o2.data=.seq ys.toArray n2) (i2:IntsAre ys ms) :
 SeqAt.EqAt A s (.ref c) (.ref d) (decide (ns=ms)):=by
 by_cases h:c=d
 .subst h
  rw[e1]at e2
  cases e2
  rw[d1]at d2
  have e3:xs.toArray=ys.toArray:=by injection d2
  cases u29 e3
  rw[Wj i1 i2,i5 rfl]
  exact .same _
 .have l1:=i1.length
  have l2:=i2.length
  have:=SeqAt.RcAt.tuples (A:=A) (s:=s) (l:=c) (b:=d) (items:=xs.toArray) (items2:=ys.toArray) (e:=λj=>ns.getD j 0 == ms.getD j 0) ⟨o,e1,c1,n,d1⟩ ⟨o2,e2,c2,n2,d2⟩ hu λj g1 g2=>by
   obtain⟨t,ht⟩:=zfI i1 (j:=j) (by simpa using g1)
   obtain⟨u,hu⟩:=zfI i2 (j:=j) (by simpa using g2)
   simp only[List.getElem_toArray,ht,hu]
   exact .int_int _ _ _ _
  rw[t9,t9,l1,l2,ziM]at this
  exact u2G h this
theorem ziR {c d:Addr} {o o2:Obj} {n n2:Nat} {xs ys:List Value} {ns ms:List Int} {Q:Bool->Shared->Prop} (hu:A.units < cLine) (e1:s.heap.get? c=some o) (c1:o.cls=.type "tuple") (d1:o.data=.seq xs.toArray n) (i1:IntsAre xs ns) (e2:s.heap.get? d=some o2) (c2:o2.cls=.type "tuple") (d2:o2.data=.seq ys.toArray n2) (i2:IntsAre ys ms) (h:Q (HT.lexLt ns ms) s) :
 wpAny (model prog w) A (oneLt' false (.ref c) (.ref d)) Q E s:=by
 rw[oneLt'_eq]
 rw[j8 u7]
 exact u0 (HT.lt_tupInts (items:=xs.toArray) (items2:=ys.toArray) ⟨o,e1,c1,n,d1⟩ ⟨o2,e2,c2,n2,d2⟩ i1 i2 hu (u1d h))
theorem zgc {md:Bool}{x y:Value}{a b:List Int}{Q:Bool->Shared->Prop}(hu:A.units < cLine)(hx:TN md s.heap x a)(hy:TN md s.heap y b)(h:Q (HT.lexLt a b) s):wpAny (model prog w) A (keyLt' (tuples' true) x y) Q E s:=by
 cases md with
 | false=>exact ze0 hx hy h
 | true =>
  obtain⟨p,o,n,i,tk,c,us,rfl,e1,_,d1,rfl,o3,n3,xs,f1,c1,g1,i1⟩:=hx
  obtain⟨q,o2,n2,j,tj,d,ws,rfl,e2,_,d2,rfl,o4,n4,ys,f2,c2,g2,i2⟩:=hy
  rw[zaU]
  refine u0 (u1G e1 d1 (u0 (u1G e2 d2 ?_)))
  simp only[u1F,u3C,u1Y,u3r,u16,u2g]
  refine u0 (u0 (u0 (u2F i tk j tj prog w E _ ?_)))
  rw[HT.lexLt_cons]at h
  by_cases k1:i=j
  .rw[j3 k1]at h
   rw[show(i == j)=true by rw[k1];exact u1C _]
   refine u9 (u0 (u0 (zjG hu f1 c1 g1 i1 f2 c2 g2 i2 prog w E _ ?_)))
   by_cases k2:us=ws
   .rw[i5 k2]
    refine u9 (u9 (u9 ?_))
    rw[k2,lex_irr]at h
    exact h
   .rw[h9 k2]
    exact u0 (ziR hu f1 c1 g1 i1 f2 c2 g2 i2 (u9 (u9 (u9 h))))
  .rw[j8 k1]at h
   rw[show(i == j)=false by simpa using k1]
   exact u0 (oneLt_int (u9 (u9 (u9 h))))
theorem zhk {md:Bool} {h:Heap} {v:Value} {t:List Int} (x:TN md h v t):∃ a o n i0 tk zs,v=.ref a/\h.get? a=some o/\o.cls=.type "tuple"/\o.data=.seq (Value.int i0 tk::zs).toArray n:=by
 cases md with
 | false =>
  obtain⟨a,o,n,its,rfl,e1,c1,d1,hi,hne⟩:=(show TT h v t from x)
  cases hi with
  | nil=>exact absurd rfl hne
  | cons i0 tk hi=>exact⟨a,o,n,i0,tk,_,rfl,e1,c1,d1⟩
 | true =>
  obtain⟨a,o,n,i,tk,c,us,rfl,e1,c1,d1,_⟩:=(show NT h v t from x)
  exact⟨a,o,n,i,tk,_,rfl,e1,c1,d1⟩
theorem Vt {md:Bool}:∀ {vs:List Value} {Q:List (Option Value)->Shared->Prop},(∀ v∈vs,∃ t,TN md s.heap v t)->(∀ fs:List Value,fs.length=vs.length->(∀ f∈fs,∃ i t,f=.int i t)->Q (fs.map some) s)->wpAny (model prog w) A (vs.mapM firstOfTuple') Q E s
 | [],Q,_,h=>by rw[List.mapM_nil];exact u9 (h [] rfl (by simp))
 | v::vs,Q,hT,h=>by
  obtain⟨t,ht⟩:=hT v u0F
  obtain⟨a,o,n,i0,tk,zs,rfl,e1,c1,d1⟩:=zhk ht
  rw[u4d,zbi]
  refine u0 (u0 (u3F (T:="tuple") ⟨o,e1,c1⟩ ?_))
  rw[j8 (by simp)]
  refine u0 (u1G e1 d1 (u9 (u0 (Vt (λu hu=>hT u (u0b _ hu)) λfs hl hf=>u9 ?_))))
  exact h (.int i0 tk::fs) (by simp[hl]) λf hf'=>by
   rcases j5.mp hf' with rfl | hf'
   .exact⟨_,_,rfl⟩
   .exact hf f hf'
theorem zev {md:Bool}{v₁:Value}{vs:List Value}{Q:SortKind->Shared->Prop}(hT:∀ v∈v₁::vs,∃ t,TN md s.heap v t)(h:Q (tuples' true) s):wpAny (model prog w) A (keyKind' (v₁::vs).toArray) Q E s:=by
 rw[keyKind'_eq,u2Q,<- bind_pure_comp,bind_assoc]
 refine u0 (Vt hT λfs hl hf=>u0 (u9 ?_))
 cases fs with
 | nil=>simp at hl
 | cons f fs =>
  rw[j3 (by simp)]
  have ef:((f::fs).map some).toArray.filterMap id=(f::fs).toArray:=by simp
  refine u0 (u1p ?_)
  rw[ef,oneTypeOnly'_eq,u2Q,VX hf]
  simp only[map_pure,pure_bind]
  rw[show(List.map (λ_=>Value.type "int") (f::fs)).toArray[0]?=some (Value.type "int") by simp]
  have al:((List.map (λ_=>Value.type "int") (f::fs)).toArray.all λx=>x == Value.type "int")=true:=by
   simp only[List.all_toArray,u15,u0o]
   intro _ _
   rfl
  simp only[al,u2H,pure_bind,Option.any_some]
  rw[show(Value.type "int" != Value.type "tuple")=true by decide +kernel]
  exact u9 h
end
end OwnSortT
namespace OwnKey
open PySem PyProof.Rows OwnSort OwnSortT
section
variable {prog:Program}{w:World}{A:Around}{E:Value->Shared->Prop}{s:Shared}
theorem zgT {keys:Array Value}{vs:List Value}{x:Keyed}(h:x∈(keys.zip vs.toArray).toList):x.1∈keys.toList:=by
 rw[ksk_zip]at h
 obtain⟨x1,x2⟩:=x
 exact(u3p h).1
theorem zfv {md:Bool}{keys:Array Value}{vs:List Value}(hu:A.units < cLine)(hT:∀ v∈keys.toList,∃ t,TN md s.heap v t):OwnTim.LtE prog w A E s (XI md s.heap) (tuples' true) (·∈(keys.zip vs.toArray).toList):=by
 intro st x y Q hk hx hy h
 have look:∀ {x:Keyed},x∈(keys.zip vs.toArray).toList->∃ t,TN md s.heap x.1 t/\OwnTim.ky (XI md s.heap) x=t:=λ{x} hm=>by
  obtain⟨t,ht⟩:=hT _ (zgT hm)
  refine⟨t,ht,?_⟩
  unfold OwnTim.ky
  show(keyTN md s.heap x.1).getD _=t
  rw[keyTN_of ht]
  rfl
 obtain⟨a,ta,ka⟩:=look hx
 obtain⟨b,tb,kb⟩:=look hy
 rw[ka,kb]at h
 rw[lt'_eq]
 refine r9 (u3u ?_)
 rw[hk]
 exact r9 (u3G (u1V (zgc hu ta tb ⟨rfl,d6 h⟩)))
def zef (md:Bool)(h:Heap)(xs:Array Keyed):Prop:=xs.toList.Pairwise λp q=>HT.lexLt ((keyTN md h q.1).getD ([]:List Int)) ((keyTN md h p.1).getD ([]:List Int))=false
theorem zhz {md:Bool}{h:Heap}{xs:Array Keyed}{n:Nat}(hn:xs.size=n)(hs:SortedToK (XI md h) xs n):zef md h xs:=by
 unfold zef
 rw[u0y]
 intro i j hi hj hij
 have hi':i < xs.size:=by simpa using hi
 have hj':j < xs.size:=by simpa using hj
 have:=hs i j (u2a hij) (by rw[<-hn];exact hj')
 unfold KK at this
 rw[u2y xs i hi',u2y xs j hj']at this
 have this:HT.lexLt ((keyTN md h xs[j].1).getD ([]:List Int)) ((keyTN md h xs[i].1).getD ([]:List Int))=false:=this
 simpa using this
theorem zfR {a kS:Addr} {e e1:Nat} {keys:Array Value} {vs:List Value} {st:SortSt} {P:PySem.Fin->Shared->Prop} (hlen:keys.size=vs.length) (h64:vs.length < 10000000) (hk:s.heap.get? kS=some (seqObj "list" keys e)) (ha:s.heap.get? a=some (seqObj "list" #[] e1)) (hak:a≠kS)
 (pm:(arrOf st).Perm (keys.zip vs.toArray)) (fl:failedOf st=none)
 (h:P (.done (.ret .none)) { s with heap:=(s.heap.update kS (Obj.mapSeq λ_=>#[])).update a (Obj.mapSeq λ_=>(arrOf st).map (·.2)) }):wpAny (model prog w) A (ksk_tail a false e1 (.ref kS) st) P E s:=by
 have s1:=u1h s.heap kS (Obj.mapSeq λ_=>(#[]:Array Value))
 have na1:(s.heap.update kS (Obj.mapSeq λ_=>(#[]:Array Value))).get? a=some (seqObj "list" #[] e1):=(s1.2 a hak).trans ha
 have hsz2:(arrOf st).size=vs.length:=by rw[pm.size_eq,Array.size_zip,hlen,t9,u2v]
 unfold ksk_tail
 try dsimp only
 refine u0 (u1u hk rfl ?_ (by rw[hlen,u1K];omega) (u0D _))
 refine u0 (u2s ?_)
 refine u0 (u2r na1 rfl ?_)
 refine u0 (u1u na1 rfl ?_ (u0D _) (by rw[j8 u7,u2U,hsz2,u1K];omega))
 rw[fl]
 simp only[bne_self_eq_false,u3A,u4m]
 exact u9 h
theorem zli {md:Bool} {a kS:Addr} {e e1:Nat} {keys:Array Value} {vs:List Value} {P:PySem.Fin->Shared->Prop} (hlen:keys.size=vs.length) (h64:vs.length < 10000000) (hu:A.units < cLine) (hT:∀ v∈keys.toList,∃ t,TN md s.heap v t) (hk:s.heap.get? kS=some (seqObj "list" keys e)) (ha:s.heap.get? a=some (seqObj "list" #[] e1)) (hak:a≠kS)
 (h:∀ xs:Array Keyed,xs.Perm (keys.zip vs.toArray)->zef md s.heap xs->P (.done (.ret .none)) { s with heap:=(s.heap.update kS (Obj.mapSeq λ_=>#[])).update a (Obj.mapSeq λ_=>xs.map (·.2)) }) :
 wpAny (model prog w) A (ksk_end a false vs.toArray e1 (.ref kS) keys) P E s:=by
 have hzs:(keys.zip vs.toArray).size=vs.length:=by rw[Array.size_zip,hlen,t9,u2v]
 unfold ksk_end
 try dsimp only
 rw[j8 u7]
 by_cases h2:vs.toArray.size < 2
 .rw[j3 h2,j3 h2]
  refine u0 (u9 ?_)
  rw[u37]
  refine u0 (u9 ?_)
  try dsimp only
  refine zfR (st:=SortSt.mk' general' (keys.zip vs.toArray) #[] 7 none) hlen h64 hk ha hak (u1M _) rfl (h _ (u1M _) ?_)
  unfold zef
  rw[u0y]
  intro i j hi hj hij
  have hj':j < (keys.zip vs.toArray).size:=by rw[r6]at hj;exact hj
  rw[t9]at h2
  rw[hzs]at hj'
  omega
 .rw[j8 h2,j8 h2]
  rw[t9]at h2
  obtain⟨k1,ks,ek⟩:∃ k1 ks,keys.toList=k1::ks:=by
   cases q:keys.toList with
   | nil =>
    have:=u1o List.length q
    rw[r6,u17]at this
    omega
   | cons k1 ks=>exact⟨k1,ks,rfl⟩
  have ek2:keys=(k1::ks).toArray:=by rw[<-ek,Array.toArray_toList]
  have hT2:=hT
  rw[ek]at hT2
  have kk:wpAny (model prog w) A (keyKind' keys) (λk s'=>k=tuples' true/\s'=s) E s:=by
   rw[ek2]
   exact zev hT2 ⟨rfl,rfl⟩
  refine u0 (u1b kk (λk s' hks=>?_) λ_ _ z=>z)
  obtain⟨rfl,rfl⟩:=hks
  refine u0 (u1b (OwnTim.own_runsE (a₀:=keys.zip vs.toArray) (st:=SortSt.mk' (tuples' true) (keys.zip vs.toArray) #[] 7 none) (Q:=λ_ t=>(arrOf t).Perm (keys.zip vs.toArray)/\failedOf t=none/\SortedToK (XI md _) (arrOf t) (keys.zip vs.toArray).size)
   (zfv hu hT) (u1M _) rfl rfl rfl λt p1 p2 p3=>⟨p1,p2,p3⟩) ?_ λ_ _ z=>z)
  rintro⟨⟨⟩,t⟩ s' ⟨rfl,p1,p2,p3⟩
  exact zfR hlen h64 hk ha hak p1 p2 (h _ p1 (zhz p1.size_eq p3))
end
end OwnKey
namespace L2
open PySem PySem.Spec PyProof.Rows PySem.W OwnKey
theorem zeB {α β:Type}{f:α->β}{l m:List β}(p:l.Perm m):∀ Z:List α,m=Z.map f->∃ Z':List α,Z'.Perm Z/\l=Z'.map f:=by
 induction p with
 | nil=>intro Z e;exact⟨Z,.refl _,e⟩
 | cons x p ih =>
  intro Z e
  cases Z with
  | nil=>cases e
  | cons z Z =>
   rw[u0e]at e
   obtain⟨e1,e2⟩:=u1T e
   obtain⟨Z',p',rfl⟩:=ih Z e2
   exact⟨z::Z',p'.cons z,by rw[u0e,e1]⟩
 | swap x y l =>
  intro Z e
  cases Z with
  | nil=>cases e
  | cons z Z =>
   cases Z with
   | nil=>cases e
   | cons z2 Z =>
    rw[u0e,u0e]at e
    obtain⟨e1,e2⟩:=u1T e
    obtain⟨e2,e3⟩:=u1T e2
    exact⟨z2::z::Z,.swap _ _ _,by rw[u0e,u0e,e1,e2,e3]⟩
 | trans p1 p2 ih1 ih2 =>
  intro Z e
  obtain⟨Z2,q2,e2⟩:=ih2 Z e
  obtain⟨Z3,q3,e3⟩:=ih1 Z2 e2
  exact⟨Z3,q3.trans q2,e3⟩
theorem zcg:∀ {t:List Int} {its:List Value},yf (t.map V.int) its->IntsAre its t
 | [],_,.nil=>.nil
 | n::t,_,.cons h r=>by
  obtain⟨tk,rfl⟩:=h
  exact .cons n tk (zcg r)
section
variable {X:Cx}{pins:List (Addr × Obj)}{σ:St}{H:Hp}{s:Shared}
theorem Inv.trackF {a:Addr}{o:HO}(I:Inv X pins σ H s)(f:VD X pins H a)(h0:X.s₀.heap.objs.size<=a)(new:xt X.prog X.w (upd H a o) s.heap a o):Inv X pins σ (upd H a o) s:=by
 obtain⟨ha,neL,_,_,neC,hp⟩:=f
 have nz:∀ b u,X.s₀.heap.get? b=some u->b≠a:=λb u e z=>absurd (d8 (j9 e) (z ▸ h0)) (u0I _)
 have ext:∀ b u,H b=some u->upd H a o b=some u:=λb u e=>by rw[zq (zk e ha)];exact e
 refine⟨I.ok,I.os,I.bare,⟨I.base.keep,I.base.slot,λb u e n hx=>?_,I.base.there,λb xs e=>ext _ _ (I.base.tups b xs e),λb u v e=>ext _ _ (I.base.frzs b u v e),λb ps e=>ext _ _ (I.base.tbls b ps e)⟩,I.loc,I.cell,?_,λx c e=>?_,λp hq=>?_,λb u e=>?_,I.len⟩
 .rw[zq (nz b u e)]
  exact I.base.free b u e n hx
 .rw[zq (u1j neL)]
  exact I.free
 .rw[zq (neC x c e)]
  exact I.freeC x c e
 .obtain⟨e,n,r⟩:=I.pin p hq
  exact⟨e,by rw[zq (hp p hq)];exact n,r⟩
 .by_cases c:b=a
  .subst c
   rw[zn]at e
   cases e
   exact new
  .rw[zq c]at e
   exact(I.hok b u e).stay (λ_ _ _ q=>q) (λc hc=>ext _ _ hc) (λc xs hc=>ext _ _ hc) λc ob v hc=>ext _ _ hc
theorem zls {md:Bool}{P:Program}{w:World}{h:Heap}{b:Addr}{t:List Int}(ok:HOk P w H h)(e:zdx md H b t)(hne:t≠[]):OwnSortT.TN md h (.ref b) t:=by
 cases md with
 | false =>
  obtain⟨_,its,r,o,e1,c,n,d⟩:=(show xt P w H h b (.tup (t.map V.int))from ok b _ e)
  exact⟨b,o,n,its,rfl,e1,c,d,zcg r,hne⟩
 | true =>
  obtain⟨i,c,us,rfl,h1,h2⟩:=e
  obtain⟨_,its,r,o,e1,c1,n,d⟩:=(show xt P w H h b (.tup [.int i,.ref c])from ok b _ h1)
  obtain⟨_,its2,r2,o2,e2,c2,n2,d2⟩:=(show xt P w H h c (.tup (us.map V.int))from ok c _ h2)
  cases r with
  | cons q r =>
   cases r with
   | cons q2 r =>
    cases r
    obtain⟨tk,rfl⟩:=q
    cases q2
    exact⟨b,o,n,i,tk,c,us,rfl,e1,c1,d,rfl,o2,n2,its2,e2,c2,d2,zcg r2⟩
theorem ze1:∀ {xs:List V} {vs:List Value},xs.length=vs.length->(∀ p∈xs.zip vs,xk p.1 p.2)->yf xs vs
 | [],[],_,_=>.nil
 | x::xs,v::vs,hl,h=>.cons (h (x,v) (.head _)) (ze1 (by simpa using hl) λp hp=>h p (.tail _ hp))
theorem zgU {md:Bool}{f a:Addr}{n:Nat}{vs:List Value}{xs:List V}{ts:List (List Int)}{P:PySem.Fin->Shared->Prop}{E:Value->Shared->Prop}{A:Around}(rv:yf xs vs)(hlen:ts.length=vs.length)(h64:vs.length < 10000000)(hne:∀ t∈ts,t≠[])(hu:A.units < cLine)
 (I:Inv X pins σ H s) (ho:s.heap.get? a=some (seqObj "list" vs.toArray n)) (fa:VD X pins H a) (h0:X.s₀.heap.objs.size<=a)
 (turn:∀ (i:Nat) (v:Value) (t:List Int),vs[i]?=some v->ts[i]?=some t->∀ (pins1:List (Addr × Obj)) (H1:Hp) (s1:Shared),(∀ b o,H b=some o->H1 b=some o)->Inv X (pins++pins1) σ H1 s1 ->
  wpAny (model X.prog X.w) A (call (.ref f) [v]) (λy s2=>∃ b H2,y=.ref b/\(∀ b o,H1 b=some o->H2 b=some o)/\zdx md H2 b t/\Inv X (pins++pins1) σ H2 s2) (λ_ _=>False) s1)
 (fin:∀ (zs:List (List Int × V)) (H':Hp) (s':Shared),zs.Perm (ts.zip xs)->zs.Pairwise (λp q=>HT.lexLt q.1 p.1=false)->(∀ b o,H b=some o->H' b=some o)->H' a=none->Inv X pins σ (upd H' a (.lst (zs.map (·.2)))) s'->P (.done (.ret .none)) s') :
 wpAny (model X.prog X.w) A (ksk_tree a (.ref f) false) P E s:=by
 have sl:vs.length < sizeLine:=by rw[u1K];omega
 have ha:a < s.heap.objs.size:=j9 ho
 have s1:=u1h s.heap a (Obj.mapSeq λ_=>(#[]:Array Value))
 obtain⟨e1,ho1⟩:∃ e1,(s.heap.update a (Obj.mapSeq λ_=>(#[]:Array Value))).get? a=some (seqObj "list" #[] e1):=⟨_,u2b ho λ_=>#[]⟩
 have I1:=I.own2 (b:=a) (tk:=s.toks) fa (λc o hc z=>(s1.2 c hc).trans z) ⟨_,ho1⟩
 unfold ksk_tree
 refine u0 (u1G ho rfl ?_)
 refine u0 (u1u ho rfl ?_ (by rw[t9];omega) (u0D _))
 refine u0 (u2r ho1 rfl ?_)
 refine u0 (u3L ?_ (by show vs.length<=_;omega))
 refine u0 (u2J ?_ (u0D _))
 refine u08 ?_
 have I2:=I1.un (t':=s.toks) (H':=H) (h':=(s.heap.update a (Obj.mapSeq λ_=>(#[]:Array Value))).push (seqObj "tuple" vs.toArray 0)) (Un.kept λ_ _ q=>u4 _ q) (I1.hok.kept λ_ _ q=>u4 _ q)
 have I3:=I2.un (t':=s.toks) (H':=H) (h':=((s.heap.update a (Obj.mapSeq λ_=>(#[]:Array Value))).push (seqObj "tuple" vs.toArray 0)).push (seqObj "list" #[] 0)) (Un.kept λ_ _ q=>u4 _ q) (I2.hok.kept λ_ _ q=>u4 _ q)
 have hkS:((s.heap.update a (Obj.mapSeq λ_=>(#[]:Array Value))).push (seqObj "tuple" vs.toArray 0)).objs.size=s.heap.objs.size+1:=by rw[size_push',Heap.size_update]
 have hak:a≠((s.heap.update a (Obj.mapSeq λ_=>(#[]:Array Value))).push (seqObj "tuple" vs.toArray 0)).objs.size:=by rw[hkS];exact p5 (u1O ha)
 refine zhf (md:=md) (X:=X) (pins:=pins) (σ:=σ) (H0:=H) (H:=H) (ts:=ts) hak hlen sl turn ⟨I3,λ_ _ z=>z,u4 _ (u4 _ ho1),⟨0,r8 _ rfl⟩,fa,I2.fpOk (q5 _) (I2.hok.fresh (q5 _)),⟨u0D _,λj v hv=>by simp at hv⟩⟩ λkeys H' s' S hks=>?_
 obtain⟨e,hk⟩:=S.hk
 have keyAt:∀ (j:Nat) (v:Value),keys[j]?=some v->∃ t,ts[j]?=some t/\OwnSortT.TN md s'.heap v t:=λj v hv=>by
  obtain⟨b,t,rfl,h1,h2⟩:=S.ks.2 j v hv
  exact⟨t,h1,zls S.inv.hok h2 (hne t (j4 h1))⟩
 refine zli (md:=md) hks h64 hu (λv hv=>?_) hk S.ha hak λys pm rise=>?_
 .obtain⟨j,hj,rfl⟩:=u0i hv
  obtain⟨t,_,h2⟩:=keyAt j keys.toList[j] (by rw[<-u0G,u6 hj])
  exact⟨t,h2⟩
 .have kl:keys.toList.length=vs.length:=by rw[r6];exact hks
  have xl:xs.length=vs.length:=rv.length
  obtain⟨Z,hZ⟩:∃ Z:List (Keyed × (List Int × V)),(keys.toList.zip vs).zip (ts.zip xs)=Z:=⟨_,rfl⟩
  have z1:Z.map (·.1)=keys.toList.zip vs:=by rw[<-hZ];exact List.map_fst_zip (by rw[u03,u03];omega)
  have z2:Z.map (·.2)=ts.zip xs:=by rw[<-hZ];exact u3U (by rw[u03,u03];omega)
  have zf:∀ z∈Z,OwnSortT.TN md s'.heap z.1.1 z.2.1/\xk z.2.2 z.1.2:=λz hz=>by
   rw[<-hZ]at hz
   obtain⟨i,hi,rfl⟩:=u0i hz
   rw[u03,u03,u03]at hi
   have i1:i < keys.toList.length:=by omega
   have i2:i < vs.length:=by omega
   have i3:i < ts.length:=by omega
   have i4:i < xs.length:=by omega
   rw[u27,u27,u27]
   obtain⟨t,h1,h2⟩:=keyAt i keys.toList[i] (by rw[<-u0G,u6 i1])
   rw[u6 i3]at h1
   cases h1
   refine⟨h2,?_⟩
   obtain⟨u,hu,r⟩:=rv.get (u6 i4)
   rw[u6 i2]at hu
   cases hu
   exact r
  have pl:ys.toList.Perm (keys.toList.zip vs):=by rw[<-ksk_zip];exact u0H.mp pm
  obtain⟨Z',p',ey⟩:=zeB pl Z z1.symm
  have zf':∀ z∈Z',OwnSortT.TN md s'.heap z.1.1 z.2.1/\xk z.2.2 z.1.2:=λz hz=>zf z (p'.mem_iff.mp hz)
  have sorted:(Z'.map (·.2)).Pairwise (λp q=>HT.lexLt q.1 p.1=false):=by
   unfold zef at rise
   rw[ey,u0Q]at rise
   rw[u0Q]
   refine rise.imp_of_mem λ{p q} hp hq hr=>?_
   rw[OwnSortT.keyTN_of (zf' p hp).1,OwnSortT.keyTN_of (zf' q hq).1]at hr
   exact hr
  have eo:(ys.map (·.2)).toList=Z'.map (λz=>z.1.2):=by rw[Array.toList_map,ey,u0j];rfl
  have vo:yf ((Z'.map (·.2)).map (·.2)) (ys.map (·.2)).toList:=by
   rw[eo,u0j]
   refine ze1 (by rw[u5,u5]) λp hp=>?_
   rw[List.zip_map']at hp
   obtain⟨z,hz,rfl⟩:=u0A.mp hp
   exact(zf' z hz).2
  have zl:Z'.length=vs.length:=by rw[p'.length_eq,<- hZ,u03,u03,u03];omega
  have t1:=u1h s'.heap ((s.heap.update a (Obj.mapSeq λ_=>(#[]:Array Value))).push (seqObj "tuple" vs.toArray 0)).objs.size (Obj.mapSeq λ_=>(#[]:Array Value))
  obtain⟨c1,g1⟩:∃ c1,(s'.heap.update ((s.heap.update a (Obj.mapSeq λ_=>(#[]:Array Value))).push (seqObj "tuple" vs.toArray 0)).objs.size (Obj.mapSeq λ_=>(#[]:Array Value))).get? ((s.heap.update a (Obj.mapSeq λ_=>(#[]:Array Value))).push (seqObj "tuple" vs.toArray 0)).objs.size=some (seqObj "list" #[] c1):=⟨_,u2b hk λ_=>#[]⟩
  have J1:=S.inv.own2 (tk:=s'.toks) S.fk (λc o hc z=>(t1.2 c hc).trans z) ⟨_,g1⟩
  have na1:=(t1.2 a hak).trans S.ha
  have t2:=u1h (s'.heap.update ((s.heap.update a (Obj.mapSeq λ_=>(#[]:Array Value))).push (seqObj "tuple" vs.toArray 0)).objs.size (Obj.mapSeq λ_=>(#[]:Array Value))) a (Obj.mapSeq λ_=>ys.map (·.2))
  obtain⟨c2,g2⟩:∃ c2,((s'.heap.update ((s.heap.update a (Obj.mapSeq λ_=>(#[]:Array Value))).push (seqObj "tuple" vs.toArray 0)).objs.size (Obj.mapSeq λ_=>(#[]:Array Value))).update a (Obj.mapSeq λ_=>ys.map (·.2))).get? a=some (seqObj "list" (ys.map (·.2)) c2):=⟨_,u2b na1 λ_=>ys.map (·.2)⟩
  have J2:=J1.own2 (b:=a) (tk:=s'.toks) S.fa (λc o hc z=>(t2.2 c hc).trans z) ⟨_,g2⟩
  refine fin (Z'.map (·.2)) H' _ (by rw[<-z2];exact p'.map _) sorted S.up S.fa.1 (J2.trackF S.fa h0 ⟨by rw[u5,u5,zl];omega,(ys.map (·.2)).toList,c2,vo,?_⟩)
  rw[g2]
end
section
variable {X:Cx}{e body:Expr}{params:Arguments}{scope:Scope}{p pos kp lp:Pos}{t:TA}{te:TE}{q x:Str}{M:List Str}{cl:List (Str × Addr)}{c P:Addr}{k:Nat}
def zkn (md:Bool)(t:TA)(te:TE):TE:=fun σ H Q=>t σ H λvs H1=>∃ (l:Addr) (xs:List V) (ts:List (List Int)),vs=[.ref l]/\H1 l=some (.lst xs)/\ts.length=xs.length/\xs.length < 10000000/\(∀ t∈ts,t≠[]) /\
 (∀ (i:Nat) (y:V) (t:List Int),xs[i]?=some y->ts[i]?=some t->∀ H2:Hp,(∀ b o,H1 b=some o->H2 b=some o)->te (some y::σ) H2 λz H3=>∃ b,z=.ref b/\(∀ b o,H2 b=some o->H3 b=some o)/\zdx md H3 b t) /\
 ∀ (zs:List (List Int × V)) (D:Addr) (H':Hp),zs.Perm (ts.zip xs)->zs.Pairwise (λp q=>HT.lexLt q.1 p.1=false)->(∀ b o,H1 b=some o->H' b=some o)->H' D=none->H1 D=none->Q (.ref D) (upd H' D (.lst (zs.map (·.2))))
theorem Vz {md:Bool}{pins:List (Addr × Obj)}{σ:St}{H1 H2:Hp}{s2:Shared}{h2:Heap}{u:Value}{f ca:Addr}{ctv:Value}{xs:List V}{ts:List (List Int)}{Q:VK}(hr:wC (k+4) X.A)(S:wF X x M scope cl)
 (hbind:∀ (pm cdv ctv u:Value),bindArgs (kla_fn "<lambda>" q params body scope cl pm cdv ctv) ⟨[u],[]⟩=pure [(x,u)])
 (hb:∀ f ca A s H,PE (zbh X x M q scope cl f ca A s H) body te) (up2:∀ b o,H1 b=some o->H2 b=some o) (I2:Inv X (pins++Yz [f] h2) σ H2 s2) (hf:h2.get? f=some (zaJ X q params body scope cl ca ctv)) (cx:zbm H2 ca q)
 (hcol:∀ (Q':List Value->Shared->Prop) (E':Value->Shared->Prop),(∀ its s3,yf xs its->Inv X (pins++Yz [f] h2) σ H2 s3->Q' its s3)->wpAny (model X.prog X.w) X.A.in1 (collect u) Q' E' s2)
 (hlen:ts.length=xs.length) (h64:xs.length < 10000000) (hne:∀ t∈ts,t≠[])
 (turn:∀ (i:Nat) (y:V) (t:List Int),xs[i]?=some y->ts[i]?=some t->∀ H2:Hp,(∀ b o,H1 b=some o->H2 b=some o)->te (some y::σ) H2 λz H3=>∃ b,z=.ref b/\(∀ b o,H2 b=some o->H3 b=some o)/\zdx md H3 b t)
 (fin:∀ (zs:List (List Int × V)) (D:Addr) (H':Hp),zs.Perm (ts.zip xs)->zs.Pairwise (λp q=>HT.lexLt q.1 p.1=false)->(∀ b o,H1 b=some o->H' b=some o)->H' D=none->H1 D=none->Q (.ref D) (upd H' D (.lst (zs.map (·.2))))) :
 wpAny (model X.prog X.w) X.A (call (.builtin "sorted") [u] [(Str.ofString "key",.ref f)]) (EP X pins σ Q) X.xe s2:=by
 have hfr:X.A.in1.in1.frames=some X.stack:=I2.ok.frames
 have hr2:wC k X.A.in1.in1:=(hr.mono (by omega:k+2<=k+4)).in1.in1
 refine call_function_entry_kw kind_sorted plain_sorted entry_sorted (ksk_s1 _ _) ?_
 unfold Builtin.«sorted»
 refine u0 (m:=checkCount "sorted" 1 1 _) (u9 ?_)
 refine u0 (hcol _ _ λits s3 rv I3=>?_)
 have hvl:=rv.length
 have hn2:H2 s3.heap.objs.size=none:=I3.hok.fresh (q5 _)
 refine u0 (u2J ?_ (by rw[u1K];omega))
 have hoL:(s3.heap.push (seqObj "list" its.toArray 0)).get? s3.heap.objs.size=some (seqObj "list" its.toArray 0):=r8 _ rfl
 have I4:=I3.un (t':=s3.toks) (H':=H2) (h':=s3.heap.push (seqObj "list" its.toArray 0)) (Un.kept λ_ _ e=>u4 _ e) (I3.hok.kept λ_ _ e=>u4 _ e)
 show wpAny _ _ _ _ _ { s3 with heap:=s3.heap.push (seqObj "list" its.toArray 0) }
 refine u0 (u08 (wpAny_call_entry_kw slot_list_sort ⟨_,hoL,rfl⟩ entry_list_sort ?body (ksk_l1 _ _)))
 case body =>
  show wpAny (model X.prog X.w) X.A.in1.in1 (Builtin.«list.sort» ⟨[.ref s3.heap.objs.size],[(Str.ofString "key",.ref f)]⟩) _ _ _
  rw[ksk_t1]
  refine zgU (md:=md) (X:=X) (pins:=pins++Yz [f] h2) (σ:=σ) (H:=H2) (ts:=ts) rv (by omega) (by omega) hne (u0f (i7 _ _) hr2.units) I4 hoL (I3.fpOk (q5 _) hn2) I3.sz (λi v t hv ht pins1 H3 s4 up3 I5=>?_) λzs H' s' pz sz up ha I5=>⟨_,rfl,u9 ⟨_,rfl,?_⟩⟩
  .have hi:i < xs.length:=by rw[hvl];exact(u8.mp hv).1
   obtain⟨y,hy⟩:∃ y,xs[i]?=some y:=⟨_,u6 hi⟩
   obtain⟨u,hu,ry⟩:=rv.get hy
   rw[hv]at hu
   cases hu
   have hf3:=(I5.pin (f,_) (o0 _ (u2e _ (o0 _ (yH (d4.mpr rfl) hf))))).1
   refine wpAny_call (u3E (zhh S hr2 hfr I5 hf3 (cx.mono up3) (hbind _ _ _ _) (hb f ca _ s4 H3) ry (turn i y t hy ht H3 λb o z=>up3 _ _ (up2 _ _ z))) λr s' hrs=>?_)
   obtain⟨w,rfl,v,H5,I6,rw',b,rfl,up5,hb5⟩:=hrs
   exact⟨b,H5,rw',up5,hb5,I6⟩
  .refine⟨.ref s3.heap.objs.size,_,I5.unpinned,rfl,fin zs _ H' pz sz (λb o z=>up _ _ (up2 _ _ z)) ha ?_⟩
   cases z:H1 s3.heap.objs.size with
   | none=>rfl
   | some o=>rw[up2 _ _ z]at hn2;cases hn2
theorem zdb {md:Bool} (hr:wC (k+4) X.A) (hg:Gl X "sorted") (hm:X.mg "sorted"=none) (hv:bootBuiltins "sorted"=some (.builtin "sorted")) (ha:PA X [e] t)
 (L:ZR X.base X.mg c P q) (hcd:X.env.code=.ref c) (S:wF X x M scope cl) (hdef:defaultsOf params X.env=([],[])) (hq:X.env.qual++"<lambda>"=q)
 (hbind:∀ (pm cdv ctv u:Value),bindArgs (kla_fn "<lambda>" q params body scope cl pm cdv ctv) ⟨[u],[]⟩=pure [(x,u)])
 (hb:∀ f ca A s H,PE (zbh X x M q scope cl f ca A s H) body te)
 (he:backTo pos (starEach [e] X.env)=(false,eval e X.env)::backTo pos (starEach [] X.env):=by rfl) (hpl:(backTo pos (starEach [e] X.env)).any (·.1)=false:=by rfl) :
 PE X (.Call (.Name "sorted" p) [e] [⟨some "key",.Lambda params body scope lp,kp⟩] pos) (zkn md t te):=by
 intro pins s σ H Q I h
 refine u1I (vt I hg hm hv ?_ (by decide) (by decide))
 refine u2w (thn (ha pos pins s σ H _ I h) λus s1 ⟨vs,H1,I1,r1,q1⟩=>u22 ?_) he hpl
 obtain⟨l,xs,ts,rfl,hl,hlen,h64,hne,turn,fin⟩:=q1
 obtain⟨u,rfl,ru⟩:=za7 r1
 cases ru
 refine zdp (body:=body) (scope:=scope) (clos:=cl) L hcd S.clos hdef hq I1 λf ca ctv H2 s2 up2 I2 hf cx=>u3e ?_
 obtain⟨_,its,n,rv,el⟩:xs.length<=sizeLine/\∃ (its:List Value) (n:Nat),yf xs its/\s2.heap.get? l=some { cls:=.type "list",data:=.seq its.toArray n }:=I2.hok _ _ (up2 _ _ hl)
 have hvl:=rv.length
 have hls:s2.heap.IsList l its.toArray:=⟨_,el,rfl,n,rfl⟩
 refine Vz (md:=md) (H1:=H1) hr S hbind hb up2 I2 hf cx (λQ' E' hQ=>?_) hlen h64 hne turn fin
 refine collect_list hls (hQ its _ rv (I2.un (t':=s2.toks) (H':=H2) (Un.kept ?_) (I2.hok.kept ?_))) (by rw[u1K];omega)
 all_goals
  intro b o q
  have hlt:b < s2.heap.objs.size:=j9 q
  rw[Heap.get?_update_ne _ _ _ _ (p5 hlt),Heap.get?_push_ne _ _ _ (p5 hlt)]
  exact q
end
end L2
namespace OwnKey
open PySem
section
variable {prog:Program}{w:World}{A:Around}{E:Value->Shared->Prop}{s:Shared}
theorem zaE {r:Addr}{a b c:Int}{t u v:Tok}{n:Nat}{Q:List Value->Shared->Prop}(hh:A.handled=none)(hr:IsRange s.heap r a b c t u v)(hsmall:Builtin.Range.small a b c=true)(hn:Builtin.Range.rangeSize a b c=n)(hlen:n<=2 ^ 24)
 (h:∀ (h':Heap) (tk:Nat) (acc:Array Value),(∀ b o,s.heap.get? b=some o->h'.get? b=some o)->ItemsOf (λi v=>∃ t,v=.int (a+i*c) t) acc n->Q acc.toList { s with heap:=h',toks:=tk }):wpAny (model prog w) A (collect (.ref r)) Q E s:=by
 unfold collect
 refine u0 (wpAny_runValue (codeAny_builtin F.entry_proto_collect ?_))
 rw[u3d F.plain_proto_collect _]
 show wpAny _ A.in1 (newList []>>=λl=>again (.builtin "list.__iadd__" ⟨[l,.ref r],[]⟩)) _ _ s
 refine u0 (u1c ?_)
 refine u9 ⟨u3h F.plain_list_iadd _,codeAny_builtin F.entry_list_iadd ?_⟩
 rw[u3d F.plain_list_iadd _]
 show wpAny _ A.in1 (Builtin.List.listExtendWith (.ref s.heap.objs.size) (.ref r) (.ref s.heap.objs.size)) _ _ _
 have last:∀ (r':Result) (s':Shared),(∃ h' tk acc c',r'=.ok (.ret (.ref s.heap.objs.size))/\s'={ s with heap:=h',toks:=tk }/\(∀ b o,s.heap.get? b=some o->h'.get? b=some o)/\h'.get? s.heap.objs.size=some { cls:=.type "list",dict:=none,data:=.seq acc c',slots:=#[] }/\ItemsOf (λi v=>∃ t,v=.int (a+i*c) t) acc n) ->
  wants (λv s'=>wpAny (model prog w) A (match v with
   | .ref a=>do
    let o<-load a
    match o.data with
    | .seq xs _=>pure xs.toList
    | _=>unsupported "internal:collect"
   | _=>unsupported "internal:collect") Q E s') E r' s':=by
  rintro _ _ ⟨h',tk,acc,c',rfl,rfl,k,hS,hacc⟩
  show wpAny _ A (load s.heap.objs.size>>=_) _ _ _
  refine u0 (wpAny_load hS ?_)
  exact u9 (h h' tk acc k hacc)
 refine u1b (wpAny_extend_range (A:=A) (R:=λr' s'=>∃ h' tk acc c',r'=.ok (.ret (.ref s.heap.objs.size))/\s'={ s with heap:=h',toks:=tk }/\(∀ b o,s.heap.get? b=some o->h'.get? b=some o)/\h'.get? s.heap.objs.size=some { cls:=.type "list",dict:=none,data:=.seq acc c',slots:=#[] }/\ItemsOf (λi v=>∃ t,v=.int (a+i*c) t) acc n)
  (s:={ s with heap:=s.heap.push { cls:=.type "list",data:=.seq ([]:List Value).toArray } }) hh (u4 _ hr) hsmall hn hlen s.heap.objs.size _ 0 (r8 _ rfl) λh' tk acc c' k hS hacc=>⟨h',tk,acc,c',rfl,rfl,λb o e=>k b o (p5 (j9 e)) (u4 _ e),hS,hacc⟩) (λfin s' hq=>?_) λe s' hq=>?_
 .cases fin with
  | done f=>exact last _ _ hq
  | again c'=>exact⟨hq.1,u3E hq.2 λr' s'' hq'=>last _ _ hq'⟩
 .exact last _ _ hq
end
end OwnKey
namespace L2
open PySem PySem.Spec PyProof.Rows PySem.W OwnKey
section
variable {X:Cx}{a body:Expr}{params:Arguments}{scope:Scope}{p p2 pos pos2 kp lp:Pos}{ta te:TE}{q x:Str}{M:List Str}{cl:List (Str × Addr)}{c P:Addr}{k:Nat}
def zka (ta te:TE):TE:=fun σ H Q=>ta σ H λy H1=>∃ (j:Nat) (ts:List (List Int)),y=.int (j:Int)/\j<=1000/\ts.length=j/\(∀ t∈ts,t≠[]) /\
 (∀ (i:Nat) (z:V) (t:List Int),((List.range j).map λk:Nat=>V.int (k:Int))[i]?=some z->ts[i]?=some t->∀ H2:Hp,(∀ b o,H1 b=some o->H2 b=some o)->te (some z::σ) H2 λz H3=>∃ b,z=.ref b/\(∀ b o,H2 b=some o->H3 b=some o)/\zdx false H3 b t) /\
 ∀ (zs:List (List Int × V)) (D:Addr) (H':Hp),zs.Perm (ts.zip ((List.range j).map λk:Nat=>V.int (k:Int)))->zs.Pairwise (λp q=>HT.lexLt q.1 p.1=false)->(∀ b o,H1 b=some o->H' b=some o)->H' D=none->H1 D=none->Q (.ref D) (upd H' D (.lst (zs.map (·.2))))
theorem zhZ (hr:wC (k+4) X.A) (hg:Gl X "sorted") (hm:X.mg "sorted"=none) (hv:bootBuiltins "sorted"=some (.builtin "sorted")) (hg2:Gl X "range") (hm2:X.mg "range"=none) (ha:PE X a ta)
 (L:ZR X.base X.mg c P q) (hcd:X.env.code=.ref c) (S:wF X x M scope cl) (hdef:defaultsOf params X.env=([],[])) (hq:X.env.qual++"<lambda>"=q)
 (hbind:∀ (pm cdv ctv u:Value),bindArgs (kla_fn "<lambda>" q params body scope cl pm cdv ctv) ⟨[u],[]⟩=pure [(x,u)])
 (hb:∀ f ca A s H,PE (zbh X x M q scope cl f ca A s H) body te) (hs:starEach [a] X.env=[(false,eval a X.env)]:=by rfl)
 (he:backTo pos (starEach [.Call (.Name "range" p2) [a] [] pos2] X.env)=(false,eval (.Call (.Name "range" p2) [a] [] pos2) X.env)::backTo pos (starEach [] X.env):=by rfl) (hpl:(backTo pos (starEach [.Call (.Name "range" p2) [a] [] pos2] X.env)).any (·.1)=false:=by rfl) :
 PE X (.Call (.Name "sorted" p) [.Call (.Name "range" p2) [a] [] pos2] [⟨some "key",.Lambda params body scope lp,kp⟩] pos) (zka ta te):=by
 intro pins s σ H Q I h
 refine u1I (vt I hg hm hv ?_ (by decide) (by decide))
 refine u2w ?_ he hpl
 rw[he]
 show wpAny _ _ (spliced ((false,eval (.Call (.Name "range" p2) [a] [] pos2) X.env)::[])) _ _ _
 refine u2A ?_
 refine Call_ (vt I hg2 hm2 boot_range (u0q ?_ hs rfl))
 rw[hs]
 show wpAny _ _ (spliced ((false,eval a X.env)::[])) _ _ _
 refine u2A (thn (ha pins s σ H _ I h) λv s1 hh9=>?_)
 obtain⟨y,H1,I1,r1,q1⟩:=hh9
 obtain⟨j,ts,rfl,hj,hlen,hne,turn,fin⟩:=q1
 obtain⟨t,rfl⟩:=r1
 refine u2O ?_
 refine call_range_1 ?_
 refine u2O ?_
 have I2:Inv X pins σ H1 { s1 with heap:=s1.heap.push { cls:=.type "range",data:=.fields #[.int 0 s1.toks,.int (j:Int) t,.int 1 (s1.toks+1)] },toks:=s1.toks+1+1 }:=I1.kept λb o e=>u4 _ e
 obtain⟨r,hrr⟩:∃ r,s1.heap.objs.size=r:=⟨_,rfl⟩
 have hrg:(s1.heap.push { cls:=.type "range",data:=.fields #[.int 0 s1.toks,.int (j:Int) t,.int 1 (s1.toks+1)] }).get? r=some { cls:=.type "range",data:=.fields #[.int 0 s1.toks,.int (j:Int) t,.int 1 (s1.toks+1)] }:=by rw[<-hrr];exact r8 _ rfl
 have I2p:=I2.pinned (fp:=[r]) (λb hb=>by rw[d4.mp hb];exact I1.fpOk (u3D hrr) (I1.hok.fresh (u3D hrr))) (λb hb=>by rw[d4.mp hb];exact⟨_,hrg,λv z=>by cases z⟩)
 rw[hrr]
 refine u22 ?_
 refine zdp (body:=body) (scope:=scope) (clos:=cl) L hcd S.clos hdef hq I2p λf ca ctv H2 s2 up2 I3 hf cx=>u3e ?_
 have hr2:=(I3.pin (r,_) (o0 _ (u2e _ (o0 _ (yH (d4.mpr rfl) hrg))))).1
 refine u1b (Vz (md:=false) (H1:=H1) (xs:=(List.range j).map λk:Nat=>V.int (k:Int)) (Q:=Q) hr S hbind hb up2 I3 hf cx (λQ' E' hQ=>?_) (by rw[u5,u0v];exact hlen) (by rw[u5,u0v];omega) hne turn fin) (λv s' ⟨w,H',J,rw',q'⟩=>⟨w,H',J.unpinned,rw',q'⟩) λ_ _ z=>z
 refine zaE (n:=j) (by simp[hr.hd]) hr2 (small_one (by decide) (by decide) (by omega) (by omega)) (by rw[rangeSize_one];split <;> omega) (by omega) λh' tk acc kk hacc=>?_
 exact hQ acc.toList _ (zd3 hacc) (I3.un (t':=tk) (H':=H2) (Un.kept kk) (I3.hok.kept kk))
end
end L2
namespace Dl
open PySem L2
variable [KK]
theorem AtL.map2 {F:Hp}{α:Type}{f:α->D}{g:α->V}:∀ (l:List α),(∀ z∈l,At F (f z) (g z))->AtL F (l.map f) (l.map g)
 | [],_=>.nil
 | z::l,h=>.cons (h z (.head _)) (AtL.map2 l λy hy=>h y (.tail _ hy))
def Ye (ts:List (List Int))(ds:List D):List D:=(yh ts).map λt=>ds.getD (ts.idxOf t) .non
theorem zaa {F:Hp}{ds:List D}{xs:List V}{ts:List (List Int)}{zs:List (List Int × V)}(al:AtL F ds xs)(hlen:ts.length=xs.length)(nd:ts.Nodup)(p:zs.Perm (ts.zip xs))(s:zs.Pairwise λp q=>HT.lexLt q.1 p.1=false) :
 AtL F (Ye ts ds) (zs.map (·.2)):=by
 have e:zs.map (·.1)=yh ts:=Zh (by
  have:=p.map (·.1)
  rwa[show(ts.zip xs).map (·.1)=ts from List.map_fst_zip (u3D hlen)]at this) (u0Q.mpr s)
 unfold Ye
 rw[<-e,u0j]
 refine AtL.map2 zs λz hz=>?_
 obtain⟨i,hi,rfl⟩:=u0i (p.mem_iff.mp hz)
 rw[u03]at hi
 have i1:i < ts.length:=by omega
 have i2:i < xs.length:=by omega
 rw[u27]
 show At F (ds.getD (ts.idxOf ts[i]) .non) xs[i]
 have ei:ts.idxOf ts[i]=i:=nd.idxOf_getElem i i1
 rw[ei]
 have hd:ds.length=xs.length:=al.length.symm
 have h1:ds[i]?=some ds[i]:=u6 (by omega)
 obtain⟨x,hx,ax⟩:=al.get h1
 rw[u6 i2]at hx
 cases hx
 rw[d9,h1]
 exact ax
end Dl
namespace Dl
open PySem L2
variable [KK]
def zcI (g:Ev->Option D)(ρ:Ev):List D->Option (List (List Int))
 | []=>some []
 | d::ds=>(g (some d::ρ)).bind λkd=>match kd with
  | .tup es=>(V8 es).bind λt=>if t=[]then none else (zcI g ρ ds).map (t::·)
  | _=>none
theorem Ww {g:Ev->Option D}{ρ:Ev}:∀ {ds:List D} {ts:List (List Int)},zcI g ρ ds=some ts->ts.length=ds.length/\(∀ t∈ts,t≠[])/\∀ (i:Nat) (d:D) (t:List Int),ds[i]?=some d->ts[i]?=some t->∃ es,g (some d::ρ)=some (.tup es)/\V8 es=some t
 | [],ts,h=>by
  cases h
  exact⟨rfl,λt ht=>by(cases ht),λi d t h=>by(simp at h)⟩
 | d::ds,ts,h=>by
  obtain⟨kd,e1,h⟩:=u3.mp h
  cases kd with
  | tup es =>
   obtain⟨t,e2,h⟩:=u3.mp h
   split at h
   .cases h
   .rename_i hne
    obtain⟨ts0,e3,rfl⟩:=t7.mp h
    obtain⟨l1,l2,l3⟩:=Ww e3
    refine⟨by rw[p9,p9,l1],λu hu=>?_,λi d' t' hd ht=>?_⟩
    .rcases j5.mp hu with rfl | hu
     .exact hne
     .exact l2 u hu
    .cases i with
     | zero=>cases hd;cases ht;exact⟨es,e1,e2⟩
     | succ i=>exact l3 i d' t' hd ht
  | _=>cases h
theorem Gr.upH {F H F' H':Hp}(g:Gr F H F' H')(s:yz F H):∀ b o,H b=some o->H' b=some o:=λb o e=>by
 cases h:F b with
 | none=>exact(g.kp b o h e).2
 | some u =>
  have:=s b u h
  rw[e]at this
  cases this
  exact g.fh _ _ (g.ff _ _ h)
def zc7 (f g:Ev->Option D):Ev->Option (List D):=fun ρ=>(f ρ).bind λd=>(lrD d).bind λds=>(zcI g ρ ds).bind λts=>if ts.Nodup then some (Ye ts ds)else none
end Dl
namespace Dl
open PySem L2 PySem.Spec PyProof.Rows PySem.W
variable [KK]
theorem xP {F:Hp}:∀ {t:List Int} {ys:List V},AtL F (t.map D.int) ys->ys=t.map V.int
 | [],_,h=>by rw[h.nil_inv];rfl
 | n::t,_,h=>by
  obtain⟨x,r,rfl,a,l⟩:=h.cons_inv
  rw[a.int_inv,xP l]
  rfl
section
variable {X:Cx}{a body:Expr}{params:Arguments}{scope:Scope}{p p2 pos pos2 kp lp:Pos}{q x:Str}{M:List Str}{cl:List (Str × Addr)}{c P:Addr}{k:Nat}{f g:Ev->Option D}
theorem zhU (hr:wC (k+4) X.A) (hg:Gl X "sorted") (hm:X.mg "sorted"=none) (hg2:Gl X "range") (hm2:X.mg "range"=none) (ha:ED X a f)
 (L:ZR X.base X.mg c P q) (hcd:X.env.code=.ref c) (S:wF X x M scope cl) (hdef:defaultsOf params X.env=([],[])) (hq:X.env.qual++"<lambda>"=q)
 (hbind:∀ (pm cdv ctv u:Value),bindArgs (kla_fn "<lambda>" q params body scope cl pm cdv ctv) ⟨[u],[]⟩=pure [(x,u)])
 (hb:∀ f ca A s H,ED (zbh X x M q scope cl f ca A s H) body g) (hs:starEach [a] X.env=[(false,eval a X.env)]:=by rfl)
 (he:backTo pos (starEach [.Call (.Name "range" p2) [a] [] pos2] X.env)=(false,eval (.Call (.Name "range" p2) [a] [] pos2) X.env)::backTo pos (starEach [] X.env):=by rfl) (hpl:(backTo pos (starEach [.Call (.Name "range" p2) [a] [] pos2] X.env)).any (·.1)=false:=by rfl) :
 FL X (.Call (.Name "sorted" p) [.Call (.Name "range" p2) [a] [] pos2] [⟨some "key",.Lambda params body scope lp,kp⟩] pos) (zc7 f g):=by
 obtain⟨ta,pa,ra⟩:=ha
 refine⟨_,zhZ hr hg hm YL hg2 hm2 pa L hcd S hdef hq hbind (λ_ _ _ _ _=>(hb _ _ _ _ _).can) hs he hpl,fun σ ρ F H z Q s va e qq=>?_⟩
 obtain⟨d,e1,e⟩:=u3.mp e
 obtain⟨ds,e2,e⟩:=u3.mp e
 obtain⟨ts,e3,e⟩:=u3.mp e
 split at e
 .rename_i nd
  cases e
  refine ra σ ρ F H d _ s va e1 λF1 H1 v g1 a1=>?_
  cases d with
  | int j =>
   have e2:(if 0<=j/\j<=1000 then some ((List.range j.toNat).map λk:Nat=>D.int (k:Int))else none)=some ds:=e2
   split at e2
   .rename_i hj
    cases e2
    have ev:=a1.int_inv
    subst ev
    obtain⟨l1,l2,l3⟩:=Ww e3
    rw[u5,u0v]at l1
    have va1:=va.mono g1.ff
    have al:∀ F':Hp,AtL F' ((List.range j.toNat).map λk:Nat=>D.int (k:Int)) ((List.range j.toNat).map λk:Nat=>V.int (k:Int)):=λF'=>AtL.map2 _ λz _=>.int
    refine⟨j.toNat,ts,by rw[u1S hj.1],by omega,l1,l2,λi y t hy ht H2 up=>?_,λzs D H' pz sz up hD h1D=>?_⟩
    .rw[j7]at hy
     obtain⟨i',hi',rfl⟩:=t7.mp hy
     obtain⟨es,eg,et⟩:=l3 i (.int (i':Int)) t (by rw[j7,hi'];rfl) ht
     have s2:yz F1 H2:=λb o z=>up _ _ (g1.fh _ _ z)
     refine Vx _ (some (.int (i':Int))::ρ) F1 H2 _ _ s2 (λn d' hd=>?_) eg λF' H3 v g3 a3=>?_
     .cases n with
      | zero=>cases hd;exact⟨_,rfl,.int⟩
      | succ n=>exact va1 n d' hd
     .obtain⟨b,ys,rfl,hb',al'⟩:=a3.tup_inv
      rw[Zp et]at al'
      rw[xP al']at hb'
      exact⟨b,rfl,g3.upH s2,g3.fh _ _ hb'⟩
    .have fD:F1 D=none:=by
      cases z:F1 D with
      | none=>rfl
      | some o=>rw[g1.fh _ _ z]at h1D;cases h1D
     have g2:Gr F1 H1 F1 (upd H' D (.lst (zs.map (·.2)))):=⟨yz.refl _,λb o z=>by rw[zq (zk z fD)];exact up _ _ (g1.fh _ _ z),λb o z1 z2=>⟨.inl z1,by rw[zq (zk z2 h1D)];exact up _ _ z2⟩⟩
     exact qq F1 _ D _ (g1.trans g2) (XN g1 h1D) fD zn (zaa (al F1) (by rw[l1,u5,u0v]) nd pz sz)
   .cases e2
  | _=>cases e2
 .cases e
end
end Dl
namespace Dl
open PySem L2 PySem.Spec PyProof.Rows PySem.W
variable [KK]
section
variable {X:Cx}{e body:Expr}{params:Arguments}{scope:Scope}{p pos kp lp:Pos}{q x:Str}{M:List Str}{cl:List (Str × Addr)}{c P:Addr}{k:Nat}{g:Ev->Option D}{fa:Ev->Option (List D)}
def ziu (g:Ev->Option D)(ρ:Ev)(as:List D):Option (List D):=match as with
 | [.lst ds]=>(zcI g ρ ds).bind λts=>if ts.Nodup/\ds.length < 10000000 then some (Ye ts ds)else none
 | _=>none
def zfq (fa:Ev->Option (List D))(g:Ev->Option D):Ev->Option (List D):=fun ρ=>(fa ρ).bind (ziu g ρ)
theorem zht (hr:wC (k+4) X.A) (hg:Gl X "sorted") (hm:X.mg "sorted"=none) (ha:AD X [e] fa)
 (L:ZR X.base X.mg c P q) (hcd:X.env.code=.ref c) (S:wF X x M scope cl) (hdef:defaultsOf params X.env=([],[])) (hq:X.env.qual++"<lambda>"=q)
 (hbind:∀ (pm cdv ctv u:Value),bindArgs (kla_fn "<lambda>" q params body scope cl pm cdv ctv) ⟨[u],[]⟩=pure [(x,u)])
 (hb:∀ f ca A s H,ED (zbh X x M q scope cl f ca A s H) body g)
 (he:backTo pos (starEach [e] X.env)=(false,eval e X.env)::backTo pos (starEach [] X.env):=by rfl) (hpl:(backTo pos (starEach [e] X.env)).any (·.1)=false:=by rfl) :
 FL X (.Call (.Name "sorted" p) [e] [⟨some "key",.Lambda params body scope lp,kp⟩] pos) (zfq fa g):=by
 obtain⟨ta,pa,ra⟩:=ha
 refine⟨_,zdb (md:=false) hr hg hm YL pa L hcd S hdef hq hbind (λ_ _ _ _ _=>(hb _ _ _ _ _).can) he hpl,fun σ ρ F H z Q s va e qq=>?_⟩
 obtain⟨as,e1,e2⟩:=u3.mp e
 unfold ziu at e2
 split at e2
 .rename_i ds
  obtain⟨ts,e3,e⟩:=u3.mp e2
  split at e
  .rename_i nd
   cases e
   refine ra σ ρ F H _ _ s va e1 λF1 H1 vs g1 a1=>?_
   obtain⟨v,r,rfl,ax,ar⟩:=a1.cons_inv
   cases ar.nil_inv
   obtain⟨l,xs,rfl,hl,al⟩:=ax.lst_inv
   obtain⟨l1,l2,l3⟩:=Ww e3
   have hxl:=al.length
   have va1:=va.mono g1.ff
   refine⟨l,xs,ts,rfl,g1.fh _ _ hl,by omega,by omega,l2,λi y t hy ht H2 up=>?_,λzs D H' pz sz up hD h1D=>?_⟩
   .have hi:i < ds.length:=by rw[<-hxl];exact(u8.mp hy).1
    have hd:ds[i]?=some ds[i]:=u6 hi
    obtain⟨y',hy',ay⟩:=al.get hd
    rw[hy]at hy'
    cases hy'
    obtain⟨es,eg,et⟩:=l3 i _ t hd ht
    have s2:yz F1 H2:=λb o z=>up _ _ (g1.fh _ _ z)
    refine Vx _ (some ds[i]::ρ) F1 H2 _ _ s2 (λn d' hd'=>?_) eg λF' H3 v g3 a3=>?_
    .cases n with
     | zero=>cases hd';exact⟨_,rfl,ay⟩
     | succ n=>exact va1 n d' hd'
    .obtain⟨b,ys,rfl,hb',al'⟩:=a3.tup_inv
     rw[Zp et]at al'
     rw[xP al']at hb'
     exact⟨b,rfl,g3.upH s2,g3.fh _ _ hb'⟩
   .have fD:F1 D=none:=by
     cases z:F1 D with
     | none=>rfl
     | some o=>rw[g1.fh _ _ z]at h1D;cases h1D
    have g2:Gr F1 H1 F1 (upd H' D (.lst (zs.map (·.2)))):=⟨yz.refl _,λb o z=>by rw[zq (zk z fD)];exact up _ _ (g1.fh _ _ z),λb o z1 z2=>⟨.inl z1,by rw[zq (zk z2 h1D)];exact up _ _ z2⟩⟩
    exact qq F1 _ D _ (g1.trans g2) (XN g1 h1D) fD zn (zaa al (by omega) nd.1 pz sz)
  .cases e
 .cases e2
end
end Dl
namespace Dl
open PySem L2 PySem.Spec PyProof.Rows PySem.W
variable [KK]
def zfS (g:Ev->Option D)(ρ:Ev):List D->Option (List (List Int))
 | []=>some []
 | d::ds=>(g (some d::ρ)).bind λkd=>match kd with
  | .tup [.int i,.tup es]=>(V8 es).bind λt=>(zfS g ρ ds).map ((i::t)::·)
  | _=>none
theorem zeq {g:Ev->Option D}{ρ:Ev}:∀ {ds:List D} {ts:List (List Int)},zfS g ρ ds=some ts->ts.length=ds.length/\(∀ t∈ts,t≠[])/\∀ (i:Nat) (d:D) (t:List Int),ds[i]?=some d->ts[i]?=some t->∃ j es us,g (some d::ρ)=some (.tup [.int j,.tup es])/\V8 es=some us/\t=j::us:=by
 intro ds
 induction ds with
 | nil =>
  intro ts h
  cases h
  exact⟨rfl,λt ht=>by(cases ht),λi d t h=>by(simp at h)⟩
 | cons d ds ih =>
  intro ts h
  obtain⟨kd,e1,h⟩:=u3.mp h
  split at h
  .rename_i j es
   obtain⟨t,e2,h⟩:=u3.mp h
   obtain⟨ts0,e3,rfl⟩:=t7.mp h
   obtain⟨l1,l2,l3⟩:=ih e3
   refine⟨by rw[p9,p9,l1],λu hu=>?_,λi d' t' hd ht=>?_⟩
   .rcases j5.mp hu with rfl | hu
    .simp
    .exact l2 u hu
   .cases i with
    | zero=>cases hd;cases ht;exact⟨j,es,t,e1,e2,rfl⟩
    | succ i=>exact l3 i d' t' hd ht
  .cases h
section
variable {X:Cx}{e body:Expr}{params:Arguments}{scope:Scope}{p pos kp lp:Pos}{q x:Str}{M:List Str}{cl:List (Str × Addr)}{c P:Addr}{k:Nat}{g:Ev->Option D}{fa:Ev->Option (List D)}
def zil (g:Ev->Option D)(ρ:Ev)(as:List D):Option (List D):=match as with
 | [.lst ds]=>(zfS g ρ ds).bind λts=>if ts.Nodup/\ds.length < 10000000 then some (Ye ts ds)else none
 | _=>none
def zfH (fa:Ev->Option (List D))(g:Ev->Option D):Ev->Option (List D):=fun ρ=>(fa ρ).bind (zil g ρ)
theorem zg3 (hr:wC (k+4) X.A) (hg:Gl X "sorted") (hm:X.mg "sorted"=none) (ha:AD X [e] fa)
 (L:ZR X.base X.mg c P q) (hcd:X.env.code=.ref c) (S:wF X x M scope cl) (hdef:defaultsOf params X.env=([],[])) (hq:X.env.qual++"<lambda>"=q)
 (hbind:∀ (pm cdv ctv u:Value),bindArgs (kla_fn "<lambda>" q params body scope cl pm cdv ctv) ⟨[u],[]⟩=pure [(x,u)])
 (hb:∀ f ca A s H,ED (zbh X x M q scope cl f ca A s H) body g)
 (he:backTo pos (starEach [e] X.env)=(false,eval e X.env)::backTo pos (starEach [] X.env):=by rfl) (hpl:(backTo pos (starEach [e] X.env)).any (·.1)=false:=by rfl) :
 FL X (.Call (.Name "sorted" p) [e] [⟨some "key",.Lambda params body scope lp,kp⟩] pos) (zfH fa g):=by
 obtain⟨ta,pa,ra⟩:=ha
 refine⟨_,zdb (md:=true) hr hg hm YL pa L hcd S hdef hq hbind (λ_ _ _ _ _=>(hb _ _ _ _ _).can) he hpl,fun σ ρ F H z Q s va e qq=>?_⟩
 obtain⟨as,e1,e2⟩:=u3.mp e
 unfold zil at e2
 split at e2
 .rename_i ds
  obtain⟨ts,e3,e⟩:=u3.mp e2
  split at e
  .rename_i nd
   cases e
   refine ra σ ρ F H _ _ s va e1 λF1 H1 vs g1 a1=>?_
   obtain⟨v,r,rfl,ax,ar⟩:=a1.cons_inv
   cases ar.nil_inv
   obtain⟨l,xs,rfl,hl,al⟩:=ax.lst_inv
   obtain⟨l1,l2,l3⟩:=zeq e3
   have hxl:=al.length
   have va1:=va.mono g1.ff
   refine⟨l,xs,ts,rfl,g1.fh _ _ hl,by omega,by omega,l2,λi y t hy ht H2 up=>?_,λzs D H' pz sz up hD h1D=>?_⟩
   .have hi:i < ds.length:=by rw[<-hxl];exact(u8.mp hy).1
    have hd:ds[i]?=some ds[i]:=u6 hi
    obtain⟨y',hy',ay⟩:=al.get hd
    rw[hy]at hy'
    cases hy'
    obtain⟨j,es,us,eg,et,rfl⟩:=l3 i _ t hd ht
    have s2:yz F1 H2:=λb o z=>up _ _ (g1.fh _ _ z)
    refine Vx _ (some ds[i]::ρ) F1 H2 _ _ s2 (λn d' hd'=>?_) eg λF' H3 v g3 a3=>?_
    .cases n with
     | zero=>cases hd';exact⟨_,rfl,ay⟩
     | succ n=>exact va1 n d' hd'
    .obtain⟨b,ys,rfl,hb',al'⟩:=a3.tup_inv
     obtain⟨v1,r1,rfl,b1,c1⟩:=al'.cons_inv
     obtain⟨v2,r2,rfl,b2,c2⟩:=c1.cons_inv
     cases c2.nil_inv
     cases b1.int_inv
     obtain⟨c,ws,rfl,hc',cl'⟩:=b2.tup_inv
     rw[Zp et]at cl'
     rw[xP cl']at hc'
     exact⟨b,rfl,g3.upH s2,j,c,us,rfl,g3.fh _ _ hb',g3.fh _ _ hc'⟩
   .have fD:F1 D=none:=by
     cases z:F1 D with
     | none=>rfl
     | some o=>rw[g1.fh _ _ z]at h1D;cases h1D
    have g2:Gr F1 H1 F1 (upd H' D (.lst (zs.map (·.2)))):=⟨yz.refl _,λb o z=>by rw[zq (zk z fD)];exact up _ _ (g1.fh _ _ z),λb o z1 z2=>⟨.inl z1,by rw[zq (zk z2 h1D)];exact up _ _ z2⟩⟩
    exact qq F1 _ D _ (g1.trans g2) (XN g1 h1D) fD zn (zaa al (by omega) nd.1 pz sz)
  .cases e
 .cases e2
end
end Dl
namespace L2
open PySem PySem.Spec PyProof.Rows
theorem zfE {X:Cx}{x:Str}{N M cn:List Str}{scope:Scope}{cl:List (Str × Addr)}{rn dn:List (Str × NameKind)}(hr:scope.names=rn)(hd:X.env.scope.names=dn)(hN:X.N=N)
 (clos:closureFor scope X.env=pure cl) (kind:scope.kind=.function) (par:scope.names.lookup x=some .local) (co:scope.isCoroutine=false) (gen:scope.isGenerator=false) (hc:cl.map Prod.fst=cn) (good:YV scope.names rn dn N M cn=true) (sub:∀ p∈cl,X.env.cells.lookup p.1=some p.2):wF X x M scope cl:=by
 unfold YV at good
 simp only[u0n,u0o,d5]at good
 obtain⟨⟨⟨⟨⟨g1,g2⟩,g3⟩,g5⟩,g6⟩,g4⟩:=good
 have g5:M.length=N.length:=by simpa using g5
 refine⟨clos,g1,kind,par,co,gen,λy c h=>sub (y,c) (u0z h),λy h=>?_,by rw[hN];exact g5,λi y e v=>?_,λi y e v=>?_,λi y e v=>?_⟩
 .rw[hr]at h
  have hy:y∈cn:=by
   rcases h with h | h
   .exact g3 _ (u0z h) (.inl rfl)
   .exact g3 _ (u0z h) (.inr rfl)
  exact wW (by rw[hc];exact hy)
 .unfold Vis at v
  rw[hr]at v
  have hi:=(u8.mp e).1
  have hj:i < N.length:=by rw[<-g5];exact hi
  have hz:(M.zip N)[i]?=some (y,N[i]):=by
   rw[u3I]
   exact⟨e,u6 hj⟩
  have:=g6 _ (j4 hz) v
  rw[hN,u6 hj]
  exact u1o some this.symm
 .unfold Vis at v
  rw[hr]at v ⊢
  exact(g4 y (j4 e) v).1
 .unfold Vis at v
  rw[hr]at v
  obtain⟨_,k1,k2⟩:=g4 y (j4 e) v
  refine⟨?_,?_⟩
  .unfold Vis;rw[hd];exact k1
  .show X.env.scope.names.lookup y≠_;rw[hd];exact k2
end L2
namespace L2
open PySem
def zdj (o:Obj):Obj:=match o.data with
 | .freed=>{ cls:=.none,data:=.freed }
 | _=>o
theorem zcr (o:Obj)(q:Str):zdj o≠YA q:=by
 unfold zdj YA
 intro h
 split at h
 .have:=u1o Obj.cls h
  cases this
 .rename_i hn
  exact hn (by rw[h])
def wv (h:Heap)(tabs:List (Addr × Str)):Heap:={ h with objs:=h.objs.mapIdx λi o=>match tabs.lookup i with
 | some q=>YA q
 | none=>zdj o }
theorem zcK (h:Heap)(tabs:List (Addr × Str)):(wv h tabs).objs.size=h.objs.size:=by
 unfold wv
 simp
theorem vE (h:Heap)(tabs:List (Addr × Str))(b:Addr):(wv h tabs).objs[b]?=(h.objs[b]?).map λo=>match tabs.lookup b with
 | some q=>YA q
 | none=>zdj o:=by
 unfold wv
 simp
theorem zcf {h:Heap}{tabs:List (Addr × Str)}{P:Addr}{q:Str}(e:(wv h tabs).objs[P]?=some (YA q)):tabs.lookup P=some q:=by
 rw[vE]at e
 obtain⟨o,_,e⟩:=t7.mp e
 cases z:tabs.lookup P with
 | none=>rw[z]at e;exact absurd e (zcr o q)
 | some q' =>
  rw[z]at e
  have:=u1o Obj.cls e
  have:Value.str q' 0=Value.str q 0:=this
  cases this
  rfl
theorem zbb {h:Heap}{tabs:List (Addr × Str)}{b:Addr}(hb:tabs.lookup b=none):(wv h tabs).get? b=h.get? b:=by
 unfold Heap.get?
 rw[vE,hb]
 cases z:h.objs[b]? with
 | none=>rfl
 | some o =>
  obtain⟨c,d,dt,sl⟩:=o
  cases dt <;> rfl
theorem zeL {h:Heap}{tabs:List (Addr × Str)}{b:Addr}{q:Str}(hb:tabs.lookup b=some q):(wv h tabs).get? b=none:=by
 unfold Heap.get?
 rw[vE,hb]
 cases z:h.objs[b]? with
 | none=>rfl
 | some o=>rfl
theorem zdV {h:Heap}{tabs:List (Addr × Str)}{b:Addr}{o:Obj}(e:(wv h tabs).get? b=some o):tabs.lookup b=none/\h.get? b=some o:=by
 cases z:tabs.lookup b with
 | none=>exact⟨rfl,by rw[<-zbb z];exact e⟩
 | some q=>rw[zeL z]at e;cases e
end L2
namespace L2
open PySem PySem.Spec PyProof.Rows PySem.W
abbrev TL:=List (Addr × Addr × Str)
def yA (tl:TL):List (Addr × Str):=tl.map λt=>(t.2.1,t.2.2)
theorem VB {tl:TL}{P:Addr}{q:Str}(h:(yA tl).lookup P=some q):∃ c,(c,P,q)∈tl:=by
 unfold yA at h
 induction tl with
 | nil=>cases h
 | cons t r ih =>
  rw[u0e,List.lookup_cons]at h
  cases z:P == t.2.1 with
  | true =>
   rw[z]at h
   cases h
   rw[eq_of_beq z]
   exact⟨t.1,.head _⟩
  | false =>
   rw[z]at h
   obtain⟨c,hc⟩:=ih h
   exact⟨c,.tail _ hc⟩
def we (tl:TL)(H:Hp):Hp:=λb=>match (yA tl).lookup b with
 | some q=>some (.tbl #[.str q 0])
 | none=>H b
theorem yJ {tl:TL}{H:Hp}{b:Addr}(h:(yA tl).lookup b=none):we tl H b=H b:=by unfold we;rw[h]
theorem vy {tl:TL}{H:Hp}{b:Addr}{q:Str}(h:(yA tl).lookup b=some q):we tl H b=some (.tbl #[.str q 0]):=by unfold we;rw[h]
theorem zgv {P:Program}{w:World}{K:W.Frag}{mg mb:Str->Option Value}{CX:CXT}{k:Nat}{fa a:Addr}{fd:FuncData}{x:Str}{sp:Sp}{s₁:Shared}{vs:List Value}{ns:List Int}{tl:TL}
 (hq:tl.all (λt=>(yA tl).lookup t.2.1 == some t.2.2)=true) (hT:∀ t∈tl,CodeHd s₁.heap t.1 t.2.1/\s₁.heap.get? t.2.1=some (tabObj #[])) (hnK:noTabs K=true)
 (hbm:∃ bm ob,mg "__builtins__"=some (.ref bm)/\bm≠builtinsNs/\s₁.heap.get? bm=some ob/\ob.cls=.type "module"/\ob.dict=some builtinsNs/\ob.data=.plain)
 (KX:K.In s₁.heap) (hns:s₁.heap.Ns mainGlobals mg) (hb:s₁.heap.Ns builtinsNs mb) (hbb:∀ x:Str,x≠"__name__"->mb x=bootBuiltins x) (hlim:s₁.heap.NoLimit) (hg:s₁.gens=#[])
 (ha:s₁.heap.get? a=some { cls:=.type "list",data:=.seq vs.toArray }) (hi:IntsAre vs ns) (hl:ns.length<=sizeLine) (hr:wC k callerA)
 (F:∀ base:Heap,K.In base->base.Ns mainGlobals mg->(∀ t∈tl,ZR base mg t.1 t.2.1 t.2.2)->yW P w K mg base CX k fa fd [x] sp) (hbind:∀ (s:Shared) (u:Value),BindsTo s fd ⟨[u],[]⟩ [(x,u)])
 (hsp:∀ H:Hp,SqL K H a (ns.map V.int)->sp [.ref a] H (λv _=>v=.bl true) λ_ _ _=>False)
 (hCX:∀ H e s',CX [] H s₁ (λ_ _ _=>False) e s'->False) :
 codeAny (model P w) callerA (.call (.ref fa) ⟨[.ref a],[]⟩) (λr s'=>r=.ok (.ret (.bool true))/\OldK s₁.heap s'.heap/\s'.os=s₁.os/\AllBare s'.gens) s₁:=by
 have rv:=zaS hi
 have lenV:=hi.length
 -- a table is no other thing
 have tabF:∀ {b:Addr} {q:Str},(yA tl).lookup b=some q->s₁.heap.get? b=some (tabObj #[]):=λ{b q} h=>by
  obtain⟨c,hc⟩:=VB h
  exact(hT _ hc).2
 have notT:∀ {b:Addr} {o:Obj},s₁.heap.get? b=some o->o≠tabObj #[]->(yA tl).lookup b=none:=λ{b o} e n=>by
  cases z:(yA tl).lookup b with
  | none=>rfl
  | some q=>rw[tabF z]at e;cases e;exact absurd rfl n
 have aT:(yA tl).lookup a=none:=notT ha (λz=>by cases z)
 have core:∀ H:Hp,(∀ b,H b=none\/∃ o xs,H b=some (.frz o (.lst xs)))->SqL K H a (ns.map V.int)->HOk P w H s₁.heap->(∀ b,H b≠none->b=a)->(H a≠none->K.lookup a=none) ->
  codeAny (model P w) callerA (.call (.ref fa) ⟨[.ref a],[]⟩) (λr s'=>r=.ok (.ret (.bool true))/\OldK s₁.heap s'.heap/\s'.os=s₁.os/\AllBare s'.gens) s₁:=by
  intro H hO hS hok hA hK
  have base_of:∀ {b:Addr} {o:Obj},s₁.heap.get? b=some o->o≠tabObj #[]->H b=none->(wv (zea s₁.heap H) (yA tl)).get? b=some o:=λe n1 n=>by
   rw[zbb (notT e n1)]
   exact zhl e n
  have noA:∀ {b:Addr} {o:Obj},s₁.heap.get? b=some o->(∀ ys st,o.data≠.seq ys st)->H b=none:=λ{b o} e d=>by
   cases q:H b with
   | none=>rfl
   | some u =>
    have e':b=a:=hA b (by rw[q];simp)
    subst e'
    rw[ha]at e;cases e
    exact absurd rfl (d _ _)
  have nsK:∀ {b:Addr} {m:Str->Option Value},s₁.heap.Ns b m->(wv (zea s₁.heap H) (yA tl)).Ns b m:=λ{b m} ⟨o,es,ep,e,d,r⟩=>⟨o,es,ep,base_of e (λz=>by rw[z]at d;cases d) (noA e (λys st z=>by rw[d]at z;cases z)),d,r⟩
  have hKb:K.In (wv (zea s₁.heap H) (yA tl)):=λb o e=>base_of (KX b o e) (λz=>by
   have h2:=u0o.mp hnK (b,o) (mem_of_lookupK e)
   subst z
   exact absurd (show false=true from h2) u7) (by
   cases q:H b with
   | none=>rfl
   | some u =>
    have e':b=a:=hA b (by rw[q];simp)
    subst e'
    rw[hK (by rw[q];simp)]at e;cases e)
  have hM:Mod K mg (wv (zea s₁.heap H) (yA tl)):=⟨hKb,nsK hns,⟨mb,nsK hb,hbb⟩,let ⟨mc,h1,h2⟩:=hlim;⟨mc,nsK h1,h2⟩⟩
  have hok2:HOk P w (we tl H) s₁.heap:=λb o e=>by
   cases z:(yA tl).lookup b with
   | some q =>
    rw[vy z]at e
    cases e
    exact⟨#[],tabF z,trivial,λpos c hc=>by cases hc⟩
   | none =>
    rw[yJ z]at e
    rcases hO b with y | ⟨ob,xs,y⟩
    .rw[y]at e;cases e
    .rw[y]at e
     cases e
     exact hok b _ y
  have hbs:Bs (wv (zea s₁.heap H) (yA tl)) s₁.heap (we tl H):=by
   refine⟨λb o e=>?_,λP q e=>vy (zcf e)⟩
   obtain⟨e1,e2⟩:=zdV e
   have:=zjy e2
   rw[yJ e1]
   exact this
  have hlam:∀ t∈tl,ZR (wv (zea s₁.heap H) (yA tl)) mg t.1 t.2.1 t.2.2:=λt ht=>by
   have hq':=p6.mp (u0o.mp hq t ht)
   obtain⟨h1,h2⟩:=hT t ht
   refine⟨?_,?_,?_⟩
   .obtain⟨o,us,file,tf,flags,tg,inF,text,tt,e,r1,r2,r⟩:=h1
    exact⟨o,us,file,tf,flags,tg,inF,text,tt,base_of e (λz=>by rw[z]at r1;cases r1) (noA e (λys st z=>by rw[r2]at z;cases z)),r1,r2,r⟩
   .rw[vE]
    have hlt:=j9 h2
    have hlt2:t.2.1 < (zea s₁.heap H).objs.size:=by rw[zbv];exact hlt
    rw[Array.getElem?_eq_getElem hlt2,hq']
    rfl
   .obtain⟨bm,ob,b1,b2,b3,b4,b5,b6⟩:=hbm
    refine⟨bm,ob,b1,b2,?_,?_,base_of b3 (λz=>by rw[z]at b6;cases b6) (noA b3 (λys st z=>by rw[b6]at z;cases z)),b4,b5,b6⟩
    .intro z
     obtain⟨o,es,ep,e,d,_⟩:=hns
     rw[z,e]at b3
     cases b3
     rw[b6]at d
     cases d
    .intro z
     rw[z,h2]at b3
     cases b3
     cases b6
  have hS2:SqL K (we tl H) a (ns.map V.int):=by
   rcases hS with (h | ⟨o,h⟩) | h
   .exact .inl (.inl (by rw[yJ aT];exact h))
   .exact .inl (.inr ⟨o,by rw[yJ aT];exact h⟩)
   .exact .inr h
  have e0:zlI P w K mg (wv (zea s₁.heap H) (yA tl)) callerA [] s₁ (we tl H):=⟨rfl,hM,hbs,u3D ((zcK _ _).trans (zbv _ _)),trivial,λb hb=>absurd (show b∈([]:List Addr)from hb) (by simp),hok2,.of_eq hg⟩
  refine u3E ((F _ hKb (nsK hns) hlam).run callerA [] s₁ (we tl H) ⟨[.ref a],[]⟩ [.ref a] [.ref a] _ _ hr e0 (hbind s₁ (.ref a)) (.cons rfl .nil) (hsp _ hS2)) λr s' h=>?_
  cases r with
  | error e=>exact(hCX _ e s' h).elim
  | ok fl =>
   cases fl with
   | next=>exact False.elim h
   | brk=>exact False.elim h
   | cont=>exact False.elim h
   | ret u =>
    obtain⟨v,H',os,bare,un,hok',r',q⟩:=h
    have q':v=.bl true:=q
    subst q'
    obtain rfl:u=Value.bool true:=r'
    refine⟨rfl,?_,os,bare⟩
    have one:∀ b o,s₁.heap.get? b=some o->(yA tl).lookup b=none->s'.heap.get? b=some o:=λb o e z=>by
     cases q:H b with
     | none=>exact un.keep b o e (by rw[yJ z];exact q) (by intro z;exact absurd (show b∈([]:List Addr)from z) (by simp)) (by simp)
     | some u =>
      rcases hO b with y | ⟨ob,xs,y⟩
      .rw[q]at y;cases y
      .have z2:=un.frzs b ob _ (by rw[yJ z];exact y)
       obtain⟨e1,_⟩:=hok b _ y
       obtain⟨e2,_⟩:=hok' b _ z2
       rw[e]at e1;cases e1
       exact e2
    have two:∀ b q,(yA tl).lookup b=some q->∃ qs:Array Value,s'.heap.get? b=some { cls:=.none,data:=.fields qs }:=λb q z=>by
     obtain⟨qs,e,_⟩:=hok' b _ (un.tbls b _ (vy z))
     exact⟨qs,e⟩
    refine⟨λb o e=>?_,λb o e=>?_⟩
    .cases z:(yA tl).lookup b with
     | none=>exact .inl (one b o e z)
     | some q =>
      obtain⟨qs,e'⟩:=two b q z
      obtain⟨c,hc⟩:=VB z
      obtain⟨⟨oc,us,file,tf,flags,tg,inF,text,tt,c1,c2,c3,c4,_⟩,h2⟩:=hT _ hc
      rw[h2]at e
      cases e
      exact .inr (.inl ⟨⟨c,oc,us,c1,c2,c3,c4⟩,rfl,#[],qs,rfl,by rw[e'];simp⟩)
    .cases z:(yA tl).lookup b with
     | none=>exact⟨o,one b o e z⟩
     | some q =>
      obtain⟨qs,e'⟩:=two b q z
      exact⟨_,e'⟩
 cases hk:K.lookup a with
 | some o =>
  have e:=KX a o hk
  rw[ha]at e
  cases e
  refine core (λ_=>none) (λ_=>.inl rfl) (.inr ⟨_,vs.toArray,_,hk,rfl,rfl,rfl,by rw[t9,lenV];exact hl,by simpa using rv⟩) (λb u z=>by have z':(none:Option HO)=some u:=z;cases z') (λb z=>absurd rfl z) λz=>absurd rfl z
 | none =>
  refine core (λb=>if b=a then some (.frz { cls:=.type "list",data:=.seq vs.toArray } (.lst (ns.map V.int)))else none) (λb=>?_) (.inl (.inr ⟨{ cls:=.type "list",data:=.seq vs.toArray },j3 rfl⟩)) (λb u z=>?_) (λb z=>?_) λ_=>hk
  .by_cases hb:b=a
   .exact .inr ⟨_,_,j3 hb⟩
   .exact .inl (j8 hb)
  .by_cases hb:b=a
   .have z':=(j3 hb).symm.trans z
    cases z'
    subst hb
    exact⟨ha,by rw[u5];exact hl,vs,_,rv,ha⟩
   .have z':=(j8 hb).symm.trans z
    cases z'
  .by_cases hb:b=a
   .exact hb
   .exact absurd (j8 hb) z
theorem walk_ofL {l:W.OpenLaw}{n k:Nat}{q:Program}{loose:List Str}{XP:(Str->Option Value)->Heap->Prop}{YP:World->Heap->Prop}{d:DefRec}{K:Params->W.Frag}{CX:World->CXT}{sp:World->Sp}{x:Str}{tl:TL}
 (hn:l.most=some n) (hn2:n<=sizeLine) (hdf:d.params.defaults=[]) (hr:wC k callerA)
 (hY:∀ (w:World) (h:Heap),YP w h->(K w.params).In h)
 (hq:tl.all (λt=>(yA tl).lookup t.2.1 == some t.2.2)=true) (hnK:∀ w:World,noTabs (K w.params)=true)
 (hT:∀ (w:World) (mean:ExcName->Option Value) (mg mb:Str->Option Value) (h:Heap),(K w.params).In h->Top q (W.looseW q loose) mean mg mb h->∀ t∈tl,CodeHd h t.1 t.2.1/\h.get? t.2.1=some (tabObj #[]))
 (F:∀ (w:World) (mg:Str->Option Value) (fa:Addr) (h:Heap),(K w.params).In h->h.Ns mainGlobals mg->mg d.name=some (.ref fa) ->
  ∃ fd:FuncData,(∀ (s:Shared) (u:Value),BindsTo s fd ⟨[u],[]⟩ [(x,u)]) /\
   ∀ base:Heap,(K w.params).In base->base.Ns mainGlobals mg->(∀ t∈tl,ZR base mg t.1 t.2.1 t.2.2)->yW l.prog w (K w.params) mg base (CX w) k fa fd [x] (sp w))
 (hsp:∀ (w:World) (H:Hp) (a:Addr) (ns:List Int),ns.length<=n->SqL (K w.params) H a (ns.map V.int)->sp w [.ref a] H (λv _=>v=.bl true) λ_ _ _=>False)
 (hCX:∀ (w:World) (H:Hp) (s:Shared) (e:Value) (s':Shared),CX w [] H s (λ_ _ _=>False) e s'->False) :
 PySem.W.WalkO q loose XP YP l.row.toRowW d [] (λf vs=>PySem.call f vs):=by
 refine Att.attach_call hn hdf λw s₀ s₁ mg mb fa o pm cd doc a vs ns G Y ho hd hcd hmg hobj hints hlen hg=>?_
 have KX:=hY w _ Y
 obtain⟨fd,hb,hF⟩:=F w mg fa _ KX G.T.g hmg
 exact zgv hq (hT w _ mg mb _ KX G.T) (hnK w) G.T.bmain KX G.T.g G.T.b G.T.builtins G.T.nolimit hg hobj hints (u0B hlen hn2) hr hF hb (λH hS=>hsp w H a ns hlen hS) λH e s'=>hCX w H s₁ e s'
end L2
namespace L2
open PySem PySem.Spec PyProof.Rows
def Itv (K:W.Frag)(a:Addr)(n:Nat):It :=
 ⟨λi H=>∃ xs x,SqL K H a xs/\xs.length=n/\xs.reverse[i]?=some x,λi H x H'=>H'=H/\∀ xs,SqL K H a xs->xs.reverse[i]?=some x,λi _=>n<=i⟩
theorem zgN {P:Program}{w:World}{K:W.Frag}{tg:Expr}(a it:Addr)(n:Nat):zhp P w K tg (Itv K a n) [it] it (λi h=>i<=n/\h.IsRevIter it a ((n:Int) - 1 - (i:Int))) where
 mem:=by simp
 obj:=λi h st b hb=>by
  have e:b=it:=by simpa using hb
  subst e
  obtain⟨_,o,e,c,d⟩:=st
  exact⟨o,e,λv z=>by rw[d]at z;cases z⟩
 keep:=λi h h' st k=>⟨st.1,st.2.at λo e=>k it (by simp) o e⟩
 item:=by
  intro X hP hw hK hc i pins s σ H E I hf st hg
  subst hP hw hK
  obtain⟨xs,x,hq,hn,hx⟩:=hg
  obtain⟨its,rv,p,hz⟩:=I.list hq
  have hi:i < n:=by
   have:=(u8.mp hx).1
   rw[u2n]at this
   omega
  have hx':xs[n - 1 - i]?=some x:=by
   rw[List.getElem?_reverse (by omega),hn]at hx
   exact hx
  obtain⟨u,hu,ru⟩:=rv.get hx'
  obtain⟨f0,f1,f2,f3,f4,f5⟩:=hf it (by simp)
  have ej:((n:Int) - 1 - (i:Int))=((n - 1 - i:Nat):Int):=by omega
  have st2:=st.2
  rw[ej]at st2
  refine wpAny_pyNext_rev_item st2 p.isList (x:=u) (by simpa using hu) λh' st' sb=>?_
  have I1:Inv X pins σ H { s with heap:=h' }:=I.turned (t':=s.toks) (λb o hb e=>(sb.2 b hb).trans e) f0 f1 f3 f4 f5
  have st3:h'.IsRevIter it a ((n:Int) - 1 - ((i+1:Nat):Int)):=by
   have e2:((n - 1 - i:Nat):Int) - 1=(n:Int) - 1 - ((i+1:Nat):Int):=by omega
   rw[<-e2]
   exact st'
  obtain⟨o,e,c,d⟩:=id st'
  exact⟨u,rfl,zhK (s:={ s with heap:=h' }) e c d (by decide) ⟨x,H,I1,ru,⟨rfl,λys hy=>by rw[I.list_inj hy hq];exact hx⟩,⟨hi,st3⟩,λb hb=>(hf b hb).1⟩⟩
 done:=by
  intro X hP hw hK hc i pins s σ H E I hf st hg
  subst hP hw hK
  have hg:n<=i:=hg
  obtain⟨f0,f1,f2,f3,f4,f5⟩:=hf it (by simp)
  have ej:((n:Int) - 1 - (i:Int))=-1:=by have:=st.1;omega
  have st2:=st.2
  rw[ej]at st2
  exact wpAny_pyNext_rev_end (I.ok.hd hc) st2 λh' eb=>⟨rfl,I.turned (t':=s.toks) (λb o hb e=>eb b o hb e) f0 f1 f3 f4 f5⟩
 self:=λ_ _ _ _ _ st h=>wpAny_pyIter_revIter st.2 h
def zmo (K:W.Frag)(ta:TE):TI:=fun σ H R=>ta σ H λx H1=>∃ a xs,x=.ref a/\SqL K H1 a xs/\R (Itv K a xs.length) H1
theorem zkm {X:Cx} {tg a:Expr} {ta:TE} {p pos:Pos} (hg:Gl X "reversed") (hm:X.mg "reversed"=none) (hb:bootBuiltins "reversed"=some (.type "reversed")) (ha:PE X a ta) (hs:starEach [a] X.env=[(false,eval a X.env)]:=by rfl) :
 PI X tg (.Call (.Name "reversed" p) [a] [] pos) (zmo X.K ta):=by
 intro pins s σ H R I h
 refine Call_ (vt I hg hm hb (u0q ?_ hs rfl))
 rw[hs]
 show wpAny _ _ (spliced ((false,eval a X.env)::[])) _ _ _
 refine u2A (thn (ha pins s σ H _ I h) λv s1 hh9=>?_)
 obtain⟨x,H1,I1,r1,q1⟩:=hh9
 obtain⟨t,xs,rfl,hx,q⟩:=q1
 cases r1
 obtain⟨its,rv,pt,hz⟩:=I1.list hx
 refine u2O ?_
 refine call_reversed_list pt.isList ?_
 have hl:its.toArray.size=xs.length:=by rw[t9,<- rv.length]
 refine wpAny_pyIter_revIter (l:=t) (i:=((its.toArray.size:Nat):Int) - 1) ⟨_,r8 _ rfl,rfl,rfl⟩ ?_
 refine⟨s1.heap.objs.size,[s1.heap.objs.size],_,_,H1,rfl,I1.kept (t':=s1.toks) λb o e=>u4 _ e,zgN t _ xs.length,⟨u0D _,_,r8 _ rfl,rfl,?_⟩,λb hb=>?_,q⟩
 .rw[hl]
  show Data.fields #[.ref t,rawInt ((xs.length:Int) - 1)]=Data.fields #[.ref t,rawInt ((xs.length:Int) - 1 - ((0:Nat):Int))]
  simp
 .have e:b=s1.heap.objs.size:=by simpa using hb
  subst e
  exact I1.fpOk (q5 _) (I1.hok.fresh (q5 _))
end L2
namespace Dl
open PySem L2 PySem.Spec PyProof.Rows
variable [KK]
theorem zlz {K:W.Frag}{F:Hp}{p:Addr}{xs:List V}{ds:List D}(h:F p=some (.lst xs))(al:AtL F ds xs):zjP (Itv K p xs.length) F ds.reverse:=by
 intro i F2 H2 s1 s2
 have q:SqL K H2 p xs:=SqL.of (s2 _ _ (s1 _ _ h))
 refine⟨λhl=>?_,λd hd=>?_⟩
 .show xs.length<=i
  rw[al.length,hl,u2n]
  exact q5 _
 .obtain⟨x,hx,ax⟩:=al.reverse.get hd
  refine⟨⟨xs,x,q,rfl,hx⟩,λy H3 hy=>?_⟩
  obtain⟨rfl,hy⟩:=hy
  have:=hy xs q
  rw[hx]at this
  cases this
  exact⟨F2,.refl s2,ax.mono s1⟩
theorem zke {X:Cx} {tg a:Expr} {p pos:Pos} {f:Ev->Option D} (hg:Gl X "reversed") (hm:X.mg "reversed"=none) (ha:ED X a f) (hs:starEach [a] X.env=[(false,eval a X.env)]:=by rfl) :
 ID X tg (.Call (.Name "reversed" p) [a] [] pos) (zlE f):=by
 obtain⟨t,pa,r⟩:=ha
 refine⟨_,zkm hg hm zb4 pa hs,fun σ ρ F H ds R s va e q=>?_⟩
 obtain⟨d,e1,e2⟩:=u3.mp e
 refine r σ ρ F H d _ s va e1 λF1 H1 v g1 a1=>?_
 unfold revD at e2
 split at e2 <;> cases e2
 obtain⟨l,xs,rfl,hx,al⟩:=a1.lst_inv
 exact⟨l,xs,rfl,SqL.of (g1.fh _ _ hx),q F1 H1 _ g1 (zlz hx al)⟩
end Dl
namespace L2
open PySem PySem.Spec PyProof.Rows PySem.W
section
variable {P:Program}{w:World}{K:W.Frag}{mg:Str->Option Value}{base:Heap}
theorem Fun.okC {x qual:Str}{st:Stmt}{f:Addr}{fd:FuncData}{N ps:List Str}{k:Nat}{sp:Sp}{c:Addr}(hcd:fd.code=.ref c)(F:Fun K x qual st f fd)(S:zw N ps (zh st))(len:∀ vs H Q E,sp vs H Q E->vs.length=ps.length)
 (hbody:∀ (A:Around) (outer:List Env) (s:Shared) (H:Hp) (vs:List V) (Q:VK) (E:XK),wC k (A.deeper (envOfC qual (zh st) s.heap.objs.size f (.ref c)))->sp vs H Q E ->
  ∃ t,PSs (zec CX0 P w K mg base N qual (zh st) f (.ref c) A outer s H E).nox (xf st) t/\t { nx:=λ_ H'=>Q .non H',rt:=Q } (start N vs) H):yW P w K mg base CX0 (k+1) f fd ps sp:=by
 obtain⟨oc,od,kV,doc,pm,an,cdv,ct,osl,rfl,lk,hc2⟩:=F.ex
 have hcd:cdv=.ref c:=hcd
 subst hcd
 refine zld lk hc2 S len λA outer s H vs Q E hr hsp=>?_
 obtain⟨t,h,q⟩:=hbody A outer s H vs Q E hr hsp
 exact⟨t,h.nox,q⟩
end
theorem tab_mk {K:Frag}{x:Str}{f c P:Addr}{oc od o1 d1 fd sl vs s1}(a:nsIn K mainGlobals x=some (some (.ref f)))(l:K.lookup f=some ⟨oc,od,.func fd,sl⟩)(hc:fd.code=.ref c)(cl:K.lookup c=some ⟨o1,d1,.fields vs,s1⟩)(hv:vs[11]?=some (.ref P)):tabIn K x=some (c,P):=by
 unfold tabIn
 rw[a]
 dsimp only
 rw[l]
 dsimp only
 rw[hc]
 dsimp only
 rw[cl]
 dsimp only
 rw[hv]
end L2
namespace Dl
open PySem L2 PySem.Spec PyProof.Rows
variable [KK]
theorem zkN {P:Program}{w:World}{K:W.Frag}{mg:Str->Option Value}{base:Heap}{x qual:Str}{st:Stmt}{f:Addr}{fd:FuncData}{N ps:List Str}{k:Nat}{g:SE->Ctl}{c:Addr}(hcd:fd.code=.ref c)(Fu:Fun K x qual st f fd)(S:zw N ps (zh st))
 (hb:∀ (A:Around) (outer:List Env) (s:Shared) (H:Hp) (E:XK),wC k (A.deeper (PyProof.Rows.envOfC qual (zh st) s.heap.objs.size f (.ref c)))->SDs (zec CX0 P w K mg base N qual (zh st) f (.ref c) A outer s H E).nox (xf st) g) :
 yW P w K mg base CX0 (k+1) f fd ps (spD ps.length (fnD N.length g)):=by
 refine Fu.okC hcd S (λvs H Q E h=>?_) λA outer s H vs Q E hr h=>?_
 .obtain⟨ds,d,F,hl,_,a,_⟩:=h
  rw[a.length];exact hl
 .obtain⟨ds,d,F,hl,sm,a,e,q⟩:=h
  obtain⟨t,p,r⟩:=hb A outer s H E hr
  refine⟨t,p,r F H F H _ _ _ (XY sm a) ?_⟩
  unfold fnD at e
  cases hg:g (ds.map .v++List.replicate (N.length - ds.length) .no) with
  | rt d'=>rw[hg]at e;cases e;exact λF' H' v g av=>q F' H' v g av
  | nx ρ=>rw[hg]at e;cases e;exact λF' H' σ rl=>q F' H' _ rl.gr .non
  | bk ρ=>rw[hg]at e;cases e
  | ct ρ=>rw[hg]at e;cases e
  | no=>rw[hg]at e;cases e
theorem ziY {P:Program}{w:World}{K:W.Frag}{mg:Str->Option Value}{base:Heap}{x qual:Str}{st:Stmt}{f:Addr}{fd:FuncData}{N ps:List Str}{k:Nat}{g:SE->Ctl}{i:Nat}{c:Addr}(hcd:fd.code=.ref c)(Fu:Fun K x qual st f fd)(S:zw N ps (zh st))
 (hb:∀ (A:Around) (outer:List Env) (s:Shared) (H:Hp) (E:XK),wC k (A.deeper (PyProof.Rows.envOfC qual (zh st) s.heap.objs.size f (.ref c)))->SDO (zec CX0 P w K mg base N qual (zh st) f (.ref c) A outer s H E).nox (xf st) g i) :
 yW P w K mg base CX0 (k+1) f fd ps (zjJ ps.length (zim N.length g i)):=by
 refine Fu.okC hcd S (λvs H Q E h=>?_) λA outer s H vs Q E hr h=>?_
 .obtain⟨ds,d,F,hl,_,a,_⟩:=h
  rw[a.length];exact hl
 .obtain⟨ds,es,F,hl,sm,a,e,q⟩:=h
  obtain⟨t,p,r⟩:=hb A outer s H E hr
  unfold zim at e
  cases hg:g (ds.map .v++List.replicate (N.length - ds.length) .no) with
  | nx ρ =>
   rw[hg]at e
   dsimp only at e
   cases hi:ρ[i]? with
   | none=>rw[hi]at e;cases e
   | some sl =>
    rw[hi]at e
    cases sl with
    | no=>cases e
    | v _=>cases e
    | m _ _ _=>cases e
    | o es' =>
     cases e
     exact⟨t,p,r F H F H _ _ _ (XY sm a) ρ es hg hi λF' H' q' xs g h0 hF hH hx=>q F' H' q' xs g h0 hF hH hx⟩
  | rt d'=>rw[hg]at e;cases e
  | bk ρ=>rw[hg]at e;cases e
  | ct ρ=>rw[hg]at e;cases e
  | no=>rw[hg]at e;cases e
end Dl
namespace OwnSortT
open PySem PyProof.Rows OwnSort
theorem NT.keepT {h h':Heap} {v:Value} {t:List Int} (x:NT h v t) (k:∀ b o,o.cls=.type "tuple"->h.get? b=some o->h'.get? b=some o):NT h' v t:=by
 obtain⟨a,o,n,i,tk,c,us,e,e1,c1,d,e2,o2,n2,its,f,fc,r⟩:=x
 exact⟨a,o,n,i,tk,c,us,e,k _ _ c1 e1,c1,d,e2,o2,n2,its,k _ _ fc f,fc,r⟩
theorem NT.keep {h h':Heap}{v:Value}{t:List Int}(x:NT h v t)(k:∀ b o,h.get? b=some o->h'.get? b=some o):NT h' v t:=x.keepT λb o _ e=>k b o e
section
variable {prog:Program}{w:World}{A:Around}{E:Value->Shared->Prop}{s:Shared}
theorem zeY {vs:List Value}(hu:A.units < cLine)(hT:∀ v∈vs,∃ t,NT s.heap v t):OwnTim.LtE prog w A E s (XI true s.heap) (tuples' true) (·∈(pairsOf vs).toList):=by
 intro st x y Q hk hx hy h
 have look:∀ {x:Keyed},x∈(pairsOf vs).toList->∃ t,NT s.heap x.1 t/\OwnTim.ky (XI true s.heap) x=t:=λ{x} hm=>by
  rw[pairsOf_toList]at hm
  obtain⟨t,ht⟩:=hT _ (mem_zip_self hm).2
  refine⟨t,ht,?_⟩
  unfold OwnTim.ky
  show(keyTN true s.heap x.1).getD _=t
  rw[keyTN_of (md:=true) ht]
  rfl
 obtain⟨a,ta,ka⟩:=look hx
 obtain⟨b,tb,kb⟩:=look hy
 rw[ka,kb]at h
 rw[lt'_eq]
 refine r9 (u3u ?_)
 rw[hk]
 exact r9 (u3G (u1V (zgc (md:=true) hu ta tb ⟨rfl,d6 h⟩)))
end
def zjm (h:Heap)(out:List Value):Prop:=∃ ts:List (List Int),out.length=ts.length/\(∀ (i:Nat) (v:Value) (t:(List Int)),out[i]?=some v->ts[i]?=some t->NT h v t)/\ts.Pairwise λa b=>HT.lexLt b a=false
theorem zdo {h h':Heap}{vs:List Value}{xs:Array Keyed}(hT:∀ v∈vs,∃ t,NT h v t)(hk:∀ v t,NT h v t->NT h' v t)(pm:xs.Perm (pairsOf vs))(hs:SortedToK (XI true h') xs (pairsOf vs).size):(xs.map (·.2)).toList.Perm vs/\zjm h (xs.map (·.2)).toList:=by
 have hl:xs.toList.Perm (vs.zip vs):=by rw[<-pairsOf_toList];exact u0H.mp pm
 have hm:∀ p∈xs.toList,p.1=p.2/\p.1∈vs:=λp hp=>mem_zip_self (hl.mem_iff.mp hp)
 have e2:(xs.map (·.2)).toList=xs.toList.map (·.2):=by simp
 rw[e2]
 refine⟨?_,xs.toList.map λp=>(keyTN true h' p.1).getD ([]:List Int),by simp,λi v t hv ht=>?_,?_⟩
 .have:=hl.map (·.2)
  rwa[show(vs.zip vs).map (·.2)=vs from u3U (q5 _)]at this
 .rw[j7]at hv ht
  cases hx:xs.toList[i]? with
  | none=>rw[hx]at hv;cases hv
  | some p =>
   rw[hx]at hv ht
   cases hv
   cases ht
   obtain⟨q1,q2⟩:=hm p (j4 hx)
   obtain⟨t,ht⟩:=hT _ q2
   show NT h p.2 ((keyTN true h' p.1).getD ([]:List Int))
   rw[keyTN_of (md:=true) (hk _ _ ht),<- q1]
   exact ht
 .rw[u0y]
  intro i j hi hj hij
  have hi':i < xs.size:=by simpa using hi
  have hj':j < xs.size:=by simpa using hj
  have:=hs i j (u2a hij) (by rw[<-pm.size_eq];exact hj')
  unfold KK at this
  rw[u2y xs i hi',u2y xs j hj']at this
  have this:HT.lexLt ((keyTN true h' xs[j].1).getD ([]:List Int)) ((keyTN true h' xs[i].1).getD ([]:List Int))=false:=this
  simpa using this
section
variable {prog:Program}{w:World}{A:Around}{E:Value->Shared->Prop}{s:Shared}
theorem W7 {a:Addr} {vs:List Value} {n:Nat} {P:Fin->Shared->Prop} (ho:s.heap.get? a=some (seqObj "list" vs.toArray n)) (hT:∀ v∈vs,∃ t,NT s.heap v t) (h64:vs.length < 10000000) (hu:A.units < cLine)
 (h:∀ out:Array Value,out.toList.Perm vs->zjm s.heap out.toList->P (.done (.ret .none)) { s with heap:=sortedHeap s.heap a vs out }):wpAny (model prog w) A (Builtin.«list.sort» ⟨[.ref a],[]⟩) P E s:=by
 have la:a < s.heap.objs.size:=j9 ho
 have zl:vs.toArray.size=vs.length:=t9
 obtain⟨e1,o1⟩:∃ e1,(s.heap.update a (Obj.mapSeq λ_=>#[])).get? a=some (seqObj "list" #[] e1):=⟨_,u2b ho (λ_=>#[])⟩
 have o6:(((s.heap.update a (Obj.mapSeq λ_=>#[])).push (seqObj "tuple" vs.toArray 0)).push (seqObj "list" #[] 0)).get? a=some (seqObj "list" #[] e1):=u4 _ (u4 _ o1)
 have up:∀ b o,o.cls=.type "tuple"->s.heap.get? b=some o->(((s.heap.update a (Obj.mapSeq λ_=>#[])).push (seqObj "tuple" vs.toArray 0)).push (seqObj "list" #[] 0)).get? b=some o:=λb o c e=>by
  refine u4 _ (u4 _ ((u0h _ _ λz=>?_).trans e))
  subst z
  rw[ho]at e
  cases e
  exact absurd (show Value.type "list"=Value.type "tuple" from c) (by decide +kernel)
 have hT6:∀ v∈vs,∃ t,NT (((s.heap.update a (Obj.mapSeq λ_=>#[])).push (seqObj "tuple" vs.toArray 0)).push (seqObj "list" #[] 0)) v t:=λv hv=>let ⟨t,ht⟩:=hT v hv;⟨t,ht.keepT up⟩
 rw[list_sort_plain]
 refine u0 (u1G ho rfl (u0 (u1u ho rfl (u0 (u2r o1 rfl (u0 (u3L (u0 (u2J (u08 ?_))))))))))
 show wpAny (model prog w) A _ P E { s with heap:=((s.heap.update a (Obj.mapSeq λ_=>#[])).push (seqObj "tuple" vs.toArray 0)).push (seqObj "list" #[] 0) }
 by_cases c2:vs.toArray.size < 2
 .rw[j3 c2,j3 c2]
  refine u0 (u9 ?_)
  dsimp only
  rw[u37]
  refine u0 (u9 ?_)
  obtain⟨r1,r2⟩:=zdo (xs:=pairsOf vs) hT (λv t ht=>ht) (u1M _) (λi j hij hj=>by
   obtain rfl:i=j:=by rw[u23]at hj;omega
   exact u1l _)
  refine u0 (u2r o6 rfl (u0 (u1u o6 rfl ?_ (hsz2:=by rw[u2U];show(pairsOf vs).size<=_;rw[u23,u1K];omega))))
  rw[show(e1 != e1)=false by simp]
  exact u9 (h _ r1 r2)
 .rw[j8 c2,j8 c2]
  cases vs with
  | nil=>simp at c2
  | cons v₁ rest =>
   refine u0 (zev (md:=true) hT6 ?_)
   refine u0 (u1b (OwnTim.own_runsE (st:=SortSt.mk' (tuples' true) ((v₁::rest).toArray.zip (v₁::rest).toArray) #[] 7 none) (Q:=λ_ t=>(arrOf t).Perm (pairsOf (v₁::rest))/\failedOf t=none/\SortedToK (XI true _) (arrOf t) (pairsOf (v₁::rest)).size)
    (zeY hu hT6) (u1M _) rfl rfl rfl λt p1 p2 p3=>⟨p1,p2,p3⟩) ?_ λ_ _ e=>e)
   rintro⟨⟨⟩,t⟩ s' ⟨rfl,p1,p2,p3⟩
   obtain⟨r1,r2⟩:=zdo hT (λv t ht=>ht.keepT up) p1 p3
   refine u0 (u2r o6 rfl (u0 (u1u o6 rfl ?_ (hsz2:=by rw[u2U];show(arrOf t).size<=_;rw[p1.size_eq,u23,u1K];omega))))
   rw[p2,show(e1 != e1)=false by simp]
   exact u9 (h _ r1 r2)
theorem ownN_sorted {l:Addr}{vs:List Value}{Q:Value->Shared->Prop}(hl:s.heap.IsList l vs.toArray)(hT:∀ v∈vs,∃ t,NT s.heap v t)(h64:vs.length < 10000000)(hu:A.in1.in1.units < cLine)
 (h:∀ out:Array Value,out.toList.Perm vs->zjm s.heap out.toList->Q (.ref (s.heap.objs.size+1)) { s with heap:=sortedAll s.heap vs out }):wpAny (model prog w) A (call (.builtin "sorted") [.ref l]) Q E s:=by
 have z1:((s.heap.push (seqObj "list" #[] 0)).update s.heap.objs.size (Obj.mapSeq (·++vs.toArray))).objs.size=s.heap.objs.size+1:=(Heap.size_update ..).trans (size_push' _ _)
 have oL:(((s.heap.push (seqObj "list" #[] 0)).update s.heap.objs.size (Obj.mapSeq (·++vs.toArray))).push (seqObj "list" vs.toArray 0)).get? (s.heap.objs.size+1)=some (seqObj "list" vs.toArray 0):=z1 ▸ r8 _ rfl
 have up:∀ b o,s.heap.get? b=some o->(((s.heap.push (seqObj "list" #[] 0)).update s.heap.objs.size (Obj.mapSeq (·++vs.toArray))).push (seqObj "list" vs.toArray 0)).get? b=some o:=λb o e =>
  u4 _ ((u0h _ _ λz=>by subst z;exact absurd (j9 e) (u0I _)).trans (u4 _ e))
 refine Calls.call_function_entry kind_sorted plain_sorted entry_sorted (args_sorted1 _) ?_
 unfold Builtin.«sorted»
 refine u0 (m:=checkCount "sorted" 1 1 _) (u9 (u0 (collect_list hl (u0 (u2J ?_)))))
 show wpAny _ _ _ _ _ (Shared.mk (((s.heap.push (seqObj "list" #[] 0)).update s.heap.objs.size (Obj.mapSeq (·++vs.toArray))).push (seqObj "list" vs.toArray 0)) s.gens s.drawn s.toks s.os)
 rw[z1]
 refine u0 (u08 (u07 slot_list_sort ⟨_,oL,rfl⟩ entry_list_sort (W7 oL (λv hv=>let ⟨t,ht⟩:=hT v hv;⟨t,ht.keep up⟩) h64 hu λout p1 p2=>⟨_,rfl,u9 ⟨_,rfl,h out p1 ?_⟩⟩) (args_list_sort _)))
 obtain⟨ts,q1,q2,q3⟩:=p2
 refine⟨ts,q1,λi v t hv ht=>?_,q3⟩
 obtain⟨t0,ht0⟩:=hT v (p1.mem_iff.mp (j4 hv))
 rw[(q2 i v t hv ht).uniq (ht0.keep up)]
 exact ht0
end
end OwnSortT
namespace Dl
open PySem L2
def zbx:List Int->D
 | i::us=>.tup [.int i,.tup (us.map .int)]
 | []=>.non
def NAt (F:Hp)(a:Addr)(t:List Int):Prop:=zdx true F a t
theorem NAt.up {F H:Hp}{a:Addr}{t:List Int}(x:NAt F a t)(s:yz F H):zdx true H a t:=zdx.mono x s
theorem NAt.at {F:Hp}[KK]{a:Addr}{t:List Int}(x:NAt F a t):At F (zbx t) (.ref a):=by
 obtain⟨i,c,us,rfl,h1,h2⟩:=x
 exact .tup h1 (.cons .int (.cons (.tup h2 (.ints _)) .nil))
def zdR:List D->Option (List (List Int))
 | []=>some []
 | .tup [.int i,.tup es]::ds=>(V8 es).bind λus=>(zdR ds).map ((i::us)::·)
 | _::_=>none
theorem zgS:∀ {ds:List D} {ts:List (List Int)},zdR ds=some ts->ds=ts.map zbx/\∀ t∈ts,t≠[]:=by
 intro ds
 induction ds with
 | nil=>intro ts h;cases h;exact⟨rfl,λ_ h=>(by cases h)⟩
 | cons d ds ih =>
  intro ts h
  unfold zdR at h
  split at h
  .rename_i e;cases e
  .rename_i i es ds' e
   cases e
   obtain⟨us,e1,h⟩:=u3.mp h
   obtain⟨rs,e2,rfl⟩:=t7.mp h
   obtain⟨e3,e4⟩:=ih e2
   refine⟨by rw[u0e,<- e3,Zp e1];rfl,λx hx=>?_⟩
   rcases j5.mp hx with rfl | hx
   .exact List.cons_ne_nil _ _
   .exact e4 x hx
  .cases h
theorem zew {α:Type}{h:α->Int}{u:α->List Int}:∀ (l:List α),zdR (l.map λx=>.tup [.int (h x),.tup ((u x).map .int)])=some (l.map λx=>h x::u x):=by
 intro l
 induction l with
 | nil=>rfl
 | cons x l ih =>
  show(V8 ((u x).map .int)).bind _=_
  rw[ZN,d7,ih]
  rfl
def zag:List D->Option (List D)
 | [.lst ds]=>if ds.length < 10000000 then (zdR ds).map λts=>(yh ts).map zbx else none
 | _=>none
variable [KK]
section
variable {X:Cx}{e:Expr}{pos:Pos}
theorem At.tupN_inv {F:Hp}{t:List Int}{v:V}(h:At F (zbx t) v)(hne:t≠[]):∃ a,v=.ref a/\NAt F a t:=by
 cases t with
 | nil=>exact absurd rfl hne
 | cons i us =>
  obtain⟨a,xs,rfl,hx,al⟩:=(show At F (.tup [.int i,.tup (us.map .int)]) v from h).tup_inv
  obtain⟨v1,r1,rfl,b1,c1⟩:=al.cons_inv
  obtain⟨v2,r2,rfl,b2,c2⟩:=c1.cons_inv
  cases c2.nil_inv
  cases b1.int_inv
  obtain⟨c,ws,rfl,hc',cl'⟩:=b2.tup_inv
  rw[xP cl']at hc'
  exact⟨a,rfl,i,c,us,rfl,hx,hc'⟩
theorem zaF {k:Nat} (hr:wC (k+4) X.A):Xp X (.builtin "sorted") (λxs H Q=>∃ F p ys ts,xs=[.ref p]/\yz F H/\H p=some (.lst ys)/\AtL F (ts.map zbx) ys/\ts.length < 10000000/\(∀ t∈ts,t≠[])/\∀ l zs,H l=none->AtL F ((yh ts).map zbx) zs->Q (.ref l) (upd H l (.lst zs))):=by
 intro pins s σ H xs us Q I r h
 obtain⟨F,p,ys,ts,rfl,sm,hp,al,h64,hne,q⟩:=h
 obtain⟨u,rfl,ru⟩:=za7 r
 cases ru
 obtain⟨its,rv,pl,hz⟩:=I.list (SqL.of hp)
 have hlen:its.length=ts.length:=by rw[<-rv.length,al.length,u5]
 have atI':∀ (i:Nat) (v:Value) (t:List Int),its[i]?=some v->ts[i]?=some t->∃ a,v=.ref a/\NAt F a t/\OwnSortT.NT s.heap v t:=λi v t h1 h2=>by
  obtain⟨x,hx,ax⟩:=al.get (i:=i) (d:=zbx t) (by rw[j7,h2];rfl)
  obtain⟨a,rfl,ha⟩:=ax.tupN_inv (hne t (j4 h2))
  obtain⟨v',hv',rvv⟩:=rv.get hx
  rw[h1]at hv'
  cases hv'
  cases rvv
  exact⟨a,rfl,ha,zls (md:=true) I.hok (ha.up sm) (hne t (j4 h2))⟩
 have look:∀ {v:Value},v∈its->∃ a t,v=.ref a/\NAt F a t/\OwnSortT.NT s.heap v t:=λ{v} hv=>by
  obtain⟨j,hj,rfl⟩:=u0i hv
  have hj2:j < ts.length:=by omega
  obtain⟨a,e1,e2,e3⟩:=atI' j its[j] ts[j] (u6 hj) (u6 hj2)
  exact⟨a,_,e1,e2,e3⟩
 refine OwnSortT.ownN_sorted pl.isList (λv hv=>let ⟨a,t,_,_,ht⟩:=look hv;⟨t,ht⟩) (by omega) (u0f (i7 _ _) ((hr.mono (by omega:k+2<=k+4)).in1.in1).units) λo2 pm ri=>?_
 obtain⟨us,l1,l2,l3⟩:=ri
 have zsOf:∀ (ws:List Value) (vs:List (List Int)),ws.length=vs.length->(∀ w∈ws,w∈its)->(∀ (i:Nat) v t,ws[i]?=some v->vs[i]?=some t->OwnSortT.NT s.heap v t)->∃ zs:List V,yf zs ws/\AtL F (vs.map zbx) zs:=by
  intro ws
  induction ws with
  | nil =>
   intro vs hl _ _
   cases vs with
   | nil=>exact⟨[],.nil,.nil⟩
   | cons _ _=>simp at hl
  | cons w ws ih =>
   intro vs hl hm ht
   cases vs with
   | nil=>simp at hl
   | cons t vs =>
    obtain⟨zs,z1,z2⟩:=ih vs (by simpa using hl) (λw' hw'=>hm w' (u0b _ hw')) (λi v t h1 h2=>ht (i+1) v t (by simpa using h1) (by simpa using h2))
    obtain⟨a,t',rfl,ha,htp⟩:=look (hm w u0F)
    have et:t'=t:=OwnSortT.NT.uniq htp (ht 0 _ t rfl rfl)
    subst et
    exact⟨.ref a::zs,.cons rfl z1,.cons ha.at z2⟩
 obtain⟨zs,z1,z2⟩:=zsOf o2.toList us l1 (λw hw=>pm.mem_iff.mp hw) l2
 have keysPerm:us.Perm ts:=by
  have kv:∀ (ws:List Value) (vs:List (List Int)),ws.length=vs.length->(∀ (i:Nat) v t,ws[i]?=some v->vs[i]?=some t->OwnSortT.NT s.heap v t)->vs=ws.map λv=>(OwnSortT.keyTN true s.heap v).getD []:=by
   intro ws
   induction ws with
   | nil=>intro vs hl _;cases vs with
    | nil=>rfl
    | cons _ _=>simp at hl
   | cons w ws ih =>
    intro vs hl ht
    cases vs with
    | nil=>simp at hl
    | cons t vs =>
     rw[u0e,OwnSortT.keyTN_of (md:=true) (ht 0 w t rfl rfl),<- ih vs (by simpa using hl) λi v t h1 h2=>ht (i+1) v t (by simpa using h1) (by simpa using h2)]
     rfl
  rw[kv _ _ l1 l2,kv its ts hlen λi v t h1 h2=>(atI' i v t h1 h2).elim λ_ h=>h.2.2]
  exact pm.map _
 have e3:=Zh keysPerm l3
 rw[e3]at z2
 have hn:H (s.heap.objs.size+1)=none:=I.hok.fresh (u2R _)
 obtain⟨ep,he⟩:=u3J s.heap its o2.toList.toArray
 have hzl:zs.length<=sizeLine:=by
  rw[z1.length,pm.length_eq,hlen,u1K]
  omega
 have fin:EP X pins σ Q (.ref (s.heap.objs.size+1)) { s with heap:=PyProof.Rows.sortedAll s.heap its o2.toList.toArray } :=
  ⟨.ref (s.heap.objs.size+1),upd H (s.heap.objs.size+1) (.lst zs),I.laid (t':=s.toks) (λb o z=>u3y z) (u2R _) (show xt X.prog X.w _ _ _ (.lst zs) from⟨hzl,o2.toList,ep,z1,he⟩),rfl,q _ zs hn z2⟩
 simpa using fin
theorem zcs {p:Pos} {f:Ev->Option (List D)} {k:Nat} (hr:wC (k+4) X.A) (hgl:Gl X "sorted") (hm:X.mg "sorted"=none) (ha:AD X [e] f)
 (he:starEach [e] X.env=(false,eval e X.env)::starEach [] X.env:=by rfl) (hpl:(backTo pos (starEach [] X.env)).any (·.1)=false:=by rfl):FL X (.Call (.Name "sorted" p) [e] [] pos) (fFn zag f):=by
 obtain⟨t,pa,ra⟩:=ha
 refine⟨_,X9 (zaF hr) hgl hm YL pa (by decide) (by decide) he hpl,fun σ ρ F H z Q s va e q=>?_⟩
 obtain⟨ds,e1,e2⟩:=u3.mp e
 refine ra σ ρ F H ds _ s va e1 λF1 H1 vs g1 a1=>?_
 have e2':=e2
 unfold zag at e2'
 split at e2'
 .rename_i es
  split at e2' <;> try cases e2'
  rename_i h64
  obtain⟨ts,e3,rfl⟩:=t7.mp e2'
  obtain⟨e4,e5⟩:=zgS e3
  subst e4
  rw[u5]at h64
  obtain⟨x,r,rfl,ax,ar⟩:=a1.cons_inv
  cases ar.nil_inv
  obtain⟨p,ys,rfl,hx,bl⟩:=ax.lst_inv
  exact⟨F1,p,ys,ts,rfl,g1.fh,g1.fh _ _ hx,bl,h64,e5,λl zs hl az=>q _ _ _ _ (g1.trans (Gr.hide g1.fh hl _)) (XN g1 hl) (g1.fh.free hl) zn az⟩
 .cases e2'
end
theorem zdk {X:Cx}{e:Expr}{pos:Pos}{f:Ev->Option (List D)}(h:FL X e f):SDO X [.Return (some e) pos] (vY 0 f) 0:=by
 obtain⟨t,p,r⟩:=h
 refine⟨_,zeG (zib p),λFb Hb F H ρ σ E rl ρ' es hg hi k=>?_⟩
 unfold vY at hg
 cases hf:f (visF ρ) with
 | none=>rw[hf]at hg;cases hg
 | some ds =>
  rw[hf]at hg
  cases hg
  have he:ds=es:=by
   rw[u0W]at hi
   split at hi
   .split at hi
    .cases hi;rfl
    .cases hi
   .rename_i hn;exact absurd rfl hn
  subst he
  exact r σ _ _ H ds _ rl.gr.fh rl.visF hf λF' H' q xs g h0 hF hH hx=>k F' H' q xs (rl.grow g).gr (rl.notbase h0) hF hH hx
end Dl
namespace PySem
open Sem (wp)
section
variable {prog:Program}{w:World}{A:Around}{E:Value->Shared->Prop}{s:Shared}{z TI TO i1 i2:Addr}{fp1 fp2:List Addr}{n1 n2 k1 k2:Nat}{P1 P2:Nat->Value->Prop}{St1 St2:Nat->Heap->Prop}{a b:Value}
theorem zbn {Q:Fin->Shared->Prop}(D1:Draws prog w A i1 fp1 n1 P1 St1)(D2:Draws prog w A i2 fp2 n2 P2 St2)(ap:zbp z TI TO i1 i2 fp1 fp2)
 (hz:IsZip s.heap z TI TO .none) (hTI:IsPair s.heap TI (.ref i1) (.ref i2)) (hTO:IsPair s.heap TO a b) (h1:St1 k1 s.heap) (h2:St2 n2 s.heap) (l1:k1 < n1)
 (hE:∀ h' tk e,(∀ c o,c∉[z,TO,i1,i2]->s.heap.get? c=some o->h'.get? c=some o)->(∃ o,h'.get? e=some o/\o.cls=.type "StopIteration")->E (.ref e) { s with heap:=h',toks:=tk }) :
 wpAny (model prog w) A (Builtin.«zip.__next__» ⟨[.ref z],[]⟩) Q E s:=by
 obtain⟨nd,az1,az2,ao1,ao2,a12,a21⟩:=ap
 simp only[u0d,j5,p4,u06,u2I,u1P,u1J,u4l]at nd
 obtain⟨⟨n1',n2',n3',n4'⟩,⟨n5,n6,n7⟩,⟨n8,n9⟩,n10⟩:=nd
 show wpAny _ _ (field (.ref z) 2>>=_) _ _ _
 refine u0 (u0K hz rfl (x:=.bool false) rfl ?_)
 show wpAny _ _ (field (.ref z) 3>>=_) _ _ _
 refine u0 (u0K hz rfl (x:=.ref TI) rfl (u0 (u05 hTI rfl ?_)))
 show wpAny _ _ (Builtin.SmallTypes.ownedTupleIsFree (.ref z)>>=_) _ _ _
 refine u0 ?_
 unfold Builtin.SmallTypes.ownedTupleIsFree
 refine u0 (u0K hz rfl (x:=.none) rfl (u9 ?_))
 simp only[u2H]
 refine u0 (u1p (u0 (u0K hz rfl (x:=.ref TO) rfl (u0 (u1q hz (by simp) λg1 z1 b1=>?_)))))
 refine u0 ?_
 simp only[u1Y,u3r,u16,u2g]
 refine u0 (u0 (u3i ?_))
 show wpAny _ _ (Builtin.SmallTypes.nextOf (.ref i1)>>=_) _ _ _
 refine u0 (D1.item k1 _ _ _ l1 (yj D1 h1 b1 az1) λx g2 tk2 px st2 b2=>u9 ?_)
 have o2:IsPair g2 TO a b:=(b2.2 TO n8).trans ((b1.2 TO (u1j n2')).trans hTO)
 refine u0 (u05 o2 rfl (u0 (u3f o2 λg3 o3 b3=>?_)))
 refine u0 (u2s (u9 ?_))
 refine u0 (u0 (u3i ?_))
 show wpAny _ _ (Builtin.SmallTypes.nextOf (.ref i2)>>=_) _ _ _
 have s23:St2 n2 g3:=yj D2 (yj D2 (yj D2 h2 b1 az2) b2 a12) b3 ao2
 refine u0 (D2.done _ _ _ s23 λg4 e b4 he=>?_)
 obtain⟨oe,hoe,hce⟩:=he
 have z4:IsZip g4 z TI TO .ellipsis:=b4 _ _ n4' ((b3.2 z n2').trans ((b2.2 z n3').trans z1))
 have nez:e≠z:=λq=>by subst q;rw[z4]at hoe;cases hoe;simp at hce
 refine u1q z4 (by simp) λg5 _ b5=>hE g5 _ e (λc o hc q=>?_) ⟨oe,(b5.2 e nez).trans hoe,hce⟩
 simp only[j5,p4,u06,u2I]at hc
 obtain⟨c1,c2,c3,c4⟩:=hc
 exact(b5.2 c c1).trans (b4 c o c4 ((b3.2 c c2).trans ((b2.2 c c3).trans ((b1.2 c c1).trans q))))
theorem Zv {Q:Option Value->Shared->Prop}(D1:Draws prog w A.in1 i1 fp1 n1 P1 St1)(D2:Draws prog w A.in1 i2 fp2 n2 P2 St2)(ap:zbp z TI TO i1 i2 fp1 fp2)
 (hz:IsZip s.heap z TI TO .none) (hTI:IsPair s.heap TI (.ref i1) (.ref i2)) (hTO:IsPair s.heap TO a b) (h1:St1 k1 s.heap) (h2:St2 n2 s.heap) (l1:k1 < n1)
 (hQ:∀ h' tk,(∀ c o,c∉[z,TO,i1,i2]->s.heap.get? c=some o->h'.get? c=some o)->Q none { s with heap:=h',toks:=tk }):wpAny (model prog w) A (pyNext (.ref z)) Q E s:=by
 have hT:s.TypeIs (.ref z) "zip":=⟨_,hz,rfl⟩
 unfold pyNext
 refine u0 (u1V (u0J (name:=Str.ofString "__next__") hT u13
  (u07 u13 hT F.entry_zip_next (zbn D1 D2 ap hz hTI hTO h1 h2 l1 λh' tk e hk he=>?_) (u3N _))))
 obtain⟨o,ho,hc⟩:=he
 refine u0 (wpAny_isInstance (T:="StopIteration") (b:=true) ⟨o,ho,hc⟩ isSubtype_stop ?_)
 exact u9 (hQ _ _ hk)
end
end PySem
namespace L2
open PySem PySem.Spec PyProof.Rows
def Izq (K:W.Frag)(b1 b2:Bool)(l1 l2:Addr):It:=⟨(Izp K b1 b2 l1 l2).go,(Izp K b1 b2 l1 l2).yld,λi H=>∃ xs ys,Sq b1 K H l1 xs/\Sq b2 K H l2 ys/\ys.length=i/\i < xs.length⟩
theorem zen {P:Program}{w:World}{K:W.Frag}{es:List Expr}{k:Nat}{tp:Pos}(b1 b2:Bool)(l1 l2 z TI TO i1 i2:Addr)(ap:zbp z TI TO i1 i2 [i1,l1] [i2,l2])(n1:l1≠i1)(n2:l2≠i2) :
 zhp P w K (.Tuple es k tp) (Izq K b1 b2 l1 l2) [z,TI,TO,i1,i2] z (λi h=>IsZip h z TI TO .none/\IsPair h TI (.ref i1) (.ref i2)/\(∃ a b,IsPair h TO a b)/\WW b1 h i1 l1 i/\WW b2 h i2 l2 i) where
 mem:=(ZQ (P:=P) (w:=w) (K:=K) (es:=es) (k:=k) (tp:=tp) b1 b2 l1 l2 z TI TO i1 i2 ap n1 n2).mem
 obj:=(ZQ (P:=P) (w:=w) (K:=K) (es:=es) (k:=k) (tp:=tp) b1 b2 l1 l2 z TI TO i1 i2 ap n1 n2).obj
 keep:=(ZQ (P:=P) (w:=w) (K:=K) (es:=es) (k:=k) (tp:=tp) b1 b2 l1 l2 z TI TO i1 i2 ap n1 n2).keep
 item:=(ZQ (P:=P) (w:=w) (K:=K) (es:=es) (k:=k) (tp:=tp) b1 b2 l1 l2 z TI TO i1 i2 ap n1 n2).item
 done:=by
  intro X hP hw hK hc i pins s σ H E I hf st hg
  subst hP hw hK
  obtain⟨hz,hTI,⟨a,c,hTO⟩,h1,h2⟩:=st
  obtain⟨xs,ys,hq,hq2,rfl,hlt⟩:=hg
  obtain⟨its,rv,p,_⟩:=I.sq hq
  obtain⟨its2,rv2,p2,_⟩:=I.sq hq2
  have hl:=rv.length
  have hl2:=rv2.length
  have hh:X.A.in1.handled=none:=I.ok.hd hc
  refine Zv (Yt (prog:=X.prog) (w:=X.w) hh b1 i1 l1 n1 its.toArray) (Yt (prog:=X.prog) (w:=X.w) hh b2 i2 l2 n2 its2.toArray) ap hz hTI hTO ⟨h1,p⟩ ⟨by rw[t9,<- hl2];exact h2,p2⟩ (by rw[t9,<- hl];exact hlt) λh' tk hk=>⟨rfl,I.turnedN (ch:=[z,TI,TO,i1,i2]) (t':=tk) hf λb v hb q=>hk b v (λw=>hb ?_) q⟩
  simp only[j5,p4,u06]at w ⊢
  rcases w with w | w | w | w
  .exact .inl w
  .exact .inr (.inr (.inl w))
  .exact .inr (.inr (.inr (.inl w)))
  .exact .inr (.inr (.inr (.inr w)))
 self:=λ_ _ _ _ _ st h=>u3c st.1 h
def zlW (K:W.Frag)(ta:TA):TI:=fun σ H R=>ta σ H λvs H1=>∃ b1 b2 l1 l2 xs ys,vs=[.ref l1,.ref l2]/\Sq b1 K H1 l1 xs/\Sq b2 K H1 l2 ys/\R (Izq K b1 b2 l1 l2) H1
theorem ziN {X:Cx} {es:List Expr} {k:Nat} {tp:Pos} {a b:Expr} {ta:TA} {p pos:Pos} (hg:Gl X "zip") (hm:X.mg "zip"=none) (hb:bootBuiltins "zip"=some (.type "zip")) (ha:PA X [a,b] ta)
 (hs:starEach [a,b] X.env=[(false,eval a X.env),(false,eval b X.env)]:=by rfl) (hs2:starEach [b] X.env=[(false,eval b X.env)]:=by rfl):PI X (.Tuple es k tp) (.Call (.Name "zip" p) [a,b] [] pos) (zlW X.K ta):=by
 intro pins s σ H R I h
 refine Call_ (vt I hg hm hb (u0q (thn (ha pos pins s σ H _ I h) λus s1 hh9=>?_) (by rw[hs,hs2]) (by rw[hs2];rfl)))
 obtain⟨vs,H1,I1,r1,q1⟩:=hh9
 obtain⟨b1,b2,l1,l2,xs,ys,e,hq1,hq2,q⟩:=q1
 subst e
 obtain⟨u,u2,rfl,ru,ru2⟩:=zco r1
 cases ru
 cases ru2
 obtain⟨its,rv,p1,lt1⟩:=I1.sq hq1
 obtain⟨its2,rv2,p2,lt2⟩:=I1.sq hq2
 refine XE p1 p2 λh2 hz hTI hTO hi1 hi2 hk=>u3c hz ?_
 have hn:∀ b,s1.heap.objs.size<=b->VD X pins H1 b:=λb hb=>I1.fpOk hb (I1.hok.fresh hb)
 have ap:zbp (s1.heap.objs.size+4) (s1.heap.objs.size+2) (s1.heap.objs.size+3) s1.heap.objs.size (s1.heap.objs.size+1) [s1.heap.objs.size,l1] [s1.heap.objs.size+1,l2]:=by
  have q1:l1≠s1.heap.objs.size:=p5 lt1
  have q2:∀ j:Nat,s1.heap.objs.size+j≠l1:=λj e=>u0I _ (d8 (by rw[<-e]at lt1;exact lt1) (i7 _ _))
  have q3:∀ j:Nat,s1.heap.objs.size+j≠l2:=λj e=>u0I _ (d8 (by rw[<-e]at lt2;exact lt2) (i7 _ _))
  have ne:∀ i j:Nat,i≠j->s1.heap.objs.size+i≠s1.heap.objs.size+j:=λi j h e=>h (u2q e)
  have n0:∀ i:Nat,i≠0->s1.heap.objs.size+i≠s1.heap.objs.size:=λi h e=>h (u2q (n:=s1.heap.objs.size) (m:=i) (k:=0) e)
  refine⟨?_,?_,?_,?_,?_,?_,?_⟩
  .simp only[u0d,j5,p4,u06,u2I,u1P,u1J,u4l]
   exact⟨⟨ne 4 2 (by decide),ne 4 3 (by decide),n0 4 (by decide),ne 4 1 (by decide)⟩,⟨ne 2 3 (by decide),n0 2 (by decide),ne 2 1 (by decide)⟩,⟨n0 3 (by decide),ne 3 1 (by decide)⟩,u1j (n0 1 (by decide))⟩
  .simp only[j5,p4,u06,u2I];exact⟨n0 4 (by decide),q2 4⟩
  .simp only[j5,p4,u06,u2I];exact⟨ne 4 1 (by decide),q3 4⟩
  .simp only[j5,p4,u06,u2I];exact⟨n0 3 (by decide),q2 3⟩
  .simp only[j5,p4,u06,u2I];exact⟨ne 3 1 (by decide),q3 3⟩
  .simp only[j5,p4,u06,u2I];exact⟨u1j (n0 1 (by decide)),q3 0⟩
  .simp only[j5,p4,u06,u2I];exact⟨n0 1 (by decide),q2 1⟩
 refine⟨_,_,_,_,H1,rfl,I1.kept (t':=s1.toks) hk,zen b1 b2 l1 l2 _ _ _ _ _ ap (p5 lt1) (p5 (u1O lt2)),⟨hz,hTI,⟨_,_,hTO⟩,hi1,hi2⟩,λb hb=>?_,q⟩
 simp only[j5,p4,u06]at hb
 rcases hb with rfl | rfl | rfl | rfl | rfl
 .exact hn _ (i7 _ _)
 .exact hn _ (i7 _ _)
 .exact hn _ (i7 _ _)
 .exact hn _ (q5 _)
 .exact hn _ (i7 _ _)
end L2
namespace Dl
open PySem L2
def zfL (f:Ev->Option (List D)):Ev->Option (List D):=fun ρ=>(f ρ).bind λas=>match as with
 | [d,e]=>(y6 d).bind λxs=>(y6 e).bind λys=>if ys.length < xs.length then some (VH xs ys)else none
 | _=>none
theorem WJ:∀ (xs ys:List D),ys.length < xs.length->(VH xs ys).length=ys.length:=by
 intro xs
 induction xs with
 | nil=>intro ys h;exact absurd h (u36 _)
 | cons x xs ih =>
  intro ys h
  cases ys with
  | nil=>rfl
  | cons y ys=>show(VH xs ys).length+1=ys.length+1;rw[ih ys (Nat.lt_of_succ_lt_succ h)]
variable [KK]
section
variable {X:Cx}{a b:Expr}{pos:Pos}
theorem zjt {es:List Expr} {k:Nat} {tp p:Pos} {f:Ev->Option (List D)} (hg:Gl X "zip") (hm:X.mg "zip"=none) (ha:AD X [a,b] f)
 (hs:starEach [a,b] X.env=[(false,eval a X.env),(false,eval b X.env)]:=by rfl) (hs2:starEach [b] X.env=[(false,eval b X.env)]:=by rfl):ID X (.Tuple es k tp) (.Call (.Name "zip" p) [a,b] [] pos) (zfL f):=by
 obtain⟨t,pa,r⟩:=ha
 refine⟨_,ziN hg hm zif pa hs hs2,fun σ ρ F H ds R s va e q=>?_⟩
 obtain⟨as,e1,e2⟩:=u3.mp e
 refine r σ ρ F H as _ s va e1 λF1 H1 v g1 a1=>?_
 split at e2
 .obtain⟨x,r',rfl,ax,ar⟩:=a1.cons_inv
  obtain⟨y,r',rfl,ay,ar⟩:=ar.cons_inv
  cases ar.nil_inv
  obtain⟨xs,e3,e2'⟩:=u3.mp e2
  obtain⟨ys,e4,e2''⟩:=u3.mp e2'
  clear e2 e2' e
  split at e2'' <;> cases e2''
  rename_i hle
  obtain⟨b1,p1,us,rfl,sq1,al⟩:=zgV (K:=X.K) g1.fh ax e3
  obtain⟨b2,p2,ws,rfl,sq2,bl⟩:=zgV (K:=X.K) g1.fh ay e4
  refine⟨b1,b2,p1,p2,us,ws,rfl,sq1 (yz.refl _) g1.fh,sq2 (yz.refl _) g1.fh,q F1 H1 _ g1 λi F2 H2 s1 s2=>?_⟩
  have q1:=sq1 s1 s2
  have q2:=sq2 s1 s2
  refine⟨λhl=>⟨us,ws,q1,q2,by rw[bl.length,hl,WJ _ _ hle],by rw[al.length,hl,WJ _ _ hle];exact hle⟩,λd hd=>?_⟩
  rw[VY]at hd
  cases h1:xs[i]? with
  | none=>rw[h1]at hd;cases hd
  | some x =>
   cases h2:ys[i]? with
   | none=>rw[h1,h2]at hd;cases hd
   | some y =>
    rw[h1,h2]at hd
    cases hd
    obtain⟨u,hu,au⟩:=al.get h1
    obtain⟨u2,hu2,au2⟩:=bl.get h2
    refine⟨⟨us,ws,u,u2,q1,q2,hu,hu2⟩,λz H3 hz=>?_⟩
    obtain⟨T,x',y',rfl,hT,rfl,hx',hy'⟩:=hz
    have e5:=hx' us q1
    have e6:=hy' ws q2
    rw[hu]at e5
    rw[hu2]at e6
    cases e5
    cases e6
    have g3:=Gr.alloc s2 hT (.tup [u,u2])
    exact⟨_,g3,.tup zn (.cons (au.mono (s1.trans g3.ff)) (.cons (au2.mono (s1.trans g3.ff)) .nil))⟩
 .cases e2
end
end Dl
namespace Mz
open PySem Dl
abbrev Tie:=Int × Int
def ltP (s t:Tie):Prop:=s.1 < t.1\/(s.1=t.1/\s.2 < t.2)
instance (s t:Tie):Decidable (ltP s t):=by unfold ltP;infer_instance
theorem zf0 {a b c:Tie}(h:ltP a b)(k:ltP b c):ltP a c:=by
 unfold ltP at *
 omega
def zp (t:Tie):D:=.tup [.int t.1,.int t.2]
theorem zfF {s t:Tie}(h:zp s=zp t):s=t:=by
 unfold zp at h
 injection h with h
 injection h with h1 h2
 injection h2 with h2 _
 injection h1 with h1
 injection h2 with h2
 exact u2D h1 h2
def zx (many:Int)(ties:List Tie):D:=.tup [.int many,.tup (ties.map zp)]
structure zH (many:Int) (ties:List Tie):Prop where
 lo:1<=many
 hi:many<=8
 rng:∀ t∈ties,0<=t.1/\t.1 < t.2/\t.2 < many
 srt:ties.Pairwise ltP
def leP (s t:Tie):Bool:=if s.1=t.1 then (if s.2=t.2 then true else decide (s.2<=t.2))else decide (s.1<=t.1)
theorem zaV {s t:Tie}:leP s t=false↔ltP t s:=by
 unfold leP ltP
 by_cases h:s.1=t.1
 .rw[j3 h]
  by_cases k:s.2=t.2
  .rw[j3 k];simp;omega
  .rw[j8 k,u0X];omega
 .rw[j8 h,u0X];omega
def Zd:D->Option Tie
 | .tup [.int a,.int b]=>some (a,b)
 | _=>none
theorem Yk (t:Tie):Zd (zp t)=some t:=rfl
theorem W0 {d:D}{t:Tie}(h:Zd d=some t):d=zp t:=by
 unfold Zd at h
 split at h
 .cases h;rfl
 .cases h
def inR (m a:Int):Bool:=decide (0<=a)&&decide (a<=m - 1)
def xQ (m:Int)(d:D):Bool:=match Zd d with
 | some t=>inR m t.1&&inR m t.2&&!decide (t.1=t.2)
 | none=>false
def zaT (p:Option Tie)(t:Tie):Bool:=match p with
 | some q=>!leP t q
 | none=>true
def yn (m:Int):Option Tie->List D->Bool
 | _,[]=>true
 | p,d::r=>match Zd d with
  | some t=>xQ m d&&!decide (t.2 < t.1)&&zaT p t&&yn m (some t) r
  | none=>false
def YM (m:Int):D->Bool
 | .tup ts=>yn m none ts
 | _=>false
def vp:D->Bool
 | .tup [.int m,t]=>decide (1<=m)&&decide (m<=8)&&YM m t
 | _=>false
theorem XB (m:Int):∀ (ts:List D) (p:Option Tie),yn m p ts=true↔∃ l:List Tie,ts=l.map zp/\(∀ t∈l,0<=t.1/\t.1 < t.2/\t.2 < m)/\(∀ q,p=some q->∀ t∈l,ltP q t)/\l.Pairwise ltP:=by
 intro ts
 induction ts with
 | nil =>
  intro p
  refine⟨λ_=>⟨[],rfl,by simp,by simp,.nil⟩,λ_=>rfl⟩
 | cons d r ih =>
  intro p
  unfold yn
  cases e:Zd d with
  | none =>
   refine Iff.intro (λh=>nomatch h) (λhh=>?_)
   obtain⟨l,h,_⟩:=hh
   cases l with
   | nil=>cases h
   | cons t l' =>
    rw[u0e]at h
    injection h with h1 _
    rw[h1,Yk]at e
    cases e
  | some t =>
   have ed:=W0 e
   subst ed
   simp only[xQ,Yk,u0n,u2N,u0X,inR,d5]
   rw[ih (some t)]
   constructor
   .rintro⟨⟨⟨⟨⟨h1,h2⟩,h3⟩,h4⟩,h5⟩,l,rfl,hr,hq,hs⟩
    refine⟨t::l,rfl,?_,?_,u1g.mpr ⟨hq t rfl,hs⟩⟩
    .intro u hu
     rcases j5.mp hu with rfl | hu
     .omega
     .exact hr u hu
    .rintro q rfl u hu
     have hqt:ltP q t:=zaV.mp (by simpa [zaT]using h5)
     rcases j5.mp hu with rfl | hu
     .exact hqt
     .exact zf0 hqt (hq t rfl u hu)
   .rintro⟨l,h,hr,hq,hs⟩
    cases l with
    | nil=>cases h
    | cons u l' =>
     rw[u0e]at h
     injection h with h1 h2
     have hu:=zfF h1
     subst hu
     have hb:=hr t (by simp)
     refine⟨⟨⟨⟨⟨by omega,by omega⟩,by omega⟩,by omega⟩,?_⟩,l',h2,λv hv=>hr v (by simp[hv]),λq hqe v hv=>?_,(u1g.mp hs).2⟩
     .cases p with
      | none=>rfl
      | some q =>
       have:=zaV.mpr (hq q rfl t (by simp))
       simp[zaT,this]
     .cases hqe
      exact(u1g.mp hs).1 v hv
theorem xB (d:D):vp d=true↔∃ m ties,d=zx m ties/\zH m ties:=by
 constructor
 .intro h
  unfold vp at h
  split at h
  .rename_i m t
   simp only[u0n,d5]at h
   obtain⟨⟨h1,h2⟩,h3⟩:=h
   unfold YM at h3
   split at h3
   .rename_i ts
    obtain⟨l,rfl,hr,_,hs⟩:=(XB m ts none).mp h3
    exact⟨m,l,rfl,h1,h2,hr,hs⟩
   .cases h3
  .cases h
 .rintro⟨m,ties,rfl,w⟩
  unfold zx vp YM
  simp only[u0n,d5]
  exact⟨⟨w.lo,w.hi⟩,(XB m _ none).mpr ⟨ties,rfl,w.rng,by simp,w.srt⟩⟩
theorem zi3 {d:D}(h:∀ m ties,d=zx m ties->¬ zH m ties):vp d=false:=by
 cases e:vp d with
 | false=>rfl
 | true =>
  obtain⟨m,ties,rfl,w⟩:=(xB d).mp e
  exact absurd w (h m ties rfl)
end Mz
namespace Mz
open Dl
def zhQ (c k:Int):Int :=
 let a:=(c % 2147483647+977*k+1)*48271 % 2147483647
 let b:=a*a % 2147483629
 (b+40692*(k+3))*69621 % 2147483647 / 8
def adj (ts:List Tie)(a b:Int):Prop:=(a,b)∈ts\/(b,a)∈ts
theorem adj.symm {ts:List Tie}{a b:Int}(h:adj ts a b):adj ts b a:=h.elim .inr .inl
inductive yQ (ts:List Tie) (p:Int):Nat->Int->Prop
 | zero:yQ ts p 0 p
 | step {k:Nat} {a b:Int}:yQ ts p k a->adj ts a b->yQ ts p (k+1) b
theorem adj.rng {m:Int}{ts:List Tie}{a b:Int}(ok:zH m ts)(h:adj ts a b):(0<=a/\a < m)/\0<=b/\b < m:=by
 rcases h with h | h <;> (have:=ok.rng _ h;simp only at this;omega)
theorem yQ.rng {m:Int}{ts:List Tie}{p v:Int}{k:Nat}(ok:zH m ts)(hp:0<=p/\p < m)(h:yQ ts p k v):0<=v/\v < m:=by
 cases h with
 | zero=>exact hp
 | step _ h=>exact(h.rng ok).2
theorem yQ.inv {ts:List Tie}{p v:Int}{k:Nat}(h:yQ ts p (k+1) v):∃ a,yQ ts p k a/\adj ts a v:=by
 cases h with
 | step h1 h2=>exact⟨_,h1,h2⟩
theorem zcm {P:Nat->Prop}:∀ k,P k->∃ j,P j/\∀ i,P i->j<=i:=by
 intro k
 induction k using Nat.strongRecOn with
 | _ k ih =>
  intro h
  by_cases c:∃ i,i < k/\P i
  .obtain⟨i,hi,h2⟩:=c
   exact ih i hi h2
  .exact⟨k,h,λi hi=>u3V λz=>c ⟨i,z,hi⟩⟩
def Within (ts:List Tie)(p:Int)(k:Nat)(v:Int):Prop:=∃ j,j<=k/\yQ ts p j v
theorem Within.succ {ts:List Tie}{p v:Int}{k:Nat}:Within ts p (k+1) v↔v=p\/∃ a,Within ts p k a/\adj ts a v:=by
 constructor
 .rintro⟨j,hj,h⟩
  cases h with
  | zero=>exact .inl rfl
  | step h1 h2=>exact .inr ⟨_,⟨_,by omega,h1⟩,h2⟩
 .rintro(rfl | ⟨a,⟨j,hj,h⟩,h2⟩)
  .exact⟨0,by omega,.zero⟩
  .exact⟨j+1,by omega,.step h h2⟩
theorem Within.up {ts:List Tie}{p v:Int}{k k':Nat}(h:Within ts p k v)(hk:k<=k'):Within ts p k' v:=let ⟨j,hj,r⟩:=h;⟨j,by omega,r⟩
theorem Wk {α:Type}{p q:α->Bool}:∀ {l:List α},(∀ x∈l,p x=true->q x=true)->l.countP q<=l.countP p->∀ x∈l,q x=true->p x=true
 | [],_,_,_,h,_=>by simp at h
 | y::l,hpq,hc,x,hx,hq=>by
  have h1:l.countP p<=l.countP q:=List.countP_mono_left λz hz=>hpq z (u0b _ hz)
  rw[u24,u24]at hc
  have hy:=hpq y u0F
  have ih:=Wk (p:=p) (q:=q) (l:=l) λz hz=>hpq z (u0b _ hz)
  cases e1:p y <;> cases e2:q y <;> simp[e1,e2]at hc hy
  .rcases j5.mp hx with rfl | hx
   .rw[e2]at hq;cases hq
   .exact ih (by omega) x hx hq
  .omega
  .rcases j5.mp hx with rfl | hx
   .exact e1
   .exact ih (by omega) x hx hq
open Classical in
noncomputable def wiB (ts:List Tie)(p:Int)(k v:Nat):Bool:=decide (Within ts p k (v:Int))
theorem WL {ts:List Tie}{p:Int}{k v:Nat}:wiB ts p k v=true↔Within ts p k (v:Int):=by classical exact decide_eq_true_iff
noncomputable def cnt (ts:List Tie)(p:Int)(n k:Nat):Nat:=(List.range n).countP (wiB ts p k)
def zhn (ts:List Tie)(p:Int)(k:Nat):Prop:=∀ v,Within ts p (k+1) v->Within ts p k v
theorem zhn.all {ts:List Tie}{p:Int}{k:Nat}(h:zhn ts p k):∀ j v,Within ts p j v->Within ts p k v:=by
 intro j
 induction j with
 | zero =>
  rintro v ⟨i,hi,r⟩
  obtain rfl:i=0:=by omega
  exact⟨0,by omega,r⟩
 | succ j ih =>
  intro v hv
  rcases Within.succ.mp hv with rfl | ⟨a,ha,h2⟩
  .exact⟨0,by omega,.zero⟩
  .exact h v (Within.succ.mpr (.inr ⟨a,ih a ha,h2⟩))
theorem zhb {m:Int}{ts:List Tie}{p:Int}(ok:zH m ts)(hp:0<=p/\p < m):∃ k,k < m.toNat/\zhn ts p k:=by
 have key:∀ k,(∃ k',k' < k/\zhn ts p k')\/k+1<=cnt ts p m.toNat k:=by
  intro k
  induction k with
  | zero =>
   refine .inr ?_
   unfold cnt
   rw[List.one_le_countP_iff]
   exact⟨p.toNat,i8.mpr (by omega),WL.mpr ⟨0,q5 _,by rw[u1S hp.1];exact .zero⟩⟩
  | succ k ih =>
   rcases ih with ⟨k',h1,h2⟩ | ih
   .exact .inl ⟨k',by omega,h2⟩
   .by_cases c:cnt ts p m.toNat (k+1)<=cnt ts p m.toNat k
    .refine .inl ⟨k,by omega,λv hv=>?_⟩
     obtain⟨j,hj,r⟩:=hv
     have hr:=r.rng ok hp
     have:=Wk (λx _ h=>WL.mpr ((WL.mp h).up (u2R k))) c v.toNat (i8.mpr (by omega)) (WL.mpr (by rw[u1S hr.1];exact⟨j,hj,r⟩))
     have:=WL.mp this
     rwa[u1S hr.1]at this
    .exact .inr (by omega)
 rcases key m.toNat with h | h
 .exact h
 .unfold cnt at h
  have:=u2Y (p:=wiB ts p m.toNat) (l:=List.range m.toNat)
  rw[u0v]at this
  omega
def Far (ts:List Tie)(p v:Int)(k:Nat):Prop:=yQ ts p k v/\∀ i,yQ ts p i v->k<=i
theorem Far.uniq {ts:List Tie}{p v:Int}{k j:Nat}(h:Far ts p v k)(h':Far ts p v j):k=j:=Nat.le_antisymm (h.2 _ h'.1) (h'.2 _ h.1)
theorem Far.lt {m:Int}{ts:List Tie}{p v:Int}{k:Nat}(ok:zH m ts)(hp:0<=p/\p < m)(h:Far ts p v k):k < m.toNat:=by
 obtain⟨b,hb,hs⟩:=zhb ok hp
 obtain⟨j,hj,r⟩:=hs.all k v ⟨k,q5 _,h.1⟩
 have:=h.2 j r
 omega
theorem zid {ts:List Tie}{p v:Int}{k:Nat}(h:yQ ts p k v):∃ j,Far ts p v j:=zcm k h
open Classical in
noncomputable def zgE (ts:List Tie)(p v:Int):Option Int:=if h:∃ k,Far ts p v k then some (h.choose:Int)else none
theorem zgi {ts:List Tie}{p v:Int}{k:Nat}(h:Far ts p v k):zgE ts p v=some (k:Int):=by
 unfold zgE
 have hx:∃ k,Far ts p v k:=⟨k,h⟩
 rw[dif_pos hx,hx.choose_spec.uniq h]
theorem zeS {ts:List Tie}{p v:Int}(h:∀ k,¬ yQ ts p k v):zgE ts p v=none:=by
 unfold zgE
 rw[dif_neg]
 rintro⟨k,hk⟩
 exact h k hk.1
theorem vm (ts:List Tie)(p v:Int):(∃ k:Nat,zgE ts p v=some (k:Int)/\Far ts p v k)\/(zgE ts p v=none/\∀ k,¬ yQ ts p k v):=by
 by_cases h:∃ k,yQ ts p k v
 .obtain⟨k,hk⟩:=h
  obtain⟨j,hj⟩:=zid hk
  exact .inl ⟨j,zgi hj,hj⟩
 .have:∀ k,¬ yQ ts p k v:=λk hk=>h ⟨k,hk⟩
  exact .inr ⟨zeS this,this⟩
noncomputable def Ya (m:Int)(ts:List Tie)(p:Int):List (Option Int):=(List.range m.toNat).map λv:Nat=>zgE ts p v
def xb:Option Int->D
 | none=>.non
 | some k=>.int k
def oAt (fs:List (Option Int))(i:Int):Option Int:=(fs[i.toNat]?).getD none
theorem zig {n:Nat}{i:Int}(h0:0<=i)(h1:i < n):L2.ixN n i=some i.toNat:=by
 unfold L2.ixN
 rw[j3 h0,j3 h1]
theorem ZG {α:Type}{xs:List α}{i:Int}{x:α}(h0:0<=i)(h:xs[i.toNat]?=some x):L2.atI xs i=some x:=by
 have:=(u8.mp h).1
 unfold L2.atI
 rw[zig h0 (by omega)]
 exact h
theorem zlA {m:Bool}{i:Nat}{fk fe:Ev->Option D}{ρ:SE}{ds:List D}{d:D}{k:Int}(h1:vEv m fe ρ=some d)(h2:fk (visG ρ)=some (.int k))(h3:ρ[i]?=some (.o ds))(h4:0<=k)(h5:k < ds.length) :
 Xm m i fk fe ρ=.nx (ρ.set i (.o (ds.set k.toNat d))):=by
 unfold Xm
 rw[h1,h2,h3]
 show(match ((L2.ixN ds.length k).map λj=>ρ.set i (Sl.o (ds.set j d)))with | some ρ'=>Ctl.nx ρ' | none=>Ctl.no)=_
 rw[zig h4 h5]
 rfl
theorem ziS {fs:List (Option Int)}{i:Int}(h0:0<=i)(h1:i < fs.length):L2.atI (fs.map xb) i=some (xb (oAt fs i)):=by
 refine ZG h0 ?_
 unfold oAt
 rw[j7,u6 (by omega)]
 rfl
theorem vI {fs:List (Option Int)}{i j:Int}{x:Option Int}(hi:0<=i)(hl:i < fs.length)(hj:0<=j):oAt (fs.set i.toNat x) j=if j=i then x else oAt fs j:=by
 unfold oAt
 rw[u0W]
 by_cases c:j=i
 .subst c
  rw[j3 rfl,j3 rfl,j3 (by omega)]
  rfl
 .rw[j8 (by omega),j8 c]
theorem zfb {fs gs:List (Option Int)}(hl:fs.length=gs.length)(h:∀ i:Int,0<=i->i < fs.length->oAt fs i=oAt gs i):fs=gs:=by
 refine u2P λi=>?_
 by_cases c:i < fs.length
 .have:=h (i:Int) (by omega) (by omega)
  unfold oAt at this
  rw[u2c,u6 c,u6 (by omega)]at this
  rw[u6 c,u6 (by omega)]
  exact u1o some this
 .rw[u1a (by omega),u1a (by omega)]
theorem Zk (m:Int)(ts:List Tie)(p:Int):(Ya m ts p).length=m.toNat:=by unfold Ya;simp
theorem V3 {m:Int}{ts:List Tie}{p v:Int}(h0:0<=v)(h1:v < m):oAt (Ya m ts p) v=zgE ts p v:=by
 unfold oAt Ya
 rw[j7,u1i (by omega)]
 show zgE ts p ((v.toNat:Nat):Int)=_
 rw[u1S h0]
def zlK (b n:Nat):List Tie:=(List.range n).map λ(k:Nat)=>((k:Int),(b:Int))
theorem Vs (ts:List Tie):(Zy ts).Perm ts:=u3n _ _
theorem zbI {ts:List Tie}(h:ts.Nodup):(Zy ts).Pairwise ltP:=by
 have h1:(Zy ts).Pairwise λa b=>zjQ a b=true:=u2C (λa b c h1 h2=>by rw[wM]at *;omega) (λa b=>by rw[u2z,wM,wM];omega) _
 have h2:(Zy ts).Nodup:=(Vs ts).nodup_iff.mpr h
 refine(h1.and h2).imp λ{a b} hh=>?_
 obtain⟨x,y⟩:=hh
 rw[wM]at x
 unfold ltP
 rcases x with x | x
 .exact .inl x
 .refine .inr ⟨x.1,?_⟩
  have:a.2≠b.2:=λe=>y (u2D x.1 e)
  omega
theorem zgw {d:D}{n:Int}(h0:0<=n)(h1:n<=1000):zgC (.lst [d]) (.int n)=some (List.replicate n.toNat d):=by
 show(if -(2 ^ 63)<=n/\n < 2 ^ 63/\lim (1*n.toNat)=true then _ else none)=_
 rw[j3 ⟨by omega,by omega,xg (by omega)⟩,List.flatten_replicate_singleton]
theorem zfr {m:Bool}{i:Nat}{fk fe:Ev->Option D}{ρ:SE}{n b kk:SE->Prop}{r:D->Prop}(ds:List D)(d:D)(k:Int)(h1:vEv m fe ρ=some d)(h2:fk (visG ρ)=some (.int k))(h3:ρ[i]?=some (.o ds))(h4:0<=k)(h5:k < ds.length)(q:n (ρ.set i (.o (ds.set k.toNat d)))) :
 (Xm m i fk fe ρ).w n b kk r:=Yc (zlA h1 h2 h3 h4 h5) q
theorem zgR {α:Type}(xs:List α)(lo hi:Option Int):(W3 xs lo hi).length<=xs.length:=by
 unfold W3
 rw[o9,i6]
 omega
theorem zaf {a b:List D}(h:a.length+b.length<=1000):w6 (.lst a) (.lst b)=some (.lst (a++b)):=by
 show(if lim (a.length+b.length)=true then _ else none)=_
 rw[j3 (xg h)]
theorem zmE {g h:SE->Ctl}{ρ:SE}{n b k:SE->Prop}{r:D->Prop}(J:SE->Prop)(h1:(g ρ).w J b k r)(h2:∀ ρ',J ρ'->(h ρ').w n b k r):(zS g h ρ).w n b k r :=
 y9 (zkM h1 h2 (λ_ h=>h) (λ_ h=>h) λ_ h=>h)
theorem zhR {m:Int}{ts:List Tie}{p:Int}{o:Option Int}(ok:zH m ts)(hp:0<=p/\p < m)(h:o∈Ya m ts p):o=none\/∃ k:Int,o=some k/\0<=k/\k < m:=by
 unfold Ya at h
 obtain⟨v,hv,rfl⟩:=u0A.mp h
 rcases vm ts p v with ⟨k,e,hk⟩ | ⟨e,_⟩
 .have:=hk.lt ok hp
  exact .inr ⟨_,e,by omega,by omega⟩
 .exact .inl e
theorem wl {m:Bool}{i:Nat}{f:Ev->Option D}{ρ ρ':SE}{d:D}(h:vEv m f ρ=some d)(h2:ρ.set i (.v d)=ρ':=by rfl):xL m i f ρ=.nx ρ':=by
 unfold xL
 rw[h,<- h2]
theorem V9 {f:Ev->Option D}{ρ:SE}{d:D}(h:f (visG ρ)=some d):X0 f ρ=.nx ρ:=by
 unfold X0
 rw[h]
theorem Zq {f:Ev->Option D}{ρ:SE}{d:D}(h:f (visG ρ)=some d):yU f ρ=.rt d:=by
 unfold yU
 rw[h]
theorem Zg {i:Nat}{f:Ev->Option (List D)}{ρ ρ':SE}{ds:List D}(h:f (visF ρ)=some ds)(h2:ρ.set i (.o ds)=ρ':=by rfl):vY i f ρ=.nx ρ':=by
 unfold vY
 rw[h,<- h2]
theorem yD {a b:Int}:neD (.int a) (.int b)=some (.bl (!decide (a=b))):=rfl
theorem ZS {a m x:Int}(h:0 < m)(hx:a % m=x):0<=x/\x < m:=by
 subst hx
 exact⟨Int.emod_nonneg _ (by omega),Int.emod_lt_of_pos _ h⟩
theorem len_lt {α:Type}{xs:List α}{x m:Int}(h:x < m)(hl:(xs.length:Int)=m):x < (xs.length:Int):=by omega
theorem zi6 {α:Type}{f:α->D}{xs:List α}{x m:Int}(h:x < m)(hl:(xs.length:Int)=m):x < ((xs.map f).length:Int):=by rw[u5];omega
theorem zh1 {m:Int}(h:1<=m):0 < m:=by omega
theorem ze6 {i:Nat}{x m:Int}(hi:i < m.toNat)(hx:(0:Int)+(i:Int)=x):0<=x/\x < m:=by omega
theorem zcl {o:Nat}{m:Int}(h:(o:Int) < m):0<=(0:Int)+(o:Int)/\(0:Int)+(o:Int) < m:=by omega
theorem zfx {n:Nat}(h:n<=8):lim n=true:=xg (by omega)
theorem YX {α:Type}{xs:List α}{x m:Int}(h0:0<=x)(h:x < m)(hl:xs.length=m.toNat):x < (xs.length:Int):=by omega
theorem zbP {α:Type}{f:α->D}{xs:List α}{x m:Int}(h0:0<=x)(h:x < m)(hl:xs.length=m.toNat):x < ((xs.map f).length:Int):=by rw[u5];omega
theorem zcN {fs:List (Option Int)}{i m:Int}(h0:0<=i)(h:i < m)(hl:fs.length=m.toNat):L2.atI (fs.map xb) i=some (xb (oAt fs i)):=ziS h0 (YX h0 h hl)
theorem zj0 {d:D}{m:Int}(h1:1<=m)(h8:m<=8):zgC (.lst [d]) (.int m)=some (List.replicate m.toNat d):=zgw (by omega) (by omega)
theorem zij {m:Int}(h1:1<=m)(h8:m<=8):wB [.int m]=some (XX 0 m.toNat):=by
 show(if zgD m=true then some (XX 0 m.toNat)else none)=_
 rw[j3 (yK.mpr ⟨by omega,by omega⟩)]
theorem zkr {m:Int}{n:Nat}(h:m=((n+1:Nat):Int))(h7:n<=7):wB [.int m]=some (XX 0 (n+1)):=by
 rw[zij (by omega) (by omega),show m.toNat=n+1 by omega]
theorem zkH {m:Int}{n:Nat}(h:m=((n+1:Nat):Int))(h7:n<=7):W2 [.int 1,.int m]=some (XX 1 n):=by
 show(if zgD 1=true/\zgD m=true then some (XX 1 (m - 1).toNat)else none)=_
 rw[j3 ⟨yK.mpr ⟨by omega,by omega⟩,yK.mpr ⟨by omega,by omega⟩⟩,show(m - 1).toNat=n by omega]
theorem zkW {n:Nat}(h:n<=28):lim n=true:=xg (by omega)
theorem zW {a b:Int}:zaH (.int a) (.int b)=some (.bl (decide (a=b))):=rfl
theorem yS {a b:Bool}:zaH (.bl a) (.bl b)=some (.bl (decide (a=b))):=rfl
theorem ye {a b:PySem.Str}:zaH (.str a) (.str b)=some (.bl (decide (a=b))):=rfl
theorem zV {a b:Int}:w6 (.int a) (.int b)=some (.int (a+b)):=rfl
theorem zhY {a b:List D}(h:a.length+b.length<=1000):w6 (.tup a) (.tup b)=some (.tup (a++b)):=by
 show(if lim (a.length+b.length)=true then some (D.tup (a++b))else none)=_
 rw[j3 (xg h)]
theorem za9 {α:Type}(xs:List α)(k:Nat):W3 xs none (some (k:Int))=xs.take k:=by
 unfold W3
 rw[HT.sIx_none,u10,Nat.sub_zero,HT.sIx_nat]
 by_cases h:k<=xs.length
 .rw[u0N h]
 .rw[u3a (by omega),p8 (q5 _),p8 (by omega)]
theorem zfK {α:Type}(xs:List α)(k:Nat):W3 xs (some (k:Int)) none=xs.drop k:=by
 unfold W3
 rw[HT.sIx_none,HT.sIx_nat]
 by_cases h:k<=xs.length
 .rw[u0N h,p8 (by rw[i6];omega)]
 .rw[u3a (by omega),u21,u4f,List.drop_of_length_le (by omega)]
section
variable {ρ:Ev}{f g h:Ev->Option D}{a:Ev->Option (List D)}{t u:Ev->Option Bool}{d e x y z:D}{ds es:List D}{b c:Bool}
theorem xx:zr ρ=some []:=rfl
theorem zK (h1:f ρ=some d)(h2:a ρ=some ds):zb f a ρ=some (d::ds):=by unfold zb;rw[h1,h2];rfl
theorem vW {n:Nat}{p:List D->Option D}(h1:a ρ=some ds)(h2:p ds=some d)(hl:ds.length=n:=by rfl):zz n p a ρ=some d:=by
 unfold zz
 rw[h1,d7,j3 hl,h2]
theorem zdd {n:Nat}{p:List D->Option (List D)}(h1:a ρ=some ds)(h2:p ds=some es)(hl:ds.length=n:=by rfl):zbQ n p a ρ=some es:=by
 unfold zbQ
 rw[h1,d7,j3 hl,h2]
theorem vc {i n:Nat}{p:List D->Option D}{σ σ':SE}(h1:a (visF σ)=some ds)(h2:p ds=some d)(hl:ds.length=n:=by rfl)(h3:σ.set i (.v d)=σ':=by rfl):xL false i (zz n p a) σ=.nx σ':=wl (show zz n p a (visF σ)=some d from vW h1 h2 hl) h3
theorem zfk {i:Nat}{f:Ev->Option D}{σ σ':SE}(h:f (visF σ)=some d)(h3:σ.set i (.v d)=σ':=by rfl):xL false i f σ=.nx σ':=wl (show f (visF σ)=some d from h) h3
theorem zT {k:D->D->Option D}(h1:f ρ=some x)(h2:g ρ=some y)(h3:k x y=some z):zm k f g ρ=some z:=by unfold zm;rw[h1,h2];exact h3
theorem zgK {k:D->Option D}(h1:f ρ=some x)(h3:k x=some z):eUn k f ρ=some z:=by unfold eUn;rw[h1];exact h3
theorem wn (h1:a ρ=some ds):yT a ρ=some (.lst ds):=by unfold yT;rw[h1];rfl
theorem za5 {k:List D->Option D}(h1:a ρ=some ds)(h2:k ds=some d):eFn k a ρ=some d:=by unfold eFn;rw[h1];exact h2
theorem zex {k:List D->Option (List D)}(h1:a ρ=some ds)(h2:k ds=some es):fFn k a ρ=some es:=by unfold fFn;rw[h1];exact h2
theorem zeJ (h1:a ρ=some ds)(hl:ds.length<=1000):yc a ρ=some ds:=by unfold yc;rw[h1,d7,j3 (xg hl)]
theorem Wn (h1:a ρ=some ds)(hl:ds.length<=1000):wQ a ρ=some (.tup ds):=by unfold wQ;rw[h1,d7,j3 (xg hl)]
theorem ZX (h1:f ρ=some d)(h2:y6 d=some ds):iOf f ρ=some ds:=by unfold iOf;rw[h1];exact h2
theorem zbM (h1:f ρ=some (.bl b)):tOf f ρ=some b:=by unfold tOf;rw[h1];rfl
theorem zll (h1:t ρ=some b):xr t ρ=some (!b):=by unfold xr;rw[h1];rfl
theorem zmy (h1:t ρ=some b)(h2:u ρ=some c):XU t u ρ=some (b||c):=by unfold XU;rw[h1,h2];cases b <;> rfl
end
end Mz
namespace Mz
open PySem L2 Dl
def top (i:Nat):Stmt:=PySem.Challenge.pw_twoforone_k31_ways_of_trees.main.body.getD i (.Pass ⟨0,0,0,0⟩)
abbrev Zo:Stmt:=top 7
abbrev xq:Stmt:=top 8
abbrev xz:Stmt:=top 9
abbrev Zs:Stmt:=top 10
abbrev Xy:Stmt:=top 12
abbrev Zw:Stmt:=top 13
abbrev Wg:Stmt:=top 14
abbrev wZ:Stmt:=top 15
abbrev xX:Stmt:=top 16
abbrev wY:Stmt:=top 17
abbrev vP:Stmt:=top 18
abbrev Yp:Stmt:=top 19
abbrev Wz:Stmt:=top 20
abbrev YB:Stmt:=top 21
abbrev Xj:Stmt:=top 22
abbrev wm:Stmt:=top 24
abbrev y8:Stmt:=top 25
abbrev Zi:Stmt:=top 26
abbrev wq:Stmt:=top 27
abbrev Yu:Stmt:=top 28
abbrev wS:Stmt:=top 29
abbrev zcL:Stmt:=top 30
abbrev wt:Stmt:=top 32
abbrev YF:Stmt:=top 33
abbrev Yy:Stmt:=top 34
abbrev wA:Stmt:=top 35
abbrev Yq:Stmt:=top 36
abbrev Yw:Stmt:=top 37
abbrev Zm:Stmt:=top 38
abbrev Zx:Stmt:=top 39
abbrev zgb:Stmt:=top 40
theorem zb6:zw ["thing"] ["thing"] (zh Zo):=⟨rfl,rfl,rfl,by decide +kernel,rfl,by decide +kernel,by decide +kernel⟩
theorem Z6:zw ["thing","least","most"] ["thing","least","most"] (zh xq):=⟨rfl,rfl,rfl,by decide +kernel,rfl,by decide +kernel,by decide +kernel⟩
theorem Xk:zw ["thing"] ["thing"] (zh xz):=⟨rfl,rfl,rfl,by decide +kernel,rfl,by decide +kernel,by decide +kernel⟩
theorem zca:zw ["many","thing"] ["many","thing"] (zh Zs):=⟨rfl,rfl,rfl,by decide +kernel,rfl,by decide +kernel,by decide +kernel⟩
theorem zd5:zw ["many","thing"] ["many","thing"] (zh Xy):=⟨rfl,rfl,rfl,by decide +kernel,rfl,by decide +kernel,by decide +kernel⟩
theorem Zr:zw ["many","thing","at","tie"] ["many","thing"] (zh Zw):=⟨rfl,rfl,rfl,by decide +kernel,rfl,by decide +kernel,by decide +kernel⟩
theorem zgo:zw ["thing"] ["thing"] (zh Wg):=⟨rfl,rfl,rfl,by decide +kernel,rfl,by decide +kernel,by decide +kernel⟩
theorem Vc:zw ["thing"] ["thing"] (zh wZ):=⟨rfl,rfl,rfl,by decide +kernel,rfl,by decide +kernel,by decide +kernel⟩
theorem XS:zw ["web","thing"] ["web","thing"] (zh xX):=⟨rfl,rfl,rfl,by decide +kernel,rfl,by decide +kernel,by decide +kernel⟩
theorem Vg:zw ["one","other"] ["one","other"] (zh wY):=⟨rfl,rfl,rfl,by decide +kernel,rfl,by decide +kernel,by decide +kernel⟩
theorem zar:zw ["web","place"] ["web","place"] (zh vP):=⟨rfl,rfl,rfl,by decide +kernel,rfl,by decide +kernel,by decide +kernel⟩
theorem yE:zw ["web","start","away","rim","further","place","other"] ["web","start"] (zh Yp):=⟨rfl,rfl,rfl,by decide +kernel,rfl,by decide +kernel,by decide +kernel⟩
theorem YD:zw ["web","found","start","away","piece"] ["web"] (zh Wz):=⟨rfl,rfl,rfl,by decide +kernel,rfl,by decide +kernel,by decide +kernel⟩
theorem zbs:zw ["web"] ["web"] (zh YB):=⟨rfl,rfl,rfl,by decide +kernel,rfl,by decide +kernel,by decide +kernel⟩
theorem zdW:zw ["web"] ["web"] (zh Xj):=⟨rfl,rfl,rfl,by decide +kernel,rfl,by decide +kernel,by decide +kernel⟩
theorem Wt:zw ["web"] ["web"] (zh wm):=⟨rfl,rfl,rfl,by decide +kernel,rfl,by decide +kernel,by decide +kernel⟩
theorem ym:zw ["web","root","away","outer","place"] ["web","root"] (zh y8):=⟨rfl,rfl,rfl,by decide +kernel,rfl,by decide +kernel,by decide +kernel⟩
theorem WQ:zw ["web","root","away"] ["web","root"] (zh Zi):=⟨rfl,rfl,rfl,by decide +kernel,rfl,by decide +kernel,by decide +kernel⟩
theorem xn:zw ["web","root","outer","tall","place"] ["web","root"] (zh wq):=⟨rfl,rfl,rfl,by decide +kernel,rfl,by decide +kernel,by decide +kernel⟩
theorem yl:zw ["web","root","tall","outer","ranked","found","place","at","other"] ["web","root"] (zh Yu):=⟨rfl,rfl,rfl,by decide +kernel,rfl,by decide +kernel,by decide +kernel⟩
theorem Zc:zw ["ranked","way"] ["ranked","way"] (zh wS):=⟨rfl,rfl,rfl,by decide +kernel,rfl,by decide +kernel,by decide +kernel⟩
theorem ziT:zw ["web","place"] ["web","place"] (zh zcL):=⟨rfl,rfl,rfl,by decide +kernel,rfl,by decide +kernel,by decide +kernel⟩
theorem WF:zw ["script","k"] ["script","k"] (zh wt):=⟨rfl,rfl,rfl,by decide +kernel,rfl,by decide +kernel,by decide +kernel⟩
theorem Yj:zw ["found","due","one","other"] ["found","due"] (zh YF):=⟨rfl,rfl,rfl,by decide +kernel,rfl,by decide +kernel,by decide +kernel⟩
theorem wN:zw ["cell","k","number"] ["cell","k"] (zh Yy):=⟨rfl,rfl,rfl,by decide +kernel,rfl,by decide +kernel,by decide +kernel⟩
theorem zD:zw ["cell","most","many","names","k","ties","left","inner"] ["cell","most"] (zh wA):=⟨rfl,rfl,rfl,by decide +kernel,rfl,by decide +kernel,by decide +kernel⟩
theorem xN:zw ["web","place","found","turn","a","b"] ["web","place"] (zh Yq):=⟨rfl,rfl,rfl,by decide +kernel,rfl,by decide +kernel,by decide +kernel⟩
theorem zby:zw ["web","place"] ["web","place"] (zh Yw):=⟨rfl,rfl,rfl,by decide +kernel,rfl,by decide +kernel,by decide +kernel⟩
theorem Wf:zw ["outer","tall","first","found"] ["outer","tall","first"] (zh Zm):=⟨rfl,rfl,rfl,by decide +kernel,rfl,by decide +kernel,by decide +kernel⟩
theorem zZ:zw ["web","root","far_ones","outer","place","tall","turn","found","other"] ["web","root"] (zh Zx):=⟨rfl,rfl,rfl,by decide +kernel,rfl,by decide +kernel,by decide +kernel⟩
theorem Za:zw ["script","cell","web","root","due","lap","answer","ties","row"] ["script"] (zh zgb):=⟨rfl,rfl,rfl,by decide +kernel,rfl,by decide +kernel,by decide +kernel⟩
structure Adr where
 f_is_whole:Addr
 e_is_whole:FuncData
 f_is_whole_within:Addr
 e_is_whole_within:FuncData
 f_is_place_count:Addr
 e_is_place_count:FuncData
 f_is_place:Addr
 e_is_place:FuncData
 f_is_pair:Addr
 e_is_pair:FuncData
 f_are_ties:Addr
 e_are_ties:FuncData
 f_is_web:Addr
 e_is_web:FuncData
 f_must_be_web:Addr
 e_must_be_web:FuncData
 f_must_be_place:Addr
 e_must_be_place:FuncData
 f_tie_between:Addr
 e_tie_between:FuncData
 f_neighbours:Addr
 e_neighbours:FuncData
 f_ties_away:Addr
 e_ties_away:FuncData
 f_pieces:Addr
 e_pieces:FuncData
 f_is_joined:Addr
 e_is_joined:FuncData
 f_is_tree:Addr
 e_is_tree:FuncData
 f_must_be_tree:Addr
 e_must_be_tree:FuncData
 f_outer_neighbours:Addr
 e_outer_neighbours:FuncData
 f_outwards:Addr
 e_outwards:FuncData
 f_heights_from:Addr
 e_heights_from:FuncData
 f_ways_from:Addr
 e_ways_from:FuncData
 f_way_through:Addr
 e_way_through:FuncData
 f_ways:Addr
 e_ways:FuncData
 f__law_cell_at:Addr
 e__law_cell_at:FuncData
 f__law_same:Addr
 e__law_same:FuncData
 f__law_stir:Addr
 e__law_stir:FuncData
 f__law_tree_by:Addr
 e__law_tree_by:FuncData
 f__law_fars:Addr
 e__law_fars:FuncData
 f__law_near:Addr
 e__law_near:FuncData
 f__law_way:Addr
 e__law_way:FuncData
 f__law_due:Addr
 e__law_due:FuncData
 f_law:Addr
 e_law:FuncData
 t_MOST_PLACES:Tok
 c_outwards:Addr
 p_outwards:Addr
 c_ways_from:Addr
 p_ways_from:Addr
structure Txt (K:W.Frag) (mg:Str->Option Value) (base:Heap) (ad:Adr):Prop where
 d_is_whole:Def K mg "is_whole" Zo ["thing"] ad.f_is_whole ad.e_is_whole
 d_is_whole_within:Def K mg "is_whole_within" xq ["thing","least","most"] ad.f_is_whole_within ad.e_is_whole_within
 d_is_place_count:Def K mg "is_place_count" xz ["thing"] ad.f_is_place_count ad.e_is_place_count
 d_is_place:Def K mg "is_place" Zs ["many","thing"] ad.f_is_place ad.e_is_place
 d_is_pair:Def K mg "is_pair" Xy ["many","thing"] ad.f_is_pair ad.e_is_pair
 d_are_ties:Def K mg "are_ties" Zw ["many","thing"] ad.f_are_ties ad.e_are_ties
 d_is_web:Def K mg "is_web" Wg ["thing"] ad.f_is_web ad.e_is_web
 d_must_be_web:Def K mg "must_be_web" wZ ["thing"] ad.f_must_be_web ad.e_must_be_web
 d_must_be_place:Def K mg "must_be_place" xX ["web","thing"] ad.f_must_be_place ad.e_must_be_place
 d_tie_between:Def K mg "tie_between" wY ["one","other"] ad.f_tie_between ad.e_tie_between
 d_neighbours:Def K mg "neighbours" vP ["web","place"] ad.f_neighbours ad.e_neighbours
 d_ties_away:Def K mg "ties_away" Yp ["web","start"] ad.f_ties_away ad.e_ties_away
 d_pieces:Def K mg "pieces" Wz ["web"] ad.f_pieces ad.e_pieces
 d_is_joined:Def K mg "is_joined" YB ["web"] ad.f_is_joined ad.e_is_joined
 d_is_tree:Def K mg "is_tree" Xj ["web"] ad.f_is_tree ad.e_is_tree
 d_must_be_tree:Def K mg "must_be_tree" wm ["web"] ad.f_must_be_tree ad.e_must_be_tree
 d_outer_neighbours:Def K mg "outer_neighbours" y8 ["web","root"] ad.f_outer_neighbours ad.e_outer_neighbours
 d_outwards:Def K mg "outwards" Zi ["web","root"] ad.f_outwards ad.e_outwards
 d_heights_from:Def K mg "heights_from" wq ["web","root"] ad.f_heights_from ad.e_heights_from
 d_ways_from:Def K mg "ways_from" Yu ["web","root"] ad.f_ways_from ad.e_ways_from
 d_way_through:Def K mg "way_through" wS ["ranked","way"] ad.f_way_through ad.e_way_through
 d_ways:Def K mg "ways" zcL ["web","place"] ad.f_ways ad.e_ways
 d__law_cell_at:Def K mg "_law_cell_at" wt ["script","k"] ad.f__law_cell_at ad.e__law_cell_at
 d__law_same:Def K mg "_law_same" YF ["found","due"] ad.f__law_same ad.e__law_same
 d__law_stir:Def K mg "_law_stir" Yy ["cell","k"] ad.f__law_stir ad.e__law_stir
 d__law_tree_by:Def K mg "_law_tree_by" wA ["cell","most"] ad.f__law_tree_by ad.e__law_tree_by
 d__law_fars:Def K mg "_law_fars" Yq ["web","place"] ad.f__law_fars ad.e__law_fars
 d__law_near:Def K mg "_law_near" Yw ["web","place"] ad.f__law_near ad.e__law_near
 d__law_way:Def K mg "_law_way" Zm ["outer","tall","first"] ad.f__law_way ad.e__law_way
 d__law_due:Def K mg "_law_due" Zx ["web","root"] ad.f__law_due ad.e__law_due
 d_law:Def K mg "law" zgb ["script"] ad.f_law ad.e_law
 g_MOST_PLACES:mg "MOST_PLACES"=some (Value.int 8 ad.t_MOST_PLACES)
 z_bool:mg "bool"=none
 z_enumerate:mg "enumerate"=none
 z_int:mg "int"=none
 z_isinstance:mg "isinstance"=none
 z_len:mg "len"=none
 z_list:mg "list"=none
 z_max:mg "max"=none
 z_min:mg "min"=none
 z_range:mg "range"=none
 z_reversed:mg "reversed"=none
 z_sorted:mg "sorted"=none
 z_str:mg "str"=none
 z_tuple:mg "tuple"=none
 z_zip:mg "zip"=none
 lc_outwards:ad.e_outwards.code=.ref ad.c_outwards
 la_outwards:ZR base mg ad.c_outwards ad.p_outwards "outwards.<locals>.<lambda>"
 lc_ways_from:ad.e_ways_from.code=.ref ad.c_ways_from
 la_ways_from:ZR base mg ad.c_ways_from ad.p_ways_from "ways_from.<locals>.<lambda>"
theorem zmD:(["other","web","place"]:List Str).Nodup:=by decide +kernel
theorem zj2:(["a","b","web","place","found","turn","·a","·b"]:List Str).Nodup:=by decide +kernel
theorem zmA:(["place","web","found","start","away","piece"]:List Str).Nodup:=by decide +kernel
theorem zmn:(["other","web","root","away","outer","place"]:List Str).Nodup:=by decide +kernel
theorem zlC:(["a","b","web","place"]:List Str).Nodup:=by decide +kernel
theorem zma:(["other","web","root","outer","tall","place"]:List Str).Nodup:=by decide +kernel
theorem zmf:(["others","web","root","tall","outer","ranked","found","place","at","other"]:List Str).Nodup:=by decide +kernel
theorem zmt:(["other","outer","tall","first","found"]:List Str).Nodup:=by decide +kernel
theorem zjg:(["row","web","root","far_ones","outer","place","tall","turn","found","other"]:List Str).Nodup:=by decide +kernel
theorem zl6:(["other","row","web","root","far_ones","outer","place","tall","turn","found","·other"]:List Str).Nodup:=by decide +kernel
theorem zkj:(["other","web","root","far_ones","outer","place","tall","turn","found","·other"]:List Str).Nodup:=by decide +kernel
theorem zii:(["a","b","script","cell","web","root","due","lap","answer","ties","row"]:List Str).Nodup:=by decide +kernel
def V6:D->Bool
 | .int _=>true
 | _=>false
def yp (d:D)(lo hi:Int):Bool:=match d with
 | .int i=>decide (lo<=i)&&decide (i<=hi)
 | _=>false
section
variable {P:Program}{w:World}{K:W.Frag}{mg:Str->Option Value}{base:Heap}{ad:Adr}
def vv:List D->Option D
 | [d]=>if noS d=true then some (.bl (V6 d))else none
 | _=>none
def Xt:SE->Ctl :=
 (yU (Xe (eUn (yR .int) (zc 0)) (zaD (eUn (yR .bool) (zc 0)))))
def zdM:List D->Option D:=fnD 1 Xt
theorem zlH {α:Type}{ds:List α}(h:ds.length=1):∃ a,ds=[a]:=by match ds,h with | [a],_=>exact⟨a,rfl⟩
theorem zhq {α:Type}{ds:List α}(h:ds.length=2):∃ a b,ds=[a,b]:=by match ds,h with | [a,b],_=>exact⟨a,b,rfl⟩
theorem len3 {α:Type}{ds:List α}(h:ds.length=3):∃ a b c,ds=[a,b,c]:=by match ds,h with | [a,b,c],_=>exact⟨a,b,c,rfl⟩
theorem ifS {c:Bool}{x y:D}(h:(if c=true then some x else none)=some y):c=true/\x=y:=by
 split at h
 .cases h
  exact⟨by assumption,rfl⟩
 .cases h
theorem zcz:∀ ds d,ds.length=1->vv ds=some d->zdM ds=some d:=by
 intro ds d hl h
 obtain⟨a,rfl⟩:=zlH hl
 obtain⟨hn,rfl⟩:=ifS h
 cases a <;> first | rfl | cases hn
theorem zcC (T:Txt K mg base ad):yW P w K mg base CX0 1 ad.f_is_whole ad.e_is_whole ["thing"] (@spD ⟨K⟩ 1 vv):=by
 letI:KK:=⟨K⟩
 refine vZ (xw (N:=["thing"]) (ps:=["thing"]) T.d_is_whole.fn zb6 (g:=Xt) λcdv A outer s H E hr=>?_) zcz
 unfold Xt
 exact(zg (zE (Y9 (zN .int rfl T.z_isinstance (edv 0) (yN (v:=.ty "int") rfl T.z_int zfW rfl)) (XJ (ziq (zN .bool rfl T.z_isinstance (edv 0) (yN (v:=.ty "bool") rfl T.z_bool V1 rfl)))))))
def yg:SE->Ctl :=
 (yU (Xe (zz 1 vv (zb (zc 0) zr)) (xv leD leD (zc 1) (zc 0) (zc 2))))
def vq:List D->Option D:=fnD 3 yg
def zF:List D->Option D
 | [d,.int lo,.int hi]=>if noS d=true then some (.bl (yp d lo hi))else none
 | _=>none
theorem zac {a:D}{lo hi:Int}(hn:noS a=true)(hw:V6 a=false):vq [a,.int lo,.int hi]=some (.bl false):=by
 have e:vv [a]=some (.bl false):=by
  show(if noS a=true then some (D.bl (V6 a))else none)=_
  rw[j3 hn,hw]
 refine Vm (ρ:=[.v a,.v (.int lo),.v (.int hi)]) rfl ?_
 unfold yg
 refine XD (Zq ?_) rfl
 show(((vv [a]).bind asB).bind λc=>if c=true then _ else some (D.bl false))=_
 rw[e]
 rfl
theorem Z0:∀ ds d,ds.length=3->zF ds=some d->vq ds=some d:=by
 intro ds d hl h
 obtain⟨a,b,c,rfl⟩:=len3 hl
 cases b <;> try cases h
 cases c <;> try cases h
 rename_i lo hi
 obtain⟨hn,rfl⟩:=ifS h
 cases a with
 | scr _=>cases hn
 | int i =>
  refine Vm (ρ:=[.v (.int i),.v (.int lo),.v (.int hi)]) rfl ?_
  unfold yg
  refine XD (Zq ?_) rfl
  show(if decide (lo<=i)=true then some (D.bl (decide (i<=hi)))else some (.bl false))=some (.bl (decide (lo<=i)&&decide (i<=hi)))
  cases decide (lo<=i) <;> rfl
 | tup es=>exact zac hn rfl
 | lst es=>exact zac hn rfl
 | dct z t ks vs=>exact zac hn rfl
 | non=>rfl
 | bl _=>rfl
 | str _=>rfl
theorem wO (T:Txt K mg base ad):yW P w K mg base CX0 2 ad.f_is_whole_within ad.e_is_whole_within ["thing","least","most"] (@spD ⟨K⟩ 3 zF):=by
 letI:KK:=⟨K⟩
 have G_is_whole:=zcC (P:=P) (w:=w) (base:=base) T
 refine vZ (xw (N:=["thing","least","most"]) (ps:=["thing","least","most"]) T.d_is_whole_within.fn Z6 (g:=yg) λcdv A outer s H E hr=>?_) Z0
 unfold yg
 exact(zg (zE (Y9 (zo G_is_whole hr rfl T.d_is_whole (za (edv 0) zd)) (XJ (zha zhW zhW xi xi (edv 1) (edv 0) (edv 2) (λa b c=>zgI zhW zhW a b c))))))
def y4:SE->Ctl :=
 (yU (zz 3 zF (zb (zc 0) (zb (eC (.int 1)) (zb (eC (.int 8)) zr)))))
def xR:List D->Option D:=fnD 1 y4
def yq:List D->Option D
 | [d]=>if noS d=true then some (.bl (yp d 1 8))else none
 | _=>none
theorem Xs:∀ ds d,ds.length=1->yq ds=some d->xR ds=some d:=by
 intro ds d hl h
 obtain⟨a,rfl⟩:=zlH hl
 have e:xR [a]=zF [a,.int 1,.int 8]:=by
  cases h2:zF [a,.int 1,.int 8] <;> simp[xR,y4,fnD,zS,yU,Y0,sIf,xL,X0,sNo,yk,zbZ,vY,ZY,zbY,Xm,vEv,visF,visG,Sl.f,Sl.g,zc,eC,zm,Xe,eOr,zaD,eIf,eUn,ZC,wQ,yT,yc,zb,zr,zz,eFn,fFn,tOf,vG,XU,xr,asB,asI,zV,Z9,Y6,xU,v7,Vb,wR,ltD,leD,gtD,geD,Vr,zW,yS,ye,yD,XG,zL,ixD,Zb,yR,isT,eSl,wP,xI,xv,y6,iOf,ZB,yO,W5,wB,W2,yY,v8,fLC,yM,yb,vM,yd,W4,xT,Vj,b1,b2,h2]
 rw[e]
 exact h
theorem Xi (T:Txt K mg base ad):yW P w K mg base CX0 3 ad.f_is_place_count ad.e_is_place_count ["thing"] (@spD ⟨K⟩ 1 yq):=by
 letI:KK:=⟨K⟩
 have G_is_whole_within:=wO (P:=P) (w:=w) (base:=base) T
 refine vZ (xw (N:=["thing"]) (ps:=["thing"]) T.d_is_place_count.fn Xk (g:=y4) λcdv A outer s H E hr=>?_) Xs
 unfold y4
 exact(zg (zE (zo G_is_whole_within hr rfl T.d_is_whole_within (za (edv 0) (za (zi zj) (za (zi (ziE (v:=.int 8) rfl T.g_MOST_PLACES ⟨_,rfl⟩)) zd))))))
def YQ:SE->Ctl :=
 (yU (zz 3 zF (zb (zc 1) (zb (eC (.int 0)) (zb (zm Z9 (zc 0) (eC (.int 1))) zr)))))
def Xo:List D->Option D:=fnD 2 YQ
def yt:List D->Option D
 | [.int m,d]=>if noS d=true then some (.bl (yp d 0 (m - 1)))else none
 | _=>none
theorem zb9:∀ ds d,ds.length=2->yt ds=some d->Xo ds=some d:=by
 intro ds d hl h
 obtain⟨a,b,rfl⟩:=zhq hl
 cases a <;> try cases h
 rename_i m
 have e:Xo [.int m,b]=zF [b,.int 0,.int (m - 1)]:=by
  cases h2:zF [b,.int 0,.int (m - 1)] <;> simp[Xo,YQ,fnD,zS,yU,Y0,sIf,xL,X0,sNo,yk,zbZ,vY,ZY,zbY,Xm,vEv,visF,visG,Sl.f,Sl.g,zc,eC,zm,Xe,eOr,zaD,eIf,eUn,ZC,wQ,yT,yc,zb,zr,zz,eFn,fFn,tOf,vG,XU,xr,asB,asI,zV,Z9,Y6,xU,v7,Vb,wR,ltD,leD,gtD,geD,Vr,zW,yS,ye,yD,XG,zL,ixD,Zb,yR,isT,eSl,wP,xI,xv,y6,iOf,ZB,yO,W5,wB,W2,yY,v8,fLC,yM,yb,vM,yd,W4,xT,Vj,b1,b2,h2]
 rw[e]
 exact h
theorem Wq (T:Txt K mg base ad):yW P w K mg base CX0 3 ad.f_is_place ad.e_is_place ["many","thing"] (@spD ⟨K⟩ 2 yt):=by
 letI:KK:=⟨K⟩
 have G_is_whole_within:=wO (P:=P) (w:=w) (base:=base) T
 refine vZ (xw (N:=["many","thing"]) (ps:=["many","thing"]) T.d_is_place.fn zca (g:=YQ) λcdv A outer s H E hr=>?_) zb9
 unfold YQ
 exact(zg (zE (zo G_is_whole_within hr rfl T.d_is_whole_within (za (edv 1) (za (zi zj) (za (Wi (edv 0) (zi zj)) zd))))))
theorem zb8 {m i:Int}:yp (.int i) 0 (m - 1)=inR m i:=rfl
theorem zji {d:D}{lo hi:Int}(h:∀ i,d≠.int i):yp d lo hi=false:=by
 cases d <;> first | rfl | exact absurd rfl (h _)
theorem zbF {d:D}{lo hi:Int}(h:yp d lo hi=true):∃ i,d=.int i:=by
 cases d with
 | int i=>exact⟨i,rfl⟩
 | _=>cases h
def Z5:SE->Ctl :=
 (zS (sIf (XU (xr (tOf (eUn (yR .tuple) (zc 1)))) (tOf (zm neD (eFn Zb (zb (zc 1) zr)) (eC (.int 2))))) (yU (eC (.bl false))) yk)
  (yU (Xe (zz 2 yt (zb (zc 0) (zb (zm ixD (zc 1) (eC (.int 0))) zr))) (Xe (zz 2 yt (zb (zc 0) (zb (zm ixD (zc 1) (eC (.int 1))) zr))) (zm neD (zm ixD (zc 1) (eC (.int 0))) (zm ixD (zc 1) (eC (.int 1))))))))
def zgd:List D->Option D:=fnD 2 Z5
def wj:List D->Option D
 | [.int m,d]=>if noS d=true then some (.bl (xQ m d))else none
 | _=>none
theorem zg6 {m:Int}{x y:D}(h:yp x 0 (m - 1)=false):xQ m (.tup [x,y])=false:=by
 cases x with
 | int i =>
  cases y with
  | int j =>
   show(inR m i&&inR m j&&!decide (i=j))=false
   rw[show inR m i=false from h]
   rfl
  | _=>rfl
 | _=>rfl
theorem zhX {m:Int}{x y:D}(h:yp y 0 (m - 1)=false):xQ m (.tup [x,y])=false:=by
 cases x with
 | int i =>
  cases y with
  | int j =>
   show(inR m i&&inR m j&&!decide (i=j))=false
   rw[show inR m j=false from h,u2V]
   rfl
  | _=>rfl
 | _=>rfl
theorem zdz:∀ ds d,ds.length=2->wj ds=some d->zgd ds=some d:=by
 intro ds d hl h
 obtain⟨a,b,rfl⟩:=zhq hl
 cases a <;> try cases h
 rename_i m
 obtain⟨hn,rfl⟩:=ifS h
 clear h
 cases b with
 | tup es =>
  refine Vm (ρ:=[.v (.int m),.v (.tup es)]) rfl ?_
  unfold Z5
  by_cases hl:es.length=2
  .obtain⟨x,y,rfl⟩:=zhq hl
   have hx:noS x=true:=YN (ds:=[x,y]) (i:=0) hn rfl
   have hy:noS y=true:=YN (ds:=[x,y]) (i:=1) hn rfl
   have e0:yt [.int m,x]=some (.bl (yp x 0 (m - 1))):=by
    show(if noS x=true then some (D.bl (yp x 0 (m - 1)))else none)=_
    rw[j3 hx]
   have e1:yt [.int m,y]=some (.bl (yp y 0 (m - 1))):=by
    show(if noS y=true then some (D.bl (yp y 0 (m - 1)))else none)=_
    rw[j3 hy]
   refine zA (ρ':=[.v (.int m),.v (.tup [x,y])]) rfl (XD (Zq ?_) rfl)
   show(((yt [.int m,x]).bind asB).bind λc=>if c=true then (((yt [.int m,y]).bind asB).bind λc=>if c=true then neD x y else some (D.bl false))else some (D.bl false))=_
   rw[e0,e1]
   cases h1:yp x 0 (m - 1) with
   | false=>rw[zg6 h1];rfl
   | true =>
    cases h2:yp y 0 (m - 1) with
    | false=>rw[zhX h2];rfl
    | true =>
     obtain⟨i,rfl⟩:=zbF h1
     obtain⟨j,rfl⟩:=zbF h2
     show some (D.bl (!decide (i=j)))=some (.bl (inR m i&&inR m j&&!decide (i=j)))
     rw[show inR m i=true from h1,show inR m j=true from h2]
     rfl
  .have e:xQ m (.tup es)=false:=by
    unfold xQ Zd
    split
    .rename_i t ht
     split at ht
     .rename_i e'
      injection e' with e'
      rw[e']at hl
      exact absurd rfl hl
     .cases ht
    .rfl
   rw[e]
   refine y9 (Vh (c:=true) ?_ (λ_=>XD rfl rfl) λz=>by cases z)
   show some (!decide ((es.length:Int)=2))=_
   rw[h9 (show ¬ (es.length:Int)=2 from λh=>hl (Int.ofNat.inj h))]
   rfl
 | scr _=>cases hn
 | _=>rfl
theorem zdT (T:Txt K mg base ad):yW P w K mg base CX0 4 ad.f_is_pair ad.e_is_pair ["many","thing"] (@spD ⟨K⟩ 2 wj):=by
 letI:KK:=⟨K⟩
 have G_is_place:=Wq (P:=P) (w:=w) (base:=base) T
 refine vZ (xw (N:=["many","thing"]) (ps:=["many","thing"]) T.d_is_pair.fn zd5 (g:=Z5) λcdv A outer s H E hr=>?_) zdz
 unfold Z5
 exact(ze (x5 (zik (zdN (ZO (v6 (zN .tuple rfl T.z_isinstance (edv 1) (yN (v:=.ty "tuple") rfl T.z_tuple xu rfl)))) (VG (ya zcx WZ (zJ _) (zU zI wk rfl T.z_len Ys (za (edv 1) zd)) (zi zj))))) (zg (zE (XV XQ))) zO)
  (zg (zE (Y9 (zo G_is_place hr rfl T.d_is_place (za (edv 0) (za (zB (edv 1) (zi zj) (λ_ _=>rfl)) zd))) (Y9 (zo G_is_place hr rfl T.d_is_place (za (edv 0) (za (zB (edv 1) (zi zj) (λ_ _=>rfl)) zd))) (XJ (XH zcx WZ (zJ _) (zB (edv 1) (zi zj) (λ_ _=>rfl)) (zB (edv 1) (zi zj) (λ_ _=>rfl)))))))))
def za4 (ds:List D):Nat->Option Tie
 | 0=>none
 | k+1=>(ds[k]?).bind Zd
def Yi:SE->Ctl :=
 (zS (sIf (XU (xr (tOf (zz 2 wj (zb (zc 0) (zb (zc 3) zr))))) (tOf (zm gtD (zm ixD (zc 3) (eC (.int 0))) (zm ixD (zc 3) (eC (.int 1)))))) (yU (eC (.bl false))) yk)
  (sIf (vG (tOf (zm gtD (zc 2) (eC (.int 0)))) (tOf (zm leT (zc 3) (zm ixD (zc 1) (zm Z9 (zc 2) (eC (.int 1))))))) (yU (eC (.bl false))) yk))
def vf:SE->Ctl :=
 (zS (sIf (xr (tOf (eUn (yR .tuple) (zc 1)))) (yU (eC (.bl false))) yk)
  (zS (ZB (yY (zb (zc 1) zr)) (W4 2 (xT (yd 2) (xT (yd 3) Vj))) Yi)
  (yU (eC (.bl true)))))
def zd2:List D->Option D:=fnD 4 vf
def vg:List D->Option D
 | [.int m,d]=>if noS d=true then some (.bl (YM m d))else none
 | _=>none
theorem Vq {m:Int}{d:D}(h:xQ m d=true):∃ t,d=zp t:=by
 unfold xQ at h
 split at h
 .rename_i t ht
  exact⟨t,W0 ht⟩
 .cases h
theorem zcD:∀ ds d,ds.length=2->vg ds=some d->zd2 ds=some d:=by
 intro ds d hl h
 obtain⟨a,b,rfl⟩:=zhq hl
 cases a <;> try cases h
 rename_i m
 obtain⟨hn,rfl⟩:=ifS h
 clear h hl
 cases b with
 | scr _=>cases hn
 | tup es =>
  refine Vm (g:=vf) rfl ?_
  unfold vf
  refine zA rfl ?_
  refine y9 (WS (ds:=W1 0 es) (λi ρ=>∃ o1 o2,ρ=[.v (.int m),.v (.tup es),o1,o2]/\yn m none es=yn m (za4 es i) (es.drop i)/\∀ k,i=k+1->∃ p,es[k]?=some (zp p)) rfl
   ⟨.no,.no,rfl,rfl,λk e=>by cases e⟩ ?_ ?_)
  .rintro i d ρ hd ⟨o1,o2,rfl,hp,hk⟩
   rw[Xb]at hd
   obtain⟨dx,hdx,rfl⟩:=t7.mp hd
   rw[u1n]
   refine⟨_,rfl,?_⟩
   have hdrop:es.drop i=dx::es.drop (i+1):=by
    obtain⟨h1,h2⟩:=u8.mp hdx
    rw[u0P h1,h2]
   have hnx:noS dx=true:=YN hn hdx
   unfold Yi
   cases hpr:xQ m dx with
   | false =>
    have e1:wj [.int m,dx]=some (.bl false):=by
     show(if noS dx=true then some (D.bl (xQ m dx))else none)=_
     rw[j3 hnx,hpr]
    refine y9 (Vh (c:=true) (show(((wj [.int m,dx]).bind asB).map (!·)).bind (λc=>if c=true then some true else _)=_ by rw[e1];rfl) (λ_=>XD rfl ?_) (λz=>by cases z))
    have e:yn m none es=false:=by
     rw[hp,hdrop]
     unfold yn
     split
     .rw[hpr];rfl
     .rfl
    show D.bl false=.bl (yn m none es)
    rw[e]
   | true =>
    obtain⟨t,rfl⟩:=Vq hpr
    have e1:wj [.int m,zp t]=some (.bl true):=by
     show(if noS (zp t)=true then some (D.bl (xQ m (zp t)))else none)=_
     rw[j3 hnx,hpr]
    have step:yn m none es=(!decide (t.2 < t.1)&&zaT (za4 es i) t&&yn m (some t) (es.drop (i+1))):=by
     rw[hp,hdrop]
     conv=>lhs;unfold yn
     rw[Yk,hpr]
     rfl
    have prevS:za4 es (i+1)=some t:=by
     show(es[i]?).bind Zd=some t
     rw[hdx]
     rfl
    refine y9 (Vh (c:=decide (t.2 < t.1)) (show(((wj [.int m,zp t]).bind asB).map (!·)).bind (λc=>if c=true then some true else some (decide (t.2 < t.1)))=_ by rw[e1];rfl) (λc=>XD rfl ?_) (λc=>Yc rfl ?_))
    .show D.bl false=.bl (yn m none es)
     rw[step,c]
     rfl
    .cases i with
     | zero =>
      refine Vh (c:=false) rfl (λz=>by cases z) (λ_=>Yc rfl ?_)
      refine⟨_,_,rfl,?_,λk e=>?_⟩
      .rw[prevS,step,c]
       rfl
      .cases e
       exact⟨t,hdx⟩
     | succ j =>
      obtain⟨p,hpk⟩:=hk j rfl
      have prevK:za4 es (j+1)=some p:=by
       show(es[j]?).bind Zd=some p
       rw[hpk]
       rfl
      rw[prevK]at step
      have ea:atI es ((((j+1:Nat):Int)) - 1)=some (zp p):=by
       rw[show(((j+1:Nat):Int)) - 1=(j:Nat)from Int.add_sub_cancel (j:Int) 1]
       exact zgq hpk
      have okP:zaT (some p) t=!leP t p:=rfl
      refine Vh (c:=leP t p) ?_ (λc2=>XD rfl ?_) (λc2=>Yc rfl ?_)
      .have z:decide ((0:Int) < ((j+1:Nat):Int))=true:=i5 (Int.natCast_pos.mpr (Nat.succ_pos j))
       show((some (decide ((0:Int) < ((j+1:Nat):Int)))).bind λc=>if c=true then (((atI es (((j+1:Nat):Int) - 1)).bind λy=>leT (zp t) y).bind asB)else some false)=_
       rw[z,ea]
       rfl
      .show D.bl false=.bl (yn m none es)
       rw[step,okP,c2,c]
       rfl
      .refine⟨_,_,rfl,?_,λk' e=>?_⟩
       .rw[prevS,step,okP,c2,c]
        rfl
       .cases e
        exact⟨t,hdx⟩
  .rintro ρ ⟨o1,o2,rfl,hp,hk⟩
   refine XD rfl ?_
   show D.bl true=.bl (yn m none es)
   rw[hp,wJ,u2j]
   cases za4 es es.length <;> rfl
 | _=>rfl
theorem zcu (T:Txt K mg base ad):yW P w K mg base CX0 5 ad.f_are_ties ad.e_are_ties ["many","thing"] (@spD ⟨K⟩ 2 vg):=by
 letI:KK:=⟨K⟩
 have G_is_pair:=zdT (P:=P) (w:=w) (base:=base) T
 refine vZ (xw (N:=["many","thing","at","tie"]) (ps:=["many","thing"]) T.d_are_ties.fn Zr (g:=vf) λcdv A outer s H E hr=>?_) zcD
 unfold vf Yi
 exact(ze (x5 (ZO (v6 (zN .tuple rfl T.z_isinstance (edv 1) (yN (v:=.ty "tuple") rfl T.z_tuple xu rfl)))) (zg (zE (XV XQ))) zO)
  (ze (Y8 p7 rfl (zeI rfl T.z_enumerate XF (za (edv 1) zd)) (zcV rfl (wE (zM (zt (i:=2) Zr.nd rfl (Or.inl rfl))) (wE (zM (zt (i:=3) Zr.nd rfl (Or.inl rfl))) zap))) (ze (x5 (zik (zdN (ZO (v6 (zo G_is_pair hr rfl T.d_is_pair (za (edv 0) (za (edv 3) zd))))) (VG (ya zbr xi (zJ _) (zB (edv 3) (zi zj) (λ_ _=>rfl)) (zB (edv 3) (zi zj) (λ_ _=>rfl)))))) (zg (zE (XV XQ))) zO)
  (zg (x5 (zik (zh5 (ya zbr xi (zJ _) (edv 2) (zi zj)) (ze8 (ya (zjY hr.units0) zjb (zJ _) (edv 3) (zB (edv 1) (Wi (edv 2) (zi zj)) (λ_ _=>rfl)))))) (zg (zE (XV XQ))) zO))))
  (zg (zE (XV XQ)))))
def YY:SE->Ctl :=
 (zS (sIf (XU (xr (tOf (eUn (yR .tuple) (zc 0)))) (tOf (zm neD (eFn Zb (zb (zc 0) zr)) (eC (.int 2))))) (yU (eC (.bl false))) yk)
  (yU (Xe (zz 1 yq (zb (zm ixD (zc 0) (eC (.int 0))) zr)) (zz 2 vg (zb (zm ixD (zc 0) (eC (.int 0))) (zb (zm ixD (zc 0) (eC (.int 1))) zr))))))
def X6:List D->Option D:=fnD 1 YY
def ZD:List D->Option D
 | [d]=>if noS d=true then some (.bl (vp d))else none
 | _=>none
theorem zet {x y:D}:vp (.tup [x,y])=(yp x 1 8&&match x with | .int m=>YM m y | _=>false):=by
 cases x <;> rfl
theorem zeR:∀ ds d,ds.length=1->ZD ds=some d->X6 ds=some d:=by
 intro ds d hl h
 obtain⟨a,rfl⟩:=zlH hl
 obtain⟨hn,rfl⟩:=ifS h
 clear h hl
 cases a with
 | scr _=>cases hn
 | tup es =>
  by_cases hl:es.length=2
  .obtain⟨x,y,rfl⟩:=zhq hl
   have hx:noS x=true:=YN (ds:=[x,y]) (i:=0) hn rfl
   have hy:noS y=true:=YN (ds:=[x,y]) (i:=1) hn rfl
   have ec:yq [x]=some (.bl (yp x 1 8)):=by simp[yq,hx]
   rw[zet]
   by_cases ix:∃ i,x=.int i
   .obtain⟨i,rfl⟩:=ix
    have et:vg [.int i,y]=some (.bl (YM i y)):=by simp[vg,hy]
    cases hc:yp (.int i) 1 8 <;> rw[hc]at ec <;> simp[X6,YY,fnD,zS,yU,Y0,sIf,xL,X0,sNo,yk,zbZ,vY,ZY,zbY,Xm,vEv,visF,visG,Sl.f,Sl.g,zc,eC,zm,Xe,eOr,zaD,eIf,eUn,ZC,wQ,yT,yc,zb,zr,zz,eFn,fFn,tOf,vG,XU,xr,asB,asI,zV,Z9,Y6,xU,v7,Vb,wR,ltD,leD,gtD,geD,Vr,zW,yS,ye,yD,XG,zL,ixD,Zb,yR,isT,eSl,wP,xI,xv,y6,iOf,ZB,yO,W5,wB,W2,yY,v8,fLC,yM,yb,vM,yd,W4,xT,Vj,b1,b2,ec,et,atI,ixN]
   .have n2:yp x 1 8=false:=zji λj hj=>ix ⟨j,hj⟩
    rw[n2]at ec ⊢
    simp[X6,YY,fnD,zS,yU,Y0,sIf,xL,X0,sNo,yk,zbZ,vY,ZY,zbY,Xm,vEv,visF,visG,Sl.f,Sl.g,zc,eC,zm,Xe,eOr,zaD,eIf,eUn,ZC,wQ,yT,yc,zb,zr,zz,eFn,fFn,tOf,vG,XU,xr,asB,asI,zV,Z9,Y6,xU,v7,Vb,wR,ltD,leD,gtD,geD,Vr,zW,yS,ye,yD,XG,zL,ixD,Zb,yR,isT,eSl,wP,xI,xv,y6,iOf,ZB,yO,W5,wB,W2,yY,v8,fLC,yM,yb,vM,yd,W4,xT,Vj,b1,b2,ec,atI,ixN]
  .have e:vp (.tup es)=false:=zi3 λm ties h _=>by
    unfold zx at h
    injection h with h
    rw[h]at hl
    exact hl rfl
   rw[e]
   have:¬ (es.length:Int)=2:=by omega
   simp[X6,YY,fnD,zS,yU,Y0,sIf,xL,X0,sNo,yk,zbZ,vY,ZY,zbY,Xm,vEv,visF,visG,Sl.f,Sl.g,zc,eC,zm,Xe,eOr,zaD,eIf,eUn,ZC,wQ,yT,yc,zb,zr,zz,eFn,fFn,tOf,vG,XU,xr,asB,asI,zV,Z9,Y6,xU,v7,Vb,wR,ltD,leD,gtD,geD,Vr,zW,yS,ye,yD,XG,zL,ixD,Zb,yR,isT,eSl,wP,xI,xv,y6,iOf,ZB,yO,W5,wB,W2,yY,v8,fLC,yM,yb,vM,yd,W4,xT,Vj,b1,b2,this]
 | _=>rfl
theorem zeh (T:Txt K mg base ad):yW P w K mg base CX0 6 ad.f_is_web ad.e_is_web ["thing"] (@spD ⟨K⟩ 1 ZD):=by
 letI:KK:=⟨K⟩
 have G_is_place_count:=Xi (P:=P) (w:=w) (base:=base) T
 have G_are_ties:=zcu (P:=P) (w:=w) (base:=base) T
 refine vZ (xw (N:=["thing"]) (ps:=["thing"]) T.d_is_web.fn zgo (g:=YY) λcdv A outer s H E hr=>?_) zeR
 unfold YY
 exact(ze (x5 (zik (zdN (ZO (v6 (zN .tuple rfl T.z_isinstance (edv 0) (yN (v:=.ty "tuple") rfl T.z_tuple xu rfl)))) (VG (ya zcx WZ (zJ _) (zU zI wk rfl T.z_len Ys (za (edv 0) zd)) (zi zj))))) (zg (zE (XV XQ))) zO)
  (zg (zE (Y9 (zo G_is_place_count hr rfl T.d_is_place_count (za (zB (edv 0) (zi zj) (λ_ _=>rfl)) zd)) (XJ (zo G_are_ties hr rfl T.d_are_ties (za (zB (edv 0) (zi zj) (λ_ _=>rfl)) (za (zB (edv 0) (zi zj) (λ_ _=>rfl)) zd))))))))
theorem zi0 (m:Int)(ts:List Tie):noS (zx m ts)=true:=by
 have:∀ ts:List Tie,zia (ts.map zp)=true:=by
  intro ts
  induction ts with
  | nil=>rfl
  | cons t ts ih=>show(noS (zp t)&&zia (ts.map zp))=true;rw[ih];rfl
 show(noS (.int m)&&(noS (.tup (ts.map zp))&&true))=true
 rw[show noS (.tup (ts.map zp))=zia (ts.map zp)from rfl,this ts]
 rfl
def x4:SE->Ctl :=
 (sIf (xr (tOf (zz 1 ZD (zb (zc 0) zr)))) sNo yk)
def Xc:List D->Option D:=fnD 1 x4
def zX:List D->Option D
 | [d]=>if vp d=true then some .non else none
 | _=>none
theorem Vl:∀ ds d,ds.length=1->zX ds=some d->Xc ds=some d:=by
 intro ds d hl h
 obtain⟨a,rfl⟩:=zlH hl
 obtain⟨hw,rfl⟩:=ifS h
 obtain⟨m,ts,rfl,_⟩:=(xB a).mp hw
 have e:ZD [zx m ts]=some (.bl true):=by simp[ZD,zi0 m ts,hw]
 simp[Xc,x4,fnD,zS,yU,Y0,sIf,xL,X0,sNo,yk,zbZ,vY,ZY,zbY,Xm,vEv,visF,visG,Sl.f,Sl.g,zc,eC,zm,Xe,eOr,zaD,eIf,eUn,ZC,wQ,yT,yc,zb,zr,zz,eFn,fFn,tOf,vG,XU,xr,asB,asI,zV,Z9,Y6,xU,v7,Vb,wR,ltD,leD,gtD,geD,Vr,zW,yS,ye,yD,XG,zL,ixD,Zb,yR,isT,eSl,wP,xI,xv,y6,iOf,ZB,yO,W5,wB,W2,yY,v8,fLC,yM,yb,vM,yd,W4,xT,Vj,b1,b2,e]
theorem Y7 (T:Txt K mg base ad):yW P w K mg base CX0 7 ad.f_must_be_web ad.e_must_be_web ["thing"] (@spD ⟨K⟩ 1 zX):=by
 letI:KK:=⟨K⟩
 have G_is_web:=zeh (P:=P) (w:=w) (base:=base) T
 refine vZ (xw (N:=["thing"]) (ps:=["thing"]) T.d_must_be_web.fn Vc (g:=x4) λcdv A outer s H E hr=>?_) Vl
 unfold x4
 exact(zg (x5 (ZO (v6 (zo G_is_web hr rfl T.d_is_web (za (edv 0) zd)))) (zg zax) zO))
def ziQ:D->Bool
 | .int i=>decide (0<=i)
 | _=>false
def zkg (m:Int):D->Bool
 | .tup ds=>decide ((ds.length:Int)=m)&&ds.all ziQ
 | _=>false
theorem vV {m:Int}{ts:List Tie}(h:zH m ts):wB [.int m]=some (XX 0 m.toNat):=by
 have:=h.lo
 have:=h.hi
 show(if zgD m=true then some (XX 0 m.toNat)else none)=_
 rw[j3 (yK.mpr ⟨by omega,by omega⟩)]
def ziU:D->Int
 | .tup [.int m,_]=>m
 | _=>0
def zjx:D->List Tie
 | .tup [_,.tup l]=>(WP l).getD []
 | _=>[]
theorem WY (m:Int)(ts:List Tie):ziU (zx m ts)=m:=rfl
theorem zeQ (ts:List Tie):ts.map zp=ts.map prD:=rfl
theorem Wb (m:Int)(ts:List Tie):zjx (zx m ts)=ts:=by
 show(WP (ts.map zp)).getD []=ts
 rw[zeQ,Wv]
 rfl
def zb0 (a b:Int):Tie:=(if b < a then b else a,if b > a then b else a)
def xc:SE->Ctl :=
 (sIf (xr (tOf (zz 2 yt (zb (zm ixD (zc 0) (eC (.int 0))) (zb (zc 1) zr))))) sNo yk)
def Yl:List D->Option D:=fnD 2 xc
def yG:List D->Option D
 | [.tup [.int m,_],.int p]=>if (decide (0<=p)&&decide (p<=m - 1))=true then some .non else none
 | _=>none
theorem XO:∀ ds d,ds.length=2->yG ds=some d->Yl ds=some d:=by
 intro ds d hl h
 obtain⟨a,b,rfl⟩:=zhq hl
 unfold yG at h
 split at h
 .rename_i m t p' e
  injection e with e1 e2
  injection e2 with e2 _
  subst e1 e2
  obtain⟨hn,rfl⟩:=ifS h
  have ec:yt [.int m,.int p']=some (.bl true):=by
   show(if noS (.int p')=true then some (D.bl (yp (.int p') 0 (m - 1)))else none)=_
   rw[j3 (show noS (.int p')=true from rfl),zb8]
   unfold inR
   rw[hn]
  simp[Yl,xc,fnD,zS,yU,Y0,sIf,xL,X0,sNo,yk,zbZ,vY,ZY,zbY,Xm,vEv,visF,visG,Sl.f,Sl.g,zc,eC,zm,Xe,eOr,zaD,eIf,eUn,ZC,wQ,yT,yc,zb,zr,zz,eFn,fFn,tOf,vG,XU,xr,asB,asI,zV,Z9,Y6,xU,v7,Vb,wR,ltD,leD,gtD,geD,Vr,zW,yS,ye,yD,XG,zL,ixD,Zb,yR,isT,eSl,wP,xI,xv,y6,iOf,ZB,yO,W5,wB,W2,yY,v8,fLC,yM,yb,vM,yd,W4,xT,Vj,b1,b2,ec,atI,ixN]
 .cases h
theorem XR (T:Txt K mg base ad):yW P w K mg base CX0 4 ad.f_must_be_place ad.e_must_be_place ["web","thing"] (@spD ⟨K⟩ 2 yG):=by
 letI:KK:=⟨K⟩
 have G_is_place:=Wq (P:=P) (w:=w) (base:=base) T
 refine vZ (xw (N:=["web","thing"]) (ps:=["web","thing"]) T.d_must_be_place.fn XS (g:=xc) λcdv A outer s H E hr=>?_) XO
 unfold xc
 exact(zg (x5 (ZO (v6 (zo G_is_place hr rfl T.d_is_place (za (zB (edv 0) (zi zj) (λ_ _=>rfl)) (za (edv 1) zd))))) (zg zax) zO))
theorem zdA {m:Int}{ts:List Tie}{p:Int}(hp:0<=p/\p < m):yG [zx m ts,.int p]=some .non:=by
 show(if (decide (0<=p)&&decide (p<=m - 1))=true then some D.non else none)=_
 rw[i5 hp.1,i5 (by omega)]
 rfl
def vH:SE->Ctl :=
 (yU (wQ (zb (eFn zeN (zb (zc 0) (zb (zc 1) zr))) (zb (eFn zcj (zb (zc 0) (zb (zc 1) zr))) zr))))
def zaj:List D->Option D:=fnD 2 vH
def xj:List D->Option D
 | [.int a,.int b]=>some (zp (zb0 a b))
 | _=>none
theorem Vp:∀ ds d,ds.length=2->xj ds=some d->zaj ds=some d:=by
 intro ds d hl h
 obtain⟨a,b,rfl⟩:=zhq hl
 cases a <;> try cases h
 cases b <;> try cases h
 rfl
theorem Vd (T:Txt K mg base ad):yW P w K mg base CX0 1 ad.f_tie_between ad.e_tie_between ["one","other"] (@spD ⟨K⟩ 2 xj):=by
 letI:KK:=⟨K⟩
 refine vZ (xw (N:=["one","other"]) (ps:=["one","other"]) T.d_tie_between.fn Vg (g:=vH) λcdv A outer s H E hr=>?_) Vp
 unfold vH
 exact(zg (zE (x3 (za (zU (Wu rfl) zal rfl T.z_min zeO (za (edv 0) (za (edv 1) zd))) (za (zU (ZK rfl) Wa rfl T.z_max zbg (za (edv 0) (za (edv 1) zd))) zd)))))
theorem zeu (ts:List Tie):(ts.map zp).all (okE 20)=true:=by
 rw[u15,u0o]
 exact λt _=>rfl
theorem zdc (s t:Tie):eqN 20 (zp s) (zp t)=decide (s=t):=by
 have:eqN 20 (zp s) (zp t)=((s.1 == t.1)&&((s.2 == t.2)&&true)&&true):=rfl
 rw[this,u3P,u3P]
 by_cases h:s=t
 .subst h
  simp
 .rw[h9 h,Bool.and_eq_false_iff]
  by_cases h1:s.1=t.1
  .exact .inr (u1U.mpr λh2=>h (u2D h1 h2))
  .exact .inl (u1U.mpr h1)
theorem zhs (t:Tie)(ts:List Tie):inD (zp t) (.tup (ts.map zp))=some (.bl (decide (t∈ts))):=by
 show(zj4 (zp t) (ts.map zp)).map D.bl=_
 unfold zj4
 rw[j3 ⟨rfl,zeu ts⟩]
 show some (D.bl ((ts.map zp).any λe=>eqN 20 e (zp t)))=_
 rw[List.any_map]
 congr 2
 rw[u12,List.any_eq_true,d5]
 constructor
 .rintro⟨s,hs,h⟩
  have h:eqN 20 (zp s) (zp t)=true:=h
  rw[zdc,d5]at h
  subst h
  exact hs
 .exact λh=>⟨t,h,by show eqN 20 (zp t) (zp t)=true;rw[zdc];exact i5 rfl⟩
def nbN (m:Int)(ts:List Tie)(p:Int):List Nat:=(List.range m.toNat).filter λk:Nat=>decide (zb0 p k∈ts)
def zy (k:Nat):D:=.int ((0:Int)+(k:Int))
def wK:SE->Ctl :=
 (yU (yT (fLC (W5 wB (zb (zm ixD (zc 0) (eC (.int 0))) zr)) b1 (tOf (zm inD (zz 2 xj (zb (zc 2) (zb (zc 0) zr))) (zm ixD (zc 1) (eC (.int 1))))) (zc 0))))
def zbE:List D->Option D:=fnD 2 wK
def zQ:List D->Option D
 | [w,.int p]=>if vp w=true then some (.lst ((nbN (ziU w) (zjx w) p).map zy))else none
 | _=>none
theorem V0:∀ ds d,ds.length=2->zQ ds=some d->zbE ds=some d:=by
 intro ds d hl h
 obtain⟨a,b,rfl⟩:=zhq hl
 cases b <;> try cases h
 rename_i p
 obtain⟨hw,rfl⟩:=ifS h
 obtain⟨m,ts,rfl,ok⟩:=(xB a).mp hw
 rw[WY,Wb]
 refine Vm rfl ?_
 unfold wK
 refine XD (d:=.lst ((nbN m ts p).map zy)) ?_ rfl
 have e:fLC (W5 wB (zb (zm ixD (zc 0) (eC (.int 0))) zr)) b1 (tOf (zm inD (zz 2 xj (zb (zc 2) (zb (zc 0) zr))) (zm ixD (zc 1) (eC (.int 1))))) (zc 0) [some (zx m ts),some (.int p)]=some ((nbN m ts p).map zy):=by
  unfold fLC
  show((wB [.int m]).bind λds=>if lim ds.length=true then _ else none)=_
  rw[vV ok]
  show(if lim (XX 0 m.toNat).length=true then _ else none)=_
  rw[j3 (xg (by rw[Wm];have:=ok.hi;omega))]
  refine vd (c:=zy) (p:=λk=>decide (zb0 p k∈ts)) (y:=zy) (List.range m.toNat) λk hk=>⟨[some (zy k)],rfl,?_,λ_=>rfl⟩
  show((inD (zp (zb0 p (0+(k:Int)))) (.tup (ts.map zp))).bind asB)=_
  rw[u1w,zhs]
  rfl
 show(match ((fLC (W5 wB (zb (zm ixD (zc 0) (eC (.int 0))) zr)) b1 (tOf (zm inD (zz 2 xj (zb (zc 2) (zb (zc 0) zr))) (zm ixD (zc 1) (eC (.int 1))))) (zc 0) [some (zx m ts),some (.int p)]).map D.lst)with | some d=>Ctl.rt d | none=>Ctl.no)=_
 rw[e]
 rfl
theorem ZP (T:Txt K mg base ad):yW P w K mg base CX0 2 ad.f_neighbours ad.e_neighbours ["web","place"] (@spD ⟨K⟩ 2 zQ):=by
 letI:KK:=⟨K⟩
 have G_tie_between:=Vd (P:=P) (w:=w) (base:=base) T
 refine vZ (xw (N:=["web","place"]) (ps:=["web","place"]) T.d_neighbours.fn zar (g:=wK) λcdv A outer s H E hr=>?_) V0
 unfold wK
 exact(zg (zE (yX (za1 (L:=["other"]) (M:=["web","place"]) rfl (wL (by rfl) (by rfl) (by rfl) (by with_unfolding_all rfl) (by rfl) (by rfl) (by kernel_rfl) (all_cons rfl (all_cons rfl yC))) (zaL rfl T.z_range (za (zB (edv 0) (zi zj) (λ_ _=>rfl)) zd)) gs1 rb1 (λ_ _ _ _=>(zt (i:=0) zmD rfl (Or.inl rfl) (.inr rfl))) (λ_ _ _ _=>(ya (zio hr) zie (by with_unfolding_all rfl) (zo G_tie_between hr rfl T.d_tie_between (za (edv 2) (za (edv 0) zd))) (zB (edv 1) (zi zj) (λ_ _=>rfl)))) (λ_ _ _ _=>(edv 0))))))
def zfZ (m:Int)(ts:List Tie)(i:Nat):List Tie:=(List.range i).flatMap λk:Nat=>(nbN m ts k).map λo:Nat=>((0:Int)+(k:Int),(0:Int)+(o:Int))
def ziw (m:Int)(ts:List Tie):List Tie:=zfZ m ts m.toNat
theorem zdF {m:Int}{ts:List Tie}{p:Int}(h:zH m ts):(nbN m ts p).length<=8:=by
 refine u0B (u1E _ _) ?_
 rw[u0v]
 have:=h.hi
 omega
def vAt (ns:List Int)(i:Int):Int:=ns.getD i.toNat 0
theorem X4 {ns:List Int}{i:Int}(h0:0<=i)(h1:i < ns.length):atI (ns.map D.int) i=some (.int (vAt ns i)):=by
 unfold vAt
 obtain⟨k,hk⟩:∃ k:Nat,i=k:=⟨i.toNat,by omega⟩
 subst hk
 refine zgq ?_
 rw[u2c,j7,u6 (by omega),d9,u6 (by omega)]
 rfl
theorem zbd {ns:List Int}{i m:Int}(h:0<=i/\i < m)(hl:(ns.length:Int)=m):atI (ns.map D.int) i=some (.int (vAt ns i)):=X4 h.1 (by omega)
theorem zjK {m:Int}{ts:List Tie}{s:Tie}:s∈ziw m ts↔(0<=s.1/\s.1 < m)/\(0<=s.2/\s.2 < m)/\zb0 s.1 s.2∈ts:=by
 unfold ziw zfZ nbN
 rw[u1X]
 constructor
 .rintro⟨k,hk,h⟩
  obtain⟨o,ho,rfl⟩:=u0A.mp h
  rw[u0k,i8,d5]at ho
  rw[i8]at hk
  simp only[u1w]
  exact⟨⟨by(clear h ho hk;omega),by(clear h ho;omega)⟩,⟨by(clear h ho hk;omega),by omega⟩,ho.2⟩
 .rintro⟨⟨a1,a2⟩,⟨b1,b2⟩,h⟩
  refine⟨s.1.toNat,i8.mpr (by(clear b2 b1 h;omega)),u0A.mpr ⟨s.2.toNat,?_,?_⟩⟩
  .rw[u0k,i8,d5]
   refine⟨by omega,?_⟩
   rw[show((s.1.toNat:Nat):Int)=s.1 by(clear b2 b1 h a2;omega),show((s.2.toNat:Nat):Int)=s.2 by omega]
   exact h
  .exact u2D (by show(0:Int)+(s.1.toNat:Int)=s.1;(clear b2 b1 h a2;omega)) (by show(0:Int)+(s.2.toNat:Int)=s.2;omega)
end
theorem zk0 {m:Nat}{g:SE->Ctl}{ds:List D}{R:D->Prop}{ρ:SE}(e:ds.map .v++List.replicate (m - ds.length) .no=ρ)(q:(g ρ).w (λ_=>R .non) noP noP R):∃ d,fnD m g ds=some d/\R d:=by
 unfold fnD
 rw[e]
 cases hg:g ρ with
 | nx ρ'=>rw[hg]at q;exact⟨_,rfl,q.nxi⟩
 | rt d'=>rw[hg]at q;exact⟨_,rfl,q.rti⟩
 | bk _=>rw[hg]at q;exact q.bki.elim
 | ct _=>rw[hg]at q;exact q.cti.elim
 | no=>rw[hg]at q;exact q.noi.elim
section
variable {P:Program}{w:World}{K:W.Frag}{mg:Str->Option Value}{base:Heap}{ad:Adr}
def vC:SE->Ctl :=
 (zS (xL false 2 (zm v7 (zm Y6 (zm w6 (zm w6 (zm v7 (zc 0) (eC (.int 2147483647))) (zm Y6 (eC (.int 977)) (zc 1))) (eC (.int 1))) (eC (.int 48271))) (eC (.int 2147483647))))
  (zS (xL false 2 (zm v7 (zm Y6 (zc 2) (zc 2)) (eC (.int 2147483629))))
  (zS (xL false 2 (zm v7 (zm Y6 (zm w6 (zc 2) (zm Y6 (eC (.int 40692)) (zm w6 (zc 1) (eC (.int 3))))) (eC (.int 69621))) (eC (.int 2147483647))))
  (yU (zm xU (zc 2) (eC (.int 8)))))))
def zcG:List D->Option D:=fnD 3 vC
def wo:List D->Option D
 | [.int c,.int k]=>some (.int (zhQ c k))
 | _=>none
theorem zcH {i j:Int}(h1:-(2 ^ 64) < i)(h2:i < 2 ^ 64):WE i j=true:=i5 (.inl ⟨h1,h2⟩)
theorem ze9 {i j:Int}(h1:-(2 ^ 64) < j)(h2:j < 2 ^ 64):WE i j=true:=i5 (.inr ⟨h1,h2⟩)
theorem WO {i j:Int}(h:WE i j=true):Y6 (.int i) (.int j)=some (.int (i*j)):=by
 show(if WE i j=true then _ else none)=_
 rw[j3 h]
theorem vw {i j:Int}(h:0 < j):v7 (.int i) (.int j)=some (.int (i % j)):=by
 show(if decide (0 < j)=true then _ else none)=_
 rw[j3 (i5 h)]
theorem zay {i j:Int}(h:0 < j)(h2:j < 1606938044258990275541962092341162602522202993782792835301376):xU (.int i) (.int j)=some (.int (i / j)):=by
 show(if decide (0 < j/\j < 1606938044258990275541962092341162602522202993782792835301376)=true then _ else none)=_
 rw[j3 (i5 ⟨h,h2⟩)]
theorem zbA:∀ ds d,ds.length=2->wo ds=some d->zcG ds=some d:=by
 intro ds d hl h
 obtain⟨a,b,rfl⟩:=zhq hl
 cases a <;> try cases h
 cases b <;> try cases h
 rename_i c k
 have h1:=Int.emod_nonneg ((c % 2147483647+977*k+1)*48271) (show(2147483647:Int)≠0 by decide)
 have h2:=Int.emod_lt_of_pos ((c % 2147483647+977*k+1)*48271) (show(0:Int) < 2147483647 by decide)
 have m1:WE 977 k=true:=zcH (by decide) (by decide)
 have m2:WE (c % 2147483647+977*k+1) 48271=true:=ze9 (by decide) (by decide)
 obtain⟨x,hx⟩:∃ x,(c % 2147483647+977*k+1)*48271 % 2147483647=x:=⟨_,rfl⟩
 rw[hx]at h1 h2
 have m3:WE x x=true:=zcH (Int.lt_of_lt_of_le (by decide) h1) (Int.lt_trans h2 (by decide))
 have m4:WE 40692 (k+3)=true:=zcH (by decide) (by decide)
 have m5:∀ x,WE x 69621=true:=λx=>ze9 (by decide) (by decide)
 obtain⟨y,hy⟩:∃ y,x*x % 2147483629=y:=⟨_,rfl⟩
 obtain⟨z,hz⟩:∃ z,(y+40692*(k+3))*69621 % 2147483647=z:=⟨_,rfl⟩
 have hst:zhQ c k=z / 8:=by
  show((((c % 2147483647+977*k+1)*48271 % 2147483647)*((c % 2147483647+977*k+1)*48271 % 2147483647) % 2147483629+40692*(k+3))*69621 % 2147483647 / 8)=_
  rw[hx,hy,hz]
 rw[hst]
 refine Vm (ρ:=[.v (.int c),.v (.int k),.no]) rfl ?_
 unfold vC
 refine zA (ρ':=[.v (.int c),.v (.int k),.v (.int x)]) (wl ?_) ?_
 .show(((((v7 (.int c) (.int 2147483647)).bind λa=>(Y6 (.int 977) (.int k)).bind λb=>w6 a b).bind λa=>w6 a (.int 1)).bind λa=>Y6 a (.int 48271)).bind λa=>v7 a (.int 2147483647))=_
  rw[vw (by decide),WO m1]
  show((Y6 (.int (c % 2147483647+977*k+1)) (.int 48271)).bind λa=>v7 a (.int 2147483647))=_
  rw[WO m2,<- hx]
  exact vw (by decide)
 refine zA (ρ':=[.v (.int c),.v (.int k),.v (.int y)]) (wl ?_) ?_
 .show((Y6 (.int x) (.int x)).bind λa=>v7 a (.int 2147483629))=_
  rw[WO m3,<- hy]
  exact vw (by decide)
 refine zA (ρ':=[.v (.int c),.v (.int k),.v (.int z)]) (wl ?_) ?_
 .show((((Y6 (.int 40692) (.int (k+3))).bind λb=>w6 (.int y) b).bind λa=>Y6 a (.int 69621)).bind λa=>v7 a (.int 2147483647))=_
  rw[WO m4]
  show((Y6 (.int (y+40692*(k+3))) (.int 69621)).bind λa=>v7 a (.int 2147483647))=_
  rw[WO (m5 _),<- hz]
  exact vw (by decide)
 exact XD (Zq (show xU (.int z) (.int 8)=_ from zay (by decide) (by decide))) rfl
theorem zaM (T:Txt K mg base ad):yW P w K mg base CX0 1 ad.f__law_stir ad.e__law_stir ["cell","k"] (@spD ⟨K⟩ 2 wo):=by
 letI:KK:=⟨K⟩
 refine vZ (xw (N:=["cell","k","number"]) (ps:=["cell","k"]) T.d__law_stir.fn wN (g:=vC) λcdv A outer s H E hr=>?_) zbA
 unfold vC
 exact(ze (yr (m:=false) (i:=2) wN.nd rfl (Or.inl rfl) (Xa (VM (xo (xo (Xa (edv 0) (zi zj)) (VM (zi zj) (edv 1))) (zi zj)) (zi zj)) (zi zj)))
  (ze (yr (m:=false) (i:=2) wN.nd rfl (Or.inl rfl) (Xa (VM (edv 2) (edv 2)) (zi zj)))
  (ze (yr (m:=false) (i:=2) wN.nd rfl (Or.inl rfl) (Xa (VM (xo (edv 2) (VM (zi zj) (xo (edv 1) (zi zj)))) (zi zj)) (zi zj)))
  (zg (zE (zau (edv 2) (zi zj)))))))
theorem Xl {j:Int}(h3:0<=j)(h4:j<=1000000):wB [.int j]=some (XX 0 j.toNat):=by
 show(if zgD j=true then some (XX 0 j.toNat)else none)=_
 rw[j3 (yK.mpr ⟨by omega,by omega⟩)]
theorem zd8 {ts:List Tie}(h:ts.length < 64):Xv [.lst (ts.map zp)]=some ((Zy ts).map zp):=by
 show(if (ts.map zp).length < 64 then _ else none)=_
 rw[j3 (by rw[u5];exact h),show ts.map zp=ts.map prD from rfl,Wv]
 rfl
def wb (r:List D->Option D):SE->Ctl :=
 (sIf (xr (tOf (zz 2 r (zb (zc 2) (zb (zc 3) zr))))) (yU (eC (.bl false))) yk)
def zY (r:List D->Option D):SE->Ctl :=
 (zS (sIf (tOf (zm XG (zc 1) (eC .non))) (yU (zm XG (zc 0) (eC .non))) yk)
  (zS (sIf (tOf (eUn (yR .bool) (zc 1))) (yU (Xe (eUn (yR .bool) (zc 0)) (zm zaH (zc 0) (zc 1)))) yk)
  (zS (sIf (tOf (eUn (yR .int) (zc 1))) (yU (Xe (eUn (yR .int) (zc 0)) (Xe (zaD (eUn (yR .bool) (zc 0))) (zm zaH (zc 0) (zc 1))))) yk)
  (zS (sIf (tOf (eUn (yR .str) (zc 1))) (yU (Xe (eUn (yR .str) (zc 0)) (zm zaH (zc 0) (zc 1)))) yk)
  (zS (sIf (XU (tOf (zm neD (eUn (yR .list) (zc 1)) (eUn (yR .list) (zc 0)))) (tOf (zm neD (eUn (yR .tuple) (zc 1)) (eUn (yR .tuple) (zc 0))))) (yU (eC (.bl false))) yk)
  (zS (sIf (tOf (zm neD (eFn Zb (zb (zc 0) zr)) (eFn Zb (zb (zc 1) zr)))) (yU (eC (.bl false))) yk)
  (zS (ZB (v8 (zb (zc 0) (zb (zc 1) zr))) (W4 2 (xT (yd 2) (xT (yd 3) Vj))) (wb r))
  (yU (eC (.bl true))))))))))
def vB:List D->Option D:=zj1 4 zY 6
theorem zbo (ds:List D):VH ds ds=ds.map λd=>.tup [d,d]:=by
 induction ds with
 | nil=>rfl
 | cons d ds ih=>show D.tup [d,d]::VH ds ds=_;rw[ih];rfl
theorem zbS {r:List D->Option D}{d:D}(hr:∀ es,(d=.tup es\/d=.lst es)->∀ e∈es,r [e,e]=some (.bl true))(hn:∀ ns,d≠.scr ns)(hd:∀ z t ks vs,d≠.dct z t ks vs):fnD 4 (zY r) [d,d]=some (.bl true):=by
 cases d with
 | scr ns=>exact absurd rfl (hn ns)
 | dct z t ks vs=>exact absurd rfl (hd z t ks vs)
 | non=>rfl
 | bl b=>cases b <;> rfl
 | int i=>simp[zY,fnD,zS,yU,Y0,sIf,xL,X0,sNo,yk,zbZ,vY,ZY,zbY,Xm,vEv,visF,visG,Sl.f,Sl.g,zc,eC,zm,Xe,eOr,zaD,eIf,eUn,ZC,wQ,yT,yc,zb,zr,zz,eFn,fFn,tOf,vG,XU,xr,asB,asI,zV,Z9,Y6,xU,v7,Vb,wR,ltD,leD,gtD,geD,Vr,zW,yS,ye,yD,XG,zL,ixD,Zb,yR,isT,eSl,wP,xI,xv,y6,iOf,ZB,yO,W5,wB,W2,yY,v8,fLC,yM,yb,vM,yd,W4,xT,Vj,b1,b2]
 | str x=>simp[zY,fnD,zS,yU,Y0,sIf,xL,X0,sNo,yk,zbZ,vY,ZY,zbY,Xm,vEv,visF,visG,Sl.f,Sl.g,zc,eC,zm,Xe,eOr,zaD,eIf,eUn,ZC,wQ,yT,yc,zb,zr,zz,eFn,fFn,tOf,vG,XU,xr,asB,asI,zV,Z9,Y6,xU,v7,Vb,wR,ltD,leD,gtD,geD,Vr,zW,yS,ye,yD,XG,zL,ixD,Zb,yR,isT,eSl,wP,xI,xv,y6,iOf,ZB,yO,W5,wB,W2,yY,v8,fLC,yM,yb,vM,yd,W4,xT,Vj,b1,b2]
 | tup es =>
  refine Vm (ρ:=[.v (.tup es),.v (.tup es),.no,.no]) rfl ?_
  unfold zY
  refine zA rfl (zA rfl (zA rfl (zA rfl (zA rfl (y9 (Vh (c:=false) (by simp[fnD,zS,yU,Y0,sIf,xL,X0,sNo,yk,zbZ,vY,ZY,zbY,Xm,vEv,visF,visG,Sl.f,Sl.g,zc,eC,zm,Xe,eOr,zaD,eIf,eUn,ZC,wQ,yT,yc,zb,zr,zz,eFn,fFn,tOf,vG,XU,xr,asB,asI,zV,Z9,Y6,xU,v7,Vb,wR,ltD,leD,gtD,geD,Vr,zW,yS,ye,yD,XG,zL,ixD,Zb,yR,isT,eSl,wP,xI,xv,y6,iOf,ZB,yO,W5,wB,W2,yY,v8,fLC,yM,yb,vM,yd,W4,xT,Vj,b1,b2]) (λz=>by cases z) λ_=>Yc rfl ?_))))))
  refine y9 (WS (ds:=VH es es) (λi ρ=>∃ o1 o2,ρ=[.v (.tup es),.v (.tup es),o1,o2]) (by simp[fnD,zS,yU,Y0,sIf,xL,X0,sNo,yk,zbZ,vY,ZY,zbY,Xm,vEv,visF,visG,Sl.f,Sl.g,zc,eC,zm,Xe,eOr,zaD,eIf,eUn,ZC,wQ,yT,yc,zb,zr,zz,eFn,fFn,tOf,vG,XU,xr,asB,asI,zV,Z9,Y6,xU,v7,Vb,wR,ltD,leD,gtD,geD,Vr,zW,yS,ye,yD,XG,zL,ixD,Zb,yR,isT,eSl,wP,xI,xv,y6,iOf,ZB,yO,W5,wB,W2,yY,v8,fLC,yM,yb,vM,yd,W4,xT,Vj,b1,b2]) ⟨_,_,rfl⟩ ?_ ?_)
  .rintro i d ρ hd ⟨o1,o2,rfl⟩
   rw[zbo,j7]at hd
   obtain⟨e,he,rfl⟩:=t7.mp hd
   have hre:=hr es (.inl rfl) e (j4 he)
   refine⟨_,rfl,?_⟩
   unfold wb
   refine Vh (c:=false) (by simp[fnD,zS,yU,Y0,sIf,xL,X0,sNo,yk,zbZ,vY,ZY,zbY,Xm,vEv,visF,visG,Sl.f,Sl.g,zc,eC,zm,Xe,eOr,zaD,eIf,eUn,ZC,wQ,yT,yc,zb,zr,zz,eFn,fFn,tOf,vG,XU,xr,asB,asI,zV,Z9,Y6,xU,v7,Vb,wR,ltD,leD,gtD,geD,Vr,zW,yS,ye,yD,XG,zL,ixD,Zb,yR,isT,eSl,wP,xI,xv,y6,iOf,ZB,yO,W5,wB,W2,yY,v8,fLC,yM,yb,vM,yd,W4,xT,Vj,b1,b2,hre]) (λz=>by cases z) λ_=>Yc rfl ⟨_,_,rfl⟩
  .rintro ρ ⟨o1,o2,rfl⟩
   exact XD rfl rfl
 | lst es =>
  refine Vm (ρ:=[.v (.lst es),.v (.lst es),.no,.no]) rfl ?_
  unfold zY
  refine zA rfl (zA rfl (zA rfl (zA rfl (zA rfl (y9 (Vh (c:=false) (by simp[fnD,zS,yU,Y0,sIf,xL,X0,sNo,yk,zbZ,vY,ZY,zbY,Xm,vEv,visF,visG,Sl.f,Sl.g,zc,eC,zm,Xe,eOr,zaD,eIf,eUn,ZC,wQ,yT,yc,zb,zr,zz,eFn,fFn,tOf,vG,XU,xr,asB,asI,zV,Z9,Y6,xU,v7,Vb,wR,ltD,leD,gtD,geD,Vr,zW,yS,ye,yD,XG,zL,ixD,Zb,yR,isT,eSl,wP,xI,xv,y6,iOf,ZB,yO,W5,wB,W2,yY,v8,fLC,yM,yb,vM,yd,W4,xT,Vj,b1,b2]) (λz=>by cases z) λ_=>Yc rfl ?_))))))
  refine y9 (WS (ds:=VH es es) (λi ρ=>∃ o1 o2,ρ=[.v (.lst es),.v (.lst es),o1,o2]) (by simp[fnD,zS,yU,Y0,sIf,xL,X0,sNo,yk,zbZ,vY,ZY,zbY,Xm,vEv,visF,visG,Sl.f,Sl.g,zc,eC,zm,Xe,eOr,zaD,eIf,eUn,ZC,wQ,yT,yc,zb,zr,zz,eFn,fFn,tOf,vG,XU,xr,asB,asI,zV,Z9,Y6,xU,v7,Vb,wR,ltD,leD,gtD,geD,Vr,zW,yS,ye,yD,XG,zL,ixD,Zb,yR,isT,eSl,wP,xI,xv,y6,iOf,ZB,yO,W5,wB,W2,yY,v8,fLC,yM,yb,vM,yd,W4,xT,Vj,b1,b2]) ⟨_,_,rfl⟩ ?_ ?_)
  .rintro i d ρ hd ⟨o1,o2,rfl⟩
   rw[zbo,j7]at hd
   obtain⟨e,he,rfl⟩:=t7.mp hd
   have hre:=hr es (.inr rfl) e (j4 he)
   refine⟨_,rfl,?_⟩
   unfold wb
   refine Vh (c:=false) (by simp[fnD,zS,yU,Y0,sIf,xL,X0,sNo,yk,zbZ,vY,ZY,zbY,Xm,vEv,visF,visG,Sl.f,Sl.g,zc,eC,zm,Xe,eOr,zaD,eIf,eUn,ZC,wQ,yT,yc,zb,zr,zz,eFn,fFn,tOf,vG,XU,xr,asB,asI,zV,Z9,Y6,xU,v7,Vb,wR,ltD,leD,gtD,geD,Vr,zW,yS,ye,yD,XG,zL,ixD,Zb,yR,isT,eSl,wP,xI,xv,y6,iOf,ZB,yO,W5,wB,W2,yY,v8,fLC,yM,yb,vM,yd,W4,xT,Vj,b1,b2,hre]) (λz=>by cases z) λ_=>Yc rfl ⟨_,_,rfl⟩
  .rintro ρ ⟨o1,o2,rfl⟩
   exact XD rfl rfl
theorem zfc:∀ (n:Nat) {d:D},okE n d=true->zj1 4 zY (n+1) [d,d]=some (.bl true):=by
 intro n
 induction n with
 | zero =>
  intro d h
  refine zbS (λes he=>?_) (λns e=>by subst e;cases h) (λ_ _ _ _ e=>by subst e;cases h)
  rcases he with rfl | rfl <;> cases h
 | succ n ih =>
  intro d h
  refine zbS (λes he e hm=>?_) (λns e=>by subst e;cases h) (λ_ _ _ _ e=>by subst e;cases h)
  rcases he with rfl | rfl
  .exact ih (u0o.mp h e hm)
  .exact ih (u0o.mp h e hm)
theorem zlu {d:D}(h:okE 5 d=true):vB [d,d]=some (.bl true):=zfc 5 h
theorem zbC (T:Txt K mg base ad):yW P w K mg base CX0 7 ad.f__law_same ad.e__law_same ["found","due"] (@spD ⟨K⟩ 2 vB):=by
 letI:KK:=⟨K⟩
 have R:∀ n,yW P w K mg base CX0 (1+n) ad.f__law_same ad.e__law_same ["found","due"] (spD 2 (zj1 4 zY n)):=by
  refine zkR (P:=P) (w:=w) (mg:=mg) (base:=base) (k0:=1) (g:=zY) T.d__law_same.fn Yj λk r hrec cdv A outer s H E hr=>?_
  unfold zY wb
  exact(ze (x5 (ya zdv zat (zJ _) (edv 1) (XA XL)) (zg (zE (XH zdv zat (zJ _) (edv 0) (XA XL)))) zO)
   (ze (x5 (v6 (zN .bool rfl T.z_isinstance (edv 1) (yN (v:=.ty "bool") rfl T.z_bool V1 rfl))) (zg (zE (Y9 (zN .bool rfl T.z_isinstance (edv 0) (yN (v:=.ty "bool") rfl T.z_bool V1 rfl)) (XJ (XH (Z8 hr) vK (zJ _) (edv 0) (edv 1)))))) zO)
   (ze (x5 (v6 (zN .int rfl T.z_isinstance (edv 1) (yN (v:=.ty "int") rfl T.z_int zfW rfl))) (zg (zE (Y9 (zN .int rfl T.z_isinstance (edv 0) (yN (v:=.ty "int") rfl T.z_int zfW rfl)) (Y9 (ziq (zN .bool rfl T.z_isinstance (edv 0) (yN (v:=.ty "bool") rfl T.z_bool V1 rfl))) (XJ (XH (Z8 hr) vK (zJ _) (edv 0) (edv 1))))))) zO)
   (ze (x5 (v6 (zN .str rfl T.z_isinstance (edv 1) (yN (v:=.ty "str") rfl T.z_str zh9 rfl))) (zg (zE (Y9 (zN .str rfl T.z_isinstance (edv 0) (yN (v:=.ty "str") rfl T.z_str zh9 rfl)) (XJ (XH (Z8 hr) vK (zJ _) (edv 0) (edv 1)))))) zO)
   (ze (x5 (zik (zdN (ya zcx WZ (zJ _) (zN .list rfl T.z_isinstance (edv 1) (yN (v:=.ty "list") rfl T.z_list zct rfl)) (zN .list rfl T.z_isinstance (edv 0) (yN (v:=.ty "list") rfl T.z_list zct rfl))) (VG (ya zcx WZ (zJ _) (zN .tuple rfl T.z_isinstance (edv 1) (yN (v:=.ty "tuple") rfl T.z_tuple xu rfl)) (zN .tuple rfl T.z_isinstance (edv 0) (yN (v:=.ty "tuple") rfl T.z_tuple xu rfl)))))) (zg (zE (XV XQ))) zO)
   (ze (x5 (ya zcx WZ (zJ _) (zU zI wk rfl T.z_len Ys (za (edv 0) zd)) (zU zI wk rfl T.z_len Ys (za (edv 1) zd))) (zg (zE (XV XQ))) zO)
   (ze (Y8 p7 rfl (zjZ rfl T.z_zip (za (edv 0) (za (edv 1) zd))) (zcV rfl (wE (zM (zt (i:=2) Yj.nd rfl (Or.inl rfl))) (wE (zM (zt (i:=3) Yj.nd rfl (Or.inl rfl))) zap))) (zg (x5 (ZO (v6 (zfe hrec hr rfl T.d__law_same.at_ T.d__law_same.kp T.d__law_same.bd (za (edv 2) (za (edv 3) zd))))) (zg (zE (XV XQ))) zO)))
   (zg (zE (XV XQ))))))))))
 exact R 6
structure zdJ (m:Int) (ts:List Tie) (p:Int) (t:Nat) (fs:List (Option Int)):Prop where
 len:fs.length=m.toNat
 sound:∀ v k,0<=v->v < m->oAt fs v=some k->∃ j:Nat,k=(j:Int)/\yQ ts p j v
 full:∀ (j:Nat) v,j<=t->yQ ts p j v->∃ j':Nat,j'<=j/\oAt fs v=some (j':Int)
theorem zdJ.end {m:Int}{ts:List Tie}{p:Int}{t:Nat}{fs:List (Option Int)}(ok:zH m ts)(hp:0<=p/\p < m)(h:zdJ m ts p t fs)(ht:m.toNat<=t):fs=Ya m ts p:=by
 refine zfb (by rw[h.len,Zk]) λv v0 v1=>?_
 have hv:v < m:=by have:=h.len;omega
 rw[V3 v0 hv]
 rcases vm ts p v with ⟨k,e,hk⟩ | ⟨e,hk⟩
 .have:=hk.lt ok hp
  obtain⟨j,hj,e2⟩:=h.full k v (by omega) hk.1
  obtain⟨j2,e3,r⟩:=h.sound v _ v0 hv e2
  have:=hk.2 _ r
  rw[e,e2]
  congr 1
  omega
 .rw[e]
  cases e2:oAt fs v with
  | none=>rfl
  | some k =>
   obtain⟨j,_,r⟩:=h.sound v k v0 hv e2
   exact absurd r (hk j)
def swT (t:Tie):Tie:=(t.2,t.1)
def zer (ts:List Tie):List Tie:=ts++ts.map swT
theorem Wl {ts:List Tie}{t:Tie}:t∈zer ts↔adj ts t.1 t.2:=by
 unfold zer adj
 rw[u0w,u0A]
 constructor
 .rintro(h | ⟨s,hs,rfl⟩)
  .exact .inl h
  .exact .inr hs
 .rintro(h | h)
  .exact .inl h
  .exact .inr ⟨_,h,rfl⟩
theorem zdJ.relax {m:Int}{ts:List Tie}{p:Int}{t:Nat}{fs:List (Option Int)}{a b ka:Int}(ok:zH m ts)(hp:0<=p/\p < m)(h:zdJ m ts p t fs)(hab:adj ts a b)(ha:oAt fs a=some ka)(hb:oAt fs b=none\/∃ kb,oAt fs b=some kb/\ka+1 < kb) :
 zdJ m ts p t (fs.set b.toNat (some (ka+1)))/\∀ v k,0<=v->oAt fs v=some k->∃ k',k'<=k/\oAt (fs.set b.toNat (some (ka+1))) v=some k':=by
 obtain⟨⟨a0,a1⟩,b0,b1⟩:=hab.rng ok
 have hl:=h.len
 have mono:∀ v k,0<=v->oAt fs v=some k->∃ k',k'<=k/\oAt (fs.set b.toNat (some (ka+1))) v=some k':=λv k v0 e=>by
  rw[vI b0 (YX b0 b1 hl) v0]
  by_cases c:v=b
  .subst c
   rw[j3 rfl]
   rcases hb with hb | ⟨kb,hb,hlt⟩
   .rw[hb]at e;cases e
   .rw[hb]at e;cases e
    exact⟨_,by omega,rfl⟩
  .rw[j8 c]
   exact⟨k,u2l _,e⟩
 refine⟨⟨by rw[u2B];exact hl,λv k v0 v1 e=>?_,λj v hj r=>?_⟩,mono⟩
 .rw[vI b0 (YX b0 b1 hl) v0]at e
  by_cases c:v=b
  .subst c
   rw[j3 rfl]at e
   cases e
   obtain⟨j,rfl,r⟩:=h.sound a _ a0 a1 ha
   exact⟨j+1,by omega,.step r hab⟩
  .rw[j8 c]at e
   exact h.sound v k v0 v1 e
 .obtain⟨j',hj',e⟩:=h.full j v hj r
  have v0:=(r.rng ok hp).1
  obtain⟨k',hk',e'⟩:=mono v _ v0 e
  obtain⟨q,rfl⟩:∃ q:Nat,k'=(q:Int):=by
   rw[vI b0 (YX b0 b1 hl) v0]at e'
   by_cases c:v=b
   .rw[j3 c]at e'
    cases e'
    obtain⟨i,rfl,_⟩:=h.sound a _ a0 a1 ha
    exact⟨i+1,by omega⟩
   .rw[j8 c,e]at e'
    cases e'
    exact⟨j',rfl⟩
  exact⟨q,by omega,e'⟩
theorem zdJ.start {m:Int}{ts:List Tie}{p:Int}(hp:0<=p/\p < m):zdJ m ts p 0 ((List.replicate m.toNat none).set p.toNat (some 0)):=by
 have hl:p < ((List.replicate m.toNat (none:Option Int)).length:Int):=by rw[u0S];omega
 have nn:∀ v,oAt (List.replicate m.toNat (none:Option Int)) v=none:=λv=>by
  unfold oAt
  rw[u1e]
  split <;> rfl
 refine⟨by simp,λv k v0 v1 e=>?_,λj v hj r=>?_⟩
 .rw[vI hp.1 hl v0,nn]at e
  by_cases c:v=p
  .rw[j3 c]at e;cases e
   exact⟨0,rfl,by rw[c];exact .zero⟩
  .rw[j8 c]at e;cases e
 .obtain rfl:j=0:=by omega
  cases r
  exact⟨0,q5 _,by rw[vI hp.1 hl hp.1,j3 rfl];rfl⟩
def vF:SE->Ctl :=
 (sIf (vG (tOf (zm zL (zm ixD (zc 2) (zc 4)) (eC .non))) (XU (tOf (zm XG (zm ixD (zc 2) (zc 5)) (eC .non))) (tOf (zm gtD (zm ixD (zc 2) (zc 5)) (zm w6 (zm ixD (zc 2) (zc 4)) (eC (.int 1))))))) (Xm true 2 (zc 5) (zm w6 (zm ixD (zc 2) (zc 4)) (eC (.int 1)))) yk)
def vO:SE->Ctl :=
 (ZB (iOf (zm w6 (zm ixD (zc 0) (eC (.int 1))) (eFn yb (zb (yT (fLC (iOf (zm ixD (zc 0) (eC (.int 1)))) b2 yM (wQ (zb (zc 1) (zb (zc 0) zr))))) zr)))) (W4 2 (xT (yd 4) (xT (yd 5) Vj))) vF)
def vx:SE->Ctl :=
 (zS (vY 2 (zkB zgC (yT (yc (zb (eC .non) zr))) (zm ixD (zc 0) (eC (.int 0)))))
  (zS (Xm false 2 (zc 1) (eC (.int 0)))
  (zS (yO wB (zb (zm ixD (zc 0) (eC (.int 0))) zr) (yd 3) vO)
  (sFz 2 (yU (zc 2))))))
def Zf:List D->Option D:=fnD 6 vx
theorem zjE {m:Int}{ts:List Tie}{p:Int}(ok:zH m ts)(h28:ts.length<=28)(hp:0<=p/\p < m):Zf [zx m ts,.int p]=some (.lst ((Ya m ts p).map xb)):=by
 obtain⟨es,hes⟩:∃ es,zer ts=es:=⟨_,rfl⟩
 have hm1:=ok.lo
 have hm8:=ok.hi
 refine Vm (ρ:=[.v (zx m ts),.v (.int p),.no,.no,.no,.no]) rfl ?_
 unfold vx
 refine zA (ρ':=[.v (zx m ts),.v (.int p),.o ((List.replicate m.toNat none).map xb),.no,.no,.no]) ?_ ?_
 .have e:=zj0 (d:=.non) hm1 hm8
  refine Zg (ds:=(List.replicate m.toNat none).map xb) ?_
  rw[List.map_replicate]
  exact e
 refine y9 (zfr _ (.int 0) p rfl rfl rfl hp.1 (by simp;omega) ?_)
 rw[show(.int 0:D)=xb (some 0)from rfl,<- u3B]
 refine y9 (YK (lo:=0) (c:=m.toNat) (λi ρ=>∃ (fs:List (Option Int)) (o3 o4 o5:Sl),ρ=[.v (zx m ts),.v (.int p),.o (fs.map xb),o3,o4,o5]/\zdJ m ts p i fs) ?_ ⟨_,_,_,_,rfl,zdJ.start hp⟩ ?_ ?_)
 .show wB [.int m]=_
  exact zij hm1 hm8
 .rintro i ρ hi ⟨fs,o3,o4,o5,rfl,hf⟩
  obtain⟨x,hx⟩:∃ x:Int,(0:Int)+(i:Int)=x:=⟨_,rfl⟩
  rw[hx]
  refine⟨_,rfl,?_⟩
  unfold vO
  refine WS (ds:=es.map zp) (λj ρ=>∃ (fs:List (Option Int)) (o4 o5:Sl),ρ=[.v (zx m ts),.v (.int p),.o (fs.map xb),.v (.int x),o4,o5]/\zdJ m ts p i fs/\∀ e∈es.take j,∀ k:Nat,k<=i->yQ ts p k e.1->∃ j':Nat,j'<=k+1/\oAt fs e.2=some (j':Int)) ?_ ⟨fs,_,_,rfl,hf,λe he=>by simp at he⟩ ?_ ?_
  .have e1:fLC (iOf (zm ixD (zc 0) (eC (.int 1)))) b2 yM (wQ (zb (zc 1) (zb (zc 0) zr))) [some (zx m ts),some (.int p),none,some (.int x),o4.f,o5.f]=some ((ts.map swT).map zp):=by
    unfold fLC
    show(if lim (ts.map zp).length=true then _ else none)=_
    rw[j3 (zkW (by rw[u5];exact h28)),u0j]
    exact wV zp (zp ∘ swT) ts λt _=>⟨[some (.int t.1),some (.int t.2)],rfl,rfl,rfl⟩
   show((((((fLC (iOf (zm ixD (zc 0) (eC (.int 1)))) b2 yM (wQ (zb (zc 1) (zb (zc 0) zr))) [some (zx m ts),some (.int p),none,some (.int x),o4.f,o5.f]).map D.lst).bind λd=>(some ([]:List D)).map (d::·)).bind yb).bind λy=>w6 (.tup (ts.map zp)) y).bind y6)=_
   rw[e1]
   show(if lim ((ts.map zp).length+((ts.map swT).map zp).length)=true then some (D.tup (ts.map zp++(ts.map swT).map zp))else none).bind y6=_
   rw[j3 (xg (by simp only[u5];omega)),<- hes]
   unfold zer
   rw[u0M]
   rfl
  .rintro j d ρ hd ⟨fs,o4,o5,rfl,hf,hE⟩
   rw[j7]at hd
   obtain⟨⟨a,b⟩,ht,rfl⟩:=t7.mp hd
   have hadj:adj ts a b:=Wl.mp (by rw[hes];exact j4 ht)
   obtain⟨⟨a0,a1⟩,b0,b1⟩:=hadj.rng ok
   have hl:=hf.len
   have htake:es.take (j+1)=es.take j++[(a,b)]:=by rw[u4e,ht];rfl
   refine⟨[.v (zx m ts),.v (.int p),.o (fs.map xb),.v (.int x),.v (.int a),.v (.int b)],rfl,?_⟩
   unfold vF
   have ea:=zcN (fs:=fs) a0 a1 hl
   have eb:=zcN (fs:=fs) b0 b1 hl
   have stay:(oAt fs a=none\/∃ ka kb,oAt fs a=some ka/\oAt fs b=some kb/\kb<=ka+1)->∀ e∈es.take (j+1),∀ k:Nat,k<=i->yQ ts p k e.1->∃ j':Nat,j'<=k+1/\oAt fs e.2=some (j':Int):=λh e he k hk r=>by
    rw[htake]at he
    rcases u0w.mp he with he | he
    .exact hE e he k hk r
    .cases d4.mp he
     obtain⟨j',hj',e2⟩:=hf.full k a hk r
     rcases h with h | ⟨ka,kb,h1,h2,h3⟩
     .rw[h]at e2;cases e2
     .rw[h1]at e2
      cases e2
      obtain⟨q,rfl,_⟩:=hf.sound b kb b0 b1 h2
      exact⟨q,by omega,h2⟩
   have go:∀ ka,oAt fs a=some ka->(oAt fs b=none\/∃ kb,oAt fs b=some kb/\ka+1 < kb)->(Xm true 2 (zc 5) (zm w6 (zm ixD (zc 2) (zc 4)) (eC (.int 1))) [.v (zx m ts),.v (.int p),.o (fs.map xb),.v (.int x),.v (.int a),.v (.int b)]).w
    (fun ρ=>∃ (fs:List (Option Int)) (o4 o5:Sl),ρ=[.v (zx m ts),.v (.int p),.o (fs.map xb),.v (.int x),o4,o5]/\zdJ m ts p i fs/\∀ e∈es.take (j+1),∀ k:Nat,k<=i->yQ ts p k e.1->∃ j':Nat,j'<=k+1/\oAt fs e.2=some (j':Int))
    (fun ρ=>∃ (fs:List (Option Int)) (o3 o4 o5:Sl),ρ=[.v (zx m ts),.v (.int p),.o (fs.map xb),o3,o4,o5]/\zdJ m ts p (i+1) fs)
    (fun ρ=>∃ (fs:List (Option Int)) (o4 o5:Sl),ρ=[.v (zx m ts),.v (.int p),.o (fs.map xb),.v (.int x),o4,o5]/\zdJ m ts p i fs/\∀ e∈es.take (j+1),∀ k:Nat,k<=i->yQ ts p k e.1->∃ j':Nat,j'<=k+1/\oAt fs e.2=some (j':Int))
    (λd=>d=.lst ((Ya m ts p).map xb)):=λka h1 h2=>by
    obtain⟨hf2,mono⟩:=hf.relax ok hp hadj h1 h2
    rw[h1]at ea
    refine zfr (fs.map xb) (.int (ka+1)) b ?_ rfl rfl b0 (zbP b0 b1 hl) ⟨fs.set b.toNat (some (ka+1)),.v (.int a),.v (.int b),?_,hf2,?_⟩
    .show((((L2.atI (fs.map xb) a).bind λx=>w6 x (.int 1))).bind λd=>if noL d=true then some d else none)=_
     rw[ea]
     rfl
    .rw[u3B];rfl
    .intro e he k hk r
     rw[htake]at he
     rcases u0w.mp he with he | he
     .obtain⟨j',hj',e2⟩:=hE e he k hk r
      have hin:e∈zer ts:=by rw[hes];exact u0l he
      have e20:=((Wl.mp hin).rng ok).2
      obtain⟨k',hk',e3⟩:=mono e.2 _ e20.1 e2
      obtain⟨q,rfl,_⟩:=hf2.sound e.2 k' e20.1 e20.2 e3
      exact⟨q,by omega,e3⟩
     .cases d4.mp he
      obtain⟨j',hj',e2⟩:=hf.full k a hk r
      rw[h1]at e2
      cases e2
      refine⟨j'+1,Nat.succ_le_succ hj',?_⟩
      show oAt _ b=_
      rw[vI b0 (YX b0 b1 hl) b0,j3 rfl]
      rfl
   cases ha:oAt fs a with
   | none =>
    rw[ha]at ea
    refine Vh (c:=false) ?_ (λz=>by cases z) λ_=>Yc rfl ⟨fs,_,_,rfl,hf,stay (.inl ha)⟩
    show((((L2.atI (fs.map xb) a).bind λx=>zL x .non).bind asB).bind _)=_
    rw[ea]
    rfl
   | some ka =>
    rw[ha]at ea
    cases hb:oAt fs b with
    | none =>
     rw[hb]at eb
     refine Vh (c:=true) ?_ (λ_=>go ka ha (.inl hb)) (λz=>by cases z)
     show((((L2.atI (fs.map xb) a).bind λx=>zL x .non).bind asB).bind λc=>if c=true then ((((L2.atI (fs.map xb) b).bind λx=>XG x .non).bind asB).bind λc=>if c=true then some true else _)else some false)=_
     rw[ea,eb]
     rfl
    | some kb =>
     rw[hb]at eb
     refine Vh (c:=decide (ka+1 < kb)) ?_ (λz=>go ka ha (.inr ⟨kb,hb,s0 z⟩)) (λz=>Yc rfl ⟨fs,_,_,rfl,hf,stay (.inr ⟨ka,kb,ha,hb,Int.not_lt.mp (u1H z)⟩)⟩)
     show((((L2.atI (fs.map xb) a).bind λx=>zL x .non).bind asB).bind λc=>if c=true then ((((L2.atI (fs.map xb) b).bind λx=>XG x .non).bind asB).bind λc=>if c=true then some true else (((L2.atI (fs.map xb) b).bind λx=>((L2.atI (fs.map xb) a).bind λy=>w6 y (.int 1)).bind λy=>gtD x y).bind asB))else some false)=_
     rw[ea,eb]
     rfl
  .rintro ρ ⟨fs,o4,o5,rfl,hf,hE⟩
   rw[u5,u1B]at hE
   refine⟨fs,_,_,_,rfl,hf.len,hf.sound,λj v hj r=>?_⟩
   cases j with
   | zero=>exact hf.full 0 v (u0D _) r
   | succ j =>
    obtain⟨a,ra,had⟩:=r.inv
    exact hE (a,v) (by rw[<-hes];exact Wl.mpr had) j (Nat.le_of_lt_succ (Nat.lt_of_succ_le hj)) ra
 .rintro ρ ⟨fs,o3,o4,o5,rfl,hf⟩
  rw[hf.end ok hp (q5 _)]
  exact zed (ρ':=[.v (zx m ts),.v (.int p),.v (.lst ((Ya m ts p).map xb)),o3,o4,o5]) rfl (XD rfl rfl)
theorem zbt (T:Txt K mg base ad):yW P w K mg base CX0 1 ad.f__law_fars ad.e__law_fars ["web","place"] (@spD ⟨K⟩ 2 Zf):=by
 letI:KK:=⟨K⟩
 refine xw (N:=["web","place","found","turn","a","b"]) (ps:=["web","place"]) T.d__law_fars.fn xN (g:=vx) λcdv A outer s H E hr=>?_
 unfold vx vO vF
 exact(ze (vh (i:=2) xN.nd rfl (Or.inl rfl) (zej (yX (xm (za (XA XL) zd))) (zB (edv 0) (zi zj) (λ_ _=>rfl))))
  (ze (zaQ (m:=false) (zi zj) (pv 2) (edv 1))
  (ze (xD p7 rfl rfl T.z_range (za (zB (edv 0) (zi zj) (λ_ _=>rfl)) zd) (zM (zt (i:=3) xN.nd rfl (Or.inl rfl))) (zg (Y8 p7 rfl (xM (xo (zB (edv 0) (zi zj) (λ_ _=>rfl)) (w8 yL vn rfl T.z_tuple xu (za (yX (XC (L:=["a","b"]) (M:=["web","place","found","turn","·a","·b"]) rfl (wL (by rfl) (by rfl) (by rfl) (by with_unfolding_all rfl) (by rfl) (by rfl) (by kernel_rfl) yC) (xM (zB (edv 0) (zi zj) (λ_ _=>rfl))) gs2 rb2 (λ_ _ _ _=>(zc8 rfl (vL (zt (i:=0) zj2 rfl (Or.inl rfl) (.inr rfl)) (vL (zt (i:=1) zj2 rfl (Or.inl rfl) (.inr rfl)) zah)))) (λ_ _ _ _=>(x3 (za (edv 1) (za (edv 0) zd)))))) zd)))) (zcV rfl (wE (zM (zt (i:=4) xN.nd rfl (Or.inl rfl))) (wE (zM (zt (i:=5) xN.nd rfl (Or.inl rfl))) zap))) (zg (x5 (zik (zh5 (ya zaW VF (zJ _) (zB (edv 2) (edv 4) (λ_ _=>rfl)) (XA XL)) (ze8 (zik (zdN (ya zdv zat (zJ _) (zB (edv 2) (edv 5) (λ_ _=>rfl)) (XA XL)) (VG (ya zbr xi (zJ _) (zB (edv 2) (edv 5) (λ_ _=>rfl)) (xo (zB (edv 2) (edv 4) (λ_ _=>rfl)) (zi zj))))))))) (zg (zaQ (m:=true) (xo (zB (edv 2) (edv 4) (λ_ _=>rfl)) (zi zj)) (pv 2) (edv 5))) zO)))))
  (YG 2 (zg (zE (edv 2)))))))
def xH:SE->Ctl :=
 (zS (sIf (tOf (zm ltD (zc 1) (eFn Zb (zb (zc 0) zr)))) (yU (zm ixD (zc 0) (zc 1))) yk)
  (yU (eC (.int 0))))
def y3:List D->Option D:=fnD 2 xH
theorem zd7 (ns:List Int):∃ c:Int,y3 [.scr ns,.int 0]=some (.int c):=by
 cases ns with
 | nil=>exact⟨0,rfl⟩
 | cons n ns =>
  refine⟨n,?_⟩
  have e:atI (n::ns) 0=some n:=ZG (u2l _) rfl
  simp[y3,xH,fnD,zS,yU,Y0,sIf,xL,X0,sNo,yk,zbZ,vY,ZY,zbY,Xm,vEv,visF,visG,Sl.f,Sl.g,zc,eC,zm,Xe,eOr,zaD,eIf,eUn,ZC,wQ,yT,yc,zb,zr,zz,eFn,fFn,tOf,vG,XU,xr,asB,asI,zV,Z9,Y6,xU,v7,Vb,wR,ltD,leD,gtD,geD,Vr,zW,yS,ye,yD,XG,zL,ixD,Zb,yR,isT,eSl,wP,xI,xv,y6,iOf,ZB,yO,W5,wB,W2,yY,v8,fLC,yM,yb,vM,yd,W4,xT,Vj,b1,b2,e]
theorem We (T:Txt K mg base ad):yW P w K mg base CX0 1 ad.f__law_cell_at ad.e__law_cell_at ["script","k"] (@spD ⟨K⟩ 2 y3):=by
 letI:KK:=⟨K⟩
 refine xw (N:=["script","k"]) (ps:=["script","k"]) T.d__law_cell_at.fn WF (g:=xH) λcdv A outer s H E hr=>?_
 unfold xH
 exact(ze (x5 (ya zmp xi (zJ _) (edv 1) (zU zI wk rfl T.z_len Ys (za (edv 0) zd))) (zg (zE (zB (edv 0) (edv 1) (λ_ _=>rfl)))) zO)
  (zg (zE (zi zj))))
theorem zgJ {ρ:Ev}(ns:List Int)(k:Int)(h:ns.length<=63):∃ xs:List Int,(iOf (zm w6 (yT (yc (zb (zz 2 y3 (zb (zc 0) (zb (eC (.int 0)) zr))) zr))) (eSl slD (zc 0) (xI (eC (.int 1))) (xI (eC (.int k)))))) (some (.scr ns)::ρ)=some (xs.map .int):=by
 obtain⟨c,hc⟩:=zd7 ns
 refine⟨c::W3 ns (some 1) (some k),?_⟩
 have e:=zaf (a:=[.int c]) (b:=(W3 ns (some 1) (some k)).map .int) (by have:=zgR ns (some 1) (some k);simp;omega)
 simp[iOf,zm,yT,yc,zb,zr,zz,zc,eC,hc,xg,eSl,xI,asI,slD,e,y6]
theorem Yv {m:Int}{ts:List Tie}{a:Int}{k:Nat}(ok:zH m ts):k∈nbN m ts a↔adj ts a (k:Int):=by
 unfold nbN
 rw[u0k,d5,i8]
 unfold zb0 adj
 constructor
 .rintro⟨_,h⟩
  by_cases c:(k:Int) < a
  .rw[j3 c,j8 (by omega)]at h;exact .inr h
  .rw[j8 c]at h
   by_cases c2:(k:Int) > a
   .rw[j3 c2]at h;exact .inl h
   .rw[j8 c2]at h
    have:a=(k:Int):=by omega
    rw[<-this]
    exact .inl h
 .rintro(h | h)
  .have:=ok.rng _ h
   simp only at this
   rw[j8 (by omega),j3 (by omega)]
   exact⟨by omega,h⟩
  .have:=ok.rng _ h
   simp only at this
   rw[j3 (by omega),j8 (by omega)]
   exact⟨by omega,h⟩
structure Wd (m:Int) (ts:List Tie) (p:Int) (L:Nat) (fs:List (Option Int)) (rim:List Int):Prop where
 len:fs.length=m.toNat
 sound:∀ v k,0<=v->v < m->oAt fs v=some k->∃ j:Nat,k=(j:Int)/\j<=L/\Far ts p v j
 full:∀ v (j:Nat),j<=L->Far ts p v j->oAt fs v=some (j:Int)
 rim:∀ v,v∈rim↔Far ts p v L
structure Vk (m:Int) (ts:List Tie) (p:Int) (L:Nat) (fs:List (Option Int)) (fu:List Int) (S:Int->Prop):Prop where
 len:fs.length=m.toNat
 sound:∀ v k,0<=v->v < m->oAt fs v=some k->(∃ j:Nat,k=(j:Int)/\j<=L/\Far ts p v j)\/v∈fu
 full:∀ v (j:Nat),j<=L->Far ts p v j->oAt fs v=some (j:Int)
 fur:∀ v∈fu,Far ts p v (L+1)/\oAt fs v=some ((L+1:Nat):Int)
 done:∀ v,S v->oAt fs v≠none
theorem Wd.mid {m:Int}{ts:List Tie}{p:Int}{L:Nat}{fs:List (Option Int)}{rim:List Int}(h:Wd m ts p L fs rim){S:Int->Prop}(hS:∀ v,¬ S v):Vk m ts p L fs [] S :=
 ⟨h.len,λv k v0 v1 e=>.inl (h.sound v k v0 v1 e),h.full,λv hv=>(by cases hv),λv hv=>absurd hv (hS v)⟩
theorem Vk.imp {m:Int}{ts:List Tie}{p:Int}{L:Nat}{fs:List (Option Int)}{fu:List Int}{S S':Int->Prop}(h:Vk m ts p L fs fu S)(hS:∀ v,S' v->S v\/oAt fs v≠none):Vk m ts p L fs fu S' :=
 ⟨h.len,h.sound,h.full,h.fur,λv hv=>(hS v hv).elim (h.done v) id⟩
theorem Vk.add {m:Int}{ts:List Tie}{p:Int}{L:Nat}{fs:List (Option Int)}{fu:List Int}{S:Int->Prop}{a b:Int}(ok:zH m ts)(h:Vk m ts p L fs fu S)(ha:Far ts p a L)(hab:adj ts a b)(hn:oAt fs b=none){x:Int}(hx:x=((L+1:Nat):Int)) :
 Vk m ts p L (fs.set b.toNat (some x)) (fu++[b]) (λv=>S v\/v=b):=by
 subst hx
 obtain⟨_,b0,b1⟩:=hab.rng ok
 have hl:=h.len
 have hb:=YX b0 b1 hl
 have hf:Far ts p b (L+1):=⟨.step ha.1 hab,λi r=>by
  obtain⟨j,hj⟩:=zid r
  by_cases c:j<=L
  .rw[h.full b j c hj]at hn;cases hn
  .have:=hj.2 _ r;omega⟩
 have at':∀ v,0<=v->oAt (fs.set b.toNat (some ((L+1:Nat):Int))) v=if v=b then some ((L+1:Nat):Int)else oAt fs v:=λv v0=>vI b0 hb v0
 have sm:∀ v,oAt fs v≠none->oAt (fs.set b.toNat (some ((L+1:Nat):Int))) v≠none:=λv hv=>by
  by_cases v0:0<=v
  .rw[at' v v0]
   split
   .intro z;cases z
   .exact hv
  .unfold oAt at hv ⊢
   rw[u0W]
   split
   .split
    .intro z;cases z
    .rename_i c1 c2
     omega
   .exact hv
 refine⟨by rw[u2B];exact hl,λv k v0 v1 e=>?_,λv j hj hv=>?_,λv hv=>?_,λv hv=>?_⟩
 .rw[at' v v0]at e
  by_cases c:v=b
  .exact .inr (by rw[c];simp)
  .rw[j8 c]at e
   exact(h.sound v k v0 v1 e).imp id λz=>u0w.mpr (.inl z)
 .have e:=h.full v j hj hv
  have:v≠b:=λz=>by rw[z,hn]at e;cases e
  by_cases v0:0<=v
  .rw[at' v v0,j8 this];exact e
  .unfold oAt at e ⊢
   rw[u0W]
   split
   .rename_i c
    have vz:v.toNat=0:=by omega
    rw[vz]at c e
    unfold oAt at hn
    rw[c]at hn
    rw[hn]at e
    cases e
   .exact e
 .rcases u0w.mp hv with hv | hv
  .obtain⟨h1,h2⟩:=h.fur v hv
   refine⟨h1,?_⟩
   have v0:0<=v:=by
    obtain⟨a',_,had⟩:=h1.1.inv
    exact(had.rng ok).2.1
   rw[at' v v0]
   split
   .rfl
   .exact h2
  .cases d4.mp hv
   exact⟨hf,by rw[at' _ b0,j3 rfl]⟩
 .rcases hv with hv | rfl
  .exact sm v (h.done v hv)
  .rw[at' _ b0,j3 rfl]
   intro z;cases z
theorem Vk.end {m:Int}{ts:List Tie}{p:Int}{L:Nat}{fs:List (Option Int)}{fu:List Int}{S:Int->Prop}(ok:zH m ts)(h:Vk m ts p L fs fu S)(hS:∀ a b,Far ts p a L->adj ts a b->S b):Wd m ts p (L+1) fs fu:=by
 have key:∀ v,Far ts p v (L+1)->v∈fu:=λv hv=>by
  obtain⟨a,ra,had⟩:=hv.1.inv
  have hfa:Far ts p a L:=⟨ra,λi r=>by have:=hv.2 _ (.step r had);omega⟩
  have hr:=(had.rng ok).2
  have hne:=h.done v (hS a v hfa had)
  cases e:oAt fs v with
  | none=>exact absurd e hne
  | some k =>
   rcases h.sound v k hr.1 hr.2 e with ⟨j,_,hj,hf⟩ | hm
   .have:=hf.uniq hv;omega
   .exact hm
 refine⟨h.len,λv k v0 v1 e=>?_,λv j hj hv=>?_,λv=>⟨λhv=>(h.fur v hv).1,key v⟩⟩
 .rcases h.sound v k v0 v1 e with ⟨j,e1,hj,hf⟩ | hm
  .exact⟨j,e1,by omega,hf⟩
  .obtain⟨hf,e2⟩:=h.fur v hm
   rw[e]at e2
   cases e2
   exact⟨L+1,rfl,q5 _,hf⟩
 .by_cases c:j<=L
  .exact h.full v j c hv
  .obtain rfl:j=L+1:=by omega
   exact(h.fur v (key v hv)).2
theorem VE {ts:List Tie}{p:Int}(L:Nat):∀ (k:Nat) (v:Int),Far ts p v k->L<=k->∃ u,Far ts p u L:=by
 intro k
 induction k with
 | zero=>intro v hv hk;exact⟨v,by rwa[show L=0 by omega]⟩
 | succ k ih =>
  intro v hv hk
  by_cases c:L=k+1
  .exact⟨v,by rwa[c]⟩
  .obtain⟨a,ra,had⟩:=hv.1.inv
   exact ih a ⟨ra,λi r=>by have:=hv.2 _ (.step r had);omega⟩ (by omega)
theorem Wd.end {m:Int}{ts:List Tie}{p:Int}{L:Nat}{fs:List (Option Int)}(h:Wd m ts p L fs []):fs=Ya m ts p:=by
 refine zfb (by rw[h.len,Zk]) λv v0 v1=>?_
 have hv:v < m:=by have:=h.len;omega
 rw[V3 v0 hv]
 rcases vm ts p v with ⟨k,e,hk⟩ | ⟨e,hk⟩
 .rw[e]
  by_cases c:k<=L
  .exact h.full v k c hk
  .obtain⟨u,hu⟩:=VE L k v hk (by omega)
   have:=(h.rim u).mpr hu
   cases this
 .rw[e]
  cases e2:oAt fs v with
  | none=>rfl
  | some k =>
   obtain⟨j,_,_,hf⟩:=h.sound v k v0 hv e2
   exact absurd hf.1 (hk j)
theorem Wd.start {m:Int}{ts:List Tie}{p:Int}(hp:0<=p/\p < m):Wd m ts p 0 ((List.replicate m.toNat none).set p.toNat (some 0)) [p]:=by
 have hl:p < ((List.replicate m.toNat (none:Option Int)).length:Int):=by rw[u0S];omega
 have nn:∀ v,oAt (List.replicate m.toNat (none:Option Int)) v=none:=λv=>by
  unfold oAt
  rw[u1e]
  split <;> rfl
 have f0:∀ v,Far ts p v 0->v=p:=λv h=>by
  have:=h.1
  cases this
  rfl
 have fp:Far ts p p 0:=⟨.zero,λ_ _=>u0D _⟩
 refine⟨by simp,λv k v0 v1 e=>?_,λv j hj hv=>?_,λv=>⟨λh=>?_,λh=>?_⟩⟩
 .rw[vI hp.1 hl v0,nn]at e
  by_cases c:v=p
  .rw[j3 c]at e;cases e
   exact⟨0,rfl,q5 _,by rw[c];exact fp⟩
  .rw[j8 c]at e;cases e
 .obtain rfl:j=0:=by omega
  cases f0 v hv
  rw[vI hp.1 hl hp.1,j3 rfl]
  rfl
 .cases d4.mp h
  exact fp
 .rw[f0 v h]
  exact d4.mpr rfl
def zaG (fs:List (Option Int)):Nat:=fs.countP Option.isNone
theorem zcO:∀ {fs:List (Option Int)} {k:Nat} {x:Int},k < fs.length->fs[k]?=some none->zaG (fs.set k (some x))+1=zaG fs
 | [],k,x,h,_=>by simp at h
 | f::fs,0,x,_,h=>by
  have h:some f=some none:=h
  cases h
  simp[zaG]
 | f::fs,k+1,x,h,h2=>by
  have ih:=zcO (fs:=fs) (k:=k) (x:=x) (by simpa using h) (by simpa using h2)
  unfold zaG at ih ⊢
  rw[List.set_cons_succ,u24,u24]
  omega
def zlY:D->Bool
 | .non=>true
 | _=>false
theorem zg8 (fs:List (Option Int)):(fs.map xb).countP zlY=zaG fs:=by
 unfold zaG
 rw[List.countP_map]
 congr 1
 funext o
 cases o <;> rfl
def wd:SE->Ctl :=
 (sIf (tOf (zm XG (zm ixD (zc 2) (zc 6)) (eC .non))) (zS (Xm true 2 (zc 6) (zm w6 (zm ixD (zc 2) (zc 5)) (eC (.int 1))))
  (ZY false 4 (zc 6))) yk)
def x8:SE->Ctl :=
 (ZB (iOf (zz 2 zQ (zb (zc 0) (zb (zc 5) zr)))) (yd 6) wd)
def wf:SE->Ctl :=
 (zS (vY 4 (yc zr))
  (zS (ZB (iOf (zc 3)) (yd 5) x8)
  (sFz 4 (xL false 3 (zc 4)))))
def vR:SE->Ctl :=
 (zS (vY 2 (zkB zgC (yT (yc (zb (eC .non) zr))) (zm ixD (zc 0) (eC (.int 0)))))
  (zS (Xm false 2 (zc 1) (eC (.int 0)))
  (zS (xL false 3 (yT (yc (zb (zc 1) zr))))
  (zS (Yd (tOf (zm gtD (eFn Zb (zb (zc 3) zr)) (eC (.int 0)))) wf 1000)
  (sFz 2 (yU (zc 2)))))))
def ww:List D->Option D:=fnD 7 vR
def muA:SE->Nat
 | [_,_,.o ds,.v (.lst rs),_,_,_]=>2*ds.countP zlY+(if rs.isEmpty=true then 0 else 1)
 | _=>0
theorem zeE (a b o4 o5 o6:Sl)(fs:List (Option Int))(rs:List D):muA [a,b,.o (fs.map xb),.v (.lst rs),o4,o5,o6]=2*zaG fs+(if rs.isEmpty=true then 0 else 1):=by
 show 2*(fs.map xb).countP zlY+_=_
 rw[zg8]
theorem zmB {W rm:D}{p a x L:Int}{gs:List (Option Int)}{fu:List Int}{N B C:SE->Prop}{R:D->Prop}(hx0:0<=x)(hx:x < ((gs.map xb).length:Int))(ex:L2.atI (gs.map xb) x=some (xb (oAt gs x)))(ea:L2.atI (gs.map xb) a=some (.int L))(hfu:(fu.map D.int).length<=1000)
 (q1:oAt gs x=none->N [.v W,.v (.int p),.o ((gs.set x.toNat (some (L+1))).map xb),.v rm,.o ((fu++[x]).map .int),.v (.int a),.v (.int x)])
 (q2:oAt gs x≠none->N [.v W,.v (.int p),.o (gs.map xb),.v rm,.o (fu.map .int),.v (.int a),.v (.int x)]) :
 (wd [.v W,.v (.int p),.o (gs.map xb),.v rm,.o (fu.map .int),.v (.int a),.v (.int x)]).w N B C R:=by
 unfold wd
 cases hn:oAt gs x with
 | none =>
  rw[hn]at ex
  refine Vh (c:=true) (by show(((L2.atI (gs.map xb) x).bind λd=>XG d .non).bind asB)=_;rw[ex];rfl) (λ_=>?_) (λz=>by cases z)
  refine y9 (zfr (gs.map xb) (.int (L+1)) x ?_ rfl rfl hx0 hx ?_)
  .show((((L2.atI (gs.map xb) a).bind λx=>w6 x (.int 1))).bind λd=>if noL d=true then some d else none)=_
   rw[ea]
   rfl
  have q:=q1 hn
  rw[u0M,u3B]at q
  exact Yc (ZI (ds:=fu.map .int) (d:=.int x) rfl rfl hfu) q
 | some kx =>
  rw[hn]at ex
  refine Vh (c:=false) (by show(((L2.atI (gs.map xb) x).bind λd=>XG d .non).bind asB)=_;rw[ex];rfl) (λz=>by cases z) (λ_=>Yc rfl (q2 λz=>?_))
  rw[hn]at z
  cases z
structure W9 (m:Int) (ts:List Tie) (p:Int) (L c:Nat) (S:Int->Prop) (gs:List (Option Int)) (fu:List Int):Prop where
 mid:Vk m ts p L gs fu S
 cnt:fu.length+zaG gs=c
theorem W9.imp {m:Int}{ts:List Tie}{p:Int}{L c:Nat}{S S':Int->Prop}{gs:List (Option Int)}{fu:List Int}(h:W9 m ts p L c S gs fu)(k:∀ v,S' v->S v\/oAt gs v≠none):W9 m ts p L c S' gs fu:=⟨h.mid.imp k,h.cnt⟩
theorem W9.put {m:Int}{ts:List Tie}{p a x:Int}{L c:Nat}{S S':Int->Prop}{gs:List (Option Int)}{fu:List Int}(ok:zH m ts)(h:W9 m ts p L c S gs fu)(hf:Far ts p a L)(ha:adj ts a x)(hx:0<=x/\x < m)(hn:oAt gs x=none)(k:∀ v,S' v->S v\/v=x):W9 m ts p L c S' (gs.set x.toNat (some ((L:Int)+1))) (fu++[x]):=by
 have hl:=h.mid.len
 have hlt:x.toNat < gs.length:=by omega
 have hg:gs[x.toNat]?=some none:=by
  unfold oAt at hn
  rw[u6 hlt]at hn ⊢
  exact u1o some hn
 have:=zcO (fs:=gs) (k:=x.toNat) (x:=(L:Int)+1) hlt hg
 refine⟨(h.mid.add ok hf ha hn rfl).imp λv hv=>.inl ((k v hv).imp id id),?_⟩
 rw[j6,List.length_singleton,<- h.cnt]
 omega
theorem zmv {m:Int}{ts:List Tie}{p a:Int}{rm:D}{L c i:Nat}{rim:List Int}{gs:List (Option Int)}{fu:List Int}{o6:Sl}{N B C:SE->Prop}{R:D->Prop}(ok:zH m ts)(hp:0<=p/\p < m)(hc:c<=1000)(hfa:Far ts p a L)(hai:rim[i]?=some a)
 (h:W9 m ts p L c (λv=>∃ a∈rim.take i,adj ts a v) gs fu)
 (q:∀ gs fu o6,W9 m ts p L c (λv=>∃ a∈rim.take (i+1),adj ts a v) gs fu->N [.v (zx m ts),.v (.int p),.o (gs.map xb),.v rm,.o (fu.map .int),.v (.int a),o6]) :
 (x8 [.v (zx m ts),.v (.int p),.o (gs.map xb),.v rm,.o (fu.map .int),.v (.int a),o6]).w N B C R:=by
 have ha01:=hfa.1.rng ok hp
 unfold x8
 refine WS (ds:=(nbN m ts a).map zy) (λj ρ=>∃ (gs:List (Option Int)) (fu:List Int) (o6:Sl),ρ=[.v (zx m ts),.v (.int p),.o (gs.map xb),.v rm,.o (fu.map .int),.v (.int a),o6]/\W9 m ts p L c (λv=>(∃ a∈rim.take i,adj ts a v)\/∃ k∈(nbN m ts a).take j,v=(k:Int)) gs fu) ?_ ⟨gs,fu,_,rfl,h.imp (λv hv=>.inl (hv.elim id λz=>by obtain⟨k,hk,_⟩:=z;cases hk))⟩ ?_ ?_
 .have e1:zQ [zx m ts,.int a]=some (.lst ((nbN m ts a).map zy)):=by
   show(if vp (zx m ts)=true then some (D.lst ((nbN (ziU (zx m ts)) (zjx (zx m ts)) a).map zy))else none)=_
   rw[j3 ((xB _).mpr ⟨_,_,rfl,ok⟩),WY,Wb]
  show(zQ [zx m ts,.int a]).bind y6=_
  rw[e1]
  rfl
 .rintro j d ρ hd ⟨gs,fu,o6,rfl,hm⟩
  rw[j7]at hd
  obtain⟨k,hk,rfl⟩:=t7.mp hd
  have hadj:adj ts a (k:Int):=(Yv ok).mp (j4 hk)
  have htake2:(nbN m ts a).take (j+1)=(nbN m ts a).take j++[k]:=by rw[u4e,hk];rfl
  have hr2:=(hadj.rng ok).2
  have hl:=hm.mid.len
  have ea:=zcN (fs:=gs) (i:=a) ha01.1 ha01.2 hl
  rw[hm.mid.full a L (q5 _) hfa]at ea
  have step:∀ v,((∃ a∈rim.take i,adj ts a v)\/∃ k∈(nbN m ts a).take (j+1),v=(k:Int))->((∃ a∈rim.take i,adj ts a v)\/∃ k∈(nbN m ts a).take j,v=(k:Int))\/v=(k:Int):=λv hv=>by
   rcases hv with hv | ⟨q,hq,e⟩
   .exact .inl (.inl hv)
   .rw[htake2]at hq
    rcases u0w.mp hq with hq | hq
    .exact .inl (.inr ⟨q,hq,e⟩)
    .cases d4.mp hq
     exact .inr e
  refine⟨[.v (zx m ts),.v (.int p),.o (gs.map xb),.v rm,.o (fu.map .int),.v (.int a),.v (.int (k:Int))],by unfold zy;rw[u1w];rfl,?_⟩
  refine zmB hr2.1 (zbP hr2.1 hr2.2 hl) (zcN hr2.1 hr2.2 hl) ea (by rw[u5];have:=hm.cnt;omega) (λhn=>?_) (λhn=>?_)
  .exact⟨_,_,_,rfl,hm.put ok hfa hadj hr2 hn step⟩
  .exact⟨gs,fu,_,rfl,hm.imp λv hv=>(step v hv).imp id λe=>by rw[e];exact hn⟩
 .rintro ρ ⟨gs,fu,o6,rfl,hm⟩
  rw[u5,u1B]at hm
  refine q gs fu o6 (hm.imp λv hv=>.inl ?_)
  obtain⟨b,hb,had⟩:=hv
  rw[u4e,hai]at hb
  rcases u0w.mp hb with hb | hb
  .exact .inl ⟨b,hb,had⟩
  .cases d4.mp hb
   obtain⟨k,rfl⟩:=Int.eq_ofNat_of_zero_le (had.rng ok).2.1
   exact .inr ⟨k,(Yv ok).mpr had,rfl⟩
theorem zmx {m:Int}{ts:List Tie}{p:Int}{L:Nat}{rim:List Int}{fs:List (Option Int)}{o4 o5 o6:Sl}{N B C:SE->Prop}{R:D->Prop}(ok:zH m ts)(hp:0<=p/\p < m)(hr:Wd m ts p L fs rim)
 (q:∀ gs fu o4 o5 o6,Wd m ts p (L+1) gs fu->fu.length+zaG gs=zaG fs->N [.v (zx m ts),.v (.int p),.o (gs.map xb),.v (.lst (fu.map .int)),o4,o5,o6]) :
 (wf [.v (zx m ts),.v (.int p),.o (fs.map xb),.v (.lst (rim.map .int)),o4,o5,o6]).w N B C R:=by
 have hc:zaG fs<=1000:=u0B u2Y (by rw[hr.len];have:=ok.hi;omega)
 unfold wf
 refine zA (ρ':=[.v (zx m ts),.v (.int p),.o (fs.map xb),.v (.lst (rim.map .int)),.o (([]:List Int).map .int),o5,o6]) rfl ?_
 refine y9 (WS (ds:=rim.map .int) (λi ρ=>∃ (gs:List (Option Int)) (fu:List Int) (o5 o6:Sl),ρ=[.v (zx m ts),.v (.int p),.o (gs.map xb),.v (.lst (rim.map .int)),.o (fu.map .int),o5,o6]/\W9 m ts p L (zaG fs) (λv=>∃ a∈rim.take i,adj ts a v) gs fu) rfl ⟨fs,[],_,_,rfl,hr.mid (λv z=>by obtain⟨a,ha,_⟩:=z;cases ha),u1n _⟩ ?_ ?_)
 .rintro i d ρ hd ⟨gs,fu,o5,o6,rfl,hm⟩
  rw[j7]at hd
  obtain⟨a,ha,rfl⟩:=t7.mp hd
  exact⟨[.v (zx m ts),.v (.int p),.o (gs.map xb),.v (.lst (rim.map .int)),.o (fu.map .int),.v (.int a),o6],rfl,zmv ok hp hc ((hr.rim a).mp (j4 ha)) ha hm λgs fu o6 h=>⟨gs,fu,_,_,rfl,h⟩⟩
 .rintro ρ ⟨gs,fu,o5,o6,rfl,hm⟩
  rw[u5,u1B]at hm
  refine zed (ρ':=[.v (zx m ts),.v (.int p),.o (gs.map xb),.v (.lst (rim.map .int)),.v (.lst (fu.map .int)),o5,o6]) rfl ?_
  exact Yc (ρ':=[.v (zx m ts),.v (.int p),.o (gs.map xb),.v (.lst (fu.map .int)),.v (.lst (fu.map .int)),o5,o6]) rfl (q gs fu _ _ _ (hm.mid.end ok λa b ha hab=>⟨a,(hr.rim a).mpr ha,hab⟩) hm.cnt)
theorem Yb {m:Int}{ts:List Tie}{p:Int}(ok:zH m ts)(hp:0<=p/\p < m):ww [zx m ts,.int p]=some (.lst ((Ya m ts p).map xb)):=by
 have hm1:=ok.lo
 have hm8:=ok.hi
 refine Vm (ρ:=[.v (zx m ts),.v (.int p),.no,.no,.no,.no,.no]) rfl ?_
 unfold vR
 refine zA (ρ':=[.v (zx m ts),.v (.int p),.o ((List.replicate m.toNat none).map xb),.no,.no,.no,.no]) ?_ ?_
 .have e:=zj0 (d:=.non) hm1 hm8
  refine Zg (ds:=(List.replicate m.toNat none).map xb) ?_
  rw[List.map_replicate]
  exact e
 refine y9 (zfr _ (.int 0) p rfl rfl rfl hp.1 (by rw[u5,u0S];omega) ?_)
 rw[show((List.replicate m.toNat (none:Option Int)).map xb).set p.toNat (.int 0)=((List.replicate m.toNat none).set p.toNat (some 0)).map xb by rw[u3B];rfl]
 refine zA (ρ':=[.v (zx m ts),.v (.int p),.o (((List.replicate m.toNat none).set p.toNat (some 0)).map xb),.v (.lst ([p].map .int)),.no,.no,.no]) rfl ?_
 refine y9 (Wo (fun ρ=>∃ (L:Nat) (fs:List (Option Int)) (rim:List Int) (o4 o5 o6:Sl),ρ=[.v (zx m ts),.v (.int p),.o (fs.map xb),.v (.lst (rim.map .int)),o4,o5,o6]/\Wd m ts p L fs rim) muA ?_ 1000 _ ⟨0,_,[p],_,_,_,rfl,Wd.start hp⟩ ?_)
 .rintro ρ ⟨L,fs,rim,o4,o5,o6,rfl,hr⟩
  refine⟨decide ((0:Int) < ((rim.map D.int).length:Int)),rfl,λz=>?_,λz=>?_⟩
  .refine zmx ok hp hr λgs fu o4 o5 o6 h hc=>⟨⟨L+1,gs,fu,_,_,_,rfl,h⟩,?_⟩
   rw[zeE,zeE,<- hc]
   cases rim with
   | nil=>cases z
   | cons _ _ =>
    cases fu with
    | nil=>show 2*zaG gs+0 < 2*(0+zaG gs)+1;omega
    | cons f fu=>show 2*zaG gs+1 < 2*((fu.length+1)+zaG gs)+1;omega
  .cases rim with
   | cons _ _ =>
    have:=u1H z
    rw[u0e,p9]at this
    omega
   | nil =>
    rw[hr.end]
    exact zed (ρ':=[.v (zx m ts),.v (.int p),.v (.lst ((Ya m ts p).map xb)),.v (.lst []),o4,o5,o6]) rfl (XD rfl rfl)
 .rw[zeE]
  have:zaG ((List.replicate m.toNat (none:Option Int)).set p.toNat (some 0))<=_:=u2Y
  rw[u2B,u0S]at this
  show 2*zaG _+1 < 1000
  omega
theorem Yh (T:Txt K mg base ad):yW P w K mg base CX0 3 ad.f_ties_away ad.e_ties_away ["web","start"] (@spD ⟨K⟩ 2 ww):=by
 letI:KK:=⟨K⟩
 have G_neighbours:=ZP (P:=P) (w:=w) (base:=base) T
 refine xw (N:=["web","start","away","rim","further","place","other"]) (ps:=["web","start"]) T.d_ties_away.fn yE (g:=vR) λcdv A outer s H E hr=>?_
 unfold vR wf x8 wd
 exact(ze (vh (i:=2) yE.nd rfl (Or.inl rfl) (zej (yX (xm (za (XA XL) zd))) (zB (edv 0) (zi zj) (λ_ _=>rfl))))
  (ze (zaQ (m:=false) (zi zj) (pv 2) (edv 1))
  (ze (yr (m:=false) (i:=3) yE.nd rfl (Or.inl rfl) (yX (xm (za (edv 1) zd))))
  (ze (zaw 1000 p7 (ya zbr xi (zJ _) (zU zI wk rfl T.z_len Ys (za (edv 3) zd)) (zi zj)) (ze (vh (i:=4) yE.nd rfl (Or.inl rfl) (xm zd))
  (ze (Y8 p7 rfl (xM (edv 3)) (zM (zt (i:=5) yE.nd rfl (Or.inl rfl))) (zg (Y8 p7 rfl (xM (zo G_neighbours hr rfl T.d_neighbours (za (edv 0) (za (edv 5) zd)))) (zM (zt (i:=6) yE.nd rfl (Or.inl rfl))) (zg (x5 (ya zdv zat (zJ _) (zB (edv 2) (edv 6) (λ_ _=>rfl)) (XA XL)) (ze (zaQ (m:=true) (xo (zB (edv 2) (edv 5) (λ_ _=>rfl)) (zi zj)) (pv 2) (edv 6))
  (zg (ZE (m:=false) (pv 4) (edv 6) (λa b=>Vn u0m u0s u0t xh a b)))) zO)))))
  (YG 4 (zg (yr (m:=false) (i:=3) yE.nd rfl (Or.inl rfl) (edv 4)))))))
  (YG 2 (zg (zE (edv 2))))))))
theorem yQ.cat {ts:List Tie}{p a b:Int}{k:Nat}(h:yQ ts p k a):∀ {j:Nat},yQ ts a j b->yQ ts p (k+j) b:=by
 intro j h2
 induction h2 with
 | zero=>exact h
 | step _ had ih=>exact .step ih had
theorem yQ.back {ts:List Tie}{p v:Int}{k:Nat}(h:yQ ts p k v):yQ ts v k p:=by
 induction h with
 | zero=>exact .zero
 | @step k a b _ had ih =>
  have:=(yQ.step (ts:=ts) (p:=b) .zero had.symm).cat ih
  rwa[show 0+1+k=k+1 by omega]at this
def Yg (m:Int)(ts:List Tie):Prop:=∀ p v,0<=p/\p < m->0<=v/\v < m->∃ k,yQ ts p k v
theorem zas {m:Int}{ts:List Tie}{p:Int}(hj:Yg m ts)(hp:0<=p/\p < m):∃ ks:List Int,Ya m ts p=ks.map some/\(ks.length:Int)=m:=by
 refine⟨(Ya m ts p).map λo=>o.getD 0,?_,by rw[u5,Zk];omega⟩
 rw[u0j]
 symm
 have:(Ya m ts p).map (some ∘ λo=>o.getD 0)=(Ya m ts p).map id:=by
  refine u0p λo ho=>?_
  unfold Ya at ho
  obtain⟨v,hv,rfl⟩:=u0A.mp ho
  have hv:=i8.mp hv
  rcases vm ts p (v:Int)with ⟨k,e,_⟩ | ⟨e,hk⟩
  .rw[e];rfl
  .obtain⟨k,r⟩:=hj p v hp ⟨by omega,by omega⟩
   exact absurd r (hk k)
 rw[this,u3m]
theorem X1 (ks:List Int):(ks.map some).map xb=ks.map .int:=by rw[u0j];rfl
def Xh:SE->Ctl :=
 (zS (xL false 3 (zz 2 ww (zb (zc 0) (zb (zc 2) zr))))
  (zS (xL false 4 (eFn yb (zb (yT (fLC (W5 wB (zb (zm ixD (zc 0) (eC (.int 0))) zr)) b1 (tOf (zm zL (zm ixD (zc 4) (zc 0)) (eC .non))) (zc 0))) zr)))
  (sIf (tOf (zm zaH (zm ixD (zc 4) (eC (.int 0))) (zc 2))) (ZY false 1 (zc 4)) yk)))
def X3:SE->Ctl :=
 (zS (X0 (zz 1 zX (zb (zc 0) zr)))
  (zS (vY 1 (yc zr))
  (zS (yO wB (zb (zm ixD (zc 0) (eC (.int 0))) zr) (yd 2) Xh)
  (sFz 1 (yU (zc 1))))))
def VN:List D->Option D:=fnD 5 X3
theorem VT {m:Int}{ts:List Tie}(ok:zH m ts)(hj:Yg m ts):VN [zx m ts]=some (.lst [.tup ((List.range m.toNat).map zy)]):=by
 have hm1:=ok.lo
 have hm8:=ok.hi
 have hw:vp (zx m ts)=true:=(xB _).mpr ⟨_,_,rfl,ok⟩
 have e1:zX [zx m ts]=some .non:=by simp[zX,hw]
 have em:ixD (zx m ts) (.int 0)=some (.int m):=rfl
 obtain⟨n,hn⟩:∃ n:Nat,m.toNat=n+1:=⟨m.toNat - 1,by omega⟩
 refine Vm (ρ:=[.v (zx m ts),.no,.no,.no,.no]) rfl ?_
 unfold X3
 refine zA (ρ':=[.v (zx m ts),.no,.no,.no,.no]) (V9 e1) ?_
 refine zA (ρ':=[.v (zx m ts),.o [],.no,.no,.no]) rfl ?_
 refine y9 (YK (lo:=0) (c:=m.toNat) (λi ρ=>∃ o2 o3 o4,ρ=[.v (zx m ts),.o (if i=0 then []else [.tup ((List.range m.toNat).map zy)]),o2,o3,o4]) ?_ ⟨_,_,_,rfl⟩ ?_ ?_)
 .show wB [.int m]=_
  exact Xl (by omega) (by omega)
 .rintro i ρ hi ⟨o2,o3,o4,rfl⟩
  obtain⟨x,hx⟩:∃ x:Int,(0:Int)+(i:Int)=x:=⟨_,rfl⟩
  rw[hx]
  refine⟨_,rfl,?_⟩
  have hxp:0<=x/\x < m:=by omega
  obtain⟨ks,hks,hkl⟩:=zas hj hxp
  have e2:=Yb ok hxp
  rw[hks,X1]at e2
  unfold Xh
  refine zA (ρ':=[.v (zx m ts),.o (if i=0 then []else [.tup ((List.range m.toNat).map zy)]),.v (.int x),.v (.lst (ks.map .int)),o4]) (wl e2) ?_
  have e3:=λa b=>show fLC (W5 wB (zb (zm ixD (zc 0) (eC (.int 0))) zr)) b1 (tOf (zm zL (zm ixD (zc 4) (zc 0)) (eC .non))) (zc 0) [some (zx m ts),a,some (.int x),some (.lst (ks.map .int)),b]=some ((List.range m.toNat).map zy) by
   unfold fLC
   show((wB [.int m]).bind λds=>if lim ds.length=true then _ else none)=_
   rw[Xl (by omega) (by omega)]
   show(if lim (XX 0 m.toNat).length=true then _ else none)=_
   rw[j3 (xg (by rw[Wm];omega))]
   refine wV zy zy (List.range m.toNat) λk hk=>⟨[some (zy k)],rfl,?_,rfl⟩
   have hk:=i8.mp hk
   have ea:=X4 (ns:=ks) (i:=(0:Int)+(k:Int)) (by omega) (by omega)
   show(((atI (ks.map D.int) (0+(k:Int))).bind λa=>zL a .non).bind asB)=_
   rw[ea]
   rfl
  refine zA (ρ':=[.v (zx m ts),.o (if i=0 then []else [.tup ((List.range m.toNat).map zy)]),.v (.int x),.v (.lst (ks.map .int)),.v (.tup ((List.range m.toNat).map zy))]) (by simp[xL,vEv,visF,Sl.f,eFn,yT,zb,zr,e3,yb]) ?_
  have e4:atI ((List.range m.toNat).map zy) 0=some (.int 0):=by
   rw[hn,List.range_succ_eq_map,u0e]
   exact ZG (u2l _) rfl
  have e5:zaH (.int 0) (.int x)=some (.bl (decide ((0:Int)=x))):=rfl
  refine Vh (c:=decide ((0:Int)=x)) (by simp[tOf,zm,zc,visG,Sl.g,eC,ixD,e4,e5,asB]) (λz=>?_) (λz=>Yc rfl ⟨.v (.int x),.v (.lst (ks.map .int)),.v (.tup ((List.range m.toNat).map zy)),?_⟩)
  .have z:=s0 z
   have hi0:i=0:=by omega
   subst hi0
   refine Yc (ρ':=[.v (zx m ts),.o [.tup ((List.range m.toNat).map zy)],.v (.int x),.v (.lst (ks.map .int)),.v (.tup ((List.range m.toNat).map zy))]) ?_ ⟨_,_,_,rfl⟩
   rw[ZI (ds:=[]) (d:=.tup ((List.range m.toNat).map zy)) rfl rfl (by simp)]
   rfl
  .have z:=u1H z
   have hi0:i≠0:=by omega
   rw[j8 hi0,j8 (by omega:i+1≠0)]
 .rintro ρ ⟨o2,o3,o4,rfl⟩
  rw[j8 (by omega)]
  exact zed (ρ':=[.v (zx m ts),.v (.lst [.tup ((List.range m.toNat).map zy)]),o2,o3,o4]) rfl (XD rfl rfl)
theorem zgz (T:Txt K mg base ad):yW P w K mg base CX0 8 ad.f_pieces ad.e_pieces ["web"] (@spD ⟨K⟩ 1 VN):=by
 letI:KK:=⟨K⟩
 have G_must_be_web:=Y7 (P:=P) (w:=w) (base:=base) T
 have G_ties_away:=Yh (P:=P) (w:=w) (base:=base) T
 refine xw (N:=["web","found","start","away","piece"]) (ps:=["web"]) T.d_pieces.fn YD (g:=X3) λcdv A outer s H E hr=>?_
 unfold X3 Xh
 exact(ze (VP (zo G_must_be_web hr rfl T.d_must_be_web (za (edv 0) zd)))
  (ze (vh (i:=1) YD.nd rfl (Or.inl rfl) (xm zd))
  (ze (xD p7 rfl rfl T.z_range (za (zB (edv 0) (zi zj) (λ_ _=>rfl)) zd) (zM (zt (i:=2) YD.nd rfl (Or.inl rfl))) (ze (yr (m:=false) (i:=3) YD.nd rfl (Or.inr rfl) (zo G_ties_away hr rfl T.d_ties_away (za (edv 0) (za (edv 2) zd))))
  (ze (yr (m:=false) (i:=4) YD.nd rfl (Or.inl rfl) (w8 yL vn rfl T.z_tuple xu (za (yX (za1 (L:=["place"]) (M:=["web","found","start","away","piece"]) rfl (wL (by rfl) (by rfl) (by rfl) (by with_unfolding_all rfl) (by rfl) (by rfl) (by kernel_rfl) (all_cons rfl yC)) (zaL rfl T.z_range (za (zB (edv 0) (zi zj) (λ_ _=>rfl)) zd)) gs1 rb1 (λ_ _ _ _=>(zt (i:=0) zmA rfl (Or.inl rfl) (.inr rfl))) (λ_ _ _ _=>(ya zaW VF (zJ _) (zB (edv 4) (edv 0) (λ_ _=>rfl)) (XA XL))) (λ_ _ _ _=>(edv 0)))) zd)))
  (zg (x5 (ya (Z8 hr) vK (zJ _) (zB (edv 4) (zi zj) (λ_ _=>rfl)) (edv 2)) (zg (ZE (m:=false) (pv 1) (edv 4) (λa b=>Vn u0m u0s u0t xh a b))) zO)))))
  (YG 1 (zg (zE (edv 1)))))))
def vN:SE->Ctl :=
 (yU (zm zaH (eFn Zb (zb (zz 1 VN (zb (zc 0) zr)) zr)) (eC (.int 1))))
def Zj:List D->Option D:=fnD 1 vN
theorem zai {m:Int}{ts:List Tie}(ok:zH m ts)(hj:Yg m ts):Zj [zx m ts]=some (.bl true):=by
 have e1:=VT ok hj
 generalize (List.range m.toNat).map zy=pc at e1
 refine Vm (ρ:=[.v (zx m ts)]) rfl ?_
 unfold vN
 have e2:Zb [.lst [.tup pc]]=some (.int 1):=rfl
 have e3:zaH (.int 1) (.int 1)=some (.bl true):=rfl
 exact XD (d:=.bl true) (by simp[yU,visG,Sl.g,zm,eFn,zz,zb,zr,zc,eC,e1,e2,e3]) rfl
theorem za8 (T:Txt K mg base ad):yW P w K mg base CX0 9 ad.f_is_joined ad.e_is_joined ["web"] (@spD ⟨K⟩ 1 Zj):=by
 letI:KK:=⟨K⟩
 have G_pieces:=zgz (P:=P) (w:=w) (base:=base) T
 refine xw (N:=["web"]) (ps:=["web"]) T.d_is_joined.fn zbs (g:=vN) λcdv A outer s H E hr=>?_
 unfold vN
 exact(zg (zE (XH (Z8 hr) vK (zJ _) (zU zI wk rfl T.z_len Ys (za (zo G_pieces hr rfl T.d_pieces (za (edv 0) zd)) zd)) (zi zj))))
def ZH:SE->Ctl :=
 (yU (Xe (zz 1 Zj (zb (zc 0) zr)) (zm zaH (eFn Zb (zb (zm ixD (zc 0) (eC (.int 1))) zr)) (zm Z9 (zm ixD (zc 0) (eC (.int 0))) (eC (.int 1))))))
def WT:List D->Option D:=fnD 1 ZH
theorem zcc {m:Int}{ts:List Tie}(ok:zH m ts)(hj:Yg m ts)(hl:(ts.length:Int)=m - 1):WT [zx m ts]=some (.bl true):=by
 have e1:=zai ok hj
 have e2:Zb [.tup (ts.map zp)]=some (.int (m - 1)):=by
  show some (D.int ((ts.map zp).length:Int))=_
  rw[u5,hl]
 have em:ixD (zx m ts) (.int 0)=some (.int m):=rfl
 have em1:ixD (zx m ts) (.int 1)=some (.tup (ts.map zp)):=rfl
 have e3:zaH (.int (m - 1)) (.int (m - 1))=some (.bl true):=by
  show some (D.bl (decide (m - 1=m - 1)))=_
  rw[i5 rfl]
 have es:Z9 (.int m) (.int 1)=some (.int (m - 1)):=rfl
 refine Vm (ρ:=[.v (zx m ts)]) rfl ?_
 unfold ZH
 exact XD (d:=.bl true) (by simp[yU,visG,Sl.g,Xe,zm,eFn,zz,zb,zr,zc,eC,e1,e2,em,em1,es,e3,asB]) rfl
theorem zdQ (T:Txt K mg base ad):yW P w K mg base CX0 10 ad.f_is_tree ad.e_is_tree ["web"] (@spD ⟨K⟩ 1 WT):=by
 letI:KK:=⟨K⟩
 have G_is_joined:=za8 (P:=P) (w:=w) (base:=base) T
 refine xw (N:=["web"]) (ps:=["web"]) T.d_is_tree.fn zdW (g:=ZH) λcdv A outer s H E hr=>?_
 unfold ZH
 exact(zg (zE (Y9 (zo G_is_joined hr rfl T.d_is_joined (za (edv 0) zd)) (XJ (XH (Z8 hr) vK (zJ _) (zU zI wk rfl T.z_len Ys (za (zB (edv 0) (zi zj) (λ_ _=>rfl)) zd)) (Wi (zB (edv 0) (zi zj) (λ_ _=>rfl)) (zi zj)))))))
def xF:SE->Ctl :=
 (sIf (xr (tOf (zz 1 WT (zb (zc 0) zr)))) sNo yk)
def wX:List D->Option D:=fnD 1 xF
theorem WX {m:Int}{ts:List Tie}(ok:zH m ts)(hj:Yg m ts)(hl:(ts.length:Int)=m - 1):wX [zx m ts]=some .non:=by
 have e1:=zcc ok hj hl
 refine Vm (ρ:=[.v (zx m ts)]) rfl ?_
 unfold xF
 exact Vh (c:=false) (by simp[xr,tOf,visG,Sl.g,zz,zb,zr,zc,e1,asB]) (λz=>by cases z) (λ_=>Yc rfl rfl)
theorem Wr (T:Txt K mg base ad):yW P w K mg base CX0 11 ad.f_must_be_tree ad.e_must_be_tree ["web"] (@spD ⟨K⟩ 1 wX):=by
 letI:KK:=⟨K⟩
 have G_is_tree:=zdQ (P:=P) (w:=w) (base:=base) T
 refine xw (N:=["web"]) (ps:=["web"]) T.d_must_be_tree.fn Wt (g:=xF) λcdv A outer s H E hr=>?_
 unfold xF
 exact(zg (x5 (ZO (v6 (zo G_is_tree hr rfl T.d_is_tree (za (edv 0) zd)))) (zg zax) zO))
structure wU (i:Nat) (ns:List Int):Prop where
 len:ns.length=i
 nd:ns.Nodup
 mem:∀ x:Int,x∈ns↔0<=x/\x < (i:Int)
def zjO (ns:List Int)(j:Int)(x:Int):List Int:=ns.take j.toNat++x::ns.drop j.toNat
theorem zgs (ns:List Int)(j x:Int):zjS (ns.map .int) j (.int x)=(zjO ns j x).map .int:=by
 unfold zjS zjO
 rw[u0M,u0e,List.map_take,List.map_drop]
theorem zfN (ns:List Int)(j x:Int):(zjO ns j x).Perm (x::ns):=by
 unfold zjO
 have:=List.perm_middle (a:=x) (l₁:=ns.take j.toNat) (l₂:=ns.drop j.toNat)
 rwa[i9]at this
theorem wU.ins {i:Nat}{ns:List Int}(h:wU i ns)(j:Int){x:Int}(hx:x=(i:Int)):wU (i+1) (zjO ns j x):=by
 subst hx
 have p:=zfN ns j (i:Int)
 refine⟨by rw[p.length_eq,p9,h.len],?_,λx=>?_⟩
 .rw[p.nodup_iff,u0d]
  exact⟨λz=>by have:=(h.mem _).mp z;omega,h.nd⟩
 .rw[p.mem_iff,j5,h.mem]
  omega
def WK (ns:List Int)(ts:List Tie):Prop:=∀ (s:Nat) (t:Tie),ts[s]?=some t->∃ j:Nat,j<=s/\t=zb0 (vAt ns ((s+1:Nat):Int)) (vAt ns (j:Int))
theorem YR (a b:Int):zb0 a b=(b,a)/\b < a\/zb0 a b=(a,b)/\a < b\/a=b:=by
 unfold zb0
 by_cases c:b < a
 .left;rw[j3 c,j8 (by omega)];exact⟨rfl,c⟩
 .by_cases c2:b > a
  .right;left;rw[j8 c,j3 c2];exact⟨rfl,c2⟩
  .right;right;omega
theorem VW {ns:List Int}{k:Nat}(h:k < ns.length):vAt ns (k:Int)=ns[k]:=by
 unfold vAt
 rw[show((k:Int)).toNat=k by omega,d9,u6 h]
 rfl
section
variable {n:Nat}{ns:List Int}{ts:List Tie}
theorem YO (h:wU n ns){i j:Nat}(hi:i < n)(hj:j < n)(hij:i≠j):vAt ns (i:Int)≠vAt ns (j:Int):=by
 have hl:=h.len
 rw[VW (by omega),VW (by omega)]
 intro e
 exact hij ((u25 h.nd).mp e)
theorem zbu (h:wU n ns){i:Nat}(hi:i < n):0<=vAt ns (i:Int)/\vAt ns (i:Int) < (n:Int):=by
 have hl:=h.len
 rw[VW (by omega)]
 exact(h.mem _).mp (u1W _)
theorem WK.rng (h:wU n ns)(g:WK ns ts)(hl:ts.length < n):∀ t∈ts,0<=t.1/\t.1 < t.2/\t.2 < (n:Int):=by
 intro t ht
 obtain⟨s,hs⟩:=u18.mp ht
 obtain⟨j,hj,rfl⟩:=g s t hs
 have hsl:s < ts.length:=(u8.mp hs).1
 have ne:=YO h (i:=s+1) (j:=j) (by omega) (by omega) (by omega)
 have r1:=zbu h (i:=s+1) (by omega)
 have r2:=zbu h (i:=j) (by omega)
 rcases YR (vAt ns ((s+1:Nat):Int)) (vAt ns (j:Int))with ⟨e,c⟩ | ⟨e,c⟩ | e
 .rw[e];exact⟨r2.1,c,r1.2⟩
 .rw[e];exact⟨r1.1,c,r2.2⟩
 .exact absurd e ne
theorem WK.nodup (h:wU n ns)(g:WK ns ts)(hl:ts.length < n):ts.Nodup:=by
  rw [u0Y,u0y]
  intro s s' hs hs' hlt e
  obtain ⟨j,hj,e1⟩:=g s ts[s] (u6 hs)
  obtain ⟨j',hj',e2⟩:=g s' ts[s'] (u6 hs')
  rw [e1,e2] at e
  have n1:=YO h (i:=s'+1) (j:=s+1) (by omega) (by omega) (by omega)
  have n2:=YO h (i:=s'+1) (j:=j) (by omega) (by omega) (by omega)
  have n3:=YO h (i:=s+1) (j:=j) (by omega) (by omega) (by omega)
  have n4:=YO h (i:=s'+1) (j:=j') (by omega) (by omega) (by omega)
  generalize vAt ns ((s'+1:Nat):Int)=a' at *
  generalize vAt ns ((s+1:Nat):Int)=a at *
  generalize vAt ns (j:Int)=b at *
  generalize vAt ns (j':Int)=b' at *
  rcases YR a b with ⟨x1,c1⟩ | ⟨x1,c1⟩ | x1 <;> rcases YR a' b' with ⟨x2,c2⟩ | ⟨x2,c2⟩ | x2 <;> first
    | exact n3 x1
    | exact n4 x2
    | (rw [x1,x2] at e
       have f1:=u1o Prod.fst e
       have f2:=u1o Prod.snd e
       simp only at f1 f2
       first | exact n1 f1.symm | exact n1 f2.symm | exact n2 f1.symm | exact n2 f2.symm)
theorem WK.snoc (g:WK ns ts){j:Nat}(hj:j<=ts.length){t:Tie}(ht:t=zb0 (vAt ns ((ts.length+1:Nat):Int)) (vAt ns (j:Int))):WK ns (ts++[t]):=by
 intro s u hs
 by_cases c:s < ts.length
 .rw[u02 c]at hs
  exact g s u hs
 .rw[u0u (by omega)]at hs
  by_cases c2:s=ts.length
  .subst c2
   simp at hs
   exact⟨j,hj,by rw[<-hs,ht]⟩
  .rw[u1a (by simp;omega)]at hs
   cases hs
theorem WK.joined (h:wU n ns)(g:WK ns ts)(hl:ts.length+1=n){us:List Tie}(hp:us.Perm ts):Yg (n:Int) us:=by
 have key:∀ s:Nat,s < n->∃ k,yQ us (vAt ns ((0:Nat):Int)) k (vAt ns (s:Int)):=by
  intro s
  induction s using Nat.strongRecOn with
  | _ s ih =>
   intro hs
   cases s with
   | zero=>exact⟨0,.zero⟩
   | succ s =>
    have hsl:s < ts.length:=by omega
    obtain⟨j,hj,e⟩:=g s ts[s] (u6 hsl)
    obtain⟨k,r⟩:=ih j (by omega) (by omega)
    refine⟨k+1,.step r ?_⟩
    have hm:zb0 (vAt ns ((s+1:Nat):Int)) (vAt ns (j:Int))∈us:=by
     rw[<-e]
     exact hp.mem_iff.mpr (u1W hsl)
    have ne:=YO h (i:=s+1) (j:=j) (by omega) (by omega) (by omega)
    rcases YR (vAt ns ((s+1:Nat):Int)) (vAt ns (j:Int))with ⟨x,c⟩ | ⟨x,c⟩ | x
    .rw[x]at hm;exact .inl hm
    .rw[x]at hm;exact .inr hm
    .exact absurd x ne
 have all:∀ v:Int,0<=v/\v < (n:Int)->∃ k,yQ us (vAt ns ((0:Nat):Int)) k v:=λv hv=>by
  obtain⟨s,hs⟩:=u18.mp ((h.mem v).mpr hv)
  obtain⟨hs1,hs2⟩:=u8.mp hs
  have hlen:=h.len
  obtain⟨k,r⟩:=key s (by omega)
  rw[VW hs1,hs2]at r
  exact⟨k,r⟩
 intro p v hp' hv
 obtain⟨k,r⟩:=all p hp'
 obtain⟨j,r2⟩:=all v hv
 exact⟨_,r.back.cat r2⟩
end
def xV:SE->Ctl :=
 (zS (xL false 7 (zm v7 (zc 6) (zc 4)))
  (zS (xL false 6 (zm xU (zc 6) (zc 4)))
  (zS (sIf (tOf (zm zaH (zm v7 (zm xU (zc 0) (zc 1)) (eC (.int 2))) (eC (.int 1)))) (xL false 7 (eFn zcj (zb (eC (.int 0)) (zb (zm Z9 (zm Z9 (zc 4) (eC (.int 1))) (zm v7 (zz 2 wo (zb (zc 0) (zb (zm w6 (eC (.int 60)) (zc 4)) zr))) (eC (.int 3)))) zr)))) yk)
  (ZY false 5 (wQ (zb (eFn zeN (zb (zm ixD (zc 3) (zc 4)) (zb (zm ixD (zc 3) (zc 7)) zr))) (zb (eFn zcj (zb (zm ixD (zc 3) (zc 4)) (zb (zm ixD (zc 3) (zc 7)) zr))) zr)))))))
def xW:SE->Ctl :=
 (zkq false 3 (zm v7 (zz 2 wo (zb (zc 0) (zb (zm w6 (eC (.int 40)) (zc 4)) zr))) (zm w6 (zc 4) (eC (.int 1)))) (zc 4))
def yZ:SE->Ctl :=
 (zS (xL false 2 (zm w6 (eC (.int 1)) (zm v7 (zc 0) (zc 1))))
  (zS (vY 3 (yc zr))
  (zS (yO wB (zb (zc 2) zr) (yd 4) xW)
  (sFz 3 (zS (vY 5 (yc zr))
  (zS (xL false 6 (zm xU (zc 0) (zc 1)))
  (zS (yO W2 (zb (eC (.int 1)) (zb (zc 2) zr)) (yd 4) xV)
  (sFz 5 (yU (wQ (zb (zc 2) (zb (eFn yb (zb (yT (fFn Xv (zb (zc 5) zr))) zr)) zr))))))))))))
def wT:List D->Option D:=fnD 8 yZ
theorem zdy {c mo:Int}(h1:1<=mo)(h8:mo<=8):∃ ts,wT [.int c,.int mo]=some (zx (1+c % mo) ts)/\zH (1+c % mo) ts/\Yg (1+c % mo) ts/\(ts.length:Int)=1+c % mo - 1:=by
 obtain⟨g1,g2⟩:=ZS (a:=c) (zh1 h1) rfl
 obtain⟨n,hn⟩:∃ n:Nat,1+c % mo=((n+1:Nat):Int):=⟨(c % mo).toNat,by omega⟩
 obtain⟨m,hm⟩:∃ m:Int,1+c % mo=m:=⟨_,rfl⟩
 obtain⟨lf,hlf⟩:∃ lf:Int,c / mo=lf:=⟨_,rfl⟩
 rw[hm]
 rw[hm]at hn
 have hmp:=zh1 h1
 have hn7:n<=7:=by omega
 have hmB:mo < 1606938044258990275541962092341162602522202993782792835301376:=by omega
 clear g1 g2 h8
 have key:=zk0 (m:=8) (g:=yZ) (ds:=[.int c,.int mo]) (R:=λd=>∃ (ns:List Int) (ts:List Tie),d=zx m (Zy ts)/\wU (n+1) ns/\WK ns ts/\ts.length=n) (ρ:=[.v (.int c),.v (.int mo),.no,.no,.no,.no,.no,.no]) rfl ?_
 .obtain⟨d,e,ns,ts,rfl,hnm,hg,hl⟩:=key
  have hp:=Vs ts
  refine⟨_,e,⟨by omega,by omega,λt ht=>?_,zbI (hg.nodup hnm (by omega))⟩,?_,by rw[hp.length_eq];omega⟩
  .have:=hg.rng hnm (by omega) t (hp.mem_iff.mp ht)
   rw[hn]
   exact this
  .rw[hn]
   exact hg.joined hnm (by omega) hp
 unfold yZ
 have es:∀ k:Int,wo [.int c,.int k]=some (.int (zhQ c k)):=λk=>rfl
 have e0:v7 (.int c) (.int mo)=some (.int (c % mo)):=vw hmp
 have e1:xU (.int c) (.int mo)=some (.int lf):=by rw[zay hmp hmB,hlf]
 refine zA (ρ':=[.v (.int c),.v (.int mo),.v (.int m),.no,.no,.no,.no,.no]) (by simp[xL,vEv,visF,Sl.f,zm,zc,eC,e0,zV,hm]) ?_
 refine zA (ρ':=[.v (.int c),.v (.int mo),.v (.int m),.o (([]:List Int).map .int),.no,.no,.no,.no]) rfl ?_
 refine y9 (YK (lo:=0) (c:=n+1) (λi ρ=>∃ (ns:List Int) (o4:Sl),ρ=[.v (.int c),.v (.int mo),.v (.int m),.o (ns.map .int),o4,.no,.no,.no]/\wU i ns) ?_ ⟨[],_,rfl,rfl,u1J,λx=>by simp <;> omega⟩ ?_ ?_)
 .show wB [.int m]=_
  exact zkr hn hn7
 .rintro i ρ hi ⟨ns,o4,rfl,hnm⟩
  obtain⟨x,hx⟩:∃ x:Int,(0:Int)+(i:Int)=x:=⟨_,rfl⟩
  rw[hx]
  refine⟨_,rfl,?_⟩
  unfold xW
  obtain⟨j,hj⟩:∃ j:Int,zhQ c (40+x) % (x+1)=j:=⟨_,rfl⟩
  have x1:0 < x+1:=by omega
  obtain⟨j0,j1⟩:=ZS x1 hj
  have m1:v7 (.int (zhQ c (40+x))) (.int (x+1))=some (.int j):=by rw[vw x1,hj]
  have a1:w6 (.int 40) (.int x)=some (.int (40+x)):=rfl
  have a2:w6 (.int x) (.int 1)=some (.int (x+1)):=rfl
  have hl:=hnm.len
  refine Yc (ρ':=[.v (.int c),.v (.int mo),.v (.int m),.o ((zjO ns j x).map .int),.v (.int x),.no,.no,.no]) ?_ ⟨_,_,rfl,hnm.ins j (by omega)⟩
  rw[zkT (ds:=ns.map .int) (d:=.int x) (k:=j) ?_ rfl rfl (by rw[u5];omega) j0 (by omega),zgs]
  .rfl
  .have es2:=es (40+x)
   generalize zhQ c (40+x)=sx at *
   simp[vEv,visF,Sl.f,zm,zz,zb,zr,zc,eC,a1,a2,es2,m1]
 .rintro ρ ⟨ns,o4,rfl,hnm⟩
  have hl:=hnm.len
  refine zed (ρ':=[.v (.int c),.v (.int mo),.v (.int m),.v (.lst (ns.map .int)),o4,.no,.no,.no]) rfl ?_
  refine zA (ρ':=[.v (.int c),.v (.int mo),.v (.int m),.v (.lst (ns.map .int)),o4,.o (([]:List Tie).map zp),.no,.no]) rfl ?_
  refine zA (ρ':=[.v (.int c),.v (.int mo),.v (.int m),.v (.lst (ns.map .int)),o4,.o (([]:List Tie).map zp),.v (.int lf),.no]) (wl e1) ?_
  refine y9 (YK (lo:=1) (c:=n) (λi ρ=>∃ (ts:List Tie) (l:Int) (o4 o7:Sl),ρ=[.v (.int c),.v (.int mo),.v (.int m),.v (.lst (ns.map .int)),o4,.o (ts.map zp),.v (.int l),o7]/\WK ns ts/\ts.length=i) ?_ ⟨[],lf,_,_,rfl,λs t h=>by simp at h,rfl⟩ ?_ ?_)
  .show W2 [.int 1,.int m]=_
   exact zkH hn hn7
  .rintro i ρ hi ⟨ts,l,o4,o7,rfl,hg,hi2⟩
   obtain⟨x,hx⟩:∃ x:Int,(1:Int)+(i:Int)=x:=⟨_,rfl⟩
   rw[hx]
   refine⟨[.v (.int c),.v (.int mo),.v (.int m),.v (.lst (ns.map .int)),.v (.int x),.o (ts.map zp),.v (.int l),o7],rfl,?_⟩
   unfold xV
   have xp:0 < x:=by omega
   have m1:v7 (.int l) (.int x)=some (.int (l % x)):=vw xp
   have m2:xU (.int l) (.int x)=some (.int (l / x)):=zay xp (by omega)
   refine zA (ρ':=[.v (.int c),.v (.int mo),.v (.int m),.v (.lst (ns.map .int)),.v (.int x),.o (ts.map zp),.v (.int l),.v (.int (l % x))]) (wl m1) ?_
   refine zA (ρ':=[.v (.int c),.v (.int mo),.v (.int m),.v (.lst (ns.map .int)),.v (.int x),.o (ts.map zp),.v (.int (l / x)),.v (.int (l % x))]) (wl m2) ?_
   refine zmE (fun ρ=>∃ j:Int,ρ=[.v (.int c),.v (.int mo),.v (.int m),.v (.lst (ns.map .int)),.v (.int x),.o (ts.map zp),.v (.int (l / x)),.v (.int j)]/\0<=j/\j < x) ?_ ?_
   .have m3:v7 (.int lf) (.int 2)=some (.int (lf % 2)):=vw (by decide)
    have q1:zaH (.int (lf % 2)) (.int 1)=some (.bl (decide (lf % 2=1))):=rfl
    refine Vh (c:=decide (lf % 2=1)) (by simp[tOf,zm,zc,visG,Sl.g,eC,e1,m3,q1,asB]) (λ_=>?_) (λ_=>Yc rfl ⟨_,rfl,(ZS xp rfl).1,(ZS xp rfl).2⟩)
    obtain⟨r,hr⟩:∃ r:Int,zhQ c (60+x) % 3=r:=⟨_,rfl⟩
    have r0:=(ZS (by decide) hr).1
    have m4:v7 (.int (zhQ c (60+x))) (.int 3)=some (.int r):=by rw[vw (by decide),hr]
    have a1:w6 (.int 60) (.int x)=some (.int (60+x)):=rfl
    have s1:Z9 (.int x) (.int 1)=some (.int (x - 1)):=rfl
    have s2:Z9 (.int (x - 1)) (.int r)=some (.int (x - 1 - r)):=rfl
    have x1:zcj [.int 0,.int (x - 1 - r)]=some (.int (if x - 1 - r > 0 then x - 1 - r else 0)):=rfl
    refine Yc (ρ':=[.v (.int c),.v (.int mo),.v (.int m),.v (.lst (ns.map .int)),.v (.int x),.o (ts.map zp),.v (.int (l / x)),.v (.int (if x - 1 - r > 0 then x - 1 - r else 0))]) ?_ ⟨_,rfl,by split <;> omega,by split <;> omega⟩
    have es2:=es (60+x)
    generalize zhQ c (60+x)=sx at *
    generalize (if x - 1 - r > 0 then x - 1 - r else 0)=mx at *
    simp[xL,vEv,visF,Sl.f,eFn,zm,zz,zb,zr,zc,eC,a1,es2,m4,s1,s2,x1]
   .rintro ρ ⟨j,rfl,j0,j1⟩
    have ex:=X4 (ns:=ns) (i:=x) (by omega) (by omega)
    have ej:=X4 (ns:=ns) (i:=j) (by omega) (by omega)
    have hmin:zeN [.int (vAt ns x),.int (vAt ns j)]=some (.int (zb0 (vAt ns x) (vAt ns j)).1):=rfl
    have hmax:zcj [.int (vAt ns x),.int (vAt ns j)]=some (.int (zb0 (vAt ns x) (vAt ns j)).2):=rfl
    refine Yc (ρ':=[.v (.int c),.v (.int mo),.v (.int m),.v (.lst (ns.map .int)),.v (.int x),.o ((ts++[zb0 (vAt ns x) (vAt ns j)]).map zp),.v (.int (l / x)),.v (.int j)]) ?_ ⟨_,_,_,_,rfl,hg.snoc (j:=j.toNat) (by omega) ?_,by rw[j6,hi2];rfl⟩
    .generalize zb0 (vAt ns x) (vAt ns j)=tt at *
     rw[ZI (ds:=ts.map zp) (d:=zp tt) ?_ rfl (by rw[u5];omega),u0M]
     .rfl
     .simp[vEv,visF,Sl.f,wQ,eFn,zb,zr,zm,zc,ixD,ex,ej,hmin,hmax,xg]
      rfl
    .rw[show((ts.length+1:Nat):Int)=x by omega,show((j.toNat:Nat):Int)=j by omega]
  .rintro ρ ⟨ts,l,o4,o7,rfl,hg,hi2⟩
   have e5:=zd8 (ts:=ts) (by omega)
   refine zed (ρ':=[.v (.int c),.v (.int mo),.v (.int m),.v (.lst (ns.map .int)),o4,.v (.lst (ts.map zp)),.v (.int l),o7]) rfl ?_
   refine XD (d:=zx m (Zy ts)) ?_ ⟨ns,ts,rfl,hnm,hg,hi2⟩
   simp[yU,visG,Sl.g,wQ,eFn,yT,fFn,zb,zr,zc,e5,yb,xg]
   rfl
theorem WA (T:Txt K mg base ad):yW P w K mg base CX0 2 ad.f__law_tree_by ad.e__law_tree_by ["cell","most"] (@spD ⟨K⟩ 2 wT):=by
 letI:KK:=⟨K⟩
 have G__law_stir:=zaM (P:=P) (w:=w) (base:=base) T
 refine xw (N:=["cell","most","many","names","k","ties","left","inner"]) (ps:=["cell","most"]) T.d__law_tree_by.fn zD (g:=yZ) λcdv A outer s H E hr=>?_
 unfold yZ xW xV
 exact(ze (yr (m:=false) (i:=2) zD.nd rfl (Or.inl rfl) (xo (zi zj) (Xa (edv 0) (edv 1))))
  (ze (vh (i:=3) zD.nd rfl (Or.inl rfl) (xm zd))
  (ze (xD p7 rfl rfl T.z_range (za (edv 2) zd) (zM (zt (i:=4) zD.nd rfl (Or.inl rfl))) (zg (zjV (m:=false) (pv 3) (Xa (zo G__law_stir hr rfl T.d__law_stir (za (edv 0) (za (xo (zi zj) (edv 4)) zd))) (xo (edv 4) (zi zj))) (edv 4) (λa b=>Vn u0m PySem.F.slot_list_insert PySem.F.type_list_insert zeD a b))))
  (YG 3 (ze (vh (i:=5) zD.nd rfl (Or.inl rfl) (xm zd))
  (ze (yr (m:=false) (i:=6) zD.nd rfl (Or.inl rfl) (zau (edv 0) (edv 1)))
  (ze (zhH p7 rfl rfl T.z_range (za (zi zj) (za (edv 2) zd)) (zM (zt (i:=4) zD.nd rfl (Or.inl rfl))) (ze (yr (m:=false) (i:=7) zD.nd rfl (Or.inl rfl) (Xa (edv 6) (edv 4)))
  (ze (yr (m:=false) (i:=6) zD.nd rfl (Or.inl rfl) (zau (edv 6) (edv 4)))
  (ze (x5 (ya (Z8 hr) vK (zJ _) (Xa (zau (edv 0) (edv 1)) (zi zj)) (zi zj)) (zg (yr (m:=false) (i:=7) zD.nd rfl (Or.inl rfl) (zU (ZK rfl) Wa rfl T.z_max zbg (za (zi zj) (za (Wi (Wi (edv 4) (zi zj)) (Xa (zo G__law_stir hr rfl T.d__law_stir (za (edv 0) (za (xo (zi zj) (edv 4)) zd))) (zi zj))) zd))))) zO)
  (zg (ZE (m:=false) (pv 5) (x3 (za (zU (Wu rfl) zal rfl T.z_min zeO (za (zB (edv 3) (edv 4) (λ_ _=>rfl)) (za (zB (edv 3) (edv 7) (λ_ _=>rfl)) zd))) (za (zU (ZK rfl) Wa rfl T.z_max zbg (za (zB (edv 3) (edv 4) (λ_ _=>rfl)) (za (zB (edv 3) (edv 7) (λ_ _=>rfl)) zd))) zd))) (λa b=>Vn u0m u0s u0t xh a b)))))))
  (YG 5 (zg (zE (x3 (za (edv 2) (za (w8 yL vn rfl T.z_tuple xu (za (yX (ZJ rfl rfl T.z_sorted (za (edv 5) zd))) zd)) zd)))))))))))))
def yB (m:Int)(ts:List Tie)(ks:List Int)(x:Int):List Nat:=(nbN m ts x).filter λo:Nat=>decide (vAt ks x < vAt ks (o:Int))
theorem WM {m:Int}{ts:List Tie}{x:Int}{o:Nat}(h:o∈nbN m ts x):(o:Int) < m:=by
 unfold nbN at h
 have:=i8.mp (u0k.mp h).1
 omega
theorem zgm {m:Int}{ts:List Tie}{x:Int}(ok:zH m ts):(nbN m ts x).length<=8:=zdF ok
theorem q_nb {m:Int}{ts:List Tie}{x:Int}(ok:zH m ts):zQ [zx m ts,.int x]=some (.lst ((nbN m ts x).map zy)):=by
 simp only[zQ]
 rw[j3 ((xB _).mpr ⟨_,_,rfl,ok⟩),WY,Wb]
def wg (m:Int)(ts:List Tie)(ks:List Int)(i:Nat):List D:=(List.range i).map λx:Nat=>.lst ((yB m ts ks (x:Int)).map zy)
def yP:SE->Ctl :=
 (ZY false 3 (yT (fLC (iOf (zz 2 zQ (zb (zc 0) (zb (zc 4) zr)))) b1 (tOf (zm gtD (zm ixD (zc 3) (zc 0)) (zm ixD (zc 3) (zc 5)))) (zc 0))))
def yw:SE->Ctl :=
 (zS (xL false 2 (zz 2 ww (zb (zc 0) (zb (zc 1) zr))))
  (zS (vY 3 (yc zr))
  (zS (yO wB (zb (zm ixD (zc 0) (eC (.int 0))) zr) (yd 4) yP)
  (sFz 3 (yU (zc 3))))))
def yy:List D->Option D:=fnD 5 yw
theorem zdg {m:Int}{ts:List Tie}{p:Int}{ks:List Int}(ok:zH m ts)(hp:0<=p/\p < m)(hks:Ya m ts p=ks.map some)(hkl:(ks.length:Int)=m):yy [zx m ts,.int p]=some (.lst (wg m ts ks m.toNat)):=by
 have hm1:=ok.lo
 have hm8:=ok.hi
 have em:ixD (zx m ts) (.int 0)=some (.int m):=rfl
 have e2:=Yb ok hp
 rw[hks,X1]at e2
 refine Vm (ρ:=[.v (zx m ts),.v (.int p),.no,.no,.no]) rfl ?_
 unfold yw
 refine zA (ρ':=[.v (zx m ts),.v (.int p),.v (.lst (ks.map .int)),.no,.no]) (wl e2) ?_
 refine zA (ρ':=[.v (zx m ts),.v (.int p),.v (.lst (ks.map .int)),.o [],.no]) rfl ?_
 refine y9 (YK (lo:=0) (c:=m.toNat) (λi ρ=>∃ o4,ρ=[.v (zx m ts),.v (.int p),.v (.lst (ks.map .int)),.o (wg m ts ks i),o4]) ?_ ⟨_,rfl⟩ ?_ ?_)
 .show wB [.int m]=_
  exact vV ok
 .rintro i ρ hi ⟨o4,rfl⟩
  obtain⟨x,hx⟩:∃ x:Int,(0:Int)+(i:Int)=x:=⟨_,rfl⟩
  rw[hx]
  refine⟨[.v (zx m ts),.v (.int p),.v (.lst (ks.map .int)),.o (wg m ts ks i),.v (.int x)],rfl,?_⟩
  unfold yP
  have hxp:=ze6 hi hx
  have ex:=zbd (ns:=ks) (i:=x) hxp hkl
  have e3:fLC (iOf (zz 2 zQ (zb (zc 0) (zb (zc 4) zr)))) b1 (tOf (zm gtD (zm ixD (zc 3) (zc 0)) (zm ixD (zc 3) (zc 5)))) (zc 0) [some (zx m ts),some (.int p),some (.lst (ks.map .int)),none,some (.int x)]=some ((yB m ts ks x).map zy):=by
   unfold fLC
   show((zQ [zx m ts,.int x]).bind y6).bind _=_
   rw[q_nb ok]
   show(if lim ((nbN m ts x).map zy).length=true then _ else none)=_
   rw[j3 (zfx (by rw[u5];exact zgm ok))]
   unfold yB
   refine vd zy (λo:Nat=>decide (vAt ks x < vAt ks (o:Int))) zy (nbN m ts x) λo ho=>⟨[some (zy o)],rfl,?_,λ_=>rfl⟩
   have ho:=WM ho
   have eo:=zbd (ns:=ks) (zcl ho) hkl
   show(((atI (ks.map D.int) (0+(o:Int))).bind λa=>(atI (ks.map D.int) x).bind λb=>gtD a b).bind asB)=_
   rw[eo,ex,u1w]
   rfl
  refine Yc (ρ':=[.v (zx m ts),.v (.int p),.v (.lst (ks.map .int)),.o (wg m ts ks (i+1)),.v (.int x)]) ?_ ⟨_,rfl⟩
  rw[ZI (ds:=wg m ts ks i) (d:=.lst ((yB m ts ks x).map zy)) ?_ rfl (by unfold wg;rw[u5,u0v];omega)]
  .have:wg m ts ks (i+1)=wg m ts ks i++[.lst ((yB m ts ks x).map zy)]:=by
    unfold wg
    rw[u3q,u0M]
    rw[show x=(i:Int) by omega]
    rfl
   rw[this]
   rfl
  .simp only[vEv,visF,yT,u0e,u35,Sl.f,u3A,u4m,e3]
   rfl
 .rintro ρ ⟨o4,rfl⟩
  exact zed (ρ':=[.v (zx m ts),.v (.int p),.v (.lst (ks.map .int)),.v (.lst (wg m ts ks m.toNat)),o4]) rfl (XD rfl rfl)
theorem wu (T:Txt K mg base ad):yW P w K mg base CX0 4 ad.f_outer_neighbours ad.e_outer_neighbours ["web","root"] (@spD ⟨K⟩ 2 yy):=by
 letI:KK:=⟨K⟩
 have G_neighbours:=ZP (P:=P) (w:=w) (base:=base) T
 have G_ties_away:=Yh (P:=P) (w:=w) (base:=base) T
 refine xw (N:=["web","root","away","outer","place"]) (ps:=["web","root"]) T.d_outer_neighbours.fn ym (g:=yw) λcdv A outer s H E hr=>?_
 unfold yw yP
 exact(ze (yr (m:=false) (i:=2) ym.nd rfl (Or.inr rfl) (zo G_ties_away hr rfl T.d_ties_away (za (edv 0) (za (edv 1) zd))))
  (ze (vh (i:=3) ym.nd rfl (Or.inl rfl) (xm zd))
  (ze (xD p7 rfl rfl T.z_range (za (zB (edv 0) (zi zj) (λ_ _=>rfl)) zd) (zM (zt (i:=4) ym.nd rfl (Or.inr rfl))) (zg (ZE (m:=false) (pv 3) (yX (za1 (L:=["other"]) (M:=["web","root","away","outer","place"]) rfl (wL (by rfl) (by rfl) (by rfl) (by with_unfolding_all rfl) (by rfl) (by rfl) (by kernel_rfl) (all_cons rfl (all_cons rfl yC))) (xM (zo G_neighbours hr rfl T.d_neighbours (za (edv 0) (za (edv 4) zd)))) gs1 rb1 (λ_ _ _ _=>(zt (i:=0) zmn rfl (Or.inl rfl) (.inr rfl))) (λ_ _ _ _=>(ya zbr xi (zJ _) (zB (edv 3) (edv 0) (λ_ _=>rfl)) (zB (edv 3) (edv 5) (λ_ _=>rfl)))) (λ_ _ _ _=>(edv 0)))) (λa b=>Vn u0m u0s u0t xh a b))))
  (YG 3 (zg (zE (edv 3)))))))
theorem yF {m:Int}{ts:List Tie}{ks:List Int}{x:Int}{o:Nat}(h:o∈yB m ts ks x):(o:Int) < m:=WM (u0k.mp h).1
theorem wa {m:Int}{ts:List Tie}{ks:List Int}{x:Int}(ok:zH m ts):(yB m ts ks x).length<=8:=by
 unfold yB
 exact u0B (u1E _ _) (zgm ok)
def vT:SE->Ctl :=
 (yU (yT (fFn Xv (zb (yT (fLC (iOf (zm ixD (zc 0) (eC (.int 1)))) b2 (tOf (zm inD (zc 3) (wQ (zb (zc 0) (zb (zc 1) zr))))) (zm Z9 (zm w6 (zc 0) (zc 1)) (zc 3)))) zr))))
def Zt:List D->Option D:=fnD 2 vT
def Vf (ts:List Tie)(x:Int):List Int:=(ts.filter λt=>decide (t.1=x)||decide (t.2=x)).map λt=>t.1+t.2 - x
theorem zdH {ns:List Int}(h:ns.length < 64):Xv [.lst (ns.map .int)]=some ((VS ns).map .int):=by
 show(if (ns.map D.int).length < 64 then _ else none)=_
 rw[j3 (by rw[u5];exact h)]
 cases ns with
 | nil =>
  show some ((Zy []).map prD)=some ((VS []).map D.int)
  unfold Zy VS
  rw[List.mergeSort_nil,List.mergeSort_nil]
  rfl
 | cons n ns =>
  show(match WP (D.int n::ns.map D.int)with | some ts=>some ((Zy ts).map prD) | none=>match V8 (D.int n::ns.map D.int)with | some ns=>some ((VS ns).map D.int) | none=>none)=_
  have e1:WP (D.int n::ns.map D.int)=none:=rfl
  have e2:V8 (D.int n::ns.map D.int)=some (n::ns):=ZN (n::ns)
  rw[e1,e2]
theorem xO {α β:Type}{f:α->β}{l:List α}(h:∀ a∈l,∀ b∈l,f a=f b->a=b)(nd:l.Nodup):(l.map f).Nodup:=by
 rw[u0Y,u0Q]
 exact u3O (λha hb hne e=>hne (h _ ha _ hb e)) nd
theorem zfg {m:Int}{ts:List Tie}{x:Int}(ok:zH m ts):VS (Vf ts x)=(nbN m ts x).map λo:Nat=>(0:Int)+(o:Int):=by
 symm
 refine Vw ?_ ?_
 .have nd1:((nbN m ts x).map λo:Nat=>(0:Int)+(o:Int)).Nodup:=by
   refine xO ?_ ?_
   .intro a _ b _ e;omega
   .unfold nbN
    exact u0V.filter _
  have nd2:(Vf ts x).Nodup:=by
   unfold Vf
   refine xO ?_ ?_
   .intro a ha b hb e
    obtain⟨a1,a2⟩:=u0k.mp ha
    obtain⟨b1,b2⟩:=u0k.mp hb
    have ra:=ok.rng a a1
    have rb:=ok.rng b b1
    rw[u2z,d5,d5]at a2 b2
    exact u2D (by omega) (by omega)
   .exact List.Pairwise.filter _ (ok.srt.imp λh e=>by subst e;unfold ltP at h;omega)
  refine(u3x nd1 nd2).mpr λy=>?_
  unfold Vf
  rw[u0A,u0A]
  constructor
  .rintro⟨o,ho,rfl⟩
   rw[u1w]
   rcases(Yv ok).mp ho with h | h
   .exact⟨_,u0k.mpr ⟨h,by simp⟩,by simp only;omega⟩
   .exact⟨_,u0k.mpr ⟨h,by simp⟩,by simp only;omega⟩
  .rintro⟨t,ht,rfl⟩
   obtain⟨h1,h2⟩:=u0k.mp ht
   have r:=ok.rng t h1
   rw[u2z,d5,d5]at h2
   refine⟨(t.1+t.2 - x).toNat,(Yv ok).mpr ?_,by omega⟩
   rcases h2 with h | h
   .left
    rw[show(((t.1+t.2 - x).toNat:Nat):Int)=t.2 by omega,<- h]
    exact h1
   .right
    rw[show(((t.1+t.2 - x).toNat:Nat):Int)=t.1 by omega,<- h]
    exact h1
 .unfold nbN
  refine List.Pairwise.map _ (R:=λa b:Nat=>a<=b) (λa b h=>by omega) ?_
  exact(List.pairwise_le_range).filter _
theorem ziD {m:Int}{ts:List Tie}{x:Int}(ok:zH m ts)(h28:ts.length<=28):Zt [zx m ts,.int x]=some (.lst ((nbN m ts x).map zy)):=by
 have e1:fLC (iOf (zm ixD (zc 0) (eC (.int 1)))) b2 (tOf (zm inD (zc 3) (wQ (zb (zc 0) (zb (zc 1) zr))))) (zm Z9 (zm w6 (zc 0) (zc 1)) (zc 3)) [some (zx m ts),some (.int x)]=some ((Vf ts x).map .int):=by
  unfold fLC
  show(if lim (ts.map zp).length=true then _ else none)=_
  rw[j3 (xg (by rw[u5];omega))]
  unfold Vf
  rw[u0j]
  refine vd zp (λt=>decide (t.1=x)||decide (t.2=x)) _ ts λt _=>⟨[some (.int t.1),some (.int t.2)],rfl,?_,λ_=>rfl⟩
  show((inD (.int x) (.tup [.int t.1,.int t.2])).bind asB)=_
  have:inD (.int x) (.tup [.int t.1,.int t.2])=some (.bl (decide (t.1=x)||(decide (t.2=x)||false))):=rfl
  rw[this,Bool.or_false]
  rfl
 have hlen:(Vf ts x).length<=28:=by
  unfold Vf
  rw[u5]
  exact u0B (u1E _ _) h28
 have e2:=zdH (ns:=Vf ts x) (by omega)
 rw[zfg ok,u0j]at e2
 refine Vm (ρ:=[.v (zx m ts),.v (.int x)]) rfl ?_
 unfold vT
 refine XD (d:=.lst ((nbN m ts x).map zy)) ?_ rfl
 have e3:Xv [.lst ((Vf ts x).map .int)]=some ((nbN m ts x).map zy):=e2
 simp[yU,visG,Sl.g,yT,fFn,zb,zr,e1,e3]
theorem zbc (T:Txt K mg base ad):yW P w K mg base CX0 1 ad.f__law_near ad.e__law_near ["web","place"] (@spD ⟨K⟩ 2 Zt):=by
 letI:KK:=⟨K⟩
 refine xw (N:=["web","place"]) (ps:=["web","place"]) T.d__law_near.fn zby (g:=vT) λcdv A outer s H E hr=>?_
 unfold vT
 exact(zg (zE (yX (ZJ rfl rfl T.z_sorted (za (yX (za1 (L:=["a","b"]) (M:=["web","place"]) rfl (wL (by rfl) (by rfl) (by rfl) (by with_unfolding_all rfl) (by rfl) (by rfl) (by kernel_rfl) (all_cons rfl yC)) (xM (zB (edv 0) (zi zj) (λ_ _=>rfl))) gs2 rb2 (λ_ _ _ _=>(zc8 rfl (vL (zt (i:=0) zlC rfl (Or.inl rfl) (.inr rfl)) (vL (zt (i:=1) zlC rfl (Or.inl rfl) (.inr rfl)) zah)))) (λ_ _ _ _=>(ya (zio hr) zie (by with_unfolding_all rfl) (edv 3) (x3 (za (edv 0) (za (edv 1) zd))))) (λ_ _ _ _=>(Wi (xo (edv 0) (edv 1)) (edv 3))))) zd)))))
theorem zam {ns:List Int}{i j x:Int}(hi:0<=i)(hl:i < ns.length)(hj:0<=j):vAt (ns.set i.toNat x) j=if j=i then x else vAt ns j:=by
 unfold vAt
 rw[d9,d9,u0W]
 by_cases h:j=i
 .subst h
  rw[j3 rfl,j3 rfl,j3 (by omega)]
  rfl
 .rw[j8 h,j8 (by omega)]
theorem zhO {ns ms:List Int}(hl:ns.length=ms.length)(h:∀ x:Int,0<=x->x < ns.length->vAt ns x=vAt ms x):ns=ms:=by
 refine u3T hl λi h1 h2=>?_
 have:=h (i:Int) (by omega) (by omega)
 unfold vAt at this
 rw[d9,d9,show((i:Int)).toNat=i from rfl,u6 h1,u6 h2]at this
 exact this
def zb1 (m:Int)(ts:List Tie)(ks cs:List Int)(x:Int):List Int:=(yB m ts ks x).map λo:Nat=>vAt cs (o:Int)
def EqA (F:Int->List Int->Int)(m:Int)(ts:List Tie)(ks cs:List Int)(x:Int):Prop:=vAt cs x=F x (zb1 m ts ks cs x)
theorem yi {m:Int}{ts:List Tie}{ks:List Int}{x:Int}{o:Nat}(h:o∈yB m ts ks x):vAt ks x < vAt ks (o:Int):=s0 (u0k.mp h).2
theorem zds {m x v:Int}{ts:List Tie}{ks cs:List Int}{y:Int}(h0:0<=x)(h1:x < cs.length)(h:∀ o∈yB m ts ks y,(o:Int)≠x):zb1 m ts ks (cs.set x.toNat v) y=zb1 m ts ks cs y:=by
 refine u0p λo ho=>?_
 rw[zam h0 h1 (by omega),j8 (h o ho)]
theorem ziK {F:Int->List Int->Int}{m x:Int}{ts:List Tie}{ks cs:List Int}{S:Int->Prop}(hS:∀ y,S y->0<=y/\EqA F m ts ks cs y)(hcl:∀ y,S y->∀ o∈yB m ts ks y,S (o:Int))(hx:¬ S x)(hxo:∀ o∈yB m ts ks x,S (o:Int))(h0:0<=x)(h1:x < cs.length) :
 ∀ y,S y\/y=x->0<=y/\EqA F m ts ks (cs.set x.toNat (F x (zb1 m ts ks cs x))) y:=by
 intro y hy
 have ne:∀ o:Nat,S (o:Int)->(o:Int)≠x:=λo ho z=>hx (z ▸ ho)
 rcases hy with hy | rfl
 .refine⟨(hS y hy).1,?_⟩
  unfold EqA
  rw[zds h0 h1 λo ho=>ne o (hcl y hy o ho),zam h0 h1 (hS y hy).1,j8 (λz=>by rw[z]at hy;exact hx hy)]
  exact(hS y hy).2
 .refine⟨h0,?_⟩
  unfold EqA
  rw[zds h0 h1 λo ho=>ne o (hxo o ho),zam h0 h1 h0,j3 rfl]
def zlg (a:Nat->Int)(x y:Nat):Prop:=a x < a y\/a x=a y/\x < y
theorem zjo {a:Nat->Int}{x y:Nat}(h:zlg a x y):a x<=a y:=h.elim (λh=>Int.le_of_lt h) λh=>Int.le_of_eq h.1
theorem lex2 {a b c d:Int}(h:HT.lexLt [c,d] [a,b]=false):a < c\/a=c/\b<=d:=by
 rw[HT.lexLt_cons]at h
 by_cases h2:c=a
 .rw[j3 h2,HT.lexLt_cons]at h
  by_cases h3:d=b
  .omega
  .rw[j8 h3]at h
   have:=u1H h
   omega
 .rw[j8 h2]at h
  have:=u1H h
  omega
theorem zaR (n:Nat)(a:Nat->Int):∃ L:List Nat,Ye ((List.range n).map λx=>[a x,(x:Int)]) ((List.range n).map λk:Nat=>D.int (k:Int))=L.map (λx:Nat=>D.int (x:Int))/\L.Perm (List.range n)/\L.Pairwise (zlg a):=by
 obtain⟨f,hf⟩:∃ f:Nat->List Int,f=λx=>[a x,(x:Int)]:=⟨_,rfl⟩
 obtain⟨g,hg⟩:∃ g:List Int->Nat,g=λt=>(t.getD 1 0).toNat:=⟨_,rfl⟩
 have hgf:∀ x,g (f x)=x:=λx=>by rw[hg,hf];rfl
 have inj:∀ x y,f x=f y->x=y:=λx y e=>by rw[<-hgf x,e,hgf]
 have p:=xC ((List.range n).map f)
 have r:=vX ((List.range n).map f)
 have nd:((List.range n).map f).Nodup:=by
  rw[u0Y,u0Q]
  exact u0V.imp λh e=>h (inj _ _ e)
 have hM:((yh ((List.range n).map f)).map g).map f=yh ((List.range n).map f):=by
  rw[u0j]
  have:(yh ((List.range n).map f)).map (f ∘ g)=(yh ((List.range n).map f)).map id:=by
   refine u0p λt ht=>?_
   obtain⟨x,_,rfl⟩:=u0A.mp (p.mem_iff.mp ht)
   show f (g (f x))=f x
   rw[hgf]
  rw[this,u3m]
 have pM:((yh ((List.range n).map f)).map g).Perm (List.range n):=by
  have:=p.map g
  rw[u0j]at this
  have e:(List.range n).map (g ∘ f)=List.range n:=by
   have:(List.range n).map (g ∘ f)=(List.range n).map id:=u0p λx _=>hgf x
   rw[this,u3m]
  rwa[e]at this
 have hgoal:∃ L:List Nat,Ye ((List.range n).map f) ((List.range n).map λk:Nat=>D.int (k:Int))=L.map (λx:Nat=>D.int (x:Int))/\L.Perm (List.range n)/\L.Pairwise (zlg a):=by
  refine⟨(yh ((List.range n).map f)).map g,?_,pM,?_⟩
  .unfold Ye
   conv=>lhs;rw[<-hM]
   rw[u0j]
   refine u0p λx hx=>?_
   have hx:=i8.mp (pM.mem_iff.mp hx)
   have hl:x < ((List.range n).map f).length:=by rw[u5,u0v];exact hx
   have e1:((List.range n).map f)[x]=f x:=by rw[u26,List.getElem_range]
   have e2:((List.range n).map f).idxOf (f x)=x:=by
    have:=nd.idxOf_getElem x hl
    rw[e1]at this
    exact this
   show((List.range n).map λk:Nat=>D.int (k:Int)).getD (((List.range n).map f).idxOf (f x)) .non=D.int (x:Int)
   rw[e2,d9,j7,u1i hx]
   rfl
  .have nM:((yh ((List.range n).map f)).map g).Nodup:=pM.nodup_iff.mpr u0V
   rw[<-hM,u0Q]at r
   refine(r.and nM).imp λ{x y} h=>?_
   obtain⟨h1,h2⟩:=h
   rw[hf]at h1
   rcases lex2 h1 with h3 | ⟨h3,h4⟩
   .exact .inl h3
   .exact .inr ⟨h3,by omega⟩
 rw[hf]at hgoal
 exact hgoal
theorem zce {g:Ev->Option D}{ρ:Ev}{a:Nat->Int}:∀ (l:List Nat),(∀ x∈l,g (some (.int (x:Int))::ρ)=some (.tup [.int (a x),.int (x:Int)]))->zcI g ρ (l.map λk:Nat=>D.int (k:Int))=some (l.map λx=>[a x,(x:Int)]):=by
 intro l
 induction l with
 | nil=>intro _;rfl
 | cons x l ih =>
  intro h
  have e:=h x (.head _)
  have r:=ih λy hy=>h y (.tail _ hy)
  show(g (some (.int (x:Int))::ρ)).bind _=_
  rw[e,d7]
  show(V8 [.int (a x),.int (x:Int)]).bind _=_
  rw[show V8 [.int (a x),.int (x:Int)]=some [a x,(x:Int)]from rfl,d7,j8 (by simp),r]
  rfl
theorem zgk {f g:Ev->Option D}{ρ:Ev}{m:Int}{a:Nat->Int}(hf:f ρ=some (.int m))(h0:0<=m)(h1:m<=1000)(hg:∀ x:Nat,(x:Int) < m->g (some (.int (x:Int))::ρ)=some (.tup [.int (a x),.int (x:Int)])) :
 ∃ L:List Nat,zc7 f g ρ=some (L.map λx:Nat=>D.int (x:Int))/\L.Perm (List.range m.toNat)/\L.Pairwise (zlg a):=by
 obtain⟨L,e,p,s⟩:=zaR m.toNat a
 refine⟨L,?_,p,s⟩
 unfold zc7
 rw[hf,d7,show lrD (.int m)=some ((List.range m.toNat).map λk:Nat=>.int (k:Int))from j3 ⟨h0,h1⟩,d7,zce (a:=a) _ λx hx=>hg x (by have:=i8.mp hx;omega),d7,j3,e]
 rw[u0Y,u0Q]
 refine u0V.imp λh e=>h ?_
 have:=(u1T (u1T e).2).1
 omega
def Swp (R:List Nat)(i:Nat)(y:Int):Prop:=∃ k o:Nat,k < i/\R[k]?=some o/\y=(o:Int)
theorem zhJ {R:List Nat}{i x:Nat}(h:R[i]?=some x){y:Int}(hy:Swp R (i+1) y):Swp R i y\/y=(x:Int):=by
 obtain⟨k,o,hk,ho,rfl⟩:=hy
 by_cases c:k=i
 .subst c
  rw[h]at ho
  cases ho
  exact .inr rfl
 .exact .inl ⟨k,o,by omega,ho,rfl⟩
structure zei (m:Int) (ts:List Tie) (ks:List Int) (R:List Nat):Prop where
 perm:R.Perm (List.range m.toNat)
 down:R.Pairwise λx y:Nat=>vAt ks (y:Int)<=vAt ks (x:Int)
theorem zei.mem {m:Int}{ts:List Tie}{ks:List Int}{R:List Nat}(h:zei m ts ks R){x:Nat}:x∈R↔(x:Int) < m:=by rw[h.perm.mem_iff,i8];omega
theorem zei.nodup {m:Int}{ts:List Tie}{ks:List Int}{R:List Nat}(h:zei m ts ks R):R.Nodup:=h.perm.nodup_iff.mpr u0V
theorem zei.out {m:Int}{ts:List Tie}{ks:List Int}{R:List Nat}(h:zei m ts ks R){i x o:Nat}(hx:R[i]?=some x)(ho:o∈yB m ts ks (x:Int)):∃ k,k < i/\R[k]?=some o:=by
 obtain⟨k,hk,e⟩:=u0i (h.mem.mpr (yF ho))
 have far:=yi ho
 refine⟨k,?_,by rw[u6 hk,e]⟩
 obtain⟨hi,ex⟩:=u8.mp hx
 by_cases c:k < i
 .exact c
 .by_cases c2:k=i
  .subst c2
   rw[ex]at e
   subst e
   omega
  .have:=u0y.mp h.down i k hi hk (by omega)
   rw[ex,e]at this
   omega
theorem zei.step {F:Int->List Int->Int}{m:Int}{ts:List Tie}{ks cs:List Int}{R:List Nat}(h:zei m ts ks R){i x:Nat}(hx:R[i]?=some x)(hl:(cs.length:Int)=m)(hS:∀ y,Swp R i y->0<=y/\EqA F m ts ks cs y) :
 ∀ y,Swp R (i+1) y->0<=y/\EqA F m ts ks (cs.set x (F (x:Int) (zb1 m ts ks cs (x:Int)))) y:=by
 intro y hy
 have hxm:(x:Int) < m:=h.mem.mp (j4 hx)
 refine ziK (x:=(x:Int)) (S:=Swp R i) hS ?_ ?_ ?_ (by omega) (by omega) y (zhJ hx hy)
 .rintro y ⟨k,o,hk,ho,rfl⟩ o' ho'
  obtain⟨k',hk',e'⟩:=h.out ho ho'
  exact⟨k',o',by omega,e',rfl⟩
 .rintro⟨k,o,hk,ho,e⟩
  have e:x=o:=by omega
  subst e
  obtain⟨h1,e1⟩:=u8.mp hx
  obtain⟨h2,e2⟩:=u8.mp ho
  have:=(u25 h.nodup).mp (e1.trans e2.symm)
  omega
 .intro o ho
  obtain⟨k',hk',e'⟩:=h.out hx ho
  exact⟨k',o,hk',e',rfl⟩
theorem zei.fin {F:Int->List Int->Int}{m:Int}{ts:List Tie}{ks cs:List Int}{R:List Nat}(h:zei m ts ks R)(hS:∀ y,Swp R R.length y->0<=y/\EqA F m ts ks cs y):∀ x:Int,0<=x->x < m->EqA F m ts ks cs x:=by
 intro x h0 h1
 obtain⟨k,hk,e⟩:=u0i (h.mem.mpr (show((x.toNat:Nat):Int) < m by omega))
 exact(hS x ⟨k,x.toNat,hk,by rw[u6 hk,e],by omega⟩).2
def YT:SE->Ctl :=
 (zS (xL false 2 (zz 2 ww (zb (zc 0) (zb (zc 1) zr))))
  (yU (yT (zc7 (zm ixD (zc 0) (eC (.int 0))) (wQ (zb (zm ixD (zc 3) (zc 0)) (zb (zc 0) zr)))))))
def p_outwards:List D->Option D:=fnD 3 YT
theorem zcq {m:Int}{ts:List Tie}{p:Int}{ks:List Int}(ok:zH m ts)(hp:0<=p/\p < m)(hks:Ya m ts p=ks.map some)(hkl:(ks.length:Int)=m):∃ L:List Nat,p_outwards [zx m ts,.int p]=some (.lst (L.map λx:Nat=>.int (x:Int)))/\zei m ts ks L.reverse:=by
 have hm1:=ok.lo
 have hm8:=ok.hi
 have e2:=Yb ok hp
 rw[hks,X1]at e2
 obtain⟨L,e,pm,sr⟩:=zgk (f:=zm ixD (zc 0) (eC (.int 0))) (g:=wQ (zb (zm ixD (zc 3) (zc 0)) (zb (zc 0) zr))) (ρ:=visG [.v (zx m ts),.v (.int p),.v (.lst (ks.map .int))]) (m:=m) (a:=λx=>vAt ks (x:Int)) rfl (by omega) (by omega) (λx hx=>by
  refine Wn (zK (zT (x:=.lst (ks.map .int)) (y:=.int (x:Int)) rfl rfl (zbd (ns:=ks) ⟨by omega,hx⟩ hkl)) (zK rfl xx)) (by show 2<=1000;decide))
 refine⟨L,?_,(u1z L).trans pm,u19.mpr (sr.imp zjo)⟩
 refine Vm (ρ:=[.v (zx m ts),.v (.int p),.no]) rfl ?_
 unfold YT
 refine zA (ρ':=[.v (zx m ts),.v (.int p),.v (.lst (ks.map .int))]) (vc (ds:=[zx m ts,.int p]) rfl e2) ?_
 exact XD (Zq (wn e)) rfl
theorem zci (T:Txt K mg base ad):yW P w K mg base CX0 5 ad.f_outwards ad.e_outwards ["web","root"] (@spD ⟨K⟩ 2 p_outwards):=by
 letI:KK:=⟨K⟩
 have G_ties_away:=Yh (P:=P) (w:=w) (base:=base) T
 refine zkN (N:=["web","root","away"]) (ps:=["web","root"]) T.lc_outwards T.d_outwards.fn WQ (g:=YT) λA outer s H E hr=>?_
 unfold YT
 exact(ze (yr (m:=false) (i:=2) WQ.nd rfl (Or.inr rfl) (zo G_ties_away hr rfl T.d_ties_away (za (edv 0) (za (edv 1) zd))))
  (zg (zE (yX (zhU (x:="place") (M:=["web","root","away"]) hr rfl T.z_sorted rfl T.z_range (zB (edv 0) (zi zj) (λ_ _=>rfl)) T.la_outwards rfl (zfE (by rfl) (by rfl) (by rfl) (by with_unfolding_all rfl) (by rfl) (by rfl) (by rfl) (by rfl) (by rfl) (by kernel_rfl) (all_cons rfl yC)) rfl (by kernel_rfl) (λ_ _ _ _=>rfl) (λ_ _ _ _ _=>(x3 (za (zB (edv 3) (edv 0) (λ_ _=>rfl)) (za (edv 0) zd)))))))))
theorem zj6 {i:Ev->Option (List D)}{ρ:Ev}{os:List Nat}{cs:List Int}{m:Int}{k:Nat}{d:D}(hi:i ρ=some (os.map zy))(hk:ρ[k]?=some (some d))(hd:∀ j,ixD d (.int j)=atI (cs.map D.int) j)(hl:(cs.length:Int)=m)(ho:∀ o∈os,(o:Int) < m)(h8:os.length<=8):fLC i b1 yM (zm w6 (zm ixD (zc (k+1)) (zc 0)) (eC (.int 1))) ρ=some ((os.map λo:Nat=>vAt cs (o:Int)+1).map .int):=by
 unfold fLC
 rw[hi]
 show(if lim (os.map zy).length=true then _ else none)=_
 rw[j3 (zfx (by rw[u5];exact h8)),u0j]
 refine wV zy _ os λo hm=>⟨[some (zy o)],rfl,rfl,?_⟩
 have:=ho o hm
 have eo:=zbd (ns:=cs) (zcl this) hl
 have e1:zc (k+1) ([some (zy o)]++ρ)=some d:=by
  show((some (zy o)::ρ)[k+1]?).getD none=_
  rw[List.getElem?_cons_succ,hk]
  rfl
 refine zT (x:=.int (vAt cs (o:Int))) (y:=.int 1) (zT (x:=d) (y:=zy o) e1 rfl ?_) rfl rfl
 show ixD d (.int (0+(o:Int)))=_
 rw[hd,eo,u1w]
def Fh (_:Int)(vs:List Int):Int:=if vs.map (·+1)=[]then 0 else maxL (vs.map (·+1))
theorem VL (ns:List Int):zb3 (.lst (ns.map .int)) (.int 0)=some (.int (if ns=[]then 0 else maxL ns)):=by
 show(V8 (ns.map .int)).map _=_
 rw[ZN]
 rfl
theorem zh6 {m:Int}{ts:List Tie}{ks:List Int}{x:Int}(hx:0<=x/\x < m):atI (wg m ts ks m.toNat) x=some (.lst ((yB m ts ks x).map zy)):=by
 refine ZG hx.1 ?_
 unfold wg
 rw[j7,u1i (by omega)]
 show some (D.lst ((yB m ts ks ((x.toNat:Nat):Int)).map zy))=_
 rw[show((x.toNat:Nat):Int)=x by omega]
def xY:SE->Ctl :=
 (Xm true 3 (zc 4) (zm zb3 (yT (fLC (iOf (zm ixD (zc 2) (zc 4))) b1 yM (zm w6 (zm ixD (zc 4) (zc 0)) (eC (.int 1))))) (eC (.int 0))))
def yV:SE->Ctl :=
 (zS (xL false 2 (zz 2 yy (zb (zc 0) (zb (zc 1) zr))))
  (zS (vY 3 (zkB zgC (yT (yc (zb (eC (.int 0)) zr))) (zm ixD (zc 0) (eC (.int 0)))))
  (zS (ZB (zlE (zz 2 p_outwards (zb (zc 0) (zb (zc 1) zr)))) (yd 4) xY)
  (sFz 3 (yU (eFn yb (zb (zc 3) zr)))))))
def xE:List D->Option D:=fnD 5 yV
theorem Yx {m:Int}{ts:List Tie}{p:Int}{ks:List Int}(ok:zH m ts)(hp:0<=p/\p < m)(hks:Ya m ts p=ks.map some)(hkl:(ks.length:Int)=m):∃ cs:List Int,xE [zx m ts,.int p]=some (.tup (cs.map .int))/\(cs.length:Int)=m/\∀ x:Int,0<=x->x < m->EqA Fh m ts ks cs x:=by
 have hm1:=ok.lo
 have hm8:=ok.hi
 have em:ixD (zx m ts) (.int 0)=some (.int m):=rfl
 have e5:=zdg ok hp hks hkl
 obtain⟨L,eL,hR⟩:=zcq ok hp hks hkl
 obtain⟨R,hRL⟩:∃ R,L.reverse=R:=⟨_,rfl⟩
 rw[hRL]at hR
 have key:=zk0 (m:=5) (g:=yV) (ds:=[zx m ts,.int p]) (R:=λd=>∃ cs:List Int,d=.tup (cs.map .int)/\(cs.length:Int)=m/\∀ x:Int,0<=x->x < m->EqA Fh m ts ks cs x) (ρ:=[.v (zx m ts),.v (.int p),.no,.no,.no]) rfl ?_
 .obtain⟨d,e,cs,rfl,h⟩:=key
  exact⟨cs,e,h⟩
 unfold yV
 refine zA (ρ':=[.v (zx m ts),.v (.int p),.v (.lst (wg m ts ks m.toNat)),.no,.no]) (vc (ds:=[_,_]) rfl e5) ?_
 refine zA (ρ':=[.v (zx m ts),.v (.int p),.v (.lst (wg m ts ks m.toNat)),.o ((List.replicate m.toNat (0:Int)).map .int),.no]) ?_ ?_
 .have e:=zgw (d:=.int 0) (n:=m) (by omega) (by omega)
  simp[vY,zkB,yT,yc,zb,zr,eC,xg,zc,visF,Sl.f,zm,em,e]
 have hfor:zlE (zz 2 p_outwards (zb (zc 0) (zb (zc 1) zr))) (visG [.v (zx m ts),.v (.int p),.v (.lst (wg m ts ks m.toNat)),.o ((List.replicate m.toNat (0:Int)).map .int),.no])=some (R.map λx:Nat=>D.int (x:Int)):=by
  unfold zlE
  rw[vW (ds:=[zx m ts,.int p]) rfl eL,d7,<- hRL,List.map_reverse]
  rfl
 refine y9 (WS (ds:=R.map λx:Nat=>D.int (x:Int)) (λi ρ=>∃ (cs:List Int) (o4:Sl),ρ=[.v (zx m ts),.v (.int p),.v (.lst (wg m ts ks m.toNat)),.o (cs.map .int),o4]/\(cs.length:Int)=m/\∀ y,Swp R i y->0<=y/\EqA Fh m ts ks cs y) hfor ⟨_,_,rfl,by rw[u0S];omega,λy ⟨k,o,hk,_⟩=>absurd hk (u36 _)⟩ ?_ ?_)
 .rintro i d ρ hd ⟨cs,o4,rfl,hl,hS⟩
  rw[j7]at hd
  obtain⟨x,hx,rfl⟩:=t7.mp hd
  have hxm:(x:Int) < m:=hR.mem.mp (j4 hx)
  have hxp:0<=(x:Int)/\(x:Int) < m:=⟨by omega,hxm⟩
  refine⟨[.v (zx m ts),.v (.int p),.v (.lst (wg m ts ks m.toNat)),.o (cs.map .int),.v (.int (x:Int))],rfl,?_⟩
  unfold xY
  have st:=hR.step (F:=Fh) hx hl hS
  have ev:zm zb3 (yT (fLC (iOf (zm ixD (zc 2) (zc 4))) b1 yM (zm w6 (zm ixD (zc 4) (zc 0)) (eC (.int 1))))) (eC (.int 0)) (visG [.v (zx m ts),.v (.int p),.v (.lst (wg m ts ks m.toNat)),.o (cs.map .int),.v (.int (x:Int))])=some (.int (Fh (x:Int) (zb1 m ts ks cs (x:Int)))):=by
   refine zT (x:=.lst (((yB m ts ks (x:Int)).map λo:Nat=>vAt cs (o:Int)+1).map .int)) (y:=.int 0) (wn ?_) rfl ?_
   .exact zj6 (k:=3) (d:=.lst (cs.map .int)) (m:=m) (ZX (zT (x:=.lst (wg m ts ks m.toNat)) (y:=.int (x:Int)) rfl rfl (zh6 hxp)) rfl) rfl (λ_=>rfl) hl (λo ho=>yF ho) (wa ok)
   .rw[VL]
    unfold Fh zb1
    rw[u0j]
    rfl
  refine zfr (cs.map .int) (.int (Fh (x:Int) (zb1 m ts ks cs (x:Int)))) (x:Int) ?_ rfl rfl hxp.1 (zi6 hxm hl) ⟨cs.set x (Fh (x:Int) (zb1 m ts ks cs (x:Int))),.v (.int (x:Int)),?_,by rw[u2B];exact hl,st⟩
  .unfold vEv
   rw[j3 rfl,ev]
   rfl
  .rw[u3B];rfl
 .rintro ρ ⟨cs,o4,rfl,hl,hS⟩
  rw[u5]at hS
  exact zed (ρ':=[.v (zx m ts),.v (.int p),.v (.lst (wg m ts ks m.toNat)),.v (.lst (cs.map .int)),o4]) rfl (XD rfl ⟨cs,rfl,hl,hR.fin hS⟩)
theorem WH (T:Txt K mg base ad):yW P w K mg base CX0 6 ad.f_heights_from ad.e_heights_from ["web","root"] (@spD ⟨K⟩ 2 xE):=by
 letI:KK:=⟨K⟩
 have G_outer_neighbours:=wu (P:=P) (w:=w) (base:=base) T
 have G_outwards:=zci (P:=P) (w:=w) (base:=base) T
 refine xw (N:=["web","root","outer","tall","place"]) (ps:=["web","root"]) T.d_heights_from.fn xn (g:=yV) λcdv A outer s H E hr=>?_
 unfold yV xY
 exact(ze (yr (m:=false) (i:=2) xn.nd rfl (Or.inl rfl) (zo G_outer_neighbours hr rfl T.d_outer_neighbours (za (edv 0) (za (edv 1) zd))))
  (ze (vh (i:=3) xn.nd rfl (Or.inr rfl) (zej (yX (xm (za (zi zj) zd))) (zB (edv 0) (zi zj) (λ_ _=>rfl))))
  (ze (Y8 p7 rfl (zke rfl T.z_reversed (zo G_outwards hr rfl T.d_outwards (za (edv 0) (za (edv 1) zd)))) (zM (zt (i:=4) xn.nd rfl (Or.inl rfl))) (zg (zaQ (m:=true) (zf3 rfl rfl T.z_max (yX (XC (L:=["other"]) (M:=["web","root","outer","tall","place"]) rfl (wL (by rfl) (by rfl) (by rfl) (by with_unfolding_all rfl) (by rfl) (by rfl) (by kernel_rfl) (all_cons rfl yC)) (xM (zB (edv 2) (edv 4) (λ_ _=>rfl))) gs1 rb1 (λ_ _ _ _=>(zt (i:=0) zma rfl (Or.inl rfl) (.inr rfl))) (λ_ _ _ _=>(xo (zB (edv 4) (edv 0) (λ_ _=>rfl)) (zi zj))))) (zi zj)) (pv 3) (edv 4))))
  (YG 3 (zg (zE (w8 yL vn rfl T.z_tuple xu (za (edv 3) zd))))))))
theorem Xw {α:Type}{l:List α}(f:α->List Int)(g:List Int->α)(d:α->D)(hgf:∀ x∈l,g (f x)=x)(nd:l.Nodup) :
 Ye (l.map f) (l.map d)=((yh (l.map f)).map g).map d/\((yh (l.map f)).map g).Perm l/\((yh (l.map f)).map g).Pairwise (λx y=>HT.lexLt (f y) (f x)=false)/\(l.map f).Nodup:=by
 have p:=xC (l.map f)
 have r:=vX (l.map f)
 have ndf:(l.map f).Nodup:=xO (λa ha b hb e=>by rw[<-hgf a ha,e,hgf b hb]) nd
 have hM:((yh (l.map f)).map g).map f=yh (l.map f):=by
  rw[u0j]
  have:(yh (l.map f)).map (f ∘ g)=(yh (l.map f)).map id:=by
   refine u0p λt ht=>?_
   obtain⟨x,hx,rfl⟩:=u0A.mp (p.mem_iff.mp ht)
   show f (g (f x))=f x
   rw[hgf x hx]
  rw[this,u3m]
 have pM:((yh (l.map f)).map g).Perm l:=by
  have:=p.map g
  rw[u0j]at this
  have e:l.map (g ∘ f)=l:=by
   have:l.map (g ∘ f)=l.map id:=u0p λx hx=>hgf x hx
   rw[this,u3m]
  rwa[e]at this
 refine⟨?_,pM,?_,ndf⟩
 .unfold Ye
  conv=>lhs;rw[<-hM]
  rw[u0j]
  refine u0p λx hx=>?_
  obtain⟨i,hi,rfl⟩:=u0i (pM.mem_iff.mp hx)
  have hl:i < (l.map f).length:=by rw[u5];exact hi
  have e1:(l.map f)[i]=f l[i]:=by rw[u26]
  have e2:(l.map f).idxOf (f l[i])=i:=by
   have:=ndf.idxOf_getElem i hl
   rw[e1]at this
   exact this
  show(l.map d).getD ((l.map f).idxOf (f l[i])) .non=d l[i]
  rw[e2,d9,j7,u6 hi]
  rfl
 .rw[<-hM,u0Q]at r
  exact r
theorem zfB {α:Type}{g:Ev->Option D}{ρ:Ev}{c:α->D}{f:α->List Int}:∀ (l:List α),(∀ x∈l,g (some (c x)::ρ)=some (.tup ((f x).map .int))/\f x≠[])->zcI g ρ (l.map c)=some (l.map f):=by
 intro l
 induction l with
 | nil=>intro _;rfl
 | cons x l ih =>
  intro h
  obtain⟨e,hne⟩:=h x (.head _)
  have r:=ih λy hy=>h y (.tail _ hy)
  show(g (some (c x)::ρ)).bind _=_
  rw[e,d7]
  show(V8 ((f x).map .int)).bind _=_
  rw[ZN,d7,j8 hne,r]
  rfl
theorem zfm {α:Type}{g:Ev->Option D}{ρ:Ev}{c:α->D}{h:α->Int}{u:α->List Int}:∀ (l:List α),(∀ x∈l,g (some (c x)::ρ)=some (.tup [.int (h x),.tup ((u x).map .int)]))->zfS g ρ (l.map c)=some (l.map λx=>h x::u x):=by
 intro l
 induction l with
 | nil=>intro _;rfl
 | cons x l ih =>
  intro hh
  have e:=hh x (.head _)
  have r:=ih λy hy=>hh y (.tail _ hy)
  show(g (some (c x)::ρ)).bind _=_
  rw[e,d7]
  show(V8 ((u x).map .int)).bind _=_
  rw[ZN,d7,r]
  rfl
def zlO (a:Nat->Int)(l:List Nat):List Nat:=(yh (l.map λx=>[a x,(x:Int)])).map λt=>(t.getD 1 0).toNat
theorem Ws (a:Nat->Int)(d:Nat->D){l:List Nat}(nd:l.Nodup):Ye (l.map λx=>[a x,(x:Int)]) (l.map d)=(zlO a l).map d/\(zlO a l).Perm l/\(zlO a l).Pairwise (zlg a)/\(l.map λx=>[a x,(x:Int)]).Nodup:=by
 obtain⟨h1,h2,h3,h4⟩:=Xw (λx:Nat=>[a x,(x:Int)]) (λt=>(t.getD 1 0).toNat) d (λx _=>rfl) nd
 refine⟨h1,h2,?_,h4⟩
 refine(h3.and (h2.nodup_iff.mpr nd)).imp λ{x y} h=>?_
 obtain⟨h5,h6⟩:=h
 rcases lex2 h5 with h7 | ⟨h7,h8⟩
 .exact .inl h7
 .exact .inr ⟨h7,by omega⟩
theorem yx (k:Nat):zy k=.int (k:Int):=by show D.int (0+(k:Int))=_;rw[u1w]
theorem ZZ (m:Int)(ts:List Tie)(ks:List Int)(x:Int):(yB m ts ks x).Nodup:=by
 unfold yB nbN
 exact(u0V.filter _).filter _
def rkN (m:Int)(ts:List Tie)(ks tl:List Int)(x:Nat):List Nat:=zlO (λo=>-vAt tl (o:Int)) (yB m ts ks (x:Int))
theorem wH (m:Int)(ts:List Tie)(ks tl:List Int)(x:Nat):(rkN m ts ks tl x).Perm (yB m ts ks (x:Int)):=(Ws _ zy (ZZ m ts ks _)).2.1
theorem yu {m:Int}{ts:List Tie}{ks tl:List Int}{x o:Nat}:o∈rkN m ts ks tl x↔o∈yB m ts ks (x:Int):=(wH m ts ks tl x).mem_iff
theorem Yf (m:Int)(ts:List Tie)(ks tl:List Int)(x:Nat):(rkN m ts ks tl x).Nodup:=(wH m ts ks tl x).nodup_iff.mpr (ZZ m ts ks _)
def rkD (m:Int)(ts:List Tie)(ks tl:List Int):List D:=(List.range m.toNat).map λx=>.lst ((rkN m ts ks tl x).map zy)
theorem zir {m:Int}{ts:List Tie}{ks tl:List Int}{x:Nat}(hx:(x:Int) < m):L2.atI (rkD m ts ks tl) (x:Int)=some (.lst ((rkN m ts ks tl x).map zy)):=by
 refine ZG (by omega) ?_
 unfold rkD
 rw[j7,show((x:Int)).toNat=x from rfl,u1i (by omega)]
 rfl
def zR (rk:Nat->List Nat):Nat->Nat->List Nat
 | 0,_=>[]
 | n+1,y=>match rk y with
  | []=>[]
  | o::_=>o::zR rk n o
def wD (w:List Nat):D:=.tup (w.map zy)
def muW:SE->Nat
 | [_,.v (.tup ds)]=>10 - ds.length
 | _=>0
theorem zek {w:List Nat}{y:Nat}:L2.atI ((w++[y]).map zy) (-1)=some (zy y):=by
 have e:L2.ixN ((w++[y]).map zy).length (-1)=some w.length:=by
  unfold L2.ixN
  rw[u5,j6]
  simp
  omega
 unfold L2.atI
 rw[e]
 simp
def wy:SE->Ctl :=
 (xL false 1 (zm w6 (zc 1) (wQ (zb (zm ixD (zm ixD (zc 0) (zm ixD (zc 1) (eUn ZC (eC (.int 1))))) (eC (.int 0))) zr))))
def x6:SE->Ctl :=
 (zS (Yd (tOf (zm gtD (eFn Zb (zb (zm ixD (zc 0) (zm ixD (zc 1) (eUn ZC (eC (.int 1))))) zr)) (eC (.int 0)))) wy 10)
  (yU (zc 1)))
def x9:List D->Option D:=fnD 2 x6
theorem Vo {m p:Int}{ts:List Tie}{ks tl:List Int}(ok:zH m ts)(hb:∀ x:Int,0<=x->x < m->0<=vAt ks x/\vAt ks x < m){w:List Nat}{y:Nat}(hy:(y:Int) < m)(hl:(w.length:Int)<=vAt ks (y:Int)):x9 [.lst (rkD m ts ks tl),wD (w++[y])]=some (wD (w++[y]++zR (rkN m ts ks tl) (9 - w.length) y)):=by
 have hm8:=ok.hi
 obtain⟨T,hT⟩:∃ T,w++[y]++zR (rkN m ts ks tl) (9 - w.length) y=T:=⟨_,rfl⟩
 rw[hT]
 have hb0:=hb (y:Int) (by omega) hy
 refine Vm (ρ:=[.v (.lst (rkD m ts ks tl)),.v (wD (w++[y]))]) rfl ?_
 unfold x6
 refine y9 (Wo (fun ρ=>∃ (w:List Nat) (y:Nat),ρ=[.v (.lst (rkD m ts ks tl)),.v (wD (w++[y]))]/\(y:Int) < m/\(w.length:Int)<=vAt ks (y:Int)/\w++[y]++zR (rkN m ts ks tl) (9 - w.length) y=T) muW ?_ 10 _ ⟨w,y,rfl,hy,hl,hT⟩ ?_)
 .rintro ρ ⟨w,y,rfl,hy,hl,hT⟩
  have hbb:=hb (y:Int) (by omega) hy
  have e1:zm ixD (zc 0) (zm ixD (zc 1) (eUn ZC (eC (.int 1)))) (visG [.v (.lst (rkD m ts ks tl)),.v (wD (w++[y]))])=some (.lst ((rkN m ts ks tl y).map zy)):=by
   refine zT (x:=.lst (rkD m ts ks tl)) (y:=zy y) rfl (zT (x:=wD (w++[y])) (y:=.int (-1)) rfl rfl zek) ?_
   rw[yx]
   exact zir hy
  cases hr:rkN m ts ks tl y with
  | nil =>
   rw[hr]at e1
   refine⟨false,zbM (zT (x:=.int 0) (y:=.int 0) (za5 (ds:=[.lst []]) (zK e1 xx) rfl) rfl rfl),(λz=>by cases z),λ_=>?_⟩
   have:zR (rkN m ts ks tl) (9 - w.length) y=[]:=by
    rw[show 9 - w.length=(8 - w.length)+1 by omega]
    unfold zR
    rw[hr]
   rw[this,u0L]at hT
   rw[hT]
   exact XD rfl rfl
  | cons o r =>
   rw[hr]at e1
   have ho:o∈yB m ts ks (y:Int):=yu.mp (by rw[hr];exact .head _)
   have far:=yi ho
   refine⟨true,zbM (zT (x:=.int ((((o::r).map zy).length:Nat):Int)) (y:=.int 0) (za5 (ds:=[.lst ((o::r).map zy)]) (zK e1 xx) rfl) rfl ?_),λ_=>?_,(λz=>by cases z)⟩
   .show some (D.bl (decide (((((o::r).map zy).length:Nat):Int) > 0)))=_
    rw[i5 (by rw[u5,p9];omega)]
   .unfold wy
    refine Yc (ρ':=[.v (.lst (rkD m ts ks tl)),.v (wD (w++[y]++[o]))]) (zfk (zT (x:=wD (w++[y])) (y:=.tup [zy o]) rfl (Wn (zK (zT (x:=.lst ((o::r).map zy)) (y:=.int 0) e1 rfl (ZG (u2l _) rfl)) xx) (by show 1<=1000;decide)) ?_)) ⟨⟨w++[y],o,rfl,yF ho,?_,?_⟩,?_⟩
    .show w6 (.tup ((w++[y]).map zy)) (.tup [zy o])=_
     rw[zhY (by rw[u5,j6];show w.length+1+1<=1000;omega)]
     unfold wD
     rw[u0M (l₂:=[o])]
     rfl
    .rw[j6]
     show((w.length+1:Nat):Int)<=_
     omega
    .rw[<-hT,j6]
     show w++[y]++[o]++zR (rkN m ts ks tl) (9 - (w.length+1)) o=_
     rw[show 9 - w.length=(9 - (w.length+1))+1 by omega]
     conv=>rhs;unfold zR
     rw[hr]
     simp
    .show 10 - ((w++[y]++[o]).map zy).length < 10 - ((w++[y]).map zy).length
     rw[u5,u5,j6,j6]
     show 10 - (w.length+1+1) < 10 - (w.length+1)
     omega
 .show 10 - ((w++[y]).map zy).length < 10
  rw[u5,j6]
  show 10 - (w.length+1) < 10
  omega
theorem W6 (T:Txt K mg base ad):yW P w K mg base CX0 1 ad.f_way_through ad.e_way_through ["ranked","way"] (@spD ⟨K⟩ 2 x9):=by
 letI:KK:=⟨K⟩
 refine xw (N:=["ranked","way"]) (ps:=["ranked","way"]) T.d_way_through.fn Zc (g:=x6) λcdv A outer s H E hr=>?_
 unfold x6 wy
 exact(ze (zaw 10 p7 (ya zbr xi (zJ _) (zU zI wk rfl T.z_len Ys (za (zB (edv 0) (zB (edv 1) (Xz (zi zj)) (λ_ _=>rfl)) (λ_ _=>rfl)) zd)) (zi zj)) (zg (yr (m:=false) (i:=1) Zc.nd rfl (Or.inl rfl) (xo (edv 1) (x3 (za (zB (zB (edv 0) (zB (edv 1) (Xz (zi zj)) (λ_ _=>rfl)) (λ_ _=>rfl)) (zi zj) (λ_ _=>rfl)) zd))))))
  (zg (zE (edv 1))))
theorem ziv {m p:Int}{ts:List Tie}{ks:List Int}(ok:zH m ts)(hp:0<=p/\p < m)(hks:Ya m ts p=ks.map some)(hkl:(ks.length:Int)=m):∀ x:Int,0<=x->x < m->0<=vAt ks x/\vAt ks x < m:=by
 intro x h0 h1
 have hl:x.toNat < ks.length:=by omega
 have hm:vAt ks x∈ks:=by
  unfold vAt
  rw[d9,u6 hl]
  exact u1W hl
 have:some (vAt ks x)∈Ya m ts p:=by
  rw[hks]
  exact u2o hm
 rcases zhR ok hp this with h | ⟨k,e,h⟩
 .cases h
 .cases e
  exact h
theorem zf5 {α:Type}[DecidableEq α]:∀ {l k:List α},l.Nodup->(∀ x∈l,x∈k)->l.length<=k.length:=by
 intro l
 induction l with
 | nil=>intro k _ _;exact u0D _
 | cons a l ih =>
  intro k nd h
  obtain⟨h1,h2⟩:=u0d.mp nd
  have:=ih (k:=k.erase a) h2 λx hx=>by
   have ne:x≠a:=λe=>h1 (e ▸ hx)
   exact(List.mem_erase_of_ne ne).mpr (h x (.tail _ hx))
  rw[u2u (h a (.head _))]at this
  have hp:=List.length_pos_of_mem (h a (.head _))
  show l.length+1<=k.length
  omega
theorem zbj {α:Type}[DecidableEq α]:∀ {l k:List α},l.Nodup->(∀ x∈l,x∈k)->k.length<=l.length->k.Nodup:=by
 intro l
 induction l with
 | nil =>
  intro k _ _ h
  have:k=[]:=u1f.mp (Nat.le_zero.mp h)
  rw[this]
  exact u1J
 | cons a l ih =>
  intro k nd h hl
  obtain⟨h1,h2⟩:=u0d.mp nd
  have ha:=h a (.head _)
  have hs:∀ x∈l,x∈k.erase a:=λx hx=>by
   have ne:x≠a:=λe=>h1 (e ▸ hx)
   exact(List.mem_erase_of_ne ne).mpr (h x (.tail _ hx))
  have hle:(k.erase a).length=k.length - 1:=u2u ha
  have hp:=List.length_pos_of_mem ha
  have hl':k.length<=l.length+1:=hl
  have nk:=ih h2 hs (by omega)
  have na:a∉k.erase a:=λhk=>by
   have:=zf5 (l:=a::l) (k:=k.erase a) nd λx hx=>by
    rcases j5.mp hx with rfl | hx
    .exact hk
    .exact hs x hx
   have:l.length+1<=(k.erase a).length:=this
   omega
  exact(List.perm_cons_erase ha).nodup_iff.mpr (u0d.mpr ⟨na,nk⟩)
theorem v5 {α β:Type}{f:α->β}{l:List α}(nd:(l.map f).Nodup){a b:α}(ha:a∈l)(hb:b∈l)(e:f a=f b):a=b:=by
 obtain⟨i,hi,rfl⟩:=u0i ha
 obtain⟨j,hj,rfl⟩:=u0i hb
 have h1:i < (l.map f).length:=by rw[u5];exact hi
 have h2:j < (l.map f).length:=by rw[u5];exact hj
 have:(l.map f)[i]=(l.map f)[j]:=by rw[u26,u26];exact e
 have:=(u25 nd).mp this
 subst this
 rfl
def inN (m:Int)(ts:List Tie)(ks:List Int)(x:Int):List Nat:=(nbN m ts x).filter λo:Nat=>decide (vAt ks (o:Int) < vAt ks x)
theorem VC {m p x:Int}{ts:List Tie}{ks:List Int}(hks:Ya m ts p=ks.map some)(hkl:(ks.length:Int)=m)(hx:0<=x/\x < m):∃ k:Nat,Far ts p x k/\vAt ks x=(k:Int):=by
 have h1:oAt (Ya m ts p) x=zgE ts p x:=V3 hx.1 hx.2
 have h2:oAt (ks.map some) x=some (vAt ks x):=by
  have hl:x.toNat < ks.length:=by omega
  unfold oAt vAt
  rw[d9,j7,u6 hl]
  rfl
 rw[hks,h2]at h1
 rcases vm ts p x with ⟨k,e,f⟩ | ⟨e,_⟩
 .rw[e]at h1
  exact⟨k,f,u0x h1⟩
 .rw[e]at h1
  cases h1
theorem Wy {m p x:Int}{ts:List Tie}{ks:List Int}(ok:zH m ts)(hp:0<=p/\p < m)(hks:Ya m ts p=ks.map some)(hkl:(ks.length:Int)=m)(hx:0<=x/\x < m)(hne:x≠p):∃ a:Nat,a∈inN m ts ks x:=by
 obtain⟨k,fk,ek⟩:=VC hks hkl hx
 cases k with
 | zero=>cases fk.1;exact absurd rfl hne
 | succ k =>
  obtain⟨a,ra,aa⟩:=fk.1.inv
  obtain⟨r1,_⟩:=aa.rng ok
  obtain⟨j,fj,ej⟩:=VC hks hkl r1
  have:=fj.2 k ra
  refine⟨a.toNat,u0k.mpr ⟨(Yv ok).mpr ?_,?_⟩⟩
  .rw[show((a.toNat:Nat):Int)=a by omega]
   exact aa.symm
  .rw[d5,show((a.toNat:Nat):Int)=a by omega]
   omega
theorem Zu {m x:Int}{ts:List Tie}{ks:List Int}(ok:zH m ts){o:Nat}:o∈inN m ts ks x↔adj ts x (o:Int)/\vAt ks (o:Int) < vAt ks x:=by
 unfold inN
 rw[u0k,Yv ok,d5]
theorem xG {m x:Int}{ts:List Tie}{ks:List Int}(ok:zH m ts){o:Nat}:o∈yB m ts ks x↔adj ts x (o:Int)/\vAt ks x < vAt ks (o:Int):=by
 unfold yB
 rw[u0k,Yv ok,d5]
theorem zeW {m:Int}{ts:List Tie}{ks:List Int}(ok:zH m ts){x y:Nat}:y∈inN m ts ks (x:Int)↔x∈yB m ts ks (y:Int):=by
 rw[Zu ok,xG ok]
 exact⟨λh=>⟨h.1.symm,h.2⟩,λh=>⟨h.1.symm,h.2⟩⟩
theorem zjc {m a b:Int}{ts:List Tie}(ok:zH m ts)(h:adj ts a b):∃ t∈ts,(t.1=a/\t.2=b)\/(t.1=b/\t.2=a):=by
 rcases h with h | h
 .exact⟨_,h,.inl ⟨rfl,rfl⟩⟩
 .exact⟨_,h,.inr ⟨rfl,rfl⟩⟩
def upT (ks:List Int)(t:Tie):Int:=if vAt ks t.1 < vAt ks t.2 then t.2 else t.1
theorem zcU {m x:Int}{ts:List Tie}{ks:List Int}(ok:zH m ts){o:Nat}(h:o∈inN m ts ks x):∃ t∈ts,upT ks t=x/\((t.1=x/\t.2=(o:Int))\/(t.1=(o:Int)/\t.2=x)):=by
 obtain⟨h1,h2⟩:=(Zu ok).mp h
 obtain⟨t,ht,h3⟩:=zjc ok h1
 refine⟨t,ht,?_,h3⟩
 unfold upT
 rcases h3 with ⟨e1,e2⟩ | ⟨e1,e2⟩
 .rw[e1,e2,j8 (by omega)]
 .rw[e1,e2,j3 h2]
theorem zhF (m:Int)(ts:List Tie)(x:Int):(nbN m ts x).Nodup:=by
 unfold nbN
 exact u0V.filter _
theorem zdh {m p:Int}{ts:List Tie}{ks:List Int}(ok:zH m ts)(htl:(ts.length:Int)=m - 1)(hp:0<=p/\p < m)(hks:Ya m ts p=ks.map some)(hkl:(ks.length:Int)=m):(ts.map (upT ks)).Nodup:=by
 have hin:p.toNat∈List.range m.toNat:=i8.mpr (by omega)
 refine zbj (l:=((List.range m.toNat).erase p.toNat).map λk:Nat=>(k:Int)) ?_ ?_ ?_
 .exact xO (λa _ b _ e=>by omega) (u0V.erase _)
 .intro z hz
  obtain⟨k,hk,rfl⟩:=u0A.mp hz
  obtain⟨k1,k2⟩:=(u0V.mem_erase_iff).mp hk
  have k2:=i8.mp k2
  obtain⟨a,ha⟩:=Wy (x:=(k:Int)) ok hp hks hkl ⟨by omega,by omega⟩ (by omega)
  obtain⟨t,ht,e,_⟩:=zcU ok ha
  rw[<-e]
  exact u2o ht
 .rw[u5,u5,u2u hin,u0v]
  omega
theorem zjn {m p:Int}{ts:List Tie}{ks:List Int}(ok:zH m ts)(htl:(ts.length:Int)=m - 1)(hp:0<=p/\p < m)(hks:Ya m ts p=ks.map some)(hkl:(ks.length:Int)=m){x:Int}(hx:0<=x/\x < m)(hne:x≠p):∃ y:Nat,inN m ts ks x=[y]:=by
 have hU:=zdh ok htl hp hks hkl
 obtain⟨y,hy⟩:=Wy ok hp hks hkl hx hne
 have all:∀ z,z∈inN m ts ks x->z=y:=λz hz=>by
  obtain⟨t,ht,e1,c1⟩:=zcU ok hy
  obtain⟨s,hs,e2,c2⟩:=zcU ok hz
  have:=v5 hU ht hs (e1.trans e2.symm)
  subst this
  have n1:=((Zu ok).mp hy).2
  have n2:=((Zu ok).mp hz).2
  have:(y:Int)≠x:=λe=>by rw[e]at n1;omega
  rcases c1 with ⟨a1,a2⟩ | ⟨a1,a2⟩ <;> rcases c2 with ⟨b1,b2⟩ | ⟨b1,b2⟩ <;> omega
 refine⟨y,?_⟩
 have nd:(inN m ts ks x).Nodup:=(zhF m ts x).filter _
 cases hl:inN m ts ks x with
 | nil=>rw[hl]at hy;cases hy
 | cons a r =>
  rw[hl]at nd all
  have ea:=all a (.head _)
  cases r with
  | nil=>rw[ea]
  | cons b r =>
   have eb:=all b (.tail _ (.head _))
   rw[ea,eb]at nd
   exact absurd (List.Mem.head _) (u0d.mp nd).1
theorem zcd {m p:Int}{ts:List Tie}{ks:List Int}(hp:0<=p/\p < m)(hks:Ya m ts p=ks.map some)(hkl:(ks.length:Int)=m):vAt ks p=0:=by
 obtain⟨k,fk,ek⟩:=VC hks hkl hp
 have:=fk.2 0 .zero
 omega
theorem zcX {m p:Int}{ts:List Tie}{ks:List Int}(hp:0<=p/\p < m)(hks:Ya m ts p=ks.map some)(hkl:(ks.length:Int)=m)(hb:∀ x:Int,0<=x->x < m->0<=vAt ks x/\vAt ks x < m){o:Nat}{x:Int}(hx:0<=x/\x < m)(h:o∈yB m ts ks x):(o:Int)≠p:=λe=>by
 have h1:=yi h
 rw[e,zcd hp hks hkl]at h1
 have:=(hb x hx.1 hx.2).1
 omega
theorem zhc {m p:Int}{ts:List Tie}{ks:List Int}(ok:zH m ts)(htl:(ts.length:Int)=m - 1)(hp:0<=p/\p < m)(hks:Ya m ts p=ks.map some)(hkl:(ks.length:Int)=m)(hb:∀ x:Int,0<=x->x < m->0<=vAt ks x/\vAt ks x < m){x a b:Nat}(ha:(a:Int) < m)(h1:x∈yB m ts ks (a:Int))(h2:x∈yB m ts ks (b:Int)):a=b:=by
 obtain⟨y,hy⟩:=zjn (x:=(x:Int)) ok htl hp hks hkl ⟨by omega,yF h1⟩ (zcX hp hks hkl hb ⟨by omega,ha⟩ h1)
 have e1:=(zeW ok).mpr h1
 have e2:=(zeW ok).mpr h2
 rw[hy]at e1 e2
 rw[d4.mp e1,d4.mp e2]
theorem zhP {m p a b:Int}{ts:List Tie}{ks:List Int}(ok:zH m ts)(htl:(ts.length:Int)=m - 1)(hp:0<=p/\p < m)(hks:Ya m ts p=ks.map some)(hkl:(ks.length:Int)=m)(h:adj ts a b):vAt ks a < vAt ks b\/vAt ks b < vAt ks a:=by
 have key:∀ t∈ts,vAt ks t.1≠vAt ks t.2:=λt ht e=>by
  have r:=ok.rng t ht
  have hU:=zdh ok htl hp hks hkl
  have eu:upT ks t=t.1:=by unfold upT;rw[j8 (by omega)]
  by_cases c:t.1=p
  .obtain⟨k,fk,ek⟩:=VC (x:=t.2) hks hkl ⟨by omega,by omega⟩
   rw[c,zcd hp hks hkl]at e
   have:k=0:=by omega
   subst this
   cases fk.1
   omega
  .obtain⟨o,ho⟩:=Wy (x:=t.1) ok hp hks hkl ⟨by omega,by omega⟩ c
   obtain⟨s,hs,e1,c1⟩:=zcU ok ho
   have:=v5 hU ht hs (eu.trans e1.symm)
   subst this
   have n1:=((Zu ok).mp ho).2
   rcases c1 with ⟨d1,d2⟩ | ⟨d1,d2⟩
   .rw[<-d2]at n1;omega
   .rw[<-d1]at n1;omega
 rcases h with h | h
 .have:=key _ h
  dsimp only at this
  omega
 .have:=key _ h
  dsimp only at this
  omega
def vQ (rk:Nat->List Nat)(x y:Nat):List Nat:=x::y::zR rk 8 y
def Vu (p:Int)(rk:Nat->List Nat)(x:Nat):List Nat:=if (x:Int)=p then rk x else (rk x).drop 1
def zC (p:Int)(rk:Nat->List Nat)(n:Nat):List (List Nat):=(List.range n).flatMap λx=>(Vu p rk x).map (vQ rk x)
def zbU (p:Int)(rk:Nat->List Nat)(x j:Nat):List Nat:=if (x:Int)=p then (rk x).take j else ((rk x).take j).drop 1
theorem zfh {p:Int}{rk:Nat->List Nat}{x j o:Nat}(h:(rk x)[j]?=some o):zbU p rk x (j+1)=zbU p rk x j++(if 0 < j\/(x:Int)=p then [o]else []):=by
 unfold zbU
 have hj:=(u8.mp h).1
 by_cases c:(x:Int)=p
 .rw[j3 c,j3 c,j3 (.inr c),u2d,h]
  rfl
 .rw[j8 c,j8 c,u2d,h]
  show((rk x).take j++[o]).drop 1=_
  by_cases c2:0 < j
  .rw[j3 (.inl c2),u1r (by rw[o9];omega)]
  .have:j=0:=by omega
   subst this
   rw[j8 (λh=>h.elim (λh=>absurd h (u0I _)) c)]
   rfl
theorem Ze (p:Int)(rk:Nat->List Nat)(n:Nat):zC p rk (n+1)=zC p rk n++(Vu p rk n).map (vQ rk n):=by
 unfold zC
 rw[u3q,u2m,u2L]
theorem X5 {p:Int}{rk:Nat->List Nat}{x o:Nat}(h:o∈Vu p rk x):o∈rk x:=by
 unfold Vu at h
 split at h
 .exact h
 .exact u0c h
theorem Yo (p:Int){rk:Nat->List Nat}(hn:∀ x,(rk x).Nodup)(n:Nat):(zC p rk n).Nodup:=by
 unfold zC
 rw[u0Y,List.pairwise_flatMap]
 refine⟨λx _=>?_,?_⟩
 .rw[u0Q]
  have:(Vu p rk x).Nodup:=by
   unfold Vu
   split
   .exact hn x
   .exact(hn x).sublist (u09 _ _)
  refine this.imp λ{a b} h e=>h ?_
  unfold vQ at e
  exact(u1T (u1T e).2).1
 .refine u0V.imp λ{a b} h u hu v hv e=>h ?_
  obtain⟨o,_,rfl⟩:=u0A.mp hu
  obtain⟨o',_,rfl⟩:=u0A.mp hv
  unfold vQ at e
  exact(u1T e).1
theorem Xx {p:Int}{rk:Nat->List Nat}{n:Nat}(hl:∀ x,(rk x).length<=8)(hn:n<=8):(zC p rk n).length<=8*n:=by
 induction n with
 | zero=>exact q5 _
 | succ n ih =>
  rw[Ze,j6,u5]
  have:=ih (by omega)
  have h2:(Vu p rk n).length<=8:=by
   unfold Vu
   split
   .exact hl n
   .rw[i6];have:=hl n;omega
  omega
theorem zdS {m:Int}{ts:List Tie}{ks tl:List Int}:∀ (n y:Nat),(y:Int) < m->∀ w:List Nat,(w.length:Int)<=vAt ks (y:Int)->∃ (u:List Nat) (z:Nat),w++[y]++zR (rkN m ts ks tl) n y=u++[z]/\(z:Int) < m/\(u.length:Int)<=vAt ks (z:Int)/\w.length<=u.length:=by
 intro n
 induction n with
 | zero=>intro y hy w hw;exact⟨w,y,by unfold zR;rw[u0L],hy,hw,q5 _⟩
 | succ n ih =>
  intro y hy w hw
  unfold zR
  cases hr:rkN m ts ks tl y with
  | nil=>exact⟨w,y,by simp,hy,hw,q5 _⟩
  | cons o r =>
   have ho:o∈yB m ts ks (y:Int):=yu.mp (by rw[hr];exact .head _)
   have far:=yi ho
   obtain⟨u,z,e,h1,h2,h3⟩:=ih o (yF ho) (w++[y]) (by rw[j6];show((w.length+1:Nat):Int)<=_;omega)
   refine⟨u,z,?_,h1,h2,?_⟩
   .rw[<-e]
    simp
   .rw[j6]at h3
    have:w.length+1<=u.length:=h3
    omega
def zkl (m:Int)(w:List Nat):Prop:=∃ (u:List Nat) (z:Nat),w=u++[z]/\(z:Int) < m/\1<=u.length/\(u.length:Int) < m
theorem zkY {m p:Int}{ts:List Tie}{ks tl:List Int}(hb:∀ x:Int,0<=x->x < m->0<=vAt ks x/\vAt ks x < m){x y:Nat}(hx:(x:Int) < m)(hy:y∈rkN m ts ks tl x):zkl m (vQ (rkN m ts ks tl) x y):=by
 have ho:=yu.mp hy
 have far:=yi ho
 have h0:=(hb (x:Int) (by omega) hx).1
 obtain⟨u,z,e,h1,h2,h3⟩:=zdS (m:=m) (ts:=ts) (ks:=ks) (tl:=tl) 8 y (yF ho) [x] (by show(1:Int)<=_;omega)
 have h4:=(hb (z:Int) (by omega) h1).2
 exact⟨u,z,e,h1,h3,by omega⟩
theorem zeo {m p:Int}{ts:List Tie}{ks tl:List Int}(hb:∀ x:Int,0<=x->x < m->0<=vAt ks x/\vAt ks x < m):∀ w∈zC p (rkN m ts ks tl) m.toNat,zkl m w:=by
 intro w hw
 unfold zC at hw
 obtain⟨x,hx,hw⟩:=u1X.mp hw
 obtain⟨y,hy,rfl⟩:=u0A.mp hw
 have hx:=i8.mp hx
 exact zkY (p:=p) hb (by omega) (X5 hy)
def wI (w:List Nat):List Int:=w.map λk:Nat=>(k:Int)
theorem zeM (w:List Nat):wD w=.tup ((wI w).map .int):=by
 unfold wD wI
 rw[u0j]
 congr 1
 exact u0p λk _=>yx k
def kW (w:List Nat):List Int:=-(w.length:Int)::wI w
def Xu (F:List (List Nat)):List (List Nat):=(yh (F.map kW)).map λt=>(t.drop 1).map Int.toNat
theorem zcb (w:List Nat):((kW w).drop 1).map Int.toNat=w:=by
 show(wI w).map Int.toNat=w
 unfold wI
 rw[u0j]
 have:w.map (Int.toNat ∘ λk:Nat=>(k:Int))=w.map id:=u0p λk _=>rfl
 rw[this,u3m]
def vS:SE->Ctl :=
 (sIf (XU (tOf (zm gtD (zc 7) (eC (.int 0)))) (tOf (zm zaH (zc 6) (zc 1)))) (ZY false 5 (zz 2 x9 (zb (zc 4) (zb (wQ (zb (zc 6) (zb (zc 8) zr))) zr)))) yk)
def vA:SE->Ctl :=
 (ZB (yY (zb (zm ixD (zc 4) (zc 6)) zr)) (W4 2 (xT (yd 7) (xT (yd 8) Vj))) vS)
def vJ:SE->Ctl :=
 (zS (xL false 2 (zz 2 xE (zb (zc 0) (zb (zc 1) zr))))
  (zS (xL false 3 (zz 2 yy (zb (zc 0) (zb (zc 1) zr))))
  (zS (xL false 4 (yT (fLC (iOf (zc 3)) b1 yM (yT (zfq (zb (zc 0) zr) (wQ (zb (eUn ZC (zm ixD (zc 4) (zc 0))) (zb (zc 0) zr))))))))
  (zS (vY 5 (yc zr))
  (zS (yO wB (zb (zm ixD (zc 0) (eC (.int 0))) zr) (yd 6) vA)
  (sFz 5 (vY 0 (zfH (zb (zc 5) zr) (wQ (zb (eUn ZC (eFn Zb (zb (zc 0) zr))) (zb (zc 0) zr)))))))))))
def wx:List D->Option (List D):=zim 9 vJ 0
def p_ways_from:List D->Option D:=λds=>(wx ds).map .lst
theorem XM {m:Int}{ts:List Tie}{p:Int}{ks tl:List Int}(ok:zH m ts)(hp:0<=p/\p < m)(hks:Ya m ts p=ks.map some)(hkl:(ks.length:Int)=m)(hb:∀ x:Int,0<=x->x < m->0<=vAt ks x/\vAt ks x < m)(et:xE [zx m ts,.int p]=some (.tup (tl.map .int)))(htl:(tl.length:Int)=m):wx [zx m ts,.int p]=some ((Xu (zC p (rkN m ts ks tl) m.toNat)).map wD):=by
 have hm1:=ok.lo
 have hm8:=ok.hi
 have e5:=zdg ok hp hks hkl
 have hn:=Yf m ts ks tl
 have hl8:∀ x,(rkN m ts ks tl x).length<=8:=λx=>by rw[(wH m ts ks tl x).length_eq];exact wa ok
 obtain⟨rk,hrk⟩:∃ rk,rkN m ts ks tl=rk:=⟨_,rfl⟩
 refine zh7 (ρ:=[.v (zx m ts),.v (.int p),.no,.no,.no,.no,.no,.no,.no]) rfl ?_
 unfold vJ
 refine zA (ρ':=[.v (zx m ts),.v (.int p),.v (.tup (tl.map .int)),.no,.no,.no,.no,.no,.no]) (vc (ds:=[_,_]) rfl et) ?_
 refine zA (ρ':=[.v (zx m ts),.v (.int p),.v (.tup (tl.map .int)),.v (.lst (wg m ts ks m.toNat)),.no,.no,.no,.no,.no]) (vc (ds:=[_,_]) rfl e5) ?_
 refine zA (ρ':=[.v (zx m ts),.v (.int p),.v (.tup (tl.map .int)),.v (.lst (wg m ts ks m.toNat)),.v (.lst (rkD m ts ks tl)),.no,.no,.no,.no]) (zfk (wn ?_)) ?_
 .unfold fLC
  rw[ZX (d:=.lst (wg m ts ks m.toNat)) rfl rfl,d7,j3 (xg (by unfold wg;rw[u5,u0v];omega))]
  unfold wg rkD
  refine wV (λx:Nat=>D.lst ((yB m ts ks (x:Int)).map zy)) (λx:Nat=>D.lst ((rkN m ts ks tl x).map zy)) (List.range m.toNat) λx hx=>⟨[some (.lst ((yB m ts ks (x:Int)).map zy))],rfl,rfl,wn ?_⟩
  unfold zfq
  rw[zK (d:=.lst ((yB m ts ks (x:Int)).map zy)) (ds:=[]) rfl xx,d7]
  show(zcI _ _ ((yB m ts ks (x:Int)).map zy)).bind _=_
  obtain⟨h1,h2,h3,h4⟩:=Ws (λo=>-vAt tl (o:Int)) zy (ZZ m ts ks (x:Int))
  have hlen:((yB m ts ks (x:Int)).map zy).length < 10000000:=by
   rw[u5]
   exact u0f (wa ok) (by decide)
  rw[zfB (c:=zy) (f:=λo:Nat=>[-vAt tl (o:Int),(o:Int)]) (yB m ts ks (x:Int)) (λo ho=>⟨by
   have hom:=yF ho
   rw[yx]
   exact Wn (ds:=[.int (-vAt tl (o:Int)),.int (o:Int)]) (zK (zgK (x:=.int (vAt tl (o:Int))) (zT (x:=.tup (tl.map .int)) (y:=.int (o:Int)) rfl rfl (zbd (ns:=tl) ⟨by omega,hom⟩ htl)) rfl) (zK rfl xx)) (by show 2<=1000;decide),by simp⟩),d7,j3 ⟨h4,hlen⟩,h1]
  rfl
 refine zA (ρ':=[.v (zx m ts),.v (.int p),.v (.tup (tl.map .int)),.v (.lst (wg m ts ks m.toNat)),.v (.lst (rkD m ts ks tl)),.o [],.no,.no,.no]) rfl ?_
 refine y9 (YK (lo:=0) (c:=m.toNat) (λi ρ=>∃ o6 o7 o8,ρ=[.v (zx m ts),.v (.int p),.v (.tup (tl.map .int)),.v (.lst (wg m ts ks m.toNat)),.v (.lst (rkD m ts ks tl)),.o ((zC p rk i).map wD),o6,o7,o8]) (vV ok) ⟨_,_,_,rfl⟩ ?_ ?_)
 .rintro x ρ hx ⟨o6,o7,o8,rfl⟩
  have hxm:(x:Int) < m:=by omega
  rw[u1w]
  refine⟨[.v (zx m ts),.v (.int p),.v (.tup (tl.map .int)),.v (.lst (wg m ts ks m.toNat)),.v (.lst (rkD m ts ks tl)),.o ((zC p rk x).map wD),.v (.int (x:Int)),o7,o8],rfl,?_⟩
  unfold vA
  have eit:∀ o7 o8:Sl,yY (zb (zm ixD (zc 4) (zc 6)) zr) (visG [.v (zx m ts),.v (.int p),.v (.tup (tl.map .int)),.v (.lst (wg m ts ks m.toNat)),.v (.lst (rkD m ts ks tl)),.o ((zC p rk x).map wD),.v (.int (x:Int)),o7,o8])=some (W1 0 ((rk x).map zy)):=λo7 o8=>by
   unfold yY
   rw[zK (d:=.lst ((rk x).map zy)) (ds:=[]) (zT (x:=.lst (rkD m ts ks tl)) (y:=.int (x:Int)) rfl rfl (by rw[<-hrk];exact zir hxm)) xx]
   rfl
  refine WS (ds:=W1 0 ((rk x).map zy)) (λj ρ=>∃ o7 o8,ρ=[.v (zx m ts),.v (.int p),.v (.tup (tl.map .int)),.v (.lst (wg m ts ks m.toNat)),.v (.lst (rkD m ts ks tl)),.o ((zC p rk x++(zbU p rk x j).map (vQ rk x)).map wD),.v (.int (x:Int)),o7,o8]) (eit o7 o8) ⟨o7,o8,?_⟩ ?_ ?_
  .have:zbU p rk x 0=[]:=by unfold zbU;split <;> simp
   rw[this,u35,u0L]
  .rintro j d ρ hd ⟨o7,o8,rfl⟩
   rw[Xb]at hd
   obtain⟨dd,hdd,rfl⟩:=t7.mp hd
   rw[j7]at hdd
   obtain⟨y,hy,rfl⟩:=t7.mp hdd
   rw[u1n]
   have hyr:=j4 hy
   have hyo:y∈yB m ts ks (x:Int):=yu.mp (by rw[hrk];exact hyr)
   have far:=yi hyo
   have h0:=(hb (x:Int) (by omega) hxm).1
   refine⟨[.v (zx m ts),.v (.int p),.v (.tup (tl.map .int)),.v (.lst (wg m ts ks m.toNat)),.v (.lst (rkD m ts ks tl)),.o ((zC p rk x++(zbU p rk x j).map (vQ rk x)).map wD),.v (.int (x:Int)),.v (.int (j:Int)),.v (zy y)],rfl,?_⟩
   unfold vS
   rw[zfh hy]
   have ew:=Vo (p:=p) (tl:=tl) ok hb (w:=[x]) (y:=y) (yF hyo) (by show(1:Int)<=_;omega)
   rw[hrk]at ew
   have ew:x9 [.lst (rkD m ts ks tl),.tup [.int (x:Int),zy y]]=some (wD (vQ rk x y)):=by
    have e:D.tup [.int (x:Int),zy y]=wD ([x]++[y]):=by unfold wD;rw[<-yx x];rfl
    rw[e]
    exact ew
   refine Vh (c:=decide (0 < j\/(x:Int)=p)) ?_ (λhc=>?_) (λhc=>Yc rfl ⟨.v (.int (j:Int)),.v (zy y),?_⟩)
   .have e1:tOf (zm gtD (zc 7) (eC (.int 0))) (visG [.v (zx m ts),.v (.int p),.v (.tup (tl.map .int)),.v (.lst (wg m ts ks m.toNat)),.v (.lst (rkD m ts ks tl)),.o ((zC p rk x++(zbU p rk x j).map (vQ rk x)).map wD),.v (.int (x:Int)),.v (.int (j:Int)),.v (zy y)])=some (decide (0 < j)):=by
     refine zbM (zT (x:=.int (j:Int)) (y:=.int 0) rfl rfl ?_)
     show some (D.bl (decide ((j:Int) > 0)))=_
     congr 2
     exact u3b.mpr (by omega)
    have e2:tOf (zm zaH (zc 6) (zc 1)) (visG [.v (zx m ts),.v (.int p),.v (.tup (tl.map .int)),.v (.lst (wg m ts ks m.toNat)),.v (.lst (rkD m ts ks tl)),.o ((zC p rk x++(zbU p rk x j).map (vQ rk x)).map wD),.v (.int (x:Int)),.v (.int (j:Int)),.v (zy y)])=some (decide ((x:Int)=p)):=zbM (zT (x:=.int (x:Int)) (y:=.int p) rfl rfl zW)
    rw[zmy e1 e2,Bool.decide_or]
   .have hc:=s0 hc
    rw[j3 hc]
    have hlen:((zC p rk x++(zbU p rk x j).map (vQ rk x)).map wD).length<=1000:=by
     have a1:=Xx (p:=p) (rk:=rk) (n:=x) (by rw[<-hrk];exact hl8) (by omega)
     have a2:(zbU p rk x j).length<=8:=by
      have:=hl8 x
      rw[hrk]at this
      unfold zbU
      split
      .rw[o9];omega
      .rw[i6,o9];omega
     rw[u5,j6,u5]
     omega
    refine Yc (ZI (m:=false) (i:=5) (d:=wD (vQ rk x y)) (ds:=(zC p rk x++(zbU p rk x j).map (vQ rk x)).map wD) (by unfold vEv;rw[j8 u7];exact vW (ds:=[.lst (rkD m ts ks tl),.tup [.int (x:Int),zy y]]) rfl ew) rfl hlen) ⟨.v (.int (j:Int)),.v (zy y),?_⟩
    have e:(zC p rk x++(zbU p rk x j++[y]).map (vQ rk x)).map wD=(zC p rk x++(zbU p rk x j).map (vQ rk x)).map wD++[wD (vQ rk x y)]:=by simp
    rw[e]
    rfl
   .have hc:=u1H hc
    rw[j8 hc,u0L]
  .rintro ρ ⟨o7,o8,rfl⟩
   refine⟨.v (.int (x:Int)),o7,o8,?_⟩
   rw[wJ,u5]
   have:zbU p rk x (rk x).length=Vu p rk x:=by
    unfold zbU Vu
    rw[u1B]
   rw[this,Ze]
 .rintro ρ ⟨o6,o7,o8,rfl⟩
  refine zed (ρ':=[.v (zx m ts),.v (.int p),.v (.tup (tl.map .int)),.v (.lst (wg m ts ks m.toNat)),.v (.lst (rkD m ts ks tl)),.v (.lst ((zC p rk m.toNat).map wD)),o6,o7,o8]) rfl ?_
  obtain⟨h1,h2,h3,h4⟩:=Xw kW (λt=>(t.drop 1).map Int.toNat) wD (λw _=>zcb w) (Yo p (rk:=rk) (by rw[<-hrk];exact hn) m.toNat)
  refine Yc (Zg (i:=0) (ds:=(Xu (zC p rk m.toNat)).map wD) ?_) (by rw[hrk];rfl)
  unfold zfH
  rw[zK (d:=.lst ((zC p rk m.toNat).map wD)) (ds:=[]) rfl xx,d7]
  show(zfS _ _ ((zC p rk m.toNat).map wD)).bind _=_
  have hlen:((zC p rk m.toNat).map wD).length < 10000000:=by
   rw[u5]
   have a1:=Xx (p:=p) (rk:=rk) (n:=m.toNat) (by rw[<-hrk];exact hl8) (by omega)
   exact u0f a1 (by omega)
  rw[zfm (c:=wD) (h:=λw:List Nat=>-(w.length:Int)) (u:=wI) (zC p rk m.toNat) (λw hw=>by
   rw[<-zeM]
   refine Wn (ds:=[.int (-(w.length:Int)),wD w]) (zK (zgK (x:=.int (w.length:Int)) (za5 (ds:=[wD w]) rfl ?_) rfl) (zK rfl xx)) (by show 2<=1000;decide)
   show some (D.int ((w.map zy).length:Int))=_
   rw[u5]),d7,j3 ⟨h4,hlen⟩]
  exact u1o some h1
theorem ZU (T:Txt K mg base ad):yW P w K mg base CX0 7 ad.f_ways_from ad.e_ways_from ["web","root"] (@zjJ ⟨K⟩ 2 wx):=by
 letI:KK:=⟨K⟩
 have G_outer_neighbours:=wu (P:=P) (w:=w) (base:=base) T
 have G_heights_from:=WH (P:=P) (w:=w) (base:=base) T
 have G_way_through:=W6 (P:=P) (w:=w) (base:=base) T
 refine ziY (N:=["web","root","tall","outer","ranked","found","place","at","other"]) (ps:=["web","root"]) T.lc_ways_from T.d_ways_from.fn yl (g:=vJ) (i:=0) λA outer s H E hr=>?_
 unfold vJ vA vS
 exact(wG (yr (m:=false) (i:=2) yl.nd rfl (Or.inr rfl) (zo G_heights_from hr rfl T.d_heights_from (za (edv 0) (za (edv 1) zd))))
  (wG (yr (m:=false) (i:=3) yl.nd rfl (Or.inl rfl) (zo G_outer_neighbours hr rfl T.d_outer_neighbours (za (edv 0) (za (edv 1) zd))))
  (wG (zi8 (m:=false) (i:=4) (zjw (L:=["others"]) (M:=["web","root","tall","outer","ranked","found","place","at","other"]) yl.nd rfl (Or.inl rfl) rfl (wL (by rfl) (by rfl) (by rfl) (by with_unfolding_all rfl) (by rfl) (by rfl) (by kernel_rfl) (all_cons rfl yC)) (xM (edv 3)) gs1 rb1 (λ_ _ _ _=>(zt (i:=0) zmf rfl (Or.inl rfl) (.inr rfl))) (λ_ _ _ _=>(yX (zht (x:="other") (M:=["others","web","root","tall","outer","ranked","found","place","at","·other"]) hr rfl T.z_sorted (za (edv 0) zd) T.la_ways_from rfl (zfE (by rfl) (by rfl) (by rfl) (by with_unfolding_all rfl) (by rfl) (by rfl) (by rfl) (by rfl) (by rfl) (by kernel_rfl) (all_cons rfl yC)) rfl (by kernel_rfl) (λ_ _ _ _=>rfl) (λ_ _ _ _ _=>(x3 (za (Xz (zB (edv 4) (edv 0) (λ_ _=>rfl))) (za (edv 0) zd)))))))))
  (wG (vh (i:=5) yl.nd rfl (Or.inl rfl) (xm zd))
  (wG (xD p7 rfl rfl T.z_range (za (zB (edv 0) (zi zj) (λ_ _=>rfl)) zd) (zM (zt (i:=6) yl.nd rfl (Or.inl rfl))) (zg (Y8 p7 rfl (zeI rfl T.z_enumerate XF (za (zB (edv 4) (edv 6) (λ_ _=>rfl)) zd)) (zcV rfl (wE (zM (zt (i:=7) yl.nd rfl (Or.inl rfl))) (wE (zM (zt (i:=8) yl.nd rfl (Or.inl rfl))) zap))) (zg (x5 (zik (zdN (ya zbr xi (zJ _) (edv 7) (zi zj)) (VG (ya (Z8 hr) vK (zJ _) (edv 6) (edv 1))))) (zg (ZE (m:=false) (pv 5) (zo G_way_through hr rfl T.d_way_through (za (edv 4) (za (x3 (za (edv 6) (za (edv 8) zd))) zd))) (λa b=>Vn u0m u0s u0t xh a b))) zO)))))
  (zjW 5 (zdk (zg3 (x:="way") (M:=["web","root","tall","outer","ranked","found","place","at","other"]) hr rfl T.z_sorted (za (edv 5) zd) T.la_ways_from rfl (zfE (by rfl) (by rfl) (by rfl) (by with_unfolding_all rfl) (by rfl) (by rfl) (by rfl) (by rfl) (by rfl) (by kernel_rfl) yC) rfl (by kernel_rfl) (λ_ _ _ _=>rfl) (λ_ _ _ _ _=>(x3 (za (Xz (zU zI wk rfl T.z_len Ys (za (edv 0) zd))) (za (edv 0) zd))))))))))))
theorem zbq (T:Txt K mg base ad):yW P w K mg base CX0 7 ad.f_ways_from ad.e_ways_from ["web","root"] (@spD ⟨K⟩ 2 p_ways_from):=by
 letI:KK:=⟨K⟩
 exact zih (ZU (P:=P) (w:=w) (base:=base) T)
theorem zdG {F:List (List Nat)}(nd:F.Nodup):(Xu F).Perm F:=(Xw kW (λt=>(t.drop 1).map Int.toNat) wD (λw _=>zcb w) nd).2.1
def xJ (rk:Nat->List Nat):Nat->Nat->List (Nat × Nat)
 | 0,_=>[]
 | n+1,y=>match rk y with
  | []=>[]
  | o::_=>(y,o)::xJ rk n o
def prs (w:List Nat):List (Nat × Nat):=w.zip (w.drop 1)
theorem ze7 (rk:Nat->List Nat):∀ (n y:Nat),prs (y::zR rk n y)=xJ rk n y:=by
 intro n
 induction n with
 | zero=>intro y;rfl
 | succ n ih =>
  intro y
  unfold zR xJ
  cases rk y with
  | nil=>rfl
  | cons o r =>
   show(y,o)::prs (o::zR rk n o)=(y,o)::xJ rk n o
   rw[ih]
theorem Wx (rk:Nat->List Nat)(x y:Nat):prs (vQ rk x y)=(x,y)::xJ rk 8 y:=by
 show(x,y)::prs (y::zR rk 8 y)=_
 rw[ze7]
section
variable {m p:Int}{ts:List Tie}{ks tl:List Int}
theorem zd6:∀ (n y:Nat) {a b:Nat},(a,b)∈xJ (rkN m ts ks tl) n y->∃ r,rkN m ts ks tl a=b::r:=by
 intro n
 induction n with
 | zero=>intro y a b h;cases h
 | succ n ih =>
  intro y a b h
  unfold xJ at h
  cases hr:rkN m ts ks tl y with
  | nil=>rw[hr]at h;cases h
  | cons o r =>
   rw[hr]at h
   rcases j5.mp h with h | h
   .cases h;exact⟨r,hr⟩
   .exact ih o h
theorem zcS:∀ (n y:Nat) {a b:Nat},(a,b)∈xJ (rkN m ts ks tl) n y->vAt ks (y:Int)<=vAt ks (a:Int):=by
 intro n
 induction n with
 | zero=>intro y a b h;cases h
 | succ n ih =>
  intro y a b h
  unfold xJ at h
  cases hr:rkN m ts ks tl y with
  | nil=>rw[hr]at h;cases h
  | cons o r =>
   rw[hr]at h
   have far:=yi (yu.mp (show o∈rkN m ts ks tl y by rw[hr];exact .head _))
   rcases j5.mp h with h | h
   .cases h;exact u2l _
   .have:=ih o h;omega
theorem zhG:∀ (n y:Nat),(xJ (rkN m ts ks tl) n y).Pairwise λu v=>vAt ks (u.1:Int) < vAt ks (v.1:Int):=by
 intro n
 induction n with
 | zero=>intro y;exact .nil
 | succ n ih =>
  intro y
  unfold xJ
  cases hr:rkN m ts ks tl y with
  | nil=>exact .nil
  | cons o r =>
   have far:=yi (yu.mp (show o∈rkN m ts ks tl y by rw[hr];exact .head _))
   exact .cons (λv hv=>by have:=zcS n o (a:=v.1) (b:=v.2) hv;show vAt ks (y:Int) < _;omega) (ih o)
theorem zdI:∀ (n y:Nat) {a b:Nat},(a,b)∈xJ (rkN m ts ks tl) n y->a=y\/∃ q,(q,a)∈xJ (rkN m ts ks tl) n y:=by
 intro n
 induction n with
 | zero=>intro y a b h;cases h
 | succ n ih =>
  intro y a b h
  unfold xJ at h ⊢
  cases hr:rkN m ts ks tl y with
  | nil=>rw[hr]at h;cases h
  | cons o r =>
   rw[hr]at h
   rcases j5.mp h with h | h
   .cases h;exact .inl rfl
   .rcases ih o h with rfl | ⟨q,hq⟩
    .exact .inr ⟨y,.head _⟩
    .exact .inr ⟨q,.tail _ hq⟩
theorem zdB (hb:∀ x:Int,0<=x->x < m->0<=vAt ks x/\vAt ks x < m):∀ (n y:Nat),(y:Int) < m->m - vAt ks (y:Int)<=(n:Int)->∀ {a o:Nat} {r:List Nat},(a=y\/∃ q,(q,a)∈xJ (rkN m ts ks tl) n y)->rkN m ts ks tl a=o::r->(a,o)∈xJ (rkN m ts ks tl) n y:=by
 intro n
 induction n with
 | zero =>
  intro y hy h
  have:=(hb (y:Int) (by omega) hy).2
  omega
 | succ n ih =>
  intro y hy h a o r ha hr
  unfold xJ at ha ⊢
  cases hy2:rkN m ts ks tl y with
  | nil =>
   rw[hy2]at ha
   rcases ha with rfl | ⟨q,hq⟩
   .rw[hr]at hy2;cases hy2
   .cases hq
  | cons o2 r2 =>
   rw[hy2]at ha
   have ho:=yu.mp (show o2∈rkN m ts ks tl y by rw[hy2];exact .head _)
   have far:=yi ho
   rcases ha with rfl | ⟨q,hq⟩
   .rw[hr]at hy2
    cases hy2
    exact .head _
   .refine .tail _ (ih o2 (yF ho) (by omega) ?_ hr)
    rcases j5.mp hq with hq | hq
    .cases hq;exact .inl rfl
    .exact .inr ⟨q,hq⟩
theorem Xd {x y a b:Nat}(h:(a,b)∈prs (vQ (rkN m ts ks tl) x y)):(a=x/\b=y)\/((∃ r,rkN m ts ks tl a=b::r)/\∃ q,(q,a)∈prs (vQ (rkN m ts ks tl) x y)):=by
 rw[Wx]at h ⊢
 rcases j5.mp h with h | h
 .cases h;exact .inl ⟨rfl,rfl⟩
 .refine .inr ⟨zd6 8 y h,?_⟩
  rcases zdI 8 y h with rfl | ⟨q,hq⟩
  .exact⟨x,.head _⟩
  .exact⟨q,.tail _ hq⟩
theorem vb {w:List Nat}(h:w∈zC p (rkN m ts ks tl) m.toNat):∃ x y:Nat,(x:Int) < m/\y∈Vu p (rkN m ts ks tl) x/\w=vQ (rkN m ts ks tl) x y:=by
 unfold zC at h
 obtain⟨x,hx,hw⟩:=u1X.mp h
 obtain⟨y,hy,rfl⟩:=u0A.mp hw
 have hx:=i8.mp hx
 exact⟨x,y,by omega,hy,rfl⟩
theorem YU {w:List Nat}(hw:w∈zC p (rkN m ts ks tl) m.toNat){a b:Nat}(h:(a,b)∈prs w):b∈yB m ts ks (a:Int):=by
 obtain⟨x,y,hx,hy,rfl⟩:=vb hw
 rcases Xd h with ⟨rfl,rfl⟩ | ⟨⟨r,hr⟩,_⟩
 .exact yu.mp (X5 hy)
 .exact yu.mp (show b∈rkN m ts ks tl a by rw[hr];exact .head _)
variable (ok:zH m ts)(htl:(ts.length:Int)=m - 1)(hp:0<=p/\p < m)(hks:Ya m ts p=ks.map some)(hkl:(ks.length:Int)=m)(hb:∀ x:Int,0<=x->x < m->0<=vAt ks x/\vAt ks x < m)
include ok htl hp hks hkl hb
theorem zga:∀ (n a:Nat),(a:Int) < m->vAt ks (a:Int)<=(n:Int)->∀ {b:Nat},b∈rkN m ts ks tl a->∃ w∈zC p (rkN m ts ks tl) m.toNat,(a,b)∈prs w:=by
 intro n
 induction n with
 | zero =>
  intro a ha hn b hbb
  have h0:=(hb (a:Int) (by omega) ha).1
  have hap:(a:Int)=p:=by
   by_cases c:(a:Int)=p
   .exact c
   .obtain⟨q,hq⟩:=Wy (x:=(a:Int)) ok hp hks hkl ⟨by omega,ha⟩ c
    obtain⟨h1,h2⟩:=(Zu ok).mp hq
    have h3:=(h1.rng ok).2
    have:=(hb (q:Int) h3.1 h3.2).1
    omega
  refine⟨vQ (rkN m ts ks tl) a b,?_,by rw[Wx];exact .head _⟩
  refine u1X.mpr ⟨a,i8.mpr (by omega),u2o ?_⟩
  unfold Vu
  rw[j3 hap]
  exact hbb
 | succ n ih =>
  intro a ha hn b hbb
  by_cases c:b∈Vu p (rkN m ts ks tl) a
  .exact⟨vQ (rkN m ts ks tl) a b,u1X.mpr ⟨a,i8.mpr (by omega),u2o c⟩,by rw[Wx];exact .head _⟩
  .have hap:(a:Int)≠p:=λe=>c (by unfold Vu;rw[j3 e];exact hbb)
   obtain⟨r,hr⟩:∃ r,rkN m ts ks tl a=b::r:=by
    cases h:rkN m ts ks tl a with
    | nil=>rw[h]at hbb;cases hbb
    | cons o r =>
     rw[h]at hbb
     rcases j5.mp hbb with rfl | hbb
     .exact⟨r,rfl⟩
     .refine absurd ?_ c
      unfold Vu
      rw[j8 hap,h]
      exact hbb
   obtain⟨q,hq⟩:=Wy (x:=(a:Int)) ok hp hks hkl ⟨by omega,ha⟩ hap
   obtain⟨h1,h2⟩:=(Zu ok).mp hq
   have h3:=(h1.rng ok).2
   obtain⟨w,hw,hqa⟩:=ih q h3.2 (by omega) (yu.mpr ((zeW ok).mp hq))
   refine⟨w,hw,?_⟩
   obtain⟨x,y,hx,hy,rfl⟩:=vb hw
   rw[Wx]at hqa ⊢
   have hyo:=yu.mp (X5 hy)
   have hfar:=yi hyo
   have hx0:=(hb (x:Int) (by omega) hx).1
   have hm8:=ok.hi
   refine .tail _ (zdB hb 8 y (yF hyo) (by omega) ?_ hr)
   rcases j5.mp hqa with hqa | hqa
   .cases hqa;exact .inl rfl
   .exact .inr ⟨q,hqa⟩
theorem zf8:∀ (n a b:Nat),(a:Int) < m->vAt ks (a:Int)<=(n:Int)->∀ {w v:List Nat},w∈zC p (rkN m ts ks tl) m.toNat->v∈zC p (rkN m ts ks tl) m.toNat->(a,b)∈prs w->(a,b)∈prs v->w=v:=by
 have start:∀ {a b x y:Nat},b∈Vu p (rkN m ts ks tl) a->∀ r,rkN m ts ks tl a=b::r->(∃ q,(q,a)∈prs (vQ (rkN m ts ks tl) x y))->vQ (rkN m ts ks tl) x y∈zC p (rkN m ts ks tl) m.toNat->False:=by
  intro a b x y hs r hr ⟨q,hq⟩ hv
  have hao:=YU hv hq
  have hqm:(q:Int) < m:=by
   have:=((xG ok).mp hao).1
   exact(this.rng ok).1.2
  have hap:=zcX hp hks hkl hb ⟨by omega,hqm⟩ hao
  unfold Vu at hs
  rw[j8 hap,hr]at hs
  have nd:=Yf m ts ks tl a
  rw[hr]at nd
  exact(u0d.mp nd).1 hs
 intro n
 induction n with
 | zero =>
  intro a b ha hn w v hw hv h1 h2
  have key:∀ {w:List Nat},w∈zC p (rkN m ts ks tl) m.toNat->(a,b)∈prs w->w=vQ (rkN m ts ks tl) a b:=λ{w} hw h=>by
   have hw':=hw
   obtain⟨x,y,hx,hy,rfl⟩:=vb hw
   rcases Xd h with ⟨rfl,rfl⟩ | ⟨_,q,hq⟩
   .rfl
   .have hao:=YU hw' hq
    have far:=yi hao
    have hqm:(q:Int) < m:=((((xG ok).mp hao).1).rng ok).1.2
    have:=(hb (q:Int) (by omega) hqm).1
    omega
  rw[key hw h1,key hv h2]
 | succ n ih =>
  intro a b ha hn w v hw hv h1 h2
  have hw':=hw
  have hv':=hv
  obtain⟨x,y,hx,hy,rfl⟩:=vb hw
  obtain⟨x2,y2,hx2,hy2,rfl⟩:=vb hv
  rcases Xd h1 with ⟨rfl,rfl⟩ | ⟨⟨r,hr⟩,q,hq⟩
  .rcases Xd h2 with ⟨rfl,rfl⟩ | ⟨⟨r,hr⟩,hq⟩
   .rfl
   .exact(start hy r hr hq hv').elim
  .rcases Xd h2 with ⟨rfl,rfl⟩ | ⟨_,q2,hq2⟩
   .exact(start hy2 r hr ⟨q,hq⟩ hw').elim
   .have o1:=YU hw' hq
    have o2:=YU hv' hq2
    have hqm:(q:Int) < m:=((((xG ok).mp o1).1).rng ok).1.2
    have e:=zhc ok htl hp hks hkl hb hqm o1 o2
    subst e
    have far:=yi o1
    exact ih q a hqm (by omega) hw' hv' hq hq2
theorem zck:((zC p (rkN m ts ks tl) m.toNat).flatMap prs).Nodup:=by
 rw[u0Y,List.pairwise_flatMap]
 refine⟨λw hw=>?_,?_⟩
 .obtain⟨x,y,hx,hy,rfl⟩:=vb hw
  rw[Wx]
  have far:=yi (yu.mp (X5 hy))
  refine .cons (λv hv e=>?_) ((zhG 8 y).imp λh e=>by rw[e]at h;omega)
  have:=zcS 8 y (a:=v.1) (b:=v.2) hv
  rw[<-e]at this
  have:vAt ks (y:Int)<=vAt ks (x:Int):=this
  omega
 .have nd:=Yo p (Yf m ts ks tl) m.toNat
  refine u3O (λ{w v} hw hv hne u hu z hz e=>hne ?_) nd
  subst e
  have ho:=YU hw (a:=u.1) (b:=u.2) hu
  have hum:((u.1:Nat):Int) < m:=((((xG ok).mp ho).1).rng ok).1.2
  exact zf8 ok htl hp hks hkl hb (vAt ks (u.1:Int)).toNat u.1 u.2 hum (by have:=(hb (u.1:Int) (by omega) hum).1;omega) hw hv hu hz
theorem YH {a b:Nat}:(a,b)∈(zC p (rkN m ts ks tl) m.toNat).flatMap prs↔b∈yB m ts ks (a:Int):=by
 rw[u1X]
 constructor
 .rintro⟨w,hw,h⟩
  exact YU hw h
 .intro h
  have ham:(a:Int) < m:=((((xG ok).mp h).1).rng ok).1.2
  exact zga ok htl hp hks hkl hb (vAt ks (a:Int)).toNat a ham (by have:=(hb (a:Int) (by omega) ham).1;omega) (yu.mpr h)
def WV (u:Nat × Nat):Tie:=(if (u.2:Int) < (u.1:Int)then (u.2:Int)else (u.1:Int),if (u.2:Int) > (u.1:Int)then (u.2:Int)else (u.1:Int))
omit htl hp hks hkl hb in
theorem zhd {u:Nat × Nat}(h:u.2∈yB m ts ks (u.1:Int)):WV u∈ts:=by
 rcases((xG ok).mp h).1 with h | h
 .have r:=ok.rng _ h
  dsimp only at r
  unfold WV
  rw[j8 (by omega),j3 (by omega)]
  exact h
 .have r:=ok.rng _ h
  dsimp only at r
  unfold WV
  rw[j3 (by omega),j8 (by omega)]
  exact h
theorem zfD:(((zC p (rkN m ts ks tl) m.toNat).flatMap prs).map WV).Perm ts:=by
 have nd1:(((zC p (rkN m ts ks tl) m.toNat).flatMap prs).map WV).Nodup:=by
  refine xO (λu hu v hv e=>?_) (zck ok htl hp hks hkl hb)
  have f1:=yi ((YH ok htl hp hks hkl hb).mp (show(u.1,u.2)∈_ from hu))
  have f2:=yi ((YH ok htl hp hks hkl hb).mp (show(v.1,v.2)∈_ from hv))
  unfold WV at e
  obtain⟨e1,e2⟩:=Prod.mk.inj e
  have key:(u.1=v.1/\u.2=v.2)\/(u.1=v.2/\u.2=v.1):=by
   split at e1 <;> split at e2 <;> omega
  rcases key with ⟨k1,k2⟩ | ⟨k1,k2⟩
  .exact u2D k1 k2
  .rw[k1,k2]at f1;omega
 have nd2:ts.Nodup:=ok.srt.imp λh e=>by subst e;unfold ltP at h;omega
 refine(u3x nd1 nd2).mpr λt=>⟨λh=>?_,λh=>?_⟩
 .obtain⟨u,hu,rfl⟩:=u0A.mp h
  exact zhd ok ((YH ok htl hp hks hkl hb).mp (show(u.1,u.2)∈_ from hu))
 .have r:=ok.rng t h
  have ha:adj ts t.1 t.2:=.inl h
  rcases zhP ok htl hp hks hkl ha with hl | hl
  .refine u0A.mpr ⟨(t.1.toNat,t.2.toNat),(YH ok htl hp hks hkl hb).mpr ((xG ok).mpr ⟨?_,?_⟩),?_⟩
   .rw[show((t.1.toNat:Nat):Int)=t.1 by omega,show((t.2.toNat:Nat):Int)=t.2 by omega]
    exact ha
   .rw[show((t.1.toNat:Nat):Int)=t.1 by omega,show((t.2.toNat:Nat):Int)=t.2 by omega]
    exact hl
   .unfold WV
    dsimp only
    rw[j8 (by omega),j3 (by omega)]
    exact u2D (by dsimp only;omega) (by dsimp only;omega)
  .refine u0A.mpr ⟨(t.2.toNat,t.1.toNat),(YH ok htl hp hks hkl hb).mpr ((xG ok).mpr ⟨?_,?_⟩),?_⟩
   .rw[show((t.1.toNat:Nat):Int)=t.1 by omega,show((t.2.toNat:Nat):Int)=t.2 by omega]
    exact ha.symm
   .rw[show((t.1.toNat:Nat):Int)=t.1 by omega,show((t.2.toNat:Nat):Int)=t.2 by omega]
    exact hl
   .unfold WV
    dsimp only
    rw[j3 (by omega),j8 (by omega)]
    exact u2D (by dsimp only;omega) (by dsimp only;omega)
end
theorem zkw {m:Int}{ts:List Tie}(ok:zH m ts):zX [zx m ts]=some .non:=by
 have hw:vp (zx m ts)=true:=(xB _).mpr ⟨_,_,rfl,ok⟩
 simp[zX,hw]
def zcP:SE->Ctl :=
 (zS (X0 (zz 1 zX (zb (zc 0) zr)))
  (zS (X0 (zz 2 yG (zb (zc 0) (zb (zc 1) zr))))
  (zS (X0 (zz 1 wX (zb (zc 0) zr)))
  (vY 0 (zbQ 2 wx (zb (zc 0) (zb (zc 1) zr)))))))
def zbz:List D->Option (List D):=zim 2 zcP 0
def zel:List D->Option D:=λds=>(zbz ds).map .lst
theorem zf7 {m p:Int}{ts:List Tie}{W:List (List Nat)}(ok:zH m ts)(hj:Yg m ts)(htl:(ts.length:Int)=m - 1)(hp:0<=p/\p < m)(e:wx [zx m ts,.int p]=some (W.map wD)):zbz [zx m ts,.int p]=some (W.map wD):=by
 refine zh7 (ρ:=[.v (zx m ts),.v (.int p)]) rfl ?_
 unfold zcP
 refine zA (V9 (d:=.non) (zkw ok)) ?_
 refine zA (V9 (d:=.non) (zdA (ts:=ts) hp)) ?_
 refine zA (V9 (d:=.non) (WX ok hj htl)) ?_
 exact Yc (Zg (i:=0) (ds:=W.map wD) (zdd (ds:=[_,_]) rfl e)) rfl
theorem zc0 (T:Txt K mg base ad):yW P w K mg base CX0 12 ad.f_ways ad.e_ways ["web","place"] (@zjJ ⟨K⟩ 2 zbz):=by
 letI:KK:=⟨K⟩
 have G_must_be_web:=Y7 (P:=P) (w:=w) (base:=base) T
 have G_must_be_place:=XR (P:=P) (w:=w) (base:=base) T
 have G_must_be_tree:=Wr (P:=P) (w:=w) (base:=base) T
 have G_ways_from:=zbq (P:=P) (w:=w) (base:=base) T
 have O_ways_from:=ZU (P:=P) (w:=w) (base:=base) T
 refine zkC (N:=["web","place"]) (ps:=["web","place"]) T.d_ways.fn ziT (g:=zcP) (i:=0) λcdv A outer s H E hr=>?_
 unfold zcP
 exact(wG (VP (zo G_must_be_web hr rfl T.d_must_be_web (za (edv 0) zd)))
  (wG (VP (zo G_must_be_place hr rfl T.d_must_be_place (za (edv 0) (za (edv 1) zd))))
  (wG (VP (zo G_must_be_tree hr rfl T.d_must_be_tree (za (edv 0) zd)))
  (zdk (ze5 (O_ways_from.mono (by decide)) hr rfl T.d_ways_from.at_ T.d_ways_from.kp T.d_ways_from.bd (za (edv 0) (za (edv 1) zd)))))))
theorem ziH (T:Txt K mg base ad):yW P w K mg base CX0 12 ad.f_ways ad.e_ways ["web","place"] (@spD ⟨K⟩ 2 zel):=by
 letI:KK:=⟨K⟩
 exact zih (zc0 (P:=P) (w:=w) (base:=base) T)
theorem WG {ts:List Tie}(h:ts.length < 64):Xv [.lst (ts.map zp)]=some ((Zy ts).map zp):=by
 show(if (ts.map zp).length < 64 then _ else none)=_
 rw[j3 (by rw[u5];exact h),show WP (ts.map zp)=some ts from Wv ts]
 rfl
def zjR (tl:List Int)(o:Nat):Tie:=(-vAt tl (o:Int),(o:Int))
theorem zf1 {m:Int}{ts:List Tie}{ks tl:List Int}{x:Nat}:Zy ((yB m ts ks (x:Int)).map (zjR tl))=(rkN m ts ks tl x).map (zjR tl):=by
 symm
 obtain⟨_,h2,h3,_⟩:=Ws (λo=>-vAt tl (o:Int)) zy (ZZ m ts ks (x:Int))
 refine Xn (h2.map _) ?_
 rw[u0Q]
 refine h3.imp λ{a b} h=>?_
 unfold OwnSort.bltP
 refine h9 λh2=>?_
 have h2:-vAt tl (b:Int) < -vAt tl (a:Int)\/-vAt tl (b:Int)=-vAt tl (a:Int)/\(b:Int) < (a:Int):=h2
 have h:-vAt tl (a:Int) < -vAt tl (b:Int)\/-vAt tl (a:Int)=-vAt tl (b:Int)/\a < b:=h
 omega
theorem ziG (l:List Nat):zjM (.lst (l.map zy)) (.lst [])=some (.bl (!decide (l=[]))):=by
 have hk:okE 20 (.lst (l.map zy))=true:=by
  show(l.map zy).all (okE 19)=true
  rw[u15,u0o]
  exact λt _=>rfl
 show(if (okE 20 (.lst (l.map zy))&&true)=true then _ else none)=_
 rw[hk,j3 (show(true&&true)=true from rfl)]
 cases l <;> rfl
def muL:SE->Nat
 | [_,_,_,.o ds]=>10 - ds.length
 | _=>0
theorem zgn {m:Int}{ts:List Tie}{ks:List Int}{x:Nat}(hx:(x:Int) < m):L2.atI (wg m ts ks m.toNat) (x:Int)=some (.lst ((yB m ts ks (x:Int)).map zy)):=zh6 ⟨by omega,hx⟩
def YE:SE->Ctl :=
 (ZY true 3 (zm ixD (zm ixD (yT (fFn Xv (zb (yT (fLC (iOf (zm ixD (zc 0) (zm ixD (zc 3) (eUn ZC (eC (.int 1)))))) b1 yM (wQ (zb (eUn ZC (zm ixD (zc 2) (zc 0))) (zb (zc 0) zr))))) zr))) (eC (.int 0))) (eC (.int 1))))
def YW:SE->Ctl :=
 (zS (vY 3 (yc (zb (zc 2) zr)))
  (zS (Yd (tOf (zm zjM (zm ixD (zc 0) (zm ixD (zc 3) (eUn ZC (eC (.int 1))))) (yT (yc zr)))) YE 10)
  (sFz 3 (yU (zc 3)))))
def xA:List D->Option D:=fnD 4 YW
theorem zdK {m:Int}{ts:List Tie}{ks tl:List Int}(ok:zH m ts)(hb:∀ x:Int,0<=x->x < m->0<=vAt ks x/\vAt ks x < m)(htl:(tl.length:Int)=m){y:Nat}(hy:(y:Int) < m):xA [.lst (wg m ts ks m.toNat),.lst (tl.map .int),.int (y:Int)]=some (.lst ((y::zR (rkN m ts ks tl) 9 y).map zy)):=by
 have hm8:=ok.hi
 obtain⟨O,hO⟩:∃ O,wg m ts ks m.toNat=O:=⟨_,rfl⟩
 obtain⟨T,hT⟩:∃ T,y::zR (rkN m ts ks tl) 9 y=T:=⟨_,rfl⟩
 rw[hT,hO]
 have hb0:=hb (y:Int) (by omega) hy
 refine Vm (ρ:=[.v (.lst O),.v (.lst (tl.map .int)),.v (.int (y:Int)),.no]) rfl ?_
 unfold YW
 refine zA (ρ':=[.v (.lst O),.v (.lst (tl.map .int)),.v (.int (y:Int)),.o (([]++[y]).map zy)]) (Zg (ds:=([]++[y]).map zy) (zeJ (ds:=[zy y]) (by rw[yx];rfl) (by show 1<=1000;decide))) ?_
 refine y9 (Wo (fun ρ=>∃ (w:List Nat) (z:Nat),ρ=[.v (.lst O),.v (.lst (tl.map .int)),.v (.int (y:Int)),.o ((w++[z]).map zy)]/\(z:Int) < m/\(w.length:Int)<=vAt ks (z:Int)/\w++[z]++zR (rkN m ts ks tl) (9 - w.length) z=T) muL ?_ 10 _ ⟨[],y,rfl,hy,hb0.1,hT⟩ (by show 10 - 1 < 10;decide))
 rintro ρ ⟨w,z,rfl,hz,hl,hT⟩
 have hbb:=hb (z:Int) (by omega) hz
 have e1:zm ixD (zc 0) (zm ixD (zc 3) (eUn ZC (eC (.int 1)))) (visG [.v (.lst O),.v (.lst (tl.map .int)),.v (.int (y:Int)),.o ((w++[z]).map zy)])=some (.lst ((yB m ts ks (z:Int)).map zy)):=by
  refine zT (x:=.lst O) (y:=zy z) rfl (zT (x:=.lst ((w++[z]).map zy)) (y:=.int (-1)) rfl rfl zek) ?_
  rw[yx,<- hO]
  exact zgn hz
 have hpm:=wH m ts ks tl z
 refine⟨!decide (yB m ts ks (z:Int)=[]),zbM (zT (x:=.lst ((yB m ts ks (z:Int)).map zy)) (y:=.lst []) e1 rfl (ziG _)),λhc=>?_,λhc=>?_⟩
 .have hne:yB m ts ks (z:Int)≠[]:=by simpa using hc
  obtain⟨o,r,hr⟩:∃ o r,rkN m ts ks tl z=o::r:=by
   cases h:rkN m ts ks tl z with
   | nil=>rw[h]at hpm;exact absurd hpm.symm.eq_nil hne
   | cons o r=>exact⟨o,r,rfl⟩
  have ho:o∈yB m ts ks (z:Int):=yu.mp (by rw[hr];exact .head _)
  have far:=yi ho
  unfold YE
  have e2:zm ixD (zm ixD (yT (fFn Xv (zb (yT (fLC (iOf (zm ixD (zc 0) (zm ixD (zc 3) (eUn ZC (eC (.int 1)))))) b1 yM (wQ (zb (eUn ZC (zm ixD (zc 2) (zc 0))) (zb (zc 0) zr))))) zr))) (eC (.int 0))) (eC (.int 1)) (visG [.v (.lst O),.v (.lst (tl.map .int)),.v (.int (y:Int)),.o ((w++[z]).map zy)])=some (.int (o:Int)):=by
   refine zT (x:=zp (zjR tl o)) (y:=.int 1) (zT (x:=.lst (((o::r).map (zjR tl)).map zp)) (y:=.int 0) (wn (zex (ds:=[.lst (((yB m ts ks (z:Int)).map (zjR tl)).map zp)]) (zK (wn ?_) xx) ?_)) rfl (ZG (u2l _) rfl)) rfl rfl
   .unfold fLC
    rw[ZX e1 rfl,d7,j3 (zfx (by rw[u5];exact wa ok)),u0j]
    refine wV zy (zp ∘ zjR tl) (yB m ts ks (z:Int)) λu hu=>⟨[some (zy u)],rfl,rfl,?_⟩
    have hum:=yF hu
    rw[yx]
    exact Wn (ds:=[.int (-vAt tl (u:Int)),.int (u:Int)]) (zK (zgK (x:=.int (vAt tl (u:Int))) (zT (x:=.lst (tl.map .int)) (y:=.int (u:Int)) rfl rfl (zbd (ns:=tl) ⟨by omega,hum⟩ htl)) rfl) (zK rfl xx)) (by show 2<=1000;decide)
   .rw[WG (by rw[u5];have:=wa (ks:=ks) (x:=(z:Int)) ok;omega),zf1,hr]
  refine Yc (ρ':=[.v (.lst O),.v (.lst (tl.map .int)),.v (.int (y:Int)),.o ((w++[z]++[o]).map zy)]) ?_ ⟨⟨w++[z],o,rfl,yF ho,?_,?_⟩,?_⟩
  .refine(ZI (m:=true) (i:=3) (d:=.int (o:Int)) (ds:=(w++[z]).map zy) (by unfold vEv;rw[j3 rfl,e2];rfl) rfl (by rw[u5,j6];show w.length+1<=1000;omega)).trans ?_
   rw[u0M (l₂:=[o]),<- yx o]
   rfl
  .rw[j6]
   show((w.length+1:Nat):Int)<=_
   omega
  .rw[<-hT,j6]
   show w++[z]++[o]++zR (rkN m ts ks tl) (9 - (w.length+1)) o=_
   rw[show 9 - w.length=(9 - (w.length+1))+1 by omega]
   conv=>rhs;unfold zR
   rw[hr]
   simp
  .show 10 - ((w++[z]++[o]).map zy).length < 10 - ((w++[z]).map zy).length
   rw[u5,u5,j6,j6]
   show 10 - (w.length+1+1) < 10 - (w.length+1)
   omega
 .have hnil:yB m ts ks (z:Int)=[]:=by simpa using hc
  rw[hnil]at hpm
  have hr:=hpm.eq_nil
  have:zR (rkN m ts ks tl) (9 - w.length) z=[]:=by
   rw[show 9 - w.length=(8 - w.length)+1 by omega]
   unfold zR
   rw[hr]
  rw[this,u0L]at hT
  rw[hT]
  exact zed (ρ':=[.v (.lst O),.v (.lst (tl.map .int)),.v (.int (y:Int)),.v (.lst (T.map zy))]) rfl (XD rfl rfl)
theorem zb5 (T:Txt K mg base ad):yW P w K mg base CX0 1 ad.f__law_way ad.e__law_way ["outer","tall","first"] (@spD ⟨K⟩ 3 xA):=by
 letI:KK:=⟨K⟩
 refine xw (N:=["outer","tall","first","found"]) (ps:=["outer","tall","first"]) T.d__law_way.fn Wf (g:=YW) λcdv A outer s H E hr=>?_
 unfold YW YE
 exact(ze (vh (i:=3) Wf.nd rfl (Or.inl rfl) (xm (za (edv 2) zd)))
  (ze (zaw 10 p7 (ya (zis hr) zeU (zJ _) (zB (edv 0) (zB (edv 3) (Xz (zi zj)) (λ_ _=>rfl)) (λ_ _=>rfl)) (yX (xm zd))) (zg (ZE (m:=true) (pv 3) (zB (zB (yX (ZJ rfl rfl T.z_sorted (za (yX (XC (L:=["other"]) (M:=["outer","tall","first","found"]) rfl (wL (by rfl) (by rfl) (by rfl) (by with_unfolding_all rfl) (by rfl) (by rfl) (by kernel_rfl) (all_cons rfl yC)) (xM (zB (edv 0) (zB (edv 3) (Xz (zi zj)) (λ_ _=>rfl)) (λ_ _=>rfl))) gs1 rb1 (λ_ _ _ _=>(zt (i:=0) zmt rfl (Or.inl rfl) (.inr rfl))) (λ_ _ _ _=>(x3 (za (Xz (zB (edv 2) (edv 0) (λ_ _=>rfl))) (za (edv 0) zd)))))) zd))) (zi zj) (λ_ _=>rfl)) (zi zj) (λ_ _=>rfl)) (λa b=>Vn u0m u0s u0t xh a b))))
  (YG 3 (zg (zE (edv 3))))))
def zbD (m:Int)(ts:List Tie)(ks tl:List Int)(x:Nat):List Nat:=(yB m ts ks (x:Int)).filter λo=>!decide (some o=(rkN m ts ks tl x).head?)
def zk4 (m p:Int)(ts:List Tie)(ks tl:List Int):List (List Nat):=(if m=1 then []else [p.toNat::zR (rkN m ts ks tl) 9 p.toNat])++(List.range m.toNat).flatMap λx=>(zbD m ts ks tl x).map (vQ (rkN m ts ks tl) x)
theorem zd9 {m:Int}{ts:List Tie}{ks tl:List Int}(hb:∀ x:Int,0<=x->x < m->0<=vAt ks x/\vAt ks x < m):∀ (n y:Nat),(y:Int) < m->m - vAt ks (y:Int)<=(n:Int)->zR (rkN m ts ks tl) (n+1) y=zR (rkN m ts ks tl) n y:=by
 intro n
 induction n with
 | zero =>
  intro y hy h
  have:=(hb (y:Int) (by omega) hy).2
  omega
 | succ n ih =>
  intro y hy h
  conv=>lhs;unfold zR
  conv=>rhs;unfold zR
  cases hr:rkN m ts ks tl y with
  | nil=>rfl
  | cons o r =>
   have ho:=yu.mp (show o∈rkN m ts ks tl y by rw[hr];exact .head _)
   have far:=yi ho
   show o::zR (rkN m ts ks tl) (n+1) o=o::zR (rkN m ts ks tl) n o
   rw[ih o (yF ho) (by omega)]
theorem zaI {α β:Type}[DecidableEq α]{S G:α->List β}{E:List β}{p:α}(h1:∀ x,x≠p->(S x).Perm (G x))(h2:(S p).Perm (E++G p)):∀ {l:List α},l.Nodup->((p∈l->(l.flatMap S).Perm (E++l.flatMap G))/\(p∉l->(l.flatMap S).Perm (l.flatMap G))):=by
 intro l
 induction l with
 | nil=>intro _;exact⟨λh=>(by cases h),λ_=>.nil⟩
 | cons a l ih =>
  intro nd
  obtain⟨n1,n2⟩:=u0d.mp nd
  obtain⟨i1,i2⟩:=ih n2
  rw[List.flatMap_cons,List.flatMap_cons]
  constructor
  .intro h
   by_cases c:a=p
   .subst c
    have:=(h2.append (i2 n1))
    rw[b9]at this
    exact this
   .have hp:p∈l:=by
     rcases j5.mp h with h | h
     .exact absurd h.symm c
     .exact h
    refine((h1 a c).append (i1 hp)).trans ?_
    rw[<-b9,<- b9]
    exact(u1m).append_right _
  .intro h
   have ha:a≠p:=λe=>h (e ▸ .head _)
   exact(h1 a ha).append (i2 λhp=>h (.tail _ hp))
theorem WN {m:Int}{ts:List Tie}{ks tl:List Int}{x:Nat}:(zbD m ts ks tl x).Perm ((rkN m ts ks tl x).drop 1):=by
 unfold zbD
 refine((wH m ts ks tl x).symm.filter _).trans ?_
 cases hr:rkN m ts ks tl x with
 | nil=>exact .nil
 | cons o r =>
  have nd:=Yf m ts ks tl x
  rw[hr]at nd
  obtain⟨n1,_⟩:=u0d.mp nd
  rw[List.filter_cons_of_neg (by simp)]
  have:r.filter (λu=>!decide (some u=(o::r).head?))=r:=by
   refine List.filter_eq_self.mpr λu hu=>?_
   have:u≠o:=λe=>n1 (e ▸ hu)
   simp[this]
  rw[this]
  exact .refl _
theorem zgO {m p:Int}{ts:List Tie}{ks tl:List Int}(hp:0<=p/\p < m)(hb:∀ x:Int,0<=x->x < m->0<=vAt ks x/\vAt ks x < m)(hm8:m<=8)(hne:m≠1->rkN m ts ks tl p.toNat≠[])(he:m=1->rkN m ts ks tl p.toNat=[]):(zC p (rkN m ts ks tl) m.toNat).Perm (zk4 m p ts ks tl):=by
 unfold zC zk4
 have hpn:((p.toNat:Nat):Int)=p:=by omega
 refine(zaI (p:=p.toNat) (λx hx=>?_) ?_ u0V).1 (i8.mpr (by omega))
 .have hx:¬ (x:Int)=p:=λe=>hx (by omega)
  unfold Vu
  rw[j8 hx]
  exact(WN.symm).map _
 .unfold Vu
  rw[j3 hpn]
  by_cases c:m=1
  .rw[j3 c,he c]
   have h2:=WN (m:=m) (ts:=ts) (ks:=ks) (tl:=tl) (x:=p.toNat)
   rw[he c]at h2
   rw[h2.eq_nil]
   exact .nil
  .rw[j8 c]
   cases hr:rkN m ts ks tl p.toNat with
   | nil=>exact absurd hr (hne c)
   | cons o r =>
    have ho:=yu.mp (show o∈rkN m ts ks tl p.toNat by rw[hr];exact .head _)
    have h2:=WN (m:=m) (ts:=ts) (ks:=ks) (tl:=tl) (x:=p.toNat)
    rw[hr]at h2
    have e:p.toNat::zR (rkN m ts ks tl) 9 p.toNat=vQ (rkN m ts ks tl) p.toNat o:=by
     unfold vQ
     rw[show(9:Nat)=8+1 from rfl]
     conv=>lhs;unfold zR
     rw[hr]
    rw[e]
    exact .cons _ (h2.symm.map _)
theorem zdL {F G:List (List Nat)}(h:F.Perm G):Xu F=Xu G:=by
 unfold Xu
 have:=Zh ((xC (F.map kW)).trans (h.map kW)) (vX _)
 rw[this]
theorem zkk {m:Int}{ts:List Tie}{ks cs:List Int}{x:Int}:zb3 (.lst (((yB m ts ks x).map λo:Nat=>vAt cs (o:Int)+1).map .int)) (.int 0)=some (.int (Fh x (zb1 m ts ks cs x))):=by
 rw[VL]
 unfold Fh zb1
 rw[u0j]
 rfl
def zf6 (m:Int)(ts:List Tie)(ks cs:List Int):List Int:=(List.range m.toNat).map λx:Nat=>Fh (x:Int) (zb1 m ts ks cs (x:Int))
theorem zgL {m:Int}{ts:List Tie}{ks cs:List Int}{x:Int}(h0:0<=x)(h1:x < m):vAt (zf6 m ts ks cs) x=Fh x (zb1 m ts ks cs x):=by
 unfold vAt zf6
 rw[d9,j7,u1i (by omega)]
 show Fh ((x.toNat:Nat):Int) (zb1 m ts ks cs ((x.toNat:Nat):Int))=_
 rw[show((x.toNat:Nat):Int)=x by omega]
theorem ziZ (d:D){k:Int}(h:1<=k):W3 [d] none (some k)=[d]:=by
 obtain⟨n,rfl⟩:∃ n:Nat,k=((n+1:Nat):Int):=⟨k.toNat - 1,by omega⟩
 rw[za9]
 simp
theorem zlo {i:Ev->Option (List D)}{b:D->Option (List (Option D))}{t:Ev->Option Bool}{f:Ev->Option D}{ρ:Ev}{ds out:List D}(hi:i ρ=some ds)(hl:ds.length<=1000)(h:lcD b t f ρ ds=some out):fLC i b t f ρ=some out:=by
 unfold fLC
 rw[hi,d7,j3 (xg hl)]
 exact h
theorem zhI (d:D):W3 [d] none (some 0)=[]:=by
 rw[show(0:Int)=((0:Nat):Int)from rfl,za9]
 rfl
def v9 (m:Int)(ts:List Tie)(ks tl:List Int)(E:List (List Nat))(i:Nat):List (List Nat):=E++(List.range i).flatMap λx=>(zbD m ts ks tl x).map (vQ (rkN m ts ks tl) x)
theorem VI (m:Int)(ts:List Tie)(ks tl:List Int)(E:List (List Nat))(i:Nat):v9 m ts ks tl E (i+1)=v9 m ts ks tl E i++(zbD m ts ks tl i).map (vQ (rkN m ts ks tl) i):=by
 unfold v9
 rw[u3q,u2m,u2L,b9]
theorem zba {m:Int}{ts:List Tie}{ks tl:List Int}{E:List (List Nat)}(ok:zH m ts)(hE:E.length<=1)(i:Nat):(v9 m ts ks tl E i).length<=1+8*i:=by
 induction i with
 | zero=>unfold v9;simp;omega
 | succ i ih =>
  rw[VI,j6,u5]
  have:(zbD m ts ks tl i).length<=8:=by
   unfold zbD
   exact u0B (u1E _ _) (wa ok)
  omega
def YI:SE->Ctl :=
 (sIf (tOf (zm neD (zc 8) (zm ixD (zz 3 xA (zb (zc 3) (zb (zc 5) (zb (zc 4) zr)))) (eC (.int 1))))) (ZY false 7 (eFn yb (zb (zm w6 (yT (yc (zb (zc 4) zr))) (zz 3 xA (zb (zc 3) (zb (zc 5) (zb (zc 8) zr))))) zr))) yk)
def Yn:SE->Ctl :=
 (ZB (iOf (zm ixD (zc 3) (zc 4))) (yd 8) YI)
def Ym:SE->Ctl :=
 (xL false 5 (yT (fLC (iOf (zc 3)) b1 yM (zm zb3 (yT (fLC (iOf (zc 0)) b1 yM (zm w6 (zm ixD (zc 7) (zc 0)) (eC (.int 1))))) (eC (.int 0))))))
def YJ:SE->Ctl :=
 (ZY false 3 (yT (fLC (iOf (zz 2 Zt (zb (zc 0) (zb (zc 4) zr)))) b1 (tOf (zm gtD (zm ixD (zc 3) (zc 0)) (zm ixD (zc 3) (zc 5)))) (zc 0))))
def YS:SE->Ctl :=
 (zS (xL false 2 (zz 2 Zf (zb (zc 0) (zb (zc 1) zr))))
  (zS (vY 3 (yc zr))
  (zS (yO wB (zb (zm ixD (zc 0) (eC (.int 0))) zr) (yd 4) YJ)
  (sFz 3 (zS (xL false 5 (zm Y6 (yT (yc (zb (eC (.int 0)) zr))) (zm ixD (zc 0) (eC (.int 0)))))
  (zS (yO wB (zb (zm ixD (zc 0) (eC (.int 0))) zr) (yd 6) Ym)
  (zS (vY 7 (fSl slL (yT (yc (zb (eFn yb (zb (zz 3 xA (zb (zc 3) (zb (zc 5) (zb (zc 1) zr)))) zr)) zr))) wP (xI (zm Z9 (zm ixD (zc 0) (eC (.int 0))) (eC (.int 1))))))
  (zS (yO wB (zb (zm ixD (zc 0) (eC (.int 0))) zr) (yd 4) Yn)
  (sFz 7 (yU (yT (fLC (iOf (yT (fFn zag (zb (yT (fLC (iOf (zc 7)) b1 yM (wQ (zb (eUn ZC (eFn Zb (zb (zc 0) zr))) (zb (zc 0) zr))))) zr)))) b1 yM (zm ixD (zc 0) (eC (.int 1)))))))))))))))
def Xr:List D->Option D:=fnD 9 YS
theorem zdC {m p:Int}{ts:List Tie}{ks tl:List Int}(ok:zH m ts)(h28:ts.length<=28)(hp:0<=p/\p < m)(hks:Ya m ts p=ks.map some)(hkl:(ks.length:Int)=m)(hb:∀ x:Int,0<=x->x < m->0<=vAt ks x/\vAt ks x < m)(htl:(tl.length:Int)=m)(hE:∀ x:Int,0<=x->x < m->EqA Fh m ts ks tl x) :
 Xr [zx m ts,.int p]=some (.lst ((Xu (zk4 m p ts ks tl)).map wD)):=by
 have hm1:=ok.lo
 have hm8:=ok.hi
 have em:ixD (zx m ts) (.int 0)=some (.int m):=rfl
 have ef:=zjE ok h28 hp
 rw[hks,X1]at ef
 obtain⟨O,hO⟩:∃ O,wg m ts ks m.toNat=O:=⟨_,rfl⟩
 refine Vm (ρ:=[.v (zx m ts),.v (.int p),.no,.no,.no,.no,.no,.no,.no]) rfl ?_
 unfold YS
 refine zA (ρ':=[.v (zx m ts),.v (.int p),.v (.lst (ks.map .int)),.no,.no,.no,.no,.no,.no]) (vc (ds:=[_,_]) rfl ef) ?_
 refine zA (ρ':=[.v (zx m ts),.v (.int p),.v (.lst (ks.map .int)),.o [],.no,.no,.no,.no,.no]) rfl ?_
 refine y9 (YK (lo:=0) (c:=m.toNat) (λi ρ=>∃ o4,ρ=[.v (zx m ts),.v (.int p),.v (.lst (ks.map .int)),.o (wg m ts ks i),o4,.no,.no,.no,.no]) (vV ok) ⟨_,rfl⟩ ?_ ?_)
 .rintro i ρ hi ⟨o4,rfl⟩
  rw[u1w]
  have him:(i:Int) < m:=by omega
  refine⟨[.v (zx m ts),.v (.int p),.v (.lst (ks.map .int)),.o (wg m ts ks i),.v (.int (i:Int)),.no,.no,.no,.no],rfl,?_⟩
  unfold YJ
  have ex:=zbd (ns:=ks) (i:=(i:Int)) ⟨by omega,him⟩ hkl
  refine Yc (ρ':=[.v (zx m ts),.v (.int p),.v (.lst (ks.map .int)),.o (wg m ts ks (i+1)),.v (.int (i:Int)),.no,.no,.no,.no]) ?_ ⟨_,rfl⟩
  rw[ZI (ds:=wg m ts ks i) (d:=.lst ((yB m ts ks (i:Int)).map zy)) ?_ rfl (by unfold wg;rw[u5,u0v];omega)]
  .have:wg m ts ks (i+1)=wg m ts ks i++[.lst ((yB m ts ks (i:Int)).map zy)]:=by
    unfold wg
    rw[u3q,u0M]
    rfl
   rw[this]
   rfl
  .unfold vEv
   rw[j8 u7]
   refine wn ?_
   unfold fLC
   rw[ZX (d:=.lst ((nbN m ts (i:Int)).map zy)) (vW (ds:=[zx m ts,.int (i:Int)]) rfl (ziD ok h28)) rfl,d7,j3 (zfx (by rw[u5];exact zgm ok))]
   unfold yB
   refine vd zy (λo:Nat=>decide (vAt ks (i:Int) < vAt ks (o:Int))) zy (nbN m ts (i:Int)) λo ho=>⟨[some (zy o)],rfl,?_,λ_=>rfl⟩
   have ho:=WM ho
   have eo:=zbd (ns:=ks) (zcl ho) hkl
   show(((atI (ks.map D.int) (0+(o:Int))).bind λa=>(atI (ks.map D.int) (i:Int)).bind λb=>gtD a b).bind asB)=_
   rw[eo,ex,u1w]
   rfl
 rintro ρ ⟨o4,rfl⟩
 rw[hO]
 refine zed (ρ':=[.v (zx m ts),.v (.int p),.v (.lst (ks.map .int)),.v (.lst O),o4,.no,.no,.no,.no]) rfl ?_
 refine zA (ρ':=[.v (zx m ts),.v (.int p),.v (.lst (ks.map .int)),.v (.lst O),o4,.v (.lst ((List.replicate m.toNat (0:Int)).map .int)),.no,.no,.no]) (zfk (zT (x:=.lst [.int 0]) (y:=.int m) rfl rfl ?_)) ?_
 .show(if -(2 ^ 63)<=m/\m < 2 ^ 63/\lim ([D.int 0].length*m.toNat)=true then some (D.lst (List.replicate m.toNat [D.int 0]).flatten)else none)=_
  have hl:lim ([D.int 0].length*m.toNat)=true:=xg (by show 1*m.toNat<=1000;omega)
  rw[j3 ⟨Int.le_trans (show -(2 ^ 63:Int)<=1 by decide) hm1,Int.lt_of_le_of_lt hm8 (by decide),hl⟩]
  have:∀ n:Nat,(List.replicate n [D.int 0]).flatten=(List.replicate n (0:Int)).map .int:=λn=>by
   induction n with
   | zero=>rfl
   | succ n ih=>rw[u0T,u0T,u1y,ih];rfl
  rw[this]
 refine y9 (YK (lo:=0) (c:=m.toNat) (λi ρ=>∃ (cs:List Int) (o6:Sl),ρ=[.v (zx m ts),.v (.int p),.v (.lst (ks.map .int)),.v (.lst O),o4,.v (.lst (cs.map .int)),o6,.no,.no]/\(cs.length:Int)=m/\∀ x:Int,0<=x->x < m->m - vAt ks x<=(i:Int)->vAt cs x=vAt tl x) (vV ok) ⟨_,_,rfl,by rw[u0S];omega,λx h0 h1 h2=>by have:=(hb x h0 h1).2;omega⟩ ?_ ?_)
 .rintro i ρ hi ⟨cs,o6,rfl,hcl,hc⟩
  refine⟨[.v (zx m ts),.v (.int p),.v (.lst (ks.map .int)),.v (.lst O),o4,.v (.lst (cs.map .int)),.v (.int (0+(i:Int))),.no,.no],rfl,?_⟩
  unfold Ym
  refine Yc (ρ':=[.v (zx m ts),.v (.int p),.v (.lst (ks.map .int)),.v (.lst O),o4,.v (.lst ((zf6 m ts ks cs).map .int)),.v (.int (0+(i:Int))),.no,.no]) (zfk (wn ?_)) ⟨_,_,rfl,by unfold zf6;rw[u5,u0v];omega,λx h0 h1 h2=>?_⟩
  .unfold fLC
   rw[ZX (d:=.lst O) rfl rfl,d7,<- hO,j3 (zfx (by unfold wg;rw[u5,u0v];omega))]
   unfold wg zf6
   rw[u0j]
   refine wV (λx:Nat=>D.lst ((yB m ts ks (x:Int)).map zy)) (D.int ∘ λx:Nat=>Fh (x:Int) (zb1 m ts ks cs (x:Int))) (List.range m.toNat) λx hx=>⟨[some (.lst ((yB m ts ks (x:Int)).map zy))],rfl,rfl,?_⟩
   exact zT (x:=.lst (((yB m ts ks (x:Int)).map λo:Nat=>vAt cs (o:Int)+1).map .int)) (y:=.int 0) (wn (zj6 (k:=6) (d:=.lst (cs.map .int)) (m:=m) (ZX (d:=.lst ((yB m ts ks (x:Int)).map zy)) rfl rfl) rfl (λ_=>rfl) hcl (λo ho=>yF ho) (wa ok))) rfl zkk
  .rw[zgL h0 h1]
   have e:vAt tl x=Fh x (zb1 m ts ks tl x):=hE x h0 h1
   rw[e]
   congr 1
   refine u0p λo ho=>?_
   have far:=yi ho
   exact hc (o:Int) (by omega) (yF ho) (by omega)
 rintro ρ ⟨cs,o6,rfl,hcl,hc⟩
 have hct:cs=tl:=zhO (by omega) λx h0 h1=>hc x h0 (by omega) (by have:=(hb x h0 (by omega)).1;omega)
 subst hct
 have way:=λ(y:Nat) (hy:(y:Int) < m)=>zdK (tl:=cs) ok hb htl hy
 rw[hO]at way
 obtain⟨rk,hrk⟩:∃ rk,rkN m ts ks cs=rk:=⟨_,rfl⟩
 rw[hrk]at way
 obtain⟨E,hEE⟩:∃ E:List (List Nat),(if m=1 then []else [p.toNat::zR rk 9 p.toNat])=E:=⟨_,rfl⟩
 have hEl:E.length<=1:=by rw[<-hEE];split <;> simp
 refine zA (ρ':=[.v (zx m ts),.v (.int p),.v (.lst (ks.map .int)),.v (.lst O),o4,.v (.lst (cs.map .int)),o6,.o (E.map wD),.no]) (Zg (ds:=E.map wD) ?_) ?_
 .have ew:=way p.toNat (by omega)
  rw[show((p.toNat:Nat):Int)=p by omega]at ew
  have e1:yT (yc (zb (eFn yb (zb (zz 3 xA (zb (zc 3) (zb (zc 5) (zb (zc 1) zr)))) zr)) zr)) (visF [.v (zx m ts),.v (.int p),.v (.lst (ks.map .int)),.v (.lst O),o4,.v (.lst (cs.map .int)),o6,.no,.no])=some (.lst [wD (p.toNat::zR rk 9 p.toNat)]) :=
   wn (zeJ (zK (za5 (ds:=[.lst ((p.toNat::zR rk 9 p.toNat).map zy)]) (zK (vW (ds:=[.lst O,.lst (cs.map .int),.int p]) rfl ew) xx) rfl) xx) (by show 1<=1000;decide))
  have e2:xI (zm Z9 (zm ixD (zc 0) (eC (.int 0))) (eC (.int 1))) (visF [.v (zx m ts),.v (.int p),.v (.lst (ks.map .int)),.v (.lst O),o4,.v (.lst (cs.map .int)),o6,.no,.no])=some (some (m - 1)):=rfl
  unfold fSl
  rw[e1,d7,show wP (visF [.v (zx m ts),.v (.int p),.v (.lst (ks.map .int)),.v (.lst O),o4,.v (.lst (cs.map .int)),o6,.no,.no])=some none from rfl,d7,e2,d7]
  show some (W3 [wD (p.toNat::zR rk 9 p.toNat)] none (some (m - 1)))=_
  rw[<-hEE]
  by_cases c:m=1
  .rw[j3 c,show m - 1=0 by omega,zhI]
   rfl
  .rw[j8 c,ziZ _ (by omega)]
   rfl
 have e9:∀ o:Nat,(o:Int) < m->1<=vAt ks (o:Int)->zR rk 9 o=zR rk 8 o:=λo ho h1=>by
  rw[<-hrk]
  exact zd9 hb 8 o ho (by omega)
 refine y9 (YK (lo:=0) (c:=m.toNat) (λi ρ=>∃ o4 o8,ρ=[.v (zx m ts),.v (.int p),.v (.lst (ks.map .int)),.v (.lst O),o4,.v (.lst (cs.map .int)),o6,.o ((v9 m ts ks cs E i).map wD),o8]) (vV ok) ⟨o4,.no,?_⟩ ?_ ?_)
 .have:v9 m ts ks cs E 0=E:=by unfold v9;simp
  rw[this]
 .rintro x ρ hx ⟨o4,o8,rfl⟩
  rw[u1w]
  have hxm:(x:Int) < m:=by omega
  have hx0:=(hb (x:Int) (by omega) hxm).1
  refine⟨[.v (zx m ts),.v (.int p),.v (.lst (ks.map .int)),.v (.lst O),.v (.int (x:Int)),.v (.lst (cs.map .int)),o6,.o ((v9 m ts ks cs E x).map wD),o8],rfl,?_⟩
  unfold Yn
  refine WS (ds:=(yB m ts ks (x:Int)).map zy) (λj ρ=>∃ o8,ρ=[.v (zx m ts),.v (.int p),.v (.lst (ks.map .int)),.v (.lst O),.v (.int (x:Int)),.v (.lst (cs.map .int)),o6,.o ((v9 m ts ks cs E x++(((yB m ts ks (x:Int)).take j).filter λo=>!decide (some o=(rk x).head?)).map (vQ rk x)).map wD),o8]) ?_ ⟨o8,by simp⟩ ?_ ?_
  .refine ZX (d:=.lst ((yB m ts ks (x:Int)).map zy)) (zT (x:=.lst O) (y:=.int (x:Int)) rfl rfl ?_) rfl
   rw[<-hO]
   exact zgn hxm
  .rintro j d ρ hd ⟨o8,rfl⟩
   rw[j7]at hd
   obtain⟨o,ho,rfl⟩:=t7.mp hd
   have hoo:=j4 ho
   have far:=yi hoo
   have hom:=yF hoo
   have hpm:=wH m ts ks cs x
   rw[hrk]at hpm
   obtain⟨h,r,hr⟩:∃ h r,rk x=h::r:=by
    cases e:rk x with
    | nil =>
     rw[e]at hpm
     rw[hpm.symm.eq_nil]at hoo
     cases hoo
    | cons h r=>exact⟨h,r,rfl⟩
   refine⟨[.v (zx m ts),.v (.int p),.v (.lst (ks.map .int)),.v (.lst O),.v (.int (x:Int)),.v (.lst (cs.map .int)),o6,.o ((v9 m ts ks cs E x++(((yB m ts ks (x:Int)).take j).filter λo=>!decide (some o=(rk x).head?)).map (vQ rk x)).map wD),.v (zy o)],rfl,?_⟩
   unfold YI
   have etk:(((yB m ts ks (x:Int)).take (j+1)).filter λo=>!decide (some o=(rk x).head?))=(((yB m ts ks (x:Int)).take j).filter λo=>!decide (some o=(rk x).head?))++(if o=h then []else [o]):=by
    rw[u2d,ho,List.filter_append,hr]
    congr 1
    by_cases c:o=h
    .subst c
     rw[j3 rfl]
     simp
    .rw[j8 c]
     simp[c]
   rw[etk]
   have ew1:=way x hxm
   have et:zR rk 9 x=h::zR rk 8 h:=by
    rw[show(9:Nat)=8+1 from rfl]
    conv=>lhs;unfold zR
    rw[hr]
   rw[et]at ew1
   have ew2:=way o hom
   rw[e9 o hom (by omega)]at ew2
   have ecmp:zm neD (zc 8) (zm ixD (zz 3 xA (zb (zc 3) (zb (zc 5) (zb (zc 4) zr)))) (eC (.int 1))) (visG [.v (zx m ts),.v (.int p),.v (.lst (ks.map .int)),.v (.lst O),.v (.int (x:Int)),.v (.lst (cs.map .int)),o6,.o ((v9 m ts ks cs E x++(((yB m ts ks (x:Int)).take j).filter λo=>!decide (some o=(rk x).head?)).map (vQ rk x)).map wD),.v (zy o)])=some (.bl (!decide (o=h))):=by
    refine zT (x:=zy o) (y:=zy h) rfl (zT (x:=.lst ((x::h::zR rk 8 h).map zy)) (y:=.int 1) (vW (ds:=[.lst O,.lst (cs.map .int),.int (x:Int)]) rfl ew1) rfl (ZG (by decide) rfl)) ?_
    rw[yx,yx,yD]
    congr 3
    exact u3b.mpr (by omega)
   refine Vh (c:=!decide (o=h)) (zbM ecmp) (λhc=>?_) (λhc=>Yc rfl ⟨.v (zy o),?_⟩)
   .have hc:o≠h:=by simpa using hc
    rw[j8 hc]
    have hlen:((v9 m ts ks cs E x++(((yB m ts ks (x:Int)).take j).filter λo=>!decide (some o=(rk x).head?)).map (vQ rk x)).map wD).length<=1000:=by
     have a1:=zba (tl:=cs) (ks:=ks) (E:=E) ok hEl x
     have a2:(((yB m ts ks (x:Int)).take j).filter λo=>!decide (some o=(rk x).head?)).length<=8:=u0B (u1E _ _) (by rw[o9];have:=wa (ks:=ks) (x:=(x:Int)) ok;omega)
     rw[u5,j6,u5]
     omega
    refine Yc (ZI (m:=false) (i:=7) (d:=wD (vQ rk x o)) (ds:=(v9 m ts ks cs E x++(((yB m ts ks (x:Int)).take j).filter λo=>!decide (some o=(rk x).head?)).map (vQ rk x)).map wD) ?_ rfl hlen) ⟨.v (zy o),?_⟩
    .unfold vEv
     rw[j8 u7]
     refine za5 (ds:=[.lst ((x::o::zR rk 8 o).map zy)]) (zK (zT (x:=.lst [.int (x:Int)]) (y:=.lst ((o::zR rk 8 o).map zy)) rfl (vW (ds:=[.lst O,.lst (cs.map .int),zy o]) rfl (by rw[yx];exact ew2)) ?_) xx) rfl
     rw[zaf ?_,<- yx x]
     .rfl
     .have:∀ (n y:Nat),(zR rk n y).length<=n:=λn=>by
       induction n with
       | zero=>intro y;exact q5 _
       | succ n ih =>
        intro y
        unfold zR
        cases rk y with
        | nil=>exact u0D _
        | cons u _=>show(zR rk n u).length+1<=n+1;have:=ih u;omega
      have:=this 8 o
      rw[u5,p9]
      show 1+((zR rk 8 o).length+1)<=1000
      omega
    .have e:(v9 m ts ks cs E x++((((yB m ts ks (x:Int)).take j).filter λo=>!decide (some o=(rk x).head?))++[o]).map (vQ rk x)).map wD=(v9 m ts ks cs E x++(((yB m ts ks (x:Int)).take j).filter λo=>!decide (some o=(rk x).head?)).map (vQ rk x)).map wD++[wD (vQ rk x o)]:=by simp
     rw[e]
     rfl
   .have hc:o=h:=by simpa using hc
    rw[j3 hc,u0L]
  .rintro ρ ⟨o8,rfl⟩
   refine⟨.v (.int (x:Int)),o8,?_⟩
   rw[u5,u1B,VI]
   unfold zbD
   rw[hrk]
 rintro ρ ⟨o4,o8,rfl⟩
 obtain⟨Fd,hF⟩:∃ Fd,v9 m ts ks cs E m.toNat=Fd:=⟨_,rfl⟩
 have hFd:Fd=zk4 m p ts ks cs:=by
  rw[<-hF]
  unfold v9 zk4
  rw[<-hEE,hrk]
 have hlen:Fd.length<=70:=by
  have:=zba (tl:=cs) (ks:=ks) (E:=E) ok hEl m.toNat
  rw[hF]at this
  omega
 rw[hF,<- hFd]
 refine zed (ρ':=[.v (zx m ts),.v (.int p),.v (.lst (ks.map .int)),.v (.lst O),o4,.v (.lst (cs.map .int)),o6,.v (.lst (Fd.map wD)),o8]) rfl ?_
 refine XD (Zq (wn ?_)) rfl
 have e1:fLC (iOf (zc 7)) b1 yM (wQ (zb (eUn ZC (eFn Zb (zb (zc 0) zr))) (zb (zc 0) zr))) (visG [.v (zx m ts),.v (.int p),.v (.lst (ks.map .int)),.v (.lst O),o4,.v (.lst (cs.map .int)),o6,.v (.lst (Fd.map wD)),o8])=some (Fd.map λw=>.tup [.int (-(w.length:Int)),.tup ((wI w).map .int)]):=by
  unfold fLC
  rw[ZX (d:=.lst (Fd.map wD)) rfl rfl,d7,j3 (xg (by rw[u5];omega))]
  refine wV wD (λw=>D.tup [.int (-(w.length:Int)),.tup ((wI w).map .int)]) Fd λw _=>⟨[some (wD w)],rfl,rfl,?_⟩
  rw[<-zeM]
  refine Wn (ds:=[.int (-(w.length:Int)),wD w]) (zK (zgK (x:=.int (w.length:Int)) (za5 (ds:=[wD w]) rfl ?_) rfl) (zK rfl xx)) (by show 2<=1000;decide)
  show some (D.int ((w.map zy).length:Int))=_
  rw[u5]
 have e2:zag [.lst (Fd.map λw=>.tup [.int (-(w.length:Int)),.tup ((wI w).map .int)])]=some ((Xu Fd).map λw=>zbx (kW w)):=by
  show(if (Fd.map _).length < 10000000 then (zdR _).map λts=>(yh ts).map zbx else none)=_
  rw[j3 (by rw[u5];omega),zew (h:=λw:List Nat=>-(w.length:Int)) (u:=wI) Fd]
  show some ((yh (Fd.map kW)).map zbx)=_
  congr 1
  unfold Xu
  rw[u0j]
  refine u0p λt ht=>?_
  obtain⟨w,_,rfl⟩:=u0A.mp ((xC _).mem_iff.mp ht)
  show zbx (kW w)=zbx (kW (((kW w).drop 1).map Int.toNat))
  rw[zcb]
 refine zlo (ZX (d:=.lst ((Xu Fd).map λw=>zbx (kW w))) (wn (zex (zK (wn e1) xx) e2)) rfl) ?_ ?_
 .rw[u5]
  unfold Xu
  rw[u5,(xC _).length_eq,u5]
  omega
 .refine wV (λw=>zbx (kW w)) wD (Xu Fd) λw _=>⟨[some (zbx (kW w))],rfl,rfl,?_⟩
  rw[zeM]
  exact zT (x:=zbx (kW w)) (y:=.int 1) rfl rfl (ZG (by decide) rfl)
theorem zcp (T:Txt K mg base ad):yW P w K mg base CX0 5 ad.f__law_due ad.e__law_due ["web","root"] (@spD ⟨K⟩ 2 Xr):=by
 letI:KK:=⟨K⟩
 have G__law_fars:=zbt (P:=P) (w:=w) (base:=base) T
 have G__law_near:=zbc (P:=P) (w:=w) (base:=base) T
 have G__law_way:=zb5 (P:=P) (w:=w) (base:=base) T
 refine xw (N:=["web","root","far_ones","outer","place","tall","turn","found","other"]) (ps:=["web","root"]) T.d__law_due.fn zZ (g:=YS) λcdv A outer s H E hr=>?_
 unfold YS YJ Ym Yn YI
 exact(ze (yr (m:=false) (i:=2) zZ.nd rfl (Or.inr rfl) (zo G__law_fars hr rfl T.d__law_fars (za (edv 0) (za (edv 1) zd))))
  (ze (vh (i:=3) zZ.nd rfl (Or.inl rfl) (xm zd))
  (ze (xD p7 rfl rfl T.z_range (za (zB (edv 0) (zi zj) (λ_ _=>rfl)) zd) (zM (zt (i:=4) zZ.nd rfl (Or.inr rfl))) (zg (ZE (m:=false) (pv 3) (yX (za1 (L:=["other"]) (M:=["web","root","far_ones","outer","place","tall","turn","found","·other"]) rfl (wL (by rfl) (by rfl) (by rfl) (by with_unfolding_all rfl) (by rfl) (by rfl) (by kernel_rfl) (all_cons rfl (all_cons rfl yC))) (xM (zo G__law_near hr rfl T.d__law_near (za (edv 0) (za (edv 4) zd)))) gs1 rb1 (λ_ _ _ _=>(zt (i:=0) zkj rfl (Or.inl rfl) (.inr rfl))) (λ_ _ _ _=>(ya zbr xi (zJ _) (zB (edv 3) (edv 0) (λ_ _=>rfl)) (zB (edv 3) (edv 5) (λ_ _=>rfl)))) (λ_ _ _ _=>(edv 0)))) (λa b=>Vn u0m u0s u0t xh a b))))
  (YG 3 (ze (yr (m:=false) (i:=5) zZ.nd rfl (Or.inr rfl) (VM (yX (xm (za (zi zj) zd))) (zB (edv 0) (zi zj) (λ_ _=>rfl))))
  (ze (xD p7 rfl rfl T.z_range (za (zB (edv 0) (zi zj) (λ_ _=>rfl)) zd) (zM (zt (i:=6) zZ.nd rfl (Or.inl rfl))) (zg (yr (m:=false) (i:=5) zZ.nd rfl (Or.inr rfl) (yX (XC (L:=["row"]) (M:=["web","root","far_ones","outer","place","tall","turn","found","other"]) rfl (wL (by rfl) (by rfl) (by rfl) (by with_unfolding_all rfl) (by rfl) (by rfl) (by kernel_rfl) (all_cons rfl yC)) (xM (edv 3)) gs1 rb1 (λ_ _ _ _=>(zt (i:=0) zjg rfl (Or.inl rfl) (.inr rfl))) (λ_ _ _ _=>(zf3 rfl rfl T.z_max (yX (XC (L:=["other"]) (M:=["row","web","root","far_ones","outer","place","tall","turn","found","·other"]) rfl (wL (by rfl) (by rfl) (by rfl) (by with_unfolding_all rfl) (by rfl) (by rfl) (by kernel_rfl) (all_cons rfl yC)) (xM (edv 0)) gs1 rb1 (λ_ _ _ _=>(zt (i:=0) zl6 rfl (Or.inl rfl) (.inr rfl))) (λ_ _ _ _=>(xo (zB (edv 7) (edv 0) (λ_ _=>rfl)) (zi zj))))) (zi zj))))))))
  (ze (vh (i:=7) zZ.nd rfl (Or.inl rfl) (zhi (yX (xm (za (w8 yL vn rfl T.z_tuple xu (za (zo G__law_way hr rfl T.d__law_way (za (edv 3) (za (edv 5) (za (edv 1) zd)))) zd)) zd))) zfG (zak (Wi (zB (edv 0) (zi zj) (λ_ _=>rfl)) (zi zj)))))
  (ze (xD p7 rfl rfl T.z_range (za (zB (edv 0) (zi zj) (λ_ _=>rfl)) zd) (zM (zt (i:=4) zZ.nd rfl (Or.inr rfl))) (zg (Y8 p7 rfl (xM (zB (edv 3) (edv 4) (λ_ _=>rfl))) (zM (zt (i:=8) zZ.nd rfl (Or.inl rfl))) (zg (x5 (ya zcx WZ (zJ _) (edv 8) (zB (zo G__law_way hr rfl T.d__law_way (za (edv 3) (za (edv 5) (za (edv 4) zd)))) (zi zj) (λ_ _=>rfl))) (zg (ZE (m:=false) (pv 7) (w8 yL vn rfl T.z_tuple xu (za (xo (yX (xm (za (edv 4) zd))) (zo G__law_way hr rfl T.d__law_way (za (edv 3) (za (edv 5) (za (edv 8) zd))))) zd)) (λa b=>Vn u0m u0s u0t xh a b))) zO)))))
  (YG 7 (zg (zE (yX (XC (L:=["row"]) (M:=["web","root","far_ones","outer","place","tall","turn","found","other"]) rfl (wL (by rfl) (by rfl) (by rfl) (by with_unfolding_all rfl) (by rfl) (by rfl) (by kernel_rfl) yC) (xM (yX (zcs hr rfl T.z_sorted (za (yX (XC (L:=["row"]) (M:=["web","root","far_ones","outer","place","tall","turn","found","other"]) rfl (wL (by rfl) (by rfl) (by rfl) (by with_unfolding_all rfl) (by rfl) (by rfl) (by kernel_rfl) yC) (xM (edv 7)) gs1 rb1 (λ_ _ _ _=>(zt (i:=0) zjg rfl (Or.inl rfl) (.inr rfl))) (λ_ _ _ _=>(x3 (za (Xz (zU zI wk rfl T.z_len Ys (za (edv 0) zd))) (za (edv 0) zd)))))) zd)))) gs1 rb1 (λ_ _ _ _=>(zt (i:=0) zjg rfl (Or.inl rfl) (.inr rfl))) (λ_ _ _ _=>(zB (edv 0) (zi zj) (λ_ _=>rfl))))))))))))))))
theorem zab {m p:Int}{ts:List Tie}{ks:List Int}(ok:zH m ts)(hj:Yg m ts)(hp:0<=p/\p < m)(hks:Ya m ts p=ks.map some)(hkl:(ks.length:Int)=m)(hm:m≠1):∃ o,o∈yB m ts ks p:=by
 have hm1:=ok.lo
 obtain⟨v,hv,hvp⟩:∃ v:Int,(0<=v/\v < m)/\v≠p:=by
  by_cases c:p=0
  .exact⟨1,⟨by omega,by omega⟩,by omega⟩
  .exact⟨0,⟨by omega,by omega⟩,by omega⟩
 obtain⟨k,fk,ek⟩:=VC hks hkl hv
 have hk:1<=k:=by
  cases k with
  | zero=>cases fk.1;exact absurd rfl hvp
  | succ k=>omega
 obtain⟨u,fu⟩:=VE 1 k v fk hk
 obtain⟨a,ra,aa⟩:=fu.1.inv
 cases ra
 obtain⟨_,ru⟩:=aa.rng ok
 obtain⟨k2,fk2,ek2⟩:=VC hks hkl ru
 have:=fk2.uniq fu
 refine⟨u.toNat,(xG ok).mpr ⟨?_,?_⟩⟩
 .rw[show((u.toNat:Nat):Int)=u by omega]
  exact aa
 .rw[show((u.toNat:Nat):Int)=u by omega,zcd hp hks hkl]
  omega
def zcF:SE->Ctl :=
 (xL false 7 (zm w6 (zc 7) (yT (fLC (zfL (zb (zc 8) (zb (eSl slD (zc 8) (xI (eC (.int 1))) wP) zr))) b2 yM (wQ (zb (eFn zeN (zb (zc 0) (zb (zc 1) zr))) (zb (eFn zcj (zb (zc 0) (zb (zc 1) zr))) zr)))))))
def zcJ:SE->Ctl :=
 (zS (vY 6 (zbQ 2 zbz (zb (zc 2) (zb (zc 3) zr))))
  (zS (sIf (xr (tOf (zz 2 vB (zb (zc 6) (zb (zc 4) zr))))) (yU (eC (.bl false))) yk)
  (ZY false 6 (wQ zr))))
def zaz:SE->Ctl :=
 (zS (xL false 4 (zz 2 Xr (zb (zc 2) (zb (zc 3) zr))))
  (zS (yO wB (zb (eC (.int 2)) zr) (yd 5) zcJ)
  (zS (xL false 7 (yT (yc zr)))
  (zS (ZB (iOf (zc 4)) (yd 8) zcF)
  (sIf (tOf (zm zjM (yT (fFn Xv (zb (zc 7) zr))) (yT (fFn vM (zb (zm ixD (zc 2) (eC (.int 1))) zr))))) (yU (eC (.bl false))) yk)))))
def zan:SE->Ctl :=
 (zS (xL false 2 (zz 2 wT (zb (zc 1) (zb (eC (.int 8)) zr))))
  (yO wB (zb (zm ixD (zc 2) (eC (.int 0))) zr) (yd 3) zaz))
def zgW:SE->Ctl :=
 (zS (ZB (iOf (zm w6 (yT (yc (zb (zz 2 y3 (zb (zc 0) (zb (eC (.int 0)) zr))) zr))) (eSl slD (zc 0) (xI (eC (.int 1))) (xI (eC (.int 8)))))) (yd 1) zan)
  (yU (zm zaH (zz 2 zel (zb (wQ (zb (eC (.int 1)) (zb (wQ zr) zr))) (zb (eC (.int 0)) zr))) (yT (yc zr)))))
def zkh:List D->Option D:=fnD 9 zgW
theorem zjC (W:List (List Nat)):vB [.lst (W.map wD),.lst (W.map wD)]=some (.bl true):=zlu (by
 show(W.map wD).all (okE 4)=true
 rw[u15,u0o]
 intro w _
 show(w.map zy).all (okE 3)=true
 rw[u15,u0o]
 exact λ_ _=>rfl)
theorem zipN:∀ (a b:List Nat),VH (a.map zy) (b.map zy)=(a.zip b).map λu=>D.tup [zy u.1,zy u.2]:=by
 intro a
 induction a with
 | nil=>intro b;rfl
 | cons x a ih =>
  intro b
  cases b with
  | nil=>rfl
  | cons y b =>
   show D.tup [zy x,zy y]::VH (a.map zy) (b.map zy)=_
   rw[ih]
   rfl
def ve (W:List (List Nat))(i:Nat):List Tie:=(((W.take i).flatMap prs).map WV)
theorem Wh {W:List (List Nat)}{i:Nat}{w:List Nat}(h:W[i]?=some w):ve W (i+1)=ve W i++(prs w).map WV:=by
 unfold ve
 rw[u2d,h,u2m]
 show((_++[w].flatMap prs).map WV)=_
 rw[u2L,u0M]
theorem zfw {W:List (List Nat)}(i:Nat):(ve W i).length<=((W.flatMap prs).map WV).length:=by
 have e:W.flatMap prs=(W.take i).flatMap prs++(W.drop i).flatMap prs:=by rw[<-u2m,i9]
 unfold ve
 rw[u5,u5,e,j6]
 omega
theorem zjs (ts:List Tie):zjM (.lst (ts.map zp)) (.lst (ts.map zp))=some (.bl false):=by
 have hk:okE 20 (.lst (ts.map zp))=true:=by
  show(ts.map zp).all (okE 19)=true
  rw[u15,u0o]
  exact λt _=>rfl
 show(if (okE 20 (.lst (ts.map zp))&&okE 20 (.lst (ts.map zp)))=true then _ else none)=_
 rw[hk,j3 (show(true&&true)=true from rfl)]
 have e:eqN 20 (.lst (ts.map zp)) (.lst (ts.map zp))=true:=zc9 20 hk
 show some (D.bl (!eqN 20 (.lst (ts.map zp)) (.lst (ts.map zp))))=_
 rw[e]
 rfl
theorem zjp (script:D)(z m p:Int)(ts:List Tie)(ok:zH m ts)(hj:Yg m ts)(htl:(ts.length:Int)=m - 1)(hp:0<=p/\p < m)(o4 o5 o6 o7 o8:Sl)(n b:SE->Prop)(r:D->Prop)(I:SE->Prop)(hI:∀ o4 o5 o6 o7 o8,I [.v script,.v (.int z),.v (zx m ts),.v (.int p),o4,o5,o6,o7,o8]):(zaz [.v script,.v (.int z),.v (zx m ts),.v (.int p),o4,o5,o6,o7,o8]).w I b n r:=by
 have hm1:=ok.lo
 have hm8:=ok.hi
 have h28:ts.length<=28:=by omega
 obtain⟨ks,hks,hkl⟩:=zas hj hp
 have hb:=ziv ok hp hks hkl
 obtain⟨tl,et,htl',hE⟩:=Yx ok hp hks hkl
 have ew:=XM ok hp hks hkl hb et htl'
 have ed:=zdC ok h28 hp hks hkl hb htl' hE
 have hpn:((p.toNat:Nat):Int)=p:=by omega
 have hdp:=zgO (ts:=ts) (ks:=ks) (tl:=tl) hp hb hm8 (λc e=>by
  obtain⟨o,ho⟩:=zab ok hj hp hks hkl c
  have:o∈rkN m ts ks tl p.toNat:=yu.mpr (by rw[hpn];exact ho)
  rw[e]at this
  cases this) (λc=>by
  refine u2Z.mpr λo ho=>?_
  have ho:=yu.mp ho
  have far:=yi ho
  have h1:=yF ho
  rw[hpn]at far
  have:(o:Int)=p:=by omega
  rw[this]at far
  omega)
 rw[<-zdL hdp]at ed
 have pm:=zdG (Yo p (Yf m ts ks tl) m.toNat)
 have tp:=zfD (tl:=tl) ok htl hp hks hkl hb
 obtain⟨W,hW⟩:∃ W,Xu (zC p (rkN m ts ks tl) m.toNat)=W:=⟨_,rfl⟩
 rw[hW]at ew ed pm
 have eo:=zf7 ok hj htl hp ew
 have tW:((W.flatMap prs).map WV).Perm ts:=(((pm.flatMap_right prs).map WV)).trans tp
 have hTl:((W.flatMap prs).map WV).length<=7:=by rw[tW.length_eq];omega
 have hWl:W.length<=64:=by
  rw[pm.length_eq]
  have:=Xx (p:=p) (rk:=rkN m ts ks tl) (n:=m.toNat) (λx=>by rw[(wH m ts ks tl x).length_eq];exact wa ok) (by omega)
  omega
 unfold zaz
 refine zA (ρ':=[.v script,.v (.int z),.v (zx m ts),.v (.int p),.v (.lst (W.map wD)),o5,o6,o7,o8]) (vc (ds:=[_,_]) rfl ed) ?_
 refine y9 (YK (lo:=0) (c:=2) (λi ρ=>∃ o5 o6,ρ=[.v script,.v (.int z),.v (zx m ts),.v (.int p),.v (.lst (W.map wD)),o5,o6,o7,o8]) (Xl (j:=2) (by decide) (by decide)) ⟨_,_,rfl⟩ ?_ ?_)
 .rintro i ρ hi ⟨o5,o6,rfl⟩
  refine⟨[.v script,.v (.int z),.v (zx m ts),.v (.int p),.v (.lst (W.map wD)),.v (.int (0+(i:Int))),o6,o7,o8],rfl,?_⟩
  unfold zcJ
  refine zA (ρ':=[.v script,.v (.int z),.v (zx m ts),.v (.int p),.v (.lst (W.map wD)),.v (.int (0+(i:Int))),.o (W.map wD),o7,o8]) (Zg (zdd (ds:=[_,_]) rfl eo)) ?_
  refine y9 (Vh (c:=false) (zll (b:=true) (zbM (vW (ds:=[.lst (W.map wD),.lst (W.map wD)]) rfl (zjC W)))) (λz=>by cases z) (λ_=>Yc rfl ?_))
  exact Yc (ZI (d:=.tup []) (ds:=W.map wD) rfl rfl (by rw[u5];omega)) ⟨_,_,rfl⟩
 rintro ρ ⟨o5,o6,rfl⟩
 refine zA (ρ':=[.v script,.v (.int z),.v (zx m ts),.v (.int p),.v (.lst (W.map wD)),o5,o6,.v (.lst ((ve W 0).map zp)),o8]) rfl ?_
 refine y9 (WS (ds:=W.map wD) (λi ρ=>∃ o8,ρ=[.v script,.v (.int z),.v (zx m ts),.v (.int p),.v (.lst (W.map wD)),o5,o6,.v (.lst ((ve W i).map zp)),o8]) rfl ⟨_,rfl⟩ ?_ ?_)
 .rintro i d ρ hd ⟨o8,rfl⟩
  rw[j7]at hd
  obtain⟨w,hw,rfl⟩:=t7.mp hd
  refine⟨[.v script,.v (.int z),.v (zx m ts),.v (.int p),.v (.lst (W.map wD)),o5,o6,.v (.lst ((ve W i).map zp)),.v (wD w)],rfl,?_⟩
  unfold zcF
  have hw0:1<=w.length:=by
   obtain⟨u,z,e,_,_,_⟩:=zeo (p:=p) (tl:=tl) hb w (pm.mem_iff.mp (j4 hw))
   rw[e,j6]
   show 1<=u.length+1
   omega
  have hle:=zfw (W:=W) (i+1)
  rw[Wh hw,j6]at hle
  have hpl:(prs w).length<=7:=by
   rw[u5]at hle
   omega
  refine Yc (ρ':=[.v script,.v (.int z),.v (zx m ts),.v (.int p),.v (.lst (W.map wD)),o5,o6,.v (.lst ((ve W (i+1)).map zp)),.v (wD w)]) (zfk (zT (x:=.lst ((ve W i).map zp)) (y:=.lst (((prs w).map WV).map zp)) rfl (wn ?_) ?_)) ⟨_,rfl⟩
  .refine zlo (ds:=(prs w).map λu=>D.tup [zy u.1,zy u.2]) ?_ (by rw[u5];omega) ?_
   .have e1:zb (zc 8) (zb (eSl slD (zc 8) (xI (eC (.int 1))) wP) zr) (visF [.v script,.v (.int z),.v (zx m ts),.v (.int p),.v (.lst (W.map wD)),o5,o6,.v (.lst ((ve W i).map zp)),.v (wD w)])=some [wD w,wD (w.drop 1)]:=by
     refine zK rfl (zK ?_ xx)
     show some (D.tup (W3 (w.map zy) (some ((1:Nat):Int)) none))=_
     rw[zfK,<- List.map_drop]
     rfl
    unfold zfL
    rw[e1,d7]
    show(if ((w.drop 1).map zy).length < (w.map zy).length then some (VH (w.map zy) ((w.drop 1).map zy))else none)=_
    rw[j3 (by rw[u5,u5,i6];omega),zipN]
    rfl
   .rw[u0j]
    refine wV (λu:Nat × Nat=>D.tup [zy u.1,zy u.2]) (zp ∘ WV) (prs w) λu _=>⟨[some (zy u.1),some (zy u.2)],rfl,rfl,?_⟩
    rw[yx,yx]
    exact Wn (ds:=[.int (WV u).1,.int (WV u).2]) (zK (za5 (ds:=[.int (u.1:Int),.int (u.2:Int)]) rfl rfl) (zK (za5 (ds:=[.int (u.1:Int),.int (u.2:Int)]) rfl rfl) xx)) (by show 2<=1000;decide)
  .rw[zaf (by rw[u5,u5];omega),Wh hw,u0M]
 rintro ρ ⟨o8,rfl⟩
 have hT:ve W (W.map wD).length=(W.flatMap prs).map WV:=by
  unfold ve
  rw[u5,u1B]
 rw[hT]
 have hs:Zy ((W.flatMap prs).map WV)=ts:=by
  symm
  refine Xn tW.symm (ok.srt.imp λ{a b} h=>?_)
  unfold OwnSort.bltP
  refine h9 λh2=>?_
  unfold ltP at h
  omega
 have es:=WG (ts:=(W.flatMap prs).map WV) (by omega)
 rw[hs]at es
 refine Vh (c:=false) (zbM (zT (x:=.lst (ts.map zp)) (y:=.lst (ts.map zp)) (wn (zex (ds:=[.lst (((W.flatMap prs).map WV).map zp)]) rfl es)) rfl (zjs ts))) (λz=>by cases z) (λ_=>Yc rfl (hI _ _ _ _ _))
theorem zjj (script:D)(z:Int)(o2 o3 o4 o5 o6 o7 o8:Sl)(n b:SE->Prop)(r:D->Prop)(I:SE->Prop)(hI:∀ o2 o3 o4 o5 o6 o7 o8,I [.v script,.v (.int z),o2,o3,o4,o5,o6,o7,o8]):(zan [.v script,.v (.int z),o2,o3,o4,o5,o6,o7,o8]).w I b n r:=by
 obtain⟨ts,ew,ok,hj,htl⟩:=zdy (c:=z) (mo:=8) (by decide) (by decide)
 obtain⟨m,hm⟩:∃ m:Int,1+z % 8=m:=⟨_,rfl⟩
 rw[hm]at ew ok hj htl
 unfold zan
 refine zA (ρ':=[.v script,.v (.int z),.v (zx m ts),o3,o4,o5,o6,o7,o8]) (wl ew) ?_
 refine YK (lo:=0) (c:=m.toNat) (λi ρ=>∃ o3 o4 o5 o6 o7 o8,ρ=[.v script,.v (.int z),.v (zx m ts),o3,o4,o5,o6,o7,o8]) (vV ok) ⟨_,_,_,_,_,_,rfl⟩ ?_ ?_
 .rintro i ρ hi ⟨o3,o4,o5,o6,o7,o8,rfl⟩
  obtain⟨p,hpx⟩:∃ x:Int,(0:Int)+(i:Int)=x:=⟨_,rfl⟩
  rw[hpx]
  exact⟨[.v script,.v (.int z),.v (zx m ts),.v (.int p),o4,o5,o6,o7,o8],rfl,zjp _ _ _ _ _ ok hj htl (ze6 hi hpx) _ _ _ _ _ _ _ _ _ λ_ _ _ _ _=>⟨_,_,_,_,_,_,rfl⟩⟩
 .rintro ρ ⟨o3,o4,o5,o6,o7,o8,rfl⟩
  exact hI _ _ _ _ _ _ _
theorem zko:zH 1 []:=⟨by decide,by decide,λt h=>(by cases h),List.Pairwise.nil⟩
theorem zfa:Yg 1 []:=λp v hp hv=>⟨0,by
 have e:p=v:=by omega
 subst e
 exact .zero⟩
theorem ziL:zel [zx 1 [],.int 0]=some (.lst []):=by
 obtain⟨ks,hks,hkl⟩:=zas zfa (p:=0) ⟨by decide,by decide⟩
 have hb:=ziv zko (p:=0) ⟨by decide,by decide⟩ hks hkl
 obtain⟨tl,et,htl',_⟩:=Yx zko (p:=0) ⟨by decide,by decide⟩ hks hkl
 have ew:=XM zko ⟨by decide,by decide⟩ hks hkl hb et htl'
 have ho:∀ x,yB 1 [] ks x=[]:=λx=>by
  refine u2Z.mpr λk hk=>?_
  rcases(Yv zko).mp (u0k.mp hk).1 with h | h <;> cases h
 have hr:∀ x,rkN 1 [] ks tl x=[]:=λx=>by
  have:=wH 1 [] ks tl x
  rw[ho]at this
  exact this.eq_nil
 have hf:zC 0 (rkN 1 [] ks tl) (1:Int).toNat=[]:=by
  show zC 0 (rkN 1 [] ks tl) 1=[]
  rw[Ze]
  unfold Vu
  rw[j3 (show((0:Nat):Int)=0 from rfl),hr]
  rfl
 rw[hf]at ew
 have:=zf7 (W:=[]) zko zfa rfl ⟨by decide,by decide⟩ ew
 show(zbz [zx 1 [],.int 0]).map D.lst=_
 rw[this]
 rfl
theorem zgQ:∀ ns:List Int,ns.length<=63->zkh [.scr ns]=some (.bl true):=by
 intro ns hns
 refine Vm (ρ:=[.v (.scr ns),.no,.no,.no,.no,.no,.no,.no,.no]) rfl ?_
 unfold zgW
 obtain⟨xs,hxs⟩:=zgJ (ρ:=[none,none,none,none,none,none,none,none]) ns 8 hns
 refine y9 (WS (ds:=xs.map .int) (λi ρ=>∃ o1 o2 o3 o4 o5 o6 o7 o8,ρ=[.v (.scr ns),o1,o2,o3,o4,o5,o6,o7,o8]) hxs ⟨_,_,_,_,_,_,_,_,rfl⟩ ?_ ?_)
 .rintro i d ρ hd ⟨o1,o2,o3,o4,o5,o6,o7,o8,rfl⟩
  rw[j7]at hd
  obtain⟨z,hz,rfl⟩:=t7.mp hd
  exact⟨_,rfl,zjj _ _ _ _ _ _ _ _ _ _ _ _ _ λ_ _ _ _ _ _ _=>⟨_,_,_,_,_,_,_,_,rfl⟩⟩
 .rintro ρ ⟨o1,o2,o3,o4,o5,o6,o7,o8,rfl⟩
  exact XD (Zq (zT (x:=.lst []) (y:=.lst []) (vW (ds:=[.tup [.int 1,.tup []],.int 0]) rfl ziL) rfl rfl)) rfl
theorem zkE (T:Txt K mg base ad):yW P w K mg base CX0 30 ad.f_law ad.e_law ["script"] (ze3 K):=by
 letI:KK:=⟨K⟩
 have G_ways:=ziH (P:=P) (w:=w) (base:=base) T
 have O_ways:=zc0 (P:=P) (w:=w) (base:=base) T
 have G__law_cell_at:=We (P:=P) (w:=w) (base:=base) T
 have G__law_same:=zbC (P:=P) (w:=w) (base:=base) T
 have G__law_tree_by:=WA (P:=P) (w:=w) (base:=base) T
 have G__law_due:=zcp (P:=P) (w:=w) (base:=base) T
 refine(zkZ (p:=zkh) (xw (N:=["script","cell","web","root","due","lap","answer","ties","row"]) (ps:=["script"]) T.d_law.fn Za (g:=zgW) λcdv A outer s H E hr=>?_) zgQ).mono (j:=13) (by decide)
 unfold zgW zan zaz zcJ zcF
 exact(ze (Y8 p7 rfl (xM (xo (yX (xm (za (zo G__law_cell_at hr rfl T.d__law_cell_at (za (edv 0) (za (zi zj) zd))) zd))) (zdt (edv 0) (zak (zi zj)) (zak (zi zj))))) (zM (zt (i:=1) Za.nd rfl (Or.inl rfl))) (ze (yr (m:=false) (i:=2) Za.nd rfl (Or.inl rfl) (zo G__law_tree_by hr rfl T.d__law_tree_by (za (edv 1) (za (zi zj) zd))))
  (zg (xD p7 rfl rfl T.z_range (za (zB (edv 2) (zi zj) (λ_ _=>rfl)) zd) (zM (zt (i:=3) Za.nd rfl (Or.inl rfl))) (ze (yr (m:=false) (i:=4) Za.nd rfl (Or.inl rfl) (zo G__law_due hr rfl T.d__law_due (za (edv 2) (za (edv 3) zd))))
  (ze (xD p7 rfl rfl T.z_range (za (zi zj) zd) (zM (zt (i:=5) Za.nd rfl (Or.inl rfl))) (ze (vh (i:=6) Za.nd rfl (Or.inl rfl) (ze5 (O_ways.mono (by decide)) hr rfl T.d_ways.at_ T.d_ways.kp T.d_ways.bd (za (edv 2) (za (edv 3) zd))))
  (ze (x5 (ZO (v6 (zo G__law_same hr rfl T.d__law_same (za (edv 6) (za (edv 4) zd))))) (zg (zE (XV XQ))) zO)
  (zg (ZE (m:=false) (pv 6) (x3 zd) (λa b=>Vn u0m u0s u0t xh a b))))))
  (ze (yr (m:=false) (i:=7) Za.nd rfl (Or.inl rfl) (yX (xm zd)))
  (ze (Y8 p7 rfl (xM (edv 4)) (zM (zt (i:=8) Za.nd rfl (Or.inl rfl))) (zg (yr (m:=false) (i:=7) Za.nd rfl (Or.inl rfl) (xo (edv 7) (yX (XC (L:=["a","b"]) (M:=["script","cell","web","root","due","lap","answer","ties","row"]) rfl (wL (by rfl) (by rfl) (by rfl) (by with_unfolding_all rfl) (by rfl) (by rfl) (by kernel_rfl) yC) (zjt rfl T.z_zip (za (edv 8) (za (zdt (edv 8) (zak (zi zj)) zfG) zd))) gs2 rb2 (λ_ _ _ _=>(zc8 rfl (vL (zt (i:=0) zii rfl (Or.inl rfl) (.inr rfl)) (vL (zt (i:=1) zii rfl (Or.inl rfl) (.inr rfl)) zah)))) (λ_ _ _ _=>(x3 (za (zU (Wu rfl) zal rfl T.z_min zeO (za (edv 0) (za (edv 1) zd))) (za (zU (ZK rfl) Wa rfl T.z_max zbg (za (edv 0) (za (edv 1) zd))) zd))))))))))
  (zg (x5 (ya (zis hr) zeU (zJ _) (yX (ZJ rfl rfl T.z_sorted (za (edv 7) zd))) (yX (ziX rfl T.z_list (za (zB (edv 2) (zi zj) (λ_ _=>rfl)) zd)))) (zg (zE (XV XQ))) zO))))))))))
  (zg (zE (XH (Z8 hr) vK (zJ _) (zo G_ways hr rfl T.d_ways (za (x3 (za (zi zj) (za (x3 zd) zd))) (za (zi zj) zd))) (yX (xm zd))))))
end
theorem zmb {us:List Value}(h:us.length=1):∃ x0,us=[x0]:=by
 cases us with
 | nil=>cases h
 | cons x0 us =>
  cases us with
  | nil=>exact⟨x0,rfl⟩
  | cons _ _=>cases h
theorem zmz {us:List Value}(h:us.length=2):∃ x0 x1,us=[x0,x1]:=by
 cases us with
 | nil=>cases h
 | cons x0 us =>
  cases us with
  | nil=>cases h
  | cons x1 us =>
   cases us with
   | nil=>exact⟨x0,x1,rfl⟩
   | cons _ _=>cases h
theorem zmm {us:List Value}(h:us.length=3):∃ x0 x1 x2,us=[x0,x1,x2]:=by
 cases us with
 | nil=>cases h
 | cons x0 us =>
  cases us with
  | nil=>cases h
  | cons x1 us =>
   cases us with
   | nil=>cases h
   | cons x2 us =>
    cases us with
    | nil=>exact⟨x0,x1,x2,rfl⟩
    | cons _ _=>cases h
abbrev Lk (x:Str)(st:Stmt)(oc:Value)(od:Option Addr)(kV dc pm:Value)(an:Option Addr)(cd ct:Value)(sl:Array (Option Value)):Option Obj:=some ⟨oc,od,.func (W.fnOf x x (Zn st) (xf st) (zh st) .none kV dc pm an cd ct),sl⟩
theorem mkD {K:W.Frag}{h:Heap}{mg:Str->Option Value}{x:Str}{st:Stmt}{ps:List Str}{f:Addr}{oc kV dc pm cd ct:Value}{od an:Option Addr}{sl:Array (Option Value)}(X:K.In h)(G:h.Ns mainGlobals mg)(a:W.nsIn K mainGlobals x=some (some (.ref f)))(l:K.lookup f=Lk x st oc od kV dc pm an cd ct sl)(c:W.codeIn K cd x=true)(k:W.keepIn K (.ref f)=true)
 (b:∀ (kV doc pm:Value) (an:Option Addr) (cdv ct:Value) (us:List Value),us.length=ps.length->bindArgs (W.fnOf x x (Zn st) (xf st) (zh st) .none kV doc pm an cdv ct) ⟨us,[]⟩=pure (ps.zip us)):Def K mg x st ps f (W.fnOf x x (Zn st) (xf st) (zh st) .none kV dc pm an cd ct):=⟨zh4 l c k,(zh4 l c k).binds b,W.mg_of X G a⟩
theorem bn1 {F:Value->Value->Value->Option Addr->Value->Value->List Value->Prop}(h:∀ a b c d e f x0,F a b c d e f [x0]):∀ a b c d e f us,us.length=1->F a b c d e f us:=λa b c d e f us hl=>by obtain⟨x0,rfl⟩:=zmb hl;exact h a b c d e f x0
theorem bn2 {F:Value->Value->Value->Option Addr->Value->Value->List Value->Prop}(h:∀ a b c d e f x0 x1,F a b c d e f [x0,x1]):∀ a b c d e f us,us.length=2->F a b c d e f us:=λa b c d e f us hl=>by obtain⟨x0,x1,rfl⟩:=zmz hl;exact h a b c d e f x0 x1
theorem bn3 {F:Value->Value->Value->Option Addr->Value->Value->List Value->Prop}(h:∀ a b c d e f x0 x1 x2,F a b c d e f [x0,x1,x2]):∀ a b c d e f us,us.length=3->F a b c d e f us:=λa b c d e f us hl=>by obtain⟨x0,x1,x2,rfl⟩:=zmm hl;exact h a b c d e f x0 x1 x2
theorem all_mk {l:W.OpenLaw} {w:World} {K:W.Frag} {h:Heap} {mg:Str->Option Value} {fa f0 f1 f2 f3 f4 f5 f6 f7 f8 f9 f10 f11 f12 f13 f14 f15 f16 f17 f18 f19 f20 f21 f22 f23 f24 f25 f26 f27 f28 f29 f30:Addr} (X:K.In h) (G:h.Ns mainGlobals mg) (hfa:mg "law"=some (.ref fa))
 {od0 an0 od1 an1 od2 an2 od3 an3 od4 an4 od5 an5 od6 an6 od7 an7 od8 an8 od9 an9 od10 an10 od11 an11 od12 an12 od13 an13 od14 an14 od15 an15 od16 an16 od17 an17 od18 an18 od19 an19 od20 an20 od21 an21 od22 an22 od23 an23 od24 an24 od25 an25 od26 an26 od27 an27 od28 an28 od29 an29 od30 an30:Option Addr} {sl0 sl1 sl2 sl3 sl4 sl5 sl6 sl7 sl8 sl9 sl10 sl11 sl12 sl13 sl14 sl15 sl16 sl17 sl18 sl19 sl20 sl21 sl22 sl23 sl24 sl25 sl26 sl27 sl28 sl29 sl30:Array (Option Value)} {oc0 kV0 dc0 pm0 ct0 cd0 oc1 kV1 dc1 pm1 ct1 cd1 oc2 kV2 dc2 pm2 ct2 cd2 oc3 kV3 dc3 pm3 ct3 cd3 oc4 kV4 dc4 pm4 ct4 cd4 oc5 kV5 dc5 pm5 ct5 cd5 oc6 kV6 dc6 pm6 ct6 cd6 oc7 kV7 dc7 pm7 ct7 cd7 oc8 kV8 dc8 pm8 ct8 cd8 oc9 kV9 dc9 pm9 ct9 cd9 oc10 kV10 dc10 pm10 ct10 cd10 oc11 kV11 dc11 pm11 ct11 cd11 oc12 kV12 dc12 pm12 ct12 cd12 oc13 kV13 dc13 pm13 ct13 cd13 oc14 kV14 dc14 pm14 ct14 cd14 oc15 kV15 dc15 pm15 ct15 cd15 oc16 kV16 dc16 pm16 ct16 cd16 oc17 kV17 dc17 pm17 ct17 oc18 kV18 dc18 pm18 ct18 cd18 oc19 kV19 dc19 pm19 ct19 oc20 kV20 dc20 pm20 ct20 cd20 oc21 kV21 dc21 pm21 ct21 cd21 oc22 kV22 dc22 pm22 ct22 cd22 oc23 kV23 dc23 pm23 ct23 cd23 oc24 kV24 dc24 pm24 ct24 cd24 oc25 kV25 dc25 pm25 ct25 cd25 oc26 kV26 dc26 pm26 ct26 cd26 oc27 kV27 dc27 pm27 ct27 cd27 oc28 kV28 dc28 pm28 ct28 cd28 oc29 kV29 dc29 pm29 ct29 cd29 oc30 kV30 dc30 pm30 ct30 cd30:Value} {tk0:Tok}
 {cc0 pp0 cc1 pp1:Addr}
 (a0:W.nsIn K mainGlobals "is_whole"=some (some (.ref f0))) (l0:K.lookup f0=Lk "is_whole" Zo oc0 od0 kV0 dc0 pm0 an0 cd0 ct0 sl0) (c0:W.codeIn K cd0 "is_whole"=true) (k0:W.keepIn K (.ref f0)=true)
 (a1:W.nsIn K mainGlobals "is_whole_within"=some (some (.ref f1))) (l1:K.lookup f1=Lk "is_whole_within" xq oc1 od1 kV1 dc1 pm1 an1 cd1 ct1 sl1) (c1:W.codeIn K cd1 "is_whole_within"=true) (k1:W.keepIn K (.ref f1)=true)
 (a2:W.nsIn K mainGlobals "is_place_count"=some (some (.ref f2))) (l2:K.lookup f2=Lk "is_place_count" xz oc2 od2 kV2 dc2 pm2 an2 cd2 ct2 sl2) (c2:W.codeIn K cd2 "is_place_count"=true) (k2:W.keepIn K (.ref f2)=true)
 (a3:W.nsIn K mainGlobals "is_place"=some (some (.ref f3))) (l3:K.lookup f3=Lk "is_place" Zs oc3 od3 kV3 dc3 pm3 an3 cd3 ct3 sl3) (c3:W.codeIn K cd3 "is_place"=true) (k3:W.keepIn K (.ref f3)=true)
 (a4:W.nsIn K mainGlobals "is_pair"=some (some (.ref f4))) (l4:K.lookup f4=Lk "is_pair" Xy oc4 od4 kV4 dc4 pm4 an4 cd4 ct4 sl4) (c4:W.codeIn K cd4 "is_pair"=true) (k4:W.keepIn K (.ref f4)=true)
 (a5:W.nsIn K mainGlobals "are_ties"=some (some (.ref f5))) (l5:K.lookup f5=Lk "are_ties" Zw oc5 od5 kV5 dc5 pm5 an5 cd5 ct5 sl5) (c5:W.codeIn K cd5 "are_ties"=true) (k5:W.keepIn K (.ref f5)=true)
 (a6:W.nsIn K mainGlobals "is_web"=some (some (.ref f6))) (l6:K.lookup f6=Lk "is_web" Wg oc6 od6 kV6 dc6 pm6 an6 cd6 ct6 sl6) (c6:W.codeIn K cd6 "is_web"=true) (k6:W.keepIn K (.ref f6)=true)
 (a7:W.nsIn K mainGlobals "must_be_web"=some (some (.ref f7))) (l7:K.lookup f7=Lk "must_be_web" wZ oc7 od7 kV7 dc7 pm7 an7 cd7 ct7 sl7) (c7:W.codeIn K cd7 "must_be_web"=true) (k7:W.keepIn K (.ref f7)=true)
 (a8:W.nsIn K mainGlobals "must_be_place"=some (some (.ref f8))) (l8:K.lookup f8=Lk "must_be_place" xX oc8 od8 kV8 dc8 pm8 an8 cd8 ct8 sl8) (c8:W.codeIn K cd8 "must_be_place"=true) (k8:W.keepIn K (.ref f8)=true)
 (a9:W.nsIn K mainGlobals "tie_between"=some (some (.ref f9))) (l9:K.lookup f9=Lk "tie_between" wY oc9 od9 kV9 dc9 pm9 an9 cd9 ct9 sl9) (c9:W.codeIn K cd9 "tie_between"=true) (k9:W.keepIn K (.ref f9)=true)
 (a10:W.nsIn K mainGlobals "neighbours"=some (some (.ref f10))) (l10:K.lookup f10=Lk "neighbours" vP oc10 od10 kV10 dc10 pm10 an10 cd10 ct10 sl10) (c10:W.codeIn K cd10 "neighbours"=true) (k10:W.keepIn K (.ref f10)=true)
 (a11:W.nsIn K mainGlobals "ties_away"=some (some (.ref f11))) (l11:K.lookup f11=Lk "ties_away" Yp oc11 od11 kV11 dc11 pm11 an11 cd11 ct11 sl11) (c11:W.codeIn K cd11 "ties_away"=true) (k11:W.keepIn K (.ref f11)=true)
 (a12:W.nsIn K mainGlobals "pieces"=some (some (.ref f12))) (l12:K.lookup f12=Lk "pieces" Wz oc12 od12 kV12 dc12 pm12 an12 cd12 ct12 sl12) (c12:W.codeIn K cd12 "pieces"=true) (k12:W.keepIn K (.ref f12)=true)
 (a13:W.nsIn K mainGlobals "is_joined"=some (some (.ref f13))) (l13:K.lookup f13=Lk "is_joined" YB oc13 od13 kV13 dc13 pm13 an13 cd13 ct13 sl13) (c13:W.codeIn K cd13 "is_joined"=true) (k13:W.keepIn K (.ref f13)=true)
 (a14:W.nsIn K mainGlobals "is_tree"=some (some (.ref f14))) (l14:K.lookup f14=Lk "is_tree" Xj oc14 od14 kV14 dc14 pm14 an14 cd14 ct14 sl14) (c14:W.codeIn K cd14 "is_tree"=true) (k14:W.keepIn K (.ref f14)=true)
 (a15:W.nsIn K mainGlobals "must_be_tree"=some (some (.ref f15))) (l15:K.lookup f15=Lk "must_be_tree" wm oc15 od15 kV15 dc15 pm15 an15 cd15 ct15 sl15) (c15:W.codeIn K cd15 "must_be_tree"=true) (k15:W.keepIn K (.ref f15)=true)
 (a16:W.nsIn K mainGlobals "outer_neighbours"=some (some (.ref f16))) (l16:K.lookup f16=Lk "outer_neighbours" y8 oc16 od16 kV16 dc16 pm16 an16 cd16 ct16 sl16) (c16:W.codeIn K cd16 "outer_neighbours"=true) (k16:W.keepIn K (.ref f16)=true)
 (a17:W.nsIn K mainGlobals "outwards"=some (some (.ref f17))) (l17:K.lookup f17=Lk "outwards" Zi oc17 od17 kV17 dc17 pm17 an17 (.ref cc0) ct17 sl17) (c17:W.codeIn K (.ref cc0) "outwards"=true) (k17:W.keepIn K (.ref f17)=true)
 (a18:W.nsIn K mainGlobals "heights_from"=some (some (.ref f18))) (l18:K.lookup f18=Lk "heights_from" wq oc18 od18 kV18 dc18 pm18 an18 cd18 ct18 sl18) (c18:W.codeIn K cd18 "heights_from"=true) (k18:W.keepIn K (.ref f18)=true)
 (a19:W.nsIn K mainGlobals "ways_from"=some (some (.ref f19))) (l19:K.lookup f19=Lk "ways_from" Yu oc19 od19 kV19 dc19 pm19 an19 (.ref cc1) ct19 sl19) (c19:W.codeIn K (.ref cc1) "ways_from"=true) (k19:W.keepIn K (.ref f19)=true)
 (a20:W.nsIn K mainGlobals "way_through"=some (some (.ref f20))) (l20:K.lookup f20=Lk "way_through" wS oc20 od20 kV20 dc20 pm20 an20 cd20 ct20 sl20) (c20:W.codeIn K cd20 "way_through"=true) (k20:W.keepIn K (.ref f20)=true)
 (a21:W.nsIn K mainGlobals "ways"=some (some (.ref f21))) (l21:K.lookup f21=Lk "ways" zcL oc21 od21 kV21 dc21 pm21 an21 cd21 ct21 sl21) (c21:W.codeIn K cd21 "ways"=true) (k21:W.keepIn K (.ref f21)=true)
 (a22:W.nsIn K mainGlobals "_law_cell_at"=some (some (.ref f22))) (l22:K.lookup f22=Lk "_law_cell_at" wt oc22 od22 kV22 dc22 pm22 an22 cd22 ct22 sl22) (c22:W.codeIn K cd22 "_law_cell_at"=true) (k22:W.keepIn K (.ref f22)=true)
 (a23:W.nsIn K mainGlobals "_law_same"=some (some (.ref f23))) (l23:K.lookup f23=Lk "_law_same" YF oc23 od23 kV23 dc23 pm23 an23 cd23 ct23 sl23) (c23:W.codeIn K cd23 "_law_same"=true) (k23:W.keepIn K (.ref f23)=true)
 (a24:W.nsIn K mainGlobals "_law_stir"=some (some (.ref f24))) (l24:K.lookup f24=Lk "_law_stir" Yy oc24 od24 kV24 dc24 pm24 an24 cd24 ct24 sl24) (c24:W.codeIn K cd24 "_law_stir"=true) (k24:W.keepIn K (.ref f24)=true)
 (a25:W.nsIn K mainGlobals "_law_tree_by"=some (some (.ref f25))) (l25:K.lookup f25=Lk "_law_tree_by" wA oc25 od25 kV25 dc25 pm25 an25 cd25 ct25 sl25) (c25:W.codeIn K cd25 "_law_tree_by"=true) (k25:W.keepIn K (.ref f25)=true)
 (a26:W.nsIn K mainGlobals "_law_fars"=some (some (.ref f26))) (l26:K.lookup f26=Lk "_law_fars" Yq oc26 od26 kV26 dc26 pm26 an26 cd26 ct26 sl26) (c26:W.codeIn K cd26 "_law_fars"=true) (k26:W.keepIn K (.ref f26)=true)
 (a27:W.nsIn K mainGlobals "_law_near"=some (some (.ref f27))) (l27:K.lookup f27=Lk "_law_near" Yw oc27 od27 kV27 dc27 pm27 an27 cd27 ct27 sl27) (c27:W.codeIn K cd27 "_law_near"=true) (k27:W.keepIn K (.ref f27)=true)
 (a28:W.nsIn K mainGlobals "_law_way"=some (some (.ref f28))) (l28:K.lookup f28=Lk "_law_way" Zm oc28 od28 kV28 dc28 pm28 an28 cd28 ct28 sl28) (c28:W.codeIn K cd28 "_law_way"=true) (k28:W.keepIn K (.ref f28)=true)
 (a29:W.nsIn K mainGlobals "_law_due"=some (some (.ref f29))) (l29:K.lookup f29=Lk "_law_due" Zx oc29 od29 kV29 dc29 pm29 an29 cd29 ct29 sl29) (c29:W.codeIn K cd29 "_law_due"=true) (k29:W.keepIn K (.ref f29)=true)
 (a30:W.nsIn K mainGlobals "law"=some (some (.ref f30))) (l30:K.lookup f30=Lk "law" zgb oc30 od30 kV30 dc30 pm30 an30 cd30 ct30 sl30) (c30:W.codeIn K cd30 "law"=true) (k30:W.keepIn K (.ref f30)=true)
 (gg0:W.nsIn K mainGlobals "MOST_PLACES"=some (some (.int 8 tk0)))
 (z0:W.nsIn K mainGlobals "bool"=some none)
 (z1:W.nsIn K mainGlobals "enumerate"=some none)
 (z2:W.nsIn K mainGlobals "int"=some none)
 (z3:W.nsIn K mainGlobals "isinstance"=some none)
 (z4:W.nsIn K mainGlobals "len"=some none)
 (z5:W.nsIn K mainGlobals "list"=some none)
 (z6:W.nsIn K mainGlobals "max"=some none)
 (z7:W.nsIn K mainGlobals "min"=some none)
 (z8:W.nsIn K mainGlobals "range"=some none)
 (z9:W.nsIn K mainGlobals "reversed"=some none)
 (z10:W.nsIn K mainGlobals "sorted"=some none)
 (z11:W.nsIn K mainGlobals "str"=some none)
 (z12:W.nsIn K mainGlobals "tuple"=some none)
 (z13:W.nsIn K mainGlobals "zip"=some none)
 : ∃ fd:FuncData,(∀ (s:Shared) (v:Value),BindsTo s fd ⟨[v],[]⟩ [("script",v)])/\∀ base:Heap,K.In base->base.Ns mainGlobals mg->(∀ t∈([(cc0,pp0,"outwards.<locals>.<lambda>"),(cc1,pp1,"ways_from.<locals>.<lambda>")]:TL),ZR base mg t.1 t.2.1 t.2.2)->yW l.prog w K mg base CX0 30 fa fd ["script"] (ze3 K):=by
 have e:=hfa.symm.trans (W.mg_of X G a30)
 cases e
 have T:∀ base:Heap,(∀ t∈([(cc0,pp0,"outwards.<locals>.<lambda>"),(cc1,pp1,"ways_from.<locals>.<lambda>")]:TL),ZR base mg t.1 t.2.1 t.2.2)->Txt K mg base ⟨_,_,_,_,_,_,_,_,_,_,_,_,_,_,_,_,_,_,_,_,_,_,_,_,_,_,_,_,_,_,_,_,_,_,_,_,_,_,_,_,_,_,_,_,_,_,_,_,_,_,_,_,_,_,_,_,_,_,_,_,_,_,tk0,cc0,pp0,cc1,pp1⟩:=λbase hL=>⟨
  mkD X G a0 l0 c0 k0 (bn1 λ_ _ _ _ _ _ _=>rfl),
  mkD X G a1 l1 c1 k1 (bn3 λ_ _ _ _ _ _ _ _ _=>rfl),
  mkD X G a2 l2 c2 k2 (bn1 λ_ _ _ _ _ _ _=>rfl),
  mkD X G a3 l3 c3 k3 (bn2 λ_ _ _ _ _ _ _ _=>rfl),
  mkD X G a4 l4 c4 k4 (bn2 λ_ _ _ _ _ _ _ _=>rfl),
  mkD X G a5 l5 c5 k5 (bn2 λ_ _ _ _ _ _ _ _=>rfl),
  mkD X G a6 l6 c6 k6 (bn1 λ_ _ _ _ _ _ _=>rfl),
  mkD X G a7 l7 c7 k7 (bn1 λ_ _ _ _ _ _ _=>rfl),
  mkD X G a8 l8 c8 k8 (bn2 λ_ _ _ _ _ _ _ _=>rfl),
  mkD X G a9 l9 c9 k9 (bn2 λ_ _ _ _ _ _ _ _=>rfl),
  mkD X G a10 l10 c10 k10 (bn2 λ_ _ _ _ _ _ _ _=>rfl),
  mkD X G a11 l11 c11 k11 (bn2 λ_ _ _ _ _ _ _ _=>rfl),
  mkD X G a12 l12 c12 k12 (bn1 λ_ _ _ _ _ _ _=>rfl),
  mkD X G a13 l13 c13 k13 (bn1 λ_ _ _ _ _ _ _=>rfl),
  mkD X G a14 l14 c14 k14 (bn1 λ_ _ _ _ _ _ _=>rfl),
  mkD X G a15 l15 c15 k15 (bn1 λ_ _ _ _ _ _ _=>rfl),
  mkD X G a16 l16 c16 k16 (bn2 λ_ _ _ _ _ _ _ _=>rfl),
  mkD X G a17 l17 c17 k17 (bn2 λ_ _ _ _ _ _ _ _=>rfl),
  mkD X G a18 l18 c18 k18 (bn2 λ_ _ _ _ _ _ _ _=>rfl),
  mkD X G a19 l19 c19 k19 (bn2 λ_ _ _ _ _ _ _ _=>rfl),
  mkD X G a20 l20 c20 k20 (bn2 λ_ _ _ _ _ _ _ _=>rfl),
  mkD X G a21 l21 c21 k21 (bn2 λ_ _ _ _ _ _ _ _=>rfl),
  mkD X G a22 l22 c22 k22 (bn2 λ_ _ _ _ _ _ _ _=>rfl),
  mkD X G a23 l23 c23 k23 (bn2 λ_ _ _ _ _ _ _ _=>rfl),
  mkD X G a24 l24 c24 k24 (bn2 λ_ _ _ _ _ _ _ _=>rfl),
  mkD X G a25 l25 c25 k25 (bn2 λ_ _ _ _ _ _ _ _=>rfl),
  mkD X G a26 l26 c26 k26 (bn2 λ_ _ _ _ _ _ _ _=>rfl),
  mkD X G a27 l27 c27 k27 (bn2 λ_ _ _ _ _ _ _ _=>rfl),
  mkD X G a28 l28 c28 k28 (bn3 λ_ _ _ _ _ _ _ _ _=>rfl),
  mkD X G a29 l29 c29 k29 (bn2 λ_ _ _ _ _ _ _ _=>rfl),
  mkD X G a30 l30 c30 k30 (bn1 λ_ _ _ _ _ _ _=>rfl),
  W.mg_of X G gg0,
  u0g X G z0,
  u0g X G z1,
  u0g X G z2,
  u0g X G z3,
  u0g X G z4,
  u0g X G z5,
  u0g X G z6,
  u0g X G z7,
  u0g X G z8,
  u0g X G z9,
  u0g X G z10,
  u0g X G z11,
  u0g X G z12,
  u0g X G z13,
  rfl,
  hL _ (.head _),
  rfl,
  hL _ (.tail _ (.head _))⟩
 exact⟨_,λs v=>.of_eq rfl,λbase _ _ hL=>zkE (T base hL)⟩
theorem walk {l:W.OpenLaw}{q:Program}{loose:List Str}{XP:(Str->Option Value)->Heap->Prop}{YP:World->Heap->Prop}{d:DefRec}{K:Params->W.Frag}{cc0 pp0 cc1 pp1:Addr}{dd0 dd1:DefRec}(hn:l.most=some 63)(hdf:d.params.defaults=[])
 (hY:∀ (w:World) (h:Heap),YP w h->(K w.params).In h)
 (ht0:∀ w:World,W.tabIn (K w.params) "outwards"=some (cc0,pp0)) (hr0:(PyProof.Rows.recsOf q).find? (λe:DefRec=>e.name == ("outwards":Str))=some dd0)
 (ht1:∀ w:World,W.tabIn (K w.params) "ways_from"=some (cc1,pp1)) (hr1:(PyProof.Rows.recsOf q).find? (λe:DefRec=>e.name == ("ways_from":Str))=some dd1)
 (hq:([(cc0,pp0,"outwards.<locals>.<lambda>"),(cc1,pp1,"ways_from.<locals>.<lambda>")]:TL).all (λt=>(yA ([(cc0,pp0,"outwards.<locals>.<lambda>"),(cc1,pp1,"ways_from.<locals>.<lambda>")]:TL)).lookup t.2.1 == some t.2.2)=true) (hnK:∀ w:World,W.noTabs (K w.params)=true)
 (F:∀ (w:World) (mg:Str->Option Value) (fa:Addr) (h:Heap),(K w.params).In h->h.Ns mainGlobals mg->mg d.name=some (.ref fa) ->
  ∃ fd:FuncData,(∀ (s:Shared) (u:Value),BindsTo s fd ⟨[u],[]⟩ [("script",u)])/\∀ base:Heap,(K w.params).In base->base.Ns mainGlobals mg->(∀ t∈([(cc0,pp0,"outwards.<locals>.<lambda>"),(cc1,pp1,"ways_from.<locals>.<lambda>")]:TL),ZR base mg t.1 t.2.1 t.2.2)->yW l.prog w (K w.params) mg base CX0 30 fa fd ["script"] (ze3 (K w.params))) :
 PySem.W.WalkO q loose XP YP l.row.toRowW d [] (λf vs=>PySem.call f vs) :=
 L2.walk_ofL (tl:=([(cc0,pp0,"outwards.<locals>.<lambda>"),(cc1,pp1,"ways_from.<locals>.<lambda>")]:TL)) (n:=63) (k:=30) (x:="script") (CX:=λ_=>CX0) (sp:=λw=>ze3 (K w.params)) hn (by decide) hdf ⟨rfl,by decide,by decide⟩ hY hq hnK
  (λw _ mg mb h X T=>List.forall_mem_cons.mpr ⟨W.tab_of T X hr0 (ht0 w),List.forall_mem_cons.mpr ⟨W.tab_of T X hr1 (ht1 w),λ_ h=>nomatch h⟩⟩) F (λ_ _ a ns hl hS=>⟨a,ns,rfl,hS,hl,λ_=>rfl⟩) λ_ _ _ _ _ z=>z
end Mz
open PySem PySem.W PyProof.Rows
theorem PySem.W.Fast.tw7843705323845094178:True:=⟨⟩
theorem PySem.W.Fast.tw11927476241293997001:True:=⟨⟩
theorem PySem.W.Fast.tw6155294257768966830:True:=⟨⟩
theorem PySem.W.Fast.tw17087276094514518610:True:=⟨⟩
theorem PySem.W.Fast.tw7759253707388001879:True:=⟨⟩
theorem PySem.W.Fast.tw8994300346330397276:True:=⟨⟩
theorem PySem.W.Fast.tw14334785537386923609:True:=⟨⟩
theorem PySem.W.Fast.tw14867139810851642902:True:=⟨⟩
theorem PySem.W.Fast.tw14661793071153491427:True:=⟨⟩
theorem PySem.W.Fast.tw17165065925339149119:True:=⟨⟩
theorem PySem.W.Fast.tw12298356814702300401:True:=⟨⟩
theorem PySem.W.Fast.tw9830127660733640285:True:=⟨⟩
theorem PySem.W.Fast.tw3051745254872175613:True:=⟨⟩
theorem PySem.W.Fast.tw2394547221739706770:True:=⟨⟩
theorem PySem.W.Fast.tw961091916062722295:True:=⟨⟩
theorem PySem.W.Fast.tw101005364303566395:True:=⟨⟩
theorem PySem.W.Fast.tw1712449768815881259:True:=⟨⟩
theorem PySem.W.Fast.tw7573529385123198070:True:=⟨⟩
theorem PySem.W.Fast.tw14770873815491860607:True:=⟨⟩
theorem PySem.W.Fast.tw3139039730173562830:True:=⟨⟩
theorem PySem.W.Fast.tw14948205506765132278:True:=⟨⟩
theorem PySem.W.Fast.tw1361812764285440559:True:=⟨⟩
theorem PySem.W.Fast.tw5359446347442328481:True:=⟨⟩
set_option maxRecDepth 100000 in
set_option maxHeartbeats 0 in
theorem PySem.Challenge.cw_twoforone_k31_ways_of_trees_holds : PySem.Challenge.rw_twoforone_k31_ways_of_trees.Holds := by
  w_on;o_law;k_head;(case hw=>w_witness2)
  k_fill
  refine Mz.walk (l:=PySem.Challenge.rw_twoforone_k31_ways_of_trees) (cc0:=?cc0) (pp0:=?pp0) (dd0:=?dd0) (cc1:=?cc1) (pp1:=?pp1) (dd1:=?dd1) rfl rfl (fun w h Y=>PySem.W.km_in_of Y) ?ht0 ?hr0 ?ht1 ?hr1 ?hq ?hnK ?F
  case ht0 =>
    intro w
    refine' L2.tab_mk ?ta ?tl ?tk ?tc ?tv
    case ta | tl=>k_is
    case tk=>rfl
    case tc=>k_is
    case tv=>rfl
  case ht1 =>
    intro w
    refine' L2.tab_mk ?ta ?tl ?tk ?tc ?tv
    case ta | tl=>k_is
    case tk=>rfl
    case tc=>k_is
    case tv=>rfl
  case hr0=>rfl
  case hr1=>rfl
  case hq=>kernel_rfl
  case hnK =>
    intro w
    kernel_rfl
  case F =>
    intro w mg fa h KX G hmg
    refine' Mz.all_mk KX G hmg ?a0 ?l0 ?c0 ?k0 ?a1 ?l1 ?c1 ?k1 ?a2 ?l2 ?c2 ?k2 ?a3 ?l3 ?c3 ?k3 ?a4 ?l4 ?c4 ?k4 ?a5 ?l5 ?c5 ?k5 ?a6 ?l6 ?c6 ?k6 ?a7 ?l7 ?c7 ?k7 ?a8 ?l8 ?c8 ?k8 ?a9 ?l9 ?c9 ?k9 ?a10 ?l10 ?c10 ?k10 ?a11 ?l11 ?c11 ?k11 ?a12 ?l12 ?c12 ?k12 ?a13 ?l13 ?c13 ?k13 ?a14 ?l14 ?c14 ?k14 ?a15 ?l15 ?c15 ?k15 ?a16 ?l16 ?c16 ?k16 ?a17 ?l17 ?c17 ?k17 ?a18 ?l18 ?c18 ?k18 ?a19 ?l19 ?c19 ?k19 ?a20 ?l20 ?c20 ?k20 ?a21 ?l21 ?c21 ?k21 ?a22 ?l22 ?c22 ?k22 ?a23 ?l23 ?c23 ?k23 ?a24 ?l24 ?c24 ?k24 ?a25 ?l25 ?c25 ?k25 ?a26 ?l26 ?c26 ?k26 ?a27 ?l27 ?c27 ?k27 ?a28 ?l28 ?c28 ?k28 ?a29 ?l29 ?c29 ?k29 ?a30 ?l30 ?c30 ?k30 ?gg0 ?z0 ?z1 ?z2 ?z3 ?z4 ?z5 ?z6 ?z7 ?z8 ?z9 ?z10 ?z11 ?z12 ?z13
    case a0 | l0 | c0 | k0 | a1 | l1 | c1 | k1 | a2 | l2 | c2 | k2 | a3 | l3 | c3 | k3 | a4 | l4 | c4 | k4 | a5 | l5 | c5 | k5 | a6 | l6 | c6 | k6 | a7 | l7 | c7 | k7 | a8 | l8 | c8 | k8 | a9 | l9 | c9 | k9 | a10 | l10 | c10 | k10 | a11 | l11 | c11 | k11 | a12 | l12 | c12 | k12 | a13 | l13 | c13 | k13 | a14 | l14 | c14 | k14 | a15 | l15 | c15 | k15 | a16 | l16 | c16 | k16 | a17 | l17 | c17 | k17 | a18 | l18 | c18 | k18 | a19 | l19 | c19 | k19 | a20 | l20 | c20 | k20 | a21 | l21 | c21 | k21 | a22 | l22 | c22 | k22 | a23 | l23 | c23 | k23 | a24 | l24 | c24 | k24 | a25 | l25 | c25 | k25 | a26 | l26 | c26 | k26 | a27 | l27 | c27 | k27 | a28 | l28 | c28 | k28 | a29 | l29 | c29 | k29 | a30 | l30 | c30 | k30 | gg0 | z0 | z1 | z2 | z3 | z4 | z5 | z6 | z7 | z8 | z9 | z10 | z11 | z12 | z13=>k_is
