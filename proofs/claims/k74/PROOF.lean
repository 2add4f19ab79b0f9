import PyProof.Rows.All
import Wide.All
import OpenK.AllK
import Wide.FinOn
import Lean
import PyProof.EqAt
import PyProof.EqKinds
import PyProof.TupleCall
import PyProof.NeKinds
import PyProof.OldK
import KE.KLam
import KE.KSortKey
import PySem.Challenge.RW_twoforone_k74_whole_shows_of_trees_and_r
set_option bootstrap.genMatcherCode false
set_option compiler.extract_closed false
set_option Elab.async false
set_option linter.all false
set_option maxRecDepth 100000
set_option maxHeartbeats 4000000
def u2o:=@PySem.Around.under_plainId
def u1D:=@Array.Perm.refl
def u21:=@Array.getElem?_eq_getElem
def u2I:=@Array.getElem?_eq_some_iff
def u19:=@Array.getElem?_toList
def u0h:=@Array.length_toList
def u1j:=@Array.perm_iff_toList_perm
def u3x:=@Array.size_map
def u3q:=@Array.size_push
def r4:=@Bool.and_eq_true
def u1n:=@Bool.and_false
def u2t:=@Bool.and_true
def u08:=@Bool.eq_iff_iff
def u1E:=@Bool.false_eq_true
def u6:=@Bool.false_ne_true
def u2N:=@Bool.not_eq_false'
def u0w:=@Bool.not_eq_true'
def u1F:=@Bool.or_eq_true
def u3a:=@Bool.or_false
def u0Q:=@PySem.Calls.spliced_cons
def u0V:=@PySem.Calls.spliced_nil
def u1o:=@PySem.F.plain_max_loop
def u0M:=@PySem.F.slot_tuple_iterator_next
def u2z:=@PySem.F.slot_zip_next
def u0x:=@PySem.Heap.SameBut.update
def u5:=@PySem.Heap.get?_push_of_some
def q7:=@PySem.Heap.get?_push_size
def g3:=@PySem.Heap.get?_update_other
def u0R:=@PySem.Heap.get?_update_self
def q4:=@PySem.Heap.lt_size
def u0J:=@PySem.Heap.size_push
def u0T:=@Int.le_refl
def u2O:=@Int.le_trans
def u2P:=@Int.lt_of_lt_of_le
def u3C:=@Int.mul_add
def u3b:=@Int.mul_assoc
def u1u:=@Int.mul_comm
def u1Y:=@Int.mul_one
def u2Q:=@Int.pow_succ
def u1e:=@Int.toNat_natCast
def u02:=@Int.toNat_of_nonneg
def u0r:=@Int.zero_add
def u1Z:=@PyProof.Rows.KeyOrd.kle_of_klt
def u0K:=@PyProof.Rows.KeyOrd.kle_refl
def u2g:=@PyProof.Rows.KeyOrd.kle_trans
def u24:=@List.Pairwise.imp_of_mem
def u1v:=@List.Perm.eq_of_pairwise
def u3y:=@List.Perm.refl
def u3c:=@List.all_cons
def f9:=@List.all_eq_true
def u1w:=@List.all_map
def u1G:=@List.any_cons
def u25:=@List.any_eq_false
def u26:=@List.append_assoc
def f6:=@List.append_nil
def u0e:=@List.cons.inj
def u2h:=@List.countP_cons
def u2a:=@List.countP_le_length
def u0B:=@List.drop_eq_getElem_cons
def u2i:=@List.drop_length
def u2j:=@List.ext_getElem
def u27:=@List.ext_getElem?
def u2A:=@List.filterMap_cons
def u3i:=@List.filter_cons
def u1H:=@List.filter_cons_of_neg
def u09:=@List.find?_cons
def u0W:=@List.flatten_cons
def u1T:=@List.flatten_replicate_singleton
def u1I:=@List.forIn_cons
def u17:=@List.forIn_nil
def u1l:=@List.forall_mem_cons
def j9:=@List.getD_eq_getElem?_getD
def u0b:=@List.getElem?_append_left
def e9:=@List.getElem?_append_right
def u8:=@List.getElem?_eq_getElem
def u0E:=@List.getElem?_eq_none
def t5:=@List.getElem?_eq_some_iff
def q0:=@List.getElem?_map
def u0y:=@List.getElem?_range
def i5:=@List.getElem?_replicate
def i6:=@List.getElem?_set
def k6:=@List.getElem?_set_ne
def g6:=@List.getElem?_set_self
def u22:=@List.getElem?_zip_eq_some
def u2k:=@List.getElem_inj
def u0N:=@List.getElem_map
def u0s:=@List.getElem_mem
def n0:=@List.getElem_of_mem
def u2R:=@List.getElem_range
def u2p:=@List.getElem_toArray
def u2l:=@List.getElem_zip
def j5:=@List.length_append
def k4:=@List.length_cons
def u0O:=@List.length_drop
def u0n:=@List.length_eq_zero_iff
def u1x:=@List.length_erase_of_mem
def u1a:=@List.length_filter_le
def u4:=@List.length_map
def u0X:=@List.length_nil
def k8:=@List.length_range
def f8:=@List.length_replicate
def u2B:=@List.length_reverse
def u0L:=@List.length_set
def u0t:=@List.length_take
def u0c:=@List.length_zip
def u3z:=@List.mapM_cons
def u10:=@List.mapM_toArray
def o0:=@List.map_append
def o9:=@List.map_congr_left
def r6:=@List.map_cons
def u2C:=@List.map_id
def r9:=@List.map_map
def u2S:=@List.map_nil
def u06:=@List.map_replicate
def u1y:=@List.map_set
def u2b:=@List.max?_eq_some_iff
def u0o:=@List.mem_append
def u0U:=@List.mem_append_left
def r3:=@List.mem_append_right
def t6:=@List.mem_cons
def o7:=@List.mem_cons_of_mem
def l5:=@List.mem_cons_self
def o6:=@List.mem_filter
def u2T:=@List.mem_filterMap
def u0f:=@List.mem_flatMap
def p0:=@List.mem_map
def u0i:=@List.mem_map_of_mem
def j4:=@List.mem_of_getElem?
def j6:=@List.mem_range
def q5:=@List.mem_singleton
def u2D:=@List.mergeSort_perm
def u3s:=@List.nil_append
def f7:=@List.nodup_cons
def h9:=@List.nodup_iff_pairwise_ne
def u04:=@List.nodup_nil
def l0:=@List.nodup_range
def r8:=@List.not_mem_nil
def u1J:=@List.of_mem_zip
def p4:=@List.pairwise_cons
def u0C:=@List.pairwise_iff_getElem
def l7:=@List.pairwise_map
def u1K:=@List.pairwise_mergeSort
def u2K:=@List.perm_ext_iff_of_nodup
def u1b:=@List.range_succ
def u0z:=@List.replicate_succ
def u11:=@List.reverse_cons
def t8:=@List.size_toArray
def u2E:=@List.sum_append
def u0I:=@List.sum_cons
def u1f:=@List.take_add_one
def u0u:=@List.take_length
def u1U:=@List.take_of_length_le
def u05:=@List.take_succ
def u2m:=@List.toArray_inj
def u2n:=@List.zipIdx_cons
def u3t:=@List.zipIdx_nil
def u0S:=@List.zip_cons_cons
def u2U:=@List.zip_nil_right
def u1r:=@Nat.add_le_add_left
def u0g:=@Nat.le_add_right
def u1L:=@Nat.le_antisymm
def u2V:=@Nat.le_of_eq
def u0k:=@Nat.le_of_lt
def l8:=@Nat.le_of_lt_succ
def u1p:=@Nat.le_of_not_lt
def t7:=@Nat.le_refl
def u1m:=@Nat.le_sub_one_of_lt
def u3d:=@Nat.le_succ
def o5:=@Nat.le_trans
def i7:=@Nat.lt_irrefl
def p5:=@Nat.lt_of_le_of_lt
def u2W:=@Nat.lt_of_le_of_ne
def j2:=@Nat.lt_of_lt_of_le
def u1g:=@Nat.lt_succ_of_lt
def u3j:=@Nat.lt_succ_self
def u0Y:=@Nat.min_eq_left
def u3k:=@Nat.min_le_right
def u2X:=@Nat.min_self
def u1c:=@Nat.ne_of_gt
def k7:=@Nat.ne_of_lt
def u1M:=@Nat.not_lt_zero
def u2q:=@Nat.sub_le_sub_right
def u1q:=@Nat.succ_le_succ
def g8:=@Nat.zero_add
def g9:=@Nat.zero_le
def u28:=@Nat.zero_lt_of_lt
def u0p:=@Ne.symm
def u0:=@Option.bind_eq_some_iff
def j7:=@Option.bind_some
def u29:=@Option.isSome_iff_exists
def u12:=@Option.isSome_map
def u7:=@Option.map_eq_some_iff
def g0:=@Option.some.inj
def u2F:=@PySem.PassesOwn.never
def u2v:=@Prod.ext
def u1z:=@PyProof.Rows.callWith_kw
def o8:=@PyProof.Rows.callWith_type1
def u2c:=@PyProof.Rows.kws_cons
def u2r:=@PyProof.Rows.kws_nil
def l4:=@PyProof.Rows.slot_tuple_getitem
def u1A:=@PySem.F.args_tuple_add_2
def u1N:=@PySem.F.entry_tuple_add
def u1k:=@PySem.F.excBase_ValueError
def i8:=@PySem.F.plainAttrs_list
def u1B:=@PySem.F.slot_list_append
def u1V:=@PySem.F.slot_tuple_add
def u1C:=@PySem.F.type_list_append
def u1W:=@PySem.W.cellsFrom_some
def u1s:=@PySem.W.hideAll_get
def l6:=@PySem.W.kia_one
def u13:=@PySem.W.kitx_dict
def p9:=@PySem.W.mg_of
def p7:=@PySem.mem_of_lookup
def u1O:=@PySem.SeqAt.EqAt.int_int
def u1P:=@PySem.SeqAt.EqAt.of_refs
def u0A:=@beq_eq_false_iff_ne
def u2w:=@beq_iff_eq
def u0P:=@beq_self_eq_true
def u2x:=@PySem.call_meets
def u2G:=@PySem.codeAny_builtin
def u2d:=@PySem.codeAny_mono
def u0q:=@congrArg
def u3l:=@decide_eq_decide
def j8:=@decide_eq_false
def p6:=@decide_eq_false_iff_not
def j0:=@decide_eq_true
def j3:=@decide_eq_true_eq
def u1Q:=@PyProof.Rows.get?_update_seq
def u2Y:=@getElem?_pos
def u3v:=@if_false
def t9:=@if_neg
def u9:=@if_pos
def u14:=@if_true
def u01:=@PyProof.Rows.listItems_at
def u1h:=@PyProof.Rows.listUpdate_at
def u15:=@not_false_eq_true
def u3A:=@not_or
def u0F:=@of_decide_eq_false
def k9:=@of_decide_eq_true
def u0D:=@or_false
def u2Z:=@PyProof.Rows.pairsOf_size
def u1R:=@PySem.plainId_quiet
def u1d:=@PySem.sizeLine_eq
def u1X:=@PyProof.Rows.subscriptTail_builtinR
def u20:=@PySem.tupleKind_room_in1
def u0G:=@PySem.wpAny_Call_Name_kw
def u03:=@PySem.wpAny_attempt
def u3:=@PySem.wpAny_bind
def u3w:=@PySem.wpAny_call
def i9:=@PySem.wpAny_callSpecial?_slot
def u0H:=@PySem.wpAny_call_entry
def u1S:=@PySem.wpAny_execs_nil
def u0j:=@PySem.wpAny_field
def i0:=@PySem.wpAny_holding
def u1t:=@PySem.wpAny_letGo
def u0d:=@PySem.wpAny_loadPart'
def p8:=@PySem.wpAny_mono
def u3h:=@PySem.wpAny_newList
def u0l:=@PySem.wpAny_newObj_type
def u0Z:=@PySem.wpAny_passesOwn
def t0:=@PySem.wpAny_pure
def u16:=@PySem.wpAny_pyIter_enum
def u00:=@PySem.wpAny_pyIter_list
def u2s:=@PySem.wpAny_pyIter_revIter
def u0a:=@PySem.wpAny_pyIter_tuple
def u1i:=@PySem.wpAny_rule
def u0m:=@PySem.wpAny_seqItems
def u07:=@PySem.wpAny_setField_rec
def l9:=@PySem.wpAny_truthy_bool
def u18:=@PySem.wpAny_tryCatch
def u2e:=@PySem.wpAny_typeOf
def u2H:=@PySem.wpAny_updateSeq
def s0:=@PyProof.Rows.wpS_bind
def u2f:=@PyProof.Rows.wpS_forRange
def u0v:=@PyProof.Rows.wpS_pure
noncomputable section
abbrev yL:=PySem.Value->PySem.Shared->Prop
abbrev xn:=List (PySem.Addr × PySem.Obj)
abbrev w1:=PySem.Str->Option PySem.Value
abbrev xi:=List (Option Int)
abbrev vD:=List (PySem.Str × PySem.Addr)
abbrev ve:=List (List Int)
abbrev Vc:=List (List Nat)
abbrev zP:=Array PySem.Value
abbrev zc:=List Int
abbrev zt:=List PySem.Value
abbrev zJ:=List PySem.Str
abbrev zC:=List Nat
abbrev xK:=List PySem.Expr
abbrev Xp:=List PySem.Stmt
abbrev xx:=List PySem.Addr
abbrev x4:=Option PySem.Addr
abbrev zX:=Option Int
abbrev zz:=PySem.W.Frag
abbrev XQ:=PySem.FuncData
abbrev zH:=PySem.Program
abbrev zj:=PySem.Shared
abbrev zI:=PySem.Around
namespace L2
open PySem PySem.Spec PyProof.Rows
abbrev Key:=Sum Int Str
def zff:Key->Value->Bool
 | .inl k,v=>Value.isInt k v
 | .inr x,v=>Value.isStrOf x v
def keyH (w:World):Key->Int
 | .inl k=>hashInt k
 | .inr x=>hashStr w x
def yP:∀ {k:Key} {v:Value},zff k v=true->(∃ i t,k=Sum.inl i/\v=Value.int i t)\/(∃ x t,k=Sum.inr x/\v=Value.str x t)
 | .inl i,v,h=>by
  obtain⟨t,e⟩:=Value.isInt_shape (k:=i) (v:=v) h
  exact .inl ⟨i,t,rfl,e⟩
 | .inr x,v,h=>by
  obtain⟨t,e⟩:=Value.isStrOf_shape (x:=x) (v:=v) h
  exact .inr ⟨x,t,rfl,e⟩
def zhG (i:Int)(t:Tok):zff (.inl i) (.int i t)=true:=by simp[zff,Value.isInt]
def zhp (x:Str)(t:Tok):zff (.inr x) (.str x t)=true:=by simp[zff,Value.isStrOf]
def zom (a b:Int):decide ((Sum.inl a:Key)=Sum.inl b)=(a == b):=by
 by_cases e:a=b
 .subst e;simp
 .have h:¬ (Sum.inl a:Key)=Sum.inl b:=λq=>e (Sum.inl.inj q)
  rw[j8 h]
  exact(u0A.mpr e).symm
def zql (a b:Str):decide ((Sum.inr a:Key)=Sum.inr b)=decide (a=b):=by
 by_cases e:a=b
 .subst e;simp
 .have h:¬ (Sum.inr a:Key)=Sum.inr b:=λq=>e (Sum.inr.inj q)
  rw[j8 h,j8 e]
def zod (a:Int)(b:Str):decide ((Sum.inl a:Key)=Sum.inr b)=false:=j8 (λq=>nomatch q)
def zp8 (a:Str)(b:Int):decide ((Sum.inr a:Key)=Sum.inl b)=false:=j8 (λq=>nomatch q)
def wa (prog:zH)(w:World):PySem.KeyKind prog w Key where
 is:=zff
 hash:=keyH w
 inj:=λv a b ha hb=>by
  rcases yP ha with ⟨i,t,rfl,rfl⟩ | ⟨x,t,rfl,rfl⟩
  .rcases yP hb with ⟨j,u,rfl,e⟩ | ⟨y,u,rfl,e⟩
   .injection e with e1 _;rw[e1]
   .exact nomatch e
  .rcases yP hb with ⟨j,u,rfl,e⟩ | ⟨y,u,rfl,e⟩
   .exact nomatch e
   .injection e with e1 _;rw[e1]
 byValue:=λk v h=>by
  rcases yP h with ⟨i,t,rfl,rfl⟩ | ⟨x,t,rfl,rfl⟩ <;> rfl
 pyHash:=λhv h=>by
  rcases yP hv with ⟨i,t,rfl,rfl⟩ | ⟨x,t,rfl,rfl⟩
  .exact wpAny_pyHash_int h
  .exact wpAny_pyHash_str h
 eqBool:=λhu hv h=>by
  rcases yP hu with ⟨i,t,rfl,rfl⟩ | ⟨x,t,rfl,rfl⟩
  .rcases yP hv with ⟨j,u,rfl,rfl⟩ | ⟨y,u,rfl,rfl⟩
   .rw[zom]at h;exact wpAny_eqBool_int h
   .rw[zod]at h;exact SeqAt.EqAt.int_str i t y u _ _ _ _ h
  .rcases yP hv with ⟨j,u,rfl,rfl⟩ | ⟨y,u,rfl,rfl⟩
   .rw[zp8]at h;exact SeqAt.EqAt.str_int x t j u _ _ _ _ h
   .rw[zql]at h;exact wpAny_eqBool_str h
 «strs»:=λk x t v h=>by
  rcases yP h with ⟨i,u,rfl,e⟩ | ⟨y,u,rfl,e⟩
  .exact nomatch e
  .injection e with e1 _
   subst e1
   cases v <;> rfl
def zdn (a:zH)(w:World)(i:Int)(t:Tok):(wa a w).is (.inl i) (.int i t)=true:=zhG i t
def zdD (a:zH)(w:World)(x:Str)(t:Tok):(wa a w).is (.inr x) (.str x t)=true:=zhp x t
inductive V where
 | non | bl (b:Bool) | int (i:Int) | str (x:Str) | byt (b:Array UInt8) | flt (b:UInt64) | ref (a:Addr) | ty (n:String)
 deriving DecidableEq
abbrev zbP:=List (List Key × V)
abbrev zx:=List V
def y2:V->Value->Prop
 | .non,u=>u=Value.none
 | .bl b,u=>u=Value.bool b
 | .int i,u=>∃ t,u=Value.int i t
 | .str x,u=>∃ t,u=Value.str x t
 | .byt b,u=>∃ t,u=Value.bytes b t
 | .flt b,u=>∃ t,u=Value.float b t
 | .ref a,u=>u=Value.ref a
 | .ty n,u=>u=Value.type n
abbrev yl:zx->zt->Prop:=Paired y2
def yl.length {b:zx}{a:zt}(r:yl b a):b.length=a.length:=Paired.length r
def yl.get:∀ {b:zx} {a:zt} {i:Nat} {x:V},yl b a->b[i]?=some x->∃ u,a[i]?=some u/\y2 x u
 | _,_,_,_,.nil,e=>by simp at e
 | _,_,0,_,.cons r _,e=>by simp at e;subst e;exact⟨_,rfl,r⟩
 | _,_,i+1,x,.cons _ t,e=>by
  obtain⟨u,d,c⟩:=yl.get (i:=i) (x:=x) t (by simpa using e)
  exact⟨u,by simpa using d,c⟩
def yl.set (r:y2 x u):∀ {b:zx} {a:zt} (i:Nat),yl b a->yl (b.set i x) (a.set i u)
 | _,_,_,.nil=>.nil
 | _,_,0,.cons _ t=>.cons r t
 | _,_,i+1,.cons q t=>.cons q (yl.set r i t)
def yl.append:∀ {c d:zx} {b a:zt},yl c b->yl d a->yl (c++d) (b++a):=by
 intro c d b a h s
 induction h with
 | nil=>exact s
 | cons r t e=>exact .cons r e
def yl.take:∀ {b:zx} {a:zt} (n:Nat),yl b a->yl (b.take n) (a.take n)
 | _,_,0,_=>.nil
 | _,_,_+1,.nil=>.nil
 | _,_,n+1,.cons r t=>.cons r (yl.take n t)
def yl.drop:∀ {b:zx} {a:zt} (n:Nat),yl b a->yl (b.drop n) (a.drop n)
 | _,_,0,r=>r
 | _,_,_+1,.nil=>.nil
 | _,_,n+1,.cons _ t=>yl.drop n t
def zh4:Option V->Option Value->Prop
 | some v,some u=>y2 v u
 | none,none=>True
 | _,_=>False
def KV {κ:Type}:List (κ × V)->List (κ × Value)->Prop:=Paired λ(p:κ × V) (q:κ × Value)=>p.1=q.1/\y2 p.2 q.2
def kV:Key->V
 | .inl i=>.int i
 | .inr x=>.str x
inductive HO where
 | lst (xs:zx)
 | tup (xs:zx)
 | dK (kvs:List (Key × V)) | dT (kvs:zbP)
 | set (S:Int->Bool) (n:Nat)
 | ins (C dx:Addr) (fs:List (Str × V))
 | own (x:Addr)
 | xd (fs:List (Str × V))
 | met (f x:Addr)
 | rng (lo hi:Int)
 | frz (o:Obj) (u:HO)
 | tbl (ps:zP)
 | ext (φ:Heap->Prop)
abbrev Hp:=Addr->Option HO
def upd (H:Hp)(a:Addr)(o:HO):Hp:=λb=>if b=a then some o else H b
def zq:upd H a o a=some o:=by unfold upd;rw[u9 rfl]
def zn {H:Hp}(h:b≠a):upd H a o b=H b:=by unfold upd;rw[t9 h]
def zgP:upd (upd H a o) a u=upd H a u:=by
 funext b;unfold upd;split <;> rfl
def zrl {H:Hp}(h:H a=some o)(c:H b=some u)(d:o≠u):a≠b:=by
 intro e;subst e;rw[h]at c;exact d (g0 c)
def zg {H:Hp}(h:H a=some o)(c:H b=none):a≠b:=by
 intro e;subst e;rw[h]at c;cases c
section
variable (P:zH)(w:World)
def yQ (H:Hp)(h:Heap)(a:Addr):HO->Prop
 | .lst e=>e.length<=sizeLine/\∃ (b:zt) (n:Nat),yl e b/\h.get? a=some { cls:=.type "list",data:=.seq b.toArray n }
 | .tup e=>e.length<=sizeLine/\∃ b:zt,yl e b/\IsTup h a b.toArray
 | .dK d=>d.length<=sizeLine/\(a == sysModules)=false/\∃ j,KV d j/\h.DictOf (wa P w) a j
 | .dT d=>d.length<=sizeLine/\(a == sysModules)=false/\∃ e:List (List Key × Addr × Value),
  Paired (λ(p:List Key × V) (q:List Key × Addr × Value)=>p.1=q.1/\H q.2.1=some (.tup (p.1.map kV))/\y2 p.2 q.2.2) d e /\
  ∃ o A F,h.get? a=some o/\o.ExactDict/\o.data=.dict A F/\A.toList=e.map (entryOfKey (tupleKind (wa P w)))/\(e.map (·.1)).Nodup
 | .set S n=>h.SetOf (intKind P w) a S n
 | .ins C k i=>H k=some (.own a)/\i.length<=1000/\k≠a/\h.get? a=some (W.instObj C k) /\
  ∃ g,h.Ns1 k g/\(∀ f,zh4 (i.lookup f) (g f))/\PySem.Within g (i.map (·.1))
 | .own _=>∃ o,h.get? a=some o
 | .xd i=>∃ g,h.Ns1 a g/\∀ f,zh4 (i.lookup f) (g f)
 | .rng G E=>∃ t u v,h.get? a=some { cls:=.type "range",data:=.fields #[.int G t,.int E u,.int 1 v] }
 | .frz o u=>h.get? a=some o/\yQ H h a u
 | .tbl D=>∃ m:zP,h.get? a=some { cls:=.none,data:=.fields m }/\TriplesOk m.toList/\∀ l c,codeAmong l m.toList=some c->∃ s z j q t B,c=.ref s/\H s=some (.frz z (.own a))/\z.data=.fields j/\j[1]?=some (.str q t)/\D[0]?=some (.str q B)
 | .met f x=>h.get? a=some (W.methodObj (.ref f) (.ref x))
 | .ext φ=>φ h/\(∃ o,h.get? a=some o)/\∀ y r:Heap,φ y->(∀ o,y.get? a=some o->r.get? a=some o)->φ r
def HOk (H:Hp)(h:Heap):Prop:=∀ a o,H a=some o->yQ P w H h a o
end
section
variable {P:zH}{w:World}{H H':Hp}{h h':Heap}{a:Addr}{o:HO}
def yQ.lt (x:yQ P w H h a o):a<h.objs.size:=by
 cases o with
 | lst c=>obtain⟨_,_,_,_,e⟩:=x;exact q4 e
 | tup c=>obtain⟨_,_,_,p⟩:=x;exact p.lt
 | dK b=>obtain⟨_,_,_,_,o,_,_,e,_⟩:=x;exact q4 e
 | dT b=>obtain⟨_,_,_,_,o,_,_,e,_⟩:=x;exact q4 e
 | set S n=>obtain⟨o,_,_,_,e,_⟩:=x;exact q4 e
 | ins C l d=>obtain⟨_,_,_,e,_⟩:=x;exact q4 e
 | own y=>obtain⟨_,e⟩:=x;exact q4 e
 | xd d=>obtain⟨_,⟨_,_,_,e,_⟩,_⟩:=x;exact q4 e
 | rng j k=>obtain⟨_,_,_,e⟩:=x;exact q4 e
 | frz g u=>obtain⟨e,_⟩:=x;exact q4 e
 | tbl i=>obtain⟨_,e,_⟩:=x;exact q4 e
 | met f y=>exact q4 (show h.get? a=some _ from x)
 | ext φ=>obtain⟨_,⟨_,e⟩,_⟩:=x;exact q4 e
def Paired.mapP {α β:Type}{F G:α->β->Prop}:∀ {d:List α} {c:List β},Paired F d c->(∀ a b,F a b->G a b)->Paired G d c:=by
 intro i g h f
 induction h with
 | nil=>exact .nil
 | cons r t e=>exact .cons (f _ _ r) e
def yQ.stay (x:yQ P w H h a o)(k:∀ b u,(b=a\/H b=some (.own a))->h.get? b=some u->h'.get? b=some u)
 (V:∀ b,H b=some (.own a)->H' b=some (.own a)) (L:∀ b m,H b=some (.tup m)->H' b=some (.tup m)) (Y:∀ b o u,H b=some (.frz o u)->H' b=some (.frz o u):=by(intro b g u q;first | exact q | (rw[zn (zg q (by assumption))];exact q) | (rw[zn (λz=>by subst z;have G:=‹Mut _›;rw[q]at G;exact G)];exact q))):yQ P w H' h' a o:=by
 induction o with
 | lst m=>obtain⟨z,l,n,r,e⟩:=x;exact⟨z,l,n,r,k _ _ (.inl rfl) e⟩
 | tup m=>obtain⟨z,l,r,g,e,c⟩:=x;exact⟨z,l,r,g,k _ _ (.inl rfl) e,c⟩
 | dK s=>obtain⟨z,y,D,r,g,j,i,e,c⟩:=x;exact⟨z,y,D,r,g,j,i,k _ _ (.inl rfl) e,c⟩
 | dT s =>
  obtain⟨z,y,m,r,g,j,i,e,c⟩:=x
  exact⟨z,y,m,Paired.mapP r λp q z=>⟨z.1,L _ _ z.2.1,z.2.2⟩,g,j,i,k _ _ (.inl rfl) e,c⟩
 | set S n=>obtain⟨g,j,i,t,e,c⟩:=x;exact⟨g,j,i,t,k _ _ (.inl rfl) e,c⟩
 | ins C dx Q =>
  obtain⟨d,z,M,e,B,⟨E,j,i,N,c⟩,r⟩:=x
  exact⟨V _ d,z,M,k _ _ (.inl rfl) e,B,⟨E,j,i,k _ _ (.inr d) N,c⟩,r⟩
 | own y=>obtain⟨g,e⟩:=x;exact⟨g,k _ _ (.inl rfl) e⟩
 | xd Q=>obtain⟨B,⟨E,j,i,e,c⟩,r⟩:=x;exact⟨B,⟨E,j,i,k _ _ (.inl rfl) e,c⟩,r⟩
 | rng lo hi=>obtain⟨t,u,v,e⟩:=x;exact⟨t,u,v,k _ _ (.inl rfl) e⟩
 | frz g u X=>obtain⟨e,q⟩:=x;exact⟨k _ _ (.inl rfl) e,X q⟩
 | tbl ps =>
  obtain⟨W,e,R,q⟩:=x
  refine⟨W,k a _ (.inl rfl) e,R,λA c T=>?_⟩
  obtain⟨K,U,D,O,t,I,J,Z,r⟩:=q A c T
  exact⟨K,U,D,O,t,I,J,Y _ _ _ Z,r⟩
 | met f y =>
  have e:h.get? a=some (PySem.W.methodObj (.ref f) (.ref y)):=x
  show h'.get? a=some (PySem.W.methodObj (.ref f) (.ref y))
  exact k a _ (.inl rfl) e
 | ext φ=>obtain⟨p,⟨o,e⟩,F⟩:=x;exact⟨F _ _ p λo q=>k _ _ (.inl rfl) q,⟨o,k _ _ (.inl rfl) e⟩,F⟩
def HOk.lt (x:HOk P w H h)(e:H a=some o):a<h.objs.size:=(x a o e).lt
def HOk.fresh (x:HOk P w H h)(e:h.objs.size<=a):H a=none:=by
 cases q:H a with
 | none=>rfl
 | some u=>exact absurd (j2 (x.lt q) e) (i7 _)
def HOk.kept (x:HOk P w H h)(k:∀ b u,h.get? b=some u->h'.get? b=some u):HOk P w H h':=λa o e =>
 (x a o e).stay (λb u _ q=>k b u q) (λ_ q=>q) λ_ _ q=>q
def HOk.laid (x:HOk P w H h)(k:∀ b u,h.get? b=some u->h'.get? b=some u)(i:h.objs.size<=a)(d:yQ P w (upd H a o) h' a o):HOk P w (upd H a o) h':=λb u e=>by
 have f:=x.fresh i
 by_cases g:b=a
 .subst g;rw[zq]at e;cases e;exact d
 .rw[zn g]at e
  exact(x b u e).stay (λc v _ q=>k c v q) (λc q=>by rw[zn (zg q f)];exact q) λc j q=>by rw[zn (zg q f)];exact q
end
def Rd (H:Hp)(a:Addr)(u:HO):Prop:=H a=some u\/∃ o,H a=some (.frz o u)
def Rd.ok {w:World}(r:Rd H a u)(x:HOk P w H h):yQ P w H h a u:=by
 rcases r with r | ⟨o,r⟩
 .exact x a u r
 .obtain⟨_,q⟩:=x a _ r
  exact q
def Mut:Option HO->Prop
 | some (.lst _)=>True
 | some (.dK _)=>True
 | some (.dT _)=>True
 | some (.set _ _)=>True
 | some (.ins _ _ _)=>True
 | some (.ext _)=>True
 | _=>False
section
variable {P:zH}{w:World}{H:Hp}{h h':Heap}{x e:Addr}{o':HO}
def HOk.write (ok:HOk P w H h)(l:Mut (H x))(o:e=x\/H e=some (.own x))(k:∀ b u,b≠e->h.get? b=some u->h'.get? b=some u)(n:∃ u,h'.get? e=some u)
 (m:yQ P w (upd H x o') h' x o'):HOk P w (upd H x o') h':=λb u q=>by
 have d:∀ c y,H c=some (.own y)->c≠x:=λc y r z=>by subst z;rw[r]at l;exact l
 have f:∀ c j,H c=some (.tup j)->c≠x:=λc j r z=>by subst z;rw[r]at l;exact l
 by_cases i:b=x
 .subst i;rw[zq]at q;cases q;exact m
 .rw[zn i]at q
  by_cases a:b=e
  .have p:H b=some (.own x):=by
    rcases o with z | z
    .exact absurd (a.trans z) i
    .rw[a];exact z
   rw[q]at p;cases p
   obtain⟨v,s⟩:=n
   exact⟨v,by rw[a];exact s⟩
  .refine(ok b u q).stay (λc v g r=>k c v ?_ r) (λc r=>by rw[zn (d c b r)];exact r) λc j r=>by rw[zn (f c j r)];exact r
   rcases g with rfl | g
   .exact a
   .rintro rfl
    rcases o with z | z
    .exact d c b g z
    .rw[g]at z;cases z;exact i rfl
end
structure Un (fs ex:xx) (H H':Hp) (h h':Heap):Prop where
 keep:∀ b o,h.get? b=some o->H b=none->b∉fs->b∉ex->h'.get? b=some o
 slot:∀ b o,h.get? b=some o->H b=none->b∈fs->b∉ex->∃ sl,h'.get? b=some { o with slots:=sl }
 free:∀ b o,h.get? b=some o->H b=none->b∉ex->H' b=none
 there:∀ b o,h.get? b=some o->b∉ex->∃ o',h'.get? b=some o'
 tups:∀ b xs,H b=some (.tup xs)->H' b=some (.tup xs)
 frzs:∀ b o u,H b=some (.frz o u)->H' b=some (.frz o u)
 tbls:∀ b ps,H b=some (.tbl ps)->H' b=some (.tbl ps)
section
variable {fs fs' ex ex':xx}{H H1 H2:Hp}{h h1 h2 h':Heap}{a x e:Addr}{o:HO}
def Un.any (u:Un fs ex H H1 h h1){a:Obj}(q:h.get? b=some a)(n:H b=none)(c:b∉ex):∃ e,h1.get? b=some { a with slots:=e }:=by
 by_cases d:b∈fs
 .exact u.slot b a q n d c
 .exact⟨a.slots,u.keep b a q n d c⟩
def Un.kept (k:∀ b u,h.get? b=some u->h'.get? b=some u):Un fs ex H H h h' :=
 ⟨λb a q _ _ _=>k b a q,λb a q _ _ _=>⟨a.slots,k b a q⟩,λ_ _ _ n _=>n,λb a q _=>⟨a,k b a q⟩,λ_ _ q=>q,λ_ _ _ q=>q,λ_ _ q=>q⟩
def Un.refl:Un fs ex H H h h:=Un.kept λ_ _ q=>q
def Un.laid (k:∀ b u,h.get? b=some u->h'.get? b=some u)(hp:h.objs.size<=a)(hn:H a=none):Un fs ex H (upd H a o) h h' where
 keep:=λb u q _ _ _=>k b u q
 slot:=λb u q _ _ _=>⟨u.slots,k b u q⟩
 free:=λb u q n _=>by rw[zn (k7 (j2 (q4 q) hp))];exact n
 there:=λb u q _=>⟨u,k b u q⟩
 tups:=λb xs q=>by rw[zn (zg q hn)];exact q
 frzs:=λb u xs q=>by rw[zn (zg q hn)];exact q
 tbls:=λb ps q=>by rw[zn (zg q hn)];exact q
def Un.write (c:Mut (H x))(j:e=x\/H e=some (.own x))(k:∀ b u,b≠e->h.get? b=some u->h'.get? b=some u)(f:∃ u,h'.get? e=some u):Un fs ex H (upd H x o) h h':=by
 have g:∀ b,H b=none->b≠x:=λb n z=>by subst z;rw[n]at c;exact c
 have i:∀ b,H b=none->b≠e:=λb n z=>by
  subst z
  rcases j with r | r
  .exact g b n r
  .rw[n]at r;cases r
 have d:∀ b u,H b=some u->¬ Mut (some u)->b≠x:=λb u q m z=>by subst z;rw[q]at c;exact m c
 refine⟨λb u q n _ _=>k b u (i b n) q,λb u q n _ _=>⟨u.slots,k b u (i b n) q⟩,λb u q n _=>by rw[zn (g b n)];exact n,λb u q _=>?_,
  λb l q=>by rw[zn (d b _ q λz=>z)];exact q,λb u l q=>by rw[zn (d b _ q λz=>z)];exact q,λb p q=>by rw[zn (d b _ q λz=>z)];exact q⟩
 by_cases a:b=e
 .subst a;exact f
 .exact⟨u,k b u a q⟩
end
def trk (h:Heap)(H:Hp):xx:=(List.range h.objs.size).filter λa=>(H a).isSome
def zgc (h:Heap)(H:Hp):Heap:=W.hideAll h (trk h H)
def zcq (h:Heap)(H:Hp):(zgc h H).objs.size=h.objs.size:=W.hideAll_size _ _
def zkn {h:Heap}{H:Hp}(e:h.get? b=some o)(n:H b=none):(zgc h H).get? b=some o :=
 u1s _ e λa=>by
  have q:(H b).isSome=true:=(o6.mp a).2
  rw[n]at q;simp at q
def znJ {h:Heap}{H:Hp}(e:(zgc h H).get? b=some o):h.get? b=some o/\H b=none:=by
 have a:h.get? b=some o:=W.of_hideAll (trk h H) e
 refine⟨a,?_⟩
 cases q:H b with
 | none=>rfl
 | some x =>
  have c:b∈trk h H:=o6.mpr ⟨j6.mpr (q4 a),by simp[q]⟩
  have z:(zgc h H).get? b=none:=W.hideAll_none (trk h H) c
  rw[z]at e;cases e
def zmo (g h:Heap)(L:Addr):xn:=(List.range h.objs.size).filterMap λa=>if a=L\/(g.get? a).isSome=true then none else (h.get? a).map λo=>(a,o)
def rest (g h:Heap)(L d:Addr):xn:=(zmo g h L).filter λp=>decide (p.1≠d)
structure Mod (K:zz) (mg:w1) (base:Heap):Prop where
 kin:K.In base
 glob:base.Ns mainGlobals mg
 blt:∃ mb,base.Ns builtinsNs mb/\∀ x:Str,x≠"__name__"->mb x=bootBuiltins x
 nolimit:base.NoLimit
def Y2 (q:Str):Obj:={ cls:=.str q 0,data:=.freed }
def Bs (a h:Heap)(H:Hp):Prop:=(∀ b o,a.get? b=some o->h.get? b=some o/\H b=none)/\∀ P q,a.objs[P]?=some (Y2 q)->H P=some (.tbl #[.str q 0])
structure Cx where
 prog:Program
 w:World
 K:W.Frag
 mg:w1
 base:Heap
 A:Around
 N:zJ
 s₀:Shared
 H₀:Hp
 env:Env
 outer:List Env
 stack:List Env
 ex:xx
 fn:Str->Bool
 calm:Bool
 pn:xn
 xe:yL
def frs (l:List Env):xx:=l.filterMap (·.frame)
abbrev Cx.fs (X:Cx):xx:=frs X.outer
def Vis (sc:Scope)(x:Str):Prop:=sc.names.lookup x=some .local\/sc.names.lookup x=some .cell\/sc.names.lookup x=some .free
def Loc (sc:Scope)(x:Str):Prop:=sc.names.lookup x=some .local\/sc.names.lookup x=some .cell
def Look (env:Env)(h:Heap)(m:w1)(x:Str)(u:Value):Prop :=
 (env.kindOf x=some .local/\m x=some u)\/((env.kindOf x=some .cell\/env.kindOf x=some .free)/\∃ c,env.cells.lookup x=some c/\h.IsCell c (some u))
structure Cx.Ok (X:Cx):Prop where
 mod:Mod X.K X.mg X.base
 kind:X.env.scope.kind=.function
 glob:X.env.globals=mainGlobals
 blt:X.env.builtins=builtinsNs
 above:X.s₀.heap.objs.size<=X.env.locals
 inj:∀ x y c,X.env.cells.lookup x=some c->X.env.cells.lookup y=some c->x=y
 has:∀ x,(X.env.kindOf x=some .cell\/X.env.kindOf x=some .free)->∃ c,X.env.cells.lookup x=some c
 cab:∀ x c,X.fn x=true->X.env.cells.lookup x=some c->X.s₀.heap.objs.size<=c
 hd:X.calm=true->X.A.handled=none
 frames:X.A.frames=some X.stack
 stk:X.stack=X.outer\/(X.stack=X.env::X.outer/\X.env.frame=some X.env.locals)
 exf:∀ b∈X.ex,b≠X.env.locals/\∀ x c,X.env.cells.lookup x=some c->c≠b
 bs:Bs X.base X.s₀.heap X.H₀
 bsz:X.base.objs.size<=X.s₀.heap.objs.size
 noex:∀ b o,X.base.get? b=some o->b∉X.ex
 exfs:∀ b∈X.ex,b∉X.fs
 funs:X.s₀.heap.FunFrames X.base X.outer
 frf:∀ b∈X.fs,X.H₀ b=none
structure Inv (X:Cx) (pins:xn) (σ:List (Option V)) (H:Hp) (s:zj):Prop where
 ok:X.Ok
 os:s.os=X.s₀.os
 bare:AllBare s.gens
 base:Un X.fs X.ex X.H₀ H X.s₀.heap s.heap
 loc:∃ m,s.heap.Ns X.env.locals m/\∀ (i:Nat) (x:Str) (v:V),X.N[i]?=some x->σ[i]?=some (some v)->Vis X.env.scope x->∃ u,y2 v u/\Look X.env s.heap m x u
 cell:∀ x c,X.env.cells.lookup x=some c->∃ v,s.heap.IsCell c v
 free:H X.env.locals=none
 freeC:∀ x c,X.env.cells.lookup x=some c->H c=none
 pin:∀ p∈X.pn++pins,s.heap.get? p.1=some p.2/\H p.1=none/\p.1≠X.env.locals/\p.1∉X.fs/\∀ v,p.2.data≠.cell v
 hok:HOk X.prog X.w H s.heap
 len:σ.length=X.N.length
section
variable {X:Cx}{pins:xn}{σ:List (Option V)}{H H':Hp}{s:zj}{h':Heap}
def Cx.Ok.nofr (ok:X.Ok)(e:X.base.get? b=some o):b∉X.fs:=λa=>by
 have:=(ok.funs.mem a).1
 rw[e]at this;cases this
def Inv.bs (I:Inv X pins σ H s):Bs X.base s.heap H:=⟨λb o e =>
 ⟨I.base.keep b o (I.ok.bs.1 b o e).1 (I.ok.bs.1 b o e).2 (I.ok.nofr e) (I.ok.noex b o e),I.base.free b o (I.ok.bs.1 b o e).1 (I.ok.bs.1 b o e).2 (I.ok.noex b o e)⟩,λP q e=>I.base.tbls _ _ (I.ok.bs.2 P q e)⟩
def Inv.bk (I:Inv X pins σ H s):∀ b o,X.base.get? b=some o->s.heap.get? b=some o:=λb o e=>(I.bs.1 b o e).1
def Inv.mod (I:Inv X pins σ H s):Mod X.K X.mg X.base:=I.ok.mod
def Inv.kIn (I:Inv X pins σ H s):X.K.In s.heap:=I.ok.mod.kin.keeps I.bk
def Inv.nolimit (I:Inv X pins σ H s):s.heap.NoLimit:=I.ok.mod.nolimit.keeps I.bk
def Inv.fr (I:Inv X pins σ H s):∃ m,Fr X.base X.env.locals s.heap m :=
 let ⟨m,hn,_⟩:=I.loc
 ⟨m,hn,I.bk,o5 I.ok.bsz I.ok.above⟩
def Inv.lt (I:Inv X pins σ H s):X.env.locals<s.heap.objs.size:=let ⟨_,hn,_⟩:=I.loc;hn.lt
def Inv.sz (I:Inv X pins σ H s):X.s₀.heap.objs.size<=s.heap.objs.size:=o5 I.ok.above (u0k I.lt)
def Inv.nofs (I:Inv X pins σ H s)(h:s.heap.objs.size<=a):a∉X.fs:=λb=>by
 obtain⟨_,o,c,_⟩:=I.ok.funs.mem b
 exact absurd (j2 (q4 c) (o5 I.sz h)) (i7 _)
def Inv.cne (I:Inv X pins σ H s):∀ x c,X.env.cells.lookup x=some c->c≠X.env.locals:=λx c e z=>by
 obtain⟨v,o,d,f⟩:=I.cell x c e
 obtain⟨m,⟨g,h,i,a,b,_⟩,_⟩:=I.loc
 rw[z,a]at d;cases d;rw[b]at f;cases f
def Inv.funs (I:Inv X pins σ H s):s.heap.FunFrames X.base X.outer:=by
 have d:∀ (l:List Env),(∀ b∈frs l,b∈X.fs)->X.s₀.heap.FunFrames X.base l->s.heap.FunFrames X.base l:=by
  intro l
  induction l with
  | nil=>intro _ _;trivial
  | cons env r m =>
   intro g j
   obtain⟨k,⟨L,o,c,h,i,n⟩,p⟩:=j
   have f:L∈X.fs:=g L (by unfold frs;rw[u2A,c];exact l5)
   obtain⟨q,e⟩:=I.base.slot L o i (I.ok.frf L f) f λz=>I.ok.exfs L z f
   exact⟨k,⟨L,_,c,h,e,n⟩,m (λb a=>g b (by unfold frs;rw[u2A,c];exact o7 _ a)) p⟩
 exact d X.outer (λ_ a=>a) I.ok.funs
def Inv.stack (I:Inv X pins σ H s):s.heap.FunFrames X.base X.stack:=by
 rcases I.ok.stk with e | ⟨e,b⟩
 .rw[e];exact I.funs
 .rw[e]
  obtain⟨m,a,_⟩:=I.loc
  refine .cons (by rw[I.ok.kind];decide) b a ?_ I.funs
  exact Heap.get?_none_of_le (o5 I.ok.bsz I.ok.above)
def Inv.stkSub (I:Inv X pins σ H s):∀ b∈frs X.stack,b∈X.env.locals::X.fs:=λb a=>by
 rcases I.ok.stk with e | ⟨e,c⟩
 .rw[e]at a;exact o7 _ a
 .rw[e]at a
  unfold frs at a
  rw[u2A,c]at a
  exact a
def Inv.stkFree (I:Inv X pins σ H s):∀ b∈frs X.stack,H b=none:=λb a=>by
 rcases t6.mp (I.stkSub b a)with e | a
 .rw[e];exact I.free
 .obtain⟨_,o,c,_⟩:=I.ok.funs.mem a
  exact I.base.free b o c (I.ok.frf b a) λz=>I.ok.exfs b z a
def Inv.step {g':Array GenState}{t':Nat}{d':Drawn}{ch:xx}(I:Inv X pins σ H s)
 (t:∀ b∈ch,(b∈X.ex\/X.s₀.heap.objs.size<=b)/\b≠X.env.locals/\(∀ x c,X.env.cells.lookup x=some c->c≠b)/\∀ p∈X.pn++pins,p.1≠b)
 (h:∀ b o,b≠X.env.locals->b∉X.fs->b∉ch->s.heap.get? b=some o->H b=none->h'.get? b=some o)
 (A:∀ b o,b≠X.env.locals->b∈X.fs->b∉ch->s.heap.get? b=some o->H b=none->∃ P,h'.get? b=some { o with slots:=P }) (f:∀ b o,b∉ch->s.heap.get? b=some o->H b=none->H' b=none)
 (B:∀ b o,b∉ch->s.heap.get? b=some o->∃ G,h'.get? b=some G)
 (L:∀ b y,H b=some (.tup y)->H' b=some (.tup y)) (J:∀ b o u,H b=some (.frz o u)->H' b=some (.frz o u)) (F:∀ b M,H b=some (.tbl M)->H' b=some (.tbl M))
 (Y:∀ m,s.heap.Ns X.env.locals m->h'.Ns X.env.locals m) (R:HOk X.prog X.w H' h') (hg:AllBare g') :
 Inv X pins σ H' { s with heap:=h',gens:=g',drawn:=d',toks:=t' }:=by
 have K:∀ b o,X.s₀.heap.get? b=some o->b≠X.env.locals:=λb o e=>k7 (j2 (q4 e) I.ok.above)
 have w:∀ b o,X.s₀.heap.get? b=some o->b∉X.ex->b∉ch:=λb o e a C=>by
  rcases(t b C).1 with z | z
  .exact a z
  .exact absurd (j2 (q4 e) z) (i7 _)
 have j:∀ x c,X.env.cells.lookup x=some c->∀ v,s.heap.IsCell c v->h'.IsCell c v:=λx c e v ⟨o,E,O⟩=>by
  have g:c∉ch:=λz=>(t c z).2.2.1 x c e rfl
  by_cases T:c∈X.fs
  .obtain⟨P,q⟩:=A c o (I.cne x c e) T g E (I.freeC x c e)
   exact⟨_,q,O⟩
  .exact⟨o,h c o (I.cne x c e) T g E (I.freeC x c e),O⟩
 refine⟨I.ok,I.os,hg,⟨λb o e n C a=>?_,λb o e n C a=>?_,λb o e n a=>?_,λb o e a=>?_,λb y e=>L b y (I.base.tups b y e),λb o y e=>J b o y (I.base.frzs b o y e),λb M e=>?_⟩,?_,λx c e=>?_,?_,λx c e=>?_,λp U=>?_,R,I.len⟩
 .exact h b o (K b o e) C (w b o e a) (I.base.keep b o e n C a) (I.base.free b o e n a)
 .obtain⟨P,D⟩:=I.base.slot b o e n C a
  obtain⟨Q,N⟩:=A b _ (K b o e) C (w b o e a) D (I.base.free b o e n a)
  exact⟨Q,N⟩
 .obtain⟨G,D⟩:=I.base.there b o e a
  exact f b G (w b o e a) D (I.base.free b o e n a)
 .obtain⟨G,D⟩:=I.base.there b o e a
  exact B b G (w b o e a) D
 .exact F b _ (I.base.tbls b M e)
 .obtain⟨m,W,hl⟩:=I.loc
  refine⟨m,Y m W,λi x v D N Z=>?_⟩
  obtain⟨u,r,l⟩:=hl i x v D N Z
  refine⟨u,r,?_⟩
  rcases l with l | ⟨k,c,e,z⟩
  .exact .inl l
  .exact .inr ⟨k,c,e,j x c e _ z⟩
 .obtain⟨v,z⟩:=I.cell x c e
  exact⟨v,j x c e v z⟩
 .obtain⟨m,⟨o,_,_,E,_⟩,_⟩:=I.loc
  exact f _ o (λz=>(t _ z).2.1 rfl) E I.free
 .obtain⟨v,o,E,O⟩:=I.cell x c e
  exact f c o (λz=>(t c z).2.2.1 x c e rfl) E (I.freeC x c e)
 .obtain⟨e,n,S,V,d⟩:=I.pin p U
  have g:p.1∉ch:=λz=>(t p.1 z).2.2.2 p U rfl
  exact⟨h p.1 p.2 S V g e n,f p.1 p.2 g e n,S,V,d⟩
def Inv.un {t':Nat}(I:Inv X pins σ H s)(u:Un X.fs [] H H' s.heap h')(f:HOk X.prog X.w H' h'):Inv X pins σ H' { s with heap:=h',toks:=t' }:=by
 obtain⟨m,⟨o,p,v,h,r⟩,_⟩:=id I.loc
 obtain⟨q,k⟩:=u.any h I.free (by simp)
 exact I.step (g':=s.gens) (d':=s.drawn) (ch:=[]) (λ_ z=>nomatch z) (λb o _ d _ e n=>u.keep b o e n d (by simp)) (λb o _ d _ e n=>u.slot b o e n d (by simp)) (λb o _ e n=>u.free b o e n (by simp)) (λb o _ e=>u.there b o e (by simp)) u.tups u.frzs u.tbls (λt j=>by
  obtain⟨l,g,c,a,i⟩:=j
  rw[h]at a;cases a
  exact⟨_,g,c,k,i⟩) f I.bare
def Inv.call {t':Nat}(I:Inv X pins σ H s)(u:Un (frs X.stack) ch H H' s.heap h')(h:HOk X.prog X.w H' h')(v:AllBare g')(f:∀ b∈ch,(b∈X.ex\/X.s₀.heap.objs.size<=b)/\b≠X.env.locals/\(∀ x c,X.env.cells.lookup x=some c->c≠b)/\∀ p∈X.pn++pins,p.1≠b) :
 Inv X pins σ H' { s with heap:=h',gens:=g',drawn:=d',toks:=t' }:=by
 obtain⟨m,⟨o,C,A,k,r⟩,_⟩:=id I.loc
 obtain⟨w,i⟩:=u.any k I.free λz=>(f _ z).2.1 rfl
 exact I.step (ch:=ch) f (λb o i t a e n=>u.keep b o e n (λz=>(t6.mp (I.stkSub b z)).elim i t) a) (λb o _ _ a e n=>u.any e n a) (λb o a e n=>u.free b o e n a) (λb o a e=>u.there b o e a) u.tups u.frzs u.tbls (λy q=>by
  obtain⟨B,j,g,d,l⟩:=q
  rw[k]at d;cases d
  exact⟨_,j,g,i,l⟩) h v
def Inv.turned {t':Nat}(I:Inv X pins σ H s)(k:∀ b o,b≠a->s.heap.get? b=some o->h'.get? b=some o)(i:H a=none)(g:a≠X.env.locals)(w:a∈X.ex\/X.s₀.heap.objs.size<=a)(h:∀ x c,X.env.cells.lookup x=some c->c≠a)(j:∀ p∈X.pn++pins,p.1≠a):Inv X pins σ H { s with heap:=h',toks:=t' }:=by
 have f:∀ b u,H b=some u->b≠a:=λb u e z=>by rw[z,i]at e;cases e
 refine I.step (g':=s.gens) (d':=s.drawn) (ch:=[a]) (λb t=>?_) (λb o _ _ d e _=>k b o (λz=>d (by simp[z])) e) (λb o _ _ d e _=>⟨o.slots,k b o (λz=>d (by simp[z])) e⟩) (λ_ _ _ _ n=>n)
  (λb o d e=>⟨o,k b o (λz=>d (by simp[z])) e⟩) (λ_ _ e=>e) (λ_ _ _ e=>e) (λ_ _ e=>e) (λm l=>?_) (λb u e=>?_) I.bare
 .have e:b=a:=by simpa using t
  subst e
  exact⟨w,g,h,j⟩
 .obtain⟨o,A,y,B,r⟩:=l
  exact⟨o,A,y,k _ o (u0p g) B,r⟩
 .refine(I.hok b u e).stay (λc v d q=>k c v ?_ q) (λ_ q=>q) λ_ _ q=>q
  rcases d with z | z
  .rw[z];exact f b u e
  .exact f c _ z
def Inv.tok (I:Inv X pins σ H s)(t:Nat):Inv X pins σ H { s with toks:=t }:=I.un (h':=s.heap) (t':=t) Un.refl I.hok
def Inv.kept {t':Nat}(I:Inv X pins σ H s)(k:∀ b u,s.heap.get? b=some u->h'.get? b=some u):Inv X pins σ H { s with heap:=h',toks:=t' }:=I.un (Un.kept k) (I.hok.kept k)
def Inv.laid {t':Nat}(I:Inv X pins σ H s)(k:∀ b u,s.heap.get? b=some u->h'.get? b=some u)(d:s.heap.objs.size<=a)(c:yQ X.prog X.w (upd H a o) h' a o) :
 Inv X pins σ (upd H a o) { s with heap:=h',toks:=t' }:=I.un (Un.laid k d (I.hok.fresh d)) (I.hok.laid k d c)
def Inv.write {t':Nat}(I:Inv X pins σ H s)(d:Mut (H x))(f:e=x\/H e=some (.own x))(k:∀ b u,b≠e->s.heap.get? b=some u->h'.get? b=some u)(a:∃ u,h'.get? e=some u)(c:yQ X.prog X.w (upd H x o) h' x o):Inv X pins σ (upd H x o) { s with heap:=h',toks:=t' }:=I.un (Un.write d f k a) (I.hok.write d f k a c)
def Inv.weak {a:List (Option V)}(I:Inv X pins σ H s)(d:a.length=σ.length)(w:∀ (i:Nat) v,a[i]?=some (some v)->σ[i]?=some (some v)):Inv X pins a H s :=
 ⟨I.ok,I.os,I.bare,I.base,let ⟨m,hn,hl'⟩:=I.loc;⟨m,hn,λi x v c e b=>hl' i x v c (w i v e) b⟩,I.cell,I.free,I.freeC,I.pin,I.hok,d.trans I.len⟩
def Inv.pins_of (I:Inv X pins σ H s)(h:∀ p∈a,s.heap.get? p.1=some p.2/\H p.1=none/\p.1≠X.env.locals/\p.1∉X.fs/\∀ v,p.2.data≠.cell v):Inv X a σ H s :=
 ⟨I.ok,I.os,I.bare,I.base,I.loc,I.cell,I.free,I.freeC,λp b=>(u0o.mp b).elim (λz=>I.pin p (u0U _ z)) (h p),I.hok,I.len⟩
def zaL {N:zJ}(c:N.Nodup){i j:Nat}(a:N[i]?=some x)(b:N[j]?=some x):i=j:=by
 obtain⟨g,e⟩:=t5.mp a
 obtain⟨f,d⟩:=t5.mp b
 exact(u2k c).mp (e.trans d.symm)
def zgZ {i:Nat}{Q:Unit->Shared->Prop}(I:Inv X pins σ H s)(hN:X.N.Nodup)(P:X.N[i]?=some x)(w:Loc X.env.scope x)(r:y2 v u)(h:∀ s',Inv X pins (σ.set i (some v)) H s'->(∃ a,Heap.SameBut a s.heap s'.heap/\(a=X.env.locals\/X.env.cells.lookup x=some a))->Q () s')(hf:X.fn x=true\/X.env.scope.names.lookup x=some .local:=by first | exact .inl rfl | exact .inr rfl | assumption):wpAny M A (storeName X.env x u) Q E s:=by
 obtain⟨m,hn,hl⟩:=id I.loc
 have R:(X.env.scope.kind == .class||(X.env.scope.kind == .module&&X.env.locals != X.env.globals))=false:=by rw[I.ok.kind];rfl
 have T:i<σ.length:=by rw[I.len];exact(t5.mp P).1
 have K:=I.cne
 have l:∀ {a:Addr} {h':Heap},(∃ o,s.heap.get? a=some o/\H a=none)->Heap.SameBut a s.heap h'->HOk X.prog X.w H h':=λ{a h'} ha f b ob e=>by
  obtain⟨_,_,B⟩:=ha
  refine(I.hok b ob e).stay (λc U t q=>(f.2 c ?_).trans q) (λ_ q=>q) λ_ _ q=>q
  rintro rfl
  rcases t with rfl | t
  .rw[B]at e;cases e
  .rw[B]at t;cases t
 rcases w with D | D
 .refine wpAny_storeName_local D hn (λh' a1 f=>?_) R
  obtain⟨oL,_,_,a0,_⟩:=id hn
  refine h _ ⟨I.ok,I.os,I.bare,⟨λb o e n F w=>?_,λb o e n F w=>?_,I.base.free,λb o e w=>?_,I.base.tups,I.base.frzs,I.base.tbls⟩,⟨_,a1,λj y v' g C e3=>?_⟩,λy c e=>?_,I.free,I.freeC,λp hp=>?_,l ⟨oL,a0,I.free⟩ f,by simpa using I.len⟩ ⟨_,f,.inl rfl⟩
  .exact(f.2 b (k7 (j2 (q4 e) I.ok.above))).trans (I.base.keep b o e n F w)
  .obtain⟨sl,g⟩:=I.base.slot b o e n F w
   exact⟨sl,(f.2 b (k7 (j2 (q4 e) I.ok.above))).trans g⟩
  .obtain⟨o',g⟩:=I.base.there b o e w
   exact⟨o',(f.2 b (k7 (j2 (q4 e) I.ok.above))).trans g⟩
  .by_cases J:j=i
   .subst J
    rw[P]at g;cases g
    rw[g6 T]at C
    cases C
    exact⟨u,r,.inl ⟨D,by simp⟩⟩
   .rw[k6 (u0p J)]at C
    obtain⟨u',Z,q⟩:=hl j y v' g C e3
    refine⟨u',Z,?_⟩
    rcases q with ⟨k,e⟩ | ⟨k,c,e,z⟩
    .refine .inl ⟨k,?_⟩
     have:y≠x:=λe=>J (zaL hN g (e ▸ P))
     simp[this,e]
    .exact .inr ⟨k,c,e,z.sameBut f (K y c e)⟩
  .obtain⟨U,z⟩:=I.cell y c e
   exact⟨U,z.sameBut f (K y c e)⟩
  .obtain⟨e,n,Y,nf,d⟩:=I.pin p hp
   exact⟨(f.2 p.1 Y).trans e,n,Y,nf,d⟩
 .have G:X.fn x=true:=by
   rcases hf with z | z
   .exact z
   .rw[z]at D;cases D
  obtain⟨c,t⟩:=I.ok.has x (.inl D)
  obtain⟨U,z⟩:=I.cell x c t
  refine wpAny_storeName_cell I.ok.kind D t z (λh' L f=>?_)
  obtain⟨oc,N,S⟩:=id z
  refine h { s with heap:=h' } ⟨I.ok,I.os,I.bare,⟨λb o e n F w=>?_,λb o e n F w=>?_,I.base.free,λb o e w=>?_,I.base.tups,I.base.frzs,I.base.tbls⟩,⟨m,hn.sameBut f (u0p (K x c t)),λj y v' g C e3=>?_⟩,λy W e=>?_,I.free,I.freeC,λp hp=>?_,l ⟨oc,N,I.freeC x c t⟩ f,by simpa using I.len⟩ ⟨c,f,.inr t⟩
  .exact(f.2 b (k7 (j2 (q4 e) (I.ok.cab x c G t)))).trans (I.base.keep b o e n F w)
  .obtain⟨sl,g⟩:=I.base.slot b o e n F w
   exact⟨sl,(f.2 b (k7 (j2 (q4 e) (I.ok.cab x c G t)))).trans g⟩
  .obtain⟨o',g⟩:=I.base.there b o e w
   exact⟨o',(f.2 b (k7 (j2 (q4 e) (I.ok.cab x c G t)))).trans g⟩
  .by_cases J:j=i
   .subst J
    rw[P]at g;cases g
    rw[g6 T]at C
    cases C
    exact⟨u,r,.inr ⟨.inl D,c,t,L⟩⟩
   .rw[k6 (u0p J)]at C
    obtain⟨u',Z,q⟩:=hl j y v' g C e3
    refine⟨u',Z,?_⟩
    rcases q with q | ⟨k,W,e,z'⟩
    .exact .inl q
    .refine .inr ⟨k,W,e,z'.sameBut f ?_⟩
     rintro rfl
     exact J (zaL hN g (I.ok.inj _ _ _ e t ▸ P))
  .by_cases O:W=c
   .subst O;exact⟨_,L⟩
   .obtain⟨w2,z2⟩:=I.cell y W e
    exact⟨w2,z2.sameBut f O⟩
  .obtain⟨e,n,Y,nf,d⟩:=I.pin p hp
   refine⟨(f.2 p.1 ?_).trans e,n,Y,nf,d⟩
   intro q
   rw[q,N]at e
   have q':oc=p.2:=g0 e
   exact d U (by rw[<-q'];exact S)
def zaF {i:Nat}{Q:Unit->Shared->Prop}(I:Inv X pins σ H s)(b:X.N.Nodup)(c:X.N[i]?=some x)(d:Loc X.env.scope x)(r:y2 v u)(h:∀ a,Inv X pins (σ.set i (some v)) H a->Q () a)(e:X.fn x=true\/X.env.scope.names.lookup x=some .local:=by first | exact .inl rfl | exact .inr rfl | assumption):wpAny M A (storeName X.env x u) Q E s :=
 zgZ I b c d r (λa I' _=>h a I') e
def Inv.call' {s':zj}(I:Inv X pins σ H s)(k:s'.os=s.os)(u:Un (frs X.stack) ch H H' s.heap s'.heap)(a:HOk X.prog X.w H' s'.heap)(i:AllBare s'.gens)(d:∀ b∈ch,(b∈X.ex\/X.s₀.heap.objs.size<=b)/\b≠X.env.locals/\(∀ x c,X.env.cells.lookup x=some c->c≠b)/\∀ p∈X.pn++pins,p.1≠b):Inv X pins σ H' s':=by
 obtain⟨h',f,h,g,j⟩:=s'
 have e:j=s.os:=k
 subst e
 exact I.call (g':=f) (t':=g) (d':=h) u a i d
end
abbrev XK:=Value->x4->Hp->Prop
abbrev St:=List (Option V)
abbrev vf:=St->Hp->Prop
abbrev VK:=V->Hp->Prop
abbrev zfL:=List V->Hp->VK->Prop
abbrev TE:=St->Hp->VK->Prop
abbrev TT:=St->Hp->(Bool->Hp->Prop)->Prop
abbrev TA:=St->Hp->(zx->Hp->Prop)->Prop
structure zbz where
 nx:vf
 rt:VK
 bk:vf:=λ_ _=>False
 ct:vf:=λ_ _=>False
abbrev TS:=zbz->St->Hp->Prop
def EP (X:Cx)(a:xn)(σ:St)(Q:VK)(u:Value)(b:zj):Prop:=∃ v H',Inv X a σ H' b/\y2 v u/\Q v H'
def TP (X:Cx)(a:xn)(σ:St)(Q:Bool->Hp->Prop)(b:Bool)(c:zj):Prop:=∃ H',Inv X a σ H' c/\Q b H'
def AP (X:Cx)(a:xn)(σ:St)(Q:zx->Hp->Prop)(c:zt)(d:zj):Prop:=∃ b H',Inv X a σ H' d/\yl b c/\Q b H'
def SP (X:Cx)(a:xn)(D:zbz)(f:Flow)(c:zj):Prop :=
 match f with
 | .next=>∃ b H',Inv X a b H' c/\D.nx b H'
 | .brk=>∃ b H',Inv X a b H' c/\D.bk b H'
 | .cont=>∃ b H',Inv X a b H' c/\D.ct b H'
 | .ret u=>∃ v b H',Inv X a b H' c/\y2 v u/\D.rt v H'
def PE (X:Cx)(e:Expr)(t:TE):Prop :=
 ∀ (a:xn) (s:zj) (σ:St) (H:Hp) (Q:VK),Inv X a σ H s->t σ H Q->wpAny (model X.prog X.w) X.A (eval e X.env) (EP X a σ Q) X.xe s
def PT (X:Cx)(e:Expr)(t:TT):Prop :=
 ∀ (a:xn) (s:zj) (σ:St) (H:Hp) (Q:Bool->Hp->Prop),Inv X a σ H s->t σ H Q->wpAny (model X.prog X.w) X.A (isTrue e X.env (eval e X.env)) (TP X a σ Q) X.xe s
def PW (X:Cx)(e:Expr)(t:TT):Prop :=
 ∀ (b:Sem Value) (a:xn) (s:zj) (σ:St) (H:Hp) (Q:Bool->Hp->Prop),Inv X a σ H s->t σ H Q->wpAny (model X.prog X.w) X.A (isTrue e X.env b) (TP X a σ Q) X.xe s
def PW.pt {t:TT}(h:PW X e t):PT X e t:=h _
def PA (X:Cx)(c:xK)(t:TA):Prop :=
 ∀ (b:Pos) (a:xn) (s:zj) (σ:St) (H:Hp) (Q:zx->Hp->Prop),Inv X a σ H s->t σ H Q->wpAny (model X.prog X.w) X.A (spliced (backTo b (starEach c X.env))) (AP X a σ Q) X.xe s
def PS (X:Cx)(b:Stmt)(t:TS):Prop :=
 ∀ (a:xn) (s:zj) (σ:St) (H:Hp) (D:zbz),Inv X a σ H s->t D σ H->wpAny (model X.prog X.w) X.A (exec b X.env) (SP X a D) X.xe s
def PSs (X:Cx)(b:Xp)(t:TS):Prop :=
 ∀ (a:xn) (s:zj) (σ:St) (H:Hp) (D:zbz),Inv X a σ H s->t D σ H->wpAny (model X.prog X.w) X.A (execs b X.env) (SP X a D) X.xe s
def thn {α:Type}{t:Sem α}{Q Q':α->Shared->Prop}(h:wpAny M A t Q E s)(b:∀ a s,Q a s->Q' a s):wpAny M A t Q' E s:=p8 h b λ_ _ x=>x
section
variable {X:Cx}
def bin {a b:Expr}{ta e:TE}(j:PE X a ta)(l:PE X b e){c:xn}{s:zj}{σ:St}{H:Hp}{R:V->V->Hp->Prop}(I:Inv X c σ H s)(h:ta σ H λx H1=>e σ H1 λy H2=>R x y H2)
 {α:Type} {Q:α->Shared->Prop} {f:Value->Value->Sem α}
 (m:∀ v u d x y H2,Inv X c σ H2 d->y2 x v->y2 y u->R x y H2->wpAny (model X.prog X.w) X.A (f v u) Q X.xe d) :
 wpAny (model X.prog X.w) X.A (eval a X.env) (λv k=>wpAny (model X.prog X.w) X.A (eval b X.env) (λu q=>wpAny (model X.prog X.w) X.A (f v u) Q X.xe q) X.xe k) X.xe s:=by
 refine thn (j c s σ H _ I h) λv n hh9=>?_
 obtain⟨x,H1,I1,p,i⟩:=hh9
 refine thn (l c n σ H1 _ I1 i) λu d hh9=>?_
 obtain⟨y,H2,I2,g,o⟩:=hh9
 exact m v u d x y H2 I2 p g o
def zdt (i:Nat):TE:=fun σ H Q=>∃ v,σ[i]?=some (some v)/\Q v H
def tC (v:V):TE:=λ_ H Q=>Q v H
def zpH {i:Nat} {f:Pos} (p:X.N[i]?=some x) (t:Vis X.env.scope x) (j:(x == ("__debug__":Str))=false:=by decide) (g:(x == ("__classdict__":Str))=false:=by decide):PE X (.Name x f) (zdt i):=by
 intro d s σ H Q I h
 obtain⟨v,e,h⟩:=h
 obtain⟨m,n,q⟩:=I.loc
 obtain⟨u,r,l⟩:=q i x v p e t
 have fin:EP X d σ Q u s:=⟨v,H,I,r,h⟩
 rcases l with ⟨b,o⟩ | ⟨b,c,k,a⟩
 .exact wpAny_Name (wpAny_loadName_local I.ok.kind b n o fin) j
 .rcases b with b | b
  .exact wpAny_Name (wpAny_loadName_cell I.ok.kind b k a fin) j
  .exact wpAny_Name (wpAny_loadName_free I.ok.kind b k a fin g) j
def xq {i j pos}:PE X (.Constant (.int i) j pos) (tC (.int i)):=λ_ _ _ H _ I h=>wpAny_Constant_int ⟨.int i,H,I.tok _,⟨_,rfl⟩,h⟩
def zml {b j pos}:PE X (.Constant (.bool b) j pos) (tC (.bl b)):=λ_ _ _ H _ I h=>Constant_bool ⟨.bl b,H,I,rfl,h⟩
def zlH {j pos}:PE X (.Constant .none j pos) (tC .non):=λ_ _ _ H _ I h=>Constant_none ⟨.non,H,I,rfl,h⟩
def zpR {x j pos}:PE X (.Constant (.str x) j pos) (tC (.str x)):=λ_ _ _ H _ I h=>Calls.Constant_str ⟨.str x,H,I.tok _,⟨_,rfl⟩,h⟩
def Gl (X:Cx)(x:Str):Prop:=X.env.kindOf x=some .globalImplicit
def XM {Q:yL} (I:Inv X a σ H s) (c:Gl X x) (d:X.mg x=some u) (h:Q u s) (e:(x == ("__debug__":Str))=false:=by decide):wpAny (model X.prog X.w) X.A (eval (.Name x b) X.env) Q E s :=
 Calls.Name_function_global I.ok.kind c (Calls.loadGlobal_global (by rw[I.ok.glob];exact I.mod.glob.keeps I.bk) d h) e
def vp {Q:yL} (I:Inv X a σ H s) (f:Gl X x) (e:X.mg x=none) (j:bootBuiltins x=some u) (h:Q u s) (d:x≠"__name__":=by decide) (g:(x == ("__debug__":Str))=false:=by decide):wpAny (model X.prog X.w) X.A (eval (.Name x b) X.env) Q E s:=by
 obtain⟨k,i,c⟩:=I.mod.blt
 exact Calls.Name_function_global I.ok.kind f (Calls.loadGlobal_builtin (by rw[I.ok.glob];exact I.mod.glob.keeps I.bk) e (by rw[I.ok.blt];exact i.keeps I.bk) ((c x d).trans j) h) g
def xA (b:Gl X x) (c:X.mg x=some u) (r:y2 v u) (d:(x == ("__debug__":Str))=false:=by decide):PE X (.Name x a) (tC v) :=
 λ_ _ _ H _ I h=>XM I b c ⟨v,H,I,r,h⟩ d
def XN (b:Gl X x) (d:X.mg x=none) (f:bootBuiltins x=some u) (r:y2 v u) (c:x≠"__name__":=by decide) (e:(x == ("__debug__":Str))=false:=by decide):PE X (.Name x a) (tC v) :=
 λ_ _ _ H _ I h=>vp I b d f ⟨v,H,I,r,h⟩ c e
variable {a b:Expr}{ta tb:TE}{pos:Pos}
def PC (X:Cx)(d:CmpOp)(a b:Expr)(t:TE):Prop :=
 ∀ (c:xn) (s:zj) (σ:St) (H:Hp) (Q:VK),Inv X c σ H s->t σ H Q ->
  wpAny (model X.prog X.w) X.A (eval a X.env) (λv e=>wpAny (model X.prog X.w) X.A (eval b X.env) (λu f=>wpAny (model X.prog X.w) X.A (compareOp d v u) (EP X c σ Q) X.xe f) X.xe e) X.xe s
def zkH (b:Expr){a:CmpOp}(h:a≠.In)(c:a≠.NotIn):behindInMarks a b=false:=by
 have e:(a == CmpOp.In)=false:=by cases a <;> first | rfl | exact absurd rfl h
 have d:(a == CmpOp.NotIn)=false:=by cases a <;> first | rfl | exact absurd rfl c
 cases b <;> simp[behindInMarks,e,d]
def tB (t:TE):TT:=fun σ H Q=>t σ H λx H1=>∃ c,x=.bl c/\Q c H1
def pt_cmp {f:CmpOp}{t:TE}(h:PC X f a b t)(g:behindInMarks f b=false:=by first | exact zkH _ (by decide) (by decide) | rfl):PT X (.Compare a [f] [b] pos) (tB t):=by
 intro e s σ H Q I hw
 refine wpAny_isTrue_Compare1 (thn (h e s σ H _ I hw) λv m g=>thn g λu l i=>thn i λc n hh9=>?_) g
 obtain⟨x,H1,I1,k,j⟩:=hh9
 obtain⟨d,rfl,q⟩:=j
 cases k
 exact l9 ⟨H1,I1,q⟩
def zlT {e:Expr}{t:TE}(h:PE X e t)(g:∀ a,isTrue e X.env a=(do let v<-a;standAt e.pos;holding [v] (truthy v)):=by intro _;rfl):PT X e (tB t):=by
 intro b s σ H Q I hw
 refine isTrue_plain (thn (h b s σ H _ I hw) λv i hh9=>?_) (g _)
 obtain⟨x,H1,I1,f,c⟩:=hh9
 obtain⟨d,rfl,q⟩:=c
 cases f
 exact l9 ⟨H1,I1,q⟩
variable {tA tB':TT}{rest:xK}
def tAnd (t u:TT):TT:=fun σ H Q=>t σ H λc H1=>if c=true then u σ H1 Q else Q false H1
def tOr (t u:TT):TT:=fun σ H Q=>t σ H λc H1=>if c=true then Q true H1 else u σ H1 Q
def tNot (t:TT):TT:=fun σ H Q=>t σ H λc H1=>Q (!c) H1
def zmJ (d:PT X a tA):PW X (.BoolOp .And [a] pos) tA:=by
 intro f b s σ H Q I h
 refine isTrue_and (thn (d b s σ H Q I h) λc g e=>?_)
 cases c with
 | true=>exact isTrue_and_nil e
 | false=>exact e
def zlW (d:PT X a tA):PW X (.BoolOp .Or [a] pos) tA:=by
 intro f b s σ H Q I h
 refine isTrue_or (thn (d b s σ H Q I h) λc g e=>?_)
 cases c with
 | false=>exact isTrue_or_nil e
 | true=>exact e
def zoR (f:PT X a tA)(i:PW X (.BoolOp .And (b::rest) pos) tB'):PW X (.BoolOp .And (a::b::rest) pos) (tAnd tA tB'):=by
 intro g d s σ H Q I h
 refine isTrue_and (thn (f d s σ H _ I h) λc j hh9=>?_)
 obtain⟨H1,I1,e⟩:=hh9
 cases c with
 | true=>exact i g d j σ H1 Q I1 e
 | false=>exact⟨H1,I1,e⟩
def zol (f:PT X a tA)(i:PW X (.BoolOp .Or (b::rest) pos) tB'):PW X (.BoolOp .Or (a::b::rest) pos) (tOr tA tB'):=by
 intro g d s σ H Q I h
 refine isTrue_or (thn (f d s σ H _ I h) λc j hh9=>?_)
 obtain⟨H1,I1,e⟩:=hh9
 cases c with
 | true=>exact⟨H1,I1,e⟩
 | false=>exact i g d j σ H1 Q I1 e
def zl1 (d:PT X a tA):PT X (.UnaryOp .Not a pos) (tNot tA):=by
 intro b s σ H Q I h
 exact isTrue_not (d b s σ H (λc H1=>Q (!c) H1) I h)
def zqW (ta tb:TE):TE:=fun σ H Q=>ta σ H λx H1=>∃ c,x=.bl c/\if c=true then tb σ H1 Q else Q (.bl false) H1
def tOrV (ta tb:TE):TE:=fun σ H Q=>ta σ H λx H1=>∃ c,x=.bl c/\if c=true then Q (.bl true) H1 else tb σ H1 Q
def zrw (ta:TE):TE:=fun σ H Q=>ta σ H λx H1=>∃ c,x=.bl c/\Q (.bl (!c)) H1
def zok {op}{t:TE}(h:PE X a t):PE X (.BoolOp op [a] pos) t:=λb s σ H Q I hw=>BoolOp_one (h b s σ H Q I hw)
def zpe (f:PE X a ta)(g:PE X (.BoolOp .And (b::rest) pos) tb):PE X (.BoolOp .And (a::b::rest) pos) (zqW ta tb):=by
 intro d s σ H Q I h
 refine BoolOp_and (thn (f d s σ H _ I h) λv i hh9=>?_)
 obtain⟨x,H1,I1,j,e⟩:=hh9
 obtain⟨c,rfl,e⟩:=e
 cases j
 refine l9 ?_
 cases c with
 | true=>exact g d i σ H1 Q I1 e
 | false=>exact⟨.bl false,H1,I1,rfl,e⟩
def zq1 (f:PE X a ta)(g:PE X (.BoolOp .Or (b::rest) pos) tb):PE X (.BoolOp .Or (a::b::rest) pos) (tOrV ta tb):=by
 intro d s σ H Q I h
 refine BoolOp_or (thn (f d s σ H _ I h) λv i hh9=>?_)
 obtain⟨x,H1,I1,j,e⟩:=hh9
 obtain⟨c,rfl,e⟩:=e
 cases j
 refine l9 ?_
 cases c with
 | false=>exact g d i σ H1 Q I1 e
 | true=>exact⟨.bl true,H1,I1,rfl,e⟩
def zop (e:PE X a ta):PE X (.UnaryOp .Not a pos) (zrw ta):=by
 intro b s σ H Q I h
 refine UnaryOp_ (thn (e b s σ H _ I h) λv g hh9=>?_)
 obtain⟨x,H1,I1,f,d⟩:=hh9
 obtain⟨c,rfl,d⟩:=d
 cases f
 exact not_of (l9 ⟨.bl (!c),H1,I1,rfl,d⟩)
def tIf (t:TT)(ta tb:TE):TE:=fun σ H Q=>t σ H λc H1=>if c=true then ta σ H1 Q else tb σ H1 Q
def zex (i:PT X c tA)(j:PE X a ta)(k:PE X b tb):PE X (.IfExp c a b pos) (tIf tA ta tb):=by
 intro e s σ H Q I h
 refine wpAny_IfExp (thn (i e s σ H _ I h) λd g hh9=>?_)
 obtain⟨H1,I1,f⟩:=hh9
 cases d with
 | true=>exact j e g σ H1 Q I1 f
 | false=>exact k e g σ H1 Q I1 f
end
def SqL (K:zz)(H:Hp)(a:Addr)(c:zx):Prop :=
 Rd H a (.lst c) \/
  ∃ (o:Obj) (b:zP) (n:Nat),K.lookup a=some o/\o.cls=.type "list"/\o.dict=none/\o.data=.seq b n/\b.size<=sizeLine/\yl c b.toList
def SqT (K:zz)(H:Hp)(a:Addr)(c:zx):Prop :=
 Rd H a (.tup c) \/
  ∃ (o:Obj) (b:zP) (n:Nat),K.lookup a=some o/\o.cls=.type "tuple"/\o.data=.seq b n/\b.size<=sizeLine/\yl c b.toList
def absV:Value->Option V
 | .none=>some .non
 | .bool b=>some (.bl b)
 | .int i _=>some (.int i)
 | .str x _=>some (.str x)
 | .bytes b _=>some (.byt b)
 | .float b _=>some (.flt b)
 | .ref a=>some (.ref a)
 | .type n=>some (.ty n)
 | _=>none
def y2.abs (r:y2 x u):absV u=some x:=by
 cases x with
 | non=>cases r;rfl
 | bl _=>cases r;rfl
 | int _=>obtain⟨t,rfl⟩:=r;rfl
 | str _=>obtain⟨t,rfl⟩:=r;rfl
 | byt _=>obtain⟨t,rfl⟩:=r;rfl
 | flt _=>obtain⟨t,rfl⟩:=r;rfl
 | ref _=>cases r;rfl
 | ty _=>cases r;rfl
def y2.inj (r:y2 x u)(q:y2 y u):x=y:=g0 (r.abs.symm.trans q.abs)
def yl.inj:∀ {d a:zx} {c:zt},yl d c->yl a c->d=a:=by
 intro d a c h
 induction h generalizing a with
 | nil=>intro b;cases b;rfl
 | cons r t f=>intro b;cases b with | cons e g=>rw[r.inj e,f g]
section
variable {X:Cx}{pins:xn}{σ:St}{H:Hp}{s:zj}{a:Addr}{xs ys:zx}
def SqL.of {K:zz}(h:H a=some (.lst xs)):SqL K H a xs:=.inl (.inl h)
def SqT.of {K:zz}(h:H a=some (.tup xs)):SqT K H a xs:=.inl (.inl h)
def Inv.list (I:Inv X pins σ H s)(h:SqL X.K H a xs):∃ b:zt,yl xs b/\PlainL s.heap a b.toArray/\xs.length<=sizeLine:=by
 rcases h with h | ⟨o,b,n,c,d,f,g,i,r⟩
 .obtain⟨z,b,n,r,e⟩:=h.ok I.hok
  exact⟨b,r,⟨_,n,e,rfl,rfl,rfl⟩,z⟩
 .refine⟨b.toList,r,⟨o,n,I.kIn a o c,d,f,by simpa using g⟩,?_⟩
  have e:=r.length
  simp only[u0h]at e
  omega
def Inv.tuple (I:Inv X pins σ H s)(h:SqT X.K H a xs):∃ b:zt,yl xs b/\IsTup s.heap a b.toArray/\xs.length<=sizeLine:=by
 rcases h with h | ⟨o,b,n,c,d,f,g,r⟩
 .obtain⟨z,b,r,p⟩:=h.ok I.hok
  exact⟨b,r,p,z⟩
 .refine⟨b.toList,r,⟨o,I.kIn a o c,d,n,by simpa using f⟩,?_⟩
  have e:=r.length
  simp only[u0h]at e
  omega
def Inv.list_inj (I:Inv X pins σ H s)(h:SqL X.K H a xs)(j:SqL X.K H a ys):xs=ys:=by
 obtain⟨c,r,⟨o,n,e,_,_,d⟩,_⟩:=I.list h
 obtain⟨b,i,⟨k,l,f,_,_,g⟩,_⟩:=I.list j
 rw[e]at f;cases f
 rw[d]at g
 injection g with d1 _
 have:c=b:=by simpa using u0q Array.toList d1
 subst this
 exact r.inj i
def Inv.tuple_inj (I:Inv X pins σ H s)(h:SqT X.K H a xs)(j:SqT X.K H a ys):xs=ys:=by
 obtain⟨c,r,⟨o,e,_,n,d⟩,_⟩:=I.tuple h
 obtain⟨b,i,⟨k,f,_,l,g⟩,_⟩:=I.tuple j
 rw[e]at f;cases f
 rw[d]at g
 injection g with d1 _
 have:c=b:=by simpa using u0q Array.toList d1
 subst this
 exact r.inj i
end
abbrev Cx.wish (X:Cx)(E:yL):Cx:={ X with xe:=E }
abbrev Cx.nox (X:Cx):Cx:=X.wish λ_ _=>False
def Cx.Ok.wish {X:Cx}(ok:X.Ok)(E:yL):(X.wish E).Ok :=
 ⟨ok.mod,ok.kind,ok.glob,ok.blt,ok.above,ok.inj,ok.has,ok.cab,ok.hd,ok.frames,ok.stk,ok.exf,ok.bs,ok.bsz,ok.noex,ok.exfs,ok.funs,ok.frf⟩
def Cx.Ok.unwish {X:Cx}(ok:(X.wish E).Ok):X.Ok :=
 ⟨ok.mod,ok.kind,ok.glob,ok.blt,ok.above,ok.inj,ok.has,ok.cab,ok.hd,ok.frames,ok.stk,ok.exf,ok.bs,ok.bsz,ok.noex,ok.exfs,ok.funs,ok.frf⟩
section
variable {X:Cx}{pins:xn}{σ:St}{H:Hp}{s:zj}{E:yL}
def Inv.wish (I:Inv X pins σ H s)(E:yL):Inv (X.wish E) pins σ H s:=⟨I.ok.wish E,I.os,I.bare,I.base,I.loc,I.cell,I.free,I.freeC,I.pin,I.hok,I.len⟩
def Inv.unwish (I:Inv (X.wish E) pins σ H s):Inv X pins σ H s:=⟨I.ok.unwish,I.os,I.bare,I.base,I.loc,I.cell,I.free,I.freeC,I.pin,I.hok,I.len⟩
def SP.unwish {D:zbz}{f:Flow}(h:SP (X.wish E) pins D f b):SP X pins D f b:=by
 cases f with
 | next=>obtain⟨a,H',I,q⟩:=h;exact⟨a,H',I.unwish,q⟩
 | brk=>obtain⟨a,H',I,q⟩:=h;exact⟨a,H',I.unwish,q⟩
 | cont=>obtain⟨a,H',I,q⟩:=h;exact⟨a,H',I.unwish,q⟩
 | ret u=>obtain⟨v,a,H',I,r,q⟩:=h;exact⟨v,a,H',I.unwish,r,q⟩
def PSs.nox {t:TS}(h:PSs X.nox a t):PSs X a t:=λpins s σ H D I hw =>
 p8 (h pins s σ H D (I.wish _) hw) (λ_ _ q=>q.unwish) λ_ _ z=>False.elim z
end
section
variable {X:Cx}{st:Stmt}{rest:Xp}{t u:TS}{e:Expr}{te:TE}{pos:Pos}
def zp1:TS:=λD σ H=>D.nx σ H
def tSeq (t u:TS):TS:=λD σ H=>t { D with nx:=u D } σ H
def zgs:PSs X [] zp1:=λ_ _ σ H _ I h=>u1S ⟨σ,H,I,h⟩
def wH (d:PS X st t)(b:PSs X rest u):PSs X (st::rest) (tSeq t u):=by
 intro a s σ H D I h
 refine wpAny_execs_cons (thn (d a s σ H { D with nx:=u D } I h) λf e q=>?_)
 cases f with
 | next =>
  obtain⟨c,H',I',q⟩:=q
  exact b a e c H' D I' q
 | ret v=>exact q
 | brk=>exact q
 | cont=>exact q
def XR (b:PS X st t):PSs X [st] t:=by
 intro a s σ H D I h
 refine wpAny_execs_cons (thn (b a s σ H D I h) λf c q=>?_)
 cases f with
 | next=>exact u1S q
 | ret v=>exact q
 | brk=>exact q
 | cont=>exact q
def Inv.quiet (I:Inv X a σ H s):interactive X.env=false:=by simp[interactive,I.ok.kind]
def zrC (te:TE):TS:=λD σ H=>te σ H λ_ H1=>D.nx σ H1
def Vz (c:PE X e te)(d:swapsWith e none pos.line X.env=pure false:=by rfl):PS X (.Expr e pos) (zrC te):=by
 intro a s σ H D I h
 exact wpAny_Expr_any (thn (c a s σ H _ I h) λv g ⟨x,H1,I1,f,b⟩=>⟨σ,H1,I1,b⟩) I.quiet d
def zry (te:TE):TS:=λD σ H=>te σ H D.rt
def zcn (d:PE X e te):PS X (.Return (some e) pos) (zry te):=by
 intro a s σ H D I h
 exact wpAny_Return_some (thn (d a s σ H _ I h) λv f ⟨x,H1,I1,b,c⟩=>⟨x,σ,H1,I1,b,c⟩)
def tIfS (c:TT)(t u:TS):TS:=λD σ H=>c σ H λb H1=>if b=true then t D σ H1 else u D σ H1
def zna (i:PT X c tc)(j:PSs X a t)(k:PSs X b u):PS X (.If c a b pos) (tIfS tc t u):=by
 intro e s σ H D I h
 refine wpAny_If (thn (i e s σ H _ I h) λd g hh9=>?_)
 obtain⟨H1,I1,f⟩:=hh9
 cases d with
 | true=>exact j e g σ H1 D I1 f
 | false=>exact k e g σ H1 D I1 f
def zo7:TS:=λ_ _ _=>False
def zeA:PS X st zo7:=λ_ _ _ _ _ _ h=>h.elim
end
abbrev TG:=V->St->Hp->vf->Prop
abbrev TGs:=zx->St->Hp->vf->Prop
def PG (X:Cx)(a:Expr)(t:TG):Prop :=
 ∀ (b:xn) (s:zj) (σ:St) (H:Hp) (v:V) (u:Value) (Q:vf),Inv X b σ H s->y2 v u->t v σ H Q ->
  wpAny (model X.prog X.w) X.A (assign a X.env u) (λ_ d=>∃ c H',Inv X b c H' d/\Q c H') X.xe s
def PGs (X:Cx)(e:xK)(t:TGs):Prop :=
 ∀ (a:xn) (s:zj) (σ:St) (H:Hp) (c:zx) (b:zt) (Q:vf),Inv X a σ H s->yl c b->t c σ H Q ->
  wpAny (model X.prog X.w) X.A (assignInOrder ((assignEach e X.env).map (·.2)) b) (λ_ f=>∃ d H',Inv X a d H' f/\Q d H') X.xe s
abbrev zqK:=V->V->V->Hp->(Hp->Prop)->Prop
def PSet (X:Cx)(t:zqK):Prop :=
 ∀ (a:xn) (s:zj) (σ:St) (H:Hp) (o i v:V) (b c u:Value) (Q:Hp->Prop),Inv X a σ H s->y2 o b->y2 i c->y2 v u->t o i v H Q ->
  wpAny (model X.prog X.w) X.A (setItem b c u) (λ_ d=>∃ H',Inv X a σ H' d/\Q H') X.xe s
section
variable {X:Cx}{pos:Pos}
def Zr (i:Nat):TG:=λv σ H Q=>Q (σ.set i (some v)) H
def yA {i:Nat}(c:X.N.Nodup)(d:X.N[i]?=some x)(e:Loc X.env.scope x)(b:X.fn x=true\/X.env.scope.names.lookup x=some .local:=by first | exact .inl rfl | exact .inr rfl | assumption):PG X (.Name x pos) (Zr i):=by
 intro a s σ H v u Q I r h
 exact wpAny_assign_Name (zaF I c d e r (λf I'=>⟨_,H,I',h⟩) b)
def zqD:TGs:=λa σ H Q=>a=[]/\Q σ H
def zds (t:TG)(u:TGs):TGs:=λb σ H Q=>∃ v r,b=v::r/\t v σ H λa H'=>u r a H' Q
def zbq:PGs X [] zqD:=by
 intro a s σ H c b Q I r h
 obtain⟨e,h⟩:=h
 subst e
 cases r
 exact assignInOrder_nil ⟨σ,H,I,h⟩
def Yh {t:TG}(l:PG X e t)(c:PGs X b u)(k:(assignEach (e::b) X.env).map (·.2)=assign e X.env::(assignEach b X.env).map (·.2):=by rfl):PGs X (e::b) (zds t u):=by
 intro a s σ H n m Q I r h
 obtain⟨v,o,g,h⟩:=h
 subst g
 cases r with
 | cons r j =>
  rw[k]
  refine assignInOrder_cons (thn (l a s σ H _ _ _ I r h) λ_ f hh9=>?_)
  obtain⟨i,H1,I1,d⟩:=hh9
  exact c a f i H1 _ _ Q I1 j d
def zqu (K:zz)(n:Nat)(t:TGs):TG:=λv σ H Q=>∃ a b,v=.ref a/\SqT K H a b/\b.length=n/\t b σ H Q
def zeV {k:Nat}{t:TGs}{n:Nat}(i:X.calm=true)(h:PGs X d t)(j:(assignEach d X.env).length=n:=by rfl)(f:(assignEach d X.env).findIdx? (·.1)=none:=by rfl):PG X (.Tuple d k pos) (zqu X.K n t):=by
 intro c s σ H v u Q I r hw
 obtain⟨a,w,p,hq,x,hw⟩:=hw
 subst p
 cases r
 obtain⟨l,g,m,z⟩:=I.tuple hq
 refine assign_Tuple_tuple (I.ok.hd i) m (by simp[j,<- x,g.length]) f λq y=>?_
 have I1:Inv X c σ H { s with heap:=q }:=I.kept (t':=s.toks) λb o e=>y b o (k7 (q4 e)) e
 exact h c _ σ H w _ Q I1 (by simpa using g) hw
def gSub (b a:TE)(t:zqK):TG:=λv σ H Q=>b σ H λo H1=>a σ H1 λi H2=>t o i v H2 λH3=>Q σ H3
def zpY {t:zqK}(q:PE X o e)(l:PE X i d)(m:PSet X t) (w:∀ v,assign (.Subscript o i pos) X.env v=(do
 let b<-holding [v] (eval o X.env)
 let c<-holding [v,b] (eval i X.env)
 standAt pos
 holding [v,b,c] (setItem b c v)
 release [v,b,c] []):=by intro _;rfl):PG X (.Subscript o i pos) (gSub e d t):=by
 intro a s σ H v u Q I r h
 rw[w]
 refine u3 (i0 (thn (q a s σ H _ I h) λb j hh9=>?_))
 obtain⟨x,H1,I1,k,f⟩:=hh9
 refine u3 (i0 (thn (l a j σ H1 _ I1 f) λc g hh9=>?_))
 obtain⟨y,H2,I2,p,z⟩:=hh9
 refine u3 (wpAny_standAt (u3 (i0 (thn (m a g σ H2 x y v b c u _ I2 k p r z) λ_ A hh9=>?_))))
 obtain⟨H3,I3,n⟩:=hh9
 exact wpAny_release ⟨σ,H3,I3,n⟩
def znQ (a:TE)(g:TG):TS:=λD σ H=>a σ H λx H1=>g x σ H1 D.nx
def zoO {g:TG}(k:PE X e c)(i:PG X b g)(l:swapsWithSole [b] e pos.line X.env=pure false:=by rfl)(hw:swappedStores [b] e X.env=pure none:=by rfl)(m:(assignEach [b] X.env).map (·.2)=[assign b X.env]:=by rfl):PS X (.Assign [b] e pos) (znQ c g):=by
 intro a s σ H D I h
 refine wpAny_Assign_stores (thn (k a s σ H _ I h) λv f hh9=>?_) l hw
 obtain⟨x,H1,I1,j,d⟩:=hh9
 rw[m]
 exact thn (i a f σ H1 x v _ I1 j d) λ_ n q=>q
def XV {i:Nat}(g:X.N.Nodup)(k:X.N[i]?=some x)(n:Loc X.env.scope x)(l:PE X e c)(m:swapsWith e (some (.Name x a)) pos.line X.env=pure false:=by rfl)(f:X.fn x=true\/X.env.scope.names.lookup x=some .local:=by first | exact .inl rfl | exact .inr rfl | assumption) :
 PS X (.Assign [.Name x a] e pos) (znQ c (Zr i)):=by
 intro b s σ H D I h
 refine wpAny_Assign_Name (thn (l b s σ H _ I h) λv p hh9=>?_) m
 obtain⟨y,H1,I1,j,d⟩:=hh9
 exact zaF I1 g k n j (λo I2=>⟨_,H1,I2,d⟩) f
def zpr (c:TT)(e:TS):TS:=λD σ H=>∃ W:Nat->St->Hp->Prop,(∃ m,W m σ H)/\∀ m σ H,W m σ H ->
 c σ H λb H1=>if b=true then ∃ N:vf,(∀ a H',N a H'->∃ d,d<m/\W d a H')/\e { D with nx:=N,ct:=N,bk:=D.nx } σ H1 else D.nx σ H1
def zjG (q:PassesOwn (model X.prog X.w) X.A X.env X.xe)(A:PT X c tc)(u:PSs X body o):PS X (.While c body [] pos) (zpr tc o):=by
 intro a s σ H D I h
 obtain⟨W,⟨x,B⟩,turn⟩:=h
 refine wpAny_While (codeAny_whileLoop (λn y=>∃ r H',Inv X a r H' y/\W n r H') ?_ x ⟨σ,H,I,B⟩)
 rintro n w ⟨e,H1,I1,z⟩
 refine u0Z q (thn (A a w e H1 _ I1 (turn n e H1 z)) λb t hh9=>?_)
 obtain⟨H2,I2,i⟩:=hh9
 cases b with
 | true =>
  obtain⟨N,p,i⟩:=i
  rw[u9 rfl]
  refine u0Z q (thn (u a t e H2 _ I2 i) λf C g=>?_)
  cases f with
  | next =>
   obtain⟨d,H3,I3,m⟩:=g
   obtain⟨l,k,j⟩:=p d H3 m
   exact⟨l,k,d,H3,I3,j⟩
  | cont =>
   obtain⟨d,H3,I3,m⟩:=g
   obtain⟨l,k,j⟩:=p d H3 m
   exact⟨l,k,d,H3,I3,j⟩
  | brk=>exact g
  | ret v=>exact g
 | false =>
  rw[t9 u6]
  exact u1S ⟨e,H2,I2,i⟩
end
structure It where
 go:Nat->Hp->Prop
 yld:Nat->Hp->V->Hp->Prop
 stop:Nat->Hp->Prop
def za2 (X:Cx)(a:xn)(H:Hp)(b:Addr):Prop :=
 H b=none/\b≠X.env.locals/\b∉X.fs/\(b∈X.ex\/X.s₀.heap.objs.size<=b)/\(∀ x c,X.env.cells.lookup x=some c->c≠b)/\∀ p∈X.pn++a,p.1≠b
def Inv.fpOk {H':Hp}{s:zj}(I:Inv X pins σ H s)(a:s.heap.objs.size<=b)(d:H' b=none):za2 X pins H' b:=by
 refine⟨d,u1c (j2 I.lt a),I.nofs a,.inr (o5 I.sz a),λx c e z=>?_,λp f z=>?_⟩
 .obtain⟨v,q⟩:=I.cell x c e
  exact absurd (j2 q.lt (by rw[z];exact a)) (i7 _)
 .exact absurd (j2 (q4 (I.pin p f).1) (by rw[z];exact a)) (i7 _)
structure zlq (P:zH) (w:World) (K:zz) (tg:Expr) (J:It) (fp:xx) (it:Addr) (tn:Nat->Heap->Prop):Prop where
 mem:it∈fp
 obj:∀ i h,tn i h->∀ b∈fp,∃ o,h.get? b=some o/\∀ v,o.data≠.cell v
 keep:∀ i h h',tn i h->(∀ b∈fp,∀ o,h.get? b=some o->h'.get? b=some o)->tn i h'
 item:∀ (X:Cx),X.prog=P->X.w=w->X.K=K->X.calm=true->∀ (i:Nat) (pins:xn) (s:zj) (σ:St) (H:Hp) (E:yL),Inv X pins σ H s->(∀ b∈fp,za2 X pins H b)->tn i s.heap->J.go i H ->
  wpAny (model P w) X.A (pyNext (.ref it)) (λr s1=>∃ u,r=some u /\
   wpAny (model P w) X.A (letOwnedTupleGo tg (.ref it) u) (λ_ s2=>∃ x H',Inv X pins σ H' s2/\y2 x u/\J.yld i H x H'/\tn (i+1) s2.heap/\∀ b∈fp,H' b=none) E s1) E s
 done:∀ (X:Cx),X.prog=P->X.w=w->X.K=K->X.calm=true->∀ (i:Nat) (pins:xn) (s:zj) (σ:St) (H:Hp) (E:yL),Inv X pins σ H s->(∀ b∈fp,za2 X pins H b)->tn i s.heap->J.stop i H ->
  wpAny (model P w) X.A (pyNext (.ref it)) (λr s1=>r=none/\Inv X pins σ H s1) E s
 self:∀ (A:zI) (i:Nat) (s:zj) (Q:yL) (E:yL),tn i s.heap->Q (.ref it) s->wpAny (model P w) A (pyIter (.ref it)) Q E s
abbrev TI:=St->Hp->(It->Hp->Prop)->Prop
def PIE (X:Cx)(a:xn)(σ:St)(h:Expr)(R:It->Hp->Prop)(c:Value)(d:zj):Prop :=
 ∃ (e:Addr) (g:xx) (f:Nat->Heap->Prop) (J:It) (H':Hp),c=.ref e/\Inv X a σ H' d/\zlq X.prog X.w X.K h J g e f/\f 0 d.heap/\(∀ b∈g,za2 X a H' b)/\R J H'
def PI (X:Cx)(d b:Expr)(c:TI):Prop :=
 ∀ (a:xn) (s:zj) (σ:St) (H:Hp) (R:It->Hp->Prop),Inv X a σ H s->c σ H R ->
  wpAny (model X.prog X.w) X.A (eval b X.env) (λv e=>wpAny (model X.prog X.w) X.A (pyIter v) (PIE X a σ d R) X.xe e) X.xe s
theorem zjx {s:zj} {o:Obj} {Q:Unit→Shared→Prop} (ho:s.heap.get? it=some o) (hc:o.cls=.type n) (hd:o.data=.fields vs) (hn:["enumerate","zip","dict_itemiterator","dict_reverseitemiterator","odict_iterator","itertools.zip_longest","itertools.pairwise"].contains n=false) (hQ:Q () s):wpAny M A (letOwnedTupleGo tg (.ref it) u) Q E s:=by
  unfold letOwnedTupleGo
  cases tg <;> first
    | exact t0 hQ
    | (cases u <;> first
        | exact t0 hQ
        | (refine u3 (wpAny_load ho ?_)
           rw [hc,hd]
           show wpAny M A (if (["enumerate","zip","dict_itemiterator","dict_reverseitemiterator","odict_iterator","itertools.zip_longest","itertools.pairwise"].contains n&&vs[0]? == some (rawInt _))=true then _ else _) Q E s
           rw [t9 (by intro h;rw [hn,Bool.false_and] at h;cases h)]
           exact t0 hQ))
def Itl (K:zz)(a:Addr):It :=
 ⟨λi H=>∃ b x,SqL K H a b/\b[i]?=some x,λi H x H'=>H'=H/\∀ b,SqL K H a b->b[i]?=some x,λi H=>∃ b,SqL K H a b/\b.length<=i⟩
def Itt (K:zz)(a:Addr):It :=
 ⟨λi H=>∃ b x,SqT K H a b/\b[i]?=some x,λi H x H'=>H'=H/\∀ b,SqT K H a b->b[i]?=some x,λi H=>∃ b,SqT K H a b/\b.length<=i⟩
def Itr (a:Int)(n:Nat):It:=⟨λi _=>i<n,λi H x H'=>H'=H/\x=.int (a+i),λi _=>n<=i⟩
def zi9 {P:zH}{w:World}{K:zz}{tg:Expr}(a it:Addr):zlq P w K tg (Itl K a) [it] it (λi h=>h.IsListIter it a i) where
 mem:=by simp
 obj:=λi h st b hb=>by
  have e:b=it:=by simpa using hb
  subst e
  obtain⟨o,e,c,d⟩:=st
  exact⟨o,e,λv z=>by rw[d]at z;cases z⟩
 keep:=λi h h' st k=>st.at λo e=>k it (by simp) o e
 item:=by
  intro X hP hw hK hc i pins s σ H E I hf st hg
  subst hP hw hK
  obtain⟨xs,x,hq,hx⟩:=hg
  obtain⟨its,rv,p,hz⟩:=I.list hq
  obtain⟨u,hu,ru⟩:=rv.get hx
  obtain⟨f0,f1,f2,f3,f4,f5⟩:=hf it (by simp)
  refine wpAny_pyNext_list_item st p.isList (x:=u) (by simpa using hu) λh' st' sb=>?_
  have I1:Inv X pins σ H { s with heap:=h' }:=I.turned (t':=s.toks) (λb o hb e=>(sb.2 b hb).trans e) f0 f1 f3 f4 f5
  obtain⟨o,e,c,d⟩:=id st'
  exact⟨u,rfl,zjx (s:={ s with heap:=h' }) e c d (by decide) ⟨x,H,I1,ru,⟨rfl,λys hy=>by rw[I.list_inj hy hq];exact hx⟩,st',λb hb=>(hf b hb).1⟩⟩
 done:=by
  intro X hP hw hK hc i pins s σ H E I hf st hg
  subst hP hw hK
  obtain⟨xs,hq,hx⟩:=hg
  obtain⟨its,rv,p,hz⟩:=I.list hq
  obtain⟨f0,f1,f2,f3,f4,f5⟩:=hf it (by simp)
  have hl:=rv.length
  exact wpAny_pyNext_list_end (I.ok.hd hc) st p.isList (by simp;omega) λh' eb=>⟨rfl,I.turned (t':=s.toks) (λb o hb e=>eb b o hb e) f0 f1 f3 f4 f5⟩
 self:=λ_ _ _ _ _ st h=>wpAny_pyIter_listiter st h
def zf8 {P:zH}{w:World}{K:zz}{tg:Expr}(a it:Addr):zlq P w K tg (Itt K a) [it] it (λi h=>h.IsTupleIter it a i) where
 mem:=by simp
 obj:=λi h st b hb=>by
  have e:b=it:=by simpa using hb
  subst e
  obtain⟨o,e,c,d⟩:=st
  exact⟨o,e,λv z=>by rw[d]at z;cases z⟩
 keep:=λi h h' st k=>st.at λo e=>k it (by simp) o e
 item:=by
  intro X hP hw hK hc i pins s σ H E I hf st hg
  subst hP hw hK
  obtain⟨xs,x,hq,hx⟩:=hg
  obtain⟨its,rv,p,hz⟩:=I.tuple hq
  obtain⟨u,hu,ru⟩:=rv.get hx
  obtain⟨f0,f1,f2,f3,f4,f5⟩:=hf it (by simp)
  refine wpAny_pyNext_tuple_item st (show s.heap.IsTuple a its.toArray from p) (x:=u) (by simpa using hu) λh' st' sb=>?_
  have I1:Inv X pins σ H { s with heap:=h' }:=I.turned (t':=s.toks) (λb o hb e=>(sb.2 b hb).trans e) f0 f1 f3 f4 f5
  obtain⟨o,e,c,d⟩:=id st'
  exact⟨u,rfl,zjx (s:={ s with heap:=h' }) e c d (by decide) ⟨x,H,I1,ru,⟨rfl,λys hy=>by rw[I.tuple_inj hy hq];exact hx⟩,st',λb hb=>(hf b hb).1⟩⟩
 done:=by
  intro X hP hw hK hc i pins s σ H E I hf st hg
  subst hP hw hK
  obtain⟨xs,hq,hx⟩:=hg
  obtain⟨its,rv,p,hz⟩:=I.tuple hq
  obtain⟨f0,f1,f2,f3,f4,f5⟩:=hf it (by simp)
  have hl:=rv.length
  exact wpAny_pyNext_tuple_end (I.ok.hd hc) st (show s.heap.IsTuple a its.toArray from p) (by simp;omega) λh' eb=>⟨rfl,I.turned (t':=s.toks) (λb o hb e=>eb b o hb e) f0 f1 f3 f4 f5⟩
 self:=λ_ _ _ _ _ st h=>wpAny_pyIter_tupleiter st h
def zfB {P:zH}{w:World}{K:zz}{tg:Expr}(it:Addr)(lo:Int)(n:Nat):zlq P w K tg (Itr lo n) [it] it (λi h=>IsRangeIter h it (lo+(i:Nat)*1) ((n:Int)-(i:Nat)) 1) where
 mem:=by simp
 obj:=λi h st b hb=>by
  have e:b=it:=by simpa using hb
  subst e
  exact⟨_,st,λv z=>by
   have z':Data.fields _=Data.cell v:=z
   cases z'⟩
 keep:=λi h h' st k=>k it (by simp) _ st
 item:=by
  intro X hP hw hK hc i pins s σ H E I hf st hg
  subst hP hw hK
  obtain⟨f0,f1,f2,f3,f4,f5⟩:=hf it (by simp)
  have W:=Walks.range (prog:=X.prog) (w:=X.w) (I.ok.hd hc) it lo 1 n
  refine W.item i s _ _ hg st λv h' tk hv st' kk=>?_
  obtain⟨t,rfl⟩:=hv
  have I1:Inv X pins σ H { s with heap:=h',toks:=tk }:=I.turned (λb o hb e=>kk b o (by simpa using hb) e) f0 f1 f3 f4 f5
  refine⟨_,rfl,zjx (s:={ s with heap:=h',toks:=tk }) (n:="range_iterator") st' rfl rfl (by decide) ⟨.int (lo+i),H,I1,⟨t,?_⟩,⟨rfl,rfl⟩,st',λb hb=>(hf b hb).1⟩⟩
  rw[u1Y]
 done:=by
  intro X hP hw hK hc i pins s σ H E I hf st hg
  subst hP hw hK
  obtain⟨f0,f1,f2,f3,f4,f5⟩:=hf it (by simp)
  exact wpAny_pyNext_range_end (I.ok.hd hc) st (by have:n<=i:=hg;omega) λh' eb=>⟨rfl,I.turned (t':=s.toks) (λb o hb e=>eb b o hb e) f0 f1 f3 f4 f5⟩
 self:=λ_ _ _ _ _ st h=>wpAny_pyIter_rangeiter st h
section
variable {X:Cx}{tg:Expr}
def zd8 {s:zj} {R:It->Hp->Prop} {a c:Int} {t:Tok} {tk:Nat} (I:Inv X d σ H s) (l:-(2^62)<=a) (f:a<2^62) (g:-(2^62)<=c) (h:c<2^62) (q:R (Itr a (c-a).toNat) H):wpAny (model X.prog X.w) X.A (pyIter (.ref s.heap.objs.size)) (PIE X d σ tg R) E { s with heap:=s.heap.push { cls:=.type "range",data:=.fields #[.int a t,.int c u,.int 1 v] },toks:=tk }:=by
 refine wpAny_pyIter_range (IsRange.new ..) (small_one l f g h) ?_
 have I1:Inv X d σ H { s with heap:=s.heap.push { cls:=.type "range",data:=.fields #[.int a t,.int c u,.int 1 v] },toks:=tk }:=I.kept λb o e=>u5 _ e
 refine⟨(s.heap.push { cls:=.type "range",data:=.fields #[.int a t,.int c u,.int 1 v] }).objs.size,[(s.heap.push { cls:=.type "range",data:=.fields #[.int a t,.int c u,.int 1 v] }).objs.size],_,_,H,rfl,
  I1.kept (t':=tk) λb o e=>u5 _ e,zfB _ a (c-a).toNat,?_,λb i=>?_,q⟩
 .have j:a+((0:Nat):Int)*1=a:=by simp
  have k:(((c-a).toNat:Nat):Int)-((0:Nat):Int)=Builtin.Range.rangeSize a c 1:=by rw[rangeSize_one];split <;> omega
  show IsRangeIter _ _ (a+((0:Nat):Int)*1) ((((c-a).toNat:Nat):Int)-((0:Nat):Int)) 1
  rw[j,k]
  exact q7 _ rfl
 .have e:b=(s.heap.push { cls:=.type "range",data:=.fields #[.int a t,.int c u,.int 1 v] }).objs.size:=by simpa using i
  subst e
  exact I1.fpOk (t7 _) (I1.hok.fresh (t7 _))
def zrk (ta:TA):TI:=fun σ H R=>ta σ H λa H1=>∃ j:Int,a=[.int j]/\-(2^62)<=j/\j<2^62/\R (Itr 0 j.toNat) H1
def zq2 (ta:TA):TI:=fun σ H R=>ta σ H λa H1=>∃ i j:Int,a=[.int i,.int j]/\(-(2^62)<=i/\i<2^62/\-(2^62)<=j/\j<2^62)/\R (Itr i (j-i).toNat) H1
def zb6 (i:Gl X "range") (g:X.mg "range"=none) (f:PA X [a] ta) (n:starEach [a] X.env=[(false,eval a X.env)]:=by rfl):PI X tg (.Call (.Name "range" p) [a] [] c) (zrk ta):=by
 intro b s σ H R I h
 refine Call_ (vp I i g boot_range (o8 (thn (f c b s σ H _ I h) λo v hh9=>?_) n rfl))
 obtain⟨u,H1,I1,l,d⟩:=hh9
 obtain⟨j,e,d,k,q⟩:=d
 subst e
 cases l with
 | cons r m =>
  cases m
  obtain⟨t,rfl⟩:=r
  exact call_range_1 (zd8 I1 (by omega) (by omega) d k (by simpa using q))
def zcK (x:Gl X "range") (m:X.mg "range"=none) (w:PA X [a,b] ta) (o:starEach [a,b] X.env=[(false,eval a X.env),(false,eval b X.env)]:=by rfl) (d:starEach [b] X.env=[(false,eval b X.env)]:=by rfl) :
 PI X tg (.Call (.Name "range" p) [a,b] [] c) (zq2 ta):=by
 intro f s σ H R I h
 refine Call_ (vp I x m boot_range (o8 (thn (w c f s σ H _ I h) λz A hh9=>?_) (by rw[o,d]) (by rw[d];rfl)))
 obtain⟨C,H1,I1,n,g⟩:=hh9
 obtain⟨i,j,e,⟨g,y,u,v⟩,q⟩:=g
 subst e
 cases n with
 | cons r k =>
  cases k with
  | cons l k =>
   cases k
   obtain⟨t,rfl⟩:=r
   obtain⟨B,rfl⟩:=l
   exact call_range_2 (zd8 I1 g y u v q)
def tFor (d:TI)(g:TG)(c:TS):TS:=λD σ H=>d σ H λJ H1=>∃ W:Nat->Nat->St->Hp->Prop,(∃ m,W 0 m σ H1)/\∀ i m σ H,W i m σ H ->
 (J.stop i H/\D.nx σ H)\/(J.go i H/\∃ N:vf,(∀ a H',N a H'->∃ b,b<m/\W (i+1) b a H')/\∀ x H',J.yld i H x H'->g x σ H' λe H2=>c { D with nx:=N,ct:=N,bk:=D.nx } e H2)
def Y9 (a:xx)(h:Heap):xn:=a.filterMap λb=>(h.get? b).map λo=>(b,o)
def xh {h:Heap}(c:b∈a)(e:h.get? b=some o):(b,o)∈Y9 a h:=u2T.mpr ⟨b,c,by rw[e];rfl⟩
def zhx {h:Heap}(d:p∈Y9 a h):p.1∈a/\h.get? p.1=some p.2:=by
 obtain⟨b,f,e⟩:=u2T.mp d
 cases q:h.get? b with
 | none=>rw[q]at e;cases e
 | some o =>
  rw[q]at e
  have c:(b,o)=p:=g0 e
  subst c
  exact⟨f,q⟩
def Inv.pinned {s:zj}(I:Inv X a σ H s)(h:∀ b∈fp,za2 X a H b)(g:∀ b∈fp,∃ o,s.heap.get? b=some o/\∀ v,o.data≠.cell v):Inv X (a++Y9 fp s.heap) σ H s :=
 I.pins_of λp i=>(u0o.mp i).elim (λz=>I.pin p (r3 _ z)) λz=>by
  obtain⟨c,e⟩:=zhx z
  obtain⟨l,k,j,_⟩:=h p.1 c
  obtain⟨o,f,d⟩:=g p.1 c
  rw[e]at f;cases f
  exact⟨e,l,k,j,d⟩
def Inv.unpinned (I:Inv X (a++c) σ H s):Inv X a σ H s:=I.pins_of λp b=>I.pin p (r3 _ (u0U _ b))
def ziM {g:TG}(A:PassesOwn (model X.prog X.w) X.A X.env X.xe)(P:X.calm=true)(hi:PI X tg j O)(hg:PG X tg g)(k:PSs X body Q)(hs:∀ x,foldedSetIterable j X.env x=pure x:=by intro _;rfl):PS X (.For tg j body [] L) (tFor O g Q):=by
 intro a s σ H D I h
 refine wpAny_For (thn (hi a s σ H _ I h) λv s1 h1=>thn h1 λa0 s2 h2=>?_) hs
 obtain⟨it,w,V,J,H2,e,I2,T,F,S,W,⟨m0,w0⟩,turn⟩:=h2
 subst e
 -- what stays true of the iterator's objects through the loop
 have c:∀ {H':Hp},(∀ b∈w,H' b=none)->∀ b∈w,za2 X a H' b:=λZ b k=>⟨Z b k,(S b k).2⟩
 refine codeAny_forLoop_any (λn U=>∃ i B H',Inv X a B H' U/\V i U.heap/\(∀ b∈w,H' b=none)/\W i n B H') ?_ m0 ⟨0,σ,H2,I2,F,λb k=>(S b k).1,w0⟩
 rintro n R ⟨i,C,H3,I3,y,z,Y⟩
 rcases turn i n C H3 Y with ⟨E,qn⟩ | ⟨go,N,hN,step⟩
 .refine u0Z A (thn (T.done X rfl rfl rfl P i a R C H3 X.xe I3 (c z) y E) λr s4 hh9=>?_)
  obtain⟨K,I4⟩:=hh9
  subst K
  exact u1S ⟨C,H3,I4,qn⟩
 .refine u0Z A (thn (T.item X rfl rfl rfl P i a R C H3 X.xe I3 (c z) y go) λr s4 hh9=>?_)
  obtain⟨u,K,h4⟩:=hh9
  subst K
  refine u0Z A (thn h4 λ_ s5 hh9=>?_)
  obtain⟨x,H5,I5,r5,y5,q,M⟩:=hh9
  have I5':=I5.pinned (c M) (T.obj _ _ q)
  refine u0Z A (thn (hg _ s5 C H5 x u _ I5' r5 (step x H5 y5)) λ_ s6 hh9=>?_)
  obtain⟨σ6,H6,I6,q6⟩:=hh9
  refine u0Z A (thn (k _ s6 σ6 H6 _ I6 q6) λf G p=>?_)
  have again:∀ {l:St} {H7:Hp},Inv X (a++Y9 w s5.heap) l H7 G->N l H7->∃ m,m<n/\∃ i B H',Inv X a B H' G/\V i G.heap/\(∀ b∈w,H' b=none)/\W i m B H':=λ{l H7} I7 t=>by
   obtain⟨m',hm,w7⟩:=hN l H7 t
   refine⟨m',hm,i+1,l,H7,I7.unpinned,T.keep _ _ _ q λb k o e=>(I7.pin (b,o) (r3 _ (r3 _ (xh k e)))).1,λb k=>?_,w7⟩
   obtain⟨o,e,d⟩:=T.obj _ _ q b k
   exact(I7.pin (b,o) (r3 _ (r3 _ (xh k e)))).2.1
  cases f with
  | next=>obtain⟨l,H7,I7,t⟩:=p;exact again I7 t
  | cont=>obtain⟨l,H7,I7,t⟩:=p;exact again I7 t
  | brk=>obtain⟨l,H7,I7,p⟩:=p;exact⟨l,H7,I7.unpinned,p⟩
  | ret v=>obtain⟨x7,l,H7,I7,r7,p⟩:=p;exact⟨x7,l,H7,I7.unpinned,r7,p⟩
end
abbrev R2:=V->V->Hp->VK->Prop
def OpR (X:Cx)(f:Value->Value->Sem Value)(r:R2):Prop :=
 ∀ (a:xn) (s:zj) (σ:St) (H:Hp) (x y:V) (v u:Value) (Q:VK),Inv X a σ H s->y2 x v->y2 y u->r x y H Q ->
  wpAny (model X.prog X.w) X.A (f v u) (EP X a σ Q) X.xe s
def UnR (X:Cx)(f:Value->Sem Value)(r:V->Hp->VK->Prop):Prop :=
 ∀ (a:xn) (s:zj) (σ:St) (H:Hp) (x:V) (v:Value) (Q:VK),Inv X a σ H s->y2 x v->r x H Q ->
  wpAny (model X.prog X.w) X.A (f v) (EP X a σ Q) X.xe s
def Xl (X:Cx)(f:Value)(r:zfL):Prop :=
 ∀ (a:xn) (s:zj) (σ:St) (H:Hp) (c:zx) (b:zt) (Q:VK),Inv X a σ H s->yl c b->r c H Q ->
  wpAny (model X.prog X.w) X.A (call f b) (EP X a σ Q) X.xe s
def tOp (r:R2)(ta a:TE):TE:=fun σ H Q=>ta σ H λx H1=>a σ H1 λy H2=>r x y H2 Q
def tUn (r:V->Hp->VK->Prop)(ta:TE):TE:=fun σ H Q=>ta σ H λx H1=>r x H1 Q
def rI (C:Int->Int->Prop)(g:Int->Int->V):R2:=λx y H Q=>∃ i j,x=.int i/\y=.int j/\C i j/\Q (g i j) H
def rI0 (g:Int->Int->V):R2:=λx y H Q=>∃ i j,x=.int i/\y=.int j/\Q (g i j) H
def rU (g:Int->V):V->Hp->VK->Prop:=λx H Q=>∃ i,x=.int i/\Q (g i) H
section
variable {X:Cx}{a b c:Expr}{ta tb tc:TE}{pos:Pos}
def zq8 (n:PE X a ta)(i:PE X b tb){c:xn}{R:V->V->Hp->Prop}(I:Inv X c σ H s)(h:ta σ H λx H1=>tb σ H1 λy H2=>R x y H2){f:Value->Value->Sem Value}(j:∀ v u d x y H2,Inv X c σ H2 d->y2 x v->y2 y u->R x y H2->wpAny (model X.prog X.w) X.A (f v u) Q X.xe d) :
 wpAny (model X.prog X.w) X.A (eval a X.env) (λv g=>wpAny (model X.prog X.w) X.A (eval b X.env) (λu p=>wpAny (model X.prog X.w) X.A (f v u) Q X.xe p) X.xe g) X.xe s:=by
 refine thn (n c s σ H _ I h) λv k hh9=>?_
 obtain⟨x,H1,I1,l,e⟩:=hh9
 refine thn (i c k σ H1 _ I1 e) λu d hh9=>?_
 obtain⟨y,H2,I2,m,o⟩:=hh9
 exact j v u d x y H2 I2 l m o
def zil (g:OpR X (binaryOp d) r)(f:PE X a ta)(j:PE X b tb):PE X (.BinOp a d b pos) (tOp r ta tb):=by
 intro c s σ H Q I h
 exact wpAny_BinOp (zq8 f j I h λv u i x y H2 I2 e k q=>g c i σ H2 x y v u Q I2 e k q)
def zqb {c:UnaryOp}(g:UnR X (unaryOp c) r)(f:PE X a ta):PE X (.UnaryOp c a pos) (tUn r ta):=by
 intro b s σ H Q I h
 exact UnaryOp_ (thn (f b s σ H _ I h) λv i ⟨x,H1,I1,d,e⟩=>g b i σ H1 x v Q I1 d e)
def opI {f:Value->Value->Sem Value}{C:Int->Int->Prop}{g:Int->Int->Int}
 (rule:∀ (i j:Int) (t u:Tok) (s:zj) (Q:yL) (E:yL),C i j->Q (.int (g i j) s.toks) { s with toks:=s.toks+1 }->wpAny (model X.prog X.w) X.A (f (.int i t) (.int j u)) Q E s) :
 OpR X f (rI C λi j=>.int (g i j)):=by
 intro a s σ H x y v u Q I c d h
 obtain⟨i,j,rfl,rfl,b,q⟩:=h
 obtain⟨t,rfl⟩:=c
 obtain⟨e,rfl⟩:=d
 exact rule i j t e s _ _ b ⟨.int (g i j),H,I.tok _,⟨_,rfl⟩,q⟩
def zqN {f:Value->Value->Sem Value}{g:Int->Int->Int}
 (rule:∀ (i j:Int) (t u:Tok) (s:zj) (Q:yL) (E:yL),Q (.int (g i j) s.toks) { s with toks:=s.toks+1 }->wpAny (model X.prog X.w) X.A (f (.int i t) (.int j u)) Q E s) :
 OpR X f (rI0 λi j=>.int (g i j)):=by
 intro a s σ H x y v u Q I b c h
 obtain⟨i,j,rfl,rfl,q⟩:=h
 obtain⟨t,rfl⟩:=b
 obtain⟨d,rfl⟩:=c
 exact rule i j t d s _ _ ⟨.int (g i j),H,I.tok _,⟨_,rfl⟩,q⟩
def zqP {f:Value->Value->Sem Value}{g:Int->Int->Bool}
 (rule:∀ (i j:Int) (t u:Tok) (s:zj) (Q:yL) (E:yL),Q (.bool (g i j)) s->wpAny (model X.prog X.w) X.A (f (.int i t) (.int j u)) Q E s) :
 OpR X f (rI0 λi j=>.bl (g i j)):=by
 intro a s σ H x y v u Q I b c h
 obtain⟨i,j,rfl,rfl,q⟩:=h
 obtain⟨t,rfl⟩:=b
 obtain⟨d,rfl⟩:=c
 exact rule i j t d s _ _ ⟨.bl (g i j),H,I,rfl,q⟩
def CPow (i j:Int):Prop:=0<=j/\j<=1000000/\i.natAbs<2^64
def zqU (i j:Int):Prop:=(-(2^64)<i/\i<2^64)\/(-(2^64)<j/\j<2^64)
def zqU.ok (h:zqU i j):IntMulOk i j:=by
 rcases h with ⟨b,a⟩ | ⟨b,a⟩
 .exact .of_left (intBits_le_64 b a)
 .exact .of_right (intBits_le_64 b a)
def zp0:OpR X (binaryOp .Add) (rI0 λi j=>.int (i+j)):=zqN λ_ _ _ _ _ _ _ q=>add_int q
def zoe:OpR X (binaryOp .Sub) (rI0 λi j=>.int (i-j)):=zqN λ_ _ _ _ _ _ _ q=>sub_int q
def zpL:OpR X (binaryOp .Mult) (rI zqU λi j=>.int (i*j)):=opI λ_ _ _ _ _ _ _ a q=>mul_int q a.ok
def zo2:OpR X (binaryOp .Mod) (rI (λ_ j=>0<j) λi j=>.int (i%j)):=opI λi j _ _ _ _ _ a q=>by
 have b:(0:Int)<j:=a
 exact mod_int' (by omega) (by rw[Int.fmod_eq_emod_of_nonneg i (by omega)];exact q)
def zpb:OpR X (binaryOp .LShift) (rI CPow λi j=>.int (i*2^j.toNat)):=opI λ_ _ _ _ _ _ _ a q=>lshift_int_small a.1 a.2.1 a.2.2 q
def zoQ:OpR X (binaryOp .BitXor) (rI0 λi j=>.int (Builtin.bitXor i j)):=zqN λ_ _ _ _ _ _ _ q=>xor_int q
def unI {f:Value->Sem Value}{g:Int->Int}
 (rule:∀ (i:Int) (t:Tok) (s:zj) (Q:yL) (E:yL),Q (.int (g i) s.toks) { s with toks:=s.toks+1 }->wpAny (model X.prog X.w) X.A (f (.int i t)) Q E s) :
 UnR X f (rU λi=>.int (g i)):=by
 intro a s σ H x v Q I b h
 obtain⟨i,rfl,q⟩:=h
 obtain⟨t,rfl⟩:=b
 exact rule i t s _ _ ⟨.int (g i),H,I.tok _,⟨_,rfl⟩,q⟩
def zl8:UnR X (unaryOp .USub) (rU λi=>.int (-i)):=unI λ_ _ _ _ _ q=>neg_int q
end
def scal:V->V->Bool
 | .non,.non=>true | .non,.int _=>true | .int _,.non=>true | .non,.bl _=>true | .bl _,.non=>true | .non,.str _=>true | .str _,.non=>true
 | .int _,.int _=>true | .bl _,.bl _=>true | .str _,.str _=>true | .byt _,.byt _=>true
 | .int _,.str _=>true | .str _,.int _=>true | .bl _,.str _=>true | .str _,.bl _=>true
 | _,_=>false
def rEq:R2:=λx y H Q=>scal x y=true/\Q (.bl (decide (x=y))) H
def rNe:R2:=λx y H Q=>scal x y=true/\Q (.bl (!decide (x=y))) H
def zdR:decide (V.int i=V.int j)=(i == j):=by
 rw[u08]
 simp
def zlR:decide (V.bl i=V.bl j)=(i == j):=by
 rw[u08]
 simp
def zhF:decide (V.str i=V.str j)=(i == j):=by
 rw[u08]
 simp
def zg1 {i j:Array UInt8}:decide (V.byt i=V.byt j)=(i.toList == j.toList):=by
 rw[u08]
 cases i
 cases j
 simp
section
variable {X:Cx}{a b c:Expr}{ta tb tc:TE}{pos:Pos}
def yh {a:xn}{Q:VK}{k b:Bool}(I:Inv X a σ H s)(q:Q (.bl k) H)(e:k=b):EP X a σ Q (.bool b) s:=by
 subst e
 exact⟨.bl k,H,I,rfl,q⟩
def zq5:OpR X (compareOp .Eq) rEq:=by
 intro e s σ H x y v u Q I d a h
 obtain⟨c,q⟩:=h
 cases x with
 | non =>
  cases d
  cases y with
  | non=>cases a;exact PySem.EqNone.eq_none_none (yh I q (by simp))
  | bl j=>cases a;exact PySem.EqNone.eq_none_bool (yh I q (by simp))
  | int j=>obtain⟨b,rfl⟩:=a;exact PySem.EqNone.eq_none_int (yh I q (by simp))
  | str j=>obtain⟨b,rfl⟩:=a;exact PySem.EqNone.eq_none_str (yh I q (by simp))
  | _=>exact absurd (show false=true from c) u6
 | bl i =>
  cases d
  cases y with
  | non=>cases a;exact PySem.EqNone.eq_bool_none (yh I q (by simp))
  | bl j=>cases a;exact eq_bool (yh I q zlR)
  | str j=>obtain⟨b,rfl⟩:=a;exact PySem.EqMixed.eq_bool_str (yh I q (by simp))
  | _=>exact absurd (show false=true from c) u6
 | int i =>
  obtain⟨t,rfl⟩:=d
  cases y with
  | non=>cases a;exact PySem.EqNone.eq_int_none (yh I q (by simp))
  | int j=>obtain⟨b,rfl⟩:=a;exact eq_int (yh I q zdR)
  | str j=>obtain⟨b,rfl⟩:=a;exact PySem.EqMixed.eq_int_str (yh I q (by simp))
  | _=>exact absurd (show false=true from c) u6
 | str i =>
  obtain⟨t,rfl⟩:=d
  cases y with
  | non=>cases a;exact PySem.EqNone.eq_str_none (yh I q (by simp))
  | bl j=>cases a;exact PySem.EqMixed.eq_str_bool (yh I q (by simp))
  | int j=>obtain⟨b,rfl⟩:=a;exact PySem.EqMixed.eq_str_int (yh I q (by simp))
  | str j=>obtain⟨b,rfl⟩:=a;exact eq_str (yh I q zhF)
  | _=>exact absurd (show false=true from c) u6
 | byt i =>
  obtain⟨t,rfl⟩:=d
  cases y with
  | byt j=>obtain⟨b,rfl⟩:=a;exact W.eq_bytes (yh I q zg1)
  | _=>exact absurd (show false=true from c) u6
 | _=>cases y <;> exact absurd (show false=true from c) u6
def zm6:OpR X (compareOp .NotEq) rNe:=by
 intro e s σ H x y v u Q I d a h
 obtain⟨c,q⟩:=h
 cases x with
 | non =>
  cases d
  cases y with
  | non=>cases a;exact PySem.EqNone.ne_none_none (yh I q (by simp))
  | bl j=>cases a;exact PySem.EqNone.ne_none_bool (yh I q (by simp))
  | int j=>obtain⟨b,rfl⟩:=a;exact PySem.EqNone.ne_none_int (yh I q (by simp))
  | str j=>obtain⟨b,rfl⟩:=a;exact PySem.EqNone.ne_none_str (yh I q (by simp))
  | _=>exact absurd (show false=true from c) u6
 | bl i =>
  cases d
  cases y with
  | non=>cases a;exact PySem.EqNone.ne_bool_none (yh I q (by simp))
  | bl j=>cases a;exact ne_bool (yh I q (u0q not zlR))
  | str j=>obtain⟨b,rfl⟩:=a;exact PySem.EqMixed.ne_bool_str (yh I q (by simp))
  | _=>exact absurd (show false=true from c) u6
 | int i =>
  obtain⟨t,rfl⟩:=d
  cases y with
  | non=>cases a;exact PySem.EqNone.ne_int_none (yh I q (by simp))
  | int j=>obtain⟨b,rfl⟩:=a;exact ne_int (yh I q (u0q not zdR))
  | str j=>obtain⟨b,rfl⟩:=a;exact PySem.EqMixed.ne_int_str (yh I q (by simp))
  | _=>exact absurd (show false=true from c) u6
 | str i =>
  obtain⟨t,rfl⟩:=d
  cases y with
  | non=>cases a;exact PySem.EqNone.ne_str_none (yh I q (by simp))
  | bl j=>cases a;exact PySem.EqMixed.ne_str_bool (yh I q (by simp))
  | int j=>obtain⟨b,rfl⟩:=a;exact PySem.EqMixed.ne_str_int (yh I q (by simp))
  | str j=>obtain⟨b,rfl⟩:=a;exact ne_str (yh I q (u0q not zhF))
  | _=>exact absurd (show false=true from c) u6
 | byt i =>
  obtain⟨t,rfl⟩:=d
  cases y with
  | byt j=>obtain⟨b,rfl⟩:=a;exact W.ne_bytes (yh I q (u0q not zg1))
  | _=>exact absurd (show false=true from c) u6
 | _=>cases y <;> exact absurd (show false=true from c) u6
def zow:OpR X (compareOp .Lt) (rI0 λi j=>.bl (decide (i<j))):=zqP λ_ _ _ _ _ _ _ q=>lt_int q
def zg7:OpR X (compareOp .LtE) (rI0 λi j=>.bl (decide (i<=j))):=zqP λ_ _ _ _ _ _ _ q=>le_int q
def zoI:OpR X (compareOp .Gt) (rI0 λi j=>.bl (decide (j<i))):=zqP λ_ _ _ _ _ _ _ q=>gt_int q
def zoy:OpR X (compareOp .Is) (λx y H Q=>y=.non/\Q (.bl (decide (x=.non))) H):=by
 intro a s σ H x y v u Q I b c h
 obtain⟨rfl,q⟩:=h
 cases c
 refine is_none_gen (yh I q ?_)
 cases x <;> first
  | (cases b;rfl)
  | (obtain⟨t,rfl⟩:=b;rfl)
def zmk:OpR X (compareOp .IsNot) (λx y H Q=>y=.non/\Q (.bl (!decide (x=.non))) H):=by
 intro a s σ H x y v u Q I b c h
 obtain⟨rfl,q⟩:=h
 cases c
 refine isnot_none_gen (yh I q ?_)
 cases x <;> first
  | (cases b;rfl)
  | (obtain⟨t,rfl⟩:=b;rfl)
def OpR.or {f:Value->Value->Sem Value}{r b:R2}(h:OpR X f r)(e:OpR X f b):OpR X f (λx y H Q=>r x y H Q\/b x y H Q):=by
 intro a s σ H x y v u Q I c d q
 rcases q with q | q
 .exact h a s σ H x y v u Q I c d q
 .exact e a s σ H x y v u Q I c d q
def zb9 (b:Expr){a:CmpOp}(h:a≠.In:=by decide)(c:a≠.NotIn:=by decide):behindInMarks a b=false:=by
 have e:(a == CmpOp.In)=false:=by cases a <;> first | rfl | exact absurd rfl h
 have d:(a == CmpOp.NotIn)=false:=by cases a <;> first | rfl | exact absurd rfl c
 cases b <;> simp[behindInMarks,e,d]
def zgV (g:OpR X (compareOp d) r)(f:PE X a ta)(k:PE X b tb)(j:behindInMarks d b=false):PE X (.Compare a [d] [b] pos) (tOp r ta tb):=by
 intro c s σ H Q I h
 exact wpAny_Compare1 (zq8 f k I h λv u i x y H2 I2 e l q=>g c i σ H2 x y v u Q I2 e l q) j
def zmX (t:TE):TT:=fun σ H Q=>t σ H λx H'=>∃ k,x=.bl k/\Q k H'
def zim {f:CmpOp}(l:OpR X (compareOp f) r)(j:PE X a ta)(p:PE X b tb)(n:behindInMarks f b=false):PT X (.Compare a [f] [b] pos) (zmX (tOp r ta tb)):=by
 intro d s σ H Q I h
 refine wpAny_isTrue_Compare1 (thn (j d s σ H _ I h) λv q ⟨x,H1,I1,w,i⟩=>thn (p d q σ H1 _ I1 i) λu m ⟨y,H2,I2,g,t⟩ =>
  thn (l d m σ H2 x y v u _ I2 w g t) λc B ⟨z,H3,I3,o,k,e,A⟩=>?_) n
 subst e
 cases o
 exact l9 ⟨H3,I3,A⟩
def zjb (r a:R2)(ta tb tc:TE):TE:=fun σ H Q=>ta σ H λx H1=>tb σ H1 λy H2=>r x y H2 λz H3=>∃ k,z=.bl k /\
 (if k=true then tc σ H3 λb H4=>a y b H4 Q else Q (.bl false) H3)
def zjV {g:CmpOp}(J:OpR X (compareOp i) r)(j:OpR X (compareOp g) l)(G:PE X a ta)(B:PE X b tb)(E:PE X c tc)(A:lastMarks [i,g] [b,c]=false:=by with_unfolding_all rfl):PE X (.Compare a [i,g] [b,c] pos) (zjb r l ta tb tc):=by
 intro f s σ H Q I h
 refine Compare_chain (thn (G f s σ H _ I h) λv C ⟨x,H1,I1,D,p⟩=>chain_link (thn (B f C σ H1 _ I1 p) λu q ⟨y,H2,I2,n,L⟩ =>
  thn (J f q σ H2 x y v u _ I2 D n L) λd M ⟨z,H3,I3,K,k,e,m⟩=>?_)) A
 subst e
 cases K
 refine l9 ?_
 cases k with
 | false=>exact ite_ff ⟨.bl false,H3,I3,rfl,m⟩
 | true=>exact ite_tt (chain_last (thn (E f M σ H3 _ I3 m) λt N ⟨w,H4,I4,o,F⟩=>j f N σ H4 y w u t Q I4 n o F))
def zfv {b:zx}{a:zt}(r:yl b a):(!a.toArray.isEmpty)=!b.isEmpty:=by
 cases r <;> simp
def WR:(sizeLine:Nat)<2^63:=by rw[u1d];decide
def zfk:OpR X (binaryOp .Add) (λx y H Q=>∃ i j,x=.str i/\y=.str j/\i.length+j.length<=sizeLine/\Q (.str (i++j)) H):=by
 intro a s σ H x y v u Q I b d h
 obtain⟨i,j,rfl,rfl,e,q⟩:=h
 obtain⟨t,rfl⟩:=b
 obtain⟨c,rfl⟩:=d
 exact add_str (λc tk=>⟨.str (i++j),H,I.tok _,⟨_,rfl⟩,q⟩) e
def zbN {a:zt}(r:yl [x] a):∃ u,a=[u]/\y2 x u:=by
 cases r with
 | cons c b=>cases b;exact⟨_,rfl,c⟩
def zfD {a:zt}(r:yl [x,y] a):∃ u b,a=[u,b]/\y2 x u/\y2 y b:=by
 cases r with
 | cons e c =>
  cases c with
  | cons f d=>cases d;exact⟨_,_,rfl,e,f⟩
def ziC (d:X.calm=true):Xl X (.builtin "max") (λc H Q=>∃ i j,c=[.int i,.int j]/\Q (.int (if j>i then j else i)) H):=by
 intro b s σ H c e Q I r h
 obtain⟨i,j,rfl,q⟩:=h
 obtain⟨u,f,rfl,⟨t,rfl⟩,⟨l,rfl⟩⟩:=zfD r
 refine max_two_ints (I.ok.hd d) λg tk k=>⟨_,H,I.kept k,?_,q⟩
 by_cases a:j>i
 .rw[u9 a,u9 a];exact⟨_,rfl⟩
 .rw[t9 a,t9 a];exact⟨_,rfl⟩
def ziX (d:X.calm=true):Xl X (.builtin "min") (λc H Q=>∃ i j,c=[.int i,.int j]/\Q (.int (if j<i then j else i)) H):=by
 intro b s σ H c e Q I r h
 obtain⟨i,j,rfl,q⟩:=h
 obtain⟨u,f,rfl,⟨t,rfl⟩,⟨l,rfl⟩⟩:=zfD r
 refine min_two_ints (I.ok.hd d) λg tk k=>⟨_,H,I.kept k,?_,q⟩
 by_cases a:j<i
 .rw[u9 a,u9 a];exact⟨_,rfl⟩
 .rw[t9 a,t9 a];exact⟨_,rfl⟩
end
structure zqM (h:Heap) (x dx C:Addr) (mA:w1):Prop where
 obj:h.get? x=some (W.instObj C dx)
 ns:h.Ns1 dx mA
 ne:dx≠x
def zh1 {h:Heap}{g:w1}(n:h.Ns1 i g):∃ f,h.get? i=some f/\∀ b,W.lookIn b f=some (g b):=by
 obtain⟨o,d,s,j,p,m,_,k⟩:=n
 refine⟨o,j,λb=>?_⟩
 have e:=k b
 unfold nsFind findBy at e
 rw[<-Array.find?_toList]at e
 unfold W.lookIn
 rw[p]
 dsimp only
 split
 .rename_i y q
  rw[q]at e
  exact u0q some e
 .rename_i q
  rw[q]at e
  have a:d.toList.any (·.refKey)=false:=by
   rw[u25]
   intro y l
   obtain⟨z,t,c⟩:=m y (Array.mem_toList_iff.mp l)
   simp[DictEntry.refKey,c]
  have r:¬ d.toList.any (·.refKey)=true:=by rw[a];exact u6
  rw[t9 r]
  exact u0q some e
def zqM.look {d:w1}(I:zqM h x c C d):∃ b,PySem.W.InstAt h x (W.instObj C c) C (some b)/\∀ a,W.lookIn a b=some (d a) :=
 let ⟨b,ho,hl⟩:=zh1 I.ns
 ⟨b,⟨I.obj,rfl,rfl,ho⟩,hl⟩
def zh4.some_of (r:zh4 (some v) o):∃ u,o=some u/\y2 v u:=by
 cases o with
 | none=>exact(show False from r).elim
 | some u=>exact⟨u,rfl,r⟩
section
variable {P:zH}{w:World}{H H':Hp}{h h':Heap}{a C dx:Addr}{fs fs':List (Str × V)}
def znk (c:HOk P w H h)(e:H a=some (.ins C dx fs)):∃ b,zqM h a dx C b/\(∀ f,zh4 (fs.lookup f) (b f))/\PySem.Within b (fs.map (·.1))/\fs.length<=1000/\H dx=some (.own a):=by
 obtain⟨d,z,g,i,b,n,r,q⟩:=(show yQ P w H h a (.ins C dx fs)from c a _ e)
 exact⟨b,⟨i,n,g⟩,r,q,z,d⟩
end
structure Cls (K:zz) (C:Addr):Prop where
 pg:W.plainGet K C Str.empty=true
 hd:W.hasDictIn K C=true
 po:W.plainOver K C=true
 sa:W.findIn K (.ref C) "__setattr__"=some (some (.builtin "object.__setattr__"))
def Cls.get {K:zz}{C:Addr}(c:Cls K C)(f:Str):W.plainGet K C f=true:=c.pg
section
variable {X:Cx}{pins:xn}{σ:St}{H:Hp}{s:zj}{A:zI}{E:yL}{Q:yL}{c:Value}{b:Bool}
inductive zew (K:zz) (H:Hp):V->Value->Prop where
 | non:zew K H .non (.type "NoneType")
 | bl (x:Bool):zew K H (.bl x) (.type "bool")
 | int (i:Int):zew K H (.int i) (.type "int")
 | str (x:Str):zew K H (.str x) (.type "str")
 | flt (x:UInt64):zew K H (.flt x) (.type "float")
 | lst {a:Addr} {xs:zx} (e:H a=some (.lst xs)):zew K H (.ref a) (.type "list")
 | frz {a:Addr} {o:Obj} {xs:zx} (e:H a=some (.frz o (.lst xs))):zew K H (.ref a) (.type "list")
 | tup {a:Addr} {xs:zx} (e:H a=some (.tup xs)):zew K H (.ref a) (.type "tuple")
 | dK {a:Addr} {kvs:List (Key × V)} (e:H a=some (.dK kvs)):zew K H (.ref a) (.type "dict")
 | dT {a:Addr} {kvs:zbP} (e:H a=some (.dT kvs)):zew K H (.ref a) (.type "dict")
 | ins {a C dx:Addr} {fs:List (Str × V)} (e:H a=some (.ins C dx fs)) (cl:Cls K C) (ha:W.findIn K (.ref C) "__class__"=some (some (.builtin "object.__class__")))
  (hn:W.specialIn K (.builtin "object.__class__") "__get__"=some (some (.builtin "getset_descriptor.__get__"))) (htk:W.takesIn K (.builtin "object.__class__")=some true)
  (hm:W.mroIn K C (.type "object")=some true):zew K H (.ref a) (.ref C)
def zgz {t:Value}(I:Inv X pins σ H s)(f:y2 x u)(ty:zew X.K H x t)(e:W.kitOne X.K t c=some b)(h:∀ tk,Q (.bool b) { s with toks:=tk }) :
 wpAny (model X.prog X.w) A (call (.builtin "isinstance") [u,c]) Q E s:=by
 cases ty with
 | non=>cases (show u=Value.none from f);exact l6 W.kitx_none I.kIn True.intro e (λz=>nomatch z) h
 | bl y=>cases (show u=Value.bool y from f);exact l6 W.kitx_bool I.kIn True.intro e (λz=>nomatch z) h
 | int i=>obtain⟨t,q⟩:=(show ∃ t,u=Value.int i t from f);cases q;exact l6 W.kitx_int I.kIn True.intro e (λz=>nomatch z) h
 | str y=>obtain⟨t,q⟩:=(show ∃ t,u=Value.str y t from f);cases q;exact l6 W.kitx_str I.kIn True.intro e (λz=>nomatch z) h
 | flt y=>obtain⟨t,q⟩:=(show ∃ t,u=Value.float y t from f);cases q;exact l6 W.kitx_float I.kIn True.intro e (λz=>nomatch z) h
 | @lst a k d =>
  cases (show u=Value.ref a from f)
  obtain⟨_,_,n,_,g⟩:=(show yQ X.prog X.w H s.heap a (.lst k)from I.hok a _ d)
  exact l6 W.kitx_list I.kIn ⟨_,g,rfl⟩ e (λz=>nomatch z) h
 | @frz a G k d =>
  cases (show u=Value.ref a from f)
  obtain⟨_,_,_,n,_,g⟩:=(show yQ X.prog X.w H s.heap a (.frz G (.lst k))from I.hok a _ d)
  exact l6 W.kitx_list I.kIn ⟨_,g,rfl⟩ e (λz=>nomatch z) h
 | @tup a k d =>
  cases (show u=Value.ref a from f)
  obtain⟨_,_,_,p⟩:=(show yQ X.prog X.w H s.heap a (.tup k)from I.hok a _ d)
  obtain⟨o,g,l,_⟩:=p
  exact l6 W.kitx_tuple I.kIn ⟨o,g,l⟩ e (λz=>nomatch z) h
 | @dK a j d =>
  cases (show u=Value.ref a from f)
  obtain⟨_,_,N,_,p⟩:=(show yQ X.prog X.w H s.heap a (.dK j)from I.hok a _ d)
  obtain⟨o,D,B,g,l,_⟩:=p
  exact l6 u13 I.kIn ⟨o,g,l.1⟩ e (λz=>nomatch z) h
 | @dT a j d =>
  cases (show u=Value.ref a from f)
  obtain⟨_,_,k,_,o,D,B,g,l,_⟩:=(show yQ X.prog X.w H s.heap a (.dT j)from I.hok a _ d)
  exact l6 u13 I.kIn ⟨o,g,l.1⟩ e (λz=>nomatch z) h
 | @ins a C L M d r F v m w =>
  cases (show u=Value.ref a from f)
  obtain⟨K,O,_⟩:=znk I.hok d
  obtain⟨P,J,_⟩:=O.look
  exact l6 (W.kitx_own (r.get _) r.hd F v m w) I.kIn J e (λz=>nomatch z) h
end
structure x5 (k:Nat) (A:zI):Prop where
 hd:A.handled=none
 dp:A.depth+3*k+5<recursionLimit
 un:A.units+16*k+200<cLine
def x5.mono {j k:Nat}(r:x5 k A)(h:j<=k):x5 j A:=⟨r.hd,by have:=r.dp;omega,by have:=r.un;omega⟩
def x5.deeper {k:Nat}{A:zI}(r:x5 (k+1) A)(env:Env):x5 k (A.deeper env) :=
 ⟨r.hd,by have:=r.dp;show A.depth+1+3*k+5<_;omega,by have:=r.un;show A.units+3+16*k+200<_;omega⟩
def x5.in1 {k:Nat}{A:zI}(r:x5 (k+1) A):x5 k A.in1 :=
 ⟨r.hd,by have:=r.dp;show A.depth+3*k+5<_;omega,by have:=r.un;show A.units+1+16*k+200<_;omega⟩
def x5.depth {k:Nat}{A:zI}(r:x5 k A):A.depth<recursionLimit:=by have:=r.dp;omega
def x5.units {k:Nat}{A:zI}(r:x5 k A):A.units+64<cLine:=by have:=r.un;omega
def x5.units0 {k:Nat}{A:zI}(r:x5 k A):A.units<cLine:=by have:=r.un;omega
def zlQ:TA:=λ_ H Q=>Q [] H
def Vp (ta:TE)(a:TA):TA:=fun σ H Q=>ta σ H λx H1=>a σ H1 λb H2=>Q (x::b) H2
section
variable {X:Cx}{e:Expr}{es:xK}{te:TE}{t:TA}{pos:Pos}
def yJ:PA X [] zlQ:=λ_ _ _ _ H Q I h=>u0V ⟨[],H,I,.nil,h⟩
def zu (d:PE X e te)(l:PA X es t)(k:starEach (e::es) X.env=(false,eval e X.env)::starEach es X.env:=by rfl):PA X (e::es) (Vp te t):=by
 intro pos a s σ H Q I h
 rw[k]
 show wpAny _ _ (spliced ((false,eval e X.env)::backTo pos (starEach es X.env))) _ _ s
 refine u0Q (thn (d a s σ H _ I h) λu f hh9=>?_)
 obtain⟨x,H1,I1,j,c⟩:=hh9
 exact thn (l pos a f σ H1 _ I1 c) λm n ⟨g,H2,I2,b,i⟩=>⟨x::g,H2,I2,.cons j b,i⟩
def tTup (t:TA):TE:=fun σ H Q=>t σ H λa H1=>a.length<=sizeLine/\∀ p,H1 p=none->Q (.ref p) (upd H1 p (.tup a))
def zrf (t:TA):TE:=fun σ H Q=>t σ H λa H1=>a.length<=sizeLine/\∀ p,H1 p=none->Q (.ref p) (upd H1 p (.lst a))
def zn2 {x1}(h:PA X es t):PE X (.Tuple es x1 pos) (tTup t):=by
 intro a s σ H Q I hq
 refine wpAny_Tuple_spliced (thn (h pos a s σ H _ I hq) λd c ⟨g,H1,I1,r,z,q⟩=>⟨by rw[<-r.length];exact z,?_⟩)
 have f:H1 c.heap.objs.size=none:=I1.hok.fresh (t7 _)
 refine⟨.ref c.heap.objs.size,upd H1 c.heap.objs.size (.tup g),I1.laid (t':=c.toks) (λb u e=>u5 _ e) (t7 _) ?_,rfl,q _ f⟩
 exact⟨z,d,r,⟨_,q7 _ rfl,rfl,_,rfl⟩⟩
def zbF (h:PA X es t):PE X (.List es pos) (zrf t):=by
 intro a s σ H Q I hq
 refine wpAny_List_spliced (thn (h pos a s σ H _ I hq) λd c ⟨g,H1,I1,r,z,q⟩=>⟨by rw[<-r.length];exact z,?_⟩)
 have f:H1 c.heap.objs.size=none:=I1.hok.fresh (t7 _)
 refine⟨.ref c.heap.objs.size,upd H1 c.heap.objs.size (.lst g),I1.laid (t':=c.toks) (λb u e=>u5 _ e) (t7 _) ?_,rfl,q _ f⟩
 exact⟨z,d,0,r,q7 _ rfl⟩
end
abbrev Sp:=zx->Hp->VK->XK->Prop
abbrev CXT:=List Env->Hp->Shared->XK->Value->Shared->Prop
structure zoJ (P:zH) (w:World) (K:zz) (mg:w1) (base:Heap) (A:zI) (outer:List Env) (s:zj) (H:Hp):Prop where
 frames:A.frames=some outer
 mod:Mod K mg base
 bs:Bs base s.heap H
 bsz:base.objs.size<=s.heap.objs.size
 funs:s.heap.FunFrames base outer
 frf:∀ b∈frs outer,H b=none
 hok:HOk P w H s.heap
 bare:AllBare s.gens
def CE (outer:List Env)(P:zH)(w:World)(H:Hp)(s:zj)(Q:VK)(u:Value)(a:zj):Prop :=
 ∃ v H',a.os=s.os/\AllBare a.gens/\Un (frs outer) [] H H' s.heap a.heap/\HOk P w H' a.heap/\y2 v u/\Q v H'
def CR (CX:CXT)(outer:List Env)(P:zH)(w:World)(H:Hp)(s:zj)(Q:VK)(E:XK)(r:Result)(a:zj):Prop :=
 match r with
 | .ok (.ret u)=>CE outer P w H s Q u a
 | .ok _=>False
 | .error e=>CX outer H s E e a
structure vU (P:zH) (w:World) (K:zz) (mg:w1) (base:Heap) (CX:CXT) (k:Nat) (f:Addr) (fd:XQ) (ps:zJ) (sp:Sp):Prop where
 len:∀ vs H Q E,sp vs H Q E->vs.length=ps.length
 run:∀ (A:zI) (outer:List Env) (s:zj) (H:Hp) (args:Args) (us:zt) (vs:zx) (Q:VK) (E:XK),x5 k A->zoJ P w K mg base A outer s H->BindsTo s fd args (ps.zip us)->yl vs us->sp vs H Q E ->
  codeAny (model P w) A (.call (.ref f) args) (CR CX outer P w H s Q E) s
def vU.mono {P:zH}{w:World}{K:zz}{c:w1}{a:Heap}{CX:CXT}{j k:Nat}{f:Addr}{b:XQ}{ps:zJ}{d:Sp}(F:vU P w K c a CX j f b ps d)(h:j<=k) :
 vU P w K c a CX k f b ps d:=⟨F.len,λA outer s H args e g Q E i=>F.run A outer s H args e g Q E (i.mono h)⟩
def vU.imp {P:zH}{w:World}{K:zz}{e:w1}{a:Heap}{CX:CXT}{k:Nat}{f:Addr}{d:XQ}{g:zJ}{i c:Sp}(F:vU P w K e a CX k f d g i)
 (h:∀ b H Q E,c b H Q E->i b H Q E):vU P w K e a CX k f d g c :=
 ⟨λb H Q E q=>F.len b H Q E (h _ _ _ _ q),λA outer s H args j b Q E p o l n m=>F.run A outer s H args j b Q E p o l n (h _ _ _ _ m)⟩
section
variable {X:Cx}{pins:xn}{σ:St}{H:Hp}{s s':zj}
def Inv.env0 (I:Inv X pins σ H s):zoJ X.prog X.w X.K X.mg X.base X.A X.stack s H :=
 ⟨I.ok.frames,I.ok.mod,I.bs,o5 I.ok.bsz I.sz,I.stack,I.stkFree,I.hok,I.bare⟩
def Inv.after (I:Inv X pins σ H s)(h:CE X.stack X.prog X.w H s Q u s'):EP X pins σ Q u s':=by
 obtain⟨v,H',os,a,f,c,r,q⟩:=h
 obtain⟨i,g,d,t,e⟩:=s'
 obtain rfl:e=s.os:=os
 exact⟨v,H',I.call (h':=i) (g':=g) (d':=d) (t':=t) (ch:=[]) f c a (λb z=>absurd z (by simp)),r,q⟩
end
def zny (b:Sp)(a:zx)(E:XK)(t:TA):TE:=fun σ H Q=>t σ H λc H1=>b (c++a) H1 Q E
def VQ (K:zz)(d:XQ)(b:zJ)(c:zt):Prop :=
 ∀ (s:zj) (a:zt),K.In s.heap->(a++c).length=b.length->BindsTo s d ⟨a,[]⟩ (b.zip (a++c))
def VQ.all {K:zz}{d:XQ}{b:zJ}(h:∀ a:zt,a.length=b.length->bindArgs d ⟨a,[]⟩=pure (b.zip a)):VQ K d b []:=λs a _ c=>by
 rw[f6]at c ⊢
 exact .of_eq (h a c)
def Xs (CX:CXT)(X:Cx)(E:XK):Prop:=∀ (a:xn) (σ:St) (H:Hp) (s:zj) (e:Value) (b:zj),Inv X a σ H s->CX X.stack H s E e b->X.xe e b
section
variable {X:Cx}{CX:CXT}{k:Nat}{f C:Addr}{fd:XQ}{ps:zJ}{sp:Sp}{dvs:zx}{ds:zt}{E:XK}{x m:Str}{p pos apos:Pos}{e o:Expr}{es:xK}{ta:TE}{t:TA}
def zpw (F:vU X.prog X.w X.K X.mg X.base CX k f fd ps sp)(o:x5 k X.A)(i:VQ X.K fd ps ds)(m:yl dvs ds)(n:Xs CX X E)(I:Inv X a σ H s)(r:yl c b)(h:sp (c++dvs) H Q E):wpAny (model X.prog X.w) X.A (call (.ref f) b) (EP X a σ Q) X.xe s:=by
 have d:yl (c++dvs) (b++ds):=r.append m
 have j:(b++ds).length=ps.length:=by rw[<-d.length];exact F.len _ _ _ _ h
 refine u3w (u2d (F.run X.A X.stack s H ⟨b,[]⟩ (b++ds) (c++dvs) Q E o I.env0 (i s b I.kIn j) d h) λr l hq=>?_)
 cases r with
 | error e=>exact n a σ H s e l I hq
 | ok g =>
  cases g with
  | ret u=>exact I.after hq
  | next=>exact False.elim hq
  | brk=>exact False.elim hq
  | cont=>exact False.elim hq
def zc9 (F:vU X.prog X.w X.K X.mg X.base CX k f fd ps sp)(u:x5 k X.A)(j:Gl X x)(g:X.mg x=some (.ref f))(l:W.keepIn X.K (.ref f)=true)(i:VQ X.K fd ps ds)(n:yl dvs ds)(o:Xs CX X E)
 (d:PA X (e::es) t) (b:(x == ("__debug__":Str))=false:=by decide) (m:starEach (e::es) X.env=(false,eval e X.env)::starEach es X.env:=by rfl) (c:(backTo pos (starEach es X.env)).any (·.1)=false:=by rfl) :
 PE X (.Call (.Name x p) (e::es) [] pos) (zny sp dvs E t):=by
 intro a s σ H Q I h
 refine u0G (XM I j g ?_ b)
 refine W.callWith_K (h₀:=X.base) I.ok.mod.kin l (thn (d pos a s σ H _ I h) λv y ⟨w,H1,I1,r,q⟩=>⟨I1.kIn,?_⟩) m c
 exact zpw F u i n o I1 r q
end
structure wv (N P:zJ) (sc:Scope):Prop where
 kind:sc.kind=.function
 co:sc.isCoroutine=false
 gen:sc.isGenerator=false
 nd:N.Nodup
 pre:N.take P.length=P
 par:∀ x∈P,sc.names.lookup x=some .local\/sc.names.lookup x=some .cell
 nofree:∀ y∈sc.names,y.2≠.free
def zct:∀ {a:List (Str × Value)} {m:w1},(∀ v,(x,v)∉a)->bindL b a m x=m x
 | [],_,_=>rfl
 | (n,v)::r,m,h=>by
  unfold bindL
  rw[zct λw hw=>h w (o7 _ hw)]
  split
  .have:x≠n:=by rintro rfl;exact h v l5
   simp[this]
  .rfl
def zcZ:∀ {a:List (Str × Value)} {m:w1},(∀ v,(x,v)∉a)->bindC b a m x=m x
 | [],_,_=>rfl
 | (n,v)::r,m,h=>by
  unfold bindC
  rw[zcZ λw hw=>h w (o7 _ hw)]
  split
  .rfl
  .have:x≠n:=by rintro rfl;exact h v l5
   simp[this]
def zch {a:Str->Option NameKind}:∀ {P:zJ} {b:zt} {i:Nat} {m:w1},P.Nodup->P[i]?=some x->b[i]?=some v->a x=some .local ->
 bindL a (P.zip b) m x=some v
 | [],_,_,_,_,h,_,_=>by simp at h
 | _::_,[],_,_,_,_,h,_=>by simp at h
 | p::P,w::b,0,m,nd,h1,h2,hk=>by
  simp at h1 h2;subst h1;subst h2
  show bindL a ((p,w)::P.zip b) m p=_
  unfold bindL
  rw[zct λv c=>(f7.mp nd).1 (u1J c).1,u9 hk]
  simp
 | p::P,w::b,i+1,m,nd,h1,h2,hk=>by
  show bindL a ((p,w)::P.zip b) m x=_
  unfold bindL
  exact zch (i:=i) (f7.mp nd).2 (by simpa using h1) (by simpa using h2) hk
def zcp {a:Str->Option NameKind}:∀ {P:zJ} {b:zt} {i:Nat} {m:w1},P.Nodup->P[i]?=some x->b[i]?=some v->a x≠some .local ->
 bindC a (P.zip b) m x=some v
 | [],_,_,_,_,h,_,_=>by simp at h
 | _::_,[],_,_,_,_,h,_=>by simp at h
 | p::P,w::b,0,m,nd,h1,h2,hk=>by
  simp at h1 h2;subst h1;subst h2
  show bindC a ((p,w)::P.zip b) m p=_
  unfold bindC
  rw[zcZ λv c=>(f7.mp nd).1 (u1J c).1,t9 hk]
  simp
 | p::P,w::b,i+1,m,nd,h1,h2,hk=>by
  show bindC a ((p,w)::P.zip b) m x=_
  unfold bindC
  exact zcp (i:=i) (f7.mp nd).2 (by simpa using h1) (by simpa using h2) hk
def start (N:zJ)(a:zx):St:=a.map some++List.replicate (N.length-a.length) none
def Wl (CX:CXT)(P:zH)(w:World)(K:zz)(mg:w1)(base:Heap)(N:zJ)(qual:Str)(scope:Scope)(f:Addr)(cd:Value)(A:zI)(outer:List Env)(s:zj)(H:Hp)(E:XK):Cx where
 prog:=P
 w:=w
 K:=K
 mg:=mg
 base:=base
 A:=A.deeper (envOfC qual scope s.heap.objs.size f cd)
 N:=N
 s₀:=s
 H₀:=H
 env:=envOfC qual scope s.heap.objs.size f cd
 outer:=outer
 stack:=envOfC qual scope s.heap.objs.size f cd::outer
 ex:=[]
 calm:=true
 fn:=λ_=>true
 pn:=[]
 xe:=λe s'=>wpAny (model P w) (A.deeper (envOfC qual scope s.heap.objs.size f cd)) (leaving (envOfC qual scope s.heap.objs.size f cd) e) (λ_ s''=>CX outer H s E e s'') (λe' s''=>CX outer H s E e' s'') s'
def zeg {sc:Scope}(h:sc.names.lookup x=some .cell):∃ c,(cellsFrom n sc.names []).lookup x=some c:=by
 have q:=u1W sc.names n [] (.inl h)
 exact u29.mp q
def zcU {CX:CXT}{P:zH}{w:World}{K:zz}{L:w1}{l:Heap}{N o:zJ}{g:Str}{d:Scope}{f:Addr}{J:Value}{A:zI}{outer:List Env}{s O:zj}{H:Hp}{E:XK}{M:zt}{C:zx}
 (S:wv N o d) (U:A.handled=none) (m:zoJ P w K L l A outer s H) (Z:C.length=o.length) (r:yl C M)
 (x:InCallC s s.heap.objs.size (bindL (envOfC g d s.heap.objs.size f J).kindOf (o.zip M) λ_=>none) (cellsFrom (s.heap.objs.size+1) d.names []) (bindC (envOfC g d s.heap.objs.size f J).kindOf (o.zip M) λ_=>none) O) :
 Inv (Wl CX P w K L l N g d f J A outer s H E) [] (start N C) H O:=by
 have X:o.length<=N.length:=by have:=u0q List.length S.pre;rw[u0t]at this;omega
 obtain⟨I,tk,rfl,Q⟩:=x.done
 have B:∀ b:Addr,b∉(Wl CX P w K L l N g d f J A outer s H E).ex:=λb z=>absurd (show b∈([]:xx)from z) (by simp)
 refine⟨⟨m.mod,S.kind,rfl,rfl,t7 _,λy z c I j=>?_,λy t=>?_,λy c _ h=>?_,λ_=>U,Around.frames_deeper m.frames,.inr ⟨rfl,rfl⟩,λb z=>absurd z (B b),m.bs,m.bsz,λb _ _=>B b,λb z=>absurd z (B b),m.funs,m.frf⟩,
  rfl,m.bare,Un.kept Q,⟨_,x.toInCall.ns,λi y v I j Y=>?_⟩,λy c h=>⟨_,x.cell y c h⟩,m.hok.fresh (t7 _),λy c h=>?_,λp D=>absurd (show p∈([]:xn)from D) (by simp),m.hok.kept Q,?_⟩
 .exact name_of_addr x.apart (p7 I) (p7 j)
 .have t:d.names.lookup y=some .cell\/d.names.lookup y=some .free:=t
  rcases t with t | t
  .exact zeg t
  .exact absurd rfl (S.nofree _ (p7 t))
 .exact u0k (x.above y c (p7 h))
 .have G:i<C.length:=by
   unfold start at j
   by_cases G:i<C.length
   .exact G
   .rw[e9 (by simpa using G)]at j
    rw[i5]at j
    split at j <;> cases j
  have W:C[i]?=some v:=by
   unfold start at j
   rw[u0b (by simpa using G),q0]at j
   cases e:C[i]? with
   | none=>rw[e]at j;cases j
   | some a=>rw[e]at j;cases j;rfl
  obtain⟨u,R,T⟩:=r.get W
  have D:o[i]?=some y:=by
   rw[<-S.pre,List.getElem?_take_of_lt (by omega)];exact I
  have F:o.Nodup:=by rw[<-S.pre];exact S.nd.sublist (List.take_sublist _ _)
  refine⟨u,T,?_⟩
  rcases S.par y (j4 D)with k | k
  .exact .inl ⟨k,zch F D R k⟩
  .obtain⟨c,e⟩:=zeg (n:=s.heap.objs.size+1) k
   refine .inr ⟨.inl k,c,e,?_⟩
   have q:=x.cell y c e
   rw[zcp F D R (by show d.names.lookup y≠_;rw[k];decide)]at q
   exact q
 .exact m.hok.fresh (u0k (x.above y c (p7 h)))
 .unfold start
  show _=N.length
  rw[j5,u4,f8]
  omega
def zmS {w:World}{K:zz}{g:Heap}{k:Nat}{f:Addr}{kV D:Value}{N G:zJ}{O:Sp}(lk:K.lookup f=some ⟨oc,od,.func (PySem.W.fnOf j c h body a Z kV D X an d ct),T⟩)(U:PySem.W.codeIn K d c=true)(S:wv N G a)(C:∀ i H Q E,O i H Q E->i.length=G.length) (m:∀ (A:zI) (outer:List Env) (s:zj) (H:Hp) (i:zx) (Q:VK) (E:XK),x5 k (A.deeper (envOfC c a s.heap.objs.size f d))->O i H Q E ->
 ∃ t,PSs (Wl CX P w K F g N c a f d A outer s H E) body t/\t { nx:=λ_ H'=>Q .non H',rt:=Q } (start N i) H) :
 vU P w K F g CX (k+1) f (PySem.W.fnOf j c h body a Z kV D X an d ct) G O:=by
 refine⟨C,λA outer s H args us i Q E W B hb r z=>?_⟩
 have hl:=C _ _ _ _ z
 have KX:K.In s.heap:=B.mod.kin.keeps λb o e=>(B.bs.1 b o e).1
 have lim:s.heap.NoLimit:=B.mod.nolimit.keeps λb o e=>(B.bs.1 b o e).1
 have l:∀ y∈G.zip us,a.names.lookup y.1=some .local\/(a.names.lookup y.1=some .cell/\((cellsFrom (s.heap.objs.size+1) a.names []).lookup y.1).isSome=true):=λ⟨n,v⟩ hy=>by
  rcases S.par n (u1J hy).1 with q | q
  .exact .inl q
  .exact .inr ⟨q,u1W _ _ _ (.inl q)⟩
 refine codeAny_call_function W.depth (KX _ _ lk) rfl S.co S.gen rfl (PySem.W.codeRec_of KX U) (hb _ _ _ _ ?_)
 refine wpAny_newFunctionEnv_cells S.kind l λenv he Y x=>?_
 subst he
 refine⟨lim.keeps x.toInCall.keep,codeAny_func ?_⟩
 obtain⟨t,ht,hq⟩:=m A outer s H i Q E (W.deeper _) z
 have I:Inv (Wl CX P w K F g N c a f d A outer s H E) [] (start N i) H Y:=zcU S W.hd B hl r x
 refine p8 (ht [] Y (start N i) H _ I hq) (λfl R p=>?_) λe R p=>p
 have fin:∀ {L:St} {H':Hp} {v:V} {u:Value},Inv (Wl CX P w K F g N c a f d A outer s H E) [] L H' R->y2 v u->Q v H'->CE outer P w H s Q u R :=
  λ{L H' v u} J M q=>⟨v,H',J.os,J.bare,J.base,J.hok,M,q⟩
 cases fl with
 | ret u =>
  obtain⟨v,L,H',J,M,q⟩:=p
  exact fin J M q
 | next =>
  obtain⟨L,H',J,q⟩:=p
  exact fin (v:=V.non) (u:=Value.none) J rfl q
 | brk =>
  obtain⟨_,_,_,q⟩:=p
  exact False.elim q
 | cont =>
  obtain⟨_,_,_,q⟩:=p
  exact False.elim q
section
variable {X:Cx}{x:Str}{p pos:Pos}{e:Expr}{es:xK}{t:TA}{id T:String}{r:zfL}
def tCB (r:zfL)(t:TA):TE:=fun σ H Q=>t σ H λa H1=>r a H1 Q
def yy (d:Xl X (.builtin id) r) (n:Gl X x) (l:X.mg x=none) (u:bootBuiltins x=some (.builtin id)) (j:PA X (e::es) t) (i:x≠"__name__":=by decide) (b:(x == ("__debug__":Str))=false:=by decide)
 (q:starEach (e::es) X.env=(false,eval e X.env)::starEach es X.env:=by rfl) (c:(backTo pos (starEach es X.env)).any (·.1)=false:=by rfl):PE X (.Call (.Name x p) (e::es) [] pos) (tCB r t):=by
 intro a s σ H Q I h
 refine u0G (vp I n l u ?_ i b)
 exact PyProof.Rows.callWith_builtin1 (thn (j pos a s σ H _ I h) λf m ⟨k,H1,I1,o,g⟩=>d a m σ H1 k f Q I1 o g) q c
def zhu (d:Xl X (.type T) r) (n:Gl X x) (l:X.mg x=none) (u:bootBuiltins x=some (.type T)) (j:PA X (e::es) t) (i:x≠"__name__":=by decide) (b:(x == ("__debug__":Str))=false:=by decide)
 (q:starEach (e::es) X.env=(false,eval e X.env)::starEach es X.env:=by rfl) (c:(backTo pos (starEach es X.env)).any (·.1)=false:=by rfl):PE X (.Call (.Name x p) (e::es) [] pos) (tCB r t):=by
 intro a s σ H Q I h
 refine u0G (vp I n l u ?_ i b)
 exact o8 (thn (j pos a s σ H _ I h) λf m ⟨k,H1,I1,o,g⟩=>d a m σ H1 k f Q I1 o g) q c
end
end L2
namespace HT
open PySem PyProof.Rows
def lexLt:zc->zc->Bool
 | [],[]=>false
 | [],_::_=>true
 | _::_,[]=>false
 | x::xs,y::ys=>if x=y then lexLt xs ys else decide (x<y)
def lexLt_cons (x y:Int)(b a:zc):lexLt (x::b) (y::a)=if x=y then lexLt b a else decide (x<y):=rfl
def zaZ:lexLt [] []=false:=rfl
def V3 (y:Int)(a:zc):lexLt [] (y::a)=true:=rfl
def VS (x:Int)(a:zc):lexLt (x::a) []=false:=rfl
def ze6 (A:zI)(s:zj)(a:Int)(t:Tok)(c:Int)(u:Tok):∃ e,SeqAt.EqAt A s (.int a t) (.int c u) e/\(e=true↔a=c) :=
 ⟨(a == c),u1O a t c u,by simp⟩
def zkX (A:zI)(s:zj)(a:Int)(t:Tok)(c:Int)(u:Tok)(b:zH)(w:World)(E:yL)(Q:yL)(h:Q (.bool (decide (a<c))) s) :
 wpAny (model b w) A (richCompare .Lt (.int a t) (.int c u)) Q E s :=
 (PyProof.Rows.lt_int h:wpAny (model b w) A (compareOp .Lt (.int a t) (.int c u)) Q E s)
section
open PySem.SeqAt
open PySem.AutoSeq1 (wpAny_loadPart')
open PySem.MeetsSeq PySem.MeetsSeq2 PySem.MeetsSeq3
theorem zbg (l b:Addr)(i f:zP)(n V:Nat)(U N:x4)(T M:Array (Option Value))(I G:zc)(O:IntsAre i.toList I)(Q:IntsAre f.toList G) :
 Meets (Builtin.«tuple.__lt__» ⟨[.ref l,.ref b],[]⟩)
  (λ_ R s=>s.heap.get? l=some { cls:=.type "tuple",dict:=U,data:=.seq i n,slots:=T }/\s.heap.get? b=some { cls:=.type "tuple",dict:=N,data:=.seq f V,slots:=M } /\
   R (.ok (.ret (.bool (lexLt I G)))) s) :=
 .of_wp λv w A R s h=>by
  obtain⟨J,g,d,tk,os⟩:=s;obtain⟨W,S,h⟩:=h
  have f2:=AutoSeq1.sub_tuple_tuple
  have Y:i.size=I.length:=by rw[<-O.length];simp
  have Z:f.size=G.length:=by rw[<-Q.length];simp
  wp_walk using u0d W,u0d S,wpAny_forIn_list _ (λrest b K=>b.1=none/\K=⟨J,g,d,tk,os⟩/\∃ (H F:zt) (m k:zc),rest=H.zip F /\
   IntsAre H m/\IntsAre F k/\m.length+f.size=k.length+i.size/\R (.ok (.ret (.bool (lexLt m k)))) ⟨J,g,d,tk,os⟩) _
  case turn =>
   rintro⟨y,x⟩ rest b K ⟨C,rfl,H,F,m,k,p,B,o,j,z⟩
   cases B with
   | nil=>rw[List.zip_nil_left]at p;cases p
   | cons a t E =>
    cases o with
    | nil=>rw[u2U]at p;cases p
    | cons c u D =>
     rw[u0S]at p
     injection p with hyx hrest
     injection hyx with hy hx
     subst hy hx
     rw[lexLt_cons]at z
     simp only[k4]at j
     obtain⟨e,X,r⟩:=ze6 A.in1 ⟨J,g,d,tk,os⟩ a t c u
     refine u3 (X v w _ _ ?_)
     cases e with
     | true =>
      rw[u9 (r.mp rfl)]at z
      wp_walk
      exact⟨rfl,rfl,_,_,_,_,hrest,E,D,by omega,z⟩
     | false =>
      rw[t9 (λq=>absurd (r.mpr q) u6)]at z
      have L:=zkX A.in1 ⟨J,g,d,tk,os⟩ a t c u v w
      wp_walk using L
      exact⟨_,rfl,by simpa using z⟩
  case fin =>
   rintro⟨b1,b2⟩ K ⟨C,rfl,H,F,m,k,p,B,o,j,z⟩
   simp only at C
   subst C
   have P:lexLt m k=decide (i.size < f.size):=by
    cases B with
    | nil =>
     cases o with
     | nil =>
      simp only[u0X]at j
      rw[zaZ]
      exact(j8 (by omega)).symm
     | cons c u hw =>
      simp only[u0X,k4]at j
      rw[V3]
      exact(j0 (by omega)).symm
    | cons a t P =>
     cases o with
     | nil =>
      simp only[u0X,k4]at j
      rw[VS]
      exact(j8 (by omega)).symm
     | cons c u hw =>
      rw[u0S]at p
      cases p
   rw[P]at z
   wp_walk
   exact⟨_,rfl,by simpa [Builtin.Tuple.tupleCompareSizes]using z⟩
  case h =>
   exact⟨rfl,rfl,i.toList,f.toList,I,G,rfl,O,Q,by omega,h⟩
end
section
variable {prog:zH}{w:World}{A:zI}{E:yL}{s:zj}
def lt_tupInts {items items2:zP}{Q:yL}(v:IsTup s.heap l items)(q:IsTup s.heap b items2)(y:IntsAre items.toList c)(r:IntsAre items2.toList a)(B:A.units<cLine)(h:Q (.bool (lexLt c a)) s):wpAny (model prog w) A (compareOp .Lt (.ref l) (.ref b)) Q E s:=by
 obtain⟨⟨cls,u,data,t⟩,m,k,n,p⟩:=id v
 obtain⟨⟨o,j,i,g⟩,d,e,z,f⟩:=id q
 simp only at k p e f
 subst k p e f
 exact richCompare_meets_room (op:=.Lt) ⟨_,m,rfl⟩ ⟨_,d,rfl⟩ PySem.F.slot_tuple_lt PySem.F.entry_tuple_lt (PySem.F.args_tuple_lt_2 _ _) (zbg l b items items2 n z u j t g c a y r)
  ⟨m,d,show Value.bool (lexLt c a)≠Value.notImplemented/\Q (.bool (lexLt c a)) s from⟨(λx=>nomatch x),h⟩⟩ B
def cat_tup {t:Addr} {d a:zt} {Q:yL} (y:IsTup s.heap t d.toArray) (z:IsTup s.heap b a.toArray) (v:d≠[]) (B:a=[]->Q (.ref t) s) (x:a≠[]->Q (.ref s.heap.objs.size) { s with heap:=s.heap.push { cls:=.type "tuple",data:=.seq (d++a).toArray } }) (l:d.length+a.length<=sizeLine):wpAny (model prog w) A (binaryOp .Add (.ref t) (.ref b)) Q E s:=by
 obtain⟨⟨cls,q,data,p⟩,j,m,n,r⟩:=id y
 obtain⟨⟨o,h,k,f⟩,c,i,u,g⟩:=id z
 simp only at m r i g
 subst m r i g
 have e:d.toArray++a.toArray=(d++a).toArray:=by simp
 by_cases hw:a=[]
 .exact concat_meets ⟨_,j,rfl⟩ ⟨_,c,rfl⟩ noFill_tuple_add seq_tuple_add u1V u1N (u1A _ _)
   (tuple_addW1 t b d.toArray a.toArray n u q h p f (by simpa using v) (by simp[hw])) ⟨j,c,B hw⟩
 .refine concat_meets ⟨_,j,rfl⟩ ⟨_,c,rfl⟩ noFill_tuple_add seq_tuple_add u1V u1N (u1A _ _)
   (tuple_addW2 t b d.toArray a.toArray n u q h p f (by simpa using v) (by simpa using hw) (by rw[t8,t8];exact l)) ⟨j,c,?_⟩
  rw[e]
  exact x hw
def sIx (n d:Nat):zX->Nat
 | none=>d
 | some v=>if v<0 then (v+(n:Int)).toNat else min v.toNat n
def sIx_none (n d:Nat):sIx n d none=d:=rfl
def sIx_nat (n d k:Nat):sIx n d (some (k:Int))=min k n:=by
 show(if (k:Int)<0 then ((k:Int)+(n:Int)).toNat else min (k:Int).toNat n)=min k n
 rw[t9 (by omega),u1e]
def zoH (n d:Nat)(b:d<=n)(o:zX):sIx n d o<=n:=by
 cases o with
 | none=>exact b
 | some v =>
  show(if v<0 then (v+(n:Int)).toNat else min v.toNat n)<=n
  by_cases a:v<0
  .rw[u9 a];omega
  .rw[t9 a];exact u3k _ _
def zhQ (v:Int)(n d:Nat):(if v<0 then max (v+(n:Int)) 0 else min v (n:Int))=((sIx n d (some v):Nat):Int):=by
 show(if v<0 then max (v+(n:Int)) 0 else min v (n:Int))=(((if v<0 then (v+(n:Int)).toNat else min v.toNat n):Nat):Int)
 by_cases a:v<0
 .simp only[u9 a];omega
 .simp only[t9 a];omega
def zfh (a b:zX)(n:Nat):Builtin.Slice.sliceAdjust a b 1 (n:Int)=(((sIx n 0 a:Nat):Int),((sIx n n b:Nat):Int)):=by
 have c:¬ ((1:Int)<0):=by omega
 unfold Builtin.Slice.sliceAdjust
 simp only[c,u3v]
 refine u2v ?_ ?_
 .cases a with
  | none=>rfl
  | some v=>exact zhQ v n 0
 .cases b with
  | none=>rfl
  | some v=>exact zhQ v n n
def zfA (i j:Nat):Builtin.Slice.slicePlaces (i:Int) (j:Int) 1=j-i:=by
 unfold Builtin.Slice.slicePlaces
 have a:(1:Int)>0:=by omega
 simp only[a,u14,Int.ediv_one]
 split <;> omega
def zab {Q:zX->Shared->Prop}(p:IsPart v o)(h:Q o s):wpAny (model prog w) A (Builtin.Slice.slicePartIndex v) Q E s:=by
 cases p with
 | none=>exact slicePart_none h
 | int i t=>exact slicePart_int h
def Yt {g:Addr}{f:Value}{Q:Int × Int × Nat->Shared->Prop}(k:s.heap.IsSliceOf g e f .none)(l:IsPart e a)(i:IsPart f b)(h:Q (((sIx n 0 a:Nat):Int),1,sIx n n b-sIx n 0 a) s):wpAny (model prog w) A (Builtin.Slice.sliceApplied (.ref g) (pure (n:Int))) Q E s:=by
 obtain⟨os,c,j,d⟩:=id k
 unfold Builtin.Slice.sliceApplied Builtin.Slice.sliceFields
 refine u3 (u3 (u0j c d (x:=e) rfl (u3 (u0j c d (x:=f) rfl (u3 (u0j c d (x:=.none) rfl (t0 ?_)))))))
 refine u3 (slicePart_none ?_)
 show wpAny _ _ (if ((1:Int) == 0)=true then _ else _) _ _ s
 rw[t9 (by decide)]
 refine u3 (zab l (u3 (zab i (u3 (t0 ?_)))))
 show wpAny _ _ (match Builtin.Slice.sliceAdjust a b 1 (n:Int)with | (a,b)=>pure (a,(1:Int),Builtin.Slice.slicePlaces a b 1)) _ _ s
 rw[zfh a b n]
 show wpAny _ _ (pure (((sIx n 0 a:Nat):Int),(1:Int),Builtin.Slice.slicePlaces ((sIx n 0 a:Nat):Int) ((sIx n n b:Nat):Int) 1)) _ _ s
 rw[zfA]
 exact t0 h
def zkv (a:zP)(i k:Nat):((List.range k).filterMap λ(m:Nat)=>a[((i:Int)+(m:Int)*1).toNat]?).toArray=((a.toList.drop i).take k).toArray:=by
 have e:(λ(m:Nat)=>a[((i:Int)+(m:Int)*1).toNat]?)=λm=>a[i+m]?:=by
  funext m
  have:((i:Int)+(m:Int)*1).toNat=i+m:=by omega
  rw[this]
 rw[e]
 have:=pick_run a i k
 rw[List.filterMap_map]at this
 have b:((λx=>a[x]?)∘λx=>i+x)=λm=>a[i+m]?:=rfl
 rw[b]at this
 rw[this]
def getItem_tuple_cut {t:Addr} {a:zP} {Q:yL} (e:IsTup s.heap t a) (l:s.heap.IsSliceOf i n o .none) (v:IsPart n c) (r:IsPart o d) (hw:¬ (sIx a.size 0 c=0/\sIx a.size a.size d=a.size)) (h:Q (.ref s.heap.objs.size) { s with heap:=s.heap.push { cls:=.type "tuple",data:=.seq ((a.toList.drop (sIx a.size 0 c)).take (sIx a.size a.size d-sIx a.size 0 c)).toArray } }) (p:a.size<=sizeLine):wpAny (model prog w) A (getItem (.ref t) (.ref i)) Q E s:=by
 have b:sizeOk (.seq ((a.toList.drop (sIx a.size 0 c)).take (sIx a.size a.size d-sIx a.size 0 c)).toArray):=by
  show((a.toList.drop (sIx a.size 0 c)).take (sIx a.size a.size d-sIx a.size 0 c)).toArray.size<=sizeLine
  rw[t8,u0t,u0O,u0h]
  omega
 have y:sIx a.size a.size d<=a.size:=zoH _ _ (t7 _) d
 obtain⟨os,j,f,u⟩:=id l
 have k:s.TypeIs (.ref i) "slice":=⟨os,j,f⟩
 unfold getItem
 try with_reducible refine i0 ?_
 first | refine u3 (t0 ?_) | skip
 refine u3 (wpAny_sequenceKey e.typeIs (by decide) ?_)
 refine u3 (i9 (name:=Str.ofString "__getitem__") e.typeIs l4
  (u0H l4 e.typeIs entry_tuple_getitem ?_ (args_tuple_getitem _ _)))
 show wpAny _ _ (Builtin.Tuple.tupleItemsOf (.ref t)>>=_) _ _ s
 refine u3 (tupleItemsOf_ e ?_)
 refine u3 (u2e k ?_)
 rw[u9 (by decide)]
 refine u3 (Yt l v r ?_)
 have g:¬ ((((sIx a.size 0 c:Nat):Int) == 0&&(1:Int) == 1&&(sIx a.size a.size d-sIx a.size 0 c) == a.size)=true):=by
  intro q
  rw[r4,r4]at q
  have x:((sIx a.size 0 c:Nat):Int)=0:=eq_of_beq q.1.1
  have z:sIx a.size a.size d-sIx a.size 0 c=a.size:=eq_of_beq q.2
  exact hw ⟨by omega,by omega⟩
 show wpAny _ _ (if (((sIx a.size 0 c:Nat):Int) == 0&&(1:Int) == 1&&(sIx a.size a.size d-sIx a.size 0 c) == a.size)=true then _ else _) _ _ s
 rw[t9 g,zkv]
 first
  | exact u3 (m:=Builtin.Tuple.tupleExact _) (u0l (t0 ⟨_,rfl,t0 h⟩) b)
  | exact u3 (m:=Builtin.Tuple.tupleExact _) (u0l (u3 (t0 (t0 ⟨_,rfl,t0 h⟩))) b)
  | exact u3 (u3 (m:=Builtin.Tuple.tupleExact _) (u0l (t0 (t0 ⟨_,rfl,t0 h⟩)) b))
  | exact u3 (u3 (m:=Builtin.Tuple.tupleExact _) (u0l (t0 ⟨_,rfl,t0 h⟩) b))
end
end HT
namespace L2
open PySem PySem.Spec PyProof.Rows
abbrev TO:=St->Hp->(zX->Hp->Prop)->Prop
def PO (X:Cx)(e:Option Expr)(t:TO):Prop :=
 ∀ (a:xn) (s:zj) (σ:St) (H:Hp) (Q:zX->Hp->Prop),Inv X a σ H s->t σ H Q ->
  wpAny (model X.prog X.w) X.A (evalPart e X.env) (λu b=>∃ o H',Inv X a σ H' b/\IsPart u o/\Q o H') X.xe s
def zmM:TO:=λ_ H Q=>Q none H
def zqL (t:TE):TO:=fun σ H Q=>t σ H λx H1=>∃ i,x=.int i/\Q (some i) H1
def XI {b:zc}:∀ {a:zt},yl (b.map V.int) a->IntsAre a b:=by
 induction b with
 | nil=>intro a r;rw[u2S]at r;cases r;exact .nil
 | cons n b f =>
  intro a r
  rw[r6]at r
  cases r with
  | cons d c =>
   obtain⟨t,e⟩:=d
   subst e
   exact .cons n t (f c)
section
variable {X:Cx}{e:Expr}{te:TE}{lo hi:Option Expr}{tl th:TO}{pos p2:Pos}
def znt:PO X none zmM:=by
 intro a s σ H Q I h
 rw[evalPart_none]
 exact t0 ⟨none,H,I,.none,h⟩
def zmR (h:PE X e te):PO X (some e) (zqL te):=by
 intro a s σ H Q I hw
 rw[evalPart_some]
 refine thn (h a s σ H _ I hw) λu d hh9=>?_
 obtain⟨x,H1,I1,c,b⟩:=hh9
 obtain⟨i,rfl,q⟩:=b
 obtain⟨t,rfl⟩:=c
 exact⟨some i,H1,I1,.int i t,q⟩
def SlR (X:Cx)(r:V->zX->zX->Hp->VK->Prop):Prop :=
 ∀ (a:xn) (s:zj) (σ:St) (H:Hp) (x:V) (v c d:Value) (lo hi:zX) (b:Addr) (Q:VK),Inv X a σ H s->y2 x v->s.heap.IsSliceOf b c d .none->IsPart c lo->IsPart d hi->r x lo hi H Q ->
  ∃ T id,typeLookup (.type T) "__getitem__"=pure (some (.builtin id))/\s.TypeIs v T/\wpAny (model X.prog X.w) X.A (getItem v (.ref b)) (EP X a σ Q) X.xe s
def SlR.or {r b:V->zX->zX->Hp->VK->Prop}(h:SlR X r)(k:SlR X b):SlR X (λx lo hi H Q=>r x lo hi H Q\/b x lo hi H Q):=by
 intro a s σ H x v i j lo hi d Q I c f g e q
 rcases q with q | q
 .exact h a s σ H x v i j lo hi d Q I c f g e q
 .exact k a s σ H x v i j lo hi d Q I c f g e q
def tSl (r:V->zX->zX->Hp->VK->Prop)(te:TE)(tl th:TO):TE:=fun σ H Q=>te σ H λx H1=>tl σ H1 λl H2=>th σ H2 λu H3=>r x l u H3 Q
def zd5 (C:SlR X r)(y:PE X e te)(p:PO X lo tl)(B:PO X hi th):PE X (.Subscript e (.Slice lo hi none p2) pos) (tSl r te tl th):=by
 intro a s σ H Q I h
 refine Subscript_ (thn (y a s σ H _ I h) λv k hh9=>?_)
 obtain⟨x,H1,I1,m,g⟩:=hh9
 refine wpAny_Slice (thn (p a k σ H1 _ I1 g) λd i ⟨l,H2,I2,A,t⟩=>thn (B a i σ H2 _ I2 t) λf c hh9=>?_)
 obtain⟨u,H3,I3,w,n⟩:=hh9
 rw[evalPart_none]
 refine t0 ?_
 have I4:Inv X a σ H3 { c with heap:=c.heap.push { cls:=.type "slice",data:=.fields #[d,f,.none] } }:=I3.kept (t':=c.toks) λb D q=>u5 _ q
 obtain⟨T,id,z,j,o⟩:=C a { c with heap:=c.heap.push { cls:=.type "slice",data:=.fields #[d,f,.none] } } σ H3 x v d f l u c.heap.objs.size Q I4 m (Heap.IsSliceOf.new ..) A w n
 show wpAny (model X.prog X.w) X.A (subscriptTail e (.Slice lo hi none p2) v (.ref c.heap.objs.size)) (EP X a σ Q) X.xe { c with heap:=c.heap.push { cls:=.type "slice",data:=.fields #[d,f,.none] } }
 exact tail_any (ops:=[.ref c.heap.objs.size,v]) j z o (by with_unfolding_all rfl)
def zdr (a:zx)(lo hi:zX):zx:=(a.drop (HT.sIx a.length 0 lo)).take (HT.sIx a.length a.length hi-HT.sIx a.length 0 lo)
def Vx (a:zx)(lo hi:zX):(zdr a lo hi).length<=a.length:=by
 unfold zdr
 rw[u0t,u0O]
 omega
def rSlT (K:zz):V->zX->zX->Hp->VK->Prop:=λx lo hi H Q=>∃ a b,x=.ref a/\SqT K H a b /\
 ¬ (HT.sIx b.length 0 lo=0/\HT.sIx b.length b.length hi=b.length)/\∀ p,H p=none->Q (.ref p) (upd H p (.tup (zdr b lo hi)))
def zpy:SlR X (rSlT X.K):=by
 intro f s σ H x v u w lo hi t Q I j l n k h
 obtain⟨a,d,rfl,m,hw,q⟩:=h
 cases j
 obtain⟨e,r,g,i⟩:=I.tuple m
 have c:e.toArray.size=d.length:=by rw[t8];exact r.length.symm
 refine⟨"tuple",_,l4.lookup,g.typeIs,?_⟩
 refine HT.getItem_tuple_cut g l n k (by rw[c];exact hw) ?_ (by rw[c];exact i)
 rw[c]
 refine⟨.ref s.heap.objs.size,_,I.laid (t':=s.toks) (o:=.tup (zdr d lo hi)) (λb p q=>u5 _ q) (t7 _) ?_,rfl,q _ (I.hok.fresh (t7 _))⟩
 exact⟨o5 (Vx d lo hi) i,_,(r.drop (HT.sIx d.length 0 lo)).take (HT.sIx d.length d.length hi-HT.sIx d.length 0 lo),IsTup.new _ _⟩
def zro (K:zz):R2:=λx y H Q=>∃ a b d c,x=.ref a/\y=.ref b/\SqT K H a d/\SqT K H b c/\d≠[]/\d.length+c.length<=sizeLine /\
 (c=[]->Q (.ref a) H)/\(c≠[]->∀ p,H p=none->Q (.ref p) (upd H p (.tup (d++c))))
def yl.nil_iff (r:yl b a):a=[]↔b=[]:=by
 cases r with
 | nil=>simp
 | cons _ _=>simp
def znE:OpR X (binaryOp .Add) (zro X.K):=by
 intro e s σ H x y v u Q I k t h
 obtain⟨a,b,n,B,rfl,rfl,l,m,A,f,i,p⟩:=h
 cases k
 cases t
 obtain⟨j,d,r,_⟩:=I.tuple l
 obtain⟨g,c,p2,_⟩:=I.tuple m
 refine HT.cat_tup r p2 (λz=>A (d.nil_iff.mp z)) (λz=>⟨.ref a,H,I,rfl,i (c.nil_iff.mp z)⟩) (λz=>?_) (by rw[<-d.length,<- c.length];exact f)
 refine⟨.ref s.heap.objs.size,_,I.laid (t':=s.toks) (o:=.tup (n++B)) (λb C q=>u5 _ q) (t7 _) ?_,rfl,p (λw=>z (c.nil_iff.mpr w)) _ (I.hok.fresh (t7 _))⟩
 exact⟨by rw[j5];exact f,_,d.append c,IsTup.new _ _⟩
end
def ixN (n:Nat)(i:Int):Option Nat:=if 0<=i then (if i<n then some i.toNat else none)else if -(n:Int)<=i then some (i+n).toNat else none
def atI {α:Type}(a:List α)(i:Int):Option α:=(ixN a.length i).bind λj=>a[j]?
def zha (h:ixN n i=some j):seqIndex? i n=some j/\j<n/\-(n:Int)<=i/\i<n:=by
 unfold ixN at h
 by_cases b:0<=i
 .rw[u9 b]at h
  by_cases a:i<n
  .rw[u9 a]at h
   have e:i.toNat=j:=g0 h
   exact⟨by rw[seqIndex_of b a,e],by omega,by omega,a⟩
  .rw[t9 a]at h;cases h
 .rw[t9 b]at h
  by_cases a:-(n:Int)<=i
  .rw[u9 a]at h
   have e:(i+n).toNat=j:=g0 h
   exact⟨by rw[seqIndex_neg (by omega) a,e],by omega,a,by omega⟩
  .rw[t9 a]at h;cases h
def zbl {α:Type}{a:List α}{i:Int}{v:α}(h:atI a i=some v):∃ j,seqIndex? i a.length=some j/\a[j]?=some v/\j<a.length/\-(a.length:Int)<=i/\i<a.length:=by
 unfold atI at h
 cases e:ixN a.length i with
 | none=>rw[e]at h;cases h
 | some j =>
  rw[e]at h
  obtain⟨f,b,c,d⟩:=zha e
  exact⟨j,f,h,b,c,d⟩
def zgp {α:Type}{a:List α}{j:Nat}{v:α}(h:a[j]?=some v):atI a (j:Int)=some v:=by
 have b:j<a.length:=(t5.mp h).1
 have e:ixN a.length (j:Int)=some j:=by
  unfold ixN
  rw[u9 (by omega),u9 (by omega)];simp
 unfold atI;rw[e];exact h
def zbk (b:Expr):Prop:=∀ o i,subscripted b false o i=operate [o,i] (getItem o i)
def IxR (X:Cx)(r:R2):Prop :=
 ∀ (c a:Expr) (b:xn) (s:zj) (σ:St) (H:Hp) (x y:V) (v u:Value) (Q:VK),Inv X b σ H s->y2 x v->y2 y u->r x y H Q ->
  subscripted a false v u=operate [v,u] (getItem v u)->wpAny (model X.prog X.w) X.A (subscriptTail c a v u) (EP X b σ Q) X.xe s
def MtR (X:Cx)(id:String)(r:V->zx->Hp->VK->Prop):Prop :=
 ∀ (a:xn) (s:zj) (σ:St) (H:Hp) (x:V) (c:zx) (v:Value) (b:zt) (Q:VK),Inv X a σ H s->y2 x v->yl c b->r x c H Q ->
  wpAny (model X.prog X.w) X.A (call (.builtin id) (v::b)) (EP X a σ Q) X.xe s
section
variable {X:Cx}{a b:Expr}{ta tb:TE}{pos:Pos}
def IxR.or {r d:R2}(h:IxR X r)(i:IxR X d):IxR X (λx y H Q=>r x y H Q\/d x y H Q):=by
 intro a b c s σ H x y v u Q I e f q g
 rcases q with q | q
 .exact h a b c s σ H x y v u Q I e f q g
 .exact i a b c s σ H x y v u Q I e f q g
def zqf (k:IxR X r)(e:PE X a ta)(g:PE X b tb)(j:zbk b):PE X (.Subscript a b pos) (tOp r ta tb):=by
 intro c s σ H Q I h
 exact Subscript_ (zq8 e g I h λv u f x y H2 I2 d i q=>k a b c f σ H2 x y v u Q I2 d i q (j _ _))
def rIxL (K:zz):R2:=λx y H Q=>∃ p a i v,x=.ref p/\y=.int i/\SqL K H p a/\atI a i=some v/\Q v H
def rIxT (K:zz):R2:=λx y H Q=>∃ p a i v,x=.ref p/\y=.int i/\SqT K H p a/\atI a i=some v/\Q v H
def rIxS:R2:=λx y H Q=>∃ z i c,x=.str z/\y=.int i/\z.length<=sizeLine/\atI z.cps.toList i=some c/\Q (.str ⟨#[c]⟩) H
def zmK:IxR X (rIxL X.K):=by
 intro d g a s σ H x y v u Q I B F h n
 obtain⟨p,L,i,z,rfl,rfl,hq,E,q⟩:=h
 cases B
 obtain⟨t,rfl⟩:=F
 obtain⟨c,r,k,M⟩:=I.list hq
 obtain⟨j,b,o,J,C,G⟩:=zbl E
 obtain⟨w,l,f⟩:=r.get o
 have D:=r.length
 have K:=WR
 have fin:EP X a σ Q w s:=⟨z,H,I,f,q⟩
 by_cases m:0<=i
 .have e:i.toNat=j:=by
   rw[seqIndex_of m G]at b
   exact g0 b
  exact item_listR k.isList m (by omega) (by rw[e];simpa using l) fin n
 .have e:(i+(c.toArray.size:Int)).toNat=j:=by
   rw[seqIndex_neg (by omega) C]at b
   rw[t8,<- D]
   exact g0 b
  exact u1X (x:=w) k.isList.typeIs slot_list_getitem.lookup
   (wpAny_getItem_list_neg (Q:=λr A=>r=w/\EP X a σ Q r A) k.isList (by omega) (by rw[t8] <;> omega) (by omega) (by rw[e];simpa using l) ⟨rfl,fin⟩) n
def zpZ:IxR X (rIxT X.K):=by
 intro b d a s σ H x y v u Q I o C h m
 obtain⟨p,G,i,z,rfl,rfl,hq,B,q⟩:=h
 cases o
 obtain⟨t,rfl⟩:=C
 obtain⟨k,r,e,J⟩:=I.tuple hq
 obtain⟨j,n,f,D,F,K⟩:=zbl B
 obtain⟨w,g,c⟩:=r.get f
 have A:=r.length
 have E:=WR
 have fin:EP X a σ Q w s:=⟨z,H,I,c,q⟩
 exact u1X (x:=w) e.typeIs slot_tuple_getitem.lookup
  (getItem_tuple (j:=j) (Q:=λr l=>r=w/\EP X a σ Q r l) e (by omega) (by omega) (by rw[t8,<- A];exact n) (by simpa using g) ⟨rfl,fin⟩) m
def zpu:IxR X rIxS:=by
 intro a b d s σ H x y v u Q I g p h r
 obtain⟨z,i,c,rfl,rfl,C,o,q⟩:=h
 obtain⟨t,rfl⟩:=g
 obtain⟨D,rfl⟩:=p
 obtain⟨j,e,f,B,k,w⟩:=zbl o
 have m:z.cps.toList.length=z.length:=by simp[Str.length]
 rw[m]at e k w
 have A:=WR
 exact tail_any (typeIs_str s z t) slot_str_getitem.lookup (getItem_str (c:=c) (by
  have l:decide (i < -(2^63:Int))=false:=j8 (by omega)
  have n:decide (i >= 2^63)=false:=j8 (by omega)
  rw[l,n,u3a]) (by rw[e];simpa using f) ⟨.str ⟨#[c]⟩,H,I.tok _,⟨_,rfl⟩,q⟩) r
def rIx (K:zz):R2:=λx y H Q=>rIxL K x y H Q\/rIxT K x y H Q\/rIxS x y H Q
def zn3:IxR X (rIx X.K):=zmK.or (zpZ.or zpu)
def ze9 (a:zt) (n j:Nat) (u:Value):Obj.mapSeq (·.setIfInBounds j u) { cls:=.type "list",data:=.seq a.toArray n }={ cls:=.type "list",data:=.seq (a.set j u).toArray n }:=by
 simp[Obj.mapSeq]
def Inv.lst {b:xn}{σ:St}{H:Hp}{s:zj}{p:Addr}{c:zx}(I:Inv X b σ H s)(h:H p=some (.lst c)) :
 ∃ (a:zt) (n:Nat),yl c a/\s.heap.get? p=some { cls:=.type "list",data:=.seq a.toArray n }/\c.length<=sizeLine:=by
 obtain⟨z,a,n,r,e⟩:=I.hok p _ h
 exact⟨a,n,r,e,z⟩
def Inv.lstUpd {H:Hp} {s:zj} {i:zx} {d a:zt} {g:Nat} {f:Obj->Obj} (I:Inv X c σ H s) (h:H p=some (.lst m)) (k:s.heap.get? p=some { cls:=.type "list",data:=.seq d.toArray n }) (j:f { cls:=.type "list",data:=.seq d.toArray n }={ cls:=.type "list",data:=.seq a.toArray g }) (r:yl i a) (o:i.length<=sizeLine) (t:Nat) :
 Inv X c σ (upd H p (.lst i)) { s with heap:=s.heap.update p f,toks:=t }:=by
 have e:(s.heap.update p f).get? p=some { cls:=.type "list",data:=.seq a.toArray g }:=by
  rw[u0R f k (by rw[j] <;> rfl),j]
 refine I.write (x:=p) (e:=p) (by rw[h];trivial) (.inl rfl) (λb u l q=>(g3 _ _ (u0p l)).trans q) ⟨_,e⟩ ?_
 exact⟨o,a,g,r,e⟩
def zqZ:V->V->V->Hp->(Hp->Prop)->Prop:=λo i v H Q=>∃ p a k j,o=.ref p/\i=.int k/\H p=some (.lst a)/\ixN a.length k=some j/\Q (upd H p (.lst (a.set j v)))
def zkA:PSet X zqZ:=by
 intro b s σ H o i v F G u Q I z x y h
 obtain⟨p,B,k,j,rfl,rfl,w,A,q⟩:=h
 cases z
 obtain⟨t,rfl⟩:=x
 obtain⟨a,n,r,e,C⟩:=I.lst w
 obtain⟨c,D,g,m⟩:=zha A
 have f:=r.length
 have E:=WR
 have I':Inv X b σ (upd H p (.lst (B.set j v))) { s with heap:=s.heap.update p (Obj.mapSeq (·.setIfInBounds j u)) } :=
  I.lstUpd w e (ze9 a n j u) (r.set y j) (by rw[u0L];exact C) s.toks
 by_cases l:0<=k
 .have d:k.toNat=j:=by
   rw[seqIndex_of l m]at c
   exact g0 c
  exact W.ki_setAt e l (by omega) (by rw[t8,<- f];exact m) (by rw[d];exact⟨_,I',q⟩)
 .have d:(k+(a.toArray.size:Int)).toNat=j:=by
   rw[seqIndex_neg (by omega) g]at c
   rw[t8,<- f]
   exact g0 c
  exact W.ki_setBack e (by omega) (by rw[t8,<- f];exact g) (by omega) (by rw[d];exact⟨_,I',q⟩)
def zbI (a b:zX)(n:Nat):(sliceBounds a b none n).1=((HT.sIx n 0 a:Nat):Int)/\(sliceBounds a b none n).2.1=((HT.sIx n n b:Nat):Int)/\(sliceBounds a b none n).2.2=1:=by
 refine⟨?_,?_,rfl⟩
 .cases a with
  | none=>simp[sliceBounds,HT.sIx]
  | some i =>
   simp only[sliceBounds,HT.sIx,Option.getD_none,show(1:Int)>0 by decide,u14]
   by_cases h:i<0
   .simp only[h,u14] <;> omega
   .simp only[h,u3v] <;> omega
 .cases b with
  | none=>simp[sliceBounds,HT.sIx]
  | some i =>
   simp only[sliceBounds,HT.sIx,Option.getD_none,show(1:Int)>0 by decide,u14]
   by_cases h:i<0
   .simp only[h,u14] <;> omega
   .simp only[h,u3v] <;> omega
def zbs (a:zt)(b c:zX):slicePick a.toArray b c none=((a.drop (HT.sIx a.length 0 b)).take (HT.sIx a.length a.length c-HT.sIx a.length 0 b)).toArray:=by
 obtain⟨e,d,f⟩:=zbI b c a.toArray.size
 unfold slicePick
 rw[e,d,f]
 simp only[sliceRange_one,pick_run,t8] <;> rfl
def rSlL (K:zz):V->zX->zX->Hp->VK->Prop:=λx c d H Q=>∃ a b,x=.ref a/\SqL K H a b/\∀ p,H p=none->Q (.ref p) (upd H p (.lst (zdr b c d)))
def zht:SlR X (rSlL X.K):=by
 intro g s σ H x v y z e f w Q I k n t l h
 obtain⟨a,c,rfl,p,q⟩:=h
 cases k
 obtain⟨j,r,i,m⟩:=I.list p
 have d:=r.length
 refine⟨"list",_,slot_list_getitem.lookup,i.isList.typeIs,?_⟩
 refine wpAny_getItem_list_slice i.isList n t l .none (by simp) ?_ (by rw[t8] <;> omega)
 rw[zbs,<- d]
 refine⟨.ref s.heap.objs.size,_,I.laid (t':=s.toks) (o:=.lst (zdr c e f)) (λb u q=>u5 _ q) (t7 _) ?_,rfl,q _ (I.hok.fresh (t7 _))⟩
 exact⟨o5 (Vx c e f) m,_,0,(r.drop (HT.sIx c.length 0 e)).take (HT.sIx c.length c.length f-HT.sIx c.length 0 e),q7 _ rfl⟩
def zni:V->Bool
 | .non=>true
 | .bl _=>true
 | .int _=>true
 | .str _=>true
 | _=>false
def eqV:V->V->Bool
 | .non,.non=>true
 | .bl a,.bl b=>a == b
 | .bl a,.int b=>(if a then 1 else 0) == b
 | .int a,.bl b=>a == (if b then 1 else 0)
 | .int a,.int b=>a == b
 | .str a,.str b=>a == b
 | _,_=>false
def zlj (e:y2 y u)(c:y2 x v)(g:zni y=true)(f:zni x=true):SeqAt.EqAt A s u v (eqV y x):=by
 cases y with
 | non =>
  cases e
  cases x with
  | non=>cases c;exact SeqAt.EqAt.same _
  | bl b=>cases c;exact SeqAt.EqAt.none_bool b
  | int b=>obtain⟨t,rfl⟩:=c;exact SeqAt.EqAt.none_int b t
  | str b=>obtain⟨t,rfl⟩:=c;exact SeqAt.EqAt.none_str b t
  | _=>exact absurd (show false=true from f) u6
 | bl a =>
  cases e
  cases x with
  | non=>cases c;exact SeqAt.EqAt.bool_none a
  | bl b=>cases c;exact SeqAt.EqAt.bool_bool a b
  | int b=>obtain⟨t,rfl⟩:=c;exact SeqAt.EqAt.bool_int a b t
  | str b=>obtain⟨t,rfl⟩:=c;exact SeqAt.EqAt.bool_str a b t
  | _=>exact absurd (show false=true from f) u6
 | int a =>
  obtain⟨d,rfl⟩:=e
  cases x with
  | non=>cases c;exact SeqAt.EqAt.int_none a d
  | bl b=>cases c;exact SeqAt.EqAt.int_bool a d b
  | int b=>obtain⟨t,rfl⟩:=c;exact u1O a d b t
  | str b=>obtain⟨t,rfl⟩:=c;exact SeqAt.EqAt.int_str a d b t
  | _=>exact absurd (show false=true from f) u6
 | str a =>
  obtain⟨d,rfl⟩:=e
  cases x with
  | non=>cases c;exact SeqAt.EqAt.str_none a d
  | bl b=>cases c;exact SeqAt.EqAt.str_bool a d b
  | int b=>obtain⟨t,rfl⟩:=c;exact SeqAt.EqAt.str_int a d b t
  | str b=>obtain⟨t,rfl⟩:=c;exact SeqAt.EqAt.str_str a d b t
  | _=>exact absurd (show false=true from f) u6
 | _=>exact absurd (show false=true from g) u6
def YM:Xl X (.builtin "len") (λg H Q=>∃ p b,g=[.ref p]/\(SqL X.K H p b\/SqT X.K H p b)/\Q (.int b.length) H):=by
 intro f s σ H g k Q I r h
 obtain⟨p,b,rfl,hq,q⟩:=h
 obtain⟨u,rfl,i⟩:=zbN r
 cases i
 have l:=WR
 rcases hq with hq | hq
 .obtain⟨d,c,e,j⟩:=I.list hq
  have a:=c.length
  exact Calls.call_len_list e.isList (by simp only[t8] <;> omega) ⟨.int b.length,H,I.tok _,⟨s.toks+1,by rw[t8,a]⟩,q⟩
 .obtain⟨d,c,e,j⟩:=I.tuple hq
  have a:=c.length
  exact len_tuple e (by simp only[t8] <;> omega) ⟨.int b.length,H,I.tok _,⟨s.toks+1,by rw[t8,a]⟩,q⟩
def zbj:Xl X (.type "tuple") (λk H Q=>∃ p d,k=[.ref p]/\((SqL X.K H p d/\∀ l,H l=none->Q (.ref l) (upd H l (.tup d)))\/(SqT X.K H p d/\Q (.ref p) H))):=by
 intro a s σ H k v Q I r h
 obtain⟨p,d,rfl,h⟩:=h
 obtain⟨u,rfl,n⟩:=zbN r
 cases n
 rcases h with ⟨hq,q⟩ | ⟨hq,q⟩
 .obtain⟨c,g,i,m⟩:=I.list hq
  have j:=g.length
  refine call_tuple_list i.isList (λf t=>?_) (by simp only[t8] <;> omega)
  have I1:Inv X a σ H { s with heap:=f }:=I.kept (t':=s.toks) t
  have I2:Inv X a σ (upd H f.objs.size (.tup d)) { s with heap:=f.push { cls:=.type "tuple",data:=.seq c.toArray } } :=
   I1.laid (t':=s.toks) (λb o e=>u5 _ e) (t7 _) (show yQ X.prog X.w _ _ _ (.tup d) from⟨m,c,g,IsTup.new _ _⟩)
  exact⟨.ref f.objs.size,_,I2,rfl,q _ (I1.hok.fresh (t7 _))⟩
 .obtain⟨c,g,i,m⟩:=I.tuple hq
  exact call_tuple_same i ⟨.ref p,H,I,rfl,q⟩
def tyV (K:zz)(T:String)(x:V)(H:Hp):Prop:=match x with
 | .str _=>T="str"
 | .int _=>T="int"
 | .ref p=>(T="list"/\∃ b,SqL K H p b)\/(T="tuple"/\∃ o,K.lookup p=some o/\o.cls=.type "tuple"/\o.dict=none) \/
  (T="dict"/\((∃ a,H p=some (.dK a))\/∃ a,H p=some (.dT a)))\/(T="set"/\∃ S n,H p=some (.set S n))
 | _=>False
def zpQ {s:zj}(I:Inv X d σ H s)(r:y2 x v)(ty:tyV X.K T x H) :
 s.TypeIs v T/\∀ a,v=.ref a->∃ j,s.heap.get? a=some j/\j.dict=none:=by
 cases x with
 | str z =>
  obtain⟨t,rfl⟩:=r
  cases (show T="str" from ty)
  exact⟨typeIs_str s z t,λ_ e=>nomatch e⟩
 | int i =>
  obtain⟨t,rfl⟩:=r
  cases (show T="int" from ty)
  exact⟨typeIs_int s i t,λ_ e=>nomatch e⟩
 | ref p =>
  cases r
  rcases ty with ⟨rfl,q,hq⟩ | ⟨rfl,o,b,l,h⟩ | ⟨rfl,b⟩ | ⟨rfl,S,n,b⟩
  .obtain⟨m,_,k,_⟩:=I.list hq
   refine⟨k.isList.typeIs,λa e=>?_⟩
   cases e
   obtain⟨o,n,e,c,h,_⟩:=k
   exact⟨o,e,h⟩
  .refine⟨⟨o,I.kIn p o b,l⟩,λa e=>?_⟩
   cases e
   exact⟨o,I.kIn _ o b,h⟩
  .have z:∃ o,s.heap.get? p=some o/\o.ExactDict:=by
    rcases b with ⟨f,b⟩ | ⟨f,b⟩
    .obtain⟨_,_,_,_,o,_,_,e,ex,_⟩:=I.hok p _ b
     exact⟨o,e,ex⟩
    .obtain⟨_,_,_,_,o,_,_,e,ex,_⟩:=I.hok p _ b
     exact⟨o,e,ex⟩
   obtain⟨o,e,ex⟩:=z
   refine⟨⟨o,e,ex.1⟩,λa g=>?_⟩
   cases g
   exact⟨o,e,ex.2.1⟩
  .obtain⟨o,_,_,_,e,ex,_⟩:=I.hok p _ b
   refine⟨⟨o,e,ex.1⟩,λa g=>?_⟩
   cases g
   exact⟨o,e,ex.2.1⟩
 | _=>exact False.elim ty
def tBM (K:zz)(T:String)(r:V->zx->Hp->VK->Prop)(b:TE)(t:TA):TE:=fun σ H Q=>b σ H λx H1=>tyV K T x H1/\t σ H1 λa H2=>r x a H2 Q
variable {o e:Expr}{es:xK}{to:TE}{t:TA}{name:Str}{apos cpos:Pos}{T id:String}{r:V->zx->Hp->VK->Prop}
theorem zdv (A:PlainAttrs T) (g:Slot T name id) (i:typeOf (.builtin id)=pure (.type "method_descriptor")) (y:MtR X id r) (p:PE X o to) (n:PA X (e::es) t)
 (d:attributeBase o name X.env (eval o X.env)=eval o X.env:=by rfl)
 (f:((backTo cpos (starEach (e::es) X.env)).all (λx=>!x.1)&&(backToKw cpos (keywordEach [] X.env)).all (λx=>x.1.isSome)
  && decide ((e::es).length+([]:List Keyword).length+(if ([]:List Keyword).isEmpty then 0 else 1) < 30))=true:=by rfl)
 (c:(apos.endLine == cpos.line)=true:=by rfl) (D:starEach (e::es) X.env=(false,eval e X.env)::starEach es X.env:=by rfl) (b:(backTo cpos (starEach es X.env)).any (·.1)=false:=by rfl) :
 PE X (.Call (.Attribute o name apos) (e::es) [] cpos) (tBM X.K T r to t):=by
 intro a s σ H Q I h
 refine wpAny_Call_method_late d f c rfl (thn (p a s σ H _ I h) λv z hh9=>?_)
 obtain⟨x,H1,I1,j,ty,w⟩:=hh9
 obtain⟨E,C⟩:=zpQ I1 j ty
 refine⟨T,id,A,g,i,E,C,?_⟩
 have k:=n cpos a z σ H1 _ I1 w
 rw[D]at k ⊢
 refine Calls.callWith_builtin (by show(false||(backTo cpos (starEach es X.env)).any (·.1))=false;rw[b] <;> rfl) (Calls.evalArgs_plain ?_)
 exact thn k λm q ⟨u,H2,I2,l,B⟩=>y a q σ H2 x u v m Q I2 j l B
/- xs.append(e),list.index on a module's tuple .. are MtR facts of 06m -/
end
def MtM (X:Cx)(id:String)(r:V->zx->Hp->VK->Prop):Prop :=
 ∀ (a:xn) (s:zj) (σ:St) (H:Hp) (x:V) (c:zx) (v:Value) (b:zt) (Q:VK),Inv X a σ H s->y2 x v->yl c b->r x c H Q ->
  wpAny (model X.prog X.w) X.A (call (.builtin id) (v::b)) (EP X a σ Q) X.xe s
def yl.one:∀ {x:V} {a:zt},yl [x] a->∃ u,a=[u]/\y2 x u:=by
 intro x a h
 cases h with | cons r t=>cases t;exact⟨_,rfl,r⟩
def yl.two:∀ {x y:V} {a:zt},yl [x,y] a->∃ u v,a=[u,v]/\y2 x u/\y2 y v:=by
 intro x y a h
 cases h with | cons r t=>cases t with | cons q t=>cases t;exact⟨_,_,rfl,r,q⟩
def yl.reverse {b:zx}{a:zt}(h:yl b a):yl b.reverse a.reverse:=by
 induction h with
 | nil=>exact .nil
 | cons r t c=>rw[u11,u11];exact yl.append c (.cons r .nil)
def yl.rep (h:yl b a):∀ k:Nat,yl (List.replicate k b).flatten (List.replicate k a).flatten
 | 0=>.nil
 | k+1=>by
  rw[u0z,u0z,u0W,u0W]
  exact yl.append h (yl.rep h k)
def zcw (a:zt):∀ (k:Nat) (b:zt),
 List.foldl (λf d=>f++d) b.toArray (List.replicate k a.toArray)=(b++(List.replicate k a).flatten).toArray
 | 0,b=>by simp
 | k+1,b=>by
  have e:b.toArray++a.toArray=(b++a).toArray:=by simp
  have c:(b++a)++(List.replicate k a).flatten=b++(List.replicate (k+1) a).flatten:=by
   rw[u0z,u0W,u26]
  rw[<-c,<- zcw a k (b++a),<- e,u0z,List.foldl_cons]
section
variable {X:Cx}{pins:xn}{σ:St}{H:Hp}{s:zj}{l b:Addr}{xs ys zs:zx}
def Inv.lset {a its':zt} {f:zP->zP} {b:Nat} (I:Inv X pins σ H s) (i:H l=some (.lst xs)) (e:s.heap.get? l=some { cls:=.type "list",data:=.seq a.toArray n }) (g:f a.toArray=its'.toArray) (j:yl ys its') (c:ys.length<=sizeLine) :
 Inv X pins σ (upd H l (.lst ys)) { s with heap:=s.heap.update l (Obj.mapSeq f),toks:=b }:=by
 have q:=PySem.IsL.update e f
 rw[g]at q
 refine I.write (x:=l) (e:=l) (by rw[i];exact trivial) (.inl rfl) (λk u d h=>(g3 s.heap (Obj.mapSeq f) (u0p d)).trans h) ⟨_,q⟩ ?_
 exact⟨c,its',_,j,q⟩
def Inv.lnew {a:zt}{t':Nat}(I:Inv X pins σ H s)(c:yl ys a)(b:ys.length<=sizeLine) :
 Inv X pins σ (upd H s.heap.objs.size (.lst ys)) { s with heap:=s.heap.push { cls:=.type "list",data:=.seq a.toArray },toks:=t' } :=
 I.laid (λ_ _ q=>u5 _ q) (t7 _) ⟨b,a,0,c,q7 _ rfl⟩
def Inv.fresh (I:Inv X pins σ H s):H s.heap.objs.size=none:=I.hok.fresh (t7 _)
def Inv.lstM (I:Inv X pins σ H s) (b:H l=some (.lst xs)):xs.length<=sizeLine/\∃ (a:zt) (n:Nat),yl xs a/\xs.length=a.length/\s.heap.get? l=some { cls:=.type "list",data:=.seq a.toArray n }:=by
 obtain⟨z,a,n,r,e⟩:=I.hok l _ b
 exact⟨z,a,n,r,r.length,e⟩
def zeo {n:Nat}(h:n<=sizeLine):Builtin.List.listTooLong n=false:=by
 unfold Builtin.List.listTooLong
 exact j8 (by omega)
end
section
variable {X:Cx}
def zih:V->zx->Hp->VK->Prop:=λx b H Q=>∃ l a y,x=.ref l/\b=[y]/\H l=some (.lst a)/\a.length<sizeLine/\Q .non (upd H l (.lst (a++[y])))
def VB:MtM X "list.append" zih:=by
 intro b s σ H x j v i Q I d f h
 obtain⟨l,k,y,rfl,rfl,c,o,q⟩:=h
 cases d
 obtain⟨u,rfl,g⟩:=f.one
 obtain⟨z,a,n,r,m,e⟩:=I.lstM c
 refine u2x F.slot_list_append ⟨_,e,rfl⟩ F.entry_list_append (F.args_list_append_2 _ _) (PySem.list_append l a.toArray n u (by rw[t8];omega)) ⟨e,?_⟩
 refine⟨.non,_,I.lset (its':=a++[u]) c e (by simp) (r.append (.cons g .nil)) ?_,rfl,q⟩
 rw[j5,List.length_singleton]
 omega
def ziP:V->zx->Hp->VK->Prop:=λx c H Q=>∃ l b a zs,x=.ref l/\c=[.ref b]/\H l=some (.lst a)/\H b=some (.lst zs)/\a.length+zs.length<=sizeLine/\Q .non (upd H l (.lst (a++zs)))
def zgN:MtM X "list.extend" ziP:=by
 intro i s σ H x C v A Q I w j h
 obtain⟨l,b,D,zs,rfl,rfl,g,t,G,q⟩:=h
 cases w
 obtain⟨u,rfl,y⟩:=j.one
 cases y
 obtain⟨z,c,n,r,E,e⟩:=I.lstM g
 obtain⟨B,a,o,p,m,k⟩:=I.lstM t
 have f:c.toArray.size+a.toArray.size<=sizeLine:=by rw[t8,t8];omega
 have d:¬ (!c.toArray.isEmpty&&Builtin.List.listTooLong (c.toArray.size+a.toArray.size))=true:=by
  rw[zeo f,u1n]
  exact u6
 refine u2x F.slot_list_extend ⟨_,e,rfl⟩ F.entry_list_extend (F.args_list_extend_2 _ _)
  (AutoSeq1.list_extend_list_list_0 l c.toArray n b a.toArray o d (by rw[t8];omega) (by omega)) ⟨e,k,?_⟩
 refine⟨.non,_,I.lset (its':=c++a) g e (by simp) (r.append p) ?_,rfl,q⟩
 rw[j5]
 omega
def zqT:R2:=λx y H Q=>∃ l b a zs,x=.ref l/\y=.ref b/\H l=some (.lst a)/\H b=some (.lst zs)/\a.length+zs.length<=sizeLine/\∀ p,H p=none->Q (.ref p) (upd H p (.lst (a++zs)))
def zeD:OpR X (binaryOp .Add) zqT:=by
 intro d s σ H x y v u Q I i o h
 obtain⟨l,b,w,zs,rfl,rfl,p,g,B,q⟩:=h
 cases i
 cases o
 obtain⟨z,c,n,r,A,e⟩:=I.lstM p
 obtain⟨t,a,C,f,m,k⟩:=I.lstM g
 refine PySem.P.add_list e k ?_ (by rw[t8,t8];omega)
 have j:c.toArray++a.toArray=(c++a).toArray:=by simp
 rw[j]
 exact⟨.ref _,_,I.lnew (t':=s.toks) (r.append f) (by rw[j5];omega),rfl,q _ I.fresh⟩
def rRep:R2:=λx y H Q=>∃ l k a,x=.ref l/\y=.int k/\H l=some (.lst a)/\-(2^63)<=k/\k<2^63/\a.length*k.toNat<=sizeLine /\
 ∀ p,H p=none->Q (.ref p) (upd H p (.lst (List.replicate k.toNat a).flatten))
def znL {α:Type}(a:List α)(k:Nat):(List.replicate k a).flatten.length=k*a.length:=by
 induction k with
 | zero=>simp
 | succ k b=>rw[u0z,u0W,j5,b,Nat.succ_mul,Nat.add_comm]
theorem zlp:OpR X (binaryOp .Mult) rRep:=by
 intro p s σ H x y v u Q I G K h
 obtain⟨l,k,M,rfl,rfl,E,C,A,w,q⟩:=h
 cases G
 obtain⟨t,rfl⟩:=K
 obtain⟨z,b,n,r,J,e⟩:=I.lstM E
 have d:b.toArray.size*k.toNat<=sizeLine:=by rw[t8,<- J];exact w
 have g:¬ b.toArray.size*k.toNat > (2 ^ 63 - 1) / 8:=by
  have:(sizeLine:Nat)<=(2 ^ 63 - 1) / 8:=by decide
  omega
 have f:¬ (!Builtin.List.listFitsIndex k)=true:=by
  rw[fitsIndex_both C A]
  exact u6
 have c:¬ Builtin.List.listTooLong (b.toArray.size*k.toNat)=true:=by
  rw[zeo d]
  exact u6
 have i:List.foldl (λo j=>o++j) #[] (List.replicate (if b.toArray.isEmpty=true then 0 else k.toNat) b.toArray)=(List.replicate k.toNat b).flatten.toArray:=by
  have D:∀ m:Nat,List.foldl (λo j=>o++j) #[] (List.replicate m b.toArray)=(List.replicate m b).flatten.toArray:=λm=>by
   have:=zcw b m []
   rw[u3s]at this
   exact this
  rw[D]
  cases b with
  | nil=>simp
  | cons a L=>rw[t9 (by simp)]
 refine wpAny_binaryOp_repeat_ref (T:="list") (U:="int") (by decide) ⟨_,e,rfl⟩ (λB=>typeIs_int B k t) noFill_list_mul F.fills_int_mul F.slot_int_rmul repeat_list F.slot_int_index.lookup
  (u2x F.slot_int_rmul (typeIs_int s k t) F.entry_int_rmul (F.args_int_rmul_2 _ _) (int___rmul___int_list k t l b.toArray n)
   ⟨e,rfl,⟨_,e,rfl⟩,u2x F.slot_list_mul ⟨_,e,rfl⟩ F.entry_list_mul (F.args_list_mul_2 _ _) (AutoListH.list___mul___list_int_3 l b.toArray n k t f g c) ⟨e,?_⟩⟩)
 rw[i]
 exact⟨.ref _,_,I.lnew (t':=s.toks) (r.rep k.toNat) (by rw[znL,Nat.mul_comm];exact w),rfl,q _ I.fresh⟩
end
end L2
namespace Att
open PySem PySem.W PySem.Calls PyProof.Rows
def W0:∀ (c:zc) (d:zt),WellAll P h d (c.map WData.int)->IntsAre d c:=by
 intro c
 induction c with
 | nil =>
  intro d w
  rw[u2S]at w
  cases w
  exact .nil
 | cons n c e =>
  intro d w
  rw[r6]at w
  cases w with
  | cons a b =>
   cases a
   exact .cons _ _ (e _ b)
def zgj {l:OpenLaw}(u:l.most=some n){h:Heap}(c:l.row.toRowW.claim.pre args=true)(k:WellAll P h e args) :
 ∃ a p b,e=[Value.ref a]/\args=[WData.list (b.map WData.int)]/\h.get? a=some { cls:=.type "list",data:=.seq p.toArray }/\IntsAre p b/\b.length<=n:=by
 have m:WShape.hasAll [] args [.list .int]=true:=(pre_splitW c).1
 have o:l.pre.holds [] { args:=args }=true:=(pre_splitW c).2
 obtain⟨d,r,rfl,z,t⟩:=hasAllW_cons m
 obtain rfl:=hasAllW_nil t
 obtain⟨A,rfl,v⟩:=hasW_list z
 obtain⟨b,rfl⟩:=items_int v
 have f:b.length<=n:=by
  unfold OpenLaw.pre at o
  have i:(WTm.not (.lt (.lit (.int (n:Int))) (.len (.arg 0)))).holds [] { args:=[.list (b.map .int)] }=true:=by
   have i:=(holds_andW o).1
   rw[u]at i
   exact i
  have j:=condW_of i (w_not (w_lt w_lit (w_len_list (w_arg rfl))))
  rw[u4]at j
  refine u1p λq=>?_
  have y:(n:Int)<((b.length:Nat):Int):=by omega
  first
   | (rw[j0 y]at j;exact absurd j (by decide))
   | (simp at j;omega)
 cases k with
 | cons x s =>
  cases s
  cases x with
  | list w g=>exact⟨_,_,b,rfl,rfl,w,W0 b _ g,f⟩
def ziq (l:OpenLaw)(args:List WData):l.row.toRowW.claim.post args (.bool true) args=true :=
 postW_of (r:=l.row.toRowW) (X:=(true == true))
  (show WShape.has [] (.bool true) .bool=true by first | rfl | decide | simp[WShape.has,WShape.arms,WShape.armsAll])
  (show(WTm.eq .res (.lit (.bool true))).value [] { args:=args,res:=some (.bool true),after:=args }=some (.bool (true == true))from w_eq_bool (w_res rfl) w_lit) rfl
def attach_call {l:OpenLaw}{YP:World->Heap->Prop}{d:DefRec}(H:l.most=some n)(x:d.params.defaults=[]) (call:∀ (w:World) (s₀ b:zj) (p y:w1) (j:Addr) (o:Obj) (v u g:Value) (a:Addr) (h:zt) (t:zc),
 Ground q c [] XP w s₀ p y b.heap->YP w b.heap ->
 b.heap.get? j=some o->o.data=.func (docDef d.name d.params d.body d.scope v u g)->b.heap.CodeRec u d.name->p d.name=some (.ref j) ->
 b.heap.get? a=some { cls:=.type "list",data:=.seq h.toArray }->IntsAre h t->t.length<=n->b.gens=#[] ->
 codeAny (model l.prog w) callerA (.call (.ref j) ⟨[.ref a],[]⟩) (λr s=>r=.ok (.ret (.bool true))/\OldK b.heap s.heap/\s.os=b.os/\AllBare s.gens) b) :
 WalkO q c XP YP l.row.toRowW d [] (λf h=>PySem.call f h):=by
 intro w s₀ b p y G Y j o v u g K kV O L A E B Q args C R k D N z M
 obtain rfl:K=.none:=Dflts.none E x
 obtain rfl:kV=.none:=Dflts.noKw E
 obtain⟨a,h,t,rfl,rfl,m,e,i⟩:=zgj H k z
 refine enter_call (u2d (call w s₀ b p y j o v u g a h t G Y O (fd_plain L) A B m e i Q) λr s hq=>?_)
 obtain⟨rfl,F,I,P⟩:=hq
 exact⟨.inl ⟨.bool true,.bool true,[],rfl,λ_=>rfl,.bool true,ziq l _,λ_=>⟨List.Pairwise.nil,λ_ J=>(nomatch J)⟩⟩,F,I,P⟩
section
variable {prog:zH}{w:World}{A:zI}{E:yL}{s:zj}{K:Frag}
def ledger (h:Heap)(L d:Addr):xn:=(List.range h.objs.size).filterMap λa=>if a=L\/a=d then none else (h.get? a).map λo=>(a,o)
end
end Att
namespace L2
open PySem PySem.Spec PyProof.Rows
def zcc:∀ {b:zt} {a:zc},IntsAre b a->yl (a.map V.int) b:=by
 intro b a h
 induction h with
 | nil=>exact .nil
 | cons n t h c=>exact .cons ⟨t,rfl⟩ c
def YT (s:Stmt):Arguments:=match s with
 | .FunctionDef _ a _ _ _ _ _ _ _ _=>a
 | _=>{ posonlyargs:=[],args:=[],vararg:=none,kwonlyargs:=[],kw_defaults:=[],kwarg:=none,defaults:=[] }
def yV (s:Stmt):Xp:=match s with
 | .FunctionDef _ _ b _ _ _ _ _ _ _=>b
 | _=>[]
def zp (s:Stmt):Scope:=match s with
 | .FunctionDef _ _ _ _ _ _ sc _ _ _=>sc
 | _=>{ kind:=.function,names:=[],isGenerator:=false,isCoroutine:=false }
abbrev CX0:CXT:=λ_ _ _ _ _ _=>False
abbrev E0:XK:=λ_ _ _=>False
def zo0:Xs CX0 X E0:=λ_ _ _ _ _ _ _ h=>h.elim
structure Fun (K:zz) (x qual:Str) (st:Stmt) (f:Addr) (fd:XQ):Prop where
 ex:∃ (oc:Value) (od:x4) (kV doc pm:Value) (an:x4) (cdv ct:Value) (osl:Array (Option Value)),
  fd=W.fnOf x qual (YT st) (yV st) (zp st) .none kV doc pm an cdv ct/\K.lookup f=some ⟨oc,od,.func fd,osl⟩/\W.codeIn K cdv qual=true
 kp:W.keepIn K (.ref f)=true
section
variable {P:zH}{w:World}{K:zz}{mg:w1}{base:Heap}
def Fun.ok {f:Addr}{N ps:zJ}{k:Nat}{g:Sp}(F:Fun K x a e f m)(S:wv N ps (zp e))(j:∀ d H Q E,g d H Q E->d.length=ps.length) (c:∀ (b:Value) (A:zI) (outer:List Env) (s:zj) (H:Hp) (d:zx) (Q:VK) (E:XK),x5 k (A.deeper (envOfC a (zp e) s.heap.objs.size f b))->g d H Q E ->
 ∃ t,PSs (Wl CX0 P w K mg base N a (zp e) f b A outer s H E).nox (yV e) t/\t { nx:=λ_ H'=>Q .non H',rt:=Q } (start N d) H):vU P w K mg base CX0 (k+1) f m ps g:=by
 obtain⟨v,y,kV,p,u,z,b,ct,o,rfl,n,l⟩:=F.ex
 refine zmS n l S j λA outer s H d Q E r i=>?_
 obtain⟨t,h,q⟩:=c b A outer s H d Q E r i
 exact⟨t,h.nox,q⟩
def Fun.binds {f:Addr}{k:XQ}{j:zJ}(F:Fun K x a d f k)(h:∀ (kV c i:Value) (g:x4) (b ct:Value) (e:zt),e.length=j.length->bindArgs (W.fnOf x a (YT d) (yV d) (zp d) .none kV c i g b ct) ⟨e,[]⟩=pure (j.zip e)):VQ K k j []:=by
 obtain⟨n,o,kV,c,i,g,b,ct,l,rfl,p,m⟩:=F.ex
 exact .all (h kV c i g b ct)
def zli {f:Addr}{g:Array (Option Value)}{kV:Value}(l:K.lookup f=some ⟨j,m,.func (W.fnOf x a (YT d) (yV d) (zp d) .none kV e i h b ct),g⟩)(c:W.codeIn K b a=true)(k:W.keepIn K (.ref f)=true):Fun K x a d f (W.fnOf x a (YT d) (yV d) (zp d) .none kV e i h b ct):=⟨⟨j,m,kV,e,i,h,b,ct,g,rfl,l,c⟩,k⟩
end
def zmD {A:zI}{k:Nat}(a:x5 k A):A.units+1<cLine:=p5 (u1r (by decide:1<=64) _) a.units
def Y5 {n:Nat}(h:n<=1000):n<sizeLine:=p5 h (by decide)
section
variable {X:Cx}
def pv (i:Nat) (c:X.N[i]?=some x:=by rfl) (e:Vis X.env.scope x:=by first | exact Or.inl rfl | exact Or.inr (Or.inl rfl) | exact Or.inr (Or.inr rfl)) (d:(x == ("__debug__":Str))=false:=by decide) (b:(x == ("__classdict__":Str))=false:=by decide):PE X (.Name x a) (zdt i):=zpH c e d b
end
def yE (H H':Hp):Prop:=∀ b o,H b=some o->H' b=some o
def yE.refl (H:Hp):yE H H:=λ_ _ h=>h
def yE.trans (a:yE H H1)(b:yE H1 H2):yE H H2:=λc o h=>b c o (a c o h)
def yE.free {H H':Hp}(e:yE H H')(h:H' l=Option.none):H l=Option.none:=by
 cases q:H l with
 | none=>rfl
 | some o =>
  rw[e l o q]at h
  cases h
def yE.seq {K:zz}{H H':Hp}{a:Addr}{b:zx}(e:yE H H')(h:SqL K H a b):SqL K H' a b:=by
 rcases h with (h | ⟨o,h⟩) | h
 .exact .inl (.inl (e _ _ h))
 .exact .inl (.inr ⟨o,e _ _ h⟩)
 .exact .inr h
section
variable {κ:Type}[DecidableEq κ]
def zeU (a:List (κ × V))(k:κ):Option V:=(a.find? λb=>decide (b.1=k)).map (·.2)
def zdL (a:List (κ × V))(k:κ)(v:V):List (κ × V) :=
 if (a.any λb=>decide (b.1=k))=true then a.map (λb=>if b.1=k then (b.1,v)else b)else a++[(k,v)]
def WJ {k:κ}(e:p.1=k):zeU (p::r) k=some p.2:=by simp[zeU,u09,e]
def Wy {k:κ}(e:¬ p.1=k):zeU (p::r) k=zeU r k:=by simp[zeU,u09,e]
def za1 (k:κ):∀ a:List (κ × V),(a.any λb=>decide (b.1=k))=(zeU a k).isSome
 | []=>rfl
 | p::r=>by
  rw[u1G]
  by_cases e:p.1=k
  .simp only[WJ e,j0 e,Bool.true_or,Option.isSome_some]
  .rw[Wy e,j8 e,Bool.false_or];exact za1 k r
def Vl (a:List (κ × V))(k:κ)(v:V):(zdL a k v).length<=a.length+1:=by
 unfold zdL
 split
 .rw[u4];omega
 .rw[j5,k4,u0X];omega
def zh4.isSome_eq {o:Option V}{u:Option Value}(r:zh4 o u):o.isSome=u.isSome:=by
 cases o with
 | none=>cases u with
  | none=>rfl
  | some _=>exact(show False from r).elim
 | some _=>cases u with
  | none=>exact(show False from r).elim
  | some _=>rfl
def KV.val {f:List (κ × Value)}(r:KV a f)(k:κ):zh4 (zeU a k) (valueAt f k):=by
 unfold KV at r
 induction r with
 | nil=>exact True.intro
 | @cons p q l d h t j =>
  obtain⟨g,i⟩:=h
  by_cases e:p.1=k
  .have c:q.1=k:=g.symm.trans e
   have b:valueAt (q::d) k=some q.2:=by simp[valueAt,u09,c]
   rw[WJ e,b];exact i
  .have c:¬ q.1=k:=λz=>e (g.trans z)
   have b:valueAt (q::d) k=valueAt d k:=by simp[valueAt,u09,c]
   rw[Wy e,b];exact j
def KV.any {a:List (κ × V)}{c:List (κ × Value)}(r:KV a c)(k:κ):(a.any λb=>decide (b.1=k))=c.any λb=>decide (b.1=k):=by
 unfold KV at r
 induction r with
 | nil=>rfl
 | cons h t d=>rw[u1G,u1G,d,h.1]
def KV.repl {b:List (κ × V)}{d:List (κ × Value)}(r:KV b d)(k:κ)(i:y2 y u) :
 KV (b.map λa=>if a.1=k then (a.1,y)else a) (d.map λa=>if a.1=k then (a.1,u)else a):=by
 unfold KV at r ⊢
 induction r with
 | nil=>exact .nil
 | @cons p q j l h t g =>
  rw[r6,r6]
  refine .cons ?_ g
  obtain⟨c,f⟩:=h
  by_cases e:p.1=k
  .rw[u9 e,u9 (c.symm.trans e)];exact⟨c,i⟩
  .rw[t9 e,t9 (λz=>e (c.trans z))];exact⟨c,f⟩
def KV.put (r:KV a b)(k:κ)(c:y2 y u):KV (zdL a k y) (stored b k u):=by
 unfold zdL stored
 rw[r.any k]
 by_cases e:(b.any λd=>decide (d.1=k))=true
 .rw[u9 e,u9 e];exact r.repl k c
 .rw[t9 e,t9 e];exact Paired.snoc r ⟨rfl,c⟩
def KV.length {a:List (κ × V)}{b:List (κ × Value)}(r:KV a b):a.length=b.length:=Paired.length r
end
def zjK {w:World}{k:Key}(r:y2 (kV k) u):(wa P w).is k u=true:=by
 cases k with
 | inl i=>obtain⟨t,e⟩:=(show ∃ t,u=Value.int i t from r);subst e;exact zdn P w i t
 | inr x=>obtain⟨t,e⟩:=(show ∃ t,u=Value.str x t from r);subst e;exact zdD P w x t
def zcy {w:World}:∀ {a:List Key} {b:zt},yl (a.map kV) b->ItemsAre (wa P w) a b
 | [],_,r=>by rw[u2S]at r;cases r;exact .nil
 | k::a,_,r=>by
  rw[r6]at r
  cases r with
  | cons h t=>exact .cons (zjK h) (zcy t)
abbrev KT (H:Hp):zbP->List (List Key × Addr × Value)->Prop:=Paired λp q=>p.1=q.1/\H q.2.1=some (.tup (p.1.map kV))/\y2 p.2 q.2.2
def KT.val {f:List (List Key × Addr × Value)}(r:KT H a f)(k:List Key):zh4 (zeU a k) ((atKey f k).map (·.2)):=by
 induction r with
 | nil=>exact True.intro
 | @cons p q l d h t j =>
  obtain⟨g,_,i⟩:=h
  by_cases e:p.1=k
  .have c:q.1=k:=g.symm.trans e
   have b:atKey (q::d) k=some q.2:=by simp[atKey,u09,c]
   rw[WJ e,b];exact i
  .have c:¬ q.1=k:=λz=>e (g.trans z)
   have b:atKey (q::d) k=atKey d k:=by simp[atKey,u09,c]
   rw[Wy e,b];exact j
def KT.repl {a:zbP}{f:List (List Key × Addr × Value)}(r:KT H a f)(k:List Key)(j:y2 y u) :
 KT H (a.map λc=>if c.1=k then (c.1,y)else c) (f.map (putAt k u)):=by
 induction r with
 | nil=>exact .nil
 | @cons p q l m h t i =>
  rw[r6,r6]
  refine .cons ?_ i
  obtain⟨b,d,g⟩:=h
  unfold putAt
  by_cases e:p.1=k
  .rw[u9 e,u9 (b.symm.trans e)];exact⟨b,d,j⟩
  .rw[t9 e,t9 (λz=>e (b.trans z))];exact⟨b,d,g⟩
def KT.put {H:Hp}(r:KT H a c)(k:List Key)(g:H b=some (.tup (k.map kV)))(d:y2 y u) :
 KT H (zdL a k y) (storedH c k b u):=by
 have e:(a.any λf=>decide (f.1=k))=(atKey c k).isSome:=by
  rw[za1,(r.val k).isSome_eq,u12]
 unfold zdL storedH
 rw[e]
 by_cases q:(atKey c k).isSome=true
 .rw[u9 q,u9 q];exact r.repl k d
 .rw[t9 q,t9 q];exact Paired.snoc r ⟨rfl,g,d⟩
def KT.keeps {H H':Hp}(r:KT H a c)(e:∀ b d,H b=some (.tup d)->H' b=some (.tup d)):KT H' a c :=
 Paired.mapP r λ_ _ z=>⟨z.1,e _ _ z.2.1,z.2.2⟩
section
variable {P:zH}{w:World}{H:Hp}{h:Heap}{a:Addr}
def zoT (ok:HOk P w H h)(e:Rd H a u):yQ P w H h a u:=e.ok ok
def zlc {b:List (Key × V)}(ok:HOk P w H h)(e:Rd H a (.dK b)):b.length<=sizeLine/\(a == sysModules)=false/\∃ c,KV b c/\h.DictOf (wa P w) a c :=
 show yQ P w H h a (.dK b)from zoT ok e
def zrF {b:List (Key × V)}(ok:HOk P w H h)(e:H a=some (.dK b)):b.length<=sizeLine/\(a == sysModules)=false/\∃ c,KV b c/\h.DictOf (wa P w) a c:=zlc ok (.inl e)
def zem {c:List Key}(ok:HOk P w H h)(e:H a=some (.tup (c.map kV))):(tupleKind (wa P w)).is h c a:=by
 obtain⟨_,b,r,o,g,d,n,f⟩:=(show yQ P w H h a (.tup (c.map kV))from ok a _ e)
 exact⟨o,b.toArray,n,g,d,f,by simpa using zcy r⟩
def zjI {b:zbP}(ok:HOk P w H h)(e:Rd H a (.dT b)):b.length<=sizeLine/\(a == sysModules)=false /\
 ∃ d,KT H b d/\h.DictOfH (tupleKind (wa P w)) a d:=by
 obtain⟨z,y,d,r,o,i,u,v,g,j,k,s⟩:=(show yQ P w H h a (.dT b)from zoT ok e)
 refine⟨z,y,d,r,o,i,u,v,g,j,k,λx c=>?_,s⟩
 have f:∀ {l:zbP} {m:List (List Key × Addr × Value)},KT H l m->∀ x∈m,(tupleKind (wa P w)).is h x.1 x.2.1:=by
  intro l m q
  induction q with
  | nil=>intro x c;exact nomatch c
  | @cons p q A B hq t n =>
   intro x c
   rcases t6.mp c with e | c
   .subst e
    exact zem ok (by rw[<-hq.1];exact hq.2.1)
   .exact n x c
 exact f r x c
def zrv {b:zbP}(ok:HOk P w H h)(e:H a=some (.dT b)):b.length<=sizeLine/\(a == sysModules)=false /\
 ∃ c,KT H b c/\h.DictOfH (tupleKind (wa P w)) a c:=zjI ok (.inl e)
end
def znW (H:Hp)(a:Addr)(y:V)(r:Option V):Prop :=
 (∃ c k,Rd H a (.dK c)/\y=kV k/\r=zeU c k)\/∃ c k b,Rd H a (.dT c)/\y=.ref b/\H b=some (.tup (k.map kV))/\r=zeU c k
def zjp (H:Hp)(a:Addr)(y v:V)(H':Hp):Prop :=
 (∃ c k,H a=some (.dK c)/\y=kV k/\c.length<sizeLine/\H'=upd H a (.dK (zdL c k v))) \/
 ∃ c k b,H a=some (.dT c)/\y=.ref b/\H b=some (.tup (k.map kV))/\c.length<sizeLine/\H'=upd H a (.dT (zdL c k v))
def zjp.k {H:Hp}{b:List (Key × V)}{k:Key}(e:H a=some (.dK b))(c:b.length<sizeLine):zjp H a (kV k) v (upd H a (.dK (zdL b k v))):=.inl ⟨b,k,e,rfl,c,rfl⟩
def zjp.t {H:Hp}{c:zbP}{k:List Key}(e:H a=some (.dT c))(f:H b=some (.tup (k.map kV)))(d:c.length<sizeLine) :
 zjp H a (.ref b) v (upd H a (.dT (zdL c k v))):=.inr ⟨c,k,b,e,rfl,f,d,rfl⟩
section
variable {X:Cx}{pins:xn}{σ:St}{H:Hp}{s:zj}{a:Addr}{y v:V}{u r:Value}{o:Option V}{A:zI}{E:yL}
def Inv.big (I:Inv X pins σ H s):sysModules<s.heap.objs.size:=by
 have h:mainGlobals<s.heap.objs.size:=(I.mod.glob.keeps I.bk).lt
 exact Nat.lt_trans (by decide) h
def zh6 {Q:yL}(D:A.units+1<cLine)(I:Inv X pins σ H s)(g:znW H a y (some v))(r:y2 y u)(h:∀ f q,Inv X pins σ H q->y2 v f->Q f q) :
 wpAny (model X.prog X.w) A (getItem (.ref a) u) Q E s:=by
 rcases g with ⟨i,k,e,n,l⟩ | ⟨i,k,b,e,n,x,l⟩
 .subst n
  obtain⟨z,C,t,c,m⟩:=zlc I.hok e
  obtain⟨f,hw,d⟩:=zh4.some_of (v:=v) (o:=valueAt t k) (by rw[l];exact c.val k)
  exact wpAny_getItem_of (zjK r) m.mapOf hw (h f _ (I.tok _) d)
 .subst n
  cases (show u=Value.ref b from r)
  obtain⟨z,C,w,c,m⟩:=zjI I.hok e
  obtain⟨f,hw,d⟩:=zh4.some_of (v:=v) (o:=(atKey w k).map (·.2)) (by rw[l];exact c.val k)
  obtain⟨p,B,j⟩:=u7.mp hw
  refine wpAny_getItem_heap (u20 D) (zem I.hok x) m B ?_
  rw[j]
  exact h f _ (I.tok _) d
def d_in {Q:yL}(r:A.units+1<cLine)(I:Inv X pins σ H s)(g:znW H a y o)(n:y2 y u)(h:∀ m,Inv X pins σ H m->Q (.bool o.isSome) m) :
 wpAny (model X.prog X.w) A (compareOp .In u (.ref a)) Q E s:=by
 rcases g with ⟨d,k,e,j,l⟩ | ⟨d,k,b,e,j,p,l⟩
 .subst j
  obtain⟨z,i,t,c,f⟩:=zlc I.hok e
  refine wpAny_in_of (zjK n) i f.mapOf ?_
  rw[<-(c.val k).isSome_eq,<- l]
  exact h _ (I.tok _)
 .subst j
  cases (show u=Value.ref b from n)
  obtain⟨z,i,v,c,f⟩:=zjI I.hok e
  refine wpAny_in_heap (u20 r) (zem I.hok p) i f ?_
  have q:=(c.val k).isSome_eq
  rw[u12]at q
  rw[<-q,<- l]
  exact h _ (I.tok _)
def ziJ {c:Heap}{i:Nat}(I:Inv X pins σ H s)(g:Mut (H a))(j:Heap.SameBut a s.heap c)(h:∃ q,c.get? a=some q)(f:yQ X.prog X.w (upd H a d) c a d) :
 Inv X pins σ (upd H a d) { s with heap:=c,toks:=i } :=
 I.write (x:=a) (e:=a) g (.inl rfl) (λb q k z=>(j.2 b k).trans z) h f
def zpf {w:World}{e:Heap}{b:List (Key × V)}(z:b.length<=sizeLine)(g:(a == sysModules)=false)(c:KV b d)(f:e.DictOf (wa P w) a d) :
 yQ P w H' e a (.dK b):=⟨z,g,d,c,f⟩
def zgH {Q:Unit->Shared->Prop}(T:A.units+1<cLine)(I:Inv X pins σ H s)(g:zjp H a y v H')(G:y2 y u)(B:y2 v r)(h:∀ C,Inv X pins σ H' C->Q () C) :
 wpAny (model X.prog X.w) A (setItem (.ref a) u r) Q E s:=by
 rcases g with ⟨d,k,e,o,l,w⟩ | ⟨d,k,b,e,o,F,l,w⟩
 .subst o w
  obtain⟨z,m,N,f,j⟩:=zrF I.hok e
  have t:N.length<=sizeLine:=by rw[<-f.length];exact z
  have p:(zdL d k v).length<=sizeLine:=by have:=Vl d k v;omega
  refine wpAny_setItem_pairs (hsz:=t) (zjK G) j λD i n=>h _ ?_
  have R:∃ q,D.get? a=some q:=let ⟨q,_,_,hq,_⟩:=i;⟨q,hq⟩
  exact ziJ I (by rw[e];exact True.intro) n R (zpf p m (f.put k B) i)
 .subst o w
  cases (show u=Value.ref b from G)
  obtain⟨z,m,P,f,j⟩:=zrv I.hok e
  have t:P.length<=sizeLine:=by rw[<-Paired.length f];exact z
  have p:(zdL d k v).length<=sizeLine:=by have:=Vl d k v;omega
  refine wpAny_setItem_heap (hsz:=t) (u20 T) (zem I.hok F) j λD i n=>h _ ?_
  obtain⟨q,M,L,hq,J,K,O,_,S⟩:=i
  refine ziJ I (by rw[e];exact True.intro) n ⟨q,hq⟩ ⟨p,m,_,(f.put k F B).keeps λc U x=>?_,q,M,L,hq,J,K,O,S⟩
  rw[zn (zrl x e (λz=>nomatch z))]
  exact x
end
def zrq (i:Expr):Prop:=∀ b a,subscripted i false b a=operate [b,a] (getItem b a)
def zmw {a:zH}{w:World}{A:zI}{E:yL}{s:zj}{env:Env}{c b:Expr}{e:Pos}{T id:String}{Q:yL}
 (n:typeLookup (.type T) "__getitem__"=pure (some (.builtin id))) (m:zrq b)
 (h:wpAny (model a w) A (eval c env) (λo g=>wpAny (model a w) A (eval b env) (λi d=>d.TypeIs o T/\wpAny (model a w) A (getItem o i) Q E d) E g) E s) :
 wpAny (model a w) A (eval (.Subscript c b e) env) Q E s:=by
 refine Subscript_ (p8 h (λo g l=>p8 l (λi d f=>?_) λ_ _ x=>x) λ_ _ x=>x)
 obtain⟨k,f⟩:=f
 unfold subscriptTail
 refine u3 ?_
 rw[getitemInPython_of_ne k.not_modules]
 refine u3 (wpAny_specialOf k n ?_)
 have fin:wpAny (model a w) A (subscripted b false o i) (λr j=>wpAny (model a w) A (letTemporaryGo c o r>>=λ_=>pure r) Q E j) E d:=by
  rw[m o i]
  exact wpAny_operating (p8 f (λr j p=>u3 (wpAny_letTemporaryGo (t0 p))) λ_ _ x=>x)
 first
  | exact t0 (u3 fin)
  | exact u3 (t0 (u3 fin))
  | exact u3 fin
def zdx {s:zj} (I:Inv X c σ H s) (g:znW H a y o):s.TypeIs (.ref a) "dict":=by
 rcases g with ⟨d,k,e,_,_⟩ | ⟨d,k,b,e,_,_,_⟩
 .obtain⟨_,_,h,_,f⟩:=zlc I.hok e
  exact f.typeIs
 .obtain⟨_,_,i,_,f⟩:=zjI I.hok e
  exact f.typeIs
def zqR (b ty:TE):TE:=fun σ H Q=>b σ H λx H1=>ty σ H1 λy H2=>∃ a v,x=.ref a/\znW H2 a y (some v)/\Q v H2
def zrb (b ty tv:TE):TS:=λD σ H=>tv σ H λv H1=>b σ H1 λx H2=>ty σ H2 λy H3=>∃ a H4,x=.ref a/\zjp H3 a y v H4/\D.nx σ H4
section
variable {X:Cx}{o i e value:Expr}{pos pos' tpos:Pos}{td ty tv:TE}
def zmY (j:X.A.units+1<cLine)(f:PE X o td)(m:PE X i ty)(p:zrq i):PE X (.Subscript o i pos) (zqR td ty):=by
 intro b s σ H Q I h
 refine zmw PySem.F.slot_dict_getitem.lookup p (thn (f b s σ H _ I h) λu k ⟨x,H1,I1,e,d⟩=>thn (m b k σ H1 _ I1 d) λt q hh9=>?_)
 obtain⟨y,H2,I2,n,a,v,ex,g,l⟩:=hh9
 subst ex
 obtain rfl:u=Value.ref a:=e
 exact⟨zdx I2 g,zh6 j I2 g n λr w I3 c=>⟨v,H2,I3,c,l⟩⟩
def znA (w:X.A.units+1<cLine)(p:PE X o td)(j:PE X i ty)(m:PE X value tv)(k:swapsWith value (some (.Subscript o i pos')) pos.line X.env=pure false) :
 PS X (.Assign [.Subscript o i pos'] value pos) (zrb td ty tv):=by
 intro b s σ H D I h
 refine wpAny_Assign_Subscript (thn (m b s σ H _ I h) λr f ⟨v,H1,I1,e,c⟩=>thn (p b f σ H1 _ I1 c) λu d ⟨x,H2,I2,n,q⟩=>thn (j b d σ H2 _ I2 q) λz A hh9=>?_) k
 obtain⟨y,H3,I3,t,a,H4,ex,g,l⟩:=hh9
 subst ex
 obtain rfl:u=Value.ref a:=n
 exact zgH w I3 g t e λB I4=>⟨σ,H4,I4,l⟩
end
def zkE {w:World} (h:Heap) (a:sysModules<h.objs.size):yQ P w H (h.push { cls:=.type "dict",data:=.dict #[] }) h.objs.size (.dK []) :=
 ⟨g9 _,u0A.mpr (u0p (k7 a)),[],.nil,Heap.DictOf.new h⟩
def zko {w:World} (h:Heap) (a:sysModules<h.objs.size):yQ P w H (h.push { cls:=.type "dict",data:=.dict #[] }) h.objs.size (.dT []) :=
 ⟨g9 _,u0A.mpr (u0p (k7 a)),[],.nil,_,#[],0,q7 _ rfl,⟨rfl,rfl,rfl⟩,rfl,rfl,u04⟩
def zpg:TE:=λ_ H Q=>∀ p,H p=none->Q (.ref p) (upd H p (.dK []))
def zn7:TE:=λ_ H Q=>∀ p,H p=none->Q (.ref p) (upd H p (.dT []))
section
variable {X:Cx}{pos:Pos}
def zk6:PE X (.Dict [] [] pos) zpg:=λb s σ H Q I h =>
 wpAny_Dict_empty ⟨.ref s.heap.objs.size,_,I.laid (a:=s.heap.objs.size) (o:=.dK []) (t':=s.toks) (λ_ _ q=>u5 _ q) (t7 _) (zkE s.heap I.big),rfl,h _ (I.hok.fresh (t7 _))⟩
def zjn:PE X (.Dict [] [] pos) zn7:=λb s σ H Q I h =>
 wpAny_Dict_empty ⟨.ref s.heap.objs.size,_,I.laid (a:=s.heap.objs.size) (o:=.dT []) (t':=s.toks) (λ_ _ q=>u5 _ q) (t7 _) (zko s.heap I.big),rfl,h _ (I.hok.fresh (t7 _))⟩
end
def zdp {X:Cx}:Xl X (.builtin "isinstance") (λc H Q=>∃ x n t b,c=[x,.ty n]/\zew X.K H x t/\W.kitOne X.K t (.type n)=some b/\Q (.bl b) H):=by
 intro a s σ H c g Q I r h
 obtain⟨x,n,t,b,rfl,ty,e,q⟩:=h
 obtain⟨u,f,rfl,d,rt⟩:=zfD r
 cases (show f=Value.type n from rt)
 exact zgz I d ty e λtk=>⟨.bl b,H,I.tok _,rfl,q⟩
def zkY:OpR X (compareOp .Is) (λx y H Q=>∃ i j,x=.bl i/\y=.bl j/\Q (.bl (i == j)) H):=by
 intro a s σ H x y v u Q I b c h
 obtain⟨i,j,rfl,rfl,q⟩:=h
 cases b
 cases c
 refine wpAny_is_plain (by rfl) ⟨.bl (i == j),H,I,?_,q⟩
 cases i <;> cases j <;> rfl
def zdz:OpR X (compareOp .IsNot) (λx y H Q=>∃ i j,x=.bl i/\y=.bl j/\Q (.bl (!(i == j))) H):=by
 intro a s σ H x y v u Q I b c h
 obtain⟨i,j,rfl,rfl,q⟩:=h
 cases b
 cases c
 refine wpAny_isNot_plain (by rfl) ⟨.bl (!(i == j)),H,I,?_,q⟩
 cases i <;> cases j <;> rfl
def zme (K:zz):R2:=λx y H Q=>∃ a b c d,x=.ref a/\y=.ref b/\SqT K H a c/\SqT K H b d/\c.length+d.length<=sizeLine /\
 (c=[]->Q (.ref b) H)/\(c≠[]->d=[]->Q (.ref a) H)/\(c≠[]->d≠[]->∀ p,H p=none->Q (.ref p) (upd H p (.tup (c++d))))
def zjU {X:Cx}:OpR X (binaryOp .Add) (zme X.K):=by
 intro f s σ H x y v u Q I z D h
 obtain⟨a,b,C,P,rfl,rfl,A,q,O,K,E,M⟩:=h
 by_cases j:C=[]
 .subst j
  cases z
  cases D
  obtain⟨F,r,p,_⟩:=I.tuple A
  obtain⟨d,R,N,_⟩:=I.tuple q
  cases r
  obtain⟨⟨cls,J,data,G⟩,B,w,n,t⟩:=id p
  obtain⟨⟨o,m,k,l⟩,c,i,L,g⟩:=id N
  simp only at w t i g
  subst w t i g
  exact concat_meets ⟨_,B,rfl⟩ ⟨_,c,rfl⟩ noFill_tuple_add seq_tuple_add u1V u1N (u1A _ _)
   (tuple_addW0 a b #[] d.toArray n L J m G l rfl) ⟨B,c,⟨.ref b,H,I,rfl,K rfl⟩⟩
 .refine znE f s σ H (.ref a) (.ref b) v u Q I z D ⟨a,b,C,P,rfl,rfl,A,q,j,O,?_⟩
  exact⟨λe=>E j e,λe=>M j e⟩
inductive Xx:St->St->Prop where
 | nil:Xx [] []
 | non {a:Option V} {s t:St}:Xx s t->Xx (none::s) (a::t)
 | same {a:Option V} {s t:St}:Xx s t->Xx (a::s) (a::t)
def Xx.refl:∀ s:St,Xx s s
 | []=>.nil
 | _::r=>.same (Xx.refl r)
def Xx.length {s t:St}(h:Xx s t):s.length=t.length:=by
 induction h with
 | nil=>rfl
 | non _ a=>simp[a]
 | same _ a=>simp[a]
def Xx.get {t:St}(h:Xx s t):∀ (i:Nat) (v:V),s[i]?=some (some v)->t[i]?=some (some v):=by
 induction h with
 | nil=>intro i v e;exact e
 | non _ a =>
  intro i v e
  cases i with
  | zero=>simp at e
  | succ i=>simpa using a i v (by simpa using e)
 | same _ a =>
  intro i v e
  cases i with
  | zero=>simpa using e
  | succ i=>simpa using a i v (by simpa using e)
def Xx.set {n:Nat}:∀ {s t:St},Xx s t->s[n]?=some none->Xx s (t.set n (some v))
 | _,_,.nil,_=>.nil
 | _,_,.non (a:=a) h,e=>by
  cases n with
  | zero=>exact .non h
  | succ n=>exact .non (Xx.set h (by simpa using e))
 | _,_,.same (a:=a) h,e=>by
  cases n with
  | zero =>
   have b:a=none:=by simpa using e
   subst b
   exact .non h
  | succ n=>exact .same (Xx.set h (by simpa using e))
def Inv.sub (I:Inv X a σ H s)(h:Xx b σ):Inv X a b H s:=I.weak h.length h.get
def PIf (X:Cx)(b:xK)(t:TT):Prop :=
 ∀ (a:xn) (s:zj) (σ:St) (H:Hp) (Q:Bool->Hp->Prop),Inv X a σ H s->t σ H Q ->
  wpAny (model X.prog X.w) X.A (forIn b true λc r=>if r=true then do let ok<-isTrue c X.env (eval c X.env);pure (ForInStep.yield ok)else pure (ForInStep.yield r)) (TP X a σ Q) X.xe s
def tYes:TT:=λ_ H Q=>Q true H
def ziU:PIf X [] tYes:=by
 intro a s σ H Q I h
 rw[u17]
 exact t0 ⟨H,I,h⟩
def ziw {t:TT}(d:PT X c t):PIf X [c] t:=by
 intro a s σ H Q I h
 rw[u1I]
 refine u3 ?_
 rw[u9 rfl]
 refine u3 (thn (d a s σ H Q I h) λb e q=>t0 ?_)
 show wpAny _ _ (forIn [] b _) _ _ _
 rw[u17]
 exact t0 q
section
variable {prog:zH}{w:World}{A:zI}{R:Result->Shared->Prop}{s:zj}
def Zv {f:xK}{g:Value}(I:Nat->Shared->Prop) (turn:∀ n s,I n s->wpAny (model prog w) A (pyNext l) (λr o=>match r with
 | none=>R (.ok .next) o
 | some v=>wpAny (model prog w) A (letOwnedTupleGo a l v) (λ_ k=>wpAny (model prog w) A (assign a env v) (λ_ z =>
  wpAny (model prog w) A (forIn f true λc r=>if r=true then do let ok<-isTrue c env (eval c env);pure (ForInStep.yield ok)else pure (ForInStep.yield r)) (λok p =>
   if ok=true then wpAny (model prog w) A (eval i env) (λx y =>
    wpAny (model prog w) A (call (.builtin "list.append") [g,x]) (λ_ u=>∃ m,m<n/\I m u) (λ_ _=>False) y) (λ_ _=>False) p
   else ∃ m,m<n/\I m p) (λ_ _=>False) z) (λ_ _=>False) k) (λ_ _=>False) o) (λ_ _=>False) s) (n:Nat) (h:I n s) :
 codeAny (model prog w) A (.compLoop (.ListComp i [⟨a,e,f,0⟩] d j) 0 l g env) R s:=by
 refine codeAny_loop rfl I (λn s F=>?_) n h
 show wpAny _ A ((compTurn (.ListComp i [⟨a,e,f,0⟩] d j) 0 l g env).onRaise (λx=>do noteFrame x env;theTreesLotGoes x)) _ _ s
 refine wpAny_noted ?_
 rw[compTurn_list]
 refine u3 (wpAny_standAt (u3 (p8 (turn n s F) (λr o t=>?_) λ_ _ b=>b.elim)))
 cases r with
 | none=>exact t0 t
 | some v =>
  refine u3 (p8 t (λ_ k q=>?_) λ_ _ b=>b.elim)
  refine u3 (p8 q (λ_ z E=>u3 (p8 E (λok p B=>?_) λ_ _ b=>b.elim)) λ_ _ b=>b.elim)
  cases ok with
  | false=>exact t0 ⟨rfl,B⟩
  | true =>
   exact u3 (u3 (p8 B (λx y C=>u3 (p8 C (λ_ u D=>t0 (t0 ⟨rfl,D⟩)) λ_ _ b=>b.elim)) λ_ _ b=>b.elim))
end
def tLC (e:TI)(n:Nat)(g:TG)(f:TT)(h:TE):TE:=fun σ H Q=>e σ H λJ H1=>∀ D,H1 D=none->∃ W:Nat->Nat->zx->Hp->Prop,(∃ m,W 0 m [] (upd H1 D (.lst []))) /\
 ∀ i m a H2,W i m a H2->(J.stop i H2/\Q (.ref D) H2)\/(J.go i H2/\a.length<sizeLine/\∀ x H3,J.yld i H2 x H3->g x (List.replicate n none++σ) H3 λd H4=>f d H4 λb H5 =>
  if b=true then h d H5 λy H6=>H6 D=some (.lst a)/\∃ c,c<m/\W (i+1) c (a++[y]) (upd H6 D (.lst (a++[y])))else ∃ c,c<m/\W (i+1) c a H5)
def vB {α:Type}:∀ {l:List (Str × α)} {y:Str},y∈l.map Prod.fst->∃ c,l.lookup y=some c
 | [],_,h=>by simp at h
 | (k,v)::r,y,h=>by
  by_cases e:y=k
  .exact⟨v,by simp[List.lookup,e]⟩
  .obtain⟨c,a⟩:=vB (l:=r) (y:=y) (by simpa [e]using h)
   have b:(y == k)=false:=u0A.mpr e
   exact⟨c,by simp only[List.lookup,b];exact a⟩
def xz {α:Type}{P:α->Prop}:∀ p∈([]:List α),P p:=λ_ h=>nomatch h
def all_cons {α:Type}{P:α->Prop}{a:α}{l:List α}(h:P a)(t:∀ p∈l,P p):∀ p∈a::l,P p:=λp b=>by
 rcases t6.mp b with e | b
 .rw[e];exact h
 .exact t p b
def gs1 (σ:St)(v:V)(H:Hp)(Q:vf)(h:Zr 0 v (List.replicate 1 none++σ) H Q):Zr 0 v (List.replicate 1 none++σ) H (λa H2=>Xx (List.replicate 1 none++σ) a/\Q a H2):=⟨.set (.refl _) rfl,h⟩
def gs2 {K:zz}(σ:St)(v:V)(H:Hp)(Q:vf)(h:zqu K 2 (zds (Zr 0) (zds (Zr 1) zqD)) v (List.replicate 2 none++σ) H Q) :
 zqu K 2 (zds (Zr 0) (zds (Zr 1) zqD)) v (List.replicate 2 none++σ) H (λb H2=>Xx (List.replicate 2 none++σ) b/\Q b H2):=by
 obtain⟨a,g,e,hq,i,x,r,f,y,c,j,d,q⟩:=h
 exact⟨a,g,e,hq,i,x,r,f,y,c,j,d,.set (.set (.refl _) rfl) rfl,q⟩
def Zo (X:Cx)(L M:zJ)(a:Scope)(b:vD)(s₀:zj)(H₀:Hp)(ex:xx)(pn:xn):Cx :=
 { X with N:=L++M,s₀:=s₀,H₀:=H₀,env:=compEnvC a b s₀.heap.objs.size X.env,outer:=X.stack,stack:=X.stack,ex:=ex,fn:=λ_=>false,pn:=pn,xe:=λ_ _=>False }
structure xF (X:Cx) (L M:zJ) (scope:Scope) (cl:vD):Prop where
 clos:closureFor scope X.env=pure cl
 cell:∀ y∈scope.names,y.2≠.cell
 kind:scope.kind=.function
 names:∀ y∈scope.names,y.2=.local->scope.names.lookup y.1=some .local
 sub:∀ y c,cl.lookup y=some c->X.env.cells.lookup y=some c
 has:∀ y,((relabel scope X.env).names.lookup y=some .cell\/(relabel scope X.env).names.lookup y=some .free)->∃ c,cl.lookup y=some c
 mlen:M.length=X.N.length
 msk:∀ (i:Nat) y,M[i]?=some y->Vis (relabel scope X.env) y->X.N[i]?=some y
 vis:∀ (i:Nat) y,M[i]?=some y->Vis (relabel scope X.env) y->((relabel scope X.env).names.lookup y=some .cell\/(relabel scope X.env).names.lookup y=some .free)
 out:∀ (i:Nat) y,M[i]?=some y->Vis (relabel scope X.env) y->Vis X.env.scope y/\X.env.kindOf y≠some .local
def Inv.letGo {s:zj}(I:Inv X a σ H s)(f:za2 X a H C)(g:Heap.SameBut C s.heap j):Inv X a σ H { s with heap:=j }:=by
 obtain⟨k,u,w,l,t,r⟩:=f
 have i:∀ b,b∉[C]->b≠C:=λb h z=>h (by rw[z];exact q5.mpr rfl)
 refine I.call' (s':={ s with heap:=j }) (ch:=[C]) rfl ⟨λb o e _ _ d=>(g.2 b (i b d)).trans e,λb o e _ _ d=>⟨o.slots,(g.2 b (i b d)).trans e⟩,λ_ _ _ n _=>n,λb o e d=>⟨o,(g.2 b (i b d)).trans e⟩,λ_ _ q=>q,λ_ _ _ q=>q,λ_ _ q=>q⟩ ?_ I.bare λb h=>?_
 .intro b p e
  refine(I.hok b p e).stay (λc v m q=>(g.2 c ?_).trans q) (λ_ q=>q) λ_ _ q=>q
  rintro rfl
  rcases m with z | z
  .rw[<-z,k]at e;cases e
  .rw[k]at z;cases z
 .rw[q5.mp h]
  exact⟨l,u,t,r⟩
def zi3 {X:Cx}{t:Expr}{L:zJ}{g:TG}{tt:TT}(hc:X.calm=true)(S:xF X L M a cl)(hi:PI X tg t wi)(d8:∀ (σ:St) (v:V) (H:Hp) (Q:vf),g v (List.replicate L.length none++σ) H Q->g v (List.replicate L.length none++σ) H (fun σ2 H2=>Xx (List.replicate L.length none++σ) σ2/\Q σ2 H2))(hg:∀ s₀ H₀ ex pn,PG (Zo X L M a cl s₀ H₀ ex pn) tg g)(ht:∀ s₀ H₀ ex pn,PIf (Zo X L M a cl s₀ H₀ ex pn) b0 tt)(he:∀ s₀ H₀ ex pn,PE (Zo X L M a cl s₀ H₀ ex pn) a6 te)(hs:∀ x,foldedSetIterable t X.env x=pure x:=by intro _;rfl) :
 ∀ (O:Pos) (f:xn) (s:zj) (σ:St) (H:Hp) (Q:VK),Inv X f σ H s->tLC wi L.length g tt te σ H Q ->
  (∀ (D C:Addr) (H':Hp) (E:zj),Inv X f σ H' E->(∃ m,E.heap.Ns C m)->za2 X f H' C->Q (.ref D) H'->compPost (model X.prog X.w) X.A X.xe use Qf (.ref D) C (.ok .next) E) ->
  wpAny (model X.prog X.w) X.A (comprehension (.ListComp a6 [⟨tg,t,b0,0⟩] a c6) a X.env O (newList []) false (eval t X.env) use) Qf X.xe s:=by
 intro O f s σ H Q I h fin
 refine wpAny_comprehension_free (use:=use) rfl hs S.clos S.kind S.names (thn (hi f s σ H _ I h) λv s1 h1=>thn h1 λe8 l h2=>?_)
 obtain⟨it,B,tn,J,H2,e,I2,T,c3,f2,q⟩:=h2
 subst e
 have hD:H2 l.heap.objs.size=none:=I2.hok.fresh (t7 _)
 obtain⟨W,⟨m0,w0⟩,turn⟩:=q _ hD
 refine u0l (wpAny_newFunctionEnv S.cell (by intro y hy;simp at hy) (λh₁ U Z=>?_) S.kind)
 have I3:Inv X f σ (upd H2 l.heap.objs.size (.lst [])) { l with heap:=l.heap.push { cls:=.type "list",data:=.seq ([]:zt).toArray } }:=by
  refine I2.laid (t':=l.toks) (λb u e=>u5 _ e) (t7 _) ?_
  exact⟨g9 _,[],0,.nil,q7 _ rfl⟩
 generalize b5:({ l with heap:=l.heap.push { cls:=.type "list",data:=.seq ([]:zt).toArray } }:zj)=s3 at I3 U Z ⊢
 have N:∀ b∈B,b<l.heap.objs.size:=λb j=>by
  obtain⟨o,ho,_⟩:=T.obj _ _ c3 b j
  exact q4 ho
 have d2:s3.heap.objs.size=l.heap.objs.size+1:=by rw[<-b5];exact u0J ..
 have d6:∀ b o,l.heap.get? b=some o->s3.heap.get? b=some o:=λb o e=>by rw[<-b5];exact u5 _ e
 have w:∀ b o,s3.heap.get? b=some o->h₁.get? b=some o:=λb o e=>(Z.2 b (k7 (q4 e))).trans (u5 _ e)
 generalize e6:upd H2 l.heap.objs.size (.lst [])=H3 at I3 w0
 have b6:∀ b∈B,H3 b=none:=λb j=>by
  rw[<-e6,zn (k7 (N b j))]
  exact(f2 b j).1
 have c9:∀ b∈B,b∉frs X.stack:=λb j z=>by
  obtain⟨_,n1,n2,_⟩:=f2 b j
  rcases t6.mp (I3.stkSub b z)with e | e
  .exact n1 e
  .exact n2 e
 let Y:Cx:=Zo X L M a cl s3 H3 B (X.pn++f)
 have OkY:Y.Ok:=by
  refine⟨I.ok.mod,S.kind,I.ok.glob,I.ok.blt,t7 _,λx y c h1 h2=>I.ok.inj x y c (S.sub x c h1) (S.sub y c h2),λx hx=>S.has x hx,(λx c h _=>absurd h u6),I.ok.hd,I.ok.frames,.inl rfl,λb j=>⟨?_,λx c e z=>?_⟩,
   I3.bs,o5 I.ok.bsz I3.sz,λb o e j=>?_,c9,I3.stack,I3.stkFree⟩
  .show b≠s3.heap.objs.size
   exact k7 (j2 (N b j) (by rw[d2];exact u3d _))
  .exact(f2 b j).2.2.2.2.1 x c (S.sub x c e) z
  .rcases(f2 b j).2.2.2.1 with z | z
   .exact I.ok.noex b o e z
   .have h1:=q4 e
    have h2:=I.ok.bsz
    exact absurd (j2 h1 (o5 h2 z)) (i7 _)
 have I4:Inv Y [] (List.replicate L.length none++σ) H3 { s3 with heap:=h₁,toks:=s3.toks+([]:List (Str × Value)).length }:=by
  refine⟨OkY,rfl,I3.bare,Un.kept w,⟨_,U,λi y v e1 e2 e3=>?_⟩,λx c e=>?_,I3.hok.fresh (t7 _),λx c e=>I3.freeC x c (S.sub x c e),λp hp=>?_,I3.hok.kept w,?_⟩
  .have hi:¬ i<L.length:=λe4=>by
    rw[u0b (by simpa using e4),i5]at e2
    split at e2 <;> cases e2
   have a7:M[i-L.length]?=some y:=by
    have e1:(L++M)[i]?=some y:=e1
    rw[e9 (by omega)]at e1
    exact e1
   have d7:σ[i-L.length]?=some (some v):=by rw[e9 (by simpa using u1p hi)]at e2;simpa using e2
   have d9:=S.msk _ y a7 e3
   obtain⟨ov,ok⟩:=S.out _ y a7 e3
   obtain⟨m,hn,hl⟩:=I3.loc
   obtain⟨u,ru,lk⟩:=hl _ y v d9 d7 ov
   refine⟨u,ru,?_⟩
   rcases lk with ⟨hk,_⟩ | ⟨_,c,d3,a0⟩
   .exact absurd hk ok
   .have kn:=S.vis _ y a7 e3
    obtain⟨c',d0⟩:=S.has y kn
    have:=S.sub y c' d0
    rw[d3]at this
    cases this
    refine .inr ⟨kn,c,d0,?_⟩
    obtain⟨o,ho,hd⟩:=a0
    exact⟨o,w _ _ ho,hd⟩
  .obtain⟨v,o,ho,hd⟩:=I3.cell x c (S.sub x c e)
   exact⟨v,o,w _ _ ho,hd⟩
  .have a8:p∈X.pn++f:=f6 (X.pn++f) ▸ hp
   obtain⟨a1,a2,a3,a4,a5⟩:=I3.pin p a8
   refine⟨w _ _ a1,a2,k7 (q4 a1),λz=>?_,a5⟩
   rcases t6.mp (I3.stkSub p.1 z)with e | e
   .exact a3 e
   .exact a4 e
  .show(List.replicate L.length none++σ).length=(L++M).length
   rw[j5,j5,f8,I.len,S.mlen]
 have a9:∀ {H':Hp},(∀ b∈B,H' b=none)->∀ b∈B,za2 Y [] H' b:=λ{H'} hn b j=>by
  refine⟨hn b j,(OkY.exf b j).1,c9 b j,.inl j,(OkY.exf b j).2,λp hp=>?_⟩
  have a8:p∈X.pn++f:=f6 (X.pn++f) ▸ hp
  exact(f2 b j).2.2.2.2.2 p a8
 have c7:tn 0 h₁:=T.keep _ _ _ c3 λb j o e=>w b o (d6 b o e)
 -- behind the A
 have b9:∀ (H':Hp) (E:zj),Inv Y [] (List.replicate L.length none++σ) H' E->Q (.ref l.heap.objs.size) H'->compPost (model X.prog X.w) X.A X.xe use Qf (.ref l.heap.objs.size) s3.heap.objs.size (.ok .next) E:=λH' E J' q'=>by
  obtain⟨m,hn,_⟩:=J'.loc
  refine fin _ _ H' E (I3.call' (ch:=B) J'.os J'.base J'.hok J'.bare λb j=>?_) ⟨m,hn⟩ (I3.fpOk (t7 _) J'.free) q'
  obtain⟨_,n1,_,n3,n4,n5⟩:=f2 b j
  exact⟨n3,n1,n4,n5⟩
 have A:codeAny (model X.prog X.w) X.A (.compLoop (.ListComp a6 [⟨tg,t,b0,0⟩] a c6) 0 (.ref it) (.ref l.heap.objs.size) (compEnvC a cl s3.heap.objs.size X.env))
  (compPost (model X.prog X.w) X.A X.xe use Qf (.ref l.heap.objs.size) s3.heap.objs.size) { s3 with heap:=h₁,toks:=s3.toks+([]:List (Str × Value)).length }:=by
  refine Zv (λn E=>∃ i K H',Inv Y [] (List.replicate L.length none++σ) H' E/\tn i E.heap/\(∀ b∈B,H' b=none)/\W i n K H') ?_ m0 ⟨0,[],H3,I4,c7,b6,w0⟩
  rintro n s5 ⟨i,K,H5,I5,c5,c8,w5⟩
  rcases turn i n K H5 w5 with ⟨c0,qn⟩ | ⟨go,b8,step⟩
  .refine thn (T.done Y rfl rfl rfl hc i [] s5 _ H5 _ I5 (a9 c8) c5 c0) λr s6 hh9=>?_
   obtain⟨hr,I6⟩:=hh9
   subst hr
   exact b9 H5 s6 I6 qn
  .refine thn (T.item Y rfl rfl rfl hc i [] s5 _ H5 _ I5 (a9 c8) c5 go) λr s6 hh9=>?_
   obtain⟨u,hr,h6⟩:=hh9
   subst hr
   refine thn h6 λ_ s7 hh9=>?_
   obtain⟨x,H7,I7,r7,y7,b4,e0⟩:=hh9
   have I7':=I7.pinned (a9 e0) (T.obj _ _ b4)
   have g7:=d8 σ x H7 _ (step x H7 y7)
   refine thn (hg _ _ _ _ _ s7 _ H7 x u _ I7' r7 g7) λ_ s8 hh9=>?_
   obtain⟨σ8,H8,I8,P,q8⟩:=hh9
   have again:∀ {σ9:St} {H9:Hp} {s9:zj} {zs:zx},Inv Y ([]++Y9 B s7.heap) σ9 H9 s9->Xx (List.replicate L.length none++σ) σ9->(∃ m',m'<n/\W (i+1) m' zs H9) ->
    ∃ m,m<n/\∃ i K H',Inv Y [] (List.replicate L.length none++σ) H' s9/\tn i s9.heap/\(∀ b∈B,H' b=none)/\W i m K H':=λ{σ9 H9 s9 zs} I9 sub9 w9=>by
    obtain⟨m',hm,w9⟩:=w9
    refine⟨m',hm,i+1,zs,H9,(I9.sub sub9).unpinned,T.keep _ _ _ b4 λb j o e=>(I9.pin (b,o) (r3 _ (r3 _ (xh j e)))).1,λb j=>?_,w9⟩
    obtain⟨o,e,d⟩:=T.obj _ _ b4 b j
    exact(I9.pin (b,o) (r3 _ (r3 _ (xh j e)))).2.1
   refine thn (ht _ _ _ _ _ s8 σ8 H8 _ I8 q8) λb s9 hh9=>?_
   obtain⟨H9,I9,q9⟩:=hh9
   cases b with
   | false =>
    rw[t9 u6]at q9
    rw[t9 u6]
    exact again I9 P q9
   | true =>
    rw[u9 rfl]at q9
    rw[u9 rfl]
    refine thn (he _ _ _ _ _ s9 σ8 H9 _ I9 q9) λy G hh9=>?_
    obtain⟨yv,H10,I10,d5,R,e7⟩:=hh9
    obtain⟨e5,F,k,rv,d1⟩:K.length<=sizeLine/\∃ (F:zt) (n:Nat),yl K F/\G.heap.get? l.heap.objs.size=some { cls:=.type "list",data:=.seq F.toArray n }:=I10.hok _ _ R
    have b7:G.heap.PlainList l.heap.objs.size F.toArray:=⟨k,d1⟩
    refine wpAny_list_append_plain (hsz:=by rw[t8,<- rv.length];exact e5) b7 λd4 c1 c4=>?_
    obtain⟨k',c2⟩:=c1
    have I11:Inv Y ([]++Y9 B s7.heap) σ8 (upd H10 l.heap.objs.size (.lst (K++[yv]))) { G with heap:=d4 }:=by
     refine I10.write (x:=l.heap.objs.size) (e:=l.heap.objs.size) (t':=G.toks) (by rw[R];exact True.intro) (.inl rfl) (λb u j e=>(c4.2 b j).trans e) ⟨_,c2⟩ ?_
     refine⟨by rw[j5];show K.length+1<=sizeLine;exact b8,F++[y],k',rv.append (.cons d5 .nil),?_⟩
     rw[c2]
     simp
    exact again I11 P e7
 exact codeAny_compStart_list A (T.self _ 0 _ _ _ c7 A)
def zlx {X:Cx}{k:Expr}{L:zJ}{g:TG}(w:X.calm=true)(S:xF X L M a i)(u:PI X k b n)(j:∀ (σ:St) (v:V) (H:Hp) (Q:vf),g v (List.replicate L.length none++σ) H Q->g v (List.replicate L.length none++σ) H (λp H2=>Xx (List.replicate L.length none++σ) p/\Q p H2))(B:∀ s₀ H₀ ex pn,PG (Zo X L M a i s₀ H₀ ex pn) k g)(z:∀ s₀ H₀ ex pn,PIf (Zo X L M a i s₀ H₀ ex pn) d r)(E:∀ s₀ H₀ ex pn,PE (Zo X L M a i s₀ H₀ ex pn) c o)(A:∀ x,foldedSetIterable b X.env x=pure x:=by intro _;rfl) :
 PE X (.ListComp c [⟨k,b,d,0⟩] a l) (tLC n L.length g r o):=by
 intro e s σ H Q I h
 rw[eval_ListComp]
 refine zi3 w S u j B z E A _ e s σ H Q I h λD C H' G I' ⟨m,t⟩ f q=>⟨m,t,λF y=>⟨.ref D,_,I'.letGo f y,rfl,q⟩⟩
def zlF {i:Nat}{x:Str}{t n:Pos}{X:Cx}{j r c:Expr}{k:xK}{L M:zJ}{a:Scope}{w:vD}{l:Pos}{K:TI}{g:TG}{R:TT}{N:TE}
 (hN:X.N.Nodup) (E:X.N[i]?=some x) (hx:Loc X.env.scope x) (U:X.calm=true) (S:xF X L M a w) (T:PI X r c K)
 (B:∀ (σ:St) (v:V) (H:Hp) (Q:vf),g v (List.replicate L.length none++σ) H Q->g v (List.replicate L.length none++σ) H (λy H2=>Xx (List.replicate L.length none++σ) y/\Q y H2))
 (hg:∀ s₀ H₀ ex pn,PG (Zo X L M a w s₀ H₀ ex pn) r g) (Y:∀ s₀ H₀ ex pn,PIf (Zo X L M a w s₀ H₀ ex pn) k R) (he:∀ s₀ H₀ ex pn,PE (Zo X L M a w s₀ H₀ ex pn) j N)
 (hs:∀ x,foldedSetIterable c X.env x=pure x:=by intro _;rfl)
 (G:swapsWith (.ListComp j [⟨r,c,k,0⟩] a l) (some (.Name x t)) n.line X.env=pure true:=by rfl)
 (Z:X.fn x=true\/X.env.scope.names.lookup x=some .local:=by first | exact .inl rfl | exact .inr rfl | assumption) :
 PS X (.Assign [.Name x t] (.ListComp j [⟨r,c,k,0⟩] a l) n) (znQ (tLC K L.length g R N) (Zr i)):=by
 intro p s σ H D I h
 rw[exec_Assign_Name_used _ _ _ _ G]
 refine u3 (wpAny_standAt (u3 ?_))
 show wpAny _ X.A (do let _<-comprehension (.ListComp j [⟨r,c,k,0⟩] a l) a X.env _ (newList []) false (eval c X.env) (some (assign (.Name x t) X.env))) _ _ s
 refine u3 (thn (zi3 (use:=some (assign (.Name x t) X.env)) (Qf:=λ_ u=>SP X p D .next u) U S T B hg Y he hs _ p s σ H _ I h λD' C H' u I' ⟨m,J⟩ f q=>?_) λ_ u hq=>t0 (t0 hq))
 have A:∀ b∈[C],∃ o,u.heap.get? b=some o/\∀ v,o.data≠.cell v:=λb F=>by
  rw[q5.mp F]
  obtain⟨o,P,O,e,d,_⟩:=J
  exact⟨o,e,λv z=>by rw[z]at d;cases d⟩
 have I2:=I'.pinned (fp:=[C]) (λb F=>by rw[q5.mp F];exact f) A
 refine thn (yA (pos:=t) hN E hx Z _ u σ H' (.ref D') (.ref D') _ I2 rfl q) λ_ s2 hh9=>?_
 obtain⟨y,H2,I3,q3⟩:=hh9
 obtain⟨o,P,O,e,d⟩:=J
 have pn:=I3.pin (C,o) (r3 _ (r3 _ (xh (q5.mpr rfl) e)))
 exact⟨m,⟨o,P,O,pn.1,d⟩,λh' W=>⟨y,H2,I3.unpinned.letGo ⟨pn.2.1,f.2⟩ W,q3⟩⟩
def xJ (names a b:List (Str × NameKind))(N M c:zJ):Bool :=
 names.all (λy=>decide (y.2≠.cell))&&names.all (λy=>decide (y.2=.local->names.lookup y.1=some .local)) &&
 a.all (λy=>decide ((y.2=.cell\/y.2=.free)->y.1∈c)) &&
 (M.length == N.length)&&(M.zip N).all (λp=>decide ((a.lookup p.1=some .local\/a.lookup p.1=some .cell\/a.lookup p.1=some .free)->p.1=p.2)) &&
 M.all (λy=>decide ((a.lookup y=some .local\/a.lookup y=some .cell\/a.lookup y=some .free) ->
  (a.lookup y=some .cell\/a.lookup y=some .free)/\(b.lookup y=some .local\/b.lookup y=some .cell\/b.lookup y=some .free)/\b.lookup y≠some .local))
def YD {X:Cx}{N k:zJ}{a:Scope}{f:vD}(j:(relabel a X.env).names=r)(t:X.env.scope.names=q)(o:X.N=N)(d:closureFor a X.env=pure f)(kind:a.kind=.function)(u:f.map Prod.fst=k)(b:xJ a.names r q N M k=true)(l:∀ p∈f,X.env.cells.lookup p.1=some p.2):xF X L M a f:=by
 unfold xJ at b
 simp only[r4,f9,j3]at b
 obtain⟨⟨⟨⟨⟨x,E⟩,m⟩,g⟩,w⟩,s⟩:=b
 have g:M.length=N.length:=by simpa using g
 refine⟨d,x,kind,E,λy c h=>l (y,c) (p7 h),λy h=>?_,by rw[o];exact g,λi y e v=>?_,λi y e v=>?_,λi y e v=>?_⟩
 .rw[j]at h
  have z:y∈k:=by
   rcases h with h | h
   .exact m _ (p7 h) (.inl rfl)
   .exact m _ (p7 h) (.inr rfl)
  exact vB (by rw[u];exact z)
 .unfold Vis at v
  rw[j]at v
  have C:=(t5.mp e).1
  have n:i<N.length:=by rw[<-g];exact C
  have D:(M.zip N)[i]?=some (y,N[i]):=by
   rw[u22]
   exact⟨e,u8 n⟩
  have:=w _ (j4 D) v
  rw[o,u8 n]
  exact u0q some this.symm
 .unfold Vis at v
  rw[j]at v ⊢
  exact(s y (j4 e) v).1
 .unfold Vis at v
  rw[j]at v
  obtain⟨_,A,B⟩:=s y (j4 e) v
  refine⟨?_,?_⟩
  .unfold Vis;rw[t];exact A
  .show X.env.scope.names.lookup y≠_;rw[t];exact B
end L2
namespace PySem
open Sem (wp)
open AutoSeq1 (wpAny_loadPart')
section
variable {prog:zH}{w:World}{A:zI}{E:yL}{s:zj}
def YN {items}{Q:yL}(hit:s.heap.IsTupleIter a l i)(hl:s.heap.IsTuple l items)(hx:items[i]?=some x)(hQ:∀ f,f.IsTupleIter a l (i+1)->Heap.SameBut a s.heap f->Q x { s with heap:=f }) :
 wpAny (model prog w) A (Builtin.SmallTypes.nextOf (.ref a)) Q E s:=by
 obtain⟨o,c,g,b⟩:=id hit
 obtain⟨h,d,_,j,e⟩:=hl
 unfold Builtin.SmallTypes.nextOf
 refine u3 (i9 (name:=Str.ofString "__next__") hit.typeIs u0M
  (u0H u0M hit.typeIs F.entry_tuple_iterator_next ?_ (F.args_tuple_iterator_next_1 _)))
 show wpAny _ _ (field (.ref a) 0>>=_) _ _ s
 refine u3 (u0j c b (x:=.ref l) rfl ?_)
 show wpAny _ _ (if (Value.ref l == Value.none)=true then _ else _) _ _ s
 rw[t9 (show ¬ ((Value.ref l == Value.none)=true)from u6)]
 show wpAny _ _ (field (.ref a) 1>>=_) _ _ s
 refine u3 (u0j c b (x:=.int i 0) rfl ?_)
 show wpAny _ _ (seqItems? (.ref l)>>=_) _ _ s
 refine u3 (u0m d e ?_)
 simp only[u1e,hx]
 refine u3 (wpAny_setField c b (by simp) (t0 ⟨x,rfl,t0 (hQ _ ?_ (u0x ..))⟩))
 exact⟨_,u0R _ c (Obj.isFreed_of_fields (Obj.data_mapFields b _)),(Obj.cls_mapFields ..).trans g,by
  rw[Obj.data_mapFields b];simp[rawInt]⟩
def wF {items} (hh:A.handled=none) (hit:s.heap.IsTupleIter b l i) (hl:s.heap.IsTuple l items) (hx:items[i]?=none) (hE:∀ h e,Heap.ExtBut b s.heap h->(∃ o,h.get? e=some o/\o.cls=.type "StopIteration")->E (.ref e) { s with heap:=h }) :
 wpAny (model prog w) A (Builtin.SmallTypes.nextOf (.ref b)) Q E s:=by
 obtain⟨o,c,j,d⟩:=id hit
 obtain⟨k,f,_,n,g⟩:=hl
 unfold Builtin.SmallTypes.nextOf
 refine u3 (i9 (name:=Str.ofString "__next__") hit.typeIs u0M
  (u0H u0M hit.typeIs F.entry_tuple_iterator_next ?_ (F.args_tuple_iterator_next_1 _)))
 show wpAny _ _ (field (.ref b) 0>>=_) _ _ s
 refine u3 (u0j c d (x:=.ref l) rfl ?_)
 show wpAny _ _ (if (Value.ref l == Value.none)=true then _ else _) _ _ s
 rw[t9 (show ¬ ((Value.ref l == Value.none)=true)from u6)]
 show wpAny _ _ (field (.ref b) 1>>=_) _ _ s
 refine u3 (u0j c d (x:=.int i 0) rfl ?_)
 show wpAny _ _ (seqItems? (.ref l)>>=_) _ _ s
 refine u3 (u0m f g ?_)
 simp only[u1e,hx]
 refine u3 (u1i (u3 (wpAny_setField c d (by simp) ?_)))
 show wpAny _ _ (newExc (.type "StopIteration") []>>=_) _ _ _
 refine u3 ?_
 simp only[newExc,newTuple]
 refine u3 (u0l ?_ (by size_fits))
 refine u3 (m:=firstArgMember _ _) (wpAny_of_eq (a:=Value.none) (by first | rfl | (simp only[firstArgMember];rfl)) ?_)
 refine u0l ?_ (by size_fits)
 simp only[raiseNew]
 refine u3 (wpAny_handled ?_)
 first | rw[show A.in1.handled=none from hh] | rw[hh]
 refine u3 (t0 (wpAny_throw ?_))
 exact hE _ _ (((u0x ..).extBut.push _).push _) ⟨_,q7 _ rfl,rfl⟩
end
def Zt {c:zH}{w:World}{A:zI}{E:yL}{s:zj}{e d l:Addr}{i:Nat}{a:zP}{k:Value}{Q:Option Value->Shared->Prop}(v:A.handled=none)
 (m:IsEnum s.heap e d i k) (j:s.heap.IsTupleIter d l i) (t:s.heap.IsTuple l a) (u:a[i]?=none)
 (r:∀ f,Heap.ExtBut d s.heap f->Q none { s with heap:=f }):wpAny (model c w) A (pyNext (.ref e)) Q E s:=by
 have n:s.TypeIs (.ref e) "enumerate":=⟨_,m,rfl⟩
 unfold pyNext
 refine u3 (u03 (i9 (name:=Str.ofString "__next__") n F.slot_enumerate_next
  (u0H F.slot_enumerate_next n F.entry_enumerate_next ?_ (F.args_enumerate_next_1 _))))
 show wpAny _ _ (field (.ref e) 2>>=_) _ _ _
 refine u3 (u0j m rfl (x:=.ref d) rfl ?_)
 refine u3 (wF v j t u λf x g h=>?_)
 obtain⟨o,q,p⟩:=h
 refine u3 (wpAny_isInstance (T:="StopIteration") (b:=true) ⟨o,q,p⟩ isSubtype_stop ?_)
 exact t0 (r _ g)
def YK {prog:zH}{w:World}{A:zI}(hh:A.handled=none)(it l:Addr)(hne:l≠it)(items:zP) :
 Draws prog w A it [it,l] items.size (λi v=>items[i]?=some v) (λi h=>h.IsTupleIter it l i/\h.IsTuple l items) where
 live:=λ_ _ st=>let ⟨o,ho,_⟩:=st.1;⟨o,ho⟩
 frame:=λ_ _ _ st hk=>by
  obtain⟨⟨o,ho,r⟩,⟨o2,ho2,r2⟩⟩:=st
  exact⟨⟨o,hk it (by simp) o ho,r⟩,⟨o2,hk l (by simp) o2 ho2,r2⟩⟩
 item:=λi s Q E hi st hQ=>by
  refine YN st.1 st.2 (x:=items[i]) (by simp[hi]) λh' hit' hs'=>?_
  exact hQ _ h' s.toks (by simp[hi]) ⟨hit',st.2.extBut hs'.extBut hne⟩ hs'
 done:=λs Q E st hE=>wF hh st.1 st.2 (by simp) hE
def Xo (l:Addr)(a:zP)(n:Nat)(k:x4)(j:Array (Option Value)) :
 Meets (Builtin.«enumerate.__new__» ⟨[.type "enumerate",.ref l],[]⟩) (λ_ R s=>s.heap.get? l=some { cls:=.type "tuple",dict:=k,data:=.seq a n,slots:=j } /\
  R (.ok (.ret (.ref (s.heap.push { cls:=.type "tuple_iterator",data:=.fields #[.ref l,.int 0 0] }).objs.size)))
   { s with heap:=(s.heap.push { cls:=.type "tuple_iterator",data:=.fields #[.ref l,.int 0 0] }).push { cls:=.type "enumerate",data:=.fields #[.none,.bool false,.ref s.heap.objs.size,rawInt 0,.none,.none] } }) :=
 .of_wp λi w A R s h=>by
  obtain⟨m,g,d,tk,os⟩:=s;obtain⟨b,h⟩:=h
  have f:=sub_enumerate
  have e:Heap.IsTuple (Shared.heap ⟨m,g,d,tk,os⟩) l a:=⟨_,b,rfl,n,rfl⟩
  wp_walk using u0d b
  refine wpAny_stack_any λo=>t0 ?_
  split
  .rename_i c _ _ _ _ _
   cases (c == Value.type "enumerate")
   .wp_walk using u0d b,u0a e
    exact⟨_,rfl,h⟩
   .wp_walk using u0d b,u0a e
    exact⟨_,rfl,h⟩
  .wp_walk using u0d b,u0a e
   exact⟨_,rfl,h⟩
section
variable {prog:zH}{w:World}{A:zI}{E:yL}{s:zj}
def Zs {Q:yL}(p:s.heap.IsTuple l a) (h:∀ c,IsEnum c (s.heap.objs.size+1) s.heap.objs.size 0 .none->c.IsTupleIter s.heap.objs.size l 0->c.objs.size=s.heap.objs.size+2 ->
 (∀ b o,s.heap.get? b=some o->c.get? b=some o)->Q (.ref (s.heap.objs.size+1)) { s with heap:=c }) :
 wpAny (model prog w) A (call (.type "enumerate") [.ref l]) Q E s:=by
 obtain⟨⟨cls,m,data,k⟩,j,f,n,i⟩:=p
 simp only at f i
 subst f i
 refine callType_new F.called_enumerate (by decide) (F.typeCall_enumerate_1 _) (F.newCall_enumerate_1 _) (λe=>F.args_object_init_2 e _) F.entry_enumerate_new
  (Xo l a n m k) ⟨j,?_⟩
 have d:(s.heap.push { cls:=.type "tuple_iterator",data:=.fields #[.ref l,.int 0 0] }).objs.size=s.heap.objs.size+1:=u0J ..
 show _/\_
 rw[d]
 have g:IsEnum ((s.heap.push { cls:=.type "tuple_iterator",data:=.fields #[.ref l,.int 0 0] }).push
  { cls:=.type "enumerate",data:=.fields #[.none,.bool false,.ref s.heap.objs.size,rawInt 0,.none,.none] }) (s.heap.objs.size+1) s.heap.objs.size 0 .none:=by
  have:=q7 (s.heap.push { cls:=.type "tuple_iterator",data:=.fields #[.ref l,.int 0 0] })
   (o:={ cls:=.type "enumerate",data:=.fields #[.none,.bool false,.ref s.heap.objs.size,rawInt 0,.none,.none] }) rfl
  rw[d]at this;exact this
 refine⟨⟨_,g,rfl⟩,h _ g ⟨_,u5 _ (q7 _ rfl),rfl,rfl⟩ (by rw[u0J,d]) λb o x=>u5 _ (u5 _ x)⟩
end
end PySem
namespace L2
open PySem PySem.Spec PyProof.Rows
section
variable {X:Cx}{pins:xn}{σ:St}{H:Hp}{s:zj}{h':Heap}
def Inv.grown {ch:xx}{T:Addr}{o:HO}{x:Nat}(I:Inv X pins σ H s)(d:∀ b∈ch,za2 X pins H b)(t:s.heap.objs.size<=T)(k:∀ b u,b∉ch->s.heap.get? b=some u->h'.get? b=some u)
 (j:yQ X.prog X.w (upd H T o) h' T o):Inv X pins σ (upd H T o) { s with heap:=h',toks:=x }:=by
 have g:H T=none:=I.hok.fresh t
 have i:∀ b u,s.heap.get? b=some u->b≠T:=λb u e=>k7 (j2 (q4 e) t)
 have f:∀ b u,H b=some u->b∉ch:=λb u e z=>by rw[(d b z).1]at e;cases e
 refine I.step (g':=s.gens) (d':=s.drawn) (ch:=ch) (λb h=>?_) (λb u _ _ a e _=>k b u a e) (λb u _ _ a e _=>⟨u.slots,k b u a e⟩) (λb u _ e n=>by rw[zn (i b u e)];exact n)
  (λb u a e=>⟨u,k b u a e⟩) (λb p e=>by rw[zn (zg e g)];exact e) (λb u p e=>by rw[zn (zg e g)];exact e) (λb G e=>by rw[zn (zg e g)];exact e) (λm w=>?_) (λb u e=>?_) I.bare
 .obtain⟨_,F,_,B,y,E⟩:=d b h
  exact⟨B,F,y,E⟩
 .obtain⟨l,C,A,D,r⟩:=w
  exact⟨l,C,A,k _ l (λz=>(d _ z).2.1 rfl) D,r⟩
 .by_cases h:b=T
  .subst h;rw[zq]at e;cases e;exact j
  .rw[zn h]at e
   refine(I.hok b u e).stay (λc v a q=>k c v ?_ q) (λc q=>by rw[zn (zg q g)];exact q) λc p q=>by rw[zn (zg q g)];exact q
   rcases a with z | z
   .rw[z];exact f b u e
   .exact f c _ z
def Inv.turnedN {ch:xx}{t':Nat}(I:Inv X pins σ H s)(d:∀ b∈ch,za2 X pins H b)(k:∀ b u,b∉ch->s.heap.get? b=some u->h'.get? b=some u):Inv X pins σ H { s with heap:=h',toks:=t' }:=by
 have f:∀ b u,H b=some u->b∉ch:=λb u e z=>by rw[(d b z).1]at e;cases e
 refine I.step (g':=s.gens) (d':=s.drawn) (ch:=ch) (λb t=>?_) (λb u _ _ a e _=>k b u a e) (λb u _ _ a e _=>⟨u.slots,k b u a e⟩) (λb u _ e n=>n)
  (λb u a e=>⟨u,k b u a e⟩) (λb h e=>e) (λb u h e=>e) (λ_ _ e=>e) (λm o=>?_) (λb u e=>?_) I.bare
 .obtain⟨_,w,_,i,x,p⟩:=d b t
  exact⟨i,w,x,p⟩
 .obtain⟨g,j,y,l,r⟩:=o
  exact⟨g,j,y,k _ g (λz=>(d _ z).2.1 rfl) l,r⟩
 .refine(I.hok b u e).stay (λc v a q=>k c v ?_ q) (λc q=>q) λc h q=>q
  rcases a with z | z
  .rw[z];exact f b u e
  .exact f c _ z
end
def Iel (K:zz)(a:Addr):It :=
 ⟨λi H=>∃ b x,SqL K H a b/\b[i]?=some x,λi H v H'=>∃ T x,v=.ref T/\H T=none/\H'=upd H T (.tup [.int i,x])/\∀ b,SqL K H a b->b[i]?=some x,λi H=>∃ b,SqL K H a b/\b.length<=i⟩
def Iet (K:zz)(a:Addr):It :=
 ⟨λi H=>∃ b x,SqT K H a b/\b[i]?=some x,λi H v H'=>∃ T x,v=.ref T/\H T=none/\H'=upd H T (.tup [.int i,x])/\∀ b,SqT K H a b->b[i]?=some x,λi H=>∃ b,SqT K H a b/\b.length<=i⟩
def zfN {P:zH}{w:World}{K:zz}{es:xK}{k:Nat}{tp:Pos}(a e it:Addr)(hne:e≠it) :
 zlq P w K (.Tuple es k tp) (Iel K a) [e,it] e (λi h=>(∃ old,IsEnum h e it i old)/\h.IsListIter it a i) where
 mem:=by simp
 obj:=λi h st b hb=>by
  obtain⟨⟨old,he⟩,o,ho,_,hd⟩:=st
  rcases t6.mp hb with rfl | hb
  .exact⟨_,he,λv z=>by cases z⟩
  .rw[q5.mp hb]
   exact⟨o,ho,λv z=>by rw[hd]at z;cases z⟩
 keep:=λi h h' st kk=>by
  obtain⟨⟨old,he⟩,hit⟩:=st
  exact⟨⟨old,kk e (by simp) _ he⟩,hit.at λo q=>kk it (by simp) o q⟩
 item:=by
  intro X hP hw hK hc i pins s σ H E I hf st hg
  subst hP hw hK
  obtain⟨⟨old,he⟩,hit⟩:=st
  obtain⟨xs,x,hq,hx⟩:=hg
  obtain⟨its,rv,p,hz⟩:=I.list hq
  obtain⟨u,hu,ru⟩:=rv.get hx
  refine wpAny_pyNext_enum_item he hit p.isList (x:=u) (by simpa using hu) hne λh1 ho1 hit1 hT1 hz1 hk1=>?_
  refine⟨_,rfl,wpAny_letOwnedTupleGo_enum ho1 λh2 he2 hs2=>?_⟩
  have hfr:H s.heap.objs.size=none:=I.hok.fresh (t7 _)
  have neE:s.heap.objs.size≠e:=u1c (q4 he)
  have hT2:h2.get? s.heap.objs.size=some { cls:=.type "tuple",data:=.seq #[.int i s.toks,u] }:=(hs2.2 _ neE).trans hT1
  refine⟨.ref s.heap.objs.size,upd H s.heap.objs.size (.tup [.int i,x]),?_,rfl,⟨_,x,rfl,hfr,rfl,λys hy=>by rw[I.list_inj hy hq];exact hx⟩,⟨⟨_,by simpa using he2⟩,hit1.at λo q=>(hs2.2 it (u0p hne)).trans q⟩,λb hb=>?_⟩
  .refine I.grown (ch:=[e,it]) hf (t7 _) (λb v hb q=>?_) ?_
   .have n1:b≠e:=λz=>hb (by simp[z])
    have n2:b≠it:=λz=>hb (by simp[z])
    exact(hs2.2 b n1).trans (hk1 b v n1 n2 q)
   .exact⟨by show 2<=sizeLine;decide,[.int i s.toks,u],.cons ⟨_,rfl⟩ (.cons ru .nil),⟨_,hT2,rfl,0,rfl⟩⟩
  .obtain⟨o,hb2,_⟩:∃ o,s.heap.get? b=some o/\True:=by
    rcases t6.mp hb with rfl | hb
    .exact⟨_,he,trivial⟩
    .rw[q5.mp hb]
     obtain⟨o,ho,_⟩:=hit
     exact⟨o,ho,trivial⟩
   rw[zn (k7 (q4 hb2))]
   exact(hf b hb).1
 done:=by
  intro X hP hw hK hc i pins s σ H E I hf st hg
  subst hP hw hK
  obtain⟨⟨old,he⟩,hit⟩:=st
  obtain⟨xs,hq,hx⟩:=hg
  obtain⟨its,rv,p,hz⟩:=I.list hq
  have hl:=rv.length
  exact wpAny_pyNext_enum_end (I.ok.hd hc) he hit p.isList (by simp;omega) λh1 hx1=>⟨rfl,I.turnedN (ch:=[e,it]) (t':=s.toks) hf λb v hb q=>hx1 b v (λz=>hb (by simp[z])) q⟩
 self:=λ_ _ _ _ _ st h=>u16 st.1.choose_spec h
def zfo {P:zH}{w:World}{K:zz}{es:xK}{k:Nat}{tp:Pos}(a e it:Addr)(hne:e≠it)(hai:a≠it)(hae:a≠e) :
 zlq P w K (.Tuple es k tp) (Iet K a) [e,it] e (λi h=>(∃ old,IsEnum h e it i old)/\h.IsTupleIter it a i) where
 mem:=by simp
 obj:=λi h st b hb=>by
  obtain⟨⟨old,he⟩,o,ho,_,hd⟩:=st
  rcases t6.mp hb with rfl | hb
  .exact⟨_,he,λv z=>by cases z⟩
  .rw[q5.mp hb]
   exact⟨o,ho,λv z=>by rw[hd]at z;cases z⟩
 keep:=λi h h' st kk=>by
  obtain⟨⟨old,he⟩,o,ho,r⟩:=st
  exact⟨⟨old,kk e (by simp) _ he⟩,o,kk it (by simp) o ho,r⟩
 item:=by
  intro X hP hw hK hc i pins s σ H E I hf st hg
  subst hP hw hK
  obtain⟨⟨old,he⟩,hit⟩:=st
  obtain⟨xs,x,hq,hx⟩:=hg
  obtain⟨its,rv,p,hz⟩:=I.tuple hq
  obtain⟨u,hu,ru⟩:=rv.get hx
  have p':s.heap.IsTuple a its.toArray:=p
  have D:=YK (prog:=X.prog) (w:=X.w) (A:=X.A.in1) (I.ok.hd hc) it a hai its.toArray
  have hlt:i<its.toArray.size:=by
   obtain⟨h1,_⟩:=t5.mp hu
   simpa using h1
  refine wpAny_pyNext_enum_itemD D he ⟨hit,p'⟩ hlt hne (by simp[hne,u0p hae]) λu' h1 tk hP1 ho1 hit1 hT1 hz1 hk1=>?_
  have eu:u'=u:=by
   have:its[i]?=some u':=by simpa using hP1
   rw[hu]at this
   exact(g0 this).symm
  subst eu
  refine⟨_,rfl,wpAny_letOwnedTupleGo_enum ho1 λh2 he2 hs2=>?_⟩
  have hfr:H s.heap.objs.size=none:=I.hok.fresh (t7 _)
  have neE:s.heap.objs.size≠e:=u1c (q4 he)
  have hT2:h2.get? s.heap.objs.size=some { cls:=.type "tuple",data:=.seq #[.int i tk,u'] }:=(hs2.2 _ neE).trans hT1
  refine⟨.ref s.heap.objs.size,upd H s.heap.objs.size (.tup [.int i,x]),?_,rfl,⟨_,x,rfl,hfr,rfl,λys hy=>by rw[I.tuple_inj hy hq];exact hx⟩,⟨⟨_,by simpa using he2⟩,?_⟩,λb hb=>?_⟩
  .refine I.grown (ch:=[e,it]) hf (t7 _) (λb v hb q=>?_) ?_
   .have n1:b≠e:=λz=>hb (by simp[z])
    have n2:b≠it:=λz=>hb (by simp[z])
    exact(hs2.2 b n1).trans (hk1 b v n1 n2 q)
   .exact⟨by show 2<=sizeLine;decide,[.int i tk,u'],.cons ⟨_,rfl⟩ (.cons ru .nil),⟨_,hT2,rfl,0,rfl⟩⟩
  .obtain⟨o,ho,r⟩:=hit1.1
   exact⟨o,(hs2.2 it (u0p hne)).trans ho,r⟩
  .obtain⟨o,hb2,_⟩:∃ o,s.heap.get? b=some o/\True:=by
    rcases t6.mp hb with rfl | hb
    .exact⟨_,he,trivial⟩
    .rw[q5.mp hb]
     obtain⟨o,ho,_⟩:=hit
     exact⟨o,ho,trivial⟩
   rw[zn (k7 (q4 hb2))]
   exact(hf b hb).1
 done:=by
  intro X hP hw hK hc i pins s σ H E I hf st hg
  subst hP hw hK
  obtain⟨⟨old,he⟩,hit⟩:=st
  obtain⟨xs,hq,hx⟩:=hg
  obtain⟨its,rv,p,hz⟩:=I.tuple hq
  have hl:=rv.length
  have p':s.heap.IsTuple a its.toArray:=p
  exact Zt (I.ok.hd hc) he hit p' (by simp;omega) λh1 hx1=>⟨rfl,I.turnedN (ch:=[e,it]) (t':=s.toks) hf λb v hb q=>hx1 b v (λz=>hb (by simp[z])) q⟩
 self:=λ_ _ _ _ _ st h=>u16 st.1.choose_spec h
def zre (K:zz)(ta:TA):TI:=fun σ H R=>ta σ H λc H1=>∃ a,c=[.ref a]/\((∃ b,H1 a=some (.lst b)/\R (Iel K a) H1)\/(∃ b,SqT K H1 a b/\R (Iet K a) H1))
def zmW {X:Cx} {k:Nat} (N:Gl X "enumerate") (D:X.mg "enumerate"=none) (g:bootBuiltins "enumerate"=some (.type "enumerate")) (K:PA X [a] ta) (G:starEach [a] X.env=[(false,eval a X.env)]:=by rfl):PI X (.Tuple J k E) (.Call (.Name "enumerate" p) [a] [] j) (zre X.K ta):=by
 intro d s σ H R I h
 refine Call_ (vp I N D g (o8 (thn (K j d s σ H _ I h) λP f hh9=>?_) G rfl))
 obtain⟨Q,H1,I1,F,C⟩:=hh9
 obtain⟨l,e,q⟩:=C
 subst e
 obtain⟨u,rfl,M⟩:=zbN F
 cases M
 have y:∀ b,f.heap.objs.size<=b->za2 X d H1 b:=λb g=>I1.fpOk g (I1.hok.fresh g)
 have r:f.heap.objs.size+1≠f.heap.objs.size:=by omega
 have m:∀ b∈[f.heap.objs.size+1,f.heap.objs.size],za2 X d H1 b:=λb g=>by
  rcases t6.mp g with rfl | g
  .exact y _ (u3d _)
  .rw[q5.mp g];exact y _ (t7 _)
 rcases q with ⟨w,x,q⟩ | ⟨w,x,q⟩
 .obtain⟨_,c,n,_,e⟩:w.length<=sizeLine/\∃ (c:zt) (n:Nat),yl w c/\f.heap.get? l=some { cls:=.type "list",data:=.seq c.toArray n }:=I1.hok _ _ x
  refine call_enumerate_1 e λB t i O v=>u16 t ?_
  exact⟨_,_,_,_,H1,rfl,I1.kept (t':=f.toks) v,zfN l _ _ r,⟨⟨_,t⟩,i⟩,m,q⟩
 .obtain⟨c,_,z,_⟩:=I1.tuple x
  have A:l<f.heap.objs.size:=by
   obtain⟨o,L,_⟩:=z
   exact q4 L
  refine Zs (show f.heap.IsTuple l c.toArray from z) λB t i O v=>u16 t ?_
  exact⟨_,_,_,_,H1,rfl,I1.kept (t':=f.toks) v,zfo l _ _ r (k7 A) (k7 (u1g A)),⟨⟨_,t⟩,i⟩,m,q⟩
end L2
namespace HT
open PySem PyProof.Rows
def lexLe:zc->zc->Bool
 | [],_=>true
 | _::_,[]=>false
 | x::xs,y::ys=>if x=y then lexLe xs ys else decide (x<=y)
def ze8 (x y:Int)(b a:zc):lexLe (x::b) (y::a)=if x=y then lexLe b a else decide (x<=y):=rfl
def zj2 (A:zI)(s:zj)(a:Int)(t:Tok)(c:Int)(u:Tok)(b:zH)(w:World)(E:yL)(Q:yL)(h:Q (.bool (decide (a<=c))) s) :
 wpAny (model b w) A (richCompare .LtE (.int a t) (.int c u)) Q E s :=
 (PyProof.Rows.le_int h:wpAny (model b w) A (compareOp .LtE (.int a t) (.int c u)) Q E s)
section
open PySem.SeqAt
open PySem.AutoSeq1 (wpAny_loadPart')
open PySem.MeetsSeq PySem.MeetsSeq2 PySem.MeetsSeq3
theorem zaz (l b:Addr)(i f:zP)(n V:Nat)(U N:x4)(T M:Array (Option Value))(I G:zc)(O:IntsAre i.toList I)(Q:IntsAre f.toList G) :
 Meets (Builtin.«tuple.__le__» ⟨[.ref l,.ref b],[]⟩)
  (λ_ R s=>s.heap.get? l=some { cls:=.type "tuple",dict:=U,data:=.seq i n,slots:=T }/\s.heap.get? b=some { cls:=.type "tuple",dict:=N,data:=.seq f V,slots:=M } /\
   R (.ok (.ret (.bool (lexLe I G)))) s) :=
 .of_wp λr w A R s h=>by
  obtain⟨J,g,d,tk,os⟩:=s;obtain⟨W,S,h⟩:=h
  have f2:=AutoSeq1.sub_tuple_tuple
  have Y:i.size=I.length:=by rw[<-O.length];simp
  have Z:f.size=G.length:=by rw[<-Q.length];simp
  wp_walk using u0d W,u0d S,wpAny_forIn_list _ (λrest b K=>b.1=none/\K=⟨J,g,d,tk,os⟩/\∃ (H F:zt) (m k:zc),rest=H.zip F /\
   IntsAre H m/\IntsAre F k/\m.length+f.size=k.length+i.size/\R (.ok (.ret (.bool (lexLe m k)))) ⟨J,g,d,tk,os⟩) _
  case turn =>
   rintro⟨y,x⟩ rest b K ⟨C,rfl,H,F,m,k,o,B,z,j,v⟩
   cases B with
   | nil=>rw[List.zip_nil_left]at o;cases o
   | cons a t E =>
    cases z with
    | nil=>rw[u2U]at o;cases o
    | cons c u D =>
     rw[u0S]at o
     injection o with hyx hrest
     injection hyx with hy hx
     subst hy hx
     rw[ze8]at v
     simp only[k4]at j
     obtain⟨e,X,p⟩:=ze6 A.in1 ⟨J,g,d,tk,os⟩ a t c u
     refine u3 (X r w _ _ ?_)
     cases e with
     | true =>
      rw[u9 (p.mp rfl)]at v
      wp_walk
      exact⟨rfl,rfl,_,_,_,_,hrest,E,D,by omega,v⟩
     | false =>
      rw[t9 (λq=>absurd (p.mpr q) u6)]at v
      have L:=zj2 A.in1 ⟨J,g,d,tk,os⟩ a t c u r w
      wp_walk using L
      exact⟨_,rfl,by simpa using v⟩
  case fin =>
   rintro⟨b1,b2⟩ K ⟨C,rfl,H,F,m,k,o,B,z,j,v⟩
   simp only at C
   subst C
   have P:lexLe m k=decide (i.size<=f.size):=by
    cases B with
    | nil =>
     simp only[u0X]at j
     show true=_
     exact(j0 (by omega)).symm
    | cons a t P =>
     cases z with
     | nil =>
      simp only[u0X,k4]at j
      show false=_
      exact(j8 (by omega)).symm
     | cons c u hw =>
      rw[u0S]at o
      cases o
   rw[P]at v
   wp_walk
   exact⟨_,rfl,by simpa [Builtin.Tuple.tupleCompareSizes]using v⟩
  case h =>
   exact⟨rfl,rfl,i.toList,f.toList,I,G,rfl,O,Q,by omega,h⟩
end
section
variable {prog:zH}{w:World}{A:zI}{E:yL}{s:zj}
def le_tupInts {c a:zP}{Q:yL}(z:IsTup s.heap l c)(t:IsTup s.heap b a)(B:IntsAre c.toList e)(u:IntsAre a.toList d)(D:A.units<cLine)(h:Q (.bool (lexLe e d)) s):wpAny (model prog w) A (compareOp .LtE (.ref l) (.ref b)) Q E s:=by
 obtain⟨⟨cls,y,data,v⟩,p,o,n,r⟩:=id z
 obtain⟨⟨q,m,k,j⟩,f,g,C,i⟩:=id t
 simp only at o r g i
 subst o r g i
 exact richCompare_meets_room (op:=.LtE) ⟨_,p,rfl⟩ ⟨_,f,rfl⟩ PySem.F.slot_tuple_le PySem.F.entry_tuple_le (PySem.F.args_tuple_le_2 _ _) (zaz l b c a n C y m v j e d B u)
  ⟨p,f,show Value.bool (lexLe e d)≠Value.notImplemented/\Q (.bool (lexLe e d)) s from⟨(λx=>nomatch x),h⟩⟩ D
end
end HT
namespace L2
open PySem PySem.Spec PyProof.Rows
def rLeT (K:zz):R2:=λx y H Q=>∃ a b d c,x=.ref a/\y=.ref b/\SqT K H a (d.map V.int)/\SqT K H b (c.map V.int)/\Q (.bl (HT.lexLe d c)) H
def zp7 {X:Cx}(o:X.A.units<cLine):OpR X (compareOp .LtE) (rLeT X.K):=by
 intro f s σ H x y v u Q I l w h
 obtain⟨a,b,g,e,rfl,rfl,m,p,q⟩:=h
 cases l
 cases w
 obtain⟨d,r,t,_⟩:=I.tuple m
 obtain⟨c,i,j,_⟩:=I.tuple p
 have n:IntsAre d.toArray.toList g:=XI r
 have k:IntsAre c.toArray.toList e:=XI i
 exact HT.le_tupInts t j n k o ⟨.bl (HT.lexLe g e),H,I,rfl,q⟩
end L2
namespace HT
open PySem PyProof.Rows
section
variable {prog:zH}{w:World}{A:zI}{E:yL}{s:zj}
def own_getItem_whole {t g:Addr}{a:zP}{k:Value}{Q:yL}(c:IsTup s.heap t a)(l:s.heap.IsSliceOf g k n .none)(p:IsPart k b)(o:IsPart n e)(hw:sIx a.size 0 b=0/\sIx a.size a.size e=a.size)(h:Q (.ref t) s):wpAny (model prog w) A (getItem (.ref t) (.ref g)) Q E s:=by
 obtain⟨os,i,f,q⟩:=id l
 have j:s.TypeIs (.ref g) "slice":=⟨os,i,f⟩
 unfold getItem
 try with_reducible refine i0 ?_
 first | refine u3 (t0 ?_) | skip
 refine u3 (wpAny_sequenceKey c.typeIs (by decide) ?_)
 refine u3 (i9 (name:=Str.ofString "__getitem__") c.typeIs l4
  (u0H l4 c.typeIs entry_tuple_getitem ?_ (args_tuple_getitem _ _)))
 show wpAny _ _ (Builtin.Tuple.tupleItemsOf (.ref t)>>=_) _ _ s
 refine u3 (tupleItemsOf_ c ?_)
 refine u3 (u2e j ?_)
 rw[u9 (by decide)]
 refine u3 (Yt l p o ?_)
 have d:(((sIx a.size 0 b:Nat):Int) == 0&&(1:Int) == 1&&(sIx a.size a.size e-sIx a.size 0 b) == a.size)=true:=by
  rw[hw.1,hw.2]
  simp
 show wpAny _ _ (if (((sIx a.size 0 b:Nat):Int) == 0&&(1:Int) == 1&&(sIx a.size a.size e-sIx a.size 0 b) == a.size)=true then _ else _) _ _ s
 rw[u9 d]
 refine u3 (m:=Builtin.Tuple.tupleIsExact (.ref t)) ?_
 unfold Builtin.Tuple.tupleIsExact
 refine u3 (u2e c.typeIs (t0 ?_))
 rw[u9 (by decide)]
 refine u3 (u1i ?_)
 first
  | exact t0 ⟨_,rfl,t0 h⟩
  | exact u3 (t0 (t0 ⟨_,rfl,t0 h⟩))
end
end HT
namespace PySem
open Sem (wp)
def xS {w:World}{f:xx}{k:Nat}{St:Nat->Heap->Prop}(D:Draws c w A i f n P St)(l:St k h)(m:Heap.SameBut a h d)(g:a∉f):St k d :=
 D.frame _ _ _ l λb j o e=>(m.2 b λz=>g (z ▸ j)).trans e
structure zlg (z TI TO i1 i2:Addr) (fp1 fp2:xx):Prop where
 nd:[z,TI,TO,i1,i2].Nodup
 z1:z∉fp1
 z2:z∉fp2
 o1:TO∉fp1
 o2:TO∉fp2
 i12:i1∉fp2
 i21:i2∉fp1
section
variable {prog:zH}{w:World}{A:zI}{E:yL}{s:zj}{z TI TO i1 i2:Addr}{fp1 fp2:xx}{n1 n2 k1 k2:Nat}{P1 P2:Nat->Value->Prop}{St1 St2:Nat->Heap->Prop}{a b:Value}
theorem zbS {Q:yL}(D1:Draws prog w A i1 fp1 n1 P1 St1)(D2:Draws prog w A i2 fp2 n2 P2 St2)(ap:zlg z TI TO i1 i2 fp1 fp2)
 (u:IsZip s.heap z TI TO .none) (J:IsPair s.heap TI (.ref i1) (.ref i2)) (K:IsPair s.heap TO a b) (h1:St1 k1 s.heap) (h2:St2 k2 s.heap) (l1:k1 < n1) (l2:k2 < n2)
 (hQ:∀ x y g tk,P1 k1 x->P2 k2 y->IsZip g z TI TO (rawInt s.heap.objs.size)->IsPair g TO x y->St1 (k1+1) g->St2 (k2+1) g->IsPair g s.heap.objs.size x y ->
  (∀ c o,c∉[z,TO,i1,i2]->s.heap.get? c=some o->g.get? c=some o)->Q (.ref s.heap.objs.size) { s with heap:=g,toks:=tk }) :
 wpAny (model prog w) A (Builtin.«zip.__next__» ⟨[.ref z],[]⟩) (λfin s'=>∃ v,fin=.done (.ret v)/\Q v s') E s:=by
 obtain⟨S,k,l,j,i,N,H⟩:=ap
 simp only[f7,t6,r8,u0D,u3A,u15,u04,and_true]at S
 obtain⟨⟨a3,f,M,G⟩,⟨n5,n6,n7⟩,⟨n8,n9⟩,a2⟩:=S
 show wpAny _ _ (field (.ref z) 2>>=_) _ _ _
 refine u3 (u0j u rfl (x:=.bool false) rfl ?_)
 show wpAny _ _ (field (.ref z) 3>>=_) _ _ _
 refine u3 (u0j u rfl (x:=.ref TI) rfl (u3 (u0m J rfl ?_)))
 show wpAny _ _ (Builtin.SmallTypes.ownedTupleIsFree (.ref z)>>=_) _ _ _
 refine u3 ?_
 unfold Builtin.SmallTypes.ownedTupleIsFree
 refine u3 (u0j u rfl (x:=.none) rfl (t0 ?_))
 simp only[u14]
 refine u3 (u1i (u3 (u0j u rfl (x:=.ref TO) rfl (u3 (u07 u (by simp) λg1 z1 b1=>?_)))))
 refine u3 ?_
 simp only[u2n,u3t,u1I,u17]
 refine u3 (u3 (wpAny_onRaise ?_))
 show wpAny _ _ (Builtin.SmallTypes.nextOf (.ref i1)>>=_) _ _ _
 refine u3 (D1.item k1 _ _ _ l1 (xS D1 h1 b1 k) λx g2 a0 px F b2=>t0 ?_)
 have Y:IsPair g2 TO a b:=(b2.2 TO n8).trans ((b1.2 TO (u0p f)).trans K)
 refine u3 (u0m Y rfl (u3 (wpAny_updateSeq_pair Y λZ o3 b3=>?_)))
 refine u3 (u1t (t0 ?_))
 refine u3 (u3 (wpAny_onRaise ?_))
 show wpAny _ _ (Builtin.SmallTypes.nextOf (.ref i2)>>=_) _ _ _
 have I:St2 k2 Z:=xS D2 (xS D2 (xS D2 h2 b1 l) b2 N) b3 i
 refine u3 (D2.item k2 _ _ _ l2 I λy g4 a1 py L p=>t0 ?_)
 have T:IsPair g4 TO x b:=(p.2 TO n9).trans o3
 refine u3 (u0m T rfl (u3 (wpAny_updateSeq_pair T λd C r=>?_)))
 replace C:IsPair d TO x y:=C
 refine u3 (u1t (t0 (t0 ?_)))
 refine u3 (u0m C rfl ?_)
 show wpAny _ _ (newTuple [x,y]>>=_) _ _ _
 refine u3 (wpAny_newTuple ?_)
 have t:d.objs.size=s.heap.objs.size:=by rw[r.1,p.1,b3.1,b2.1,b1.1]
 have P:IsZip d z TI TO .ellipsis:=(r.2 z f).trans ((p.2 z G).trans ((b3.2 z f).trans ((b2.2 z M).trans z1)))
 have m:z < d.objs.size:=q4 P
 show wpAny _ _ (Builtin.SmallTypes.ownedTupleHandOut (.ref z) (.ref d.objs.size)>>=_) _ _ _
 refine u3 ?_
 unfold Builtin.SmallTypes.ownedTupleHandOut
 have z6:IsZip (d.push { cls:=.type "tuple",data:=.seq #[x,y] }) z TI TO .ellipsis:=u5 _ P
 refine u3 (u07 z6 (by simp) λg7 z7 O=>?_)
 refine u07 z7 (by simp) λB z8 V=>?_
 have D:∀ c o,c≠z->d.get? c=some o->B.get? c=some o:=λc o n e=>(V.2 c n).trans ((O.2 c n).trans (u5 _ e))
 have R:IsPair B d.objs.size x y:=(V.2 _ (u1c m)).trans ((O.2 _ (u1c m)).trans (q7 _ rfl))
 have U:IsZip B z TI TO (rawInt d.objs.size):=z8
 rw[t]at U R
 refine t0 ⟨_,rfl,?_⟩
 show Q (.ref d.objs.size) _
 rw[t]
 have f1:St1 (k1+1) d:=xS D1 (xS D1 (xS D1 F b3 j) p H) r j
 have f2:St2 (k2+1) d:=xS D2 L r i
 refine hQ x y B _ px py U (D _ _ (u0p f) C) (D1.frame _ _ _ f1 λc h o e=>D c o (λq=>k (q ▸ h)) e) (D2.frame _ _ _ f2 λc h o e=>D c o (λq=>l (q ▸ h)) e) R λc o h e=>?_
 simp only[t6,r8,u0D,u3A]at h
 obtain⟨W,X,c3,c4⟩:=h
 exact D c o W ((r.2 c X).trans ((p.2 c c4).trans ((b3.2 c X).trans ((b2.2 c c3).trans ((b1.2 c W).trans e)))))
def zdG (D1:Draws prog w A i1 fp1 n1 P1 St1) (g:z∉fp1) (v:i1≠z) (d:IsZip s.heap z TI TO .none) (i:IsPair s.heap TI (.ref i1) (.ref i2)) (r:St1 n1 s.heap) (p:∀ h e,(∀ c o,c≠z->c≠i1->s.heap.get? c=some o->h.get? c=some o)->(∃ o,h.get? e=some o/\o.cls=.type "StopIteration")->E (.ref e) { s with heap:=h }) :
 wpAny (model prog w) A (Builtin.«zip.__next__» ⟨[.ref z],[]⟩) Q E s:=by
 show wpAny _ _ (field (.ref z) 2>>=_) _ _ _
 refine u3 (u0j d rfl (x:=.bool false) rfl ?_)
 show wpAny _ _ (field (.ref z) 3>>=_) _ _ _
 refine u3 (u0j d rfl (x:=.ref TI) rfl (u3 (u0m i rfl ?_)))
 show wpAny _ _ (Builtin.SmallTypes.ownedTupleIsFree (.ref z)>>=_) _ _ _
 refine u3 ?_
 unfold Builtin.SmallTypes.ownedTupleIsFree
 refine u3 (u0j d rfl (x:=.none) rfl (t0 ?_))
 simp only[u14]
 refine u3 (u1i (u3 (u0j d rfl (x:=.ref TO) rfl (u3 (u07 d (by simp) λB l b1=>?_)))))
 refine u3 ?_
 simp only[u2n,u3t,u1I,u17]
 refine u3 (u3 (wpAny_onRaise ?_))
 show wpAny _ _ (Builtin.SmallTypes.nextOf (.ref i1)>>=_) _ _ _
 refine u3 (D1.done _ _ _ (xS D1 r b1 g) λt e b2 y=>?_)
 obtain⟨n,a,b⟩:=y
 have j:IsZip t z TI TO .ellipsis:=b2 _ _ (u0p v) l
 have f:e≠z:=λq=>by subst q;rw[j]at a;cases a;simp at b
 exact u07 j (by simp) λm _ b3=>p m e (λc o k u q=>(b3.2 c k).trans (b2 c o u ((b1.2 c k).trans q))) ⟨n,(b3.2 e f).trans a,b⟩
end
def zaT (b:Bool)(h:Heap)(a l:Addr)(k:Nat):Prop:=if b=true then h.IsListIter a l k else h.IsTupleIter a l k
def zfe (b:Bool)(h:Heap)(l:Addr)(a:zP):Prop:=if b=true then h.IsList l a else h.IsTuple l a
def Vy {w:World}{A:zI}(e:A.handled=none)(b:Bool)(c l:Addr)(d:l≠c)(a:zP) :
 Draws prog w A c [c,l] a.size (λi v=>a[i]?=some v) (λi h=>zaT b h c l i/\zfe b h l a):=by
 cases b with
 | true=>exact Draws.list e c l d a
 | false=>exact YK e c l d a
def zgF (b:Bool) (l:Addr):Obj:={ cls:=.type (if b=true then "list_iterator" else "tuple_iterator"),data:=.fields #[.ref l,.int 0 0] }
abbrev zpA (h:Heap)(b1:Bool)(a:Addr):Heap:=h.push (zgF b1 a)
abbrev zpB (h:Heap)(b1 b2:Bool)(b a:Addr):Heap:=(zpA h b1 b).push (zgF b2 a)
abbrev zpC (h:Heap) (b1 b2:Bool) (a b:Addr):Heap:=(zpB h b1 b2 a b).push (Obj.mk (.type "tuple") none (.seq #[.ref h.objs.size,.ref (zpA h b1 a).objs.size]) #[])
abbrev zpD (h:Heap) (b1 b2:Bool) (b a:Addr):Heap:=(zpC h b1 b2 b a).push (Obj.mk (.type "tuple") none (.seq #[.none,.none]) #[])
abbrev zpE (h:Heap) (b1 b2:Bool) (b a:Addr):Heap:=(zpD h b1 b2 b a).push (Obj.mk (.type "zip") none (.fields #[.none,.bool false,.bool false,.ref (zpB h b1 b2 b a).objs.size,.ref (zpC h b1 b2 b a).objs.size]) #[])
def zdj (b1 b2:Bool)(c f:Addr)(l k:zP) :
 Meets (Builtin.«zip.__new__» ⟨[.type "zip",.ref c,.ref f],[]⟩) (λ_ R s=>zfe b1 s.heap c l/\zfe b2 s.heap f k /\
  R (.ok (.ret (.ref (zpD s.heap b1 b2 c f).objs.size))) { s with heap:=zpE s.heap b1 b2 c f }) :=
 .of_wp λn w A R s h=>by
  obtain⟨i,g,d,tk,os⟩:=s;obtain⟨j,e,h⟩:=h
  have m:=sub_zip
  cases b1 with
  | true =>
   have b:Heap.IsList (Shared.heap ⟨i,g,d,tk,os⟩) c l:=j
   cases b2 with
   | true =>
    have a:Heap.IsList (Shared.heap ⟨i.push { cls:=.type "list_iterator",data:=.fields #[.ref c,.int 0 0] },g,d,tk,os⟩) f k:=Heap.IsList.push e _
    wp_walk using u00 b,u00 a
    exact⟨_,rfl,h⟩
   | false =>
    have a:Heap.IsTuple (Shared.heap ⟨i.push { cls:=.type "list_iterator",data:=.fields #[.ref c,.int 0 0] },g,d,tk,os⟩) f k:=Heap.IsTuple.push e _
    wp_walk using u00 b,u0a a
    exact⟨_,rfl,h⟩
  | false =>
   have b:Heap.IsTuple (Shared.heap ⟨i,g,d,tk,os⟩) c l:=j
   cases b2 with
   | true =>
    have a:Heap.IsList (Shared.heap ⟨i.push { cls:=.type "tuple_iterator",data:=.fields #[.ref c,.int 0 0] },g,d,tk,os⟩) f k:=Heap.IsList.push e _
    wp_walk using u0a b,u00 a
    exact⟨_,rfl,h⟩
   | false =>
    have a:Heap.IsTuple (Shared.heap ⟨i.push { cls:=.type "tuple_iterator",data:=.fields #[.ref c,.int 0 0] },g,d,tk,os⟩) f k:=Heap.IsTuple.push e _
    wp_walk using u0a b,u0a a
    exact⟨_,rfl,h⟩
end PySem
namespace PySem
section
variable {prog:zH}{w:World}{A:zI}{E:yL}{s:zj}
def zb7 {b1 b2:Bool}{t:zP}{Q:yL}(j:zfe b1 s.heap a t)(n:zfe b2 s.heap d z) (h:∀ f,IsZip f (s.heap.objs.size+4) (s.heap.objs.size+2) (s.heap.objs.size+3) .none->IsPair f (s.heap.objs.size+2) (.ref s.heap.objs.size) (.ref (s.heap.objs.size+1)) ->
 IsPair f (s.heap.objs.size+3) .none .none->zaT b1 f s.heap.objs.size a 0->zaT b2 f (s.heap.objs.size+1) d 0 ->
 (∀ c o,s.heap.get? c=some o->f.get? c=some o)->Q (.ref (s.heap.objs.size+4)) { s with heap:=f }) :
 wpAny (model prog w) A (call (.type "zip") [.ref a,.ref d]) Q E s:=by
 refine callType_new F.called_zip (by decide) (F.typeCall_zip_2 _ _) (F.newCall_zip_2 _ _) (λp=>F.args_object_init_3 p _ _) F.entry_zip_new
  (zdj b1 b2 a d t z) ⟨j,n,?_⟩
 have i:(zpA s.heap b1 a).objs.size=s.heap.objs.size+1:=u0J ..
 have k:(zpB s.heap b1 b2 a d).objs.size=s.heap.objs.size+2:=by rw[u0J,i]
 have q:(zpC s.heap b1 b2 a d).objs.size=s.heap.objs.size+3:=by rw[u0J,k]
 have u:(zpD s.heap b1 b2 a d).objs.size=s.heap.objs.size+4:=by rw[u0J,q]
 have m:(zpE s.heap b1 b2 a d).get? (zpD s.heap b1 b2 a d).objs.size=some _:=q7 _ rfl
 have v:(zpE s.heap b1 b2 a d).get? (zpC s.heap b1 b2 a d).objs.size=some _:=u5 _ (q7 _ rfl)
 have r:(zpE s.heap b1 b2 a d).get? (zpB s.heap b1 b2 a d).objs.size=some _:=u5 _ (u5 _ (q7 _ rfl))
 have y:(zpE s.heap b1 b2 a d).get? (zpA s.heap b1 a).objs.size=some (zgF b2 d):=u5 _ (u5 _ (u5 _ (q7 _ rfl)))
 have B:(zpE s.heap b1 b2 a d).get? s.heap.objs.size=some (zgF b1 a):=u5 _ (u5 _ (u5 _ (u5 _ (q7 _ rfl))))
 show _/\_
 rw[k,q,u]at m
 rw[i,k]at r
 rw[q]at v
 rw[i]at y
 rw[u]
 have g:∀ {b:Bool} {l c:Addr},(zpE s.heap b1 b2 a d).get? c=some (zgF b l)->zaT b (zpE s.heap b1 b2 a d) c l 0:=λ{b l c} e=>by
  cases b
  .exact⟨_,e,rfl,rfl⟩
  .exact⟨_,e,rfl,rfl⟩
 exact⟨⟨_,m,rfl⟩,h _ m r v (g B) (g y) λc o x =>
  u5 _ (u5 _ (u5 _ (u5 _ (u5 _ x))))⟩
variable {z TI TO i1 i2:Addr}{fp1 fp2:xx}{n1 n2 k1 k2:Nat}{P1 P2:Nat->Value->Prop}{St1 St2:Nat->Heap->Prop}{a b:Value}
theorem ZL {Q:Option Value->Shared->Prop}(D1:Draws prog w A.in1 i1 fp1 n1 P1 St1)(D2:Draws prog w A.in1 i2 fp2 n2 P2 St2)(j:zlg z TI TO i1 i2 fp1 fp2)
 (g:IsZip s.heap z TI TO .none) (f:IsPair s.heap TI (.ref i1) (.ref i2)) (e:IsPair s.heap TO a b) (q:St1 k1 s.heap) (i:St2 k2 s.heap) (m:k1 < n1) (B:k2 < n2)
 (k:∀ x y d tk,P1 k1 x->P2 k2 y->IsZip d z TI TO (rawInt s.heap.objs.size)->IsPair d TO x y->St1 (k1+1) d->St2 (k2+1) d->IsPair d s.heap.objs.size x y ->
  (∀ c o,c∉[z,TO,i1,i2]->s.heap.get? c=some o->d.get? c=some o)->Q (some (.ref s.heap.objs.size)) { s with heap:=d,toks:=tk }) :
 wpAny (model prog w) A (pyNext (.ref z)) Q E s:=by
 have h:s.TypeIs (.ref z) "zip":=⟨_,g,rfl⟩
 unfold pyNext
 exact u3 (u03 (i9 (name:=Str.ofString "__next__") h u2z
  (u0H u2z h F.entry_zip_next
   (zbS D1 D2 j g f e q i m B λx y d tk p C n v r l u t=>t0 (k x y d tk p C n v r l u t)) (F.args_zip_next_1 _))))
def Xt {Q:Option Value->Shared->Prop}(D1:Draws prog w A.in1 i1 fp1 n1 P1 St1)(d:z∉fp1)(k:i1≠z)
 (g:IsZip s.heap z TI TO .none) (a:IsPair s.heap TI (.ref i1) (.ref i2)) (p:St1 n1 s.heap)
 (m:∀ f,(∀ c o,c≠z->c≠i1->s.heap.get? c=some o->f.get? c=some o)->Q none { s with heap:=f }):wpAny (model prog w) A (pyNext (.ref z)) Q E s:=by
 have h:s.TypeIs (.ref z) "zip":=⟨_,g,rfl⟩
 unfold pyNext
 refine u3 (u03 (i9 (name:=Str.ofString "__next__") h u2z
  (u0H u2z h F.entry_zip_next (zdG D1 d k g a p λf e i n=>?_) (F.args_zip_next_1 _))))
 obtain⟨o,l,j⟩:=n
 refine u3 (wpAny_isInstance (T:="StopIteration") (b:=true) ⟨o,l,j⟩ isSubtype_stop ?_)
 exact t0 (m _ i)
end
end PySem
namespace L2
open PySem PySem.Spec PyProof.Rows
def Sq (b:Bool)(K:zz)(H:Hp)(a:Addr)(c:zx):Prop:=if b=true then SqL K H a c else SqT K H a c
def Inv.sq {X:Cx}{s:zj}(I:Inv X d σ H s)(h:Sq b X.K H a e):∃ c:zt,yl e c/\zfe b s.heap a c.toArray/\a<s.heap.objs.size:=by
 cases b with
 | true =>
  obtain⟨c,r,p,_⟩:=I.list (show SqL X.K H a e from h)
  exact⟨c,r,p.isList,by obtain⟨o,n,f,_⟩:=p;exact q4 f⟩
 | false =>
  obtain⟨c,r,p,_⟩:=I.tuple (show SqT X.K H a e from h)
  exact⟨c,r,p,by obtain⟨o,f,_⟩:=p;exact q4 f⟩
def Inv.sq_inj {X:Cx}{f:zx}(I:Inv X c σ H s)(h:Sq b X.K H a e)(d:Sq b X.K H a f):e=f:=by
 cases b with
 | true=>exact I.list_inj h d
 | false=>exact I.tuple_inj h d
def Izp (K:zz)(b1 b2:Bool)(c d:Addr):It :=
 ⟨λi H=>∃ a b x y,Sq b1 K H c a/\Sq b2 K H d b/\a[i]?=some x/\b[i]?=some y,
  λi H v H'=>∃ T x y,v=.ref T/\H T=none/\H'=upd H T (.tup [x,y])/\(∀ a,Sq b1 K H c a->a[i]?=some x)/\(∀ b,Sq b2 K H d b->b[i]?=some y),
  λi H=>∃ a,Sq b1 K H c a/\i=a.length⟩
def Z8 {h:Heap}{k:Nat}(x:zaT b h d l k):∃ o,h.get? d=some o/\∀ v,o.data≠.cell v:=by
 cases b
 .obtain⟨o,a,_,c⟩:=x
  exact⟨o,a,λv z=>by rw[c]at z;cases z⟩
 .obtain⟨o,a,_,c⟩:=x
  exact⟨o,a,λv z=>by rw[c]at z;cases z⟩
def Wt {h d:Heap}{k:Nat}(x:zaT b h a l k)(e:∀ o,h.get? a=some o->d.get? a=some o):zaT b d a l k:=by
 cases b
 .obtain⟨o,c,r⟩:=x
  exact⟨o,e o c,r⟩
 .obtain⟨o,c,r⟩:=x
  exact⟨o,e o c,r⟩
def zkS {P:zH}{w:World}{K:zz}{es:xK}{k:Nat}{tp:Pos}(b1 b2:Bool)(l1 l2 z TI TO i1 i2:Addr)(ap:zlg z TI TO i1 i2 [i1,l1] [i2,l2])(n1:l1≠i1)(n2:l2≠i2) :
 zlq P w K (.Tuple es k tp) (Izp K b1 b2 l1 l2) [z,TI,TO,i1,i2] z (λi h=>IsZip h z TI TO .none/\IsPair h TI (.ref i1) (.ref i2)/\(∃ a b,IsPair h TO a b)/\zaT b1 h i1 l1 i/\zaT b2 h i2 l2 i) where
 mem:=by simp
 obj:=λi h st b hb=>by
  obtain⟨hz,hTI,⟨a,c,hTO⟩,h1,h2⟩:=st
  simp only[t6,r8,u0D]at hb
  rcases hb with rfl | rfl | rfl | rfl | rfl
  .exact⟨_,hz,λv z=>by cases z⟩
  .exact⟨_,hTI,λv z=>by cases z⟩
  .exact⟨_,hTO,λv z=>by cases z⟩
  .exact Z8 h1
  .exact Z8 h2
 keep:=λi h h' st kk=>by
  obtain⟨hz,hTI,⟨a,c,hTO⟩,h1,h2⟩:=st
  exact⟨kk z (by simp) _ hz,kk TI (by simp) _ hTI,⟨a,c,kk TO (by simp) _ hTO⟩,Wt h1 λo q=>kk i1 (by simp) o q,Wt h2 λo q=>kk i2 (by simp) o q⟩
 item:=by
  intro X hP hw hK hc i pins s σ H E I hf st hg
  subst hP hw hK
  obtain⟨hz,hTI,⟨a,c,hTO⟩,h1,h2⟩:=st
  obtain⟨xs,ys,x,y,hq1,hq2,hx,hy⟩:=hg
  obtain⟨its,rv,p,_⟩:=I.sq hq1
  obtain⟨its2,rv2,p2,_⟩:=I.sq hq2
  obtain⟨u,hu,ru⟩:=rv.get hx
  obtain⟨u2,hu2,ru2⟩:=rv2.get hy
  have hl1:i<its.toArray.size:=by simpa using (t5.mp hu).1
  have hl2:i<its2.toArray.size:=by simpa using (t5.mp hu2).1
  have hh:X.A.in1.handled=none:=I.ok.hd hc
  refine ZL (Vy hh b1 i1 l1 n1 its.toArray) (Vy hh b2 i2 l2 n2 its2.toArray) ap hz hTI hTO ⟨h1,p⟩ ⟨h2,p2⟩ hl1 hl2 λv1 v2 h' tk e1 e2 hz' hTO' s1 s2 hT' hk=>?_
  have eu:v1=u:=by
   have:its[i]?=some v1:=by simpa using e1
   rw[hu]at this
   exact(g0 this).symm
  have eu2:v2=u2:=by
   have:its2[i]?=some v2:=by simpa using e2
   rw[hu2]at this
   exact(g0 this).symm
  subst eu eu2
  obtain⟨nd,az1,az2,ao1,ao2,a12,a21⟩:=ap
  simp only[f7,t6,r8,u0D,u3A,u15,u04,and_true]at nd
  obtain⟨⟨m1,m2,m3,m4⟩,⟨m5,m6,m7⟩,⟨m8,m9⟩,m10⟩:=nd
  refine⟨_,rfl,wpAny_letOwnedTupleGo_zip hz' λh2' hz2 hs2=>?_⟩
  have hfr:H s.heap.objs.size=none:=I.hok.fresh (t7 _)
  have neZ:s.heap.objs.size≠z:=u1c (q4 hz)
  have hT2:IsPair h2' s.heap.objs.size v1 v2:=(hs2.2 _ neZ).trans hT'
  have hTI':IsPair h' TI (.ref i1) (.ref i2):=hk TI _ (by simp[u0p m1,m5,m6,m7]) hTI
  have lt:∀ b∈[z,TI,TO,i1,i2],b<s.heap.objs.size:=λb hb=>by
   simp only[t6,r8,u0D]at hb
   rcases hb with rfl | rfl | rfl | rfl | rfl
   .exact q4 hz
   .exact q4 hTI
   .exact q4 hTO
   .obtain⟨o,ho,_⟩:=Z8 h1;exact q4 ho
   .obtain⟨o,ho,_⟩:=Z8 h2;exact q4 ho
  refine⟨.ref s.heap.objs.size,upd H s.heap.objs.size (.tup [x,y]),?_,rfl,⟨_,x,y,rfl,hfr,rfl,λzs hz=>by rw[I.sq_inj hz hq1];exact hx,λzs hz=>by rw[I.sq_inj hz hq2];exact hy⟩,
   ⟨hz2,(hs2.2 TI (u0p m1)).trans hTI',⟨_,_,(hs2.2 TO (u0p m2)).trans hTO'⟩,Wt s1.1 λo q=>(hs2.2 i1 (u0p m3)).trans q,Wt s2.1 λo q=>(hs2.2 i2 (u0p m4)).trans q⟩,λb hb=>?_⟩
  .refine I.grown (ch:=[z,TI,TO,i1,i2]) hf (t7 _) (λb v hb q=>?_) ?_
   .have nb:b≠z:=λw=>hb (by simp[w])
    refine(hs2.2 b nb).trans (hk b v (λw=>hb ?_) q)
    simp only[t6,r8,u0D]at w ⊢
    rcases w with w | w | w | w
    .exact .inl w
    .exact .inr (.inr (.inl w))
    .exact .inr (.inr (.inr (.inl w)))
    .exact .inr (.inr (.inr (.inr w)))
   .exact⟨by show 2<=sizeLine;decide,[v1,v2],.cons ru (.cons ru2 .nil),⟨_,hT2,rfl,0,rfl⟩⟩
  .rw[zn (k7 (lt b hb))]
   exact(hf b hb).1
 done:=by
  intro X hP hw hK hc i pins s σ H E I hf st hg
  subst hP hw hK
  obtain⟨hz,hTI,⟨a,c,hTO⟩,h1,h2⟩:=st
  obtain⟨xs,hq,rfl⟩:=hg
  obtain⟨its,rv,p,_⟩:=I.sq hq
  have hl:=rv.length
  have hh:X.A.in1.handled=none:=I.ok.hd hc
  have D:=Vy (prog:=X.prog) (w:=X.w) hh b1 i1 l1 n1 its.toArray
  refine Xt D ap.z1 ?_ hz hTI ⟨by rw[t8,<- hl];exact h1,p⟩ λh' hk=>⟨rfl,I.turnedN (ch:=[z,TI,TO,i1,i2]) (t':=s.toks) hf λb v hb q=>hk b v (λw=>hb (by simp[w])) (λw=>hb (by simp[w])) q⟩
  have nd:=ap.nd
  simp only[f7,t6,r8,u0D,u3A,u15,u04,and_true]at nd
  exact u0p nd.1.2.2.1
 self:=λ_ _ _ _ _ st h=>wpAny_pyIter_zip st.1 h
def iZip (K:zz)(ta:TA):TI:=fun σ H R=>ta σ H λc H1=>∃ b1 b2 a b d e,c=[.ref a,.ref b]/\Sq b1 K H1 a d/\Sq b2 K H1 b e/\R (Izp K b1 b2 a b) H1
def zn4 {X:Cx} {k:Nat} {t:Pos} (hg:Gl X "zip") (O:X.mg "zip"=none) (o:bootBuiltins "zip"=some (.type "zip")) (Z:PA X [a,b] ta) (U:starEach [a,b] X.env=[(false,eval a X.env),(false,eval b X.env)]:=by rfl) (v:starEach [b] X.env=[(false,eval b X.env)]:=by rfl):PI X (.Tuple Y k P) (.Call (.Name "zip" p) [a,b] [] t) (iZip X.K ta):=by
 intro g s σ H R I h
 refine Call_ (vp I hg O o (o8 (thn (Z t g s σ H _ I h) λus c hh9=>?_) (by rw[U,v]) (by rw[v];rfl)))
 obtain⟨vs,H1,I1,S,J⟩:=hh9
 obtain⟨b1,b2,w,F,xs,ys,e,E,G,q⟩:=J
 subst e
 obtain⟨u,u2,rfl,ru,z⟩:=zfD S
 cases ru
 cases z
 obtain⟨M,rv,T,lt1⟩:=I1.sq E
 obtain⟨K,V,W,l⟩:=I1.sq G
 refine zb7 T W λh2 L C x y A Q=>wpAny_pyIter_zip L ?_
 have r:∀ b,c.heap.objs.size<=b->za2 X g H1 b:=λb o=>I1.fpOk o (I1.hok.fresh o)
 have N:zlg (c.heap.objs.size+4) (c.heap.objs.size+2) (c.heap.objs.size+3) c.heap.objs.size (c.heap.objs.size+1) [c.heap.objs.size,w] [c.heap.objs.size+1,F]:=by
  have J:w≠c.heap.objs.size:=k7 lt1
  have D:∀ j:Nat,c.heap.objs.size+j≠w:=λj e=>i7 _ (j2 (by rw[<-e]at lt1;exact lt1) (u0g _ _))
  have B:∀ j:Nat,c.heap.objs.size+j≠F:=λj e=>i7 _ (j2 (by rw[<-e]at l;exact l) (u0g _ _))
  have f:∀ i j:Nat,i≠j->c.heap.objs.size+i≠c.heap.objs.size+j:=λi j h e=>h (Nat.add_left_cancel e)
  have d:∀ i:Nat,i≠0->c.heap.objs.size+i≠c.heap.objs.size:=λi h e=>h (Nat.add_left_cancel (n:=c.heap.objs.size) (m:=i) (k:=0) e)
  refine⟨?_,?_,?_,?_,?_,?_,?_⟩
  .simp only[f7,t6,r8,u0D,u3A,u15,u04,and_true]
   exact⟨⟨f 4 2 (by decide),f 4 3 (by decide),d 4 (by decide),f 4 1 (by decide)⟩,⟨f 2 3 (by decide),d 2 (by decide),f 2 1 (by decide)⟩,⟨d 3 (by decide),f 3 1 (by decide)⟩,u0p (d 1 (by decide))⟩
  .simp only[t6,r8,u0D,u3A];exact⟨d 4 (by decide),D 4⟩
  .simp only[t6,r8,u0D,u3A];exact⟨f 4 1 (by decide),B 4⟩
  .simp only[t6,r8,u0D,u3A];exact⟨d 3 (by decide),D 3⟩
  .simp only[t6,r8,u0D,u3A];exact⟨f 3 1 (by decide),B 3⟩
  .simp only[t6,r8,u0D,u3A];exact⟨u0p (d 1 (by decide)),B 0⟩
  .simp only[t6,r8,u0D,u3A];exact⟨d 1 (by decide),D 1⟩
 refine⟨_,_,_,_,H1,rfl,I1.kept (t':=c.toks) Q,zkS b1 b2 w F _ _ _ _ _ N (k7 lt1) (k7 (u1g l)),⟨L,C,⟨_,_,x⟩,y,A⟩,λb o=>?_,q⟩
 simp only[t6,r8,u0D]at o
 rcases o with rfl | rfl | rfl | rfl | rfl
 .exact r _ (u0g _ _)
 .exact r _ (u0g _ _)
 .exact r _ (u0g _ _)
 .exact r _ (t7 _)
 .exact r _ (u0g _ _)
end L2
namespace OwnSort
open PySem PyProof.Rows
section pure
variable {κ:KeyKind}{xs:Array Keyed}
def up1 (b:SortedToK κ xs x)(e:1<=x)(h:κ.kle (KK κ xs (x-1)) (KK κ xs x)):SortedToK κ xs (x+1):=λi j a f=>by
 by_cases c:j<x
 .exact b i j a c
 .obtain rfl:j=x:=by omega
  by_cases d:i=j
  .rw[d];exact u0K _
  .exact u2g (b i (j-1) (by omega) (by omega)) h
def zky (b:NonIncK κ xs x)(e:1<=x)(h:κ.kle (KK κ xs x) (KK κ xs (x-1))):NonIncK κ xs (x+1):=λi j a f=>by
 by_cases c:j<x
 .exact b i j a c
 .obtain rfl:j=x:=by omega
  by_cases d:i=j
  .rw[d];exact u0K _
  .exact u2g h (b i (j-1) (by omega) (by omega))
def VC (e:∀ i,KK κ b i=KK κ xs i)(h:NonIncK κ xs n):NonIncK κ b n:=λi j a c=>by rw[e,e];exact h i j a c
def turned {n:Nat}(a:n<=xs.size)(h:NonIncK κ xs n):SortedToK κ (mirror xs 0 n ((n-0)/2)) n:=λi j b c=>by
 rw[KK_mirror a,KK_mirror a,u9 ⟨by omega,by omega⟩,u9 ⟨by omega,by omega⟩]
 exact h _ _ (by omega) (by omega)
def zft:SortedToK κ xs 1:=λi j a b=>by
 obtain rfl:i=j:=by omega
 exact u0K _
def zfw:NonIncK κ xs 1:=λi j a b=>by
 obtain rfl:i=j:=by omega
 exact u0K _
end pure
structure SB (k:SortKind) (a₀:Array Keyed) (st:SortSt):Prop where
 pm:(arrOf st).Perm a₀
 kd:kindOf st=k
 fl:failedOf st=none
 pd:pendingOf st=#[]
def SB.sz {k:SortKind}{a:Array Keyed}(B:SB k a b):(arrOf b).size=a.size:=B.pm.size_eq
def SB.put {k:SortKind}{c:Array Keyed}(B:SB k b a)(p:c.Perm (arrOf a)):SB k b (setArr a c):=⟨p.trans B.pm,B.kd,B.fl,B.pd⟩
section
variable {prog:zH}{w:World}{A:zI}{E:yL}{s:zj}{a₀:Array Keyed}{κ:KeyKind}{k:SortKind}{st:SortSt}
def LtOk (prog:zH)(w:World)(A:zI)(E:yL)(s:zj)(a₀:Array Keyed)(κ:KeyKind)(k:SortKind):Prop :=
 ∀ (st:SortSt) (i j:Nat) (Q:Option Bool->SortSt->Prop),SB k a₀ st->i<a₀.size->j<a₀.size->Q (some (κ.blt (KK κ (arrOf st) i) (KK κ (arrOf st) j))) st->wpS (model prog w) A E s (ltAt' i j) Q st
def zig {a n:Nat}{Q:AscSt->SortSt->Prop}(L:LtOk prog w A E s a₀ κ k)(l:n<=a₀.size)(o:1<=a)(d:a<=n)(B:SB k a₀ st)(g:SortedToK κ (arrOf st) a)
 (h:∀ m,a<=m->m<=n->SortedToK κ (arrOf st) m->(m=n\/κ.klt (KK κ (arrOf st) m) (KK κ (arrOf st) (m-1)))->Q (none,m) st):wpS (model prog w) A E s (ascLoop a n) Q st:=by
 unfold ascLoop
 refine u2f (I:=λx c t=>(t=st/\c=(none,x))/\SortedToK κ (arrOf st) x) (λx c t i j f=>?_) (λc t f=>?_) ⟨⟨rfl,rfl⟩,g⟩
 .obtain⟨⟨rfl,rfl⟩,b⟩:=f
  refine s0 (L _ x (x-1) _ B (by omega) (by omega) ?_)
  cases c:κ.blt (KK κ (arrOf t) x) (KK κ (arrOf t) (x-1)) with
  | true=>exact u0v (h x i (by omega) b (.inr c))
  | false=>exact u0v ⟨⟨rfl,rfl⟩,up1 b (by omega) c⟩
 .obtain⟨⟨rfl,rfl⟩,b⟩:=f
  have e:max a n=n:=by omega
  rw[e]at b ⊢
  exact h n d (t7 _) b (.inl rfl)
def zeS {n m:Nat}{Q:Option Nat->SortSt->Prop}(L:LtOk prog w A E s a₀ κ k)(c:m<=a₀.size)(e:1<=n)(a:n<=m)(B:SB k a₀ st)(d:NonIncK κ (arrOf st) n)
 (h:∀ r t,SB k a₀ t->1<=r->r<=m->SortedToK κ (arrOf t) r->Q (some r) t):wpS (model prog w) A E s (tail3 n m) Q st:=by
 unfold tail3
 have B':=B.put (mirror_perm (arrOf st) 0 n ((n-0)/2))
 exact s0 (wpS_reverse (s0 (zig L c e a B' (turned (by rw[B.sz];omega) d) λr g f b _=>u0v (h r _ B' (by omega) f b))))
def zjH {n m:Nat}{Q:DescSt->SortSt->Prop}(L:LtOk prog w A E s a₀ κ k)(D:m<=a₀.size)(y:1<=n)(l:n<=m)(B:SB k a₀ st)(F:NonIncK κ (arrOf st) n)
 (h:∀ r q t,SB k a₀ t->n<=r->r<=m->NonIncK κ (arrOf t) r->q+1<=r->(∀ i,r-(q+1)<=i->i<r->KK κ (arrOf t) i=KK κ (arrOf t) (r-1))->Q (none,r,q) t):wpS (model prog w) A E s (descLoop n m) Q st:=by
 unfold descLoop
 refine u2f (I:=λx c t=>∃ q,c=(none,x,q)/\SB k a₀ t/\NonIncK κ (arrOf t) x/\q+1<=x/\∀ i,x-(q+1)<=i->i<x->KK κ (arrOf t) i=KK κ (arrOf t) (x-1))
  (λx c t C z v=>?_) (λc t v=>?_) ⟨0,rfl,B,F,y,λi u f=>by rw[show i=n-1 from u1L (u1m f) u]⟩
 .obtain⟨q,rfl,B1,g,hq,j⟩:=v
  have a:x<a₀.size:=j2 z D
  have b:x-1<a₀.size:=p5 (Nat.sub_le _ _) a
  have o:1<=x:=o5 y C
  have H:x<=(arrOf t).size:=by rw[B1.sz];exact u0k a
  refine s0 (L _ x (x-1) _ B1 a b ?_)
  cases c:κ.blt (KK κ (arrOf t) x) (KK κ (arrOf t) (x-1)) with
  | true =>
   have d:=zky g o (u1Z c)
   by_cases p:q>0
   .show wpS _ _ _ _ (if q>0 then _ else _) _ _
    rw[u9 p]
    exact s0 (wpS_reverse (u0v ⟨0,rfl,B1.put (mirror_perm _ _ _ _),VC (KK_mirror_equal H j) d,u1q (g9 _),λi u f=>by rw[show i=x+1-1 from u1L (l8 f) u]⟩))
   .show wpS _ _ _ _ (if q>0 then _ else _) _ _
    rw[t9 p]
    exact u0v ⟨0,rfl,B1,d,u1q (g9 _),λi u f=>by rw[show i=x+1-1 from u1L (l8 f) u]⟩
  | false =>
   refine s0 (L _ (x-1) x _ B1 b a ?_)
   cases f:κ.blt (KK κ (arrOf t) (x-1)) (KK κ (arrOf t) x) with
   | true=>exact u0v (h x q t B1 C (u0k z) g hq j)
   | false =>
    have same:KK κ (arrOf t) x=KK κ (arrOf t) (x-1):=KeyOrd.kle_antisymm f c
    refine u0v ⟨q+1,rfl,B1,zky g o f,u1q hq,λi K J=>?_⟩
    show KK κ (arrOf t) i=KK κ (arrOf t) x
    by_cases G:i=x
    .rw[G]
    .rw[same];exact j i (by omega) (by omega)
 .obtain⟨q,rfl,B1,g,hq,j⟩:=v
  have e:max n m=m:=Nat.max_eq_right l
  rw[e]at g hq j ⊢
  exact h m q t B1 l (t7 _) g hq j
def We {n m:Nat}{Q:Option Nat->SortSt->Prop}(L:LtOk prog w A E s a₀ κ k)(c:m<=a₀.size)(b:n+1<=m)(B:SB k a₀ st)(i:NonIncK κ (arrOf st) (n+1))
 (h:∀ r t,SB k a₀ t->1<=r->r<=m->SortedToK κ (arrOf t) r->Q (some r) t):wpS (model prog w) A E s (descPart n m) Q st:=by
 unfold descPart
 refine s0 (wpS_lift (u1i ⟨rfl,s0 (zjH L c (by omega) b B i λr q t B1 j d e hq f=>?_)⟩))
 have g:r<=(arrOf t).size:=by rw[B1.sz];omega
 by_cases a:q>0
 .show wpS _ _ _ _ (if q>0 then _ else _) _ _
  rw[u9 a]
  exact s0 (wpS_reverse (zeS (n:=r) L c (by omega) d (B1.put (mirror_perm _ _ _ _)) (VC (KK_mirror_equal g f) e) h))
 .show wpS _ _ _ _ (if q>0 then _ else _) _ _
  rw[t9 a]
  exact zeS (n:=r) L c (by omega) d B1 e h
def znv {m:Nat}{Q:Option Nat->SortSt->Prop}(L:LtOk prog w A E s a₀ κ k)(b:m<=a₀.size)(x:1<=m)(B:SB k a₀ st)
 (h:∀ r t,SB k a₀ t->1<=r->r<=m->SortedToK κ (arrOf t) r->Q (some r) t):wpS (model prog w) A E s (countRun' 0 m) Q st:=by
 rw[countRun0_eq]
 refine s0 (zig L b (t7 1) x B zft λn f o a or=>?_)
 show wpS _ _ _ _ (if (n == m)=true then _ else if n>1 then _ else _) _ _
 by_cases e:n=m
 .rw[u9 (by rw[e];exact u0P m)]
  exact u0v (h n st B f o a)
 .rw[t9 (λz=>e (eq_of_beq z))]
  have l:=or.resolve_left e
  by_cases g:n>1
  .rw[u9 g]
   refine s0 (L _ 0 (n-1) _ B (by omega) (by omega) ?_)
   cases c:κ.blt (KK κ (arrOf st) 0) (KK κ (arrOf st) (n-1)) with
   | true=>exact u0v (h n st B f o a)
   | false =>
    have v:n<=(arrOf st).size:=by rw[B.sz];omega
    have d:∀ i,0<=i->i<n->KK κ (arrOf st) i=KK κ (arrOf st) (n-1):=λi _ q =>
     KeyOrd.kle_antisymm (a i (n-1) (by omega) (by omega)) (u2g c (a 0 i (by omega) q))
    have u:NonIncK κ (arrOf st) n:=λi j _ p=>by rw[d i (by omega) (by omega),d j (by omega) p];exact u0K _
    exact s0 (wpS_reverse (We L b (by omega) (B.put (mirror_perm _ _ _ _)) (VC (KK_mirror_equal v d) (zky u (by omega) (u1Z l))) h))
  .rw[t9 g]
   obtain rfl:n=1:=by omega
   exact We L b (by omega) B (zky zfw (t7 1) (u1Z l)) h
def zpt {l u a:Nat}(h:(l+u)/2=a)(c:¬ l >= u):l<=a/\a<u:=by
 have b:l<u:=Nat.lt_of_not_le c
 rw[<-h]
 exact⟨(Nat.le_div_iff_mul_le (by decide)).mpr (by rw[Nat.mul_two];exact u1r (u0k b) l),(Nat.div_lt_iff_lt_mul (by decide)).mpr (by rw[Nat.mul_two];exact Nat.add_lt_add_right b u)⟩
def zrx {l u a x y:Nat}(c:l<=a)(b:a<u)(d:u-l<=x-y):a-l<=x-(y+1) :=
 o5 (u1m (Nat.sub_lt_sub_right c b)) (u2q d 1)
def zrr {l u a x y:Nat}(b:l<=a)(c:u-l<=x-y):u-(a+1)<=x-(y+1) :=
 o5 (Nat.sub_le_sub_left (u1q b) u) (u2q c 1)
def zoU (r n:Nat):min (max (max r 1) n) n=n:=Nat.min_eq_right (Nat.le_max_right _ _)
def zov {r n:Nat}(b:¬ r=0)(a:r<=n):min (max r 1) n=r:=by
 rw[Nat.max_eq_left (Nat.pos_of_ne_zero b),u0Y a]
def zqg {i j r:Nat}(d:r=0)(a:i<=j)(c:j<min (max r 1) n):i=j:=by
 subst d
 have b:j=0:=Nat.lt_one_iff.mp (j2 c (Nat.min_le_left _ _))
 subst b
 exact Nat.le_zero.mp a
def zmP {n r:Nat}{Q:Bool->SortSt->Prop}(L:LtOk prog w A E s a₀ κ k)(V:n<=a₀.size)(Y:r<=n)(B:SB k a₀ st)(X:SortedToK κ (arrOf st) r)
 (h:∀ t,SB k a₀ t->SortedToK κ (arrOf t) n->Q true t):wpS (model prog w) A E s (binarySort' 0 n r) Q st:=by
 rw[binarySort'_eq]
 refine s0 (wpS_mono (u2f (I:=λx c t=>(c=(none,())/\SB k a₀ t)/\SortedToK κ (arrOf t) (min x n)) (Q:=λc t=>(c=(none,())/\SB k a₀ t)/\SortedToK κ (arrOf t) n)
  (λx c t g1 M K=>?_) (λc t K=>?_) ⟨⟨rfl,B⟩,?_⟩) λc t K=>?_)
 .obtain⟨⟨rfl,B1⟩,b⟩:=K
  rw[u0Y (u0k M)]at b
  have P:x<a₀.size:=j2 M V
  refine s0 (wpS_mono (u2f
   (I:=λy c g=>g=t/\∃ l u,c=(none,l,u)/\(l<=u/\u<=x/\u-l<=x-y)/\(∀ i,i<l->κ.kle (KK κ (arrOf t) i) (KK κ (arrOf t) x))/\∀ i,u<=i->i<x->κ.klt (KK κ (arrOf t) x) (KK κ (arrOf t) i))
   (Q:=λc g=>g=t/\∃ l u,c=(none,l,u)/\l<=x/\(∀ i,i<l->κ.kle (KK κ (arrOf t) i) (KK κ (arrOf t) x))/\∀ i,l<=i->i<x->κ.klt (KK κ (arrOf t) x) (KK κ (arrOf t) i))
   (λy c g y1 Z J=>?_) (λc g J=>?_) ⟨rfl,0,x,rfl,⟨g9 _,t7 _,t7 _⟩,λi W=>absurd W (u1M _),λi d m=>absurd (p5 d m) (i7 _)⟩) λc g J=>?_)
  .obtain⟨rfl,l,u,rfl,⟨D,f,N⟩,v,z⟩:=J
   show wpS _ _ _ _ (if l >= u then _ else _) _ _
   by_cases F:l >= u
   .rw[u9 F]
    obtain rfl:l=u:=u1L D F
    exact u0v ⟨rfl,l,l,rfl,f,v,z⟩
   .rw[t9 F]
    generalize G:(l+u)/2=md
    obtain⟨O,H⟩:=zpt G F
    clear G F D
    refine s0 (L _ (0+x) (0+md) _ B1 (by rw[g8];exact P) (by rw[g8];exact j2 H (o5 f (u0k P))) ?_)
    rw[g8,g8]
    cases T:κ.blt (KK κ (arrOf g) x) (KK κ (arrOf g) md) with
    | true=>exact u0v ⟨rfl,l,md,rfl,⟨O,o5 (u0k H) f,zrx O H N⟩,v,λi d m=>KeyOrd.klt_of_klt_of_kle T (b _ _ d m)⟩
    | false=>exact u0v ⟨rfl,md+1,u,rfl,⟨H,f,zrr O N⟩,λi d=>u2g (b i md (l8 d) (j2 H f)) T,z⟩
  .obtain⟨rfl,l,u,rfl,⟨D,f,N⟩,v,z⟩:=J
   obtain rfl:l=u:=by omega
   exact⟨rfl,l,l,rfl,f,v,z⟩
  .obtain⟨rfl,l,u,rfl,f,v,z⟩:=J
   show wpS _ _ _ _ (do moveDown' (0+x) (0+l);pure (ForInStep.yield (none,()))) _ _
   rw[moveDown'_eq,g8,g8]
   refine s0 (wpS_modify (u0v ⟨⟨rfl,B1.put (bubble_perm _ _ _)⟩,?_⟩))
   have U:x<(arrOf g).size:=by rw[B1.sz];exact P
   rw[u0Y (Nat.succ_le_of_lt M)]
   show SortedToK κ (bubble (arrOf g) x (x-l)) (x+1)
   intro i j a o
   rw[KK_bubble U (Nat.sub_le _ _),KK_bubble U (Nat.sub_le _ _),Nat.sub_sub_self f]
   by_cases d:i=l
   .rw[u9 d]
    by_cases p:j=l
    .rw[u9 p];exact u0K _
    .have q:l<j:=u2W (by rw[<-d];exact a) (λe=>p e.symm)
     rw[t9 p,u9 ⟨q,l8 o⟩];exact u1Z (z _ (u1m q) (j2 (Nat.sub_lt (u28 q) Nat.one_pos) (l8 o)))
   .rw[t9 d]
    by_cases m:l<i/\i<=x
    .have q:=j2 m.1 a
     rw[u9 m,t9 (λe=>absurd q (by rw[e];exact i7 _)),u9 ⟨q,l8 o⟩];exact b _ _ (u2q a 1) (j2 (Nat.sub_lt (u28 q) Nat.one_pos) (l8 o))
    .rw[t9 m]
     have R:i<l:=u2W (u1p λh=>m ⟨h,o5 a (l8 o)⟩) d
     clear m d
     by_cases p:j=l
     .rw[u9 p];exact v i R
     .rw[t9 p]
      by_cases C:l<j/\j<=x
      .rw[u9 C];exact b _ _ (u1m (Nat.lt_trans R C.1)) (j2 (Nat.sub_lt (u28 C.1) Nat.one_pos) (l8 o))
      .rw[t9 C];exact b _ _ a (j2 (u2W (u1p λh=>C ⟨h,l8 o⟩) p) f)
 .obtain⟨⟨D,B1⟩,b⟩:=K
  rw[zoU]at b
  exact⟨⟨D,B1⟩,b⟩
 .by_cases S:r=0
  .intro i j a o
   obtain rfl:i=j:=zqg S a o
   exact u0K _
  .rw[zov S Y];exact X
 .obtain⟨⟨rfl,B1⟩,b⟩:=K
  exact u0v (h t B1 b)
def own_runs {Q:Unit->SortSt->Prop}(L:LtOk prog w A E s a₀ κ k)(B:SB k a₀ st)(C:2<=a₀.size)(n:a₀.size<64)
 (h:∀ t,(arrOf t).Perm a₀->failedOf t=none->SortedToK κ (arrOf t) a₀.size->Q () t):wpS (model prog w) A E s sortRuns' Q st:=by
 rw[sortRuns'_eq]
 have l:minRun' a₀.size a₀.size 0=a₀.size:=by
  cases e:a₀.size with
  | zero=>omega
  | succ f=>rw[minRun'_succ,u9 (by omega),Nat.add_zero]
 refine s0 (wpS_get ?_)
 simp only[B.sz,l]
 let Dn:SortSt->Prop:=λt=>(arrOf t).Perm a₀/\failedOf t=none/\pendingOf t=#[(0,a₀.size,0)]/\SortedToK κ (arrOf t) a₀.size
 have fin:∀ t,SB k a₀ t->SortedToK κ (arrOf t) a₀.size->Dn (setPending t ((pendingOf t).push (0,a₀.size,0))):=λt B1 o=>⟨B1.pm,B1.fl,by show(pendingOf t).push _=_;rw[B1.pd];rfl,o⟩
 refine s0 (wpS_mono (u2f (I:=λx c t=>(x=0/\c=(none,0)/\SB k a₀ t)\/(1<=x/\c=(none,a₀.size)/\Dn t)) (Q:=λc t=>c=(none,a₀.size)/\Dn t)
  (λx c t G F a=>?_) (λc t a=>?_) (.inl ⟨rfl,rfl,B⟩)) λc t a=>?_)
 .rcases a with ⟨rfl,rfl,B1⟩ | ⟨_,rfl,D1⟩
  .show wpS _ _ _ _ (if 0 >= a₀.size then _ else _) _ _
   rw[t9 (by omega)]
   simp only[Nat.sub_zero,u2X,g8]
   refine s0 (znv L (t7 _) (by omega) B1 λr d B2 D u g=>?_)
   show wpS _ _ _ _ (if r<a₀.size then _ else _) _ _
   by_cases j:r<a₀.size
   .rw[u9 j]
    refine s0 (wpS_lift (u1i ⟨rfl,s0 (zmP L (t7 _) u B2 g λi B3 y=>?_)⟩))
    refine s0 (wpS_get ?_)
    rw[show(pendingOf i).back?=none by rw[B3.pd];rfl]
    exact s0 (wpS_modify (u0v (.inr ⟨by omega,rfl,fin i B3 y⟩)))
   .rw[t9 j]
    obtain rfl:r=a₀.size:=by omega
    refine s0 (wpS_get ?_)
    rw[show(pendingOf d).back?=none by rw[B2.pd];rfl]
    exact s0 (wpS_modify (u0v (.inr ⟨by omega,rfl,fin d B2 g⟩)))
  .show wpS _ _ _ _ (if a₀.size >= a₀.size then _ else _) _ _
   rw[u9 (t7 _)]
   exact u0v ⟨rfl,D1⟩
 .rcases a with ⟨z,_,_⟩ | ⟨_,e,D1⟩
  .omega
  .exact⟨e,D1⟩
 .obtain⟨rfl,v,m,p,q⟩:=a
  refine s0 (wpS_mono (u2f (I:=λ_ c b=>b=t/\c=(none,())) (Q:=λc b=>b=t/\c=(none,())) (λx c b _ _ a=>?_) (λ_ _ z=>z) ⟨rfl,rfl⟩) λc b a=>?_)
  .obtain⟨rfl,rfl⟩:=a
   refine s0 (wpS_get ?_)
   rw[u9 (by rw[p];exact t7 1)]
   exact u0v ⟨rfl,rfl⟩
  .obtain⟨rfl,rfl⟩:=a
   exact u0v (h _ v m q)
end
abbrev Pr:=Int × Int
def bltP (s t:Pr):Bool:=decide (s.1<t.1\/(s.1=t.1/\s.2<t.2))
def TP (h:Heap) (v:Value) (t:Pr):Prop:=∃ a o n b ty,v=.ref a/\h.get? a=some o/\o.cls=.type "tuple"/\o.data=.seq #[.int t.1 b,.int t.2 ty] n
def TP.uniq {t:Pr}(x:TP h v s)(y:TP h v t):s=t:=by
 obtain⟨a,o,n,m,ty,rfl,f,_,g⟩:=x
 obtain⟨b,j,l,k,i,e,d,_,c⟩:=y
 cases e
 rw[f]at d
 cases d
 rw[g]at c
 injection c with c _
 have:=u0q Array.toList c
 simp at this
 exact u2v this.1.1 this.2.1
def TP.keep {h c:Heap}{t:Pr}(x:TP h v t)(k:∀ b o,h.get? b=some o->c.get? b=some o):TP c v t:=by
 obtain⟨a,o,n,f,ty,e,d,r⟩:=x
 exact⟨a,o,n,f,ty,e,k _ _ d,r⟩
open Classical in
noncomputable def keyP (h:Heap)(v:Value):Option Pr:=if x:∃ t,TP h v t then some x.choose else none
def keyP_of {t:Pr}(x:TP h v t):keyP h v=some t:=by
 unfold keyP
 have y:∃ t,TP h v t:=⟨t,x⟩
 rw[dif_pos y,y.choose_spec.uniq x]
@[reducible] noncomputable def kindP (h:Heap):KeyKind where
 α:=Pr
 blt:=bltP
 irrefl a:=by unfold bltP;exact j8 (by omega)
 trans a b c h1 h2:=by unfold bltP at *;rw[j3]at *;omega
 negTrans a b c h:=by unfold bltP at *;rw[j3]at *;rw[j3];omega
 total a b h1 h2:=by
  unfold bltP at *
  rw[p6]at *
  exact u2v (by omega) (by omega)
 keyOf:=keyP h
 dflt:=(0,0)
def zce (b:Bool)(x y:Value):keyLt' (tuples' b) x y=(do
 let xs<-Builtin.List.listItems x
 let ys<-Builtin.List.listItems y
 for ((p,q),i)in (xs.toList.zip ys.toList).zipIdx do
  if !(<- eqBool p q)then return<-oneLt' (b&&i == 0) p q
 return xs.size<ys.size):=rfl
def zcb (v:Value):firstOfTuple' v=(do
 if (<- typeOf v) != .type "tuple" then return none
 return (<- Builtin.List.listItems v)[0]?):=rfl
section
variable {prog:zH}{w:World}{A:zI}{E:yL}{s:zj}
def lt0 {a b:Int}{t:Tok}{Q:Bool->Shared->Prop}(h:Q (decide (a<b)) s):wpAny (model prog w) A (oneLt' false (.int a t) (.int b u)) Q E s:=by
 rw[oneLt'_eq]
 rw[t9 u6]
 exact u3 (PyProof.Rows.lt_int (l9 h))
def zaJ:∀ {a:zt},(∀ f∈a,∃ i t,f=.int i t)->a.mapM typeOf=pure (a.map λ_=>Value.type "int")
 | [],_=>by simp
 | f::a,h=>by
  obtain⟨i,t,rfl⟩:=h f l5
  rw[u3z,zaJ λg b=>h g (o7 _ b),show typeOf (.int i t)=pure (.type "int")from rfl]
  simp
end
end OwnSort
namespace OwnTim
open PySem PyProof.Rows
def ky (κ:KeyKind)(x:Keyed):κ.α:=(κ.keyOf x.1).getD κ.dflt
def LtE (a:zH)(w:World)(A:zI)(E:yL)(s:zj)(κ:KeyKind)(k:SortKind)(D:Keyed->Prop):Prop :=
 ∀ (b:SortSt) (x y:Keyed) (Q:Option Bool->SortSt->Prop),kindOf b=k->D x->D y->Q (some (κ.blt (ky κ x) (ky κ y))) b->wpS (model a w) A E s (lt' x y) Q b
section
variable {prog:zH}{w:World}{A:zI}{E:yL}{s:zj}{a₀:Array Keyed}{κ:KeyKind}{k:SortKind}{st:SortSt}
def zoV {i:Nat}(h:a[i]?=some x):KK κ a i=ky κ x:=by
 unfold KK
 rw[h]
 rfl
def znh (L:LtE prog w A E s κ k (·∈a₀.toList)):OwnSort.LtOk prog w A E s a₀ κ k:=by
 intro st i j Q S c h q
 have a:∀ {i},i<a₀.size->∃ x,(arrOf st)[i]?=some x/\x∈a₀.toList:=λ{i} c=>by
  have b:i<(arrOf st).size:=by rw[S.sz];exact c
  exact⟨(arrOf st)[i],u2Y _ i b,(u1j.mp S.pm).mem_iff.mp (by simp)⟩
 obtain⟨x,e,f⟩:=a c
 obtain⟨y,d,g⟩:=a h
 rw[zoV e,zoV d]at q
 rw[ltAt'_eq]
 refine s0 (wpS_get ?_)
 show wpS _ _ _ _ (elem' (arrOf st) i>>=λx=>elem' (arrOf st) j>>=λy=>lt' x y) Q st
 rw[elem'_eq,elem'_eq,e,d]
 exact s0 (u0v (s0 (u0v (L _ _ _ _ S.kd f g q))))
def own_runsE {Q:Unit->SortSt->Prop}(L:LtE prog w A E s κ k (·∈a₀.toList))(f:(arrOf st).Perm a₀)(c:kindOf st=k)(e:failedOf st=none)(d:pendingOf st=#[])
 (h:∀ t,(arrOf t).Perm a₀->failedOf t=none->SortedToK κ (arrOf t) a₀.size->Q () t) (b:2<=a₀.size) (a:a₀.size<64):wpS (model prog w) A E s sortRuns' Q st:=OwnSort.own_runs (znh L) ⟨f,c,e,d⟩ b a h
end
end OwnTim
namespace OwnSortT
open PySem PyProof.Rows OwnSort
def lex_irr:∀ a:zc,HT.lexLt a a=false:=by
 intro a
 induction a with
 | nil=>rfl
 | cons x c b=>rw[HT.lexLt_cons,u9 rfl,b]
def lex_trans:∀ a b c:zc,HT.lexLt a b=true->HT.lexLt b c=true->HT.lexLt a c=true:=by
 intro a
 induction a with
 | nil =>
  intro b c e d
  cases c with
  | nil=>cases b <;> cases d
  | cons _ _=>rfl
 | cons x i h =>
  intro b c e d
  cases b with
  | nil=>cases e
  | cons y j=>cases c with
   | nil=>cases d
   | cons z zs =>
    rw[HT.lexLt_cons]at e d ⊢
    by_cases g:x=y
    .rw[u9 g]at e
     by_cases f:y=z
     .rw[u9 f]at d;rw[u9 (g.trans f)];exact h _ _ e d
     .rw[t9 f,j3]at d;rw[t9 (by omega),j3];omega
    .rw[t9 g,j3]at e
     by_cases f:y=z
     .rw[t9 (by omega),j3];omega
     .rw[t9 f,j3]at d;rw[t9 (by omega),j3];omega
def lex_total:∀ a b:zc,HT.lexLt a b=false->HT.lexLt b a=false->a=b:=by
 intro a
 induction a with
 | nil =>
  intro b d c
  cases b with
  | nil=>rfl
  | cons _ _=>cases d
 | cons x g f =>
  intro b d c
  cases b with
  | nil=>cases c
  | cons y h =>
   rw[HT.lexLt_cons]at d c
   by_cases e:x=y
   .rw[u9 e]at d;rw[u9 e.symm]at c;rw[e,f _ d c]
   .rw[t9 e,p6]at d;rw[t9 (u0p e),p6]at c;omega
def lex_neg (a b c:zc)(h:HT.lexLt a c=true):HT.lexLt a b=true\/HT.lexLt b c=true:=by
 cases e:HT.lexLt a b with
 | true=>exact .inl rfl
 | false =>
  refine .inr ?_
  cases d:HT.lexLt b a with
  | true=>exact lex_trans _ _ _ d h
  | false=>rw[<-lex_total _ _ e d];exact h
def TT (h:Heap) (v:Value) (t:zc):Prop:=∃ a o n b,v=.ref a/\h.get? a=some o/\o.cls=.type "tuple"/\o.data=.seq b.toArray n/\IntsAre b t/\t≠[]
def Va:∀ {c:zt} {d a:zc},IntsAre c d->IntsAre c a->d=a:=by
 intro c d a h
 induction h generalizing a with
 | nil=>intro b;cases b;rfl
 | cons n t h e=>intro b;cases b with | cons g i f=>rw[e f]
def TT.uniq {t:zc}(x:TT h v s)(y:TT h v t):s=t:=by
 obtain⟨a,o,n,d,rfl,k,_,l,q,_⟩:=x
 obtain⟨b,p,m,c,e,g,_,f,i,_⟩:=y
 cases e
 rw[k]at g
 cases g
 rw[l]at f
 have j:d.toArray=c.toArray:=by injection f
 cases u2m j
 exact Va q i
def TT.keep {h d:Heap}{t:zc}(x:TT h v t)(k:∀ b o,h.get? b=some o->d.get? b=some o):TT d v t:=by
 obtain⟨a,o,n,c,e,f,r⟩:=x
 exact⟨a,o,n,c,e,k _ _ f,r⟩
def TT.keepT {h f:Heap} {t:zc} (x:TT h v t) (k:∀ b o,o.cls=.type "tuple"->h.get? b=some o->f.get? b=some o):TT f v t:=by
 obtain⟨a,o,n,d,e,g,c,r⟩:=x
 exact⟨a,o,n,d,e,k _ _ c g,c,r⟩
open Classical in
noncomputable def zco (h:Heap)(v:Value):Option zc:=if x:∃ t,TT h v t then some x.choose else none
def zei {t:zc}(x:TT h v t):zco h v=some t:=by
 unfold zco
 have y:∃ t,TT h v t:=⟨t,x⟩
 rw[dif_pos y,y.choose_spec.uniq x]
@[reducible] noncomputable def zeZ (h:Heap):KeyKind where
 α:=zc
 blt:=HT.lexLt
 irrefl:=lex_irr
 trans:=lex_trans
 negTrans:=lex_neg
 total:=lex_total
 keyOf:=zco h
 dflt:=[]
section
variable {prog:zH}{w:World}{A:zI}{E:yL}{s:zj}
def znZ (d:Bool):zc->zc->Bool
 | x::xs,y::ys=>if x=y then znZ d xs ys else decide (x<y)
 | _,_=>d
def znn:∀ a b:zc,znZ (decide (a.length<b.length)) a b=HT.lexLt a b:=by
 intro a
 induction a with
 | nil=>intro b;cases b with
  | nil=>rfl
  | cons _ _=>rfl
 | cons x d e=>intro b;cases b with
  | nil=>rfl
  | cons y c =>
   rw[HT.lexLt_cons,<- e c]
   show(if x=y then znZ (decide (d.length+1<c.length+1)) d c else decide (x<y))=_
   rw[show decide (d.length+1<c.length+1)=decide (d.length<c.length) by congr 1;apply propext;omega]
def zg9 (x:(Value × Value) × Nat)(_:Option Bool × Unit):Sem (ForInStep (Option Bool × Unit)):=do
 let b<-eqBool x.1.1 x.1.2
 if (!b)=true then do
  let c<-oneLt' (true&&x.2 == 0) x.1.1 x.1.2
  pure (ForInStep.done (some c,()))
 else pure (ForInStep.yield (none,()))
def zke:∀ {g:zt} {f:zc} {e:zt} {a:zc} {k:Nat} {Q:Option Bool × Unit->Shared->Prop},IntsAre g f->IntsAre e a->(∀ r:Option Bool × Unit,r.1.getD d=znZ d f a->Q r s) ->
 wpAny (model prog w) A (forIn ((g.zip e).zipIdx k) ((none,()):Option Bool × Unit) zg9) Q E s:=by
 intro g f e a k Q i
 induction i generalizing e a k with
 | nil=>intro b q;exact t0 (q (none,()) rfl)
 | cons x t i j =>
  intro b q
  cases b with
  | nil=>exact t0 (q (none,()) rfl)
  | cons y u b =>
   rw[u0S,u2n,u1I]
   refine u3 (u3 (u1O x t y u prog w E _ ?_))
   by_cases c:x=y
   .rw[show(x == y)=true by rw[c];exact u0P _]
    refine t0 (j b λr l=>q r (l.trans ?_))
    show _=(if x=y then znZ d _ _ else decide (x<y))
    rw[u9 c]
   .rw[show(x == y)=false by simpa using c]
    have h:Q (some (decide (x<y)),()) s:=q _ (by
     show decide (x<y)=(if x=y then znZ d _ _ else decide (x<y))
     rw[t9 c])
    cases k with
    | zero=>exact u3 (oneLt_int (t0 (t0 h)))
    | succ k=>exact u3 (lt0 (t0 (t0 h)))
def ziv {Q:Bool->Shared->Prop}(B:TT s.heap x a)(m:TT s.heap y b)(h:Q (HT.lexLt a b) s):wpAny (model prog w) A (keyLt' (tuples' true) x y) Q E s:=by
 obtain⟨p,o,n,c,rfl,k,_,l,i,_⟩:=B
 obtain⟨q,D,F,f,rfl,z,_,j,g,_⟩:=m
 rw[zce]
 refine u3 (u01 k l (u3 (u01 z j ?_)))
 show wpAny _ _ (forIn ((c.zip f).zipIdx 0) ((none,()):Option Bool × Unit) zg9>>=_) _ _ _
 refine u3 (zke (d:=decide (c.length<f.length)) i g λr C=>?_)
 have e:Q (r.1.getD (decide (c.length<f.length))) s:=by
  rw[C,i.length,g.length,znn];exact h
 obtain⟨t,u⟩:=r
 cases t with
 | none=>exact t0 e
 | some v=>exact t0 e
def zj7 (m:∀ v∈d,∃ t,TT s.heap v t):OwnTim.LtE prog w A E s (zeZ s.heap) (tuples' true) (·∈(pairsOf d).toList):=by
 intro n x y Q k l j h
 have c:∀ {x:Keyed},x∈(pairsOf d).toList->∃ t,TT s.heap x.1 t/\OwnTim.ky (zeZ s.heap) x=t:=λ{x} hm=>by
  rw[pairsOf_toList]at hm
  obtain⟨t,e⟩:=m _ (mem_zip_self hm).2
  refine⟨t,e,?_⟩
  unfold OwnTim.ky
  show(zco s.heap x.1).getD _=t
  rw[zei e]
  rfl
 obtain⟨a,ta,f⟩:=c l
 obtain⟨b,g,i⟩:=c j
 rw[f,i]at h
 rw[lt'_eq]
 refine s0 (wpS_get ?_)
 rw[k]
 exact s0 (wpS_lift (u03 (ziv ta g ⟨rfl,u0v h⟩)))
def zag:∀ {d:zt} {Q:List (Option Value)->Shared->Prop},(∀ v∈d,∃ t,TT s.heap v t)->(∀ c:zt,c.length=d.length->(∀ f∈c,∃ i t,f=.int i t)->Q (c.map some) s)->wpAny (model prog w) A (d.mapM firstOfTuple') Q E s
 | [],Q,_,h=>by rw[List.mapM_nil];exact t0 (h [] rfl (by simp))
 | v::d,Q,hT,h=>by
  obtain⟨t,a,o,n,g,rfl,k,r,p,l,j⟩:=hT v l5
  obtain⟨z,zs,e,tk,rfl,rfl⟩:∃ z zs e tk,g=z::zs/\z=.int e tk:=by
   cases l with
   | nil=>exact absurd rfl j
   | cons e tk l=>exact⟨_,_,_,_,rfl,rfl⟩
  rw[u3z,zcb]
  refine u3 (u3 (u2e (T:="tuple") ⟨o,k,r⟩ ?_))
  rw[t9 (by simp)]
  refine u3 (u01 k p (t0 (u3 (zag (λu x=>hT u (o7 _ x)) λc q m=>t0 ?_))))
  exact h (.int e tk::c) (by simp[q]) λf b=>by
   rcases t6.mp b with rfl | b
   .exact⟨_,_,rfl⟩
   .exact m f b
def zhU {Q:SortKind->Shared->Prop}(j:∀ v∈c::b,∃ t,TT s.heap v t)(h:Q (tuples' true) s):wpAny (model prog w) A (keyKind' (c::b).toArray) Q E s:=by
 rw[keyKind'_eq,u10,<- bind_pure_comp,bind_assoc]
 refine u3 (zag j λa g e=>u3 (t0 ?_))
 cases a with
 | nil=>simp at g
 | cons f a =>
  rw[u9 (by simp)]
  have d:((f::a).map some).toArray.filterMap id=(f::a).toArray:=by simp
  refine u3 (u1i ?_)
  rw[d,oneTypeOnly'_eq,u10,zaJ e]
  simp only[map_pure,pure_bind]
  rw[show(List.map (λ_=>Value.type "int") (f::a)).toArray[0]?=some (Value.type "int") by simp]
  have i:((List.map (λ_=>Value.type "int") (f::a)).toArray.all λx=>x == Value.type "int")=true:=by
   simp only[List.all_toArray,u1w,f9]
   intro _ _
   rfl
  simp only[i,u14,pure_bind,Option.any_some]
  rw[show(Value.type "int" != Value.type "tuple")=true by decide +kernel]
  exact t0 h
end
def Rise (h:Heap)(c:zt):Prop:=∃ d:ve,c.length=d.length/\(∀ (i:Nat) (v:Value) (t:zc),c[i]?=some v->d[i]?=some t->TT h v t)/\d.Pairwise λa b=>HT.lexLt b a=false
def zgT {xs:Array Keyed}(z:∀ v∈a,∃ t,TT h v t)(r:∀ v t,TT h v t->TT c v t)(l:xs.Perm (pairsOf a))(y:SortedToK (zeZ c) xs (pairsOf a).size):(xs.map (·.2)).toList.Perm a/\Rise h (xs.map (·.2)).toList:=by
 have m:xs.toList.Perm (a.zip a):=by rw[<-pairsOf_toList];exact u1j.mp l
 have o:∀ p∈xs.toList,p.1=p.2/\p.1∈a:=λp w=>mem_zip_self (m.mem_iff.mp w)
 have u:(xs.map (·.2)).toList=xs.toList.map (·.2):=by simp
 rw[u]
 refine⟨?_,xs.toList.map λp=>(zco c p.1).getD ([]:zc),by simp,λi v t e b=>?_,?_⟩
 .have:=m.map (·.2)
  rwa[show(a.zip a).map (·.2)=a from List.map_snd_zip (t7 _)]at this
 .rw[q0]at e b
  cases k:xs.toList[i]? with
  | none=>rw[k]at e;cases e
  | some p =>
   rw[k]at e b
   cases e
   cases b
   obtain⟨n,s⟩:=o p (j4 k)
   obtain⟨t,b⟩:=z _ s
   show TT h p.2 ((zco c p.1).getD ([]:zc))
   rw[zei (r _ _ b),<- n]
   exact b
 .rw[u0C]
  intro i j x q f
  have g:i<xs.size:=by simpa using x
  have d:j<xs.size:=by simpa using q
  have:=y i j (u0k f) (by rw[<-l.size_eq];exact d)
  unfold KK at this
  rw[u2Y xs i g,u2Y xs j d]at this
  have this:HT.lexLt ((zco c xs[j].1).getD ([]:zc)) ((zco c xs[i].1).getD ([]:zc))=false:=this
  simpa using this
section
variable {prog:zH}{w:World}{A:zI}{E:yL}{s:zj}
def V7 {d:zt} {P:Fin->Shared->Prop} (p:s.heap.get? a=some (seqObj "list" d.toArray n)) (F:∀ v∈d,∃ t,TT s.heap v t) (x:d.length<64) (h:∀ g:zP,g.toList.Perm d->Rise s.heap g.toList->P (.done (.ret .none)) { s with heap:=sortedHeap s.heap a d g }):wpAny (model prog w) A (Builtin.«list.sort» ⟨[.ref a],[]⟩) P E s:=by
 have N:a<s.heap.objs.size:=q4 p
 have L:d.toArray.size=d.length:=t8
 obtain⟨f,G⟩:∃ f,(s.heap.update a (Obj.mapSeq λ_=>#[])).get? a=some (seqObj "list" #[] f):=⟨_,u1Q p (λ_=>#[])⟩
 have r:(((s.heap.update a (Obj.mapSeq λ_=>#[])).push (seqObj "tuple" d.toArray 0)).push (seqObj "list" #[] 0)).get? a=some (seqObj "list" #[] f):=u5 _ (u5 _ G)
 have H:∀ b o,o.cls=.type "tuple"->s.heap.get? b=some o->(((s.heap.update a (Obj.mapSeq λ_=>#[])).push (seqObj "tuple" d.toArray 0)).push (seqObj "list" #[] 0)).get? b=some o:=λb o c e=>by
  refine u5 _ (u5 _ ((g3 _ _ λz=>?_).trans e))
  subst z
  rw[p]at e
  cases e
  exact absurd (show Value.type "list"=Value.type "tuple" from c) (by decide +kernel)
 have m:∀ v∈d,∃ t,TT (((s.heap.update a (Obj.mapSeq λ_=>#[])).push (seqObj "tuple" d.toArray 0)).push (seqObj "list" #[] 0)) v t:=λv I=>let ⟨t,l⟩:=F v I;⟨t,l.keepT H⟩
 rw[list_sort_plain]
 refine u3 (u01 p rfl (u3 (u1h p rfl (u3 (seqEpoch_at G rfl (u3 (wpAny_newTuple (u3 (u3h (i0 ?_))))))))))
 show wpAny (model prog w) A _ P E { s with heap:=((s.heap.update a (Obj.mapSeq λ_=>#[])).push (seqObj "tuple" d.toArray 0)).push (seqObj "list" #[] 0) }
 by_cases k:d.toArray.size<2
 .rw[u9 k,u9 k]
  refine u3 (t0 ?_)
  dsimp only
  rw[StateT.run_pure]
  refine u3 (t0 ?_)
  obtain⟨B,C⟩:=zgT (xs:=pairsOf d) F (λv t l=>l) (u1D _) (λi j J K=>by
   obtain rfl:i=j:=by rw[u2Z]at K;omega
   exact u0K _)
  refine u3 (seqEpoch_at r rfl (u3 (u1h r rfl ?_ (hsz2:=by rw[u3x];show(pairsOf d).size<=_;rw[u2Z,u1d];omega))))
  rw[show(f != f)=false by simp]
  exact t0 (h _ B C)
 .rw[t9 k,t9 k]
  cases d with
  | nil=>simp at k
  | cons u rest =>
   refine u3 (zhU m ?_)
   refine u3 (p8 (OwnTim.own_runsE (st:=SortSt.mk' (tuples' true) ((u::rest).toArray.zip (u::rest).toArray) #[] 7 none) (Q:=λ_ t=>(arrOf t).Perm (pairsOf (u::rest))/\failedOf t=none/\SortedToK (zeZ _) (arrOf t) (pairsOf (u::rest)).size)
    (zj7 m) (u1D _) rfl rfl rfl (λt q D y=>⟨q,D,y⟩) (by rw[u2Z];rw[t8]at k;omega) (by rw[u2Z];exact x)) ?_ λ_ _ e=>e)
   rintro⟨⟨⟩,t⟩ M ⟨rfl,q,D,y⟩
   obtain⟨B,C⟩:=zgT F (λv t l=>l.keepT H) q y
   refine u3 (seqEpoch_at r rfl (u3 (u1h r rfl ?_ (hsz2:=by rw[u3x];show(arrOf t).size<=_;rw[q.size_eq,u2Z,u1d];omega))))
   rw[D,show(f != f)=false by simp]
   exact t0 (h _ B C)
def ownT_sorted {a:zt} {Q:yL} (x:s.heap.IsList l a.toArray) (q:∀ v∈a,∃ t,TT s.heap v t) (f:a.length<64) (h:∀ c:zP,c.toList.Perm a->Rise s.heap c.toList->Q (.ref (s.heap.objs.size+1)) { s with heap:=sortedAll s.heap a c }):wpAny (model prog w) A (call (.builtin "sorted") [.ref l]) Q E s:=by
 have j:((s.heap.push (seqObj "list" #[] 0)).update s.heap.objs.size (Obj.mapSeq (·++a.toArray))).objs.size=s.heap.objs.size+1:=(Heap.size_update ..).trans (size_push' _ _)
 have k:(((s.heap.push (seqObj "list" #[] 0)).update s.heap.objs.size (Obj.mapSeq (·++a.toArray))).push (seqObj "list" a.toArray 0)).get? (s.heap.objs.size+1)=some (seqObj "list" a.toArray 0):=j ▸ q7 _ rfl
 have p:∀ b o,s.heap.get? b=some o->(((s.heap.push (seqObj "list" #[] 0)).update s.heap.objs.size (Obj.mapSeq (·++a.toArray))).push (seqObj "list" a.toArray 0)).get? b=some o:=λb o e =>
  u5 _ ((g3 _ _ λz=>by subst z;exact absurd (q4 e) (i7 _)).trans (u5 _ e))
 refine Calls.call_function_entry kind_sorted plain_sorted entry_sorted (args_sorted1 _) ?_
 unfold Builtin.«sorted»
 refine u3 (m:=checkCount "sorted" 1 1 _) (t0 (u3 (collect_list x (u3 (u3h ?_)))))
 show wpAny _ _ _ _ _ (Shared.mk (((s.heap.push (seqObj "list" #[] 0)).update s.heap.objs.size (Obj.mapSeq (·++a.toArray))).push (seqObj "list" a.toArray 0)) s.gens s.drawn s.toks s.os)
 rw[j]
 refine u3 (i0 (u0H slot_list_sort ⟨_,k,rfl⟩ entry_list_sort (V7 k (λv d=>let ⟨t,g⟩:=q v d;⟨t,g.keep p⟩) f λc n r=>⟨_,rfl,t0 ⟨_,rfl,h c n ?_⟩⟩) (args_list_sort _)))
 obtain⟨B,u,y,C⟩:=r
 refine⟨B,u,λi v t d g=>?_,C⟩
 obtain⟨D,ht0⟩:=q v (n.mem_iff.mp (j4 d))
 rw[(y i v t d g).uniq (ht0.keep p)]
 exact ht0
end
end OwnSortT
namespace OwnSort
open PySem PyProof.Rows
def Rise (h:Heap)(c:zt):Prop:=∃ d:List Pr,c.length=d.length/\(∀ (i:Nat) (v:Value) (t:Pr),c[i]?=some v->d[i]?=some t->TP h v t)/\d.Pairwise λa b=>bltP b a=false
def TP.tt {t:Pr}(x:TP h v t):OwnSortT.TT h v [t.1,t.2]:=by
 obtain⟨a,o,n,c,ty,f,d,e,b⟩:=x
 exact⟨a,o,n,[.int t.1 c,.int t.2 ty],f,d,e,b,.cons _ _ (.cons _ _ .nil),List.cons_ne_nil _ _⟩
def zjQ (a b:Pr):HT.lexLt [a.1,a.2] [b.1,b.2]=bltP a b:=by
 rw[HT.lexLt_cons,HT.lexLt_cons]
 unfold bltP
 by_cases c:a.1=b.1
 .rw[u9 c]
  by_cases d:a.2=b.2
  .rw[u9 d,j8 (by omega)];rfl
  .rw[t9 d,u3l];omega
 .rw[t9 c,u3l];omega
def zhS {k c:zt}(x:∀ v∈k,∃ t,TP h v t)(m:c.Perm k)(r:OwnSortT.Rise h c):Rise h c:=by
 obtain⟨g,o,w,l⟩:=r
 have key:∀ (i:Nat) (v:Value) (t:zc),c[i]?=some v->g[i]?=some t->∃ p:Pr,TP h v p/\t=[p.1,p.2]:=λi v t j d=>by
  obtain⟨p,f⟩:=x v (m.mem_iff.mp (j4 j))
  exact⟨p,f,OwnSortT.TT.uniq (w i v t j d) f.tt⟩
 have ex:∀ t∈g,∃ p:Pr,t=[p.1,p.2]:=λt n=>by
  obtain⟨i,s,rfl⟩:=n0 n
  obtain⟨p,_,e⟩:=key i c[i] g[i] (u8 (by omega)) (u8 s)
  exact⟨p,e⟩
 refine⟨g.map λt=>(t.getD 0 0,t.getD 1 0),by rw[u4,o],λi v t j d=>?_,?_⟩
 .rw[q0]at d
  obtain⟨u,y,rfl⟩:=u7.mp d
  obtain⟨p,f,rfl⟩:=key i v u j y
  exact f
 .rw[l7]
  refine l.imp_of_mem λ{a b} ha hb hab=>?_
  obtain⟨p,rfl⟩:=ex a ha
  obtain⟨q,rfl⟩:=ex b hb
  rw[zjQ]at hab
  exact hab
section
variable {prog:zH}{w:World}{A:zI}{E:yL}{s:zj}
def own_sorted {b:zt} {Q:yL} (f:s.heap.IsList l b.toArray) (c:∀ v∈b,∃ t,TP s.heap v t) (d:b.length<64) (h:∀ a:zP,a.toList.Perm b->Rise s.heap a.toList->Q (.ref (s.heap.objs.size+1)) { s with heap:=sortedAll s.heap b a }):wpAny (model prog w) A (call (.builtin "sorted") [.ref l]) Q E s :=
 OwnSortT.ownT_sorted f (λv g=>(c v g).imp' (λt=>[t.1,t.2]) λ_ e=>e.tt) (by omega) λa p r=>h a p (zhS c p r)
end
end OwnSort
namespace Dl
open PySem L2
class KK where
 K:W.Frag
inductive D where
 | non | bl (b:Bool) | int (i:Int) | str (x:Str) | tup (ds:List D) | lst (ds:List D) | scr (ns:zc)
  | dct (z t:Bool) (ks:List (List Key)) (vs:List D)
 deriving Inhabited
abbrev zf1:=List D->Option (List D)
abbrev YF:=List D->Option D
abbrev zrd:=List D->Option Nat
abbrev wt:=D->D->Option D
abbrev zcI:=D->Option (List (Option D))
abbrev zk:=List D
section
variable [KK]
def zga (o:HO)(t:Bool)(b:List (List Key))(c:zx):Prop :=
 if t=true then ∃ a,o=.dT a/\a.map (·.1)=b/\a.map (·.2)=c else ∃ a:List (Key × V),o=.dK a/\a.map (λp=>[p.1])=b/\a.map (·.2)=c
def zbH (H:Hp)(a:Addr)(z t:Bool)(c:List (List Key))(d:zx):Prop :=
 ∃ u,zga u t c d/\if z=true then ∃ b,H a=some (.frz b u)else H a=some u
def zbH.mono {t:Bool}(s:yE H H')(h:zbH H a z t c d):zbH H' a z t c d:=by
 obtain⟨u,f,b⟩:=h
 refine⟨u,f,?_⟩
 cases z with
 | true =>
  rw[u9 rfl]at b ⊢
  obtain⟨e,b⟩:=b
  exact⟨e,s _ _ b⟩
 | false =>
  rw[t9 u6]at b ⊢
  exact s _ _ b
def zbH.rd {t:Bool}(h:zbH H a z t c d):∃ u,zga u t c d/\Rd H a u:=by
 obtain⟨u,f,b⟩:=h
 refine⟨u,f,?_⟩
 cases z with
 | true =>
  rw[u9 rfl]at b
  obtain⟨e,b⟩:=b
  exact .inr ⟨e,b⟩
 | false =>
  rw[t9 u6]at b
  exact .inl b
mutual
def At (H:Hp):D->V->Prop
 | .non,v=>v=.non
 | .bl b,v=>v=.bl b
 | .int i,v=>v=.int i
 | .str x,v=>v=.str x
 | .tup ds,v=>∃ a c,v=.ref a/\H a=some (.tup c)/\AtL H ds c
 | .lst ds,v=>∃ a c,v=.ref a/\H a=some (.lst c)/\AtL H ds c
 | .scr ns,v=>∃ a,v=.ref a/\SqL KK.K H a (ns.map V.int)
 | .dct z t ks vs,v=>∃ a c,v=.ref a/\zbH H a z t ks c/\AtL H vs c
def AtL (H:Hp):zk->zx->Prop
 | [],xs=>xs=[]
 | d::ds,xs=>∃ x r,xs=x::r/\At H d x/\AtL H ds r
end
mutual
def At.mono (s:yE H H'):∀ {d:D} {v:V},At H d v->At H' d v
 | .non,_,h=>by unfold At at h ⊢;exact h
 | .bl _,_,h=>by unfold At at h ⊢;exact h
 | .int _,_,h=>by unfold At at h ⊢;exact h
 | .str _,_,h=>by unfold At at h ⊢;exact h
 | .tup ds,_,h=>by
  unfold At at h ⊢
  obtain⟨a,f,e,b,c⟩:=h
  exact⟨a,f,e,s _ _ b,AtL.mono s c⟩
 | .lst ds,_,h=>by
  unfold At at h ⊢
  obtain⟨a,f,e,b,c⟩:=h
  exact⟨a,f,e,s _ _ b,AtL.mono s c⟩
 | .scr ns,_,h=>by
  unfold At at h ⊢
  obtain⟨a,e,b⟩:=h
  exact⟨a,e,s.seq b⟩
 | .dct z t ks vs,_,h=>by
  unfold At at h ⊢
  obtain⟨a,f,e,b,c⟩:=h
  exact⟨a,f,e,b.mono s,AtL.mono s c⟩
def AtL.mono (s:yE H H'):∀ {a:zk} {b:zx},AtL H a b->AtL H' a b
 | [],_,h=>by unfold AtL at h ⊢;exact h
 | d::a,_,h=>by
  unfold AtL at h ⊢
  obtain⟨x,r,e,f,c⟩:=h
  exact⟨x,r,e,At.mono s f,AtL.mono s c⟩
end
mutual
def noL:D->Bool
 | .tup a=>zqH a
 | .lst _=>false
 | .scr _=>false
 | .dct _ _ _ _=>false
 | _=>true
def zqH:zk->Bool
 | []=>true
 | d::ds=>noL d&&zqH ds
end
mutual
def At.flat {G F:Hp}(h:∀ q b,G q=some (.tup b)->F q=some (.tup b)):∀ {d:D} {v:V},noL d=true->At G d v->At F d v
 | .non,_,_,a=>by unfold At at a ⊢;exact a
 | .bl _,_,_,a=>by unfold At at a ⊢;exact a
 | .int _,_,_,a=>by unfold At at a ⊢;exact a
 | .str _,_,_,a=>by unfold At at a ⊢;exact a
 | .tup ds,_,n,a=>by
  unfold At at a ⊢
  unfold noL at n
  obtain⟨p,b,e,f,c⟩:=a
  exact⟨p,b,e,h _ _ f,AtL.flat h n c⟩
 | .lst ds,_,n,_=>by unfold noL at n;cases n
 | .scr ds,_,n,_=>by unfold noL at n;cases n
 | .dct _ _ _ _,_,n,_=>by unfold noL at n;cases n
def AtL.flat {G F:Hp}(h:∀ q b,G q=some (.tup b)->F q=some (.tup b)):∀ {c:zk} {b:zx},zqH c=true->AtL G c b->AtL F c b
 | [],_,_,a=>by unfold AtL at a ⊢;exact a
 | d::c,_,n,a=>by
  unfold AtL at a ⊢
  unfold zqH at n
  rw[r4]at n
  obtain⟨x,r,e,g,f⟩:=a
  exact⟨x,r,e,At.flat h n.1 g,AtL.flat h n.2 f⟩
end
section
variable {H H':Hp}{d:D}{ds es:zk}{v x:V}{xs ys:zx}
def At.int:At H (.int i) (.int i):=by unfold At;rfl
def At.bl:At H (.bl b) (.bl b):=by unfold At;rfl
def At.non:At H .non .non:=by unfold At;rfl
def At.str:At H (.str y) (.str y):=by unfold At;rfl
def At.tup {a:Addr}(h:H a=some (.tup xs))(b:AtL H ds xs):At H (.tup ds) (.ref a):=by unfold At;exact⟨a,xs,rfl,h,b⟩
def At.lst {a:Addr}(h:H a=some (.lst xs))(b:AtL H ds xs):At H (.lst ds) (.ref a):=by unfold At;exact⟨a,xs,rfl,h,b⟩
def AtL.nil:AtL H [] []:=by unfold AtL;rfl
def AtL.cons (h:At H d x)(a:AtL H ds xs):AtL H (d::ds) (x::xs):=by unfold AtL;exact⟨x,xs,rfl,h,a⟩
def At.int_inv (h:At H (.int i) v):v=.int i:=by unfold At at h;exact h
def At.bl_inv (h:At H (.bl b) v):v=.bl b:=by unfold At at h;exact h
def At.non_inv (h:At H .non v):v=.non:=by unfold At at h;exact h
def At.str_inv (h:At H (.str y) v):v=.str y:=by unfold At at h;exact h
def At.tup_inv (h:At H (.tup ds) v):∃ a xs,v=.ref a/\H a=some (.tup xs)/\AtL H ds xs:=by unfold At at h;exact h
def At.lst_inv (h:At H (.lst ds) v):∃ a xs,v=.ref a/\H a=some (.lst xs)/\AtL H ds xs:=by unfold At at h;exact h
def At.scr_inv {b:zc}(h:At H (.scr b) v):∃ a,v=.ref a/\SqL KK.K H a (b.map V.int):=by unfold At at h;exact h
def At.dct_inv {t:Bool}(h:At H (.dct z t b c) v):∃ a xs,v=.ref a/\zbH H a z t b xs/\AtL H c xs:=by unfold At at h;exact h
def AtL.nil_inv (h:AtL H [] xs):xs=[]:=by unfold AtL at h;exact h
def AtL.cons_inv (h:AtL H (d::ds) xs):∃ x r,xs=x::r/\At H d x/\AtL H ds r:=by unfold AtL at h;exact h
def AtL.length:∀ {ds:zk} {xs:zx},AtL H ds xs->xs.length=ds.length
 | [],_,h=>by rw[h.nil_inv];rfl
 | _::_,_,h=>by
  obtain⟨x,r,rfl,_,a⟩:=h.cons_inv
  rw[k4,k4,AtL.length a]
def AtL.get:∀ {ds:zk} {xs:zx} {i:Nat} {d:D},AtL H ds xs->ds[i]?=some d->∃ x,xs[i]?=some x/\At H d x
 | [],_,_,_,_,e=>by simp at e
 | _::_,_,i,_,h,e=>by
  obtain⟨x,r,rfl,c,a⟩:=h.cons_inv
  cases i with
  | zero =>
   simp at e
   subst e
   exact⟨x,rfl,c⟩
  | succ i =>
   obtain⟨y,f,b⟩:=AtL.get (i:=i) a (by simpa using e)
   exact⟨y,by simpa using f,b⟩
def AtL.append:∀ {ds es:zk} {xs ys:zx},AtL H ds xs->AtL H es ys->AtL H (ds++es) (xs++ys)
 | [],_,_,_,h,k=>by rw[h.nil_inv];exact k
 | _::_,_,_,_,h,k=>by
  obtain⟨x,r,rfl,b,a⟩:=h.cons_inv
  exact .cons b (AtL.append a k)
def AtL.snoc (h:AtL H ds xs)(k:At H d v):AtL H (ds++[d]) (xs++[v]):=h.append (.cons k .nil)
def AtL.take:∀ (n:Nat) {ds:zk} {xs:zx},AtL H ds xs->AtL H (ds.take n) (xs.take n)
 | 0,_,_,_=>by simpa using AtL.nil
 | n+1,[],_,h=>by rw[h.nil_inv];simpa using AtL.nil
 | n+1,_::_,_,h=>by
  obtain⟨x,r,rfl,b,a⟩:=h.cons_inv
  rw[List.take_succ_cons,List.take_succ_cons]
  exact .cons b (AtL.take n a)
def AtL.drop:∀ (n:Nat) {ds:zk} {xs:zx},AtL H ds xs->AtL H (ds.drop n) (xs.drop n)
 | 0,_,_,h=>h
 | n+1,[],_,h=>by rw[h.nil_inv];simpa using AtL.nil
 | n+1,_::_,_,h=>by
  obtain⟨x,r,rfl,b,a⟩:=h.cons_inv
  rw[List.drop_succ_cons,List.drop_succ_cons]
  exact AtL.drop n a
def AtL.set:∀ (n:Nat) {ds:zk} {xs:zx},AtL H ds xs->At H d v->AtL H (ds.set n d) (xs.set n v)
 | _,[],_,h,_=>by rw[h.nil_inv];simpa using AtL.nil
 | 0,_::_,_,h,k=>by
  obtain⟨x,r,rfl,b,a⟩:=h.cons_inv
  exact .cons k a
 | n+1,_::_,_,h,k=>by
  obtain⟨x,r,rfl,b,a⟩:=h.cons_inv
  exact .cons b (AtL.set n a k)
def AtL.reverse:∀ {ds:zk} {xs:zx},AtL H ds xs->AtL H ds.reverse xs.reverse
 | [],_,h=>by rw[h.nil_inv];exact .nil
 | _::_,_,h=>by
  obtain⟨x,r,rfl,b,a⟩:=h.cons_inv
  rw[u11,u11]
  exact(AtL.reverse a).snoc b
def AtL.rep (h:AtL H ds xs):∀ k:Nat,AtL H (List.replicate k ds).flatten (List.replicate k xs).flatten
 | 0=>.nil
 | k+1=>by
  rw[u0z,u0z,u0W,u0W]
  exact h.append (AtL.rep h k)
def AtL.ints (a:zc):AtL H (a.map D.int) (a.map V.int):=by
 induction a with
 | nil=>exact .nil
 | cons n r b=>exact .cons .int b
def AtL.of_ints:∀ {a:zc} {xs:zx},AtL H (a.map D.int) xs->xs=a.map V.int
 | [],_,h=>h.nil_inv
 | n::r,_,h=>by
  obtain⟨x,d,rfl,c,b⟩:=AtL.cons_inv (by simpa using h)
  rw[c.int_inv,AtL.of_ints b]
  rfl
end
def tyN:D->String
 | .non=>"NoneType" | .bl _=>"bool" | .int _=>"int" | .str _=>"str" | .tup _=>"tuple" | .lst _=>"list" | .scr _=>"list" | .dct _ _ _ _=>"dict"
def Hid (F':Hp)(p:Addr)(o:HO):Prop:=F' p=none\/((∃ a,o=.tup a)/\F' p=some o)
def Keep (F H F' H':Hp):Prop:=∀ p o,F p=none->H p=some o->Hid F' p o/\H' p=some o
structure Gr (F H F' H':Hp):Prop where
 ff:yE F F'
 fh:yE F' H'
 kp:Keep F H F' H'
def Gr.refl (s:yE F H):Gr F H F H:=⟨yE.refl _,s,λ_ _ a b=>⟨.inl a,b⟩⟩
def Gr.trans (a:Gr F H F1 H1)(b:Gr F1 H1 F2 H2):Gr F H F2 H2 :=
 ⟨a.ff.trans b.ff,b.fh,λp o f d=>by
  obtain⟨x,y⟩:=a.kp p o f d
  rcases x with x | ⟨e,c⟩
  .exact b.kp p o x y
  .exact⟨.inr ⟨e,b.ff _ _ c⟩,b.fh _ _ (b.ff _ _ c)⟩⟩
def Gr.kl {F H F' H':Hp}(g:Gr F H F' H')(n:∀ a,o≠.tup a)(d:F p=none)(b:H p=some o):F' p=none/\H' p=some o:=by
 obtain⟨x,y⟩:=g.kp p o d b
 rcases x with x | ⟨⟨a,c⟩,_⟩
 .exact⟨x,y⟩
 .exact absurd c (n a)
def Gr.alloc {H:Hp}(s:yE F H)(h:H p=none)(o:HO):Gr F H (upd F p o) (upd H p o):=by
 have a:F p=none:=s.free h
 refine⟨λb u q=>?_,λb u q=>?_,λb u q r=>?_⟩
 .rw[zn (zg q a)];exact q
 .by_cases e:b=p
  .subst e;rw[zq]at q ⊢;exact q
  .rw[zn e]at q ⊢;exact s b u q
 .have e:b≠p:=zg r h
  rw[zn e];exact⟨.inl (by rw[zn e];exact q),r⟩
def Gr.hide {H:Hp}(s:yE F H)(h:H p=none)(o:HO):Gr F H F (upd H p o):=by
 refine⟨yE.refl _,λb u q=>?_,λb u q r=>?_⟩
 .rw[zn (zg (s b u q) h)];exact s b u q
 .have e:b≠p:=zg r h
  rw[zn e];exact⟨.inl q,r⟩
def Gr.show {F H:Hp}{H0:Hp}(g:Gr F0 H0 F H)(a:H0 p=none)(c:F p=none)(h:H p=some o):Gr F0 H0 (upd F p o) H:=by
 refine⟨λb u q=>?_,λb u q=>?_,λb u q r=>?_⟩
 .have:=g.ff b u q
  rw[zn (zg this c)];exact this
 .by_cases e:b=p
  .subst e;rw[zq]at q;rw[<-q];exact h
  .rw[zn e]at q;exact g.fh b u q
 .have e:b≠p:=zg r a
  obtain⟨x,y⟩:=g.kp b u q r
  refine⟨?_,y⟩
  unfold Hid
  rw[zn e]
  exact x
abbrev Ev:=List (Option D)
abbrev y4:=Ev->Option (List D)
abbrev Yk:=Ev->Option Bool
abbrev znX:=Ev->Option Nat
abbrev zQ:=Ev->Option D
def VAt (F:Hp)(ρ:Ev)(σ:St):Prop:=∀ (i:Nat) (d:D),ρ[i]?=some (some d)->∃ v,σ[i]?=some (some v)/\At F d v
def VAt.mono (h:VAt F ρ σ)(s:yE F F'):VAt F' ρ σ:=λi d e=>let ⟨v,e1,a⟩:=h i d e;⟨v,e1,a.mono s⟩
def RE (t:TE)(f:zQ):Prop :=
 ∀ (σ:St) (ρ:Ev) (F H:Hp) (d:D) (Q:VK),yE F H->VAt F ρ σ->f ρ=some d->(∀ F' H' v,Gr F H F' H'->At F' d v->Q v H')->t σ H Q
def RT (t:TT)(f:Yk):Prop :=
 ∀ (σ:St) (ρ:Ev) (F H:Hp) (b:Bool) (Q:Bool->Hp->Prop),yE F H->VAt F ρ σ->f ρ=some b->(∀ F' H',Gr F H F' H'->Q b H')->t σ H Q
def RA (t:TA)(f:y4):Prop :=
 ∀ (σ:St) (ρ:Ev) (F H:Hp) (b:zk) (Q:zx->Hp->Prop),yE F H->VAt F ρ σ->f ρ=some b->(∀ F' H' a,Gr F H F' H'->AtL F' b a->Q a H')->t σ H Q
def RF (t:TE)(f:y4):Prop :=
 ∀ (σ:St) (ρ:Ev) (F H:Hp) (b:zk) (Q:VK),yE F H->VAt F ρ σ->f ρ=some b->(∀ F' H' p a,Gr F H F' H'->H p=none->F' p=none->H' p=some (.lst a)->AtL F' b a->Q (.ref p) H')->t σ H Q
def ED (X:Cx)(e:Expr)(f:zQ):Prop:=∃ t,PE X e t/\RE t f
def TD (X:Cx)(e:Expr)(f:Yk):Prop:=∃ t,PT X e t/\RT t f
def WD (X:Cx)(e:Expr)(f:Yk):Prop:=∃ t,PW X e t/\RT t f
def AD (X:Cx)(a:xK)(f:y4):Prop:=∃ t,PA X a t/\RA t f
def FL (X:Cx)(e:Expr)(f:y4):Prop:=∃ t,PE X e t/\RF t f
section
variable {X:Cx}{a b c:Expr}{pos:Pos}
def yc (f:y4):zQ:=fun ρ=>(f ρ).map .lst
def XC {f:y4}(h:FL X a f):ED X a (yc f):=by
 obtain⟨t,i,r⟩:=h
 refine⟨t,i,fun σ ρ F H d Q s j e q=>?_⟩
 obtain⟨v,k,rfl⟩:=u7.mp e
 refine r σ ρ F H v Q s j k λF' H' p w g l c n o=>?_
 have m:=g.show l c n
 exact q _ _ _ m (At.lst zq (o.mono (λb u e=>by rw[zn (zg e c)];exact e)))
def zb (i:Nat):zQ:=fun ρ=>(ρ[i]?).getD none
def zn9 (i:Nat)(h:PE X a (zdt i)):ED X a (zb i):=by
 refine⟨_,h,fun σ ρ F H d Q s b e q=>?_⟩
 have f:ρ[i]?=some (some d):=by
  unfold zb at e
  cases h:ρ[i]? with
  | none=>rw[h]at e;cases e
  | some x=>rw[h]at e;cases x with
   | none=>cases e
   | some y=>cases e;rfl
 obtain⟨v,c,g⟩:=b i d f
 exact⟨v,c,q _ _ _ (.refl s) g⟩
def eC (d:D):zQ:=λ_=>some d
def xH (h:PE X a (tC (.int i))):ED X a (eC (.int i)):=⟨_,h,λ_ _ _ _ _ _ s _ e q=>by cases e;exact q _ _ _ (.refl s) .int⟩
def zq0 (h:PE X a (tC (.bl i))):ED X a (eC (.bl i)):=⟨_,h,λ_ _ _ _ _ _ s _ e q=>by cases e;exact q _ _ _ (.refl s) .bl⟩
def zqi (h:PE X a (tC (.str i))):ED X a (eC (.str i)):=⟨_,h,λ_ _ _ _ _ _ s _ e q=>by cases e;exact q _ _ _ (.refl s) .str⟩
def zl7 (h:PE X a (tC .non)):ED X a (eC .non):=⟨_,h,λ_ _ _ _ _ _ s _ e q=>by cases e;exact q _ _ _ (.refl s) .non⟩
def OpD (r:R2)(g:wt):Prop :=
 ∀ (F H:Hp) (x y:V) (d e z:D) (Q:VK),yE F H->At F d x->At F e y->g d e=some z->(∀ F' H' v,Gr F H F' H'->At F' z v->Q v H')->r x y H Q
def zd (g:wt)(f h:zQ):zQ:=fun ρ=>(f ρ).bind λx=>(h ρ).bind λy=>g x y
def zjw {g:wt}{f:zQ}(o:OpD r g)(p:RE ta f)(n:RE d h):RE (tOp r ta d) (zd g f h):=by
 intro σ ρ F H z Q s c e q
 obtain⟨x,j,e⟩:=u0.mp e
 obtain⟨y,m,e⟩:=u0.mp e
 refine p σ ρ F H x _ s c j λF1 H1 v b l=>?_
 refine n σ ρ F1 H1 y _ b.fh (c.mono b.ff) m λF2 H2 u a t=>?_
 exact o F2 H2 v u x y z Q a.fh (l.mono a.ff) t e λF3 H3 w i k=>q F3 H3 w ((b.trans a).trans i) k
def Vk {c:Operator}{g:wt}{f:zQ}(i:OpR X (binaryOp c) r)(d:OpD r g)(e:ED X a f)(j:ED X b h):ED X (.BinOp a c b pos) (zd g f h) :=
 let ⟨_,pa,ra⟩:=e
 let ⟨_,pb,rb⟩:=j
 ⟨_,zil i pa pb,zjw d ra rb⟩
def zat {c:CmpOp}{g:wt}{f:zQ}(e:OpR X (compareOp c) r)(d:OpD r g)(j:behindInMarks c b=false)(i:ED X a f)(k:ED X b h):ED X (.Compare a [c] [b] pos) (zd g f h) :=
 let ⟨_,pa,ra⟩:=i
 let ⟨_,pb,rb⟩:=k
 ⟨_,zgV e pa pb j,zjw d ra rb⟩
def asB:D->Option Bool
 | .bl b=>some b
 | _=>none
def Z4 {b:Bool}(h:asB d=some b):d=.bl b:=by
 cases d <;> first | (cases h;rfl) | cases h
def tOf (f:zQ):Yk:=fun ρ=>(f ρ).bind asB
def zo4 {t:TE}{f:zQ}(r:RE t f):RT (zmX t) (tOf f):=by
 intro σ ρ F H b Q s c e q
 obtain⟨x,d,e⟩:=u0.mp e
 cases Z4 e
 exact r σ ρ F H _ _ s c d λF1 H1 v a g=>⟨b,g.bl_inv,q F1 H1 a⟩
def Yx {c:CmpOp}{g:wt}{f:zQ}(e:OpR X (compareOp c) r)(d:OpD r g)(j:behindInMarks c b=false)(i:ED X a f)(k:ED X b h):TD X (.Compare a [c] [b] pos) (tOf (zd g f h)) :=
 let ⟨_,pa,ra⟩:=i
 let ⟨_,pb,rb⟩:=k
 ⟨_,zim e pa pb j,zo4 (zjw d ra rb)⟩
def zgy {f:zQ}(d:ED X a f)(c:∀ b,isTrue a X.env b=(do let v<-b;standAt a.pos;holding [v] (truthy v)):=by intro _;rfl):TD X a (tOf f) :=
 let ⟨_,pa,ra⟩:=d
 ⟨_,zlT pa c,zo4 ra⟩
def wd (f g:Yk):Yk:=fun ρ=>(f ρ).bind λc=>if c=true then g ρ else some false
def vI (f g:Yk):Yk:=fun ρ=>(f ρ).bind λc=>if c=true then some true else g ρ
def zZ (f:Yk):Yk:=fun ρ=>(f ρ).map (!·)
def zne {f:Yk}(b:TD X a f):WD X (.BoolOp .And [a] pos) f:=let ⟨_,pa,ra⟩:=b;⟨_,zmJ pa,ra⟩
def zp3 {f:Yk}(b:TD X a f):WD X (.BoolOp .Or [a] pos) f:=let ⟨_,pa,ra⟩:=b;⟨_,zlW pa,ra⟩
def zoN {rest:xK}{f g:Yk}(h:TD X a f)(i:WD X (.BoolOp .And (b::rest) pos) g):WD X (.BoolOp .And (a::b::rest) pos) (wd f g):=by
 obtain⟨ta,m,n⟩:=h
 obtain⟨p,k,j⟩:=i
 refine⟨_,zoR m k,fun σ ρ F H z Q s d e q=>?_⟩
 obtain⟨x,l,e⟩:=u0.mp e
 refine n σ ρ F H x _ s d l λF1 H1 c=>?_
 cases x with
 | true =>
  rw[u9 rfl]at e ⊢
  exact j σ ρ F1 H1 z Q c.fh (d.mono c.ff) e λF2 H2 o=>q F2 H2 (c.trans o)
 | false =>
  rw[t9 u6]at e ⊢
  cases e
  exact q F1 H1 c
def zrs {rest:xK}{f g:Yk}(h:TD X a f)(i:WD X (.BoolOp .Or (b::rest) pos) g):WD X (.BoolOp .Or (a::b::rest) pos) (vI f g):=by
 obtain⟨ta,m,n⟩:=h
 obtain⟨p,k,j⟩:=i
 refine⟨_,zol m k,fun σ ρ F H z Q s d e q=>?_⟩
 obtain⟨x,l,e⟩:=u0.mp e
 refine n σ ρ F H x _ s d l λF1 H1 c=>?_
 cases x with
 | false =>
  rw[t9 u6]at e ⊢
  exact j σ ρ F1 H1 z Q c.fh (d.mono c.ff) e λF2 H2 o=>q F2 H2 (c.trans o)
 | true =>
  rw[u9 rfl]at e ⊢
  cases e
  exact q F1 H1 c
def td_w {f:Yk}(h:WD X a f):TD X a f:=let ⟨_,p,r⟩:=h;⟨_,p.pt,r⟩
def ziA {f:Yk}(b:TD X a f):TD X (.UnaryOp .Not a pos) (zZ f):=by
 obtain⟨ta,h,i⟩:=b
 refine⟨_,zl1 h,fun σ ρ F H z Q s d e q=>?_⟩
 obtain⟨x,g,rfl⟩:=u7.mp e
 exact i σ ρ F H x _ s d g λF1 H1 c=>q F1 H1 c
def Y7 (f g:zQ):zQ:=fun ρ=>((f ρ).bind asB).bind λc=>if c=true then g ρ else some (.bl false)
def eOr (f g:zQ):zQ:=fun ρ=>((f ρ).bind asB).bind λc=>if c=true then some (.bl true)else g ρ
def zbe (f:zQ):zQ:=fun ρ=>((f ρ).bind asB).map λc=>.bl (!c)
def zpk {op}{f:zQ}(ha:ED X a f):ED X (.BoolOp op [a] pos) f:=let ⟨_,pa,ra⟩:=ha;⟨_,zok pa,ra⟩
def zoM {rest:xK}{f g:zQ}(i:ED X a f)(j:ED X (.BoolOp .And (b::rest) pos) g):ED X (.BoolOp .And (a::b::rest) pos) (Y7 f g):=by
 obtain⟨ta,m,n⟩:=i
 obtain⟨u,l,k⟩:=j
 refine⟨_,zpe m l,fun σ ρ F H z Q s h e q=>?_⟩
 obtain⟨x,d,e⟩:=u0.mp e
 obtain⟨y,d,p⟩:=u0.mp d
 cases Z4 p
 refine n σ ρ F H _ _ s h d λF1 H1 v c o=>⟨x,o.bl_inv,?_⟩
 cases x with
 | true =>
  rw[u9 rfl]at e ⊢
  exact k σ ρ F1 H1 z Q c.fh (h.mono c.ff) e λF2 H2 w r t=>q F2 H2 w (c.trans r) t
 | false =>
  rw[t9 u6]at e ⊢
  cases e
  exact q F1 H1 _ c .bl
def zrc {rest:xK}{f g:zQ}(i:ED X a f)(j:ED X (.BoolOp .Or (b::rest) pos) g):ED X (.BoolOp .Or (a::b::rest) pos) (eOr f g):=by
 obtain⟨ta,m,n⟩:=i
 obtain⟨u,l,k⟩:=j
 refine⟨_,zq1 m l,fun σ ρ F H z Q s h e q=>?_⟩
 obtain⟨x,d,e⟩:=u0.mp e
 obtain⟨y,d,p⟩:=u0.mp d
 cases Z4 p
 refine n σ ρ F H _ _ s h d λF1 H1 v c o=>⟨x,o.bl_inv,?_⟩
 cases x with
 | false =>
  rw[t9 u6]at e ⊢
  exact k σ ρ F1 H1 z Q c.fh (h.mono c.ff) e λF2 H2 w r t=>q F2 H2 w (c.trans r) t
 | true =>
  rw[u9 rfl]at e ⊢
  cases e
  exact q F1 H1 _ c .bl
def zoL {f:zQ}(c:ED X a f):ED X (.UnaryOp .Not a pos) (zbe f):=by
 obtain⟨ta,h,i⟩:=c
 refine⟨_,zop h,fun σ ρ F H z Q s g e q=>?_⟩
 obtain⟨x,b,rfl⟩:=u7.mp e
 obtain⟨y,b,k⟩:=u0.mp b
 cases Z4 k
 exact i σ ρ F H _ _ s g b λF1 H1 v d j=>⟨x,j.bl_inv,q F1 H1 _ d .bl⟩
def eIf (t:Yk)(f g:zQ):zQ:=fun ρ=>(t ρ).bind λc=>if c=true then f ρ else g ρ
def zq9 {t:Yk}{f g:zQ}(k:TD X c t)(l:ED X a f)(n:ED X b g):ED X (.IfExp c a b pos) (eIf t f g):=by
 obtain⟨tc,m,v⟩:=k
 obtain⟨ta,u,y⟩:=l
 obtain⟨A,p,o⟩:=n
 refine⟨_,zex m u p,fun σ ρ F H z Q s h e q=>?_⟩
 obtain⟨x,r,e⟩:=u0.mp e
 refine v σ ρ F H x _ s h r λF1 H1 d=>?_
 cases x with
 | true =>
  rw[u9 rfl]at e ⊢
  exact y σ ρ F1 H1 z Q d.fh (h.mono d.ff) e λF2 H2 w i j=>q F2 H2 w (d.trans i) j
 | false =>
  rw[t9 u6]at e ⊢
  exact o σ ρ F1 H1 z Q d.fh (h.mono d.ff) e λF2 H2 w i j=>q F2 H2 w (d.trans i) j
def eUn (g:D->Option D)(f:zQ):zQ:=fun ρ=>(f ρ).bind g
def Wg:D->Option D
 | .int i=>some (.int (-i))
 | _=>none
def ziz {f:zQ}(b:ED X a f):ED X (.UnaryOp .USub a pos) (eUn Wg f):=by
 obtain⟨ta,h,i⟩:=b
 refine⟨_,zqb zl8 h,fun σ ρ F H z Q s d e q=>?_⟩
 obtain⟨x,g,e⟩:=u0.mp e
 cases x <;> try cases e
 exact i σ ρ F H _ _ s d g λF1 H1 v c j=>⟨_,j.int_inv,q F1 H1 _ c .int⟩
def ze:y4:=λ_=>some []
def za (f:zQ)(g:y4):y4:=fun ρ=>(f ρ).bind λd=>(g ρ).map (d::·)
def yb:AD X [] ze:=⟨_,yJ,λ_ _ _ _ _ _ s _ e q=>by cases e;exact q _ _ _ (.refl s) .nil⟩
def zw {a:xK}{f:zQ}{g:y4}(h:ED X e f)(t:AD X a g)(r:starEach (e::a) X.env=(false,eval e X.env)::starEach a X.env:=by rfl):AD X (e::a) (za f g):=by
 obtain⟨ta,l,n⟩:=h
 obtain⟨y,j,i⟩:=t
 refine⟨_,zu l j r,fun σ ρ F H z Q s c e q=>?_⟩
 obtain⟨x,k,e⟩:=u0.mp e
 obtain⟨m,p,rfl⟩:=u7.mp e
 refine n σ ρ F H x _ s c k λF1 H1 v b o=>?_
 exact i σ ρ F1 H1 m _ b.fh (c.mono b.ff) p λF2 H2 w d u=>q F2 H2 _ (b.trans d) (.cons (o.mono d.ff) u)
def lim (n:Nat):Bool:=decide (n<=sizeLine)
def yq (g:y4):zQ:=fun ρ=>(g ρ).bind λds=>if lim ds.length=true then some (.tup ds)else none
def zS (g:y4):y4:=fun ρ=>(g ρ).bind λds=>if lim ds.length=true then some ds else none
def ZZ {a:xK}{x1}{g:y4}(h:AD X a g):ED X (.Tuple a x1 pos) (yq g):=by
 obtain⟨ta,k,n⟩:=h
 refine⟨_,zn2 k,fun σ ρ F H z Q s i e q=>?_⟩
 obtain⟨l,j,e⟩:=u0.mp e
 split at e <;> cases e
 rename_i m
 refine n σ ρ F H l _ s i j λF1 H1 f b c=>⟨by rw[c.length];exact k9 m,λp o=>?_⟩
 have d:=Gr.alloc b.fh o (.tup f)
 exact q _ _ _ (b.trans d) (.tup zq (c.mono d.ff))
def zb1 {f:xK}{g:y4}(h:AD X f g):FL X (.List f pos) (zS g):=by
 obtain⟨ta,n,t⟩:=h
 refine⟨_,zbF n,fun σ ρ F H z Q s i e q=>?_⟩
 obtain⟨v,j,e⟩:=u0.mp e
 split at e <;> cases e
 rename_i r
 refine t σ ρ F H _ _ s i j λF1 H1 m a d=>⟨by rw[d.length];exact k9 r,λp b=>?_⟩
 have l:=Gr.hide a.fh b (.lst m)
 have k:H p=none:=by
  cases e:H p with
  | none=>rfl
  | some o =>
   cases c:F p with
   | none=>rw[(a.kp p o c e).2]at b;cases b
   | some u=>rw[a.fh _ _ (a.ff _ _ c)]at b;cases b
 exact q _ _ _ _ (a.trans l) k (a.fh.free b) zq d
end
end
end Dl
namespace Dl
open PySem L2
variable [KK]
inductive Sl where
 | no | v (d:D) | o (ds:zk) | m (t:Bool) (ks:List (List Key)) (vs:zk)
 deriving Inhabited
abbrev SE:=List Sl
abbrev ZK:=D->SE->Option SE
abbrev vz:=SE->Option Nat
abbrev vc:=SE->Prop
def Sl.f:Sl->Option D
 | .v d=>some d
 | _=>none
def Sl.g:Sl->Option D
 | .v d=>some d
 | .o ds=>some (.lst ds)
 | .m t a b=>some (.dct false t a b)
 | .no=>none
def Sl.isO:Sl->Bool
 | .o _=>true
 | .m _ _ _=>true
 | _=>false
def visF (ρ:SE):Ev:=ρ.map Sl.f
def visG (ρ:SE):Ev:=ρ.map Sl.g
def zeL (F:Hp)(o:HO):Sl->Prop
 | .o b=>∃ a,o=.lst a/\AtL F b a
 | .m t c b=>∃ a,zga o t c a/\AtL F b a
 | _=>False
def zeL.mono (h:zeL F o s)(k:yE F F'):zeL F' o s:=by
 cases s with
 | no=>exact h
 | v d=>exact h
 | o c=>obtain⟨b,e,a⟩:=h;exact⟨b,e,a.mono k⟩
 | m t f c=>obtain⟨b,e,a⟩:=h;exact⟨b,e,a.mono k⟩
def zeL.isO {s:Sl}(h:zeL F o s):s.isO=true:=by
 cases s with
 | no=>exact h.elim
 | v d=>exact h.elim
 | o a=>rfl
 | m t b a=>rfl
def zeL.ntup (h:zeL F o s)(c:zx):o≠.tup c:=by
 cases s with
 | no=>exact h.elim
 | v d=>exact h.elim
 | o b=>obtain⟨f,rfl,_⟩:=h;intro e;cases e
 | m t g b =>
  obtain⟨f,e,_⟩:=h
  unfold zga at e
  split at e
  .obtain⟨a,rfl,_⟩:=e;intro e;cases e
  .obtain⟨a,rfl,_⟩:=e;intro e;cases e
def zeL.at {G:Hp}{s:Sl}(h:zeL F o s)(e:s.g=some d)(b:G p=some o)(k:yE F G):At G d (.ref p):=by
 cases s with
 | no=>exact h.elim
 | v d=>exact h.elim
 | o ds =>
  cases e
  obtain⟨c,rfl,a⟩:=h
  exact .lst b (a.mono k)
 | m t f ds =>
  cases e
  obtain⟨c,e,a⟩:=h
  unfold At
  exact⟨p,c,rfl,⟨o,e,b⟩,a.mono k⟩
structure Rl (Fb Hb F H:Hp) (ρ:SE) (σ:St):Prop where
 gr:Gr Fb Hb F H
 vals:∀ (i:Nat) (d:D),ρ[i]?=some (.v d)->∃ v,σ[i]?=some (some v)/\At F d v
 ows:∀ (i:Nat) (s:Sl),ρ[i]?=some s->s.isO=true->∃ p o,σ[i]?=some (some (.ref p))/\Hb p=none/\F p=none/\H p=some o/\zeL F o s
 dis:∀ (i j:Nat) (p:Addr) (s t:Sl),ρ[i]?=some s->ρ[j]?=some t->s.isO=true->t.isO=true->σ[i]?=some (some (.ref p))->σ[j]?=some (some (.ref p))->i=j
 len:ρ.length=σ.length
section
variable {Fb Hb F H F' H':Hp}{ρ ρ':SE}{σ σ':St}
def Rl.owns (r:Rl Fb Hb F H ρ σ)(i:Nat)(c:zk)(e:ρ[i]?=some (.o c)):∃ p b,σ[i]?=some (some (.ref p))/\Hb p=none/\F p=none/\H p=some (.lst b)/\AtL F c b:=by
 obtain⟨p,o,h,f,g,d,b,rfl,a⟩:=r.ows i _ e rfl
 exact⟨p,b,h,f,g,d,a⟩
def Rl.grow (r:Rl Fb Hb F H ρ σ)(g:Gr F H F' H'):Rl Fb Hb F' H' ρ σ:=by
 refine⟨r.gr.trans g,λi d e=>?_,λi s e h=>?_,r.dis,r.len⟩
 .obtain⟨v,b,a⟩:=r.vals i d e
  exact⟨v,b,a.mono g.ff⟩
 .obtain⟨p,o,b,f,k,c,a⟩:=r.ows i s e h
  obtain⟨j,l⟩:=g.kl a.ntup k c
  exact⟨p,o,b,f,j,l,a.mono g.ff⟩
def Rl.visF (r:Rl Fb Hb F H ρ σ):VAt F (visF ρ) σ:=λi d e=>by
 unfold Dl.visF at e
 rw[q0]at e
 cases h:ρ[i]? with
 | none=>rw[h]at e;cases e
 | some x =>
  rw[h]at e
  cases x with
  | no=>cases e
  | v b =>
   cases e
   exact r.vals i d h
  | o ds=>cases e
  | m t a ds=>cases e
def Own (ρ:SE)(σ:St)(p:Addr):Prop:=∃ (i:Nat) (s:Sl),ρ[i]?=some s/\s.isO=true/\σ[i]?=some (some (.ref p))
open Classical in
noncomputable def gOf (ρ:SE)(σ:St)(F H:Hp):Hp:=λp=>if Own ρ σ p then H p else F p
open Classical in
noncomputable def fOf (ρ:SE)(σ:St)(G:Hp):Hp:=λp=>if Own ρ σ p then none else G p
def Rl.own (r:Rl Fb Hb F H ρ σ)(h:Own ρ σ p):Hb p=none/\F p=none/\∃ o,H p=some o/\∀ k,o≠.tup k:=by
 obtain⟨i,s,j,c,d⟩:=h
 obtain⟨q,o,b,g,e,f,a⟩:=r.ows i s j c
 rw[d]at b
 cases b
 exact⟨g,e,o,f,a.ntup⟩
def Rl.notown (r:Rl Fb Hb F H ρ σ)(h:H q=none)(j:Nat)(s:Sl)(d:ρ[j]?=some s)(c:s.isO=true):σ[j]?≠some (some (.ref q)):=λe=>by
 obtain⟨p,o,b,_,_,a,_⟩:=r.ows j s d c
 rw[e]at b
 cases b
 rw[h]at a
 cases a
def Rl.notbase (r:Rl Fb Hb F H ρ σ)(h:H q=none):Hb q=none:=by
 cases z:Hb q with
 | none=>rfl
 | some o =>
  cases a:Fb q with
  | none=>rw[(r.gr.kp q o a z).2]at h;cases h
  | some u=>rw[r.gr.fh _ _ (r.gr.ff _ _ a)]at h;cases h
def Rl.fg (r:Rl Fb Hb F H ρ σ):yE F (gOf ρ σ F H):=λp o e=>by
 unfold gOf
 split
 .exact r.gr.fh p o e
 .exact e
def Rl.gh (r:Rl Fb Hb F H ρ σ):yE (gOf ρ σ F H) H:=λp o e=>by
 unfold gOf at e
 split at e
 .exact e
 .exact r.gr.fh p o e
def Rl.visG (r:Rl Fb Hb F H ρ σ):VAt (gOf ρ σ F H) (visG ρ) σ:=λi d e=>by
 unfold Dl.visG at e
 rw[q0]at e
 cases h:ρ[i]? with
 | none=>rw[h]at e;cases e
 | some x =>
  rw[h]at e
  have e:x.g=some d:=g0 e
  have own:x.isO=true->∃ v,σ[i]?=some (some v)/\At (gOf ρ σ F H) d v:=λc=>by
   obtain⟨p,o,b,k,g,f,a⟩:=r.ows i x h c
   refine⟨_,b,a.at e ?_ r.fg⟩
   unfold gOf
   rw[u9 ⟨i,x,h,c,b⟩]
   exact f
  cases x with
  | no=>cases e
  | v l =>
   cases e
   obtain⟨v,b,a⟩:=r.vals i d h
   exact⟨v,b,a.mono r.fg⟩
  | o ds=>exact own rfl
  | m t j ds=>exact own rfl
def Rl.back {G':Hp}(r:Rl Fb Hb F H ρ σ)(g:Gr (gOf ρ σ F H) H G' H'):Gr F H (fOf ρ σ G') H'/\∀ q b,G' q=some (.tup b)->fOf ρ σ G' q=some (.tup b):=by
 refine⟨⟨λp o e=>?_,λp o e=>?_,λp o c a=>?_⟩,λq b e=>?_⟩
 .unfold fOf
  rw[t9 (λh=>by rw[(r.own h).2.1]at e;cases e)]
  exact g.ff p o (r.fg p o e)
 .unfold fOf at e
  split at e
  .cases e
  .exact g.fh p o e
 .by_cases h:Own ρ σ p
  .refine⟨.inl (by unfold fOf;rw[u9 h]),g.fh p o (g.ff p o ?_)⟩
   unfold gOf
   rw[u9 h]
   exact a
  .obtain⟨x,y⟩:=g.kp p o (by unfold gOf;rw[t9 h];exact c) a
   refine⟨?_,y⟩
   unfold Hid fOf
   rw[t9 h]
   exact x
 .unfold fOf
  rw[t9 (λh=>?_)]
  .exact e
  .obtain⟨_,_,o,a,n⟩:=r.own h
   have:G' q=some o:=g.ff q _ (by unfold gOf;rw[u9 h];exact a)
   rw[this]at e
   cases e
   exact n b rfl
def Rl.out (r:Rl Fb Hb F H ρ σ)(g:Gr (gOf ρ σ F H) H G' H'):Gr Fb Hb G' H':=by
 refine⟨λp o e=>g.ff p o (r.fg p o (r.gr.ff p o e)),g.fh,λp o i b=>?_⟩
 obtain⟨a,d⟩:=r.gr.kp p o i b
 have c:gOf ρ σ F H p=F p:=by
  unfold gOf
  rw[t9 (λh=>by rw[(r.own h).1]at b;cases b)]
 rcases a with a | ⟨a,f⟩
 .exact g.kp p o (by rw[c];exact a) d
 .have:=g.ff p o (by rw[c];exact f)
  exact⟨.inr ⟨a,this⟩,g.fh _ _ this⟩
def Rl.set (r:Rl Fb Hb F H ρ σ)(a:At F d v):Rl Fb Hb F H (ρ.set i (.v d)) (σ.set i (some v)):=by
 have g:∀ {j:Nat} {s:Sl},(ρ.set i (.v d))[j]?=some s->s.isO=true->i≠j:=λ{j s} h b e=>by
  subst e
  rw[i6]at h
  simp only[u14]at h
  split at h <;> cases h
  cases b
 refine⟨r.gr,λj e h=>?_,λj s h b=>?_,λj k p s t l f n q m o=>?_,by simp[r.len]⟩
 .by_cases c:i=j
  .subst c
   rw[i6]at h
   simp only[u14]at h
   split at h
   .rename_i u
    cases h
    refine⟨v,?_,a⟩
    rw[i6]
    simp[<-r.len,u]
   .cases h
  .rw[k6 c]at h ⊢
   exact r.vals j e h
 .have c:=g h b
  rw[k6 c]at h ⊢
  exact r.ows j s h b
 .have w:=g l n
  have x:=g f q
  rw[k6 w]at l m
  rw[k6 x]at f o
  exact r.dis j k p s t l f n q m o
def Rl.setW (r:Rl Fb Hb F H ρ σ){w:Sl}(A:Hb p=none)(z:F p=none)(B:H p=some o)(a:zeL F o w)(y:∀ (j:Nat) (s:Sl),ρ[j]?=some s->s.isO=true->σ[j]?≠some (some (.ref p))):Rl Fb Hb F H (ρ.set i w) (σ.set i (some (.ref p))):=by
 have b:∀ {s:Sl},(ρ.set i w)[i]?=some s->i<ρ.length/\s=w:=λ{s} h=>by
  rw[i6]at h
  simp only[u14]at h
  split at h
  .rename_i f
   cases h
   exact⟨f,rfl⟩
  .cases h
 have c:i<ρ.length->(σ.set i (some (V.ref p)))[i]?=some (some (.ref p)):=λf=>by
  rw[i6]
  simp[<-r.len,f]
 refine⟨r.gr,λj e h=>?_,λj s h C=>?_,λj k q s t u m v x g l=>?_,by simp[r.len]⟩
 .by_cases d:i=j
  .subst d
   have e:=(b h).2
   have:=a.isO
   rw[<-e]at this
   cases this
  .rw[k6 d]at h ⊢
   exact r.vals j e h
 .by_cases d:i=j
  .subst d
   obtain⟨f,e⟩:=b h
   subst e
   exact⟨p,o,c f,A,z,B,a⟩
  .rw[k6 d]at h ⊢
   exact r.ows j s h C
 .by_cases d:i=j
  .subst d
   by_cases n:i=k
   .exact n
   .obtain⟨f,_⟩:=b u
    rw[c f]at g
    cases g
    rw[k6 n]at m l
    exact absurd l (y k t m x)
  .by_cases n:i=k
   .subst n
    obtain⟨f,_⟩:=b m
    rw[c f]at l
    cases l
    rw[k6 d]at u g
    exact absurd g (y j s u v)
   .rw[k6 d]at u g
    rw[k6 n]at m l
    exact r.dis j k q s t u m v x g l
def Rl.setO (r:Rl Fb Hb F H ρ σ)(d:Hb p=none)(e:F p=none)(g:H p=some (.lst b))(a:AtL F c b)(f:∀ (j:Nat) (s:Sl),ρ[j]?=some s->s.isO=true->σ[j]?≠some (some (.ref p))):Rl Fb Hb F H (ρ.set i (.o c)) (σ.set i (some (.ref p))):=r.setW d e g ⟨b,rfl,a⟩ f
def Rl.mutW (r:Rl Fb Hb F H ρ σ){i:Nat}{w:Sl}(e:ρ[i]?=some w)(hw:w.isO=true)(u:σ[i]?=some (some (.ref p)))(a:zeL F A n):Rl Fb Hb F (upd H p A) (ρ.set i n) σ:=by
 obtain⟨q,o,I,G,E,V,_⟩:=r.ows i w e hw
 rw[u]at I
 cases I
 have J:i<ρ.length:=(t5.mp e).1
 have B:∀ {j:Nat} {s:Sl} {q:Addr},i≠j->ρ[j]?=some s->s.isO=true->σ[j]?=some (some (.ref q))->q≠p:=λ{j s q} hne y g m z=>by
  subst z
  exact hne (r.dis i j q w s e y hw g u m)
 refine⟨⟨r.gr.ff,λb o z=>?_,λb o L D=>?_⟩,λj d h=>?_,λj s h g=>?_,λj k q s t y m N U M R=>?_,by simp[r.len]⟩
 .rw[zn (zg z E)]
  exact r.gr.fh b o z
 .rw[zn (zg D G)]
  exact r.gr.kp b o L D
 .by_cases c:i=j
  .subst c
   rw[g6 J]at h
   cases h
   exact(Bool.noConfusion a.isO)
  .rw[k6 c]at h
   exact r.vals j d h
 .by_cases c:i=j
  .subst c
   rw[g6 J]at h
   cases h
   exact⟨p,A,u,G,E,zq,a⟩
  .rw[k6 c]at h
   obtain⟨q,z,l,C,O,T,S⟩:=r.ows j s h g
   refine⟨q,z,l,C,O,?_,S⟩
   rw[zn (B c h g l)]
   exact T
 .have f:∀ {j:Nat} {s:Sl},(ρ.set i n)[j]?=some s->s.isO=true->∃ K,ρ[j]?=some K/\K.isO=true:=λ{j s} h g=>by
   by_cases c:i=j
   .subst c;exact⟨w,e,hw⟩
   .rw[k6 c]at h;exact⟨s,h,g⟩
  obtain⟨l,Q,x⟩:=f y N
  obtain⟨C,P,v⟩:=f m U
  exact r.dis j k q l C Q P x v M R
def Rl.mutate (r:Rl Fb Hb F H ρ σ){i:Nat}{f:zk}(e:ρ[i]?=some (.o f))(d:σ[i]?=some (some (.ref p)))(a:AtL F c b):Rl Fb Hb F (upd H p (.lst b)) (ρ.set i (.o c)) σ :=
 r.mutW e rfl d ⟨b,rfl,a⟩
def Sl.fz:Sl->Sl
 | .o b=>.v (.lst b)
 | .m t a c=>.v (.dct false t a c)
 | s=>s
def zqB (ρ:SE)(i:Nat):SE:=ρ.set i ((ρ[i]?).getD .no).fz
def Rl.freeze (r:Rl Fb Hb F H ρ σ)(i:Nat):∃ F',Rl Fb Hb F' H (zqB ρ i) σ:=by
 unfold zqB
 cases h:ρ[i]? with
 | none =>
  refine⟨F,?_⟩
  rw[List.set_eq_of_length_le (List.getElem?_eq_none_iff.mp h)]
  exact r
 | some s =>
  have A:i<ρ.length:=(t5.mp h).1
  have same:s.fz=s->∃ F',Rl Fb Hb F' H (ρ.set i ((some s).getD .no).fz) σ:=λe=>by
   refine⟨F,?_⟩
   show Rl Fb Hb F H (ρ.set i s.fz) σ
   rw[e]
   have:ρ.set i s=ρ:=by
    apply u27
    intro j
    by_cases c:i=j
    .subst c;rw[g6 A,h]
    .rw[k6 c]
   rw[this]
   exact r
  have f:∀ d,s.isO=true->s.g=some d->s.fz=.v d->∃ F',Rl Fb Hb F' H (ρ.set i ((some s).getD .no).fz) σ:=λd I S U=>by
   obtain⟨p,o,G,N,J,P,a⟩:=r.ows i s h I
   have x:yE F (upd F p o):=λb u e=>by rw[zn (zg e J)];exact e
   show ∃ F',Rl Fb Hb F' H (ρ.set i s.fz) σ
   rw[U]
   have C:∀ {j:Nat} {t:Sl},(ρ.set i (.v d))[j]?=some t->t.isO=true->i≠j:=λ{j t} h g e=>by
    subst e
    rw[g6 A]at h
    cases h
    cases g
   refine⟨upd F p o,r.gr.show N J P,λj e z=>?_,λj t z g=>?_,λj k q t u B n E K L Q=>?_,by simp[r.len]⟩
   .by_cases c:i=j
    .subst c
     rw[g6 A]at z
     cases z
     exact⟨_,G,a.at S zq x⟩
    .rw[k6 c]at z
     obtain⟨v,l,D⟩:=r.vals j e z
     exact⟨v,l,D.mono x⟩
   .have c:=C z g
    rw[k6 c]at z
    obtain⟨q,y,l,D,M,T,R⟩:=r.ows j t z g
    refine⟨q,y,l,D,?_,T,R.mono x⟩
    rw[zn (λw=>c (r.dis i j p s t h z I g G (by rw[<-w];exact l)))]
    exact M
   .have O:=C B E
    have W:=C n K
    rw[k6 O]at B
    rw[k6 W]at n
    exact r.dis j k q t u B n E K L Q
  cases s with
  | no=>exact same rfl
  | v d=>exact same rfl
  | o V=>exact f _ rfl rfl rfl
  | m t X V=>exact f _ rfl rfl rfl
end
inductive Ctl where
 | nx (ρ:SE) | rt (d:D) | bk (ρ:SE) | ct (ρ:SE) | no
 deriving Inhabited
abbrev zT:=SE->Ctl
def SOk (Fb Hb:Hp)(E:zbz):Ctl->Prop
 | .nx ρ=>∀ F H σ,Rl Fb Hb F H ρ σ->E.nx σ H
 | .bk ρ=>∀ F H σ,Rl Fb Hb F H ρ σ->E.bk σ H
 | .ct ρ=>∀ F H σ,Rl Fb Hb F H ρ σ->E.ct σ H
 | .rt d=>∀ F H v,Gr Fb Hb F H->At F d v->E.rt v H
 | .no=>False
def RS (t:TS)(g:zT):Prop:=∀ (Fb Hb F H:Hp) (ρ:SE) (σ:St) (E:zbz),Rl Fb Hb F H ρ σ->SOk Fb Hb E (g ρ)->t E σ H
def SD (X:Cx)(a:Stmt)(g:zT):Prop:=∃ t,PS X a t/\RS t g
def SDs (X:Cx)(a:Xp)(g:zT):Prop:=∃ t,PSs X a t/\RS t g
section
variable {X:Cx}{st:Stmt}{sts:Xp}{a b c e:Expr}{pos pos':Pos}
def zF:zT:=.nx
noncomputable def zy (g h:zT):zT:=fun ρ=>match g ρ with
 | .nx a=>h a
 | .rt d=>.rt d
 | .bk a=>.bk a
 | .ct a=>.ct a
 | .no=>.no
def zmp:SDs X [] zF:=⟨_,zgs,λ_ _ F H ρ σ E r h=>h F H σ r⟩
def yG {g:zT}(m:SD X st g)(b:SDs X sts h):SDs X (st::sts) (zy g h):=by
 obtain⟨t,p,r⟩:=m
 obtain⟨u,f,c⟩:=b
 refine⟨_,wH p f,λFb Hb F H ρ σ E j k=>?_⟩
 refine r Fb Hb F H ρ σ { E with nx:=u E } j ?_
 unfold zy at k
 cases e:g ρ with
 | nx i =>
  rw[e]at k
  exact λF' H' l a=>c Fb Hb F' H' i l E a k
 | rt d=>rw[e]at k;exact k
 | bk d=>rw[e]at k;exact k
 | ct d=>rw[e]at k;exact k
 | no=>rw[e]at k;exact k
def wV {g:zT}(a:SD X st g):SDs X [st] g:=let ⟨_,p,r⟩:=a;⟨_,XR p,r⟩
def sFz (i:Nat)(g:zT):zT:=fun ρ=>g (zqB ρ i)
def zeN {g:zT}(i:Nat)(h:SDs X sts g):SDs X sts (sFz i g):=by
 obtain⟨t,p,r⟩:=h
 refine⟨_,p,λFb Hb F H ρ σ E b k=>?_⟩
 obtain⟨F',a⟩:=b.freeze i
 exact r Fb Hb F' H _ σ E a k
def sNo:zT:=λ_=>.no
def zj8:SD X st sNo:=⟨_,zeA,λ_ _ _ _ _ _ _ _ h=>h.elim⟩
noncomputable def zO (f:zQ):zT:=fun ρ=>match f (visG ρ) with
 | some d=>.rt d
 | none=>.no
def zap {f:zQ}(h:ED X e f):SD X (.Return (some e) pos) (zO f):=by
 obtain⟨t,p,r⟩:=h
 refine⟨_,zcn p,λFb Hb F H ρ σ E a k=>?_⟩
 unfold zO at k
 cases h:f (visG ρ) with
 | none=>rw[h]at k;exact k.elim
 | some d =>
  rw[h]at k
  exact r σ _ _ H d _ a.gh a.visG h λF' H' v g b=>k F' H' v (a.out g) b
def Zq:zT:=λ_=>.rt .non
def vEv (m:Bool)(f:zQ)(ρ:SE):Option D:=if m=true then (f (visG ρ)).bind λd=>if noL d=true then some d else none else f (visF ρ)
def RE.at {f:zQ}{t:TE}{Q:VK}(r:RE t f)(a:Rl Fb Hb F H ρ σ)(h:vEv m f ρ=some d)(q:∀ F' H' v,Gr F H F' H'->At F' d v->Q v H'):t σ H Q:=by
 unfold vEv at h
 cases m with
 | false =>
  rw[t9 u6]at h
  exact r σ _ _ H d _ a.gr.fh a.visF h q
 | true =>
  rw[u9 rfl]at h
  obtain⟨l,e,b⟩:=u0.mp h
  split at b <;> cases b
  rename_i c
  refine r σ _ _ H d _ a.gh a.visG e λF' H' v g k=>?_
  obtain⟨i,j⟩:=a.back g
  exact q _ H' v i (k.flat j c)
def yx (m:Bool)(i:Nat)(f:zQ):zT:=fun ρ=>match vEv m f ρ with
 | some d=>.nx (ρ.set i (.v d))
 | none=>.no
def W2 {i:Nat}{f:zQ}(n:X.N.Nodup)(c:X.N[i]?=some x)(q:Loc X.env.scope x)(o:ED X e f)(j:swapsWith e (some (.Name x pos')) pos.line X.env=pure false:=by rfl)(b:X.fn x=true\/X.env.scope.names.lookup x=some .local:=by first | exact .inl rfl | exact .inr rfl | assumption):SD X (.Assign [.Name x pos'] e pos) (yx m i f):=by
 obtain⟨t,p,r⟩:=o
 refine⟨_,XV n c q p j b,λFb Hb F H ρ σ E a k=>?_⟩
 unfold yx at k
 cases h:vEv m f ρ with
 | none=>rw[h]at k;exact k.elim
 | some d =>
  rw[h]at k
  exact r.at a h λF' H' v g l=>k F' H' _ ((a.grow g).set l)
noncomputable def YH (f:zQ):zT:=fun ρ=>match f (visG ρ) with
 | some _=>.nx ρ
 | none=>.no
def zg6 {f:zQ}(b:ED X e f)(c:swapsWith e none pos.line X.env=pure false:=by rfl):SD X (.Expr e pos) (YH f):=by
 obtain⟨t,p,r⟩:=b
 refine⟨_,Vz p c,λFb Hb F H ρ σ E a k=>?_⟩
 unfold YH at k
 cases h:f (visG ρ) with
 | none=>rw[h]at k;exact k.elim
 | some d =>
  rw[h]at k
  exact r σ _ _ H d _ a.gh a.visG h λF' H' v g i=>k _ H' σ (a.grow (a.back g).1)
def vH (i:Nat)(f:y4):zT:=fun ρ=>match f (visF ρ) with
 | some ds=>.nx (ρ.set i (.o ds))
 | none=>.no
def zg0 {i:Nat}{f:y4}(u:X.N.Nodup)(m:X.N[i]?=some x)(c:Loc X.env.scope x)(v:FL X e f)(n:swapsWith e (some (.Name x pos')) pos.line X.env=pure false:=by rfl)(l:X.fn x=true\/X.env.scope.names.lookup x=some .local:=by first | exact .inl rfl | exact .inr rfl | assumption):SD X (.Assign [.Name x pos'] e pos) (vH i f):=by
 obtain⟨t,p,r⟩:=v
 refine⟨_,XV u m c p n l,λFb Hb F H ρ σ E a k=>?_⟩
 unfold vH at k
 cases h:f (visF ρ) with
 | none=>rw[h]at k;exact k.elim
 | some s =>
  rw[h]at k
  refine r σ _ _ H s _ a.gr.fh a.visF h λF' H' q w g d j o c=>?_
  have b:=a.grow g
  exact k F' H' _ (b.setO (a.notbase d) j o c (a.notown d))
noncomputable def sIf (t:Yk)(g h:zT):zT:=fun ρ=>match t (visG ρ) with
 | some true=>g ρ
 | some false=>h ρ
 | none=>.no
def zrm {e f:Xp}{t:Yk}{g:zT}(m:TD X c t)(n:SDs X e g)(i:SDs X f h):SD X (.If c e f pos) (sIf t g h):=by
 obtain⟨tc,o,l⟩:=m
 obtain⟨ta,q,r⟩:=n
 obtain⟨s,j,p⟩:=i
 refine⟨_,zna o q j,λFb Hb F H ρ σ E b k=>?_⟩
 unfold sIf at k
 cases h:t (visG ρ) with
 | none=>rw[h]at k;exact k.elim
 | some d =>
  rw[h]at k
  refine l σ _ _ H d _ b.gh b.visG h λF' H' g=>?_
  have a:=b.grow (b.back g).1
  cases d with
  | true=>rw[u9 rfl];exact r Fb Hb _ H' ρ σ E a k
  | false=>rw[t9 u6];exact p Fb Hb _ H' ρ σ E a k
def YJ (t:Yk)(g:zT):Nat->SE->Ctl
 | 0,_=>.no
 | n+1,ρ=>match t (visG ρ) with
  | some true=>match g ρ with
   | .nx a=>YJ t g n a
   | .ct a=>YJ t g n a
   | .bk a=>.nx a
   | .rt d=>.rt d
   | .no=>.no
  | some false=>.nx ρ
  | none=>.no
def zjS {t:Yk}{g:zT}(n:Nat)(u:PassesOwn (model X.prog X.w) X.A X.env X.xe)(l:TD X c t)(o:SDs X j g):SD X (.While c j [] pos) (YJ t g n):=by
 obtain⟨tc,p,s⟩:=l
 obtain⟨ta,r,v⟩:=o
 refine⟨_,zjG u p r,λFb Hb F H ρ σ E a k=>?_⟩
 refine⟨λm σ H=>∃ F ρ,Rl Fb Hb F H ρ σ/\SOk Fb Hb E (YJ t g m ρ),⟨n,F,ρ,a,k⟩,?_⟩
 rintro m σ H ⟨F,ρ,a,k⟩
 cases m with
 | zero=>exact k.elim
 | succ m =>
  unfold YJ at k
  cases h:t (visG ρ) with
  | none=>rw[h]at k;exact k.elim
  | some d =>
   rw[h]at k
   refine s σ _ _ H d _ a.gh a.visG h λF' H' x=>?_
   have e:=a.grow (a.back x).1
   cases d with
   | false=>rw[t9 u6];exact k _ H' σ e
   | true =>
    rw[u9 rfl]
    refine⟨fun σ H=>∃ F ρ,Rl Fb Hb F H ρ σ/\SOk Fb Hb E (YJ t g m ρ),λy H' w=>⟨m,u3j m,w⟩,?_⟩
    refine v Fb Hb _ H' ρ σ _ e ?_
    dsimp only at k
    cases b:g ρ with
    | nx f=>rw[b]at k;exact λF2 H2 q i=>⟨F2,f,i,k⟩
    | ct f=>rw[b]at k;exact λF2 H2 q i=>⟨F2,f,i,k⟩
    | bk f=>rw[b]at k;exact k
    | rt d=>rw[b]at k;exact k
    | no=>rw[b]at k;exact k.elim
def RG (t:TG)(b:ZK):Prop:=∀ (Fb Hb F H:Hp) (ρ a:SE) (σ:St) (d:D) (v:V) (Q:vf),Rl Fb Hb F H ρ σ->At F d v->b d ρ=some a->(∀ c,Rl Fb Hb F H a c->Q c H)->t v σ H Q
def RGs (t:TGs)(b:zk->SE->Option SE):Prop:=∀ (Fb Hb F H:Hp) (ρ a:SE) (σ:St) (e:zk) (d:zx) (Q:vf),Rl Fb Hb F H ρ σ->AtL F e d->b e ρ=some a->(∀ c,Rl Fb Hb F H a c->Q c H)->t d σ H Q
def BD (X:Cx)(a:Expr)(b:ZK):Prop:=∃ t,PG X a t/\RG t b
def BDs (X:Cx)(a:xK)(b:zk->SE->Option SE):Prop:=∃ t,PGs X a t/\RGs t b
def z9 (i:Nat):ZK:=λd ρ=>some (ρ.set i (.v d))
def Vs (h:PG X a (Zr i)):BD X a (z9 i):=by
 refine⟨_,h,λFb Hb F H ρ f σ d v Q b c e q=>?_⟩
 cases e
 exact q _ (b.set c)
def Wn:zk->SE->Option SE
 | [],ρ=>some ρ
 | _,_=>none
def xt (b:ZK)(c:zk->SE->Option SE):zk->SE->Option SE
 | d::ds,ρ=>(b d ρ).bind (c ds)
 | [],_=>none
def zhP:BDs X [] Wn:=by
 refine⟨_,zbq,λFb Hb F H ρ d σ c f Q a b e q=>?_⟩
 cases c with
 | nil=>cases e;exact⟨b.nil_inv,q _ a⟩
 | cons _ _=>cases e
def zbp {a:xK}{b:ZK}{c:zk->SE->Option SE}(v:BD X e b)(j:BDs X a c)
 (s:(assignEach (e::a) X.env).map (·.2)=assign e X.env::(assignEach a X.env).map (·.2):=by rfl):BDs X (e::a) (xt b c):=by
 obtain⟨t,p,r⟩:=v
 obtain⟨u,y,w⟩:=j
 refine⟨_,Yh p y s,λFb Hb F H ρ z σ g C Q m A e q=>?_⟩
 cases g with
 | nil=>cases e
 | cons d g =>
  obtain⟨x,h,rfl,o,B⟩:=A.cons_inv
  obtain⟨i,k,n⟩:=u0.mp e
  exact⟨x,h,rfl,r Fb Hb F H ρ i σ d x _ m o k λl f=>w Fb Hb F H i z l g h Q f B n q⟩
def Wd (n:Nat)(c:zk->SE->Option SE):ZK
 | .tup ds,ρ=>if ds.length=n then c ds ρ else none
 | _,_=>none
def zlB {b:xK}{k:Nat}{n:Nat}{c:zk->SE->Option SE}(m:X.calm=true)(h:BDs X b c)
 (l:(assignEach b X.env).length=n:=by rfl) (f:(assignEach b X.env).findIdx? (·.1)=none:=by rfl):BD X (.Tuple b k pos) (Wd n c):=by
 obtain⟨t,p,r⟩:=h
 refine⟨_,zeV m p l f,λFb Hb F H ρ o σ d v Q g s e q=>?_⟩
 cases d with
 | tup x =>
  unfold Wd at e
  dsimp only at e
  split at e
  .rename_i u
   obtain⟨a,i,rfl,w,j⟩:=s.tup_inv
   exact⟨a,i,rfl,SqT.of (g.gr.fh _ _ w),by rw[j.length];exact u,r Fb Hb F H ρ o σ x i Q g j e q⟩
  .cases e
 | _=>cases e
def zc3 (m:Bool)(f:zQ)(b:ZK):zT:=fun ρ=>match (vEv m f ρ).bind λd=>b d ρ with
 | some a=>.nx a
 | none=>.no
def Xa (m:Bool)(i:Nat)(a c:zQ):zT:=fun ρ=>match (vEv m c ρ).bind λd=>(a (visG ρ)).bind λk=>match ρ[i]?,k with
 | some (.o ds),.int k=>(ixN ds.length k).map λj=>ρ.set i (.o (ds.set j d))
 | _,_=>none with
 | some b=>.nx b
 | none=>.no
def zpl {f:Expr}(Y:ED X e y)(S:PE X a (zdt i))(O:ED X f z)(l:swapsWithSole [.Subscript a f pos'] e pos.line X.env=pure false:=by rfl)(hw:swappedStores [.Subscript a f pos'] e X.env=pure none:=by rfl)(Q:(assignEach [.Subscript a f pos'] X.env).map (·.2)=[assign (.Subscript a f pos') X.env]:=by rfl) (T:∀ v,assign (.Subscript a f pos') X.env v=(do
 let ov<-holding [v] (eval a X.env)
 let iv<-holding [v,ov] (eval f X.env)
 standAt pos'
 holding [v,ov,iv] (setItem ov iv v)
 release [v,ov,iv] []):=by intro _;rfl):SD X (.Assign [.Subscript a f pos'] e pos) (Xa m i z y):=by
 obtain⟨t,p,r⟩:=Y
 obtain⟨tk,P,N⟩:=O
 refine⟨_,zoO p (zpY S P zkA T) l hw Q,λFb Hb F H ρ σ E B k=>?_⟩
 unfold Xa at k
 cases h:(vEv m y ρ).bind λd=>(z (visG ρ)).bind λk=>match ρ[i]?,k with
  | some (.o s),.int k=>(ixN s.length k).map λj=>ρ.set i (.o (s.set j d))
  | _,_=>none with
 | none=>rw[h]at k;exact k.elim
 | some ρ' =>
  rw[h]at k
  obtain⟨d,M,c⟩:=u0.mp h
  obtain⟨I,U,c⟩:=u0.mp c
  cases l:ρ[i]? with
  | none=>rw[l]at c;cases c
  | some L =>
   rw[l]at c
   cases L with
   | no=>cases c
   | v _=>cases c
   | m _ _ _=>cases c
   | o s =>
    cases I with
    | int K =>
     obtain⟨j,R,rfl⟩:=u7.mp c
     refine r.at B M λF' H' v g V=>?_
     have b:=B.grow g
     obtain⟨q,xs,A,_⟩:=b.owns i s l
     refine⟨_,A,?_⟩
     refine N σ _ _ H' _ _ b.gh b.visG U λF3 H3 v3 J w=>?_
     obtain⟨C,_⟩:=b.back J
     have n:=b.grow C
     obtain⟨Z,x,u,_,_,W,G⟩:=n.owns i s l
     rw[A]at u
     cases u
     refine⟨q,x,K,j,rfl,w.int_inv,W,by rw[G.length];exact R,?_⟩
     exact k _ _ σ (n.mutate l A (G.set j (V.mono C.ff)))
    | _=>cases c
end
end Dl
namespace L2
open PySem PySem.Spec PyProof.Rows
section
variable {X:Cx}{tg:Expr}
def iSeq (K:zz)(tl:TE):TI:=fun σ H R=>tl σ H λx H1=>(∃ a,x=.ref a/\(∃ b,SqL K H1 a b)/\R (Itl K a) H1)\/(∃ a,x=.ref a/\(∃ b,SqT K H1 a b)/\R (Itt K a) H1)
def zpP {tl:TE}(n:PE X l tl):PI X tg l (iSeq X.K tl):=by
 intro d s σ H R I h
 refine thn (n d s σ H _ I h) λv c hh9=>?_
 obtain⟨x,H1,I1,i,j⟩:=hh9
 rcases j with ⟨a,e,⟨m,hq⟩,q⟩ | ⟨a,e,⟨m,hq⟩,q⟩
 .subst e
  cases i
  obtain⟨f,k,p,r⟩:=I1.list hq
  refine u00 p.isList ?_
  refine⟨c.heap.objs.size,[c.heap.objs.size],_,_,H1,rfl,I1.kept (t':=c.toks) λb o e=>u5 _ e,zi9 a _,⟨_,q7 _ rfl,rfl,rfl⟩,λb g=>?_,q⟩
  have e:b=c.heap.objs.size:=by simpa using g
  subst e
  exact I1.fpOk (t7 _) (I1.hok.fresh (t7 _))
 .subst e
  cases i
  obtain⟨f,k,p,r⟩:=I1.tuple hq
  refine u0a (show c.heap.IsTuple a f.toArray from p) ?_
  refine⟨c.heap.objs.size,[c.heap.objs.size],_,_,H1,rfl,I1.kept (t':=c.toks) λb o e=>u5 _ e,zf8 a _,⟨_,q7 _ rfl,rfl,rfl⟩,λb g=>?_,q⟩
  have e:b=c.heap.objs.size:=by simpa using g
  subst e
  exact I1.fpOk (t7 _) (I1.hok.fresh (t7 _))
end
end L2
namespace Dl
open PySem L2
variable [KK]
def znS (J:It)(F:Hp)(a:zk):Prop:=∀ (i:Nat) (F2 H2:Hp),yE F F2->yE F2 H2->(i=a.length->J.stop i H2) /\
 ∀ d,a[i]?=some d->J.go i H2/\∀ x H3,J.yld i H2 x H3->∃ F3,Gr F2 H2 F3 H3/\At F3 d x
def RI (b:TI)(f:y4):Prop :=
 ∀ (σ:St) (ρ:Ev) (F H:Hp) (a:zk) (R:It->Hp->Prop),yE F H->VAt F ρ σ->f ρ=some a->(∀ F' H' J,Gr F H F' H'->znS J F' a->R J H')->b σ H R
def ID (X:Cx)(c a:Expr)(f:y4):Prop:=∃ b,PI X c a b/\RI b f
def xL:D->Option zk
 | .lst ds=>some ds
 | .tup ds=>some ds
 | _=>none
section
variable {X:Cx}{tg a b c e:Expr}{pos:Pos}
def zpU {F:Hp}{a:zx}(h:F p=some (.lst a))(f:AtL F j a):znS (Itl K p) F j:=by
 intro i F2 H2 e c
 have q:SqL K H2 p a:=SqL.of (c _ _ (e _ _ h))
 refine⟨λl=>⟨a,q,by rw[f.length,l];exact t7 _⟩,λd m=>?_⟩
 obtain⟨x,g,k⟩:=f.get m
 refine⟨⟨a,x,q,g⟩,λy H3 b=>?_⟩
 obtain⟨rfl,b⟩:=b
 have:=b a q
 rw[g]at this
 cases this
 exact⟨F2,.refl c,k.mono e⟩
def zon {F:Hp}{a:zx}(h:F p=some (.tup a))(f:AtL F j a):znS (Itt K p) F j:=by
 intro i F2 H2 e c
 have q:SqT K H2 p a:=SqT.of (c _ _ (e _ _ h))
 refine⟨λl=>⟨a,q,by rw[f.length,l];exact t7 _⟩,λd m=>?_⟩
 obtain⟨x,g,k⟩:=f.get m
 refine⟨⟨a,x,q,g⟩,λy H3 b=>?_⟩
 obtain⟨rfl,b⟩:=b
 have:=b a q
 rw[g]at this
 cases this
 exact⟨F2,.refl c,k.mono e⟩
def iOf (f:zQ):y4:=fun ρ=>(f ρ).bind xL
def X5 {f:zQ}(j:ED X a f):ID X tg a (iOf f):=by
 obtain⟨t,p,r⟩:=j
 refine⟨_,zpP p,fun σ ρ F H n R s k e q=>?_⟩
 obtain⟨d,l,m⟩:=u0.mp e
 refine r σ ρ F H d _ s k l λF1 H1 v c i=>?_
 cases d <;> try cases m
 .obtain⟨p,g,rfl,b,h⟩:=i.tup_inv
  exact .inr ⟨p,rfl,⟨g,SqT.of (c.fh _ _ b)⟩,q F1 H1 _ c (zon b h)⟩
 .obtain⟨p,g,rfl,b,h⟩:=i.lst_inv
  exact .inl ⟨p,rfl,⟨g,SqL.of (c.fh _ _ b)⟩,q F1 H1 _ c (zpU b h)⟩
def X6 (a:Int)(n:Nat):zk:=(List.range n).map λk:Nat=>.int (a+k)
def zeM (c:Int)(n:Nat):znS (Itr c n) F (X6 c n):=by
 intro i F2 H2 j g
 have a:(X6 c n).length=n:=by unfold X6;simp
 refine⟨λe=>by rw[a]at e;rw[e];exact t7 _,λd b=>?_⟩
 have f:i<n:=by
  have:=(t5.mp b).1
  omega
 refine⟨f,λy H3 h=>?_⟩
 obtain⟨rfl,rfl⟩:=h
 refine⟨F2,.refl g,?_⟩
 unfold X6 at b
 rw[q0,u0y f]at b
 cases b
 exact .int
@[irreducible] def zji (j:Int):Bool:=decide (-(2^62)<=j/\j<2^62)
omit [KK] in
def yu:zji j=true↔-(2^62)<=j/\j<2^62:=by unfold zji;exact decide_eq_true_iff
def xD:zf1
 | [.int j]=>if zji j=true then some (X6 0 j.toNat)else none
 | _=>none
def XA:zf1
 | [.int i,.int j]=>if zji i=true/\zji j=true then some (X6 i (j-i).toNat)else none
 | _=>none
def vT (g:zf1)(f:y4):y4:=fun ρ=>(f ρ).bind g
def zcG {f:y4} (o:Gl X "range") (j:X.mg "range"=none) (g:AD X [a] f) (w:starEach [a] X.env=[(false,eval a X.env)]:=by rfl):ID X tg (.Call (.Name "range" p) [a] [] pos) (vT xD f):=by
 obtain⟨t,n,r⟩:=g
 refine⟨_,zb6 o j n w,fun σ ρ F H z R s l e q=>?_⟩
 obtain⟨d,m,b⟩:=u0.mp e
 refine r σ ρ F H d _ s l m λF1 H1 v i u=>?_
 unfold xD at b
 split at b
 .split at b
  .cases b
   rename_i c
   obtain⟨x,y,rfl,k,h⟩:=u.cons_inv
   cases h.nil_inv
   exact⟨_,by rw[k.int_inv],(yu.mp c).1,(yu.mp c).2,q F1 H1 _ i (zeM 0 _)⟩
  .cases b
 .cases b
def zhT {f:y4} (C:Gl X "range") (k:X.mg "range"=none) (z:AD X [a,b] f) (u:starEach [a,b] X.env=[(false,eval a X.env),(false,eval b X.env)]:=by rfl) (i:starEach [b] X.env=[(false,eval b X.env)]:=by rfl) :
 ID X tg (.Call (.Name "range" p) [a,b] [] pos) (vT XA f):=by
 obtain⟨t,B,r⟩:=z
 refine⟨_,zcK C k B u i,fun σ ρ F H E R s m e q=>?_⟩
 obtain⟨d,n,c⟩:=u0.mp e
 refine r σ ρ F H d _ s m n λF1 H1 v A o=>?_
 unfold XA at c
 split at c
 .split at c
  .cases c
   rename_i g
   obtain⟨x,j,rfl,l,h⟩:=o.cons_inv
   obtain⟨y,j,rfl,w,h⟩:=h.cons_inv
   cases h.nil_inv
   exact⟨_,_,by rw[l.int_inv,w.int_inv],⟨(yu.mp g.1).1,(yu.mp g.1).2,(yu.mp g.2).1,(yu.mp g.2).2⟩,q F1 H1 _ A (zeM _ _)⟩
  .cases c
 .cases c
def ZR (n:Nat):zk->zk
 | []=>[]
 | d::ds=>.tup [.int n,d]::ZR (n+1) ds
omit [KK] in
def vP (a:zk):∀ (n i:Nat),(ZR n a)[i]?=(a[i]?).map λd=>.tup [.int ((n+i:Nat):Int),d]:=by
 induction a with
 | nil=>intro n i;simp[ZR]
 | cons d a b =>
  intro n i
  cases i with
  | zero=>simp[ZR]
  | succ i =>
   show(ZR (n+1) a)[i]?=(a[i]?).map _
   rw[b]
   have:n+1+i=n+(i+1):=by omega
   rw[this]
omit [KK] in
def xG (a:zk):∀ n,(ZR n a).length=a.length:=by
 induction a with
 | nil=>intro n;rfl
 | cons d a b=>intro n;simp[ZR,b]
def yF (f:y4):y4:=fun ρ=>(f ρ).bind λa=>match a with
 | [d]=>(xL d).map (ZR 0)
 | _=>none
def zhy {k:Nat} {N:Pos} {f:y4} (Y:Gl X "enumerate") (J:X.mg "enumerate"=none) (K:bootBuiltins "enumerate"=some (.type "enumerate")) (U:AD X [a] f) (Q:starEach [a] X.env=[(false,eval a X.env)]:=by rfl):ID X (.Tuple G k N) (.Call (.Name "enumerate" p) [a] [] pos) (yF f):=by
 obtain⟨t,W,r⟩:=U
 refine⟨_,zmW Y J K W Q,fun σ ρ F H ds R s L e q=>?_⟩
 obtain⟨P,M,B⟩:=u0.mp e
 refine r σ ρ F H P _ s L M λF1 H1 v A O=>?_
 split at B
 .obtain⟨x,Z,rfl,l,I⟩:=O.cons_inv
  cases I.nil_inv
  obtain⟨G,V,rfl⟩:=u7.mp B
  rename_i d
  cases d <;> try cases V
  .obtain⟨p,c,rfl,z,w⟩:=l.tup_inv
   refine⟨p,rfl,.inr ⟨c,SqT.of (A.fh _ _ z),q F1 H1 _ A λi F2 H2 o n=>?_⟩⟩
   have g:SqT X.K H2 p c:=SqT.of (n _ _ (o _ _ z))
   refine⟨λC=>⟨c,g,by rw[w.length,C,xG];exact t7 _⟩,λd u=>?_⟩
   rw[vP]at u
   obtain⟨S,j,rfl⟩:=u7.mp u
   obtain⟨x,b,l⟩:=w.get j
   refine⟨⟨c,x,g,b⟩,λy H3 h=>?_⟩
   obtain⟨T,y,rfl,E,rfl,h⟩:=h
   have:=h c g
   rw[b]at this
   cases this
   have m:=Gr.alloc n E (.tup [.int i,x])
   exact⟨_,m,.tup zq (.cons (by rw[g8];exact .int) (.cons (l.mono (o.trans m.ff)) .nil))⟩
  .obtain⟨p,c,rfl,z,w⟩:=l.lst_inv
   refine⟨p,rfl,.inl ⟨c,A.fh _ _ z,q F1 H1 _ A λi F2 H2 o n=>?_⟩⟩
   have g:SqL X.K H2 p c:=SqL.of (n _ _ (o _ _ z))
   refine⟨λC=>⟨c,g,by rw[w.length,C,xG];exact t7 _⟩,λd u=>?_⟩
   rw[vP]at u
   obtain⟨S,j,rfl⟩:=u7.mp u
   obtain⟨x,b,l⟩:=w.get j
   refine⟨⟨c,x,g,b⟩,λy H3 h=>?_⟩
   obtain⟨T,y,rfl,E,rfl,h⟩:=h
   have:=h c g
   rw[b]at this
   cases this
   have m:=Gr.alloc n E (.tup [.int i,x])
   exact⟨_,m,.tup zq (.cons (by rw[g8];exact .int) (.cons (l.mono (o.trans m.ff)) .nil))⟩
 .cases B
def hb2 (F1 Hb:Hp):Hp:=λp=>match F1 p with
 | some o=>some o
 | none=>Hb p
def WF {F1 Hb:Hp}(h:F1 p=none):hb2 F1 Hb p=Hb p:=by unfold hb2;rw[h]
def zjM {F1:Hp}(h:F1 p=some o):hb2 F1 Hb p=some o:=by unfold hb2;rw[h]
def Gr.up (b:Gr Fb Hb F1 H1)(g:Gr F1 (hb2 F1 Hb) F H):Gr Fb Hb F H:=by
 refine⟨b.ff.trans g.ff,g.fh,λp o e a=>?_⟩
 rcases(b.kp p o e a).1 with n | ⟨d,c⟩
 .exact g.kp p o n (by rw[WF n];exact a)
 .exact⟨.inr ⟨d,g.ff _ _ c⟩,g.fh _ _ (g.ff _ _ c)⟩
def Gr.dn (g:Gr Fb Hb F H)(c:yE Fb F1)(s:yE F1 F):Gr F1 (hb2 F1 Hb) F H:=by
 refine⟨s,g.fh,λp o b a=>?_⟩
 rw[WF b]at a
 exact g.kp p o (c.free b) a
def Rl.up (d:Gr Fb Hb F1 H1)(r:Rl F1 (hb2 F1 Hb) F H ρ σ):Rl Fb Hb F H ρ σ:=by
 refine⟨d.up r.gr,r.vals,λi s e b=>?_,r.dis,r.len⟩
 obtain⟨p,o,f,a,c⟩:=r.ows i s e b
 refine⟨p,o,f,?_,c⟩
 cases h:F1 p with
 | none=>rw[WF h]at a;exact a
 | some o=>rw[zjM h]at a;cases a
def Rl.dn (r:Rl Fb Hb F H ρ σ)(d:yE Fb F1)(s:yE F1 F):Rl F1 (hb2 F1 Hb) F H ρ σ:=by
 refine⟨r.gr.dn d s,r.vals,λi t e c=>?_,r.dis,r.len⟩
 obtain⟨p,o,f,g,a,b⟩:=r.ows i t e c
 refine⟨p,o,f,?_,a,b⟩
 rw[WF (s.free a)]
 exact g
def ziS (b:ZK)(g:zT):zk->SE->Ctl
 | [],ρ=>.nx ρ
 | d::ds,ρ=>match b d ρ with
  | none=>.no
  | some c=>match g c with
   | .nx a=>ziS b g ds a
   | .ct a=>ziS b g ds a
   | .bk a=>.nx a
   | .rt d=>.rt d
   | .no=>.no
noncomputable def Zd (f:y4)(b:ZK)(g:zT):zT:=fun ρ=>match f (visF ρ) with
 | some ds=>ziS b g ds ρ
 | none=>.no
def zgo {E:zbz}{J:It}{g:TG}{a:zk}{b:ZK}(t:znS J F1 a)(M:RG g b)(U:RS G l)(c:Rl Fb Hb F1 H1 ρ σ)(k:SOk Fb Hb E (ziS b l a ρ)) :
 ∃ W:Nat->Nat->St->Hp->Prop,(∃ m,W 0 m σ H1)/\∀ i m σ H,W i m σ H ->
  (J.stop i H/\E.nx σ H)\/(J.go i H/\∃ N:vf,(∀ s H',N s H'->∃ C,C<m/\W (i+1) C s H')/\∀ x H',J.yld i H x H'->g x σ H' λz H2=>G { E with nx:=N,ct:=N,bk:=E.nx } z H2):=by
 refine⟨λi m σ H=>m=a.length-i/\i<=a.length/\∃ F ρ,yE F1 F/\Rl Fb Hb F H ρ σ/\SOk Fb Hb E (ziS b l (a.drop i) ρ),⟨a.length,by simp,g9 _,F1,ρ,yE.refl _,c,k⟩,?_⟩
 rintro i m σ H ⟨rfl,V,F,ρ,B,p,k⟩
 obtain⟨j,T⟩:=t i F H B p.gr.fh
 by_cases h:i<a.length
 .have K:a.drop i=a[i]::a.drop (i+1):=u0B h
  rw[K]at k
  unfold ziS at k
  obtain⟨O,L⟩:=T a[i] (by simp[h])
  refine .inr ⟨O,fun σ H=>∃ F ρ,yE F1 F/\Rl Fb Hb F H ρ σ/\SOk Fb Hb E (ziS b l (a.drop (i+1)) ρ),λs H' w=>⟨a.length-(i+1),by omega,rfl,h,w⟩,λx H' S=>?_⟩
  obtain⟨F3,A,I⟩:=L x H' S
  cases y:b a[i] ρ with
  | none=>rw[y]at k;exact k.elim
  | some r =>
   rw[y]at k
   dsimp only at k
   refine M Fb Hb F3 H' ρ r σ _ x _ (p.grow A) I y λz q=>?_
   have Q:=B.trans A.ff
   refine U F1 (hb2 F1 Hb) F3 H' r z _ (q.dn c.gr.ff Q) ?_
   cases n:l r with
   | nx o=>rw[n]at k;exact λF4 H4 u f=>⟨F4,o,f.gr.ff,f.up c.gr,k⟩
   | ct o=>rw[n]at k;exact λF4 H4 u f=>⟨F4,o,f.gr.ff,f.up c.gr,k⟩
   | bk o=>rw[n]at k;exact λF4 H4 u f=>k F4 H4 u (f.up c.gr)
   | rt d=>rw[n]at k;exact λF4 H4 v R P=>k F4 H4 v (c.gr.up R) P
   | no=>rw[n]at k;exact k.elim
 .have e:i=a.length:=by omega
  subst e
  rw[u2i]at k
  exact .inl ⟨j rfl,k F H σ p⟩
def zlG {a:Expr}{f:y4}{b:ZK}{g:zT}(u:PassesOwn (model X.prog X.w) X.A X.env X.xe)(m:X.calm=true)(j:ID X tg a f)(s:BD X tg b)(e:SDs X body g)(l:∀ x,foldedSetIterable a X.env x=pure x:=by intro _;rfl):SD X (.For tg a body [] pos) (Zd f b g):=by
 obtain⟨w,v,d⟩:=j
 obtain⟨p,t,n⟩:=s
 obtain⟨y,i,q⟩:=e
 refine⟨_,ziM u m v t i l,λFb Hb F H ρ σ E c k=>?_⟩
 unfold Zd at k
 cases h:f (visF ρ) with
 | none=>rw[h]at k;exact k.elim
 | some r =>
  rw[h]at k
  exact d σ _ _ H r _ c.gr.fh c.visF h λF1 H1 J o ok=>zgo ok n q (c.grow o) k
end
def lcD (b:zcI)(t:Yk)(f:zQ)(ρ:Ev):zf1
 | []=>some []
 | d::ds=>(b d).bind λown=>(t (own++ρ)).bind λc=>if c=true then (f (own++ρ)).bind λy=>(lcD b t f ρ ds).map (y::·)else lcD b t f ρ ds
def fLC (i:y4)(b:zcI)(t:Yk)(f:zQ):y4:=fun ρ=>(i ρ).bind λds=>if lim ds.length=true then lcD b t f ρ ds else none
def b1:zcI:=λd=>some [some d]
def b2:zcI
 | .tup [x,y]=>some [some x,some y]
 | _=>none
def RB (n:Nat)(t:TG)(b:zcI):Prop:=∀ (σ:St) (ρ:Ev) (F H:Hp) (d:D) (v:V) (own:List (Option D)) (Q:vf),yE F H->VAt F ρ σ->At F d v->b d=some own->(∀ a,VAt F (own++ρ) a->Q a H)->t v (List.replicate n none++σ) H Q
def zN:Yk:=λ_=>some true
def zlM:RT tYes zN:=λ_ _ _ _ _ _ s _ e q=>by cases e;exact q _ _ (.refl s)
def zlb {g:TG}{tt:TT}(ri:RI wi fi)(rg:RB n g b)(rt:RT tt W)(re:RE te X) :
 RF (tLC wi n g tt te) (fLC fi b W X):=by
 intro σ ρ F H T Q s va e q
 obtain⟨a,e1,L⟩:=u0.mp e
 split at L <;> try cases L
 rename_i w
 have w:a.length<=sizeLine:=k9 w
 refine ri σ ρ F H a _ s va e1 λF1 H1 J B ok=>?_
 intro P K
 have R:F1 P=none:=B.fh.free K
 have Z:H P=none:=by
  cases e:H P with
  | none=>rfl
  | some o =>
   cases L:F P with
   | none=>rw[(B.kp P o L e).2]at K;cases K
   | some u=>rw[B.fh _ _ (B.ff _ _ L)]at K;cases K
 refine⟨λi m M H2=>m=a.length-i/\i<=a.length/\∃ F2 done,Gr F1 H1 F2 H2/\Gr F1 (upd H1 P (.lst [])) F2 (upd H2 P (.lst []))/\F2 P=none/\H2 P=some (.lst M)/\AtL F2 done M/\done.length<=i/\∃ f,lcD b W X ρ (a.drop i)=some f/\done++f=T,⟨a.length,by simp,g9 _,F1,[],Gr.hide B.fh K _,?_,R,zq,.nil,g9 _,T,L,rfl⟩,?_⟩
 .rw[zgP]
  exact .refl λb u z=>by rw[zn (zg z R)];exact B.fh b u z
 rintro i m M H2 ⟨rfl,hi,F2,done,A,a1,E,G,V,a2,f,c,d⟩
 obtain⟨S,go⟩:=ok i F2 H2 A.ff A.fh
 by_cases p:i<a.length
 .have hd:a.drop i=a[i]::a.drop (i+1):=u0B p
  rw[hd]at c
  unfold lcD at c
  obtain⟨own,hb,c⟩:=u0.mp c
  obtain⟨cb,hc,c⟩:=u0.mp c
  obtain⟨k1,k2⟩:=go a[i] (by simp[p])
  refine .inr ⟨k1,by rw[V.length];omega,λx H3 hy=>?_⟩
  obtain⟨F3,U,a3⟩:=k2 x H3 hy
  refine rg σ ρ F3 H3 a[i] x own _ U.fh (va.mono (B.ff.trans (A.ff.trans U.ff))) a3 hb fun σ4 N=>?_
  refine rt σ4 _ F3 H3 cb _ U.fh N hc λF5 H5 g5=>?_
  have j:=U.trans g5
  obtain⟨n5,h5⟩:=j.kl (λ_ e=>by cases e) E G
  have h:∀ {F6 H6:Hp} {o:HO},Gr F2 H2 F6 H6->F6 P=none->Gr F1 (upd H1 P (.lst [])) F6 (upd (upd H6 P o) P (.lst [])):=λ{F6 H6 o} r C=>by
   rw[zgP]
   refine⟨A.ff.trans r.ff,λb u z=>?_,λb u Y I=>?_⟩
   .rw[zn (zg z C)];exact r.fh b u z
   .by_cases l:b=P
    .subst l
     rw[zq]at I ⊢
     exact⟨.inl C,I⟩
    .rw[zn l]at I ⊢
     exact(A.trans r).kp b u Y I
  have k:∀ {F6 H6:Hp} {o:HO},Gr F2 H2 F6 H6->F6 P=none->Gr F1 H1 F6 (upd H6 P o):=λ{F6 H6 o} r C=>by
   refine⟨A.ff.trans r.ff,λb u z=>?_,λb u Y I=>?_⟩
   .rw[zn (zg z C)];exact r.fh b u z
   .rw[zn (zg I K)]
    exact(A.trans r).kp b u Y I
  cases cb with
  | false =>
   rw[t9 u6]at c ⊢
   have O:H5=upd H5 P (.lst M):=by
    funext b
    by_cases l:b=P
    .subst l;rw[zq];exact h5
    .rw[zn l]
   refine⟨a.length-(i+1),by omega,rfl,p,F5,done,?_,?_,n5,h5,V.mono j.ff,by omega,f,c,d⟩
   .rw[O];exact k j n5
   .have:=h (o:=.lst M) j n5
    rw[<-O]at this
    exact this
  | true =>
   rw[u9 rfl]at c ⊢
   obtain⟨y,hy,c⟩:=u0.mp c
   obtain⟨rest,a0,rfl⟩:=u7.mp c
   refine re σ4 _ F5 H5 y _ g5.fh (N.mono g5.ff) hy λF6 H6 v r a6=>?_
   have t:=j.trans r
   obtain⟨C,h6⟩:=t.kl (λ_ e=>by cases e) E G
   refine⟨h6,a.length-(i+1),by omega,rfl,p,F6,done++[y],k t C,h t C,C,zq,(V.mono t.ff).snoc a6,by rw[j5];simp;omega,rest,a0,by rw[<-d,u26];rfl⟩
 .have e:i=a.length:=by omega
  subst e
  rw[u2i]at c
  cases c
  rw[f6]at d
  subst d
  exact .inl ⟨S rfl,q F2 H2 P M (B.trans A) Z E G V⟩
def rb1:RB 1 (Zr 0) b1:=by
 intro σ ρ F H d v own Q s a b e q
 cases e
 refine q _ λi c h=>?_
 cases i with
 | zero=>cases h;exact⟨v,rfl,b⟩
 | succ i=>exact a i c h
def rb2:RB 2 (zqu K 2 (zds (Zr 0) (zds (Zr 1) zqD))) b2:=by
 intro σ ρ F H d v own Q s f g e q
 unfold b2 at e
 split at e <;> cases e
 obtain⟨p,l,rfl,k,a⟩:=g.tup_inv
 obtain⟨x,r,rfl,b,a⟩:=a.cons_inv
 obtain⟨y,r,rfl,c,a⟩:=a.cons_inv
 cases a.nil_inv
 refine⟨p,_,rfl,SqT.of (s _ _ k),rfl,x,_,rfl,y,_,rfl,rfl,?_⟩
 refine q _ λi j h=>?_
 match i,h with
 | 0,h=>cases h;exact⟨x,rfl,b⟩
 | 1,h=>cases h;exact⟨y,rfl,c⟩
 | i+2,h=>exact f i j h
def tCan (f:zQ):TE:=fun σ H Q=>∃ ρ F d,yE F H/\VAt F ρ σ/\f ρ=some d/\∀ F' H' v,Gr F H F' H'->At F' d v->Q v H'
def zqd (f:Yk):TT:=fun σ H Q=>∃ ρ F d,yE F H/\VAt F ρ σ/\f ρ=some d/\∀ F' H',Gr F H F' H'->Q d H'
def ED.can {f:zQ}(h:ED X e f):PE X e (tCan f):=by
 obtain⟨t,p,r⟩:=h
 rintro a s σ H Q I ⟨ρ,F,d,i,b,c,g⟩
 exact p a s σ H Q I (r σ ρ F H d Q i b c g)
def TD.can {f:Yk}(h:TD X e f):PT X e (zqd f):=by
 obtain⟨t,p,r⟩:=h
 rintro a s σ H Q I ⟨ρ,F,d,i,b,c,g⟩
 exact p a s σ H Q I (r σ ρ F H d Q i b c g)
def Vt {f:zQ}:RE (tCan f) f:=λ_ ρ F _ d _ e a b c=>⟨ρ,F,d,e,a,b,c⟩
def zmc {f:Yk}:RT (zqd f) f:=λ_ ρ F _ d _ e a b c=>⟨ρ,F,d,e,a,b,c⟩
def zao {X:Cx}{L:zJ}{f:Pos}{k:y4}{g:TG}(n:X.calm=true)(S:xF X L M a e)(q:ID X i c k)(h:∀ (σ:St) (v:V) (H:Hp) (Q:vf),g v (List.replicate L.length none++σ) H Q->g v (List.replicate L.length none++σ) H (λm H2=>Xx (List.replicate L.length none++σ) m/\Q m H2))(j:RB L.length g b)(p:∀ s₀ H₀ ex pn,PG (Zo X L M a e s₀ H₀ ex pn) i g)(r:∀ s₀ H₀ ex pn,ED (Zo X L M a e s₀ H₀ ex pn) d l)(t:∀ x,foldedSetIterable c X.env x=pure x:=by intro _;rfl):FL X (.ListComp d [⟨i,c,[],0⟩] a f) (fLC k b zN l):=by
 obtain⟨u,s,o⟩:=q
 exact⟨_,zlx n S s h p (λ_ _ _ _=>ziU) (λ_ _ _ _=>(r _ _ _ _).can) t,zlb o j zlM Vt⟩
def zec {X:Cx}{k:Expr}{L:zJ}{f:vD}{g:TG}(t:X.calm=true)(S:xF X L M a f)(r:ID X k d m)(i:∀ (σ:St) (v:V) (H:Hp) (Q:vf),g v (List.replicate L.length none++σ) H Q->g v (List.replicate L.length none++σ) H (λo H2=>Xx (List.replicate L.length none++σ) o/\Q o H2))(j:RB L.length g b)(u:∀ s₀ H₀ ex pn,PG (Zo X L M a f s₀ H₀ ex pn) k g)(q:∀ s₀ H₀ ex pn,TD (Zo X L M a f s₀ H₀ ex pn) c l)(w:∀ s₀ H₀ ex pn,ED (Zo X L M a f s₀ H₀ ex pn) e n)(s:∀ x,foldedSetIterable d X.env x=pure x:=by intro _;rfl):FL X (.ListComp e [⟨k,d,[c],0⟩] a h) (fLC m b l n):=by
 obtain⟨z,y,p⟩:=r
 exact⟨_,zlx t S y i u (λ_ _ _ _=>ziw (q _ _ _ _).can) (λ_ _ _ _=>(w _ _ _ _).can) s,zlb p j zmc Vt⟩
def zpT {t:TE}{f:y4}(r:RF t f):RE t (yc f):=by
 intro σ ρ F H d Q s c e q
 obtain⟨l,h,rfl⟩:=u7.mp e
 refine r σ ρ F H l Q s c h λF' H' p n g i a m j=>?_
 have k:=g.show i a m
 exact q _ _ _ k (At.lst zq (j.mono (λb u e=>by rw[zn (zg e a)];exact e)))
def FLS (X:Cx)(i:Nat)(a:Stmt)(f:y4):Prop:=∃ t,PS X a (znQ t (Zr i))/\RF t f
def zmy {f:y4}(e:FLS X i b f):SD X b (yx m i (yc f)):=by
 obtain⟨t,p,r⟩:=e
 refine⟨_,p,λFb Hb F H ρ σ E a k=>?_⟩
 unfold yx at k
 cases h:vEv m (yc f) ρ with
 | none=>rw[h]at k;exact k.elim
 | some d =>
  rw[h]at k
  exact(zpT r).at a h λF' H' v g c=>k F' H' _ ((a.grow g).set c)
def zmf {i:Nat}{d:Pos}{X:Cx}{L:zJ}{f:Pos}{g:TG}(A:X.N.Nodup)(l:X.N[i]?=some x)(E:Loc X.env.scope x)(t:X.calm=true)(S:xF X L M a j)(s:ID X h c q)(k:∀ (σ:St) (v:V) (H:Hp) (Q:vf),g v (List.replicate L.length none++σ) H Q->g v (List.replicate L.length none++σ) H (λr H2=>Xx (List.replicate L.length none++σ) r/\Q r H2))(m:RB L.length g b)(B:∀ s₀ H₀ ex pn,PG (Zo X L M a j s₀ H₀ ex pn) h g)(C:∀ s₀ H₀ ex pn,ED (Zo X L M a j s₀ H₀ ex pn) e o)(z:∀ x,foldedSetIterable c X.env x=pure x:=by intro _;rfl)(n:swapsWith (.ListComp e [⟨h,c,[],0⟩] a f) (some (.Name x p)) d.line X.env=pure true:=by rfl)(y:X.fn x=true\/X.env.scope.names.lookup x=some .local:=by first | exact .inl rfl | exact .inr rfl | assumption):FLS X i (.Assign [.Name x p] (.ListComp e [⟨h,c,[],0⟩] a f) d) (fLC q b zN o):=by
 obtain⟨F,u,w⟩:=s
 exact⟨_,zlF A l E t S u k B (λ_ _ _ _=>ziU) (λ_ _ _ _=>(C _ _ _ _).can) z n y,zlb w m zlM Vt⟩
def zmH {i:Nat}{e:Pos}{X:Cx}{f k:Expr}{L:zJ}{g:TG}(C:X.N.Nodup)(n:X.N[i]?=some x)(I:Loc X.env.scope x)(B:X.calm=true)(S:xF X L M a j)(z:ID X k d r)(l:∀ (σ:St) (v:V) (H:Hp) (Q:vf),g v (List.replicate L.length none++σ) H Q->g v (List.replicate L.length none++σ) H (λt H2=>Xx (List.replicate L.length none++σ) t/\Q t H2))(m:RB L.length g b)(E:∀ s₀ H₀ ex pn,PG (Zo X L M a j s₀ H₀ ex pn) k g)(w:∀ s₀ H₀ ex pn,TD (Zo X L M a j s₀ H₀ ex pn) c p)(F:∀ s₀ H₀ ex pn,ED (Zo X L M a j s₀ H₀ ex pn) f s)(A:∀ x,foldedSetIterable d X.env x=pure x:=by intro _;rfl)(o:swapsWith (.ListComp f [⟨k,d,[c],0⟩] a h) (some (.Name x q)) e.line X.env=pure true:=by rfl)(y:X.fn x=true\/X.env.scope.names.lookup x=some .local:=by first | exact .inl rfl | exact .inr rfl | assumption):FLS X i (.Assign [.Name x q] (.ListComp f [⟨k,d,[c],0⟩] a h) e) (fLC r b p s):=by
 obtain⟨J,G,u⟩:=z
 exact⟨_,zlF C n I B S G l E (λ_ _ _ _=>ziw (w _ _ _ _).can) (λ_ _ _ _=>(F _ _ _ _).can) A o y,zlb u m zmc Vt⟩
noncomputable def fnD (n:Nat)(g:zT)(ds:zk):Option D:=match g (ds.map .v++List.replicate (n-ds.length) .no) with
 | .rt d=>some d
 | .nx _=>some .non
 | _=>none
def spD (m:Nat)(p:YF):Sp:=λb H Q _=>∃ a d F,a.length=m/\yE F H/\AtL F a b/\p a=some d/\∀ F' H' v,Gr F H F' H'->At F' d v->Q v H'
def Ww {N:zJ}{b:zk}{k:zx}(s:yE F H)(a:AtL F b k):Rl F H F H (b.map .v++List.replicate (N.length-b.length) .no) (L2.start N k):=by
 have l:=a.length
 have g:∀ (i:Nat) (t:Sl),(b.map Sl.v++List.replicate (N.length-b.length) Sl.no)[i]?=some t->t.isO=true->False:=λi t h c=>by
  by_cases f:i<b.length
  .rw[u0b (by simpa using f),q0]at h
   cases e:b[i]? with
   | none=>rw[e]at h;cases h
   | some d=>rw[e]at h;cases h;cases c
  .rw[e9 (by simpa using f),i5]at h
   split at h <;> cases h
   cases c
 refine⟨.refl s,λi d h=>?_,λi t h c=>(g i t h c).elim,λi j p t u h _ c=>(g i t h c).elim,?_⟩
 .by_cases f:i<b.length
  .rw[u0b (by simpa using f),q0]at h
   cases e:b[i]? with
   | none=>rw[e]at h;cases h
   | some o =>
    rw[e]at h
    cases h
    obtain⟨x,n,m⟩:=a.get e
    refine⟨x,?_,m⟩
    unfold L2.start
    rw[u0b (by simpa [l]using f),q0,n]
    rfl
  .rw[e9 (by simpa using f),i5]at h
   split at h <;> cases h
 .unfold L2.start
  simp[l]
def zdH {w:World}{f:Addr}{N ps:zJ}{k:Nat}{g:zT}(Fu:Fun K x b j f n)(S:wv N ps (zp j))(y:∀ (c:Value) (A:zI) (outer:List Env) (s:zj) (H:Hp) (E:XK),x5 k (A.deeper (PyProof.Rows.envOfC b (zp j) s.heap.objs.size f c))->SDs (Wl CX0 P w K o i N b (zp j) f c A outer s H E).nox (yV j) g) :
 vU P w K o i CX0 (k+1) f n ps (spD ps.length (fnD N.length g)):=by
 refine Fu.ok S (λB H Q E h=>?_) λc A outer s H B Q E D h=>?_
 .obtain⟨m,d,F,u,_,a,_⟩:=h
  rw[a.length];exact u
 .obtain⟨m,d,F,u,sm,a,e,q⟩:=h
  obtain⟨t,p,r⟩:=y c A outer s H E D
  refine⟨t,p,r F H F H _ _ _ (Ww sm a) ?_⟩
  unfold fnD at e
  cases l:g (m.map .v++List.replicate (N.length-m.length) .no) with
  | rt G=>rw[l]at e;cases e;exact λF' H' v g C=>q F' H' v g C
  | nx ρ=>rw[l]at e;cases e;exact λF' H' σ z=>q F' H' _ z.gr .non
  | bk ρ=>rw[l]at e;cases e
  | ct ρ=>rw[l]at e;cases e
  | no=>rw[l]at e;cases e
def Yr {w:World}{f:Addr}{g:zJ}{k:Nat}{p q:YF}(F:vU P w K e a CX0 k f c g (spD m p))(h:∀ b d,b.length=m->q b=some d->p b=some d):vU P w K e a CX0 k f c g (spD m q) :=
 F.imp λr H Q E ⟨b,d,F',i,j,l,n,o⟩=>⟨b,d,F',i,j,l,h b d i n,o⟩
def zh (m:Nat)(p:YF)(f:y4):zQ:=fun ρ=>(f ρ).bind λds=>if ds.length=m then p ds else none
def znp {X:Cx} {k:Nat} {f:Addr} (F:vU X.prog X.w X.K X.mg X.base CX0 k f j l (spD m p)) (B:x5 k X.A) (L:Gl X x) (w:X.mg x=some (.ref f)) (z:W.keepIn X.K (.ref f)=true) (C:VQ X.K j l []) (J:AD X (e::a) n) (h:(x == ("__debug__":Str))=false:=by decide) (N:starEach (e::a) X.env=(false,eval e X.env)::starEach a X.env:=by rfl) (i:(backTo b (starEach a X.env)).any (·.1)=false:=by rfl) :
 ED X (.Call (.Name x y) (e::a) [] b) (zh m p n):=by
 obtain⟨t,A,r⟩:=J
 refine⟨_,zc9 F B L w z C .nil zo0 A h N i,fun σ ρ F0 H d Q s E e q=>?_⟩
 obtain⟨u,G,c⟩:=u0.mp e
 split at c <;> try cases c
 rename_i M
 refine r σ ρ F0 H u _ s E G λF1 H1 O o I=>?_
 refine⟨u,d,F1,M,o.fh,by rw[f6];exact I,c,λF' H' v g K=>q F' H' v (o.trans g) K⟩
end Dl
namespace Dl
open PySem L2
variable [KK]
section
variable {X:Cx}{a b c e:Expr}{pos:Pos}
def zB:bootBuiltins "isinstance"=some (.builtin "isinstance"):=by decide +kernel
def zix:bootBuiltins "len"=some (.builtin "len"):=by decide +kernel
def zpa:bootBuiltins "min"=some (.builtin "min"):=by decide +kernel
def zlE:bootBuiltins "max"=some (.builtin "max"):=by decide +kernel
def Xm:bootBuiltins "sorted"=some (.builtin "sorted"):=by decide +kernel
def zqp:bootBuiltins "sum"=some (.builtin "sum"):=by decide +kernel
def zqj:bootBuiltins "all"=some (.builtin "all"):=by decide +kernel
def zlo:bootBuiltins "int"=some (.type "int"):=by decide +kernel
def ziG:bootBuiltins "bool"=some (.type "bool"):=by decide +kernel
def zes:bootBuiltins "tuple"=some (.type "tuple"):=by decide +kernel
def zdl:bootBuiltins "list"=some (.type "list"):=by decide +kernel
def zlZ:bootBuiltins "str"=some (.type "str"):=by decide +kernel
def X0:bootBuiltins "enumerate"=some (.type "enumerate"):=by decide +kernel
def WY:bootBuiltins "reversed"=some (.type "reversed"):=by decide +kernel
def zqk:bootBuiltins "zip"=some (.type "zip"):=by decide +kernel
def VJ (C:Int->Int->Bool)(g:Int->Int->Int):wt
 | .int i,.int j=>if C i j=true then some (.int (g i j))else none
 | _,_=>none
def vd (g:Int->Int->Int):wt
 | .int i,.int j=>some (.int (g i j))
 | _,_=>none
def V2 (g:Int->Int->Bool):wt
 | .int i,.int j=>some (.bl (g i j))
 | _,_=>none
def Wz {C:Int->Int->Prop}{Cb:Int->Int->Bool}{g:Int->Int->Int}(h:∀ i j,Cb i j=true->C i j):OpD (rI C λi j=>.int (g i j)) (VJ Cb g):=by
 intro F H x y d e z Q s c f a q
 cases d <;> try cases a
 cases e <;> try cases a
 unfold VJ at a
 dsimp only at a
 split at a <;> cases a
 rename_i b
 exact⟨_,_,c.int_inv,f.int_inv,h _ _ b,q F H _ (.refl s) .int⟩
def WX {g:Int->Int->Int}:OpD (rI0 λi j=>.int (g i j)) (vd g):=by
 intro F H x y d e z Q s b c a q
 cases d <;> try cases a
 cases e <;> try cases a
 exact⟨_,_,b.int_inv,c.int_inv,q F H _ (.refl s) .int⟩
def Ym {g:Int->Int->Bool}:OpD (rI0 λi j=>.bl (g i j)) (V2 g):=by
 intro F H x y d e z Q s b c a q
 cases d <;> try cases a
 cases e <;> try cases a
 exact⟨_,_,b.int_inv,c.int_inv,q F H _ (.refl s) .bl⟩
def zcD {r c:R2}{g j:wt}(h:OpD r g)(k:OpD c j):OpD (λx y H Q=>r x y H Q\/c x y H Q) (λd e=>(g d e).or (j d e)):=by
 intro F H x y d e z Q s f i a q
 dsimp only at a
 cases b:g d e with
 | some l=>rw[b]at a;cases a;exact .inl (h F H x y d e z Q s f i b q)
 | none=>rw[b]at a;exact .inr (k F H x y d e z Q s f i a q)
def zoE:wt
 | .tup a,.tup b=>if lim (a.length+b.length)=true then some (.tup (a++b))else none
 | _,_=>none
def zp5:D->D->Option zk
 | .lst a,.lst b=>if lim (a.length+b.length)=true then some (a++b)else none
 | _,_=>none
def zgI (d e:D):Option D:=(zp5 d e).map .lst
def zoA:wt
 | .str a,.str b=>if lim (a.length+b.length)=true then some (.str (a++b))else none
 | _,_=>none
def zki:OpD (zme K) zoE:=by
 intro F H x y d e z Q s k l a q
 cases d <;> try cases a
 cases e <;> try cases a
 unfold zoE at a
 dsimp only at a
 split at a <;> cases a
 rename_i n
 obtain⟨p,c,rfl,h,b⟩:=k.tup_inv
 obtain⟨j,i,rfl,f,bl⟩:=l.tup_inv
 refine⟨p,j,c,i,rfl,rfl,SqT.of (s _ _ h),SqT.of (s _ _ f),by rw[b.length,bl.length];exact k9 n,λm=>?_,λ_ o=>?_,λ_ _ r t=>?_⟩
 .subst m
  have:(_:zk)=[]:=u0n.mp b.length.symm
  subst this
  exact q F H _ (.refl s) (.tup f bl)
 .subst o
  have:(_:zk)=[]:=u0n.mp bl.length.symm
  subst this
  rw[f6]at q
  exact q F H _ (.refl s) (.tup h b)
 .have g:=Gr.alloc s t (.tup (c++i))
  exact q _ _ _ g (.tup zq ((b.append bl).mono g.ff))
def zle:OpD zqT zgI:=by
 intro F H x y d e z Q s i m a q
 cases d <;> try cases a
 cases e <;> try cases a
 unfold zgI zp5 at a
 dsimp only at a
 split at a <;> cases a
 rename_i k
 obtain⟨p,b,rfl,l,c⟩:=i.lst_inv
 obtain⟨h,f,rfl,j,bl⟩:=m.lst_inv
 refine⟨p,h,b,f,rfl,rfl,s _ _ l,s _ _ j,by rw[c.length,bl.length];exact k9 k,λr n=>?_⟩
 have g:=Gr.alloc s n (.lst (b++f))
 exact q _ _ _ g (.lst zq ((c.append bl).mono g.ff))
def zjP:OpD (λx y H Q=>∃ i j,x=.str i/\y=.str j/\i.length+j.length<=sizeLine/\Q (.str (i++j)) H) zoA:=by
 intro F H x y d e z Q s b c a q
 cases d <;> try cases a
 cases e <;> try cases a
 unfold zoA at a
 dsimp only at a
 split at a <;> cases a
 rename_i f
 exact⟨_,_,b.str_inv,c.str_inv,k9 f,q F H _ (.refl s) .str⟩
def y3:wt
 | .int i,.int j=>some (.int (i+j))
 | .tup a,.tup b=>if lim (a.length+b.length)=true then some (.tup (a++b))else none
 | .lst a,.lst b=>if lim (a.length+b.length)=true then some (.lst (a++b))else none
 | .str a,.str b=>if lim (a.length+b.length)=true then some (.str (a++b))else none
 | _,_=>none
def zdF {g a:wt}(h:OpD r g)(k:∀ d e z,a d e=some z->g d e=some z):OpD r a:=λF H x y d e z Q s c f b q=>h F H x y d e z Q s c f (k d e z b) q
def ze4 {f:zQ}(k:ED X a f)(l:ED X b h):ED X (.BinOp a .Add b pos) (zd y3 f h) :=
 Vk (((zp0.or zjU).or zeD).or zfk) (zdF (zcD (zcD (zcD (WX (g:=λi j=>i+j)) zki) zle) zjP) λd e z h=>by
  cases d <;> try cases h
  all_goals cases e <;> try cases h
  .rfl
  .unfold y3 at h;dsimp only at h;split at h <;> cases h;rename_i c;simp[vd,zoE,c,zgI,zp5,zoA]
  .unfold y3 at h;dsimp only at h;split at h <;> cases h;rename_i c;simp[vd,zoE,c,zgI,zp5,zoA]
  .unfold y3 at h;dsimp only at h;split at h <;> cases h;rename_i c;simp[vd,zoE,c,zgI,zp5,zoA]) k l
def zkz (g:D->D->Option zk)(f h:zQ):y4:=fun ρ=>(f ρ).bind λx=>(h ρ).bind λy=>g x y
def VI {H H1:Hp}(b:Gr F H F1 H1)(a:H1 p=none):H p=none:=by
 cases e:H p with
 | none=>rfl
 | some o =>
  cases c:F p with
  | none=>rw[(b.kp p o c e).2]at a;cases a
  | some u=>rw[b.fh _ _ (b.ff _ _ c)]at a;cases a
def Xy (i j:Int):Bool:=decide ((-(2^64)<i/\i<2^64)\/(-(2^64)<j/\j<2^64))
def zf9:D->D->Option zk
 | .lst a,.int k=>if -(2^63)<=k/\k<2^63/\lim (a.length*k.toNat)=true then some (List.replicate k.toNat a).flatten else none
 | _,_=>none
def zkM (d e:D):Option D:=(zf9 d e).map .lst
def xM:wt
 | .int i,.int j=>if Xy i j=true then some (.int (i*j))else none
 | .lst a,.int k=>if -(2^63)<=k/\k<2^63/\lim (a.length*k.toNat)=true then some (.lst (List.replicate k.toNat a).flatten)else none
 | _,_=>none
def zkk:OpD rRep zkM:=by
 intro F H x y d e z Q s h j a q
 cases d <;> try cases a
 cases e <;> try cases a
 unfold zkM zf9 at a
 dsimp only at a
 split at a <;> cases a
 rename_i b
 obtain⟨p,c,rfl,i,f⟩:=h.lst_inv
 refine⟨p,_,c,rfl,j.int_inv,s _ _ i,b.1,b.2.1,by rw[f.length];exact k9 b.2.2,λr l=>?_⟩
 rename_i m k
 have g:=Gr.alloc s l (.lst (List.replicate k.toNat c).flatten)
 exact q _ _ _ g (.lst zq ((f.rep _).mono g.ff))
def zlJ {f:zQ}(k:ED X a f)(l:ED X b h):ED X (.BinOp a .Mult b pos) (zd xM f h) :=
 Vk (zpL.or zlp) (zdF (zcD (Wz (Cb:=Xy) (g:=λi j=>i*j) λi j h=>by have m:=k9 (show decide ((-(2^64)<i/\i<2^64)\/(-(2^64)<j/\j<2^64))=true from h);exact m) zkk) λd e z h=>by
  cases d <;> try cases h
  all_goals cases e <;> try cases h
  .unfold xM at h;dsimp only at h;split at h <;> cases h;rename_i c;simp[VJ,c]
  .unfold xM at h;dsimp only at h;split at h <;> cases h;rename_i c;show(zkM _ _)=_;unfold zkM zf9;dsimp only;rw[u9 c];rfl) k l
def zou {f:zQ}(B:ED X a f)(o:ED X b h):FL X (.BinOp a .Mult b pos) (zkz zf9 f h):=by
 obtain⟨ta,G,I⟩:=B
 obtain⟨L,n,C⟩:=o
 refine⟨_,zil zlp G n,fun σ ρ F H z Q s k e q=>?_⟩
 obtain⟨x,t,l⟩:=u0.mp e
 obtain⟨y,w,d⟩:=u0.mp l
 clear e l
 refine I σ ρ F H x _ s k t λF1 H1 v g A=>?_
 refine C σ ρ F1 H1 y _ g.fh (k.mono g.ff) w λF2 H2 u c K=>?_
 cases x <;> try cases d
 cases y <;> try cases d
 unfold zf9 at d
 dsimp only at d
 split at d <;> cases d
 rename_i i
 obtain⟨p,E,rfl,J,m⟩:=(A.mono c.ff).lst_inv
 refine⟨p,_,E,rfl,K.int_inv,c.fh _ _ J,i.1,i.2.1,by rw[m.length];exact k9 i.2.2,λr j=>?_⟩
 exact q _ _ _ _ ((g.trans c).trans (Gr.hide c.fh j _)) (VI (g.trans c) j) (c.fh.free j) zq (m.rep _)
def wm:=vd λi j=>i-j
def xm:=VJ (λ_ j=>decide (0<j/\j<1606938044258990275541962092341162602522202993782792835301376)) λi j=>i/j
def wn:=VJ (λ_ j=>decide (0<j)) λi j=>i%j
def zqY (i j:Int):Bool:=decide (0<=j/\j<=1000000/\i.natAbs<2^64)
def zqF:=VJ zqY λi j=>i*2^j.toNat
def xorD:=vd λi j=>Builtin.bitXor i j
def zeK {f:zQ}(c:ED X a f)(d:ED X b h):ED X (.BinOp a .Sub b pos) (zd wm f h):=Vk zoe WX c d
def zk0:OpR X (binaryOp .FloorDiv) (rI (λ_ j=>0<j/\j<1606938044258990275541962092341162602522202993782792835301376) λi j=>.int (i/j)):=opI λi j _ _ _ _ _ a q=>by
 have f:(0:Int)<j:=a.1
 have d:j<1606938044258990275541962092341162602522202993782792835301376:=a.2
 refine PyProof.Rows.floordiv_int (by omega) (by rw[Int.fdiv_eq_ediv_of_nonneg i (by omega)];exact q) (.inl (PyProof.noPylong_of_log2 ?_))
 have b:j.natAbs≠0:=by omega
 have c:j.natAbs<1606938044258990275541962092341162602522202993782792835301376:=by omega
 have e:j.natAbs.log2<200:=(Nat.log2_lt b).mpr c
 omega
def znK {f:zQ}(c:ED X a f)(d:ED X b h):ED X (.BinOp a .FloorDiv b pos) (zd xm f h):=Vk zk0 (Wz λ_ _ h=>by have e:=k9 h;exact e) c d
def zpz {f:zQ}(c:ED X a f)(d:ED X b h):ED X (.BinOp a .Mod b pos) (zd wn f h):=Vk zo2 (Wz λ_ _ h=>by have e:=k9 h;exact e) c d
def zlt {f:zQ}(c:ED X a f)(d:ED X b h):ED X (.BinOp a .LShift b pos) (zd zqF f h):=Vk zpb (Wz λ_ _ h=>by have e:=k9 h;exact e) c d
def zpV {f:zQ}(c:ED X a f)(d:ED X b h):ED X (.BinOp a .BitXor b pos) (zd xorD f h):=Vk zoQ WX c d
def ltD:=V2 λi j=>decide (i<j)
def leD:=V2 λi j=>decide (i<=j)
def gtD:=V2 λi j=>decide (j<i)
def geD:=V2 λi j=>decide (j<=i)
def eqS:D->D->Option Bool
 | .non,.non=>some true
 | .int i,.int j=>some (decide (i=j))
 | .bl i,.bl j=>some (decide (i=j))
 | .str i,.str j=>some (decide (i=j))
 | .non,.int _=>some false | .int _,.non=>some false | .non,.bl _=>some false | .bl _,.non=>some false | .non,.str _=>some false | .str _,.non=>some false
 | .int _,.str _=>some false | .str _,.int _=>some false | .bl _,.str _=>some false | .str _,.bl _=>some false
 | _,_=>none
def eqD (d e:D):Option D:=(eqS d e).map .bl
def neD (d e:D):Option D:=(eqS d e).map λc=>.bl (!c)
def zln:OpD rEq eqD:=by
 intro F H x y d e z Q s a b f q
 obtain⟨c,g,rfl⟩:=u7.mp f
 cases d <;> cases e <;> try cases g
 .cases a.non_inv;cases b.non_inv;exact⟨rfl,q F H _ (.refl s) .bl⟩
 .cases a.non_inv;cases b.bl_inv;exact⟨rfl,q F H _ (.refl s) .bl⟩
 .cases a.non_inv;cases b.int_inv;exact⟨rfl,q F H _ (.refl s) .bl⟩
 .cases a.non_inv;cases b.str_inv;exact⟨rfl,q F H _ (.refl s) .bl⟩
 .cases a.bl_inv;cases b.non_inv;exact⟨rfl,q F H _ (.refl s) .bl⟩
 .cases a.bl_inv;cases b.bl_inv;refine⟨rfl,?_⟩;rw[show ∀ i j:Bool,decide (V.bl i=V.bl j)=decide (i=j)from λi j=>by simp];exact q F H _ (.refl s) .bl
 .cases a.bl_inv;cases b.str_inv;exact⟨rfl,q F H _ (.refl s) .bl⟩
 .cases a.int_inv;cases b.non_inv;exact⟨rfl,q F H _ (.refl s) .bl⟩
 .cases a.int_inv;cases b.int_inv;refine⟨rfl,?_⟩;rw[show ∀ i j:Int,decide (V.int i=V.int j)=decide (i=j)from λi j=>by simp];exact q F H _ (.refl s) .bl
 .cases a.int_inv;cases b.str_inv;exact⟨rfl,q F H _ (.refl s) .bl⟩
 .cases a.str_inv;cases b.non_inv;exact⟨rfl,q F H _ (.refl s) .bl⟩
 .cases a.str_inv;cases b.bl_inv;exact⟨rfl,q F H _ (.refl s) .bl⟩
 .cases a.str_inv;cases b.int_inv;exact⟨rfl,q F H _ (.refl s) .bl⟩
 .cases a.str_inv;cases b.str_inv;refine⟨rfl,?_⟩;rw[show ∀ i j:Str,decide (V.str i=V.str j)=decide (i=j)from λi j=>by simp];exact q F H _ (.refl s) .bl
def zl2:OpD rNe neD:=by
 intro F H x y d e z Q s i j h q
 obtain⟨c,k,rfl⟩:=u7.mp h
 have:=zln F H x y d e (.bl c) (λv H'=>∃ b,v=.bl b/\Q (.bl (!b)) H') s i j (by unfold eqD;rw[k];rfl) λF' H' v g l=>⟨c,l.bl_inv,q F' H' _ g .bl⟩
 obtain⟨m,b,a,f⟩:=this
 cases a
 exact⟨m,f⟩
def Wa:wt
 | d,.non=>some (.bl (match d with | .non=>true | _=>false))
 | .bl a,.bl b=>some (.bl (a == b))
 | _,_=>none
def zV:wt
 | d,.non=>some (.bl (match d with | .non=>false | _=>true))
 | .bl a,.bl b=>some (.bl (!(a == b)))
 | _,_=>none
def ziV (h:At F d x):decide (x=V.non)=(match d with | .non=>true | _=>false):=by
 cases d with
 | non=>cases h.non_inv;rfl
 | bl b=>cases h.bl_inv;rfl
 | int b=>cases h.int_inv;rfl
 | str b=>cases h.str_inv;rfl
 | tup c=>obtain⟨a,e,rfl,_⟩:=h.tup_inv;rfl
 | lst c=>obtain⟨a,e,rfl,_⟩:=h.lst_inv;rfl
 | scr c=>obtain⟨a,rfl,_⟩:=h.scr_inv;rfl
 | dct z t g f=>obtain⟨a,e,rfl,_⟩:=h.dct_inv;rfl
def zhl:OpD (λx y H Q=>(y=.non/\Q (.bl (decide (x=.non))) H)\/∃ i j,x=.bl i/\y=.bl j/\Q (.bl (i == j)) H) Wa:=by
 intro F H x y d e z Q s b c a q
 unfold Wa at a
 split at a
 .cases a
  refine .inl ⟨c.non_inv,?_⟩
  rw[ziV b]
  have:=q F H _ (.refl s) .bl
  cases d <;> exact this
 .cases a
  exact .inr ⟨_,_,b.bl_inv,c.bl_inv,q F H _ (.refl s) .bl⟩
 .cases a
def zf5:OpD (λx y H Q=>(y=.non/\Q (.bl (!decide (x=.non))) H)\/∃ i j,x=.bl i/\y=.bl j/\Q (.bl (!(i == j))) H) zV:=by
 intro F H x y d e z Q s b c a q
 unfold zV at a
 split at a
 .cases a
  refine .inl ⟨c.non_inv,?_⟩
  rw[ziV b]
  have:=q F H _ (.refl s) .bl
  cases d <;> exact this
 .cases a
  exact .inr ⟨_,_,b.bl_inv,c.bl_inv,q F H _ (.refl s) .bl⟩
 .cases a
def zmd:OpR X (compareOp .Is) (λx y H Q=>(y=.non/\Q (.bl (decide (x=.non))) H)\/∃ i j,x=.bl i/\y=.bl j/\Q (.bl (i == j)) H):=zoy.or zkY
def zgR:OpR X (compareOp .IsNot) (λx y H Q=>(y=.non/\Q (.bl (!decide (x=.non))) H)\/∃ i j,x=.bl i/\y=.bl j/\Q (.bl (!(i == j))) H):=zmk.or zdz
def xQ (g a:wt)(f h k:zQ):zQ:=fun ρ=>(f ρ).bind λx=>(h ρ).bind λy=>((g x y).bind asB).bind λc=>if c=true then (k ρ).bind λz=>a y z else some (.bl false)
def zk7 {g:wt}{t:TE}{f k:zQ}(T:OpD r g)(i:OpD o A)(U:RE ta f)(N:RE t h)(G:RE tc k):RE (zjb r o ta t tc) (xQ g A f h k):=by
 intro σ ρ F H z Q s d e q
 obtain⟨x,C,e⟩:=u0.mp e
 obtain⟨y,K,e⟩:=u0.mp e
 obtain⟨c,l,e⟩:=u0.mp e
 obtain⟨W,l,M⟩:=u0.mp l
 cases Z4 M
 refine U σ ρ F H x _ s d C λF1 H1 v m I=>?_
 refine N σ ρ F1 H1 y _ m.fh (d.mono m.ff) K λF2 H2 u j B=>?_
 refine T F2 H2 v u x y _ _ j.fh (I.mono j.ff) B l λF3 H3 w b J=>⟨c,J.bl_inv,?_⟩
 have a:=(m.trans j).trans b
 cases c with
 | true =>
  rw[u9 rfl]at e ⊢
  obtain⟨p,P,R⟩:=u0.mp e
  refine G σ ρ F3 H3 p _ b.fh (d.mono a.ff) P λF4 H4 E n S=>?_
  exact i F4 H4 u E y p z Q n.fh (B.mono (b.ff.trans n.ff)) S R λF5 H5 V O L=>q F5 H5 V ((a.trans n).trans O) L
 | false =>
  rw[t9 u6]at e ⊢
  cases e
  exact q F3 H3 _ a .bl
def zjW {e:R2}{g:wt}{f k:zQ}(u:OpR X (compareOp i) r)(p:OpR X (compareOp d) e)(t:OpD r g)(j:OpD e n)(q:ED X a f)(s:ED X b h)(o:ED X c k)(l:∀ {ta m tc:TE},PE X a ta->PE X b m->PE X c tc->PE X (.Compare a [i,d] [b,c] pos) (zjb r e ta m tc)):ED X (.Compare a [i,d] [b,c] pos) (xQ g n f h k) :=
 let ⟨_,pa,ra⟩:=q
 let ⟨_,pb,rb⟩:=s
 let ⟨_,pc,rc⟩:=o
 ⟨_,l pa pb pc,zk7 t j ra rb rc⟩
def zeH:zk->Option zc
 | []=>some []
 | .int b::ds=>(zeH ds).map (b::·)
 | _=>none
omit [KK] in
def WM:∀ {b:zk} {a:zc},zeH b=some a->b=a.map .int
 | [],a,h=>by cases h;rfl
 | d::b,a,h=>by
  cases d <;> try cases h
  obtain⟨e,c,rfl⟩:=u7.mp h
  rw[WM c]
  rfl
def leT:wt
 | .tup a,.tup b=>(zeH a).bind λd=>(zeH b).map λc=>.bl (HT.lexLe d c)
 | _,_=>none
def znC:OpD (rLeT K) leT:=by
 intro F H x y d e z Q s b c a q
 cases d <;> try cases a
 cases e <;> try cases a
 obtain⟨i,j,l⟩:=u0.mp a
 obtain⟨f,h,rfl⟩:=u7.mp l
 rw[WM j]at b
 rw[WM h]at c
 obtain⟨p,o,rfl,n,m⟩:=b.tup_inv
 obtain⟨g,r,rfl,k,bl⟩:=c.tup_inv
 cases m.of_ints
 cases bl.of_ints
 exact⟨p,g,i,f,rfl,rfl,SqT.of (s _ _ n),SqT.of (s _ _ k),q F H _ (.refl s) .bl⟩
def ixD:wt
 | .lst ds,.int i=>atI ds i
 | .tup ds,.int i=>atI ds i
 | .scr ns,.int i=>(atI ns i).map .int
 | _,_=>none
def AtL.atI {c:zk}{b:zx}(a:AtL F c b)(h:L2.atI c i=some d):∃ x,L2.atI b i=some x/\At F d x:=by
 unfold L2.atI at h ⊢
 obtain⟨j,k,e⟩:=u0.mp h
 obtain⟨x,g,f⟩:=a.get e
 exact⟨x,by rw[a.length,k];exact g,f⟩
def zpJ:OpD (rIx KK.K) ixD:=by
 intro F H x y d e z Q s f m b q
 cases e <;> try (cases d <;> cases b)
 cases m.int_inv
 cases d with
 | lst r =>
  obtain⟨p,g,rfl,c,i⟩:=f.lst_inv
  obtain⟨v,a,h⟩:=i.atI b
  exact .inl ⟨p,g,_,v,rfl,rfl,SqL.of (s _ _ c),a,q F H _ (.refl s) h⟩
 | tup r =>
  obtain⟨p,g,rfl,c,i⟩:=f.tup_inv
  obtain⟨v,a,h⟩:=i.atI b
  exact .inr (.inl ⟨p,g,_,v,rfl,rfl,SqT.of (s _ _ c),a,q F H _ (.refl s) h⟩)
 | scr k =>
  obtain⟨p,rfl,c⟩:=f.scr_inv
  obtain⟨n,a,rfl⟩:=u7.mp b
  refine .inl ⟨p,k.map V.int,_,.int n,rfl,rfl,s.seq c,?_,q F H _ (.refl s) .int⟩
  unfold L2.atI at a ⊢
  rw[u4]
  obtain⟨j,o,l⟩:=u0.mp a
  rw[o]
  show(k.map V.int)[j]?=_
  rw[q0,l]
  rfl
 | _=>cases b
def Yj {f:zQ}(g:ED X a f)(d:ED X b h)(c:zbk b)(e:X.K=KK.K:=by rfl):ED X (.Subscript a b pos) (zd ixD f h) :=
 let ⟨_,pa,ra⟩:=g
 let ⟨_,pb,rb⟩:=d
 ⟨_,zqf zn3 pa pb c,zjw (by rw[e];exact zpJ) ra rb⟩
def zaQ {α:Type}(a:List α)(b c:zX):List α:=(a.drop (HT.sIx a.length 0 b)).take (HT.sIx a.length a.length c-HT.sIx a.length 0 b)
def AtL.cut {c:zk}{b:zx}(a:AtL F c b):AtL F (zaQ c lo hi) (zdr b lo hi):=by
 unfold zaQ zdr
 rw[a.length]
 exact(a.drop _).take _
def OD (X:Cx)(e:Option Expr)(f:Ev->Option zX):Prop:=∃ t,PO X e t/\∀ (σ:St) (ρ:Ev) (F H:Hp) (i:zX) (Q:zX->Hp->Prop),yE F H->VAt F ρ σ->f ρ=some i->(∀ F' H',Gr F H F' H'->Q i H')->t σ H Q
def wW:Ev->Option zX:=λ_=>some none
def asI:D->zX
 | .int i=>some i
 | _=>none
def x0 (f:zQ):Ev->Option zX:=fun ρ=>((f ρ).bind asI).map some
def zhY:OD X none wW:=⟨_,znt,λ_ _ _ _ _ _ s _ e q=>by cases e;exact q _ _ (.refl s)⟩
def zi8 {f:zQ}(h:ED X e f):OD X (some e) (x0 f):=by
 obtain⟨t,p,r⟩:=h
 refine⟨_,zmR p,fun σ ρ F H i Q s c e q=>?_⟩
 obtain⟨j,a,rfl⟩:=u7.mp e
 obtain⟨d,a,g⟩:=u0.mp a
 cases d <;> cases g
 exact r σ ρ F H _ _ s c a λF1 H1 v b k=>⟨_,k.int_inv,q F1 H1 b⟩
def slL:D->zX->zX->Option zk
 | .lst ds,lo,hi=>some (zaQ ds lo hi)
 | .scr ns,lo,hi=>some ((zaQ ns lo hi).map .int)
 | _,_,_=>none
def slD:D->zX->zX->Option D
 | .lst ds,lo,hi=>some (.lst (zaQ ds lo hi))
 | .scr ns,lo,hi=>some (.lst ((zaQ ns lo hi).map .int))
 | .tup ds,lo,hi=>some (.tup (zaQ ds lo hi))
 | _,_,_=>none
def eSl (g:D->zX->zX->Option D)(f:zQ)(l h:Ev->Option zX):zQ:=fun ρ=>(f ρ).bind λd=>(l ρ).bind λa=>(h ρ).bind λb=>g d a b
def fSl (g:D->zX->zX->Option zk)(f:zQ)(l h:Ev->Option zX):y4:=fun ρ=>(f ρ).bind λd=>(l ρ).bind λa=>(h ρ).bind λb=>g d a b
omit [KK] in
def zeB {c:zc}{a b:zX}:zdr (c.map V.int) a b=(zaQ c a b).map V.int:=by
 unfold zdr zaQ
 rw[u4,List.map_take,List.map_drop]
end
end Dl
namespace L2
open PySem PySem.Spec PyProof.Rows
def rSlN:V->zX->zX->Hp->VK->Prop:=λx c d H Q=>∃ a b,x=.ref a/\H a=some (.tup b)/\(zdr b c d=b->Q (.ref a) H)/\∀ p,H p=none->Q (.ref p) (upd H p (.tup (zdr b c d)))
def zmG:SlR X rSlN:=by
 intro c s σ H x v t u i j p Q I f l n k h
 obtain⟨a,b,rfl,m,o,q⟩:=h
 by_cases hw:HT.sIx b.length 0 i=0/\HT.sIx b.length b.length j=b.length
 .cases f
  obtain⟨e,r,g,w⟩:=I.tuple (SqT.of m)
  have d:e.toArray.size=b.length:=by rw[t8];exact r.length.symm
  refine⟨"tuple",_,l4.lookup,g.typeIs,?_⟩
  refine HT.own_getItem_whole g l n k (by rw[d];exact hw) ⟨.ref a,H,I,rfl,o ?_⟩
  unfold zdr
  rw[hw.1,hw.2,List.drop_zero,Nat.sub_zero,u0u]
 .exact zpy c s σ H (.ref a) v t u i j p Q I f l n k ⟨a,b,rfl,SqT.of m,hw,q⟩
end L2
namespace Dl
open PySem L2
variable [KK]
section
variable {X:Cx}{a b c e:Expr}{pos:Pos}
def zeY {f:zQ}(M:ED X a f)(T:OD X B l)(W:OD X A h)(K:X.K=KK.K:=by rfl):ED X (.Subscript a (.Slice B A none L) pos) (eSl slD f l h):=by
 obtain⟨ta,R,U⟩:=M
 obtain⟨tl,x,G⟩:=T
 obtain⟨Y,S,N⟩:=W
 refine⟨_,zd5 (zht.or zmG) R x S,fun σ ρ F H z Q s w e q=>?_⟩
 obtain⟨d,E,e⟩:=u0.mp e
 obtain⟨i,I,e⟩:=u0.mp e
 obtain⟨j,O,e⟩:=u0.mp e
 refine U σ ρ F H d _ s w E λF1 H1 v t J=>?_
 refine G σ ρ F1 H1 i _ t.fh (w.mono t.ff) I λF2 H2 o=>?_
 refine N σ ρ F2 H2 j _ o.fh (w.mono (t.ff.trans o.ff)) O λF3 H3 c=>?_
 have b:=(t.trans o).trans c
 have y:=J.mono (o.ff.trans c.ff)
 cases d <;> try cases e
 .obtain⟨p,m,rfl,k,u⟩:=y.tup_inv
  refine .inr ⟨p,m,rfl,c.fh _ _ k,λC=>?_,λr n=>?_⟩
  .have:=u.cut (lo:=i) (hi:=j)
   rw[C]at this
   exact q F3 H3 _ b (.tup k this)
  .have g:=Gr.alloc c.fh n (.tup (zdr m i j))
   exact q _ _ _ (b.trans g) (.tup zq (u.cut.mono g.ff))
 .obtain⟨p,m,rfl,k,u⟩:=y.lst_inv
  refine .inl ⟨p,m,rfl,SqL.of (c.fh _ _ k),λr n=>?_⟩
  have g:=Gr.alloc c.fh n (.lst (zdr m i j))
  exact q _ _ _ (b.trans g) (.lst zq (u.cut.mono g.ff))
 .rename_i P _ _
  obtain⟨p,rfl,k⟩:=y.scr_inv
  refine .inl ⟨p,_,rfl,(by rw[K];exact c.fh.seq k),λr n=>?_⟩
  rw[zeB]
  have g:=Gr.alloc c.fh n (.lst ((zaQ P i j).map V.int))
  exact q _ _ _ (b.trans g) (.lst zq (.ints _))
def zjB {w:Option Expr}{f:zQ}(I:ED X a f)(O:OD X x l)(S:OD X w h)(E:X.K=KK.K:=by rfl):FL X (.Subscript a (.Slice x w none G) pos) (fSl slL f l h):=by
 obtain⟨ta,M,P⟩:=I
 obtain⟨tl,o,A⟩:=O
 obtain⟨T,N,J⟩:=S
 refine⟨_,zd5 zht M o N,fun σ ρ F H z Q s n e q=>?_⟩
 obtain⟨d,y,e⟩:=u0.mp e
 obtain⟨i,B,e⟩:=u0.mp e
 obtain⟨j,K,e⟩:=u0.mp e
 refine P σ ρ F H d _ s n y λF1 H1 v m C=>?_
 refine A σ ρ F1 H1 i _ m.fh (n.mono m.ff) B λF2 H2 k=>?_
 refine J σ ρ F2 H2 j _ k.fh (n.mono (m.ff.trans k.ff)) K λF3 H3 c=>?_
 have b:=(m.trans k).trans c
 have u:=C.mono (k.ff.trans c.ff)
 cases d <;> try cases e
 .obtain⟨p,L,rfl,t,R⟩:=u.lst_inv
  refine⟨p,L,rfl,SqL.of (c.fh _ _ t),λr g=>?_⟩
  exact q _ _ _ _ (b.trans (Gr.hide c.fh g _)) (VI b g) (c.fh.free g) zq R.cut
 .obtain⟨p,rfl,t⟩:=u.scr_inv
  refine⟨p,_,rfl,(by rw[E];exact c.fh.seq t),λr g=>?_⟩
  rw[zeB]
  exact q _ _ _ _ (b.trans (Gr.hide c.fh g _)) (VI b g) (c.fh.free g) zq (.ints _)
def CaD (r:zfL)(g:YF):Prop:=∀ (F H:Hp) (a:zx) (b:zk) (z:D) (Q:VK),yE F H->AtL F b a->g b=some z->(∀ F' H' v,Gr F H F' H'->At F' z v->Q v H')->r a H Q
def eFn (g:YF)(f:y4):zQ:=fun ρ=>(f ρ).bind g
def fFn (g:zf1)(f:y4):y4:=fun ρ=>(f ρ).bind g
def Yf {x:Str}{id:String}{p:Pos}{a:xK}{r:zfL}{g:YF}{f:y4}(w:Xl X (.builtin id) r)(E:CaD r g)(b:Gl X x)(k:X.mg x=none)(u:bootBuiltins x=some (.builtin id))(y:AD X (e::a) f)
 (j:x≠"__name__":=by decide) (c:(x == ("__debug__":Str))=false:=by decide) (I:starEach (e::a) X.env=(false,eval e X.env)::starEach a X.env:=by rfl) (d:(backTo pos (starEach a X.env)).any (·.1)=false:=by rfl) :
 ED X (.Call (.Name x p) (e::a) [] pos) (eFn g f):=by
 obtain⟨t,C,G⟩:=y
 refine⟨_,yy w b k u C j c I d,fun σ ρ F H z Q s l e q=>?_⟩
 obtain⟨i,m,n⟩:=u0.mp e
 refine G σ ρ F H i _ s l m λF1 H1 A h o=>?_
 exact E F1 H1 A i z Q h.fh o n λF' H' v g B=>q F' H' v (h.trans g) B
def zgl {a:xK} {g:YF} {f:y4} (w:Xl X (.type T) r) (E:CaD r g) (b:Gl X x) (k:X.mg x=none) (u:bootBuiltins x=some (.type T)) (y:AD X (e::a) f) (j:x≠"__name__":=by decide) (c:(x == ("__debug__":Str))=false:=by decide) (I:starEach (e::a) X.env=(false,eval e X.env)::starEach a X.env:=by rfl) (d:(backTo pos (starEach a X.env)).any (·.1)=false:=by rfl) :
 ED X (.Call (.Name x p) (e::a) [] pos) (eFn g f):=by
 obtain⟨t,C,G⟩:=y
 refine⟨_,zhu w b k u C j c I d,fun σ ρ F H z Q s l e q=>?_⟩
 obtain⟨i,m,n⟩:=u0.mp e
 refine G σ ρ F H i _ s l m λF1 H1 A h o=>?_
 exact E F1 H1 A i z Q h.fh o n λF' H' v g B=>q F' H' v (h.trans g) B
def vF:YF
 | [.lst ds]=>some (.int ds.length)
 | [.tup ds]=>some (.int ds.length)
 | [.scr ds]=>some (.int ds.length)
 | _=>none
def zd1:CaD (λa H Q=>∃ p d,a=[.ref p]/\(SqL KK.K H p d\/SqT KK.K H p d)/\Q (.int d.length) H) vF:=by
 intro F H h i z Q s g e q
 unfold vF at e
 split at e <;> cases e
 all_goals
  obtain⟨x,r,rfl,c,f⟩:=g.cons_inv
  cases f.nil_inv
 .obtain⟨p,a,rfl,b,bl⟩:=c.lst_inv
  exact⟨p,a,rfl,.inl (SqL.of (s _ _ b)),by rw[bl.length];exact q F H _ (.refl s) .int⟩
 .obtain⟨p,a,rfl,b,bl⟩:=c.tup_inv
  exact⟨p,a,rfl,.inr (SqT.of (s _ _ b)),by rw[bl.length];exact q F H _ (.refl s) .int⟩
 .obtain⟨p,rfl,b⟩:=c.scr_inv
  exact⟨p,_,rfl,.inl ((s.seq b)),by rw[u4];exact q F H _ (.refl s) .int⟩
def zfm:YF
 | [.int i,.int j]=>some (.int (if j>i then j else i))
 | _=>none
def zkx:YF
 | [.int i,.int j]=>some (.int (if j<i then j else i))
 | _=>none
def zej {g:Int->Int->Int}:CaD (λf H Q=>∃ i j,f=[.int i,.int j]/\Q (.int (g i j)) H) (λb=>match b with | [.int i,.int j]=>some (.int (g i j)) | _=>none):=by
 intro F H k b z Q s h e q
 dsimp only at e
 split at e <;> cases e
 obtain⟨x,r,rfl,c,a⟩:=h.cons_inv
 obtain⟨y,r,rfl,d,a⟩:=a.cons_inv
 cases a.nil_inv
 exact⟨_,_,by rw[c.int_inv,d.int_inv],q F H _ (.refl s) .int⟩
def zjy:CaD (λa H Q=>∃ i j,a=[.int i,.int j]/\Q (.int (if j>i then j else i)) H) zfm:=zej (g:=λi j=>if j>i then j else i)
def zjo:CaD (λa H Q=>∃ i j,a=[.int i,.int j]/\Q (.int (if j<i then j else i)) H) zkx:=zej (g:=λi j=>if j<i then j else i)
def yo:YF
 | [.lst ds]=>some (.tup ds)
 | [.tup ds]=>some (.tup ds)
 | _=>none
def zjf:CaD (λa H Q=>∃ p c,a=[.ref p]/\((SqL K H p c/\∀ l,H l=none->Q (.ref l) (upd H l (.tup c)))\/(SqT K H p c/\Q (.ref p) H))) yo:=by
 intro F H j k z Q s i e q
 unfold yo at e
 split at e <;> cases e
 all_goals
  obtain⟨x,r,rfl,d,f⟩:=i.cons_inv
  cases f.nil_inv
 .obtain⟨p,a,rfl,b,bl⟩:=d.lst_inv
  refine⟨p,a,rfl,.inl ⟨SqL.of (s _ _ b),λl h=>?_⟩⟩
  have g:=Gr.alloc s h (.tup a)
  exact q _ _ _ g (.tup zq (bl.mono g.ff))
 .obtain⟨p,a,rfl,b,bl⟩:=d.tup_inv
  exact⟨p,a,rfl,.inr ⟨SqT.of (s _ _ b),q F H _ (.refl s) (.tup b bl)⟩⟩
def Zu:zf1
 | [.lst ds]=>some ds
 | [.tup ds]=>some ds
 | [.scr ns]=>some (ns.map .int)
 | _=>none
inductive TyD (K:zz) (H:Hp):V->Value->Prop where
 | of {v:V} {t:Value} (h:zew K H v t):TyD K H v t
 | dd {a:Addr} {u:HO} (h:Rd H a u) (d:(∃ kvs,u=.dK kvs)\/∃ kvs,u=.dT kvs):TyD K H (.ref a) (.type "dict")
def zbB {X:Cx}:Xl X (.builtin "isinstance") (λj H Q=>∃ x n t b,j=[x,.ty n]/\TyD X.K H x t/\W.kitOne X.K t (.type n)=some b/\Q (.bl b) H):=by
 intro f s σ H j l Q I r h
 obtain⟨x,n,t,b,rfl,ty,e,q⟩:=h
 cases ty with
 | of ty=>exact zdp f s σ H _ l Q I r ⟨x,n,t,b,rfl,ty,e,q⟩
 | @dd a u h d =>
  cases r with
  | cons m w =>
   cases w with
   | cons A k =>
    cases k
    cases m
    cases A
    have ok:=h.ok I.hok
    rcases d with ⟨c,rfl⟩ | ⟨c,rfl⟩
    .obtain⟨_,_,B,_,p⟩:=(show yQ X.prog X.w H s.heap a (.dK c)from ok)
     obtain⟨o,y,v,i,g,_⟩:=p
     exact l6 u13 I.kIn ⟨o,i,g.1⟩ e (λz=>nomatch z) λtk=>⟨.bl b,H,I.tok tk,rfl,q⟩
    .obtain⟨_,_,j,_,o,y,v,i,g,_⟩:=(show yQ X.prog X.w H s.heap a (.dT c)from ok)
     exact l6 u13 I.kIn ⟨o,i,g.1⟩ e (λz=>nomatch z) λtk=>⟨.bl b,H,I.tok tk,rfl,q⟩
def At.ty (s:yE F H):∀ {d:D} {v:V},At F d v->(∀ g,d≠.scr g)->TyD K H v (.type (tyN d))
 | .non,_,h,_=>by cases h.non_inv;exact .of .non
 | .bl b,_,h,_=>by cases h.bl_inv;exact .of (.bl b)
 | .int i,_,h,_=>by cases h.int_inv;exact .of (.int i)
 | .str x,_,h,_=>by cases h.str_inv;exact .of (.str x)
 | .tup ds,_,h,_=>by obtain⟨a,j,rfl,e,_⟩:=h.tup_inv;exact .of (.tup (s _ _ e))
 | .lst ds,_,h,_=>by obtain⟨a,j,rfl,e,_⟩:=h.lst_inv;exact .of (.lst (s _ _ e))
 | .scr g,_,_,n=>absurd rfl (n g)
 | .dct z t ks vs,_,h,_=>by
  obtain⟨a,j,rfl,d,_⟩:=h.dct_inv
  obtain⟨u,f,k⟩:=(d.mono s).rd
  exact .dd k (by
   unfold zga at f
   split at f
   .obtain⟨c,rfl,_⟩:=f;exact .inr ⟨c,rfl⟩
   .obtain⟨c,rfl,_⟩:=f;exact .inl ⟨c,rfl⟩)
inductive Ty where
 | int | bool | tuple | list | str
def Ty.nm:Ty->String
 | .int=>"int" | .bool=>"bool" | .tuple=>"tuple" | .list=>"list" | .str=>"str"
def isT:Ty->D->Bool
 | .int,.int _=>true | .int,.bl _=>true
 | .bool,.bl _=>true
 | .tuple,.tup _=>true
 | .list,.lst _=>true
 | .str,.str _=>true
 | _,_=>false
def yK (n:Ty):D->Option D
 | .scr _=>none
 | d=>some (.bl (isT n d))
def zpX (K:zz)(n:Ty)(d:D)(h:∀ a,d≠.scr a):W.kitOne K (.type (tyN d)) (.type n.nm)=some (isT n d):=by
 cases n <;> cases d <;> first | exact absurd rfl (h _) | kernel_rfl
def zgA {f:zQ} (n:Ty) (g:Gl X "isinstance") (o:X.mg "isinstance"=none) (y:ED X a f) (r:PE X b (tC (.ty n.nm))) (l:starEach [a,b] X.env=(false,eval a X.env)::starEach [b] X.env:=by rfl) (i:starEach [b] X.env=(false,eval b X.env)::starEach [] X.env:=by rfl) (j:(backTo pos (starEach [b] X.env)).any (·.1)=false:=by rfl) :
 ED X (.Call (.Name "isinstance" p) [a,b] [] pos) (eUn (yK n) f):=by
 obtain⟨t,B,C⟩:=y
 refine⟨_,yy zbB g o zB (zu B (zu r yJ i) l) (by decide) (by decide) l j,fun σ ρ F H z Q s u e q=>?_⟩
 obtain⟨d,w,k⟩:=u0.mp e
 refine C σ ρ F H d _ s u w λF1 H1 v m x=>?_
 have c:∀ c,d≠.scr c:=λc h=>by subst h;cases k
 have A:z=.bl (isT n d):=by
  cases d <;> first | exact(g0 k).symm | exact absurd rfl (c _)
 subst A
 exact⟨v,n.nm,_,_,rfl,x.ty m.fh c,zpX _ n d c,q F1 H1 _ m .bl⟩
def Xe (m:Bool)(i:Nat)(f:zQ):zT:=fun ρ=>match (vEv m f ρ).bind λd=>match ρ[i]? with
 | some (.o ds)=>if decide (ds.length<sizeLine)=true then some (ρ.set i (.o (ds++[d])))else none
 | _=>none with
 | some a=>.nx a
 | none=>.no
def ziR {b:Pos} {f:zQ} (I:PE X a (zdt i)) (O:ED X e f) (M:∀ {ta:TE} {t:TA},PE X a ta->PA X [e] t->PE X (.Call (.Attribute a "append" p) [e] [] b) (tBM X.K "list" zih ta t)) (z:swapsWith (.Call (.Attribute a "append" p) [e] [] b) none pos.line X.env=pure false:=by rfl) (j:starEach [e] X.env=(false,eval e X.env)::starEach [] X.env:=by rfl):SD X (.Expr (.Call (.Attribute a "append" p) [e] [] b) pos) (Xe m i f):=by
 obtain⟨t,G,A⟩:=O
 refine⟨_,Vz (M I (zu G yJ j)) z,λFb Hb F H ρ σ E x k=>?_⟩
 unfold Xe at k
 cases h:(vEv m f ρ).bind λd=>match ρ[i]? with
  | some (.o r)=>if decide (r.length<sizeLine)=true then some (ρ.set i (.o (r++[d])))else none
  | _=>none with
 | none=>rw[h]at k;exact k.elim
 | some Q =>
  rw[h]at k
  obtain⟨d,C,c⟩:=u0.mp h
  cases j:ρ[i]? with
  | none=>rw[j]at c;cases c
  | some B =>
   rw[j]at c
   cases B with
   | no=>cases c
   | v _=>cases c
   | m _ _ _=>cases c
   | o r =>
    dsimp only at c
    split at c <;> cases c
    rename_i L
    obtain⟨q,K,y,T,P,N,R⟩:=x.owns i r j
    refine⟨_,y,.inl ⟨rfl,K,SqL.of N⟩,?_⟩
    refine A.at x C λF' H' v g J=>?_
    have n:=x.grow g
    obtain⟨S,u,s,_,_,w,l⟩:=n.owns i r j
    rw[y]at s
    cases s
    refine⟨q,u,v,rfl,rfl,w,by rw[l.length];exact k9 L,?_⟩
    exact k _ _ σ (n.mutate j y (l.snoc J))
def zba (i:Nat)(f:zQ):zT:=fun ρ=>match (f (visF ρ)).bind λd=>match ρ[i]?,d with
 | some (.o ds),.lst es=>if lim (ds.length+es.length)=true then some (ρ.set i (.o (ds++es)))else none
 | _,_=>none with
 | some a=>.nx a
 | none=>.no
def zoC {b:Pos} {f:zQ} (K:PE X a (zdt i)) (Q:ED X e f) (O:∀ {ta:TE} {t:TA},PE X a ta->PA X [e] t->PE X (.Call (.Attribute a "extend" p) [e] [] b) (tBM X.K "list" ziP ta t)) (A:swapsWith (.Call (.Attribute a "extend" p) [e] [] b) none pos.line X.env=pure false:=by rfl) (j:starEach [e] X.env=(false,eval e X.env)::starEach [] X.env:=by rfl):SD X (.Expr (.Call (.Attribute a "extend" p) [e] [] b) pos) (zba i f):=by
 obtain⟨t,J,B⟩:=Q
 refine⟨_,Vz (O K (zu J yJ j)) A,λFb Hb F H ρ σ E u k=>?_⟩
 unfold zba at k
 cases h:(f (visF ρ)).bind λd=>match ρ[i]?,d with
  | some (.o r),.lst y=>if lim (r.length+y.length)=true then some (ρ.set i (.o (r++y)))else none
  | _,_=>none with
 | none=>rw[h]at k;exact k.elim
 | some T =>
  rw[h]at k
  obtain⟨d,I,c⟩:=u0.mp h
  cases j:ρ[i]? with
  | none=>rw[j]at c;cases c
  | some G =>
   rw[j]at c
   cases G with
   | no=>cases c
   | v _=>cases c
   | m _ _ _=>cases c
   | o r =>
    cases d with
    | lst y =>
     dsimp only at c
     split at c <;> cases c
     rename_i N
     obtain⟨q,M,z,W,S,P,U⟩:=u.owns i r j
     refine⟨_,z,.inl ⟨rfl,M,SqL.of P⟩,?_⟩
     refine B σ _ _ H _ _ u.gr.fh u.visF I λF' H' v g L=>?_
     have n:=u.grow g
     obtain⟨V,w,s,_,_,x,l⟩:=n.owns i r j
     rw[z]at s
     cases s
     obtain⟨C,zs,rfl,R,bl⟩:=L.lst_inv
     refine⟨q,C,w,zs,rfl,rfl,x,g.fh _ _ R,by rw[l.length,bl.length];exact k9 N,?_⟩
     exact k _ _ σ (n.mutate j z (l.append bl))
    | _=>cases c
end
end Dl
namespace Dl
open PySem L2
variable [KK]
def okE:Nat->D->Bool
 | _,.scr _=>false
 | _,.dct _ _ _ _=>false
 | 0,.tup _=>false
 | 0,.lst _=>false
 | n+1,.tup ds=>ds.all (okE n)
 | n+1,.lst ds=>ds.all (okE n)
 | _,_=>true
def eqN:Nat->D->D->Bool
 | _,.non,.non=>true
 | _,.bl a,.bl b=>a == b
 | _,.bl a,.int b=>(if a then 1 else 0) == b
 | _,.int a,.bl b=>a == (if b then 1 else 0)
 | _,.int a,.int b=>a == b
 | _,.str a,.str b=>a == b
 | n+1,.tup a,.tup b=>(List.zipWith (eqN n) a b).all id&&a.length == b.length
 | n+1,.lst a,.lst b=>(List.zipWith (eqN n) a b).all id&&a.length == b.length
 | _,_,_=>false
omit [KK] in
def zdX:∀ (a b:zk),(List.zipWith (eqN n) a b).all id=(List.range (min a.length b.length)).all λj=>eqN n (a.getD j .non) (b.getD j .non):=by
 intro a b
 have:List.zipWith (eqN n) a b=(List.range (min a.length b.length)).map λj=>eqN n (a.getD j .non) (b.getD j .non):=by
  apply u2j
  .simp
  .intro i c d
   simp at c d
   have e:i<a.length:=j2 c (Nat.min_le_left _ _)
   have f:i<b.length:=j2 c (u3k _ _)
   simp[e,f]
 rw[this,u1w]
 rfl
omit [KK] in
def vOf:D->V
 | .bl b=>.bl b
 | .int i=>.int i
 | .str t=>.str t
 | _=>.non
def ww (h:okE 0 d=true)(a:At F d x):x=vOf d:=by
 cases d with
 | non=>exact a.non_inv
 | bl b=>exact a.bl_inv
 | int b=>exact a.int_inv
 | str b=>exact a.str_inv
 | _=>cases h
omit [KK] in
def Wu (h:okE 0 d=true):zni (vOf d)=true:=by
 cases d <;> first | rfl | cases h
omit [KK] in
def zbt (h:okE 0 d=true)(e:vOf d=.ref p):False:=by
 cases d <;> first | (cases h;done) | (cases e;done)
def dOfV:V->D
 | .bl b=>.bl b
 | .int i=>.int i
 | .str t=>.str t
 | _=>.non
omit [KK] in
def zhk (h:okE 0 d=true):dOfV (vOf d)=d:=by
 cases d <;> first | rfl | (cases h;done)
omit [KK] in
def zis (b:okE 0 d=true)(a:okE 0 e=true)(h:vOf d=vOf e):d=e:=by
 rw[<-zhk b,h,zhk a]
omit [KK] in
def wj {n:Nat}(h:okE (n+1) d=true):okE 0 d=true\/(∃ a,d=.tup a/\a.all (okE n)=true)\/∃ a,d=.lst a/\a.all (okE n)=true:=by
 cases d with
 | tup a=>exact .inr (.inl ⟨a,rfl,h⟩)
 | lst a=>exact .inr (.inr ⟨a,rfl,h⟩)
 | scr _=>cases h
 | dct _ _ _ _=>cases h
 | _=>exact .inl rfl
def zgn (p:∀ {d e:D} {v:V},okE n d=true->okE n e=true->At F d v->At F e v->d=e):∀ {c:zx} {b a:zk},b.all (okE n)=true->a.all (okE n)=true->AtL F b c->AtL F a c->b=a:=by
 intro c
 induction c with
 | nil =>
  intro b a _ _ f g
  exact(u0n.mp f.length.symm).trans (u0n.mp g.length.symm).symm
 | cons x c i =>
  intro b a j h f g
  cases b with
  | nil=>cases f.nil_inv
  | cons d b=>cases a with
   | nil=>cases g.nil_inv
   | cons e a =>
    obtain⟨y,r,l,b1,m⟩:=f.cons_inv
    obtain⟨s,q,o,b2,k⟩:=g.cons_inv
    cases l
    cases o
    rw[u3c,r4]at j h
    rw[i j.2 h.2 m k,p j.1 h.1 b1 b2]
def zlP:∀ (n:Nat) {d e:D} {v:V},okE n d=true->okE n e=true->At F d v->At F e v->d=e:=by
 intro n
 induction n with
 | zero =>
  intro d e v o h j b
  exact zis o h ((ww o j).symm.trans (ww h b))
 | succ n x =>
  intro d e v o h j b
  rcases wj o with m | ⟨y,rfl,u⟩ | ⟨y,rfl,u⟩
  .have a:=ww m j
   rcases wj h with c | ⟨i,rfl,_⟩ | ⟨i,rfl,_⟩
   .exact zis m c (a.symm.trans (ww c b))
   .obtain⟨p,s,t,_⟩:=b.tup_inv
    exact(zbt m (a.symm.trans t)).elim
   .obtain⟨p,s,t,_⟩:=b.lst_inv
    exact(zbt m (a.symm.trans t)).elim
  .obtain⟨p,s,g,l,w⟩:=j.tup_inv
   rcases wj h with c | ⟨i,rfl,k⟩ | ⟨i,rfl,k⟩
   .exact(zbt c ((ww c b).symm.trans g)).elim
   .obtain⟨q,r,a,f,bl⟩:=b.tup_inv
    cases g.symm.trans a
    cases l.symm.trans f
    rw[zgn x u k w bl]
   .obtain⟨q,r,a,f,bl⟩:=b.lst_inv
    cases g.symm.trans a
    cases l.symm.trans f
  .obtain⟨p,s,g,l,w⟩:=j.lst_inv
   rcases wj h with c | ⟨i,rfl,k⟩ | ⟨i,rfl,k⟩
   .exact(zbt c ((ww c b).symm.trans g)).elim
   .obtain⟨q,r,a,f,bl⟩:=b.tup_inv
    cases g.symm.trans a
    cases l.symm.trans f
   .obtain⟨q,r,a,f,bl⟩:=b.lst_inv
    cases g.symm.trans a
    cases l.symm.trans f
    rw[zgn x u k w bl]
omit [KK] in
def zkQ:∀ (n:Nat) {d:D},okE n d=true->eqN n d d=true:=by
 intro n
 induction n with
 | zero =>
  intro d h
  cases d with
  | tup _=>cases h
  | lst _=>cases h
  | scr _=>cases h
  | dct _ _ _ _=>cases h
  | _=>first | rfl | exact j0 rfl | exact u0P _
 | succ n e =>
  have b:∀ {a:zk},a.all (okE n)=true->(List.zipWith (eqN n) a a).all id=true:=by
   intro a
   induction a with
   | nil=>intro _;rfl
   | cons d a c =>
    intro h
    rw[u3c,r4]at h
    rw[List.zipWith_cons_cons,u3c,c h.2,u2t]
    exact e h.1
  intro d h
  cases d with
  | tup a=>show((List.zipWith (eqN n) a a).all id&&a.length == a.length)=true;rw[b h];simp
  | lst a=>show((List.zipWith (eqN n) a a).all id&&a.length == a.length)=true;rw[b h];simp
  | scr _=>cases h
  | dct _ _ _ _=>cases h
  | _=>first | rfl | exact j0 rfl | exact u0P _
def zly (n:Nat)(f:okE n d=true)(a:okE n e=true)(c:At F d v)(b:At F e v):eqN n d e=true:=by
 rw[zlP n f a c b]
 exact zkQ n a
omit [KK] in
def v8 {a:zk}{j:Nat}(h:a.all (okE n)=true)(b:j<a.length):okE n (a.getD j .non)=true:=by
 have:a.getD j .non=a[j]:=by simp[b]
 rw[this]
 exact f9.mp h _ (u0s b)
def AtL.nth {a:zk}{f:zx}{b:zt}{j:Nat}(c:AtL F a f)(r:yl f b)(h:j<b.length):∃ x,At F (a.getD j .non) x/\y2 x b[j]:=by
 have o:=c.length
 have g:=r.length
 have e:j<a.length:=by omega
 obtain⟨x,n,m⟩:=c.get (i:=j) (d:=a[j]) (by simp[e])
 obtain⟨u,k,l⟩:=r.get n
 refine⟨x,by rw[show a.getD j .non=a[j] by simp[e]];exact m,?_⟩
 have:b[j]?=some b[j]:=by simp[h]
 rw[k]at this
 cases this
 exact l
omit [KK] in
def zep (b:okE 0 d=true)(a:okE 0 e=true):eqN n d e=eqV (vOf d) (vOf e):=by
 cases n <;> cases d <;> first | (cases b;done) | skip
 all_goals cases e <;> first | (cases a;done) | rfl
omit [KK] in
def zee {n:Nat}(a:zk)(h:okE 0 d=true):eqN (n+1) d (.tup a)=false/\eqN (n+1) d (.lst a)=false/\eqN (n+1) (.tup a) d=false/\eqN (n+1) (.lst a) d=false:=by
 cases d <;> first | exact⟨rfl,rfl,rfl,rfl⟩ | cases h
omit [KK] in
def zbm {A:zI}{s:zj}(h:okE 0 d=true)(r:y2 (vOf d) u)(c:A.units<cLine) :
 (s.heap.IsTuple p e->SeqAt.EqAt A s u (.ref p) false/\SeqAt.EqAt A s (.ref p) u false)/\(s.heap.IsList p e->SeqAt.EqAt A s u (.ref p) false/\SeqAt.EqAt A s (.ref p) u false):=by
 cases d with
 | non=>cases r;exact⟨λa=>⟨.none_tuple a c,.tuple_none a c⟩,λa=>⟨.none_list a c,.list_none a c⟩⟩
 | bl b=>cases r;exact⟨λa=>⟨.bool_tuple b a c,.tuple_bool b a c⟩,λa=>⟨.bool_list b a c,.list_bool b a c⟩⟩
 | int b=>obtain⟨t,rfl⟩:=r;exact⟨λa=>⟨.int_tuple b t a c,.tuple_int b t a c⟩,λa=>⟨.int_list b t a c,.list_int b t a c⟩⟩
 | str b=>obtain⟨t,rfl⟩:=r;exact⟨λa=>⟨.str_tuple b t a c,.tuple_str b t a c⟩,λa=>⟨.str_list b t a c,.list_str b t a c⟩⟩
 | _=>cases h
def zaI {s:zj}(I:Inv X c σ H s)(sm:yE F H)(a:At F (.tup e) x)(r:y2 x u):∃ p b d,u=.ref p/\x=.ref p/\yl d b/\AtL F e d/\s.heap.IsTuple p b.toArray:=by
 obtain⟨p,d,rfl,i,h⟩:=a.tup_inv
 cases r
 obtain⟨b,f,g,j⟩:=I.tuple (SqT.of (sm _ _ i))
 exact⟨p,b,d,rfl,rfl,f,h,g⟩
def zaC {s:zj}(I:Inv X c σ H s)(sm:yE F H)(a:At F (.lst e) x)(r:y2 x u):∃ p b d,u=.ref p/\x=.ref p/\yl d b/\AtL F e d/\s.heap.IsList p b.toArray:=by
 obtain⟨p,d,rfl,i,h⟩:=a.lst_inv
 cases r
 obtain⟨b,f,g,j⟩:=I.list (SqL.of (sm _ _ i))
 exact⟨p,b,d,rfl,rfl,f,h,g.isList⟩
omit [KK] in
def zhD (a b:zk):((List.zipWith (eqN n) a b).all id&&a.length == b.length)=((List.range (min a.length b.length)).all (λj=>eqN n (a.getD j .non) (b.getD j .non))&&a.length == b.length):=by rw[zdX]
def zgw (I:Inv X Q σ H s)(sm:yE F H):∀ (n:Nat) {A:zI} {d e:D} {x y:V} {u v:Value},okE n d=true->okE n e=true->At F d x->At F e y->y2 x u->y2 y v->A.units+n<cLine->SeqAt.EqAt A s u v (eqN n d e):=by
 intro n
 induction n with
 | zero =>
  intro A d e x y u v K t w h E m hu
  cases ww K w
  cases ww t h
  rw[zep K t]
  exact zlj E m (Wu K) (Wu t)
 | succ n ih =>
  intro A d e x y u v K t w h E m hu
  have c:A.units<cLine:=p5 (u0g _ _) hu
  have O:A.units+1+n<cLine:=by rw[Nat.add_assoc,Nat.add_comm 1 n];exact hu
  rcases wj K with M | ⟨l,rfl,Z⟩ | ⟨l,rfl,Z⟩
  .cases ww M w
   rcases wj t with r | ⟨f,rfl,G⟩ | ⟨f,rfl,G⟩
   .cases ww r h
    rw[zep M r]
    exact zlj E m (Wu M) (Wu r)
   .obtain⟨q,b,S,rfl,_,_,_,a⟩:=zaI I sm h m
    rw[(zee f M).1]
    exact((zbm M E c).1 a).1
   .obtain⟨q,b,S,rfl,_,_,_,a⟩:=zaC I sm h m
    rw[(zee f M).2.1]
    exact((zbm M E c).2 a).1
  .obtain⟨p,C,xs,rfl,J,N,T,B⟩:=zaI I sm w E
   rcases wj t with r | ⟨f,rfl,G⟩ | ⟨f,rfl,G⟩
   .cases ww r h
    rw[(zee l r).2.2.1]
    exact((zbm r m c).1 B).2
   .obtain⟨q,b,S,rfl,L,o,bl,a⟩:=zaI I sm h m
    by_cases i:p=q
    .subst i
     rw[J]at w
     rw[L]at h
     rw[zly (n+1) K t w h]
     exact .same _
    .have g:C.toArray.size=l.length:=by rw[t8,<- N.length,T.length]
     have k:b.toArray.size=f.length:=by rw[t8,<- o.length,bl.length]
     have:=SeqAt.RcAt.tuples (A:=A) (e:=λj=>eqN n (l.getD j .non) (f.getD j .non)) B a c λj R P=>by
      obtain⟨x',U,Y⟩:=T.nth N (j:=j) R
      obtain⟨y',W,ry⟩:=bl.nth o (j:=j) P
      exact ih (v8 Z (g ▸ R)) (v8 G (k ▸ P)) U W Y ry O
     rw[g,k]at this
     rw[show eqN (n+1) (.tup l) (.tup f)=_ from zhD l f]
     exact u1P i this
   .obtain⟨q,b,S,rfl,_,_,_,a⟩:=zaC I sm h m
    exact .tuple_list B a c
  .obtain⟨p,C,xs,rfl,J,N,T,B⟩:=zaC I sm w E
   rcases wj t with r | ⟨f,rfl,G⟩ | ⟨f,rfl,G⟩
   .cases ww r h
    rw[(zee l r).2.2.2]
    exact((zbm r m c).2 B).2
   .obtain⟨q,b,S,rfl,_,_,_,a⟩:=zaI I sm h m
    exact .list_tuple B a c
   .obtain⟨q,b,S,rfl,L,o,bl,a⟩:=zaC I sm h m
    by_cases i:p=q
    .subst i
     rw[J]at w
     rw[L]at h
     rw[zly (n+1) K t w h]
     exact .same _
    .have g:C.toArray.size=l.length:=by rw[t8,<- N.length,T.length]
     have k:b.toArray.size=f.length:=by rw[t8,<- o.length,bl.length]
     rw[show eqN (n+1) (.lst l) (.lst f)=_ from zhD l f]
     by_cases z:l.length=f.length
     .have:=SeqAt.RcAt.lists (A:=A) (e:=λj=>eqN n (l.getD j .non) (f.getD j .non)) B a (by rw[g,k,z]) c λj R P=>by
       obtain⟨x',U,Y⟩:=T.nth N (j:=j) R
       obtain⟨y',W,ry⟩:=bl.nth o (j:=j) P
       exact ih (v8 Z (g ▸ R)) (v8 G (k ▸ P)) U W Y ry O
      rw[g]at this
      rw[<-z,u2X,u0P,u2t]
      exact u1P i this
     .have:=SeqAt.RcAt.lists_lengths (A:=A) B a (by rw[g,k];exact bne_iff_ne.mpr z) c
      rw[u0A.mpr z,u1n]
      exact u1P i this
def zog (d:D)(a:zk):Option Bool:=if okE 20 d=true/\a.all (okE 20)=true then some (a.any λe=>eqN 20 e d)else none
def inD (d e:D):Option D:=(xL e).bind λa=>(zog d a).map .bl
open Classical in
noncomputable def zjk (F:Hp)(d:D)(u:Value):Bool:=decide (∃ a x,At F a x/\y2 x u/\okE 20 a=true/\eqN 20 a d=true)
open Classical in
def zgB (a:At F b x)(r:y2 x u)(k:okE 20 b=true):zjk F d u=eqN 20 b d:=by
 unfold zjk
 cases h:eqN 20 b d with
 | true=>exact j0 ⟨b,x,a,r,k,h⟩
 | false =>
  refine j8 ?_
  rintro⟨j,y,g,f,i,c⟩
  have e:=f.inj r
  subst e
  rw[zlP 20 i k g a]at c
  rw[c]at h
  cases h
def za8:∀ {a:zk} {b:zx} {c:zt},AtL F a b->yl b c->a.all (okE 20)=true->c.any (zjk F d)=a.any λe=>eqN 20 e d
 | [],_,_,al,r,_=>by cases al.nil_inv;cases r;rfl
 | e::a,_,_,al,r,k=>by
  obtain⟨x,b,rfl,i,h⟩:=al.cons_inv
  cases r with
  | cons g f =>
   rw[u3c,r4]at k
   rw[u1G,u1G,zgB i g k.1,za8 h f k.2]
section
variable {X:Cx}
def rInD (a:Bool):R2:=λx y H Q=>∃ F d e c b,yE F H/\At F d x/\At F e y/\xL e=some c/\zog d c=some b/\Q (.bl (if a then !b else b)) H
def zhE {k:Nat}(P:x5 k X.A):OpR X (compareOp .In) (rInD false):=by
 intro D s σ H x y v u Q I M G h
 obtain⟨F,d,e,E,b,sm,K,J,L,o,q⟩:=h
 unfold zog at o
 split at o <;> cases o
 rename_i m
 have O:X.A.in1.units+20<cLine:=by have:=P.un;show X.A.units+1+20<cLine;omega
 have i:∀ {g:zx} {n:zt},AtL F E g->yl g n->∀ z∈n,SeqAt.EqAt X.A.in1 s z v (zjk F d z):=λ{g n} c r z f=>by
  obtain⟨j,N,rfl⟩:=n0 f
  obtain⟨R,B,l⟩:=c.nth r N
  have t:j<E.length:=by have:=c.length;have:=r.length;omega
  have C:=v8 m.2 t
  rw[zgB B l C]
  exact zgw I sm 20 C m.1 B K l M O
 cases e <;> cases L
 .obtain⟨p,g,rfl,w,c⟩:=J.tup_inv
  cases G
  obtain⟨a,r,A,f⟩:=I.tuple (SqT.of (sm _ _ w))
  refine SeqAt.in_tupleAt (zjk F d) A (λz f=>i c r z (by simpa using f)) ⟨.bl _,H,I,rfl,?_⟩
  rw[show a.toArray.any (zjk F d)=a.any (zjk F d) by simp,za8 c r m.2]
  exact q
 .obtain⟨p,g,rfl,w,c⟩:=J.lst_inv
  cases G
  obtain⟨a,r,A,f⟩:=I.list (SqL.of (sm _ _ w))
  refine SeqAt.in_listAt (zjk F d) A.isList (λz f=>i c r z (by simpa using f)) ⟨.bl _,H,I,rfl,?_⟩
  rw[show a.toArray.any (zjk F d)=a.any (zjk F d) by simp,za8 c r m.2]
  exact q
def zgE:OpD (rInD false) inD:=by
 intro F H x y d e z Q s g h c q
 obtain⟨a,i,j⟩:=u0.mp c
 obtain⟨b,f,rfl⟩:=u7.mp j
 exact⟨F,d,e,a,b,s,g,h,i,f,q F H _ (.refl s) .bl⟩
def eqG (d e:D):Option Bool:=match d,e with
 | .tup _,.tup _=>if okE 20 d=true/\okE 20 e=true then some (eqN 20 d e)else none
 | .lst _,.lst _=>if okE 20 d=true/\okE 20 e=true then some (eqN 20 d e)else none
 | _,_=>eqS d e
def vC (d e:D):Option D:=(eqG d e).map .bl
def zqr:R2:=λx y H Q=>∃ F d e,yE F H/\At F d x/\At F e y/\((∃ b a,d=.tup b/\e=.tup a)\/(∃ b a,d=.lst b/\e=.lst a))/\okE 20 d=true/\okE 20 e=true/\Q (.bl (eqN 20 d e)) H
def zpM {k:Nat}(hr:x5 k X.A):OpR X (compareOp .Eq) zqr:=by
 intro P s σ H x y v u Q I n o h
 obtain⟨F,d,e,sm,M,S,T,R,N,q⟩:=h
 have C:X.A.units+30<cLine:=by have:=hr.un;omega
 rcases T with ⟨g,f,rfl,rfl⟩ | ⟨g,f,rfl,rfl⟩
 .obtain⟨p,W,rfl,K,A⟩:=M.tup_inv
  obtain⟨O,V,rfl,G,bl⟩:=S.tup_inv
  cases n
  cases o
  obtain⟨i,r,B,Z⟩:=I.tuple (SqT.of (sm _ _ K))
  obtain⟨b,w,l,E⟩:=I.tuple (SqT.of (sm _ _ G))
  have a:i.toArray.size=g.length:=by rw[t8,<- r.length,A.length]
  have c:b.toArray.size=f.length:=by rw[t8,<- w.length,bl.length]
  refine SeqAt.eq_tupleAt (e:=λj=>eqN 19 (g.getD j .non) (f.getD j .non)) (show s.heap.IsTuple p i.toArray from B) (show s.heap.IsTuple O b.toArray from l) (by omega) (λj z t=>?_) ⟨.bl _,H,I,rfl,?_⟩
  .obtain⟨U,D,n⟩:=A.nth r (j:=j) (by simpa using z)
   obtain⟨Y,J,o⟩:=bl.nth w (j:=j) (by simpa using t)
   exact zgw I sm 19 (v8 R (by rw[<-a];exact z)) (v8 N (by rw[<-c];exact t)) D J (by simpa using n) (by simpa using o) (p5 (show X.A.units+20<=X.A.units+30 from u1r (by decide) _) C)
  .rw[a,c,<- zdX]
   exact q
 .obtain⟨p,W,rfl,K,A⟩:=M.lst_inv
  obtain⟨O,V,rfl,G,bl⟩:=S.lst_inv
  cases n
  cases o
  obtain⟨i,r,B,Z⟩:=I.list (SqL.of (sm _ _ K))
  obtain⟨b,w,l,E⟩:=I.list (SqL.of (sm _ _ G))
  have a:i.toArray.size=g.length:=by rw[t8,<- r.length,A.length]
  have c:b.toArray.size=f.length:=by rw[t8,<- w.length,bl.length]
  have L:eqN 20 (.lst g) (.lst f)=((List.range (min g.length f.length)).all (λj=>eqN 19 (g.getD j .non) (f.getD j .non))&&g.length == f.length):=by
   show((List.zipWith (eqN 19) g f).all id&&g.length == f.length)=_
   rw[zdX]
  by_cases m:g.length=f.length
  .refine SeqAt.eq_listAt (e:=λj=>eqN 19 (g.getD j .non) (f.getD j .non)) B.isList l.isList (by rw[a,c];exact m) (p5 (u0g _ 30) C) (λj z t=>?_) ⟨.bl _,H,I,rfl,?_⟩
   .obtain⟨U,D,n⟩:=A.nth r (j:=j) (by simpa using z)
    obtain⟨Y,J,o⟩:=bl.nth w (j:=j) (by simpa using t)
    exact zgw I sm 19 (v8 R (by rw[<-a];exact z)) (v8 N (by rw[<-c];exact t)) D J (by simpa using n) (by simpa using o) (p5 (show X.A.units+20<=X.A.units+30 from u1r (by decide) _) C)
   .rw[a]
    rw[L,<- m,u2X]at q
    simpa using q
  .refine SeqAt.eq_list_lengthsAt B.isList l.isList (by rw[a,c];simpa using m) (p5 (u0g _ 30) C) ⟨.bl _,H,I,rfl,?_⟩
   have:(g.length == f.length)=false:=by simpa using m
   rw[L,this,u1n]at q
   exact q
def znu:OpD zqr (λd e=>match d,e with
 | .tup _,.tup _=>if okE 20 d=true/\okE 20 e=true then some (.bl (eqN 20 d e))else none
 | .lst _,.lst _=>if okE 20 d=true/\okE 20 e=true then some (.bl (eqN 20 d e))else none
 | _,_=>none):=by
 intro F H x y d e z Q s c f a q
 dsimp only at a
 split at a
 .split at a <;> cases a
  rename_i b
  exact⟨F,_,_,s,c,f,.inl ⟨_,_,rfl,rfl⟩,b.1,b.2,q F H _ (.refl s) .bl⟩
 .split at a <;> cases a
  rename_i b
  exact⟨F,_,_,s,c,f,.inr ⟨_,_,rfl,rfl⟩,b.1,b.2,q F H _ (.refl s) .bl⟩
 .cases a
def zlv {k:Nat}(a:x5 k X.A):OpR X (compareOp .Eq) (λx y H Q=>rEq x y H Q\/zqr x y H Q):=zq5.or (zpM a)
def zgd:OpD (λx y H Q=>rEq x y H Q\/zqr x y H Q) vC:=by
 refine zdF (zcD zln znu) λd e z h=>?_
 obtain⟨b,a,rfl⟩:=u7.mp h
 unfold eqG at a
 split at a
 .split at a <;> cases a
  rename_i c
  show(Option.or none (if okE 20 _=true/\okE 20 _=true then some (D.bl (eqN 20 _ _))else none))=_
  rw[u9 c]
  rfl
 .split at a <;> cases a
  rename_i c
  show(Option.or none (if okE 20 _=true/\okE 20 _=true then some (D.bl (eqN 20 _ _))else none))=_
  rw[u9 c]
  rfl
 .show((eqD d e).or _)=_
  unfold eqD
  rw[a]
  rfl
def seq_walk {t:zx}{A:zI}{Q:yL}(I:Inv X d σ H s)(D:A.handled=none)(h:SqL X.K H a t\/SqT X.K H a t) (k:∀ (x:Addr) (c:zt) (B y:xx) (St:Nat->Heap->Prop) (f:zj),yl t c->Walks X.prog X.w A x B y c.length (λi v=>c[i]?=some v) St->St 0 f.heap->(∀ b∈B,b<f.heap.objs.size) ->
 (∀ (l:Heap) (tk:Nat),(∀ b o,b∉y->f.heap.get? b=some o->l.get? b=some o)->Inv X d σ H { f with heap:=l,toks:=tk })->Q (.ref x) f) :
 wpAny (model X.prog X.w) A (pyIter (.ref a)) Q E s:=by
 have g:∀ {o:Obj} {f:zj},f={ s with heap:=s.heap.push o }->∀ (l:Heap) (tk:Nat),(∀ b u,b∉[s.heap.objs.size]->f.heap.get? b=some u->l.get? b=some u)->Inv X d σ H { f with heap:=l,toks:=tk }:=λ{o f} e l tk kk=>by
  subst e
  exact I.kept (t':=tk) λb u z=>kk b u (by simpa using k7 (q4 z)) (u5 _ z)
 rcases h with h | h
 .obtain⟨c,q,p,F⟩:=I.list h
  have m:a<s.heap.objs.size:=by obtain⟨o,n,r,_⟩:=p;exact q4 r
  refine u00 p.isList ?_
  have W:=Walks.list (prog:=X.prog) (w:=X.w) (A:=A) D s.heap.objs.size a (k7 m) c.toArray
  refine k s.heap.objs.size c [s.heap.objs.size,a] [s.heap.objs.size] (λi h=>h.IsListIter s.heap.objs.size a i/\h.IsList a c.toArray) _ q (by simpa using W) ⟨⟨_,q7 _ rfl,rfl,rfl⟩,p.isList.at λo e=>u5 _ e⟩ (λb j=>?_) (g rfl)
  show b<(s.heap.push _).objs.size
  rw[u0J]
  rcases t6.mp j with rfl | j
  .exact u3j _
  .rw[q5.mp j];exact u1g m
 .obtain⟨c,q,p,F⟩:=I.tuple h
  have C:s.heap.IsTuple a c.toArray:=p
  have m:a<s.heap.objs.size:=by obtain⟨o,r,_⟩:=p;exact q4 r
  refine u0a C ?_
  have W:=Walks.tuple (prog:=X.prog) (w:=X.w) (A:=A) D s.heap.objs.size a (k7 m) c.toArray
  refine k s.heap.objs.size c [s.heap.objs.size,a] [s.heap.objs.size] (λi h=>h.IsTupleIter s.heap.objs.size a i/\h.IsTuple a c.toArray) _ q (by simpa using W) ⟨⟨_,q7 _ rfl,rfl,rfl⟩,C.at λo e=>u5 _ e⟩ (λb j=>?_) (g rfl)
  show b<(s.heap.push _).objs.size
  rw[u0J]
  rcases t6.mp j with rfl | j
  .exact u3j _
  .rw[q5.mp j];exact u1g m
end
end Dl
namespace Dl
open PySem L2
variable [KK]
omit [KK] in
def zje {a:List Bool}:(List.range a.length).all (λi=>a.getD i false)=a.all id:=by
 have:a=(List.range a.length).map λi=>a.getD i false:=by
  apply u2j
  .simp
  .intro i b c
   simp[b]
 conv=>rhs;rw[this]
 rw[u1w]
 rfl
omit [KK] in
def zjd:∀ (a:zc) (n:Nat),n<=a.length->preSum (λi=>a.getD i 0) n=(a.take n).sum:=by
 intro a n
 induction n with
 | zero=>intro _;simp[preSum]
 | succ n b =>
  intro h
  show preSum (λi=>a.getD i 0) n+a.getD n 0=_
  rw[b (by omega),u05,u2E]
  have:a[n]?=some a[n]:=by simp[show n<a.length by omega]
  simp[this]
section
variable {X:Cx}
omit [KK] in
def zms {b:List Bool}{i:Nat}(r:yl (b.map V.bl) a)(h:a[i]?=some v):v=.bool (b.getD i false):=by
 have d:=r.length
 have f:i<a.length:=(t5.mp h).1
 rw[u4]at d
 obtain⟨u,c,e⟩:=r.get (i:=i) (x:=.bl (b[i]'(by omega))) (by rw[q0];simp[show i<b.length by omega])
 rw[h]at c
 cases c
 cases e
 simp[show i<b.length by omega]
omit [KK] in
def vals_int {b:zc}{i:Nat}(r:yl (b.map V.int) a)(h:a[i]?=some v):∃ t,v=.int (b.getD i 0) t:=by
 have d:=r.length
 have f:i<a.length:=(t5.mp h).1
 rw[u4]at d
 obtain⟨u,c,e⟩:=r.get (i:=i) (x:=.int (b[i]'(by omega))) (by rw[q0];simp[show i<b.length by omega])
 rw[h]at c
 cases c
 obtain⟨t,rfl⟩:=e
 exact⟨t,by simp[show i<b.length by omega]⟩
def zhj (w:X.calm=true):Xl X (.builtin "all") (λe H Q=>∃ (p:Addr) (b:List Bool),e=[.ref p]/\(SqL X.K H p (b.map V.bl)\/SqT X.K H p (b.map V.bl))/\Q (.bl (b.all id)) H):=by
 intro d s σ H e A Q I r h
 obtain⟨p,b,rfl,hq,q⟩:=h
 obtain⟨u,rfl,x⟩:=zbN r
 cases x
 refine call_all_walk (seq_walk I (I.ok.hd w) hq λl g o n St B c W m z a=>?_)
 have f:=c.length
 rw[u4]at f
 refine⟨l,o,n,_,_,St,λi=>b.getD i false,rfl,W,m,λi v s Q E t j=>?_,λy tk k=>⟨.bl _,H,a y tk k,rfl,?_⟩⟩
 .rw[zms c t]
  exact l9 j
 .rw[<-f,zje]
  exact q
def zhv (j:X.calm=true):Xl X (.builtin "sum") (λf H Q=>∃ (p:Addr) (a:zc),f=[.ref p]/\(SqL X.K H p (a.map V.int)\/SqT X.K H p (a.map V.int))/\Q (.int a.sum) H):=by
 intro d s σ H f A Q I r h
 obtain⟨p,a,rfl,hq,q⟩:=h
 obtain⟨u,rfl,n⟩:=zbN r
 cases n
 refine call_sum_walkG (seq_walk I (I.ok.hd j) hq λm k y w St B e W t c b=>?_)
 have g:=e.length
 rw[u4]at g
 refine⟨m,y,w,_,_,St,λi=>a.getD i 0,rfl,W,t,c,λi v z=>vals_int e z,λo tk x l=>⟨.int a.sum,H,b o tk l,?_,q⟩⟩
 refine⟨x,?_⟩
 rw[<-g,zjd a _ (t7 _),u0u]
def maxL (a:zc):Int:=(a.max?).getD 0
omit [KK] in
theorem best_ge (f:Nat→Int):∀ k i,i≤k→f i≤f (argBest (fun i j=>decide (f j < f i)) k)∧argBest (fun i j=>decide (f j < f i)) k≤k:=by
  intro k
  induction k with
  | zero => intro i hi; have : i = 0 := by omega
            subst this;exact ⟨u0T _,t7 _⟩
  | succ k ih =>
    intro i hi
    unfold argBest
    obtain ⟨h1,h2⟩:=ih (min i k) (u3k _ _)
    split
    · rename_i hc
      have hc:f (argBest (fun i j=>decide (f j < f i)) k) < f (k+1):=k9 hc
      refine ⟨?_,t7 _⟩
      by_cases hik:i≤k
      · rw [u0Y hik] at h1;omega
      · have:i=k+1:=by omega
        subst this;exact u0T _
    · rename_i hc
      have hc:¬ f (argBest (fun i j=>decide (f j < f i)) k) < f (k+1):=fun z=>hc (j0 z)
      refine ⟨?_,by omega⟩
      by_cases hik:i≤k
      · rw [u0Y hik] at h1;exact h1
      · have:i=k+1:=by omega
        subst this;omega
omit [KK] in
def max_is {m:Int}(c:m∈a)(b:∀ x∈a,x<=m):maxL a=m:=by
 unfold maxL
 rw[u2b.mpr ⟨c,b⟩]
 rfl
omit [KK] in
def getD_mem {a:zc}{k:Nat}(h:k<a.length):a.getD k 0∈a:=by
 rw[j9,u8 h]
 exact u0s h
omit [KK] in
def getD_at {a:zc}{k:Nat}(h:k<a.length):a.getD k 0=a[k]:=by
 rw[j9,u8 h]
 rfl
def znR:zk->Option (List Bool)
 | []=>some []
 | .bl b::ds=>(znR ds).map (b::·)
 | _=>none
def zaa:zk->Option zc
 | []=>some []
 | .int b::ds=>(zaa ds).map (b::·)
 | _=>none
omit [KK] in
def zib:∀ {b:zk} {a:List Bool},znR b=some a->b=a.map .bl
 | [],a,h=>by cases h;rfl
 | d::b,a,h=>by
  cases d <;> try cases h
  obtain⟨e,c,rfl⟩:=u7.mp h
  rw[zib c]
  rfl
omit [KK] in
def ZH:∀ {b:zk} {a:zc},zaa b=some a->b=a.map .int
 | [],a,h=>by cases h;rfl
 | d::b,a,h=>by
  cases d <;> try cases h
  obtain⟨e,c,rfl⟩:=u7.mp h
  rw[ZH c]
  rfl
omit [KK] in
def zju (a:List Bool):znR (a.map .bl)=some a:=by
 induction a with
 | nil=>rfl
 | cons b r c=>show(znR (r.map .bl)).map (b::·)=_;rw[c];rfl
omit [KK] in
def Zj (a:zc):zaa (a.map .int)=some a:=by
 induction a with
 | nil=>rfl
 | cons b r c=>show(zaa (r.map .int)).map (b::·)=_;rw[c];rfl
def AtL.of_bls:∀ {a:List Bool} {b:zx},AtL H (a.map D.bl) b->b=a.map V.bl
 | [],_,h=>h.nil_inv
 | n::r,_,h=>by
  obtain⟨x,e,rfl,d,c⟩:=AtL.cons_inv (by simpa using h)
  rw[d.bl_inv,AtL.of_bls c]
  rfl
def zqs {α:Type}(a:zk->Option α)(g:α->Option D):YF
 | [d]=>((xL d).bind a).bind g
 | _=>none
def zif {k:zk}{α:Type}{m:zk->Option α}{g:α->Option D}(s:yE F H)(t:AtL F k i)(e:zqs m g k=some z) :
 ∃ p c a b,i=[.ref p]/\(SqL K H p a\/SqT K H p a)/\AtL F c a/\m c=some b/\g b=some z:=by
 unfold zqs at e
 split at e
 .obtain⟨b,q,l⟩:=u0.mp e
  obtain⟨c,o,h⟩:=u0.mp q
  obtain⟨x,r,rfl,j,n⟩:=t.cons_inv
  cases n.nil_inv
  rename_i d
  cases d <;> cases o
  .obtain⟨p,a,rfl,f,bl⟩:=j.tup_inv
   exact⟨p,_,a,b,rfl,.inr (SqT.of (s _ _ f)),bl,h,l⟩
  .obtain⟨p,a,rfl,f,bl⟩:=j.lst_inv
   exact⟨p,_,a,b,rfl,.inl (SqL.of (s _ _ f)),bl,h,l⟩
 .cases e
def znO:=zqs znR λa=>some (.bl (a.all id))
def zlU:=zqs zaa λa=>some (.int a.sum)
def znG:CaD (λb H Q=>∃ (p:Addr) (a:List Bool),b=[.ref p]/\(SqL K H p (a.map V.bl)\/SqT K H p (a.map V.bl))/\Q (.bl (a.all id)) H) znO:=by
 intro F H h i z Q s f e q
 obtain⟨p,g,b,a,rfl,hq,bl,c,d⟩:=zif (K:=K) s f e
 cases d
 rw[zib c]at bl
 rw[bl.of_bls]at hq
 exact⟨p,a,rfl,hq,q F H _ (.refl s) .bl⟩
def znz:CaD (λb H Q=>∃ (p:Addr) (a:zc),b=[.ref p]/\(SqL K H p (a.map V.int)\/SqT K H p (a.map V.int))/\Q (.int a.sum) H) zlU:=by
 intro F H i j z Q s f e q
 obtain⟨p,h,b,g,rfl,hq,bl,c,d⟩:=zif (K:=K) s f e
 cases d
 rw[ZH c]at bl
 rw[bl.of_ints]at hq
 exact⟨p,g,rfl,hq,q F H _ (.refl s) .int⟩
end
end Dl
namespace Dl
open PySem L2
variable [KK]
section
variable {X:Cx}{tg a b c e:Expr}{pos:Pos}
def zb0:zk->zk->zk
 | x::xs,y::ys=>.tup [x,y]::zb0 xs ys
 | _,_=>[]
omit [KK] in
def zeF:∀ (a b:zk) (i:Nat),(zb0 a b)[i]?=match a[i]?,b[i]? with | some x,some y=>some (.tup [x,y]) | _,_=>none
 | [],b,i=>by simp[zb0]
 | x::a,[],i=>by simp[zb0]
 | x::a,y::b,0=>by simp[zb0]
 | x::a,y::b,i+1=>by simpa [zb0]using zeF a b i
omit [KK] in
def WU:∀ (a b:zk),a.length<=b.length->(zb0 a b).length=a.length
 | [],b,_=>by simp[zb0]
 | x::a,[],h=>by simp at h
 | x::a,y::b,h=>by simp[zb0,WU a b (by simpa using h)]
def Yb (f:y4):y4:=fun ρ=>(f ρ).bind λc=>match c with
 | [d,e]=>(xL d).bind λa=>(xL e).bind λb=>if a.length<=b.length then some (zb0 a b)else none
 | _=>none
def zob (s:yE F H)(h:At F d v)(e:xL d=some j):∃ b p a,v=.ref p/\(∀ {F' H':Hp},yE F F'->yE F' H'->Sq b K H' p a)/\AtL F j a:=by
 cases d <;> cases e
 .obtain⟨p,a,rfl,i,g⟩:=h.tup_inv
  exact⟨false,p,a,rfl,λf c=>SqT.of (c _ _ (f _ _ i)),g⟩
 .obtain⟨p,a,rfl,i,g⟩:=h.lst_inv
  exact⟨true,p,a,rfl,λf c=>SqL.of (c _ _ (f _ _ i)),g⟩
def zof {k:Nat} {f:y4} (hg:Gl X "zip") (hm:X.mg "zip"=none) (ha:AD X [a,b] f) (hs:starEach [a,b] X.env=[(false,eval a X.env),(false,eval b X.env)]:=by rfl) (N:starEach [b] X.env=[(false,eval b X.env)]:=by rfl):ID X (.Tuple es k tp) (.Call (.Name "zip" p) [a,b] [] pos) (Yb f):=by
 obtain⟨t,pa,r⟩:=ha
 refine⟨_,zn4 hg hm zqk pa hs N,fun σ ρ F H ds R s va e q=>?_⟩
 obtain⟨as,e1,w⟩:=u0.mp e
 refine r σ ρ F H as _ s va e1 λF1 H1 v h a1=>?_
 split at w
 .obtain⟨x,r',rfl,ax,M⟩:=a1.cons_inv
  obtain⟨y,r',rfl,ay,M⟩:=M.cons_inv
  cases M.nil_inv
  obtain⟨xs,e3,n⟩:=u0.mp w
  obtain⟨ys,e4,c⟩:=u0.mp n
  clear w n e
  split at c <;> cases c
  rename_i Q
  obtain⟨b1,p1,A,rfl,m,W⟩:=zob (K:=X.K) h.fh ax e3
  obtain⟨b2,p2,E,rfl,j,bl⟩:=zob (K:=X.K) h.fh ay e4
  refine⟨b1,b2,p1,p2,A,E,rfl,m (yE.refl _) h.fh,j (yE.refl _) h.fh,q F1 H1 _ h λi F2 H2 o L=>?_⟩
  have J:=m o L
  have V:=j o L
  refine⟨λhl=>⟨A,J,by rw[hl,WU _ _ Q,W.length]⟩,λd g=>?_⟩
  rw[zeF]at g
  cases B:xs[i]? with
  | none=>rw[B]at g;cases g
  | some x =>
   cases I:ys[i]? with
   | none=>rw[B,I]at g;cases g
   | some y =>
    rw[B,I]at g
    cases g
    obtain⟨u,Y,au⟩:=W.get B
    obtain⟨Z,l,G⟩:=bl.get I
    refine⟨⟨A,E,u,Z,J,V,Y,l⟩,λz H3 hz=>?_⟩
    obtain⟨T,x',y',rfl,hT,rfl,P,O⟩:=hz
    have S:=P A J
    have U:=O E V
    rw[Y]at S
    rw[l]at U
    cases S
    cases U
    have C:=Gr.alloc L hT (.tup [u,Z])
    exact⟨_,C,.tup zq (.cons (au.mono (o.trans C.ff)) (.cons (G.mono (o.trans C.ff)) .nil))⟩
 .cases w
def xb (g:zf1)(f:y4)(b:ZK)(h:zT):zT:=fun ρ=>match (f (visG ρ)).bind g with
 | some ds=>ziS b h ds ρ
 | none=>.no
def zaS {b:Pos} {f:y4} {g:zT} (M:PassesOwn (model X.prog X.w) X.A X.env X.xe) (e:X.calm=true) (j:Gl X "range") (o:X.mg "range"=none) (B:AD X [a] f) (K:BD X tg m) (s:SDs X body g) (i:starEach [a] X.env=[(false,eval a X.env)]:=by rfl) (z:∀ x,foldedSetIterable (.Call (.Name "range" p) [a] [] pos) X.env x=pure x:=by intro _;rfl):SD X (.For tg (.Call (.Name "range" p) [a] [] pos) body [] b) (xb xD f m g):=by
 obtain⟨t,J,r⟩:=B
 obtain⟨G,L,A⟩:=K
 obtain⟨O,u,I⟩:=s
 refine⟨_,ziM M e (zb6 j o J i) L u z,λFb Hb F H ρ σ E d k=>?_⟩
 unfold xb at k
 cases h:(f (visG ρ)).bind xD with
 | none=>rw[h]at k;exact k.elim
 | some Q =>
  rw[h]at k
  obtain⟨y,v,c⟩:=u0.mp h
  refine r σ _ _ H y _ d.gh d.visG v λF1 H1 P C w=>?_
  have l:=d.grow (d.back C).1
  unfold xD at c
  split at c
  .split at c <;> cases c
   rename_i e
   obtain⟨x,N,rfl,q,n⟩:=w.cons_inv
   cases n.nil_inv
   exact⟨_,by rw[q.int_inv],(yu.mp e).1,(yu.mp e).2,zgo (zeM 0 _) A I l k⟩
  .cases c
def zjR {f:y4} {g:zT} (R:PassesOwn (model X.prog X.w) X.A X.env X.xe) (c:X.calm=true) (l:Gl X "range") (u:X.mg "range"=none) (K:AD X [a,b] f) (P:BD X tg q) (w:SDs X body g) (j:starEach [a,b] X.env=[(false,eval a X.env),(false,eval b X.env)]:=by rfl) (o:starEach [b] X.env=[(false,eval b X.env)]:=by rfl) (G:∀ x,foldedSetIterable (.Call (.Name "range" p) [a,b] [] pos) X.env x=pure x:=by intro _;rfl):SD X (.For tg (.Call (.Name "range" p) [a,b] [] pos) body [] d) (xb XA f q g):=by
 obtain⟨t,O,r⟩:=K
 obtain⟨M,Q,J⟩:=P
 obtain⟨S,z,N⟩:=w
 refine⟨_,ziM R c (zcK l u O j o) Q z G,λFb Hb F H ρ σ E i k=>?_⟩
 unfold xb at k
 cases h:(f (visG ρ)).bind XA with
 | none=>rw[h]at k;exact k.elim
 | some U =>
  rw[h]at k
  obtain⟨C,A,e⟩:=u0.mp h
  refine r σ _ _ H C _ i.gh i.visG A λF1 H1 T L B=>?_
  have n:=i.grow (i.back L).1
  unfold XA at e
  split at e
  .split at e <;> cases e
   rename_i c
   obtain⟨x,s,rfl,v,m⟩:=B.cons_inv
   obtain⟨y,s,rfl,I,m⟩:=m.cons_inv
   cases m.nil_inv
   exact⟨_,_,by rw[v.int_inv,I.int_inv],⟨(yu.mp c.1).1,(yu.mp c.1).2,(yu.mp c.2).1,(yu.mp c.2).2⟩,zgo (zeM _ _) J N n k⟩
  .cases e
end
def zm4 {w:World}{f:Addr}{k:Nat}:vU P w K c a CX0 k f b d (spD m λ_=>none):=by
 refine⟨λg H Q E h=>?_,λA outer s H args i g Q E _ _ _ _ h=>?_⟩
 .obtain⟨_,_,_,_,_,_,e,_⟩:=h
  cases e
 .obtain⟨_,_,_,_,_,_,e,_⟩:=h
  cases e
def zp2 (n:Nat)(g:YF->SE->Ctl):Nat->zk->Option D
 | 0=>λ_=>none
 | k+1=>fnD n (g (zp2 n g k))
def zqe {w:World}{f:Addr}{N c:zJ}{k0:Nat}{g:YF->SE->Ctl}(Fu:Fun K x a d f e)(S:wv N c (zp d))(h:∀ (k:Nat) (r:YF),vU P w K mg base CX0 (k0+k) f e c (spD c.length r)->∀ (b:Value) (A:zI) (outer:List Env) (s:zj) (H:Hp) (E:XK),x5 (k0+k) (A.deeper (PyProof.Rows.envOfC a (zp d) s.heap.objs.size f b))->SDs (Wl CX0 P w K mg base N a (zp d) f b A outer s H E).nox (yV d) (g r)) :
 ∀ n,vU P w K mg base CX0 (k0+n) f e c (spD c.length (zp2 N.length g n)):=by
 intro n
 induction n with
 | zero=>exact zm4
 | succ n i=>exact zdH Fu S λb A outer s H E j=>h n _ i b A outer s H E j
def ziL (K:zz):Sp:=λc H Q _=>∃ (a:Addr) (b:zc),c=[.ref a]/\SqL K H a (b.map V.int)/\b.length<=63/\∀ H',Q (.bl true) H'
end Dl
namespace Dl
open PySem L2
def zph {w:World}{f:Addr}{k:Nat}{p:YF}(F:vU P w K e b CX0 k f d ps (@spD ⟨K⟩ 1 p))(h:∀ c:zc,c.length<=63->p [.scr c]=some (.bl true)) :
 vU P w K e b CX0 k f d ps (ziL K):=by
 letI:KK:=⟨K⟩
 refine F.imp λl H Q E g=>?_
 obtain⟨a,c,rfl,hq,j,q⟩:=g
 refine⟨[.scr c],.bl true,H,rfl,yE.refl _,.cons ?_ .nil,h c j,λF' H' v _ i=>?_⟩
 .unfold At
  exact⟨a,rfl,hq⟩
 .rw[i.bl_inv]
  exact q H'
structure Def (K:zz) (mg:w1) (x:Str) (st:Stmt) (ps:zJ) (f:Addr) (fd:XQ):Prop where
 fn:Fun K x x st f fd
 bd:VQ K fd ps []
 at_:mg x=some (.ref f)
def Def.kp {f:Addr}(d:Def K c x b e f a):W.keepIn K (.ref f)=true:=d.fn.kp
inductive Ctl.w:Ctl->vc->vc->vc->(D->Prop)->Prop where
 | nx {ρ:SE} {n b k:vc} {r:D->Prop}:n ρ->Ctl.w (.nx ρ) n b k r
 | bk {ρ:SE} {n b k:vc} {r:D->Prop}:b ρ->Ctl.w (.bk ρ) n b k r
 | ct {ρ:SE} {n b k:vc} {r:D->Prop}:k ρ->Ctl.w (.ct ρ) n b k r
 | rt {d:D} {n b k:vc} {r:D->Prop}:r d->Ctl.w (.rt d) n b k r
section
variable {ρ:SE}{d:D}{n b k:vc}{r:D->Prop}
def Ctl.w.nxi (h:Ctl.w (.nx ρ) n b k r):n ρ:=by cases h;assumption
def Ctl.w.bki (h:Ctl.w (.bk ρ) n b k r):b ρ:=by cases h;assumption
def Ctl.w.cti (h:Ctl.w (.ct ρ) n b k r):k ρ:=by cases h;assumption
def Ctl.w.rti (h:Ctl.w (.rt d) n b k r):r d:=by cases h;assumption
def Ctl.w.noi (h:Ctl.w .no n b k r):False:=by cases h
end
abbrev noP:vc:=λ_=>False
section
variable {g h:zT}{ρ ρ':SE}{n b k:vc}{r:D->Prop}
def yn (e:(g ρ).w (fun ρ'=>(h ρ').w n b k r) b k r):(zy g h ρ).w n b k r:=by
 unfold zy
 cases a:g ρ with
 | nx ρ'=>rw[a]at e;exact e.nxi
 | bk ρ'=>rw[a]at e;exact .bk e.bki
 | ct ρ'=>rw[a]at e;exact .ct e.cti
 | rt d=>rw[a]at e;exact .rt e.rti
 | no=>rw[a]at e;exact e.noi.elim
def zo (e:g ρ=.nx ρ')(q:(h ρ').w n b k r):(zy g h ρ).w n b k r:=yn (by rw[e];exact .nx q)
def w3 (e:g ρ=.nx ρ')(q:n ρ'):(g ρ).w n b k r:=by rw[e];exact .nx q
def wC (e:g ρ=.rt d)(q:r d):(g ρ).w n b k r:=by rw[e];exact .rt q
def ZB {t:Yk}(e:t (visG ρ)=some c)(d:c=true->(g ρ).w n b k r)(a:c=false->(h ρ).w n b k r):(sIf t g h ρ).w n b k r:=by
 unfold sIf
 rw[e]
 cases c with
 | true=>exact d rfl
 | false=>exact a rfl
def zdW (e:zqB ρ i=ρ')(q:(g ρ').w n b k r):(sFz i g ρ).w n b k r:=by
 unfold sFz
 rw[e]
 exact q
theorem ziQ {l:ZK}(I:Nat->SE->Prop):∀ (c:zk) (j:Nat) (ρ:SE),I j ρ ->
 (∀ i d ρ,c[i]?=some d->I (j+i) ρ->∃ f,l d ρ=some f/\(g f).w (I (j+i+1)) n (I (j+i+1)) r)->(∀ ρ,I (j+c.length) ρ->n ρ)->(ziS l g c ρ).w n b k r
 | [],j,ρ,h0,_,fin=>.nx (fin ρ h0)
 | d::c,j,ρ,h0,step,fin=>by
  obtain⟨f,o,a⟩:=step 0 d ρ rfl h0
  unfold ziS
  rw[o]
  dsimp only
  have next:∀ ρ',I (j+1) ρ'->(ziS l g c ρ').w n b k r:=fun ρ' p=>ziQ I c (j+1) ρ' p
   (λi m ρ q h=>by
    have:=step (i+1) m ρ (by simpa using q) (by rw[show j+(i+1)=j+1+i by omega];exact h)
    rwa[show j+(i+1)+1=j+1+i+1 by omega]at this)
   (fun ρ h=>fin ρ (by rw[k4,show j+(c.length+1)=j+1+c.length by omega];exact h))
  cases e:g f with
  | nx ρ'=>rw[e]at a;exact next ρ' a.nxi
  | ct ρ'=>rw[e]at a;exact next ρ' a.cti
  | bk ρ'=>rw[e]at a;exact .nx a.bki
  | rt m=>rw[e]at a;exact .rt a.rti
  | no=>rw[e]at a;exact a.noi.elim
def ZN {f:y4}{c:ZK}{ds:zk}(I:Nat->SE->Prop)(e:f (visF ρ)=some ds)(j:I 0 ρ)
 (step:∀ i d ρ,ds[i]?=some d->I i ρ->∃ h,c d ρ=some h/\(g h).w (I (i+1)) n (I (i+1)) r) (fin:∀ ρ,I ds.length ρ->n ρ):(Zd f c g ρ).w n b k r:=by
 unfold Zd
 rw[e]
 exact ziQ I ds 0 ρ j (λi d ρ l a=>by rw[g8]at a ⊢;exact step i d ρ l a) (fun ρ a=>fin ρ (by rw[g8]at a;exact a))
def Ys {f:y4}{l:ZK}(I:Nat->SE->Prop)(e:(f (visG ρ)).bind m=some (X6 lo c))(p:I 0 ρ)(step:∀ (i:Nat) ρ,i<c->I i ρ->∃ o,l (.int (lo+i)) ρ=some o/\(g o).w (I (i+1)) n (I (i+1)) r)(fin:∀ ρ,I c ρ->n ρ):(xb m f l g ρ).w n b k r:=by
 unfold xb
 rw[e]
 refine ziQ I (X6 lo c) 0 ρ p (λi d ρ a h=>?_) (fun ρ h=>fin ρ ?_)
 .rw[g8]at h ⊢
  unfold X6 at a
  rw[q0]at a
  by_cases j:i<c
  .rw[u0y j]at a
   cases a
   exact step i ρ j h
  .rw[u0E (by simpa using j)]at a
   cases a
 .rw[g8]at h
  rwa[show(X6 lo c).length=c by unfold X6;simp]at h
def zor {f e g:vc}{a:D->Prop}{c:Ctl}(q:c.w n b k r)(l:∀ ρ,n ρ->f ρ)(h:∀ ρ,b ρ->e ρ)(i:∀ ρ,k ρ->g ρ)(j:∀ d,r d->a d):c.w f e g a:=by
 cases q with
 | nx q=>exact .nx (l _ q)
 | bk q=>exact .bk (h _ q)
 | ct q=>exact .ct (i _ q)
 | rt q=>exact .rt (j _ q)
def zaW {t:Yk}(I:vc)(μ:SE->Nat)(step:∀ ρ,I ρ->∃ c,t (visG ρ)=some c/\(c=true->(g ρ).w (fun ρ'=>I ρ'/\μ ρ'<μ ρ) n (fun ρ'=>I ρ'/\μ ρ'<μ ρ) r)/\(c=false->n ρ)):∀ (a:Nat) (ρ:SE),I ρ->μ ρ<a->(YJ t g a ρ).w n b k r
 | 0,ρ,_,hf=>by omega
 | a+1,ρ,hI,hf=>by
  obtain⟨c,e,h,f⟩:=step ρ hI
  unfold YJ
  rw[e]
  cases c with
  | false=>exact .nx (f rfl)
  | true =>
   have q:=h rfl
   dsimp only
   cases d:g ρ with
   | nx ρ'=>rw[d]at q;exact zaW I μ step a ρ' q.nxi.1 (by have:=q.nxi.2;omega)
   | ct ρ'=>rw[d]at q;exact zaW I μ step a ρ' q.cti.1 (by have:=q.cti.2;omega)
   | bk ρ'=>rw[d]at q;exact .nx q.bki
   | rt i=>rw[d]at q;exact .rt q.rti
   | no=>rw[d]at q;exact q.noi.elim
end
def YE {m:Nat}{g:zT}{c:zk}(e:c.map .v++List.replicate (m-c.length) .no=ρ)(q:(g ρ).w (λ_=>d=.non) noP noP (λb=>b=d)):fnD m g c=some d:=by
 unfold fnD
 rw[e]
 cases a:g ρ with
 | nx f=>rw[a]at q;rw[show d=.non from q.nxi]
 | rt b=>rw[a]at q;rw[show b=d from q.rti]
 | bk _=>rw[a]at q;exact q.bki.elim
 | ct _=>rw[a]at q;exact q.cti.elim
 | no=>rw[a]at q;exact q.noi.elim
def Xj {i:Nat}{f:zQ}{ρ:SE}{ds:zk}(e:vEv m f ρ=some d)(a:ρ[i]?=some (.o ds))(c:ds.length<=1000):Xe m i f ρ=.nx (ρ.set i (.o (ds++[d]))):=by
 unfold Xe
 rw[e,a]
 show(match (if decide (ds.length<sizeLine)=true then some (ρ.set i (.o (ds++[d])))else none)with | some b=>Ctl.nx b | none=>Ctl.no)=_
 rw[u9 (j0 (Y5 c))]
def xV {b:zcI}{t:Yk}{f:zQ}{α:Type}(c:α->D)(y:α->D):∀ (a:List α),(∀ x∈a,∃ own,b (c x)=some own/\t (own++ρ)=some true/\f (own++ρ)=some (y x))->lcD b t f ρ (a.map c)=some (a.map y)
 | [],_=>rfl
 | x::a,h=>by
  obtain⟨own,i,d,e⟩:=h x l5
  show lcD b t f ρ (c x::a.map c)=_
  unfold lcD
  rw[i]
  simp only[j7,d,u14,e,xV c y a λz g=>h z (o7 _ g)]
  rfl
def xg {b:zcI}{t:Yk}{f:zQ}{α:Type}(c:α->D)(p:α->Bool)(y:α->D):∀ (a:List α),(∀ x∈a,∃ own,b (c x)=some own/\t (own++ρ)=some (p x)/\(p x=true->f (own++ρ)=some (y x)))->lcD b t f ρ (a.map c)=some ((a.filter p).map y)
 | [],_=>rfl
 | x::a,h=>by
  obtain⟨own,k,g,i⟩:=h x l5
  have e:=xg c p y a λz j=>h z (o7 _ j)
  show lcD b t f ρ (c x::a.map c)=_
  unfold lcD
  rw[k]
  simp only[j7,g]
  cases d:p x with
  | false =>
   rw[t9 u6,e,u3i,t9 (by rw[d];exact u6)]
  | true =>
   rw[u9 rfl,i d,e,u3i,u9 d]
   rfl
mutual
def noS:D->Bool
 | .tup ds=>zlK ds
 | .lst ds=>zlK ds
 | .scr _=>false
 | _=>true
def zlK:zk->Bool
 | []=>true
 | d::ds=>noS d&&zlK ds
end
def Zp:∀ {ds:zk} {i:Nat} {d:D},zlK ds=true->ds[i]?=some d->noS d=true
 | [],_,_,_,h=>by simp at h
 | d::ds,i,e,h,he=>by
  unfold zlK at h
  rw[r4]at h
  cases i with
  | zero=>simp at he;subst he;exact h.1
  | succ i=>exact Zp h.2 (by simpa using he)
def yN {n:Nat}(h:n<=1000):lim n=true:=by
 unfold lim
 exact j0 (u0k (Y5 h))
def Yq (a:Int)(n:Nat):(X6 a n).length=n:=by unfold X6;simp
end Dl
namespace Dl
open PySem L2
abbrev Pr:=Int × Int
def prD (t:Pr):D:=.tup [.int t.1,.int t.2]
def zqw:D->Option Pr
 | .tup [.int a,.int b]=>some (a,b)
 | _=>none
def VF:zk->Option (List Pr)
 | []=>some []
 | d::ds=>(zqw d).bind λt=>(VF ds).map (t::·)
def znb {t:Pr}(h:zqw d=some t):d=prD t:=by
 unfold zqw at h
 split at h
 .cases h;rfl
 .cases h
def zel:∀ {b:zk} {a:List Pr},VF b=some a->b=a.map prD
 | [],a,h=>by cases h;rfl
 | d::b,a,h=>by
  unfold VF at h
  obtain⟨t,e,c⟩:=u0.mp h
  obtain⟨g,f,rfl⟩:=u7.mp c
  rw[znb e,zel f]
  rfl
def W6 (a:List Pr):VF (a.map prD)=some a:=by
 induction a with
 | nil=>rfl
 | cons t a b =>
  show(zqw (prD t)).bind (λu=>(VF (a.map prD)).map (u::·))=_
  rw[b]
  rfl
def znM (a b:Pr):Bool:=!OwnSort.bltP b a
def Xb (a:List Pr):List Pr:=a.mergeSort znM
def leI (a b:Int):Bool:=decide (a<=b)
def za3 (a:zc):zc:=a.mergeSort leI
def zan:OwnSort.bltP b a=false↔znM a b=true:=by unfold znM;simp
def vv:znM a b=true↔a.1<b.1\/(a.1=b.1/\a.2<=b.2):=by
 rw[<-zan]
 unfold OwnSort.bltP
 rw[p6]
 omega
def XU {f d:List Pr}(p:d.Perm f)(h:d.Pairwise λa b=>OwnSort.bltP b a=false):d=Xb f:=by
 refine u1v (le:=λa b=>znM a b=true) (λa b _ _ g e=>?_) (h.imp λx=>zan.mp x) ?_ (p.trans (u2D _ _).symm)
 .rw[vv]at g e
  exact u2v (by omega) (by omega)
 .exact u1K (λa b c g e=>by rw[vv]at *;omega) (λa b=>by rw[u1F,vv,vv];omega) _
def zai {g e:zc}(p:e.Perm g)(h:e.Pairwise (·<=·)):e=za3 g:=by
 refine u1v (le:=λa b=>leI a b=true) (λa b _ _ f d=>?_) (h.imp λx=>j0 x) ?_ (p.trans (u2D _ _).symm)
 .unfold leI at f d
  rw[j3]at f d
  omega
 .exact u1K (λa b c f d=>by unfold leI at *;rw[j3]at *;omega) (λa b=>by unfold leI;rw[u1F,j3,j3];omega) _
def YG:zf1
 | [.lst ds]=>if ds.length<64 then match VF ds with
  | some a=>some ((Xb a).map prD)
  | none=>match zaa ds with
   | some b=>some ((za3 b).map .int)
   | none=>none
  else none
 | _=>none
variable [KK]
section
variable {X:Cx}{e:Expr}{pos:Pos}
def At.pr_inv {F:Hp}{t:Pr}(h:At F (prD t) v):∃ a,v=.ref a/\F a=some (.tup [.int t.1,.int t.2]):=by
 obtain⟨a,f,rfl,d,b⟩:=h.tup_inv
 obtain⟨x,r,rfl,c,b⟩:=b.cons_inv
 obtain⟨y,r,rfl,e,b⟩:=b.cons_inv
 cases b.nil_inv
 cases c.int_inv
 cases e.int_inv
 exact⟨a,rfl,d⟩
def zcQ (hc:X.calm=true):Xl X (.builtin "sorted") (λxs H Q=>∃ F p ys ds y,xs=[.ref p]/\yE F H/\H p=some (.lst ys)/\AtL F ds ys/\YG [.lst ds]=some y/\∀ l zs,H l=none->AtL F y zs->Q (.ref l) (upd H l (.lst zs))):=by
 intro T s σ H xs us Q I r h
 obtain⟨F,p,ys,ds,y,rfl,sm,hp,Z,C,q⟩:=h
 obtain⟨u,rfl,ru⟩:=zbN r
 cases ru
 obtain⟨c,Y,pl,hz⟩:=I.list (SqL.of hp)
 have k:c.length=ds.length:=by rw[<-Y.length,Z.length]
 unfold YG at C
 dsimp only at C
 split at C <;> try cases C
 rename_i P
 have fin:∀ (zs:zx) (e:zt),zs.length<64->yl zs e->AtL F y zs->EP X T σ Q (.ref (s.heap.objs.size+1)) { s with heap:=PyProof.Rows.sortedAll s.heap c e.toArray }:=λzs e m rz az=>by
  have hn:H (s.heap.objs.size+1)=none:=I.hok.fresh (u3d _)
  obtain⟨ep,he⟩:=PyProof.Rows.sortedAll_at s.heap c e.toArray
  refine⟨.ref (s.heap.objs.size+1),upd H (s.heap.objs.size+1) (.lst zs),I.laid (t':=s.toks) (λb o z=>PyProof.Rows.sortedAll_old z) (u3d _) ?_,rfl,q _ zs hn az⟩
  exact⟨u0k (Y5 (by omega)),e,ep,rz,he⟩
 split at C
 .rename_i D a4
  cases C
  have L:=zel a4
  subst L
  have B:∀ {v:Value},v∈c->∃ a t,v=.ref a/\t∈D/\F a=some (.tup [.int t.1,.int t.2])/\OwnSort.TP s.heap v t:=λ{v} S=>by
   obtain⟨j,hj,rfl⟩:=n0 S
   have W:j<D.length:=by rw[u4]at k;omega
   obtain⟨x,hx,ax⟩:=Z.get (i:=j) (d:=prD D[j]) (by rw[q0];simp[W])
   obtain⟨a,rfl,N⟩:=ax.pr_inv
   obtain⟨v,S,K⟩:=Y.get hx
   have e1:c[j]?=some c[j]:=by simp[hj]
   rw[S]at e1
   cases e1
   have e2:c[j]=.ref a:=K
   refine⟨a,D[j],e2,u0s W,N,?_⟩
   obtain⟨us,ru,⟨o,ho,G,n,hd⟩,_⟩:=I.tuple (SqT.of (sm _ _ N))
   obtain⟨u1,u2,rfl,r1,r2⟩:=zfD ru
   obtain⟨t1,rfl⟩:=r1
   obtain⟨t2,rfl⟩:=r2
   exact⟨a,o,n,t1,t2,e2,ho,G,hd⟩
  refine OwnSort.own_sorted pl.isList (λv S=>let ⟨a,t,_,_,_,E⟩:=B S;⟨t,E⟩) (by omega) λO pm ri=>?_
  obtain⟨us,l1,l2,l3⟩:=ri
  have a7:O.toList.length=D.length:=by rw[pm.length_eq,k,u4]
  -- the values' addresses
  have U:∀ (e:zt) (f:List Pr),e.length=f.length->(∀ w∈e,w∈c)->(∀ (i:Nat) v t,e[i]?=some v->f[i]?=some t->OwnSort.TP s.heap v t)->∃ zs:zx,yl zs e/\AtL F (f.map prD) zs:=by
   intro e
   induction e with
   | nil =>
    intro f m _ _
    cases f with
    | nil=>exact⟨[],.nil,.nil⟩
    | cons _ _=>simp at m
   | cons w e ih =>
    intro f m hm E
    cases f with
    | nil=>simp at m
    | cons t f =>
     obtain⟨zs,M,z2⟩:=ih f (by simpa using m) (λw' a3=>hm w' (o7 _ a3)) (λi v t J A=>E (i+1) v t (by simpa using J) (by simpa using A))
     obtain⟨a,t',rfl,_,N,a0⟩:=B (hm w l5)
     have et:t'=t:=a0.uniq (E 0 _ t rfl rfl)
     subst et
     exact⟨.ref a::zs,.cons rfl M,.cons (.tup N (.cons .int (.cons .int .nil))) z2⟩
  obtain⟨zs,M,z2⟩:=U O.toList us l1 (λw hw=>pm.mem_iff.mp hw) l2
  have g:us.Perm D:=by
   -- by the keys of the values
   have kv:∀ (e:zt) (f:List Pr),e.length=f.length->(∀ (i:Nat) v t,e[i]?=some v->f[i]?=some t->OwnSort.TP s.heap v t)->f=e.map λv=>(OwnSort.keyP s.heap v).getD (0,0):=by
    intro e
    induction e with
    | nil=>intro f m _;cases f with
     | nil=>rfl
     | cons _ _=>simp at m
    | cons w e ih =>
     intro f m E
     cases f with
     | nil=>simp at m
     | cons t f =>
      rw[r6,OwnSort.keyP_of (E 0 w t rfl rfl),<- ih f (by simpa using m) λi v t J A=>E (i+1) v t (by simpa using J) (by simpa using A)]
      rfl
   rw[kv _ _ l1 l2,kv c D (by rw[k,u4]) λi v t J A=>?_]
   .exact pm.map _
   .obtain⟨x,hx,ax⟩:=Z.get (i:=i) (d:=prD t) (by rw[q0,A];rfl)
    obtain⟨a,rfl,N⟩:=ax.pr_inv
    obtain⟨v',R,K⟩:=Y.get hx
    rw[J]at R
    cases R
    obtain⟨a5,a2,⟨o,ho,G,n,hd⟩,_⟩:=I.tuple (SqT.of (sm _ _ N))
    obtain⟨u1,u2,rfl,r1,r2⟩:=zfD a2
    obtain⟨t1,rfl⟩:=r1
    obtain⟨t2,rfl⟩:=r2
    exact⟨a,o,n,t1,t2,K,ho,G,hd⟩
  have e3:=XU g l3
  rw[e3]at z2
  have:=fin zs O.toList (by rw[M.length];rw[u4]at P;omega) M z2
  simpa using this
 .split at C <;> try cases C
  rename_i ns a1
  have L:=ZH a1
  subst L
  have hI:PyProof.Rows.IntsAre c ns:=XI (by rw[<-Z.of_ints];exact Y)
  refine PyProof.Rows.sorted_ints pl.isList hI (by omega) λO a6 J A h3=>?_
  have e3:=zai A h3
  subst e3
  have M:yl ((za3 ns).map V.int) O.toList:=zcc J
  have:=fin ((za3 ns).map V.int) O.toList (by rw[u4,A.length_eq];rw[u4]at P;omega) M (.ints _)
  simpa using this
def W4 {f:y4} (u:X.calm=true) (c:Gl X "sorted") (j:X.mg "sorted"=none) (v:AD X [e] f) (B:starEach [e] X.env=(false,eval e X.env)::starEach [] X.env:=by rfl) (g:(backTo pos (starEach [] X.env)).any (·.1)=false:=by rfl):FL X (.Call (.Name "sorted" p) [e] [] pos) (fFn YG f):=by
 obtain⟨t,y,A⟩:=v
 refine⟨_,yy (zcQ u) c j Xm y (by decide) (by decide) B g,fun σ ρ F H z Q s m e q=>?_⟩
 obtain⟨E,n,h⟩:=u0.mp e
 refine A σ ρ F H E _ s m n λF1 H1 I b o=>?_
 have a:=h
 unfold YG at a
 split at a
 .obtain⟨x,r,rfl,k,i⟩:=o.cons_inv
  cases i.nil_inv
  obtain⟨p,G,rfl,C,bl⟩:=k.lst_inv
  exact⟨F1,p,G,_,z,rfl,b.fh,b.fh _ _ C,bl,h,λl zs d w=>q _ _ _ _ (b.trans (Gr.hide b.fh d _)) (VI b d) (b.fh.free d) zq w⟩
 .cases a
end
end Dl
namespace L2
open PySem PySem.Spec PyProof.Rows
section
variable {X:Cx}
def ziN:V->zx->Hp->VK->Prop:=λx b H Q=>∃ l a i y,x=.ref l/\b=[.int i,y]/\H l=some (.lst a)/\a.length<sizeLine/\0<=i/\i<2^63/\Q .non (upd H l (.lst (a.take i.toNat++y::a.drop i.toNat)))
def zmu (a:zt)(u:Value)(x:Int)(h:0<=x) :
 (λb:zP=>have k:=if x<0 then (x+((b.size:Nat):Int)).toNat else min x.toNat b.size;(b.extract 0 k).push u++b.extract k) a.toArray=(a.take x.toNat++u::a.drop x.toNat).toArray:=by
 have f:¬ x<0:=by omega
 apply Array.ext'
 simp only[t9 f]
 by_cases c:x.toNat<=a.length
 .simp[u0Y c]
  exact u1U (by rw[u0O];exact t7 _)
 .have e:min x.toNat a.length=a.length:=by omega
  have g:a.take x.toNat=a:=u1U (by omega)
  have d:a.drop x.toNat=[]:=List.drop_eq_nil_of_le (by omega)
  simp[e,g,d]
def zjh:MtM X "list.insert" ziN:=by
 intro d s σ H x A v p Q I g j h
 obtain⟨l,B,i,y,rfl,rfl,f,D,m,o,q⟩:=h
 cases g
 obtain⟨u,w,rfl,k,c⟩:=j.two
 obtain⟨t,rfl⟩:=k
 obtain⟨z,a,n,r,C,e⟩:=I.lstM f
 have b:¬(!Builtin.List.listFitsIndex i)=true:=by
  have:Builtin.List.listFitsIndex i=true:=fitsIndex_both (by omega) o
  rw[this]
  exact u6
 refine u2x F.slot_list_insert ⟨_,e,rfl⟩ F.entry_list_insert (F.args_list_insert_3 _ _ _) (AutoListH.list_insert_list_int_val_1 l a.toArray n i t w b (by rw[t8];omega)) ⟨e,?_⟩
 refine⟨.non,_,I.lset (its':=a.take i.toNat++w::a.drop i.toNat) f e (zmu a w i m) ((r.take _).append (.cons c (r.drop _))) ?_,rfl,q⟩
 rw[j5,k4,u0t,u0O]
 omega
end
end L2
namespace Dl
open PySem L2
section
variable [KK]{X:Cx}{a e k:Expr}{pos:Pos}
def zn0 (a:zk)(i:Int)(d:D):zk:=a.take i.toNat++d::a.drop i.toNat
def zn1 (m:Bool)(i:Nat)(a f:zQ):zT:=fun ρ=>match (vEv m a ρ).bind λb=>(vEv m f ρ).bind λd=>match ρ[i]?,b with
 | some (.o ds),.int j=>if (decide (ds.length<sizeLine)&&decide (0<=j/\j<2^63))=true then some (ρ.set i (.o (zn0 ds j d)))else none
 | _,_=>none with
 | some c=>.nx c
 | none=>.no
def zpS {f:zQ} (V:PE X a (zdt i)) (Q:ED X k G) (he:ED X e f) (hp:∀ {ta:TE} {t:TA},PE X a ta->PA X [k,e] t->PE X (.Call (.Attribute a "insert" p) [k,e] [] c) (tBM X.K "list" ziN ta t)) (K:swapsWith (.Call (.Attribute a "insert" p) [k,e] [] c) none pos.line X.env=pure false:=by rfl) (n:starEach [k,e] X.env=(false,eval k X.env)::starEach [e] X.env:=by rfl) (C:starEach [e] X.env=(false,eval e X.env)::starEach [] X.env:=by rfl):SD X (.Expr (.Call (.Attribute a "insert" p) [k,e] [] c) pos) (zn1 m i G f):=by
 obtain⟨tk,R,P⟩:=Q
 obtain⟨t,U,M⟩:=he
 refine⟨_,Vz (hp V (zu R (zu U yJ C) n)) K,λFb Hb F H ρ σ E B r=>?_⟩
 unfold zn1 at r
 cases h:(vEv m G ρ).bind λA=>(vEv m f ρ).bind λd=>match ρ[i]?,A with
  | some (.o w),.int j=>if (decide (w.length<sizeLine)&&decide (0<=j/\j<2^63))=true then some (ρ.set i (.o (zn0 w j d)))else none
  | _,_=>none with
 | none=>rw[h]at r;exact r.elim
 | some ρ' =>
  rw[h]at r
  obtain⟨A,T,b⟩:=u0.mp h
  obtain⟨d,O,b⟩:=u0.mp b
  cases n:ρ[i]? with
  | none=>rw[n]at b;cases b
  | some N =>
   rw[n]at b
   cases N with
   | no=>cases b
   | v _=>cases b
   | m _ _ _=>cases b
   | o w =>
    cases A with
    | int j =>
     dsimp only at b
     split at b <;> cases b
     rename_i I
     rw[r4]at I
     have L:=k9 I.2
     obtain⟨q,Y,J,f2,f3,f4,f5⟩:=B.owns i w n
     refine⟨_,J,.inl ⟨rfl,Y,SqL.of f4⟩,?_⟩
     refine P.at B T λF0 H0 vk S Z=>?_
     have u:=B.grow S
     refine M.at u O λF' H' v g W=>?_
     have s:=u.grow g
     obtain⟨q2,y,x,_,_,z,l⟩:=s.owns i w n
     rw[J]at x
     cases x
     cases Z.int_inv
     refine⟨q,y,j,v,rfl,rfl,z,by rw[l.length];exact k9 I.1,L.1,L.2,?_⟩
     exact r _ _ σ (s.mutate n J ((l.take _).append (.cons W (l.drop _))))
    | _=>cases b
end
def zoF {i:Nat}{f:zQ}{ρ:SE}{ds:zk}{k:Int}(b:vEv m a ρ=some (.int k))(j:vEv m f ρ=some d)(c:ρ[i]?=some (.o ds))(g:ds.length<=1000)(h:0<=k)(n:k<=1000):zn1 m i a f ρ=.nx (ρ.set i (.o (zn0 ds k d))):=by
 unfold zn1
 rw[b,j,c]
 show(match (if (decide (ds.length<sizeLine)&&decide (0<=k/\k<2^63))=true then some (ρ.set i (.o (zn0 ds k d)))else none)with | some e=>Ctl.nx e | none=>Ctl.no)=_
 have l:ds.length<sizeLine:=Y5 g
 rw[u9 (by rw[j0 l,j0 ⟨h,by omega⟩];rfl)]
end Dl
namespace Dl
open PySem L2
variable [KK]
def zqt (m:Nat)(p:zf1):Sp:=λd H Q _=>∃ a b F,a.length=m/\yE F H/\AtL F a d/\p a=some b/\∀ F' H' q c,Gr F H F' H'->H q=none->F' q=none->H' q=some (.lst c)->AtL F' b c->Q (.ref q) H'
def SDO (X:Cx)(a:Xp)(g:zT)(i:Nat):Prop:=∃ t,PSs X a t/\∀ (Fb Hb F H:Hp) (ρ:SE) (σ:St) (E:zbz),Rl Fb Hb F H ρ σ->∀ (b:SE) (c:zk),g ρ=.nx b->b[i]?=some (.o c) ->
 (∀ F' H' q d,Gr Fb Hb F' H'->Hb q=none->F' q=none->H' q=some (.lst d)->AtL F' c d->E.rt (.ref q) H')->t E σ H
section
variable {X:Cx}{st:Stmt}{sts:Xp}{a e:Expr}{pos:Pos}
def zeJ {g:zT}(v:SD X st g)(c:SDO X sts h i):SDO X (st::sts) (zy g h) i:=by
 obtain⟨t,p,r⟩:=v
 obtain⟨u,j,f⟩:=c
 refine⟨_,wH p j,λFb Hb F H ρ σ E n l m a q k=>?_⟩
 refine r Fb Hb F H ρ σ { E with nx:=u E } n ?_
 unfold zy at a
 cases e:g ρ with
 | nx o =>
  rw[e]at a
  exact λF' H' s b=>f Fb Hb F' H' o s E b l m a q k
 | rt d=>rw[e]at a;cases a
 | bk d=>rw[e]at a;cases a
 | ct d=>rw[e]at a;cases a
 | no=>rw[e]at a;cases a
end
noncomputable def zoh (n:Nat)(g:zT)(i:Nat)(a:zk):Option zk:=match g (a.map .v++List.replicate (n-a.length) .no) with
 | .nx ρ=>match ρ[i]? with
  | some (.o es)=>some es
  | _=>none
 | _=>none
def zoB {w:World}{f:Addr}{N ps:zJ}{k:Nat}{g:zT}(Fu:Fun K x b n f z)(S:wv N ps (zp n))(G:∀ (c:Value) (A:zI) (outer:List Env) (s:zj) (H:Hp) (E:XK),x5 k (A.deeper (PyProof.Rows.envOfC b (zp n) s.heap.objs.size f c))->SDO (Wl CX0 P w K B j N b (zp n) f c A outer s H E).nox (yV n) g i) :
 vU P w K B j CX0 (k+1) f z ps (zqt ps.length (zoh N.length g i)):=by
 refine Fu.ok S (λO H Q E h=>?_) λc A outer s H O Q E W h=>?_
 .obtain⟨y,d,F,C,_,a,_⟩:=h
  rw[a.length];exact C
 .obtain⟨y,M,F,C,sm,a,e,q⟩:=h
  obtain⟨t,p,r⟩:=G c A outer s H E W
  unfold zoh at e
  cases l:g (y.map .v++List.replicate (N.length-y.length) .no) with
  | nx ρ =>
   rw[l]at e
   dsimp only at e
   cases u:ρ[i]? with
   | none=>rw[u]at e;cases e
   | some I =>
    rw[u]at e
    cases I with
    | no=>cases e
    | v _=>cases e
    | m _ _ _=>cases e
    | o T =>
     cases e
     exact⟨t,p,r F H F H _ _ _ (Ww sm a) ρ M l u λF' H' U R g J D L V=>q F' H' U R g J D L V⟩
  | rt X=>rw[l]at e;cases e
  | bk ρ=>rw[l]at e;cases e
  | ct ρ=>rw[l]at e;cases e
  | no=>rw[l]at e;cases e
def zoj {w:World}{f:Addr}{k:Nat}{p:zf1}(F:vU P w K i a CX0 k f h l (zqt m p)):vU P w K i a CX0 k f h l (spD m λc=>(p c).map .lst) :=
 F.imp λB H Q E ⟨c,d,F',t,n,o,y,z⟩=>by
  obtain⟨x,r,rfl⟩:=u7.mp y
  exact⟨c,x,F',t,n,o,r,λF2 H2 q C g s j v A=>z _ _ _ (g.show s j v) (At.lst zq (A.mono (λb u e=>by rw[zn (zg e j)];exact e)))⟩
def zer (m:Nat)(p:zf1)(f:y4):y4:=fun ρ=>(f ρ).bind λa=>if a.length=m then p a else none
def znm {X:Cx} {k:Nat} {f:Addr} {w:Pos} (F:vU X.prog X.w X.K X.mg X.base CX0 k f l n (zqt m p)) (C:x5 k X.A) (N:Gl X x) (v:X.mg x=some (.ref f)) (y:W.keepIn X.K (.ref f)=true) (G:VQ X.K l n []) (M:AD X (e::a) o) (i:(x == ("__debug__":Str))=false:=by decide) (P:starEach (e::a) X.env=(false,eval e X.env)::starEach a X.env:=by rfl) (j:(backTo b (starEach a X.env)).any (·.1)=false:=by rfl) :
 FL X (.Call (.Name x w) (e::a) [] b) (zer m p o):=by
 obtain⟨t,B,r⟩:=M
 refine⟨_,zc9 F C N v y G .nil zo0 B i P j,fun σ ρ F0 H d Q s I e q=>?_⟩
 obtain⟨u,J,c⟩:=u0.mp e
 split at c <;> try cases c
 rename_i O
 refine r σ ρ F0 H u _ s I J λF1 H1 T h L=>?_
 refine⟨u,d,F1,O,h.fh,by rw[f6];exact L,c,λF' H' R A g K E z S=>q F' H' R A (h.trans g) (VI h K) E z S⟩
omit [KK] in
def zoa {m:Nat}{g:zT}{i:Nat}{c f:zk}(e:c.map .v++List.replicate (m-c.length) .no=ρ)(q:(g ρ).w (λb=>b[i]?=some (.o f)) noP noP (λ_=>False)):zoh m g i c=some f:=by
 unfold zoh
 rw[e]
 cases a:g ρ with
 | nx b=>rw[a]at q;dsimp only;rw[q.nxi]
 | bk b=>rw[a]at q;exact q.bki.elim
 | ct b=>rw[a]at q;exact q.cti.elim
 | rt d=>rw[a]at q;exact q.rti.elim
 | no=>rw[a]at q;exact q.noi.elim
end Dl
namespace Dl
open PySem L2
def zrt:D->Option Key
 | .int i=>some (.inl i)
 | .str x=>some (.inr x)
 | _=>none
def zjz:zk->Option (List Key)
 | []=>some []
 | d::ds=>(zrt d).bind λk=>(zjz ds).map (k::·)
def keyT:D->Option (List Key)
 | .tup a=>zjz a
 | _=>none
def zmU (t:Bool)(d:D):Option (List Key):=if t=true then keyT d else (zrt d).map ([·])
def intQ:Int->Int->Bool
 | .ofNat a,.ofNat b=>Nat.beq a b
 | .negSucc a,.negSucc b=>Nat.beq a b
 | _,_=>false
def ze5:intQ a b=true↔a=b:=by
 cases a with
 | ofNat a=>cases b with
  | ofNat b=>exact⟨λh=>(by rw[Nat.eq_of_beq_eq_true h]),λh=>(by cases h;exact Nat.beq_refl a)⟩
  | negSucc b=>exact⟨λh=>(by cases h),λh=>(by cases h)⟩
 | negSucc a=>cases b with
  | ofNat b=>exact⟨λh=>(by cases h),λh=>(by cases h)⟩
  | negSucc b=>exact⟨λh=>(by rw[Nat.eq_of_beq_eq_true h]),λh=>(by cases h;exact Nat.beq_refl a)⟩
def zkZ:Key->Key->Bool
 | .inl i,.inl j=>intQ i j
 | .inr a,.inr b=>decide (a=b)
 | _,_=>false
def zqv:List Key->List Key->Bool
 | [],[]=>true
 | a::r,b::s=>match zkZ a b with
  | true=>zqv r s
  | false=>false
 | _,_=>false
def zbJ:zkZ a b=true↔a=b:=by
 cases a with
 | inl i=>cases b with
  | inl j=>exact⟨λh=>(by rw[ze5.mp h]),λh=>(by cases h;exact ze5.mpr rfl)⟩
  | inr b=>exact⟨λh=>(by cases h),λh=>(by cases h)⟩
 | inr i=>cases b with
  | inl j=>exact⟨λh=>(by cases h),λh=>(by cases h)⟩
  | inr b=>exact⟨λh=>(by rw[k9 h]),λh=>(by cases h;exact j0 rfl)⟩
def zd9:zqv x y=true↔x=y:=by
 induction x generalizing y with
 | nil=>cases y with
  | nil=>exact⟨λ_=>rfl,λ_=>rfl⟩
  | cons b s=>exact⟨λh=>(by cases h),λh=>(by cases h)⟩
 | cons a r c=>cases y with
  | nil=>exact⟨λh=>(by cases h),λh=>(by cases h)⟩
  | cons b s =>
   show(match zkZ a b with | true=>zqv r s | false=>false)=true↔_
   cases h:zkZ a b with
   | true=>rw[zbJ.mp h];exact c.trans ⟨λh=>(by rw[h]),λh=>(by cases h;rfl)⟩
   | false=>exact⟨λh=>(by cases h),λe=>(by cases e;rw[zbJ.mpr rfl]at h;cases h)⟩
def zg3 (x y:List Key):Decidable (x=y):=match h:zqv x y with
 | true=>.isTrue (zd9.mp h)
 | false=>.isFalse λe=>by rw[zd9.mpr e]at h;cases h
def VL:List (List Key)->zk->List Key->Option D
 | k'::ks,v::vs,k=>@ite _ (k'=k) (zg3 k' k) (some v) (VL ks vs k)
 | _,_,_=>none
def zqG:List (List Key)->zk->List Key->D->zk
 | k'::ks,v::vs,k,d=>(@ite _ (k'=k) (zg3 k' k) d v)::zqG ks vs k d
 | _,_,_,_=>[]
def zdV (a:List (List Key))(b:zk)(k:List Key):List (List Key):=if (VL a b k).isSome=true then a else a++[k]
def zda (b:List (List Key))(a:zk)(k:List Key)(d:D):zk:=if (VL b a k).isSome=true then zqG b a k d else a++[d]
def Vu {k:List Key}:VL (a::b) (v::c) k=if a=k then some v else VL b c k:=by
 show @ite _ (a=k) (zg3 a k) (some v) (VL b c k)=_
 by_cases h:a=k
 .rw[u9 h,u9 h]
 .rw[t9 h,t9 h]
section
variable [KK]
def zdT {k:Key}(h:zrt d=some k)(a:At F d y):y=kV k:=by
 cases d with
 | int i=>cases h;exact a.int_inv
 | str x=>cases h;exact a.str_inv
 | _=>cases h
def zd7:∀ {b:zk} {c:List Key} {e:zx},zjz b=some c->AtL F b e->e=c.map kV
 | [],_,_,h,a=>by cases h;exact a.nil_inv
 | d::b,_,_,h,a=>by
  obtain⟨k,l,f⟩:=u0.mp h
  obtain⟨r,j,rfl⟩:=u7.mp f
  obtain⟨x,m,rfl,i,g⟩:=a.cons_inv
  rw[zdT l i,zd7 j g]
  rfl
def zhm {F:Hp}{k:List Key}(h:keyT d=some k)(a:At F d y):∃ b,y=.ref b/\F b=some (.tup (k.map kV)):=by
 cases d with
 | tup e =>
  obtain⟨b,g,rfl,c,f⟩:=a.tup_inv
  rw[zd7 (show zjz e=some k from h) f]at c
  exact⟨b,rfl,c⟩
 | _=>cases h
section
variable {κ:Type}[DecidableEq κ](f:κ->List Key)(hf:∀ a b,f a=f b->a=b)
include hf
theorem zbb {k:κ}:∀ {b:List (κ × V)} {c:zk},AtL F c (b.map (·.2)) ->
 (∀ d,VL (b.map λp=>f p.1) c (f k)=some d->∃ x,zeU b k=some x/\At F d x)/\(VL (b.map λp=>f p.1) c (f k)=none->zeU b k=none)
 | [],_,_=>⟨λd h=>(by cases h),λ_=>rfl⟩
 | p::b,[],a=>by cases a.nil_inv
 | p::b,v::c,a=>by
  obtain⟨x,r,e,i,g⟩:=a.cons_inv
  cases e
  have j:=zbb (k:=k) g
  by_cases h:p.1=k
  .rw[WJ h]
   have e:VL ((p::b).map λp=>f p.1) (v::c) (f k)=some v:=by
    rw[r6,Vu,u9 (by rw[h])]
   rw[e]
   exact⟨λd z=>(by cases z;exact⟨_,rfl,i⟩),λz=>(by cases z)⟩
  .rw[Wy h]
   have e:VL ((p::b).map λp=>f p.1) (v::c) (f k)=VL (b.map λp=>f p.1) c (f k):=by
    rw[r6,Vu,t9 (λz=>h (hf _ _ z))]
   rw[e]
   exact j
theorem zkw {k:κ}{b:List (κ × V)}(a:AtL F c (b.map (·.2))):(VL (b.map λp=>f p.1) c (f k)).isSome=(zeU b k).isSome:=by
 obtain⟨i,g⟩:=zbb f hf (k:=k) a
 cases h:VL (b.map λp=>f p.1) c (f k) with
 | none=>rw[g h];rfl
 | some d=>obtain⟨x,e,_⟩:=i d h;rw[e];rfl
theorem zgm {k:κ}(i:At F d y):∀ {b:List (κ × V)} {g:zk},AtL F g (b.map (·.2)) ->
 AtL F (zqG (b.map λp=>f p.1) g (f k) d) ((b.map λc=>if c.1=k then (c.1,y)else c).map (·.2))
 | [],_,_=>by unfold zqG;exact .nil
 | p::b,[],a=>by cases a.nil_inv
 | p::b,v::g,a=>by
  obtain⟨x,r,e,j,m⟩:=a.cons_inv
  cases e
  have l:=zgm (k:=k) i m
  rw[r6,r6]
  refine AtL.cons ?_ l
  by_cases h:p.1=k
  .rw[u9 h,u9 (by rw[h])];exact i
  .rw[t9 h,t9 (λz=>h (hf _ _ z))];exact j
theorem zhA {k:κ}(g:At F d y){b:List (κ × V)}(a:AtL F c (b.map (·.2))) :
 (zdL b k y).map (λp=>f p.1)=zdV (b.map λp=>f p.1) c (f k)/\AtL F (zda (b.map λp=>f p.1) c (f k) d) ((zdL b k y).map (·.2)):=by
 unfold zdL zdV zda
 rw[zkw f hf a,za1]
 cases h:(zeU b k).isSome with
 | true =>
  rw[u9 rfl,u9 rfl,u9 rfl]
  refine⟨?_,zgm f hf g a⟩
  rw[r9]
  refine o9 λp _=>?_
  by_cases e:p.1=k
  .show f (if p.1=k then (p.1,y)else p).1=_;rw[u9 e]
  .show f (if p.1=k then (p.1,y)else p).1=_;rw[t9 e]
 | false =>
  rw[t9 u6,t9 u6,t9 u6,o0,o0]
  exact⟨rfl,a.append (.cons g .nil)⟩
end
def ziO (a b:Key)(h:[a]=[b]):a=b:=by cases h;rfl
def zlz (a b:List Key)(h:a=b):a=b:=h
def zg2 {t:Bool}{g:zk}{k:List Key}(s:yE F H)(e:zbH F a z t h j)(m:AtL F g j)(f:zmU t i=some k)(l:At F i y) :
 ∃ o,znW H a y o/\(∀ d,VL h g k=some d->∃ x,o=some x/\At F d x)/\(VL h g k=none->o=none):=by
 obtain⟨u,e,n⟩:=(e.mono s).rd
 unfold zga at e
 unfold zmU at f
 cases t with
 | true =>
  rw[u9 rfl]at e f
  obtain⟨c,rfl,rfl,rfl⟩:=e
  obtain⟨b,rfl,q⟩:=zhm f l
  exact⟨_,.inr ⟨c,k,b,n,rfl,s _ _ q,rfl⟩,zbb (λk=>k) zlz m⟩
 | false =>
  rw[t9 u6]at e f
  obtain⟨c,rfl,rfl,rfl⟩:=e
  obtain⟨r,p,rfl⟩:=u7.mp f
  rw[zdT p l]
  exact⟨_,.inl ⟨c,r,n,rfl,rfl⟩,zbb (λk=>[k]) ziO m⟩
def zm9 {H:Hp}{t:Bool}{f:List (List Key)}{k:List Key}(h:H a=some o)(e:zga o t f p)(w:AtL F j p)(c:zmU t n=some k)(r:At G n y)(s:yE G H)(q:At F d v)(u:f.length<sizeLine):∃ m,zjp H a y v (upd H a m)/\zeL F m (.m t (zdV f j k) (zda f j k d)):=by
 unfold zga at e
 unfold zmU at c
 cases t with
 | true =>
  rw[u9 rfl]at e c
  obtain⟨i,rfl,rfl,rfl⟩:=e
  obtain⟨b,rfl,z⟩:=zhm c r
  obtain⟨g,l⟩:=zhA (λk=>k) zlz (k:=k) q w
  refine⟨_,zjp.t h (s _ _ z) (by simpa using u),_,?_,l⟩
  unfold zga
  rw[u9 rfl]
  exact⟨_,rfl,g,rfl⟩
 | false =>
  rw[t9 u6]at e c
  obtain⟨i,rfl,rfl,rfl⟩:=e
  obtain⟨A,x,rfl⟩:=u7.mp c
  rw[zdT x r]
  obtain⟨g,l⟩:=zhA (λk=>[k]) ziO (k:=A) q w
  refine⟨_,zjp.k h (by simpa using u),_,?_,l⟩
  unfold zga
  rw[t9 u6]
  exact⟨_,rfl,g,rfl⟩
def zgx:wt
 | .dct _ t ks vs,kd=>(zmU t kd).bind λk=>VL ks vs k
 | _,_=>none
def zmQ (a:Bool):wt
 | kd,.dct _ t ks vs=>(zmU t kd).map λk=>.bl (a != (VL ks vs k).isSome)
 | _,_=>none
section
variable {X:Cx}{a b c:Expr}{pos apos:Pos}
def znf {k:Nat}{f:zQ}(O:x5 k X.A)(I:ED X a f)(n:ED X b h)(E:zrq b):ED X (.Subscript a b pos) (zd zgx f h):=by
 obtain⟨ta,K,M⟩:=I
 obtain⟨T,m,J⟩:=n
 refine⟨_,zmY (zmD O) K m E,fun σ ρ F H z Q s g e q=>?_⟩
 obtain⟨x,r,e⟩:=u0.mp e
 obtain⟨y,A,e⟩:=u0.mp e
 refine M σ ρ F H x _ s g r λF1 H1 v d B=>?_
 refine J σ ρ F1 H1 y _ d.fh (g.mono d.ff) A λF2 H2 u c P=>?_
 cases x with
 | dct S t V U =>
  obtain⟨R,G,i⟩:=u0.mp e
  obtain⟨p,W,rfl,C,N⟩:=(B.mono c.ff).dct_inv
  obtain⟨o,L,j,_⟩:=zg2 c.fh C N G P
  obtain⟨w,rfl,l⟩:=j z i
  exact⟨p,w,rfl,L,q F2 H2 w (d.trans c) l⟩
 | _=>cases e
def rDIn (b:Bool):R2:=λx y H Q=>∃ a o,y=.ref a/\znW H a x o/\Q (.bl (b != o.isSome)) H
def zlD {k:Nat}(e:x5 k X.A):OpR X (compareOp .In) (rDIn false):=by
 intro b s σ H x y v u Q I c d h
 obtain⟨a,o,rfl,g,q⟩:=h
 obtain rfl:u=Value.ref a:=d
 exact d_in (zmD e) I g c λf I3=>⟨.bl o.isSome,H,I3,rfl,by simpa using q⟩
def zhW {a:Bool}:OpD (rDIn a) (zmQ a):=by
 intro F H x y d e z Q s j r h q
 cases e with
 | dct u t c b =>
  obtain⟨k,n,rfl⟩:=u7.mp h
  obtain⟨p,v,rfl,m,l⟩:=r.dct_inv
  obtain⟨o,i,f,g⟩:=zg2 s m l n j
  refine⟨p,o,rfl,i,?_⟩
  have e:(VL c b k).isSome=o.isSome:=by
   cases h:VL c b k with
   | none=>rw[g h];rfl
   | some d=>obtain⟨w,rfl,_⟩:=f d h;rfl
  rw[<-e]
  exact q F H _ (.refl s) .bl
 | _=>cases h
end
section
variable {X:Cx}{a e ko:Expr}{pos pos':Pos}{st:Stmt}
def zmi (t:Bool)(i:Nat):zT:=fun ρ=>.nx (ρ.set i (.m t [] []))
def zmV {t:Bool}{i:Nat}(j:X.N.Nodup)(e:X.N[i]?=some x)(l:Loc X.env.scope x)(c:swapsWith (.Dict [] [] pos) (some (.Name x pos')) pos.line X.env=pure false:=by rfl)(d:X.fn x=true\/X.env.scope.names.lookup x=some .local:=by first | exact .inl rfl | exact .inr rfl | assumption)(c:swapsWith (.Dict [] [] h) (some (.Name x pos')) pos.line X.env=pure false:=by rfl):SD X (.Assign [.Name x pos'] (.Dict [] [] h) pos) (zmi t i):=by
 have f:∀ (o:HO),zeL (λ_=>none) o (.m t [] [])->∀ (Fb Hb F H:Hp) (ρ:SE) (σ:St) (E:zbz),Rl Fb Hb F H ρ σ->SOk Fb Hb E (zmi t i ρ)->∀ p,H p=none->E.nx (σ.set i (some (.ref p))) (upd H p o):=λo m Fb Hb F H ρ σ E a k p b=>by
  have g:=Gr.hide a.gr.fh b o
  refine k F _ _ ((a.grow g).setW (a.notbase b) (a.gr.fh.free b) zq (m.mono λ_ _ z=>by cases z) (a.notown b))
 cases t with
 | true =>
  refine⟨_,XV j e l zjn c d,λFb Hb F H ρ σ E a k=>?_⟩
  refine λp b=>f (.dT []) ⟨[],?_,.nil⟩ Fb Hb F H ρ σ E a k p b
  unfold zga
  rw[u9 rfl]
  exact⟨[],rfl,rfl,rfl⟩
 | false =>
  refine⟨_,XV j e l zk6 c d,λFb Hb F H ρ σ E a k=>?_⟩
  refine λp b=>f (.dK []) ⟨[],?_,.nil⟩ Fb Hb F H ρ σ E a k p b
  unfold zga
  rw[t9 u6]
  exact⟨[],rfl,rfl,rfl⟩
def zpF (ρ:SE)(i:Nat)(a d:D):Option SE:=match ρ[i]? with
 | some (.m t ks vs)=>(zmU t a).bind λk=>if decide (ks.length<sizeLine)=true then some (ρ.set i (.m t (zdV ks vs k) (zda ks vs k d)))else none
 | _=>none
def zh2 (m:Bool)(i:Nat)(a e:zQ):zT:=fun ρ=>match (vEv m e ρ).bind λd=>(a (visG ρ)).bind λb=>zpF ρ i b d with
 | some c=>.nx c
 | none=>.no
def znx {k:Nat}{w:zQ}(W:x5 k X.A)(U:ED X e u)(O:PE X a (zdt i))(L:ED X ko w)(f:swapsWith e (some (.Subscript a ko pos')) pos.line X.env=pure false:=by rfl):SD X (.Assign [.Subscript a ko pos'] e pos) (zh2 m i w u):=by
 obtain⟨t,p,r⟩:=U
 obtain⟨tk,M,K⟩:=L
 refine⟨_,znA (zmD W) O M p f,λFb Hb F H ρ σ E A k=>?_⟩
 unfold zh2 at k
 cases h:(vEv m u ρ).bind λd=>(w (visG ρ)).bind λy=>zpF ρ i y d with
 | none=>rw[h]at k;exact k.elim
 | some ρ' =>
  rw[h]at k
  obtain⟨d,J,c⟩:=u0.mp h
  obtain⟨y,P,c⟩:=u0.mp c
  unfold zpF at c
  split at c
  .rename_i tt C vs f
   obtain⟨Y,N,n⟩:=u0.mp c
   have G:decide (C.length<sizeLine)=true:=by
    cases V:decide (C.length<sizeLine) with
    | true=>rfl
    | false=>rw[V,t9 u6]at n;cases n
   rw[u9 G]at n
   cases n
   refine r.at A J λF' H' v g R=>?_
   have b:=A.grow g
   obtain⟨q,o,x,_⟩:=b.ows i _ f rfl
   refine⟨_,x,?_⟩
   refine K σ _ _ H' _ _ b.gh b.visG P λF3 H3 v3 z s=>?_
   obtain⟨B,_⟩:=b.back z
   have j:=b.grow B
   obtain⟨Z,o3,l,_,_,T,xs,Q,I⟩:=j.ows i _ f rfl
   rw[x]at l
   cases l
   obtain⟨o',S,hw⟩:=zm9 T Q I N s z.fh (R.mono B.ff) (k9 G)
   exact⟨q,_,rfl,S,k _ _ σ (j.mutW f rfl x hw)⟩
  .cases c
end
end
end Dl
namespace PySem
open Sem (wp)
namespace OwnRev
def lri_slot_hint:Slot "list_reverseiterator" "__length_hint__" "list_reverseiterator.__length_hint__" :=
 .of (owner:="list_reverseiterator") (n:="__length_hint__") (by rw[typeLookup_type,builtinLookup_eq_fast];kernel_rfl) (by decide +kernel) (by decide +kernel) (by decide +kernel)
  (by first | exact .inl (by decide +kernel) | exact .inr (by decide +kernel)) (by rw[isSubtype_type];kernel_rfl)
def lri_no_len:typeLookup (.type "list_reverseiterator") "__len__"=pure none:=by rw[typeLookup_type,builtinLookup_eq_fast];kernel_rfl
def lri_sub_self:isSubtype (.type "list_reverseiterator") (.type "list_reverseiterator")=pure true:=by rw[isSubtype_type];kernel_rfl
end OwnRev
section
variable {prog:zH}{w:World}{A:zI}{E:yL}{s:zj}
def zb5 {Q:Bool->Shared->Prop}(d:s.heap.IsRevIter I l i)(e:Q false s):wpAny (model prog w) A (Builtin.List.listLengthHint (.ref I)) Q E s:=by
 have c:=d.typeIs
 unfold Builtin.List.listLengthHint
 refine u3 (wpAny_specialOf c OwnRev.lri_no_len ?_)
 try dsimp only
 show wpAny _ _ (if false=true then _ else (if false=true then _ else _)) _ _ _
 rw[t9 u6,t9 u6]
 refine u3 (wpAny_specialOf c OwnRev.lri_slot_hint.lookup ?_)
 try dsimp only
 have a:splitId "list_reverseiterator.__length_hint__"=some ("list_reverseiterator","__length_hint__"):=by decide +kernel
 rw[a]
 try dsimp only
 refine u3 (wpAny_isInstance (T:="list_reverseiterator") (b:=true) c OwnRev.lri_sub_self ?_)
 rw[t9 (by decide)]
 show wpAny _ _ (if true=true then _ else _) _ _ _
 rw[u9 rfl,t9 (by decide)]
 exact t0 e
def zcB {items:zP}{Q:yL}(hh:A.handled=none)(U:s.heap.IsRevIter I l ((items.size:Int)-1))(T:s.heap.IsList l items)(J:l≠I)(O:items.size<=sizeLine) (Y:∀ (j:Heap) (z tk:Nat),(∀ b o,b≠I->s.heap.get? b=some o->j.get? b=some o) ->
 j.get? s.heap.objs.size=some { cls:=.type "list",dict:=none,data:=.seq items.toList.reverse.toArray z,slots:=#[] }->Q (.ref s.heap.objs.size) { s with heap:=j,toks:=tk }) :
 wpAny (model prog w) A (call (.type "list") [.ref I]) Q E s:=by
 have y:I<s.heap.objs.size:=by obtain⟨o,M,_⟩:=U;exact q4 M
 have m:l<s.heap.objs.size:=by obtain⟨o,M,_⟩:=T;exact q4 M
 have d:s.heap.objs.size≠I:=u1c y
 have H:s.heap.objs.size∉[I,l]:=λg=>by
  rcases t6.mp g with h | h
  .exact d h
  .exact u1c m (q5.mp h)
 have W:=Walks.listRev (prog:=prog) (w:=w) (A:=A.in1.in1) hh I l J items
 have r:∀ a:zP,ItemsOf (λi v=>items[items.size-1-i]?=some v) a items.size->a=items.toList.reverse.toArray:=λa L=>by
  apply Array.ext'
  apply u27
  intro i
  by_cases S:i<items.size
  .have u:a[i]?=some (a[i]'(by rw[L.1];exact S)):=u21 _
   have C:=L.2 i _ u
   show a.toList[i]?=items.toList.reverse[i]?
   rw[List.getElem?_reverse (by simpa using S)]
   simp only[u19,u0h]
   rw[u,C]
  .rw[u0E (by simp[L.1];omega),u0E (by simp;omega)]
 refine callType_codes (Q₁:=λt R=>t=.ref s.heap.objs.size/\R={ s with heap:=s.heap.push { cls:=.type "list",data:=.seq #[] } }) F.called_list (F.typeCall_list_1 _) F.entry_list_init
  (code_list_new _ ⟨rfl,rfl⟩) λt R h₁=>?_
 obtain⟨rfl,rfl⟩:=h₁
 have x:(s.heap.push { cls:=.type "list",data:=.seq #[] }).get? s.heap.objs.size=some { cls:=.type "list",data:=.seq #[] }:=q7 _ rfl
 refine⟨⟨_,x,rfl⟩,F.args_list_init_2 _ _,?_⟩
 show wpAny _ A.in1.in1 (do let old<-Builtin.List.listItems (.ref s.heap.objs.size);Builtin.List.listUpdate (.ref s.heap.objs.size) (λ_=>#[]);letGo old.toList.reverse;Builtin.List.listExtendWith (.ref s.heap.objs.size) (.ref I) .none) _ _ _
 refine u3 ?_
 unfold Builtin.List.listItems
 refine u3 (u0m x rfl (t0 ?_))
 show wpAny _ A.in1.in1 (updateSeq s.heap.objs.size (λ_=>#[])>>=λ_=>letGo (#[]:zP).toList.reverse>>=λ_=>Builtin.List.listExtendWith (.ref s.heap.objs.size) (.ref I) .none) _ _ _
 refine u3 (u2H x rfl ?_)
 have D:=u0R (Obj.mapSeq (λ_=>(#[]:zP))) x rfl
 have f:∀ b o,b≠s.heap.objs.size->s.heap.get? b=some o->((s.heap.push { cls:=.type "list",data:=.seq #[] }).update s.heap.objs.size (Obj.mapSeq (λ_=>(#[]:zP)))).get? b=some o :=
  λb o B e=>(g3 _ _ (u0p B)).trans (u5 _ e)
 refine u3 (u1t ?_)
 have c:=U.at (h':=(s.heap.push { cls:=.type "list",data:=.seq #[] }).update s.heap.objs.size (Obj.mapSeq (λ_=>(#[]:zP)))) λo e=>f I o (u0p d) e
 have N:((s.heap.push { cls:=.type "list",data:=.seq #[] }).update s.heap.objs.size (Obj.mapSeq (λ_=>(#[]:zP)))).IsList l items:=T.at λo e=>f l o (k7 m) e
 unfold Builtin.List.listExtendWith
 refine u3 (u2e c.typeIs ?_)
 have h1:Builtin.List.listSameRef (.ref s.heap.objs.size) (.ref I)=false:=by simp[Builtin.List.listSameRef,d]
 have V:(Value.type "list_reverseiterator" == Value.type "list")=false:=by decide
 have X:(Value.type "list_reverseiterator" == Value.type "tuple")=false:=by decide
 simp only[h1,V,X,u3a,u1E,u3v]
 refine u3 (u2s c ?_)
 refine u3 (i0 (zb5 c ?_))
 show wpAny _ A.in1.in1 (if false=true then _ else _) _ _ _
 rw[t9 u6]
 refine t0 ⟨u1R F.plain_extend_loop _,codeAny_extend_loopS W.toS O _ H _ items.size 0 _ #[] _ rfl (g9 _) ⟨g9 _,?_,N⟩ D (ItemsOf.nil _) λZ P z g n k=>?_⟩
 .have:(items.size:Int)-1-((0:Nat):Int)=(items.size:Int)-1:=by omega
  rw[this]
  exact c
 .refine⟨rfl,?_⟩
  rw[r _ k]at n
  obtain⟨j,g',d',G,K⟩:=Z
  have u:g'=s.gens:=g.gens
  have C:d'=s.drawn:=g.drawn
  have e3:K=s.os:=g.os
  subst u C e3
  refine Y j z G (λb o B q=>g.heap b o (λp=>?_) (f b o (k7 (q4 q)) q)) n
  rcases t6.mp p with h | h
  .exact k7 (q4 q) h
  .exact B (q5.mp h)
end
end PySem
namespace L2
open PySem PySem.Spec PyProof.Rows
def tLR (K:zz)(ta:TE):TE:=fun σ H Q=>ta σ H λx H1=>∃ a b,x=.ref a/\SqL K H1 a b/\∀ l,H1 l=none->Q (.ref l) (upd H1 l (.lst b.reverse))
def zfr {X:Cx} (N:X.calm=true) (z:Gl X "list") (A:X.mg "list"=none) (w:bootBuiltins "list"=some (.type "list")) (u:Gl X "reversed") (y:X.mg "reversed"=none) (hb2:bootBuiltins "reversed"=some (.type "reversed")) (O:PE X a ta) (D:starEach [a] X.env=[(false,eval a X.env)]:=by rfl) (j:starEach [.Call (.Name "reversed" m) [a] [] c] X.env=[(false,eval (.Call (.Name "reversed" m) [a] [] c) X.env)]:=by rfl):PE X (.Call (.Name "list" L) [.Call (.Name "reversed" m) [a] [] c] [] i) (tLR X.K ta):=by
 intro f s σ H Q I h
 refine Call_ (vp I z A w (o8 (Q:=EP X f σ Q) ?_ j rfl))
 rw[j]
 show wpAny _ _ (spliced ((false,eval (.Call (.Name "reversed" m) [a] [] c) X.env)::[])) _ _ _
 refine u0Q ?_
 refine Call_ (vp I u y hb2 (o8 ?_ D rfl))
 rw[D]
 show wpAny _ _ (spliced ((false,eval a X.env)::[])) _ _ _
 refine u0Q (thn (O f s σ H _ I h) λv k hh9=>?_)
 obtain⟨x,H1,I1,K,G⟩:=hh9
 obtain⟨t,R,rfl,S,q⟩:=G
 cases K
 obtain⟨d,B,n,F⟩:=I1.list S
 have g:d.toArray.size<=sizeLine:=by rw[t8,<- B.length];exact F
 have T:t<k.heap.objs.size:=by
  obtain⟨o,P,_⟩:=n.isList
  exact q4 P
 refine u0V ?_
 refine call_reversed_list n.isList ?_
 refine u0V ?_
 refine zcB (I:=k.heap.objs.size) (l:=t) (items:=d.toArray) (I.ok.hd N) ⟨_,q7 _ rfl,rfl,rfl⟩ (n.isList.at λo e=>u5 _ e) (k7 T) g λE C p J M=>?_
 have r:E.get? (k.heap.push (revObj t (((d.toArray.size:Nat):Int)-1))).objs.size=some { cls:=.type "list",dict:=none,data:=.seq d.reverse.toArray C,slots:=#[] }:=M
 refine⟨.ref _,_,I1.laid (t':=p) (a:=(k.heap.push (revObj t (((d.toArray.size:Nat):Int)-1))).objs.size) (λb o e=>J b o (k7 (q4 e)) (u5 _ e)) ?_ (show yQ X.prog X.w _ E _ (.lst R.reverse) from⟨by rw[u2B];exact F,d.reverse,C,B.reverse,r⟩),rfl,q _ (I1.hok.fresh ?_)⟩
 all_goals exact u0k (by rw[Heap.push];simp)
end L2
namespace Dl
open PySem L2 PySem.Spec PyProof.Rows
variable [KK]{X:Cx}{e:Expr}
def zrB:D->Option zk
 | .lst a=>some a.reverse
 | _=>none
def znT (f:zQ):y4:=fun ρ=>(f ρ).bind zrB
def zfX {f:zQ} (A:X.calm=true) (n:Gl X "list") (o:X.mg "list"=none) (i:Gl X "reversed") (k:X.mg "reversed"=none) (B:ED X e f) (y:starEach [e] X.env=[(false,eval e X.env)]:=by rfl) (h:starEach [.Call (.Name "reversed" j) [e] [] a] X.env=[(false,eval (.Call (.Name "reversed" j) [e] [] a) X.env)]:=by rfl) :
 FL X (.Call (.Name "list" x) [.Call (.Name "reversed" j) [e] [] a] [] b) (znT f):=by
 obtain⟨t,E,G⟩:=B
 refine⟨_,zfr A n o zdl i k WY E y h,fun σ ρ F H z Q s r e q=>?_⟩
 obtain⟨d,u,g⟩:=u0.mp e
 refine G σ ρ F H d _ s r u λF1 H1 v c w=>?_
 unfold zrB at g
 split at g <;> cases g
 obtain⟨p,C,rfl,I,bl⟩:=w.lst_inv
 exact⟨p,C,rfl,SqL.of (c.fh _ _ I),λl m=>q _ _ _ _ (c.trans (Gr.hide c.fh m _)) (VI c m) (c.fh.free m) zq bl.reverse⟩
end Dl
namespace L2
open PySem PySem.Spec PyProof.Rows
def ze2 {k:Str}:∀ {D:List (Str × KTD.Dat)},(∀ d,KTD.datumAt k D=some d->KTD.Opened h₀ P d)->KTD.EachL h₀ k P D
 | [],_=>trivial
 | [(x,d)],h=>λe=>h d (by show(if decide (k=x)=true then some d else none)=_;rw[u9 (j0 e)])
 | (x,d)::q::D,h=>by
  show if decide (k=x)=true then KTD.Opened h₀ P d else KTD.EachL h₀ k P (q::D)
  by_cases e:k=x
  .rw[u9 (j0 e)]
   exact h d (by show(if decide (k=x)=true then some d else _)=_;rw[u9 (j0 e)])
  .rw[t9 (by rw[j8 e];exact u6)]
   refine ze2 λa b=>h a ?_
   show(if decide (k=x)=true then some d else KTD.datumAt k (q::D))=_
   rw[t9 (by rw[j8 e];exact u6),b]
def zav:∀ {a:zc} {b:zt},KTD.Flats b (a.map PyData.int)->yl (a.map V.int) b
 | [],_,h=>by cases h;exact .nil
 | n::a,_,h=>by
  cases h with
  | cons d c =>
   obtain⟨t,rfl⟩:=d.int_inv
   exact .cons ⟨t,rfl⟩ (zav c)
section
variable {X:Cx}{a:Addr}{D:List (Str × KTD.Dat)}{nm:Str}{b:Expr}{p pos:Pos}{tb:TE}
def zqn (a:Addr)(D:List (Str × KTD.Dat)):R2:=λx y H Q=>∃ s,x=.str s/\y=.ref a/\Q (.bl (KTD.inKeys s D)) H
def zk8 (T:∀ h:Heap,X.K.In h->KTD.TextTab h a D):OpR X (compareOp .In) (zqn a D):=by
 intro b s σ H x y v u Q I c d h
 obtain⟨z,rfl,rfl,q⟩:=h
 obtain⟨t,rfl⟩:=c
 cases d
 exact KTD.in_text ⟨T _ I.kIn,λ_ _ e=>e⟩ ⟨.bl _,H,I.tok _,rfl,q⟩
def tTab (D:List (Str × KTD.Dat))(b:Heap)(tb:TE):TE:=fun σ H Q=>tb σ H λy H1=>∃ (z:Str) (c:zc),y=.str z/\KTD.datumAt z D=some (.tup (c.map PyData.int))/\∀ p a,IsTup b p (List.toArray a)->yl (c.map V.int) a->Q (.ref p) H1
def zpK (T:∀ h:Heap,X.K.In h->KTD.TextTab h a D) (m:Gl X nm) (k:X.mg nm=some (.ref a)) (l:PE X b tb) (o:zbk b) (e:(nm == ("__debug__":Str))=false:=by decide):PE X (.Subscript (.Name nm p) b pos) (tTab D X.base tb):=by
 intro c s σ H Q I h
 refine Subscript_ (XM I m k (thn (l c s σ H _ I h) λu w hq=>?_) e)
 obtain⟨y,H1,I1,n,z,v,rfl,i,q⟩:=hq
 obtain⟨t,rfl⟩:=n
 have g:KTD.inKeys z D=true:=by rw[<-KTD.isSome_datumAt,i];rfl
 refine KTD.item_text (h₀:=X.base) ⟨T _ I.mod.kin,I1.bk⟩ g (ze2 λd e=>?_) (o _ _) (by intro _;with_unfolding_all rfl)
 rw[i]at e
 cases e
 exact λp f r j=>⟨.ref p,H1,I1.tok _,rfl,q p f r (zav j)⟩
def rIxB (b:Heap):R2:=λx y H Q=>∃ p a c i v,x=.ref p/\y=.int i/\IsTup b p (List.toArray a)/\yl c a/\c.length<=sizeLine/\atI c i=some v/\Q v H
def zm8:IxR X (rIxB X.base):=by
 intro c e a s σ H x y v u Q I D J h A
 obtain⟨p,b,N,i,z,rfl,rfl,hq,r,O,G,q⟩:=h
 cases D
 obtain⟨t,rfl⟩:=J
 have f:IsTup s.heap p b.toArray:=by
  obtain⟨o,E,C,n,m⟩:=hq
  exact⟨o,I.bk _ _ E,C,n,m⟩
 obtain⟨j,B,g,K,M,P⟩:=zbl G
 obtain⟨w,k,d⟩:=r.get g
 have F:=r.length
 have L:=WR
 have fin:EP X a σ Q w s:=⟨z,H,I,d,q⟩
 exact u1X (x:=w) f.typeIs slot_tuple_getitem.lookup
  (getItem_tuple (j:=j) (Q:=λr l=>r=w/\EP X a σ Q r l) f (by omega) (by omega) (by rw[t8,<- F];exact B) (by simpa using k) ⟨rfl,fin⟩) A
end
end L2
namespace Dl
open PySem L2 PySem.Spec PyProof.Rows
variable [KK]{X:Cx}{a:Addr}{T:List (Str × KTD.Dat)}{nm:Str}{b:Expr}{p p2 p3 pos:Pos}{f:zQ}
abbrev zkC:=List (Str × zc)
def zcx (t:zkC):List (Str × KTD.Dat):=t.map λq=>(q.1,.tup (q.2.map PyData.int))
def VG:zkC->Str->Option zc
 | [],_=>none
 | q::t,x=>if x=q.1 then some q.2 else VG t x
omit [KK] in
def W7 (x:Str):∀ t:zkC,KTD.datumAt x (zcx t)=(VG t x).map λa=>KTD.Dat.tup (a.map PyData.int)
 | []=>rfl
 | q::t=>by
  show(if decide (x=q.1)=true then some (KTD.Dat.tup (q.2.map PyData.int))else KTD.datumAt x (zcx t))=(if x=q.1 then some q.2 else VG t x).map _
  by_cases h:x=q.1
  .rw[u9 (j0 h),u9 h];rfl
  .rw[t9 (by rw[j8 h];exact u6),t9 h,W7 x t]
def zlh (t:zkC):D->Option D
 | .str x=>some (.bl (VG t x).isSome)
 | _=>none
def ziK (t:zkC)(i:Int):D->Option D
 | .str x=>(VG t x).bind λa=>(atI a i).map D.int
 | _=>none
def zjN {t:zkC} (T:∀ h:Heap,X.K.In h->KTD.TextTab h a (zcx t)) (o:Gl X nm) (g:X.mg nm=some (.ref a)) (k:ED X b f) (r:behindInMarks .In (.Name nm p)=false:=by with_unfolding_all rfl) (w:(nm == ("__debug__":Str))=false:=by decide) :
 ED X (.Compare b [.In] [.Name nm p] pos) (eUn (zlh t) f):=by
 obtain⟨y,l,j⟩:=k
 refine⟨_,zgV (zk8 T) l (xA (v:=.ref a) o g rfl w) r,fun σ ρ F H z Q s m e q=>?_⟩
 obtain⟨d,n,c⟩:=u0.mp e
 refine j σ ρ F H d _ s m n λF1 H1 v i u=>?_
 cases d with
 | str x =>
  cases c
  cases u.str_inv
  refine⟨x,rfl,rfl,?_⟩
  rw[<-KTD.isSome_datumAt,W7,u12]
  exact q F1 H1 _ i .bl
 | _=>cases c
def zkO {t:zkC} (T:∀ h:Heap,X.K.In h->KTD.TextTab h a (zcx t)) (m:∀ q∈t,q.2.length<=sizeLine) (P:Gl X nm) (C:X.mg nm=some (.ref a)) (E:ED X b f) (L:zbk b) (K:(nm == ("__debug__":Str))=false:=by decide) :
 ED X (.Subscript (.Subscript (.Name nm p) b p2) (.Constant (.int i) j p3) pos) (eUn (ziK t i) f):=by
 obtain⟨W,D,O⟩:=E
 refine⟨_,zqf zm8 (zpK T P C D L K) xq (λ_ _=>rfl),fun σ ρ F H z Q s G e q=>?_⟩
 obtain⟨d,I,u⟩:=u0.mp e
 refine O σ ρ F H d _ s G I λF1 H1 v M J=>?_
 cases d with
 | str x =>
  obtain⟨g,y,A⟩:=u0.mp u
  obtain⟨n,B,rfl⟩:=u7.mp A
  cases J.str_inv
  have l:∀ t:zkC,(∀ q∈t,q.2.length<=sizeLine)->VG t x=some g->g.length<=sizeLine:=by
   intro t
   induction t with
   | nil=>intro _ h;cases h
   | cons q t R =>
    intro m h
    unfold VG at h
    split at h
    .cases h;exact m q l5
    .exact R (λr U=>m r (o7 _ U)) h
  refine⟨x,g,rfl,by rw[W7,y];rfl,λp o N S=>⟨p,o,g.map V.int,i,.int n,rfl,rfl,N,S,by rw[u4];exact l t m y,?_,q F1 H1 _ M .int⟩⟩
  have:∀ (c:zc),atI c i=some n->atI (c.map V.int) i=some (V.int n):=λc h=>by
   unfold atI at h ⊢
   rw[u4]
   cases w:ixN c.length i with
   | none=>rw[w]at h;cases h
   | some k =>
    rw[w]at h
    show(c.map V.int)[k]?=_
    have h:c[k]?=some n:=h
    rw[q0,h]
    rfl
  exact this g B
 | _=>cases u
end Dl
namespace L2
open PySem PySem.Spec PyProof.Rows
def zfy {b:zP}(h:ItemsOf (λi v=>∃ t,v=Value.int (0+(i:Int)*1) t) b j):yl ((List.range j).map λk:Nat=>V.int (k:Int)) b.toList:=by
 have d:∀ (c:zt) (a:Nat),(∀ i v,c[i]?=some v->∃ t,v=Value.int (0+((a+i:Nat):Int)*1) t)->yl ((List.range' a c.length).map λk:Nat=>V.int (k:Int)) c:=by
  intro c
  induction c with
  | nil=>intro a _;exact .nil
  | cons v c f =>
   intro a h
   refine .cons ?_ (f (a+1) λi v e=>?_)
   .obtain⟨t,rfl⟩:=h 0 v rfl
    exact⟨t,by rw[show(0:Int)+((a+0:Nat):Int)*1=(a:Int) by omega]⟩
   .have:=h (i+1) v (by simpa using e)
    rwa[show a+(i+1)=a+1+i by omega]at this
 have:=d b.toList 0 λi v e=>by
  rw[g8]
  exact h.2 i v (by simpa using e)
 rw[u0h,h.1]at this
 rwa[List.range_eq_range']
end L2
namespace Dl
open PySem L2 PySem.Spec PyProof.Rows
variable [KK]{X:Cx}{e:Expr}
def lrD:D->Option zk
 | .int j=>if 0<=j/\j<=60 then some ((List.range j.toNat).map λk:Nat=>.int (k:Int))else none
 | _=>none
end Dl
namespace L2
open PySem PySem.Spec PyProof.Rows
def KD {α:Type}:Sem α->Prop
 | .pure _=>True
 | .raise _=>True
 | .unsupported _=>True
 | .finish _=>True
 | .rule _ k=>KD (k ())
 | .at _ k=>KD (k ())
 | .load _ _ k=>∀ o,KD (k o)
 | .update _ _ f k=>(∀ o,(f o).dict=o.dict)/\KD (k ())
 | .loadIfAlive _ k=>∀ o,KD (k o)
 | .point _ k=>KD (k ())
 | .register _ _=>True
 | .alloc _ k=>∀ a,KD (k a)
 | .fresh k=>∀ t,KD (k t)
 | .ask k=>∀ x,KD (k x)
 | .handled _ k=>∀ x,KD (k x)
 | .stack k=>∀ x,KD (k x)
 | .thread k=>∀ n,KD (k n)
 | .choose _ _ _=>False
 | .os _ _ _=>False
 | .call _ _ _ _ _=>False
 | .newGen _ _=>False
 | .genState _ _=>False
 | .resume _ _ _ _=>False
 | .yield _ _ _ _=>False
 | .fork _ _=>False
 | .await _ _ _ _ _=>False
def znB {α β:Type}(f:α->Sem β)(i:∀ a,KD (f a)):∀ (m:Sem α),KD m->KD (m.bind f):=by
 intro m
 induction m with
 | pure a=>intro _;exact i a
 | raise e=>intro _;trivial
 | unsupported w=>intro _;trivial
 | finish e=>intro _;trivial
 | rule t k b=>intro h;exact b () h
 | «at» p k b=>intro h;exact b () h
 | load a p k b=>intro h o;exact b o (h o)
 | update a p g k b=>intro h;exact⟨h.1,b () h.2⟩
 | loadIfAlive a k b=>intro h o;exact b o (h o)
 | point l k b=>intro h;exact b () h
 | register a k b=>intro h;trivial
 | alloc o k b=>intro h a;exact b a (h a)
 | fresh k b=>intro h a;exact b a (h a)
 | ask k b=>intro h a;exact b a (h a)
 | handled o k b=>intro h a;exact b a (h a)
 | stack k b=>intro h a;exact b a (h a)
 | thread k b=>intro h a;exact b a (h a)
 | choose s n k b=>intro h;exact h.elim
 | os q l k b=>intro h;exact h.elim
 | call c h g l k b=>intro h;exact h.elim
 | newGen c k b=>intro h;exact h.elim
 | genState g k b=>intro h;exact h.elim
 | resume g r l k b=>intro h;exact h.elim
 | yield v g l k b=>intro h;exact h.elim
 | fork c k b=>intro h;exact h.elim
 | await a f d l k b=>intro h;exact h.elim
def yd {α β:Type}{m:Sem α}{f:α->Sem β}(b:KD m)(c:∀ a,KD (f a)):KD (m>>=f):=znB f c m b
def DK (h c:Heap):Prop:=∀ (b:Nat) (o:Obj),h.objs[b]?=some o->∃ a:Obj,c.objs[b]?=some a/\a.dict=o.dict
def DK.refl (h:Heap):DK h h:=λ_ o e=>⟨o,e,rfl⟩
def DK.trans {f:Heap}(a:DK f c)(b:DK c d):DK f d:=λp o e=>by
 obtain⟨i,k,l⟩:=a p o e
 obtain⟨j,g,h⟩:=b p i k
 exact⟨j,g,h.trans l⟩
def DK.push (h:Heap)(o:Obj):DK h (h.push o):=λb u e=>by
 refine⟨u,?_,rfl⟩
 obtain⟨objs,l⟩:=h
 show(objs.push o)[b]?=some u
 have a:b<objs.size:=(u2I.mp e).1
 rw[Array.getElem?_push_lt a]
 exact(u2I.mp e).2 ▸ rfl
def DK.update (h:Heap)(a:Addr){f:Obj->Obj}(d:∀ o,(f o).dict=o.dict):DK h (h.update a f):=λb u e=>by
 obtain⟨objs,l⟩:=h
 show ∃ c,(objs.modify a f)[b]?=some c/\_
 rw[Array.getElem?_modify]
 have e:objs[b]?=some u:=e
 split
 .rw[e];exact⟨f u,rfl,d u⟩
 .rw[e];exact⟨u,rfl,rfl⟩
def zh8 {h:Heap}(e:h.get? b=some o):h.objs[b]?=some o:=by
 unfold Heap.get? at e
 split at e
 .cases e
 .exact e
def DK.of {h f:Heap}{o a:Obj}(k:DK h f)(e:h.get? b=some o)(g:f.get? b=some a):a.dict=o.dict:=by
 obtain⟨i,c,d⟩:=k b o (zh8 e)
 rw[zh8 g]at c
 cases c
 exact d
def zqX {α:Type}(M:Model)(Γ:PySem.Ctx):∀ (m:Sem α) (Q:α->Pos->Shared->Prop) (E:Value->Pos->Shared->Prop) (p:Pos) (s b:zj),KD m->DK b.heap s.heap->Sem.wp M Γ m Q E p s ->
 Sem.wp M Γ m (λa p j=>Q a p j/\DK b.heap j.heap) (λe p j=>E e p j/\DK b.heap j.heap) p s:=by
 intro m
 induction m with
 | pure a=>intro Q E p s b _ k h;exact⟨h,k⟩
 | raise e=>intro Q E p s b _ k h;exact⟨h,k⟩
 | unsupported w=>intro Q E p s b _ k h;exact h
 | finish e=>intro Q E p s b _ k h;exact h
 | rule t k i=>intro Q E p s b c d h;exact i () Q E p s b c d h
 | «at» p k i=>intro Q E p s b c d h;exact i () Q E _ s b c d h
 | load a p k i =>
  intro Q E p s b c d h
  obtain⟨o,e,h⟩:=h
  exact⟨o,e,i o Q E p s b (c o) d h⟩
 | update a p g k i =>
  intro Q E p s b c d h
  obtain⟨e,h⟩:=h
  exact⟨e,i () Q E p _ b c.2 (d.trans (.update s.heap a c.1)) h⟩
 | loadIfAlive a k i=>intro Q E p s b c d h;exact i _ Q E p s b (c _) d h
 | point l k i=>intro Q E p s b c d h;exact i () Q E p s b c d h
 | register a k i=>intro Q E p s b c d h;exact h
 | alloc o k i=>intro Q E p s b c d h;exact i _ Q E p _ b (c _) (d.trans (.push s.heap o)) h
 | fresh k i=>intro Q E p s b c d h;exact i _ Q E p _ b (c _) d h
 | ask k i=>intro Q E p s b c d h;exact i _ Q E p s b (c _) d h
 | handled o k i=>intro Q E p s b c d h;exact i _ Q E p s b (c _) d h
 | stack k i=>intro Q E p s b c d h;exact i _ Q E p s b (c _) d h
 | thread k i=>intro Q E p s b c d h;exact i _ Q E p s b (c _) d h
 | choose s n k i=>intro Q E p s b c;exact c.elim
 | os q l k i=>intro Q E p s b c;exact c.elim
 | call c h g l k i=>intro Q E p s b c;exact c.elim
 | newGen c k i=>intro Q E p s b c;exact c.elim
 | genState g k i=>intro Q E p s b c;exact c.elim
 | resume g r l k i=>intro Q E p s b c;exact c.elim
 | yield v g l k i=>intro Q E p s b c;exact c.elim
 | fork c k i=>intro Q E p s b c;exact c.elim
 | await a f d l k i=>intro Q E p s b c;exact c.elim
def zpn {α:Type}{t:Sem α}{Q:α->Shared->Prop}{E:yL}{s:zj}(c:KD t)(h:wpAny M A t Q E s) :
 wpAny M A t (λa b=>Q a b/\DK s.heap b.heap) (λe b=>E e b/\DK s.heap b.heap) s:=fun Γ p d=>zqX M Γ t _ _ p s s c (.refl _) (h Γ p d)
def Vw {α:Type}{t:Sem α}{Q Q':α->Shared->Prop}{s:zj}(c:KD t)(h:wpAny M A t Q E s)(k:∀ a b,Q a b->DK s.heap b.heap->Q' a b):wpAny M A t Q' E s :=
 p8 (zpn c h) (λa b x=>k a b x.1 x.2) λ_ _ x=>x.1
def zdS (v:Value):KD (fieldsOf v):=by
 unfold fieldsOf
 split
 .refine yd (λ_=>trivial) λo=>?_
  split <;> trivial
 .trivial
def Wx (v:Value)(i:Nat):KD (field v i):=by
 unfold field
 refine yd (zdS v) λa=>?_
 split <;> trivial
def VZ (f:zP->zP)(o:Obj):(Obj.mapFields f o).dict=o.dict:=by
 obtain⟨c,d,x,s⟩:=o
 cases x <;> rfl
def ZJ (v:Value)(i:Nat)(x:Value):KD (setField v i x):=by
 unfold setField
 split
 .unfold updateField
  refine yd (λ_=>trivial) λo=>?_
  split
  .split
   .exact⟨VZ _,trivial⟩
   .trivial
  .trivial
 .trivial
def Y4 (e:Value)(f:x4):KD (setFlight e f):=by
 unfold setFlight
 refine yd (Wx e 1) λa=>?_
 split
 .exact ZJ _ _ _
 .trivial
def zcR (ty:String)(b:zt):KD (newFields ty b):=by
 have a:KD (newObjAsIs (Value.type ty) (Data.fields b.toArray)):=yd (λ_=>trivial) λ_=>trivial
 unfold newFields newObj
 show KD (if b.toArray.size>sizeLine+2 then _ else _)
 by_cases h:b.toArray.size>sizeLine+2
 .rw[u9 h]
  exact yd (show KD (unsupported (α:=Unit) _)from trivial) λ_=>a
 .rw[t9 h]
  exact a
def zc7 (a b c d e:Value)(f:zt):KD (EntryCells.newEntry a b c d e f):=zcR _ _
def zjq (f:Addr)(b:Bool):KD (entryPlaceOf f b):=by
 unfold entryPlaceOf
 refine yd (λ_=>trivial) λa=>?_
 split <;> trivial
def zcN:KD frameEnvs:=by
 unfold frameEnvs
 exact yd (λ_=>trivial) λ_=>trivial
def zlf:∀ l:List Env,KD (readyFrames l):=by
 intro l
 induction l with
 | nil=>trivial
 | cons env outer a =>
  unfold readyFrames
  split
  .refine yd (λ_=>trivial) λo=>?_
   split
   .trivial
   .refine yd ?_ λb=>yd ?_ λbk=>yd ⟨λo=>rfl,trivial⟩ λ_=>a
    .unfold behindIsImport
     split
     .trivial
     .split
      .trivial
      .exact yd (Wx _ _) λ_=>trivial
    .unfold keptBack
     split
     .split
      .trivial
      .unfold underTheClaimsCaller
       exact yd (λ_=>trivial) λ_=>trivial
     .trivial
  .trivial
def zfC (env:Env):KD (PySem.frameOf env):=by
 unfold PySem.frameOf
 refine yd zcN λl=>yd ?_ λo=>?_
 .unfold frameObject
  split
  .trivial
  .exact yd (zlf _) λ_=>trivial
 .split <;> trivial
def XW (e:Value)(env:Env):KD (noteFrame e env):=by
 unfold noteFrame
 split
 .rename_i f c
  refine yd (Wx e 1) λa=>?_
  have b:KD (do setField e 1 (<- EntryCells.newEntry a (<- PySem.frameOf env) .none (rawInt f) .none (<- entryPlaceOf f (a != .none)))):=yd (zfC env) λ_=>yd (zjq _ _) λ_=>yd (zc7 _ _ _ _ _ _) λ_=>ZJ _ _ _
  by_cases h:(a != Value.none)=true
  .dsimp only
   rw[u9 h]
   refine yd (Wx a 3) λx=>?_
   split
   .trivial
   .exact yd (ZJ _ _ _) λ_=>b
  .dsimp only
   rw[t9 h]
   exact b
 .trivial
def zaw (env:Env)(e:Value):KD (leaving env e):=yd (XW e env) λ_=>Y4 e none
end L2
namespace L2
open PySem PySem.Spec PyProof.Rows
open Sem (wp)
section
variable {prog:zH}{w:World}{A:zI}{E:yL}{h:Heap}{g:Array GenState}{d:Drawn}{t:Nat}{os:OsState}
 {nm q:Str} {C N fI:Addr} {bs bm:zt} {hdct:Bool} {sn:zJ} {sub:zt} {ab:Bool} {col:Option Bool} {dd:x4} {k0 k1 k2 k3 k5:Option Value} {mN:w1} {us:zt} {oI:Obj}
end
end L2
namespace L2
open PySem PySem.Spec PyProof.Rows
section
variable {prog:zH}{w:World}{A:zI}{E:yL}{s:zj}{env:Env}
 {nm q:Str} {C N fI:Addr} {bs bm:zt} {hdct:Bool} {sn:zJ} {sub:zt} {ab:Bool} {col:Option Bool} {dd:x4} {k0 k1 k2 k3 k5:Option Value} {mN:w1} {oI:Obj}
end
section
variable {P:zH}{w:World}{H H':Hp}{h h':Heap}{a:Addr}{o:HO}
def yQ.ex (x:yQ P w H h a o):∃ u,h.get? a=some u:=by
 cases o with
 | lst d=>obtain⟨_,_,_,_,e⟩:=x;exact⟨_,e⟩
 | tup d=>obtain⟨_,_,_,c,e,_⟩:=x;exact⟨_,e⟩
 | dK b=>obtain⟨_,_,_,_,o,_,_,e,_⟩:=x;exact⟨_,e⟩
 | dT b=>obtain⟨_,_,_,_,o,_,_,e,_⟩:=x;exact⟨_,e⟩
 | set S n=>obtain⟨o,_,_,_,e,_⟩:=x;exact⟨_,e⟩
 | ins C l g=>obtain⟨_,_,_,e,_⟩:=x;exact⟨_,e⟩
 | own y=>exact x
 | xd g=>obtain⟨_,⟨_,_,_,e,_⟩,_⟩:=x;exact⟨_,e⟩
 | rng j k=>obtain⟨_,_,_,e⟩:=x;exact⟨_,e⟩
 | frz c u=>obtain⟨e,_⟩:=x;exact⟨_,e⟩
 | tbl i=>obtain⟨_,e,_⟩:=x;exact⟨_,e⟩
 | met f y=>exact⟨_,(show h.get? a=some _ from x)⟩
 | ext φ=>obtain⟨_,⟨_,e⟩,_⟩:=x;exact⟨_,e⟩
theorem HOk.stays (x:HOk P w H h)(k:∀ b u,H b≠none->h.get? b=some u->h'.get? b=some u):HOk P w H h':=λa o e =>
 (x a o e).stay (λb u c q=>k b u (by
  rcases c with rfl | c
  .rw[e];intro z;cases z
  .rw[c];intro z;cases z) q) (λ_ q=>q) λ_ _ q=>q
end
structure Cov (outer:List Env) (H:Hp) (h:Heap) (H':Hp) (h' B:Heap):Prop where
 old:∀ b o,h.get? b=some o->H b=none->b∉frs outer->B.get? b=some o
 there:∀ b o,h.get? b=some o->b∉frs outer->∃ o',B.get? b=some o'
 new:∀ b o,H' b≠none->h'.get? b=some o->B.get? b=some o
def Wh (h:Heap)(a:Addr)(c:x4):Prop:=∃ b,h.get? a=some b/\b.dict=c
def Wh.stay {c:Heap}{g:x4}(d:Wh h a g)(k:DK h c)(e:∃ i,c.get? a=some i):Wh c a g:=by
 obtain⟨i,l,j⟩:=d
 obtain⟨b,f⟩:=e
 exact⟨b,f,(k.of l f).trans j⟩
def Air (P:zH)(w:World):CXT:=λouter H s E e a =>
 ∃ (b C t:Addr) (c:x4) (H':Hp) (B:Heap),e=.ref b/\a.os=s.os/\AllBare a.gens/\Un (frs outer) [] H H' s.heap a.heap/\HOk P w H' a.heap /\
  Heap.FlyingW B outer b (.ref C) (.ref t) a.heap/\Cov outer H s.heap H' a.heap B/\Wh a.heap b c/\E (.ref C) c H'
section
variable {X:Cx}{pins:xn}{σ:St}{H H':Hp}{s s':zj}{E:XK}{e:Value}{M:Model}{E2:yL}
def Inv.airUn (l:X.ex=[])(I:Inv X pins σ H s){g B:Heap}(J:Inv X pins σ H' s')(d:Cov X.stack H s.heap H' s'.heap B)(i:B.StaysIn g)(r:g.FunFrames B X.outer)(D:s'.heap.UpToSlots g) :
 Un X.fs [] X.H₀ H' X.s₀.heap g/\HOk X.prog X.w H' g/\Cov X.outer X.H₀ X.s₀.heap H' g B:=by
 have m:∀ b o,X.s₀.heap.get? b=some o->b≠X.env.locals:=λb o e=>k7 (j2 (q4 e) I.ok.above)
 have h:∀ b o,X.s₀.heap.get? b=some o->b∉X.fs->b∉frs X.stack:=λb o e n z=>(t6.mp (I.stkSub b z)).elim (m b o e) n
 have nx:∀ b:Addr,b∉X.ex:=by rw[l];simp
 have c:Cov X.outer X.H₀ X.s₀.heap H' g B:=by
  refine⟨λb o e n a=>d.old b o (I.base.keep b o e n a (nx b)) (I.base.free b o e n (nx b)) (h b o e a),λb o e a=>?_,λb o a e=>?_⟩
  .obtain⟨j,p⟩:=I.base.there b o e (nx b)
   exact d.there b j p (h b o e a)
  .cases q:H' b with
   | none=>exact absurd q a
   | some u =>
    obtain⟨t,x⟩:=(J.hok b u q).ex
    have z:=d.new b t a x
    have v:=i b t z
    rw[e]at v
    cases v
    exact z
 refine⟨⟨λb o e n a _=>i b o (c.old b o e n a),λb o e n a _=>?_,λb o e n _=>J.base.free b o e n (nx b),λb o e _=>?_,J.base.tups,J.base.frzs,J.base.tbls⟩,J.hok.stays λb u a E=>i b u (d.new b u a E),c⟩
 .obtain⟨F,y⟩:=J.base.slot b o e n a (nx b)
  obtain⟨_,w,f,C⟩:=I.ok.funs.mem a
  rw[e]at f
  cases f
  obtain⟨k,A⟩:=D b _ y C
  exact⟨k,A⟩
 .by_cases a:b∈X.fs
  .obtain⟨_,w,f,_⟩:=r.mem a
   exact⟨w,f⟩
  .obtain⟨j,p⟩:=c.there b o e a
   exact⟨j,i b j p⟩
def zpN (h:X.stack=X.env::X.outer)(r:X.env.frame=some X.env.locals)(j:X.ex=[])(I:Inv X pins σ H s)(a:Air X.prog X.w X.stack H s E e s') :
 wpAny M X.A (leaving X.env e) (λ_ d=>Air X.prog X.w X.outer X.H₀ X.s₀ E e d) E2 s':=by
 obtain⟨n,C,t,q,H',B,rfl,os,c,x,l,o,k,y,A⟩:=a
 have J:Inv X pins σ H' s':=I.call' (ch:=[]) os x l c (λb z=>nomatch z)
 rw[h]at o
 refine Vw (zaw _ _) (wpAny_leaves_onW (Q:=λ_ d=>∃ f,d={ s' with heap:=f }/\Heap.FlyingW B X.outer n (.ref C) (.ref t) f/\s'.heap.UpToSlots f) (by rw[I.ok.frames,h]) r o λf g m=>⟨f,rfl,g,m⟩) ?_
 rintro _ _ ⟨f,rfl,g,m⟩ D
 obtain⟨w,u,v⟩:=I.airUn j J k g.1 g.2.2.1 m
 obtain⟨p,i,_⟩:=g.there
 exact⟨n,C,t,q,H',B,rfl,os.trans I.os,c,w,u,g,v,y.stay D ⟨p,i⟩,A⟩
end
def ze7 {P:zH}{w:World}{K:zz}{g:w1}{c:Heap}{N:zJ}{d:Str}{b:Scope}{f:Addr}{i:Value}{A:zI}{outer:List Env}{s:zj}{H:Hp}{E:XK} :
 Xs (Air P w) (Wl (Air P w) P w K g c N d b f i A outer s H E) E:=λh σ H1 j e k I a =>
 zpN (X:=Wl (Air P w) P w K g c N d b f i A outer s H E) rfl rfl rfl I a
def zhi {P:zH}{w:World}{K:zz}{y:w1}{i:Heap}{N:zJ}{j:Str}{d:Scope}{f:Addr}{M:Value}{A:zI}{outer:List Env}{s:zj}{H:Hp}{E:XK}
 {k:xn} {σ:St} {H1:Hp} {g:zj} {l:Heap} {p C:Addr} {args:zt}
 (I:Inv (Wl (Air P w) P w K y i N j d f M A outer s H E) k σ H1 g) (O:Heap.MadeExcOf g.heap l p (.ref C) args) (T:E (.ref C) none H1) :
 (Wl (Air P w) P w K y i N j d f M A outer s H E).xe (.ref p) { g with heap:=l }:=by
 let X:=Wl (Air P w) P w K y i N j d f M A outer s H E
 have I:Inv X k σ H1 g:=I
 have c:∀ b o,g.heap.get? b=some o->l.get? b=some o:=O.keeps
 have R:∀ env∈X.stack,∀ a,env.frame=some a->a∈frs X.stack:=λenv he a ha=>u2T.mpr ⟨env,he,ha⟩
 have J:Inv X k σ H1 { g with heap:=l }:=by
  have:=I.un (t':=g.toks) (H':=H1) (h':=l) (Un.kept c) (I.hok.kept c)
  exact this
 show wpAny (model P w) X.A (leaving X.env (.ref p)) (λ_ m=>Air P w outer H s E (.ref p) m) _ { g with heap:=l }
 refine Vw (zaw _ _) (wpAny_leaves_madeW (Q:=λ_ m=>∃ n t,m={ g with heap:=n }/\Heap.FlyingW (PySem.W.hideAll g.heap (frs X.stack)) outer p (.ref C) (.ref t) n/\l.UpToSlots n) (base:=PySem.W.hideAll g.heap (frs X.stack)) (h:=g.heap) (L:=X.env.locals) (outer:=outer) (I.ok.frames) rfl (λb o q=>PySem.W.of_hideAll _ q) (PySem.W.funFrames_hide I.stack R) O λn t r x2 x3 B=>⟨n,t,rfl,r,B⟩) ?_
 rintro _ _ ⟨n,t,rfl,r,B⟩ dk
 obtain⟨G,x,_⟩:=r.there
 have V:Wh n p none:=by
  obtain⟨Z,D,_⟩:=O.there
  exact Wh.stay (h:=l) ⟨_,D,rfl⟩ dk ⟨G,x⟩
 have F:Cov X.stack H1 g.heap H1 l (PySem.W.hideAll g.heap (frs X.stack)):=by
  refine⟨λb o e _ v=>u1s _ e v,λb o e v=>⟨o,u1s _ e v⟩,λb o v e=>?_⟩
  cases q:H1 b with
  | none=>exact absurd q v
  | some u =>
   obtain⟨G,S⟩:=(I.hok b u q).ex
   have z:=c b G S
   rw[e]at z
   cases z
   exact u1s _ S λz=>v (I.stkFree b z)
 obtain⟨Y,W,U⟩:=I.airUn (X:=X) rfl J F r.1 r.2.2.1 B
 exact⟨p,C,t,none,H1,_,rfl,I.os,I.bare,Y,W,r,U,V,T⟩
abbrev bmV:zt:=[.type "ValueError",.type "Exception",.type "BaseException",.type "object"]
structure XCls (K:zz) (mg:w1) (C:Addr) (x:Str):Prop where
 bound:mg x=some (.ref C)
 exc:W.excIn K C bmV "ValueError.__new__"=true
def znF {K:zz}{r:Heap}{g:zt}(X:K.In r)(q:W.excIn K C g a=true) :
 ∃ p N u q x h t d w e v m o k i j B,r.get? C=some (excClassObj u q C N x p h t d w e v m o k i j a)/\r.Ns N B/\B "__init__"=none/\OwnTail r g p:=by
 unfold W.excIn at q
 split at q
 .rename_i v L z I
  split at q
  .rename_i C' p m o k i n j y A
   simp only[r4,u2w,u0w]at q
   obtain⟨⟨⟨⟨⟨rfl,rfl⟩,b⟩,D⟩,c⟩,f⟩:=q
   obtain⟨u,x,H,J,F,G,t,d,w,e,E⟩:=L
   dsimp only at y b c f
   subst y b
   have s:z=#[m,o,k,i,some (.builtin n),j]:=by
    obtain⟨l⟩:=z
    simp only at A
    rw[A]
   subst s
   exact⟨p,J,u,F,x,G,t,d,w,e,v,m,o,k,i,j,_,X _ _ I,.of_isNs (W.isNs_of_in X c),W.nsMap_none_of_in X c f,W.tail_of_in X D⟩
  .cases q
 .cases q
def zkt {P:zH}{w:World}{K:zz}{l:w1}{b:Heap}{N:zJ}{c:Str}{a:Scope}{f:Addr}{F:Value}{A:zI}{outer:List Env}{s:zj}{H:Hp}{E:XK}{C:Addr}{x:Str}{U g m:Pos}
 (y:XCls K l C x) (R:Gl (Wl (Air P w) P w K l b N c a f F A outer s H E) x) (Q:(x == ("__debug__":Str))=false:=by decide) :
 PS (Wl (Air P w) P w K l b N c a f F A outer s H E) (.Raise (some (.Call (.Name x U) [] [] g)) none m) (λ_ _ H1=>E (.ref C) none H1):=by
 intro z V σ H1 D I h
 obtain⟨tl,N',p,q,J,d,n,i,B,j,r,v,G,u,o,t,L,M,S,k,T⟩:=znF I.ok.mod.kin y.exc
 refine wpAny_Raise_call_subU (C:=C) (nm:=p) (q:=q) (N:=N') (bs:=J) (bm:=tl) (hdct:=d) (sn:=n) (sub:=i) (ab:=B) (col:=j) (dd:=r) (k0:=v) (k1:=G) (k2:=u) (k3:=o) (k5:=t)
  u1k (by decide) u1k (mN:=L) (T.hasType u1k.hasBase) (I.ok.hd rfl) rfl k (XM I R y.bound ⟨rfl,?_⟩ Q)
 exact evalArgs_empty ⟨rfl,g9 _,I.bk _ _ M,S.keeps I.bk,T.keeps I.bk,λW e O=>zhi I O h⟩
end L2
namespace Dl
open PySem L2
def pay (j:Nat):Option (List (Str × V)):=match j/16%4 with
 | 0=>none
 | 1=>some [("at",.int ((j/64:Nat)-1))]
 | 2=>some [("row",.int ((j/64:Nat)-1))]
 | _=>some [("many",.int ((j/64/1024:Nat):Int)),("most",.int ((j/64%1024:Nat):Int))]
variable [KK]
section
variable (E:XK)(cl:Nat->Addr)
def EJ (j:Nat)(H:Hp):Prop:=match pay j with
 | none=>E (.ref (cl j)) none H
 | some b=>∀ a,H a=none->E (.ref (cl j)) (some a) (upd H a (.xd b))
def Wi (F H:Hp)(j:Nat):Prop:=∀ F' H',Gr F H F' H'->EJ E cl j H'
def RXE (t:TE)(a:znX):Prop:=∀ (σ:St) (ρ:Ev) (F H:Hp) (j:Nat) (Q:VK),yE F H->VAt F ρ σ->a ρ=some j->Wi E cl F H j->t σ H Q
def RXS (t:TS)(a:vz):Prop:=∀ (Fb Hb F H:Hp) (ρ:SE) (σ:St) (D':zbz) (j:Nat),Rl Fb Hb F H ρ σ->a ρ=some j->Wi E cl Fb Hb j->t D' σ H
def XE (X:Cx)(e:Expr)(a:znX):Prop:=∃ t,PE X e t/\RXE E cl t a
def XS (X:Cx)(b:Stmt)(a:vz):Prop:=∃ t,PS X b t/\RXS E cl t a
def XSs (X:Cx)(a:Xp)(b:vz):Prop:=∃ t,PSs X a t/\RXS E cl t b
end
section
variable {E:XK}{cl:Nat->Addr}{X:Cx}{a b c e:Expr}{es:xK}{st:Stmt}{sts:Xp}{pos pos':Pos}
def Wi.grow (w:Wi E cl F H j)(g:Gr F H F1 H1):Wi E cl F1 H1 j:=λF' H' a=>w F' H' (g.trans a)
def Wi.out (w:Wi E cl Fb Hb j)(a:Rl Fb Hb F H ρ σ):Wi E cl (gOf ρ σ F H) H j:=λF' H' g=>w F' H' (a.out g)
def spX (cl:Nat->Addr)(m:Nat)(r:zrd):Sp:=λb H _ E=>∃ a j F,a.length=m/\yE F H/\AtL F a b/\r a=some j/\Wi E cl F H j
def zjg (m:Nat)(r:zrd)(f:y4):znX:=fun ρ=>(f ρ).bind λa=>if a.length=m then r a else none
def zgG {k:Nat} {f:Addr} {g:zJ} (F:vU X.prog X.w X.K X.mg X.base (Air X.prog X.w) k f d g (spX cl m r)) (J:Xs (Air X.prog X.w) X E) (K:x5 k X.A) (B:Gl X x) (n:X.mg x=some (.ref f)) (v:W.keepIn X.K (.ref f)=true) (o:VQ X.K d g []) (z:AD X (e::es) h) (b:(x == ("__debug__":Str))=false:=by decide) (I:starEach (e::es) X.env=(false,eval e X.env)::starEach es X.env:=by rfl) (c:(backTo pos (starEach es X.env)).any (·.1)=false:=by rfl) :
 XE E cl X (.Call (.Name x p) (e::es) [] pos) (zjg m r h):=by
 obtain⟨t,A,G⟩:=z
 refine⟨_,zc9 F K B n v o .nil J A b I c,fun σ ρ F0 H j Q s q e w=>?_⟩
 obtain⟨l,u,a⟩:=u0.mp e
 split at a <;> try cases a
 rename_i C
 refine G σ ρ F0 H l _ s q u λF1 H1 L i y=>?_
 exact⟨l,j,F1,C,i.fh,by rw[f6];exact y,a,w.grow i⟩
def zgU {b:znX}(h:XE E cl X e b)(c:swapsWith e none pos.line X.env=pure false:=by rfl):XS E cl X (.Expr e pos) (fun ρ=>b (visG ρ)):=by
 obtain⟨t,p,r⟩:=h
 exact⟨_,Vz p c,λFb Hb F H ρ σ D' j a e w=>r σ _ _ H j _ a.gh a.visG e (w.out a)⟩
noncomputable def xIf (t:Yk)(g h:vz):vz:=fun ρ=>match t (visG ρ) with
 | some true=>g ρ
 | some false=>h ρ
 | none=>none
def zoK {e f:Xp}{t:Yk}{g:vz}(n:TD X c t)(o:XSs E cl X e g)(i:XSs E cl X f h):XS E cl X (.If c e f pos) (xIf t g h):=by
 obtain⟨tc,p,m⟩:=n
 obtain⟨ta,r,s⟩:=o
 obtain⟨u,l,q⟩:=i
 refine⟨_,zna p r l,λFb Hb F H ρ σ D' j b k w=>?_⟩
 unfold xIf at k
 cases h:t (visG ρ) with
 | none=>rw[h]at k;cases k
 | some d =>
  rw[h]at k
  refine m σ _ _ H d _ b.gh b.visG h λF' H' g=>?_
  have a:=b.grow (b.back g).1
  cases d with
  | true=>rw[u9 rfl];exact s Fb Hb _ H' ρ σ D' j a k w
  | false=>rw[t9 u6];exact q Fb Hb _ H' ρ σ D' j a k w
def xNo:vz:=λ_=>none
def zjm:XS E cl X st xNo:=⟨_,zeA,λ_ _ _ _ _ _ _ _ _ h _=>by cases h⟩
def XT {g:vz}(h:XS E cl X st g):XSs E cl X [st] g:=let ⟨_,p,r⟩:=h;⟨_,XR p,r⟩
noncomputable def zm7 (c:vz)(g:zT)(a:vz):vz:=fun ρ=>match c ρ with
 | some j=>some j
 | none=>match g ρ with
  | .nx b=>a b
  | _=>none
def zjE {e:vz}{g:zT}(t:XS E cl X st e)(m:SD X st g)(o:XSs E cl X sts l):XSs E cl X (st::sts) (zm7 e g l):=by
 obtain⟨x,r,q⟩:=t
 obtain⟨n,y,v⟩:=m
 obtain⟨u,p,A⟩:=o
 have d:PS X st (λD σ H=>x D σ H\/n D σ H):=λa s σ H D I h=>h.elim (r a s σ H D I) (y a s σ H D I)
 refine⟨_,wH d p,λFb Hb F H ρ σ D' j i k w=>?_⟩
 unfold zm7 at k
 cases c:e ρ with
 | some C =>
  rw[c]at k
  cases k
  exact .inl (q Fb Hb F H ρ σ _ j i c w)
 | none =>
  rw[c]at k
  dsimp only at k
  cases b:g ρ with
  | nx z =>
   rw[b]at k
   refine .inr (v Fb Hb F H ρ σ _ i ?_)
   rw[b]
   exact λF' H' B f=>A Fb Hb F' H' z B D' j f k w
  | rt _=>rw[b]at k;cases k
  | bk _=>rw[b]at k;cases k
  | ct _=>rw[b]at k;cases k
  | no=>rw[b]at k;cases k
def zcf {g:vz}(h:XS E cl X st g):XSs E cl X (st::sts) g:=by
 obtain⟨t,p,r⟩:=h
 exact⟨_,wH p (λ_ _ _ _ _ _ h=>(h:False).elim),λFb Hb F H ρ σ D' j a k w=>r Fb Hb F H ρ σ _ j a k w⟩
end
def zhM (j:Nat):vz:=λ_=>some j
def zeQ {w:World} {g:w1} {N:zJ} {f:Addr} {cl:Nat->Addr} (k:XCls K g (cl j) x) (l:Gl (Wl (Air P w) P w K g c N b a f i A outer s H E) x) (o:(x == ("__debug__":Str))=false:=by decide) (n:pay j=none:=by rfl) :
 XS E cl (Wl (Air P w) P w K g c N b a f i A outer s H E) (.Raise (some (.Call (.Name x p) [] [] d)) none h) (zhM j) :=
 ⟨_,zkt k l o,λFb Hb F H ρ σ D' q m e w=>by
  cases e
  have z:=w F H m.gr
  unfold EJ at z
  rw[n]at z
  exact z⟩
noncomputable def fnX (n:Nat)(b:vz)(a:zk):Option Nat:=b (a.map .v++List.replicate (n-a.length) .no)
def zgt {w:World}{g:Heap}{f:Addr}{N ps:zJ}{k:Nat}{gx:vz}(Fu:Fun K x b i f n)(S:wv N ps (zp i))(v:∀ (c:Value) (A:zI) (outer:List Env) (s:zj) (H:Hp) (E:XK),x5 k (A.deeper (PyProof.Rows.envOfC b (zp i) s.heap.objs.size f c))->XSs E cl (Wl (Air P w) P w K o g N b (zp i) f c A outer s H E) (yV i) gx) :
 vU P w K o g (Air P w) (k+1) f n ps (spX cl ps.length (fnX N.length gx)):=by
 obtain⟨J,L,kV,D,I,M,c,ct,B,rfl,y,m⟩:=Fu.ex
 refine zmS y m S (λz H Q E h=>?_) λA outer s H z Q E G l=>?_
 .obtain⟨C,d,F,u,_,a,_⟩:=h
  rw[a.length];exact u
 .obtain⟨C,j,F,u,sm,a,e,q⟩:=l
  obtain⟨t,p,r⟩:=v c A outer s H E G
  exact⟨t,p,r F H F H _ _ _ j (Ww sm a) e q⟩
end Dl
namespace L2
open PySem PySem.Spec PyProof.Rows
section
variable {X:Cx}{pins:xn}{σ:St}{H H':Hp}{s s':zj}{E:XK}{e:Value}{E2:yL}{B h3:Heap}
def Inv.caught (I:Inv X pins σ H s)(os:s'.os=s.os)(g:AllBare s'.gens)(f:Un (frs X.stack) [] H H' s.heap s'.heap)(v:HOk X.prog X.w H' s'.heap)(d:Cov X.stack H s.heap H' s'.heap B)
 (q:B.StaysIn h3) (j:h3.FunFrames B X.stack) (A:s'.heap.UpToSlots h3):Inv X pins σ H' { s' with heap:=h3 }:=by
 obtain⟨N,w,p,l,h⟩:=s'
 have L:h=s.os:=os
 subst L
 have nil:∀ b:Addr,b∉([]:xx):=λb z=>nomatch z
 show Inv X pins σ H' { s with heap:=h3,gens:=w,drawn:=p,toks:=l }
 refine I.step (s:=s) (g':=w) (d':=p) (t':=l) (ch:=[]) (λb z=>nomatch z) (λb o x c _ e n=>q b o (d.old b o e n λz=>(t6.mp (I.stkSub b z)).elim x c)) (λb o x c _ e n=>?_) (λb o _ e n=>f.free b o e n (nil b)) (λb o _ e=>?_) f.tups f.frzs f.tbls (λm C=>?_) (v.stays λb u c M=>q b u (d.new b u c M)) g
 .obtain⟨D,i⟩:=f.any e n (nil b)
  obtain⟨_,y,a,k⟩:=I.funs.mem c
  rw[e]at a
  cases a
  obtain⟨t,E⟩:=A b _ i k
  exact⟨t,E⟩
 .by_cases c:b∈frs X.stack
  .obtain⟨_,y,a,_⟩:=j.mem c
   exact⟨y,a⟩
  .obtain⟨h,K⟩:=d.there b o e c
   exact⟨h,q b h K⟩
 .obtain⟨o,G,F,J,k,r⟩:=C
  obtain⟨D,i⟩:=f.any J I.free (nil _)
  exact A.ns ⟨_,G,F,i,k,r⟩
def zfZ (l:X.stack=X.env::X.outer)(V:X.env.frame=some X.env.locals)(J:X.ex=[])(I:Inv X pins σ H s)(a:Air X.prog X.w X.stack H s E e s') (k:∀ (b C t:Addr) (w:x4) (H':Hp) (B h3:Heap),E (.ref C) w H'->Wh h3 b w->H' b=none->(∀ j,X.s₀.heap.get? b=some j->False)->(∀ p∈X.pn++pins,p.1≠b)->Heap.FlyingW B X.stack b (.ref C) (.ref t) h3->(∀ x:Heap,B.StaysIn x->x.FunFrames B X.stack->h3.UpToSlots x->Inv X pins σ H' { s' with heap:=x }) ->
 e=.ref b->wpAny M X.A (handleBy (.ref b) X.env U) Q E2 { s' with heap:=h3 }) :
 wpAny M X.A (noteFrame e X.env) (λ_ s₂=>wpAny M X.A (setFlight e none) (λ_ Z=>wpAny M X.A (handleBy e X.env U) Q E2 Z) E2 s₂) E2 s':=by
 obtain⟨b,C,t,w,H',B,rfl,os,o,un,y,F,m,di,Y⟩:=a
 have K:X.A.frames=some (X.env::X.outer):=by rw[I.ok.frames,l]
 have r:=F
 rw[l]at r
 refine Vw (XW _ _) (wpAny_looks_onW (Q:=λ_ i=>∃ f,i={ s' with heap:=f }/\Heap.HeldW B (X.env::X.outer) b (.ref C) (.ref t) X.env.locals f/\s'.heap.UpToSlots f) K V r λf c n=>⟨f,rfl,c,n⟩) ?_
 rintro _ _ ⟨f,rfl,c,n⟩ P
 refine Vw (Y4 _ _) (wpAny_landsW (Q:=λ_ i=>∃ h3,i={ s' with heap:=h3 }/\Heap.FlyingW B (X.env::X.outer) b (.ref C) (.ref t) h3/\f.UpToSlots h3) (s:={ s' with heap:=f }) c λh3 d h=>⟨h3,rfl,d,h⟩) ?_
 rintro _ _ ⟨h3,rfl,d,h⟩ N
 have R:Wh h3 b w:=by
  obtain⟨O,G,_⟩:=d.there
  exact di.stay (DK.trans P N) ⟨O,G⟩
 rw[<-l]at d
 have A:B.get? b=none:=F.2.1
 have S:b∉frs X.stack:=λz=>by
  obtain⟨_,T,v,L⟩:=F.2.2.1.mem z
  obtain⟨oe,vs,_,_,_,he,_,W,_⟩:=F.2.2.2
  rw[he]at v
  cases v
  exact L vs W
 have g:∀ j,s.heap.get? b=some j->False:=λj z=>by
  obtain⟨T,D⟩:=m.there b j z S
  rw[A]at D
  cases D
 refine k b C t w H' B h3 Y R ?_ (λj z=>?_) (λp hp z=>?_) d (λx b1 b2 b3=>I.caught os o un y m b1 b2 ((n.trans h).trans b3)) rfl
 .cases q:H' b with
  | none=>rfl
  | some u =>
   obtain⟨O,ho⟩:=(y b u q).ex
   have z:=m.new b O (by rw[q];intro z;cases z) ho
   rw[A]at z
   cases z
 .obtain⟨T,D⟩:=I.base.there b j z (by rw[J];intro z;cases z)
  exact g T D
 .exact g p.2 (z ▸ (I.pin p hp).1)
end
abbrev Cx.held (X:Cx)(e:Value):Cx:={ X with A:=X.A.mark (some e),calm:=false }
section
variable {X:Cx}{pins:xn}{σ:St}{H H':Hp}{s s':zj}{E:yL}{e:Value}{M:Model}{A:zI}
def Cx.Ok.held (ok:X.Ok)(e:Value):(X.held e).Ok :=
 ⟨ok.mod,ok.kind,ok.glob,ok.blt,ok.above,ok.inj,ok.has,ok.cab,(λz=>by cases z),ok.frames,ok.stk,ok.exf,ok.bs,ok.bsz,ok.noex,ok.exfs,ok.funs,ok.frf⟩
def Inv.held (I:Inv X pins σ H s)(e:Value):Inv (X.held e) pins σ H s:=⟨I.ok.held e,I.os,I.bare,I.base,I.loc,I.cell,I.free,I.freeC,I.pin,I.hok,I.len⟩
def Inv.unheld (ok:X.Ok)(I:Inv (X.held e) pins σ H s):Inv X pins σ H s:=⟨ok,I.os,I.bare,I.base,I.loc,I.cell,I.free,I.freeC,I.pin,I.hok,I.len⟩
def ZX {i:Nat}{Q:Unit->Shared->Prop}(I:Inv X pins σ H s)(hN:X.N.Nodup)(O:X.N[i]?=some x)(S:X.env.scope.names.lookup x=some .local)(h:∀ s',Inv X pins (σ.set i none) H s'->Q () s'):wpAny M A (do bindName X.env x .none;unbindBehindTheSuite X.env x C) Q E s:=by
 obtain⟨m,K,hl⟩:=id I.loc
 have r:(X.env.scope.kind == .class||(X.env.scope.kind == .module&&X.env.locals != X.env.globals))=false:=by rw[I.ok.kind];rfl
 have J:i<σ.length:=by rw[I.len];exact(t5.mp O).1
 have t:=I.cne
 refine wpAny_nameGoes_keeps S K r λh' v G g=>?_
 obtain⟨oL,_,_,Z,_⟩:=id K
 have a:HOk X.prog X.w H h':=λb Y e=>by
  refine(I.hok b Y e).stay (λc L B q=>(g.2 c ?_).trans q) (λ_ q=>q) λ_ _ q=>q
  rintro rfl
  rcases B with rfl | B
  .rw[I.free]at e;cases e
  .rw[I.free]at B;cases B
 have f:∀ b o,X.s₀.heap.get? b=some o->b≠X.env.locals:=λb o e=>k7 (j2 (q4 e) I.ok.above)
 refine h _ ⟨I.ok,I.os,I.bare,⟨λb o e n D u=>?_,λb o e n D u=>?_,I.base.free,λb o e u=>?_,I.base.tups,I.base.frzs,I.base.tbls⟩,⟨_,G,λj y T l w W=>?_⟩,λy c e=>?_,I.free,I.freeC,λp hp=>?_,a,by simpa using I.len⟩
 .exact(g.2 b (f b o e)).trans (I.base.keep b o e n D u)
 .obtain⟨R,l⟩:=I.base.slot b o e n D u
  exact⟨R,(g.2 b (f b o e)).trans l⟩
 .obtain⟨V,l⟩:=I.base.there b o e u
  exact⟨V,(g.2 b (f b o e)).trans l⟩
 .by_cases F:j=i
  .subst F
   rw[g6 J]at w
   cases w
  .rw[k6 (u0p F)]at w
   obtain⟨u',P,q⟩:=hl j y T l w W
   refine⟨u',P,?_⟩
   rcases q with ⟨k,e⟩ | ⟨k,c,e,z⟩
   .refine .inl ⟨k,?_⟩
    have:y≠x:=λe=>F (zaL hN l (e ▸ O))
    simp[this,e]
   .exact .inr ⟨k,c,e,z.sameBut g (t y c e)⟩
 .obtain⟨L,z⟩:=I.cell y c e
  exact⟨L,z.sameBut g (t y c e)⟩
 .obtain⟨e,n,N,U,d⟩:=I.pin p hp
  exact⟨(g.2 p.1 N).trans e,n,N,U,d⟩
def zhf (a C:Addr)(c:x4):HO:=.ext λh=>∃ b,h.get? a=some b/\b.cls=.ref C/\b.dict=c/\W.notCls b=true
def Inv.track {a:Addr}{o:HO}{A:Obj}{K:zP}(I:Inv X pins σ H s)(i:H a=none)(C:s.heap.get? a=some A)(y:A.data=.fields K)(E:∀ J,X.s₀.heap.get? a=some J->False)(L:∀ p∈X.pn++pins,p.1≠a)
 (t:yQ X.prog X.w (upd H a o) s.heap a o):Inv X pins σ (upd H a o) s:=by
 have w:X.env.locals≠a:=by
  rintro rfl
  obtain⟨m,⟨N,Q,O,j,l,_⟩,_⟩:=I.loc
  rw[C]at j
  cases j
  rw[y]at l
  cases l
 have r:∀ x c,X.env.cells.lookup x=some c->c≠a:=λx c e=>by
  rintro rfl
  obtain⟨v,P,g,k⟩:=I.cell x c e
  rw[C]at g
  cases g
  rw[y]at k
  cases k
 refine⟨I.ok,I.os,I.bare,⟨I.base.keep,I.base.slot,λb u e n M=>?_,I.base.there,λb B e=>?_,λb u v e=>?_,λb D e=>?_⟩,I.loc,I.cell,?_,λx c e=>?_,λp hq=>?_,λb u e=>?_,I.len⟩
 .rw[zn (λz:b=a=>E u (z ▸ e))]
  exact I.base.free b u e n M
 .have f:=I.base.tups b B e
  rw[zn (zg f i)]
  exact f
 .have f:=I.base.frzs b u v e
  rw[zn (zg f i)]
  exact f
 .have f:=I.base.tbls b D e
  rw[zn (zg f i)]
  exact f
 .rw[zn w]
  exact I.free
 .rw[zn (r x c e)]
  exact I.freeC x c e
 .obtain⟨e,n,F,G,d⟩:=I.pin p hq
  exact⟨e,by rw[zn (L p hq)];exact n,F,G,d⟩
 .by_cases c:b=a
  .subst c
   rw[zq]at e
   cases e
   exact t
  .rw[zn c]at e
   refine(I.hok b u e).stay (λ_ _ _ q=>q) (λc h=>?_) λc B h=>?_
   .rw[zn (zg h i)];exact h
   .rw[zn (zg h i)];exact h
end
abbrev Cx.pinned (X:Cx)(a:xn):Cx:={ X with pn:=X.pn++a }
section
variable {X:Cx}{pins ps:xn}{σ:St}{H H':Hp}{s s':zj}
def Cx.Ok.pinned (ok:X.Ok)(ps:xn):(X.pinned ps).Ok :=
 ⟨ok.mod,ok.kind,ok.glob,ok.blt,ok.above,ok.inj,ok.has,ok.cab,ok.hd,ok.frames,ok.stk,ok.exf,ok.bs,ok.bsz,ok.noex,ok.exfs,ok.funs,ok.frf⟩
def Inv.pinAll (I:Inv X pins σ H s):Inv (X.pinned pins) [] σ H s:=⟨I.ok.pinned pins,I.os,I.bare,I.base,I.loc,I.cell,I.free,I.freeC,λp a=>I.pin p (by rw[f6]at a;exact a),I.hok,I.len⟩
def Inv.unpin (ok:X.Ok)(I:Inv (X.pinned pins) ps σ H s):Inv X pins σ H s:=⟨ok,I.os,I.bare,I.base,I.loc,I.cell,I.free,I.freeC,λp a=>I.pin p (u0U _ a),I.hok,I.len⟩
end
abbrev zru (i:Nat)(D:zbz):zbz:={ nx:=fun σ H=>D.nx (σ.set i none) H,rt:=D.rt,bk:=fun σ H=>D.bk (σ.set i none) H,ct:=fun σ H=>D.ct (σ.set i none) H }
def exW (K:zz)(CS:Addr)(i n:Nat)(u:TS)(D:zbz):XK:=λcls b H'=>∃ C,cls=.ref C/\W.exmOne K (.ref C) (.ref CS)=some true/\∀ (a:Addr) (σ:St),σ.length=n->H' a=none->u (zru i D) (σ.set i (some (.ref a))) (upd H' a (zhf a C b))
def zoG {Y:Cx} {i:Nat} {k:Xp} {tb:XK->TS} (a6:Y.stack=Y.env::Y.outer) (hf:Y.env.frame=some Y.env.locals) (a1:Y.ex=[]) (N:Y.N.Nodup) (y:Y.N[i]?=some n) (r:Y.env.scope.names.lookup n=some .local) (hg:Gl Y x) (hm:Y.mg x=some (.ref CS)) (p:∀ (ps:xn) (W:yL) (E0:XK),Xs (Air Y.prog Y.w) ((Y.pinned ps).wish W) E0->PSs ((Y.pinned ps).wish W) body (tb E0)) (l:∀ d,PSs (Y.held (.ref d)).nox (b₀::k) u) (hd:(x == ("__debug__":Str))=false:=by decide) :
 PS Y.nox (.Try body [.ExceptHandler (some (.Name x np)) (some n) (b₀::k) O] [] [] a2) (λD σ H=>tb (exW Y.K CS i Y.N.length u D) D σ H):=by
 intro c s σ H D I h
 have ok:Y.Ok:=I.ok.unwish
 have IY:Inv Y c σ H s:=I.unwish
 refine wpAny_Try_except ?_
 refine p8 (p c _ (exW Y.K CS i Y.N.length u D) ?_ [] s σ H D (IY.pinAll.wish _) h) ?_ λe s₁ h=>h
 .intro a8 z H1 s1 e G I1 a
  have I1':Inv Y c z H1 s1:=I1.unwish.unpin ok
  refine zfZ (X:=Y) a6 hf a1 I1' a λd C t od H' B F hE a7 E h0 V w m ee=>?_
  obtain⟨C',ec,L,hu⟩:=hE
  cases ec
  have I3:Inv Y c z H' { G with heap:=F }:=m F w.1 w.2.2.1 (.refl _)
  obtain⟨ob,T,A⟩:=w.there
  have ty:PySem.W.Looks (model Y.prog Y.w) F (typeOf (.ref d)) (.ref C):=A ▸ (PySem.W.Looks.ld T).andThen .now
  refine wpAny_handleBy_cons (codeAny_handlers_test (XM (X:=Y.held (.ref d)) (I3.held (.ref d)) hg hm ?_ hd)) (by intro q;cases q)
  refine(PySem.W.exm_one (M:=model Y.prog Y.w) I3.kIn ty L).here ?_
  refine codeAny_handlers_suite_as ?_
  refine Vw (Y4 _ _) (wpAny_setFlight_noneW (Q:=λ_ a0=>∃ j,a0={ G with heap:=j }/\B.StaysIn j/\j.FunFrames B Y.stack/\j.TracedW B d (.ref C) (.ref t)/\∀ b o,F.get? b=some o->(∀ vs,o.data≠.fields vs)->j.get? b=some o) (s:={ G with heap:=F }) w.1 w.2.2.1 w.2.2.2.at λj k1 k2 Z S=>⟨j,rfl,k1,k2,Z,S⟩) ?_
  rintro _ _ ⟨j,rfl,k1,k2,Z,S⟩ a4
  have I4:Inv Y c z H' { G with heap:=j }:=m j k1 k2 λb o hb hn=>⟨o.slots,S b o hb hn⟩
  obtain⟨R,vs,_,_,_,P,a3,J,_⟩:=Z
  obtain⟨b0,K,a9⟩:=a7.stay a4 ⟨R,P⟩
  rw[P]at K
  cases K
  have a5:PySem.W.notCls R=true:=by unfold PySem.W.notCls;rw[J]
  have I5:Inv Y c z (upd H' d (zhf d C od)) { G with heap:=j }:=I4.track E P J h0 V ⟨⟨R,P,a3.1,a9,a5⟩,⟨R,P⟩,λh1 h2 ⟨o1,e1,e2⟩ kk=>⟨o1,kk o1 e1,e2⟩⟩
  refine zaF (X:=Y.held (.ref d)) (v:=.ref d) (I5.held (.ref d)) N y (.inl r) rfl (λs6 I6=>?_) (.inr r)
  refine p8 (l d c s6 _ _ (zru i D) (I6.wish _) (hu d z I4.len E)) (λf s7 q=>?_) λx s7 q=>q.elim
  cases f with
  | ret uv =>
   obtain⟨v,g,H7,I7,U,q⟩:=q
   exact ZX ((Inv.unheld (X:=Y) ok I7.unwish)) N y r λs8 I8=>⟨v,_,H7,I8.wish _,U,q⟩
  | next =>
   obtain⟨g,H7,I7,q⟩:=q
   exact ZX ((Inv.unheld (X:=Y) ok I7.unwish)) N y r λs8 I8=>⟨_,H7,I8.wish _,q⟩
  | brk =>
   obtain⟨g,H7,I7,q⟩:=q
   exact ZX ((Inv.unheld (X:=Y) ok I7.unwish)) N y r λs8 I8=>⟨_,H7,I8.wish _,q⟩
  | cont =>
   obtain⟨g,H7,I7,q⟩:=q
   exact ZX ((Inv.unheld (X:=Y) ok I7.unwish)) N y r λs8 I8=>⟨_,H7,I8.wish _,q⟩
 .intro f s₁ q
  cases f with
  | ret uv =>
   obtain⟨v,g,H7,I7,U,q⟩:=q
   exact⟨v,g,H7,(Inv.unpin (X:=Y) ok I7.unwish).wish _,U,q⟩
  | next =>
   obtain⟨g,H7,I7,q⟩:=q
   exact u1S ⟨g,H7,(Inv.unpin (X:=Y) ok I7.unwish).wish _,q⟩
  | brk =>
   obtain⟨g,H7,I7,q⟩:=q
   exact⟨g,H7,(Inv.unpin (X:=Y) ok I7.unwish).wish _,q⟩
  | cont =>
   obtain⟨g,H7,I7,q⟩:=q
   exact⟨g,H7,(Inv.unpin (X:=Y) ok I7.unwish).wish _,q⟩
end L2
namespace L2
open PySem PySem.Spec PyProof.Rows PySem.W PySem.Calls PySem.Builtin PySem.Builtin.Getset_descriptor
section
variable {prog:zH}{w:World}{A:zI}{E:yL}{K:zz}{h:Heap}{g:Array GenState}{d:Drawn}{t:Nat}{os:OsState}{a C:Addr}{o:Obj}
def Of (h:Heap)(a:Addr)(o:Obj)(C:Addr):Prop:=h.get? a=some o/\o.cls=.ref C
def Of.type (I:Of h a o C):Looks M h (typeOf (.ref a)) (.ref C):=I.2 ▸ (Looks.ld I.1).andThen .now
def zhK (X:K.In h) (e:findIn K (.ref C) b=some (some x)) (d:specialIn K x "__get__"=some (some c)) (f:takesIn K x=some true):Looks M h (Builtin.ObjectAttr.find (.ref a) (.ref C) b) (.bind c x):=by
 have L1:=looks_findIn (M:=M) X e
 have L2:Looks M h (Builtin.ObjectAttr.getOf (some x)) (some c):=looks_specialIn X d
 have L3:=looks_takesIn (M:=M) X f
 exact L1.andThen (L2.andThen ((show Looks M h (Builtin.ObjectAttr.dataDescriptor? (some x) (some c)) (some (c,x))from L3.andThen .now).andThen (Looks.tag .now)))
def zmA {R:Result->Shared->Prop} (X:K.In h) (I:Of h a o C) (b:mroIn K C (.type "object")=some true) (hq:R (.ok (.ret (.ref C))) ⟨h,g,d,t,os⟩) :
 codeAny (model prog w) A (.call (.builtin "getset_descriptor.__get__") ⟨[.builtin "object.__class__",.ref a,c],[]⟩) R ⟨h,g,d,t,os⟩:=by
 have L0:=I.type (M:=model prog w)
 have L1:=looks_mroIn (M:=model prog w) X b
 refine codeAny_call_builtin KF.slot_gs.plain KF.entry_gs (KF.slot_gs.check _ _ _ _ _ _ _ _ KF.type_class (KF.args_gs _ _ _) ?_)
 unfold Builtin.«getset_descriptor.__get__» descrGet
 rw[dga_obj]
 refine u3 (t0 ?_)
 unfold descrGetter descrCheckInstance descrNameAndClass isInstance
 simp only[KF.owner_class]
 repeat lk
 refine⟨Code.quiet_builtin _ (by decide +kernel),u2G KF.entry_class ?_⟩
 unfold Builtin.«object.__class__» shownTypeOf
 repeat lk
 exact hq
def zh7 {Q:Fin->Shared->Prop} (X:K.In h) (I:Of h a o C) (c:findIn K (.ref C) "__class__"=some (some (.builtin "object.__class__"))) (b:specialIn K (.builtin "object.__class__") "__get__"=some (some (.builtin "getset_descriptor.__get__"))) (f:takesIn K (.builtin "object.__class__")=some true) (e:mroIn K C (.type "object")=some true) (hq:Q (.done (.ret (.ref C))) ⟨h,g,d,t,os⟩):wpAny (model prog w) A (Builtin.«object.__getattribute__» ⟨[.ref a,.str "__class__" tk],[]⟩) Q E ⟨h,g,d,t,os⟩:=by
 have L0:=I.type (M:=model prog w)
 have L1:=zhK (M:=model prog w) (a:=a) X c b f
 refine u3 (t0 (u3 ?_))
 refine t0 (u3 (L0.at (u3 (L1.at ?_))))
 show wpAny _ _ (holding [.builtin "object.__class__"] (call (.builtin "getset_descriptor.__get__") [.builtin "object.__class__",.ref a,.ref C])>>=ret) _ _ _
 exact u3 (i0 (u3w (zmA X I e (t0 hq))))
def zhc {Q:Unit->Shared->Prop} (X:K.In h) (I:Of h a o C) (f:subIn K (.ref C) (.type "BaseException")=some true) (hq:Q () ⟨h,g,d,t,os⟩):wpAny M A (checkBuiltinCall "BaseException.__getattribute__" ⟨[.ref a,b],[]⟩) Q E ⟨h,g,d,t,os⟩:=by
 have e:builtinKind "BaseException.__getattribute__"=some .slot:=by decide +kernel
 have c:splitId "BaseException.__getattribute__"=some ("BaseException","__getattribute__"):=by decide +kernel
 have i:=F.args_bexc_ga (.ref a) b
 have L0:=I.type (M:=M)
 have L1:Looks M h (isSubtype (.ref C) (.type "BaseException")) true:=looks_subIn X f
 simp only[checkBuiltinCall,e,c]
 refine u3 ?_
 unfold isInstance
 refine u3 (L0.at (L1.at ?_))
 repeat (first | assumption | wp_step)
def zoc {Q:yL} (X:K.In h) (I:Of h a o C) (b:findIn K (.ref C) "__getattribute__"=some (some (.builtin "BaseException.__getattribute__"))) (e:findIn K (.ref C) "__getattr__"=some none) (i:findIn K (.ref C) "__class__"=some (some (.builtin "object.__class__"))) (f:specialIn K (.builtin "object.__class__") "__get__"=some (some (.builtin "getset_descriptor.__get__"))) (l:takesIn K (.builtin "object.__class__")=some true) (j:mroIn K C (.type "object")=some true) (m:subIn K (.ref C) (.type "BaseException")=some true) (hq:Q (.ref C) ⟨h,g,d,t,os⟩) :
 wpAny (model prog w) A (getAttrBy (.ref a) (.str "__class__" tk) false) Q E ⟨h,g,d,t,os⟩:=by
 have L0:=I.type (M:=model prog w)
 have L1:=looks_findIn (M:=model prog w) X b
 have L2:=looks_findIn (M:=model prog w) X e
 have k:=F.attrBase_ValueError.ga.bind (.ref a)
 have c:(Value.builtin "BaseException.__getattribute__" == Value.builtin "object.__getattribute__")=false:=by decide +kernel
 unfold getAttrBy
 refine i0 (u3 (L0.at (u3 (L1.at ?_))))
 dsimp only
 rw[c,u1n,t9 u6]
 unfold getAttrByItsOwn
 refine u3 ?_
 show wpAny _ _ (typeLookup (.ref C) "__getattr__") _ _ _
 refine L2.at (u3 (u03 (i0 ?_)))
 show wpAny _ _ (boundAndCalled (.builtin "BaseException.__getattribute__") (.ref a) (.str "__class__" tk)) _ _ _
 unfold boundAndCalled
 rw[k]
 refine u3 (t0 ?_)
 refine u3w (codeAny_call_builtin F.attrBase_ValueError.ga.plain F.entry_bexc_ga (zhc X I m (zh7 X I i f l j ?_)))
 exact handed_on rfl hq
def ziY {Q:Option Value->Shared->Prop} {s:zj} (X:K.In s.heap) (I:Of s.heap a o C) (b:findIn K (.ref C) "__getattribute__"=some (some (.builtin "BaseException.__getattribute__"))) (c:findIn K (.ref C) "__getattr__"=some none)
 (f:findIn K (.ref C) "__class__"=some (some (.builtin "object.__class__"))) (e:specialIn K (.builtin "object.__class__") "__get__"=some (some (.builtin "getset_descriptor.__get__"))) (i:takesIn K (.builtin "object.__class__")=some true) (h:mroIn K C (.type "object")=some true) (j:subIn K (.ref C) (.type "BaseException")=some true)
 (hq:Q (some (.ref C)) { s with toks:=s.toks+1 }):wpAny (model prog w) A (getAttr? (.ref a) "__class__") Q E s:=by
 obtain⟨k,g,d,t,os⟩:=s
 unfold getAttr? getAttrBy?
 exact u3 (wpAny_mkText (u3 (u03 (zoc X I b c f e i h j (t0 hq)))))
def wT (K:zz) (C:Addr):Bool:=(clsIn K C).isSome&&findIn K (.ref C) "__getattribute__" == some (some (.builtin "BaseException.__getattribute__"))&&findIn K (.ref C) "__getattr__" == some none&&findIn K (.ref C) "__class__" == some (some (.builtin "object.__class__"))
 && specialIn K (.builtin "object.__class__") "__get__" == some (some (.builtin "getset_descriptor.__get__"))&&takesIn K (.builtin "object.__class__") == some true&&mroIn K C (.type "object") == some true&&subIn K (.ref C) (.type "BaseException") == some true
def zkT (q:wT K C=true):KitX K (.ref a) (.ref C) (λh=>∃ o,Of h a o C):=by
 unfold wT at q
 simp only[r4,u2w]at q
 obtain⟨⟨⟨⟨⟨⟨⟨c,j⟩,l⟩,r⟩,p⟩,v⟩,u⟩,s⟩:=q
 obtain⟨B,b⟩:=u29.mp c
 unfold clsIn at b
 refine⟨λ_ _ _ ⟨_,I⟩=>I.type,λ_ _ X _=>?_,λh w A m n y X d=>?_,λX ⟨_,I⟩ k=>ziY X I j l r p v u s k⟩
 .split at b
  .rename_i t x g i f
   intro A' Q' E' D k q
   unfold isType loadHead
   exact u3 (wpAny_loadPart (k _ _ (X _ _ f)) (t0 q))
  .cases b
 .refine Bool.eq_false_iff.mpr λq=>?_
  have e:C=w:=Value.ref.inj (u2w.mp q)
  subst e
  split at b
  .rename_i t x g i f
   have z:=(X _ _ f).symm.trans d
   cases z
  .cases b
def VW {s:zj}{Q:yL}(q:wT K C=true)(X:K.In s.heap)(I:∃ o,Of s.heap a o C)(e:kitOne K (.ref C) c=some b)(hq:∀ tk,Q (.bool b) { s with toks:=tk }) :
 wpAny (model prog w) A (call (.builtin "isinstance") [.ref a,c]) Q E s:=kia_one (zkT q) X I e (by intro z;cases z) hq
end
end L2
namespace L2
open PySem PySem.Spec PyProof.Rows
section
variable {P:zH}{w:World}{K:zz}{mg:w1}{base:Heap}
def zh5 (P:zH)(w:World)(K:zz)(mg:w1)(base:Heap)(k:Nat)(f:Addr)(e:XQ)(c:zJ)(d:Sp):Prop :=
 (∀ a H Q E,d a H Q E->a.length=c.length)/\∀ (A:zI) (outer:List Env) (s:zj) (H:Hp) (args:Args) (b:zt) (a:zx) (Q:VK) (E:XK) (g:Value),x5 k A->zoJ P w K mg base A outer s H->BindsTo s e args (c.zip b)->yl a b->d a H Q E ->
  codeAny (model P w) (A.mark (some g)) (.call (.ref f) args) (CR CX0 outer P w H s Q E) s
def zmz {f:Addr}{D:XQ}{N ps:zJ}{k:Nat}{z:Sp}(F:Fun K x c i f D)(S:wv N ps (zp i))(p:∀ g H Q E,z g H Q E->g.length=ps.length) (h:∀ (d:Value) (A:zI) (outer:List Env) (s:zj) (H:Hp) (g:zx) (Q:VK) (E:XK) (l:Value),x5 k (A.deeper (envOfC c (zp i) s.heap.objs.size f d))->z g H Q E ->
 ∃ t,PSs ((Wl CX0 P w K mg base N c (zp i) f d A outer s H E).held l).nox (yV i) t/\t { nx:=λ_ H'=>Q .non H',rt:=Q } (start N g) H):zh5 P w K mg base (k+1) f D ps z:=by
 obtain⟨oc,od,kV,R,pm,an,d,ct,Z,rfl,M,B⟩:=F.ex
 refine⟨p,λA outer s H args us g Q E l C n T r m=>?_⟩
 have KX:K.In s.heap:=n.mod.kin.keeps λb o e=>(n.bs.1 b o e).1
 have lim:s.heap.NoLimit:=n.mod.nolimit.keeps λb o e=>(n.bs.1 b o e).1
 refine codeAny_call_function (A:=A.mark (some l)) C.depth (KX _ _ M) rfl S.co S.gen rfl (PySem.W.codeRec_of KX B) (T _ _ _ _ ?_)
 refine wpAny_newFunctionEnv_cells S.kind (λy W=>?_) λenv he G x=>?_
 .rcases S.par y.1 (u1J (a:=y.1) (b:=y.2) W).1 with q | q
  .exact .inl q
  .exact .inr ⟨q,u1W _ _ _ (.inl q)⟩
 subst he
 refine⟨lim.keeps x.toInCall.keep,codeAny_func ?_⟩
 obtain⟨t,U,hq⟩:=h d A outer s H g Q E l (C.deeper _) m
 have I:Inv (Wl CX0 P w K mg base N c (zp i) f d A outer s H E) [] (start N g) H G:=zcU S C.hd n (p _ _ _ _ m) r x
 refine p8 (U [] G (start N g) H _ ((I.held l).wish _) hq) (λY X j=>?_) λe X j=>j.elim
 cases Y with
 | ret u =>
  obtain⟨v,O,H',J,L,q⟩:=j
  exact⟨v,H',J.os,J.bare,J.base,J.hok,L,q⟩
 | next =>
  obtain⟨O,H',J,q⟩:=j
  exact⟨V.non,H',J.os,J.bare,J.base,J.hok,rfl,q⟩
 | brk =>
  obtain⟨_,_,_,q⟩:=j
  exact False.elim q
 | cont =>
  obtain⟨_,_,_,q⟩:=j
  exact False.elim q
end
def zkr {Y:Cx} {k:Nat} {f:Addr} {t:TA} (F:zh5 Y.prog Y.w Y.K Y.mg Y.base k f o v i) (J:x5 k Y.A) (D:Gl Y x) (y:Y.mg x=some (.ref f)) (A:W.keepIn Y.K (.ref f)=true) (z:VQ Y.K o v []) (m:Y.Ok) (B:PA (Y.held j).nox (e::c) t) (l:(x == ("__debug__":Str))=false:=by decide) (G:starEach (e::c) Y.env=(false,eval e Y.env)::starEach c Y.env:=by rfl) (n:(backTo b (starEach c Y.env)).any (·.1)=false:=by rfl) :
 PE (Y.held j).nox (.Call (.Name x p) (e::c) [] b) (zny i [] E t):=by
 intro a s σ H Q I h
 refine u0G (XM I D y ?_ l)
 refine W.callWith_K (h₀:=Y.base) I.ok.mod.kin A (thn (B b a s σ H _ I h) λd g ⟨w,H1,I1,r,q⟩=>⟨I1.kIn,?_⟩) G n
 have q:i (w++[]) H1 Q E:=q
 rw[f6]at q
 have I2:Inv Y a σ H1 g:=Inv.unheld (X:=Y) m I1.unwish
 refine u3w (u2d (F.2 Y.A Y.stack g H1 ⟨d,[]⟩ d w Q E j J I2.env0 ?_ r q) λr K hq=>?_)
 .have:=z g d I2.kIn (by rw[f6,<- r.length];exact F.1 _ _ _ _ q)
  rwa[f6]at this
 .cases r with
  | error e=>exact False.elim hq
  | ok C =>
   cases C with
   | ret u=>exact I1.after hq
   | next=>exact False.elim hq
   | brk=>exact False.elim hq
   | cont=>exact False.elim hq
end L2
namespace L2
open PySem PySem.Spec PyProof.Rows PySem.SeqAt
def za7:∀ {c:List Bool} {a:zt},yl (c.map V.bl) a->a=c.map Value.bool
 | [],a,r=>by
  have:=r.length
  exact List.eq_nil_of_length_eq_zero (by rw[<-this];rfl)
 | b::c,a,r=>by
  cases r with
  | cons e d =>
   rw[za7 d]
   cases e
   rfl
def zeP {a:List Bool}(h:y∈(a.map Value.bool).toArray):EqAt A s y (.bool true) (isBoolOf true y):=by
 obtain⟨b,_,rfl⟩:=p0.mp (List.mem_toArray.mp h)
 exact EqAt.bool_bool b true
def zhh:V->zx->Hp->VK->Prop:=λx b H Q=>∃ (l:Addr) (a:List Bool),x=.ref l/\b=[.bl true]/\H l=some (.lst (a.map V.bl))/\Q (.int ((a.countP (· == true):Nat):Int)) H
def zg5:MtR X "list.count" zhh:=by
 intro c s σ H x A v z Q I i j h
 obtain⟨l,a,rfl,rfl,w,q⟩:=h
 cases i
 obtain⟨u,rfl,k⟩:=j.one
 cases k
 obtain⟨g,r,t,B⟩:=I.list (SqL.of (K:=X.K) w)
 have e:=za7 r
 subst e
 obtain⟨⟨cls,p,data,m⟩,d,b,n,f⟩:=t.isList
 simp only at b f
 subst b f
 refine u2x PySem.F.slot_list_count ⟨_,d,rfl⟩ PySem.F.entry_list_count (PySem.F.args_list_count_2 _ _) (list_countAt l (a.map Value.bool).toArray n p m (.bool true) (isBoolOf true)) ⟨d,λy o=>zeP o,?_⟩
 refine⟨.int (((a.map Value.bool).toArray.toList.countP (isBoolOf true):Nat):Int),H,I.tok _,⟨_,rfl⟩,?_⟩
 rw[show(a.map Value.bool).toArray.toList=a.map Value.bool from rfl,List.countP_map]
 exact q
def zia:V->zx->Hp->VK->Prop:=λx b H Q=>∃ (l:Addr) (a:List Bool),x=.ref l/\b=[.bl true]/\H l=some (.lst (a.map V.bl))/\true∈a/\Q (.int ((a.idxOf true:Nat):Int)) H
def zgJ:MtR X "list.index" zia:=by
 intro f s σ H x M v J Q I C o h
 obtain⟨l,a,rfl,rfl,B,t,q⟩:=h
 cases C
 obtain⟨u,rfl,D⟩:=o.one
 cases D
 obtain⟨k,r,G,F⟩:=I.list (SqL.of (K:=X.K) B)
 have e:=za7 r
 subst e
 obtain⟨⟨cls,A,data,w⟩,g,d,n,c⟩:=G.isList
 simp only at d c
 subst d c
 have j:a.idxOf true<a.length:=List.idxOf_lt_length_iff.mpr t
 have i:=WR
 have L:a.length<=sizeLine:=by simpa using F
 refine u2x PySem.F.slot_list_index ⟨_,g,rfl⟩ PySem.F.entry_list_index (PySem.F.args_list_index_2 _ _) (list_indexAt l (a.map Value.bool).toArray n A w (.bool true) (isBoolOf true) (a.idxOf true) (by simpa using j) (by omega) ?_ ?_) ⟨g,λy z=>zeP z,⟨.int ((a.idxOf true:Nat):Int),H,I.tok _,⟨_,rfl⟩,q⟩⟩
 .simp only[u2p,u0N]
  rw[List.getElem_idxOf j]
  rfl
 .intro m E b
  simp only[u2p,u0N]
  exact List.not_of_lt_findIdx (p:=(· == true)) (xs:=a) b
end L2
namespace L2
open PySem PySem.Spec PyProof.Rows
def clsV:V->Option Value
 | .ref C=>some (.ref C)
 | .ty T=>some (.type T)
 | _=>none
def zqz (K:zz):zfL:=λd H Q=>∃ (a C:Addr) (e:x4) (v:V) (c:Value) (b:Bool),d=[.ref a,v]/\H a=some (zhf a C e)/\wT K C=true/\clsV v=some c/\W.kitOne K (.ref C) c=some b/\Q (.bl b) H
def yY {X:Cx}:Xl X (.builtin "isinstance") (zqz X.K):=by
 intro i s σ H x k Q I m h
 obtain⟨a,C,y,v,c,b,rfl,w,o,l,p,q⟩:=h
 obtain⟨g,e,rfl,f,d⟩:∃ g e,k=[g,e]/\y2 (.ref a) g/\y2 v e:=by
  cases m with
  | cons f r=>cases r with
   | cons d r=>cases r;exact⟨_,_,rfl,f,d⟩
 cases f
 have t:e=c:=by
  cases v <;> try cases l
  .cases d;rfl
  .cases d;rfl
 subst t
 obtain⟨⟨n,u,j,_⟩,_⟩:=I.hok a _ w
 exact VW o I.kIn ⟨n,u,j⟩ p λtk=>⟨.bl b,H,I.tok tk,rfl,q⟩
def zd3 {K:zz}{σ:St}{H:Hp}{a C:Addr}{d:x4}{v:V}{c:Value}{b:Bool}{Q:VK}(f:σ[0]?=some (some (.ref a)))(i:H a=some (zhf a C d))(g:wT K C=true)(e:clsV v=some c)(h:W.kitOne K (.ref C) c=some b)(q:Q (.bl b) H) :
 tCB (zqz K) (Vp (zdt 0) (Vp (tC v) zlQ)) σ H Q:=⟨.ref a,f,⟨a,C,d,v,c,b,rfl,i,g,e,h,q⟩⟩
def zfW (n j:Nat):List Bool:=(List.range n).map λi=>i == j
def zax (K:zz) (a:xx) (CS C:Addr) (j:Nat):Bool:=wT K C&&(W.kitOne K (.ref C) (.type "ValueError") == some true)&&(W.exmOne K (.ref C) (.ref CS) == some true)&&(a.map (λc=>W.kitOne K (.ref C) (.ref c)) == (zfW a.length j).map some)
structure zez (K:zz) (cs:xx) (CS C:Addr) (j:Nat):Prop where
 look:wT K C=true
 val:W.kitOne K (.ref C) (.type "ValueError")=some true
 exm:W.exmOne K (.ref C) (.ref CS)=some true
 hot:cs.map (λc=>W.kitOne K (.ref C) (.ref c))=(zfW cs.length j).map some
def zez.of {K:zz}{a:xx}{CS C:Addr}{j:Nat}(h:zax K a CS C j=true):zez K a CS C j:=by
 unfold zax at h
 simp only[r4,u2w]at h
 exact⟨h.1.1.1,h.1.1.2,h.1.2,h.2⟩
section
variable {K:zz}{σ:St}{H H0:Hp}{a C:Addr}{od:x4}
def tIs (K:zz):xx->TA
 | []=>zlQ
 | c::r=>Vp (tCB (zqz K) (Vp (zdt 0) (Vp (tC (.ref c)) zlQ))) (tIs K r)
def zlO (g:σ[0]?=some (some (.ref a)))(l:H a=some (zhf a C od))(h:wT K C=true):∀ (f:xx) (d:List Bool) (Q:zx->Hp->Prop),f.map (λc=>W.kitOne K (.ref C) (.ref c))=d.map some->Q (d.map V.bl) H->tIs K f σ H Q:=by
 intro f
 induction f with
 | nil =>
  intro d Q e q
  cases d with
  | nil=>exact q
  | cons b r=>cases e
 | cons c r j =>
  intro d Q e q
  cases d with
  | nil=>cases e
  | cons b d =>
   obtain⟨k,i⟩:=u0e e
   exact zd3 g l h rfl k (j d _ i q)
structure KSt (H0:Hp) (a C:Addr) (od:x4) (bs:List Bool) (σ:St) (H:Hp):Prop where
 same:yE H0 H
 len:σ.length=2
 e0:σ[0]?=some (some (.ref a))
 he:H a=some (zhf a C od)
 lst:∃ p,σ[1]?=some (some (.ref p))/\H p=some (.lst (bs.map V.bl))
def zgv {f:List Bool}(s:yE H0 H)(g:σ.length=2)(h:σ[0]?=some (some (.ref a)))(d:H a=some (zhf a C od))(c:H p=none):KSt H0 a C od f (σ.set 1 (some (.ref p))) (upd H p (.lst (f.map V.bl))):=by
 refine⟨λb o e=>?_,by rw[u0L];exact g,?_,?_,p,?_,zq⟩
 .have:=s b o e
  rw[zn (zg this c)];exact this
 .rw[k6 (by decide)];exact h
 .rw[zn (zg d c)];exact d
 .rw[g6 (by omega)]
def zhd {cs:xx}{bs:List Bool}{D:zbz}(g:wT K C=true)(e:cs.map (λc=>W.kitOne K (.ref C) (.ref c))=bs.map some)(j:bs.length<=sizeLine)(h:σ.length=2)(f:σ[0]?=some (some (.ref a)))(d:H a=some (zhf a C od))(k:∀ b H',KSt H a C od bs b H'->D.nx b H') :
 znQ (zrf (tIs K cs)) (Zr 1) D σ H :=
 zlO f d g cs bs _ e ⟨by rw[u4];exact j,λp i=>k _ _ (zgv (.refl _) h f d i)⟩
def zby {cs:xx}{d bs:List Bool}{D:zbz}(j:wT K C=true)(e:cs.map (λc=>W.kitOne K (.ref C) (.ref c))=bs.map some)(h:d.length+bs.length<=sizeLine)(S:KSt H0 a C od d σ H)(k:∀ g H',KSt H0 a C od (d++bs) g H'->D.nx g H') :
 znQ (tOp zqT (zdt 1) (zrf (tIs K cs))) (Zr 1) D σ H:=by
 obtain⟨p,i,f⟩:=S.lst
 refine⟨.ref p,i,zlO S.e0 S.he j cs bs _ e ⟨by rw[u4];omega,λq hq=>?_⟩⟩
 refine⟨p,q,d.map V.bl,bs.map V.bl,rfl,rfl,by rw[zn (zg f hq)];exact f,zq,by rw[u4,u4];exact h,λr l=>?_⟩
 rw[<-o0]
 refine k _ _ (zgv (λb o e=>?_) S.len S.e0 ?_ l)
 .have:=S.same b o e
  rw[zn (zg this hq)];exact this
 .rw[zn (zg S.he hq)];exact S.he
def zgh:∀ j:Nat,j<13->(zfW 13 j).countP (· == true)=1/\(zfW 13 j).idxOf true=j/\true∈zfW 13 j:=by decide +kernel
def zmB {j:Nat} {D:zbz} (l:W.kitOne K (.ref C) (.type "ValueError")=some true) (e:wT K C=true) (i:j<13) (S:KSt H0 a C od (zfW 13 j) σ H) (k:D.rt (.int j) H) :
 tSeq (tIfS (tOr (tNot (tB (tCB (zqz K) (Vp (zdt 0) (Vp (tC (.ty "ValueError")) zlQ))))) (zmX (tOp rNe (tBM K "list" zhh (zdt 1) (Vp (tC (.bl true)) zlQ)) (tC (.int 1))))) d zp1) (zry (tBM K "list" zia (zdt 1) (Vp (tC (.bl true)) zlQ))) D σ H:=by
 obtain⟨h,f,g⟩:=zgh j i
 obtain⟨p,c,b⟩:=S.lst
 refine zd3 S.e0 S.he e rfl l ⟨true,rfl,?_⟩
 show(if (!true)=true then _ else _)
 rw[t9 (by decide)]
 refine⟨.ref p,c,.inl ⟨rfl,_,SqL.of b⟩,p,_,rfl,rfl,b,?_⟩
 rw[h]
 refine⟨rfl,false,by rw[zdR];rfl,?_⟩
 show(if false=true then _ else _)
 rw[t9 (by decide)]
 refine⟨.ref p,c,.inl ⟨rfl,_,SqL.of b⟩,p,_,rfl,rfl,b,g,?_⟩
 rw[f]
 exact k
end
def ziE (b:Nat->Addr)(ok:Nat->Prop):Sp:=λc H Q _=>∃ a j d,c=[.ref a]/\H a=some (zhf a (b j) d)/\ok j/\∀ H',yE H H'->Q (.int (j:Nat)) H'
def PS.nox {X:Cx}{t:TS}(h:PS X.nox b t):PS X b t:=λa s σ H D I hw =>
 p8 (h a s σ H D (I.wish _) hw) (λ_ _ q=>q.unwish) λ_ _ z=>False.elim z
end L2
namespace Dl
open PySem L2
variable [KK]
def SD.nox {X:Cx}{g:zT}(h:SD X.nox a g):SD X a g:=let ⟨t,p,r⟩:=h;⟨t,p.nox,r⟩
noncomputable def xEx (a:znX):vz:=fun ρ=>a (visG ρ)
def zbT:XSs E cl X a xNo:=⟨λ_ _ _=>False,λ_ _ _ _ _ _ h=>h.elim,λ_ _ _ _ _ _ _ _ _ h _=>by cases h⟩
def Gr.more (s:yE F H)(k:yE H H'):Gr F H F H':=⟨yE.refl _,s.trans k,λp o a b=>⟨.inl a,k p o b⟩⟩
def zot (a:vz)(g:zT)(h:Nat->Option D):zT:=fun ρ=>match a ρ with
 | some j=>match h j with
  | some d=>.rt d
  | none=>.no
 | none=>g ρ
def zcj (H:Hp)(j:Nat)(a:x4):Prop:=match pay j with
 | none=>a=none
 | some c=>∃ b,a=some b/\H b=some (.xd c)
def zcj.mono (h:zcj H j a)(s:yE H H'):zcj H' j a:=by
 unfold zcj at h ⊢
 cases e:pay j with
 | none=>rw[e]at h;exact h
 | some f=>rw[e]at h;obtain⟨c,d,b⟩:=h;exact⟨c,d,s _ _ b⟩
structure Est (cl:Nat->Addr) (i j:Nat) (σ:St) (H:Hp) (a:Addr) (od:x4):Prop where
 sl:σ[i]?=some (some (.ref a))
 he:H a=some (zhf a (cl j) od)
 pa:zcj H j od
def RU (b:Nat->Addr)(i:Nat)(u:TS)(h:Nat->Option D):Prop:=∀ (j:Nat) (d:D) (σ:St) (H:Hp) (a:Addr) (c:x4) (D':zbz),h j=some d->Est b i j σ H a c->(∀ H' v,(∀ F,yE F H->∃ F',Gr F H F' H'/\At F' d v)->D'.rt v H')->u D' σ H
def zo3 {Y:Cx} {i:Nat} {f:Xp} {V:Stmt} {N:Pos} {w:Nat->Addr} {g:zT} {h:Nat->Option D} (O:Y.stack=Y.env::Y.outer) (hf:Y.env.frame=some Y.env.locals) (M:Y.ex=[]) (hN:Y.N.Nodup) (S:Y.N[i]?=some n) (hk:Y.env.scope.names.lookup n=some .local) (hg:Gl Y x) (hm:Y.mg x=some (.ref CS)) (J:∀ (a:xn) (W:yL) (E0:XK),Xs (Air Y.prog Y.w) ((Y.pinned a).wish W) E0->XSs E0 w ((Y.pinned a).wish W) body P) (hb:∀ (a:xn) (W:yL),SDs ((Y.pinned a).wish W) body g) (A:∀ j d,h j=some d->PySem.W.exmOne Y.K (.ref (w j)) (.ref CS)=some true) (l:Y.Ok->∀ z,PSs (Y.held (.ref z)).nox (V::f) u) (hu:RU w i u h) (hd:(x == ("__debug__":Str))=false:=by decide) :
 SD Y.nox (.Try body [.ExceptHandler (some (.Name x np)) (some n) (V::f) B] [] [] N) (zot P g h):=by
 let E:XK->TS:=λE0 D σ H=>∀ (a:xn) (W:yL),Xs (Air Y.prog Y.w) ((Y.pinned a).wish W) E0->∃ t,PSs ((Y.pinned a).wish W) body t/\t D σ H
 refine⟨λD σ H=>E (exW Y.K CS i Y.N.length u D) D σ H,λc s σ H D I hq=>?_,λFb Hb F H ρ σ D R k=>?_⟩
 .refine zoG (tb:=E) O hf M hN S hk hg hm (λa W E0 Q c s σ H D I hq=>?_) (l I.ok.unwish) hd c s σ H D I hq
  obtain⟨t,p,ht⟩:=hq a W Q
  exact p c s σ H D I ht
 .intro a W Q
  unfold zot at k
  cases e:P ρ with
  | none =>
   rw[e]at k
   obtain⟨t,p,r⟩:=hb a W
   exact⟨t,p,r Fb Hb F H ρ σ D R k⟩
  | some j =>
   rw[e]at k
   dsimp only at k
   cases C:h j with
   | none=>rw[C]at k;exact k.elim
   | some d =>
    rw[C]at k
    obtain⟨t,p,r⟩:=J a W _ Q
    refine⟨t,p,r Fb Hb F H ρ σ D j R e λF' H' K=>?_⟩
    have X:∀ (y:x4) (H0:Hp),yE H' H0->zcj H0 j y->exW Y.K CS i Y.N.length u D (.ref (w j)) y H0:=λy H0 sm pa=>⟨_,rfl,A j d C,λz σ' hl Z=>by
     have G:i<σ'.length:=by
      rw[hl]
      exact(t5.mp S).1
     have m:yE H0 (upd H0 z (zhf z (w j) y)):=λb o q=>by rw[zn (zg q Z)];exact q
     refine hu j d _ _ z y _ C ⟨by rw[g6 G],zq,pa.mono m⟩ λH'' v av=>?_
     obtain⟨F2,g2,a2⟩:=av F' (K.fh.trans (sm.trans m))
     exact k F2 H'' v ((K.trans (Gr.more K.fh (sm.trans m))).trans g2) a2⟩
    unfold EJ
    cases U:pay j with
    | none=>exact X none H' (yE.refl _) (by unfold zcj;rw[U])
    | some fs=>exact λT L=>X (some T) _ (λb o q=>by rw[zn (zg q L)];exact q) (by unfold zcj;rw[U];exact⟨T,rfl,zq⟩)
def SX (b:Nat->Addr)(i:Nat)(t:TE)(f:Nat->Option D):Prop:=∀ (j:Nat) (d:D) (σ:St) (H:Hp) (a:Addr) (c:x4) (Q:VK),f j=some d->Est b i j σ H a c->(∀ H' v,yE H H'->(∀ F,At F d v)->Q v H')->t σ H Q
section
variable {cl:Nat->Addr}{i:Nat}
def fK (a:zC):Nat->Option D:=λj=>if j%16∈a then some (.int (j%16:Nat))else none
def zjs {g:zC}{ok:Nat->Prop}(b:∀ j,cl j=cl (j%16))(c:∀ j,j∈g->ok j):SX cl i (zny (ziE cl ok) [] E (Vp (zdt i) zlQ)) (fK g):=by
 intro j d σ H a h Q e f k
 unfold fK at e
 split at e <;> try cases e
 rename_i l
 refine⟨.ref a,f.sl,a,j%16,h,rfl,?_,c _ l,λH' sm=>k H' _ sm λF=>.int⟩
 rw[<-b j]
 exact f.he
def zoY {t:TE}{f:Nat->Option D}(h:SX cl i t f):RU cl i (zry t) f:=λj d σ H a c D' e b k =>
 h j d σ H a c _ e b λH' v sm g=>k H' v λF s=>⟨F,Gr.more s sm,g F⟩
end
end Dl
namespace Dl
open PySem L2
def znV (a:zC)(h:Nat->Option D):Nat->Option D:=λj=>if j%16∈a then h j else none
def zmI (e:znV a h j=some d):j%16∈a:=by
 unfold znV at e
 split at e
 .assumption
 .cases e
def zpj {g:zC}[KK](r:RU b i u h):RU b i u (znV g h):=λj d σ H a f D' e c k=>by
 unfold znV at e
 split at e
 .exact r j d σ H a f D' e c k
 .cases e
end Dl
namespace PySem
section
variable {prog:zH}{w:World}{A:zI}{R:Result->Shared->Prop}{it S:Addr}{fp wr:xx}{n:Nat}{P:Nat->Value->Prop}{St:Nat->Heap->Prop}{kw:List (Str × Value)}
def vX:(toString "max"++toString ".loop":String)="max.loop":=by decide
def Ve (k:wpAny (model prog w) A.in1 (Builtin.«max.loop» ⟨[.ref it,.none,.ref S],kw⟩) (λfin a=>match fin with | .done f=>R (.ok f) a | .again b=>b.quiet=true/\codeAny (model prog w) A b R a) (λe a=>R (.error e) a) s) :
 codeAny (model prog w) A (.builtin "max.loop" ⟨[.ref it,.none,.ref S],kw⟩) R s:=u2G F.entry_max_loop (by rw[u2o u1o _];exact k)
def zi2 (W:Walks prog w A.in1 it fp wr n P St)(l:Nat->Nat->Bool)(H:CmpOf prog w A.in1 .Gt P l)(C:S∉fp):∀ (left j:Nat) (s:zj) (a:Value) (c:Nat),j+1+left=n->St (j+1) s.heap->P (argBest l j) a ->
 s.heap.get? S=some { cls:=.type "list",dict:=none,data:=.seq #[a,a] c,slots:=#[] } ->
 (∀ v g tk,P (argBest l (n-1)) v->(∀ b o,b∉wr->b≠S->s.heap.get? b=some o->g.get? b=some o)->R (.ok (.ret v)) { s with heap:=g,toks:=tk }) ->
 codeAny (model prog w) A (.builtin "max.loop" ⟨[.ref it,.none,.ref S],kw⟩) R s:=by
 have G:S∉wr:=λz=>C (W.sub _ z)
 intro left
 induction left with
 | zero =>
  intro j s a c e u r p k
  have D:j+1=n:=e
  refine Ve ?_
  show wpAny _ A.in1 (seqItems? (.ref S)>>=_) _ _ s;refine u3 (u0m p rfl ?_)
  show wpAny _ A.in1 (tryCatch (pyNext (.ref it)) _>>=_) _ _ s;refine u3 (u18 (W.done s _ _ (D ▸ u) λg tk i=>?_))
  show wpAny _ A.in1 (updateSeq S (λ_=>#[])>>=_) _ _ _;refine u3 (u2H (i S _ G p) rfl (u3 (u1t (t0 (k a _ tk (D ▸ r) λb o b1 b2 q=>?_)))))
  exact(g3 _ _ (u0p b2)).trans (i b o b1 q)
 | succ left E =>
  intro j s a c e u r p k
  refine Ve ?_
  show wpAny _ A.in1 (seqItems? (.ref S)>>=_) _ _ s;refine u3 (u0m p rfl ?_)
  show wpAny _ A.in1 (tryCatch (pyNext (.ref it)) _>>=_) _ _ s;refine u3 (u18 (W.item (j+1) s _ _ (by omega) u λv g tk pv m i=>?_))
  have d:=i S _ G p
  show wpAny _ A.in1 (tryCatch (holding [v,v] (richCompare .Gt v a>>=_)) _>>=_) _ _ _;refine u3 (u18 (i0 (u3 (H (j+1) (argBest l j) v a _ _ _ pv r (u3 (i0 (l9 (u3 (u1t (t0 ?_))))))))))
  cases B:l (j+1) (argBest l j) with
  | true =>
   simp only[u14];refine u3 (u2H d rfl (u3 (u1t ?_)))
   rw[vX];refine t0 ⟨u1R u1o _,E (j+1) _ v _ (by omega) (W.frame _ _ _ m λb I o q=>?_) (by rw[argBest,u9 B];exact pv) (u0R _ d rfl) λt y h x f=>?_⟩
   .exact(g3 _ _ (λz:S=b=>C (z ▸ I))).trans q
   .exact k t y h x λb o b1 b2 q=>f b o b1 b2 ((g3 _ _ (u0p b2)).trans (i b o b1 q))
  | false =>
   simp only[u1E,u3v];refine u3 (u1t ?_)
   rw[vX];exact t0 ⟨u1R u1o _,E (j+1) _ a c (by omega) m (by rw[argBest,t9 (by rw[B];exact u6)];exact r) d λt y h x f=>k t y h x λb o b1 b2 q=>f b o b1 b2 (i b o b1 q)⟩
def zkV {s:zj} (W:Walks prog w A.in1 it fp wr n P St) (m:Nat->Nat->Bool) (x:CmpOf prog w A.in1 .Gt P m) (i:S∉fp) (p:St 0 s.heap) (r:s.heap.get? S=some { cls:=.type "list",dict:=none,data:=.seq #[] c,slots:=#[] }) (k:∀ v g tk,(if n=0 then v=d else P (argBest m (n-1)) v)->(∀ b o,b∉wr->b≠S->s.heap.get? b=some o->g.get? b=some o)->R (.ok (.ret v)) { s with heap:=g,toks:=tk }) :
 codeAny (model prog w) A (.builtin "max.loop" ⟨[.ref it,.none,.ref S],[("default",d)]⟩) R s:=by
 have C:S∉wr:=λz=>i (W.sub _ z)
 refine Ve ?_
 show wpAny _ A.in1 (seqItems? (.ref S)>>=_) _ _ s;refine u3 (u0m r rfl ?_)
 show wpAny _ A.in1 (tryCatch (pyNext (.ref it)) _>>=_) _ _ s
 by_cases e:n=0
 .refine u3 (u18 (W.done s _ _ (e ▸ p) λg tk f=>?_))
  show wpAny _ A.in1 (rule _>>=_) _ _ _;exact u3 (u1i (t0 (k d g tk (by rw[u9 e]) λb o b1 _ q=>f b o b1 q)))
 .refine u3 (u18 (W.item 0 s _ _ (Nat.pos_of_ne_zero e) p λv g tk pv h f=>?_))
  have a:=f S _ C r
  show wpAny _ A.in1 (updateSeq S (λ_=>#[v,v])>>=_) _ _ _;refine u3 (u2H a rfl ?_)
  rw[vX];refine t0 ⟨u1R u1o _,zi2 W m x i (n-1) 0 _ v _ (by omega) (W.frame _ _ _ h λb y o q=>?_) pv (u0R _ a rfl) λt B l u j=>?_⟩
  .exact(g3 _ _ (λz:S=b=>i (z ▸ y))).trans q
  .exact k t B l (by rw[t9 e];exact u) λb o b1 b2 q=>j b o b1 b2 ((g3 _ _ (u0p b2)).trans (f b o b1 q))
end
def zdI (x d:Value):argsOk "max" ⟨[x],[(Str.ofString "default",d)]⟩:=by unfold argsOk;kernel_rfl
def zbc {w:World}{A:zI}{Q:yL} (h:wpAny (model a w) A.in1 (pyIter x) (λi c=>∃ l f q n P St j,i=.ref l/\Walks a w A.in1 l f q n P St/\St 0 c.heap/\(∀ b∈f,b<c.heap.objs.size)/\CmpOf a w A.in1 .Gt P j /\
 ∀ v g tk,(if n=0 then v=d else P (argBest j (n-1)) v)->(∀ b o,b∉q->c.heap.get? b=some o->g.get? b=some o)->Q v { c with heap:=g,toks:=tk }) E s) :
 wpAny (model a w) A (call (.builtin "max") [x] [(Str.ofString "default",d)]) Q E s:=by
 refine PyProof.Rows.kmk_tree F.kind_max F.plain_max F.entry_max (zdI x d) ?_
 show wpAny _ A.in1 (Builtin.Builtins.bindParams "max" ["key","default"] 0 ⟨[],[(Str.ofString "default",d)]⟩>>=_) _ _ s
 refine u3 (wpAny_of_eq (show Builtin.Builtins.bindParams "max" ["key","default"] 0 ⟨[],[(Str.ofString "default",d)]⟩=pure [none,some d]from rfl) (u3 (t0 ?_)))
 refine u3 (p8 h (λi c t=>?_) λ_ _ e=>e)
 obtain⟨l,f,q,n,P,St,j,rfl,W,u,m,y,k⟩:=t
 refine u3 (u0l ?_)
 have B:c.heap.objs.size∉f:=λz=>i7 _ (m _ z)
 rw[vX]
 refine t0 ⟨u1R u1o _,zkV W j y B (W.frame _ _ _ u λb _ o e=>u5 _ e) (q7 _ rfl) λv g tk p r=>?_⟩
 exact k v g tk p λb o b1 e=>r b o b1 (k7 (q4 e)) (u5 _ e)
end PySem
namespace L2
open PySem PySem.Spec PyProof.Rows
section
variable {X:Cx}{e de:Expr}{p pos kp:Pos}{t:TA}{td:TE}
def zrD (K:zz)(t:TA)(td:TE):TE:=fun σ H Q=>t σ H λc H1=>td σ H1 λy H2=>∃ (a:Addr) (b:zc) (k:Int),c=[.ref a]/\y=.int k/\SqL K H2 a (b.map V.int)/\Q (.int (if b=[]then k else Dl.maxL b)) H2
def zm0 (S:X.calm=true) (hg:Gl X "max") (G:X.mg "max"=none) (g:bootBuiltins "max"=some (.builtin "max")) (ha:PA X [e] t) (N:PE X de td) (he:backTo pos (starEach [e] X.env)=(false,eval e X.env)::backTo pos (starEach [] X.env):=by rfl) (z:(backTo pos (starEach [e] X.env)).any (·.1)=false:=by rfl) :
 PE X (.Call (.Name "max" p) [e] [⟨some "default",de,kp⟩] pos) (zrD X.K t td):=by
 intro f s σ H Q I h
 refine u0G (vp I hg G g ?_ (by decide) (by decide))
 refine u1z (thn (ha pos f s σ H _ I h) λus K ⟨vs,H1,I1,Z,U⟩=>u2c (thn (N f K σ H1 _ I1 U) λud s2 ⟨y,H2,I2,R,T⟩=>u2r ?_)) he z
 obtain⟨a,b,k,rfl,rfl,hq,q⟩:=T
 obtain⟨u,rfl,ru⟩:=zbN Z
 cases ru
 obtain⟨o,rfl⟩:=R
 letI:Dl.KK:=⟨X.K⟩
 refine zbc (Dl.seq_walk I2 (I2.ok.hd S) (.inl hq) λJ c P O St s₂ l W M w d=>?_)
 have C:=l.length
 rw[u4]at C
 refine⟨J,P,O,_,_,St,λi j=>decide (b.getD j 0<b.getD i 0),rfl,W,M,w,λi j vi vj s Q E L r F=>?_,λv B tk g A=>?_⟩
 .obtain⟨t1,rfl⟩:=Dl.vals_int l L
  obtain⟨t2,rfl⟩:=Dl.vals_int l r
  exact PyProof.Rows.gt_int F
 .by_cases n:b=[]
  .subst n
   have Y:c.length=0:=C.symm
   rw[u9 Y]at g
   subst g
   exact⟨.int k,H2,d B tk A,⟨o,rfl⟩,by rw[u9 rfl]at q;exact q⟩
  .have D:0<b.length:=List.length_pos_iff.mpr n
   rw[t9 (by omega)]at g
   obtain⟨t,rfl⟩:=Dl.vals_int l g
   rw[t9 n]at q
   refine⟨.int (Dl.maxL b),H2,d B tk A,⟨t,?_⟩,q⟩
   have key:=Dl.best_ge (λi=>b.getD i 0) (c.length-1)
   have V:argBest (λi j=>decide (b.getD j 0<b.getD i 0)) (c.length-1)<b.length:=by
    have:=(key 0 (g9 _)).2
    omega
   rw[Dl.max_is (m:=b.getD (argBest (λi j=>decide (b.getD j 0<b.getD i 0)) (c.length-1)) 0) (Dl.getD_mem V)]
   intro x hx
   obtain⟨j,r,rfl⟩:=n0 hx
   have:=(key j (by omega)).1
   rw[<-Dl.getD_at r]
   exact this
end
end L2
namespace Dl
open PySem L2
variable [KK]
section
variable {X:Cx}{e de:Expr}{p pos kp:Pos}
def zfT:wt
 | .lst ds,.int k=>(zaa ds).map λa=>.int (if a=[]then k else maxL a)
 | _,_=>none
def zh9 {f:zQ} (A:X.calm=true) (G:Gl X "max") (n:X.mg "max"=none) (B:ED X e f) (u:ED X de h) (w:starEach [e] X.env=(false,eval e X.env)::starEach [] X.env:=by rfl) (K:backTo pos (starEach [e] X.env)=(false,eval e X.env)::backTo pos (starEach [] X.env):=by rfl) (i:(backTo pos (starEach [e] X.env)).any (·.1)=false:=by rfl) :
 ED X (.Call (.Name "max" p) [e] [⟨some "default",de,kp⟩] pos) (zd zfT f h):=by
 obtain⟨ta,E,I⟩:=B
 obtain⟨O,m,x⟩:=u
 refine⟨_,zm0 A G n zlE (zu E yJ w) m K i,fun σ ρ F H z Q s j e q=>?_⟩
 obtain⟨d,o,e⟩:=u0.mp e
 obtain⟨k,r,b⟩:=u0.mp e
 refine I σ ρ F H d _ s j o λF1 H1 v g t=>?_
 refine x σ ρ F1 H1 k _ g.fh (j.mono g.ff) r λF2 H2 y c M=>?_
 unfold zfT at b
 split at b <;> try cases b
 obtain⟨C,l,rfl⟩:=u7.mp b
 cases ZH l
 obtain⟨a,N,rfl,L,J⟩:=(t.mono c.ff).lst_inv
 cases J.of_ints
 exact⟨a,C,_,rfl,M.int_inv,SqL.of (c.fh _ _ L),q F2 H2 _ (g.trans c) .int⟩
end
end Dl
namespace Dl
open PySem L2
def znN (t:zc):ve->ve
 | []=>[t]
 | u::us=>if HT.lexLt u t=true then u::znN t us else t::u::us
def y9:ve->ve
 | []=>[]
 | t::ts=>znN t (y9 ts)
def zcV (t:zc):∀ a:ve,(znN t a).Perm (t::a):=by
 intro a
 induction a with
 | nil=>exact u3y _
 | cons u a b =>
  unfold znN
  split
  .exact(b.cons u).trans (List.Perm.swap _ _ _)
  .exact u3y _
def ZQ:∀ a:ve,(y9 a).Perm a:=by
 intro a
 induction a with
 | nil=>exact u3y _
 | cons t a b=>exact(zcV t _).trans (b.cons t)
def zg4 (t:zc):∀ f:ve,f.Pairwise (λa b=>HT.lexLt b a=false)->(znN t f).Pairwise λa b=>HT.lexLt b a=false:=by
 intro f
 induction f with
 | nil=>intro _;exact List.pairwise_singleton _ _
 | cons u f g =>
  intro h
  rw[p4]at h
  unfold znN
  by_cases c:HT.lexLt u t=true
  .rw[u9 c]
   refine p4.mpr ⟨λv d=>?_,g h.2⟩
   rcases t6.mp ((zcV t f).mem_iff.mp d)with rfl | d
   .cases e:HT.lexLt v u with
    | false=>rfl
    | true =>
     have:=OwnSortT.lex_trans _ _ _ c e
     rw[OwnSortT.lex_irr]at this
     cases this
   .exact h.1 v d
  .rw[t9 c]
   have c:HT.lexLt u t=false:=by cases e:HT.lexLt u t with
    | false=>rfl
    | true=>exact absurd e c
   refine p4.mpr ⟨λv d=>?_,p4.mpr h⟩
   rcases t6.mp d with rfl | d
   .exact c
   .cases e:HT.lexLt v t with
    | false=>rfl
    | true =>
     rcases OwnSortT.lex_neg v u t e with z | z
     .rw[h.1 v d]at z;cases z
     .rw[c]at z;cases z
def ZT:∀ c:ve,(y9 c).Pairwise λa b=>HT.lexLt b a=false:=by
 intro c
 induction c with
 | nil=>exact List.Pairwise.nil
 | cons t c d=>exact zg4 t _ d
def zdU {d:ve}(p:d.Perm c)(h:d.Pairwise λa b=>HT.lexLt b a=false):d=y9 c :=
 u1v (le:=λa b=>HT.lexLt b a=false) (λa b _ _ f e=>OwnSortT.lex_total _ _ e f) h (ZT c) (p.trans (ZQ c).symm)
variable [KK]
section
variable {X:Cx}{e:Expr}{pos:Pos}
def fIf (t:Yk)(f g:y4):y4:=fun ρ=>(t ρ).bind λc=>if c=true then f ρ else g ρ
def zrg {t:Yk}{f g:y4}(w:TD X c t)(y:FL X a f)(o:FL X b g):FL X (.IfExp c a b pos) (fIf t f g):=by
 obtain⟨tc,A,v⟩:=w
 obtain⟨ta,C,E⟩:=y
 obtain⟨G,r,B⟩:=o
 refine⟨_,zex A C r,fun σ ρ F H z Q s i e q=>?_⟩
 obtain⟨x,u,e⟩:=u0.mp e
 refine v σ ρ F H x _ s i u λF1 H1 d=>?_
 cases x with
 | true =>
  rw[u9 rfl]at e ⊢
  exact E σ ρ F1 H1 z Q d.fh (i.mono d.ff) e λF2 H2 p m k j h l n=>q F2 H2 p m (d.trans k) (VI d j) h l n
 | false =>
  rw[t9 u6]at e ⊢
  exact B σ ρ F1 H1 z Q d.fh (i.mono d.ff) e λF2 H2 p m k j h l n=>q F2 H2 p m (d.trans k) (VI d j) h l n
end
end Dl
namespace Dl
open PySem L2
def b3:zcI
 | .tup [x,y,z]=>some [some x,some y,some z]
 | _=>none
end Dl
namespace Dl
open PySem L2
variable [KK]
def edv {X:Cx} (i:Nat) (c:X.N[i]?=some x:=by rfl) (e:Vis X.env.scope x:=by first | exact Or.inl rfl | exact Or.inr (Or.inl rfl) | exact Or.inr (Or.inr rfl)) (d:(x == ("__debug__":Str))=false:=by decide) (a:(x == ("__classdict__":Str))=false:=by decide):ED X (.Name x b) (zb i):=zn9 i (pv i c e d a)
def wM {X:Cx} {k:Nat} {f:Addr} (F:vU X.prog X.w X.K X.mg X.base CX0 j f i l (spD m p)) (u:x5 k X.A) (r:Gl X x) (d:Def X.K X.mg x s l f i) (n:AD X (e::a) h) (o:j<=k:=by decide) (c:(x == ("__debug__":Str))=false:=by decide) (t:starEach (e::a) X.env=(false,eval e X.env)::starEach a X.env:=by rfl) (g:(backTo b (starEach a X.env)).any (·.1)=false:=by rfl) :
 ED X (.Call (.Name x q) (e::a) [] b) (zh m p h):=znp (F.mono o) u r d.at_ d.kp d.bd n c t g
end Dl
namespace L2
open PySem PySem.Spec PyProof.Rows PySem.W
structure Xk (base:Heap) (mg:w1) (c P:Addr) (q:Str):Prop where
 hd:CodeHd base c P
 mt:base.objs[P]?=some (Y2 q)
 bm:base.BuiltinsAt mg P
def zck (H:Hp)(c:Addr)(q:Str):Prop:=∃ a b t P,H c=some (.frz a (.own P))/\a.data=.fields b/\b[1]?=some (.str q t)
def zck.at {w:World}{h:Heap}(x:zck H a q)(ok:HOk P w H h):h.CodeRec (.ref a) q:=by
 obtain⟨b,c,t,P',e,d,g⟩:=x
 exact⟨a,b,c,t,rfl,(ok a _ e).1,d,g⟩
def zck.mono {H H':Hp}(x:zck H a q)(k:∀ b o,H b=some o->H' b=some o):zck H' a q:=by
 obtain⟨c,d,t,P',e,r⟩:=x
 exact⟨c,d,t,P',k _ _ e,r⟩
def zgg {a:Heap}(h:a.objs[P]?=some (Y2 q)):a.get? P=none:=by
 unfold Heap.get?
 rw[h]
 rfl
def zfq {g:Pos}(l:zt)(h:TriplesOk l)(d:codeAmong e (l++[rawInt g.line,rawInt g.col,x])=some c):codeAmong e l=some c\/c=x:=by
 fun_induction TriplesOk l with
 | case1 =>
  simp only[u3s,codeAmong,rawInt]at d
  split at d
  .cases d;exact .inr rfl
  .cases d
 | case2 a t b u y rest i =>
  simp only[List.cons_append,codeAmong]at d ⊢
  split at d
  .rename_i f;rw[u9 f];exact .inl d
  .rename_i f;rw[t9 f];exact i h d
 | case3 l k j=>exact h.elim
section
variable {X:Cx}{pins:xn}{σ:St}{H:Hp}{s:zj}{c P:Addr}{q:Str}{params:Arguments}{body:Expr}{scope:Scope}{pos:Pos}{clos:vD}{A:zI}{E:yL}
abbrev zbO (X:Cx) (q:Str) (params:Arguments) (body:Expr) (scope:Scope) (clos:vD) (b:Addr) (a:Value):Obj:=kla_obj "<lambda>" q params body scope clos ((X.mg "__name__").getD .none) b a
def Inv.pushed {a:Heap}{tk:Nat}{o:Obj}(I:Inv X pins σ H { s with heap:=a,toks:=tk })(e:∀ v,o.data≠.cell v)(f:o.data≠.freed)(d:(a.push o).get? a.objs.size=some o) :
 Inv X (pins++Y9 [a.objs.size] (a.push o)) σ H { s with heap:=a.push o,toks:=tk }:=by
 have I2:=I.un (t':=tk) (H':=H) (h':=a.push o) (Un.kept λ_ _ q=>u5 _ q) (I.hok.kept λ_ _ q=>u5 _ q)
 exact I2.pinned (fp:=[a.objs.size]) (λb c=>by rw[q5.mp c];exact I.fpOk (t7 _) (I.hok.fresh (t7 _))) (λb c=>by rw[q5.mp c];exact⟨o,d,e⟩)
def zek {Q:yL} (L:Xk X.base X.mg c P q) (G:X.env.code=.ref c) (N:closureFor scope X.env=pure clos) (B:defaultsOf params X.env=([],[])) (hq:X.env.qual++"<lambda>"=q) (I:Inv X pins σ H s)
 (h:∀ (f m:Addr) (i:Value) (H':Hp) (U:zj),(∀ b o,H b=some o->H' b=some o)->Inv X (pins++Y9 [f] U.heap) σ H' U->U.heap.get? f=some (zbO X q params body scope clos m i)->zck H' m q->Q (.ref f) U) :
 wpAny (model X.prog X.w) A (eval (.Lambda params body scope pos) X.env) Q E s:=by
 refine kla_eval B ?_
 rw[hq]
 have y:H P=some (.tbl #[.str q 0]):=I.bs.2 P q L.mt
 obtain⟨qs,eP,T,x⟩:=(show yQ X.prog X.w H s.heap P (.tbl #[.str q 0])from I.hok P _ y)
 have C:=L.hd.keeps I.bk
 have hg:s.heap.Ns mainGlobals X.mg:=I.ok.mod.glob.keeps I.bk
 have Z:mainGlobals≠P:=λz=>by
  obtain⟨o,es,ep,e,hd,_⟩:=I.ok.mod.glob
  rw[z,zgg L.mt]at e
  cases e
 have w:=L.bm.keeps I.bk
 cases d:codeAmong pos qs.toList with
 | some cv =>
  obtain⟨m,l,V,S,t,t2,rfl,Y,od,ov,ep⟩:=x pos cv d
  obtain rfl:S=q:=by
   have:some (Value.str q 0)=some (.str S t2):=ep
   cases this
   rfl
  refine kla_makeFunctionHit (mg:=X.mg) N I.ok.glob hg G C eP T d w λi D tk hk a2=>?_
  have I1:=I.un (t':=tk) (H':=H) (h':=D) (Un.kept hk) (I.hok.kept hk)
  refine h _ m i H _ (λ_ _ e=>e) (I1.pushed (o:=zbO X S params body scope clos m i) (λv z=>by cases z) (λz=>by cases z) (q7 _ rfl)) (q7 _ rfl) ⟨l,V,t,P,Y,od,ov⟩
 | none =>
  refine kla_makeFunction (mg:=X.mg) N I.ok.glob hg G C eP T d Z w λk i D tk W R a1 K J=>?_
  have p:H k=none:=I.hok.fresh R
  have cP:k≠P:=λz=>by rw[z,y]at p;cases p
  obtain⟨c2,l,V,t,e2,M,F,hv⟩:=id K
  cases e2
  have ext:∀ b o,H b=some o->upd H k (.frz l (.own P)) b=some o:=λb o e=>by rw[zn (zg e p)];exact e
  have O:∀ b,H b=none->b≠P:=λb e z=>by rw[z,y]at e;cases e
  have a0:HOk X.prog X.w (upd H k (.frz l (.own P))) D:=λa o e=>by
   by_cases ha:a=k
   .subst ha
    rw[zq]at e
    cases e
    exact⟨M,l,M⟩
   .rw[zn ha]at e
    by_cases hp:a=P
    .subst hp
     rw[y]at e
     cases e
     refine⟨_,J,?_,λp2 cc j=>?_⟩
     .rw[Array.toList_append];exact TriplesOk_snoc _ _ _ _ T
     .rw[Array.toList_append]at j
      rcases zfq _ T j with j | rfl
      .obtain⟨m,o3,v3,S,t3,t4,ec,Y,r⟩:=x p2 cc j
       exact⟨m,o3,v3,S,t3,t4,ec,ext _ _ Y,r⟩
      .exact⟨k,l,V,q,t,0,rfl,zq,F,hv,rfl⟩
    .refine(I.hok a o e).stay (λb u w g=>W b u ?_ g) (λb g=>ext _ _ g) (λb xs g=>ext _ _ g) λb o u g=>ext _ _ g
     rcases w with rfl | w
     .exact hp
     .intro z
      rw[z,y]at w
      cases w
  have I1:Inv X pins σ (upd H k (.frz l (.own P))) { s with heap:=D,toks:=tk }:=I.un (t':=tk)
   ⟨λb o e n _ _=>W b o (O b n) e,λb o e n _ _=>⟨o.slots,W b o (O b n) e⟩,λb o e n _=>by rw[zn (k7 (j2 (q4 e) R))];exact n,λb o e _=>(by
    by_cases z:b=P
    .exact⟨_,z ▸ J⟩
    .exact⟨o,W b o z e⟩),λb xs e=>ext _ _ e,λb o u e=>ext _ _ e,λb ps e=>ext _ _ e⟩ a0
  refine h _ k i _ _ ext (I1.pushed (o:=zbO X q params body scope clos k i) (λv z=>by cases z) (λz=>by cases z) (q7 _ rfl)) (q7 _ rfl) ⟨l,V,t,P,zq,F,hv⟩
end
structure vn (X:Cx) (x:Str) (M:zJ) (scope:Scope) (cl:vD):Prop where
 clos:closureFor scope X.env=pure cl
 cell:∀ y∈scope.names,y.2≠.cell
 kind:scope.kind=.function
 par:scope.names.lookup x=some .local
 co:scope.isCoroutine=false
 gen:scope.isGenerator=false
 sub:∀ y c,cl.lookup y=some c->X.env.cells.lookup y=some c
 has:∀ y,(scope.names.lookup y=some .cell\/scope.names.lookup y=some .free)->∃ c,cl.lookup y=some c
 mlen:M.length=X.N.length
 msk:∀ (i:Nat) y,M[i]?=some y->Vis scope y->X.N[i]?=some y
 vis:∀ (i:Nat) y,M[i]?=some y->Vis scope y->(scope.names.lookup y=some .cell\/scope.names.lookup y=some .free)
 out:∀ (i:Nat) y,M[i]?=some y->Vis scope y->Vis X.env.scope y/\X.env.kindOf y≠some .local
def zbL (X:Cx)(x:Str)(M:zJ)(q:Str)(a:Scope)(b:vD)(f c:Addr)(A:zI)(s:zj)(H:Hp):Cx :=
 { X with A:=A.deeper (envX q a s.heap.objs.size f (.ref c) b),N:=x::M,s₀:=s,H₀:=H,env:=envX q a s.heap.objs.size f (.ref c) b,outer:=X.stack,stack:=envX q a s.heap.objs.size f (.ref c) b::X.stack,ex:=[],calm:=true,fn:=λ_=>false,pn:=[],xe:=λ_ _=>False }
section
variable {X:Cx}{pins:xn}{σ:St}{H:Hp}{s:zj}{q x:Str}{params:Arguments}{body:Expr}{scope:Scope}{cl:vD}{M:zJ}{A:zI}{f ca:Addr}{ctv:Value}{v:V}{u:Value}{te:TE}{Q:VK}{k:Nat}
def zkf (S:vn X x M scope cl)(W:x5 k A)(G:A.frames=some X.stack)(I:Inv X pins σ H s)(n:s.heap.get? f=some (zbO X q params body scope cl ca ctv))(rc:zck H ca q)
 (j:bindArgs (kla_fn "<lambda>" q params body scope cl ((X.mg "__name__").getD .none) (.ref ca) ctv) ⟨[u],[]⟩=pure [(x,u)]) (he:PE (zbL X x M q scope cl f ca A s H) body te) (rv:y2 v u) (ht:te (some v::σ) H Q) :
 codeAny (model X.prog X.w) A (.call (.ref f) ⟨[u],[]⟩) (λr K=>∃ y,r=.ok (.ret y)/\EP X pins σ Q y K) s:=by
 refine kla_callFunE W.depth n rfl S.co S.gen rfl (rc.at I.hok) ?_
 rw[j]
 refine t0 (wpAny_newFunctionEnv S.cell (λy F=>by rw[q5.mp F];exact S.par) (λV E R=>?_) S.kind)
 have a:∀ b o,s.heap.get? b=some o->V.get? b=some o:=λb o e=>R.extBut b o (k7 (q4 e)) (u5 _ e)
 refine⟨I.nolimit.keeps a,?_⟩
 show codeAny _ _ (.expr body (envX q scope s.heap.objs.size f (.ref ca) cl)) _ _
 let Y:Cx:=zbL X x M q scope cl f ca A s H
 have g:∀ b:Addr,b∉Y.ex:=λb z=>absurd (show b∈([]:xx)from z) (by simp)
 have OkY:Y.Ok:=⟨I.ok.mod,S.kind,rfl,rfl,t7 _,λy z c h1 Z=>I.ok.inj y z c (S.sub y c h1) (S.sub z c Z),λy F=>S.has y F,(λy c h _=>absurd h u6),λ_=>W.hd,Around.frames_deeper G,.inr ⟨rfl,rfl⟩,λb z=>absurd z (g b),I.bs,o5 I.ok.bsz I.sz,λb _ _=>g b,λb z=>absurd z (g b),I.stack,I.stkFree⟩
 have IY:Inv Y [] (some v::σ) H { s with heap:=V,toks:=s.toks+[(x,u)].length }:=by
  refine⟨OkY,rfl,I.bare,Un.kept a,⟨_,E,λi y w B C O=>?_⟩,λy c e=>?_,I.hok.fresh (t7 _),λy c e=>I.freeC y c (S.sub y c e),λp hp=>absurd (show p∈([]:xn)from hp) (by simp),I.hok.kept a,?_⟩
  .cases i with
   | zero =>
    have B:some x=some y:=B
    have C:some (some v)=some (some w):=C
    cases B
    cases C
    refine⟨u,rv,.inl ⟨S.par,?_⟩⟩
    show List.lookup x ([(x,u)].reverse)=some u
    simp
   | succ i =>
    have l:M[i]?=some y:=B
    have T:σ[i]?=some (some w):=C
    have N:=S.msk _ y l O
    obtain⟨ov,ok⟩:=S.out _ y l O
    obtain⟨m,hn,hl⟩:=I.loc
    obtain⟨u2,ru,lk⟩:=hl _ y w N T ov
    refine⟨u2,ru,?_⟩
    rcases lk with ⟨hk,_⟩ | ⟨_,c,D,d⟩
    .exact absurd hk ok
    .have U:=S.vis _ y l O
     obtain⟨c',t⟩:=S.has y U
     have:=S.sub y c' t
     rw[D]at this
     cases this
     refine .inr ⟨U,c,t,?_⟩
     obtain⟨o,n,L⟩:=d
     exact⟨o,a _ _ n,L⟩
  .obtain⟨w,o,n,L⟩:=I.cell y c (S.sub y c e)
   exact⟨w,o,a _ _ n,L⟩
  .show σ.length+1=M.length+1
   rw[I.len,S.mlen]
 refine kla_codeExpr (p8 (he [] _ _ H Q IY ht) (λy K h=>?_) λe K z=>z.elim)
 obtain⟨w,H',J,P,q'⟩:=h
 exact⟨y,rfl,I.after ⟨w,H',J.os,J.bare,J.base,J.hok,P,q'⟩⟩
end
section
variable {X:Cx}{pins:xn}{σ:St}{H:Hp}{s:zj}
def Inv.own2 {d:Heap}{tk:Nat}(I:Inv X pins σ H s)(f:za2 X pins H b)(k:∀ c o,c≠b->s.heap.get? c=some o->d.get? c=some o)(u:∃ o,d.get? b=some o):Inv X pins σ H { s with heap:=d,toks:=tk }:=by
 obtain⟨i,t,w,m,r,p⟩:=f
 have h:∀ c o,c∉[b]->s.heap.get? c=some o->d.get? c=some o:=λc o a e=>k c o (λz=>a (q5.mpr z)) e
 refine I.call' (s':={ s with heap:=d,toks:=tk }) (ch:=[b]) rfl ⟨λc o e _ _ g=>h c o g e,λc o e _ _ g=>⟨o.slots,h c o g e⟩,λ_ _ _ n _=>n,λc o e g=>⟨o,h c o g e⟩,λ_ _ q=>q,λ_ _ _ q=>q,λ_ _ q=>q⟩ ?_ I.bare λc a=>?_
 .intro c j e
  refine(I.hok c j e).stay (λl v a q=>k l v (λz=>?_) q) (λ_ q=>q) λ_ _ q=>q
  subst z
  rcases a with z | z
  .rw[<-z,i]at e;cases e
  .rw[i]at z;cases z
 .rw[q5.mp a]
  exact⟨m,t,r,p⟩
def zjj (d:Bool)(H:Hp)(b:Addr)(t:zc):Prop:=match d with
 | false=>H b=some (.tup (t.map V.int))
 | true=>∃ i c a,t=i::a/\H b=some (.tup [.int i,.ref c])/\H c=some (.tup (a.map V.int))
def zjj.mono {H H':Hp}{t:zc}(x:zjj a H b t)(k:∀ b o,H b=some o->H' b=some o):zjj a H' b t:=by
 cases a with
 | false=>exact k _ _ x
 | true =>
  obtain⟨i,c,f,e,g,d⟩:=x
  exact⟨i,c,f,e,k _ _ g,k _ _ d⟩
structure zm1 (md:Bool) (X:Cx) (pins:xn) (σ:St) (H0:Hp) (a kS:Addr) (e1:Nat) (ts:ve) (keys:zP) (H:Hp) (s:zj):Prop where
 inv:Inv X pins σ H s
 up:∀ b o,H0 b=some o->H b=some o
 ha:s.heap.get? a=some (seqObj "list" #[] e1)
 hk:∃ e,s.heap.get? kS=some (seqObj "list" keys e)
 fa:za2 X pins H a
 fk:za2 X pins H kS
 ks:keys.size<=ts.length/\∀ (j:Nat) (v:Value),keys[j]?=some v->∃ b t,v=.ref b/\ts[j]?=some t/\zjj md H b t
def zku {H0:Hp}{g f:Addr}{m:zt}{ts:ve}(K:a≠g)(U:ts.length=m.length)(hz:m.length<sizeLine) (turn:∀ (i:Nat) (v:Value) (t:zc),m[i]?=some v->ts[i]?=some t->∀ (k:xn) (H1:Hp) (u:zj),(∀ b o,H0 b=some o->H1 b=some o)->Inv X (pins++k) σ H1 u ->
 wpAny (model X.prog X.w) A (call (.ref f) [v]) (λy C=>∃ b H2,y=.ref b/\(∀ b o,H1 b=some o->H2 b=some o)/\zjj md H2 b t/\Inv X (pins++k) σ H2 C) (λ_ _=>False) u) (S:zm1 md X pins σ H0 a g r ts #[] H s) (fin:∀ d H' l,zm1 md X pins σ H0 a g r ts d H' l->d.size=m.length->wpAny (model X.prog X.w) A (ksk_end a false m.toArray r (.ref g) d) P E l) :
 wpAny (model X.prog X.w) A (ksk_rest a (.ref f) false m.toArray r (.ref g)) P E s:=by
 unfold ksk_rest
 refine u3 (u1i ?_)
 first
  | rw[List.forIn_toArray]
  | (rw[<-Array.forIn_toList];simp only[List.toList_toArray])
  | rw[<-Array.forIn_toList]
 refine u3 (ksk_fold (λi l=>∃ d H',zm1 md X pins σ H0 a g r ts d H' l/\d.size=i) m 0 s ⟨#[],H,S,rfl⟩ ?step ?done)
 case step =>
  rintro j x l V ⟨d,H1,S1,p⟩
  rw[g8]at p ⊢
  have a0:j<m.length:=(t5.mp V).1
  obtain⟨R,D⟩:∃ t,ts[j]?=some t:=⟨_,u8 (by omega)⟩
  obtain⟨e,F⟩:=S1.hk
  have T:∀ {o:Obj} {J:zP} {n:Nat},o=seqObj "list" J n->∀ v,o.data≠.cell v:=λh v z=>by rw[h]at z;cases z
  have I1:=S1.inv.pinned (fp:=[a,g]) (λb q=>by
   rcases t6.mp q with rfl | q
   .exact S1.fa
   .rw[q5.mp q];exact S1.fk) (λb q=>by
   rcases t6.mp q with rfl | q
   .exact⟨_,S1.ha,T rfl⟩
   .rw[q5.mp q];exact⟨_,F,T rfl⟩)
  refine u3 (u03 (p8 (turn j x R V D _ H1 l S1.up I1) (λy C he=>?_) λ_ _ hF=>hF.elim))
  obtain⟨b,H2,rfl,B,hb2,I2⟩:=he
  have Q:=I2.pin (a,seqObj "list" #[] r) (r3 _ (r3 _ (xh (.head _) S1.ha)))
  have G:=I2.pin (g,seqObj "list" d e) (r3 _ (r3 _ (xh (.tail _ (.head _)) F)))
  have I3:=I2.unpinned
  try dsimp only
  obtain⟨M,w⟩:∃ M,(C.heap.update g (Obj.mapSeq (·.push (.ref b)))).get? g=some (seqObj "list" (d.push (.ref b)) M):=⟨_,u1Q G.1 (·.push (.ref b))⟩
  have u:=u0x C.heap g (Obj.mapSeq (·.push (.ref b)))
  refine u3 (u1h G.1 rfl ?_ (by rw[p];omega) (o5 (u2V (u3q ..)) (by rw[p];omega)))
  refine t0 ⟨rfl,d.push (.ref b),H2,⟨?_,λc o z=>B _ _ (S1.up _ _ z),(u.2 a K).trans Q.1,⟨M,w⟩,⟨Q.2.1,S1.fa.2⟩,⟨G.2.1,S1.fk.2⟩,?_,λi v I=>?_⟩,by rw[u3q,p]⟩
  .exact I3.own2 (b:=g) (tk:=C.toks) ⟨G.2.1,S1.fk.2⟩ (λc o Z z=>(u.2 c Z).trans z) ⟨_,w⟩
  .rw[u3q,p];omega
  .rw[Array.getElem?_push]at I
   split at I
   .rename_i Y
    cases I
    refine⟨b,R,rfl,?_,hb2⟩
    rw[Y,p]
    exact D
   .obtain⟨b2,W,L,O,N⟩:=S1.ks.2 i v I
    exact⟨b2,W,L,O,N.mono B⟩
 case done =>
  rintro l ⟨d,H1,S1,p⟩
  obtain⟨e,F⟩:=S1.hk
  refine u3 (u01 F rfl (fin d H1 l S1 (by rw[p,g8])))
end
end L2
namespace OwnSortT
open PySem PyProof.Rows OwnSort
def NT (h:Heap) (v:Value) (t:zc):Prop:=∃ a o n i tk c e,v=.ref a/\h.get? a=some o/\o.cls=.type "tuple"/\o.data=.seq [Value.int i tk,.ref c].toArray n/\t=i::e/\∃ d f b,h.get? c=some d/\d.cls=.type "tuple"/\d.data=.seq b.toArray f/\IntsAre b e
def NT.uniq {t:zc}(x:NT h v s)(y:NT h v t):s=t:=by
 obtain⟨a,o,n,i,tk,c,G,rfl,A,_,D,rfl,L,J,g,E,_,C,F⟩:=x
 obtain⟨b,p,m,j,w,d,H,e,q,_,l,rfl,K,I,f,u,_,r,z⟩:=y
 cases e
 rw[A]at q
 cases q
 rw[D]at l
 have k:[Value.int i tk,.ref c].toArray=[Value.int j w,.ref d].toArray:=by injection l
 have k:=u2m k
 cases k
 rw[E]at u
 cases u
 rw[C]at r
 have B:g.toArray=f.toArray:=by injection r
 cases u2m B
 rw[Va F z]
def TN (a:Bool)(h:Heap)(v:Value)(t:zc):Prop:=match a with
 | false=>TT h v t
 | true=>NT h v t
def TN.uniq {t:zc}(x:TN a h v s)(y:TN a h v t):s=t:=by
 cases a with
 | false=>exact TT.uniq x y
 | true=>exact NT.uniq x y
open Classical in
noncomputable def zcP (a:Bool)(h:Heap)(v:Value):Option zc:=if x:∃ t,TN a h v t then some x.choose else none
def keyTN_of {t:zc}(x:TN a h v t):zcP a h v=some t:=by
 unfold zcP
 have y:∃ t,TN a h v t:=⟨t,x⟩
 rw[dif_pos y,y.choose_spec.uniq x]
@[reducible] noncomputable def zev (md:Bool) (h:Heap):KeyKind where
 α:=zc
 blt:=HT.lexLt
 irrefl:=lex_irr
 trans:=lex_trans
 negTrans:=lex_neg
 total:=lex_total
 keyOf:=zcP md h
 dflt:=[]
section
variable {prog:zH}{w:World}{A:zI}{E:yL}{s:zj}
def zit:∀ {a:zt} {b:zc},IntsAre a b->∀ {j:Nat} (h:j<a.length),∃ t,a[j]=.int (b.getD j 0) t:=by
 intro a b h
 induction h with
 | nil=>intro j h;simp at h
 | cons n t h c =>
  intro j d
  cases j with
  | zero=>exact⟨t,rfl⟩
  | succ j=>exact c (by simpa using d)
def zmq:∀ (b a:zc),((List.range (min b.length a.length)).all (λj=>b.getD j 0 == a.getD j 0)&&b.length == a.length)=decide (b=a):=by
 intro b a
 rw[u08,r4,f9,u2w,j3]
 constructor
 .rintro⟨e,c⟩
  refine u2j c λi d f=>?_
  have:=e i (j6.mpr (by omega))
  rw[u2w,j9,j9,u8 d,u8 f]at this
  exact this
 .rintro rfl
  exact⟨λj _=>u0P _,rfl⟩
def zng {o f:Obj} {a g:zt} (v:A.units<cLine) (w:s.heap.get? c=some o) (F:o.cls=.type "tuple") (x:o.data=.seq a.toArray n) (r:IntsAre a p) (q:s.heap.get? d=some f) (C:f.cls=.type "tuple") (m:f.data=.seq g.toArray y) (k:IntsAre g i) :
 SeqAt.EqAt A s (.ref c) (.ref d) (decide (p=i)):=by
 by_cases h:c=d
 .subst h
  rw[w]at q
  cases q
  rw[x]at m
  have z:a.toArray=g.toArray:=by injection m
  cases u2m z
  rw[Va r k,j0 rfl]
  exact .same _
 .have E:=r.length
  have G:=k.length
  have:=SeqAt.RcAt.tuples (A:=A) (s:=s) (l:=c) (b:=d) (items:=a.toArray) (items2:=g.toArray) (e:=λj=>p.getD j 0 == i.getD j 0) ⟨o,w,F,n,x⟩ ⟨f,q,C,y,m⟩ v λj B H=>by
   obtain⟨t,D⟩:=zit r (j:=j) (by simpa using B)
   obtain⟨u,v⟩:=zit k (j:=j) (by simpa using H)
   simp only[u2p,D,v]
   exact .int_int _ _ _ _
  rw[t8,t8,E,G,zmq]at this
  exact u1P h this
def zmL {o a:Obj} {b e:zt} {g f:zc} {Q:Bool->Shared->Prop} (u:A.units<cLine) (m:s.heap.get? c=some o) (q:o.cls=.type "tuple") (p:o.data=.seq b.toArray n) (t:IntsAre b g) (r:s.heap.get? d=some a) (l:a.cls=.type "tuple") (k:a.data=.seq e.toArray i) (j:IntsAre e f) (h:Q (HT.lexLt g f) s) :
 wpAny (model prog w) A (oneLt' false (.ref c) (.ref d)) Q E s:=by
 rw[oneLt'_eq]
 rw[t9 u6]
 exact u3 (HT.lt_tupInts (items:=b.toArray) (items2:=e.toArray) ⟨o,m,q,n,p⟩ ⟨a,r,l,i,k⟩ t j u (l9 h))
def zmZ {g:Bool}{Q:Bool->Shared->Prop}(D:A.units<cLine)(B:TN g s.heap x a)(l:TN g s.heap y b)(h:Q (HT.lexLt a b) s):wpAny (model prog w) A (keyLt' (tuples' true) x y) Q E s:=by
 cases g with
 | false=>exact ziv B l h
 | true =>
  obtain⟨p,o,n,i,tk,c,F,rfl,I,_,L,rfl,R,P,S,z,m,t,C⟩:=B
  obtain⟨q,T,O,j,G,d,J,rfl,K,_,H,rfl,M,N,U,v,u,r,k⟩:=l
  rw[zce]
  refine u3 (u01 I L (u3 (u01 K H ?_)))
  simp only[u0S,u2U,u2n,u3t,u1I,u17]
  refine u3 (u3 (u3 (u1O i tk j G prog w E _ ?_)))
  rw[HT.lexLt_cons]at h
  by_cases e:i=j
  .rw[u9 e]at h
   rw[show(i == j)=true by rw[e];exact u0P _]
   refine t0 (u3 (u3 (zng D z m t C v u r k prog w E _ ?_)))
   by_cases f:F=J
   .rw[j0 f]
    refine t0 (t0 (t0 ?_))
    rw[f,lex_irr]at h
    exact h
   .rw[j8 f]
    exact u3 (zmL D z m t C v u r k (t0 (t0 (t0 h))))
  .rw[t9 e]at h
   rw[show(i == j)=false by simpa using e]
   exact u3 (oneLt_int (t0 (t0 (t0 h))))
def zkF {h:Heap} {t:zc} (x:TN j h v t):∃ a o n f tk zs,v=.ref a/\h.get? a=some o/\o.cls=.type "tuple"/\o.data=.seq (Value.int f tk::zs).toArray n:=by
 cases j with
 | false =>
  obtain⟨a,o,n,l,rfl,b,e,d,k,g⟩:=(show TT h v t from x)
  cases k with
  | nil=>exact absurd rfl g
  | cons f tk k=>exact⟨a,o,n,f,tk,_,rfl,b,e,d⟩
 | true =>
  obtain⟨a,o,n,i,tk,c,m,rfl,b,e,d,_⟩:=(show NT h v t from x)
  exact⟨a,o,n,i,tk,_,rfl,b,e,d⟩
def zal {g:Bool}:∀ {d:zt} {Q:List (Option Value)->Shared->Prop},(∀ v∈d,∃ t,TN g s.heap v t)->(∀ c:zt,c.length=d.length->(∀ f∈c,∃ i t,f=.int i t)->Q (c.map some) s)->wpAny (model prog w) A (d.mapM firstOfTuple') Q E s
 | [],Q,_,h=>by rw[List.mapM_nil];exact t0 (h [] rfl (by simp))
 | v::d,Q,hT,h=>by
  obtain⟨t,j⟩:=hT v l5
  obtain⟨a,o,n,q,tk,zs,rfl,e,p,l⟩:=zkF j
  rw[u3z,zcb]
  refine u3 (u3 (u2e (T:="tuple") ⟨o,e,p⟩ ?_))
  rw[t9 (by simp)]
  refine u3 (u01 e l (t0 (u3 (zal (λu r=>hT u (o7 _ r)) λc m k=>t0 ?_))))
  exact h (.int q tk::c) (by simp[m]) λf b=>by
   rcases t6.mp b with rfl | b
   .exact⟨_,_,rfl⟩
   .exact k f b
def znr {Q:SortKind->Shared->Prop}(k:∀ v∈c::b,∃ t,TN e s.heap v t)(h:Q (tuples' true) s):wpAny (model prog w) A (keyKind' (c::b).toArray) Q E s:=by
 rw[keyKind'_eq,u10,<- bind_pure_comp,bind_assoc]
 refine u3 (zal k λa i g=>u3 (t0 ?_))
 cases a with
 | nil=>simp at i
 | cons f a =>
  rw[u9 (by simp)]
  have d:((f::a).map some).toArray.filterMap id=(f::a).toArray:=by simp
  refine u3 (u1i ?_)
  rw[d,oneTypeOnly'_eq,u10,zaJ g]
  simp only[map_pure,pure_bind]
  rw[show(List.map (λ_=>Value.type "int") (f::a)).toArray[0]?=some (Value.type "int") by simp]
  have j:((List.map (λ_=>Value.type "int") (f::a)).toArray.all λx=>x == Value.type "int")=true:=by
   simp only[List.all_toArray,u1w,f9]
   intro _ _
   rfl
  simp only[j,u14,pure_bind,Option.any_some]
  rw[show(Value.type "int" != Value.type "tuple")=true by decide +kernel]
  exact t0 h
end
end OwnSortT
namespace OwnKey
open PySem PyProof.Rows OwnSort OwnSortT
section
variable {prog:zH}{w:World}{A:zI}{E:yL}{s:zj}
def zka {a:zP}{b:zt}(h:x∈(a.zip b.toArray).toList):x.1∈a.toList:=by
 rw[ksk_zip]at h
 obtain⟨d,c⟩:=x
 exact(u1J h).1
def zhe {c:zP}{f:zt}(p:A.units<cLine)(o:∀ v∈c.toList,∃ t,TN e s.heap v t):OwnTim.LtE prog w A E s (zev e s.heap) (tuples' true) (·∈(c.zip f.toArray).toList):=by
 intro q x y Q m n l h
 have d:∀ {x:Keyed},x∈(c.zip f.toArray).toList->∃ t,TN e s.heap x.1 t/\OwnTim.ky (zev e s.heap) x=t:=λ{x} hm=>by
  obtain⟨t,g⟩:=o _ (zka hm)
  refine⟨t,g,?_⟩
  unfold OwnTim.ky
  show(zcP e s.heap x.1).getD _=t
  rw[keyTN_of g]
  rfl
 obtain⟨a,ta,i⟩:=d n
 obtain⟨b,j,k⟩:=d l
 rw[i,k]at h
 rw[lt'_eq]
 refine s0 (wpS_get ?_)
 rw[m]
 exact s0 (wpS_lift (u03 (zmZ p ta j ⟨rfl,u0v h⟩)))
def ziH (a:Bool)(h:Heap)(b:Array Keyed):Prop:=b.toList.Pairwise λp q=>HT.lexLt ((zcP a h q.1).getD ([]:zc)) ((zcP a h p.1).getD ([]:zc))=false
def zkq {a:Array Keyed}{n:Nat}(f:a.size=n)(k:SortedToK (zev c h) a n):ziH c h a:=by
 unfold ziH
 rw[u0C]
 intro i j g l e
 have d:i<a.size:=by simpa using g
 have b:j<a.size:=by simpa using l
 have:=k i j (u0k e) (by rw[<-f];exact b)
 unfold KK at this
 rw[u2Y a i d,u2Y a j b]at this
 have this:HT.lexLt ((zcP c h a[j].1).getD ([]:zc)) ((zcP c h a[i].1).getD ([]:zc))=false:=this
 simpa using this
def zi7 {a d:Addr} {e j:Nat} {b:zP} {i:zt} {st:SortSt} {P:PySem.Fin->Shared->Prop} (c:b.size=i.length) (m:i.length<64) (q:s.heap.get? d=some (seqObj "list" b e)) (l:s.heap.get? a=some (seqObj "list" #[] j)) (k:a≠d)
 (o:(arrOf st).Perm (b.zip i.toArray)) (n:failedOf st=none)
 (h:P (.done (.ret .none)) { s with heap:=(s.heap.update d (Obj.mapSeq λ_=>#[])).update a (Obj.mapSeq λ_=>(arrOf st).map (·.2)) }):wpAny (model prog w) A (ksk_tail a false j (.ref d) st) P E s:=by
 have p:=u0x s.heap d (Obj.mapSeq λ_=>(#[]:zP))
 have f:(s.heap.update d (Obj.mapSeq λ_=>(#[]:zP))).get? a=some (seqObj "list" #[] j):=(p.2 a k).trans l
 have g:(arrOf st).size=i.length:=by rw[o.size_eq,Array.size_zip,c,t8,u2X]
 unfold ksk_tail
 try dsimp only
 refine u3 (u1h q rfl ?_ (by rw[c,u1d];omega) (g9 _))
 refine u3 (u1t ?_)
 refine u3 (seqEpoch_at f rfl ?_)
 refine u3 (u1h f rfl ?_ (g9 _) (by rw[t9 u6,u3x,g,u1d];omega))
 rw[n]
 simp only[bne_self_eq_false,u1E,u3v]
 exact t0 h
def zn6 {b:zP} {c:zt} {P:PySem.Fin->Shared->Prop} (d:b.size=c.length) (f:c.length<64) (R:A.units<cLine) (M:∀ v∈b.toList,∃ t,TN md s.heap v t) (J:s.heap.get? u=some (seqObj "list" b e)) (K:s.heap.get? a=some (seqObj "list" #[] I)) (m:a≠u) (h:∀ G:Array Keyed,G.Perm (b.zip c.toArray)->ziH md s.heap G->P (.done (.ret .none)) { s with heap:=(s.heap.update u (Obj.mapSeq λ_=>#[])).update a (Obj.mapSeq λ_=>G.map (·.2)) }) :
 wpAny (model prog w) A (ksk_end a false c.toArray I (.ref u) b) P E s:=by
 have g:(b.zip c.toArray).size=c.length:=by rw[Array.size_zip,d,t8,u2X]
 unfold ksk_end
 try dsimp only
 rw[t9 u6]
 by_cases l:c.toArray.size<2
 .rw[u9 l,u9 l]
  refine u3 (t0 ?_)
  rw[StateT.run_pure]
  refine u3 (t0 ?_)
  try dsimp only
  refine zi7 (st:=SortSt.mk' general' (b.zip c.toArray) #[] 7 none) d f J K m (u1D _) rfl (h _ (u1D _) ?_)
  unfold ziH
  rw[u0C]
  intro i j S L O
  have C:j<(b.zip c.toArray).size:=by rw[u0h]at L;exact L
  rw[t8]at l
  rw[g]at C
  omega
 .rw[t9 l,t9 l]
  rw[t8]at l
  obtain⟨r,p,H⟩:∃ r p,b.toList=r::p:=by
   cases q:b.toList with
   | nil =>
    have:=u0q List.length q
    rw[u0h,u0X]at this
    omega
   | cons r p=>exact⟨r,p,rfl⟩
  have x:b=(r::p).toArray:=by rw[<-H,Array.toArray_toList]
  have o:=M
  rw[H]at o
  have N:wpAny (model prog w) A (keyKind' b) (λk D=>k=tuples' true/\D=s) E s:=by
   rw[x]
   exact znr o ⟨rfl,rfl⟩
  refine u3 (p8 N (λk D B=>?_) λ_ _ z=>z)
  obtain⟨rfl,rfl⟩:=B
  refine u3 (p8 (OwnTim.own_runsE (a₀:=b.zip c.toArray) (st:=SortSt.mk' (tuples' true) (b.zip c.toArray) #[] 7 none) (Q:=λ_ t=>(arrOf t).Perm (b.zip c.toArray)/\failedOf t=none/\SortedToK (zev md _) (arrOf t) (b.zip c.toArray).size)
   (zhe R M) (u1D _) rfl rfl rfl (λt n F y=>⟨n,F,y⟩) (by rw[g];omega) (by rw[g];exact f)) ?_ λ_ _ z=>z)
  rintro⟨⟨⟩,t⟩ D ⟨rfl,n,F,y⟩
  exact zi7 d f J K m n F (h _ n (zkq n.size_eq y))
end
end OwnKey
namespace L2
open PySem PySem.Spec PyProof.Rows PySem.W OwnKey
def zhr {α β:Type}{f:α->β}{l m:List β}(p:l.Perm m):∀ Z:List α,m=Z.map f->∃ Z':List α,Z'.Perm Z/\l=Z'.map f:=by
 induction p with
 | nil=>intro Z e;exact⟨Z,.refl _,e⟩
 | cons x p k =>
  intro Z e
  cases Z with
  | nil=>cases e
  | cons z Z =>
   rw[r6]at e
   obtain⟨d,a⟩:=u0e e
   obtain⟨Z',j,rfl⟩:=k Z a
   exact⟨z::Z',j.cons z,by rw[r6,d]⟩
 | swap x y l =>
  intro Z e
  cases Z with
  | nil=>cases e
  | cons z Z =>
   cases Z with
   | nil=>cases e
   | cons h Z =>
    rw[r6,r6]at e
    obtain⟨d,a⟩:=u0e e
    obtain⟨a,c⟩:=u0e a
    exact⟨h::z::Z,.swap _ _ _,by rw[r6,r6,d,a,c]⟩
 | trans q o b g =>
  intro Z e
  obtain⟨Z2,i,a⟩:=g Z e
  obtain⟨Z3,n,c⟩:=b Z2 a
  exact⟨Z3,n.trans i,c⟩
def zdu:∀ {t:zc} {a:zt},yl (t.map V.int) a->IntsAre a t
 | [],_,.nil=>.nil
 | n::t,_,.cons h r=>by
  obtain⟨tk,rfl⟩:=h
  exact .cons n tk (zdu r)
section
variable {X:Cx}{pins:xn}{σ:St}{H:Hp}{s:zj}
def Inv.trackF (I:Inv X pins σ H s)(f:za2 X pins H a)(m:X.s₀.heap.objs.size<=a)(h:yQ X.prog X.w (upd H a o) s.heap a o):Inv X pins σ (upd H a o) s:=by
 obtain⟨k,i,_,_,g,t⟩:=f
 have w:∀ b u,X.s₀.heap.get? b=some u->b≠a:=λb u e z=>absurd (j2 (q4 e) (z ▸ m)) (i7 _)
 have ext:∀ b u,H b=some u->upd H a o b=some u:=λb u e=>by rw[zn (zg e k)];exact e
 refine⟨I.ok,I.os,I.bare,⟨I.base.keep,I.base.slot,λb u e n y=>?_,I.base.there,λb j e=>ext _ _ (I.base.tups b j e),λb u v e=>ext _ _ (I.base.frzs b u v e),λb l e=>ext _ _ (I.base.tbls b l e)⟩,I.loc,I.cell,?_,λx c e=>?_,λp hq=>?_,λb u e=>?_,I.len⟩
 .rw[zn (w b u e)]
  exact I.base.free b u e n y
 .rw[zn (u0p i)]
  exact I.free
 .rw[zn (g x c e)]
  exact I.freeC x c e
 .obtain⟨e,n,r⟩:=I.pin p hq
  exact⟨e,by rw[zn (t p hq)];exact n,r⟩
 .by_cases c:b=a
  .subst c
   rw[zq]at e
   cases e
   exact h
  .rw[zn c]at e
   exact(I.hok b u e).stay (λ_ _ _ q=>q) (λc d=>ext _ _ d) (λc j d=>ext _ _ d) λc A v d=>ext _ _ d
def zrn {g:Bool}{w:World}{t:zc}(ok:HOk P w H h)(e:zjj g H b t)(k:t≠[]):OwnSortT.TN g h (.ref b) t:=by
 cases g with
 | false =>
  obtain⟨_,a,r,o,j,c,n,d⟩:=(show yQ P w H h b (.tup (t.map V.int))from ok b _ e)
  exact⟨b,o,n,a,rfl,j,c,d,zdu r,k⟩
 | true =>
  obtain⟨i,c,l,rfl,A,m⟩:=e
  obtain⟨_,a,r,o,j,v,n,d⟩:=(show yQ P w H h b (.tup [.int i,.ref c])from ok b _ A)
  obtain⟨_,f,p,z,y,u,B,s⟩:=(show yQ P w H h c (.tup (l.map V.int))from ok c _ m)
  cases r with
  | cons q r =>
   cases r with
   | cons x r =>
    cases r
    obtain⟨tk,rfl⟩:=q
    cases x
    exact⟨b,o,n,i,tk,c,l,rfl,j,v,d,rfl,z,B,f,y,u,s,zdu p⟩
def zi1:∀ {a:zx} {b:zt},a.length=b.length->(∀ p∈a.zip b,y2 p.1 p.2)->yl a b
 | [],[],_,_=>.nil
 | x::a,v::b,hl,h=>.cons (h (x,v) (.head _)) (zi1 (by simpa using hl) λp c=>h p (.tail _ c))
def zj6 {f:Addr} {g:zt} {ts:ve} {P:PySem.Fin->Shared->Prop} {A:zI} (rv:yl F g) (M:ts.length=g.length) (a0:g.length<64) (a1:∀ t∈ts,t≠[]) (U:A.units<cLine) (I:Inv X pins σ H s) (R:s.heap.get? a=some (seqObj "list" g.toArray n)) (fa:za2 X pins H a) (h0:X.s₀.heap.objs.size<=a) (turn:∀ (i:Nat) (v:Value) (t:zc),g[i]?=some v->ts[i]?=some t->∀ (k:xn) (H1:Hp) (Q:zj),(∀ b o,H b=some o->H1 b=some o)->Inv X (pins++k) σ H1 Q ->
 wpAny (model X.prog X.w) A (call (.ref f) [v]) (λy s2=>∃ b H2,y=.ref b/\(∀ b o,H1 b=some o->H2 b=some o)/\zjj md H2 b t/\Inv X (pins++k) σ H2 s2) (λ_ _=>False) Q) (fin:∀ (zs:List (zc × V)) (H':Hp) (h:zj),zs.Perm (ts.zip F)->zs.Pairwise (λp q=>HT.lexLt q.1 p.1=false)->(∀ b o,H b=some o->H' b=some o)->H' a=none->Inv X pins σ (upd H' a (.lst (zs.map (·.2)))) h->P (.done (.ret .none)) h) :
 wpAny (model X.prog X.w) A (ksk_tree a (.ref f) false) P E s:=by
 have sl:g.length<sizeLine:=by rw[u1d];omega
 have ha:a<s.heap.objs.size:=q4 R
 have Q:=u0x s.heap a (Obj.mapSeq λ_=>(#[]:zP))
 obtain⟨e1,B⟩:∃ e1,(s.heap.update a (Obj.mapSeq λ_=>(#[]:zP))).get? a=some (seqObj "list" #[] e1):=⟨_,u1Q R λ_=>#[]⟩
 have I1:=I.own2 (b:=a) (tk:=s.toks) fa (λc o K z=>(Q.2 c K).trans z) ⟨_,B⟩
 unfold ksk_tree
 refine u3 (u01 R rfl ?_)
 refine u3 (u1h R rfl ?_ (by rw[t8];omega) (g9 _))
 refine u3 (seqEpoch_at B rfl ?_)
 refine u3 (wpAny_newTuple ?_ (by show g.length<=_;omega))
 refine u3 (u3h ?_ (g9 _))
 refine i0 ?_
 have I2:=I1.un (t':=s.toks) (H':=H) (h':=(s.heap.update a (Obj.mapSeq λ_=>(#[]:zP))).push (seqObj "tuple" g.toArray 0)) (Un.kept λ_ _ q=>u5 _ q) (I1.hok.kept λ_ _ q=>u5 _ q)
 have I3:=I2.un (t':=s.toks) (H':=H) (h':=((s.heap.update a (Obj.mapSeq λ_=>(#[]:zP))).push (seqObj "tuple" g.toArray 0)).push (seqObj "list" #[] 0)) (Un.kept λ_ _ q=>u5 _ q) (I2.hok.kept λ_ _ q=>u5 _ q)
 have Y:((s.heap.update a (Obj.mapSeq λ_=>(#[]:zP))).push (seqObj "tuple" g.toArray 0)).objs.size=s.heap.objs.size+1:=by rw[size_push',Heap.size_update]
 have C:a≠((s.heap.update a (Obj.mapSeq λ_=>(#[]:zP))).push (seqObj "tuple" g.toArray 0)).objs.size:=by rw[Y];exact k7 (u1g ha)
 refine zku (md:=md) (X:=X) (pins:=pins) (σ:=σ) (H0:=H) (H:=H) (ts:=ts) C M sl turn ⟨I3,λ_ _ z=>z,u5 _ (u5 _ B),⟨0,q7 _ rfl⟩,fa,I2.fpOk (t7 _) (I2.hok.fresh (t7 _)),⟨g9 _,λj v O=>by simp at O⟩⟩ λd H' h S J=>?_
 obtain⟨e,hk⟩:=S.hk
 have m:∀ (j:Nat) (v:Value),d[j]?=some v->∃ t,ts[j]?=some t/\OwnSortT.TN md h.heap v t:=λj v O=>by
  obtain⟨b,t,rfl,N,L⟩:=S.ks.2 j v O
  exact⟨t,N,zrn S.inv.hok L (a1 t (j4 N))⟩
 refine zn6 (md:=md) J a0 U (λv O=>?_) hk S.ha C λx pm l=>?_
 .obtain⟨j,hj,rfl⟩:=n0 O
  obtain⟨t,_,L⟩:=m j d.toList[j] (by rw[<-u19,u8 hj])
  exact⟨t,L⟩
 .have kl:d.toList.length=g.length:=by rw[u0h];exact J
  have xl:F.length=g.length:=rv.length
  obtain⟨Z,W⟩:∃ Z:List (Keyed × (zc × V)),(d.toList.zip g).zip (ts.zip F)=Z:=⟨_,rfl⟩
  have z1:Z.map (·.1)=d.toList.zip g:=by rw[<-W];exact List.map_fst_zip (by rw[u0c,u0c];omega)
  have z2:Z.map (·.2)=ts.zip F:=by rw[<-W];exact List.map_snd_zip (by rw[u0c,u0c];omega)
  have zf:∀ z∈Z,OwnSortT.TN md h.heap z.1.1 z.2.1/\y2 z.2.2 z.1.2:=λz G=>by
   rw[<-W]at G
   obtain⟨i,hi,rfl⟩:=n0 G
   rw[u0c,u0c,u0c]at hi
   have i1:i<d.toList.length:=by omega
   have i2:i<g.length:=by omega
   have i3:i<ts.length:=by omega
   have i4:i<F.length:=by omega
   rw[u2l,u2l,u2l]
   obtain⟨t,N,L⟩:=m i d.toList[i] (by rw[<-u19,u8 i1])
   rw[u8 i3]at N
   cases N
   refine⟨L,?_⟩
   obtain⟨u,U,r⟩:=rv.get (u8 i4)
   rw[u8 i2]at U
   cases U
   exact r
  have pl:x.toList.Perm (d.toList.zip g):=by rw[<-ksk_zip];exact u1j.mp pm
  obtain⟨Z',p',ey⟩:=zhr pl Z z1.symm
  have D:∀ z∈Z',OwnSortT.TN md h.heap z.1.1 z.2.1/\y2 z.2.2 z.1.2:=λz G=>zf z (p'.mem_iff.mp G)
  have w:(Z'.map (·.2)).Pairwise (λp q=>HT.lexLt q.1 p.1=false):=by
   unfold ziH at l
   rw[ey,l7]at l
   rw[l7]
   refine l.imp_of_mem λ{p q} T hq hr=>?_
   rw[OwnSortT.keyTN_of (D p T).1,OwnSortT.keyTN_of (D q hq).1]at hr
   exact hr
  have eo:(x.map (·.2)).toList=Z'.map (λz=>z.1.2):=by rw[Array.toList_map,ey,r9];rfl
  have vo:yl ((Z'.map (·.2)).map (·.2)) (x.map (·.2)).toList:=by
   rw[eo,r9]
   refine zi1 (by rw[u4,u4]) λp T=>?_
   rw[List.zip_map']at T
   obtain⟨z,G,rfl⟩:=p0.mp T
   exact(D z G).2
  have zl:Z'.length=g.length:=by rw[p'.length_eq,<- W,u0c,u0c,u0c];omega
  have t1:=u0x h.heap ((s.heap.update a (Obj.mapSeq λ_=>(#[]:zP))).push (seqObj "tuple" g.toArray 0)).objs.size (Obj.mapSeq λ_=>(#[]:zP))
  obtain⟨c1,g1⟩:∃ c1,(h.heap.update ((s.heap.update a (Obj.mapSeq λ_=>(#[]:zP))).push (seqObj "tuple" g.toArray 0)).objs.size (Obj.mapSeq λ_=>(#[]:zP))).get? ((s.heap.update a (Obj.mapSeq λ_=>(#[]:zP))).push (seqObj "tuple" g.toArray 0)).objs.size=some (seqObj "list" #[] c1):=⟨_,u1Q hk λ_=>#[]⟩
  have J1:=S.inv.own2 (tk:=h.toks) S.fk (λc o K z=>(t1.2 c K).trans z) ⟨_,g1⟩
  have a2:=(t1.2 a C).trans S.ha
  have t2:=u0x (h.heap.update ((s.heap.update a (Obj.mapSeq λ_=>(#[]:zP))).push (seqObj "tuple" g.toArray 0)).objs.size (Obj.mapSeq λ_=>(#[]:zP))) a (Obj.mapSeq λ_=>x.map (·.2))
  obtain⟨c2,g2⟩:∃ c2,((h.heap.update ((s.heap.update a (Obj.mapSeq λ_=>(#[]:zP))).push (seqObj "tuple" g.toArray 0)).objs.size (Obj.mapSeq λ_=>(#[]:zP))).update a (Obj.mapSeq λ_=>x.map (·.2))).get? a=some (seqObj "list" (x.map (·.2)) c2):=⟨_,u1Q a2 λ_=>x.map (·.2)⟩
  have J2:=J1.own2 (b:=a) (tk:=h.toks) S.fa (λc o K z=>(t2.2 c K).trans z) ⟨_,g2⟩
  refine fin (Z'.map (·.2)) H' _ (by rw[<-z2];exact p'.map _) w S.up S.fa.1 (J2.trackF S.fa h0 ⟨by rw[u4,u4,zl];omega,(x.map (·.2)).toList,c2,vo,?_⟩)
  rw[g2]
end
section
variable {X:Cx}{e body:Expr}{params:Arguments}{scope:Scope}{p pos kp lp:Pos}{t:TA}{te:TE}{q x:Str}{M:zJ}{cl:vD}{c P:Addr}{k:Nat}
def zpc (d:Bool)(t:TA)(te:TE):TE:=fun σ H Q=>t σ H λe H1=>∃ (l:Addr) (a:zx) (c:ve),e=[.ref l]/\H1 l=some (.lst a)/\c.length=a.length/\a.length<64/\(∀ t∈c,t≠[]) /\
 (∀ (i:Nat) (y:V) (t:zc),a[i]?=some y->c[i]?=some t->∀ H2:Hp,(∀ b o,H1 b=some o->H2 b=some o)->te (some y::σ) H2 λz H3=>∃ b,z=.ref b/\(∀ b o,H2 b=some o->H3 b=some o)/\zjj d H3 b t) /\
 ∀ (zs:List (zc × V)) (D:Addr) (H':Hp),zs.Perm (c.zip a)->zs.Pairwise (λp q=>HT.lexLt q.1 p.1=false)->(∀ b o,H1 b=some o->H' b=some o)->H' D=none->H1 D=none->Q (.ref D) (upd H' D (.lst (zs.map (·.2))))
def zak {H1 H2:Hp} {I:Heap} {f:Addr} {xs:zx} {n:ve} {Q:VK} (hr:x5 (k+4) X.A) (S:vn X x M scope cl) (j:∀ (pm L l u:Value),bindArgs (kla_fn "<lambda>" q params body scope cl pm L l) ⟨[u],[]⟩=pure [(x,u)]) (hb:∀ f C A s H,PE (zbL X x M q scope cl f C A s H) body te) (h:∀ b o,H1 b=some o->H2 b=some o) (I2:Inv X (a++Y9 [f] I) σ H2 T) (hf:I.get? f=some (zbO X q params body scope cl C l)) (cx:zck H2 C q) (E:∀ (Q':zt->Shared->Prop) (E':yL),(∀ c d,yl xs c->Inv X (a++Y9 [f] I) σ H2 d->Q' c d)->wpAny (model X.prog X.w) X.A.in1 (collect u) Q' E' T) (a0:n.length=xs.length) (a1:xs.length<64) (Y:∀ t∈n,t≠[]) (turn:∀ (i:Nat) (y:V) (t:zc),xs[i]?=some y->n[i]?=some t->∀ H2:Hp,(∀ b o,H1 b=some o->H2 b=some o)->te (some y::σ) H2 λz H3=>∃ b,z=.ref b/\(∀ b o,H2 b=some o->H3 b=some o)/\zjj md H3 b t) (fin:∀ (zs:List (zc × V)) (D:Addr) (H':Hp),zs.Perm (n.zip xs)->zs.Pairwise (λp q=>HT.lexLt q.1 p.1=false)->(∀ b o,H1 b=some o->H' b=some o)->H' D=none->H1 D=none->Q (.ref D) (upd H' D (.lst (zs.map (·.2))))) :
 wpAny (model X.prog X.w) X.A (call (.builtin "sorted") [u] [(Str.ofString "key",.ref f)]) (EP X a σ Q) X.xe T:=by
 have W:X.A.in1.in1.frames=some X.stack:=I2.ok.frames
 have F:x5 k X.A.in1.in1:=(hr.mono (by omega:k+2<=k+4)).in1.in1
 refine call_function_entry_kw kind_sorted plain_sorted entry_sorted (ksk_s1 _ _) ?_
 unfold Builtin.«sorted»
 refine u3 (m:=checkCount "sorted" 1 1 _) (t0 ?_)
 refine u3 (E _ _ λc d K I3=>?_)
 have J:=K.length
 have g:H2 d.heap.objs.size=none:=I3.hok.fresh (t7 _)
 refine u3 (u3h ?_ (by rw[u1d];omega))
 have G:(d.heap.push (seqObj "list" c.toArray 0)).get? d.heap.objs.size=some (seqObj "list" c.toArray 0):=q7 _ rfl
 have I4:=I3.un (t':=d.toks) (H':=H2) (h':=d.heap.push (seqObj "list" c.toArray 0)) (Un.kept λ_ _ e=>u5 _ e) (I3.hok.kept λ_ _ e=>u5 _ e)
 show wpAny _ _ _ _ _ { d with heap:=d.heap.push (seqObj "list" c.toArray 0) }
 refine u3 (i0 (wpAny_call_entry_kw slot_list_sort ⟨_,G,rfl⟩ entry_list_sort ?body (ksk_l1 _ _)))
 case body =>
  show wpAny (model X.prog X.w) X.A.in1.in1 (Builtin.«list.sort» ⟨[.ref d.heap.objs.size],[(Str.ofString "key",.ref f)]⟩) _ _ _
  rw[ksk_t1]
  refine zj6 (md:=md) (X:=X) (pins:=a++Y9 [f] I) (σ:=σ) (H:=H2) (ts:=n) K (by omega) (by omega) Y (p5 (u0g _ _) F.units) I4 G (I3.fpOk (t7 _) g) I3.sz (λi v t hv ht P H3 s4 B I5=>?_) λzs H' s' pz sz up ha I5=>⟨_,rfl,t0 ⟨_,rfl,?_⟩⟩
  .have hi:i<xs.length:=by rw[J];exact(t5.mp hv).1
   obtain⟨y,hy⟩:∃ y,xs[i]?=some y:=⟨_,u8 hi⟩
   obtain⟨u,hu,ry⟩:=K.get hy
   rw[hv]at hu
   cases hu
   have Z:=(I5.pin (f,_) (r3 _ (u0U _ (r3 _ (xh (q5.mpr rfl) hf))))).1
   refine u3w (u2d (zkf S F W I5 Z (cx.mono B) (j _ _ _ _) (hb f C _ s4 H3) ry (turn i y t hy ht H3 λb o z=>B _ _ (h _ _ z))) λr s' N=>?_)
   obtain⟨w,rfl,v,H5,I6,R,b,rfl,O,U⟩:=N
   exact⟨b,H5,R,O,U,I6⟩
  .refine⟨.ref d.heap.objs.size,_,I5.unpinned,rfl,fin zs _ H' pz sz (λb o z=>up _ _ (h _ _ z)) ha ?_⟩
   cases z:H1 d.heap.objs.size with
   | none=>rfl
   | some o=>rw[h _ _ z]at g;cases g
def zef (hr:x5 (k+4) X.A) (hg:Gl X "sorted") (T:X.mg "sorted"=none) (Z:bootBuiltins "sorted"=some (.builtin "sorted")) (ha:PA X [e] t) (L:Xk X.base X.mg c P q) (D:X.env.code=.ref c) (S:vn X x M scope cl) (m:defaultsOf params X.env=([],[])) (hq:X.env.qual++"<lambda>"=q) (d:∀ (V z r u:Value),bindArgs (kla_fn "<lambda>" q params body scope cl V z r) ⟨[u],[]⟩=pure [(x,u)]) (U:∀ f F A s H,PE (zbL X x M q scope cl f F A s H) body te) (he:backTo pos (starEach [e] X.env)=(false,eval e X.env)::backTo pos (starEach [] X.env):=by rfl) (E:(backTo pos (starEach [e] X.env)).any (·.1)=false:=by rfl) :
 PE X (.Call (.Name "sorted" p) [e] [⟨some "key",.Lambda params body scope lp,kp⟩] pos) (zpc md t te):=by
 intro j s σ H Q I h
 refine u0G (vp I hg T Z ?_ (by decide) (by decide))
 refine u1z (thn (ha pos j s σ H _ I h) λus s1 ⟨vs,H1,I1,Y,N⟩=>u2c ?_) he E
 obtain⟨l,G,ts,rfl,hl,g,y,B,turn,fin⟩:=N
 obtain⟨u,rfl,ru⟩:=zbN Y
 cases ru
 refine zek (body:=body) (scope:=scope) (clos:=cl) L D S.clos m hq I1 λf F r H2 w v I2 W R=>u2r ?_
 obtain⟨_,a,n,J,el⟩:G.length<=sizeLine/\∃ (a:zt) (n:Nat),yl G a/\w.heap.get? l=some { cls:=.type "list",data:=.seq a.toArray n }:=I2.hok _ _ (v _ _ hl)
 have K:=J.length
 have C:w.heap.IsList l a.toArray:=⟨_,el,rfl,n,rfl⟩
 refine zak (md:=md) (H1:=H1) hr S d U v I2 W R (λQ' E' O=>?_) g y B turn fin
 refine collect_list C (O a _ J (I2.un (t':=w.toks) (H':=H2) (Un.kept ?_) (I2.hok.kept ?_))) (by rw[u1d];omega)
 all_goals
  intro b o q
  have i:b<w.heap.objs.size:=q4 q
  rw[Heap.get?_update_ne _ _ _ _ (k7 i),Heap.get?_push_ne _ _ _ (k7 i)]
  exact q
end
end L2
namespace OwnKey
open PySem
section
variable {prog:zH}{w:World}{A:zI}{E:yL}{s:zj}
def zaX {t:Tok}{n:Nat}{Q:zt->Shared->Prop}(I:A.handled=none)(J:IsRange s.heap r a b c t u v)(p:Builtin.Range.small a b c=true)(D:Builtin.Range.rangeSize a b c=n)(z:n<=2^24)(h:∀ (g:Heap) (tk:Nat) (d:zP),(∀ b o,s.heap.get? b=some o->g.get? b=some o)->ItemsOf (λi v=>∃ t,v=.int (a+i*c) t) d n->Q d.toList { s with heap:=g,toks:=tk }):wpAny (model prog w) A (collect (.ref r)) Q E s:=by
 unfold collect
 refine u3 (wpAny_runValue (u2G F.entry_proto_collect ?_))
 rw[u2o F.plain_proto_collect _]
 show wpAny _ A.in1 (newList []>>=λl=>again (.builtin "list.__iadd__" ⟨[l,.ref r],[]⟩)) _ _ s
 refine u3 (u0l ?_)
 refine t0 ⟨u1R F.plain_list_iadd _,u2G F.entry_list_iadd ?_⟩
 rw[u2o F.plain_list_iadd _]
 show wpAny _ A.in1 (Builtin.List.listExtendWith (.ref s.heap.objs.size) (.ref r) (.ref s.heap.objs.size)) _ _ _
 have j:∀ (y:Result) (q:zj),(∃ g tk d x,y=.ok (.ret (.ref s.heap.objs.size))/\q={ s with heap:=g,toks:=tk }/\(∀ b o,s.heap.get? b=some o->g.get? b=some o)/\g.get? s.heap.objs.size=some { cls:=.type "list",dict:=none,data:=.seq d x,slots:=#[] }/\ItemsOf (λi v=>∃ t,v=.int (a+i*c) t) d n) ->
  wants (λv q=>wpAny (model prog w) A (match v with
   | .ref a=>do
    let o<-load a
    match o.data with
    | .seq H _=>pure H.toList
    | _=>unsupported "internal:collect"
   | _=>unsupported "internal:collect") Q E q) E y q:=by
  rintro _ _ ⟨g,tk,d,x,rfl,rfl,k,C,m⟩
  show wpAny _ A (load s.heap.objs.size>>=_) _ _ _
  refine u3 (wpAny_load C ?_)
  exact t0 (h g tk d k m)
 refine p8 (wpAny_extend_range (A:=A) (R:=λy q=>∃ g tk d x,y=.ok (.ret (.ref s.heap.objs.size))/\q={ s with heap:=g,toks:=tk }/\(∀ b o,s.heap.get? b=some o->g.get? b=some o)/\g.get? s.heap.objs.size=some { cls:=.type "list",dict:=none,data:=.seq d x,slots:=#[] }/\ItemsOf (λi v=>∃ t,v=.int (a+i*c) t) d n)
  (s:={ s with heap:=s.heap.push { cls:=.type "list",data:=.seq ([]:zt).toArray } }) I (u5 _ J) p D z s.heap.objs.size _ 0 (q7 _ rfl) λg tk d x k C m=>⟨g,tk,d,x,rfl,rfl,λb o e=>k b o (k7 (q4 e)) (u5 _ e),C,m⟩) (λfin q hq=>?_) λe q hq=>?_
 .cases fin with
  | done f=>exact j _ _ hq
  | again x=>exact⟨hq.1,u2d hq.2 λy G B=>j _ _ B⟩
 .exact j _ _ hq
end
end OwnKey
namespace L2
open PySem PySem.Spec PyProof.Rows PySem.W OwnKey
section
variable {X:Cx}{a body:Expr}{params:Arguments}{scope:Scope}{p p2 pos pos2 kp lp:Pos}{ta te:TE}{q x:Str}{M:zJ}{cl:vD}{c P:Addr}{k:Nat}
def zp4 (ta te:TE):TE:=fun σ H Q=>ta σ H λy H1=>∃ (j:Nat) (a:ve),y=.int (j:Int)/\j<=60/\a.length=j/\(∀ t∈a,t≠[]) /\
 (∀ (i:Nat) (z:V) (t:zc),((List.range j).map λk:Nat=>V.int (k:Int))[i]?=some z->a[i]?=some t->∀ H2:Hp,(∀ b o,H1 b=some o->H2 b=some o)->te (some z::σ) H2 λz H3=>∃ b,z=.ref b/\(∀ b o,H2 b=some o->H3 b=some o)/\zjj false H3 b t) /\
 ∀ (zs:List (zc × V)) (D:Addr) (H':Hp),zs.Perm (a.zip ((List.range j).map λk:Nat=>V.int (k:Int)))->zs.Pairwise (λp q=>HT.lexLt q.1 p.1=false)->(∀ b o,H1 b=some o->H' b=some o)->H' D=none->H1 D=none->Q (.ref D) (upd H' D (.lst (zs.map (·.2))))
def zjl (hr:x5 (k+4) X.A) (hg:Gl X "sorted") (hm:X.mg "sorted"=none) (hv:bootBuiltins "sorted"=some (.builtin "sorted")) (N:Gl X "range") (Y:X.mg "range"=none) (ha:PE X a ta)
 (L:Xk X.base X.mg c P q) (R:X.env.code=.ref c) (S:vn X x M scope cl) (B:defaultsOf params X.env=([],[])) (hq:X.env.qual++"<lambda>"=q)
 (l:∀ (pm G E u:Value),bindArgs (kla_fn "<lambda>" q params body scope cl pm G E) ⟨[u],[]⟩=pure [(x,u)])
 (D:∀ f ca A s H,PE (zbL X x M q scope cl f ca A s H) body te) (hs:starEach [a] X.env=[(false,eval a X.env)]:=by rfl)
 (he:backTo pos (starEach [.Call (.Name "range" p2) [a] [] pos2] X.env)=(false,eval (.Call (.Name "range" p2) [a] [] pos2) X.env)::backTo pos (starEach [] X.env):=by rfl) (Z:(backTo pos (starEach [.Call (.Name "range" p2) [a] [] pos2] X.env)).any (·.1)=false:=by rfl) :
 PE X (.Call (.Name "sorted" p) [.Call (.Name "range" p2) [a] [] pos2] [⟨some "key",.Lambda params body scope lp,kp⟩] pos) (zp4 ta te):=by
 intro i s σ H Q I h
 refine u0G (vp I hg hm hv ?_ (by decide) (by decide))
 refine u1z ?_ he Z
 rw[he]
 show wpAny _ _ (spliced ((false,eval (.Call (.Name "range" p2) [a] [] pos2) X.env)::[])) _ _ _
 refine u0Q ?_
 refine Call_ (vp I N Y boot_range (o8 ?_ hs rfl))
 rw[hs]
 show wpAny _ _ (spliced ((false,eval a X.env)::[])) _ _ _
 refine u0Q (thn (ha i s σ H _ I h) λv d hh9=>?_)
 obtain⟨y,H1,I1,r1,q1⟩:=hh9
 obtain⟨j,ts,rfl,hj,C,W,turn,fin⟩:=q1
 obtain⟨t,rfl⟩:=r1
 refine u0V ?_
 refine call_range_1 ?_
 refine u0V ?_
 have I2:Inv X i σ H1 { d with heap:=d.heap.push { cls:=.type "range",data:=.fields #[.int 0 d.toks,.int (j:Int) t,.int 1 (d.toks+1)] },toks:=d.toks+1+1 }:=I1.kept λb o e=>u5 _ e
 obtain⟨r,g⟩:∃ r,d.heap.objs.size=r:=⟨_,rfl⟩
 have F:(d.heap.push { cls:=.type "range",data:=.fields #[.int 0 d.toks,.int (j:Int) t,.int 1 (d.toks+1)] }).get? r=some { cls:=.type "range",data:=.fields #[.int 0 d.toks,.int (j:Int) t,.int 1 (d.toks+1)] }:=by rw[<-g];exact q7 _ rfl
 have I2p:=I2.pinned (fp:=[r]) (λb D=>by rw[q5.mp D];exact I1.fpOk (u2V g) (I1.hok.fresh (u2V g))) (λb D=>by rw[q5.mp D];exact⟨_,F,λv z=>by cases z⟩)
 rw[g]
 refine u2c ?_
 refine zek (body:=body) (scope:=scope) (clos:=cl) L R S.clos B hq I2p λf ca E H2 s2 T I3 hf cx=>u2r ?_
 have U:=(I3.pin (r,_) (r3 _ (u0U _ (r3 _ (xh (q5.mpr rfl) F))))).1
 refine p8 (zak (md:=false) (H1:=H1) (xs:=(List.range j).map λk:Nat=>V.int (k:Int)) (Q:=Q) hr S l D T I3 hf cx (λQ' E' hQ=>?_) (by rw[u4,k8];exact C) (by rw[u4,k8];omega) W turn fin) (λv s' ⟨w,H',J,O,q'⟩=>⟨w,H',J.unpinned,O,q'⟩) λ_ _ z=>z
 refine zaX (n:=j) (by simp[hr.hd]) U (small_one (by decide) (by decide) (by omega) (by omega)) (by rw[rangeSize_one];split <;> omega) (by omega) λh' tk K kk m=>?_
 exact hQ K.toList _ (zfy m) (I3.un (t':=tk) (H':=H2) (Un.kept kk) (I3.hok.kept kk))
end
end L2
namespace Dl
open PySem L2
variable [KK]
def AtL.map2 {α:Type}{f:α->D}{g:α->V}:∀ (l:List α),(∀ z∈l,At F (f z) (g z))->AtL F (l.map f) (l.map g)
 | [],_=>.nil
 | z::l,h=>.cons (h z (.head _)) (AtL.map2 l λy a=>h y (.tail _ a))
def Y3 (a:ve)(b:zk):zk:=(y9 a).map λt=>b.getD (a.idxOf t) .non
def zaH {b:zx}{a:ve}{zs:List (zc × V)}(f:AtL F c b)(d:a.length=b.length)(m:a.Nodup)(p:zs.Perm (a.zip b))(s:zs.Pairwise λp q=>HT.lexLt q.1 p.1=false) :
 AtL F (Y3 a c) (zs.map (·.2)):=by
 have e:zs.map (·.1)=y9 a:=zdU (by
  have:=p.map (·.1)
  rwa[show(a.zip b).map (·.1)=a from List.map_fst_zip (u2V d)]at this) (l7.mpr s)
 unfold Y3
 rw[<-e,r9]
 refine AtL.map2 zs λz o=>?_
 obtain⟨i,n,rfl⟩:=n0 (p.mem_iff.mp o)
 rw[u0c]at n
 have k:i<a.length:=by omega
 have j:i<b.length:=by omega
 rw[u2l]
 show At F (c.getD (a.idxOf a[i]) .non) b[i]
 have r:a.idxOf a[i]=i:=m.idxOf_getElem i k
 rw[r]
 have t:c.length=b.length:=f.length.symm
 have h:c[i]?=some c[i]:=u8 (by omega)
 obtain⟨x,g,l⟩:=f.get h
 rw[u8 j]at g
 cases g
 rw[j9,h]
 exact l
end Dl
namespace Dl
open PySem L2
variable [KK]
def zd0 (g:zQ)(ρ:Ev):zk->Option ve
 | []=>some []
 | d::ds=>(g (some d::ρ)).bind λa=>match a with
  | .tup b=>(zaa b).bind λt=>if t=[]then none else (zd0 g ρ ds).map (t::·)
  | _=>none
def Vq {g:zQ}:∀ {e:zk} {a:ve},zd0 g ρ e=some a->a.length=e.length/\(∀ t∈a,t≠[])/\∀ (i:Nat) (d:D) (t:zc),e[i]?=some d->a[i]?=some t->∃ b,g (some d::ρ)=some (.tup b)/\zaa b=some t
 | [],a,h=>by
  cases h
  exact⟨rfl,λt c=>by(cases c),λi d t h=>by(simp at h)⟩
 | d::e,a,h=>by
  obtain⟨l,o,h⟩:=u0.mp h
  cases l with
  | tup b =>
   obtain⟨t,q,h⟩:=u0.mp h
   split at h
   .cases h
   .rename_i f
    obtain⟨s,m,rfl⟩:=u7.mp h
    obtain⟨p,v,n⟩:=Vq m
    refine⟨by rw[k4,k4,p],λu j=>?_,λi w r k c=>?_⟩
    .rcases t6.mp j with rfl | j
     .exact f
     .exact v u j
    .cases i with
     | zero=>cases k;cases c;exact⟨b,o,q⟩
     | succ i=>exact n i w r k c
  | _=>cases h
def Gr.upH {H H':Hp}(g:Gr F H F' H')(s:yE F H):∀ b o,H b=some o->H' b=some o:=λb o e=>by
 cases h:F b with
 | none=>exact(g.kp b o h e).2
 | some u =>
  have:=s b u h
  rw[e]at this
  cases this
  exact g.fh _ _ (g.ff _ _ h)
def zeq (f g:zQ):y4:=fun ρ=>(f ρ).bind λd=>(lrD d).bind λb=>(zd0 g ρ b).bind λa=>if a.Nodup then some (Y3 a b)else none
end Dl
namespace Dl
open PySem L2 PySem.Spec PyProof.Rows PySem.W
variable [KK]
def vl:∀ {t:zc} {b:zx},AtL F (t.map D.int) b->b=t.map V.int
 | [],_,h=>by rw[h.nil_inv];rfl
 | n::t,_,h=>by
  obtain⟨x,r,rfl,a,l⟩:=h.cons_inv
  rw[a.int_inv,vl l]
  rfl
section
variable {X:Cx}{a body:Expr}{params:Arguments}{scope:Scope}{p p2 pos pos2 kp lp:Pos}{q x:Str}{M:zJ}{cl:vD}{c P:Addr}{k:Nat}{f g:zQ}
def zkl (hr:x5 (k+4) X.A) (hg:Gl X "sorted") (hm:X.mg "sorted"=none) (I:Gl X "range") (R:X.mg "range"=none) (ha:ED X a f)
 (L:Xk X.base X.mg c P q) (J:X.env.code=.ref c) (S:vn X x M scope cl) (w:defaultsOf params X.env=([],[])) (hq:X.env.qual++"<lambda>"=q)
 (l:∀ (pm G T u:Value),bindArgs (kla_fn "<lambda>" q params body scope cl pm G T) ⟨[u],[]⟩=pure [(x,u)])
 (hb:∀ f ca A s H,ED (zbL X x M q scope cl f ca A s H) body g) (hs:starEach [a] X.env=[(false,eval a X.env)]:=by rfl)
 (he:backTo pos (starEach [.Call (.Name "range" p2) [a] [] pos2] X.env)=(false,eval (.Call (.Name "range" p2) [a] [] pos2) X.env)::backTo pos (starEach [] X.env):=by rfl) (U:(backTo pos (starEach [.Call (.Name "range" p2) [a] [] pos2] X.env)).any (·.1)=false:=by rfl) :
 FL X (.Call (.Name "sorted" p) [.Call (.Name "range" p2) [a] [] pos2] [⟨some "key",.Lambda params body scope lp,kp⟩] pos) (zeq f g):=by
 obtain⟨ta,pa,ra⟩:=ha
 refine⟨_,zjl hr hg hm Xm I R pa L J S w hq l (λ_ _ _ _ _=>(hb _ _ _ _ _).can) hs he U,fun σ ρ F H z Q s va e qq=>?_⟩
 obtain⟨d,e1,e⟩:=u0.mp e
 obtain⟨ds,m,e⟩:=u0.mp e
 obtain⟨ts,e3,e⟩:=u0.mp e
 split at e
 .rename_i nd
  cases e
  refine ra σ ρ F H d _ s va e1 λF1 H1 v r a1=>?_
  cases d with
  | int j =>
   have m:(if 0<=j/\j<=60 then some ((List.range j.toNat).map λk:Nat=>D.int (k:Int))else none)=some ds:=m
   split at m
   .rename_i hj
    cases m
    have ev:=a1.int_inv
    subst ev
    obtain⟨O,l2,l3⟩:=Vq e3
    rw[u4,k8]at O
    have N:=va.mono r.ff
    have al:∀ F':Hp,AtL F' ((List.range j.toNat).map λk:Nat=>D.int (k:Int)) ((List.range j.toNat).map λk:Nat=>V.int (k:Int)):=λF'=>AtL.map2 _ λz _=>.int
    refine⟨j.toNat,ts,by rw[u02 hj.1],by omega,O,l2,λi y t hy ht H2 E=>?_,λzs D H' pz sz E hD h=>?_⟩
    .rw[q0]at hy
     obtain⟨W,K,rfl⟩:=u7.mp hy
     obtain⟨es,eg,et⟩:=l3 i (.int (W:Int)) t (by rw[q0,K];rfl) ht
     have s2:yE F1 H2:=λb o z=>E _ _ (r.fh _ _ z)
     refine Vt _ (some (.int (W:Int))::ρ) F1 H2 _ _ s2 (λn d' Z=>?_) eg λF' H3 v Y a3=>?_
     .cases n with
      | zero=>cases Z;exact⟨_,rfl,.int⟩
      | succ n=>exact N n d' Z
     .obtain⟨b,ys,rfl,C,B⟩:=a3.tup_inv
      rw[ZH et]at B
      rw[vl B]at C
      exact⟨b,rfl,Y.upH s2,Y.fh _ _ C⟩
    .have fD:F1 D=none:=by
      cases z:F1 D with
      | none=>rfl
      | some o=>rw[r.fh _ _ z]at h;cases h
     have g2:Gr F1 H1 F1 (upd H' D (.lst (zs.map (·.2)))):=⟨yE.refl _,λb o z=>by rw[zn (zg z fD)];exact E _ _ (r.fh _ _ z),λb o z1 z2=>⟨.inl z1,by rw[zn (zg z2 h)];exact E _ _ z2⟩⟩
     exact qq F1 _ D _ (r.trans g2) (VI r h) fD zq (zaH (al F1) (by rw[O,u4,k8]) nd pz sz)
   .cases m
  | _=>cases m
 .cases e
end
end Dl
namespace Dl
open PySem L2 PySem.Spec PyProof.Rows PySem.W
variable [KK]
section
variable {X:Cx}{e body:Expr}{params:Arguments}{scope:Scope}{p pos kp lp:Pos}{q x:Str}{M:zJ}{cl:vD}{c P:Addr}{k:Nat}{g:zQ}{fa:y4}
def zl6 (g:zQ)(ρ:Ev)(b:zk):Option zk:=match b with
 | [.lst ds]=>(zd0 g ρ ds).bind λa=>if a.Nodup/\ds.length<64 then some (Y3 a ds)else none
 | _=>none
def zi0 (fa:y4)(g:zQ):y4:=fun ρ=>(fa ρ).bind (zl6 g ρ)
def zjZ (hr:x5 (k+4) X.A) (hg:Gl X "sorted") (hm:X.mg "sorted"=none) (ha:AD X [e] fa)
 (L:Xk X.base X.mg c P q) (N:X.env.code=.ref c) (S:vn X x M scope cl) (m:defaultsOf params X.env=([],[])) (hq:X.env.qual++"<lambda>"=q)
 (h:∀ (pm J T u:Value),bindArgs (kla_fn "<lambda>" q params body scope cl pm J T) ⟨[u],[]⟩=pure [(x,u)])
 (hb:∀ f ca A s H,ED (zbL X x M q scope cl f ca A s H) body g)
 (he:backTo pos (starEach [e] X.env)=(false,eval e X.env)::backTo pos (starEach [] X.env):=by rfl) (U:(backTo pos (starEach [e] X.env)).any (·.1)=false:=by rfl) :
 FL X (.Call (.Name "sorted" p) [e] [⟨some "key",.Lambda params body scope lp,kp⟩] pos) (zi0 fa g):=by
 obtain⟨ta,pa,ra⟩:=ha
 refine⟨_,zef (md:=false) hr hg hm Xm pa L N S m hq h (λ_ _ _ _ _=>(hb _ _ _ _ _).can) he U,fun σ ρ F H z Q s va e qq=>?_⟩
 obtain⟨as,e1,E⟩:=u0.mp e
 unfold zl6 at E
 split at E
 .rename_i G
  obtain⟨ts,e3,e⟩:=u0.mp E
  split at e
  .rename_i nd
   cases e
   refine ra σ ρ F H _ _ s va e1 λF1 H1 vs d a1=>?_
   obtain⟨v,r,rfl,ax,ar⟩:=a1.cons_inv
   cases ar.nil_inv
   obtain⟨l,xs,rfl,hl,O⟩:=ax.lst_inv
   obtain⟨l1,l2,l3⟩:=Vq e3
   have K:=O.length
   have R:=va.mono d.ff
   refine⟨l,xs,ts,rfl,d.fh _ _ hl,by omega,by omega,l2,λi y t hy ht H2 I=>?_,λzs D H' pz sz I hD a=>?_⟩
   .have hi:i<G.length:=by rw[<-K];exact(t5.mp hy).1
    have W:G[i]?=some G[i]:=u8 hi
    obtain⟨y',B,ay⟩:=O.get W
    rw[hy]at B
    cases B
    obtain⟨es,eg,et⟩:=l3 i _ t W ht
    have Y:yE F1 H2:=λb o z=>I _ _ (d.fh _ _ z)
    refine Vt _ (some G[i]::ρ) F1 H2 _ _ Y (λn d' j=>?_) eg λF' H3 v V a3=>?_
    .cases n with
     | zero=>cases j;exact⟨_,rfl,ay⟩
     | succ n=>exact R n d' j
    .obtain⟨b,ys,rfl,C,w⟩:=a3.tup_inv
     rw[ZH et]at w
     rw[vl w]at C
     exact⟨b,rfl,V.upH Y,V.fh _ _ C⟩
   .have fD:F1 D=none:=by
     cases z:F1 D with
     | none=>rfl
     | some o=>rw[d.fh _ _ z]at a;cases a
    have g2:Gr F1 H1 F1 (upd H' D (.lst (zs.map (·.2)))):=⟨yE.refl _,λb o z=>by rw[zn (zg z fD)];exact I _ _ (d.fh _ _ z),λb o z1 Z=>⟨.inl z1,by rw[zn (zg Z a)];exact I _ _ Z⟩⟩
    exact qq F1 _ D _ (d.trans g2) (VI d a) fD zq (zaH O (by omega) nd.1 pz sz)
  .cases e
 .cases E
end
end Dl
namespace Dl
open PySem L2 PySem.Spec PyProof.Rows PySem.W
variable [KK]
def zho (g:zQ)(ρ:Ev):zk->Option ve
 | []=>some []
 | d::ds=>(g (some d::ρ)).bind λa=>match a with
  | .tup [.int i,.tup es]=>(zaa es).bind λt=>(zho g ρ ds).map ((i::t)::·)
  | _=>none
def zgD {g:zQ}:∀ {b:zk} {a:ve},zho g ρ b=some a->a.length=b.length/\(∀ t∈a,t≠[])/\∀ (i:Nat) (d:D) (t:zc),b[i]?=some d->a[i]?=some t->∃ j c k,g (some d::ρ)=some (.tup [.int j,.tup c])/\zaa c=some k/\t=j::k:=by
 intro b
 induction b with
 | nil =>
  intro a h
  cases h
  exact⟨rfl,λt e=>by(cases e),λi d t h=>by(simp at h)⟩
 | cons d b r =>
  intro a h
  obtain⟨y,o,h⟩:=u0.mp h
  split at h
  .rename_i j c
   obtain⟨t,q,h⟩:=u0.mp h
   obtain⟨v,m,rfl⟩:=u7.mp h
   obtain⟨p,w,n⟩:=r m
   refine⟨by rw[k4,k4,p],λu f=>?_,λi x s l e=>?_⟩
   .rcases t6.mp f with rfl | f
    .simp
    .exact w u f
   .cases i with
    | zero=>cases l;cases e;exact⟨j,c,t,o,q,rfl⟩
    | succ i=>exact n i x s l e
  .cases h
section
variable {X:Cx}{e body:Expr}{params:Arguments}{scope:Scope}{p pos kp lp:Pos}{q x:Str}{M:zJ}{cl:vD}{c P:Addr}{k:Nat}{g:zQ}{fa:y4}
def zlw (g:zQ)(ρ:Ev)(b:zk):Option zk:=match b with
 | [.lst ds]=>(zho g ρ ds).bind λa=>if a.Nodup/\ds.length<64 then some (Y3 a ds)else none
 | _=>none
def ziu (fa:y4)(g:zQ):y4:=fun ρ=>(fa ρ).bind (zlw g ρ)
def zk1 (hr:x5 (k+4) X.A) (hg:Gl X "sorted") (hm:X.mg "sorted"=none) (ha:AD X [e] fa)
 (L:Xk X.base X.mg c P q) (R:X.env.code=.ref c) (S:vn X x M scope cl) (w:defaultsOf params X.env=([],[])) (hq:X.env.qual++"<lambda>"=q)
 (h:∀ (pm N W u:Value),bindArgs (kla_fn "<lambda>" q params body scope cl pm N W) ⟨[u],[]⟩=pure [(x,u)])
 (hb:∀ f ca A s H,ED (zbL X x M q scope cl f ca A s H) body g)
 (he:backTo pos (starEach [e] X.env)=(false,eval e X.env)::backTo pos (starEach [] X.env):=by rfl) (Y:(backTo pos (starEach [e] X.env)).any (·.1)=false:=by rfl) :
 FL X (.Call (.Name "sorted" p) [e] [⟨some "key",.Lambda params body scope lp,kp⟩] pos) (ziu fa g):=by
 obtain⟨ta,pa,ra⟩:=ha
 refine⟨_,zef (md:=true) hr hg hm Xm pa L R S w hq h (λ_ _ _ _ _=>(hb _ _ _ _ _).can) he Y,fun σ ρ F H z Q s va e qq=>?_⟩
 obtain⟨as,e1,G⟩:=u0.mp e
 unfold zlw at G
 split at G
 .rename_i I
  obtain⟨ts,e3,e⟩:=u0.mp G
  split at e
  .rename_i nd
   cases e
   refine ra σ ρ F H _ _ s va e1 λF1 H1 vs d a1=>?_
   obtain⟨v,r,rfl,ax,ar⟩:=a1.cons_inv
   cases ar.nil_inv
   obtain⟨l,xs,rfl,hl,T⟩:=ax.lst_inv
   obtain⟨l1,l2,l3⟩:=zgD e3
   have O:=T.length
   have U:=va.mono d.ff
   refine⟨l,xs,ts,rfl,d.fh _ _ hl,by omega,by omega,l2,λi y t hy ht H2 J=>?_,λzs D H' pz sz J hD a=>?_⟩
   .have hi:i<I.length:=by rw[<-O];exact(t5.mp hy).1
    have hd:I[i]?=some I[i]:=u8 hi
    obtain⟨y',E,ay⟩:=T.get hd
    rw[hy]at E
    cases E
    obtain⟨j,es,us,eg,et,rfl⟩:=l3 i _ t hd ht
    have s2:yE F1 H2:=λb o z=>J _ _ (d.fh _ _ z)
    refine Vt _ (some I[i]::ρ) F1 H2 _ _ s2 (λn d' m=>?_) eg λF' H3 v K a3=>?_
    .cases n with
     | zero=>cases m;exact⟨_,rfl,ay⟩
     | succ n=>exact U n d' m
    .obtain⟨b,ys,rfl,Z,V⟩:=a3.tup_inv
     obtain⟨v1,r1,rfl,b1,c1⟩:=V.cons_inv
     obtain⟨v2,r2,rfl,b2,c2⟩:=c1.cons_inv
     cases c2.nil_inv
     cases b1.int_inv
     obtain⟨c,ws,rfl,C,B⟩:=b2.tup_inv
     rw[ZH et]at B
     rw[vl B]at C
     exact⟨b,rfl,K.upH s2,j,c,us,rfl,K.fh _ _ Z,K.fh _ _ C⟩
   .have fD:F1 D=none:=by
     cases z:F1 D with
     | none=>rfl
     | some o=>rw[d.fh _ _ z]at a;cases a
    have g2:Gr F1 H1 F1 (upd H' D (.lst (zs.map (·.2)))):=⟨yE.refl _,λb o z=>by rw[zn (zg z fD)];exact J _ _ (d.fh _ _ z),λb o z1 z2=>⟨.inl z1,by rw[zn (zg z2 a)];exact J _ _ z2⟩⟩
    exact qq F1 _ D _ (d.trans g2) (VI d a) fD zq (zaH T (by omega) nd.1 pz sz)
  .cases e
 .cases G
end
end Dl
namespace L2
open PySem PySem.Spec PyProof.Rows
def ziF {X:Cx}{N:zJ}{a:Scope}{f:vD}{t:List (Str × NameKind)}(j:a.names=u)(q:X.env.scope.names=t)(s:X.N=N)(d:closureFor a X.env=pure f)(kind:a.kind=.function)(n:a.names.lookup x=some .local)(F:a.isCoroutine=false)(k:a.isGenerator=false)(C:f.map Prod.fst=l)(b:xJ a.names u t N M l=true)(m:∀ p∈f,X.env.cells.lookup p.1=some p.2):vn X x M a f:=by
 unfold xJ at b
 simp only[r4,f9,j3]at b
 obtain⟨⟨⟨⟨⟨E,I⟩,o⟩,g⟩,D⟩,w⟩:=b
 have g:M.length=N.length:=by simpa using g
 refine⟨d,E,kind,n,F,k,λy c h=>m (y,c) (p7 h),λy h=>?_,by rw[s];exact g,λi y e v=>?_,λi y e v=>?_,λi y e v=>?_⟩
 .rw[j]at h
  have z:y∈l:=by
   rcases h with h | h
   .exact o _ (p7 h) (.inl rfl)
   .exact o _ (p7 h) (.inr rfl)
  exact vB (by rw[C];exact z)
 .unfold Vis at v
  rw[j]at v
  have A:=(t5.mp e).1
  have r:i<N.length:=by rw[<-g];exact A
  have H:(M.zip N)[i]?=some (y,N[i]):=by
   rw[u22]
   exact⟨e,u8 r⟩
  have:=D _ (j4 H) v
  rw[s,u8 r]
  exact u0q some this.symm
 .unfold Vis at v
  rw[j]at v ⊢
  exact(w y (j4 e) v).1
 .unfold Vis at v
  rw[j]at v
  obtain⟨_,G,B⟩:=w y (j4 e) v
  refine⟨?_,?_⟩
  .unfold Vis;rw[q];exact G
  .show X.env.scope.names.lookup y≠_;rw[q];exact B
end L2
namespace L2
open PySem
def zd6 (o:Obj):Obj:=match o.data with
 | .freed=>{ cls:=.none,data:=.freed }
 | _=>o
def zdd (o:Obj)(q:Str):zd6 o≠Y2 q:=by
 unfold zd6 Y2
 intro h
 split at h
 .have:=u0q Obj.cls h
  cases this
 .rename_i a
  exact a (by rw[h])
def w8 (h:Heap)(a:List (Addr × Str)):Heap:={ h with objs:=h.objs.mapIdx λi o=>match a.lookup i with
 | some q=>Y2 q
 | none=>zd6 o }
def zdO (h:Heap)(a:List (Addr × Str)):(w8 h a).objs.size=h.objs.size:=by
 unfold w8
 simp
def Yc (h:Heap)(a:List (Addr × Str))(b:Addr):(w8 h a).objs[b]?=(h.objs[b]?).map λo=>match a.lookup b with
 | some q=>Y2 q
 | none=>zd6 o:=by
 unfold w8
 simp
def zdq {a:List (Addr × Str)}(e:(w8 h a).objs[P]?=some (Y2 q)):a.lookup P=some q:=by
 rw[Yc]at e
 obtain⟨o,_,e⟩:=u7.mp e
 cases z:a.lookup P with
 | none=>rw[z]at e;exact absurd e (zdd o q)
 | some b =>
  rw[z]at e
  have:=u0q Obj.cls e
  have:Value.str b 0=Value.str q 0:=this
  cases this
  rfl
def zcz {h:Heap}{a:List (Addr × Str)}(f:a.lookup b=none):(w8 h a).get? b=h.get? b:=by
 unfold Heap.get?
 rw[Yc,f]
 cases z:h.objs[b]? with
 | none=>rfl
 | some o =>
  obtain⟨c,d,e,g⟩:=o
  cases e <;> rfl
def ziZ {a:List (Addr × Str)}(c:a.lookup b=some q):(w8 h a).get? b=none:=by
 unfold Heap.get?
 rw[Yc,c]
 cases z:h.objs[b]? with
 | none=>rfl
 | some o=>rfl
def zfd {h:Heap}{a:List (Addr × Str)}(e:(w8 h a).get? b=some o):a.lookup b=none/\h.get? b=some o:=by
 cases z:a.lookup b with
 | none=>exact⟨rfl,by rw[<-zcz z];exact e⟩
 | some q=>rw[ziZ z]at e;cases e
end L2
namespace L2
open PySem PySem.Spec PyProof.Rows PySem.W
abbrev TL:=List (Addr × Addr × Str)
def yX (tl:TL):List (Addr × Str):=tl.map λt=>(t.2.1,t.2.2)
def zas {tl:TL}(h:(yX tl).lookup P=some q):∃ c,(c,P,q)∈tl:=by
 unfold yX at h
 induction tl with
 | nil=>cases h
 | cons t r b =>
  rw[r6,List.lookup_cons]at h
  cases z:P == t.2.1 with
  | true =>
   rw[z]at h
   cases h
   rw[eq_of_beq z]
   exact⟨t.1,.head _⟩
  | false =>
   rw[z]at h
   obtain⟨c,a⟩:=b h
   exact⟨c,.tail _ a⟩
def wG (tl:TL)(H:Hp):Hp:=λb=>match (yX tl).lookup b with
 | some q=>some (.tbl #[.str q 0])
 | none=>H b
def xk {tl:TL}{H:Hp}(h:(yX tl).lookup b=none):wG tl H b=H b:=by unfold wG;rw[h]
def v4 {tl:TL}(h:(yX tl).lookup b=some q):wG tl H b=some (.tbl #[.str q 0]):=by unfold wG;rw[h]
def zhV {w:World} {K:zz} {E mb:w1} {CX:CXT} {k:Nat} {sp:Sp} {f:zj} {T:zt} {S:zc} {tl:TL} (hq:tl.all (λt=>(yX tl).lookup t.2.1 == some t.2.2)=true) (hT:∀ t∈tl,CodeHd f.heap t.1 t.2.1/\f.heap.get? t.2.1=some (tabObj #[])) (hnK:noTabs K=true) (b8:∃ bm B,E "__builtins__"=some (.ref bm)/\bm≠builtinsNs/\f.heap.get? bm=some B/\B.cls=.type "module"/\B.dict=some builtinsNs/\B.data=.plain) (KX:K.In f.heap) (N:f.heap.Ns mainGlobals E) (j:f.heap.Ns builtinsNs mb) (c6:∀ x:Str,x≠"__name__"->mb x=bootBuiltins x) (a0:f.heap.NoLimit) (hg:f.gens=#[]) (ha:f.heap.get? a=some { cls:=.type "list",data:=.seq T.toArray }) (hi:IntsAre T S) (hl:S.length<=sizeLine) (hr:x5 k callerA) (F:∀ i:Heap,K.In i->i.Ns mainGlobals E->(∀ t∈tl,Xk i E t.1 t.2.1 t.2.2)->vU P w K E i CX k fa fd [x] sp) (R:∀ (s:zj) (u:Value),BindsTo s fd ⟨[u],[]⟩ [(x,u)]) (c5:∀ H:Hp,SqL K H a (S.map V.int)->sp [.ref a] H (λv _=>v=.bl true) λ_ _ _=>False) (b0:∀ H e l,CX [] H f (λ_ _ _=>False) e l->False) :
 codeAny (model P w) callerA (.call (.ref fa) ⟨[.ref a],[]⟩) (λr l=>r=.ok (.ret (.bool true))/\OldK f.heap l.heap/\l.os=f.os/\AllBare l.gens) f:=by
 have rv:=zcc hi
 have a8:=hi.length
 -- a table is no other thing
 have D:∀ {b:Addr} {q:Str},(yX tl).lookup b=some q->f.heap.get? b=some (tabObj #[]):=λ{b q} h=>by
  obtain⟨c,hc⟩:=zas h
  exact(hT _ hc).2
 have L:∀ {b:Addr} {o:Obj},f.heap.get? b=some o->o≠tabObj #[]->(yX tl).lookup b=none:=λ{b o} e n=>by
  cases z:(yX tl).lookup b with
  | none=>rfl
  | some q=>rw[D z]at e;cases e;exact absurd rfl n
 have aT:(yX tl).lookup a=none:=L ha (λz=>by cases z)
 have G:∀ H:Hp,(∀ b,H b=none\/∃ o xs,H b=some (.frz o (.lst xs)))->SqL K H a (S.map V.int)->HOk P w H f.heap->(∀ b,H b≠none->b=a)->(H a≠none->K.lookup a=none) ->
  codeAny (model P w) callerA (.call (.ref fa) ⟨[.ref a],[]⟩) (λr l=>r=.ok (.ret (.bool true))/\OldK f.heap l.heap/\l.os=f.os/\AllBare l.gens) f:=by
  intro H hO hS a7 hA hK
  have g:∀ {b:Addr} {o:Obj},f.heap.get? b=some o->o≠tabObj #[]->H b=none->(w8 (zgc f.heap H) (yX tl)).get? b=some o:=λe n1 n=>by
   rw[zcz (L e n1)]
   exact zkn e n
  have Q:∀ {b:Addr} {o:Obj},f.heap.get? b=some o->(∀ ys st,o.data≠.seq ys st)->H b=none:=λ{b o} e d=>by
   cases q:H b with
   | none=>rfl
   | some u =>
    have O:b=a:=hA b (by rw[q];simp)
    subst O
    rw[ha]at e;cases e
    exact absurd rfl (d _ _)
  have A:∀ {b:Addr} {m:w1},f.heap.Ns b m->(w8 (zgc f.heap H) (yX tl)).Ns b m:=λ{b m} ⟨o,es,ep,e,d,r⟩=>⟨o,es,ep,g e (λz=>by rw[z]at d;cases d) (Q e (λys st z=>by rw[d]at z;cases z)),d,r⟩
  have a6:K.In (w8 (zgc f.heap H) (yX tl)):=λb o e=>g (KX b o e) (λz=>by
   have I:=f9.mp hnK (b,o) (mem_of_lookupK e)
   subst z
   exact absurd (show false=true from I) u6) (by
   cases q:H b with
   | none=>rfl
   | some u =>
    have O:b=a:=hA b (by rw[q];simp)
    subst O
    rw[hK (by rw[q];simp)]at e;cases e)
  have hM:Mod K E (w8 (zgc f.heap H) (yX tl)):=⟨a6,A N,⟨mb,A j,c6⟩,let ⟨mc,h1,I⟩:=a0;⟨mc,A h1,I⟩⟩
  have a5:HOk P w (wG tl H) f.heap:=λb o e=>by
   cases z:(yX tl).lookup b with
   | some q =>
    rw[v4 z]at e
    cases e
    exact⟨#[],D z,trivial,λc7 c hc=>by cases hc⟩
   | none =>
    rw[xk z]at e
    rcases hO b with y | ⟨B,xs,y⟩
    .rw[y]at e;cases e
    .rw[y]at e
     cases e
     exact a7 b _ y
  have b9:Bs (w8 (zgc f.heap H) (yX tl)) f.heap (wG tl H):=by
   refine⟨λb o e=>?_,λP q e=>v4 (zdq e)⟩
   obtain⟨e1,e2⟩:=zfd e
   have:=znJ e2
   rw[xk e1]
   exact this
  have a3:∀ t∈tl,Xk (w8 (zgc f.heap H) (yX tl)) E t.1 t.2.1 t.2.2:=λt ht=>by
   have c0:=u2w.mp (f9.mp hq t ht)
   obtain⟨h1,I⟩:=hT t ht
   refine⟨?_,?_,?_⟩
   .obtain⟨o,us,M,tf,p,tg,a2,C,tt,e,r1,r2,r⟩:=h1
    exact⟨o,us,M,tf,p,tg,a2,C,tt,g e (λz=>by rw[z]at r1;cases r1) (Q e (λys st z=>by rw[r2]at z;cases z)),r1,r2,r⟩
   .rw[Yc]
    have b7:=q4 I
    have Z:t.2.1<(zgc f.heap H).objs.size:=by rw[zcq];exact b7
    rw[u21 Z,c0]
    rfl
   .obtain⟨bm,B,b1,b2,b3,b4,b5,U⟩:=b8
    refine⟨bm,B,b1,b2,?_,?_,g b3 (λz=>by rw[z]at U;cases U) (Q b3 (λys st z=>by rw[U]at z;cases z)),b4,b5,U⟩
    .intro z
     obtain⟨o,es,ep,e,d,_⟩:=N
     rw[z,e]at b3
     cases b3
     rw[U]at d
     cases d
    .intro z
     rw[z,I]at b3
     cases b3
     cases U
  have a9:SqL K (wG tl H) a (S.map V.int):=by
   rcases hS with (h | ⟨o,h⟩) | h
   .exact .inl (.inl (by rw[xk aT];exact h))
   .exact .inl (.inr ⟨o,by rw[xk aT];exact h⟩)
   .exact .inr h
  have e0:zoJ P w K E (w8 (zgc f.heap H) (yX tl)) callerA [] f (wG tl H):=⟨rfl,hM,b9,u2V ((zdO _ _).trans (zcq _ _)),trivial,λb j=>absurd (show b∈([]:xx)from j) (by simp),a5,.of_eq hg⟩
  refine u2d ((F _ a6 (A N) a3).run callerA [] f (wG tl H) ⟨[.ref a],[]⟩ [.ref a] [.ref a] _ _ hr e0 (R f (.ref a)) (.cons rfl .nil) (c5 _ a9)) λr l h=>?_
  cases r with
  | error e=>exact(b0 _ e l h).elim
  | ok fl =>
   cases fl with
   | next=>exact False.elim h
   | brk=>exact False.elim h
   | cont=>exact False.elim h
   | ret u =>
    obtain⟨v,H',os,a4,un,J,r',q⟩:=h
    have q':v=.bl true:=q
    subst q'
    obtain rfl:u=Value.bool true:=r'
    refine⟨rfl,?_,os,a4⟩
    have X:∀ b o,f.heap.get? b=some o->(yX tl).lookup b=none->l.heap.get? b=some o:=λb o e z=>by
     cases q:H b with
     | none=>exact un.keep b o e (by rw[xk z];exact q) (by intro z;exact absurd (show b∈([]:xx)from z) (by simp)) (by simp)
     | some u =>
      rcases hO b with y | ⟨B,xs,y⟩
      .rw[q]at y;cases y
      .have z2:=un.frzs b B _ (by rw[xk z];exact y)
       obtain⟨e1,_⟩:=a7 b _ y
       obtain⟨e2,_⟩:=J b _ z2
       rw[e]at e1;cases e1
       exact e2
    have a1:∀ b q,(yX tl).lookup b=some q->∃ W:zP,l.heap.get? b=some { cls:=.none,data:=.fields W }:=λb q z=>by
     obtain⟨W,e,_⟩:=J b _ (un.tbls b _ (v4 z))
     exact⟨W,e⟩
    refine⟨λb o e=>?_,λb o e=>?_⟩
    .cases z:(yX tl).lookup b with
     | none=>exact .inl (X b o e z)
     | some q =>
      obtain⟨W,O⟩:=a1 b q z
      obtain⟨c,hc⟩:=zas z
      obtain⟨⟨oc,us,M,tf,p,tg,a2,C,tt,c1,c2,c3,c4,_⟩,I⟩:=hT _ hc
      rw[I]at e
      cases e
      exact .inr (.inl ⟨⟨c,oc,us,c1,c2,c3,c4⟩,rfl,#[],W,rfl,by rw[O];simp⟩)
    .cases z:(yX tl).lookup b with
     | none=>exact⟨o,X b o e z⟩
     | some q =>
      obtain⟨W,O⟩:=a1 b q z
      exact⟨_,O⟩
 cases hk:K.lookup a with
 | some o =>
  have e:=KX a o hk
  rw[ha]at e
  cases e
  refine G (λ_=>none) (λ_=>.inl rfl) (.inr ⟨_,T.toArray,_,hk,rfl,rfl,rfl,by rw[t8,a8];exact hl,by simpa using rv⟩) (λb u z=>by have Y:(none:Option HO)=some u:=z;cases Y) (λb z=>absurd rfl z) λz=>absurd rfl z
 | none =>
  refine G (λb=>if b=a then some (.frz { cls:=.type "list",data:=.seq T.toArray } (.lst (S.map V.int)))else none) (λb=>?_) (.inl (.inr ⟨{ cls:=.type "list",data:=.seq T.toArray },u9 rfl⟩)) (λb u z=>?_) (λb z=>?_) λ_=>hk
  .by_cases j:b=a
   .exact .inr ⟨_,_,u9 j⟩
   .exact .inl (t9 j)
  .by_cases j:b=a
   .have Y:=(u9 j).symm.trans z
    cases Y
    subst j
    exact⟨ha,by rw[u4];exact hl,T,_,rv,ha⟩
   .have Y:=(t9 j).symm.trans z
    cases Y
  .by_cases j:b=a
   .exact j
   .exact absurd (t9 j) z
def walk_ofL {l:PySem.W.OpenLaw}{k:Nat}{YP:World->Heap->Prop}{d:DefRec}{K:Params->PySem.W.Frag}{CX:World->CXT}{sp:World->Sp}{tl:TL}(M:l.most=some n)(C:n<=sizeLine)(A:d.params.defaults=[])(X:x5 k callerA)(P:∀ (w:World) (h:Heap),YP w h->(K w.params).In h)(hq:tl.all (λt=>(yX tl).lookup t.2.1 == some t.2.2)=true)(hnK:∀ w:World,noTabs (K w.params)=true)(U:∀ (w:World) (m:ExcName->Option Value) (g E:w1) (h:Heap),(K w.params).In h->Top q (PySem.W.looseW q c) m g E h->∀ t∈tl,CodeHd h t.1 t.2.1/\h.get? t.2.1=some (tabObj #[])) (F:∀ (w:World) (g:w1) (r:Addr) (h:Heap),(K w.params).In h->h.Ns mainGlobals g->g d.name=some (.ref r) ->
 ∃ z:FuncData,(∀ (s:zj) (u:Value),BindsTo s z ⟨[u],[]⟩ [(x,u)]) /\
  ∀ b:Heap,(K w.params).In b->b.Ns mainGlobals g->(∀ t∈tl,Xk b g t.1 t.2.1 t.2.2)->vU l.prog w (K w.params) g b (CX w) k r z [x] (sp w)) (D:∀ (w:World) (H:Hp) (a:Addr) (y:zc),y.length<=n->SqL (K w.params) H a (y.map V.int)->sp w [.ref a] H (λv _=>v=.bl true) λ_ _ _=>False) (I:∀ (w:World) (H:Hp) (s:zj) (e:Value) (B:zj),CX w [] H s (λ_ _ _=>False) e B->False) :
 PySem.W.WalkO q c XP YP l.row.toRowW d [] (λf L=>PySem.call f L):=by
 refine Att.attach_call M A λw s₀ N g E r o Z cd W a L y G Y ho hd T J p j i S=>?_
 have KX:=P w _ Y
 obtain⟨z,Q,O⟩:=F w g r _ KX G.T.g J
 exact zhV hq (U w _ g E _ KX G.T) (hnK w) G.T.bmain KX G.T.g G.T.b G.T.builtins G.T.nolimit S p j (o5 i C) X O Q (λH R=>D w H a y i R) λH e B=>I w H N e B
end L2
namespace L2
open PySem PySem.Spec PyProof.Rows
def Itv (K:zz)(a:Addr)(n:Nat):It :=
 ⟨λi H=>∃ b x,SqL K H a b/\b.length=n/\b.reverse[i]?=some x,λi H x H'=>H'=H/\∀ b,SqL K H a b->b.reverse[i]?=some x,λi _=>n<=i⟩
def zjC {P:zH}{w:World}{K:zz}{tg:Expr}(a it:Addr)(n:Nat):zlq P w K tg (Itv K a n) [it] it (λi h=>i<=n/\h.IsRevIter it a ((n:Int)-1-(i:Int))) where
 mem:=by simp
 obj:=λi h st b hb=>by
  have e:b=it:=by simpa using hb
  subst e
  obtain⟨_,o,e,c,d⟩:=st
  exact⟨o,e,λv z=>by rw[d]at z;cases z⟩
 keep:=λi h h' st k=>⟨st.1,st.2.at λo e=>k it (by simp) o e⟩
 item:=by
  intro X hP hw hK hc i pins s σ H E I hf st hg
  subst hP hw hK
  obtain⟨xs,x,hq,hn,hx⟩:=hg
  obtain⟨its,rv,p,hz⟩:=I.list hq
  have hi:i<n:=by
   have:=(t5.mp hx).1
   rw[u2B]at this
   omega
  have hx':xs[n-1-i]?=some x:=by
   rw[List.getElem?_reverse (by omega),hn]at hx
   exact hx
  obtain⟨u,hu,ru⟩:=rv.get hx'
  obtain⟨f0,f1,f2,f3,f4,f5⟩:=hf it (by simp)
  have ej:((n:Int)-1-(i:Int))=((n-1-i:Nat):Int):=by omega
  have st2:=st.2
  rw[ej]at st2
  refine wpAny_pyNext_rev_item st2 p.isList (x:=u) (by simpa using hu) λh' st' sb=>?_
  have I1:Inv X pins σ H { s with heap:=h' }:=I.turned (t':=s.toks) (λb o hb e=>(sb.2 b hb).trans e) f0 f1 f3 f4 f5
  have st3:h'.IsRevIter it a ((n:Int)-1-((i+1:Nat):Int)):=by
   have e2:((n-1-i:Nat):Int)-1=(n:Int)-1-((i+1:Nat):Int):=by omega
   rw[<-e2]
   exact st'
  obtain⟨o,e,c,d⟩:=id st'
  exact⟨u,rfl,zjx (s:={ s with heap:=h' }) e c d (by decide) ⟨x,H,I1,ru,⟨rfl,λys hy=>by rw[I.list_inj hy hq];exact hx⟩,⟨hi,st3⟩,λb hb=>(hf b hb).1⟩⟩
 done:=by
  intro X hP hw hK hc i pins s σ H E I hf st hg
  subst hP hw hK
  have hg:n<=i:=hg
  obtain⟨f0,f1,f2,f3,f4,f5⟩:=hf it (by simp)
  have ej:((n:Int)-1-(i:Int))=-1:=by have:=st.1;omega
  have st2:=st.2
  rw[ej]at st2
  exact wpAny_pyNext_rev_end (I.ok.hd hc) st2 λh' eb=>⟨rfl,I.turned (t':=s.toks) (λb o hb e=>eb b o hb e) f0 f1 f3 f4 f5⟩
 self:=λ_ _ _ _ _ st h=>u2s st.2 h
def zrA (K:zz)(ta:TE):TI:=fun σ H R=>ta σ H λx H1=>∃ a b,x=.ref a/\SqL K H1 a b/\R (Itv K a b.length) H1
def zqc {X:Cx} (A:Gl X "reversed") (u:X.mg "reversed"=none) (k:bootBuiltins "reversed"=some (.type "reversed")) (z:PE X a ta) (m:starEach [a] X.env=[(false,eval a X.env)]:=by rfl) :
 PI X C (.Call (.Name "reversed" p) [a] [] j) (zrA X.K ta):=by
 intro d s σ H R I h
 refine Call_ (vp I A u k (o8 ?_ m rfl))
 rw[m]
 show wpAny _ _ (spliced ((false,eval a X.env)::[])) _ _ _
 refine u0Q (thn (z d s σ H _ I h) λv f hh9=>?_)
 obtain⟨x,H1,I1,w,n⟩:=hh9
 obtain⟨t,g,rfl,D,q⟩:=n
 cases w
 obtain⟨c,r,y,E⟩:=I1.list D
 refine u0V ?_
 refine call_reversed_list y.isList ?_
 have B:c.toArray.size=g.length:=by rw[t8,<- r.length]
 refine u2s (l:=t) (i:=((c.toArray.size:Nat):Int)-1) ⟨_,q7 _ rfl,rfl,rfl⟩ ?_
 refine⟨f.heap.objs.size,[f.heap.objs.size],_,_,H1,rfl,I1.kept (t':=f.toks) λb o e=>u5 _ e,zjC t _ g.length,⟨g9 _,_,q7 _ rfl,rfl,?_⟩,λb k=>?_,q⟩
 .rw[B]
  show Data.fields #[.ref t,rawInt ((g.length:Int)-1)]=Data.fields #[.ref t,rawInt ((g.length:Int)-1-((0:Nat):Int))]
  simp
 .have e:b=f.heap.objs.size:=by simpa using k
  subst e
  exact I1.fpOk (t7 _) (I1.hok.fresh (t7 _))
end L2
namespace Dl
open PySem L2 PySem.Spec PyProof.Rows
variable [KK]
def zoW {K:zz}{F:Hp}{p:Addr}{a:zx}{j:zk}(h:F p=some (.lst a))(f:AtL F j a):znS (Itv K p a.length) F j.reverse:=by
 intro i F2 H2 e c
 have q:SqL K H2 p a:=SqL.of (c _ _ (e _ _ h))
 refine⟨λl=>?_,λd m=>?_⟩
 .show a.length<=i
  rw[f.length,l,u2B]
  exact t7 _
 .obtain⟨x,g,k⟩:=f.reverse.get m
  refine⟨⟨a,x,q,rfl,g⟩,λy H3 b=>?_⟩
  obtain⟨rfl,b⟩:=b
  have:=b a q
  rw[g]at this
  cases this
  exact⟨F2,.refl c,k.mono e⟩
def zoi {X:Cx} {f:zQ} (x:Gl X "reversed") (i:X.mg "reversed"=none) (o:ED X a f) (n:starEach [a] X.env=[(false,eval a X.env)]:=by rfl) :
 ID X z (.Call (.Name "reversed" p) [a] [] b) (znT f):=by
 obtain⟨t,w,r⟩:=o
 refine⟨_,zqc x i WY w n,fun σ ρ F H A R s j e q=>?_⟩
 obtain⟨d,k,c⟩:=u0.mp e
 refine r σ ρ F H d _ s j k λF1 H1 v g m=>?_
 unfold zrB at c
 split at c <;> cases c
 obtain⟨l,u,rfl,h,y⟩:=m.lst_inv
 exact⟨l,u,rfl,SqL.of (g.fh _ _ h),q F1 H1 _ g (zoW h y)⟩
end Dl
namespace L2
open PySem PySem.Spec PyProof.Rows PySem.W
section
variable {P:zH}{w:World}{K:zz}{mg:w1}{base:Heap}
def Fun.okC {g:Stmt}{f:Addr}{i:XQ}{N j:zJ}{k:Nat}{l:Sp}(e:i.code=.ref c)(F:Fun K x a g f i)(S:wv N j (zp g))(o:∀ d H Q E,l d H Q E->d.length=j.length) (b:∀ (A:zI) (outer:List Env) (s:zj) (H:Hp) (d:zx) (Q:VK) (E:XK),x5 k (A.deeper (envOfC a (zp g) s.heap.objs.size f (.ref c)))->l d H Q E ->
 ∃ t,PSs (Wl CX0 P w K mg base N a (zp g) f (.ref c) A outer s H E).nox (yV g) t/\t { nx:=λ_ H'=>Q .non H',rt:=Q } (start N d) H):vU P w K mg base CX0 (k+1) f i j l:=by
 obtain⟨B,C,kV,v,z,D,m,ct,u,rfl,r,p⟩:=F.ex
 have e:m=.ref c:=e
 subst e
 refine zmS r p S o λA outer s H d Q E y n=>?_
 obtain⟨t,h,q⟩:=b A outer s H d Q E y n
 exact⟨t,h.nox,q⟩
end
def tab_mk {K:Frag}{f:Addr}{oc od o1 d1 fd sl vs s1}(a:nsIn K mainGlobals x=some (some (.ref f)))(l:K.lookup f=some ⟨oc,od,.func fd,sl⟩)(hc:fd.code=.ref c)(cl:K.lookup c=some ⟨o1,d1,.fields vs,s1⟩)(hv:vs[11]?=some (.ref P)):tabIn K x=some (c,P):=by
 unfold tabIn
 rw[a]
 dsimp only
 rw[l]
 dsimp only
 rw[hc]
 dsimp only
 rw[cl]
 dsimp only
 rw[hv]
end L2
namespace Dl
open PySem L2 PySem.Spec PyProof.Rows
variable [KK]
def zlY {P:zH}{w:World}{K:zz}{u:w1}{i:Heap}{x b:Str}{j:Stmt}{f:Addr}{m:XQ}{N ps:zJ}{k:Nat}{g:zT}{c:Addr}(o:m.code=.ref c)(Fu:Fun K x b j f m)(S:wv N ps (zp j))
 (z:∀ (A:zI) (outer:List Env) (s:zj) (H:Hp) (E:XK),x5 k (A.deeper (PyProof.Rows.envOfC b (zp j) s.heap.objs.size f (.ref c)))->SDs (Wl CX0 P w K u i N b (zp j) f (.ref c) A outer s H E).nox (yV j) g) :
 vU P w K u i CX0 (k+1) f m ps (spD ps.length (fnD N.length g)):=by
 refine Fu.okC o S (λC H Q E h=>?_) λA outer s H C Q E G h=>?_
 .obtain⟨n,d,F,y,_,a,_⟩:=h
  rw[a.length];exact y
 .obtain⟨n,d,F,y,sm,a,e,q⟩:=h
  obtain⟨t,p,r⟩:=z A outer s H E G
  refine⟨t,p,r F H F H _ _ _ (Ww sm a) ?_⟩
  unfold fnD at e
  cases l:g (n.map .v++List.replicate (N.length-n.length) .no) with
  | rt I=>rw[l]at e;cases e;exact λF' H' v g D=>q F' H' v g D
  | nx ρ=>rw[l]at e;cases e;exact λF' H' σ B=>q F' H' _ B.gr .non
  | bk ρ=>rw[l]at e;cases e
  | ct ρ=>rw[l]at e;cases e
  | no=>rw[l]at e;cases e
end Dl
namespace L2
open PySem PySem.Spec PyProof.Rows
def tOrL (K:zz)(ta c:TE):TE:=fun σ H Q=>ta σ H λx H1=>∃ a b,x=.ref a/\SqL K H1 a b/\if b.isEmpty=true then c σ H1 Q else Q (.ref a) H1
theorem zoD {X:Cx}{rest:xK}(ha:PE X a ta)(hb:PE X (.BoolOp .Or (b::rest) pos) tb):PE X (.BoolOp .Or (a::b::rest) pos) (tOrL X.K ta tb):=by
  intro pins s σ H Q I h
  refine BoolOp_or (thn (ha pins s σ H _ I h) fun v s1 hh9=>?_)
  obtain ⟨x,H1,I1,r1,q1⟩:=hh9
  obtain ⟨l,xs,rfl,hx,q1⟩:=q1
  cases r1
  obtain ⟨its,r,pl,hz⟩:=I1.list hx
  have hlen:=r.length
  refine wpAny_truthy_list pl.isList (by simp only [t8]; have : sizeLine < 2 ^ 62 := by decide
                                         omega) ?_
  rw [zfv r]
  have I2:=I1.tok (s1.toks+1+1)
  cases c:xs.isEmpty with
  | true =>
    rw [c,u9 rfl] at q1
    exact hb pins _ σ H1 Q I2 q1
  | false =>
    rw [c,t9 u6] at q1
    exact ⟨.ref l,H1,I2,rfl,q1⟩
end L2
namespace Dl
open PySem L2
variable [KK]
def zqC (f g:zQ):zQ:=fun ρ=>(f ρ).bind λd=>match d with
 | .lst a=>if a.isEmpty=true then g ρ else some (.lst a)
 | _=>none
def zo6 {rest:xK}{f g:zQ}(u:ED X a f)(o:ED X (.BoolOp .Or (b::rest) h) g):ED X (.BoolOp .Or (a::b::rest) h) (zqC f g):=by
 obtain⟨ta,x,A⟩:=u
 obtain⟨G,p,w⟩:=o
 refine⟨_,zoD x p,fun σ ρ F H z Q s m e q=>?_⟩
 obtain⟨d,r,e⟩:=u0.mp e
 refine A σ ρ F H d _ s m r λF1 H1 v i n=>?_
 cases d with
 | lst j =>
  obtain⟨l,k,rfl,y,B⟩:=n.lst_inv
  have C:k.isEmpty=j.isEmpty:=by
   have:=B.length
   cases k <;> cases j <;> first | rfl | simp at this
  refine⟨l,k,rfl,SqL.of (i.fh _ _ y),?_⟩
  rw[C]
  have e:(if j.isEmpty=true then g ρ else some (.lst j))=some z:=e
  cases c:j.isEmpty with
  | true =>
   rw[c,u9 rfl]at e
   rw[u9 rfl]
   exact w σ ρ F1 H1 z Q i.fh (m.mono i.ff) e λF2 H2 v t E=>q F2 H2 v (i.trans t) E
  | false =>
   rw[c,t9 u6]at e
   cases e
   rw[t9 u6]
   exact q F1 H1 _ i n
 | _=>cases e
end Dl
namespace Dl
open PySem L2
variable [KK]
def zkU {f:y4}(h:FL X e f):SDO X [.Return (some e) d] (vH 0 f) 0:=by
 obtain⟨t,p,r⟩:=h
 refine⟨_,XR (zcn p),λFb Hb F H ρ σ E c x l a b k=>?_⟩
 unfold vH at a
 cases i:f (visF ρ) with
 | none=>rw[i]at a;cases a
 | some j =>
  rw[i]at a
  cases a
  have u:j=l:=by
   rw[i6]at b
   split at b
   .split at b
    .cases b;rfl
    .cases b
   .rename_i m;exact absurd rfl m
  subst u
  exact r σ _ _ H j _ c.gr.fh c.visF i λF' H' q o g s n w v=>k F' H' q o (c.grow g).gr (c.notbase s) n w v
end Dl
namespace Mz
open PySem Dl
abbrev Tie:=Int × Int
abbrev zv:=List Tie
def ltP (s t:Tie):Prop:=s.1<t.1\/(s.1=t.1/\s.2<t.2)
instance (s t:Tie):Decidable (ltP s t):=by unfold ltP;infer_instance
def zja (h:ltP a b)(k:ltP b c):ltP a c:=by
 unfold ltP at *
 omega
def zi (t:Tie):D:=.tup [.int t.1,.int t.2]
def zcg {t:Tie}(h:zi s=zi t):s=t:=by
 unfold zi at h
 injection h with h
 injection h with h1 h2
 injection h2 with h2 _
 injection h1 with h1
 injection h2 with h2
 exact u2v h1 h2
def zm (a:Int)(b:zv):D:=.tup [.int a,.tup (b.map zi)]
structure zG (many:Int) (ties:zv):Prop where
 lo:1<=many
 hi:many<=8
 rng:∀ t∈ties,0<=t.1/\t.1<t.2/\t.2<many
 srt:ties.Pairwise ltP
def leP (s t:Tie):Bool:=if s.1=t.1 then (if s.2=t.2 then true else decide (s.2<=t.2))else decide (s.1<=t.1)
def zcM {t:Tie}:leP s t=false↔ltP t s:=by
 unfold leP ltP
 by_cases h:s.1=t.1
 .rw[u9 h]
  by_cases k:s.2=t.2
  .rw[u9 k];simp;omega
  .rw[t9 k,p6];omega
 .rw[t9 h,p6];omega
def Zw:D->Option Tie
 | .tup [.int a,.int b]=>some (a,b)
 | _=>none
def YY (t:Tie):Zw (zi t)=some t:=rfl
def W3 {t:Tie}(h:Zw d=some t):d=zi t:=by
 unfold Zw at h
 split at h
 .cases h;rfl
 .cases h
def inR (m a:Int):Bool:=decide (0<=a)&&decide (a<=m-1)
def wx (m:Int)(d:D):Bool:=match Zw d with
 | some t=>inR m t.1&&inR m t.2&&!decide (t.1=t.2)
 | none=>false
def zcT (p:Option Tie)(t:Tie):Bool:=match p with
 | some q=>!leP t q
 | none=>true
def yO (m:Int):Option Tie->zk->Bool
 | _,[]=>true
 | p,d::r=>match Zw d with
  | some t=>wx m d&&!decide (t.2<t.1)&&zcT p t&&yO m (some t) r
  | none=>false
def Zl (m:Int):D->Bool
 | .tup a=>yO m none a
 | _=>false
def w6:D->Bool
 | .tup [.int m,t]=>decide (1<=m)&&decide (m<=8)&&Zl m t
 | _=>false
def Wb (m:Int):∀ (c:zk) (p:Option Tie),yO m p c=true↔∃ l:zv,c=l.map zi/\(∀ t∈l,0<=t.1/\t.1<t.2/\t.2<m)/\(∀ q,p=some q->∀ t∈l,ltP q t)/\l.Pairwise ltP:=by
 intro c
 induction c with
 | nil =>
  intro p
  refine⟨λ_=>⟨[],rfl,by simp,by simp,.nil⟩,λ_=>rfl⟩
 | cons d r s =>
  intro p
  unfold yO
  cases e:Zw d with
  | none =>
   refine Iff.intro (λh=>nomatch h) (λy=>?_)
   obtain⟨l,h,_⟩:=y
   cases l with
   | nil=>cases h
   | cons t o =>
    rw[r6]at h
    injection h with g _
    rw[g,YY]at e
    cases e
  | some t =>
   have x:=W3 e
   subst x
   simp only[wx,YY,r4,u0w,p6,inR,j3]
   rw[s (some t)]
   constructor
   .rintro⟨⟨⟨⟨⟨g,n⟩,z⟩,A⟩,w⟩,l,rfl,i,hq,f⟩
    refine⟨t::l,rfl,?_,?_,p4.mpr ⟨hq t rfl,f⟩⟩
    .intro u a
     rcases t6.mp a with rfl | a
     .omega
     .exact i u a
    .rintro q rfl u a
     have b:ltP q t:=zcM.mp (by simpa [zcT]using w)
     rcases t6.mp a with rfl | a
     .exact b
     .exact zja b (hq t rfl u a)
   .rintro⟨l,h,i,hq,f⟩
    cases l with
    | nil=>cases h
    | cons u o =>
     rw[r6]at h
     injection h with g n
     have a:=zcg g
     subst a
     have B:=i t (by simp)
     refine⟨⟨⟨⟨⟨by omega,by omega⟩,by omega⟩,by omega⟩,?_⟩,o,n,λv k=>i v (by simp[k]),λq j v k=>?_,(p4.mp f).2⟩
     .cases p with
      | none=>rfl
      | some q =>
       have:=zcM.mpr (hq q rfl t (by simp))
       simp[zcT,this]
     .cases j
      exact(p4.mp f).1 v k
def xj (d:D):w6 d=true↔∃ m a,d=zm m a/\zG m a:=by
 constructor
 .intro h
  unfold w6 at h
  split at h
  .rename_i m t
   simp only[r4,j3]at h
   obtain⟨⟨g,c⟩,b⟩:=h
   unfold Zl at b
   split at b
   .rename_i e
    obtain⟨l,rfl,i,_,f⟩:=(Wb m e none).mp b
    exact⟨m,l,rfl,g,c,i,f⟩
   .cases b
  .cases h
 .rintro⟨m,a,rfl,w⟩
  unfold zm w6 Zl
  simp only[r4,j3]
  exact⟨⟨w.lo,w.hi⟩,(Wb m _ none).mpr ⟨a,rfl,w.rng,by simp,w.srt⟩⟩
def zmN (h:∀ m a,d=zm m a->¬ zG m a):w6 d=false:=by
 cases e:w6 d with
 | false=>rfl
 | true =>
  obtain⟨m,a,rfl,w⟩:=(xj d).mp e
  exact absurd w (h m a rfl)
end Mz
namespace Mz
open Dl
def zdf (c k:Int):Int :=
 let a:=(c%2147483647+977*k+1)*48271%2147483647
 let b:=a*a%2147483629
 (b+40692*(k+3))*69621%2147483647/8
def adj (c:zv)(a b:Int):Prop:=(a,b)∈c\/(b,a)∈c
def adj.symm (h:adj ts a b):adj ts b a:=h.elim .inr .inl
inductive xr (ts:zv) (p:Int):Nat->Int->Prop
 | zero:xr ts p 0 p
 | step {k:Nat} {a b:Int}:xr ts p k a->adj ts a b->xr ts p (k+1) b
def adj.rng (ok:zG m c)(h:adj c a b):(0<=a/\a<m)/\0<=b/\b<m:=by
 rcases h with h | h <;> (have:=ok.rng _ h;simp only at this;omega)
def xr.rng {p:Int}{k:Nat}(ok:zG m a)(b:0<=p/\p<m)(h:xr a p k v):0<=v/\v<m:=by
 cases h with
 | zero=>exact b
 | step _ h=>exact(h.rng ok).2
def xr.inv {k:Nat}(h:xr b p (k+1) v):∃ a,xr b p k a/\adj b a v:=by
 cases h with
 | step d c=>exact⟨_,d,c⟩
def znl {P:Nat->Prop}:∀ k,P k->∃ j,P j/\∀ i,P i->j<=i:=by
 intro k
 induction k using Nat.strongRecOn with
 | _ k d =>
  intro h
  by_cases c:∃ i,i<k/\P i
  .obtain⟨i,a,b⟩:=c
   exact d i a b
  .exact⟨k,h,λi a=>u1p λz=>c ⟨i,z,a⟩⟩
def Within (a:zv)(p:Int)(k:Nat)(v:Int):Prop:=∃ j,j<=k/\xr a p j v
def Within.succ {k:Nat}:Within c p (k+1) v↔v=p\/∃ a,Within c p k a/\adj c a v:=by
 constructor
 .rintro⟨j,e,h⟩
  cases h with
  | zero=>exact .inl rfl
  | step d b=>exact .inr ⟨_,⟨_,by omega,d⟩,b⟩
 .rintro(rfl | ⟨a,⟨j,e,h⟩,b⟩)
  .exact⟨0,by omega,.zero⟩
  .exact⟨j+1,by omega,.step h b⟩
def Within.up {k a:Nat}(h:Within ts p k v)(b:k<=a):Within ts p a v:=let ⟨j,hj,r⟩:=h;⟨j,by omega,r⟩
def WS {α:Type}{p q:α->Bool}:∀ {l:List α},(∀ x∈l,p x=true->q x=true)->l.countP q<=l.countP p->∀ x∈l,q x=true->p x=true
 | [],_,_,_,h,_=>by simp at h
 | y::l,hpq,hc,x,a,hq=>by
  have g:l.countP p<=l.countP q:=List.countP_mono_left λz b=>hpq z (o7 _ b)
  rw[u2h,u2h]at hc
  have f:=hpq y l5
  have d:=WS (p:=p) (q:=q) (l:=l) λz b=>hpq z (o7 _ b)
  cases e:p y <;> cases c:q y <;> simp[e,c]at hc f
  .rcases t6.mp a with rfl | a
   .rw[c]at hq;cases hq
   .exact d (by omega) x a hq
  .omega
  .rcases t6.mp a with rfl | a
   .exact e
   .exact d (by omega) x a hq
open Classical in
noncomputable def wiB (a:zv)(p:Int)(k v:Nat):Bool:=decide (Within a p k (v:Int))
def Vf {k:Nat}:wiB a p k v=true↔Within a p k (v:Int):=by classical exact decide_eq_true_iff
noncomputable def cnt (a:zv)(p:Int)(n k:Nat):Nat:=(List.range n).countP (wiB a p k)
def zk4 (a:zv)(p:Int)(k:Nat):Prop:=∀ v,Within a p (k+1) v->Within a p k v
def zk4.all {k:Nat}(h:zk4 b p k):∀ j v,Within b p j v->Within b p k v:=by
 intro j
 induction j with
 | zero =>
  rintro v ⟨i,g,r⟩
  obtain rfl:i=0:=by omega
  exact⟨0,by omega,r⟩
 | succ j e =>
  intro v f
  rcases Within.succ.mp f with rfl | ⟨a,d,c⟩
  .exact⟨0,by omega,.zero⟩
  .exact h v (Within.succ.mpr (.inr ⟨a,e a d,c⟩))
def zkB {m:Int}{p:Int}(ok:zG m a)(d:0<=p/\p<m):∃ k,k<m.toNat/\zk4 a p k:=by
 have key:∀ k,(∃ b,b<k/\zk4 a p b)\/k+1<=cnt a p m.toNat k:=by
  intro k
  induction k with
  | zero =>
   refine .inr ?_
   unfold cnt
   rw[List.one_le_countP_iff]
   exact⟨p.toNat,j6.mpr (by omega),Vf.mpr ⟨0,t7 _,by rw[u02 d.1];exact .zero⟩⟩
  | succ k e =>
   rcases e with ⟨b,o,g⟩ | e
   .exact .inl ⟨b,by omega,g⟩
   .by_cases c:cnt a p m.toNat (k+1)<=cnt a p m.toNat k
    .refine .inl ⟨k,by omega,λv n=>?_⟩
     obtain⟨j,i,r⟩:=n
     have f:=r.rng ok d
     have:=WS (λx _ h=>Vf.mpr ((Vf.mp h).up (u3d k))) c v.toNat (j6.mpr (by omega)) (Vf.mpr (by rw[u02 f.1];exact⟨j,i,r⟩))
     have:=Vf.mp this
     rwa[u02 f.1]at this
    .exact .inr (by omega)
 rcases key m.toNat with h | h
 .exact h
 .unfold cnt at h
  have:=u2a (p:=wiB a p m.toNat) (l:=List.range m.toNat)
  rw[k8]at this
  omega
def Far (a:zv)(p v:Int)(k:Nat):Prop:=xr a p k v/\∀ i,xr a p i v->k<=i
def Far.uniq {k:Nat}(h:Far a p v k)(b:Far a p v j):k=j:=u1L (h.2 _ b.1) (b.2 _ h.1)
def Far.lt {m:Int}{p:Int}{k:Nat}(ok:zG m a)(c:0<=p/\p<m)(h:Far a p v k):k<m.toNat:=by
 obtain⟨b,e,d⟩:=zkB ok c
 obtain⟨j,f,r⟩:=d.all k v ⟨k,t7 _,h.1⟩
 have:=h.2 j r
 omega
def zlN {k:Nat}(h:xr a p k v):∃ j,Far a p v j:=znl k h
open Classical in
noncomputable def zey (a:zv)(p v:Int):zX:=if h:∃ k,Far a p v k then some (h.choose:Int)else none
def zgL {k:Nat}(h:Far a p v k):zey a p v=some (k:Int):=by
 unfold zey
 have b:∃ k,Far a p v k:=⟨k,h⟩
 rw[dif_pos b,b.choose_spec.uniq h]
def zic (h:∀ k,¬ xr a p k v):zey a p v=none:=by
 unfold zey
 rw[dif_neg]
 rintro⟨k,b⟩
 exact h k b.1
def wO (a:zv)(p v:Int):(∃ k:Nat,zey a p v=some (k:Int)/\Far a p v k)\/(zey a p v=none/\∀ k,¬ xr a p k v):=by
 by_cases h:∃ k,xr a p k v
 .obtain⟨k,b⟩:=h
  obtain⟨j,c⟩:=zlN b
  exact .inl ⟨j,zgL c,c⟩
 .have:∀ k,¬ xr a p k v:=λk b=>h ⟨k,b⟩
  exact .inr ⟨zic this,this⟩
noncomputable def vg (m:Int)(a:zv)(p:Int):xi:=(List.range m.toNat).map λv:Nat=>zey a p v
def yI:zX->D
 | none=>.non
 | some k=>.int k
def oAt (a:xi)(i:Int):zX:=(a[i.toNat]?).getD none
def zlr {n:Nat}{i:Int}(a:0<=i)(b:i<n):L2.ixN n i=some i.toNat:=by
 unfold L2.ixN
 rw[u9 a,u9 b]
def XY {α:Type}{a:List α}{i:Int}{x:α}(b:0<=i)(h:a[i.toNat]?=some x):L2.atI a i=some x:=by
 have:=(t5.mp h).1
 unfold L2.atI
 rw[zlr b (by omega)]
 exact h
def zpm {i:Nat}{b:zQ}{ρ:SE}{a:zk}{k:Int}(n:vEv m c ρ=some d)(e:b (visG ρ)=some (.int k))(g:ρ[i]?=some (.o a))(l:0<=k)(h:k<a.length) :
 Xa m i b c ρ=.nx (ρ.set i (.o (a.set k.toNat d))):=by
 unfold Xa
 rw[n,e,g]
 show(match ((L2.ixN a.length k).map λj=>ρ.set i (Sl.o (a.set j d)))with | some f=>Ctl.nx f | none=>Ctl.no)=_
 rw[zlr l h]
 rfl
def zm5 {a:xi}{i:Int}(b:0<=i)(c:i<a.length):L2.atI (a.map yI) i=some (yI (oAt a i)):=by
 refine XY b ?_
 unfold oAt
 rw[q0,u8 (by omega)]
 rfl
def wZ {fs:xi}{i j:Int}(d:0<=i)(a:i<fs.length)(b:0<=j):oAt (fs.set i.toNat x) j=if j=i then x else oAt fs j:=by
 unfold oAt
 rw[i6]
 by_cases c:j=i
 .subst c
  rw[u9 rfl,u9 rfl,u9 (by omega)]
  rfl
 .rw[t9 (by omega),t9 c]
def zhZ {a b:xi}(d:a.length=b.length)(h:∀ i:Int,0<=i->i<a.length->oAt a i=oAt b i):a=b:=by
 refine u27 λi=>?_
 by_cases c:i<a.length
 .have:=h (i:Int) (by omega) (by omega)
  unfold oAt at this
  rw[u1e,u8 c,u8 (by omega)]at this
  rw[u8 c,u8 (by omega)]
  exact u0q some this
 .rw[u0E (by omega),u0E (by omega)]
def Yn (m:Int)(a:zv)(p:Int):(vg m a p).length=m.toNat:=by unfold vg;simp
def WB {m:Int}{v:Int}(b:0<=v)(c:v<m):oAt (vg m a p) v=zey a p v:=by
 unfold oAt vg
 rw[q0,u0y (by omega)]
 show zey a p ((v.toNat:Nat):Int)=_
 rw[u02 b]
def zar (a:zv):(Xb a).Perm a:=u2D _ _
def zcs {d:zv}(h:d.Nodup):(Xb d).Pairwise ltP:=by
 have g:(Xb d).Pairwise λa b=>znM a b=true:=u1K (λa b c g f=>by rw[vv]at *;omega) (λa b=>by rw[u1F,vv,vv];omega) _
 have f:(Xb d).Nodup:=(zar d).nodup_iff.mpr h
 refine(g.and f).imp λ{a b} hh=>?_
 obtain⟨x,y⟩:=hh
 rw[vv]at x
 unfold ltP
 rcases x with x | x
 .exact .inl x
 .refine .inr ⟨x.1,?_⟩
  have:a.2≠b.2:=λe=>y (u2v x.1 e)
  omega
def za5 {n:Int}(a:0<=n)(b:n<=1000):zf9 (.lst [d]) (.int n)=some (List.replicate n.toNat d):=by
 show(if -(2^63)<=n/\n<2^63/\lim (1*n.toNat)=true then _ else none)=_
 rw[u9 ⟨by omega,by omega,yN (by omega)⟩,u1T]
def zc5 {i:Nat}{e:zQ}{ρ:SE}{n:vc}(a:zk)(d:D)(k:Int)(o:vEv m c ρ=some d)(f:e (visG ρ)=some (.int k))(g:ρ[i]?=some (.o a))(j:0<=k)(l:k<a.length)(q:n (ρ.set i (.o (a.set k.toNat d)))) :
 (Xa m i e c ρ).w n b h r:=w3 (zpm o f g j l) q
def zhC {i:Int}(b:-(2^64)<i)(a:i<2^64):xM (.int i) (.int j)=some (.int (i*j)):=by
 show(if Xy i j=true then _ else none)=_
 rw[u9 (show Xy i j=true from j0 (.inl ⟨b,a⟩))]
def zeT (a:zc):zlU [.lst (a.map .int)]=some (.int a.sum):=by
 show((zaa (a.map .int)).bind λa=>some (D.int a.sum))=_
 rw[Zj]
 rfl
def zkP {α:Type}(a:List α)(b c:zX):(zaQ a b c).length<=a.length:=by
 unfold zaQ
 rw[u0t,u0O]
 omega
def ze0 {a b:zk}(h:a.length+b.length<=1000):y3 (.lst a) (.lst b)=some (.lst (a++b)):=by
 show(if lim (a.length+b.length)=true then _ else none)=_
 rw[u9 (yN h)]
def zqJ {g h:zT}{k:vc}(J:vc)(d:(g ρ).w J b k r)(c:∀ a,J a->(h a).w n b k r):(zy g h ρ).w n b k r :=
 yn (zor d c (λ_ h=>h) (λ_ h=>h) λ_ h=>h)
def zjA {p:Int}(ok:zG m a)(c:0<=p/\p<m)(h:o∈vg m a p):o=none\/∃ k:Int,o=some k/\0<=k/\k<m:=by
 unfold vg at h
 obtain⟨v,d,rfl⟩:=p0.mp h
 rcases wO a p v with ⟨k,e,b⟩ | ⟨e,_⟩
 .have:=b.lt ok c
  exact .inr ⟨_,e,by omega,by omega⟩
 .exact .inl e
def yW {f:zQ}{ρ:SE}(h:vEv m f ρ=some d)(a:ρ.set i (.v d)=ρ':=by rfl):yx m i f ρ=.nx ρ':=by
 unfold yx
 rw[h,<- a]
def x9 {f:zQ}(h:f (visG ρ)=some d):YH f ρ=.nx ρ:=by
 unfold YH
 rw[h]
def xc {f:zQ}(h:f (visG ρ)=some d):zO f ρ=.rt d:=by
 unfold zO
 rw[h]
def zaY {f:y4}{ρ:SE}(h:f (visF ρ)=some ds)(a:ρ.set i (.o ds)=ρ':=by rfl):vH i f ρ=.nx ρ':=by
 unfold vH
 rw[h,<- a]
def zl0 {o:Option zk}(h:o=some a):o.map D.lst=some (.lst a):=by rw[h];rfl
def xf:neD (.int a) (.int b)=some (.bl (!decide (a=b))):=rfl
def vu {a m x:Int}(h:0<m)(b:a%m=x):0<=x/\x<m:=by
 subst b
 exact⟨Int.emod_nonneg _ (by omega),Int.emod_lt_of_pos _ h⟩
def len_lt {α:Type}{a:List α}{x m:Int}(h:x<m)(b:(a.length:Int)=m):x<(a.length:Int):=by omega
def zdi {α:Type}{f:α->D}{a:List α}{x m:Int}(h:x<m)(b:(a.length:Int)=m):x<((a.map f).length:Int):=by rw[u4];omega
def zgO {m:Int}(h:1<=m):0<m:=by omega
def zmt {i:Nat}{x m:Int}(b:i<m.toNat)(a:(0:Int)+(i:Int)=x):0<=x/\x<m:=by omega
def zpp {i:Nat}{x:Int}(a:(0:Int)+(i:Int)=x):(i:Int)=x:=by omega
def zhs {o:Nat}{m:Int}(h:(o:Int)<m):0<=(0:Int)+(o:Int)/\(0:Int)+(o:Int)<m:=by omega
def zfb {n:Nat}(h:n<=8):lim n=true:=yN (by omega)
def Ze {α:Type}{a:List α}{x m:Int}(b:0<=x)(h:x<m)(c:a.length=m.toNat):x<(a.length:Int):=by omega
def zcd {α:Type}{f:α->D}{a:List α}{x m:Int}(b:0<=x)(h:x<m)(c:a.length=m.toNat):x<((a.map f).length:Int):=by rw[u4];omega
def V8 {fs:xi}{i m:Int}(a:0<=i)(h:i<m)(b:fs.length=m.toNat):L2.atI (fs.map yI) i=some (yI (oAt fs i)):=zm5 a (Ze a h b)
def zpx {m:Int}(b:1<=m)(a:m<=8):zf9 (.lst [d]) (.int m)=some (List.replicate m.toNat d):=za5 (by omega) (by omega)
def zma {m:Int}(b:1<=m)(a:m<=8):xD [.int m]=some (X6 0 m.toNat):=by
 show(if zji m=true then some (X6 0 m.toNat)else none)=_
 rw[u9 (yu.mpr ⟨by omega,by omega⟩)]
def zpI {m:Int}{n:Nat}(h:m=((n+1:Nat):Int))(a:n<=7):xD [.int m]=some (X6 0 (n+1)):=by
 rw[zma (by omega) (by omega),show m.toNat=n+1 by omega]
def zpO {m:Int}{n:Nat}(h:m=((n+1:Nat):Int))(a:n<=7):XA [.int 1,.int m]=some (X6 1 n):=by
 show(if zji 1=true/\zji m=true then some (X6 1 (m-1).toNat)else none)=_
 rw[u9 ⟨yu.mpr ⟨by omega,by omega⟩,yu.mpr ⟨by omega,by omega⟩⟩,show(m-1).toNat=n by omega]
def zn5 {n:Nat}(h:n<=28):lim n=true:=yN (by omega)
def zY:vC (.int a) (.int b)=some (.bl (decide (a=b))):=rfl
def xu:vC (.bl a) (.bl b)=some (.bl (decide (a=b))):=rfl
def yH:vC (.str a) (.str b)=some (.bl (decide (a=b))):=rfl
def ym:y3 (.int a) (.int b)=some (.int (a+b)):=rfl
def zkc {a b:zk}(h:a.length+b.length<=1000):y3 (.tup a) (.tup b)=some (.tup (a++b)):=by
 show(if lim (a.length+b.length)=true then some (D.tup (a++b))else none)=_
 rw[u9 (yN h)]
section
variable {ρ:Ev}{f g h:zQ}{a:y4}{t u:Yk}{d e x y z:D}{ds es:zk}{b c:Bool}
def z0:ze ρ=some []:=rfl
def zr (c:f ρ=some d)(b:a ρ=some ds):za f a ρ=some (d::ds):=by unfold za;rw[c,b];rfl
def zL {n:Nat}{p:YF}(e:a ρ=some ds)(b:p ds=some d)(c:ds.length=n:=by rfl):zh n p a ρ=some d:=by
 unfold zh
 rw[e,j7,u9 c,b]
def zkm {n:Nat}{p:zf1}(d:a ρ=some ds)(b:p ds=some es)(c:ds.length=n:=by rfl):zer n p a ρ=some es:=by
 unfold zer
 rw[d,j7,u9 c,b]
def wh {n:Nat}{p:YF}{σ b:SE}(g:a (visF σ)=some ds)(c:p ds=some d)(e:ds.length=n:=by rfl)(f:σ.set i (.v d)=b:=by rfl):yx false i (zh n p a) σ=.nx b:=yW (show zh n p a (visF σ)=some d from zL g c e) f
def XB {f:zQ}{σ a:SE}(h:f (visF σ)=some d)(b:σ.set i (.v d)=a:=by rfl):yx false i f σ=.nx a:=yW (show f (visF σ)=some d from h) b
def zA {k:wt}(c:f ρ=some x)(a:g ρ=some y)(b:k x y=some z):zd k f g ρ=some z:=by unfold zd;rw[c,a];exact b
def zpq {k:D->Option D}(b:f ρ=some x)(a:k x=some z):eUn k f ρ=some z:=by unfold eUn;rw[b];exact a
def xN (b:a ρ=some ds):yc a ρ=some (.lst ds):=by unfold yc;rw[b];rfl
def VU {k:YF}(c:a ρ=some ds)(b:k ds=some d):eFn k a ρ=some d:=by unfold eFn;rw[c];exact b
def zlA {k:zf1}(c:a ρ=some ds)(b:k ds=some es):fFn k a ρ=some es:=by unfold fFn;rw[c];exact b
def zdN (c:a ρ=some ds)(b:ds.length<=1000):zS a ρ=some ds:=by unfold zS;rw[c,j7,u9 (yN b)]
def vJ (c:a ρ=some ds)(b:ds.length<=1000):yq a ρ=some (.tup ds):=by unfold yq;rw[c,j7,u9 (yN b)]
def WP (b:f ρ=some d)(a:xL d=some ds):iOf f ρ=some ds:=by unfold iOf;rw[b];exact a
def zri (b:t ρ=some c)(a:(if c=true then f ρ else g ρ)=some d):eIf t f g ρ=some d:=by unfold eIf;rw[b];exact a
def zqm (d:f ρ=some (.bl b))(a:g ρ=some (.bl c)):Y7 f g ρ=some (.bl (b&&c)):=by unfold Y7;rw[d,a];cases b <;> rfl
def vR (a:f ρ=some (.bl b)):tOf f ρ=some b:=by unfold tOf;rw[a];rfl
def zah (a:t ρ=some b):zZ t ρ=some (!b):=by unfold zZ;rw[a];rfl
def zrh (d:t ρ=some b)(a:u ρ=some c):vI t u ρ=some (b||c):=by unfold vI;rw[d,a];cases b <;> rfl
def zmh (a:t ρ=some false):wd t u ρ=some false:=by unfold wd;rw[a];rfl
def zmg (b:t ρ=some true)(a:u ρ=some c):wd t u ρ=some c:=by unfold wd;rw[b];exact a
def zo1 (b:t ρ=some false)(a:u ρ=some c):vI t u ρ=some c:=by unfold vI;rw[b];exact a
end
end Mz
namespace Dl
open PySem L2
structure Row where
 x:Str
 ps:zJ
 ex:zJ
 st:Stmt
abbrev Row.N (r:Row):zJ:=r.ps++r.ex
def Row.scB (r:Row):Bool:=decide ((zp r.st).kind=.function/\(zp r.st).isCoroutine=false/\(zp r.st).isGenerator=false/\r.N.Nodup/\(∀ x∈r.ps,(zp r.st).names.lookup x=some .local\/(zp r.st).names.lookup x=some .cell)/\∀ y∈(zp r.st).names,y.2≠.free)
def Row.sc {r:Row}(h:r.scB=true):wv r.N r.ps (zp r.st):=by
 obtain⟨a,b,c,d,e,f⟩:=k9 h
 exact⟨a,b,c,d,List.take_left' rfl,e,f⟩
def zeC {α:Type}{p:α->Prop}{l:List α}{d:α}(h:∀ x∈l,p x)(a:p d)(i:Nat):p (l.getD i d):=by
 rw[j9]
 cases e:l[i]? with
 | none=>exact a
 | some y=>exact h y (j4 e)
def Dx (K:zz)(d:w1)(b:vD)(r:Row):Prop:=∃ f a,Def K d r.x r.st r.ps f a/\∀ c,b.lookup r.x=some c->a.code=.ref c
structure KR (b:Bool):Prop where
 h:b=true
structure UR {α:Type} (a b:α):Prop where
 h:a=b
def zqE {l:zJ}(h:decide l.Nodup=true):l.Nodup:=k9 h
section
variable [KK]{X:Cx}{x:Str}{elt iter c:Expr}{tp:Pos}{scope:Scope}{cl:vD}{pos:Pos}{fi:y4}{ft:Yk}{fe:zQ}{rn dn:List (Str × NameKind)}{cn N:zJ}
def zrp (m:KR (decide (x::X.N).Nodup))(h:X.calm=true)(e:ID X (.Name x tp) iter fi)(g:(relabel scope X.env).names=rn)(c:X.env.scope.names=dn)(d:X.N=N)(k:UR (closureFor scope X.env) (pure cl))(o:scope.kind=.function)(b:cl.map Prod.fst=cn)(l:KR (xJ scope.names rn dn N X.N cn))(j:∀ p∈cl,X.env.cells.lookup p.1=some p.2)
 (a:∀ s₀ H₀ ex pn,Loc (Zo X [x] X.N scope cl s₀ H₀ ex pn).env.scope x/\(Zo X [x] X.N scope cl s₀ H₀ ex pn).env.scope.names.lookup x=some .local) (n:∀ s₀ H₀ ex pn,ED (Zo X [x] X.N scope cl s₀ H₀ ex pn) elt fe)
 (f:∀ x,foldedSetIterable iter X.env x=pure x):FL X (.ListComp elt [⟨.Name x tp,iter,[],0⟩] scope pos) (fLC fi b1 zN fe) :=
 zao (L:=[x]) (M:=X.N) h (YD g c d k.h o b l.h j) e gs1 rb1 (λ_ _ _ _=>yA (i:=0) (zqE m.h) rfl (a _ _ _ _).1 (.inr (a _ _ _ _).2)) n f
def zqO (o:KR (decide (x::X.N).Nodup))(k:X.calm=true)(g:ID X (.Name x tp) iter fi)(j:(relabel scope X.env).names=rn)(d:X.env.scope.names=dn)(e:X.N=N)(m:UR (closureFor scope X.env) (pure cl))(r:scope.kind=.function)(b:cl.map Prod.fst=cn)(n:KR (xJ scope.names rn dn N X.N cn))(l:∀ p∈cl,X.env.cells.lookup p.1=some p.2)
 (a:∀ s₀ H₀ ex pn,Loc (Zo X [x] X.N scope cl s₀ H₀ ex pn).env.scope x/\(Zo X [x] X.N scope cl s₀ H₀ ex pn).env.scope.names.lookup x=some .local) (f:∀ s₀ H₀ ex pn,TD (Zo X [x] X.N scope cl s₀ H₀ ex pn) c ft) (q:∀ s₀ H₀ ex pn,ED (Zo X [x] X.N scope cl s₀ H₀ ex pn) elt fe)
 (h:∀ x,foldedSetIterable iter X.env x=pure x):FL X (.ListComp elt [⟨.Name x tp,iter,[c],0⟩] scope pos) (fLC fi b1 ft fe) :=
 zec (L:=[x]) (M:=X.N) k (YD j d e m.h r b n.h l) g gs1 rb1 (λ_ _ _ _=>yA (i:=0) (zqE o.h) rfl (a _ _ _ _).1 (.inr (a _ _ _ _).2)) f q h
def zoS {i:Nat}{a:Pos}(r:KR (decide (x::X.N).Nodup))(j:X.N.Nodup)(q:X.N[i]?=some y)(b:Loc X.env.scope y)(h:X.calm=true)(s:ID X (.Name x tp) iter fi)(w:(relabel scope X.env).names=rn)(g:X.env.scope.names=dn)(k:X.N=N)(m:UR (closureFor scope X.env) (pure cl))(u:scope.kind=.function)(f:cl.map Prod.fst=cn)(o:KR (xJ scope.names rn dn N X.N cn))(l:∀ p∈cl,X.env.cells.lookup p.1=some p.2)(e:∀ s₀ H₀ ex pn,Loc (Zo X [x] X.N scope cl s₀ H₀ ex pn).env.scope x/\(Zo X [x] X.N scope cl s₀ H₀ ex pn).env.scope.names.lookup x=some .local)(t:∀ s₀ H₀ ex pn,ED (Zo X [x] X.N scope cl s₀ H₀ ex pn) elt fe)(v:∀ x,foldedSetIterable iter X.env x=pure x)(c:swapsWith (.ListComp elt [⟨.Name x tp,iter,[],0⟩] scope pos) (some (.Name y d)) a.line X.env=pure true)(n:X.fn y=true\/X.env.scope.names.lookup y=some .local):FLS X i (.Assign [.Name y d] (.ListComp elt [⟨.Name x tp,iter,[],0⟩] scope pos) a) (fLC fi b1 zN fe) :=
 zmf (L:=[x]) (M:=X.N) j q b h (YD w g k m.h u f o.h l) s gs1 rb1 (λ_ _ _ _=>yA (i:=0) (zqE r.h) rfl (e _ _ _ _).1 (.inr (e _ _ _ _).2)) t v c n
def zox {i:Nat}{a:Pos}(t:KR (decide (x::X.N).Nodup))(k:X.N.Nodup)(s:X.N[i]?=some y)(b:Loc X.env.scope y)(j:X.calm=true)(u:ID X (.Name x tp) iter fi)(A:(relabel scope X.env).names=rn)(h:X.env.scope.names=dn)(l:X.N=N)(n:UR (closureFor scope X.env) (pure cl))(w:scope.kind=.function)(g:cl.map Prod.fst=cn)(r:KR (xJ scope.names rn dn N X.N cn))(m:∀ p∈cl,X.env.cells.lookup p.1=some p.2)(f:∀ s₀ H₀ ex pn,Loc (Zo X [x] X.N scope cl s₀ H₀ ex pn).env.scope x/\(Zo X [x] X.N scope cl s₀ H₀ ex pn).env.scope.names.lookup x=some .local)(o:∀ s₀ H₀ ex pn,TD (Zo X [x] X.N scope cl s₀ H₀ ex pn) c ft)(v:∀ s₀ H₀ ex pn,ED (Zo X [x] X.N scope cl s₀ H₀ ex pn) elt fe)(z:∀ x,foldedSetIterable iter X.env x=pure x)(d:swapsWith (.ListComp elt [⟨.Name x tp,iter,[c],0⟩] scope pos) (some (.Name y e)) a.line X.env=pure true)(q:X.fn y=true\/X.env.scope.names.lookup y=some .local):FLS X i (.Assign [.Name y e] (.ListComp elt [⟨.Name x tp,iter,[c],0⟩] scope pos) a) (fLC fi b1 ft fe) :=
 zmH (L:=[x]) (M:=X.N) k s b j (YD A h l n.h w g r.h m) u gs1 rb1 (λ_ _ _ _=>yA (i:=0) (zqE t.h) rfl (f _ _ _ _).1 (.inr (f _ _ _ _).2)) o v z d q
end
def td_b [KK]{f:Yk}(h:WD X (.BoolOp op es pos) f):TD X (.BoolOp op es pos) f:=td_w h
def zjX [KK] {X:Cx} {w:World} {k:Nat} {f:Addr} (F:vU P w K mg base CX0 j f fd ps (spD m p)) (hr:x5 k X.A) (hj:j<=k) (d:Def K mg x st ps f fd) (hX:X.prog=P/\X.w=w/\X.K=K/\X.mg=mg/\X.base=base) (hg:Gl X x) (ha:AD X (e::es) fa) (hdb:(x == ("__debug__":Str))=false) (he:starEach (e::es) X.env=(false,eval e X.env)::starEach es X.env) (hpl:(backTo pos (starEach es X.env)).any (·.1)=false) :
 ED X (.Call (.Name x pp) (e::es) [] pos) (zh m p fa):=by
 obtain⟨rfl,rfl,rfl,rfl,rfl⟩:=hX
 exact wM F hr hg d ha hj hdb he hpl
def Dx_cons (h:Dx K b a r)(t:∀ r∈c,Dx K b a r):∀ d∈r::c,Dx K b a d:=u1l.mpr ⟨h,t⟩
def Z_cons (h:W.nsIn K mainGlobals x=some none)(t:∀ y∈l,W.nsIn K mainGlobals y=some none):∀ y∈x::l,W.nsIn K mainGlobals y=some none:=u1l.mpr ⟨h,t⟩
def mkX {K:zz}{h:Heap}{t:w1}{g:vD}{o ex:zJ}{f:Addr}{kV:Value}{w:x4}(X:K.In h)(G:h.Ns mainGlobals t)(a:W.nsIn K mainGlobals x=some (some (.ref f)))(l:K.lookup f=some ⟨u,w,.func (W.fnOf x x (YT d) (yV d) (zp d) .none kV s j i m ct),y⟩)(c:W.codeIn K m x=true)(k:W.keepIn K (.ref f)=true)(b:∀ (kV q j:Value) (i:x4) (p ct:Value) (n:zt),n.length=o.length->bindArgs (W.fnOf x x (YT d) (yV d) (zp d) .none kV q j i p ct) ⟨n,[]⟩=pure (o.zip n))(e:g.lookup x=none\/∃ c,g.lookup x=some c/\m=.ref c):Dx K t g ⟨x,o,ex,d⟩ :=
 ⟨f,W.fnOf x x (YT d) (yV d) (zp d) .none kV s j i m ct,⟨zli l c k,(zli l c k).binds b,p9 X G a⟩,λc h=>by
  rcases e with e | ⟨v,e,r⟩
  .rw[show g.lookup x=none from e]at h;cases h
  .rw[show g.lookup x=some v from e]at h;cases h;exact r⟩
def zgM {f:Addr}(F:Fun K x q c f d)(h:∀ (kV b g:Value) (e:x4) (a ct:Value),bindArgs (W.fnOf x q (YT c) (yV c) (zp c) .none kV b g e a ct) ⟨[v],[]⟩=pure [(y,v)]):BindsTo s d ⟨[v],[]⟩ [(y,v)]:=by
 obtain⟨j,k,kV,b,g,e,a,ct,i,rfl,_,_⟩:=F.ex
 exact .of_eq (h _ _ _ _ _ _)
section
variable [KK]{E:XK}{cl:Nat->Addr}{X:Cx}{e:Expr}{es:xK}{st:Stmt}{sts:Xp}{pos:Pos}{fx:znX}
def zpi {g:zT}(d:XS E cl X st b)(c:SD X.nox st g)(e:XSs E cl X sts a):XSs E cl X (st::sts) (zm7 b g a):=zjE d (SD.nox c) e
def xs_e (h:XE E cl X e fx)(a:swapsWith e none pos.line X.env=pure false):XS E cl X (.Expr e pos) (xEx fx):=zgU h a
def zjt {w:World} {k:Nat} {f:Addr} {st:Stmt} (F:vU P w K b a (Air P w) j f i l (spX cl m r)) (u:Xs (Air X.prog X.w) X E) (v:x5 k X.A) (o:j<=k) (d:Def K b x st l f i) (q:X.prog=P/\X.w=w/\X.K=K/\X.mg=b/\X.base=a) (s:Gl X x) (n:AD X (e::es) h) (c:(x == ("__debug__":Str))=false) (t:starEach (e::es) X.env=(false,eval e X.env)::starEach es X.env) (g:(backTo pos (starEach es X.env)).any (·.1)=false):XE E cl X (.Call (.Name x p) (e::es) [] pos) (zjg m r h):=by
 obtain⟨rfl,rfl,rfl,rfl,rfl⟩:=q
 exact zgG (F.mono o) u v s d.at_ d.kp d.bd n c t g
end
end Dl
namespace Mz
open PySem L2 Dl
def Xc:zkC:=[("row",[1,8]),("ring",[3,8]),("cube",[0,3]),("full",[1,8]),("star",[1,7])]
def top (i:Nat):Stmt:=PySem.Challenge.pw_twoforone_k74_whole_shows_of_trees_and_r.main.body.getD i (.Pass ⟨0,0,0,0⟩)
def rows:List Row:=[⟨"is_whole",["thing"],[],top 17⟩,
 ⟨"is_whole_within",["thing","least","most"],[],top 18⟩,
 ⟨"must_be_within",["thing","least","most"],[],top 19⟩,
 ⟨"is_place_count",["thing"],[],top 20⟩,
 ⟨"is_place",["many","thing"],[],top 21⟩,
 ⟨"doubled",["number","times"],["turn"],top 22⟩,
 ⟨"is_pair",["many","thing"],[],top 24⟩,
 ⟨"are_ties",["many","thing"],["at","tie"],top 25⟩,
 ⟨"is_web",["thing"],[],top 26⟩,
 ⟨"must_be_web",["thing"],[],top 27⟩,
 ⟨"must_be_place",["web","thing"],[],top 28⟩,
 ⟨"tie_between",["one","other"],[],top 29⟩,
 ⟨"neighbours",["web","place"],[],top 30⟩,
 ⟨"ties_away",["web","start"],["away","rim","further","place","other"],top 31⟩,
 ⟨"pieces",["web"],["found","start","away","piece"],top 32⟩,
 ⟨"is_joined",["web"],[],top 33⟩,
 ⟨"is_tree",["web"],[],top 34⟩,
 ⟨"is_step",["web","thing"],[],top 36⟩,
 ⟨"lowest",["top","bottom"],["one","other","rest"],top 38⟩,
 ⟨"is_over",["thing"],[],top 41⟩,
 ⟨"kind_good",["thing"],["word"],top 42⟩,
 ⟨"places_of",["word","size"],[],top 43⟩,
 ⟨"are_tied",["word","size","one","other"],[],top 44⟩,
 ⟨"web_for",["kind"],["word","size","many","ties","one"],top 45⟩,
 ⟨"ring_of_places",["n"],[],top 47⟩,
 ⟨"ring_need",["n"],["half"],top 48⟩,
 ⟨"sweep_orders",["n","place"],["upwards"],top 49⟩,
 ⟨"must_be_tree",["web"],[],top 51⟩,
 ⟨"outer_neighbours",["web","root"],["away","outer","place"],top 52⟩,
 ⟨"inner_neighbours",["web","root"],["inner","place","outer","other"],top 53⟩,
 ⟨"outwards",["web","root"],["away"],top 54⟩,
 ⟨"heights_from",["web","root"],["outer","tall","place"],top 55⟩,
 ⟨"ways_from",["web","root"],["tall","outer","ranked","found","place","at","other"],top 56⟩,
 ⟨"way_through",["ranked","way"],[],top 57⟩,
 ⟨"worst_from",["web","root","times"],["stones","at","way"],top 58⟩,
 ⟨"tree_need",["web","place","times"],[],top 59⟩,
 ⟨"tree_worst",["web","place","times"],[],top 60⟩,
 ⟨"is_branch_row",["web","root","weights_ahead","thing"],[],top 62⟩,
 ⟨"are_branch_rows",["web","root","thing"],["weights_ahead","row"],top 63⟩,
 ⟨"branch_sum",["branch"],[],top 64⟩,
 ⟨"is_share",["thing"],[],top 65⟩,
 ⟨"is_shared_branch",["web","root","thing"],[],top 66⟩,
 ⟨"shared_sum",["shares","numbers"],["top","bottom","share","number"],top 67⟩,
 ⟨"weight_at",["branch","place"],[],top 68⟩,
 ⟨"show_bound",["web","place","thing"],["shares","branches","other","told","total"],top 69⟩,
 ⟨"tree_show",["web","place"],["tall","inner","branch"],top 70⟩,
 ⟨"ring_branch",["order","place"],["inner"],top 71⟩,
 ⟨"ring_show",["n","place"],["share"],top 72⟩,
 ⟨"_law_cell_at",["script","k"],[],top 74⟩,
 ⟨"_law_same",["found","due"],["one","other"],top 75⟩,
 ⟨"_law_stir",["cell","k"],["number"],top 76⟩,
 ⟨"_law_tree_by",["cell","most"],["many","names","k","ties","left","inner"],top 77⟩,
 ⟨"_law_fars",["web","place"],["found","turn","a","b"],top 78⟩,
 ⟨"_law_near",["web","place"],[],top 79⟩,
 ⟨"_law_kinds",["e"],["found"],top 80⟩,
 ⟨"_law_tree_rows",["web","root"],["far_ones","outer","place","tall","turn","found","far_here","inner"],top 81⟩,
 ⟨"_law_ring_rows",["n","place","by"],["many","found","k"],top 82⟩,
 ⟨"_law_came",["web"],["e"],top 83⟩,
 ⟨"law",["script"],["cell","web","root","due","lap","answer","n","place","share","ring"],top 84⟩]
def Rw (i:Nat):Row:=rows.getD i ⟨"law",["script"],["cell","web","root","due","lap","answer","n","place","share","ring"],top 84⟩
def sc (i:Nat):wv (Rw i).N (Rw i).ps (zp (Rw i).st):=Row.sc (zeC (p:=λr:Row=>r.scB=true) (by decide +kernel) (by decide +kernel) i)
structure Adr where
 f:Nat->Addr
 e:Nat->FuncData
 t_MOST_PLACES:Tok
 s_SIZES:Addr
 x_NoKind:Addr
 x_NoHeap:Addr
 x_NoPlace:Addr
 x_NoNumber:Addr
 x_NoTally:Addr
 x_NotTree:Addr
 x_NotJoined:Addr
 x_NoWeights:Addr
 x_NoRow:Addr
 x_NoWeb:Addr
 x_NoSteps:Addr
 x_NoText:Addr
 x_TooGreat:Addr
 x_StoneError:Addr
 c_outwards:Addr
 p_outwards:Addr
 c_ways_from:Addr
 p_ways_from:Addr
def zpv (a:Adr):xx:=[a.x_NoKind,a.x_NoHeap,a.x_NoPlace,a.x_NoNumber,a.x_NoTally,a.x_NotTree,a.x_NotJoined,a.x_NoWeights,a.x_NoRow,a.x_NoWeb,a.x_NoSteps,a.x_NoText,a.x_TooGreat]
def clT (a:Adr)(j:Nat):Addr:=(zpv a).getD (j%16) 0
def hclT (a:Adr)(j:Nat):clT a j=clT a (j%16):=by unfold clT;rw[Nat.mod_mod]
def zs:zJ:=["ValueError","all","bool","enumerate","int","isinstance","len","list","max","min","range","reversed","sorted","str","sum","tuple","zip"]
structure Txt (P:zH) (w:World) (K:zz) (mg:w1) (base:Heap) (ad:Adr):Prop where
 d:∀ i,Def K mg (Rw i).x (Rw i).st (Rw i).ps (ad.f i) (ad.e i)
 z:∀ x∈zs,mg x=none
 g_MOST_PLACES:mg "MOST_PLACES"=some (Value.int 8 ad.t_MOST_PLACES)
 g_SIZES:mg "SIZES"=some (Value.ref ad.s_SIZES)
 b_SIZES:∀ h:Heap,K.In h->PyProof.Rows.KTD.TextTab h ad.s_SIZES (zcx Xc)
 g_NoKind:mg "NoKind"=some (Value.ref ad.x_NoKind)
 g_NoHeap:mg "NoHeap"=some (Value.ref ad.x_NoHeap)
 g_NoPlace:mg "NoPlace"=some (Value.ref ad.x_NoPlace)
 g_NoNumber:mg "NoNumber"=some (Value.ref ad.x_NoNumber)
 g_NoTally:mg "NoTally"=some (Value.ref ad.x_NoTally)
 g_NotTree:mg "NotTree"=some (Value.ref ad.x_NotTree)
 g_NotJoined:mg "NotJoined"=some (Value.ref ad.x_NotJoined)
 g_NoWeights:mg "NoWeights"=some (Value.ref ad.x_NoWeights)
 g_NoRow:mg "NoRow"=some (Value.ref ad.x_NoRow)
 g_NoWeb:mg "NoWeb"=some (Value.ref ad.x_NoWeb)
 g_NoSteps:mg "NoSteps"=some (Value.ref ad.x_NoSteps)
 g_NoText:mg "NoText"=some (Value.ref ad.x_NoText)
 g_TooGreat:mg "TooGreat"=some (Value.ref ad.x_TooGreat)
 g_StoneError:mg "StoneError"=some (Value.ref ad.x_StoneError)
 c_NoPlace:W.excIn K ad.x_NoPlace bmV "ValueError.__new__"=true
 c_NotTree:W.excIn K ad.x_NotTree bmV "ValueError.__new__"=true
 y_NoPlace:zax K (zpv ad) ad.x_StoneError ad.x_NoPlace 2=true
 y_NotTree:zax K (zpv ad) ad.x_StoneError ad.x_NotTree 5=true
 lc_outwards:(ad.e 30).code=.ref ad.c_outwards
 la_outwards:Xk base mg ad.c_outwards ad.p_outwards "outwards.<locals>.<lambda>"
 lc_ways_from:(ad.e 32).code=.ref ad.c_ways_from
 la_ways_from:Xk base mg ad.c_ways_from ad.p_ways_from "ways_from.<locals>.<lambda>"
def zoX:(["a","b","web","place","found","turn","·a","·b"]:zJ).Nodup:=by decide +kernel
def zpd:(["a","b","web","place"]:zJ).Nodup:=by decide +kernel
def zlS:(["at","other","order","place","inner"]:zJ).Nodup:=by decide +kernel
def zlX:(["other","web","root","far_ones","outer","place","tall","turn","found","far_here","inner"]:zJ).Nodup:=by decide +kernel
def zoz:(["place","web","root","far_ones","outer","·place","tall","turn","found","far_here","inner"]:zJ).Nodup:=by decide +kernel
def zoZ:(["row","web","root","far_ones","outer","place","tall","turn","found","far_here","inner"]:zJ).Nodup:=by decide +kernel
def zo9:(["other","row","web","root","far_ones","outer","place","tall","turn","found","far_here","inner"]:zJ).Nodup:=by decide +kernel
def Txt.at {w:World}{b:Adr}(T:Txt P w K c a b)(h:(Rw i).x=x):Def K c x (Rw i).st (Rw i).ps (b.f i) (b.e i):=h ▸ T.d i
abbrev Txt.Pr {P:zH}{w:World}{K:zz}{c:w1}{a:Heap}{b:Adr}(_:Txt P w K c a b)(i k n:Nat)(p:YF):Prop:=vU P w K c a CX0 k (b.f i) (b.e i) (Rw i).ps (@spD ⟨K⟩ n p)
def Txt.go {P:zH}{w:World}{K:zz}{d:w1}{a:Heap}{c:Adr}(T:Txt P w K d a c){i k:Nat}{g:zT}(h:∀ (b:Value) (A:zI) (outer:List Env) (s:zj) (H:Hp) (E:XK),x5 k (A.deeper (PyProof.Rows.envOfC (Rw i).x (zp (Rw i).st) s.heap.objs.size (c.f i) b))->@SDs ⟨K⟩ (Wl CX0 P w K d a (Rw i).N (Rw i).x (zp (Rw i).st) (c.f i) b A outer s H E).nox (yV (Rw i).st) g):T.Pr i (k+1) (Rw i).ps.length (fnD (Rw i).N.length g) :=
 letI:KK:=⟨K⟩
 zdH (N:=(Rw i).N) (ps:=(Rw i).ps) (T.d i).fn (sc i) (g:=g) h
abbrev Txt.Px {P:zH}{w:World}{K:zz}{c:w1}{a:Heap}{b:Adr}(_:Txt P w K c a b)(i k n:Nat)(p:zrd):Prop:=vU P w K c a (Air P w) k (b.f i) (b.e i) (Rw i).ps (@spX ⟨K⟩ (clT b) n p)
def Txt.gx {P:zH}{w:World}{K:zz}{d:w1}{a:Heap}{c:Adr}(T:Txt P w K d a c){i k:Nat}{gx:vz}(h:∀ (b:Value) (A:zI) (outer:List Env) (s:zj) (H:Hp) (E:XK),x5 k (A.deeper (PyProof.Rows.envOfC (Rw i).x (zp (Rw i).st) s.heap.objs.size (c.f i) b))->@XSs ⟨K⟩ E (clT c) (Wl (Air P w) P w K d a (Rw i).N (Rw i).x (zp (Rw i).st) (c.f i) b A outer s H E) (yV (Rw i).st) gx):T.Px i (k+1) (Rw i).ps.length (fnX (Rw i).N.length gx) :=
 letI:KK:=⟨K⟩
 zgt (cl:=clT c) (N:=(Rw i).N) (ps:=(Rw i).ps) (T.d i).fn (sc i) (gx:=gx) h
local macro_rules|`(tactic|walk_at "c")=>`(tactic|first
 |rfl
 |assumption
 |decide
 |exact (sc _).nd
 |exact ⟨rfl,rfl,rfl,rfl,rfl⟩
 |exact Or.inl rfl
 |exact Or.inr rfl
 |exact Or.inr (Or.inl rfl)
 |exact Or.inr (Or.inr rfl)
 |exact Txt.at ‹_› rfl
 |exact Txt.z ‹_› _ (by decide)
 |exact zb9 _
 |exact u2F
 |exact ze7
 |exact x5.mono ‹_› (by omega)
 |exact fun _=>rfl
 |exact fun _ _=>rfl
 |exact ⟨Or.inl rfl,rfl⟩
 |omega
 |exact xz
 |exact all_cons rfl xz
 |exact all_cons rfl (all_cons rfl xz)
 |exact all_cons rfl (all_cons rfl (all_cons rfl xz))
 |exact XN (v:=.ty "bool") rfl (Txt.z ‹_› _ (by decide)) ziG rfl
 |exact XN (v:=.ty "int") rfl (Txt.z ‹_› _ (by decide)) zlo rfl
 |exact XN (v:=.ty "list") rfl (Txt.z ‹_› _ (by decide)) zdl rfl
 |exact XN (v:=.ty "str") rfl (Txt.z ‹_› _ (by decide)) zlZ rfl
 |exact XN (v:=.ty "tuple") rfl (Txt.z ‹_› _ (by decide)) zes rfl
 |exact zdv i8 u1B u1C VB ‹_› ‹_›
 |exact zdv i8 PySem.F.slot_list_extend PySem.F.type_list_extend zgN ‹_› ‹_›
 |exact zdv i8 PySem.F.slot_list_insert PySem.F.type_list_insert zjh ‹_› ‹_›
 |exact x5.units0 ‹_›
 |with_unfolding_all rfl
 |kernel_rfl)
local macro_rules|`(tactic|walk_at "s")=>`(tactic|repeat' first
 |((with_reducible show @Eq _ _ _);first|rfl|exact Txt.z ‹_› _ (by decide)|assumption|exact zqj|exact ziG|exact X0|exact zlo|exact zix|exact zdl|exact zlE|exact zpa|exact zlZ|exact zqp|exact zes|decide|exact zb9 _|with_unfolding_all rfl|kernel_rfl)
 |((with_reducible show ED _ _ _);first|(with_reducible first|apply edv|exact xH xq|apply Yj|apply ze4|apply ZZ|exact zq0 zml|apply zgA|apply zpz|apply zpk|apply zeK|apply zlJ|apply zoM|exact zl7 zlH|apply znK|exact zqi zpR|apply ziz|apply zq9|apply zeY|apply zoL|apply zlt|apply zpV|apply zo6|apply zrc|apply znf|apply zh9|(apply zjX;· assumption)|apply XC)|apply Yf YM zd1|apply zat (zlv ?_) zgd|apply zgl zbj zjf|apply Yf (ziC ?_) zjy|apply Yf (zhv ?_) znz|apply zat (zhE ?_) zgE|apply Yf (ziX ?_) zjo|apply Yf (zhj ?_) znG|apply zat zm6 zl2|apply zat zmd zhl|apply zat (zlD ?_) zhW|apply zat zg7 Ym|refine zjW zg7 zg7 Ym Ym ?_ ?_ ?_ (fun a b c=>zjV zg7 zg7 a b c)|exact xH (xA (v:=.int 8) rfl (Txt.g_MOST_PLACES ‹_›) ⟨_,rfl⟩))
 |((with_reducible show AD _ _ _);first|(with_reducible first|apply zw|exact yb))
 |((with_reducible show SDs _ _ _);first|(with_reducible first|apply zeN|apply yG|apply wV|exact zmp|apply zeN))
 |((with_reducible show SD _ _ _);first|(with_reducible first|apply zap|apply zrm|apply zg6|(apply zmy;first|apply zoS|apply zox)|apply W2|apply zg0|apply ziR|apply zoC|apply zpl|apply znx|apply zmV|apply zlG|apply zaS|apply zjR|apply zjS|apply zj8|apply zpS))
 |((with_reducible show PG _ _ _);first|(with_reducible first|apply yA))
 |((with_reducible show WD _ _ _);first|(with_reducible first|apply zrs|apply zp3|apply zoN|apply zne))
 |((with_reducible show BD _ _ _);first|(with_reducible first|apply Vs|apply zlB))
 |((with_reducible show FL _ _ _);first|(with_reducible first|apply zb1|apply zou|apply W4|apply zrg|apply zjB|apply zfX|apply zrp|apply zqO))
 |((with_reducible show ID _ _ _ _);first|(with_reducible first|apply X5|apply zcG|apply zhT|apply zhy|apply zof|apply zoi))
 |((with_reducible show TD _ _ _);first|(with_reducible first|apply ziA|apply td_b)|apply Yx (zlv ?_) zgd|apply Yx zm6 zl2|apply Yx zoI Ym|apply Yx zow Ym|apply Yx zmd zhl|apply Yx zgR zf5|apply Yx (zp7 ?_) znC|apply Yx (zhE ?_) zgE|apply Yx (zlD ?_) zhW|with_reducible apply zgy)
 |((with_reducible show BDs _ _ _);first|(with_reducible first|apply zbp|apply zhP))
 |((with_reducible show PE _ _ _);first|(with_reducible first|apply pv))
 |((with_reducible show OD _ _ _);first|(with_reducible first|apply zi8|apply zhY))
 |((with_reducible show SDO _ _ _ _);first|(with_reducible first|apply zeJ|apply zkU))
 |((with_reducible show XSs _ _ _ _ _);first|(with_reducible first|apply zpi|apply zcf))
 |((with_reducible show XS _ _ _ _ _);first|(with_reducible first|apply xs_e|apply zjm))
 |((with_reducible show XE _ _ _ _ _);first|(with_reducible first|(apply zjt;· assumption)))
 |((with_reducible apply KR.mk);kernel_rfl)
 |((with_reducible apply UR.mk);with_unfolding_all rfl)
 |with_reducible intro s₀ H₀ ex pn
 |walk_at "c")
local macro_rules|`(tactic|walk_at "p")=>`(tactic|(letI:KK:=⟨‹W.Frag›⟩;refine Txt.go ‹_› fun _ _ _ _ _ _ hr=>?_;apply yG <;> walk_at "s"))
local macro_rules|`(tactic|walk_at "q")=>`(tactic|(letI:KK:=⟨‹W.Frag›⟩;refine Txt.go ‹_› fun _ _ _ _ _ _ hr=>?_;apply wV <;> walk_at "s"))
local macro_rules|`(tactic|walk_at "x")=>`(tactic|(letI:KK:=⟨‹W.Frag›⟩;refine Txt.gx ‹_› fun _ _ _ _ _ _ hr=>?_;(first|apply zpi|apply XT|apply zcf) <;> walk_at "s"))
def zbw:D->Bool
 | .int _=>true
 | _=>false
def yC (d:D)(a b:Int):Bool:=match d with
 | .int i=>decide (a<=i)&&decide (i<=b)
 | _=>false
section
variable {P:zH}{w:World}{K:zz}{mg:w1}{base:Heap}{ad:Adr}
def xo:YF
 | [d]=>if noS d=true then some (.bl (zbw d))else none
 | _=>none
abbrev zfg :=zO (Y7 (eUn (yK .int) (zb 0)) (zbe (eUn (yK .bool) (zb 0))))
def zf3:=fnD 1 zfg
def zqy {α:Type}{b:List α}(h:b.length=1):∃ a,b=[a]:=by match b,h with | [a],_=>exact⟨a,rfl⟩
def zks {α:Type}{c:List α}(h:c.length=2):∃ a b,c=[a,b]:=by match c,h with | [a,b],_=>exact⟨a,b,rfl⟩
def len3 {α:Type}{d:List α}(h:d.length=3):∃ a b c,d=[a,b,c]:=by match d,h with | [a,b,c],_=>exact⟨a,b,c,rfl⟩
def ifS (h:(if c=true then some x else none)=some y):c=true/\x=y:=by
 split at h
 .cases h
  exact⟨by assumption,rfl⟩
 .cases h
def zdJ:∀ b d,b.length=1->xo b=some d->zf3 b=some d:=by
 intro b d c h
 obtain⟨a,rfl⟩:=zqy c
 obtain⟨e,rfl⟩:=ifS h
 cases a <;> first | rfl | cases e
def ZS (T:Txt P w K mg base ad):T.Pr 0 1 1 xo:=by
 letI:KK:=⟨K⟩
 refine Yr ?_ zdJ
 walk_at "q"
abbrev x8 :=zO (Y7 (zh 1 xo (za (zb 0) ze)) (xQ leD leD (zb 1) (zb 0) (zb 2)))
def vN:=fnD 3 x8
def zE:YF
 | [d,.int lo,.int hi]=>if noS d=true then some (.bl (yC d lo hi))else none
 | _=>none
def zaA (f:noS a=true)(hw:zbw a=false):vN [a,.int b,.int d]=some (.bl false):=by
 have e:xo [a]=some (.bl false):=by
  show(if noS a=true then some (D.bl (zbw a))else none)=_
  rw[u9 f,hw]
 refine YE (ρ:=[.v a,.v (.int b),.v (.int d)]) rfl ?_
 unfold x8
 refine wC (xc ?_) rfl
 show(((xo [a]).bind asB).bind λc=>if c=true then _ else some (D.bl false))=_
 rw[e]
 rfl
def Xv:∀ g d,g.length=3->zE g=some d->vN g=some d:=by
 intro g d l h
 obtain⟨a,b,c,rfl⟩:=len3 l
 cases b <;> try cases h
 cases c <;> try cases h
 rename_i f j
 obtain⟨e,rfl⟩:=ifS h
 cases a with
 | scr _=>cases e
 | int i =>
  refine YE (ρ:=[.v (.int i),.v (.int f),.v (.int j)]) rfl ?_
  unfold x8
  refine wC (xc ?_) rfl
  show(if decide (f<=i)=true then some (D.bl (decide (i<=j)))else some (.bl false))=some (.bl (decide (f<=i)&&decide (i<=j)))
  cases decide (f<=i) <;> rfl
 | tup k=>exact zaA e rfl
 | lst k=>exact zaA e rfl
 | dct z t n m=>exact zaA e rfl
 | non=>rfl
 | bl _=>rfl
 | str _=>rfl
def yZ (T:Txt P w K mg base ad):T.Pr 1 2 3 zE:=by
 letI:KK:=⟨K⟩
 have:=ZS T
 refine Yr ?_ Xv
 walk_at "q"
abbrev Yy :=zO (zh 3 zE (za (zb 0) (za (eC (.int 1)) (za (eC (.int 8)) ze))))
def wz:=fnD 1 Yy
def yp:YF
 | [d]=>if noS d=true then some (.bl (yC d 1 8))else none
 | _=>none
def XH:∀ b d,b.length=1->yp b=some d->wz b=some d:=by
 intro b d c h
 obtain⟨a,rfl⟩:=zqy c
 have e:wz [a]=zE [a,.int 1,.int 8]:=by
  cases f:zE [a,.int 1,.int 8] <;> simp[wz,Yy,fnD,zy,zO,Zq,sIf,yx,YH,sNo,zF,zc3,vH,Xe,zba,Xa,vEv,visF,visG,Sl.f,Sl.g,zb,eC,zd,Y7,eOr,zbe,eIf,eUn,Wg,yq,yc,zS,za,ze,zh,eFn,fFn,tOf,wd,vI,zZ,asB,asI,ym,wm,xM,xm,wn,VJ,vd,ltD,leD,gtD,geD,V2,zY,xu,yH,xf,Wa,zV,ixD,vF,yK,isT,eSl,wW,x0,xQ,xL,iOf,Zd,xb,vT,xD,XA,yF,Yb,fLC,zN,yo,Zu,z9,Wd,xt,Wn,b1,b2,f]
 rw[e]
 exact h
def vL (T:Txt P w K mg base ad):T.Pr 3 3 1 yp:=by
 letI:KK:=⟨K⟩
 have:=yZ T
 refine Yr ?_ XH
 walk_at "q"
abbrev zaq :=zO (zh 3 zE (za (zb 1) (za (eC (.int 0)) (za (zd wm (zb 0) (eC (.int 1))) ze))))
def XG:=fnD 2 zaq
def yj:YF
 | [.int m,d]=>if noS d=true then some (.bl (yC d 0 (m-1)))else none
 | _=>none
def zdZ:∀ c d,c.length=2->yj c=some d->XG c=some d:=by
 intro c d f h
 obtain⟨a,b,rfl⟩:=zks f
 cases a <;> try cases h
 rename_i m
 have e:XG [.int m,b]=zE [b,.int 0,.int (m-1)]:=by
  cases g:zE [b,.int 0,.int (m-1)] <;> simp[XG,zaq,fnD,zy,zO,Zq,sIf,yx,YH,sNo,zF,zc3,vH,Xe,zba,Xa,vEv,visF,visG,Sl.f,Sl.g,zb,eC,zd,Y7,eOr,zbe,eIf,eUn,Wg,yq,yc,zS,za,ze,zh,eFn,fFn,tOf,wd,vI,zZ,asB,asI,ym,wm,xM,xm,wn,VJ,vd,ltD,leD,gtD,geD,V2,zY,xu,yH,xf,Wa,zV,ixD,vF,yK,isT,eSl,wW,x0,xQ,xL,iOf,Zd,xb,vT,xD,XA,yF,Yb,fLC,zN,yo,Zu,z9,Wd,xt,Wn,b1,b2,g]
 rw[e]
 exact h
def Yg (T:Txt P w K mg base ad):T.Pr 4 3 2 yj:=by
 letI:KK:=⟨K⟩
 have:=yZ T
 refine Yr ?_ zdZ
 walk_at "q"
def WL {m:Int}:yC (.int i) 0 (m-1)=inR m i:=rfl
def zm3 (h:∀ i,d≠.int i):yC d a b=false:=by
 cases d <;> first | rfl | exact absurd rfl (h _)
def zb2 (h:yC d a b=true):∃ i,d=.int i:=by
 cases d with
 | int i=>exact⟨i,rfl⟩
 | _=>cases h
abbrev zbY :=zy (sIf (vI (zZ (tOf (eUn (yK .tuple) (zb 1)))) (tOf (zd neD (eFn vF (za (zb 1) ze)) (eC (.int 2))))) (zO (eC (.bl false))) zF)
  (zO (Y7 (zh 2 yj (za (zb 0) (za (zd ixD (zb 1) (eC (.int 0))) ze))) (Y7 (zh 2 yj (za (zb 0) (za (zd ixD (zb 1) (eC (.int 1))) ze))) (zd neD (zd ixD (zb 1) (eC (.int 0))) (zd ixD (zb 1) (eC (.int 1)))))))
def zhJ:=fnD 2 zbY
def y8:YF
 | [.int m,d]=>if noS d=true then some (.bl (wx m d))else none
 | _=>none
def zkK {m:Int}(h:yC x 0 (m-1)=false):wx m (.tup [x,y])=false:=by
 cases x with
 | int i =>
  cases y with
  | int j =>
   show(inR m i&&inR m j&&!decide (i=j))=false
   rw[show inR m i=false from h]
   rfl
  | _=>rfl
 | _=>rfl
def zkg {m:Int}(h:yC y 0 (m-1)=false):wx m (.tup [x,y])=false:=by
 cases x with
 | int i =>
  cases y with
  | int j =>
   show(inR m i&&inR m j&&!decide (i=j))=false
   rw[show inR m j=false from h,u1n]
   rfl
  | _=>rfl
 | _=>rfl
def zfM:∀ g d,g.length=2->y8 g=some d->zhJ g=some d:=by
 intro g d f h
 obtain⟨a,b,rfl⟩:=zks f
 cases a <;> try cases h
 rename_i m
 obtain⟨n,rfl⟩:=ifS h
 clear h
 cases b with
 | tup k =>
  refine YE (ρ:=[.v (.int m),.v (.tup k)]) rfl ?_
  unfold zbY
  by_cases f:k.length=2
  .obtain⟨x,y,rfl⟩:=zks f
   have v:noS x=true:=Zp (ds:=[x,y]) (i:=0) n rfl
   have s:noS y=true:=Zp (ds:=[x,y]) (i:=1) n rfl
   have u:yj [.int m,x]=some (.bl (yC x 0 (m-1))):=by
    show(if noS x=true then some (D.bl (yC x 0 (m-1)))else none)=_
    rw[u9 v]
   have r:yj [.int m,y]=some (.bl (yC y 0 (m-1))):=by
    show(if noS y=true then some (D.bl (yC y 0 (m-1)))else none)=_
    rw[u9 s]
   refine zo (ρ':=[.v (.int m),.v (.tup [x,y])]) rfl (wC (xc ?_) rfl)
   show(((yj [.int m,x]).bind asB).bind λc=>if c=true then (((yj [.int m,y]).bind asB).bind λc=>if c=true then neD x y else some (D.bl false))else some (D.bl false))=_
   rw[u,r]
   cases p:yC x 0 (m-1) with
   | false=>rw[zkK p];rfl
   | true =>
    cases l:yC y 0 (m-1) with
    | false=>rw[zkg l];rfl
    | true =>
     obtain⟨i,rfl⟩:=zb2 p
     obtain⟨j,rfl⟩:=zb2 l
     show some (D.bl (!decide (i=j)))=some (.bl (inR m i&&inR m j&&!decide (i=j)))
     rw[show inR m i=true from p,show inR m j=true from l]
     rfl
  .have e:wx m (.tup k)=false:=by
    unfold wx Zw
    split
    .rename_i t q
     split at q
     .rename_i o
      injection o with o
      rw[o]at f
      exact absurd rfl f
     .cases q
    .rfl
   rw[e]
   refine yn (ZB (c:=true) ?_ (λ_=>wC rfl rfl) λz=>by cases z)
   show some (!decide ((k.length:Int)=2))=_
   rw[j8 (show ¬ (k.length:Int)=2 from λh=>f (Int.ofNat.inj h))]
   rfl
 | scr _=>cases n
 | _=>rfl
def zau (T:Txt P w K mg base ad):T.Pr 6 4 2 y8:=by
 letI:KK:=⟨K⟩
 have:=Yg T
 refine Yr ?_ zfM
 walk_at "p"
def zc0 (ds:zk):Nat->Option Tie
 | 0=>none
 | k+1=>(ds[k]?).bind Zw
abbrev X1 :=zy (sIf (vI (zZ (tOf (zh 2 y8 (za (zb 0) (za (zb 3) ze))))) (tOf (zd gtD (zd ixD (zb 3) (eC (.int 0))) (zd ixD (zb 3) (eC (.int 1)))))) (zO (eC (.bl false))) zF)
  (sIf (wd (tOf (zd gtD (zb 2) (eC (.int 0)))) (tOf (zd leT (zb 3) (zd ixD (zb 1) (zd wm (zb 2) (eC (.int 1))))))) (zO (eC (.bl false))) zF)
abbrev Xz :=zy (sIf (zZ (tOf (eUn (yK .tuple) (zb 1)))) (zO (eC (.bl false))) zF)
  (zy (Zd (yF (za (zb 1) ze)) (Wd 2 (xt (z9 2) (xt (z9 3) Wn))) X1)
  (zO (eC (.bl true))))
def zfu:=fnD 4 Xz
def vK:YF
 | [.int m,d]=>if noS d=true then some (.bl (Zl m d))else none
 | _=>none
def VT (h:wx m d=true):∃ t,d=zi t:=by
 unfold wx at h
 split at h
 .rename_i t a
  exact⟨t,W3 a⟩
 .cases h
def zdE:∀ x d,x.length=2->vK x=some d->zfu x=some d:=by
 intro x d J h
 obtain⟨a,b,rfl⟩:=zks J
 cases a <;> try cases h
 rename_i m
 obtain⟨G,rfl⟩:=ifS h
 clear h J
 cases b with
 | scr _=>cases G
 | tup f =>
  refine YE (g:=Xz) rfl ?_
  unfold Xz
  refine zo rfl ?_
  refine yn (ZN (ds:=ZR 0 f) (λi ρ=>∃ B F,ρ=[.v (.int m),.v (.tup f),B,F]/\yO m none f=yO m (zc0 f i) (f.drop i)/\∀ k,i=k+1->∃ p,f[k]?=some (zi p)) rfl
   ⟨.no,.no,rfl,rfl,λk e=>by cases e⟩ ?_ ?_)
  .rintro i d ρ I ⟨B,F,rfl,A,H⟩
   rw[vP]at I
   obtain⟨r,q,rfl⟩:=u7.mp I
   rw[g8]
   refine⟨_,rfl,?_⟩
   have o:f.drop i=r::f.drop (i+1):=by
    obtain⟨M,K⟩:=t5.mp q
    rw[u0B M,K]
   have u:noS r=true:=Zp G q
   unfold X1
   cases l:wx m r with
   | false =>
    have C:y8 [.int m,r]=some (.bl false):=by
     show(if noS r=true then some (D.bl (wx m r))else none)=_
     rw[u9 u,l]
    refine yn (ZB (c:=true) (show(((y8 [.int m,r]).bind asB).map (!·)).bind (λc=>if c=true then some true else _)=_ by rw[C];rfl) (λ_=>wC rfl ?_) (λz=>by cases z))
    have e:yO m none f=false:=by
     rw[A,o]
     unfold yO
     split
     .rw[l];rfl
     .rfl
    show D.bl false=.bl (yO m none f)
    rw[e]
   | true =>
    obtain⟨t,rfl⟩:=VT l
    have C:y8 [.int m,zi t]=some (.bl true):=by
     show(if noS (zi t)=true then some (D.bl (wx m (zi t)))else none)=_
     rw[u9 u,l]
    have step:yO m none f=(!decide (t.2<t.1)&&zcT (zc0 f i) t&&yO m (some t) (f.drop (i+1))):=by
     rw[A,o]
     conv=>lhs;unfold yO
     rw[YY,l]
     rfl
    have n:zc0 f (i+1)=some t:=by
     show(f[i]?).bind Zw=some t
     rw[q]
     rfl
    refine yn (ZB (c:=decide (t.2<t.1)) (show(((y8 [.int m,zi t]).bind asB).map (!·)).bind (λc=>if c=true then some true else some (decide (t.2<t.1)))=_ by rw[C];rfl) (λc=>wC rfl ?_) (λc=>w3 rfl ?_))
    .show D.bl false=.bl (yO m none f)
     rw[step,c]
     rfl
    .cases i with
     | zero =>
      refine ZB (c:=false) rfl (λz=>by cases z) (λ_=>w3 rfl ?_)
      refine⟨_,_,rfl,?_,λk e=>?_⟩
      .rw[n,step,c]
       rfl
      .cases e
       exact⟨t,q⟩
     | succ j =>
      obtain⟨p,w⟩:=H j rfl
      have s:zc0 f (j+1)=some p:=by
       show(f[j]?).bind Zw=some p
       rw[w]
       rfl
      rw[s]at step
      have L:atI f ((((j+1:Nat):Int))-1)=some (zi p):=by
       rw[show(((j+1:Nat):Int))-1=(j:Nat)from Int.add_sub_cancel (j:Int) 1]
       exact zgp w
      have v:zcT (some p) t=!leP t p:=rfl
      refine ZB (c:=leP t p) ?_ (λE=>wC rfl ?_) (λE=>w3 rfl ?_)
      .have z:decide ((0:Int)<((j+1:Nat):Int))=true:=j0 (Int.natCast_pos.mpr (Nat.succ_pos j))
       show((some (decide ((0:Int)<((j+1:Nat):Int)))).bind λc=>if c=true then (((atI f (((j+1:Nat):Int)-1)).bind λy=>leT (zi t) y).bind asB)else some false)=_
       rw[z,L]
       rfl
      .show D.bl false=.bl (yO m none f)
       rw[step,v,E,c]
       rfl
      .refine⟨_,_,rfl,?_,λN e=>?_⟩
       .rw[n,step,v,E,c]
        rfl
       .cases e
        exact⟨t,q⟩
  .rintro ρ ⟨B,F,rfl,A,H⟩
   refine wC rfl ?_
   show D.bl true=.bl (yO m none f)
   rw[A,xG,u2i]
   cases zc0 f f.length <;> rfl
 | _=>rfl
def zdm (T:Txt P w K mg base ad):T.Pr 7 5 2 vK:=by
 letI:KK:=⟨K⟩
 have:=zau T
 refine Yr ?_ zdE
 walk_at "p"
abbrev WH :=zy (sIf (vI (zZ (tOf (eUn (yK .tuple) (zb 0)))) (tOf (zd neD (eFn vF (za (zb 0) ze)) (eC (.int 2))))) (zO (eC (.bl false))) zF)
  (zO (Y7 (zh 1 yp (za (zd ixD (zb 0) (eC (.int 0))) ze)) (zh 2 vK (za (zd ixD (zb 0) (eC (.int 0))) (za (zd ixD (zb 0) (eC (.int 1))) ze)))))
def WE:=fnD 1 WH
def Xw:YF
 | [d]=>if noS d=true then some (.bl (w6 d))else none
 | _=>none
def zjc:w6 (.tup [x,y])=(yC x 1 8&&match x with | .int m=>Zl m y | _=>false):=by
 cases x <;> rfl
def zge:∀ c d,c.length=1->Xw c=some d->WE c=some d:=by
 intro c d b h
 obtain⟨a,rfl⟩:=zqy b
 obtain⟨g,rfl⟩:=ifS h
 clear h b
 cases a with
 | scr _=>cases g
 | tup k =>
  by_cases b:k.length=2
  .obtain⟨x,y,rfl⟩:=zks b
   have s:noS x=true:=Zp (ds:=[x,y]) (i:=0) g rfl
   have r:noS y=true:=Zp (ds:=[x,y]) (i:=1) g rfl
   have f:yp [x]=some (.bl (yC x 1 8)):=by simp[yp,s]
   rw[zjc]
   by_cases l:∃ i,x=.int i
   .obtain⟨i,rfl⟩:=l
    have p:vK [.int i,y]=some (.bl (Zl i y)):=by simp[vK,r]
    cases o:yC (.int i) 1 8 <;> rw[o]at f <;> simp[WE,WH,fnD,zy,zO,Zq,sIf,yx,YH,sNo,zF,zc3,vH,Xe,zba,Xa,vEv,visF,visG,Sl.f,Sl.g,zb,eC,zd,Y7,eOr,zbe,eIf,eUn,Wg,yq,yc,zS,za,ze,zh,eFn,fFn,tOf,wd,vI,zZ,asB,asI,ym,wm,xM,xm,wn,VJ,vd,ltD,leD,gtD,geD,V2,zY,xu,yH,xf,Wa,zV,ixD,vF,yK,isT,eSl,wW,x0,xQ,xL,iOf,Zd,xb,vT,xD,XA,yF,Yb,fLC,zN,yo,Zu,z9,Wd,xt,Wn,b1,b2,f,p,atI,ixN]
   .have t:yC x 1 8=false:=zm3 λj q=>l ⟨j,q⟩
    rw[t]at f ⊢
    simp[WE,WH,fnD,zy,zO,Zq,sIf,yx,YH,sNo,zF,zc3,vH,Xe,zba,Xa,vEv,visF,visG,Sl.f,Sl.g,zb,eC,zd,Y7,eOr,zbe,eIf,eUn,Wg,yq,yc,zS,za,ze,zh,eFn,fFn,tOf,wd,vI,zZ,asB,asI,ym,wm,xM,xm,wn,VJ,vd,ltD,leD,gtD,geD,V2,zY,xu,yH,xf,Wa,zV,ixD,vF,yK,isT,eSl,wW,x0,xQ,xL,iOf,Zd,xb,vT,xD,XA,yF,Yb,fLC,zN,yo,Zu,z9,Wd,xt,Wn,b1,b2,f,atI,ixN]
  .have e:w6 (.tup k)=false:=zmN λm n h _=>by
    unfold zm at h
    injection h with h
    rw[h]at b
    exact b rfl
   rw[e]
   have:¬ (k.length:Int)=2:=by omega
   simp[WE,WH,fnD,zy,zO,Zq,sIf,yx,YH,sNo,zF,zc3,vH,Xe,zba,Xa,vEv,visF,visG,Sl.f,Sl.g,zb,eC,zd,Y7,eOr,zbe,eIf,eUn,Wg,yq,yc,zS,za,ze,zh,eFn,fFn,tOf,wd,vI,zZ,asB,asI,ym,wm,xM,xm,wn,VJ,vd,ltD,leD,gtD,geD,V2,zY,xu,yH,xf,Wa,zV,ixD,vF,yK,isT,eSl,wW,x0,xQ,xL,iOf,Zd,xb,vT,xD,XA,yF,Yb,fLC,zN,yo,Zu,z9,Wd,xt,Wn,b1,b2,this]
 | _=>rfl
def zie (T:Txt P w K mg base ad):T.Pr 8 6 1 Xw:=by
 letI:KK:=⟨K⟩
 have:=vL T
 have:=zdm T
 refine Yr ?_ zge
 walk_at "p"
def znc (m:Int)(a:zv):noS (zm m a)=true:=by
 have:∀ a:zv,zlK (a.map zi)=true:=by
  intro a
  induction a with
  | nil=>rfl
  | cons t a b=>show(noS (zi t)&&zlK (a.map zi))=true;rw[b];rfl
 show(noS (.int m)&&(noS (.tup (a.map zi))&&true))=true
 rw[show noS (.tup (a.map zi))=zlK (a.map zi)from rfl,this a]
 rfl
abbrev Z0 :=sIf (zZ (tOf (zh 1 Xw (za (zb 0) ze)))) sNo zF
def Xq:=fnD 1 Z0
def zK:YF
 | [d]=>if w6 d=true then some .non else none
 | _=>none
def VN:∀ b d,b.length=1->zK b=some d->Xq b=some d:=by
 intro b d f h
 obtain⟨a,rfl⟩:=zqy f
 obtain⟨hw,rfl⟩:=ifS h
 obtain⟨m,c,rfl,_⟩:=(xj a).mp hw
 have e:Xw [zm m c]=some (.bl true):=by simp[Xw,znc m c,hw]
 simp[Xq,Z0,fnD,zy,zO,Zq,sIf,yx,YH,sNo,zF,zc3,vH,Xe,zba,Xa,vEv,visF,visG,Sl.f,Sl.g,zb,eC,zd,Y7,eOr,zbe,eIf,eUn,Wg,yq,yc,zS,za,ze,zh,eFn,fFn,tOf,wd,vI,zZ,asB,asI,ym,wm,xM,xm,wn,VJ,vd,ltD,leD,gtD,geD,V2,zY,xu,yH,xf,Wa,zV,ixD,vF,yK,isT,eSl,wW,x0,xQ,xL,iOf,Zd,xb,vT,xD,XA,yF,Yb,fLC,zN,yo,Zu,z9,Wd,xt,Wn,b1,b2,e]
def xw (T:Txt P w K mg base ad):T.Pr 9 7 1 zK:=by
 letI:KK:=⟨K⟩
 have:=zie T
 refine Yr ?_ VN
 walk_at "q"
def zmT:D->Bool
 | .int i=>decide (0<=i)
 | _=>false
def zqa (m:Int):D->Bool
 | .tup a=>decide ((a.length:Int)=m)&&a.all zmT
 | _=>false
def wN {m:Int}(h:zG m a):xD [.int m]=some (X6 0 m.toNat):=by
 have:=h.lo
 have:=h.hi
 show(if zji m=true then some (X6 0 m.toNat)else none)=_
 rw[u9 (yu.mpr ⟨by omega,by omega⟩)]
def zno:D->Int
 | .tup [.int m,_]=>m
 | _=>0
def znj:D->zv
 | .tup [_,.tup l]=>(VF l).getD []
 | _=>[]
def WN (m:Int)(a:zv):zno (zm m a)=m:=rfl
def zhN (a:zv):a.map zi=a.map prD:=rfl
def Vn (m:Int)(a:zv):znj (zm m a)=a:=by
 show(VF (a.map zi)).getD []=a
 rw[zhN,W6]
 rfl
def ZU (a b:Int):Tie:=(if b<a then b else a,if b>a then b else a)
abbrev YL :=sIf (zZ (tOf (zh 2 yj (za (zd ixD (zb 0) (eC (.int 0))) (za (zb 1) ze))))) sNo zF
def YZ:=fnD 2 YL
def zR:YF
 | [.tup [.int m,_],.int p]=>if (decide (0<=p)&&decide (p<=m-1))=true then some .non else none
 | _=>none
def Wo:∀ f d,f.length=2->zR f=some d->YZ f=some d:=by
 intro f d g h
 obtain⟨a,b,rfl⟩:=zks g
 unfold zR at h
 split at h
 .rename_i m t c e
  injection e with e1 e2
  injection e2 with e2 _
  subst e1 e2
  obtain⟨i,rfl⟩:=ifS h
  have j:yj [.int m,.int c]=some (.bl true):=by
   show(if noS (.int c)=true then some (D.bl (yC (.int c) 0 (m-1)))else none)=_
   rw[u9 (show noS (.int c)=true from rfl),WL]
   unfold inR
   rw[i]
  simp[YZ,YL,fnD,zy,zO,Zq,sIf,yx,YH,sNo,zF,zc3,vH,Xe,zba,Xa,vEv,visF,visG,Sl.f,Sl.g,zb,eC,zd,Y7,eOr,zbe,eIf,eUn,Wg,yq,yc,zS,za,ze,zh,eFn,fFn,tOf,wd,vI,zZ,asB,asI,ym,wm,xM,xm,wn,VJ,vd,ltD,leD,gtD,geD,V2,zY,xu,yH,xf,Wa,zV,ixD,vF,yK,isT,eSl,wW,x0,xQ,xL,iOf,Zd,xb,vT,xD,XA,yF,Yb,fLC,zN,yo,Zu,z9,Wd,xt,Wn,b1,b2,j,atI,ixN]
 .cases h
def yR (T:Txt P w K mg base ad):T.Pr 10 4 2 zR:=by
 letI:KK:=⟨K⟩
 have:=Yg T
 refine Yr ?_ Wo
 walk_at "q"
def Zn {m:Int}{p:Int}(a:0<=p/\p<m):zR [zm m ts,.int p]=some .non:=by
 show(if (decide (0<=p)&&decide (p<=m-1))=true then some D.non else none)=_
 rw[j0 a.1,j0 (by omega)]
 rfl
abbrev zaN :=zO (yq (za (eFn zkx (za (zb 0) (za (zb 1) ze))) (za (eFn zfm (za (zb 0) (za (zb 1) ze))) ze)))
def zaM:=fnD 2 zaN
def yg:YF
 | [.int a,.int b]=>some (zi (ZU a b))
 | _=>none
def V5:∀ c d,c.length=2->yg c=some d->zaM c=some d:=by
 intro c d e h
 obtain⟨a,b,rfl⟩:=zks e
 cases a <;> try cases h
 cases b <;> try cases h
 rfl
def ZA (T:Txt P w K mg base ad):T.Pr 11 1 2 yg:=by
 letI:KK:=⟨K⟩
 refine Yr ?_ V5
 walk_at "q"
def zhn (a:zv):(a.map zi).all (okE 20)=true:=by
 rw[u1w,f9]
 exact λt _=>rfl
def zeG (s t:Tie):eqN 20 (zi s) (zi t)=decide (s=t):=by
 have:eqN 20 (zi s) (zi t)=((s.1 == t.1)&&((s.2 == t.2)&&true)&&true):=rfl
 rw[this,u2t,u2t]
 by_cases h:s=t
 .subst h
  simp
 .rw[j8 h,Bool.and_eq_false_iff]
  by_cases a:s.1=t.1
  .exact .inr (u0A.mpr λb=>h (u2v a b))
  .exact .inl (u0A.mpr a)
def zeI (t:Tie)(a:zv):inD (zi t) (.tup (a.map zi))=some (.bl (decide (t∈a))):=by
 show(zog (zi t) (a.map zi)).map D.bl=_
 unfold zog
 rw[u9 ⟨rfl,zhn a⟩]
 show some (D.bl ((a.map zi).any λe=>eqN 20 e (zi t)))=_
 rw[List.any_map]
 congr 2
 rw[u08,List.any_eq_true,j3]
 constructor
 .rintro⟨s,b,h⟩
  have h:eqN 20 (zi s) (zi t)=true:=h
  rw[zeG,j3]at h
  subst h
  exact b
 .exact λh=>⟨t,h,by show eqN 20 (zi t) (zi t)=true;rw[zeG];exact j0 rfl⟩
def nbN (m:Int)(a:zv)(p:Int):zC:=(List.range m.toNat).filter λk:Nat=>decide (ZU p k∈a)
def zM (k:Nat):D:=.int ((0:Int)+(k:Int))
abbrev X9 :=zO (yc (fLC (vT xD (za (zd ixD (zb 0) (eC (.int 0))) ze)) b1 (tOf (zd inD (zh 2 yg (za (zb 2) (za (zb 0) ze))) (zd ixD (zb 1) (eC (.int 1))))) (zb 0)))
def zcO:=fnD 2 X9
def yi:YF
 | [w,.int p]=>if w6 w=true then some (.lst ((nbN (zno w) (znj w) p).map zM))else none
 | _=>none
def zbd:∀ g d,g.length=2->yi g=some d->zcO g=some d:=by
 intro g d i h
 obtain⟨a,b,rfl⟩:=zks i
 cases b <;> try cases h
 rename_i p
 obtain⟨hw,rfl⟩:=ifS h
 obtain⟨m,f,rfl,ok⟩:=(xj a).mp hw
 rw[WN,Vn]
 refine YE rfl ?_
 unfold X9
 refine wC (d:=.lst ((nbN m f p).map zM)) ?_ rfl
 have e:fLC (vT xD (za (zd ixD (zb 0) (eC (.int 0))) ze)) b1 (tOf (zd inD (zh 2 yg (za (zb 2) (za (zb 0) ze))) (zd ixD (zb 1) (eC (.int 1))))) (zb 0) [some (zm m f),some (.int p)]=some ((nbN m f p).map zM):=by
  unfold fLC
  show((xD [.int m]).bind λg=>if lim g.length=true then _ else none)=_
  rw[wN ok]
  show(if lim (X6 0 m.toNat).length=true then _ else none)=_
  rw[u9 (yN (by rw[Yq];have:=ok.hi;omega))]
  refine xg (c:=zM) (p:=λk=>decide (ZU p k∈f)) (y:=zM) (List.range m.toNat) λk j=>⟨[some (zM k)],rfl,?_,λ_=>rfl⟩
  show((inD (zi (ZU p (0+(k:Int)))) (.tup (f.map zi))).bind asB)=_
  rw[u0r,zeI]
  rfl
 show(match ((fLC (vT xD (za (zd ixD (zb 0) (eC (.int 0))) ze)) b1 (tOf (zd inD (zh 2 yg (za (zb 2) (za (zb 0) ze))) (zd ixD (zb 1) (eC (.int 1))))) (zb 0) [some (zm m f),some (.int p)]).map D.lst)with | some d=>Ctl.rt d | none=>Ctl.no)=_
 rw[e]
 rfl
def Z7 (T:Txt P w K mg base ad):T.Pr 12 2 2 yi:=by
 letI:KK:=⟨K⟩
 have:=ZA T
 refine Yr ?_ zbd
 walk_at "q"
def zi6 (m:Int)(a:zv)(i:Nat):zv:=(List.range i).flatMap λk:Nat=>(nbN m a k).map λo:Nat=>((0:Int)+(k:Int),(0:Int)+(o:Int))
def zlu (m:Int)(a:zv):zv:=zi6 m a m.toNat
def zf6 (h:zG m a):(nbN m a p).length<=8:=by
 refine o5 (u1a _ _) ?_
 rw[k8]
 have:=h.hi
 omega
def vAt (ns:zc)(i:Int):Int:=ns.getD i.toNat 0
def WI {ns:zc}{i:Int}(b:0<=i)(c:i<ns.length):atI (ns.map D.int) i=some (.int (vAt ns i)):=by
 unfold vAt
 obtain⟨k,a⟩:∃ k:Nat,i=k:=⟨i.toNat,by omega⟩
 subst a
 refine zgp ?_
 rw[u1e,q0,u8 (by omega),j9,u8 (by omega)]
 rfl
def zbG {ns:zc}{i m:Int}(h:0<=i/\i<m)(a:(ns.length:Int)=m):atI (ns.map D.int) i=some (.int (vAt ns i)):=WI h.1 (by omega)
def znY:s∈zlu m c↔(0<=s.1/\s.1<m)/\(0<=s.2/\s.2<m)/\ZU s.1 s.2∈c:=by
 unfold zlu zi6 nbN
 rw[u0f]
 constructor
 .rintro⟨k,b,h⟩
  obtain⟨o,a,rfl⟩:=p0.mp h
  rw[o6,j6,j3]at a
  rw[j6]at b
  simp only[u0r]
  exact⟨⟨by(clear h a b;omega),by(clear h a;omega)⟩,⟨by(clear h a b;omega),by omega⟩,a.2⟩
 .rintro⟨⟨e,d⟩,⟨b1,b2⟩,h⟩
  refine⟨s.1.toNat,j6.mpr (by(clear b2 b1 h;omega)),p0.mpr ⟨s.2.toNat,?_,?_⟩⟩
  .rw[o6,j6,j3]
   refine⟨by omega,?_⟩
   rw[show((s.1.toNat:Nat):Int)=s.1 by(clear b2 b1 h d;omega),show((s.2.toNat:Nat):Int)=s.2 by omega]
   exact h
  .exact u2v (by show(0:Int)+(s.1.toNat:Int)=s.1;(clear b2 b1 h d;omega)) (by show(0:Int)+(s.2.toNat:Int)=s.2;omega)
end
def zkR {m:Nat}{g:zT}{ds:zk}{R:D->Prop}(e:ds.map .v++List.replicate (m-ds.length) .no=ρ)(q:(g ρ).w (λ_=>R .non) noP noP R):∃ d,fnD m g ds=some d/\R d:=by
 unfold fnD
 rw[e]
 cases a:g ρ with
 | nx b=>rw[a]at q;exact⟨_,rfl,q.nxi⟩
 | rt c=>rw[a]at q;exact⟨_,rfl,q.rti⟩
 | bk _=>rw[a]at q;exact q.bki.elim
 | ct _=>rw[a]at q;exact q.cti.elim
 | no=>rw[a]at q;exact q.noi.elim
section
variable {P:zH}{w:World}{K:zz}{mg:w1}{base:Heap}{ad:Adr}
abbrev Vb :=zy (yx false 2 (zd wn (zd xM (zd y3 (zd y3 (zd wn (zb 0) (eC (.int 2147483647))) (zd xM (eC (.int 977)) (zb 1))) (eC (.int 1))) (eC (.int 48271))) (eC (.int 2147483647))))
  (zy (yx false 2 (zd wn (zd xM (zb 2) (zb 2)) (eC (.int 2147483629))))
  (zy (yx false 2 (zd wn (zd xM (zd y3 (zb 2) (zd xM (eC (.int 40692)) (zd y3 (zb 1) (eC (.int 3))))) (eC (.int 69621))) (eC (.int 2147483647))))
  (zO (zd xm (zb 2) (eC (.int 8))))))
def zdw:=fnD 3 Vb
def yD:YF
 | [.int c,.int k]=>some (.int (zdf c k))
 | _=>none
def zdk {i:Int}(b:-(2^64)<i)(a:i<2^64):Xy i j=true:=j0 (.inl ⟨b,a⟩)
def zdQ {j:Int}(b:-(2^64)<j)(a:j<2^64):Xy i j=true:=j0 (.inr ⟨b,a⟩)
def XD (h:Xy i j=true):xM (.int i) (.int j)=some (.int (i*j)):=by
 show(if Xy i j=true then _ else none)=_
 rw[u9 h]
def wc {j:Int}(h:0<j):wn (.int i) (.int j)=some (.int (i%j)):=by
 show(if decide (0<j)=true then _ else none)=_
 rw[u9 (j0 h)]
def WC {j:Int}(h:0<j)(a:j<1606938044258990275541962092341162602522202993782792835301376):xm (.int i) (.int j)=some (.int (i/j)):=by
 show(if decide (0<j/\j<1606938044258990275541962092341162602522202993782792835301376)=true then _ else none)=_
 rw[u9 (j0 ⟨h,a⟩)]
def zca:∀ e d,e.length=2->yD e=some d->zdw e=some d:=by
 intro e d p h
 obtain⟨a,b,rfl⟩:=zks p
 cases a <;> try cases h
 cases b <;> try cases h
 rename_i c k
 have m:=Int.emod_nonneg ((c%2147483647+977*k+1)*48271) (show(2147483647:Int)≠0 by decide)
 have i:=Int.emod_lt_of_pos ((c%2147483647+977*k+1)*48271) (show(0:Int)<2147483647 by decide)
 have r:Xy 977 k=true:=zdk (by decide) (by decide)
 have q:Xy (c%2147483647+977*k+1) 48271=true:=zdQ (by decide) (by decide)
 obtain⟨x,g⟩:∃ x,(c%2147483647+977*k+1)*48271%2147483647=x:=⟨_,rfl⟩
 rw[g]at m i
 have o:Xy x x=true:=zdk (u2P (by decide) m) (Int.lt_trans i (by decide))
 have n:Xy 40692 (k+3)=true:=zdk (by decide) (by decide)
 have s:∀ x,Xy x 69621=true:=λx=>zdQ (by decide) (by decide)
 obtain⟨y,j⟩:∃ y,x*x%2147483629=y:=⟨_,rfl⟩
 obtain⟨z,l⟩:∃ z,(y+40692*(k+3))*69621%2147483647=z:=⟨_,rfl⟩
 have f:zdf c k=z/8:=by
  show((((c%2147483647+977*k+1)*48271%2147483647)*((c%2147483647+977*k+1)*48271%2147483647)%2147483629+40692*(k+3))*69621%2147483647/8)=_
  rw[g,j,l]
 rw[f]
 refine YE (ρ:=[.v (.int c),.v (.int k),.no]) rfl ?_
 unfold Vb
 refine zo (ρ':=[.v (.int c),.v (.int k),.v (.int x)]) (yW ?_) ?_
 .show(((((wn (.int c) (.int 2147483647)).bind λa=>(xM (.int 977) (.int k)).bind λb=>y3 a b).bind λa=>y3 a (.int 1)).bind λa=>xM a (.int 48271)).bind λa=>wn a (.int 2147483647))=_
  rw[wc (by decide),XD r]
  show((xM (.int (c%2147483647+977*k+1)) (.int 48271)).bind λa=>wn a (.int 2147483647))=_
  rw[XD q,<- g]
  exact wc (by decide)
 refine zo (ρ':=[.v (.int c),.v (.int k),.v (.int y)]) (yW ?_) ?_
 .show((xM (.int x) (.int x)).bind λa=>wn a (.int 2147483629))=_
  rw[XD o,<- j]
  exact wc (by decide)
 refine zo (ρ':=[.v (.int c),.v (.int k),.v (.int z)]) (yW ?_) ?_
 .show((((xM (.int 40692) (.int (k+3))).bind λb=>y3 (.int y) b).bind λa=>xM a (.int 69621)).bind λa=>wn a (.int 2147483647))=_
  rw[XD n]
  show((xM (.int (y+40692*(k+3))) (.int 69621)).bind λa=>wn a (.int 2147483647))=_
  rw[XD (s _),<- l]
  exact wc (by decide)
 exact wC (xc (show xm (.int z) (.int 8)=_ from WC (by decide) (by decide))) rfl
def X7 (T:Txt P w K mg base ad):T.Pr 50 1 2 yD:=by
 letI:KK:=⟨K⟩
 refine Yr ?_ zca
 walk_at "p"
def vQ {j:Int}(a:0<=j)(b:j<=1000000):xD [.int j]=some (X6 0 j.toNat):=by
 show(if zji j=true then some (X6 0 j.toNat)else none)=_
 rw[u9 (yu.mpr ⟨by omega,by omega⟩)]
def zfQ {ts:zv}(h:ts.length<64):YG [.lst (ts.map zi)]=some ((Xb ts).map zi):=by
 show(if (ts.map zi).length<64 then _ else none)=_
 rw[u9 (by rw[u4];exact h),show ts.map zi=ts.map prD from rfl,W6]
 rfl
abbrev wJ (r:YF) :=sIf (zZ (tOf (zh 2 r (za (zb 2) (za (zb 3) ze))))) (zO (eC (.bl false))) zF
abbrev yB (r:YF) :=zy (sIf (tOf (zd Wa (zb 1) (eC .non))) (zO (zd Wa (zb 0) (eC .non))) zF)
  (zy (sIf (tOf (eUn (yK .bool) (zb 1))) (zO (Y7 (eUn (yK .bool) (zb 0)) (zd vC (zb 0) (zb 1)))) zF)
  (zy (sIf (tOf (eUn (yK .int) (zb 1))) (zO (Y7 (eUn (yK .int) (zb 0)) (Y7 (zbe (eUn (yK .bool) (zb 0))) (zd vC (zb 0) (zb 1))))) zF)
  (zy (sIf (tOf (eUn (yK .str) (zb 1))) (zO (Y7 (eUn (yK .str) (zb 0)) (zd vC (zb 0) (zb 1)))) zF)
  (zy (sIf (vI (tOf (zd neD (eUn (yK .list) (zb 1)) (eUn (yK .list) (zb 0)))) (tOf (zd neD (eUn (yK .tuple) (zb 1)) (eUn (yK .tuple) (zb 0))))) (zO (eC (.bl false))) zF)
  (zy (sIf (tOf (zd neD (eFn vF (za (zb 0) ze)) (eFn vF (za (zb 1) ze)))) (zO (eC (.bl false))) zF)
  (zy (Zd (Yb (za (zb 0) (za (zb 1) ze))) (Wd 2 (xt (z9 2) (xt (z9 3) Wn))) (wJ r))
  (zO (eC (.bl true)))))))))
def zW:YF:=zp2 4 yB 6
def zbQ (a:zk):zb0 a a=a.map λd=>.tup [d,d]:=by
 induction a with
 | nil=>rfl
 | cons d a b=>show D.tup [d,d]::zb0 a a=_;rw[b];rfl
def zbW {r:YF}(o:∀ a,(d=.tup a\/d=.lst a)->∀ e∈a,r [e,e]=some (.bl true))(p:∀ l,d≠.scr l)(j:∀ z t m k,d≠.dct z t m k):fnD 4 (yB r) [d,d]=some (.bl true):=by
 cases d with
 | scr l=>exact absurd rfl (p l)
 | dct z t m k=>exact absurd rfl (j z t m k)
 | non=>rfl
 | bl b=>cases b <;> rfl
 | int i=>simp[yB,fnD,zy,zO,Zq,sIf,yx,YH,sNo,zF,zc3,vH,Xe,zba,Xa,vEv,visF,visG,Sl.f,Sl.g,zb,eC,zd,Y7,eOr,zbe,eIf,eUn,Wg,yq,yc,zS,za,ze,zh,eFn,fFn,tOf,wd,vI,zZ,asB,asI,ym,wm,xM,xm,wn,VJ,vd,ltD,leD,gtD,geD,V2,zY,xu,yH,xf,Wa,zV,ixD,vF,yK,isT,eSl,wW,x0,xQ,xL,iOf,Zd,xb,vT,xD,XA,yF,Yb,fLC,zN,yo,Zu,z9,Wd,xt,Wn,b1,b2]
 | str x=>simp[yB,fnD,zy,zO,Zq,sIf,yx,YH,sNo,zF,zc3,vH,Xe,zba,Xa,vEv,visF,visG,Sl.f,Sl.g,zb,eC,zd,Y7,eOr,zbe,eIf,eUn,Wg,yq,yc,zS,za,ze,zh,eFn,fFn,tOf,wd,vI,zZ,asB,asI,ym,wm,xM,xm,wn,VJ,vd,ltD,leD,gtD,geD,V2,zY,xu,yH,xf,Wa,zV,ixD,vF,yK,isT,eSl,wW,x0,xQ,xL,iOf,Zd,xb,vT,xD,XA,yF,Yb,fLC,zN,yo,Zu,z9,Wd,xt,Wn,b1,b2]
 | tup a =>
  refine YE (ρ:=[.v (.tup a),.v (.tup a),.no,.no]) rfl ?_
  unfold yB
  refine zo rfl (zo rfl (zo rfl (zo rfl (zo rfl (yn (ZB (c:=false) (by simp[fnD,zy,zO,Zq,sIf,yx,YH,sNo,zF,zc3,vH,Xe,zba,Xa,vEv,visF,visG,Sl.f,Sl.g,zb,eC,zd,Y7,eOr,zbe,eIf,eUn,Wg,yq,yc,zS,za,ze,zh,eFn,fFn,tOf,wd,vI,zZ,asB,asI,ym,wm,xM,xm,wn,VJ,vd,ltD,leD,gtD,geD,V2,zY,xu,yH,xf,Wa,zV,ixD,vF,yK,isT,eSl,wW,x0,xQ,xL,iOf,Zd,xb,vT,xD,XA,yF,Yb,fLC,zN,yo,Zu,z9,Wd,xt,Wn,b1,b2]) (λz=>by cases z) λ_=>w3 rfl ?_))))))
  refine yn (ZN (ds:=zb0 a a) (λi ρ=>∃ g h,ρ=[.v (.tup a),.v (.tup a),g,h]) (by simp[fnD,zy,zO,Zq,sIf,yx,YH,sNo,zF,zc3,vH,Xe,zba,Xa,vEv,visF,visG,Sl.f,Sl.g,zb,eC,zd,Y7,eOr,zbe,eIf,eUn,Wg,yq,yc,zS,za,ze,zh,eFn,fFn,tOf,wd,vI,zZ,asB,asI,ym,wm,xM,xm,wn,VJ,vd,ltD,leD,gtD,geD,V2,zY,xu,yH,xf,Wa,zV,ixD,vF,yK,isT,eSl,wW,x0,xQ,xL,iOf,Zd,xb,vT,xD,XA,yF,Yb,fLC,zN,yo,Zu,z9,Wd,xt,Wn,b1,b2]) ⟨_,_,rfl⟩ ?_ ?_)
  .rintro i d ρ j ⟨g,h,rfl⟩
   rw[zbQ,q0]at j
   obtain⟨e,n,rfl⟩:=u7.mp j
   have f:=o a (.inl rfl) e (j4 n)
   refine⟨_,rfl,?_⟩
   unfold wJ
   refine ZB (c:=false) (by simp[fnD,zy,zO,Zq,sIf,yx,YH,sNo,zF,zc3,vH,Xe,zba,Xa,vEv,visF,visG,Sl.f,Sl.g,zb,eC,zd,Y7,eOr,zbe,eIf,eUn,Wg,yq,yc,zS,za,ze,zh,eFn,fFn,tOf,wd,vI,zZ,asB,asI,ym,wm,xM,xm,wn,VJ,vd,ltD,leD,gtD,geD,V2,zY,xu,yH,xf,Wa,zV,ixD,vF,yK,isT,eSl,wW,x0,xQ,xL,iOf,Zd,xb,vT,xD,XA,yF,Yb,fLC,zN,yo,Zu,z9,Wd,xt,Wn,b1,b2,f]) (λz=>by cases z) λ_=>w3 rfl ⟨_,_,rfl⟩
  .rintro ρ ⟨g,h,rfl⟩
   exact wC rfl rfl
 | lst a =>
  refine YE (ρ:=[.v (.lst a),.v (.lst a),.no,.no]) rfl ?_
  unfold yB
  refine zo rfl (zo rfl (zo rfl (zo rfl (zo rfl (yn (ZB (c:=false) (by simp[fnD,zy,zO,Zq,sIf,yx,YH,sNo,zF,zc3,vH,Xe,zba,Xa,vEv,visF,visG,Sl.f,Sl.g,zb,eC,zd,Y7,eOr,zbe,eIf,eUn,Wg,yq,yc,zS,za,ze,zh,eFn,fFn,tOf,wd,vI,zZ,asB,asI,ym,wm,xM,xm,wn,VJ,vd,ltD,leD,gtD,geD,V2,zY,xu,yH,xf,Wa,zV,ixD,vF,yK,isT,eSl,wW,x0,xQ,xL,iOf,Zd,xb,vT,xD,XA,yF,Yb,fLC,zN,yo,Zu,z9,Wd,xt,Wn,b1,b2]) (λz=>by cases z) λ_=>w3 rfl ?_))))))
  refine yn (ZN (ds:=zb0 a a) (λi ρ=>∃ g h,ρ=[.v (.lst a),.v (.lst a),g,h]) (by simp[fnD,zy,zO,Zq,sIf,yx,YH,sNo,zF,zc3,vH,Xe,zba,Xa,vEv,visF,visG,Sl.f,Sl.g,zb,eC,zd,Y7,eOr,zbe,eIf,eUn,Wg,yq,yc,zS,za,ze,zh,eFn,fFn,tOf,wd,vI,zZ,asB,asI,ym,wm,xM,xm,wn,VJ,vd,ltD,leD,gtD,geD,V2,zY,xu,yH,xf,Wa,zV,ixD,vF,yK,isT,eSl,wW,x0,xQ,xL,iOf,Zd,xb,vT,xD,XA,yF,Yb,fLC,zN,yo,Zu,z9,Wd,xt,Wn,b1,b2]) ⟨_,_,rfl⟩ ?_ ?_)
  .rintro i d ρ j ⟨g,h,rfl⟩
   rw[zbQ,q0]at j
   obtain⟨e,n,rfl⟩:=u7.mp j
   have f:=o a (.inr rfl) e (j4 n)
   refine⟨_,rfl,?_⟩
   unfold wJ
   refine ZB (c:=false) (by simp[fnD,zy,zO,Zq,sIf,yx,YH,sNo,zF,zc3,vH,Xe,zba,Xa,vEv,visF,visG,Sl.f,Sl.g,zb,eC,zd,Y7,eOr,zbe,eIf,eUn,Wg,yq,yc,zS,za,ze,zh,eFn,fFn,tOf,wd,vI,zZ,asB,asI,ym,wm,xM,xm,wn,VJ,vd,ltD,leD,gtD,geD,V2,zY,xu,yH,xf,Wa,zV,ixD,vF,yK,isT,eSl,wW,x0,xQ,xL,iOf,Zd,xb,vT,xD,XA,yF,Yb,fLC,zN,yo,Zu,z9,Wd,xt,Wn,b1,b2,f]) (λz=>by cases z) λ_=>w3 rfl ⟨_,_,rfl⟩
  .rintro ρ ⟨g,h,rfl⟩
   exact wC rfl rfl
def zin:∀ (n:Nat) {d:D},okE n d=true->zp2 4 yB (n+1) [d,d]=some (.bl true):=by
 intro n
 induction n with
 | zero =>
  intro d h
  refine zbW (λf a=>?_) (λg e=>by subst e;cases h) (λ_ _ _ _ e=>by subst e;cases h)
  rcases a with rfl | rfl <;> cases h
 | succ n b =>
  intro d h
  refine zbW (λf a e c=>?_) (λg e=>by subst e;cases h) (λ_ _ _ _ e=>by subst e;cases h)
  rcases a with rfl | rfl
  .exact b (f9.mp h e c)
  .exact b (f9.mp h e c)
def zlL (h:okE 5 d=true):zW [d,d]=some (.bl true):=zin 5 h
def zcr (T:Txt P w K mg base ad):T.Pr 49 7 2 zW:=by
 letI:KK:=⟨K⟩
 have R:∀ n,vU P w K mg base CX0 (1+n) (ad.f 49) (ad.e 49) (Rw 49).ps (spD 2 (zp2 4 yB n)):=by
  refine zqe (P:=P) (w:=w) (mg:=mg) (base:=base) (k0:=1) (g:=yB) (T.d 49).fn (sc 49) λk r a b A outer s H E c=>?_
  unfold yB wJ
  have a:T.Pr 49 (1+k) 2 r:=a
  apply yG <;> walk_at "s"
 exact R 6
structure zf4 (m:Int) (ts:zv) (p:Int) (t:Nat) (fs:xi):Prop where
 len:fs.length=m.toNat
 sound:∀ v k,0<=v->v<m->oAt fs v=some k->∃ j:Nat,k=(j:Int)/\xr ts p j v
 full:∀ (j:Nat) v,j<=t->xr ts p j v->∃ j':Nat,j'<=j/\oAt fs v=some (j':Int)
def zf4.end {m:Int}{p:Int}{t:Nat}{f:xi}(ok:zG m c)(i:0<=p/\p<m)(h:zf4 m c p t f)(o:m.toNat<=t):f=vg m c p:=by
 refine zhZ (by rw[h.len,Yn]) λv d s=>?_
 have g:v<m:=by have:=h.len;omega
 rw[WB d g]
 rcases wO c p v with ⟨k,e,a⟩ | ⟨e,a⟩
 .have:=a.lt ok i
  obtain⟨j,q,b⟩:=h.full k v (by omega) a.1
  obtain⟨l,n,r⟩:=h.sound v _ d g b
  have:=a.2 _ r
  rw[e,b]
  congr 1
  omega
 .rw[e]
  cases b:oAt f v with
  | none=>rfl
  | some k =>
   obtain⟨j,_,r⟩:=h.sound v k d g b
   exact absurd r (a j)
def swT (t:Tie):Tie:=(t.2,t.1)
def zh0 (a:zv):zv:=a++a.map swT
def Vj {t:Tie}:t∈zh0 a↔adj a t.1 t.2:=by
 unfold zh0 adj
 rw[u0o,p0]
 constructor
 .rintro(h | ⟨s,b,rfl⟩)
  .exact .inl h
  .exact .inr b
 .rintro(h | h)
  .exact .inl h
  .exact .inr ⟨_,h,rfl⟩
def zf4.relax {p:Int}{t:Nat}{d:xi}{b:Int}(ok:zG m x)(H:0<=p/\p<m)(h:zf4 m x p t d)(w:adj x a b)(B:oAt d a=some u)(s:oAt d b=none\/∃ z,oAt d b=some z/\u+1<z) :
 zf4 m x p t (d.set b.toNat (some (u+1)))/\∀ v k,0<=v->oAt d v=some k->∃ l,l<=k/\oAt (d.set b.toNat (some (u+1))) v=some l:=by
 obtain⟨⟨C,A⟩,n,b1⟩:=w.rng ok
 have y:=h.len
 have f:∀ v k,0<=v->oAt d v=some k->∃ l,l<=k/\oAt (d.set b.toNat (some (u+1))) v=some l:=λv k g e=>by
  rw[wZ n (Ze n b1 y) g]
  by_cases c:v=b
  .subst c
   rw[u9 rfl]
   rcases s with s | ⟨z,s,J⟩
   .rw[s]at e;cases e
   .rw[s]at e;cases e
    exact⟨_,by omega,rfl⟩
  .rw[t9 c]
   exact⟨k,u0T _,e⟩
 refine⟨⟨by rw[u0L];exact y,λv k g D e=>?_,λj v G r=>?_⟩,f⟩
 .rw[wZ n (Ze n b1 y) g]at e
  by_cases c:v=b
  .subst c
   rw[u9 rfl]at e
   cases e
   obtain⟨j,rfl,r⟩:=h.sound a _ C A B
   exact⟨j+1,by omega,.step r w⟩
  .rw[t9 c]at e
   exact h.sound v k g D e
 .obtain⟨F,E,e⟩:=h.full j v G r
  have g:=(r.rng ok H).1
  obtain⟨l,I,o⟩:=f v _ g e
  obtain⟨q,rfl⟩:∃ q:Nat,l=(q:Int):=by
   rw[wZ n (Ze n b1 y) g]at o
   by_cases c:v=b
   .rw[u9 c]at o
    cases o
    obtain⟨i,rfl,_⟩:=h.sound a _ C A B
    exact⟨i+1,by omega⟩
   .rw[t9 c,e]at o
    cases o
    exact⟨F,rfl⟩
  exact⟨q,by omega,o⟩
def zf4.start {m:Int}{g:zv}{p:Int}(a:0<=p/\p<m):zf4 m g p 0 ((List.replicate m.toNat none).set p.toNat (some 0)):=by
 have b:p<((List.replicate m.toNat (none:zX)).length:Int):=by rw[f8];omega
 have f:∀ v,oAt (List.replicate m.toNat (none:zX)) v=none:=λv=>by
  unfold oAt
  rw[i5]
  split <;> rfl
 refine⟨by simp,λv k d i e=>?_,λj v h r=>?_⟩
 .rw[wZ a.1 b d,f]at e
  by_cases c:v=p
  .rw[u9 c]at e;cases e
   exact⟨0,rfl,by rw[c];exact .zero⟩
  .rw[t9 c]at e;cases e
 .obtain rfl:j=0:=by omega
  cases r
  exact⟨0,t7 _,by rw[wZ a.1 b a.1,u9 rfl];rfl⟩
abbrev Xf :=sIf (wd (tOf (zd zV (zd ixD (zb 2) (zb 4)) (eC .non))) (vI (tOf (zd Wa (zd ixD (zb 2) (zb 5)) (eC .non))) (tOf (zd gtD (zd ixD (zb 2) (zb 5)) (zd y3 (zd ixD (zb 2) (zb 4)) (eC (.int 1))))))) (Xa true 2 (zb 5) (zd y3 (zd ixD (zb 2) (zb 4)) (eC (.int 1)))) zF
abbrev Z1 :=Zd (iOf (zd y3 (zd ixD (zb 0) (eC (.int 1))) (eFn yo (za (yc (fLC (iOf (zd ixD (zb 0) (eC (.int 1)))) b2 zN (yq (za (zb 1) (za (zb 0) ze))))) ze)))) (Wd 2 (xt (z9 4) (xt (z9 5) Wn))) Xf
abbrev Vv :=zy (vH 2 (zkz zf9 (yc (zS (za (eC .non) ze))) (zd ixD (zb 0) (eC (.int 0)))))
  (zy (Xa false 2 (zb 1) (eC (.int 0)))
  (zy (xb xD (za (zd ixD (zb 0) (eC (.int 0))) ze) (z9 3) Z1)
  (sFz 2 (zO (zb 2)))))
def ZI:=fnD 6 Vv
def znD {g:zv}{p:Int}(ok:zG m g)(a3:g.length<=28)(Z:0<=p/\p<m):ZI [zm m g,.int p]=some (.lst ((vg m g p).map yI)):=by
 obtain⟨F,E⟩:∃ F,zh0 g=F:=⟨_,rfl⟩
 have U:=ok.lo
 have Q:=ok.hi
 refine YE (ρ:=[.v (zm m g),.v (.int p),.no,.no,.no,.no]) rfl ?_
 unfold Vv
 refine zo (ρ':=[.v (zm m g),.v (.int p),.o ((List.replicate m.toNat none).map yI),.no,.no,.no]) ?_ ?_
 .have e:=zpx (d:=.non) U Q
  refine zaY (ds:=(List.replicate m.toNat none).map yI) ?_
  rw[u06]
  exact e
 refine yn (zc5 _ (.int 0) p rfl rfl rfl Z.1 (by simp;omega) ?_)
 rw[show(.int 0:D)=yI (some 0)from rfl,<- u1y]
 refine yn (Ys (lo:=0) (c:=m.toNat) (λi ρ=>∃ (f:xi) (N l o:Sl),ρ=[.v (zm m g),.v (.int p),.o (f.map yI),N,l,o]/\zf4 m g p i f) ?_ ⟨_,_,_,_,rfl,zf4.start Z⟩ ?_ ?_)
 .show xD [.int m]=_
  exact zma U Q
 .rintro i ρ hi ⟨f,N,l,o,rfl,s⟩
  obtain⟨x,hx⟩:∃ x:Int,(0:Int)+(i:Int)=x:=⟨_,rfl⟩
  rw[hx]
  refine⟨_,rfl,?_⟩
  unfold Z1
  refine ZN (ds:=F.map zi) (λj ρ=>∃ (f:xi) (l o:Sl),ρ=[.v (zm m g),.v (.int p),.o (f.map yI),.v (.int x),l,o]/\zf4 m g p i f/\∀ e∈F.take j,∀ k:Nat,k<=i->xr g p k e.1->∃ u:Nat,u<=k+1/\oAt f e.2=some (u:Int)) ?_ ⟨f,_,_,rfl,s,λe n=>by simp at n⟩ ?_ ?_
  .have e1:fLC (iOf (zd ixD (zb 0) (eC (.int 1)))) b2 zN (yq (za (zb 1) (za (zb 0) ze))) [some (zm m g),some (.int p),none,some (.int x),l.f,o.f]=some ((g.map swT).map zi):=by
    unfold fLC
    show(if lim (g.map zi).length=true then _ else none)=_
    rw[u9 (zn5 (by rw[u4];exact a3)),r9]
    exact xV zi (zi∘swT) g λt _=>⟨[some (.int t.1),some (.int t.2)],rfl,rfl,rfl⟩
   show((((((fLC (iOf (zd ixD (zb 0) (eC (.int 1)))) b2 zN (yq (za (zb 1) (za (zb 0) ze))) [some (zm m g),some (.int p),none,some (.int x),l.f,o.f]).map D.lst).bind λd=>(some ([]:zk)).map (d::·)).bind yo).bind λy=>y3 (.tup (g.map zi)) y).bind xL)=_
   rw[e1]
   show(if lim ((g.map zi).length+((g.map swT).map zi).length)=true then some (D.tup (g.map zi++(g.map swT).map zi))else none).bind xL=_
   rw[u9 (yN (by simp only[u4];omega)),<- E]
   unfold zh0
   rw[o0]
   rfl
  .rintro j d ρ hd ⟨f,l,o,rfl,s,R⟩
   rw[q0]at hd
   obtain⟨⟨a,b⟩,ht,rfl⟩:=u7.mp hd
   have G:adj g a b:=Vj.mp (by rw[E];exact j4 ht)
   obtain⟨⟨a0,a1⟩,I,b1⟩:=G.rng ok
   have X:=s.len
   have B:F.take (j+1)=F.take j++[(a,b)]:=by rw[u05,ht];rfl
   refine⟨[.v (zm m g),.v (.int p),.o (f.map yI),.v (.int x),.v (.int a),.v (.int b)],rfl,?_⟩
   unfold Xf
   have J:=V8 (fs:=f) a0 a1 X
   have Y:=V8 (fs:=f) I b1 X
   have H:(oAt f a=none\/∃ w A,oAt f a=some w/\oAt f b=some A/\A<=w+1)->∀ e∈F.take (j+1),∀ k:Nat,k<=i->xr g p k e.1->∃ u:Nat,u<=k+1/\oAt f e.2=some (u:Int):=λh e n k P r=>by
    rw[B]at n
    rcases u0o.mp n with n | n
    .exact R e n k P r
    .cases q5.mp n
     obtain⟨u,K,C⟩:=s.full k a P r
     rcases h with h | ⟨w,A,S,W,h3⟩
     .rw[h]at C;cases C
     .rw[S]at C
      cases C
      obtain⟨q,rfl,_⟩:=s.sound b A I b1 W
      exact⟨q,by omega,W⟩
   have go:∀ w,oAt f a=some w->(oAt f b=none\/∃ A,oAt f b=some A/\w+1<A)->(Xa true 2 (zb 5) (zd y3 (zd ixD (zb 2) (zb 4)) (eC (.int 1))) [.v (zm m g),.v (.int p),.o (f.map yI),.v (.int x),.v (.int a),.v (.int b)]).w
    (fun ρ=>∃ (f:xi) (l o:Sl),ρ=[.v (zm m g),.v (.int p),.o (f.map yI),.v (.int x),l,o]/\zf4 m g p i f/\∀ e∈F.take (j+1),∀ k:Nat,k<=i->xr g p k e.1->∃ u:Nat,u<=k+1/\oAt f e.2=some (u:Int))
    (fun ρ=>∃ (f:xi) (N l o:Sl),ρ=[.v (zm m g),.v (.int p),.o (f.map yI),N,l,o]/\zf4 m g p (i+1) f)
    (fun ρ=>∃ (f:xi) (l o:Sl),ρ=[.v (zm m g),.v (.int p),.o (f.map yI),.v (.int x),l,o]/\zf4 m g p i f/\∀ e∈F.take (j+1),∀ k:Nat,k<=i->xr g p k e.1->∃ u:Nat,u<=k+1/\oAt f e.2=some (u:Int))
    (λd=>d=.lst ((vg m g p).map yI)):=λw S W=>by
    obtain⟨V,T⟩:=s.relax ok Z G S W
    rw[S]at J
    refine zc5 (f.map yI) (.int (w+1)) b ?_ rfl rfl I (zcd I b1 X) ⟨f.set b.toNat (some (w+1)),.v (.int a),.v (.int b),?_,V,?_⟩
    .show((((L2.atI (f.map yI) a).bind λx=>y3 x (.int 1))).bind λd=>if noL d=true then some d else none)=_
     rw[J]
     rfl
    .rw[u1y];rfl
    .intro e n k P r
     rw[B]at n
     rcases u0o.mp n with n | n
     .obtain⟨u,K,C⟩:=R e n k P r
      have a4:e∈zh0 g:=by rw[E];exact List.mem_of_mem_take n
      have L:=((Vj.mp a4).rng ok).2
      obtain⟨k',a5,e3⟩:=T e.2 _ L.1 C
      obtain⟨q,rfl,_⟩:=V.sound e.2 k' L.1 L.2 e3
      exact⟨q,by omega,e3⟩
     .cases q5.mp n
      obtain⟨u,K,C⟩:=s.full k a P r
      rw[S]at C
      cases C
      refine⟨u+1,u1q K,?_⟩
      show oAt _ b=_
      rw[wZ I (Ze I b1 X) I,u9 rfl]
      rfl
   cases M:oAt f a with
   | none =>
    rw[M]at J
    refine ZB (c:=false) ?_ (λz=>by cases z) λ_=>w3 rfl ⟨f,_,_,rfl,s,H (.inl M)⟩
    show((((L2.atI (f.map yI) a).bind λx=>zV x .non).bind asB).bind _)=_
    rw[J]
    rfl
   | some w =>
    rw[M]at J
    cases O:oAt f b with
    | none =>
     rw[O]at Y
     refine ZB (c:=true) ?_ (λ_=>go w M (.inl O)) (λz=>by cases z)
     show((((L2.atI (f.map yI) a).bind λx=>zV x .non).bind asB).bind λc=>if c=true then ((((L2.atI (f.map yI) b).bind λx=>Wa x .non).bind asB).bind λc=>if c=true then some true else _)else some false)=_
     rw[J,Y]
     rfl
    | some A =>
     rw[O]at Y
     refine ZB (c:=decide (w+1<A)) ?_ (λz=>go w M (.inr ⟨A,O,k9 z⟩)) (λz=>w3 rfl ⟨f,_,_,rfl,s,H (.inr ⟨w,A,M,O,Int.not_lt.mp (u0F z)⟩)⟩)
     show((((L2.atI (f.map yI) a).bind λx=>zV x .non).bind asB).bind λc=>if c=true then ((((L2.atI (f.map yI) b).bind λx=>Wa x .non).bind asB).bind λc=>if c=true then some true else (((L2.atI (f.map yI) b).bind λx=>((L2.atI (f.map yI) a).bind λy=>y3 y (.int 1)).bind λy=>gtD x y).bind asB))else some false)=_
     rw[J,Y]
     rfl
  .rintro ρ ⟨f,l,o,rfl,s,R⟩
   rw[u4,u0u]at R
   refine⟨f,_,_,_,rfl,s.len,s.sound,λj v hj r=>?_⟩
   cases j with
   | zero=>exact s.full 0 v (g9 _) r
   | succ j =>
    obtain⟨a,ra,a2⟩:=r.inv
    exact R (a,v) (by rw[<-E];exact Vj.mpr a2) j (l8 (Nat.lt_of_succ_le hj)) ra
 .rintro ρ ⟨f,N,l,o,rfl,s⟩
  rw[s.end ok Z (t7 _)]
  exact zdW (ρ':=[.v (zm m g),.v (.int p),.v (.lst ((vg m g p).map yI)),N,l,o]) rfl (wC rfl rfl)
def zbM (T:Txt P w K mg base ad):T.Pr 52 1 2 ZI:=by
 walk_at "p"
 all_goals first | exact(zao (L:=["a","b"]) (M:=["web","place","found","turn","·a","·b"]) rfl (YD (by rfl) (by rfl) (by rfl) (by with_unfolding_all rfl) (by rfl) (by rfl) (by kernel_rfl) xz) (X5 (Yj (edv 0) (xH xq) (λ_ _=>rfl))) gs2 rb2 (λ_ _ _ _=>(zeV rfl (Yh (yA (i:=0) zoX rfl (Or.inl rfl) (.inr rfl)) (Yh (yA (i:=1) zoX rfl (Or.inl rfl) (.inr rfl)) zbq)))) (λ_ _ _ _=>(ZZ (zw (edv 1) (zw (edv 0) yb)))))
abbrev ZF :=zy (sIf (tOf (zd ltD (zb 1) (eFn vF (za (zb 0) ze)))) (zO (zd ixD (zb 0) (zb 1))) zF)
  (zO (eC (.int 0)))
def xv:=fnD 2 ZF
def zf2 (a:zc):∃ c:Int,xv [.scr a,.int 0]=some (.int c):=by
 cases a with
 | nil=>exact⟨0,rfl⟩
 | cons n a =>
  refine⟨n,?_⟩
  have e:atI (n::a) 0=some n:=XY (u0T _) rfl
  simp[xv,ZF,fnD,zy,zO,Zq,sIf,yx,YH,sNo,zF,zc3,vH,Xe,zba,Xa,vEv,visF,visG,Sl.f,Sl.g,zb,eC,zd,Y7,eOr,zbe,eIf,eUn,Wg,yq,yc,zS,za,ze,zh,eFn,fFn,tOf,wd,vI,zZ,asB,asI,ym,wm,xM,xm,wn,VJ,vd,ltD,leD,gtD,geD,V2,zY,xu,yH,xf,Wa,zV,ixD,vF,yK,isT,eSl,wW,x0,xQ,xL,iOf,Zd,xb,vT,xD,XA,yF,Yb,fLC,zN,yo,Zu,z9,Wd,xt,Wn,b1,b2,e]
def VA (T:Txt P w K mg base ad):T.Pr 48 1 2 xv:=by
 walk_at "p"
def zkN (d:zc)(k:Int)(h:d.length<=63):∃ g:zc,(iOf (zd y3 (yc (zS (za (zh 2 xv (za (zb 0) (za (eC (.int 0)) ze))) ze))) (eSl slD (zb 0) (x0 (eC (.int 1))) (x0 (eC (.int k)))))) (some (.scr d)::ρ)=some (g.map .int):=by
 obtain⟨c,f⟩:=zf2 d
 refine⟨c::zaQ d (some 1) (some k),?_⟩
 have e:=ze0 (a:=[.int c]) (b:=(zaQ d (some 1) (some k)).map .int) (by have:=zkP d (some 1) (some k);simp;omega)
 simp[iOf,zd,yc,zS,za,ze,zh,zb,eC,f,yN,eSl,x0,asI,slD,e,xL]
def v7 {k:Nat}(ok:zG m b):k∈nbN m b a↔adj b a (k:Int):=by
 unfold nbN
 rw[o6,j3,j6]
 unfold ZU adj
 constructor
 .rintro⟨_,h⟩
  by_cases c:(k:Int)<a
  .rw[u9 c,t9 (by omega)]at h;exact .inr h
  .rw[t9 c]at h
   by_cases d:(k:Int)>a
   .rw[u9 d]at h;exact .inl h
   .rw[t9 d]at h
    have:a=(k:Int):=by omega
    rw[<-this]
    exact .inl h
 .rintro(h | h)
  .have:=ok.rng _ h
   simp only at this
   rw[t9 (by omega),u9 (by omega)]
   exact⟨by omega,h⟩
  .have:=ok.rng _ h
   simp only at this
   rw[u9 (by omega),t9 (by omega)]
   exact⟨by omega,h⟩
structure Vh (m:Int) (ts:zv) (p:Int) (L:Nat) (fs:xi) (rim:zc):Prop where
 len:fs.length=m.toNat
 sound:∀ v k,0<=v->v<m->oAt fs v=some k->∃ j:Nat,k=(j:Int)/\j<=L/\Far ts p v j
 full:∀ v (j:Nat),j<=L->Far ts p v j->oAt fs v=some (j:Int)
 rim:∀ v,v∈rim↔Far ts p v L
structure V6 (m:Int) (ts:zv) (p:Int) (L:Nat) (fs:xi) (fu:zc) (S:Int->Prop):Prop where
 len:fs.length=m.toNat
 sound:∀ v k,0<=v->v<m->oAt fs v=some k->(∃ j:Nat,k=(j:Int)/\j<=L/\Far ts p v j)\/v∈fu
 full:∀ v (j:Nat),j<=L->Far ts p v j->oAt fs v=some (j:Int)
 fur:∀ v∈fu,Far ts p v (L+1)/\oAt fs v=some ((L+1:Nat):Int)
 done:∀ v,S v->oAt fs v≠none
def Vh.mid (h:Vh m c p L d a){S:Int->Prop}(f:∀ v,¬ S v):V6 m c p L d [] S :=
 ⟨h.len,λv k g i e=>.inl (h.sound v k g i e),h.full,λv b=>(by cases b),λv b=>absurd b (f v)⟩
def V6.imp {S S':Int->Prop}(h:V6 m c p L a b S)(d:∀ v,S' v->S v\/oAt a v≠none):V6 m c p L a b S' :=
 ⟨h.len,h.sound,h.full,h.fur,λv e=>(d v e).elim (h.done v) id⟩
def V6.add {l:xi}{w:zc}{S:Int->Prop}{b:Int}(ok:zG m o)(h:V6 m o p L l w S)(F:Far o p a L)(q:adj o a b)(n:oAt l b=none){x:Int}(H:x=((L+1:Nat):Int)) :
 V6 m o p L (l.set b.toNat (some x)) (w++[b]) (λv=>S v\/v=b):=by
 subst H
 obtain⟨_,s,b1⟩:=q.rng ok
 have A:=h.len
 have C:=Ze s b1 A
 have D:Far o p b (L+1):=⟨.step F.1 q,λi r=>by
  obtain⟨j,t⟩:=zlN r
  by_cases c:j<=L
  .rw[h.full b j c t]at n;cases n
  .have:=t.2 _ r;omega⟩
 have f:∀ v,0<=v->oAt (l.set b.toNat (some ((L+1:Nat):Int))) v=if v=b then some ((L+1:Nat):Int)else oAt l v:=λv g=>wZ s C g
 have sm:∀ v,oAt l v≠none->oAt (l.set b.toNat (some ((L+1:Nat):Int))) v≠none:=λv d=>by
  by_cases g:0<=v
  .rw[f v g]
   split
   .intro z;cases z
   .exact d
  .unfold oAt at d ⊢
   rw[i6]
   split
   .split
    .intro z;cases z
    .rename_i I K
     omega
   .exact d
 refine⟨by rw[u0L];exact A,λv k g E e=>?_,λv j t d=>?_,λv d=>?_,λv d=>?_⟩
 .rw[f v g]at e
  by_cases c:v=b
  .exact .inr (by rw[c];simp)
  .rw[t9 c]at e
   exact(h.sound v k g E e).imp id λz=>u0o.mpr (.inl z)
 .have e:=h.full v j t d
  have:v≠b:=λz=>by rw[z,n]at e;cases e
  by_cases g:0<=v
  .rw[f v g,t9 this];exact e
  .unfold oAt at e ⊢
   rw[i6]
   split
   .rename_i c
    have G:v.toNat=0:=by omega
    rw[G]at c e
    unfold oAt at n
    rw[c]at n
    rw[n]at e
    cases e
   .exact e
 .rcases u0o.mp d with d | d
  .obtain⟨y,B⟩:=h.fur v d
   refine⟨y,?_⟩
   have g:0<=v:=by
    obtain⟨J,_,u⟩:=y.1.inv
    exact(u.rng ok).2.1
   rw[f v g]
   split
   .rfl
   .exact B
  .cases q5.mp d
   exact⟨D,by rw[f _ s,u9 rfl]⟩
 .rcases d with d | rfl
  .exact sm v (h.done v d)
  .rw[f _ s,u9 rfl]
   intro z;cases z
def V6.end {g:zv}{t:xi}{S:Int->Prop}(ok:zG m g)(h:V6 m g p L t n S)(B:∀ a b,Far g p a L->adj g a b->S b):Vh m g p (L+1) t n:=by
 have key:∀ v,Far g p v (L+1)->v∈n:=λv d=>by
  obtain⟨a,C,f⟩:=d.1.inv
  have q:Far g p a L:=⟨C,λi r=>by have:=d.2 _ (.step r f);omega⟩
  have x:=(f.rng ok).2
  have s:=h.done v (B a v q f)
  cases e:oAt t v with
  | none=>exact absurd e s
  | some k =>
   rcases h.sound v k x.1 x.2 e with ⟨j,_,w,l⟩ | o
   .have:=l.uniq d;omega
   .exact o
 refine⟨h.len,λv k y A e=>?_,λv j w d=>?_,λv=>⟨λd=>(h.fur v d).1,key v⟩⟩
 .rcases h.sound v k y A e with ⟨j,z,w,l⟩ | o
  .exact⟨j,z,by omega,l⟩
  .obtain⟨l,u⟩:=h.fur v o
   rw[e]at u
   cases u
   exact⟨L+1,rfl,t7 _,l⟩
 .by_cases c:j<=L
  .exact h.full v j c d
  .obtain rfl:j=L+1:=by omega
   exact(h.fur v (key v d)).2
def zfF (L:Nat):∀ (k:Nat) (v:Int),Far e p v k->L<=k->∃ u,Far e p u L:=by
 intro k
 induction k with
 | zero=>intro v d f;exact⟨v,by rwa[show L=0 by omega]⟩
 | succ k h =>
  intro v d f
  by_cases c:L=k+1
  .exact⟨v,by rwa[c]⟩
  .obtain⟨a,g,b⟩:=d.1.inv
   exact h a ⟨g,λi r=>by have:=d.2 _ (.step r b);omega⟩ (by omega)
def Vh.end (h:Vh m b p L d []):d=vg m b p:=by
 refine zhZ (by rw[h.len,Yn]) λv f o=>?_
 have g:v<m:=by have:=h.len;omega
 rw[WB f g]
 rcases wO b p v with ⟨k,e,a⟩ | ⟨e,a⟩
 .rw[e]
  by_cases c:k<=L
  .exact h.full v k c a
  .obtain⟨u,n⟩:=zfF L k v a (by omega)
   have:=(h.rim u).mpr n
   cases this
 .rw[e]
  cases l:oAt d v with
  | none=>rfl
  | some k =>
   obtain⟨j,_,_,i⟩:=h.sound v k f g l
   exact absurd i.1 (a j)
def Vh.start {m:Int}{p:Int}(a:0<=p/\p<m):Vh m b p 0 ((List.replicate m.toNat none).set p.toNat (some 0)) [p]:=by
 have d:p<((List.replicate m.toNat (none:zX)).length:Int):=by rw[f8];omega
 have l:∀ v,oAt (List.replicate m.toNat (none:zX)) v=none:=λv=>by
  unfold oAt
  rw[i5]
  split <;> rfl
 have f:∀ v,Far b p v 0->v=p:=λv h=>by
  have:=h.1
  cases this
  rfl
 have g:Far b p p 0:=⟨.zero,λ_ _=>g9 _⟩
 refine⟨by simp,λv k i q e=>?_,λv j o n=>?_,λv=>⟨λh=>?_,λh=>?_⟩⟩
 .rw[wZ a.1 d i,l]at e
  by_cases c:v=p
  .rw[u9 c]at e;cases e
   exact⟨0,rfl,t7 _,by rw[c];exact g⟩
  .rw[t9 c]at e;cases e
 .obtain rfl:j=0:=by omega
  cases f v n
  rw[wZ a.1 d a.1,u9 rfl]
  rfl
 .cases q5.mp h
  exact g
 .rw[f v h]
  exact q5.mpr rfl
def zbA (a:xi):Nat:=a.countP Option.isNone
def zd2:∀ {fs:xi} {k:Nat} {x:Int},k<fs.length->fs[k]?=some none->zbA (fs.set k (some x))+1=zbA fs
 | [],k,x,h,_=>by simp at h
 | f::fs,0,x,_,h=>by
  have h:some f=some none:=h
  cases h
  simp[zbA]
 | f::fs,k+1,x,h,h2=>by
  have a:=zd2 (fs:=fs) (k:=k) (x:=x) (by simpa using h) (by simpa using h2)
  unfold zbA at a ⊢
  rw[List.set_cons_succ,u2h,u2h]
  omega
def zrj:D->Bool
 | .non=>true
 | _=>false
def zjT (a:xi):(a.map yI).countP zrj=zbA a:=by
 unfold zbA
 rw[List.countP_map]
 congr 1
 funext o
 cases o <;> rfl
abbrev Yl :=sIf (tOf (zd Wa (zd ixD (zb 2) (zb 6)) (eC .non))) (zy (Xa true 2 (zb 6) (zd y3 (zd ixD (zb 2) (zb 5)) (eC (.int 1))))
  (Xe false 4 (zb 6))) zF
abbrev vV :=Zd (iOf (zh 2 yi (za (zb 0) (za (zb 5) ze)))) (z9 6) Yl
abbrev v0 :=zy (vH 4 (zS ze))
  (zy (Zd (iOf (zb 3)) (z9 5) vV)
  (sFz 4 (yx false 3 (zb 4))))
abbrev VD :=zy (vH 2 (zkz zf9 (yc (zS (za (eC .non) ze))) (zd ixD (zb 0) (eC (.int 0)))))
  (zy (Xa false 2 (zb 1) (eC (.int 0)))
  (zy (yx false 3 (yc (zS (za (zb 1) ze))))
  (zy (YJ (tOf (zd gtD (eFn vF (za (zb 3) ze)) (eC (.int 0)))) v0 1000)
  (sFz 2 (zO (zb 2))))))
def wX:=fnD 7 VD
def muA:SE->Nat
 | [_,_,.o ds,.v (.lst rs),_,_,_]=>2*ds.countP zrj+(if rs.isEmpty=true then 0 else 1)
 | _=>0
def zhH (a b g f e:Sl)(c:xi)(d:zk):muA [a,b,.o (c.map yI),.v (.lst d),g,f,e]=2*zbA c+(if d.isEmpty=true then 0 else 1):=by
 show 2*(c.map yI).countP zrj+_=_
 rw[zjT]
def zrE {x:Int}{b:xi}{e:zc}{N:vc}(i:0<=x)(m:x<((b.map yI).length:Int))(ex:L2.atI (b.map yI) x=some (yI (oAt b x)))(j:L2.atI (b.map yI) a=some (.int L))(g:(e.map D.int).length<=1000)(k:oAt b x=none->N [.v W,.v (.int p),.o ((b.set x.toNat (some (L+1))).map yI),.v h,.o ((e++[x]).map .int),.v (.int a),.v (.int x)])(l:oAt b x≠none->N [.v W,.v (.int p),.o (b.map yI),.v h,.o (e.map .int),.v (.int a),.v (.int x)]) :
 (Yl [.v W,.v (.int p),.o (b.map yI),.v h,.o (e.map .int),.v (.int a),.v (.int x)]).w N B C R:=by
 unfold Yl
 cases f:oAt b x with
 | none =>
  rw[f]at ex
  refine ZB (c:=true) (by show(((L2.atI (b.map yI) x).bind λd=>Wa d .non).bind asB)=_;rw[ex];rfl) (λ_=>?_) (λz=>by cases z)
  refine yn (zc5 (b.map yI) (.int (L+1)) x ?_ rfl rfl i m ?_)
  .show((((L2.atI (b.map yI) a).bind λx=>y3 x (.int 1))).bind λd=>if noL d=true then some d else none)=_
   rw[j]
   rfl
  have q:=k f
  rw[o0,u1y]at q
  exact w3 (Xj (ds:=e.map .int) (d:=.int x) rfl rfl g) q
 | some n =>
  rw[f]at ex
  refine ZB (c:=false) (by show(((L2.atI (b.map yI) x).bind λd=>Wa d .non).bind asB)=_;rw[ex];rfl) (λz=>by cases z) (λ_=>w3 rfl (l λz=>?_))
  rw[f]at z
  cases z
structure VO (m:Int) (ts:zv) (p:Int) (L c:Nat) (S:Int->Prop) (gs:xi) (fu:zc):Prop where
 mid:V6 m ts p L gs fu S
 cnt:fu.length+zbA gs=c
def VO.imp {S S':Int->Prop}(h:VO m d p L c S a b)(k:∀ v,S' v->S v\/oAt a v≠none):VO m d p L c S' a b:=⟨h.mid.imp k,h.cnt⟩
def VO.put {x:Int}{S S':Int->Prop}{b:xi}{g:zc}(ok:zG m d)(h:VO m d p L c S b g)(j:Far d p a L)(i:adj d a x)(q:0<=x/\x<m)(f:oAt b x=none)(k:∀ v,S' v->S v\/v=x):VO m d p L c S' (b.set x.toNat (some ((L:Int)+1))) (g++[x]):=by
 have o:=h.mid.len
 have e:x.toNat<b.length:=by omega
 have l:b[x.toNat]?=some none:=by
  unfold oAt at f
  rw[u8 e]at f ⊢
  exact u0q some f
 have:=zd2 (fs:=b) (k:=x.toNat) (x:=(L:Int)+1) e l
 refine⟨(h.mid.add ok j i f rfl).imp λv n=>.inl ((k v n).imp id id),?_⟩
 rw[j5,List.length_singleton,<- h.cnt]
 omega
def zq7 {f:zv}{p:Int}{c i:Nat}{o:zc}{g:xi}{l:zc}{N:vc}(ok:zG m f)(P:0<=p/\p<m)(Q:c<=1000)(A:Far f p a L)(I:o[i]?=some a)(h:VO m f p L c (λv=>∃ a∈o.take i,adj f a v) g l)(q:∀ g l x,VO m f p L c (λv=>∃ a∈o.take (i+1),adj f a v) g l->N [.v (zm m f),.v (.int p),.o (g.map yI),.v F,.o (l.map .int),.v (.int a),x]) :
 (vV [.v (zm m f),.v (.int p),.o (g.map yI),.v F,.o (l.map .int),.v (.int a),x]).w N B C R:=by
 have t:=A.1.rng ok P
 unfold vV
 refine ZN (ds:=(nbN m f a).map zM) (λj ρ=>∃ (g:xi) (l:zc) (x:Sl),ρ=[.v (zm m f),.v (.int p),.o (g.map yI),.v F,.o (l.map .int),.v (.int a),x]/\VO m f p L c (λv=>(∃ a∈o.take i,adj f a v)\/∃ k∈(nbN m f a).take j,v=(k:Int)) g l) ?_ ⟨g,l,_,rfl,h.imp (λv r=>.inl (r.elim id λz=>by obtain⟨k,G,_⟩:=z;cases G))⟩ ?_ ?_
 .have O:yi [zm m f,.int a]=some (.lst ((nbN m f a).map zM)):=by
   show(if w6 (zm m f)=true then some (D.lst ((nbN (zno (zm m f)) (znj (zm m f)) a).map zM))else none)=_
   rw[u9 ((xj _).mpr ⟨_,_,rfl,ok⟩),WN,Vn]
  show(yi [zm m f,.int a]).bind xL=_
  rw[O]
  rfl
 .rintro j d ρ M ⟨g,l,x,rfl,u⟩
  rw[q0]at M
  obtain⟨k,G,rfl⟩:=u7.mp M
  have w:adj f a (k:Int):=(v7 ok).mp (j4 G)
  have s:(nbN m f a).take (j+1)=(nbN m f a).take j++[k]:=by rw[u05,G];rfl
  have n:=(w.rng ok).2
  have J:=u.mid.len
  have K:=V8 (fs:=g) (i:=a) t.1 t.2 J
  rw[u.mid.full a L (t7 _) A]at K
  have step:∀ v,((∃ a∈o.take i,adj f a v)\/∃ k∈(nbN m f a).take (j+1),v=(k:Int))->((∃ a∈o.take i,adj f a v)\/∃ k∈(nbN m f a).take j,v=(k:Int))\/v=(k:Int):=λv r=>by
   rcases r with r | ⟨q,hq,e⟩
   .exact .inl (.inl r)
   .rw[s]at hq
    rcases u0o.mp hq with hq | hq
    .exact .inl (.inr ⟨q,hq,e⟩)
    .cases q5.mp hq
     exact .inr e
  refine⟨[.v (zm m f),.v (.int p),.o (g.map yI),.v F,.o (l.map .int),.v (.int a),.v (.int (k:Int))],by unfold zM;rw[u0r];rfl,?_⟩
  refine zrE n.1 (zcd n.1 n.2 J) (V8 n.1 n.2 J) K (by rw[u4];have:=u.cnt;omega) (λH=>?_) (λH=>?_)
  .exact⟨_,_,_,rfl,u.put ok A w n H step⟩
  .exact⟨g,l,_,rfl,u.imp λv r=>(step v r).imp id λe=>by rw[e];exact H⟩
 .rintro ρ ⟨g,l,x,rfl,u⟩
  rw[u4,u0u]at u
  refine q g l x (u.imp λv r=>.inl ?_)
  obtain⟨b,E,y⟩:=r
  rw[u05,I]at E
  rcases u0o.mp E with E | E
  .exact .inl ⟨b,E,y⟩
  .cases q5.mp E
   obtain⟨k,rfl⟩:=Int.eq_ofNat_of_zero_le (y.rng ok).2.1
   exact .inr ⟨k,(v7 ok).mpr y,rfl⟩
def zq3 {g:zv}{p:Int}{c:zc}{l:xi}{k:Sl}{N:vc}(ok:zG m g)(x:0<=p/\p<m)(r:Vh m g p L l c)(q:∀ f e s k j,Vh m g p (L+1) f e->e.length+zbA f=zbA l->N [.v (zm m g),.v (.int p),.o (f.map yI),.v (.lst (e.map .int)),s,k,j]) :
 (v0 [.v (zm m g),.v (.int p),.o (l.map yI),.v (.lst (c.map .int)),s,k,j]).w N B C R:=by
 have w:zbA l<=1000:=o5 u2a (by rw[r.len];have:=ok.hi;omega)
 unfold v0
 refine zo (ρ':=[.v (zm m g),.v (.int p),.o (l.map yI),.v (.lst (c.map .int)),.o (([]:zc).map .int),k,j]) rfl ?_
 refine yn (ZN (ds:=c.map .int) (λi ρ=>∃ (f:xi) (e:zc) (k j:Sl),ρ=[.v (zm m g),.v (.int p),.o (f.map yI),.v (.lst (c.map .int)),.o (e.map .int),k,j]/\VO m g p L (zbA l) (λv=>∃ a∈c.take i,adj g a v) f e) rfl ⟨l,[],_,_,rfl,r.mid (λv z=>by obtain⟨a,n,_⟩:=z;cases n),g8 _⟩ ?_ ?_)
 .rintro i d ρ u ⟨f,e,k,j,rfl,o⟩
  rw[q0]at u
  obtain⟨a,n,rfl⟩:=u7.mp u
  exact⟨[.v (zm m g),.v (.int p),.o (f.map yI),.v (.lst (c.map .int)),.o (e.map .int),.v (.int a),j],rfl,zq7 ok x w ((r.rim a).mp (j4 n)) n o λf e j h=>⟨f,e,_,_,rfl,h⟩⟩
 .rintro ρ ⟨f,e,k,j,rfl,o⟩
  rw[u4,u0u]at o
  refine zdW (ρ':=[.v (zm m g),.v (.int p),.o (f.map yI),.v (.lst (c.map .int)),.v (.lst (e.map .int)),k,j]) rfl ?_
  exact w3 (ρ':=[.v (zm m g),.v (.int p),.o (f.map yI),.v (.lst (e.map .int)),.v (.lst (e.map .int)),k,j]) rfl (q f e _ _ _ (o.mid.end ok λa b n t=>⟨a,(r.rim a).mpr n,t⟩) o.cnt)
def vx {p:Int}(ok:zG m b)(n:0<=p/\p<m):wX [zm m b,.int p]=some (.lst ((vg m b p).map yI)):=by
 have q:=ok.lo
 have o:=ok.hi
 refine YE (ρ:=[.v (zm m b),.v (.int p),.no,.no,.no,.no,.no]) rfl ?_
 unfold VD
 refine zo (ρ':=[.v (zm m b),.v (.int p),.o ((List.replicate m.toNat none).map yI),.no,.no,.no,.no]) ?_ ?_
 .have e:=zpx (d:=.non) q o
  refine zaY (ds:=(List.replicate m.toNat none).map yI) ?_
  rw[u06]
  exact e
 refine yn (zc5 _ (.int 0) p rfl rfl rfl n.1 (by rw[u4,f8];omega) ?_)
 rw[show((List.replicate m.toNat (none:zX)).map yI).set p.toNat (.int 0)=((List.replicate m.toNat none).set p.toNat (some 0)).map yI by rw[u1y];rfl]
 refine zo (ρ':=[.v (zm m b),.v (.int p),.o (((List.replicate m.toNat none).set p.toNat (some 0)).map yI),.v (.lst ([p].map .int)),.no,.no,.no]) rfl ?_
 refine yn (zaW (fun ρ=>∃ (L:Nat) (l:xi) (a:zc) (j k i:Sl),ρ=[.v (zm m b),.v (.int p),.o (l.map yI),.v (.lst (a.map .int)),j,k,i]/\Vh m b p L l a) muA ?_ 1000 _ ⟨0,_,[p],_,_,_,rfl,Vh.start n⟩ ?_)
 .rintro ρ ⟨L,l,a,j,k,i,rfl,r⟩
  refine⟨decide ((0:Int)<((a.map D.int).length:Int)),rfl,λz=>?_,λz=>?_⟩
  .refine zq3 ok n r λc g j k i h s=>⟨⟨L+1,c,g,_,_,_,rfl,h⟩,?_⟩
   rw[zhH,zhH,<- s]
   cases a with
   | nil=>cases z
   | cons _ _ =>
    cases g with
    | nil=>show 2*zbA c+0<2*(0+zbA c)+1;omega
    | cons f g=>show 2*zbA c+1<2*((g.length+1)+zbA c)+1;omega
  .cases a with
   | cons _ _ =>
    have:=u0F z
    rw[r6,k4]at this
    omega
   | nil =>
    rw[r.end]
    exact zdW (ρ':=[.v (zm m b),.v (.int p),.v (.lst ((vg m b p).map yI)),.v (.lst []),j,k,i]) rfl (wC rfl rfl)
 .rw[zhH]
  have:zbA ((List.replicate m.toNat (none:zX)).set p.toNat (some 0))<=_:=u2a
  rw[u0L,f8]at this
  show 2*zbA _+1<1000
  omega
def Y0 (T:Txt P w K mg base ad):T.Pr 13 3 2 wX:=by
 have:=Z7 T
 walk_at "p"
abbrev VE :=yx false 0 (zd xM (eC (.int 2)) (zb 0))
abbrev zcJ :=zy (xb xD (za (zb 1) ze) (z9 2) VE)
  (zO (zb 0))
def wR:=fnD 3 zcJ
def zam {k:Int}(b:0<=k)(g:k<=1000):wR [.int n,.int k]=some (.int (n*2^k.toNat)):=by
 refine YE (ρ:=[.v (.int n),.v (.int k),.no]) rfl ?_
 unfold zcJ
 refine yn (Ys (lo:=0) (c:=k.toNat) (λi ρ=>∃ a,ρ=[.v (.int (n*2^i)),.v (.int k),a]) ?_ ⟨.no,by rw[Int.pow_zero,u1Y]⟩ ?_ ?_)
 .show xD [.int k]=_
  exact vQ b (by omega)
 .rintro i ρ f ⟨a,rfl⟩
  refine⟨_,rfl,?_⟩
  unfold VE
  have e:xM (.int 2) (.int (n*2^i))=some (.int (n*2^(i+1))):=by
   rw[zhC (by decide) (by decide),u2Q,u1u 2,u3b]
  refine w3 (ρ':=[.v (.int (n*2^(i+1))),.v (.int k),.v (.int (0+(i:Int)))]) ?_ ⟨_,rfl⟩
  generalize n*2^i=y at *
  generalize n*2^(i+1)=z at *
  show(match xM (.int 2) (.int y)with | some d=>Ctl.nx [.v d,.v (.int k),.v (.int (0+(i:Int)))] | none=>Ctl.no)=_
  rw[e]
 .rintro ρ ⟨a,rfl⟩
  exact wC rfl rfl
def Zm (T:Txt P w K mg base ad):T.Pr 5 1 2 wR:=by
 walk_at "p"
def xr.cat {k:Nat}(h:xr ts p k a):∀ {j:Nat},xr ts a j b->xr ts p (k+j) b:=by
 intro j d
 induction d with
 | zero=>exact h
 | step _ c e=>exact .step e c
def xr.back {k:Nat}(h:xr c p k v):xr c v k p:=by
 induction h with
 | zero=>exact .zero
 | @step k a b _ d e =>
  have:=(xr.step (ts:=c) (p:=b) .zero d.symm).cat e
  rwa[show 0+1+k=k+1 by omega]at this
def Zy (m:Int)(a:zv):Prop:=∀ p v,0<=p/\p<m->0<=v/\v<m->∃ k,xr a p k v
def zaE {p:Int}(h:Zy m a)(g:0<=p/\p<m):∃ c:zc,vg m a p=c.map some/\(c.length:Int)=m:=by
 refine⟨(vg m a p).map λo=>o.getD 0,?_,by rw[u4,Yn];omega⟩
 rw[r9]
 symm
 have:(vg m a p).map (some∘λo=>o.getD 0)=(vg m a p).map id:=by
  refine o9 λo b=>?_
  unfold vg at b
  obtain⟨v,d,rfl⟩:=p0.mp b
  have d:=j6.mp d
  rcases wO a p (v:Int)with ⟨k,e,_⟩ | ⟨e,f⟩
  .rw[e];rfl
  .obtain⟨k,r⟩:=h p v g ⟨by omega,by omega⟩
   exact absurd r (f k)
 rw[this,u2C]
def WA (a:zc):(a.map some).map yI=a.map .int:=by rw[r9];rfl
abbrev XL :=zy (yx false 3 (zh 2 wX (za (zb 0) (za (zb 2) ze))))
  (zy (yx false 4 (eFn yo (za (yc (fLC (vT xD (za (zd ixD (zb 0) (eC (.int 0))) ze)) b1 (tOf (zd zV (zd ixD (zb 4) (zb 0)) (eC .non))) (zb 0))) ze)))
  (sIf (tOf (zd vC (zd ixD (zb 4) (eC (.int 0))) (zb 2))) (Xe false 1 (zb 4)) zF))
abbrev WG :=zy (YH (zh 1 zK (za (zb 0) ze)))
  (zy (vH 1 (zS ze))
  (zy (xb xD (za (zd ixD (zb 0) (eC (.int 0))) ze) (z9 2) XL)
  (sFz 1 (zO (zb 1)))))
def WK:=fnD 5 WG
def zaG {m:Int}(ok:zG m e)(y:Zy m e):WK [zm m e]=some (.lst [.tup ((List.range m.toNat).map zM)]):=by
 have G:=ok.lo
 have E:=ok.hi
 have hw:w6 (zm m e)=true:=(xj _).mpr ⟨_,_,rfl,ok⟩
 have A:zK [zm m e]=some .non:=by simp[zK,hw]
 have H:ixD (zm m e) (.int 0)=some (.int m):=rfl
 obtain⟨n,v⟩:∃ n:Nat,m.toNat=n+1:=⟨m.toNat-1,by omega⟩
 refine YE (ρ:=[.v (zm m e),.no,.no,.no,.no]) rfl ?_
 unfold WG
 refine zo (ρ':=[.v (zm m e),.no,.no,.no,.no]) (x9 A) ?_
 refine zo (ρ':=[.v (zm m e),.o [],.no,.no,.no]) rfl ?_
 refine yn (Ys (lo:=0) (c:=m.toNat) (λi ρ=>∃ o l h,ρ=[.v (zm m e),.o (if i=0 then []else [.tup ((List.range m.toNat).map zM)]),o,l,h]) ?_ ⟨_,_,_,rfl⟩ ?_ ?_)
 .show xD [.int m]=_
  exact vQ (by omega) (by omega)
 .rintro i ρ I ⟨o,l,h,rfl⟩
  obtain⟨x,F⟩:∃ x:Int,(0:Int)+(i:Int)=x:=⟨_,rfl⟩
  rw[F]
  refine⟨_,rfl,?_⟩
  have j:0<=x/\x<m:=by omega
  obtain⟨f,p,C⟩:=zaE y j
  have r:=vx ok j
  rw[p,WA]at r
  unfold XL
  refine zo (ρ':=[.v (zm m e),.o (if i=0 then []else [.tup ((List.range m.toNat).map zM)]),.v (.int x),.v (.lst (f.map .int)),h]) (yW r) ?_
  have w:=λa b=>show fLC (vT xD (za (zd ixD (zb 0) (eC (.int 0))) ze)) b1 (tOf (zd zV (zd ixD (zb 4) (zb 0)) (eC .non))) (zb 0) [some (zm m e),a,some (.int x),some (.lst (f.map .int)),b]=some ((List.range m.toNat).map zM) by
   unfold fLC
   show((xD [.int m]).bind λs=>if lim s.length=true then _ else none)=_
   rw[vQ (by omega) (by omega)]
   show(if lim (X6 0 m.toNat).length=true then _ else none)=_
   rw[u9 (yN (by rw[Yq];omega))]
   refine xV zM zM (List.range m.toNat) λk q=>⟨[some (zM k)],rfl,?_,rfl⟩
   have q:=j6.mp q
   have u:=WI (ns:=f) (i:=(0:Int)+(k:Int)) (by omega) (by omega)
   show(((atI (f.map D.int) (0+(k:Int))).bind λa=>zV a .non).bind asB)=_
   rw[u]
   rfl
  refine zo (ρ':=[.v (zm m e),.o (if i=0 then []else [.tup ((List.range m.toNat).map zM)]),.v (.int x),.v (.lst (f.map .int)),.v (.tup ((List.range m.toNat).map zM))]) (by simp[yx,vEv,visF,Sl.f,eFn,yc,za,ze,w,yo]) ?_
  have t:atI ((List.range m.toNat).map zM) 0=some (.int 0):=by
   rw[v,List.range_succ_eq_map,r6]
   exact XY (u0T _) rfl
  have B:vC (.int 0) (.int x)=some (.bl (decide ((0:Int)=x))):=rfl
  refine ZB (c:=decide ((0:Int)=x)) (by simp[tOf,zd,zb,visG,Sl.g,eC,ixD,t,B,asB]) (λz=>?_) (λz=>w3 rfl ⟨.v (.int x),.v (.lst (f.map .int)),.v (.tup ((List.range m.toNat).map zM)),?_⟩)
  .have z:=k9 z
   have g:i=0:=by omega
   subst g
   refine w3 (ρ':=[.v (zm m e),.o [.tup ((List.range m.toNat).map zM)],.v (.int x),.v (.lst (f.map .int)),.v (.tup ((List.range m.toNat).map zM))]) ?_ ⟨_,_,_,rfl⟩
   rw[Xj (ds:=[]) (d:=.tup ((List.range m.toNat).map zM)) rfl rfl (by simp)]
   rfl
  .have z:=u0F z
   have g:i≠0:=by omega
   rw[t9 g,t9 (by omega:i+1≠0)]
 .rintro ρ ⟨o,l,h,rfl⟩
  rw[t9 (by omega)]
  exact zdW (ρ':=[.v (zm m e),.v (.lst [.tup ((List.range m.toNat).map zM)]),o,l,h]) rfl (wC rfl rfl)
def zhz (T:Txt P w K mg base ad):T.Pr 14 8 1 WK:=by
 have:=xw T
 have:=Y0 T
 walk_at "p"
abbrev ZG :=zO (zd vC (eFn vF (za (zh 1 WK (za (zb 0) ze)) ze)) (eC (.int 1)))
def Yi:=fnD 1 ZG
def zbu (ok:zG m a)(e:Zy m a):Yi [zm m a]=some (.bl true):=by
 have b:=zaG ok e
 generalize (List.range m.toNat).map zM=pc at b
 refine YE (ρ:=[.v (zm m a)]) rfl ?_
 unfold ZG
 have c:vF [.lst [.tup pc]]=some (.int 1):=rfl
 have f:vC (.int 1) (.int 1)=some (.bl true):=rfl
 exact wC (d:=.bl true) (by simp[zO,visG,Sl.g,zd,eFn,zh,za,ze,zb,eC,b,c,f]) rfl
def zb3 (T:Txt P w K mg base ad):T.Pr 15 9 1 Yi:=by
 have:=zhz T
 walk_at "q"
abbrev VH :=zO (Y7 (zh 1 Yi (za (zb 0) ze)) (zd vC (eFn vF (za (zd ixD (zb 0) (eC (.int 1))) ze)) (zd wm (zd ixD (zb 0) (eC (.int 0))) (eC (.int 1)))))
def YS:=fnD 1 VH
def zdg {a:zv}(ok:zG m a)(i:Zy m a)(c:(a.length:Int)=m-1):YS [zm m a]=some (.bl true):=by
 have j:=zbu ok i
 have e:vF [.tup (a.map zi)]=some (.int (m-1)):=by
  show some (D.int ((a.map zi).length:Int))=_
  rw[u4,c]
 have h:ixD (zm m a) (.int 0)=some (.int m):=rfl
 have b:ixD (zm m a) (.int 1)=some (.tup (a.map zi)):=rfl
 have g:vC (.int (m-1)) (.int (m-1))=some (.bl true):=by
  show some (D.bl (decide (m-1=m-1)))=_
  rw[j0 rfl]
 have f:wm (.int m) (.int 1)=some (.int (m-1)):=rfl
 refine YE (ρ:=[.v (zm m a)]) rfl ?_
 unfold VH
 exact wC (d:=.bl true) (by simp[zO,visG,Sl.g,Y7,zd,eFn,zh,za,ze,zb,eC,j,e,h,b,f,g,asB]) rfl
def zad (T:Txt P w K mg base ad):T.Pr 16 10 1 YS:=by
 have:=zb3 T
 walk_at "q"
abbrev ZE :=sIf (zZ (tOf (zh 1 YS (za (zb 0) ze)))) sNo zF
def wg:=fnD 1 ZE
def Y1 {a:zv}(ok:zG m a)(e:Zy m a)(b:(a.length:Int)=m-1):wg [zm m a]=some .non:=by
 have d:=zdg ok e b
 refine YE (ρ:=[.v (zm m a)]) rfl ?_
 unfold ZE
 exact ZB (c:=false) (by simp[zZ,tOf,visG,Sl.g,zh,za,ze,zb,d,asB]) (λz=>by cases z) (λ_=>w3 rfl rfl)
def YU (T:Txt P w K mg base ad):T.Pr 27 11 1 wg:=by
 have:=zad T
 walk_at "q"
structure vG (i:Nat) (ns:zc):Prop where
 len:ns.length=i
 nd:ns.Nodup
 mem:∀ x:Int,x∈ns↔0<=x/\x<(i:Int)
def znP (a:zc)(j:Int)(x:Int):zc:=a.take j.toNat++x::a.drop j.toNat
def zgr (a:zc)(j x:Int):zn0 (a.map .int) j (.int x)=(znP a j x).map .int:=by
 unfold zn0 znP
 rw[o0,r6,List.map_take,List.map_drop]
def ziI (b:zc)(j x:Int):(znP b j x).Perm (x::b):=by
 unfold znP
 have:=List.perm_middle (a:=x) (l₁:=b.take j.toNat) (l₂:=b.drop j.toNat)
 rwa[List.take_append_drop]at this
def vG.ins {i:Nat}{a:zc}(h:vG i a)(j:Int){x:Int}(b:x=(i:Int)):vG (i+1) (znP a j x):=by
 subst b
 have p:=ziI a j (i:Int)
 refine⟨by rw[p.length_eq,k4,h.len],?_,λx=>?_⟩
 .rw[p.nodup_iff,f7]
  exact⟨λz=>by have:=(h.mem _).mp z;omega,h.nd⟩
 .rw[p.mem_iff,t6,h.mem]
  omega
def Vo (a:zc)(b:zv):Prop:=∀ (s:Nat) (t:Tie),b[s]?=some t->∃ j:Nat,j<=s/\t=ZU (vAt a ((s+1:Nat):Int)) (vAt a (j:Int))
def Zg (a b:Int):ZU a b=(b,a)/\b<a\/ZU a b=(a,b)/\a<b\/a=b:=by
 unfold ZU
 by_cases c:b<a
 .left;rw[u9 c,t9 (by omega)];exact⟨rfl,c⟩
 .by_cases d:b>a
  .right;left;rw[t9 c,u9 d];exact⟨rfl,d⟩
  .right;right;omega
def za9 {a:zc}{k:Nat}(h:k<a.length):vAt a (k:Int)=a[k]:=by
 unfold vAt
 rw[show((k:Int)).toNat=k by omega,j9,u8 h]
 rfl
section
variable {n:Nat}{ns:zc}{ts:zv}
def Zc (h:vG n ns){i j:Nat}(d:i<n)(c:j<n)(a:i≠j):vAt ns (i:Int)≠vAt ns (j:Int):=by
 have b:=h.len
 rw[za9 (by omega),za9 (by omega)]
 intro e
 exact a ((u2k h.nd).mp e)
def zcH (h:vG n ns){i:Nat}(b:i<n):0<=vAt ns (i:Int)/\vAt ns (i:Int)<(n:Int):=by
 have a:=h.len
 rw[za9 (by omega)]
 exact(h.mem _).mp (u0s _)
def Vo.rng (h:vG n ns)(g:Vo ns ts)(m:ts.length<n):∀ t∈ts,0<=t.1/\t.1<t.2/\t.2<(n:Int):=by
 intro t l
 obtain⟨s,d⟩:=List.mem_iff_getElem?.mp l
 obtain⟨j,o,rfl⟩:=g s t d
 have k:s<ts.length:=(t5.mp d).1
 have f:=Zc h (i:=s+1) (j:=j) (by omega) (by omega) (by omega)
 have b:=zcH h (i:=s+1) (by omega)
 have a:=zcH h (i:=j) (by omega)
 rcases Zg (vAt ns ((s+1:Nat):Int)) (vAt ns (j:Int))with ⟨e,c⟩ | ⟨e,c⟩ | e
 .rw[e];exact⟨a.1,c,b.2⟩
 .rw[e];exact⟨b.1,c,a.2⟩
 .exact absurd e f
theorem Vo.nodup (h:vG n ns)(g:Vo ns ts)(hl:ts.length < n):ts.Nodup:=by
  rw [h9,u0C]
  intro s s' hs hs' hlt e
  obtain ⟨j,hj,e1⟩:=g s ts[s] (u8 hs)
  obtain ⟨j',hj',e2⟩:=g s' ts[s'] (u8 hs')
  rw [e1,e2] at e
  have n1:=Zc h (i:=s'+1) (j:=s+1) (by omega) (by omega) (by omega)
  have n2:=Zc h (i:=s'+1) (j:=j) (by omega) (by omega) (by omega)
  have n3:=Zc h (i:=s+1) (j:=j) (by omega) (by omega) (by omega)
  have n4:=Zc h (i:=s'+1) (j:=j') (by omega) (by omega) (by omega)
  generalize vAt ns ((s'+1:Nat):Int)=a' at *
  generalize vAt ns ((s+1:Nat):Int)=a at *
  generalize vAt ns (j:Int)=b at *
  generalize vAt ns (j':Int)=b' at *
  rcases Zg a b with ⟨x1,c1⟩ | ⟨x1,c1⟩ | x1 <;> rcases Zg a' b' with ⟨x2,c2⟩ | ⟨x2,c2⟩ | x2 <;> first
    | exact n3 x1
    | exact n4 x2
    | (rw [x1,x2] at e
       have f1:=u0q Prod.fst e
       have f2:=u0q Prod.snd e
       simp only at f1 f2
       first | exact n1 f1.symm | exact n1 f2.symm | exact n2 f1.symm | exact n2 f2.symm)
def Vo.snoc (g:Vo ns ts){j:Nat}(e:j<=ts.length){t:Tie}(d:t=ZU (vAt ns ((ts.length+1:Nat):Int)) (vAt ns (j:Int))):Vo ns (ts++[t]):=by
 intro s u a
 by_cases c:s<ts.length
 .rw[u0b c]at a
  exact g s u a
 .rw[e9 (by omega)]at a
  by_cases b:s=ts.length
  .subst b
   simp at a
   exact⟨j,e,by rw[<-a,d]⟩
  .rw[u0E (by simp;omega)]at a
   cases a
def Vo.joined (h:vG n ns)(g:Vo ns ts)(C:ts.length+1=n){a:zv}(z:a.Perm ts):Zy (n:Int) a:=by
 have key:∀ s:Nat,s<n->∃ k,xr a (vAt ns ((0:Nat):Int)) k (vAt ns (s:Int)):=by
  intro s
  induction s using Nat.strongRecOn with
  | _ s A =>
   intro u
   cases s with
   | zero=>exact⟨0,.zero⟩
   | succ s =>
    have b:s<ts.length:=by omega
    obtain⟨j,B,e⟩:=g s ts[s] (u8 b)
    obtain⟨k,r⟩:=A j (by omega) (by omega)
    refine⟨k+1,.step r ?_⟩
    have f:ZU (vAt ns ((s+1:Nat):Int)) (vAt ns (j:Int))∈a:=by
     rw[<-e]
     exact z.mem_iff.mpr (u0s b)
    have y:=Zc h (i:=s+1) (j:=j) (by omega) (by omega) (by omega)
    rcases Zg (vAt ns ((s+1:Nat):Int)) (vAt ns (j:Int))with ⟨x,c⟩ | ⟨x,c⟩ | x
    .rw[x]at f;exact .inl f
    .rw[x]at f;exact .inr f
    .exact absurd x y
 have d:∀ v:Int,0<=v/\v<(n:Int)->∃ k,xr a (vAt ns ((0:Nat):Int)) k v:=λv q=>by
  obtain⟨s,u⟩:=List.mem_iff_getElem?.mp ((h.mem v).mpr q)
  obtain⟨l,o⟩:=t5.mp u
  have t:=h.len
  obtain⟨k,r⟩:=key s (by omega)
  rw[za9 l,o]at r
  exact⟨k,r⟩
 intro p v m q
 obtain⟨k,r⟩:=d p m
 obtain⟨j,w⟩:=d v q
 exact⟨_,r.back.cat w⟩
end
abbrev Yw :=zy (yx false 7 (zd wn (zb 6) (zb 4)))
  (zy (yx false 6 (zd xm (zb 6) (zb 4)))
  (zy (sIf (tOf (zd vC (zd wn (zd xm (zb 0) (zb 1)) (eC (.int 2))) (eC (.int 1)))) (yx false 7 (eFn zfm (za (eC (.int 0)) (za (zd wm (zd wm (zb 4) (eC (.int 1))) (zd wn (zh 2 yD (za (zb 0) (za (zd y3 (eC (.int 60)) (zb 4)) ze))) (eC (.int 3)))) ze)))) zF)
  (Xe false 5 (yq (za (eFn zkx (za (zd ixD (zb 3) (zb 4)) (za (zd ixD (zb 3) (zb 7)) ze))) (za (eFn zfm (za (zd ixD (zb 3) (zb 4)) (za (zd ixD (zb 3) (zb 7)) ze))) ze))))))
abbrev Yz :=zn1 false 3 (zd wn (zh 2 yD (za (zb 0) (za (zd y3 (eC (.int 40)) (zb 4)) ze))) (zd y3 (zb 4) (eC (.int 1)))) (zb 4)
abbrev vy :=zy (yx false 2 (zd y3 (eC (.int 1)) (zd wn (zb 0) (zb 1))))
  (zy (vH 3 (zS ze))
  (zy (xb xD (za (zb 2) ze) (z9 4) Yz)
  (sFz 3 (zy (vH 5 (zS ze))
  (zy (yx false 6 (zd xm (zb 0) (zb 1)))
  (zy (xb XA (za (eC (.int 1)) (za (zb 2) ze)) (z9 4) Yw)
  (sFz 5 (zO (yq (za (zb 2) (za (eFn yo (za (yc (fFn YG (za (zb 5) ze))) ze)) ze)))))))))))
def vA:=fnD 8 vy
def zfO {mo:Int}(P:1<=mo)(h8:mo<=8):∃ f,vA [.int c,.int mo]=some (zm (1+c%mo) f)/\zG (1+c%mo) f/\Zy (1+c%mo) f/\(f.length:Int)=1+c%mo-1:=by
 obtain⟨g1,g2⟩:=vu (a:=c) (zgO P) rfl
 obtain⟨n,y⟩:∃ n:Nat,1+c%mo=((n+1:Nat):Int):=⟨(c%mo).toNat,by omega⟩
 obtain⟨m,G⟩:∃ m:Int,1+c%mo=m:=⟨_,rfl⟩
 obtain⟨q,J⟩:∃ q:Int,c/mo=q:=⟨_,rfl⟩
 rw[G]
 rw[G]at y
 have z:=zgO P
 have C:n<=7:=by omega
 have H:mo<1606938044258990275541962092341162602522202993782792835301376:=by omega
 clear g1 g2 h8
 have key:=zkR (m:=8) (g:=vy) (ds:=[.int c,.int mo]) (R:=λd=>∃ (b:zc) (f:zv),d=zm m (Xb f)/\vG (n+1) b/\Vo b f/\f.length=n) (ρ:=[.v (.int c),.v (.int mo),.no,.no,.no,.no,.no,.no]) rfl ?_
 .obtain⟨d,e,b,f,rfl,o,w,T⟩:=key
  have K:=zar f
  refine⟨_,e,⟨by omega,by omega,λt Y=>?_,zcs (w.nodup o (by omega))⟩,?_,by rw[K.length_eq];omega⟩
  .have:=w.rng o (by omega) t (K.mem_iff.mp Y)
   rw[y]
   exact this
  .rw[y]
   exact w.joined o (by omega) K
 unfold vy
 have Q:∀ k:Int,yD [.int c,.int k]=some (.int (zdf c k)):=λk=>rfl
 have e0:wn (.int c) (.int mo)=some (.int (c%mo)):=wc z
 have N:xm (.int c) (.int mo)=some (.int q):=by rw[WC z H,J]
 refine zo (ρ':=[.v (.int c),.v (.int mo),.v (.int m),.no,.no,.no,.no,.no]) (by simp[yx,vEv,visF,Sl.f,zd,zb,eC,e0,ym,G]) ?_
 refine zo (ρ':=[.v (.int c),.v (.int mo),.v (.int m),.o (([]:zc).map .int),.no,.no,.no,.no]) rfl ?_
 refine yn (Ys (lo:=0) (c:=n+1) (λi ρ=>∃ (b:zc) (p:Sl),ρ=[.v (.int c),.v (.int mo),.v (.int m),.o (b.map .int),p,.no,.no,.no]/\vG i b) ?_ ⟨[],_,rfl,rfl,u04,λx=>by simp <;> omega⟩ ?_ ?_)
 .show xD [.int m]=_
  exact zpI y C
 .rintro i ρ hi ⟨b,p,rfl,o⟩
  obtain⟨x,M⟩:∃ x:Int,(0:Int)+(i:Int)=x:=⟨_,rfl⟩
  rw[M]
  refine⟨_,rfl,?_⟩
  unfold Yz
  obtain⟨j,S⟩:∃ j:Int,zdf c (40+x)%(x+1)=j:=⟨_,rfl⟩
  have F:0<x+1:=by omega
  obtain⟨O,j1⟩:=vu F S
  have L:wn (.int (zdf c (40+x))) (.int (x+1))=some (.int j):=by rw[wc F,S]
  have I:y3 (.int 40) (.int x)=some (.int (40+x)):=rfl
  have a2:y3 (.int x) (.int 1)=some (.int (x+1)):=rfl
  have T:=o.len
  refine w3 (ρ':=[.v (.int c),.v (.int mo),.v (.int m),.o ((znP b j x).map .int),.v (.int x),.no,.no,.no]) ?_ ⟨_,_,rfl,o.ins j (by omega)⟩
  rw[zoF (ds:=b.map .int) (d:=.int x) (k:=j) ?_ rfl rfl (by rw[u4];omega) O (by omega),zgr]
  .rfl
  .have u:=Q (40+x)
   generalize zdf c (40+x)=sx at *
   simp[vEv,visF,Sl.f,zd,zh,za,ze,zb,eC,I,a2,u,L]
 .rintro ρ ⟨b,p,rfl,o⟩
  have T:=o.len
  refine zdW (ρ':=[.v (.int c),.v (.int mo),.v (.int m),.v (.lst (b.map .int)),p,.no,.no,.no]) rfl ?_
  refine zo (ρ':=[.v (.int c),.v (.int mo),.v (.int m),.v (.lst (b.map .int)),p,.o (([]:zv).map zi),.no,.no]) rfl ?_
  refine zo (ρ':=[.v (.int c),.v (.int mo),.v (.int m),.v (.lst (b.map .int)),p,.o (([]:zv).map zi),.v (.int q),.no]) (yW N) ?_
  refine yn (Ys (lo:=1) (c:=n) (λi ρ=>∃ (f:zv) (l:Int) (p A:Sl),ρ=[.v (.int c),.v (.int mo),.v (.int m),.v (.lst (b.map .int)),p,.o (f.map zi),.v (.int l),A]/\Vo b f/\f.length=i) ?_ ⟨[],q,_,_,rfl,λs t h=>by simp at h,rfl⟩ ?_ ?_)
  .show XA [.int 1,.int m]=_
   exact zpO y C
  .rintro i ρ hi ⟨f,l,p,A,rfl,w,v⟩
   obtain⟨x,M⟩:∃ x:Int,(1:Int)+(i:Int)=x:=⟨_,rfl⟩
   rw[M]
   refine⟨[.v (.int c),.v (.int mo),.v (.int m),.v (.lst (b.map .int)),.v (.int x),.o (f.map zi),.v (.int l),A],rfl,?_⟩
   unfold Yw
   have E:0<x:=by omega
   have L:wn (.int l) (.int x)=some (.int (l%x)):=wc E
   have m2:xm (.int l) (.int x)=some (.int (l/x)):=WC E (by omega)
   refine zo (ρ':=[.v (.int c),.v (.int mo),.v (.int m),.v (.lst (b.map .int)),.v (.int x),.o (f.map zi),.v (.int l),.v (.int (l%x))]) (yW L) ?_
   refine zo (ρ':=[.v (.int c),.v (.int mo),.v (.int m),.v (.lst (b.map .int)),.v (.int x),.o (f.map zi),.v (.int (l/x)),.v (.int (l%x))]) (yW m2) ?_
   refine zqJ (fun ρ=>∃ j:Int,ρ=[.v (.int c),.v (.int mo),.v (.int m),.v (.lst (b.map .int)),.v (.int x),.o (f.map zi),.v (.int (l/x)),.v (.int j)]/\0<=j/\j<x) ?_ ?_
   .have m3:wn (.int q) (.int 2)=some (.int (q%2)):=wc (by decide)
    have W:vC (.int (q%2)) (.int 1)=some (.bl (decide (q%2=1))):=rfl
    refine ZB (c:=decide (q%2=1)) (by simp[tOf,zd,zb,visG,Sl.g,eC,N,m3,W,asB]) (λ_=>?_) (λ_=>w3 rfl ⟨_,rfl,(vu E rfl).1,(vu E rfl).2⟩)
    obtain⟨r,U⟩:∃ r:Int,zdf c (60+x)%3=r:=⟨_,rfl⟩
    have r0:=(vu (by decide) U).1
    have V:wn (.int (zdf c (60+x))) (.int 3)=some (.int r):=by rw[wc (by decide),U]
    have I:y3 (.int 60) (.int x)=some (.int (60+x)):=rfl
    have Z:wm (.int x) (.int 1)=some (.int (x-1)):=rfl
    have X:wm (.int (x-1)) (.int r)=some (.int (x-1-r)):=rfl
    have F:zfm [.int 0,.int (x-1-r)]=some (.int (if x-1-r>0 then x-1-r else 0)):=rfl
    refine w3 (ρ':=[.v (.int c),.v (.int mo),.v (.int m),.v (.lst (b.map .int)),.v (.int x),.o (f.map zi),.v (.int (l/x)),.v (.int (if x-1-r>0 then x-1-r else 0))]) ?_ ⟨_,rfl,by split <;> omega,by split <;> omega⟩
    have u:=Q (60+x)
    generalize zdf c (60+x)=sx at *
    generalize (if x-1-r>0 then x-1-r else 0)=mx at *
    simp[yx,vEv,visF,Sl.f,eFn,zd,zh,za,ze,zb,eC,I,u,V,Z,X,F]
   .rintro ρ ⟨j,rfl,O,j1⟩
    have ex:=WI (ns:=b) (i:=x) (by omega) (by omega)
    have ej:=WI (ns:=b) (i:=j) (by omega) (by omega)
    have D:zkx [.int (vAt b x),.int (vAt b j)]=some (.int (ZU (vAt b x) (vAt b j)).1):=rfl
    have B:zfm [.int (vAt b x),.int (vAt b j)]=some (.int (ZU (vAt b x) (vAt b j)).2):=rfl
    refine w3 (ρ':=[.v (.int c),.v (.int mo),.v (.int m),.v (.lst (b.map .int)),.v (.int x),.o ((f++[ZU (vAt b x) (vAt b j)]).map zi),.v (.int (l/x)),.v (.int j)]) ?_ ⟨_,_,_,_,rfl,w.snoc (j:=j.toNat) (by omega) ?_,by rw[j5,v];rfl⟩
    .generalize ZU (vAt b x) (vAt b j)=tt at *
     rw[Xj (ds:=f.map zi) (d:=zi tt) ?_ rfl (by rw[u4];omega),o0]
     .rfl
     .simp[vEv,visF,Sl.f,yq,eFn,za,ze,zd,zb,ixD,ex,ej,D,B,yN]
      rfl
    .rw[show((f.length+1:Nat):Int)=x by omega,show((j.toNat:Nat):Int)=j by omega]
  .rintro ρ ⟨f,l,p,A,rfl,w,v⟩
   have e5:=zfQ (ts:=f) (by omega)
   refine zdW (ρ':=[.v (.int c),.v (.int mo),.v (.int m),.v (.lst (b.map .int)),p,.v (.lst (f.map zi)),.v (.int l),A]) rfl ?_
   refine wC (d:=zm m (Xb f)) ?_ ⟨b,f,rfl,o,w,v⟩
   simp[zO,visG,Sl.g,yq,eFn,yc,fFn,za,ze,zb,e5,yo,yN]
   rfl
def WV (T:Txt P w K mg base ad):T.Pr 51 2 2 vA:=by
 have:=X7 T
 walk_at "p"
abbrev Row:=Int × Int × Int
abbrev Gp:=(Int × Int) × List Row
def wAt (rows:List Row)(x:Int):Int:=((rows.filter λr=>decide (r.1=x)).map λr=>r.2.2).sum
def zc4 (rows:List Row):Int:=(rows.map λr=>r.2.2).sum
def xa:List Gp->Int
 | []=>1
 | g::r=>g.1.2*xa r
def Wv (n:List Row->Int)(W:Int):List Gp->Int
 | []=>0
 | g::r=>n g.2*g.1.1*(W/g.1.2)+Wv n W r
def shF (n:List Row->Int):List Gp->Int->Int->Int × Int
 | [],t,b=>(t,b)
 | g::r,t,b=>shF n r (t*g.1.2+b*g.1.1*n g.2) (b*g.1.2)
def zj4 (a:List Gp):Prop:=∀ g∈a,1<=g.1.2/\g.1.2<=7/\1<=g.1.1/\g.1.1<=5
def zj4.tl {g:Gp}(h:zj4 (g::r)):zj4 r:=λx a=>h x (.tail _ a)
def Vr:∀ {a:List Gp},zj4 a->1<=xa a
 | [],_=>by decide
 | g::r,h=>by
  have c:=(h g (.head _)).1
  have b:=Vr h.tl
  have:=Int.mul_le_mul c b (by decide) (by omega)
  simpa [xa]using this
def ze3:∀ {a:List Gp},zj4 a->xa a<=7^a.length
 | [],_=>by decide
 | g::r,h=>by
  have c:=(h g (.head _)).2.1
  have b:=ze3 h.tl
  have d:=Vr h.tl
  show g.1.2*xa r<=7^(r.length+1)
  rw[u2Q,u1u]
  exact Int.mul_le_mul b c (by have:=(h g (.head _)).1;omega) (by have:(0:Int)<=7^r.length:=Int.pow_nonneg (by decide);exact this)
def ze1:∀ {a:List Gp} {g:Gp},g∈a->g.1.2∣xa a
 | _::r,g,h=>by
  rcases t6.mp h with e | e
  .rw[e];exact⟨xa r,rfl⟩
  .exact Int.dvd_trans (ze1 e) ⟨_,u1u _ _⟩
def zeu (n:List Row->Int)(c P:Int):∀ (a:List Gp),(∀ g∈a,g.1.2∣P)->Wv n (c*P) a=c*Wv n P a
 | [],_=>by simp[Wv]
 | g::r,h=>by
  have b:=zeu n c P r λx d=>h x (.tail _ d)
  show n g.2*g.1.1*(c*P/g.1.2)+Wv n (c*P) r=c*(n g.2*g.1.1*(P/g.1.2)+Wv n P r)
  rw[b,Int.mul_ediv_assoc c (h g (.head _)),u3C]
  congr 1
  ac_rfl
def zl3 (n:List Row->Int):∀ (a:List Gp) (t b:Int),zj4 a->shF n a t b=(t*xa a+b*Wv n (xa a) a,b*xa a)
 | [],t,b,_=>by simp[shF,xa,Wv]
 | g::r,t,b,h=>by
  have c:=zl3 n r (t*g.1.2+b*g.1.1*n g.2) (b*g.1.2) h.tl
  have e:=(h g (.head _)).1
  show shF n r (t*g.1.2+b*g.1.1*n g.2) (b*g.1.2)=(t*(g.1.2*xa r)+b*(n g.2*g.1.1*(g.1.2*xa r/g.1.2)+Wv n (g.1.2*xa r) r),b*(g.1.2*xa r))
  rw[c,zeu n g.1.2 (xa r) r λx d=>ze1 d,Int.mul_ediv_cancel_left _ (by omega)]
  refine u2v ?_ ?_
  .simp only[Int.add_mul,u3C]
   ac_rfl
  .simp only[u3b]
def zmO (h:zj4 a):shF n a 0 1=(Wv n (xa a) a,xa a):=by
 rw[zl3 n a 0 1 h]
 simp
def zed (n:List Row->Int)(g:Gp):∀ (a:List Gp) (t b:Int),shF n (a++[g]) t b=((shF n a t b).1*g.1.2+(shF n a t b).2*g.1.1*n g.2,(shF n a t b).2*g.1.2)
 | [],t,b=>rfl
 | h::r,t,b=>zed n g r _ _
def zi5 (n:List Row->Int)(W:Int)(g:Gp):∀ (a:List Gp),Wv n W (a++[g])=Wv n W a+n g.2*g.1.1*(W/g.1.2)
 | []=>by simp[Wv]
 | h::r=>by
  show _+Wv n W (r++[g])=_+Wv n W r+_
  rw[zi5 n W g r,Int.add_assoc]
def zbo (rows:List Row)(r:Row)(x:Int):wAt (r::rows) x=(if r.1=x then r.2.2 else 0)+wAt rows x:=by
 unfold wAt
 rw[u3i]
 by_cases h:r.1=x <;> simp[h]
def zls {rows:List Row}(h:∀ r∈rows,0<=r.2.2)(x:Int):0<=wAt rows x:=by
 induction rows with
 | nil=>exact u0T _
 | cons r rows a =>
  rw[zbo]
  have d:=h r (.head _)
  have c:=a λy b=>h y (.tail _ b)
  split <;> omega
def zoP {rows:List Row}{A:Int}(d:0<=A)(h:∀ r∈rows,0<=r.2.2/\r.2.2<=A)(x:Int):wAt rows x<=rows.length*A:=by
 induction rows with
 | nil=>simp[wAt]
 | cons r rows a =>
  rw[zbo,k4]
  have e:=h r (.head _)
  have c:=a λy b=>h y (.tail _ b)
  have:((rows.length+1:Nat):Int)*A=(rows.length:Int)*A+A:=by rw[Int.natCast_add,Int.add_mul];simp
  split <;> omega
def yz (r:Row):D:=.tup [.int r.1,.int r.2.1,.int r.2.2]
abbrev Kn:=List (Int × Int)
def knK (a:Kn):List (List Key):=a.map λp=>[.inl p.1]
def knV (a:Kn):zk:=a.map λp=>.int p.2
def VP:Kn->Int->zX
 | [],_=>none
 | q::r,p=>if q.1=p then some q.2 else VP r p
def zp9 {a b:Int}(h:¬ a=b):¬ ([Sum.inl a]:List Key)=[.inl b]:=λe=>h (by injection e with e;injection e)
def W8 (p:Int):∀ a:Kn,VL (knK a) (knV a) [.inl p]=(VP a p).map .int
 | []=>rfl
 | q::r=>by
  refine Vu.trans ?_
  show(if ([Sum.inl q.1]:List Key)=[.inl p]then some (D.int q.2)else VL (knK r) (knV r) [.inl p])=(if q.1=p then some q.2 else VP r p).map .int
  by_cases h:q.1=p
  .rw[u9 (by rw[h]),u9 h];rfl
  .rw[t9 (zp9 h),t9 h];exact W8 p r
def zkh {w:Int}(h:VP a p=none):zdV (knK a) (knV a) [.inl p]=knK (a++[(p,w)]):=by
 unfold zdV
 rw[W8,h,t9 (by decide)]
 unfold knK
 rw[o0]
 rfl
def zkG {w:Int}(h:VP a p=none):zda (knK a) (knV a) [.inl p] (.int w)=knV (a++[(p,w)]):=by
 unfold zda
 rw[W8,h,t9 (by decide)]
 unfold knV
 rw[o0]
 rfl
def zl4 (a:Bool)(p:Int)(b:Kn):zmQ a (.int p) (.dct false false (knK b) (knV b))=some (.bl (a != (VP b p).isSome)):=by
 show some (D.bl (a != (VL (knK b) (knV b) [.inl p]).isSome))=_
 rw[W8,u12]
def zmr (p:Int)(a:Kn):zgx (.dct false false (knK a) (knV a)) (.int p)=(VP a p).map .int:=W8 p a
def znd {i:Nat}{b:zQ}{ρ:SE}{kn:Kn}{w:Int}(k:vEv m c ρ=some (.int w))(g:b (visG ρ)=some (.int p))(h:ρ[i]?=some (.m false (knK kn) (knV kn)))(d:VP kn p=none)(j:kn.length<=1000)(f:ρ.set i (.m false (knK (kn++[(p,w)])) (knV (kn++[(p,w)])))=a):zh2 m i b c ρ=.nx a:=by
 have e:zpF ρ i (.int p) (.int w)=some a:=by
  unfold zpF
  rw[h]
  show(if decide ((knK kn).length<sizeLine)=true then some (ρ.set i (.m false (zdV (knK kn) (knV kn) [.inl p]) (zda (knK kn) (knV kn) [.inl p] (.int w))))else none)=_
  rw[u9 (j0 (Y5 (by unfold knK;rw[u4];exact j))),zkh (w:=w) d,zkG d,f]
 unfold zh2
 rw[k,j7,g,j7,e]
def YO (c:zv)(a:Int)(b:Kn)(r:Row):Bool :=
 decide (ZU r.1 r.2.1∈c)&&decide (1<=r.2.2)&&!decide (r.1=a)&&!(VP b r.1).isSome&&(decide (r.2.1=a)||((VP b r.2.1).isSome&&decide (2*r.2.2<=(VP b r.2.1).getD 0)))
def wo (b:zv)(a:Int):Kn->List Row->Bool
 | _,[]=>true
 | kn,r::rs=>YO b a kn r&&wo b a (kn++[(r.1,r.2.2)]) rs
def wL (b:zv)(a:Int)(rows:List Row):Bool:=!rows.isEmpty&&wo b a [] rows
def Wc (rows:List Row):Kn:=rows.map λr=>(r.1,r.2.2)
def zae:∀ {rows:List Row} {c:Kn},wo b a c rows=true->∀ r∈rows,ZU r.1 r.2.1∈b/\1<=r.2.2/\r.1≠a
 | r::rs,c,h,x,hx=>by
  unfold wo at h
  rw[r4]at h
  rcases t6.mp hx with e | e
  .subst e
   have h:=h.1
   unfold YO at h
   simp only[r4,j3,u0w,p6]at h
   exact⟨h.1.1.1.1,h.1.1.1.2,h.1.1.2⟩
  .exact zae h.2 x e
def zjF (ok:zG m c)(h:ZU a b∈c):(0<=a/\a<m)/\(0<=b/\b<m)/\a≠b:=by
 have:=ok.rng _ h
 unfold ZU at this
 dsimp only at this
 split at this <;> split at this <;> omega
abbrev zbC :=zO (Y7 (zh 2 y8 (za (zd ixD (zb 0) (eC (.int 0))) (za (zb 1) ze))) (zd inD (zh 2 yg (za (zd ixD (zb 1) (eC (.int 0))) (za (zd ixD (zb 1) (eC (.int 1))) ze))) (zd ixD (zb 0) (eC (.int 1)))))
def Xd:=fnD 2 zbC
def zfR (ok:zG m d)(a b:Int):Xd [zm m d,.tup [.int a,.int b]]=some (.bl (decide (ZU a b∈d))):=by
 have f:y8 [.int m,.tup [.int a,.int b]]=some (.bl (inR m a&&inR m b&&!decide (a=b))):=rfl
 have g:yg [.int a,.int b]=some (zi (ZU a b)):=rfl
 have i:=zeI (ZU a b) d
 have n:ixD (zm m d) (.int 0)=some (.int m):=rfl
 have o:ixD (zm m d) (.int 1)=some (.tup (d.map zi)):=rfl
 have k:ixD (.tup [.int a,.int b]) (.int 0)=some (.int a):=rfl
 have p:ixD (.tup [.int a,.int b]) (.int 1)=some (.int b):=rfl
 refine YE (ρ:=[.v (zm m d),.v (.tup [.int a,.int b])]) rfl ?_
 unfold zbC
 refine wC (xc ?_) rfl
 cases e:inR m a&&inR m b&&!decide (a=b) with
 | true =>
  rw[e]at f
  show(((y8 [.int m,.tup [.int a,.int b]]).bind asB).bind λc=>if c=true then ((yg [.int a,.int b]).bind λt=>inD t (.tup (d.map zi)))else some (D.bl false))=_
  rw[f,g]
  exact i
 | false =>
  have:¬ ZU a b∈d:=λh=>by
   obtain⟨q,j,l⟩:=zjF ok h
   have:(inR m a&&inR m b&&!decide (a=b))=true:=by
    unfold inR
    simp only[r4,j3,u0w,p6]
    omega
   rw[this]at e
   cases e
  rw[j8 this]
  rw[e]at f
  show(((y8 [.int m,.tup [.int a,.int b]]).bind asB).bind λc=>if c=true then ((yg [.int a,.int b]).bind λt=>inD t (.tup (d.map zi)))else some (D.bl false))=_
  rw[f]
  rfl
def zfx (T:Txt P w K mg base ad):T.Pr 17 5 2 Xd:=by
 have:=zau T
 have:=ZA T
 walk_at "q"
abbrev YI :=zy (sIf (vI (zZ (tOf (eUn (yK .tuple) (zb 3)))) (tOf (zd neD (eFn vF (za (zb 3) ze)) (eC (.int 3))))) (zO (eC (.bl false))) zF)
  (zy (sIf (vI (zZ (tOf (zh 2 Xd (za (zb 0) (za (eSl slD (zb 3) wW (x0 (eC (.int 2)))) ze))))) (vI (zZ (tOf (zh 1 xo (za (zd ixD (zb 3) (eC (.int 2))) ze)))) (tOf (zd ltD (zd ixD (zb 3) (eC (.int 2))) (eC (.int 1)))))) (zO (eC (.bl false))) zF)
  (zy (sIf (vI (tOf (zd vC (zd ixD (zb 3) (eC (.int 0))) (zb 1))) (tOf (zd (zmQ false) (zd ixD (zb 3) (eC (.int 0))) (zb 2)))) (zO (eC (.bl false))) zF)
  (zy (sIf (tOf (zd vC (zd ixD (zb 3) (eC (.int 1))) (zb 1))) (zO (eC (.bl true))) zF)
  (zO (Y7 (zd (zmQ false) (zd ixD (zb 3) (eC (.int 1))) (zb 2)) (zd leD (zd xM (eC (.int 2)) (zd ixD (zb 3) (eC (.int 2)))) (zd zgx (zb 2) (zd ixD (zb 3) (eC (.int 1))))))))))
def xX:=fnD 4 YI
def zbh (ok:zG m e)(d:Kn)(r:Row):xX [zm m e,.int root,.dct false false (knK d) (knV d),yz r]=some (.bl (YO e root d r)):=by
 obtain⟨p,i,w⟩:=r
 have j:=zfR ok p i
 have o:xo [.int w]=some (.bl true):=rfl
 have s:ixD (yz (p,i,w)) (.int 0)=some (.int p):=rfl
 have t:ixD (yz (p,i,w)) (.int 1)=some (.int i):=rfl
 have n:ixD (yz (p,i,w)) (.int 2)=some (.int w):=rfl
 have q:slD (yz (p,i,w)) none (some 2)=some (.tup [.int p,.int i]):=rfl
 have l:=zl4 false p d
 have g:=zl4 false i d
 have f:=zmr i d
 have k:xM (.int 2) (.int w)=some (.int (2*w)):=zhC (by decide) (by decide)
 refine YE (ρ:=[.v (zm m e),.v (.int root),.v (.dct false false (knK d) (knV d)),.v (yz (p,i,w))]) rfl ?_
 unfold YI YO
 refine zo (ρ':=[.v (zm m e),.v (.int root),.v (.dct false false (knK d) (knV d)),.v (yz (p,i,w))]) rfl ?_
 refine yn (ZB (c:=!(decide (ZU p i∈e)&&decide (1<=w))) ?_ (λz=>wC rfl ?_) λz=>w3 rfl ?_)
 .show(((Xd [zm m e,.tup [.int p,.int i]]).bind asB).map (!·)).bind (λc=>if c=true then some true else (some false).bind λc=>if c=true then some true else some (decide (w<1)))=_
  rw[j]
  have c:decide (w<1)=!decide (1<=w):=by
   by_cases h:1<=w
   .rw[j0 h,j8 (by omega)];rfl
   .rw[j8 h,j0 (by omega)];rfl
  rw[c]
  cases decide (ZU p i∈e) <;> rfl
 .rw[u0w]at z
  rw[z]
  rfl
 rw[u2N]at z
 rw[z]
 refine yn (ZB (c:=decide (p=root)||(VP d p).isSome) ?_ (λz=>wC rfl ?_) λz=>w3 rfl ?_)
 .show((some (decide (p=root))).bind λc=>if c=true then some true else ((zmQ false (.int p) (.dct false false (knK d) (knV d))).bind asB))=_
  rw[l]
  cases decide (p=root) <;> cases (VP d p).isSome <;> rfl
 .revert z
  cases decide (p=root) <;> cases (VP d p).isSome <;> intro z <;> first | rfl | cases z
 rw[Bool.or_eq_false_iff]at z
 rw[z.1,z.2]
 refine yn (ZB (c:=decide (i=root)) ?_ (λz=>wC rfl ?_) λz=>w3 rfl ?_)
 .rfl
 .rw[z];rfl
 rw[z]
 refine wC (xc ?_) rfl
 cases h:VP d i with
 | none =>
  rw[h]at g
  show(((zmQ false (.int i) (.dct false false (knK d) (knV d))).bind asB).bind λc=>if c=true then _ else some (D.bl false))=_
  rw[g]
  rfl
 | some u =>
  rw[h]at g f
  have f:zgx (.dct false false (knK d) (knV d)) (.int i)=some (.int u):=f
  show(((zmQ false (.int i) (.dct false false (knK d) (knV d))).bind asB).bind λc=>if c=true then ((xM (.int 2) (.int w)).bind λa=>(zgx (.dct false false (knK d) (knV d)) (.int i)).bind λb=>leD a b)else some (D.bl false))=_
  rw[g,k,f]
  rfl
def Wr (T:Txt P w K mg base ad):T.Pr 37 6 4 xX:=by
 have:=ZS T
 have:=zfx T
 walk_at "p"
def ziB {rows:List Row}{i:Nat}(c:rows[i]?=some r)(h:wo b a (Wc (rows.take i)) (rows.drop i)=wo b a [] rows) :
 wo b a [] rows=(YO b a (Wc (rows.take i)) r&&wo b a (Wc (rows.take (i+1))) (rows.drop (i+1))):=by
 have d:i<rows.length:=(t5.mp c).1
 have e:rows[i]=r:=(t5.mp c).2
 rw[<-h,u0B d,e]
 show(YO b a (Wc (rows.take i)) r&&_)=_
 have:Wc (rows.take (i+1))=Wc (rows.take i)++[(r.1,r.2.2)]:=by
  unfold Wc
  rw[u05,c,o0]
  rfl
 rw[this]
def zmE {rows:List Row}(h:rows.length<=1000):(Wc (rows.take i)).length<=1000:=by
 unfold Wc
 rw[u4]
 exact o5 (List.length_take_le' ..) h
def zii {rows:List Row}{i:Nat}(a:rows[i]?=some r):Wc (rows.take i)++[(r.1,r.2.2)]=Wc (rows.take (i+1)):=by
 unfold Wc
 rw[u05,a,o0]
 rfl
def zid (h:YO b a kn r=true):VP kn r.1=none:=by
 unfold YO at h
 simp only[r4,u0w]at h
 cases e:VP kn r.1 with
 | none=>rfl
 | some x =>
  rw[e]at h
  have c:(some x).isSome=false:=h.1.2
  cases c
def zfH {rows:List Row}:decide (((rows.map yz).length:Int)=0)=rows.isEmpty:=by
 cases rows with
 | nil=>rfl
 | cons r a=>exact j8 (by rw[u4,k4];omega)
abbrev vb :=zy (sIf (zZ (tOf (zh 4 xX (za (zb 0) (za (zb 1) (za (zb 3) (za (zb 4) ze))))))) (zO (eC (.bl false))) zF)
  (zh2 false 3 (zd ixD (zb 4) (eC (.int 0))) (zd ixD (zb 4) (eC (.int 2))))
abbrev vM :=zy (sIf (vI (zZ (tOf (eUn (yK .list) (zb 2)))) (tOf (zd vC (eFn vF (za (zb 2) ze)) (eC (.int 0))))) (zO (eC (.bl false))) zF)
  (zy (zmi false 3)
  (zy (Zd (iOf (zb 2)) (z9 4) vb)
  (sFz 3 (zO (eC (.bl true))))))
def xp:=fnD 5 vM
def VV {rows:List Row}(ok:zG m a)(j:rows.length<=1000):xp [zm m a,.int root,.lst (rows.map yz)]=some (.bl (wL a root rows)):=by
 refine YE (ρ:=[.v (zm m a),.v (.int root),.v (.lst (rows.map yz)),.no,.no]) rfl ?_
 unfold vM wL
 refine yn (ZB (c:=rows.isEmpty) ?_ (λz=>wC rfl ?_) λz=>w3 rfl ?_)
 .rw[<-zfH]
  rfl
 .rw[z];rfl
 rw[z]
 refine zo (ρ':=[.v (zm m a),.v (.int root),.v (.lst (rows.map yz)),.m false (knK []) (knV []),.no]) rfl ?_
 refine yn (ZN (ds:=rows.map yz) (λi ρ=>∃ e,ρ=[.v (zm m a),.v (.int root),.v (.lst (rows.map yz)),.m false (knK (Wc (rows.take i))) (knV (Wc (rows.take i))),e]/\wo a root (Wc (rows.take i)) (rows.drop i)=wo a root [] rows) rfl ⟨_,rfl,rfl⟩ ?_ ?_)
 .rintro i d ρ g ⟨e,rfl,b⟩
  rw[q0]at g
  obtain⟨r,h,rfl⟩:=u7.mp g
  have f:=ziB h b
  have k:=zbh (root:=root) ok (Wc (rows.take i)) r
  refine⟨[.v (zm m a),.v (.int root),.v (.lst (rows.map yz)),.m false (knK (Wc (rows.take i))) (knV (Wc (rows.take i))),.v (yz r)],rfl,?_⟩
  unfold vb
  refine yn (ZB (c:=!YO a root (Wc (rows.take i)) r) ?_ (λz=>wC rfl ?_) λz=>w3 rfl ?_)
  .show((xX [zm m a,.int root,.dct false false (knK (Wc (rows.take i))) (knV (Wc (rows.take i))),yz r]).bind asB).map (!·)=_
   rw[k]
   rfl
  .rw[u0w]at z
   rw[f,z]
   rfl
  .rw[u2N]at z
   refine w3 (znd (kn:=Wc (rows.take i)) (p:=r.1) (w:=r.2.2) rfl rfl rfl (zid z) (zmE j) rfl) ⟨.v (yz r),?_,?_⟩
   .rw[zii h];rfl
   .rw[f,z];rfl
 .rintro ρ ⟨e,rfl,b⟩
  rw[u4,u2i]at b
  refine zdW rfl (wC rfl ?_)
  rw[<-b]
  rfl
def Xr (T:Txt P w K mg base ad):T.Pr 38 7 3 xp:=by
 have:=Wr T
 walk_at "p"
def zgC {c b:vz}{g:zT}(e:c ρ=none)(d:g ρ=.nx a)(f:b a=some j):zm7 c g b ρ=some j:=by
 unfold zm7
 rw[e,d]
 exact f
def zj0 {a:vz}{g:zT}{h:Nat->Option D}(e:a ρ=some j)(b:h j=some d):zot a g h ρ=.rt d:=by
 unfold zot
 rw[e]
 show(match h j with | some d=>Ctl.rt d | none=>.no)=_
 rw[b]
def yw (m:Int)(b:zv)(a:zc)(x:Int):zC:=(nbN m b x).filter λo:Nat=>decide (vAt a x<vAt a (o:Int))
def Z5 {o:Nat}(h:o∈nbN m a x):(o:Int)<m:=by
 unfold nbN at h
 have:=j6.mp (o6.mp h).1
 omega
def zen (ok:zG m a):(nbN m a x).length<=8:=zf6 ok
def q_nb (ok:zG m a):yi [zm m a,.int x]=some (.lst ((nbN m a x).map zM)):=by
 simp only[yi]
 rw[u9 ((xj _).mpr ⟨_,_,rfl,ok⟩),WN,Vn]
def xC (m:Int)(a:zv)(b:zc)(i:Nat):zk:=(List.range i).map λx:Nat=>.lst ((yw m a b (x:Int)).map zM)
abbrev wA :=Xe false 3 (yc (fLC (iOf (zh 2 yi (za (zb 0) (za (zb 4) ze)))) b1 (tOf (zd gtD (zd ixD (zb 3) (zb 0)) (zd ixD (zb 3) (zb 5)))) (zb 0)))
abbrev vr :=zy (yx false 2 (zh 2 wX (za (zb 0) (za (zb 1) ze))))
  (zy (vH 3 (zS ze))
  (zy (xb xD (za (zd ixD (zb 0) (eC (.int 0))) ze) (z9 4) wA)
  (sFz 3 (zO (zb 3)))))
def ya:=fnD 5 vr
def zbf {m:Int}{f:zv}{p:Int}{e:zc}(ok:zG m f)(t:0<=p/\p<m)(k:vg m f p=e.map some)(g:(e.length:Int)=m):ya [zm m f,.int p]=some (.lst (xC m f e m.toNat)):=by
 have w:=ok.lo
 have v:=ok.hi
 have y:ixD (zm m f) (.int 0)=some (.int m):=rfl
 have n:=vx ok t
 rw[k,WA]at n
 refine YE (ρ:=[.v (zm m f),.v (.int p),.no,.no,.no]) rfl ?_
 unfold vr
 refine zo (ρ':=[.v (zm m f),.v (.int p),.v (.lst (e.map .int)),.no,.no]) (yW n) ?_
 refine zo (ρ':=[.v (zm m f),.v (.int p),.v (.lst (e.map .int)),.o [],.no]) rfl ?_
 refine yn (Ys (lo:=0) (c:=m.toNat) (λi ρ=>∃ h,ρ=[.v (zm m f),.v (.int p),.v (.lst (e.map .int)),.o (xC m f e i),h]) ?_ ⟨_,rfl⟩ ?_ ?_)
 .show xD [.int m]=_
  exact wN ok
 .rintro i ρ u ⟨h,rfl⟩
  obtain⟨x,q⟩:∃ x:Int,(0:Int)+(i:Int)=x:=⟨_,rfl⟩
  rw[q]
  refine⟨[.v (zm m f),.v (.int p),.v (.lst (e.map .int)),.o (xC m f e i),.v (.int x)],rfl,?_⟩
  unfold wA
  have l:=zmt u q
  have ex:=zbG (ns:=e) (i:=x) l g
  have r:fLC (iOf (zh 2 yi (za (zb 0) (za (zb 4) ze)))) b1 (tOf (zd gtD (zd ixD (zb 3) (zb 0)) (zd ixD (zb 3) (zb 5)))) (zb 0) [some (zm m f),some (.int p),some (.lst (e.map .int)),none,some (.int x)]=some ((yw m f e x).map zM):=by
   unfold fLC
   show((yi [zm m f,.int x]).bind xL).bind _=_
   rw[q_nb ok]
   show(if lim ((nbN m f x).map zM).length=true then _ else none)=_
   rw[u9 (zfb (by rw[u4];exact zen ok))]
   unfold yw
   refine xg zM (λo:Nat=>decide (vAt e x<vAt e (o:Int))) zM (nbN m f x) λo j=>⟨[some (zM o)],rfl,?_,λ_=>rfl⟩
   have j:=Z5 j
   have s:=zbG (ns:=e) (zhs j) g
   show(((atI (e.map D.int) (0+(o:Int))).bind λa=>(atI (e.map D.int) x).bind λb=>gtD a b).bind asB)=_
   rw[s,ex,u0r]
   rfl
  refine w3 (ρ':=[.v (zm m f),.v (.int p),.v (.lst (e.map .int)),.o (xC m f e (i+1)),.v (.int x)]) ?_ ⟨_,rfl⟩
  rw[Xj (ds:=xC m f e i) (d:=.lst ((yw m f e x).map zM)) ?_ rfl (by unfold xC;rw[u4,k8];omega)]
  .have:xC m f e (i+1)=xC m f e i++[.lst ((yw m f e x).map zM)]:=by
    unfold xC
    rw[u1b,o0]
    rw[show x=(i:Int) by omega]
    rfl
   rw[this]
   rfl
  .simp only[vEv,visF,yc,r6,u2S,Sl.f,u1E,u3v,r]
   rfl
 .rintro ρ ⟨h,rfl⟩
  exact zdW (ρ':=[.v (zm m f),.v (.int p),.v (.lst (e.map .int)),.v (.lst (xC m f e m.toNat)),h]) rfl (wC rfl rfl)
def xE (T:Txt P w K mg base ad):T.Pr 28 4 2 ya:=by
 have:=Z7 T
 have:=Y0 T
 walk_at "p"
def yf {o:Nat}(h:o∈yw m ts ks x):(o:Int)<m:=Z5 (o6.mp h).1
def zbx (ok:zG m a):(yw m a b x).length<=8:=by
 unfold yw
 exact o5 (u1a _ _) (zen ok)
abbrev v6 :=zO (yc (fFn YG (za (yc (fLC (iOf (zd ixD (zb 0) (eC (.int 1)))) b2 (tOf (zd inD (zb 3) (yq (za (zb 0) (za (zb 1) ze))))) (zd wm (zd y3 (zb 0) (zb 1)) (zb 3)))) ze)))
def vZ:=fnD 2 v6
def VX (a:zv)(x:Int):zc:=(a.filter λt=>decide (t.1=x)||decide (t.2=x)).map λt=>t.1+t.2-x
def zfE {ns:zc}(h:ns.length<64):YG [.lst (ns.map .int)]=some ((za3 ns).map .int):=by
 show(if (ns.map D.int).length<64 then _ else none)=_
 rw[u9 (by rw[u4];exact h)]
 cases ns with
 | nil =>
  show some ((Xb []).map prD)=some ((za3 []).map D.int)
  unfold Xb za3
  rw[List.mergeSort_nil,List.mergeSort_nil]
  rfl
 | cons n ns =>
  show(match VF (D.int n::ns.map D.int)with | some a=>some ((Xb a).map prD) | none=>match zaa (D.int n::ns.map D.int)with | some ns=>some ((za3 ns).map D.int) | none=>none)=_
  have c:VF (D.int n::ns.map D.int)=none:=rfl
  have b:zaa (D.int n::ns.map D.int)=some (n::ns):=Zj (n::ns)
  rw[c,b]
def vh {α β:Type}{f:α->β}{l:List α}(h:∀ a∈l,∀ b∈l,f a=f b->a=b)(i:l.Nodup):(l.map f).Nodup:=by
 rw[h9,l7]
 exact u24 (λd g c e=>c (h _ d _ g e)) i
def zh3 (ok:zG m c):za3 (VX c x)=(nbN m c x).map λo:Nat=>(0:Int)+(o:Int):=by
 symm
 refine zai ?_ ?_
 .have f:((nbN m c x).map λo:Nat=>(0:Int)+(o:Int)).Nodup:=by
   refine vh ?_ ?_
   .intro a _ b _ e;omega
   .unfold nbN
    exact l0.filter _
  have d:(VX c x).Nodup:=by
   unfold VX
   refine vh ?_ ?_
   .intro a j b l e
    obtain⟨p,q⟩:=o6.mp j
    obtain⟨b1,b2⟩:=o6.mp l
    have u:=ok.rng a p
    have s:=ok.rng b b1
    rw[u1F,j3,j3]at q b2
    exact u2v (by omega) (by omega)
   .exact List.Pairwise.filter _ (ok.srt.imp λh e=>by subst e;unfold ltP at h;omega)
  refine(u2K f d).mpr λy=>?_
  unfold VX
  rw[p0,p0]
  constructor
  .rintro⟨o,k,rfl⟩
   rw[u0r]
   rcases(v7 ok).mp k with h | h
   .exact⟨_,o6.mpr ⟨h,by simp⟩,by simp only;omega⟩
   .exact⟨_,o6.mpr ⟨h,by simp⟩,by simp only;omega⟩
  .rintro⟨t,n,rfl⟩
   obtain⟨g,i⟩:=o6.mp n
   have r:=ok.rng t g
   rw[u1F,j3,j3]at i
   refine⟨(t.1+t.2-x).toNat,(v7 ok).mpr ?_,by omega⟩
   rcases i with h | h
   .left
    rw[show(((t.1+t.2-x).toNat:Nat):Int)=t.2 by omega,<- h]
    exact g
   .right
    rw[show(((t.1+t.2-x).toNat:Nat):Int)=t.1 by omega,<- h]
    exact g
 .unfold nbN
  refine List.Pairwise.map _ (R:=λa b:Nat=>a<=b) (λa b h=>by omega) ?_
  exact(List.pairwise_le_range).filter _
def zhq {a:zv}(ok:zG m a)(b:a.length<=28):vZ [zm m a,.int x]=some (.lst ((nbN m a x).map zM)):=by
 have g:fLC (iOf (zd ixD (zb 0) (eC (.int 1)))) b2 (tOf (zd inD (zb 3) (yq (za (zb 0) (za (zb 1) ze))))) (zd wm (zd y3 (zb 0) (zb 1)) (zb 3)) [some (zm m a),some (.int x)]=some ((VX a x).map .int):=by
  unfold fLC
  show(if lim (a.map zi).length=true then _ else none)=_
  rw[u9 (yN (by rw[u4];omega))]
  unfold VX
  rw[r9]
  refine xg zi (λt=>decide (t.1=x)||decide (t.2=x)) _ a λt _=>⟨[some (.int t.1),some (.int t.2)],rfl,?_,λ_=>rfl⟩
  show((inD (.int x) (.tup [.int t.1,.int t.2])).bind asB)=_
  have:inD (.int x) (.tup [.int t.1,.int t.2])=some (.bl (decide (t.1=x)||(decide (t.2=x)||false))):=rfl
  rw[this,u3a]
  rfl
 have e:(VX a x).length<=28:=by
  unfold VX
  rw[u4]
  exact o5 (u1a _ _) b
 have c:=zfE (ns:=VX a x) (by omega)
 rw[zh3 ok,r9]at c
 refine YE (ρ:=[.v (zm m a),.v (.int x)]) rfl ?_
 unfold v6
 refine wC (d:=.lst ((nbN m a x).map zM)) ?_ rfl
 have f:YG [.lst ((VX a x).map .int)]=some ((nbN m a x).map zM):=c
 simp[zO,visG,Sl.g,yc,fFn,za,ze,g,f]
def zb8 (T:Txt P w K mg base ad):T.Pr 53 1 2 vZ:=by
 letI:KK:=⟨K⟩
 refine zdH (N:=(Rw 53).N) (ps:=(Rw 53).ps) (T.d 53).fn (sc 53) (g:=v6) λb A outer s H E a=>?_
 unfold v6
 exact(wV (zap (XC (W4 rfl rfl (T.z "sorted" (by decide)) (zw (XC (zec (L:=["a","b"]) (M:=["web","place"]) rfl (YD (by rfl) (by rfl) (by rfl) (by with_unfolding_all rfl) (by rfl) (by rfl) (by kernel_rfl) (all_cons rfl xz)) (X5 (Yj (edv 0) (xH xq) (λ_ _=>rfl))) gs2 rb2 (λ_ _ _ _=>(zeV rfl (Yh (yA (i:=0) zpd rfl (Or.inl rfl) (.inr rfl)) (Yh (yA (i:=1) zpd rfl (Or.inl rfl) (.inr rfl)) zbq)))) (λ_ _ _ _=>(Yx (zhE a) zgE (by with_unfolding_all rfl) (edv 3) (ZZ (zw (edv 0) (zw (edv 1) yb))))) (λ_ _ _ _=>(zeK (ze4 (edv 0) (edv 1)) (edv 3))))) yb)))))
def Za {ns:zc}{i j:Int}(c:0<=i)(a:i<ns.length)(b:0<=j):vAt (ns.set i.toNat x) j=if j=i then x else vAt ns j:=by
 unfold vAt
 rw[j9,j9,i6]
 by_cases h:j=i
 .subst h
  rw[u9 rfl,u9 rfl,u9 (by omega)]
  rfl
 .rw[t9 h,t9 (by omega)]
def X4 (m:Int)(a:zv)(c b:zc)(x:Int):zc:=(yw m a c x).map λo:Nat=>vAt b (o:Int)
def EqA (F:Int->zc->Int)(m:Int)(b:zv)(c a:zc)(x:Int):Prop:=vAt a x=F x (X4 m b c a x)
def xB {o:Nat}(h:o∈yw m b a x):vAt a x<vAt a (o:Int):=k9 (o6.mp h).2
def zea {x:Int}{a:zc}(d:0<=x)(f:x<a.length)(h:∀ o∈yw m b c y,(o:Int)≠x):X4 m b c (a.set x.toNat v) y=X4 m b c a y:=by
 refine o9 λo e=>?_
 rw[Za d f (by omega),t9 (h o e)]
def zmm {F:Int->zc->Int}{x:Int}{f:zc}{S:Int->Prop}(h:∀ y,S y->0<=y/\EqA F m e d f y)(j:∀ y,S y->∀ o∈yw m e d y,S (o:Int))(l:¬ S x)(i:∀ o∈yw m e d x,S (o:Int))(b:0<=x)(g:x<f.length) :
 ∀ y,S y\/y=x->0<=y/\EqA F m e d (f.set x.toNat (F x (X4 m e d f x))) y:=by
 intro y a
 have k:∀ o:Nat,S (o:Int)->(o:Int)≠x:=λo c z=>l (z ▸ c)
 rcases a with a | rfl
 .refine⟨(h y a).1,?_⟩
  unfold EqA
  rw[zea b g λo c=>k o (j y a o c),Za b g (h y a).1,t9 (λz=>by rw[z]at a;exact l a)]
  exact(h y a).2
 .refine⟨b,?_⟩
  unfold EqA
  rw[zea b g λo c=>k o (i o c),Za b g b,u9 rfl]
def zjJ (a:Nat->Int)(x y:Nat):Prop:=a x<a y\/a x=a y/\x<y
def zaV {a:Nat->Int}(h:zjJ a x y):a x<=a y:=h.elim (λh=>Int.le_of_lt h) λh=>Int.le_of_eq h.1
def lex2 {a b c d:Int}(h:HT.lexLt [c,d] [a,b]=false):a<c\/a=c/\b<=d:=by
 rw[HT.lexLt_cons]at h
 by_cases e:c=a
 .rw[u9 e,HT.lexLt_cons]at h
  by_cases f:d=b
  .omega
  .rw[t9 f]at h
   have:=u0F h
   omega
 .rw[t9 e]at h
  have:=u0F h
  omega
def zb4 (n:Nat)(a:Nat->Int):∃ L:zC,Y3 ((List.range n).map λx=>[a x,(x:Int)]) ((List.range n).map λk:Nat=>D.int (k:Int))=L.map (λx:Nat=>D.int (x:Int))/\L.Perm (List.range n)/\L.Pairwise (zjJ a):=by
 obtain⟨f,j⟩:∃ f:Nat->zc,f=λx=>[a x,(x:Int)]:=⟨_,rfl⟩
 obtain⟨g,v⟩:∃ g:zc->Nat,g=λt=>(t.getD 1 0).toNat:=⟨_,rfl⟩
 have c:∀ x,g (f x)=x:=λx=>by rw[v,j];rfl
 have l:∀ x y,f x=f y->x=y:=λx y e=>by rw[<-c x,e,c]
 have p:=ZQ ((List.range n).map f)
 have r:=ZT ((List.range n).map f)
 have w:((List.range n).map f).Nodup:=by
  rw[h9,l7]
  exact l0.imp λh e=>h (l _ _ e)
 have o:((y9 ((List.range n).map f)).map g).map f=y9 ((List.range n).map f):=by
  rw[r9]
  have:(y9 ((List.range n).map f)).map (f∘g)=(y9 ((List.range n).map f)).map id:=by
   refine o9 λt s=>?_
   obtain⟨x,_,rfl⟩:=p0.mp (p.mem_iff.mp s)
   show f (g (f x))=f x
   rw[c]
  rw[this,u2C]
 have m:((y9 ((List.range n).map f)).map g).Perm (List.range n):=by
  have:=p.map g
  rw[r9]at this
  have e:(List.range n).map (g∘f)=List.range n:=by
   have:(List.range n).map (g∘f)=(List.range n).map id:=o9 λx _=>c x
   rw[this,u2C]
  rwa[e]at this
 have b:∃ L:zC,Y3 ((List.range n).map f) ((List.range n).map λk:Nat=>D.int (k:Int))=L.map (λx:Nat=>D.int (x:Int))/\L.Perm (List.range n)/\L.Pairwise (zjJ a):=by
  refine⟨(y9 ((List.range n).map f)).map g,?_,m,?_⟩
  .unfold Y3
   conv=>lhs;rw[<-o]
   rw[r9]
   refine o9 λx d=>?_
   have d:=j6.mp (m.mem_iff.mp d)
   have z:x<((List.range n).map f).length:=by rw[u4,k8];exact d
   have u:((List.range n).map f)[x]=f x:=by rw[u0N,u2R]
   have A:((List.range n).map f).idxOf (f x)=x:=by
    have:=w.idxOf_getElem x z
    rw[u]at this
    exact this
   show((List.range n).map λk:Nat=>D.int (k:Int)).getD (((List.range n).map f).idxOf (f x)) .non=D.int (x:Int)
   rw[A,j9,q0,u0y d]
   rfl
  .have B:((y9 ((List.range n).map f)).map g).Nodup:=m.nodup_iff.mpr l0
   rw[<-o,l7]at r
   refine(r.and B).imp λ{x y} h=>?_
   obtain⟨q,C⟩:=h
   rw[j]at q
   rcases lex2 q with i | ⟨i,E⟩
   .exact .inl i
   .exact .inr ⟨i,by omega⟩
 rw[j]at b
 exact b
def zdc {g:zQ}{a:Nat->Int}:∀ (l:zC),(∀ x∈l,g (some (.int (x:Int))::ρ)=some (.tup [.int (a x),.int (x:Int)]))->zd0 g ρ (l.map λk:Nat=>D.int (k:Int))=some (l.map λx=>[a x,(x:Int)]):=by
 intro l
 induction l with
 | nil=>intro _;rfl
 | cons x l b =>
  intro h
  have e:=h x (.head _)
  have r:=b λy c=>h y (.tail _ c)
  show(g (some (.int (x:Int))::ρ)).bind _=_
  rw[e,j7]
  show(zaa [.int (a x),.int (x:Int)]).bind _=_
  rw[show zaa [.int (a x),.int (x:Int)]=some [a x,(x:Int)]from rfl,j7,t9 (by simp),r]
  rfl
def zhw {f g:zQ}{m:Int}{a:Nat->Int}(b:f ρ=some (.int m))(d:0<=m)(i:m<=60)(c:∀ x:Nat,(x:Int)<m->g (some (.int (x:Int))::ρ)=some (.tup [.int (a x),.int (x:Int)])) :
 ∃ L:zC,zeq f g ρ=some (L.map λx:Nat=>D.int (x:Int))/\L.Perm (List.range m.toNat)/\L.Pairwise (zjJ a):=by
 obtain⟨L,e,p,s⟩:=zb4 m.toNat a
 refine⟨L,?_,p,s⟩
 unfold zeq
 rw[b,j7,show lrD (.int m)=some ((List.range m.toNat).map λk:Nat=>.int (k:Int))from u9 ⟨d,i⟩,j7,zdc (a:=a) _ λx j=>c x (by have:=j6.mp j;omega),j7,u9,e]
 rw[h9,l7]
 refine l0.imp λh e=>h ?_
 have:=(u0e (u0e e).2).1
 omega
def Swp (R:zC)(i:Nat)(y:Int):Prop:=∃ k o:Nat,k<i/\R[k]?=some o/\y=(o:Int)
def zjL {i:Nat}(h:R[i]?=some x)(b:Swp R (i+1) y):Swp R i y\/y=(x:Int):=by
 obtain⟨k,o,d,a,rfl⟩:=b
 by_cases c:k=i
 .subst c
  rw[h]at a
  cases a
  exact .inr rfl
 .exact .inl ⟨k,o,by omega,a,rfl⟩
structure zi4 (m:Int) (ts:zv) (ks:zc) (R:zC):Prop where
 perm:R.Perm (List.range m.toNat)
 down:R.Pairwise λx y:Nat=>vAt ks (y:Int)<=vAt ks (x:Int)
def zi4.mem (h:zi4 m a b R){x:Nat}:x∈R↔(x:Int)<m:=by rw[h.perm.mem_iff,j6];omega
def zi4.nodup {R:zC}(h:zi4 m a b R):R.Nodup:=h.perm.nodup_iff.mpr l0
def zi4.out {f:zc}(h:zi4 m d f R){i o:Nat}(l:R[i]?=some x)(b:o∈yw m d f (x:Int)):∃ k,k<i/\R[k]?=some o:=by
 obtain⟨k,a,e⟩:=n0 (h.mem.mpr (yf b))
 have n:=xB b
 refine⟨k,?_,by rw[u8 a,e]⟩
 obtain⟨g,ex⟩:=t5.mp l
 by_cases c:k<i
 .exact c
 .by_cases j:k=i
  .subst j
   rw[ex]at e
   subst e
   omega
  .have:=u0C.mp h.down i k g a (by omega)
   rw[ex,e]at this
   omega
def zi4.step {F:Int->zc->Int}{m:Int}{ts:zv}{c d:zc}{R:zC}(h:zi4 m ts c R){i x:Nat}(f:R[i]?=some x)(w:(d.length:Int)=m)(n:∀ y,Swp R i y->0<=y/\EqA F m ts c d y) :
 ∀ y,Swp R (i+1) y->0<=y/\EqA F m ts c (d.set x (F (x:Int) (X4 m ts c d (x:Int)))) y:=by
 intro y s
 have q:(x:Int)<m:=h.mem.mp (j4 f)
 refine zmm (x:=(x:Int)) (S:=Swp R i) n ?_ ?_ ?_ (by omega) (by omega) y (zjL f s)
 .rintro y ⟨k,o,t,a,rfl⟩ p g
  obtain⟨l,b,j⟩:=h.out a g
  exact⟨l,p,by omega,j,rfl⟩
 .rintro⟨k,o,t,a,e⟩
  have e:x=o:=by omega
  subst e
  obtain⟨z,r⟩:=t5.mp f
  obtain⟨v,u⟩:=t5.mp a
  have:=(u2k h.nodup).mp (r.trans u.symm)
  omega
 .intro o a
  obtain⟨l,b,j⟩:=h.out f a
  exact⟨l,o,b,j,rfl⟩
def zi4.fin {R:zC}(h:zi4 m a b R)(f:∀ y,Swp R R.length y->0<=y/\EqA F m a b d y):∀ x:Int,0<=x->x<m->EqA F m a b d x:=by
 intro x g i
 obtain⟨k,c,e⟩:=n0 (h.mem.mpr (show((x.toNat:Nat):Int)<m by omega))
 exact(f x ⟨k,x.toNat,c,by rw[u8 c,e],by omega⟩).2
abbrev Zb :=zy (yx false 2 (zh 2 wX (za (zb 0) (za (zb 1) ze))))
  (zO (yc (zeq (zd ixD (zb 0) (eC (.int 0))) (yq (za (zd ixD (zb 3) (zb 0)) (za (zb 0) ze))))))
def p_outwards:=fnD 3 Zb
def ZW {m:Int}{p:Int}{b:zc}(ok:zG m c)(k:0<=p/\p<m)(h:vg m c p=b.map some)(d:(b.length:Int)=m):∃ L:zC,p_outwards [zm m c,.int p]=some (.lst (L.map λx:Nat=>.int (x:Int)))/\L.Perm (List.range m.toNat)/\L.Pairwise (zjJ λx=>vAt b (x:Int)):=by
 have q:=ok.lo
 have l:=ok.hi
 have i:=vx ok k
 rw[h,WA]at i
 obtain⟨L,e,o,j⟩:=zhw (f:=zd ixD (zb 0) (eC (.int 0))) (g:=yq (za (zd ixD (zb 3) (zb 0)) (za (zb 0) ze))) (ρ:=visG [.v (zm m c),.v (.int p),.v (.lst (b.map .int))]) (m:=m) (a:=λx=>vAt b (x:Int)) rfl (by omega) (by omega) (λx n=>by
  refine vJ (zr (zA (x:=.lst (b.map .int)) (y:=.int (x:Int)) rfl rfl (zbG (ns:=b) ⟨by omega,n⟩ d)) (zr rfl z0)) (by show 2<=1000;decide))
 refine⟨L,?_,o,j⟩
 refine YE (ρ:=[.v (zm m c),.v (.int p),.no]) rfl ?_
 unfold Zb
 refine zo (ρ':=[.v (zm m c),.v (.int p),.v (.lst (b.map .int))]) (wh (ds:=[zm m c,.int p]) rfl i) ?_
 exact wC (xc (xN e)) rfl
def zdb {p:Int}{c:zc}(ok:zG m a)(g:0<=p/\p<m)(d:vg m a p=c.map some)(b:(c.length:Int)=m):∃ L:zC,p_outwards [zm m a,.int p]=some (.lst (L.map λx:Nat=>.int (x:Int)))/\zi4 m a c L.reverse:=by
 obtain⟨L,e,h,f⟩:=ZW ok g d b
 exact⟨L,e,(List.reverse_perm L).trans h,List.pairwise_reverse.mpr (f.imp zaV)⟩
def W9 (T:Txt P w K mg base ad):T.Pr 30 5 2 p_outwards:=by
 letI:KK:=⟨K⟩
 have G_ties_away:=Y0 T
 refine zlY (N:=(Rw 30).N) (ps:=(Rw 30).ps) T.lc_outwards (T.d 30).fn (sc 30) (g:=Zb) λA outer s H E a=>?_
 unfold Zb
 exact(yG (W2 (m:=false) (i:=2) (sc 30).nd rfl (Or.inr rfl) (wM G_ties_away a rfl (T.d 13) (zw (edv 0) (zw (edv 1) yb))))
  (wV (zap (XC (zkl (x:="place") (M:=["web","root","away"]) a rfl (T.z "sorted" (by decide)) rfl (T.z "range" (by decide)) (Yj (edv 0) (xH xq) (λ_ _=>rfl)) T.la_outwards rfl (ziF (by rfl) (by rfl) (by rfl) (by with_unfolding_all rfl) (by rfl) (by rfl) (by rfl) (by rfl) (by rfl) (by kernel_rfl) (all_cons rfl xz)) rfl (by kernel_rfl) (λ_ _ _ _=>rfl) (λ_ _ _ _ _=>(ZZ (zw (Yj (edv 3) (edv 0) (λ_ _=>rfl)) (zw (edv 0) yb)))))))))
def zo5 {i:y4}{os:zC}{a:zc}{m:Int}{k:Nat}(g:i ρ=some (os.map zM))(b:ρ[k]?=some (some d))(h:∀ j,ixD d (.int j)=atI (a.map D.int) j)(c:(a.length:Int)=m)(f:∀ o∈os,(o:Int)<m)(n:os.length<=8):fLC i b1 zN (zd y3 (zd ixD (zb (k+1)) (zb 0)) (eC (.int 1))) ρ=some ((os.map λo:Nat=>vAt a (o:Int)+1).map .int):=by
 unfold fLC
 rw[g]
 show(if lim (os.map zM).length=true then _ else none)=_
 rw[u9 (zfb (by rw[u4];exact n)),r9]
 refine xV zM _ os λo l=>⟨[some (zM o)],rfl,rfl,?_⟩
 have:=f o l
 have e:=zbG (ns:=a) (zhs this) c
 have p:zb (k+1) ([some (zM o)]++ρ)=some d:=by
  show((some (zM o)::ρ)[k+1]?).getD none=_
  rw[List.getElem?_cons_succ,b]
  rfl
 refine zA (x:=.int (vAt a (o:Int))) (y:=.int 1) (zA (x:=d) (y:=zM o) p rfl ?_) rfl rfl
 show ixD d (.int (0+(o:Int)))=_
 rw[h,e,u0r]
def Fh (_:Int)(a:zc):Int:=if a.map (·+1)=[]then 0 else maxL (a.map (·+1))
def zaf (a:zc):zfT (.lst (a.map .int)) (.int 0)=some (.int (if a=[]then 0 else maxL a)):=by
 show(zaa (a.map .int)).map _=_
 rw[Zj]
 rfl
def zqo {m:Int}{x:Int}(c:0<=x/\x<m):atI (xC m a b m.toNat) x=some (.lst ((yw m a b x).map zM)):=by
 refine XY c.1 ?_
 unfold xC
 rw[q0,u0y (by omega)]
 show some (D.lst ((yw m a b ((x.toNat:Nat):Int)).map zM))=_
 rw[show((x.toNat:Nat):Int)=x by omega]
abbrev Yu :=Xa true 3 (zb 4) (zd zfT (yc (fLC (iOf (zd ixD (zb 2) (zb 4))) b1 zN (zd y3 (zd ixD (zb 4) (zb 0)) (eC (.int 1))))) (eC (.int 0)))
abbrev vE :=zy (yx false 2 (zh 2 ya (za (zb 0) (za (zb 1) ze))))
  (zy (vH 3 (zkz zf9 (yc (zS (za (eC (.int 0)) ze))) (zd ixD (zb 0) (eC (.int 0)))))
  (zy (Zd (znT (zh 2 p_outwards (za (zb 0) (za (zb 1) ze)))) (z9 4) Yu)
  (sFz 3 (zO (eFn yo (za (zb 3) ze))))))
def yU:=fnD 5 vE
def Y6 {p:Int}{c:zc}(ok:zG m a)(A:0<=p/\p<m)(j:vg m a p=c.map some)(t:(c.length:Int)=m):∃ b:zc,yU [zm m a,.int p]=some (.tup (b.map .int))/\(b.length:Int)=m/\∀ x:Int,0<=x->x<m->EqA Fh m a c b x:=by
 have N:=ok.lo
 have I:=ok.hi
 have C:ixD (zm m a) (.int 0)=some (.int m):=rfl
 have M:=zbf ok A j t
 obtain⟨L,J,w⟩:=zdb ok A j t
 obtain⟨R,l⟩:∃ R,L.reverse=R:=⟨_,rfl⟩
 rw[l]at w
 have key:=zkR (m:=5) (g:=vE) (ds:=[zm m a,.int p]) (R:=λd=>∃ b:zc,d=.tup (b.map .int)/\(b.length:Int)=m/\∀ x:Int,0<=x->x<m->EqA Fh m a c b x) (ρ:=[.v (zm m a),.v (.int p),.no,.no,.no]) rfl ?_
 .obtain⟨d,e,b,rfl,h⟩:=key
  exact⟨b,e,h⟩
 unfold vE
 refine zo (ρ':=[.v (zm m a),.v (.int p),.v (.lst (xC m a c m.toNat)),.no,.no]) (wh (ds:=[_,_]) rfl M) ?_
 refine zo (ρ':=[.v (zm m a),.v (.int p),.v (.lst (xC m a c m.toNat)),.o ((List.replicate m.toNat (0:Int)).map .int),.no]) ?_ ?_
 .have e:=za5 (d:=.int 0) (n:=m) (by omega) (by omega)
  simp[vH,zkz,yc,zS,za,ze,eC,yN,zb,visF,Sl.f,zd,C,e]
 have r:znT (zh 2 p_outwards (za (zb 0) (za (zb 1) ze))) (visG [.v (zm m a),.v (.int p),.v (.lst (xC m a c m.toNat)),.o ((List.replicate m.toNat (0:Int)).map .int),.no])=some (R.map λx:Nat=>D.int (x:Int)):=by
  unfold znT
  rw[zL (ds:=[zm m a,.int p]) rfl J,j7,<- l,List.map_reverse]
  rfl
 refine yn (ZN (ds:=R.map λx:Nat=>D.int (x:Int)) (λi ρ=>∃ (b:zc) (u:Sl),ρ=[.v (zm m a),.v (.int p),.v (.lst (xC m a c m.toNat)),.o (b.map .int),u]/\(b.length:Int)=m/\∀ y,Swp R i y->0<=y/\EqA Fh m a c b y) r ⟨_,_,rfl,by rw[f8];omega,λy ⟨k,o,E,_⟩=>absurd E (u1M _)⟩ ?_ ?_)
 .rintro i d ρ z ⟨b,u,rfl,f,v⟩
  rw[q0]at z
  obtain⟨x,B,rfl⟩:=u7.mp z
  have s:(x:Int)<m:=w.mem.mp (j4 B)
  have q:0<=(x:Int)/\(x:Int)<m:=⟨by omega,s⟩
  refine⟨[.v (zm m a),.v (.int p),.v (.lst (xC m a c m.toNat)),.o (b.map .int),.v (.int (x:Int))],rfl,?_⟩
  unfold Yu
  have H:=w.step (F:=Fh) B f v
  have G:zd zfT (yc (fLC (iOf (zd ixD (zb 2) (zb 4))) b1 zN (zd y3 (zd ixD (zb 4) (zb 0)) (eC (.int 1))))) (eC (.int 0)) (visG [.v (zm m a),.v (.int p),.v (.lst (xC m a c m.toNat)),.o (b.map .int),.v (.int (x:Int))])=some (.int (Fh (x:Int) (X4 m a c b (x:Int)))):=by
   refine zA (x:=.lst (((yw m a c (x:Int)).map λo:Nat=>vAt b (o:Int)+1).map .int)) (y:=.int 0) (xN ?_) rfl ?_
   .exact zo5 (k:=3) (d:=.lst (b.map .int)) (m:=m) (WP (zA (x:=.lst (xC m a c m.toNat)) (y:=.int (x:Int)) rfl rfl (zqo q)) rfl) rfl (λ_=>rfl) f (λo K=>yf K) (zbx ok)
   .rw[zaf]
    unfold Fh X4
    rw[r9]
    rfl
  refine zc5 (b.map .int) (.int (Fh (x:Int) (X4 m a c b (x:Int)))) (x:Int) ?_ rfl rfl q.1 (zdi s f) ⟨b.set x (Fh (x:Int) (X4 m a c b (x:Int))),.v (.int (x:Int)),?_,by rw[u0L];exact f,H⟩
  .unfold vEv
   rw[u9 rfl,G]
   rfl
  .rw[u1y];rfl
 .rintro ρ ⟨b,u,rfl,f,v⟩
  rw[u4]at v
  exact zdW (ρ':=[.v (zm m a),.v (.int p),.v (.lst (xC m a c m.toNat)),.v (.lst (b.map .int)),u]) rfl (wC rfl ⟨b,rfl,f,w.fin v⟩)
def YW (T:Txt P w K mg base ad):T.Pr 31 6 2 yU:=by
 have:=xE T
 have:=W9 T
 walk_at "p"
def zhB {α:Type}[DecidableEq α]:∀ {l k:List α},l.Nodup->(∀ x∈l,x∈k)->l.length<=k.length:=by
 intro l
 induction l with
 | nil=>intro k _ _;exact g9 _
 | cons a l g =>
  intro k c h
  obtain⟨i,d⟩:=f7.mp c
  have:=g (k:=k.erase a) d λx b=>by
   have f:x≠a:=λe=>i (e ▸ b)
   exact(List.mem_erase_of_ne f).mpr (h x (.tail _ b))
  rw[u1x (h a (.head _))]at this
  have j:=List.length_pos_of_mem (h a (.head _))
  show l.length+1<=k.length
  omega
def zcY {α:Type}[DecidableEq α]:∀ {l k:List α},l.Nodup->(∀ x∈l,x∈k)->k.length<=l.length->k.Nodup:=by
 intro l
 induction l with
 | nil =>
  intro k _ _ h
  have:k=[]:=u0n.mp (Nat.le_zero.mp h)
  rw[this]
  exact u04
 | cons a l q =>
  intro k d h n
  obtain⟨s,g⟩:=f7.mp d
  have c:=h a (.head _)
  have f:∀ x∈l,x∈k.erase a:=λx b=>by
   have o:x≠a:=λe=>s (e ▸ b)
   exact(List.mem_erase_of_ne o).mpr (h x (.tail _ b))
  have r:(k.erase a).length=k.length-1:=u1x c
  have t:=List.length_pos_of_mem c
  have i:k.length<=l.length+1:=n
  have p:=q g f (by omega)
  have j:a∉k.erase a:=λm=>by
   have:=zhB (l:=a::l) (k:=k.erase a) d λx b=>by
    rcases t6.mp b with rfl | b
    .exact m
    .exact f x b
   have:l.length+1<=(k.erase a).length:=this
   omega
  exact(List.perm_cons_erase c).nodup_iff.mpr (f7.mpr ⟨j,p⟩)
def Wq {α β:Type}{f:α->β}{l:List α}(c:(l.map f).Nodup){a b:α}(d:a∈l)(k:b∈l)(e:f a=f b):a=b:=by
 obtain⟨i,g,rfl⟩:=n0 d
 obtain⟨j,h,rfl⟩:=n0 k
 have n:i<(l.map f).length:=by rw[u4];exact g
 have m:j<(l.map f).length:=by rw[u4];exact h
 have:(l.map f)[i]=(l.map f)[j]:=by rw[u0N,u0N];exact e
 have:=(u2k c).mp this
 subst this
 rfl
def inN (m:Int)(b:zv)(a:zc)(x:Int):zC:=(nbN m b x).filter λo:Nat=>decide (vAt a (o:Int)<vAt a x)
def zhI {x:Int}{a:zc}(d:vg m b p=a.map some)(j:(a.length:Int)=m)(g:0<=x/\x<m):∃ k:Nat,Far b p x k/\vAt a x=(k:Int):=by
 have c:oAt (vg m b p) x=zey b p x:=WB g.1 g.2
 have h:oAt (a.map some) x=some (vAt a x):=by
  have i:x.toNat<a.length:=by omega
  unfold oAt vAt
  rw[j9,q0,u8 i]
  rfl
 rw[d,h]at c
 rcases wO b p x with ⟨k,e,f⟩ | ⟨e,_⟩
 .rw[e]at c
  exact⟨k,f,g0 c⟩
 .rw[e]at c
  cases c
def w4 {p x:Int}{d:zc}(ok:zG m e)(r:0<=p/\p<m)(b:vg m e p=d.map some)(c:(d.length:Int)=m)(o:0<=x/\x<m)(f:x≠p):∃ a:Nat,a∈inN m e d x:=by
 obtain⟨k,h,q⟩:=zhI b c o
 cases k with
 | zero=>cases h.1;exact absurd rfl f
 | succ k =>
  obtain⟨a,n,g⟩:=h.1.inv
  obtain⟨l,_⟩:=g.rng ok
  obtain⟨j,i,s⟩:=zhI b c l
  have:=i.2 k n
  refine⟨a.toNat,o6.mpr ⟨(v7 ok).mpr ?_,?_⟩⟩
  .rw[show((a.toNat:Nat):Int)=a by omega]
   exact g.symm
  .rw[j3,show((a.toNat:Nat):Int)=a by omega]
   omega
def wy (ok:zG m a){o:Nat}:o∈inN m a b x↔adj a x (o:Int)/\vAt b (o:Int)<vAt b x:=by
 unfold inN
 rw[o6,v7 ok,j3]
def zeX (ok:zG m a){o:Nat}:o∈yw m a b x↔adj a x (o:Int)/\vAt b x<vAt b (o:Int):=by
 unfold yw
 rw[o6,v7 ok,j3]
def YV (ok:zG m a){x y:Nat}:y∈inN m a b (x:Int)↔x∈yw m a b (y:Int):=by
 rw[wy ok,zeX ok]
 exact⟨λh=>⟨h.1.symm,h.2⟩,λh=>⟨h.1.symm,h.2⟩⟩
def znI (ok:zG m c)(h:adj c a b):∃ t∈c,(t.1=a/\t.2=b)\/(t.1=b/\t.2=a):=by
 rcases h with h | h
 .exact⟨_,h,.inl ⟨rfl,rfl⟩⟩
 .exact⟨_,h,.inr ⟨rfl,rfl⟩⟩
def upT (a:zc)(t:Tie):Int:=if vAt a t.1<vAt a t.2 then t.2 else t.1
def zgQ (ok:zG m b){o:Nat}(h:o∈inN m b e x):∃ t∈b,upT e t=x/\((t.1=x/\t.2=(o:Int))\/(t.1=(o:Int)/\t.2=x)):=by
 obtain⟨g,f⟩:=(wy ok).mp h
 obtain⟨t,i,d⟩:=znI ok g
 refine⟨t,i,?_,d⟩
 unfold upT
 rcases d with ⟨c,a⟩ | ⟨c,a⟩
 .rw[c,a,t9 (by omega)]
 .rw[c,a,u9 f]
def zd4 (m:Int)(a:zv)(x:Int):(nbN m a x).Nodup:=by
 unfold nbN
 exact l0.filter _
def zkD {p:Int}{c:zv}{d:zc}(ok:zG m c)(n:(c.length:Int)=m-1)(r:0<=p/\p<m)(f:vg m c p=d.map some)(g:(d.length:Int)=m):(c.map (upT d)).Nodup:=by
 have h:p.toNat∈List.range m.toNat:=j6.mpr (by omega)
 refine zcY (l:=((List.range m.toNat).erase p.toNat).map λk:Nat=>(k:Int)) ?_ ?_ ?_
 .exact vh (λa _ b _ e=>by omega) (l0.erase _)
 .intro z s
  obtain⟨k,q,rfl⟩:=p0.mp s
  obtain⟨u,i⟩:=(l0.mem_erase_iff).mp q
  have i:=j6.mp i
  obtain⟨a,j⟩:=w4 (x:=(k:Int)) ok r f g ⟨by omega,by omega⟩ (by omega)
  obtain⟨t,o,e,_⟩:=zgQ ok j
  rw[<-e]
  exact u0i o
 .rw[u4,u4,u1x h,k8]
  omega
def zdh {p:Int}{c:zv}{f:zc}(ok:zG m c)(j:(c.length:Int)=m-1)(q:0<=p/\p<m)(g:vg m c p=f.map some)(h:(f.length:Int)=m){x:Int}(I:0<=x/\x<m)(l:x≠p):∃ y:Nat,inN m c f x=[y]:=by
 have F:=zkD ok j q g h
 obtain⟨y,i⟩:=w4 ok q g h I l
 have d:∀ z,z∈inN m c f x->z=y:=λz u=>by
  obtain⟨t,v,w,A⟩:=zgQ ok i
  obtain⟨s,D,B,E⟩:=zgQ ok u
  have:=Wq F v D (w.trans B.symm)
  subst this
  have H:=((wy ok).mp i).2
  have K:=((wy ok).mp u).2
  have:(y:Int)≠x:=λe=>by rw[e]at H;omega
  rcases A with ⟨C,J⟩ | ⟨C,J⟩ <;> rcases E with ⟨b1,b2⟩ | ⟨b1,b2⟩ <;> omega
 refine⟨y,?_⟩
 have k:(inN m c f x).Nodup:=(zd4 m c x).filter _
 cases o:inN m c f x with
 | nil=>rw[o]at i;cases i
 | cons a r =>
  rw[o]at k d
  have n:=d a (.head _)
  cases r with
  | nil=>rw[n]
  | cons b r =>
   have G:=d b (.tail _ (.head _))
   rw[n,G]at k
   exact absurd (List.Mem.head _) (f7.mp k).1
def zeR (ok:zG m a):zK [zm m a]=some .non:=by
 have hw:w6 (zm m a)=true:=(xj _).mpr ⟨_,_,rfl,ok⟩
 simp[zK,hw]
def zbV (ok:zG m a):∃ l:zk,WK [zm m a]=some (.lst l):=by
 have B:=ok.lo
 have A:=ok.hi
 have key:=zkR (m:=5) (g:=WG) (ds:=[zm m a]) (R:=λd=>∃ l:zk,d=.lst l) (ρ:=[.v (zm m a),.no,.no,.no,.no]) rfl ?_
 .obtain⟨d,e,l,rfl⟩:=key
  exact⟨l,e⟩
 unfold WG
 refine zo (x9 (zeR ok)) (zo (ρ':=[.v (zm m a),.o [],.no,.no,.no]) rfl ?_)
 refine yn (Ys (lo:=0) (c:=m.toNat) (λi ρ=>∃ (l:zk) (n j b:Sl),ρ=[.v (zm m a),.o l,n,j,b]/\l.length<=i) (wN ok) ⟨_,_,_,_,rfl,t7 _⟩ ?_ ?_)
 .rintro i ρ w ⟨l,n,j,b,rfl,u⟩
  refine⟨[.v (zm m a),.o l,.v (.int (0+(i:Int))),j,b],rfl,?_⟩
  rw[u0r]
  unfold XL
  obtain⟨P,o⟩:∃ P,(List.range m.toNat).filter (λv:Nat=>(zey a (i:Int) (v:Int)).isSome)=P:=⟨_,rfl⟩
  have t:fLC (vT xD (za (zd ixD (zb 0) (eC (.int 0))) ze)) b1 (tOf (zd zV (zd ixD (zb 4) (zb 0)) (eC .non))) (zb 0) (visF [.v (zm m a),.o l,.v (.int (i:Int)),.v (.lst ((vg m a (i:Int)).map yI)),b])=some (P.map zM):=by
   unfold fLC
   rw[show vT xD (za (zd ixD (zb 0) (eC (.int 0))) ze) (visF [.v (zm m a),.o l,.v (.int (i:Int)),.v (.lst ((vg m a (i:Int)).map yI)),b])=some (X6 0 m.toNat)from wN ok,j7,u9 (yN (by rw[Yq];omega)),<- o]
   refine xg zM (λv:Nat=>(zey a (i:Int) (v:Int)).isSome) zM (List.range m.toNat) λv s=>⟨[some (zM v)],rfl,?_,λ_=>rfl⟩
   have s:=j6.mp s
   refine vR (zA (x:=yI (zey a (i:Int) (v:Int))) (y:=.non) (zA (x:=.lst ((vg m a (i:Int)).map yI)) (y:=zM v) rfl rfl ?_) rfl ?_)
   .show L2.atI ((vg m a (i:Int)).map yI) ((0:Int)+(v:Int))=_
    rw[V8 (m:=m) (by omega) (by omega) (Yn m a _),u0r,WB (by omega) (by omega)]
   .cases zey a (i:Int) (v:Int) <;> rfl
  have q:i∈P:=by
   rw[<-o]
   refine o6.mpr ⟨j6.mpr w,?_⟩
   rcases wO a (i:Int) (i:Int)with ⟨k,e,_⟩ | ⟨_,h⟩
   .rw[e];rfl
   .exact absurd (.zero) (h 0)
  clear o
  obtain⟨h,r,p⟩:∃ h r,P=h::r:=by
   cases P with
   | nil=>cases q
   | cons h r=>exact⟨h,r,rfl⟩
  subst p
  refine zo (wh (ds:=[zm m a,.int (i:Int)]) rfl (vx ok ⟨by omega,by omega⟩)) ?_
  refine zo (ρ':=[.v (zm m a),.o l,.v (.int (i:Int)),.v (.lst ((vg m a (i:Int)).map yI)),.v (.tup ((h::r).map zM))]) (XB (VU (zr (xN t) z0) rfl)) ?_
  refine ZB (c:=decide ((0:Int)+(h:Int)=(i:Int))) (vR (zA (x:=zM h) (y:=.int (i:Int)) (zA (x:=.tup ((h::r).map zM)) (y:=.int 0) rfl rfl (XY (u0T _) rfl)) rfl zY)) (λz=>?_) (λz=>w3 rfl ⟨_,_,_,_,rfl,by omega⟩)
  exact w3 (Xj (m:=false) (i:=1) (f:=zb 4) (d:=.tup ((h::r).map zM)) rfl rfl (by omega)) ⟨_,_,_,_,rfl,by rw[j5];show l.length+1<=i+1;omega⟩
 .rintro ρ ⟨l,n,j,b,rfl,u⟩
  exact zdW (ρ':=[.v (zm m a),.v (.lst l),n,j,b]) rfl (wC rfl ⟨l,rfl⟩)
def zbi (ok:zG m a):∃ b,Yi [zm m a]=some (.bl b):=by
 obtain⟨l,e⟩:=zbV ok
 refine⟨decide ((l.length:Int)=1),?_⟩
 refine YE (ρ:=[.v (zm m a)]) rfl ?_
 unfold ZG
 exact wC (xc (zA (x:=.int (l.length:Int)) (y:=.int 1) (VU (ds:=[.lst l]) (zr (zL (ds:=[_]) rfl e) z0) rfl) rfl zY)) rfl
def zfG {a:zv}(ok:zG m a)(d:(a.length:Int)≠m-1):YS [zm m a]=some (.bl false):=by
 obtain⟨b,e⟩:=zbi ok
 have f:vF [.tup (a.map zi)]=some (.int (a.length:Int)):=by
  show some (D.int ((a.map zi).length:Int))=_
  rw[u4]
 refine YE (ρ:=[.v (zm m a)]) rfl ?_
 unfold VH
 refine wC (xc (zqm (b:=b) (c:=false) (zL (ds:=[_]) rfl e) (zA (x:=.int (a.length:Int)) (y:=.int (m-1)) (VU (ds:=[.tup (a.map zi)]) rfl f) rfl ?_))) ?_
 .rw[zY,j8 d]
 .rw[u1n]
abbrev yT :=xIf (zZ (tOf (zh 2 yj (za (zd ixD (zb 0) (eC (.int 0))) (za (zb 1) ze))))) (zhM 2) xNo
def wu:=fnX 2 yT
def vS (T:Txt P w K mg base ad):T.Px 10 4 2 wu:=by
 letI:KK:=⟨K⟩
 have G_is_place:=Yg T
 refine zgt (cl:=clT ad) (N:=(Rw 10).N) (ps:=(Rw 10).ps) (T.d 10).fn (sc 10) (gx:=yT) λb A outer s H E a=>?_
 unfold yT
 exact(XT (zoK (ziA (zgy (wM G_is_place a rfl (T.d 4) (zw (Yj (edv 0) (xH xq) (λ_ _=>rfl)) (zw (edv 1) yb))))) (XT (zeQ (cl:=clT ad) (j:=2) ⟨T.g_NoPlace,T.c_NoPlace⟩ rfl)) zbT))
abbrev y6 :=xIf (zZ (tOf (zh 1 YS (za (zb 0) ze)))) (zhM 5) xNo
def wQ:=fnX 1 y6
def YC (T:Txt P w K mg base ad):T.Px 27 11 1 wQ:=by
 letI:KK:=⟨K⟩
 have G_is_tree:=zad T
 refine zgt (cl:=clT ad) (N:=(Rw 27).N) (ps:=(Rw 27).ps) (T.d 27).fn (sc 27) (gx:=y6) λb A outer s H E a=>?_
 unfold y6
 exact(XT (zoK (ziA (zgy (wM G_is_tree a rfl (T.d 16) (zw (edv 0) yb)))) (XT (zeQ (cl:=clT ad) (j:=5) ⟨T.g_NotTree,T.c_NotTree⟩ rfl)) zbT))
def zk9 {m p:Int}(a:0<=p/\p<m):wu [zm m ts,.int p]=none:=by
 have e:yj [.int m,.int p]=some (.bl true):=by
  show(if noS (.int p)=true then some (D.bl (yC (.int p) 0 (m-1)))else none)=_
  rw[u9 (show noS (.int p)=true from rfl),WL]
  unfold inR
  rw[j0 a.1,j0 (show p<=m-1 by omega)]
  rfl
 show yT [.v (zm m ts),.v (.int p)]=none
 unfold yT xIf
 rw[zah (vR (zL (ds:=[.int m,.int p]) rfl e))]
 rfl
def zpo {a:zv}(ok:zG m a)(b:(a.length:Int)≠m-1):wQ [zm m a]=some 5:=by
 show y6 [.v (zm m a)]=some 5
 unfold y6 xIf
 rw[zah (vR (zL (ds:=[zm m a]) rfl (zfG ok b)))]
 rfl
def zlm {p:Int}{a:zc}(ok:zG m b)(g:0<=p/\p<m)(c:vg m b p=a.map some)(f:(a.length:Int)=m):∀ x:Int,0<=x->x<m->0<=vAt a x/\vAt a x<m:=by
 intro x j l
 have d:x.toNat<a.length:=by omega
 have i:vAt a x∈a:=by
  unfold vAt
  rw[j9,u8 d]
  exact u0s d
 have:some (vAt a x)∈vg m b p:=by
  rw[c]
  exact u0i i
 rcases zjA ok g this with h | ⟨k,e,h⟩
 .cases h
 .cases e
  exact h
abbrev YA :=sIf (zZ (tOf (zh 3 zE (za (zb 0) (za (zb 1) (za (zb 2) ze)))))) sNo zF
def yS:=fnD 3 YA
def zik {x a b:Int}(e:a<=x)(d:x<=b):yS [.int x,.int a,.int b]=some .non:=by
 refine YE (ρ:=[.v (.int x),.v (.int a),.v (.int b)]) rfl ?_
 unfold YA
 refine ZB (c:=false) ?_ (λz=>by cases z) (λ_=>w3 rfl rfl)
 show(((if noS (.int x)=true then some (D.bl (yC (.int x) a b))else none).bind asB).map λc=>!c)=_
 rw[u9 (show noS (.int x)=true from rfl)]
 show some (!(decide (a<=x)&&decide (x<=b)))=_
 rw[j0 e,j0 d]
 rfl
def we (T:Txt P w K mg base ad):T.Pr 2 3 3 yS:=by
 have:=yZ T
 walk_at "q"
def Zh {α:Type}{l:List α}(f:α->zc)(g:zc->α)(d:α->D)(c:∀ x∈l,g (f x)=x)(v:l.Nodup) :
 Y3 (l.map f) (l.map d)=((y9 (l.map f)).map g).map d/\((y9 (l.map f)).map g).Perm l/\((y9 (l.map f)).map g).Pairwise (λx y=>HT.lexLt (f y) (f x)=false)/\(l.map f).Nodup:=by
 have p:=ZQ (l.map f)
 have r:=ZT (l.map f)
 have h:(l.map f).Nodup:=vh (λa o b q e=>by rw[<-c a o,e,c b q]) v
 have n:((y9 (l.map f)).map g).map f=y9 (l.map f):=by
  rw[r9]
  have:(y9 (l.map f)).map (f∘g)=(y9 (l.map f)).map id:=by
   refine o9 λt s=>?_
   obtain⟨x,j,rfl⟩:=p0.mp (p.mem_iff.mp s)
   show f (g (f x))=f x
   rw[c x j]
  rw[this,u2C]
 have k:((y9 (l.map f)).map g).Perm l:=by
  have:=p.map g
  rw[r9]at this
  have e:l.map (g∘f)=l:=by
   have:l.map (g∘f)=l.map id:=o9 λx j=>c x j
   rw[this,u2C]
  rwa[e]at this
 refine⟨?_,k,?_,h⟩
 .unfold Y3
  conv=>lhs;rw[<-n]
  rw[r9]
  refine o9 λx j=>?_
  obtain⟨i,m,rfl⟩:=n0 (k.mem_iff.mp j)
  have w:i<(l.map f).length:=by rw[u4];exact m
  have u:(l.map f)[i]=f l[i]:=by rw[u0N]
  have z:(l.map f).idxOf (f l[i])=i:=by
   have:=h.idxOf_getElem i w
   rw[u]at this
   exact this
  show(l.map d).getD ((l.map f).idxOf (f l[i])) .non=d l[i]
  rw[z,j9,q0,u8 m]
  rfl
 .rw[<-n,l7]at r
  exact r
def zhX {α:Type}{g:zQ}{c:α->D}{f:α->zc}:∀ (l:List α),(∀ x∈l,g (some (c x)::ρ)=some (.tup ((f x).map .int))/\f x≠[])->zd0 g ρ (l.map c)=some (l.map f):=by
 intro l
 induction l with
 | nil=>intro _;rfl
 | cons x l d =>
  intro h
  obtain⟨e,a⟩:=h x (.head _)
  have r:=d λy b=>h y (.tail _ b)
  show(g (some (c x)::ρ)).bind _=_
  rw[e,j7]
  show(zaa ((f x).map .int)).bind _=_
  rw[Zj,j7,t9 a,r]
  rfl
def ziy {α:Type}{g:zQ}{c:α->D}{h:α->Int}{u:α->zc}:∀ (l:List α),(∀ x∈l,g (some (c x)::ρ)=some (.tup [.int (h x),.tup ((u x).map .int)]))->zho g ρ (l.map c)=some (l.map λx=>h x::u x):=by
 intro l
 induction l with
 | nil=>intro _;rfl
 | cons x l d =>
  intro a
  have e:=a x (.head _)
  have r:=d λy b=>a y (.tail _ b)
  show(g (some (c x)::ρ)).bind _=_
  rw[e,j7]
  show(zaa ((u x).map .int)).bind _=_
  rw[Zj,j7,r]
  rfl
def zqx (a:Nat->Int)(l:zC):zC:=(y9 (l.map λx=>[a x,(x:Int)])).map λt=>(t.getD 1 0).toNat
def W1 (a:Nat->Int)(d:Nat->D){l:zC}(c:l.Nodup):Y3 (l.map λx=>[a x,(x:Int)]) (l.map d)=(zqx a l).map d/\(zqx a l).Perm l/\(zqx a l).Pairwise (zjJ a)/\(l.map λx=>[a x,(x:Int)]).Nodup:=by
 obtain⟨j,e,f,i⟩:=Zh (λx:Nat=>[a x,(x:Int)]) (λt=>(t.getD 1 0).toNat) d (λx _=>rfl) c
 refine⟨j,e,?_,i⟩
 refine(f.and (e.nodup_iff.mpr c)).imp λ{x y} h=>?_
 obtain⟨g,k⟩:=h
 rcases lex2 g with b | ⟨b,m⟩
 .exact .inl b
 .exact .inr ⟨b,by omega⟩
def xR (k:Nat):zM k=.int (k:Int):=by show D.int (0+(k:Int))=_;rw[u0r]
def Y8 (m:Int)(a:zv)(b:zc)(x:Int):(yw m a b x).Nodup:=by
 unfold yw nbN
 exact(l0.filter _).filter _
def rkN (m:Int)(a:zv)(b tl:zc)(x:Nat):zC:=zqx (λo=>-vAt tl (o:Int)) (yw m a b (x:Int))
def Xh (m:Int)(a:zv)(b tl:zc)(x:Nat):(rkN m a b tl x).Perm (yw m a b (x:Int)):=(W1 _ zM (Y8 m a b _)).2.1
def yk {tl:zc}{o:Nat}:o∈rkN m a b tl x↔o∈yw m a b (x:Int):=(Xh m a b tl x).mem_iff
def vO (m:Int)(a:zv)(b tl:zc)(x:Nat):(rkN m a b tl x).Nodup:=(Xh m a b tl x).nodup_iff.mpr (Y8 m a b _)
def rkD (m:Int)(a:zv)(b tl:zc):zk:=(List.range m.toNat).map λx=>.lst ((rkN m a b tl x).map zM)
def zlI {m:Int}{tl:zc}{x:Nat}(c:(x:Int)<m):L2.atI (rkD m a b tl) (x:Int)=some (.lst ((rkN m a b tl x).map zM)):=by
 refine XY (by omega) ?_
 unfold rkD
 rw[q0,show((x:Int)).toNat=x from rfl,u0y (by omega)]
 rfl
def xZ (a:Nat->zC):Nat->Nat->zC
 | 0,_=>[]
 | n+1,y=>match a y with
  | []=>[]
  | o::_=>o::xZ a n o
def wD (w:zC):D:=.tup (w.map zM)
def muW:SE->Nat
 | [_,.v (.tup ds)]=>10-ds.length
 | _=>0
def zgK {w:zC}{y:Nat}:L2.atI ((w++[y]).map zM) (-1)=some (zM y):=by
 have e:L2.ixN ((w++[y]).map zM).length (-1)=some w.length:=by
  unfold L2.ixN
  rw[u4,j5]
  simp
  omega
 unfold L2.atI
 rw[e]
 simp
abbrev YR :=yx false 1 (zd y3 (zb 1) (yq (za (zd ixD (zd ixD (zb 0) (zd ixD (zb 1) (eUn Wg (eC (.int 1))))) (eC (.int 0))) ze)))
abbrev Xi :=zy (YJ (tOf (zd gtD (eFn vF (za (zd ixD (zb 0) (zd ixD (zb 1) (eUn Wg (eC (.int 1))))) ze)) (eC (.int 0)))) YR 10)
  (zO (zb 1))
def wK:=fnD 2 Xi
def VR {p:Int}{tl:zc}(ok:zG m b)(h:∀ x:Int,0<=x->x<m->0<=vAt a x/\vAt a x<m){w:zC}{y:Nat}(e:(y:Int)<m)(i:(w.length:Int)<=vAt a (y:Int)):wK [.lst (rkD m b a tl),wD (w++[y])]=some (wD (w++[y]++xZ (rkN m b a tl) (9-w.length) y)):=by
 have j:=ok.hi
 obtain⟨T,c⟩:∃ T,w++[y]++xZ (rkN m b a tl) (9-w.length) y=T:=⟨_,rfl⟩
 rw[c]
 have k:=h (y:Int) (by omega) e
 refine YE (ρ:=[.v (.lst (rkD m b a tl)),.v (wD (w++[y]))]) rfl ?_
 unfold Xi
 refine yn (zaW (fun ρ=>∃ (w:zC) (y:Nat),ρ=[.v (.lst (rkD m b a tl)),.v (wD (w++[y]))]/\(y:Int)<m/\(w.length:Int)<=vAt a (y:Int)/\w++[y]++xZ (rkN m b a tl) (9-w.length) y=T) muW ?_ 10 _ ⟨w,y,rfl,e,i,c⟩ ?_)
 .rintro ρ ⟨w,y,rfl,e,i,c⟩
  have l:=h (y:Int) (by omega) e
  have d:zd ixD (zb 0) (zd ixD (zb 1) (eUn Wg (eC (.int 1)))) (visG [.v (.lst (rkD m b a tl)),.v (wD (w++[y]))])=some (.lst ((rkN m b a tl y).map zM)):=by
   refine zA (x:=.lst (rkD m b a tl)) (y:=zM y) rfl (zA (x:=wD (w++[y])) (y:=.int (-1)) rfl rfl zgK) ?_
   rw[xR]
   exact zlI e
  cases f:rkN m b a tl y with
  | nil =>
   rw[f]at d
   refine⟨false,vR (zA (x:=.int 0) (y:=.int 0) (VU (ds:=[.lst []]) (zr d z0) rfl) rfl rfl),(λz=>by cases z),λ_=>?_⟩
   have:xZ (rkN m b a tl) (9-w.length) y=[]:=by
    rw[show 9-w.length=(8-w.length)+1 by omega]
    unfold xZ
    rw[f]
   rw[this,f6]at c
   rw[c]
   exact wC rfl rfl
  | cons o r =>
   rw[f]at d
   have g:o∈yw m b a (y:Int):=yk.mp (by rw[f];exact .head _)
   have n:=xB g
   refine⟨true,vR (zA (x:=.int ((((o::r).map zM).length:Nat):Int)) (y:=.int 0) (VU (ds:=[.lst ((o::r).map zM)]) (zr d z0) rfl) rfl ?_),λ_=>?_,(λz=>by cases z)⟩
   .show some (D.bl (decide (((((o::r).map zM).length:Nat):Int)>0)))=_
    rw[j0 (by rw[u4,k4];omega)]
   .unfold YR
    refine w3 (ρ':=[.v (.lst (rkD m b a tl)),.v (wD (w++[y]++[o]))]) (XB (zA (x:=wD (w++[y])) (y:=.tup [zM o]) rfl (vJ (zr (zA (x:=.lst ((o::r).map zM)) (y:=.int 0) d rfl (XY (u0T _) rfl)) z0) (by show 1<=1000;decide)) ?_)) ⟨⟨w++[y],o,rfl,yf g,?_,?_⟩,?_⟩
    .show y3 (.tup ((w++[y]).map zM)) (.tup [zM o])=_
     rw[zkc (by rw[u4,j5];show w.length+1+1<=1000;omega)]
     unfold wD
     rw[o0 (l₂:=[o])]
     rfl
    .rw[j5]
     show((w.length+1:Nat):Int)<=_
     omega
    .rw[<-c,j5]
     show w++[y]++[o]++xZ (rkN m b a tl) (9-(w.length+1)) o=_
     rw[show 9-w.length=(9-(w.length+1))+1 by omega]
     conv=>rhs;unfold xZ
     rw[f]
     simp
    .show 10-((w++[y]++[o]).map zM).length<10-((w++[y]).map zM).length
     rw[u4,u4,j5,j5]
     show 10-(w.length+1+1)<10-(w.length+1)
     omega
 .show 10-((w++[y]).map zM).length<10
  rw[u4,j5]
  show 10-(w.length+1)<10
  omega
def VY (T:Txt P w K mg base ad):T.Pr 33 1 2 wK:=by
 walk_at "p"
def zld (ok:zG m a):(yw m a d x).length<=7:=by
 have g:=ok.lo
 have f:=ok.hi
 have ex:∃ y∈List.range m.toNat,¬ decide (ZU x (y:Int)∈a)=true:=by
  by_cases c:0<=x/\x<m
  .refine⟨x.toNat,j6.mpr (by omega),λh=>?_⟩
   have b:x.toNat∈nbN m a x:=o6.mpr ⟨j6.mpr (by omega),h⟩
   rcases(v7 ok).mp b with h | h <;> (have:=ok.rng _ h;dsimp only at this;omega)
  .refine⟨0,j6.mpr (by omega),λh=>?_⟩
   have b:0∈nbN m a x:=o6.mpr ⟨j6.mpr (by omega),h⟩
   exact c (((v7 ok).mp b).rng ok).1
 have i:=List.length_filter_lt_length_iff_exists.mpr ex
 have j:(yw m a d x).length<=(nbN m a x).length:=u1a _ _
 have e:(nbN m a x).length<(List.range m.toNat).length:=i
 rw[k8]at e
 omega
def ZV (a:Nat->zC)(x y:Nat):zC:=x::y::xZ a 8 y
def zcu (p:Int)(a:Nat->zC)(x:Nat):zC:=if (x:Int)=p then a x else (a x).drop 1
def zU (p:Int)(a:Nat->zC)(n:Nat):Vc:=(List.range n).flatMap λx=>(zcu p a x).map (ZV a x)
def zbD (p:Int)(a:Nat->zC)(x j:Nat):zC:=if (x:Int)=p then (a x).take j else ((a x).take j).drop 1
def zir {a:Nat->zC}{j:Nat}(h:(a x)[j]?=some o):zbD p a x (j+1)=zbD p a x j++(if 0<j\/(x:Int)=p then [o]else []):=by
 unfold zbD
 have d:=(t5.mp h).1
 by_cases c:(x:Int)=p
 .rw[u9 c,u9 c,u9 (.inr c),u1f,h]
  rfl
 .rw[t9 c,t9 c,u1f,h]
  show((a x).take j++[o]).drop 1=_
  by_cases b:0<j
  .rw[u9 (.inl b),List.drop_append_of_le_length (by rw[u0t];omega)]
  .have:j=0:=by omega
   subst this
   rw[t9 (λh=>h.elim (λh=>absurd h (i7 _)) c)]
   rfl
def W5 (p:Int)(a:Nat->zC)(n:Nat):zU p a (n+1)=zU p a n++(zcu p a n).map (ZV a n):=by
 unfold zU
 rw[u1b,List.flatMap_append,List.flatMap_singleton]
def Zf {a:Nat->zC}{o:Nat}(h:o∈zcu p a x):o∈a x:=by
 unfold zcu at h
 split at h
 .exact h
 .exact List.mem_of_mem_drop h
def wq (p:Int){rk:Nat->zC}(c:∀ x,(rk x).Nodup)(n:Nat):(zU p rk n).Nodup:=by
 unfold zU
 rw[h9,List.pairwise_flatMap]
 refine⟨λx _=>?_,?_⟩
 .rw[l7]
  have:(zcu p rk x).Nodup:=by
   unfold zcu
   split
   .exact c x
   .exact(c x).sublist (List.drop_sublist _ _)
  refine this.imp λ{a b} h e=>h ?_
  unfold ZV at e
  exact(u0e (u0e e).2).1
 .refine l0.imp λ{a b} h u hu v hv e=>h ?_
  obtain⟨o,_,rfl⟩:=p0.mp hu
  obtain⟨d,_,rfl⟩:=p0.mp hv
  unfold ZV at e
  exact(u0e e).1
def zaj {rk:Nat->zC}{n:Nat}(a:∀ x,(rk x).length<=7)(d:n<=8):(zU p rk n).length<=7*n:=by
 induction n with
 | zero=>exact t7 _
 | succ n b =>
  rw[W5,j5,u4]
  have:=b (by omega)
  have c:(zcu p rk n).length<=7:=by
   unfold zcu
   split
   .exact a n
   .rw[u0O];have:=a n;omega
  omega
def zfc {m:Int}{tl:zc}:∀ (n y:Nat),(y:Int)<m->∀ w:zC,(w.length:Int)<=vAt ks (y:Int)->∃ (u:zC) (z:Nat),w++[y]++xZ (rkN m ts ks tl) n y=u++[z]/\(z:Int)<m/\(u.length:Int)<=vAt ks (z:Int)/\w.length<=u.length:=by
 intro n
 induction n with
 | zero=>intro y a w hw;exact⟨w,y,by unfold xZ;rw[f6],a,hw,t7 _⟩
 | succ n f =>
  intro y a w hw
  unfold xZ
  cases i:rkN m ts ks tl y with
  | nil=>exact⟨w,y,by simp,a,hw,t7 _⟩
  | cons o r =>
   have c:o∈yw m ts ks (y:Int):=yk.mp (by rw[i];exact .head _)
   have h:=xB c
   obtain⟨u,z,e,g,d,b⟩:=f o (yf c) (w++[y]) (by rw[j5];show((w.length+1:Nat):Int)<=_;omega)
   refine⟨u,z,?_,g,d,?_⟩
   .rw[<-e]
    simp
   .rw[j5]at b
    have:w.length+1<=u.length:=b
    omega
def zpG (m:Int)(w:zC):Prop:=∃ (u:zC) (z:Nat),w=u++[z]/\(z:Int)<m/\1<=u.length/\(u.length:Int)<m
def zqq {m p:Int}{tl:zc}(d:∀ x:Int,0<=x->x<m->0<=vAt a x/\vAt a x<m){x y:Nat}(i:(x:Int)<m)(h:y∈rkN m b a tl x):zpG m (ZV (rkN m b a tl) x y):=by
 have c:=yk.mp h
 have j:=xB c
 have n:=(d (x:Int) (by omega) i).1
 obtain⟨u,z,e,f,k,g⟩:=zfc (m:=m) (ts:=b) (ks:=a) (tl:=tl) 8 y (yf c) [x] (by show(1:Int)<=_;omega)
 have l:=(d (z:Int) (by omega) f).2
 exact⟨u,z,e,f,g,by omega⟩
def zgW {m:Int}{tl:zc}(d:∀ x:Int,0<=x->x<m->0<=vAt a x/\vAt a x<m):∀ w∈zU p (rkN m c a tl) m.toNat,zpG m w:=by
 intro w hw
 unfold zU at hw
 obtain⟨x,b,hw⟩:=u0f.mp hw
 obtain⟨y,e,rfl⟩:=p0.mp hw
 have b:=j6.mp b
 exact zqq (p:=p) d (by omega) (Zf e)
def wI (w:zC):zc:=w.map λk:Nat=>(k:Int)
def zoo (w:zC):wD w=.tup ((wI w).map .int):=by
 unfold wD wI
 rw[r9]
 congr 1
 exact o9 λk _=>xR k
def kW (w:zC):zc:=-(w.length:Int)::wI w
def zdA (F:Vc):Vc:=(y9 (F.map kW)).map λt=>(t.drop 1).map Int.toNat
def zc8 (w:zC):((kW w).drop 1).map Int.toNat=w:=by
 show(wI w).map Int.toNat=w
 unfold wI
 rw[r9]
 have:w.map (Int.toNat∘λk:Nat=>(k:Int))=w.map id:=o9 λk _=>rfl
 rw[this,u2C]
abbrev Ya :=sIf (vI (tOf (zd gtD (zb 7) (eC (.int 0)))) (tOf (zd vC (zb 6) (zb 1)))) (Xe false 5 (zh 2 wK (za (zb 4) (za (yq (za (zb 6) (za (zb 8) ze))) ze)))) zF
abbrev Yp :=Zd (yF (za (zd ixD (zb 4) (zb 6)) ze)) (Wd 2 (xt (z9 7) (xt (z9 8) Wn))) Ya
abbrev vY :=zy (yx false 2 (zh 2 yU (za (zb 0) (za (zb 1) ze))))
  (zy (yx false 3 (zh 2 ya (za (zb 0) (za (zb 1) ze))))
  (zy (yx false 4 (yc (fLC (iOf (zb 3)) b1 zN (yc (zi0 (za (zb 0) ze) (yq (za (eUn Wg (zd ixD (zb 4) (zb 0))) (za (zb 0) ze))))))))
  (zy (vH 5 (zS ze))
  (zy (xb xD (za (zd ixD (zb 0) (eC (.int 0))) ze) (z9 6) Yp)
  (sFz 5 (zO (yc (ziu (za (zb 5) ze) (yq (za (eUn Wg (eFn vF (za (zb 0) ze))) (za (zb 0) ze)))))))))))
def p_ways_from:=fnD 9 vY
def zcv {m:Int}{p:Int}{g tl:zc}(ok:zG m a)(hp:0<=p/\p<m)(H:vg m a p=g.map some)(K:(g.length:Int)=m)(N:∀ x:Int,0<=x->x<m->0<=vAt g x/\vAt g x<m)(Y:yU [zm m a,.int p]=some (.tup (tl.map .int)))(F:(tl.length:Int)=m):p_ways_from [zm m a,.int p]=some (.lst ((zdA (zU p (rkN m a g tl) m.toNat)).map wD)):=by
 have a0:=ok.lo
 have W:=ok.hi
 have e5:=zbf ok hp H K
 have S:=vO m a g tl
 have v:∀ x,(rkN m a g tl x).length<=7:=λx=>by rw[(Xh m a g tl x).length_eq];exact zld ok
 obtain⟨b,l⟩:∃ b,rkN m a g tl=b:=⟨_,rfl⟩
 refine YE (ρ:=[.v (zm m a),.v (.int p),.no,.no,.no,.no,.no,.no,.no]) rfl ?_
 unfold vY
 refine zo (ρ':=[.v (zm m a),.v (.int p),.v (.tup (tl.map .int)),.no,.no,.no,.no,.no,.no]) (wh (ds:=[_,_]) rfl Y) ?_
 refine zo (ρ':=[.v (zm m a),.v (.int p),.v (.tup (tl.map .int)),.v (.lst (xC m a g m.toNat)),.no,.no,.no,.no,.no]) (wh (ds:=[_,_]) rfl e5) ?_
 refine zo (ρ':=[.v (zm m a),.v (.int p),.v (.tup (tl.map .int)),.v (.lst (xC m a g m.toNat)),.v (.lst (rkD m a g tl)),.no,.no,.no,.no]) (XB (xN ?_)) ?_
 .unfold fLC
  rw[WP (d:=.lst (xC m a g m.toNat)) rfl rfl,j7,u9 (yN (by unfold xC;rw[u4,k8];omega))]
  unfold xC rkD
  refine xV (λx:Nat=>D.lst ((yw m a g (x:Int)).map zM)) (λx:Nat=>D.lst ((rkN m a g tl x).map zM)) (List.range m.toNat) λx hx=>⟨[some (.lst ((yw m a g (x:Int)).map zM))],rfl,rfl,xN ?_⟩
  unfold zi0
  rw[zr (d:=.lst ((yw m a g (x:Int)).map zM)) (ds:=[]) rfl z0,j7]
  show(zd0 _ _ ((yw m a g (x:Int)).map zM)).bind _=_
  obtain⟨I,R,T,J⟩:=W1 (λo=>-vAt tl (o:Int)) zM (Y8 m a g (x:Int))
  have k:((yw m a g (x:Int)).map zM).length<64:=by
   rw[u4]
   exact p5 (zbx ok) (by decide)
  rw[zhX (c:=zM) (f:=λo:Nat=>[-vAt tl (o:Int),(o:Int)]) (yw m a g (x:Int)) (λo Z=>⟨by
   have G:=yf Z
   rw[xR]
   exact vJ (ds:=[.int (-vAt tl (o:Int)),.int (o:Int)]) (zr (zpq (x:=.int (vAt tl (o:Int))) (zA (x:=.tup (tl.map .int)) (y:=.int (o:Int)) rfl rfl (zbG (ns:=tl) ⟨by omega,G⟩ F)) rfl) (zr rfl z0)) (by show 2<=1000;decide),by simp⟩),j7,u9 ⟨J,k⟩,I]
  rfl
 refine zo (ρ':=[.v (zm m a),.v (.int p),.v (.tup (tl.map .int)),.v (.lst (xC m a g m.toNat)),.v (.lst (rkD m a g tl)),.o [],.no,.no,.no]) rfl ?_
 refine yn (Ys (lo:=0) (c:=m.toNat) (λi ρ=>∃ E q r,ρ=[.v (zm m a),.v (.int p),.v (.tup (tl.map .int)),.v (.lst (xC m a g m.toNat)),.v (.lst (rkD m a g tl)),.o ((zU p b i).map wD),E,q,r]) (wN ok) ⟨_,_,_,rfl⟩ ?_ ?_)
 .rintro x ρ hx ⟨E,q,r,rfl⟩
  have B:(x:Int)<m:=by omega
  rw[u0r]
  refine⟨[.v (zm m a),.v (.int p),.v (.tup (tl.map .int)),.v (.lst (xC m a g m.toNat)),.v (.lst (rkD m a g tl)),.o ((zU p b x).map wD),.v (.int (x:Int)),q,r],rfl,?_⟩
  unfold Yp
  have L:∀ q r:Sl,yF (za (zd ixD (zb 4) (zb 6)) ze) (visG [.v (zm m a),.v (.int p),.v (.tup (tl.map .int)),.v (.lst (xC m a g m.toNat)),.v (.lst (rkD m a g tl)),.o ((zU p b x).map wD),.v (.int (x:Int)),q,r])=some (ZR 0 ((b x).map zM)):=λq r=>by
   unfold yF
   rw[zr (d:=.lst ((b x).map zM)) (ds:=[]) (zA (x:=.lst (rkD m a g tl)) (y:=.int (x:Int)) rfl rfl (by rw[<-l];exact zlI B)) z0]
   rfl
  refine ZN (ds:=ZR 0 ((b x).map zM)) (λj ρ=>∃ q r,ρ=[.v (zm m a),.v (.int p),.v (.tup (tl.map .int)),.v (.lst (xC m a g m.toNat)),.v (.lst (rkD m a g tl)),.o ((zU p b x++(zbD p b x j).map (ZV b x)).map wD),.v (.int (x:Int)),q,r]) (L q r) ⟨q,r,?_⟩ ?_ ?_
  .have:zbD p b x 0=[]:=by unfold zbD;split <;> simp
   rw[this,u2S,f6]
  .rintro j d ρ Q ⟨q,r,rfl⟩
   rw[vP]at Q
   obtain⟨dd,A,rfl⟩:=u7.mp Q
   rw[q0]at A
   obtain⟨y,O,rfl⟩:=u7.mp A
   rw[g8]
   have M:=j4 O
   have z:y∈yw m a g (x:Int):=yk.mp (by rw[l];exact M)
   have X:=xB z
   have h0:=(N (x:Int) (by omega) B).1
   refine⟨[.v (zm m a),.v (.int p),.v (.tup (tl.map .int)),.v (.lst (xC m a g m.toNat)),.v (.lst (rkD m a g tl)),.o ((zU p b x++(zbD p b x j).map (ZV b x)).map wD),.v (.int (x:Int)),.v (.int (j:Int)),.v (zM y)],rfl,?_⟩
   unfold Ya
   rw[zir O]
   have C:=VR (p:=p) (tl:=tl) ok N (w:=[x]) (y:=y) (yf z) (by show(1:Int)<=_;omega)
   rw[l]at C
   have C:wK [.lst (rkD m a g tl),.tup [.int (x:Int),zM y]]=some (wD (ZV b x y)):=by
    have e:D.tup [.int (x:Int),zM y]=wD ([x]++[y]):=by unfold wD;rw[<-xR x];rfl
    rw[e]
    exact C
   refine ZB (c:=decide (0<j\/(x:Int)=p)) ?_ (λs=>?_) (λs=>w3 rfl ⟨.v (.int (j:Int)),.v (zM y),?_⟩)
   .have U:tOf (zd gtD (zb 7) (eC (.int 0))) (visG [.v (zm m a),.v (.int p),.v (.tup (tl.map .int)),.v (.lst (xC m a g m.toNat)),.v (.lst (rkD m a g tl)),.o ((zU p b x++(zbD p b x j).map (ZV b x)).map wD),.v (.int (x:Int)),.v (.int (j:Int)),.v (zM y)])=some (decide (0<j)):=by
     refine vR (zA (x:=.int (j:Int)) (y:=.int 0) rfl rfl ?_)
     show some (D.bl (decide ((j:Int)>0)))=_
     congr 2
     exact u3l.mpr (by omega)
    have V:tOf (zd vC (zb 6) (zb 1)) (visG [.v (zm m a),.v (.int p),.v (.tup (tl.map .int)),.v (.lst (xC m a g m.toNat)),.v (.lst (rkD m a g tl)),.o ((zU p b x++(zbD p b x j).map (ZV b x)).map wD),.v (.int (x:Int)),.v (.int (j:Int)),.v (zM y)])=some (decide ((x:Int)=p)):=vR (zA (x:=.int (x:Int)) (y:=.int p) rfl rfl zY)
    rw[zrh U V,Bool.decide_or]
   .have s:=k9 s
    rw[u9 s]
    have k:((zU p b x++(zbD p b x j).map (ZV b x)).map wD).length<=1000:=by
     have P:=zaj (p:=p) (rk:=b) (n:=x) (by rw[<-l];exact v) (by omega)
     have a2:(zbD p b x j).length<=8:=by
      have:=v x
      rw[l]at this
      unfold zbD
      split
      .rw[u0t];omega
      .rw[u0O,u0t];omega
     rw[u4,j5,u4]
     omega
    refine w3 (Xj (m:=false) (i:=5) (d:=wD (ZV b x y)) (ds:=(zU p b x++(zbD p b x j).map (ZV b x)).map wD) (by unfold vEv;rw[t9 u6];exact zL (ds:=[.lst (rkD m a g tl),.tup [.int (x:Int),zM y]]) rfl C) rfl k) ⟨.v (.int (j:Int)),.v (zM y),?_⟩
    have e:(zU p b x++(zbD p b x j++[y]).map (ZV b x)).map wD=(zU p b x++(zbD p b x j).map (ZV b x)).map wD++[wD (ZV b x y)]:=by simp
    rw[e]
    rfl
   .have s:=u0F s
    rw[t9 s,f6]
  .rintro ρ ⟨q,r,rfl⟩
   refine⟨.v (.int (x:Int)),q,r,?_⟩
   rw[xG,u4]
   have:zbD p b x (b x).length=zcu p b x:=by
    unfold zbD zcu
    rw[u0u]
   rw[this,W5]
 .rintro ρ ⟨E,q,r,rfl⟩
  refine zdW (ρ':=[.v (zm m a),.v (.int p),.v (.tup (tl.map .int)),.v (.lst (xC m a g m.toNat)),.v (.lst (rkD m a g tl)),.v (.lst ((zU p b m.toNat).map wD)),E,q,r]) rfl ?_
  obtain⟨I,R,T,J⟩:=Zh kW (λt=>(t.drop 1).map Int.toNat) wD (λw _=>zc8 w) (wq p (rk:=b) (by rw[<-l];exact S) m.toNat)
  refine wC (xc (xN ?_)) (by rw[l])
  unfold ziu
  rw[zr (d:=.lst ((zU p b m.toNat).map wD)) (ds:=[]) rfl z0,j7]
  show(zho _ _ ((zU p b m.toNat).map wD)).bind _=_
  have k:((zU p b m.toNat).map wD).length<64:=by
   rw[u4]
   have P:=zaj (p:=p) (rk:=b) (n:=m.toNat) (by rw[<-l];exact v) (by omega)
   exact p5 P (by omega)
  rw[ziy (c:=wD) (h:=λw:zC=>-(w.length:Int)) (u:=wI) (zU p b m.toNat) (λw hw=>by
   rw[<-zoo]
   refine vJ (ds:=[.int (-(w.length:Int)),wD w]) (zr (zpq (x:=.int (w.length:Int)) (VU (ds:=[wD w]) rfl ?_) rfl) (zr rfl z0)) (by show 2<=1000;decide)
   show some (D.int ((w.map zM).length:Int))=_
   rw[u4]),j7,u9 ⟨J,k⟩]
  exact u0q some I
def zcF (T:Txt P w K mg base ad):T.Pr 32 7 2 p_ways_from:=by
 letI:KK:=⟨K⟩
 have G_outer_neighbours:=xE T
 have G_heights_from:=YW T
 have G_way_through:=VY T
 refine zlY (N:=(Rw 32).N) (ps:=(Rw 32).ps) T.lc_ways_from (T.d 32).fn (sc 32) (g:=vY) λA outer s H E a=>?_
 unfold vY Yp Ya
 apply yG <;> walk_at "s"
 all_goals first | exact(zjZ (x:="other") (M:=["others","web","root","tall","outer","ranked","found","place","at","·other"]) a rfl (T.z "sorted" (by decide)) (zw (edv 0) yb) T.la_ways_from rfl (ziF (by rfl) (by rfl) (by rfl) (by with_unfolding_all rfl) (by rfl) (by rfl) (by rfl) (by rfl) (by rfl) (by kernel_rfl) (all_cons rfl xz)) rfl (by kernel_rfl) (λ_ _ _ _=>rfl) (λ_ _ _ _ _=>(ZZ (zw (ziz (Yj (edv 4) (edv 0) (λ_ _=>rfl))) (zw (edv 0) yb))))) | exact(zk1 (x:="way") (M:=["web","root","tall","outer","ranked","found","place","at","other"]) a rfl (T.z "sorted" (by decide)) (zw (edv 5) yb) T.la_ways_from rfl (ziF (by rfl) (by rfl) (by rfl) (by with_unfolding_all rfl) (by rfl) (by rfl) (by rfl) (by rfl) (by rfl) (by kernel_rfl) xz) rfl (by kernel_rfl) (λ_ _ _ _=>rfl) (λ_ _ _ _ _=>(ZZ (zw (ziz (Yf YM zd1 rfl (T.z "len" (by decide)) zix (zw (edv 0) yb))) (zw (edv 0) yb)))))
def zay {F:Vc}(a:F.Nodup):(zdA F).Perm F:=(Zh kW (λt=>(t.drop 1).map Int.toNat) wD (λw _=>zc8 w) a).2.1
def lastN (w:zC):Nat:=w.getLastD 0
def zgb (t:Int)(i:Nat)(w:zC):Int:=(if i=0 then t else 1)*2^(w.length-1)-1
def ye (t m:Int)(V:Vc)(i:Nat):zc:=(V.zipIdx.take i).foldl (λs q=>s.set (lastN q.1) (zgb t q.2 q.1)) (List.replicate m.toNat 0)
def YX {t:Int}{V:Vc}{i:Nat}{w:zC}(h:V[i]?=some w):ye t m V (i+1)=(ye t m V i).set (lastN w) (zgb t i w):=by
 unfold ye
 have:V.zipIdx[i]?=some (w,i):=by rw[List.getElem?_zipIdx,h];simp
 rw[u1f,this,List.foldl_append]
 rfl
def vW {t m:Int}{V:Vc}(c:0<=m)(i:Nat):((ye t m V i).length:Int)=m:=by
 unfold ye
 have:∀ (l:List (zC × Nat)) (s:zc),(l.foldl (λs q=>s.set (lastN q.1) (zgb t q.2 q.1)) s).length=s.length:=by
  intro l
  induction l with
  | nil=>intro s;rfl
  | cons a l b=>intro s;rw[List.foldl_cons,b,u0L]
 rw[this,f8]
 omega
def zps (m:Int)(w:zC):Prop:=∃ (u:zC) (z:Nat),w=u++[z]/\(z:Int)<m/\(u.length:Int)<m
def zps.last {w:zC}(h:zps m w):L2.atI (w.map zM) (-1)=some (.int (lastN w:Int))/\(lastN w:Int)<m:=by
 obtain⟨u,z,rfl,a,_⟩:=h
 have e:lastN (u++[z])=z:=by unfold lastN;simp
 rw[e]
 refine⟨?_,a⟩
 rw[zgK,xR]
abbrev Zx :=Xa false 3 (zd ixD (zb 5) (eUn Wg (eC (.int 1)))) (zd wm (zh 2 wR (za (eIf (tOf (zd vC (zb 4) (eC (.int 0)))) (zb 2) (eC (.int 1))) (za (zd wm (eFn vF (za (zb 5) ze)) (eC (.int 1))) ze))) (eC (.int 1)))
abbrev Wf :=zy (vH 3 (zkz zf9 (yc (zS (za (eC (.int 0)) ze))) (zd ixD (zb 0) (eC (.int 0)))))
  (zy (Zd (yF (za (zqC (zh 2 p_ways_from (za (zb 0) (za (zb 1) ze))) (yc (zS (za (yq (za (zb 1) ze)) ze)))) ze)) (Wd 2 (xt (z9 4) (xt (z9 5) Wn))) Zx)
  (sFz 3 (zO (eFn yo (za (zb 3) ze)))))
def vw:=fnD 6 Wf
def za0 {p t:Int}{W V:Vc}(ok:zG m a)(L:0<=p/\p<m)(e:p_ways_from [zm m a,.int p]=some (.lst (W.map wD)))(G:V=if W.isEmpty=true then [[p.toNat]]else W)(E:∀ w∈V,zps m w):vw [zm m a,.int p,.int t]=some (.tup ((ye t m V V.length).map .int)):=by
 have J:=ok.lo
 have B:=ok.hi
 have v:ixD (zm m a) (.int 0)=some (.int m):=rfl
 refine YE (ρ:=[.v (zm m a),.v (.int p),.v (.int t),.no,.no,.no]) rfl ?_
 unfold Wf
 refine zo (ρ':=[.v (zm m a),.v (.int p),.v (.int t),.o ((ye t m V 0).map .int),.no,.no]) ?_ ?_
 .have e:=za5 (d:=.int 0) (n:=m) (by omega) (by omega)
  have C:(ye t m V 0).map D.int=List.replicate m.toNat (.int 0):=by
   show(List.replicate m.toNat (0:Int)).map D.int=_
   rw[u06]
  rw[C]
  simp[vH,zkz,yc,zS,za,ze,eC,yN,zb,visF,Sl.f,zd,v,e]
 have o:yF (za (zqC (zh 2 p_ways_from (za (zb 0) (za (zb 1) ze))) (yc (zS (za (yq (za (zb 1) ze)) ze)))) ze) (visG [.v (zm m a),.v (.int p),.v (.int t),.o ((ye t m V 0).map .int),.no,.no])=some (ZR 0 (V.map wD)):=by
  unfold yF
  rw[zr (d:=.lst (V.map wD)) (ds:=[]) ?_ z0]
  .rfl
  .unfold zqC
   rw[zL (ds:=[zm m a,.int p]) rfl e,j7]
   show(if (W.map wD).isEmpty=true then _ else _)=_
   rw[G,List.isEmpty_map]
   cases c:W.isEmpty with
   | true =>
    rw[u9 rfl,u9 rfl]
    have A:D.tup [.int p]=wD [p.toNat]:=by
     show _=D.tup [zM p.toNat]
     rw[xR,show((p.toNat:Nat):Int)=p by omega]
    show some (D.lst [D.tup [.int p]])=_
    rw[A]
    rfl
   | false =>
    rw[t9 u6,t9 u6]
 refine yn (ZN (ds:=ZR 0 (V.map wD)) (λi ρ=>∃ h j,ρ=[.v (zm m a),.v (.int p),.v (.int t),.o ((ye t m V i).map .int),h,j]) o ⟨_,_,rfl⟩ ?_ ?_)
 .rintro i d ρ r ⟨h,j,rfl⟩
  rw[vP]at r
  obtain⟨K,g,rfl⟩:=u7.mp r
  rw[q0]at g
  obtain⟨w,hw,rfl⟩:=u7.mp g
  rw[g8]
  have f:=E w (j4 hw)
  obtain⟨F,l⟩:=f.last
  obtain⟨u,z,q,_,s⟩:=f
  have H:w.length-1<=8:=by rw[q,j5];show u.length+1-1<=8;omega
  have I:1<=w.length:=by rw[q,j5];show 1<=u.length+1;omega
  refine⟨[.v (zm m a),.v (.int p),.v (.int t),.o ((ye t m V i).map .int),.v (.int (i:Int)),.v (wD w)],rfl,?_⟩
  unfold Zx
  have b:=zam (n:=if i=0 then t else 1) (k:=(w.length:Int)-1) (by omega) (by omega)
  rw[show((w.length:Int)-1).toNat=w.length-1 by omega]at b
  refine zc5 ((ye t m V i).map .int) (.int (zgb t i w)) (lastN w:Int) ?_ (zA (x:=wD w) (y:=.int (-1)) rfl rfl F) rfl (by omega) (zdi l (vW (by omega) i)) ⟨.v (.int (i:Int)),.v (wD w),?_⟩
  .unfold vEv
   rw[t9 u6]
   refine zA (x:=.int ((if i=0 then t else 1)*2^(w.length-1))) (y:=.int 1) (zL (ds:=[.int (if i=0 then t else 1),.int ((w.length:Int)-1)]) (zr (zri (c:=decide ((i:Int)=0)) (vR (zA (x:=.int (i:Int)) (y:=.int 0) rfl rfl zY)) ?_) (zr (zA (x:=.int (w.length:Int)) (y:=.int 1) (VU (ds:=[wD w]) rfl ?_) rfl rfl) z0)) b) rfl rfl
   .by_cases c:i=0
    .rw[j0 (by omega),u9 rfl,u9 c]
     rfl
    .rw[j8 (by omega),t9 u6,t9 c]
     rfl
   .show some (D.int ((w.map zM).length:Int))=_
    rw[u4]
  .rw[YX hw,u1y]
   rfl
 .rintro ρ ⟨h,j,rfl⟩
  rw[xG,u4]
  exact zdW (ρ':=[.v (zm m a),.v (.int p),.v (.int t),.v (.lst ((ye t m V V.length).map .int)),h,j]) rfl (wC rfl rfl)
def za6 (T:Txt P w K mg base ad):T.Pr 34 8 3 vw:=by
 have:=Zm T
 have:=zcF T
 walk_at "p"
abbrev Wj :=zy (YH (zh 1 zK (za (zb 0) ze)))
  (zy (YH (zh 2 zR (za (zb 0) (za (zb 1) ze))))
  (zy (YH (zh 3 yS (za (zb 2) (za (eC (.int 1)) (za (eC (.int 2)) ze)))))
  (zy (YH (zh 1 wg (za (zb 0) ze)))
  (zO (zh 3 vw (za (zb 0) (za (zb 1) (za (zb 2) ze))))))))
def vq:=fnD 3 Wj
def zaO {p t:Int}{a:zv}{S:zc}(ok:zG m a)(h:Zy m a)(b:(a.length:Int)=m-1)(f:0<=p/\p<m)(g:1<=t)(c:t<=2)(e:vw [zm m a,.int p,.int t]=some (.tup (S.map .int))):vq [zm m a,.int p,.int t]=some (.tup (S.map .int)):=by
 refine YE (ρ:=[.v (zm m a),.v (.int p),.v (.int t)]) rfl ?_
 unfold Wj
 refine zo (x9 (d:=.non) (zeR ok)) ?_
 refine zo (x9 (d:=.non) (Zn (ts:=a) f)) ?_
 refine zo (x9 (d:=.non) (zik g c)) ?_
 refine zo (x9 (d:=.non) (Y1 ok h b)) ?_
 exact wC (xc (zL (ds:=[_,_,_]) rfl e)) rfl
def zaB (T:Txt P w K mg base ad):T.Pr 36 12 3 vq:=by
 have:=we T
 have:=xw T
 have:=yR T
 have:=YU T
 have:=za6 T
 walk_at "p"
abbrev Vd :=zO (zd y3 (eFn zlU (za (zh 3 vq (za (zb 0) (za (zb 1) (za (zb 2) ze)))) ze)) (eC (.int 1)))
def ZP:=fnD 3 Vd
def zc1 {t:Int}{S:zc}(e:vq [zm m a,.int p,.int t]=some (.tup (S.map .int))):ZP [zm m a,.int p,.int t]=some (.int (S.sum+1)):=by
 refine YE (ρ:=[.v (zm m a),.v (.int p),.v (.int t)]) rfl ?_
 unfold Vd
 have b:zlU [.tup (S.map .int)]=some (.int S.sum):=by
  show(zaa (S.map .int)).bind _=_
  rw[Zj]
  rfl
 exact wC (xc (zA (x:=.int S.sum) (y:=.int 1) (VU (ds:=[.tup (S.map .int)]) (zr (zL (ds:=[_,_,_]) rfl e) z0) b) rfl rfl)) rfl
def zcC (T:Txt P w K mg base ad):T.Pr 35 13 3 ZP:=by
 have:=zaB T
 walk_at "q"
def zio {m p:Int}{f:zv}{b:zc}(e:0<=p/\p<m)(c:vg m f p=b.map some)(a:(b.length:Int)=m):vAt b p=0:=by
 obtain⟨k,d,g⟩:=zhI c a e
 have:=d.2 0 .zero
 omega
def Zk {m p:Int}{a:zc}(g:0<=p/\p<m)(c:vg m d p=a.map some)(b:(a.length:Int)=m)(i:∀ x:Int,0<=x->x<m->0<=vAt a x/\vAt a x<m){o:Nat}{x:Int}(f:0<=x/\x<m)(h:o∈yw m d a x):(o:Int)≠p:=λe=>by
 have j:=xB h
 rw[e,zio g c b]at j
 have:=(i x f.1 f.2).1
 omega
def zet {p:Int}{f:zv}{c:zc}(ok:zG m f)(g:(f.length:Int)=m-1)(k:0<=p/\p<m)(d:vg m f p=c.map some)(e:(c.length:Int)=m)(o:∀ x:Int,0<=x->x<m->0<=vAt c x/\vAt c x<m){x a b:Nat}(n:(a:Int)<m)(h:x∈yw m f c (a:Int))(l:x∈yw m f c (b:Int)):a=b:=by
 obtain⟨y,q⟩:=zdh (x:=(x:Int)) ok g k d e ⟨by omega,yf h⟩ (Zk k d e o ⟨by omega,n⟩ h)
 have i:=(YV ok).mpr h
 have j:=(YV ok).mpr l
 rw[q]at i j
 rw[q5.mp i,q5.mp j]
def zk5 (m:Int)(a:zv)(b:zc)(x:Nat):Int:=(((inN m a b (x:Int)).headD 0:Nat):Int)
def zhg {p:Int}{d:zc}(ok:zG m c)(j:0<=p/\p<m)(g:vg m c p=d.map some)(e:(d.length:Int)=m){x:Nat}(k:(x:Int)<m)(f:(x:Int)≠p):∃ y:Nat,zk5 m c d x=(y:Int)/\y∈inN m c d (x:Int):=by
 obtain⟨a,i⟩:=w4 (x:=(x:Int)) ok j g e ⟨by omega,k⟩ f
 unfold zk5
 cases h:inN m c d (x:Int) with
 | nil=>rw[h]at i;cases i
 | cons b r=>exact⟨b,rfl,.head _⟩
structure zgY (m:Int) (ts:zv) (ks:zc) (p:Int):Prop where
 ok:zG m ts
 tl:(ts.length:Int)=m-1
 hp:0<=p/\p<m
 hks:vg m ts p=ks.map some
 hkl:(ks.length:Int)=m
 hb:∀ x:Int,0<=x->x<m->0<=vAt ks x/\vAt ks x<m
abbrev wB :=Xa false 2 (zb 5) (zb 3)
abbrev wE :=Zd (iOf (zb 4)) (z9 5) wB
abbrev xU :=zy (vH 2 (zkz zf9 (yc (zS (za (eC .non) ze))) (zd ixD (zb 0) (eC (.int 0)))))
  (zy (Zd (yF (za (zh 2 ya (za (zb 0) (za (zb 1) ze))) ze)) (Wd 2 (xt (z9 3) (xt (z9 4) Wn))) wE)
  (sFz 2 (zO (zb 2))))
def xY:=fnD 6 xU
def zj5 {f:zc}(T:zgY m b f p):∃ a:xi,xY [zm m b,.int p]=some (.lst (a.map yI))/\(a.length:Int)=m/\∀ x:Nat,(x:Int)<m->(x:Int)≠p->oAt a (x:Int)=some (zk5 m b f x):=by
 have ok:=T.ok
 have W:=ok.lo
 have U:=ok.hi
 have P:ixD (zm m b) (.int 0)=some (.int m):=rfl
 have V:=zbf ok T.hp T.hks T.hkl
 have key:=zkR (m:=6) (g:=xU) (ds:=[zm m b,.int p]) (R:=λd=>∃ a:xi,d=.lst (a.map yI)/\(a.length:Int)=m/\∀ x:Nat,(x:Int)<m->(x:Int)≠p->oAt a (x:Int)=some (zk5 m b f x)) (ρ:=[.v (zm m b),.v (.int p),.no,.no,.no,.no]) rfl ?_
 .obtain⟨d,e,a,rfl,h⟩:=key
  exact⟨a,e,h⟩
 unfold xU
 refine zo (ρ':=[.v (zm m b),.v (.int p),.o ((List.replicate m.toNat (none:zX)).map yI),.no,.no,.no]) ?_ ?_
 .have e:=za5 (d:=.non) (n:=m) (by omega) (by omega)
  have Q:(List.replicate m.toNat (none:zX)).map yI=List.replicate m.toNat D.non:=by rw[u06];rfl
  rw[Q]
  simp[vH,zkz,yc,zS,za,ze,eC,yN,zb,visF,Sl.f,zd,P,e]
 have B:yF (za (zh 2 ya (za (zb 0) (za (zb 1) ze))) ze) (visG [.v (zm m b),.v (.int p),.o ((List.replicate m.toNat (none:zX)).map yI),.no,.no,.no])=some (ZR 0 (xC m b f m.toNat)):=by
  unfold yF
  rw[zr (zL (ds:=[zm m b,.int p]) rfl V) z0]
  rfl
 refine yn (ZN (ds:=ZR 0 (xC m b f m.toNat)) (λi ρ=>∃ (a:xi) (G E l:Sl),ρ=[.v (zm m b),.v (.int p),.o (a.map yI),G,E,l]/\(a.length:Int)=m/\∀ o x:Nat,o<i->(o:Int)<m->x∈yw m b f (o:Int)->oAt a (x:Int)=some (o:Int)) B ⟨_,_,_,_,rfl,by rw[f8];omega,λo x h=>absurd h (u1M _)⟩ ?_ ?_)
 .rintro i d ρ v ⟨a,G,E,l,rfl,r,t⟩
  rw[vP]at v
  obtain⟨X,s,rfl⟩:=u7.mp v
  unfold xC at s
  rw[q0]at s
  obtain⟨y,C,rfl⟩:=u7.mp s
  obtain⟨S,F⟩:=t5.mp C
  rw[u2R]at F
  subst F
  rw[k8]at S
  rw[g8]
  refine⟨[.v (zm m b),.v (.int p),.o (a.map yI),.v (.int (i:Int)),.v (.lst ((yw m b f (i:Int)).map zM)),l],rfl,?_⟩
  unfold wE
  refine ZN (ds:=(yw m b f (i:Int)).map zM) (λj ρ=>∃ (a:xi) (l:Sl),ρ=[.v (zm m b),.v (.int p),.o (a.map yI),.v (.int (i:Int)),.v (.lst ((yw m b f (i:Int)).map zM)),l]/\(a.length:Int)=m/\(∀ o x:Nat,o<i->(o:Int)<m->x∈yw m b f (o:Int)->oAt a (x:Int)=some (o:Int))/\∀ k x:Nat,k<j->(yw m b f (i:Int))[k]?=some x->oAt a (x:Int)=some (i:Int)) rfl ⟨_,_,rfl,r,t,λk x h=>absurd h (u1M _)⟩ ?_ ?_
  .rintro j d ρ v ⟨a,l,rfl,r,t,K⟩
   rw[q0]at v
   obtain⟨x,H,rfl⟩:=u7.mp v
   have A:=j4 H
   have M:=yf A
   refine⟨[.v (zm m b),.v (.int p),.o (a.map yI),.v (.int (i:Int)),.v (.lst ((yw m b f (i:Int)).map zM)),.v (zM x)],rfl,?_⟩
   unfold wB
   have O:zM x=.int (x:Int):=by show D.int (0+(x:Int))=_;rw[u0r]
   rw[O]
   refine zc5 (a.map yI) (.int (i:Int)) (x:Int) rfl rfl rfl (by omega) (zdi M r) ⟨a.set x (some (i:Int)),.v (.int (x:Int)),?_,by rw[u0L];exact r,?_,?_⟩
   .rw[u1y];rfl
   .intro o z L q u
    have e:=wZ (fs:=a) (i:=(x:Int)) (j:=(z:Int)) (x:=some (i:Int)) (by omega) (by omega) (by omega)
    have w:z≠x:=λe=>by
     subst e
     have:=zet ok T.tl T.hp T.hks T.hkl T.hb q u A
     omega
    show oAt (a.set (x:Int).toNat (some (i:Int))) (z:Int)=_
    rw[e,t9 (by omega)]
    exact t o z L q u
   .intro k z L q
    have e:=wZ (fs:=a) (i:=(x:Int)) (j:=(z:Int)) (x:=some (i:Int)) (by omega) (by omega) (by omega)
    show oAt (a.set (x:Int).toNat (some (i:Int))) (z:Int)=_
    rw[e]
    by_cases c:z=x
    .rw[u9 (by rw[c])]
    .rw[t9 (by omega)]
     refine K k z ?_ q
     have:k≠j:=λe=>by subst e;rw[H]at q;cases q;exact c rfl
     omega
  .rintro ρ ⟨a,l,rfl,r,t,K⟩
   refine⟨a,_,_,_,rfl,r,λo x L q u=>?_⟩
   by_cases c:o=i
   .subst c
    obtain⟨k,N,e⟩:=n0 u
    exact K k x (by rw[u4];exact N) (by rw[u8 N,e])
   .exact t o x (by omega) q u
 .rintro ρ ⟨a,G,E,l,rfl,r,t⟩
  refine zdW (ρ':=[.v (zm m b),.v (.int p),.v (.lst (a.map yI)),G,E,l]) rfl (wC rfl ⟨a,rfl,r,λx H w=>?_⟩)
  obtain⟨y,F,C⟩:=zhg ok T.hp T.hks T.hkl H w
  have I:=(YV ok).mp C
  have J:=((((wy ok).mp C).1).rng ok).2
  rw[F]
  refine t y x ?_ J.2 I
  rw[xG]
  unfold xC
  rw[u4,k8]
  omega
def ZO (T:Txt P w K mg base ad):T.Pr 29 5 2 xY:=by
 have:=xE T
 walk_at "p"
def xT (a:Nat->zC):Nat->Nat->List (Nat × Nat)
 | 0,_=>[]
 | n+1,y=>match a y with
  | []=>[]
  | o::_=>(y,o)::xT a n o
def prs (w:zC):List (Nat × Nat):=w.zip (w.drop 1)
def zhb (a:Nat->zC):∀ (n y:Nat),prs (y::xZ a n y)=xT a n y:=by
 intro n
 induction n with
 | zero=>intro y;rfl
 | succ n b =>
  intro y
  unfold xZ xT
  cases a y with
  | nil=>rfl
  | cons o r =>
   show(y,o)::prs (o::xZ a n o)=(y,o)::xT a n o
   rw[b]
def WT (a:Nat->zC)(x y:Nat):prs (ZV a x y)=(x,y)::xT a 8 y:=by
 show(x,y)::prs (y::xZ a 8 y)=_
 rw[zhb]
section
variable {m p:Int}{ts:zv}{ks tl:zc}
def zfK:∀ (n y:Nat) {a b:Nat},(a,b)∈xT (rkN m ts ks tl) n y->∃ r,rkN m ts ks tl a=b::r:=by
 intro n
 induction n with
 | zero=>intro y a b h;cases h
 | succ n d =>
  intro y a b h
  unfold xT at h
  cases c:rkN m ts ks tl y with
  | nil=>rw[c]at h;cases h
  | cons o r =>
   rw[c]at h
   rcases t6.mp h with h | h
   .cases h;exact⟨r,c⟩
   .exact d o h
def zfs:∀ (n y:Nat) {a b:Nat},(a,b)∈xT (rkN m ts ks tl) n y->a=y\/∃ q,(q,a)∈xT (rkN m ts ks tl) n y:=by
 intro n
 induction n with
 | zero=>intro y a b h;cases h
 | succ n d =>
  intro y a b h
  unfold xT at h ⊢
  cases c:rkN m ts ks tl y with
  | nil=>rw[c]at h;cases h
  | cons o r =>
   rw[c]at h
   rcases t6.mp h with h | h
   .cases h;exact .inl rfl
   .rcases d o h with rfl | ⟨q,hq⟩
    .exact .inr ⟨y,.head _⟩
    .exact .inr ⟨q,.tail _ hq⟩
def zfU (i:∀ x:Int,0<=x->x<m->0<=vAt ks x/\vAt ks x<m):∀ (n y:Nat),(y:Int)<m->m-vAt ks (y:Int)<=(n:Int)->∀ {a o:Nat} {r:zC},(a=y\/∃ q,(q,a)∈xT (rkN m ts ks tl) n y)->rkN m ts ks tl a=o::r->(a,o)∈xT (rkN m ts ks tl) n y:=by
 intro n
 induction n with
 | zero =>
  intro y f h
  have:=(i (y:Int) (by omega) f).2
  omega
 | succ n j =>
  intro y f h a o r c d
  unfold xT at c ⊢
  cases b:rkN m ts ks tl y with
  | nil =>
   rw[b]at c
   rcases c with rfl | ⟨q,hq⟩
   .rw[d]at b;cases b
   .cases hq
  | cons g l =>
   rw[b]at c
   have e:=yk.mp (show g∈rkN m ts ks tl y by rw[b];exact .head _)
   have k:=xB e
   rcases c with rfl | ⟨q,hq⟩
   .rw[d]at b
    cases b
    exact .head _
   .refine .tail _ (j g (yf e) (by omega) ?_ d)
    rcases t6.mp hq with hq | hq
    .cases hq;exact .inl rfl
    .exact .inr ⟨q,hq⟩
def zj1 {a b:Nat}(h:(a,b)∈prs (ZV (rkN m ts ks tl) x y)):(a=x/\b=y)\/((∃ r,rkN m ts ks tl a=b::r)/\∃ q,(q,a)∈prs (ZV (rkN m ts ks tl) x y)):=by
 rw[WT]at h ⊢
 rcases t6.mp h with h | h
 .cases h;exact .inl ⟨rfl,rfl⟩
 .refine .inr ⟨zfK 8 y h,?_⟩
  rcases zfs 8 y h with rfl | ⟨q,hq⟩
  .exact⟨x,.head _⟩
  .exact⟨q,.tail _ hq⟩
def ZY {w:zC}(h:w∈zU p (rkN m ts ks tl) m.toNat):∃ x y:Nat,(x:Int)<m/\y∈zcu p (rkN m ts ks tl) x/\w=ZV (rkN m ts ks tl) x y:=by
 unfold zU at h
 obtain⟨x,a,hw⟩:=u0f.mp h
 obtain⟨y,b,rfl⟩:=p0.mp hw
 have a:=j6.mp a
 exact⟨x,y,by omega,b,rfl⟩
def zj3 {w:zC}(hw:w∈zU p (rkN m ts ks tl) m.toNat){a b:Nat}(h:(a,b)∈prs w):b∈yw m ts ks (a:Int):=by
 obtain⟨x,y,e,d,rfl⟩:=ZY hw
 rcases zj1 h with ⟨rfl,rfl⟩ | ⟨⟨r,c⟩,_⟩
 .exact yk.mp (Zf d)
 .exact yk.mp (show b∈rkN m ts ks tl a by rw[c];exact .head _)
variable (ok:zG m ts)(htl:(ts.length:Int)=m-1)(hp:0<=p/\p<m)(hks:vg m ts p=ks.map some)(hkl:(ks.length:Int)=m)(hb:∀ x:Int,0<=x->x<m->0<=vAt ks x/\vAt ks x<m)
include ok htl hp hks hkl hb
theorem zgq:∀ (n a:Nat),(a:Int)<m->vAt ks (a:Int)<=(n:Int)->∀ {b:Nat},b∈rkN m ts ks tl a->∃ w∈zU p (rkN m ts ks tl) m.toNat,(a,b)∈prs w:=by
 intro n
 induction n with
 | zero =>
  intro a j u b d
  have E:=(hb (a:Int) (by omega) j).1
  have g:(a:Int)=p:=by
   by_cases c:(a:Int)=p
   .exact c
   .obtain⟨q,hq⟩:=w4 (x:=(a:Int)) ok hp hks hkl ⟨by omega,j⟩ c
    obtain⟨l,t⟩:=(wy ok).mp hq
    have k:=(l.rng ok).2
    have:=(hb (q:Int) k.1 k.2).1
    omega
  refine⟨ZV (rkN m ts ks tl) a b,?_,by rw[WT];exact .head _⟩
  refine u0f.mpr ⟨a,j6.mpr (by omega),u0i ?_⟩
  unfold zcu
  rw[u9 g]
  exact d
 | succ n A =>
  intro a j u b d
  by_cases c:b∈zcu p (rkN m ts ks tl) a
  .exact⟨ZV (rkN m ts ks tl) a b,u0f.mpr ⟨a,j6.mpr (by omega),u0i c⟩,by rw[WT];exact .head _⟩
  .have g:(a:Int)≠p:=λe=>c (by unfold zcu;rw[u9 e];exact d)
   obtain⟨r,D⟩:∃ r,rkN m ts ks tl a=b::r:=by
    cases h:rkN m ts ks tl a with
    | nil=>rw[h]at d;cases d
    | cons o r =>
     rw[h]at d
     rcases t6.mp d with rfl | d
     .exact⟨r,rfl⟩
     .refine absurd ?_ c
      unfold zcu
      rw[t9 g,h]
      exact d
   obtain⟨q,hq⟩:=w4 (x:=(a:Int)) ok hp hks hkl ⟨by omega,j⟩ g
   obtain⟨l,t⟩:=(wy ok).mp hq
   have k:=(l.rng ok).2
   obtain⟨w,hw,f⟩:=A q k.2 (by omega) (yk.mpr ((YV ok).mp hq))
   refine⟨w,hw,?_⟩
   obtain⟨x,y,C,z,rfl⟩:=ZY hw
   rw[WT]at f ⊢
   have i:=yk.mp (Zf z)
   have s:=xB i
   have v:=(hb (x:Int) (by omega) C).1
   have B:=ok.hi
   refine .tail _ (zfU hb 8 y (yf i) (by omega) ?_ D)
   rcases t6.mp f with f | f
   .cases f;exact .inl rfl
   .exact .inr ⟨q,f⟩
theorem zcX {a b:Nat}:(a,b)∈(zU p (rkN m ts ks tl) m.toNat).flatMap prs↔b∈yw m ts ks (a:Int):=by
 rw[u0f]
 constructor
 .rintro⟨w,hw,h⟩
  exact zj3 hw h
 .intro h
  have c:(a:Int)<m:=((((zeX ok).mp h).1).rng ok).1.2
  exact zgq ok htl hp hks hkl hb (vAt ks (a:Int)).toNat a c (by have:=(hb (a:Int) (by omega) c).1;omega) (yk.mpr h)
end
def zeW {l k:zc}(h:l.Perm k):l.sum=k.sum:=by
 induction h with
 | nil=>rfl
 | cons x _ b=>rw[u0I,u0I,b]
 | swap x y l=>rw[u0I,u0I,u0I,u0I];omega
 | trans _ _ c a=>exact c.trans a
def zkW {α β:Type}(f:β->Int)(g:α->List β):∀ l:List α,((l.flatMap g).map f).sum=(l.map λx=>((g x).map f).sum).sum:=by
 intro l
 induction l with
 | nil=>rfl
 | cons a l b=>rw[List.flatMap_cons,o0,u2E,b,r6,u0I]
def sm (n:Nat)(f:Nat->Int):Int:=((List.range n).map f).sum
def x6 (n:Nat)(f:Nat->Int):sm (n+1) f=sm n f+f n:=by
 unfold sm
 rw[u1b,o0,u2E]
 simp
def sm_le {n:Nat}{f g:Nat->Int}(h:∀ x,x<n->f x<=g x):sm n f<=sm n g:=by
 induction n with
 | zero=>exact u0T _
 | succ n a =>
  rw[x6,x6]
  have:=a λx b=>h x (by omega)
  have:=h n (by omega)
  omega
def v9 {n:Nat}{f g:Nat->Int}(h:∀ x,x<n->f x=g x):sm n f=sm n g:=by
 induction n with
 | zero=>rfl
 | succ n a=>rw[x6,x6,a λx b=>h x (by omega),h n (by omega)]
def zeb (n:Nat)(f g:Nat->Int):sm n (λx=>f x+g x)=sm n f+sm n g:=by
 induction n with
 | zero=>rfl
 | succ n a=>rw[x6,x6,x6,a];omega
def zmb (n:Nat)(f g:Nat->Int):sm n (λx=>f x-g x)=sm n f-sm n g:=by
 induction n with
 | zero=>rfl
 | succ n a=>rw[x6,x6,x6,a];omega
def nr (p:Int)(f:Nat->Int)(x:Nat):Int:=if (x:Int)=p then 0 else f x
def ziD {p a:Int}{f:Nat->Int}(e:0<=p):sm n (λx=>if (x:Int)=p then a else f x)=sm n (nr p f)+(if p<(n:Int)then a else 0):=by
 induction n with
 | zero =>
  rw[t9 (by omega)]
  rfl
 | succ n d =>
  rw[x6,x6,d]
  unfold nr
  by_cases c:(n:Int)=p
  .rw[u9 c,u9 c,t9 (by omega),u9 (by omega)]
  .rw[t9 c,t9 c]
   by_cases b:p<(n:Int)
   .rw[u9 b,u9 (by omega)];omega
   .rw[t9 b,t9 (by omega)];omega
def zmn {hs:zc}{n:Nat}(h:hs.length=n):hs.sum=sm n λx=>vAt hs (x:Int):=by
 unfold sm
 congr 1
 refine u2j (by rw[u4,k8,h]) λi a b=>?_
 rw[u0N,u2R]
 unfold vAt
 rw[j9,show((i:Int)).toNat=i from rfl,u8 a]
 rfl
section
variable {m p:Int}{ts:zv}{ks tl:zc}(ok:zG m ts)(htl:(ts.length:Int)=m-1)(hp:0<=p/\p<m)(hks:vg m ts p=ks.map some)(hkl:(ks.length:Int)=m)(hb:∀ x:Int,0<=x->x<m->0<=vAt ks x/\vAt ks x<m)
include ok htl hp hks hkl hb
theorem zjv:((List.range m.toNat).flatMap λx:Nat=>yw m ts ks (x:Int)).Perm ((List.range m.toNat).filter λx:Nat=>!decide ((x:Int)=p)):=by
 refine(u2K ?_ (l0.filter _)).mpr λo=>?_
 .rw[h9,List.pairwise_flatMap]
  refine⟨λx _=>(zd4 m ts (x:Int)).filter _,?_⟩
  refine u24 (λ{a b} c hb' hne u hu v hv e=>hne ?_) l0
  subst e
  have c:=j6.mp c
  exact zet ok htl hp hks hkl hb (by omega) hu hv
 .rw[u0f,o6,j6]
  constructor
  .rintro⟨x,g,f⟩
   have g:=j6.mp g
   have h:=yf f
   refine⟨by omega,?_⟩
   have:=Zk hp hks hkl hb ⟨by omega,by omega⟩ f
   simpa using this
  .rintro⟨h,d⟩
   have d:(o:Int)≠p:=by simpa using d
   obtain⟨a,c⟩:=w4 (x:=(o:Int)) ok hp hks hkl ⟨by omega,by omega⟩ d
   have i:=((((wy ok).mp c).1).rng ok).2
   exact⟨a,j6.mpr (by omega),(YV ok).mp c⟩
omit ok htl hp hks hkl hb in
theorem zbR (f:Nat->Int):∀ n:Nat,(((List.range n).filter λx:Nat=>!decide ((x:Int)=p)).map f).sum=sm n (nr p f):=by
 intro n
 induction n with
 | zero=>rfl
 | succ n a =>
  rw[u1b,List.filter_append,o0,u2E,a,x6]
  congr 1
  unfold nr
  by_cases c:(n:Int)=p
  .rw[u9 c,u1H (by simp[c])]
   rfl
  .rw[t9 c,List.filter_cons_of_pos (by simp[c])]
   simp
theorem zlC (f:Nat->Int):sm m.toNat (λx:Nat=>((yw m ts ks (x:Int)).map f).sum)=sm m.toNat (nr p f):=by
 have e:=zeW ((zjv ok htl hp hks hkl hb).map f)
 rw[zkW,zbR]at e
 exact e
end
section
variable {m p:Int}{ts:zv}{ks tl:zc}(hE:∀ x:Int,0<=x->x<m->EqA Fh m ts ks tl x)
def zmC {a:Int}(h:a∈c):a<=maxL c:=by
 unfold maxL
 cases e:c.max? with
 | none=>rw[List.max?_eq_none_iff]at e;rw[e]at h;cases h
 | some b=>exact(u2b.mp e).2 a h
def znq (h:a≠[]):maxL a∈a:=by
 unfold maxL
 cases e:a.max? with
 | none=>rw[List.max?_eq_none_iff]at e;exact absurd e h
 | some b=>exact(u2b.mp e).1
include hE
theorem zbE {x:Int}(a:0<=x)(b:x<m)(h:yw m ts ks x=[]):vAt tl x=0:=by
 have e:vAt tl x=Fh x (X4 m ts ks tl x):=hE x a b
 rw[e]
 unfold Fh X4
 rw[h]
 rfl
theorem zaR {x:Int}(b:0<=x)(c:x<m){o:Nat}(h:o∈yw m ts ks x):vAt tl (o:Int)+1<=vAt tl x:=by
 have e:vAt tl x=Fh x (X4 m ts ks tl x):=hE x b c
 rw[e]
 unfold Fh
 have a:vAt tl (o:Int)+1∈(X4 m ts ks tl x).map (·+1):=by
  unfold X4
  exact u0i (u0i h)
 rw[t9 (λe=>by rw[e]at a;cases a)]
 exact zmC a
theorem zbv {x:Int}(b:0<=x)(f:x<m)(h:yw m ts ks x≠[]):∃ o∈yw m ts ks x,vAt tl x=vAt tl (o:Int)+1:=by
 have e:vAt tl x=Fh x (X4 m ts ks tl x):=hE x b f
 unfold Fh at e
 have a:(X4 m ts ks tl x).map (·+1)≠[]:=by
  unfold X4
  intro z
  rw[r9]at z
  exact h (List.map_eq_nil_iff.mp z)
 rw[t9 a]at e
 have:=znq a
 rw[<-e]at this
 unfold X4 at this
 rw[r9]at this
 obtain⟨o,d,c⟩:=p0.mp this
 exact⟨o,d,c.symm⟩
theorem zjr {x:Int}(a:0<=x)(b:x<m)(f:∀ x:Int,0<=x->x<m->0<=vAt ks x/\vAt ks x<m):0<=vAt tl x:=by
 have key:∀ (n:Nat) (x:Int),0<=x->x<m->m-vAt ks x<=(n:Int)->0<=vAt tl x:=by
  intro n
  induction n with
  | zero =>
   intro x a b h
   have:=(f x a b).2
   omega
  | succ n g =>
   intro x a b h
   by_cases c:yw m ts ks x=[]
   .rw[zbE hE a b c]
    exact u0T _
   .obtain⟨o,d,e⟩:=zbv hE a b c
    have i:=xB d
    have:=g (o:Int) (by omega) (yf d) (by omega)
    omega
 exact key m.toNat x a b (by have:=(f x a b).1;omega)
def P2 (tl:zc)(x:Int):Int:=2^(vAt tl x).toNat
omit hE in
theorem zlk (tl:zc)(x:Int):1<=P2 tl x:=by
 unfold P2
 have:0<(2:Nat)^(vAt tl x).toNat:=Nat.pow_pos (by decide)
 have e:((2:Int)^(vAt tl x).toNat)=(((2:Nat)^(vAt tl x).toNat:Nat):Int):=by simp
 rw[e]
 omega
theorem zmj (d:∀ x:Int,0<=x->x<m->0<=vAt ks x/\vAt ks x<m){x:Int}(b:0<=x)(c:x<m){o:Nat}(h:o∈yw m ts ks x):2*P2 tl (o:Int)<=P2 tl x:=by
 have s:=zaR hE b c h
 have n:=zjr hE (x:=(o:Int)) (by omega) (yf h) d
 unfold P2
 have e:∀ k:Nat,((2:Int)^k)=(((2:Nat)^k:Nat):Int):=λk=>by simp
 have a:2^((vAt tl (o:Int)).toNat+1)<=2^(vAt tl x).toNat:=Nat.pow_le_pow_right (by decide) (by omega)
 rw[Nat.pow_succ]at a
 rw[e,e]
 omega
end
def Bd (m p:Int)(tl:zc)(k:Int):Int:=k*P2 tl p+sm m.toNat (nr p λx=>P2 tl (x:Int))
def VM (p:Int)(c:Nat->Int)(x:Nat):Int:=if (x:Int)=p then c x else 2*c x+1
def zqQ {m p:Int}{tl:zc}{c y:Nat->Int}(d:0<=p/\p<m)(b:∀ x:Nat,y x=P2 tl (x:Int)-1):sm m.toNat (VM p c)-sm m.toNat (nr p c)+(sm m.toNat (λx=>y x*VM p c x)-sm m.toNat (nr p λo=>c o*(2*y o+1)))=Bd m p tl (c p.toNat):=by
 have e:sm m.toNat (VM p c)=sm m.toNat (λx=>if (x:Int)=p then c p.toNat else 2*c x+1):=v9 λx _=>by
  unfold VM
  by_cases h:(x:Int)=p
  .rw[u9 h,u9 h,show p.toNat=x by omega]
  .rw[t9 h,t9 h]
 have f:sm m.toNat (λx=>y x*VM p c x)=sm m.toNat (λx=>if (x:Int)=p then y p.toNat*c p.toNat else y x*(2*c x+1)):=v9 λx _=>by
  unfold VM
  by_cases h:(x:Int)=p
  .rw[u9 h,u9 h,show p.toNat=x by omega]
  .rw[t9 h,t9 h]
 rw[e,f,ziD d.1,u9 (by omega),ziD d.1,u9 (by omega)]
 have j:sm m.toNat (nr p λx=>y x*(2*c x+1))-sm m.toNat (nr p λo=>c o*(2*y o+1))=sm m.toNat (nr p y)-sm m.toNat (nr p c):=by
  rw[<-zmb,<- zmb]
  refine v9 λx _=>?_
  unfold nr
  by_cases h:(x:Int)=p
  .rw[u9 h,u9 h,u9 h,u9 h]
  .rw[t9 h,t9 h,t9 h,t9 h]
   have:y x*(2*c x+1)-c x*(2*y x+1)=y x-c x:=by
    rw[u3C,u3C,u1Y,u1Y]
    have:y x*(2*c x)=c x*(2*y x):=by rw[Int.mul_left_comm,u1u (y x),Int.mul_left_comm]
    omega
   exact this
 have i:sm m.toNat (nr p λx=>2*c x+1)=sm m.toNat (nr p c)+sm m.toNat (nr p λx=>c x+1):=by
  rw[<-zeb]
  refine v9 λx _=>?_
  unfold nr
  by_cases h:(x:Int)=p
  .rw[u9 h,u9 h,u9 h];rfl
  .rw[t9 h,t9 h,t9 h]
   show 2*c x+1=c x+(c x+1)
   omega
 have g:sm m.toNat (nr p λx=>c x+1)+sm m.toNat (nr p y)=sm m.toNat (nr p c)+sm m.toNat (nr p λx=>P2 tl (x:Int)):=by
  rw[<-zeb,<- zeb]
  refine v9 λx _=>?_
  unfold nr
  by_cases h:(x:Int)=p
  .rw[u9 h,u9 h,u9 h,u9 h]
  .rw[t9 h,t9 h,t9 h,t9 h,b]
   show c x+1+(P2 tl (x:Int)-1)=c x+P2 tl (x:Int)
   omega
 have a:y p.toNat=P2 tl p-1:=by rw[b,show((p.toNat:Nat):Int)=p by omega]
 rw[a,Int.sub_mul,Int.one_mul,u1u (P2 tl p)]
 unfold Bd
 omega
def zdy {m:Int}{tl:zc}(j:∀ x:Int,0<=x->x<m->EqA Fh m c b tl x){x o:Nat}(k:(x:Int)<m)(h:rkN m c b tl x=o::r):vAt tl (x:Int)=vAt tl (o:Int)+1:=by
 have f:o∈yw m c b (x:Int):=yk.mp (by rw[h];exact .head _)
 obtain⟨i,g,e⟩:=zbv j (x:=(x:Int)) (by omega) k (λz=>by rw[z]at f;cases f)
 have s:=zaR j (x:=(x:Int)) (by omega) k f
 have a:i∈o::r:=by rw[<-h];exact yk.mpr g
 rcases t6.mp a with a | a
 .rw[e,a]
 .have d:=(W1 (λo=>-vAt tl (o:Int)) zM (Y8 m c b (x:Int))).2.2.1
  have d:(rkN m c b tl x).Pairwise (zjJ λo=>-vAt tl (o:Int)):=d
  rw[h]at d
  have:=zaV ((p4.mp d).1 i a)
  have:-vAt tl (o:Int)<=-vAt tl (i:Int):=this
  omega
def zeO {tl:zc}:rkN m a b tl x=[]↔yw m a b (x:Int)=[]:=by
 constructor
 .intro h
  have:=Xh m a b tl x
  rw[h]at this
  exact this.symm.eq_nil
 .intro h
  have:=Xh m a b tl x
  rw[h]at this
  exact this.eq_nil
def zkp {f:Nat->Int}{y:Nat}:∀ {l:zC},l.Nodup->y∈l->(∀ o∈l,o≠y->f o=0)->(l.map f).sum=f y:=by
 have zero:∀ l:zC,(∀ o∈l,f o=0)->(l.map f).sum=0:=λl=>by
  induction l with
  | nil=>intro _;rfl
  | cons a l d=>intro h;rw[r6,u0I,h a (.head _),d λo b=>h o (.tail _ b)];rfl
 intro l
 induction l with
 | nil=>intro _ h;cases h
 | cons a l d =>
  intro j c g
  obtain⟨i,k⟩:=f7.mp j
  rw[r6,u0I]
  rcases t6.mp c with rfl | c
  .rw[zero l λo b=>g o (.tail _ b) λe=>i (e ▸ b)]
   omega
  .rw[d k c λo b=>g o (.tail _ b),g a (.head _) λe=>i (e ▸ c)]
   omega
def Cf (p t:Int)(b a:Nat->Nat):Nat->Nat->Int
 | 0,_=>t-1
 | n+1,o=>if (o:Int)=p then t-1 else if o=b (a o)then (if (a o:Int)=p then Cf p t b a n (a o)else 2*Cf p t b a n (a o)+1)else 0
def zqS {t:Int}(d:1<=t):∀ n o,0<=Cf p t c a n o:=by
 intro n
 induction n with
 | zero=>intro o;show 0<=t-1;omega
 | succ n b =>
  intro o
  unfold Cf
  have:=b (a o)
  split
  .omega
  .split
   .split <;> omega
   .omega
section
variable {m p t:Int}{ts:zv}{ks tl:zc}(ok:zG m ts)(htl:(ts.length:Int)=m-1)(hp:0<=p/\p<m)(hks:vg m ts p=ks.map some)(hkl:(ks.length:Int)=m)(hb:∀ x:Int,0<=x->x<m->0<=vAt ks x/\vAt ks x<m)
include ok htl hp hks hkl hb
theorem zdo {a:Nat}(d:(a:Int)<m)(h:vAt ks (a:Int)<=0):(a:Int)=p:=by
 by_cases c:(a:Int)=p
 .exact c
 .obtain⟨q,hq⟩:=w4 (x:=(a:Int)) ok hp hks hkl ⟨by omega,d⟩ c
  obtain⟨e,f⟩:=(wy ok).mp hq
  have b:=(e.rng ok).2
  have:=(hb (q:Int) b.1 b.2).1
  omega
theorem zkJ (v:1<=t)(d:Nat->Nat):∃ C:Nat->Int,C p.toNat=t-1/\(∀ x,0<=C x)/\∀ a o:Nat,(a:Int)<m->o∈yw m ts ks (a:Int)->C o=if o=d a then VM p C a else 0:=by
 obtain⟨b,j⟩:∃ b:Nat->Nat,b=λx:Nat=>(inN m ts ks (x:Int)).headD 0:=⟨_,rfl⟩
 have k:∀ {a o:Nat},(a:Int)<m->o∈yw m ts ks (a:Int)->b o=a:=λ{a o} g f=>by
  obtain⟨y,u⟩:=zdh (x:=(o:Int)) ok htl hp hks hkl ⟨by omega,yf f⟩ (Zk hp hks hkl hb ⟨by omega,g⟩ f)
  have r:=(YV ok).mpr f
  rw[u]at r
  rw[j]
  show(inN m ts ks (o:Int)).headD 0=a
  rw[u]
  exact(q5.mp r).symm
 have A:∀ (n o:Nat),(o:Int)<m->vAt ks (o:Int)<=(n:Int)->Cf p t d b (n+1) o=Cf p t d b n o:=by
  intro n
  induction n with
  | zero =>
   intro o f h
   have:=zdo ok htl hp hks hkl hb f h
   unfold Cf
   rw[u9 this]
  | succ n z =>
   intro o f h
   by_cases c:(o:Int)=p
   .unfold Cf
    rw[u9 c,u9 c]
   .obtain⟨q,hq⟩:=w4 (x:=(o:Int)) ok hp hks hkl ⟨by omega,f⟩ c
    obtain⟨D,E⟩:=(wy ok).mp hq
    have l:=(D.rng ok).2
    have e:=k l.2 ((YV ok).mp hq)
    have i:=z q l.2 (by omega)
    unfold Cf
    rw[t9 c,t9 c,e,i]
 have B:=ok.hi
 refine⟨Cf p t d b 8,?_,zqS v 8,λa o g f=>?_⟩
 .unfold Cf
  rw[u9 (by omega)]
 .have c:=Zk hp hks hkl hb ⟨by omega,g⟩ f
  have e:=k g f
  have s:Cf p t d b 8 a=Cf p t d b 7 a:=A 7 a g (by have:=(hb (a:Int) (by omega) g).2;omega)
  have w:Cf p t d b 8 o=if o=d a then (if (a:Int)=p then Cf p t d b 7 a else 2*Cf p t d b 7 a+1)else 0:=by
   show(if (o:Int)=p then t-1 else if o=d (b o)then (if (b o:Int)=p then Cf p t d b 7 (b o)else 2*Cf p t d b 7 (b o)+1)else 0)=_
   rw[t9 c,e]
  rw[w]
  unfold VM
  rw[s]
theorem zk2 {C:Nat->Int}{u:Nat->Nat}(k:∀ (x o:Nat) (r:zC),(x:Int)<m->(x:Int)≠p->rkN m ts ks tl x=o::r->u x=o)(B:∀ a o:Nat,(a:Int)<m->o∈yw m ts ks (a:Int)->C o=if o=u a then VM p C a else 0):∀ (n y:Nat),(y:Int)<m->(y:Int)≠p->m-vAt ks (y:Int)<=(n:Int)->∃ z:Nat,(∀ d,(y::xZ (rkN m ts ks tl) n y).getLastD d=z)/\rkN m ts ks tl z=[]/\(z:Int)<m/\(z:Int)≠p/\C z+1=(C y+1)*2^(xZ (rkN m ts ks tl) n y).length/\∀ x:Nat,rkN m ts ks tl x=[]->(x=y\/∃ q,(q,x)∈xT (rkN m ts ks tl) n y)->x=z:=by
 intro n
 induction n with
 | zero =>
  intro y e _ h
  have:=(hb (y:Int) (by omega) e).2
  omega
 | succ n E =>
  intro y e c h
  cases b:rkN m ts ks tl y with
  | nil =>
   have j:xZ (rkN m ts ks tl) (n+1) y=[]:=by unfold xZ;rw[b]
   have l:xT (rkN m ts ks tl) (n+1) y=[]:=by unfold xT;rw[b]
   rw[j,l]
   refine⟨y,λ_=>rfl,b,e,c,by simp,λx _ f=>f.elim id λ⟨q,hq⟩=>by cases hq⟩
  | cons o r =>
   have j:xZ (rkN m ts ks tl) (n+1) y=o::xZ (rkN m ts ks tl) n o:=by
    show(match rkN m ts ks tl y with | []=>[] | o::_=>o::xZ (rkN m ts ks tl) n o)=_
    rw[b]
   have l:xT (rkN m ts ks tl) (n+1) y=(y,o)::xT (rkN m ts ks tl) n o:=by
    show(match rkN m ts ks tl y with | []=>[] | o::_=>(y,o)::xT (rkN m ts ks tl) n o)=_
    rw[b]
   have g:o∈yw m ts ks (y:Int):=yk.mp (by rw[b];exact .head _)
   have w:=xB g
   have s:=Zk hp hks hkl hb ⟨by omega,e⟩ g
   obtain⟨z,G,v,A,D,F,t⟩:=E o (yf g) s (by omega)
   rw[j,l]
   refine⟨z,λd=>?_,v,A,D,?_,λx f H=>?_⟩
   .rw[<-G y]
    rfl
   .have i:=B y o e g
    rw[k y o r e c b,u9 rfl]at i
    unfold VM at i
    rw[t9 c]at i
    rw[F,i,k4,u2Q,u1u (2^_) 2,<- u3b]
    congr 1
    omega
   .rcases H with rfl | ⟨q,hq⟩
    .rw[b]at f;cases f
    .rcases t6.mp hq with hq | hq
     .cases hq;exact t _ f (.inl rfl)
     .exact t x f (.inr ⟨q,hq⟩)
theorem zjY (d:∀ x:Int,0<=x->x<m->EqA Fh m ts ks tl x):∀ (n y:Nat),(y:Int)<m->m-vAt ks (y:Int)<=(n:Int)->(((xZ (rkN m ts ks tl) n y).length:Nat):Int)=vAt tl (y:Int):=by
 intro n
 induction n with
 | zero =>
  intro y a h
  have:=(hb (y:Int) (by omega) a).2
  omega
 | succ n e =>
  intro y a h
  unfold xZ
  cases b:rkN m ts ks tl y with
  | nil =>
   rw[zbE d (by omega) a (zeO.mp b)]
   rfl
  | cons o r =>
   have c:o∈yw m ts ks (y:Int):=yk.mp (by rw[b];exact .head _)
   have f:=xB c
   have i:=e o (yf c) (by omega)
   rw[zdy d a b]
   show(((xZ (rkN m ts ks tl) n o).length+1:Nat):Int)=_
   omega
theorem zgu (f:∀ x:Int,0<=x->x<m->EqA Fh m ts ks tl x):∀ (n x:Nat),(x:Int)<m->(x:Int)≠p->vAt ks (x:Int)<=(n:Int)->vAt tl (x:Int)+1<=vAt tl p:=by
 intro n
 induction n with
 | zero=>intro x d a h;exact absurd (zdo ok htl hp hks hkl hb d h) a
 | succ n e =>
  intro x d a h
  obtain⟨q,hq⟩:=w4 (x:=(x:Int)) ok hp hks hkl ⟨by omega,d⟩ a
  obtain⟨g,i⟩:=(wy ok).mp hq
  have b:=(g.rng ok).2
  have s:=zaR f (x:=(q:Int)) b.1 b.2 ((YV ok).mp hq)
  by_cases c:(q:Int)=p
  .rw[<-c];exact s
  .have:=e q b.2 c (by omega)
   omega
theorem zg8 (c:∀ x:Int,0<=x->x<m->EqA Fh m ts ks tl x){x y:Nat}(d:(x:Int)<m)(f:y∈rkN m ts ks tl x):(((ZV (rkN m ts ks tl) x y).length:Nat):Int)=vAt tl (y:Int)+2:=by
 have a:=yk.mp f
 have e:=xB a
 have g:=(hb (x:Int) (by omega) d).1
 have b:=ok.hi
 have:=zjY ok htl hp hks hkl hb c 8 y (yf a) (by omega)
 unfold ZV
 show(((xZ (rkN m ts ks tl) 8 y).length+1+1:Nat):Int)=_
 omega
theorem zbU (b:∀ x:Int,0<=x->x<m->EqA Fh m ts ks tl x)(A:zdA (zU p (rkN m ts ks tl) m.toNat)=l::r):∃ q,q∈rkN m ts ks tl p.toNat/\l=ZV (rkN m ts ks tl) p.toNat q/\vAt tl p=vAt tl (q:Int)+1:=by
 obtain⟨_,i,n,_⟩:=Zh kW (λt=>(t.drop 1).map Int.toNat) wD (λw _=>zc8 w) (wq p (vO m ts ks tl) m.toNat)
 have i:(zdA (zU p (rkN m ts ks tl) m.toNat)).Perm (zU p (rkN m ts ks tl) m.toNat):=i
 have n:(zdA (zU p (rkN m ts ks tl) m.toNat)).Pairwise (λx y=>HT.lexLt (kW y) (kW x)=false):=n
 rw[A]at i n
 have j:∀ w∈zU p (rkN m ts ks tl) m.toNat,w.length<=l.length:=λw hw=>by
  rcases t6.mp (i.mem_iff.mpr hw)with rfl | E
  .exact t7 _
  .have h:=(p4.mp n).1 w E
   unfold kW at h
   rw[HT.lexLt_cons]at h
   by_cases e:-(w.length:Int)=-(l.length:Int)
   .omega
   .rw[t9 e]at h
    have:=u0F h
    omega
 have o:l∈zU p (rkN m ts ks tl) m.toNat:=i.mem_iff.mp (.head _)
 obtain⟨x,y,g,B,v⟩:=ZY o
 have f:=Zf B
 have a:=yk.mp f
 have C:=zg8 ok htl hp hks hkl hb b g f
 rw[<-v]at C
 have u:=zaR b (x:=(x:Int)) (by omega) g a
 have d:((p.toNat:Nat):Int)=p:=by omega
 have s:yw m ts ks p≠[]:=λz=>by
  have F:=zbE b hp.1 hp.2 z
  have I:=zjr b (x:=(y:Int)) (by omega) (yf a) hb
  by_cases c:(x:Int)=p
  .rw[c]at a;rw[z]at a;cases a
  .have:=zgu ok htl hp hks hkl hb b (vAt ks (x:Int)).toNat x g c (by have:=(hb (x:Int) (by omega) g).1;omega)
   omega
 obtain⟨h,D,H⟩:=zbv b hp.1 hp.2 s
 have k:h∈rkN m ts ks tl p.toNat:=yk.mpr (by rw[d];exact D)
 have G:=zg8 ok htl hp hks hkl hb b (x:=p.toNat) (by omega) k
 have J:=j (ZV (rkN m ts ks tl) p.toNat h) (u0f.mpr ⟨p.toNat,j6.mpr (by omega),u0i (by unfold zcu;rw[u9 d];exact k)⟩)
 have c:(x:Int)=p:=by
  by_cases c:(x:Int)=p
  .exact c
  .have:=zgu ok htl hp hks hkl hb b (vAt ks (x:Int)).toNat x g c (by have:=(hb (x:Int) (by omega) g).1;omega)
   omega
 have ex:x=p.toNat:=by omega
 subst ex
 refine⟨y,f,v,?_⟩
 rw[d]at u
 omega
end
def zfn {t m:Int}{V:Vc}{x:Nat}(c:∀ w∈V,(lastN w:Int)<m/\lastN w≠x)(d:0<=m):∀ k:Nat,k<=V.length->vAt (ye t m V k) (x:Int)=0:=by
 intro k
 induction k with
 | zero =>
  intro _
  show vAt (List.replicate m.toNat (0:Int)) (x:Int)=0
  unfold vAt
  rw[j9,i5]
  split <;> rfl
 | succ k b =>
  intro a
  have hw:V[k]?=some V[k]:=u8 a
  obtain⟨e,f⟩:=c V[k] (u0s a)
  rw[YX hw]
  have:=Za (ns:=ye t m V k) (i:=(lastN V[k]:Int)) (j:=(x:Int)) (x:=zgb t k V[k]) (by omega) (by rw[vW d];exact e) (by omega)
  rw[show((lastN V[k]:Int)).toNat=lastN V[k]from rfl]at this
  rw[this,t9 (by omega)]
  exact b (by omega)
def zfV {t m v:Int}{V:Vc}{x:Nat}(f:0<=m)(g:∀ w∈V,(lastN w:Int)<m)(o:∀ (j:Nat) (w:zC),V[j]?=some w->lastN w=x->zgb t j w=v):∀ k:Nat,k<=V.length->(∃ (j:Nat) (w:zC),j<k/\V[j]?=some w/\lastN w=x)->vAt (ye t m V k) (x:Int)=v:=by
 intro k
 induction k with
 | zero=>rintro _ ⟨j,w,h,_⟩;exact absurd h (u1M _)
 | succ k l =>
  rintro b ⟨j,w,p,hw,d⟩
  have a:V[k]?=some V[k]:=u8 b
  have n:=g V[k] (u0s b)
  rw[YX a]
  have:=Za (ns:=ye t m V k) (i:=(lastN V[k]:Int)) (j:=(x:Int)) (x:=zgb t k V[k]) (by omega) (by rw[vW f];exact n) (by omega)
  rw[show((lastN V[k]:Int)).toNat=lastN V[k]from rfl]at this
  rw[this]
  by_cases c:lastN V[k]=x
  .rw[u9 (by omega)]
   exact o k _ a c
  .rw[t9 (by omega)]
   refine l (by omega) ⟨j,w,?_,hw,d⟩
   have:j≠k:=λe=>by
    subst e
    rw[a]at hw
    cases hw
    exact c d
   omega
section
variable {m p t:Int}{ts:zv}{ks tl:zc}(ok:zG m ts)(htl:(ts.length:Int)=m-1)(hp:0<=p/\p<m)(hks:vg m ts p=ks.map some)(hkl:(ks.length:Int)=m)(hb:∀ x:Int,0<=x->x<m->0<=vAt ks x/\vAt ks x<m)
include ok htl hp hks hkl hb
theorem zf0 (X:∀ x:Int,0<=x->x<m->EqA Fh m ts ks tl x)(h1:1<=t){W V:Vc}(hW:zdA (zU p (rkN m ts ks tl) m.toNat)=W)(hV:V=if W.isEmpty=true then [[p.toNat]]else W):∃ C:Nat->Int,C p.toNat=t-1/\(∀ x,0<=C x)/\(∀ x:Nat,(x:Int)<m->vAt (ye t m V V.length) (x:Int)+((yw m ts ks (x:Int)).map C).sum=VM p C x)/\(ye t m V V.length).sum=Bd m p tl (t-1):=by
 have b6:=ok.lo
 have b0:=ok.hi
 have D:((p.toNat:Nat):Int)=p:=by omega
 have Y:=zay (wq p (vO m ts ks tl) m.toNat)
 have nd:W.Nodup:=by rw[<-hW];exact Y.nodup_iff.mpr (wq p (vO m ts ks tl) m.toNat)
 rw[hW]at Y
 -- the child that is zru on to
 obtain⟨l,T,a5⟩:∃ l:Nat->Nat,(∀ x:Nat,(x:Int)<m->yw m ts ks (x:Int)≠[]->l x∈yw m ts ks (x:Int)/\vAt tl (x:Int)=vAt tl (l x:Int)+1/\((x:Int)≠p->∃ r,rkN m ts ks tl x=l x::r))/\(∀ w r,W=w::r->w=ZV (rkN m ts ks tl) p.toNat (l p.toNat)):=by
  have hd:∀ x:Nat,(x:Int)<m->yw m ts ks (x:Int)≠[]->∃ o r,rkN m ts ks tl x=o::r:=λx k h=>by
   cases e:rkN m ts ks tl x with
   | nil=>exact absurd (zeO.mp e) h
   | cons o r=>exact⟨o,r,rfl⟩
  cases d:W with
  | nil =>
   refine⟨λx=>(rkN m ts ks tl x).headD 0,λx k h=>?_,λw r e=>by cases e⟩
   obtain⟨o,r,e⟩:=hd x k h
   have Z:(rkN m ts ks tl x).headD 0=o:=by rw[e];rfl
   dsimp only
   rw[Z]
   exact⟨yk.mp (by rw[e];exact .head _),zdy X k e,λ_=>⟨r,e⟩⟩
  | cons w0 r0 =>
   obtain⟨y0,Q,ew,et⟩:=zbU ok htl hp hks hkl hb X (hW.trans d)
   refine⟨λx=>if (x:Int)=p then y0 else (rkN m ts ks tl x).headD 0,λx k h=>?_,λw r e=>?_⟩
   .dsimp only
    by_cases c:(x:Int)=p
    .rw[u9 c]
     have:x=p.toNat:=by omega
     refine⟨yk.mp (by rw[this];exact Q),by rw[c];exact et,λz=>absurd c z⟩
    .obtain⟨o,r,e⟩:=hd x k h
     have Z:(rkN m ts ks tl x).headD 0=o:=by rw[e];rfl
     rw[t9 c,Z]
     exact⟨yk.mp (by rw[e];exact .head _),zdy X k e,λ_=>⟨r,e⟩⟩
   .cases e
    rw[ew]
    dsimp only
    rw[u9 D]
 obtain⟨C,C0,Cn,hC⟩:=zkJ ok htl hp hks hkl hb h1 l
 have L:VM p C p.toNat=t-1:=by unfold VM;rw[u9 D];exact C0
 -- a leaf and what is none
 have key:∀ x:Nat,(x:Int)<m->vAt (ye t m V V.length) (x:Int)=if yw m ts ks (x:Int)=[]then VM p C x else 0:=by
  cases d:W with
  | nil =>
   have J:∀ a b:Nat,b∉yw m ts ks (a:Int):=λa b h=>by
    have:=(zcX (tl:=tl) ok htl hp hks hkl hb).mpr h
    rw[d]at Y
    rw[Y.symm.eq_nil]at this
    cases this
   intro x k
   have F:(x:Int)=p:=by
    by_cases c:(x:Int)=p
    .exact c
    .obtain⟨q,hq⟩:=w4 (x:=(x:Int)) ok hp hks hkl ⟨by omega,k⟩ c
     exact absurd ((YV ok).mp hq) (J _ _)
   have a2:x=p.toNat:=by omega
   rw[u9 (List.eq_nil_iff_forall_not_mem.mpr (J x)),a2,L,D]
   have O:V=[[p.toNat]]:=by rw[hV,d];rfl
   have hv:ye t m V V.length=(List.replicate m.toNat (0:Int)).set p.toNat (t-1):=by
    rw[O]
    show((List.replicate m.toNat (0:Int)).set (lastN [p.toNat]) (zgb t 0 [p.toNat]))=_
    have:zgb t 0 [p.toNat]=t-1:=by unfold zgb;simp
    rw[this]
    rfl
   rw[hv,Za hp.1 (by rw[f8];omega) hp.1,u9 rfl]
  | cons w0 r0 =>
   have E:=a5 w0 r0 d
   have O:V=W:=by rw[hV,d];rfl
   rw[O]
   have I:∀ (x o:Nat) (r:zC),(x:Int)<m->(x:Int)≠p->rkN m ts ks tl x=o::r->l x=o:=λx o r k F P=>by
    have N:o∈yw m ts ks (x:Int):=yk.mp (by rw[P];exact .head _)
    obtain⟨r2,e⟩:=(T x k (λz=>by rw[z]at N;cases N)).2.2 F
    rw[P]at e
    exact(u0e e).1.symm
   -- each v: where it ends,and what lies there
   have v:∀ (i:Nat) (w:zC),W[i]?=some w->∃ (a y z:Nat),(a:Int)<m/\w=ZV (rkN m ts ks tl) a y/\lastN w=z/\yw m ts ks (z:Int)=[]/\(z:Int)<m/\zgb t i w=VM p C z/\∀ x:Nat,rkN m ts ks tl x=[]->(∃ q,(q,x)∈prs w)->x=z:=λi w hw=>by
    have a4:=Y.mem_iff.mp (j4 hw)
    obtain⟨a,y,ha,s,e⟩:=ZY a4
    have G:=yk.mp (Zf s)
    have b4:=xB G
    have h0:=(hb (a:Int) (by omega) ha).1
    have a3:=Zk hp hks hkl hb ⟨by omega,ha⟩ G
    obtain⟨z,z1,z2,z3,z4,z5,z6⟩:=zk2 ok htl hp hks hkl hb I hC 8 y (yf G) a3 (by omega)
    have eC:=hC a y ha G
    have eτ:C y+1=if i=0 then t else 1:=by
     by_cases c:i=0
     .subst c
      rw[u9 rfl]
      rw[d]at hw
      cases hw
      rw[e]at E
      unfold ZV at E
      obtain⟨B,U⟩:=u0e E
      obtain⟨U,_⟩:=u0e U
      rw[<-B]at U
      rw[u9 U,B,L]at eC
      omega
     .rw[t9 c]
      have R:¬ y=l a:=λey=>by
       by_cases cp:(a:Int)=p
       .have ea:a=p.toNat:=by omega
        rw[ea]at ey e
        rw[ey]at e
        rw[<-E]at e
        have hl:0<W.length:=by rw[d];exact Nat.succ_pos _
        obtain⟨K,ei⟩:=t5.mp hw
        have:W[0]=W[i]:=by
         rw[ei,e]
         simp[d]
        have i1:=nd.idxOf_getElem 0 hl
        have i2:=nd.idxOf_getElem i K
        rw[this]at i1
        omega
       .cases P:rkN m ts ks tl a with
        | nil =>
         have:=Zf s
         rw[P]at this
         cases this
        | cons o r =>
         have Z:=I a o r ha cp P
         unfold zcu at s
         rw[t9 cp,P]at s
         have a0:=vO m ts ks tl a
         rw[P]at a0
         have s:y∈r:=s
         rw[ey,Z]at s
         exact(f7.mp a0).1 s
      rw[t9 R]at eC
      omega
    refine⟨a,y,z,ha,e,?_,zeO.mp z2,z3,?_,λx k ⟨q,hq⟩=>z6 x k ?_⟩
    .rw[e]
     exact z1 a
    .unfold zgb VM
     rw[t9 z4,<- eτ,e]
     have el:(ZV (rkN m ts ks tl) a y).length-1=(xZ (rkN m ts ks tl) 8 y).length+1:=rfl
     rw[el,u2Q,<- u3b,<- z5]
     omega
    .rw[e,WT]at hq
     rcases t6.mp hq with hq | hq
     .cases hq;exact .inl rfl
     .exact .inr ⟨q,hq⟩
   have u:∀ w∈W,(lastN w:Int)<m:=λw hw=>by
    obtain⟨i,K,e⟩:=n0 hw
    obtain⟨a,y,z,_,_,B,_,e3,_⟩:=v i w (by rw[u8 K,e])
    rw[B];exact e3
   intro x k
   by_cases c:yw m ts ks (x:Int)=[]
   .rw[u9 c]
    have F:(x:Int)≠p:=λe=>by
     have b5:w0∈W:=by rw[d];exact .head _
     have N:yw m ts ks ((p.toNat:Nat):Int)≠[]:=λz=>by
      obtain⟨y0,Q,_⟩:=zbU ok htl hp hks hkl hb X (hW.trans d)
      have:=yk.mp Q
      rw[z]at this
      cases this
     rw[D,<- e]at N
     exact N c
    refine zfV (by omega) u (λj w hw a6=>?_) W.length (t7 _) ?_
    .obtain⟨a,y,z,_,_,B,_,_,e4,_⟩:=v j w hw
     rw[e4,<- B,a6]
    .obtain⟨q,hq⟩:=w4 (x:=(x:Int)) ok hp hks hkl ⟨by omega,k⟩ F
     have a7:=(YV ok).mp hq
     obtain⟨w,hw,a1⟩:=u0f.mp ((zcX (tl:=tl) ok htl hp hks hkl hb).mpr a7)
     obtain⟨i,K,e⟩:=n0 (Y.mem_iff.mpr hw)
     have ew:W[i]?=some w:=by rw[u8 K,e]
     obtain⟨a,y,z,_,_,B,_,_,_,e5⟩:=v i w ew
     exact⟨i,w,K,ew,by rw[B];exact(e5 x (zeO.mpr c) ⟨q,a1⟩).symm⟩
   .rw[t9 c]
    refine zfn (λw hw=>⟨u w hw,λe=>c ?_⟩) (by omega) W.length (t7 _)
    obtain⟨i,K,ei⟩:=n0 hw
    obtain⟨a,y,z,_,_,B,U,_⟩:=v i w (by rw[u8 K,ei])
    rw[<-e,B]
    exact U
 -- what comes together at a place
 have M:∀ x:Nat,(x:Int)<m->yw m ts ks (x:Int)≠[]->∀ g:Nat->Int,((yw m ts ks (x:Int)).map λo=>C o*g o).sum=VM p C x*g (l x):=λx k h g=>by
  obtain⟨H,_,_⟩:=T x k h
  have e:=zkp (f:=λo=>C o*g o) (Y8 m ts ks (x:Int)) H λo N R=>by
   have:=hC x o k N
   rw[t9 R]at this
   show C o*g o=0
   rw[this,Int.zero_mul]
  rw[e]
  have:=hC x (l x) k H
  rw[u9 rfl]at this
  show C (l x)*g (l x)=_
  rw[this]
 have A:∀ x:Nat,(x:Int)<m->vAt (ye t m V V.length) (x:Int)+((yw m ts ks (x:Int)).map C).sum=VM p C x:=λx k=>by
  rw[key x k]
  by_cases c:yw m ts ks (x:Int)=[]
  .rw[u9 c,c]
   show VM p C x+0=_
   omega
  .rw[t9 c]
   have:=M x k c λ_=>1
   simp only[u1Y]at this
   rw[this]
   omega
 refine⟨C,C0,Cn,A,?_⟩
 obtain⟨y,s⟩:∃ y:Nat->Int,y=λx:Nat=>P2 tl (x:Int)-1:=⟨_,rfl⟩
 have s1:sm m.toNat (λx=>vAt (ye t m V V.length) (x:Int)+((yw m ts ks (x:Int)).map C).sum)=sm m.toNat (VM p C):=v9 λx k=>A x (by omega)
 have a9:=vW (t:=t) (V:=V) (m:=m) (by omega) V.length
 rw[zeb,zlC ok htl hp hks hkl hb C,<- zmn (hs:=ye t m V V.length) (by omega)]at s1
 have s2:sm m.toNat (λx=>((yw m ts ks (x:Int)).map λo=>C o*(2*y o+1)).sum)=sm m.toNat (λx=>y x*VM p C x):=v9 λx k=>by
  have S:(x:Int)<m:=by omega
  by_cases c:yw m ts ks (x:Int)=[]
  .rw[c]
   have e0:=zbE X (x:=(x:Int)) (by omega) S c
   have:y x=0:=by
    rw[s]
    show P2 tl (x:Int)-1=0
    unfold P2
    rw[e0]
    rfl
   rw[this,Int.zero_mul]
   rfl
  .obtain⟨H,a8,_⟩:=T x S c
   rw[M x S c λo=>2*y o+1,u1u]
   congr 1
   have n:=zjr X (x:=(l x:Int)) (by omega) (yf H) hb
   rw[s]
   show 2*(P2 tl (l x:Int)-1)+1=P2 tl (x:Int)-1
   unfold P2
   rw[a8,show(vAt tl (l x:Int)+1).toNat=(vAt tl (l x:Int)).toNat+1 by omega,u2Q]
   omega
 rw[zlC ok htl hp hks hkl hb λo=>C o*(2*y o+1)]at s2
 have id:=zqQ (m:=m) (tl:=tl) (c:=C) (y:=y) hp (λx=>by rw[s])
 rw[C0]at id
 omega
end
abbrev zhR :=zy (sIf (vI (zZ (tOf (eUn (yK .tuple) (zb 0)))) (zZ (tOf (zh 1 yp (za (eFn vF (za (zb 0) ze)) ze))))) (zO (eC (.bl false))) zF)
  (zy (sIf (tOf (zd zV (zd ixD (zb 0) (eC (.int 0))) (eC .non))) (zO (eC (.bl false))) zF)
  (zO (eFn znO (za (yc (fLC (vT XA (za (eC (.int 1)) (za (eFn vF (za (zb 0) ze)) ze))) b1 zN (zh 2 yj (za (zb 0) (za (zd ixD (zb 1) (zb 0)) ze))))) ze))))
def zcS:=fnD 1 zhR
def zfi (T:Txt P w K mg base ad):T.Pr 19 4 1 zcS:=by
 have:=vL T
 have:=Yg T
 walk_at "p"
abbrev zdY :=zy (sIf (vI (zZ (tOf (eUn (yK .tuple) (zb 0)))) (tOf (zd neD (eFn vF (za (zb 0) ze)) (eC (.int 2))))) (zO (eC (.bl false))) zF)
  (zy (yx false 1 (zd ixD (zb 0) (eC (.int 0))))
  (zy (sIf (zZ (tOf (eUn (yK .str) (zb 1)))) (zO (eC (.bl false))) zF)
  (zy (sIf (tOf (zd vC (zb 1) (eC (.str "tree")))) (zO (zh 1 zcS (za (zd ixD (zb 0) (eC (.int 1))) ze))) zF)
  (zO (Y7 (eUn (zlh Xc) (zb 1)) (zh 3 zE (za (zd ixD (zb 0) (eC (.int 1))) (za (eUn (ziK Xc 0) (zb 1)) (za (eUn (ziK Xc 1) (zb 1)) ze)))))))))
def WO:=fnD 2 zdY
def zbX (T:Txt P w K mg base ad):T.Pr 20 5 1 WO:=by
 have G_is_whole_within:=yZ T
 have G_is_over:=zfi T
 walk_at "p"
 all_goals first | exact(zjN T.b_SIZES rfl T.g_SIZES (edv 1)) | exact(zkO T.b_SIZES (by decide) rfl T.g_SIZES (edv 1) (λ_ _=>rfl))
abbrev zc6 :=zy (sIf (tOf (zd vC (zb 0) (eC (.str "cube")))) (zO (zd ixD (yq (za (eC (.int 1)) (za (eC (.int 2)) (za (eC (.int 4)) (za (eC (.int 8)) ze))))) (zb 1))) zF)
  (zy (sIf (tOf (zd vC (zb 0) (eC (.str "star")))) (zO (zd y3 (zb 1) (eC (.int 1)))) zF)
  (zy (sIf (tOf (zd vC (zb 0) (eC (.str "tree")))) (zO (eFn vF (za (zb 1) ze))) zF)
  (zO (zb 1))))
def WZ:=fnD 2 zc6
def zcA (T:Txt P w K mg base ad):T.Pr 21 1 2 WZ:=by
 walk_at "p"
abbrev zf7 :=zy (sIf (tOf (zd vC (zb 0) (eC (.str "row")))) (zO (zd vC (zb 3) (zd y3 (zb 2) (eC (.int 1))))) zF)
  (zy (sIf (tOf (zd vC (zb 0) (eC (.str "ring")))) (zO (eOr (zd vC (zb 3) (zd y3 (zb 2) (eC (.int 1)))) (Y7 (zd vC (zb 2) (eC (.int 0))) (zd vC (zb 3) (zd wm (zb 1) (eC (.int 1))))))) zF)
  (zy (sIf (tOf (zd vC (zb 0) (eC (.str "cube")))) (zO (zd inD (zd xorD (zb 2) (zb 3)) (yq (za (eC (.int 1)) (za (eC (.int 2)) (za (eC (.int 4)) ze)))))) zF)
  (zy (sIf (tOf (zd vC (zb 0) (eC (.str "star")))) (zO (zd vC (zb 2) (eC (.int 0)))) zF)
  (zy (sIf (tOf (zd vC (zb 0) (eC (.str "tree")))) (zO (zd vC (zd ixD (zb 1) (zb 3)) (zb 2))) zF)
  (zO (eC (.bl true)))))))
def zac:=fnD 4 zf7
def zde (T:Txt P w K mg base ad):T.Pr 22 1 4 zac:=by
 walk_at "p"
abbrev zdM :=zba 4 (yc (fLC (vT XA (za (zd y3 (zb 5) (eC (.int 1))) (za (zb 3) ze))) b1 (tOf (zh 4 zac (za (zb 2) (za (zb 3) (za (zb 6) (za (zb 0) ze)))))) (yq (za (zb 6) (za (zb 0) ze)))))
abbrev ziW :=zy (sIf (zZ (tOf (zh 1 WO (za (zb 0) ze)))) sNo zF)
  (zy (yx false 1 (zd ixD (zb 0) (eC (.int 0))))
  (zy (yx false 2 (zd ixD (zb 0) (eC (.int 1))))
  (zy (yx false 3 (zh 2 WZ (za (zb 1) (za (zb 2) ze))))
  (zy (vH 4 (zS ze))
  (zy (xb xD (za (zb 3) ze) (z9 5) zdM)
  (sFz 4 (zO (yq (za (zb 3) (za (eFn yo (za (zb 4) ze)) ze))))))))))
def zc2:=fnD 6 ziW
def zfj (T:Txt P w K mg base ad):T.Pr 23 6 1 zc2:=by
 have:=zbX T
 have:=zcA T
 have:=zde T
 walk_at "p"
abbrev Wp :=zy (YH (zh 3 yS (za (zb 0) (za (eC (.int 3)) (za (eC (.int 8)) ze)))))
  (zO (zh 1 zc2 (za (yq (za (eC (.str "ring")) (za (zb 0) ze))) ze)))
def Yv:=fnD 1 Wp
def XO (T:Txt P w K mg base ad):T.Pr 24 7 1 Yv:=by
 have:=we T
 have:=zfj T
 walk_at "p"
abbrev zdC :=zy (YH (zh 3 yS (za (zb 0) (za (eC (.int 3)) (za (eC (.int 8)) ze)))))
  (zy (yx false 1 (zh 2 wR (za (eC (.int 1)) (za (zd xm (zb 0) (eC (.int 2))) ze))))
  (zO (eIf (tOf (zd vC (zd wn (zb 0) (eC (.int 2))) (eC (.int 0)))) (zb 1) (zd y3 (zd xM (eC (.int 2)) (zd xm (zd xM (eC (.int 2)) (zb 1)) (eC (.int 3)))) (eC (.int 1))))))
def wU:=fnD 2 zdC
def zbZ (T:Txt P w K mg base ad):T.Pr 25 4 1 wU:=by
 have:=we T
 have:=Zm T
 walk_at "p"
abbrev V0 :=zy (yx false 2 (yc (fLC (vT XA (za (eC (.int 1)) (za (zb 0) ze))) b1 zN (zd wn (zd y3 (zb 2) (zb 0)) (zb 1)))))
  (zO (yq (za (zb 2) (za (yc (znT (zb 2))) ze))))
def ZC:=fnD 3 V0
def Vm (T:Txt P w K mg base ad):T.Pr 26 1 2 ZC:=by
 walk_at "p"
def lt1 {u:Int}:decide (u<1)=!decide (1<=u):=by
 by_cases h:1<=u
 .rw[j0 h,j8 (by omega)];rfl
 .rw[j8 h,j0 (by omega)];rfl
def zeE {j:Int}(a:0<=j)(b:j<=1000000):xM (.int i) (.int j)=some (.int (i*j)):=XD (zdQ (u2P (by decide) a) (Int.lt_of_le_of_lt b (by decide)))
def znH {j:Int}(a:1<=j)(b:j<=1000000):xm (.int i) (.int j)=some (.int (i/j)):=WC (u2P (by decide) a) (Int.lt_of_le_of_lt b (by decide))
def nn1 {x:Int}(h:1<=x):0<=x:=u2O (by decide) h
def le7 {x:Int}(h:x<=7):x<=1000000:=u2O h (by decide)
def k60 {n:Nat}(h:n<=60):n<=1000:=o5 h (by decide)
def s5 {n:Nat}(h:n<=5):n<=8:=o5 h (by decide)
def up1 {n i:Nat}(h:n<=i):n<=i+1:=Nat.le_succ_of_le h
def zl9 {x:Int}{u:Int}:∀ {rows:List Row},(∀ r∈rows,0<=r.2.2)->(∃ r∈rows,r.1=x/\r.2.2=u)->u<=wAt rows x
 | r::rows,hn,⟨q,hq,e1,e2⟩=>by
  have b:=zls (λz a=>hn z (.tail _ a)) x (rows:=rows)
  rw[zbo]
  rcases t6.mp hq with e | e
  .subst e
   rw[u9 e1]
   omega
  .have:=zl9 (λz a=>hn z (.tail _ a)) ⟨q,e,e1,e2⟩
   have:=hn r (.head _)
   split <;> omega
def WQ:∀ {rows:List Row} {b:Kn},wo c a b (rows++[r])=(wo c a b rows&&YO c a (b++Wc rows) r)
 | [],b=>by
  show(YO c a b r&&true)=(true&&YO c a (b++[]) r)
  rw[f6,u2t,Bool.true_and]
 | q::rows,b=>by
  show(YO c a b q&&wo c a (b++[(q.1,q.2.2)]) (rows++[r]))=((YO c a b q&&wo c a (b++[(q.1,q.2.2)]) rows)&&YO c a (b++((q.1,q.2.2)::Wc rows)) r)
  rw[WQ,u26,Bool.and_assoc]
  rfl
def zkj (ok:zG m c)(h:adj c a b):ZU a b∈c:=by
 unfold ZU
 rcases h with h | h
 .have r:=ok.rng _ h
  dsimp only at r
  rw[t9 (by omega),u9 (by omega)]
  exact h
 .have r:=ok.rng _ h
  dsimp only at r
  rw[u9 (by omega),t9 (by omega)]
  exact h
def zkL {a y v:Int}(ok:zG m b)(d:decide (y=a)=false)(f:VP c y=none)(g:adj b y q)(i:1<=v)(h:q=a\/∃ w,VP c q=some w/\2*v<=w):YO b a c (y,q,v)=true:=by
 unfold YO
 dsimp only
 rw[j0 (zkj ok g),j0 i,d,f]
 rcases h with h | ⟨w,e,h⟩
 .rw[j0 h];rfl
 .rw[e]
  show(true&&true&&!false&&!false&&(decide (q=a)||(true&&decide (2*v<=w))))=true
  rw[j0 h]
  cases decide (q=a) <;> rfl
abbrev zfz :=zy (yx false 4 (zd wn (zb 2) (zb 3)))
  (zy (yx false 2 (zb 3))
  (yx false 3 (zb 4)))
abbrev zk3 :=zy (yx false 2 (zb 0))
  (zy (yx false 3 (zb 1))
  (zy (YJ (tOf (zd gtD (zb 3) (eC (.int 0)))) zfz 20)
  (zO (yq (za (zd xm (zb 0) (zb 2)) (za (zd xm (zb 1) (zb 2)) ze))))))
def zeh:=fnD 5 zk3
def zgk (T:Txt P w K mg base ad):T.Pr 18 1 2 zeh:=by
 walk_at "p"
abbrev zfS :=zy (sIf (vI (zZ (tOf (eUn (yK .tuple) (zb 0)))) (tOf (zd neD (eFn vF (za (zb 0) ze)) (eC (.int 2))))) (zO (eC (.bl false))) zF)
  (zy (sIf (vI (zZ (tOf (zh 1 xo (za (zd ixD (zb 0) (eC (.int 0))) ze)))) (vI (zZ (tOf (zh 1 xo (za (zd ixD (zb 0) (eC (.int 1))) ze)))) (vI (tOf (zd ltD (zd ixD (zb 0) (eC (.int 0))) (eC (.int 1)))) (tOf (zd ltD (zd ixD (zb 0) (eC (.int 1))) (eC (.int 1))))))) (zO (eC (.bl false))) zF)
  (zO (zd vC (zh 2 zeh (za (zd ixD (zb 0) (eC (.int 0))) (za (zd ixD (zb 0) (eC (.int 1))) ze))) (zb 0))))
def Zi:=fnD 1 zfS
def WW:zv:=[(1,1),(1,2),(2,3),(1,3)]
def zfJ (h:s∈WW):Zi [zi s]=some (.bl true):=by
 unfold WW at h
 simp only[t6,r8,u0D]at h
 rcases h with rfl | rfl | rfl | rfl <;> rfl
def zdK (T:Txt P w K mg base ad):T.Pr 40 2 1 Zi:=by
 have:=ZS T
 have:=zgk T
 walk_at "p"
inductive Pt where
 | g (s:Tie) (rows:List Row)
def ptD:Pt->D
 | .g s rows=>.tup [zi s,.lst (rows.map yz)]
def zfp (rows:List Row):Prop:=rows.length<=60/\∀ r∈rows,0<=r.2.2/\r.2.2<=1000
def zra:Pt->Prop
 | .g s rows=>s∈WW/\zfp rows
def YB (b:zv)(a:Int):Pt->Bool
 | .g _ rows=>wL b a rows
abbrev vt :=zy (sIf (vI (zZ (tOf (eUn (yK .tuple) (zb 2)))) (tOf (zd neD (eFn vF (za (zb 2) ze)) (eC (.int 2))))) (zO (eC (.bl false))) zF)
  (zO (Y7 (zh 1 Zi (za (zd ixD (zb 2) (eC (.int 0))) ze)) (zh 3 xp (za (zb 0) (za (zb 1) (za (zd ixD (zb 2) (eC (.int 1))) ze))))))
def yt:=fnD 3 vt
def Ws (ok:zG m b)(e:zra p):yt [zm m b,.int a,ptD p]=some (.bl (YB b a p)):=by
 cases p with
 | g s rows =>
  have h:=zfJ e.1
  have f:=VV (root:=a) ok (rows:=rows) (o5 e.2.1 (by decide))
  refine YE (ρ:=[.v (zm m b),.v (.int a),.v (.tup [zi s,.lst (rows.map yz)])]) rfl ?_
  unfold vt
  refine zo (ρ':=[.v (zm m b),.v (.int a),.v (.tup [zi s,.lst (rows.map yz)])]) rfl ?_
  refine wC (xc (d:=.bl (wL b a rows)) ?_) rfl
  show(((Zi [zi s]).bind asB).bind λc=>if c=true then xp [zm m b,.int a,.lst (rows.map yz)]else some (D.bl false))=_
  rw[h]
  exact f
def ZM (T:Txt P w K mg base ad):T.Pr 41 8 3 yt:=by
 have:=Xr T
 have:=zdK T
 walk_at "p"
def gpD (g:Gp):D:=.tup [zi g.1,.lst (g.2.map yz)]
def X8 (m b:Int)(a:List Gp):D :=
 if ((List.range m.toNat).any λx:Nat=>!decide ((x:Int)=b)&&decide (Wv (λrows=>wAt rows (x:Int)) (xa a) a<xa a))=true then .non else .int (Wv zc4 (xa a) a/xa a)
def znU:Pt->Gp
 | .g s rows=>(s,rows)
def V9 (m:Int)(c:zv)(a:Int)(b:List Pt):D:=if b.all (YB c a)=true then X8 m a (b.map znU)else .non
def zll {b:List Pt}(h:b.all (YB d a)=true):b.map ptD=(b.map znU).map gpD:=by
 rw[r9]
 refine o9 λp c=>?_
 have:=f9.mp h p c
 cases p;rfl
structure GOk (ts:zv) (root:Int) (gs:List Gp):Prop where
 sh:zj4 gs
 len:gs.length<=5
 rb:∀ g∈gs,zfp g.2
 good:∀ g∈gs,∀ r∈g.2,ZU r.1 r.2.1∈ts/\1<=r.2.2/\r.1≠root
def zo8 {f:zv}{e:List Pt}(k:e.length<=5)(l:∀ p∈e,zra p)(h:e.all (YB f c)=true):GOk f c (e.map znU):=by
 have key:∀ g∈e.map znU,g.1∈WW/\zfp g.2/\wL f c g.2=true:=λg d=>by
  obtain⟨p,j,rfl⟩:=p0.mp d
  have m:=f9.mp h p j
  have i:=l p j
  cases p with
  | g s rows=>exact⟨i.1,i.2,m⟩
 refine⟨λg d=>?_,by rw[u4];exact k,λg d=>(key g d).2.1,λg d=>?_⟩
 .have:=(key g d).1
  obtain⟨⟨a,b⟩,rows⟩:=g
  unfold WW at this
  simp only[t6,r8,u0D,Prod.mk.injEq]at this
  dsimp only
  omega
 .have:=(key g d).2.2
  unfold wL at this
  rw[r4]at this
  exact zae this.2
abbrev Vg :=zO (eFn zlU (za (yc (fLC (iOf (zb 0)) b1 (tOf (zd vC (zd ixD (zb 0) (eC (.int 0))) (zb 2))) (zd ixD (zb 0) (eC (.int 2))))) ze))
def wP:=fnD 2 Vg
def zbK {rows:List Row}(h:rows.length<=60)(x:Int):wP [.lst (rows.map yz),.int x]=some (.int (wAt rows x)):=by
 have e:fLC (iOf (zb 0)) b1 (tOf (zd vC (zd ixD (zb 0) (eC (.int 0))) (zb 2))) (zd ixD (zb 0) (eC (.int 2))) [some (.lst (rows.map yz)),some (.int x)]=some (((rows.filter λr=>decide (r.1=x)).map λr=>r.2.2).map .int):=by
  unfold fLC
  show(if lim (rows.map yz).length=true then _ else none)=_
  rw[u9 (yN (by rw[u4];exact k60 h)),r9]
  exact xg yz (λr=>decide (r.1=x)) (λr=>D.int r.2.2) rows λr _=>⟨[some (yz r)],rfl,rfl,λ_=>rfl⟩
 have a:=zeT ((rows.filter λr=>decide (r.1=x)).map λr=>r.2.2)
 refine YE (ρ:=[.v (.lst (rows.map yz)),.v (.int x)]) rfl ?_
 unfold Vg
 refine wC (xc (d:=.int (wAt rows x)) ?_) rfl
 show((((fLC (iOf (zb 0)) b1 (tOf (zd vC (zd ixD (zb 0) (eC (.int 0))) (zb 2))) (zd ixD (zb 0) (eC (.int 2))) [some (.lst (rows.map yz)),some (.int x)]).map D.lst).bind λd=>(some ([]:zk)).map (d::·)).bind zlU)=_
 rw[e]
 exact a
def zci (T:Txt P w K mg base ad):T.Pr 43 1 2 wP:=by
 walk_at "q"
abbrev XX :=zO (eFn zlU (za (yc (fLC (iOf (zb 0)) b1 zN (zd ixD (zb 0) (eC (.int 2))))) ze))
def wk:=fnD 1 XX
def zaD {rows:List Row}(h:rows.length<=60):wk [.lst (rows.map yz)]=some (.int (zc4 rows)):=by
 have e:fLC (iOf (zb 0)) b1 zN (zd ixD (zb 0) (eC (.int 2))) [some (.lst (rows.map yz))]=some ((rows.map λr=>r.2.2).map .int):=by
  unfold fLC
  show(if lim (rows.map yz).length=true then _ else none)=_
  rw[u9 (yN (by rw[u4];exact k60 h)),r9]
  exact xV yz (λr=>D.int r.2.2) rows λr _=>⟨[some (yz r)],rfl,rfl,rfl⟩
 have a:=zeT (rows.map λr=>r.2.2)
 refine YE (ρ:=[.v (.lst (rows.map yz))]) rfl ?_
 unfold XX
 refine wC (xc (d:=.int (zc4 rows)) ?_) rfl
 show((((fLC (iOf (zb 0)) b1 zN (zd ixD (zb 0) (eC (.int 2))) [some (.lst (rows.map yz))]).map D.lst).bind λd=>(some ([]:zk)).map (d::·)).bind zlU)=_
 rw[e]
 exact a
def za4 (T:Txt P w K mg base ad):T.Pr 39 1 1 wk:=by
 walk_at "q"
abbrev Zz :=zy (yx false 2 (zd y3 (zd xM (zb 2) (zd ixD (zb 4) (eC (.int 1)))) (zd xM (zd xM (zb 3) (zd ixD (zb 4) (eC (.int 0)))) (zb 5))))
  (yx false 3 (zd xM (zb 3) (zd ixD (zb 4) (eC (.int 1)))))
abbrev X2 :=zy (yx false 2 (eC (.int 0)))
  (zy (yx false 3 (eC (.int 1)))
  (zy (Zd (Yb (za (zb 0) (za (zb 1) ze))) (Wd 2 (xt (z9 4) (xt (z9 5) Wn))) Zz)
  (zO (yq (za (zb 2) (za (zb 3) ze))))))
def xI:=fnD 6 X2
def zl5 (n:List Row->Int):∀ a:List Gp,zb0 (a.map λg=>zi g.1) (a.map λg=>D.int (n g.2))=a.map λg=>.tup [zi g.1,.int (n g.2)]
 | []=>rfl
 | g::r=>by
  show D.tup [zi g.1,.int (n g.2)]::zb0 (r.map λg=>zi g.1) (r.map λg=>D.int (n g.2))=_
  rw[zl5 n r]
  rfl
def Xu {gs:List Gp}{n:List Row->Int}(h:zj4 gs)(v:∀ g∈gs,0<=n g.2/\n g.2<=1000000):xI [.lst (gs.map λg=>zi g.1),.lst (gs.map λg=>.int (n g.2))]=some (.tup [.int (Wv n (xa gs) gs),.int (xa gs)]):=by
 refine YE (ρ:=[.v (.lst (gs.map λg=>zi g.1)),.v (.lst (gs.map λg=>.int (n g.2))),.no,.no,.no,.no]) rfl ?_
 unfold X2
 refine zo (ρ':=[.v (.lst (gs.map λg=>zi g.1)),.v (.lst (gs.map λg=>.int (n g.2))),.v (.int 0),.no,.no,.no]) rfl ?_
 refine zo (ρ':=[.v (.lst (gs.map λg=>zi g.1)),.v (.lst (gs.map λg=>.int (n g.2))),.v (.int 0),.v (.int 1),.no,.no]) rfl ?_
 refine yn (ZN (ds:=gs.map λg=>.tup [zi g.1,.int (n g.2)]) (λi ρ=>∃ l m,ρ=[.v (.lst (gs.map λg=>zi g.1)),.v (.lst (gs.map λg=>.int (n g.2))),.v (.int (shF n (gs.take i) 0 1).1),.v (.int (shF n (gs.take i) 0 1).2),l,m]) ?_ ⟨_,_,rfl⟩ ?_ ?_)
 .show(if (gs.map λg=>zi g.1).length<=(gs.map λg=>D.int (n g.2)).length then some (zb0 (gs.map λg=>zi g.1) (gs.map λg=>D.int (n g.2)))else none)=_
  rw[u9 (by rw[u4,u4];exact t7 _),zl5]
 .rintro i d ρ s ⟨l,m,rfl⟩
  rw[q0]at s
  obtain⟨g,r,rfl⟩:=u7.mp s
  have o:=j4 r
  have k:=h g o
  have e:=v g o
  have f:gs.take (i+1)=gs.take i++[g]:=by rw[u05,r];rfl
  have j:=zed n g (gs.take i) 0 1
  rw[<-f]at j
  obtain⟨t,p⟩:∃ t,(shF n (gs.take i) 0 1).1=t:=⟨_,rfl⟩
  obtain⟨b,q⟩:∃ b,(shF n (gs.take i) 0 1).2=b:=⟨_,rfl⟩
  rw[p,q]at j
  rw[p,q,j]
  obtain⟨⟨a,c⟩,rows⟩:=g
  dsimp only at k e ⊢
  have A:xM (.int t) (.int c)=some (.int (t*c)):=zeE (nn1 k.1) (le7 k.2.1)
  have z:xM (.int b) (.int a)=some (.int (b*a)):=zeE (nn1 k.2.2.1) (u2O k.2.2.2 (by decide))
  have w:xM (.int (b*a)) (.int (n rows))=some (.int (b*a*n rows)):=zeE e.1 e.2
  have u:xM (.int b) (.int c)=some (.int (b*c)):=zeE (nn1 k.1) (le7 k.2.1)
  refine⟨[.v (.lst (gs.map λg=>zi g.1)),.v (.lst (gs.map λg=>.int (n g.2))),.v (.int t),.v (.int b),.v (zi (a,c)),.v (.int (n rows))],rfl,?_⟩
  unfold Zz
  refine zo (ρ':=[.v (.lst (gs.map λg=>zi g.1)),.v (.lst (gs.map λg=>.int (n g.2))),.v (.int (t*c+b*a*n rows)),.v (.int b),.v (zi (a,c)),.v (.int (n rows))]) (yW ?_) ?_
  .show((xM (.int t) (.int c)).bind λx=>((xM (.int b) (.int a)).bind λy=>xM y (.int (n rows))).bind λy=>y3 x y)=_
   rw[A,z]
   show((xM (.int (b*a)) (.int (n rows))).bind λy=>y3 (.int (t*c)) y)=_
   rw[w]
   rfl
  .exact w3 (yW (show xM (.int b) (.int c)=_ from u)) ⟨_,_,rfl⟩
 .rintro ρ ⟨l,m,rfl⟩
  rw[u4,u0u,zmO h]
  exact wC rfl rfl
def zaP (T:Txt P w K mg base ad):T.Pr 42 1 2 xI:=by
 walk_at "p"
abbrev ZD :=zy (yx false 6 (zh 2 xI (za (zb 3) (za (yc (fLC (iOf (zb 4)) b1 zN (zh 2 wP (za (zb 0) (za (zb 6) ze))))) ze))))
  (sIf (wd (tOf (zd neD (zb 5) (zb 1))) (tOf (zd ltD (zd ixD (zb 6) (eC (.int 0))) (zd ixD (zb 6) (eC (.int 1)))))) (zO (eC .non)) zF)
abbrev X3 :=zy (YH (zh 1 zK (za (zb 0) ze)))
  (zy (YH (zh 2 zR (za (zb 0) (za (zb 1) ze))))
  (zy (sIf (vI (zZ (tOf (eUn (yK .list) (zb 2)))) (zZ (tOf (eFn znO (za (yc (fLC (iOf (zb 2)) b1 zN (zh 3 yt (za (zb 1) (za (zb 2) (za (zb 0) ze)))))) ze))))) (zO (eC .non)) zF)
  (zy (yx false 3 (yc (fLC (iOf (zb 2)) b1 zN (zd ixD (zb 0) (eC (.int 0))))))
  (zy (yx false 4 (yc (fLC (iOf (zb 2)) b1 zN (zd ixD (zb 0) (eC (.int 1))))))
  (zy (xb xD (za (zd ixD (zb 0) (eC (.int 0))) ze) (z9 5) ZD)
  (zy (yx false 7 (zh 2 xI (za (zb 3) (za (yc (fLC (iOf (zb 4)) b1 zN (zh 1 wk (za (zb 0) ze)))) ze))))
  (zO (zd xm (zd ixD (zb 7) (eC (.int 0))) (zd ixD (zb 7) (eC (.int 1)))))))))))
def yM:=fnD 8 X3
def pow7 {n:Nat}(h:n<=5):(7:Int)^n<=16807:=by
 have:∀ n:Nat,n<6->(7:Int)^n<=16807:=by decide
 exact this n (by omega)
def zjD {rows:List Row}(h:zfp rows):0<=zc4 rows/\zc4 rows<=1000000:=by
 have key:∀ {a:List Row},(∀ r∈a,0<=r.2.2/\r.2.2<=1000)->0<=zc4 a/\zc4 a<=a.length*1000:=λ{a}=>by
  induction a with
  | nil=>intro _;simp[zc4]
  | cons r a b =>
   intro h
   have d:=h r (.head _)
   have e:=b λx c=>h x (.tail _ c)
   unfold zc4 at *
   rw[r6,u0I,k4]
   omega
 have d:=key h.2
 have:=h.1
 omega
def zmx {rows:List Row}(h:zfp rows)(x:Int):0<=wAt rows x/\wAt rows x<=1000000:=by
 have c:=zls (λr a=>(h.2 r a).1) x
 have b:=zoP (A:=1000) (by decide) h.2 x
 have:=h.1
 omega
def zmv (a:List Bool):znO [.lst (a.map .bl)]=some (.bl (a.all id)):=by
 show((znR (a.map .bl)).bind λa=>some (D.bl (a.all id)))=_
 rw[zju]
 rfl
def Z6 {f:zv}{e:Int}{ps:List Pt}(ok:zG m f)(R:0<=e/\e<m)(I:ps.length<=5)(J:∀ p∈ps,zra p):yM [zm m f,.int e,.lst (ps.map ptD)]=some (V9 m f e ps):=by
 have hw:w6 (zm m f)=true:=(xj _).mpr ⟨_,_,rfl,ok⟩
 have M:zK [zm m f]=some .non:=by simp[zK,hw]
 have N:=Zn (ts:=f) R
 refine YE (ρ:=[.v (zm m f),.v (.int e),.v (.lst (ps.map ptD)),.no,.no,.no,.no,.no]) rfl ?_
 unfold X3
 refine zo (ρ':=[.v (zm m f),.v (.int e),.v (.lst (ps.map ptD)),.no,.no,.no,.no,.no]) (x9 M) ?_
 refine zo (ρ':=[.v (zm m f),.v (.int e),.v (.lst (ps.map ptD)),.no,.no,.no,.no,.no]) (x9 N) ?_
 have A:lim (ps.map ptD).length=true:=zfb (by rw[u4];exact s5 I)
 refine yn (ZB (c:=!ps.all (YB f e)) ?_ (λz=>wC rfl ?_) λz=>w3 rfl ?_)
 .have E:fLC (iOf (zb 2)) b1 zN (zh 3 yt (za (zb 1) (za (zb 2) (za (zb 0) ze)))) [some (zm m f),some (.int e),some (.lst (ps.map ptD)),none,none,none,none,none]=some ((ps.map (YB f e)).map .bl):=by
   unfold fLC
   show(if lim (ps.map ptD).length=true then _ else none)=_
   rw[u9 A,r9]
   exact xV ptD (λp=>D.bl (YB f e p)) ps λp l=>⟨[some (ptD p)],rfl,rfl,Ws ok (J p l)⟩
  have C:=zmv (ps.map (YB f e))
  show((((((fLC (iOf (zb 2)) b1 zN (zh 3 yt (za (zb 1) (za (zb 2) (za (zb 0) ze)))) [some (zm m f),some (.int e),some (.lst (ps.map ptD)),none,none,none,none,none]).map D.lst).bind λd=>(some ([]:zk)).map (d::·)).bind znO).bind asB).map (!·))=_
  rw[E]
  show(((znO [.lst ((ps.map (YB f e)).map .bl)]).bind asB).map (!·))=_
  rw[C]
  show some (!(ps.map (YB f e)).all id)=_
  rw[u1w]
  rfl
 .rw[u0w]at z
  unfold V9
  rw[z]
  rfl
 rw[u2N]at z
 have j:=zo8 I J z
 have Q:V9 m f e ps=X8 m e (ps.map znU):=by unfold V9;rw[u9 z]
 rw[Q,zll z]
 rw[zll z]at A
 generalize ps.map znU=gs at *
 have E:fLC (iOf (zb 2)) b1 zN (zd ixD (zb 0) (eC (.int 0))) [some (zm m f),some (.int e),some (.lst (gs.map gpD)),none,none,none,none,none]=some (gs.map λg=>zi g.1):=by
  unfold fLC
  show(if lim (gs.map gpD).length=true then _ else none)=_
  rw[u9 A]
  exact xV gpD (λg=>zi g.1) gs λg l=>⟨[some (gpD g)],rfl,rfl,rfl⟩
 have C:fLC (iOf (zb 2)) b1 zN (zd ixD (zb 0) (eC (.int 1))) [some (zm m f),some (.int e),some (.lst (gs.map gpD)),some (.lst (gs.map λg=>zi g.1)),none,none,none,none]=some (gs.map λg=>.lst (g.2.map yz)):=by
  unfold fLC
  show(if lim (gs.map gpD).length=true then _ else none)=_
  rw[u9 A]
  exact xV gpD (λg=>D.lst (g.2.map yz)) gs λg l=>⟨[some (gpD g)],rfl,rfl,rfl⟩
 refine zo (ρ':=[.v (zm m f),.v (.int e),.v (.lst (gs.map gpD)),.v (.lst (gs.map λg=>zi g.1)),.no,.no,.no,.no]) (yW (zl0 E)) ?_
 refine zo (ρ':=[.v (zm m f),.v (.int e),.v (.lst (gs.map gpD)),.v (.lst (gs.map λg=>zi g.1)),.v (.lst (gs.map λg=>.lst (g.2.map yz))),.no,.no,.no]) (yW (zl0 C)) ?_
 have H:lim (gs.map λg=>D.lst (g.2.map yz)).length=true:=zfb (by rw[u4];exact s5 j.len)
 refine yn (Ys (lo:=0) (c:=m.toNat) (λi ρ=>(∃ y q k,ρ=[.v (zm m f),.v (.int e),.v (.lst (gs.map gpD)),.v (.lst (gs.map λg=>zi g.1)),.v (.lst (gs.map λg=>.lst (g.2.map yz))),y,q,k])/\((List.range i).any λx:Nat=>!decide ((x:Int)=e)&&decide (Wv (λrows=>wAt rows (x:Int)) (xa gs) gs<xa gs))=false) ?_ ⟨⟨_,_,_,rfl⟩,rfl⟩ ?_ ?_)
 .show xD [.int m]=_
  exact wN ok
 .rintro i ρ O ⟨⟨y,q,k,rfl⟩,h⟩
  obtain⟨x,K⟩:∃ x:Int,(0:Int)+(i:Int)=x:=⟨_,rfl⟩
  rw[K]
  refine⟨[.v (zm m f),.v (.int e),.v (.lst (gs.map gpD)),.v (.lst (gs.map λg=>zi g.1)),.v (.lst (gs.map λg=>.lst (g.2.map yz))),.v (.int x),q,k],rfl,?_⟩
  have F:=λa b=>show fLC (iOf (zb 4)) b1 zN (zh 2 wP (za (zb 0) (za (zb 6) ze))) [some (zm m f),some (.int e),some (.lst (gs.map gpD)),some (.lst (gs.map λg=>zi g.1)),some (.lst (gs.map λg=>.lst (g.2.map yz))),some (.int x),a,b]=some (gs.map λg=>.int (wAt g.2 x)) by
   unfold fLC
   show(if lim (gs.map λg=>D.lst (g.2.map yz)).length=true then _ else none)=_
   rw[u9 H]
   exact xV (λg:Gp=>D.lst (g.2.map yz)) (λg=>D.int (wAt g.2 x)) gs λg l=>⟨[some (.lst (g.2.map yz))],rfl,rfl,zbK (j.rb g l).1 x⟩
  have v:=Xu (gs:=gs) (n:=λrows=>wAt rows x) j.sh (λg G=>zmx (j.rb g G) x)
  obtain⟨T,B⟩:∃ T,Wv (λrows=>wAt rows x) (xa gs) gs=T:=⟨_,rfl⟩
  obtain⟨W,s⟩:∃ W,xa gs=W:=⟨_,rfl⟩
  rw[B,s]at v
  unfold ZD
  refine zo (ρ':=[.v (zm m f),.v (.int e),.v (.lst (gs.map gpD)),.v (.lst (gs.map λg=>zi g.1)),.v (.lst (gs.map λg=>.lst (g.2.map yz))),.v (.int x),.v (.tup [.int T,.int W]),k]) (yW ?_) ?_
  .show((((fLC (iOf (zb 4)) b1 zN (zh 2 wP (za (zb 0) (za (zb 6) ze))) [some (zm m f),some (.int e),some (.lst (gs.map gpD)),some (.lst (gs.map λg=>zi g.1)),some (.lst (gs.map λg=>.lst (g.2.map yz))),some (.int x),q.f,k.f]).map D.lst).bind λd=>(some ([]:zk)).map (d::·)).map (D.lst (gs.map λg=>zi g.1)::·)).bind (λw=>if w.length=2 then xI w else none)=_
   rw[F]
   exact v
  have o:=zpp K
  have r:decide (Wv (λrows=>wAt rows (i:Int)) (xa gs) gs<xa gs)=decide (T<W):=by rw[o,B,s]
  refine ZB (c:=!decide (x=e)&&decide (T<W)) ?_ (λz=>wC rfl ?_) λz=>w3 rfl ⟨⟨_,_,_,rfl⟩,?_⟩
  .show wd _ _ [some (zm m f),some (.int e),some (.lst (gs.map gpD)),some (.lst (gs.map λg=>zi g.1)),some (.lst (gs.map λg=>.lst (g.2.map yz))),some (.int x),some (.tup [.int T,.int W]),k.g]=_
   show((some (!decide (x=e))).bind λc=>if c=true then some (decide (T<W))else some false)=_
   cases decide (x=e) <;> rfl
  .unfold X8
   rw[u9 (List.any_eq_true.mpr ⟨i,j6.mpr O,by rw[r,o];exact z⟩)]
  .rw[u1b,List.any_append,h]
   simp only[u1G,List.any_nil,u3a,Bool.false_or]
   rw[r,o]
   exact z
 .rintro ρ ⟨⟨y,q,k,rfl⟩,h⟩
  have F:=λa b c=>show fLC (iOf (zb 4)) b1 zN (zh 1 wk (za (zb 0) ze)) [some (zm m f),some (.int e),some (.lst (gs.map gpD)),some (.lst (gs.map λg=>zi g.1)),some (.lst (gs.map λg=>.lst (g.2.map yz))),a,b,c]=some (gs.map λg=>.int (zc4 g.2)) by
   unfold fLC
   show(if lim (gs.map λg=>D.lst (g.2.map yz)).length=true then _ else none)=_
   rw[u9 H]
   exact xV (λg:Gp=>D.lst (g.2.map yz)) (λg=>D.int (zc4 g.2)) gs λg l=>⟨[some (.lst (g.2.map yz))],rfl,rfl,zaD (j.rb g l).1⟩
  have v:=Xu (gs:=gs) (n:=zc4) j.sh (λg G=>zjD (j.rb g G))
  have t:=Vr j.sh
  have u:=ze3 j.sh
  have P:=pow7 j.len
  have L:X8 m e gs=.int (Wv zc4 (xa gs) gs/xa gs):=by
   unfold X8
   rw[h]
   rfl
  rw[L]
  obtain⟨T,B⟩:∃ T,Wv zc4 (xa gs) gs=T:=⟨_,rfl⟩
  obtain⟨W,s⟩:∃ W,xa gs=W:=⟨_,rfl⟩
  rw[B,s]at v ⊢
  rw[s]at t u
  refine zo (ρ':=[.v (zm m f),.v (.int e),.v (.lst (gs.map gpD)),.v (.lst (gs.map λg=>zi g.1)),.v (.lst (gs.map λg=>.lst (g.2.map yz))),y,q,.v (.tup [.int T,.int W])]) (yW ?_) ?_
  .show((((fLC (iOf (zb 4)) b1 zN (zh 1 wk (za (zb 0) ze)) [some (zm m f),some (.int e),some (.lst (gs.map gpD)),some (.lst (gs.map λg=>zi g.1)),some (.lst (gs.map λg=>.lst (g.2.map yz))),y.f,q.f,k.f]).map D.lst).bind λd=>(some ([]:zk)).map (d::·)).map (D.lst (gs.map λg=>zi g.1)::·)).bind (λw=>if w.length=2 then xI w else none)=_
   rw[F]
   exact v
  .refine wC (xc (d:=.int (T/W)) ?_) rfl
   show xm (.int T) (.int W)=_
   exact znH t (u2O u (u2O P (by decide)))
def zaK (T:Txt P w K mg base ad):T.Pr 44 9 3 yM:=by
 have:=xw T
 have:=yR T
 have:=za4 T
 have:=ZM T
 have:=zaP T
 have:=zci T
 walk_at "p"
def wf (m:Int)(a:zv)(b tl:zc)(x:Nat):Row:=((x:Int),zk5 m a b x,P2 tl (x:Int))
structure Brn (m:Int) (ts:zv) (ks tl:zc) (p:Int) (L:zC):Prop where
 nd:(p.toNat::L).Nodup
 mem:∀ x:Nat,(x:Int)<m↔x∈p.toNat::L
 srt:(p.toNat::L).Pairwise (zjJ λx=>vAt ks (x:Int))
 pm:(p.toNat::L).Perm (List.range m.toNat)
section
variable {m p:Int}{ts:zv}{ks tl:zc}(T:zgY m ts ks p)(hE:∀ x:Int,0<=x->x<m->EqA Fh m ts ks tl x)
include T
theorem zos {L:zC}(c:L.Perm (List.range m.toNat))(d:L.Pairwise (zjJ λx=>vAt ks (x:Int))):∃ L',L=p.toNat::L'/\Brn m ts ks tl p L':=by
 have g:=T.hp
 have b:p.toNat∈L:=c.mem_iff.mpr (j6.mpr (by omega))
 have i:∀ x:Nat,(x:Int)<m↔x∈L:=λx=>by rw[c.mem_iff,j6];omega
 cases L with
 | nil=>cases b
 | cons a L =>
  have j:(a:Int)<m:=(i a).mpr (.head _)
  have e:a=p.toNat:=by
   rcases t6.mp b with e | h
   .exact e.symm
   .have:=zaV ((p4.mp d).1 _ h)
    have f:vAt ks (a:Int)<=vAt ks ((p.toNat:Nat):Int):=this
    rw[show((p.toNat:Nat):Int)=p by omega,zio g T.hks T.hkl]at f
    have:=zdo T.ok T.tl g T.hks T.hkl T.hb j f
    omega
  subst e
  exact⟨L,rfl,c.nodup_iff.mpr l0,i,d,c⟩
theorem zcm (B:Brn m ts ks tl p L){x:Nat}(a:x∈L):(x:Int)≠p/\(x:Int)<m:=by
 have c:=(B.mem x).mpr (.tail _ a)
 refine⟨λe=>?_,c⟩
 have b:=(f7.mp B.nd).1
 have:x=p.toNat:=by omega
 rw[this]at a
 exact b a
include hE
theorem zq6:∀ (n:Nat) (x:Int),0<=x->x<m->m-vAt ks x<=(n:Int)->vAt tl x<=m-1-vAt ks x:=by
 intro n
 induction n with
 | zero=>intro x a b h;have:=(T.hb x a b).2;omega
 | succ n f =>
  intro x a b h
  have i:=(T.hb x a b).2
  by_cases c:yw m ts ks x=[]
  .rw[zbE hE a b c];omega
  .obtain⟨o,d,e⟩:=zbv hE a b c
   have g:=xB d
   have:=f (o:Int) (by omega) (yf d) (by omega)
   omega
theorem zq4 {x:Int}(d:0<=x)(e:x<m):0<=vAt tl x/\vAt tl x<=7:=by
 have a:=zq6 T hE m.toNat x d e (by have:=(T.hb x d e).1;omega)
 have b:=(T.hb x d e).1
 have c:=T.ok.hi
 exact⟨zjr hE d e T.hb,by omega⟩
theorem zlV {x:Int}(a:0<=x)(b:x<m):1<=P2 tl x/\P2 tl x<=128:=by
 refine⟨zlk tl x,?_⟩
 have h:=zq4 T hE a b
 have c:(2:Nat)^(vAt tl x).toNat<=2^7:=Nat.pow_le_pow_right (by decide) (by omega)
 unfold P2
 have e:((2:Int)^(vAt tl x).toNat)=(((2:Nat)^(vAt tl x).toNat:Nat):Int):=by simp
 rw[e]
 omega
theorem zgS {L:zC}(B:Brn m ts ks tl p L):wo ts p [] (L.map (wf m ts ks tl))=true:=by
 have D:=T.hp
 have w:∀ (l:zC) (y:Nat),VP (Wc (l.map (wf m ts ks tl))) (y:Int)=if y∈l then some (P2 tl (y:Int))else none:=λl y=>by
  induction l with
  | nil=>rfl
  | cons a l u =>
   show(if (a:Int)=(y:Int)then some (P2 tl (a:Int))else VP (Wc (l.map (wf m ts ks tl))) (y:Int))=_
   rw[u]
   by_cases c:a=y
   .subst c
    rw[u9 rfl,u9 (.head _)]
   .rw[t9 (by omega)]
    by_cases q:y∈l
    .rw[u9 q,u9 (.tail _ q)]
    .rw[t9 q,t9 (λh=>(t6.mp h).elim (λe=>c e.symm) q)]
 have key:∀ k,k<=L.length->wo ts p [] ((L.take k).map (wf m ts ks tl))=true:=by
  intro k
  induction k with
  | zero=>intro _;rfl
  | succ k u =>
   intro t
   have E:L[k]?=some L[k]:=u8 t
   have v:L[k]∈L:=u0s t
   obtain⟨n,i⟩:=zcm T B v
   rw[u1f,E,o0]
   show wo ts p [] ((L.take k).map (wf m ts ks tl)++[wf m ts ks tl L[k]])=true
   rw[WQ,u (by omega),Bool.true_and,u3s]
   obtain⟨y,C,z⟩:=zhg T.ok D T.hks T.hkl i n
   obtain⟨d,j⟩:=(wy T.ok).mp z
   have f:=(d.rng T.ok).2
   have A:=(f7.mp B.nd).2
   have b:L.drop k=L[k]::L.drop (k+1):=u0B t
   have split:=List.take_append_drop k L
   have o:L[k]∉L.take k:=λh=>by
    rw[<-split,b,List.nodup_append]at A
    exact A.2.2 _ h _ (.head _) rfl
   unfold wf
   refine zkL T.ok (j8 n) ?_ (by rw[C];exact d) (zlV T hE (by omega) i).1 ?_
   .have:=w (L.take k) L[k]
    rw[t9 o]at this
    exact this
   .rw[C]
    by_cases c:(y:Int)=p
    .exact .inl c
    .right
     have g:y∈L:=by
      rcases t6.mp ((B.mem y).mp f.2)with e | h
      .exact absurd (by omega) c
      .exact h
     have r:y∈L.take k:=by
      rw[<-split]at g
      rcases u0o.mp g with h | h
      .exact h
      .exfalso
       rw[b]at h
       rcases t6.mp h with e | h
       .rw[e]at j;omega
       .have x:=(p4.mp B.srt).2
        rw[<-split,b]at x
        have s:=(List.pairwise_append.mp x).2.1
        have:=zaV ((p4.mp s).1 _ h)
        have:vAt ks (L[k]:Int)<=vAt ks (y:Int):=this
        omega
     have:=w (L.take k) y
     rw[u9 r]at this
     exact⟨_,this,zmj hE T.hb f.1 f.2 ((YV T.ok).mp z)⟩
 have:=key L.length (t7 _)
 rwa[u0u]at this
theorem zkd {L:zC}(B:Brn m ts ks tl p L):zc4 (L.map (wf m ts ks tl))=Bd m p tl 0:=by
 have e:=T.hp
 unfold zc4 Bd
 rw[r9,Int.zero_mul,u0r]
 have d:L.map ((λr:Row=>r.2.2)∘wf m ts ks tl)=L.map λx:Nat=>P2 tl (x:Int):=rfl
 rw[d,<- zbR (p:=p) (λx:Nat=>P2 tl (x:Int)) m.toNat]
 refine zeW (List.Perm.map _ ?_)
 have c:=B.pm.filter (λx:Nat=>!decide ((x:Int)=p))
 have a:(p.toNat::L).filter (λx:Nat=>!decide ((x:Int)=p))=L:=by
  rw[u1H (by simp;omega),List.filter_eq_self]
  intro x b
  have:=(zcm T B b).1
  simp[this]
 rwa[a]at c
theorem zij {L:zC}(B:Brn m ts ks tl p L):yM [zm m ts,.int p,.lst (if L=[]then []else [.tup [zi (1,1),.lst ((L.map (wf m ts ks tl)).map yz)]])]=some (.int (Bd m p tl 0)):=by
 have s:=T.hp
 have v:=T.ok.hi
 have l:L.length<=8:=by
  have:=B.pm.length_eq
  rw[k4,k8]at this
  omega
 have f:zfp (L.map (wf m ts ks tl)):=⟨by rw[u4];omega,λr j=>by
  obtain⟨x,b,rfl⟩:=p0.mp j
  have:=zlV T hE (x:=(x:Int)) (by omega) (zcm T B b).2
  exact⟨by show 0<=P2 tl (x:Int);omega,by show P2 tl (x:Int)<=1000;omega⟩⟩
 have a:=zkd T hE B
 by_cases c:L=[]
 .rw[u9 c]
  have:=Z6 (ps:=[]) T.ok s (by decide) (λ_ h=>by cases h)
  rw[show([]:List Pt).map ptD=[]from rfl]at this
  rw[this]
  unfold V9 X8
  rw[u9 (show([]:List Pt).all (YB ts p)=true from rfl),t9]
  .rw[c]at a
   rw[<-a]
   rfl
  .rw[Bool.not_eq_true,u25]
   intro x b
   have b:(x:Int)=p:=by
    have g:x∈p.toNat::L:=(B.mem x).mp (by have:=j6.mp b;omega)
    rw[c]at g
    have:=q5.mp g
    omega
   rw[j0 b]
   exact u6
 .rw[t9 c]
  have:=Z6 (ps:=[.g (1,1) (L.map (wf m ts ks tl))]) T.ok s (by show 1<=5;decide) (λq hq=>by
   rw[q5.mp hq]
   exact⟨.head _,f⟩)
  rw[show([Pt.g (1,1) (L.map (wf m ts ks tl))]).map ptD=[.tup [zi (1,1),.lst ((L.map (wf m ts ks tl)).map yz)]]from rfl]at this
  rw[this]
  have t:wL ts p (L.map (wf m ts ks tl))=true:=by
   unfold wL
   rw[zgS T hE B]
   cases L with
   | nil=>exact absurd rfl c
   | cons _ _=>rfl
  have d:[Pt.g (1,1) (L.map (wf m ts ks tl))].all (YB ts p)=true:=by
   show(wL ts p (L.map (wf m ts ks tl))&&true)=true
   rw[t]
   rfl
  have o:∀ n:List Row->Int,Wv n (xa [(((1,1):Int × Int),L.map (wf m ts ks tl))]) [(((1,1):Int × Int),L.map (wf m ts ks tl))]=n (L.map (wf m ts ks tl)):=λn=>by
   show n (L.map (wf m ts ks tl))*1*(1*1/1)+0=_
   rw[show((1:Int)*1/1)=1 by decide,u1Y,u1Y,Int.add_zero]
  unfold V9
  rw[u9 d]
  show some (X8 m p [(((1,1):Int × Int),L.map (wf m ts ks tl))])=_
  unfold X8
  rw[t9]
  .rw[o,a]
   show some (D.int (Bd m p tl 0/(1*1)))=_
   rw[show((1:Int)*1)=1 by decide,Int.ediv_one]
  .rw[Bool.not_eq_true,u25]
   intro x b h
   rw[o,r4]at h
   have g:(x:Int)≠p:=by simpa using h.1
   have i:x∈L:=by
    rcases t6.mp ((B.mem x).mp (by have:=j6.mp b;omega))with e | k
    .exact absurd (by omega) g
    .exact k
   have k:=zl9 (x:=(x:Int)) (u:=P2 tl (x:Int)) (rows:=L.map (wf m ts ks tl)) (λr j=>(f.2 r j).1) ⟨_,u0i i,rfl,rfl⟩
   have w:wAt (L.map (wf m ts ks tl)) (x:Int)<1*1:=k9 h.2
   have:=zlk tl (x:Int)
   omega
end
abbrev Yd :=zy (YH (zh 1 zK (za (zb 0) ze)))
  (zy (YH (zh 2 zR (za (zb 0) (za (zb 1) ze))))
  (zy (YH (zh 1 wg (za (zb 0) ze)))
  (zy (yx false 2 (zh 2 yU (za (zb 0) (za (zb 1) ze))))
  (zy (yx false 3 (zh 2 xY (za (zb 0) (za (zb 1) ze))))
  (zy (yx false 4 (yc (fLC (iOf (zh 2 p_outwards (za (zb 0) (za (zb 1) ze)))) b1 (tOf (zd neD (zb 0) (zb 2))) (yq (za (zb 0) (za (zd ixD (zb 4) (zb 0)) (za (zh 2 wR (za (eC (.int 1)) (za (zd ixD (zb 3) (zb 0)) ze))) ze)))))))
  (vH 0 (fIf (tOf (zd gtD (eFn vF (za (zb 4) ze)) (eC (.int 0)))) (zS (za (yq (za (yq (za (eC (.int 1)) (za (eC (.int 1)) ze))) (za (zb 4) ze))) ze)) (zS ze))))))))
def wY:=zoh 5 Yd 0
def v5:YF:=λa=>(wY a).map .lst
def XZ {g tl:zc}(T:zgY m e g p)(N:Zy m e)(F:∀ x:Int,0<=x->x<m->EqA Fh m e g tl x)(K:yU [zm m e,.int p]=some (.tup (tl.map .int)))(j:(tl.length:Int)=m):∃ L,Brn m e g tl p L/\wY [zm m e,.int p]=some (if L=[]then []else [.tup [zi (1,1),.lst ((L.map (wf m e g tl)).map yz)]]):=by
 have v:=T.hp
 have P:=T.ok.lo
 have E:=T.ok.hi
 obtain⟨L0,H,w,I⟩:=ZW T.ok v T.hks T.hkl
 obtain⟨L,rfl,B⟩:=zos (tl:=tl) T w I
 obtain⟨i,G,C,A⟩:=zj5 T
 refine⟨L,B,?_⟩
 have s:L.length<=8:=by
  have:=B.pm.length_eq
  rw[k4,k8]at this
  omega
 refine zoa (ρ:=[.v (zm m e),.v (.int p),.no,.no,.no]) rfl ?_
 unfold Yd
 refine zo (x9 (d:=.non) (zeR T.ok)) ?_
 refine zo (x9 (d:=.non) (Zn (ts:=e) v)) ?_
 refine zo (x9 (d:=.non) (Y1 T.ok N T.tl)) ?_
 refine zo (ρ':=[.v (zm m e),.v (.int p),.v (.tup (tl.map .int)),.no,.no]) (wh (ds:=[_,_]) rfl K) ?_
 refine zo (ρ':=[.v (zm m e),.v (.int p),.v (.tup (tl.map .int)),.v (.lst (i.map yI)),.no]) (wh (ds:=[_,_]) rfl G) ?_
 refine zo (ρ':=[.v (zm m e),.v (.int p),.v (.tup (tl.map .int)),.v (.lst (i.map yI)),.v (.lst ((L.map (wf m e g tl)).map yz))]) (XB (xN ?_)) ?_
 .unfold fLC
  rw[WP (d:=.lst ((p.toNat::L).map λx:Nat=>.int (x:Int))) (zL (ds:=[zm m e,.int p]) rfl H) rfl,j7,u9 (yN (by rw[u4,k4];omega))]
  have z:(p.toNat::L).filter (λx:Nat=>!decide ((x:Int)=p))=L:=by
   rw[u1H (by simp;omega),List.filter_eq_self]
   intro x r
   have:=(zcm T B r).1
   simp[this]
  have:=xg (b:=b1) (t:=tOf (zd neD (zb 0) (zb 2))) (f:=yq (za (zb 0) (za (zd ixD (zb 4) (zb 0)) (za (zh 2 wR (za (eC (.int 1)) (za (zd ixD (zb 3) (zb 0)) ze))) ze)))) (ρ:=visF [.v (zm m e),.v (.int p),.v (.tup (tl.map .int)),.v (.lst (i.map yI)),.no]) (λx:Nat=>D.int (x:Int)) (λx:Nat=>!decide ((x:Int)=p)) (yz∘wf m e g tl) (p.toNat::L) λx r=>⟨[some (.int (x:Int))],rfl,vR (zA (x:=.int (x:Int)) (y:=.int p) rfl rfl xf),λq=>?_⟩
  .rw[this,z,r9]
  .have h:(x:Int)<m:=(B.mem x).mpr r
   have o:(x:Int)≠p:=by simpa using q
   have O:=zq4 T F (x:=(x:Int)) (by omega) h
   have u:=zam (n:=1) (k:=vAt tl (x:Int)) O.1 (by omega)
   rw[Int.one_mul]at u
   have M:ixD (.lst (i.map yI)) (.int (x:Int))=some (.int (zk5 m e g x)):=by
    show L2.atI (i.map yI) (x:Int)=_
    rw[V8 (m:=m) (by omega) h (by omega),A x h o]
    rfl
   have J:ixD (.tup (tl.map .int)) (.int (x:Int))=some (.int (vAt tl (x:Int))):=zbG (ns:=tl) ⟨by omega,h⟩ j
   exact vJ (ds:=[.int (x:Int),.int (zk5 m e g x),.int (P2 tl (x:Int))]) (zr rfl (zr (zA (x:=.lst (i.map yI)) (y:=.int (x:Int)) rfl rfl M) (zr (zL (ds:=[.int 1,.int (vAt tl (x:Int))]) (zr rfl (zr (zA (x:=.tup (tl.map .int)) (y:=.int (x:Int)) rfl rfl J) z0)) u) z0))) (by show 3<=1000;decide)
 have q:tOf (zd gtD (eFn vF (za (zb 4) ze)) (eC (.int 0))) (visF [.v (zm m e),.v (.int p),.v (.tup (tl.map .int)),.v (.lst (i.map yI)),.v (.lst ((L.map (wf m e g tl)).map yz))])=some (!decide (L=[])):=by
  refine vR (zA (x:=.int (L.length:Int)) (y:=.int 0) (VU (ds:=[.lst ((L.map (wf m e g tl)).map yz)]) rfl ?_) rfl ?_)
  .show some (D.int ((((L.map (wf m e g tl)).map yz).length:Nat):Int))=_
   rw[u4,u4]
  .show some (D.bl (decide ((L.length:Int)>0)))=_
   cases L with
   | nil=>rfl
   | cons a l=>rw[j0 (by rw[k4];omega),j8 (List.cons_ne_nil _ _)];rfl
 refine w3 (zaY (ds:=if L=[]then []else [.tup [zi (1,1),.lst ((L.map (wf m e g tl)).map yz)]]) ?_) rfl
 unfold fIf
 rw[q]
 by_cases c:L=[]
 .rw[j0 c,u9 c]
  rfl
 .rw[j8 c,t9 c]
  rfl
def Z9 (T:Txt P w K mg base ad):vU P w K mg base CX0 12 (ad.f 45) (ad.e 45) (Rw 45).ps (@zqt ⟨K⟩ 2 wY):=by
 letI:KK:=⟨K⟩
 have G_doubled:=Zm T
 have G_must_be_web:=xw T
 have G_must_be_place:=yR T
 have X_must_be_place:=vS T
 have G_must_be_tree:=YU T
 have X_must_be_tree:=YC T
 have G_inner_neighbours:=ZO T
 have G_outwards:=W9 T
 have G_heights_from:=YW T
 refine zoB (N:=(Rw 45).N) (ps:=(Rw 45).ps) (T.d 45).fn (sc 45) (g:=Yd) (i:=0) λa A outer s H E b=>?_
 unfold Yd
 apply zeJ <;> walk_at "s"
def Wk (T:Txt P w K mg base ad):T.Pr 45 12 2 v5:=by
 letI:KK:=⟨K⟩
 exact zoj (Z9 T)
abbrev YQ :=zm7 xNo (YH (zh 1 zK (za (zb 0) ze)))
  (zm7 (xEx (zjg 2 wu (za (zb 0) (za (zb 1) ze)))) (YH (zh 2 zR (za (zb 0) (za (zb 1) ze))))
  (xEx (zjg 1 wQ (za (zb 0) ze))))
def vm:=fnX 5 YQ
def zgi {a:zv}(ok:zG m a)(c:(a.length:Int)≠m-1):vm [zm m a,.int 0]=some 5:=by
 have e:=ok.lo
 have b:0<=(0:Int)/\(0:Int)<m:=⟨by decide,by omega⟩
 show YQ [.v (zm m a),.v (.int 0),.no,.no,.no]=some 5
 unfold YQ
 refine zgC rfl (x9 (d:=.non) (zeR ok)) ?_
 refine zgC (zk9 b) (x9 (d:=.non) (Zn (ts:=a) b)) ?_
 exact zpo ok c
def zbn (T:Txt P w K mg base ad):T.Px 45 12 2 vm:=by
 have:=xw T
 have:=yR T
 have:=vS T
 have:=YC T
 walk_at "x"
abbrev Ye :=zy (yx false 2 (zd y3 (yc (zS (za (zb 1) ze))) (zb 0)))
  (zO (yc (fLC (yF (za (zb 0) ze)) b2 zN (yq (za (zb 1) (za (zd ixD (zb 4) (zb 0)) (za (zh 2 wR (za (eC (.int 1)) (za (zd wm (zd wm (eFn vF (za (zb 2) ze)) (eC (.int 1))) (zb 0)) ze))) ze)))))))
def Xn:=fnD 3 Ye
def V1 (T:Txt P w K mg base ad):T.Pr 46 2 2 Xn:=by
 letI:KK:=⟨K⟩
 have G_doubled:=Zm T
 refine zdH (N:=(Rw 46).N) (ps:=(Rw 46).ps) (T.d 46).fn (sc 46) (g:=Ye) λb A outer s H E a=>?_
 unfold Ye
 exact(yG (W2 (m:=false) (i:=2) (sc 46).nd rfl (Or.inr rfl) (ze4 (XC (zb1 (zw (edv 1) yb))) (edv 0)))
  (wV (zap (XC (zao (L:=["at","other"]) (M:=["order","place","inner"]) rfl (YD (by rfl) (by rfl) (by rfl) (by with_unfolding_all rfl) (by rfl) (by rfl) (by kernel_rfl) (all_cons rfl (all_cons rfl xz))) (zhy rfl (T.z "enumerate" (by decide)) X0 (zw (edv 0) yb)) gs2 rb2 (λ_ _ _ _=>(zeV rfl (Yh (yA (i:=0) zlS rfl (Or.inl rfl) (.inr rfl)) (Yh (yA (i:=1) zlS rfl (Or.inl rfl) (.inr rfl)) zbq)))) (λ_ _ _ _=>(ZZ (zw (edv 1) (zw (Yj (edv 4) (edv 0) (λ_ _=>rfl)) (zw (wM G_doubled a rfl (T.d 5) (zw (xH xq) (zw (zeK (zeK (Yf YM zd1 rfl (T.z "len" (by decide)) zix (zw (edv 2) yb)) (xH xq)) (edv 0)) yb))) yb))))))))))
abbrev zdB :=zy (YH (zh 2 zR (za (zh 1 Yv (za (zb 0) ze)) (za (zb 1) ze))))
  (zy (yx false 2 (eIf (tOf (zd vC (zd wn (zb 0) (eC (.int 2))) (eC (.int 0)))) (yq (za (eC (.int 1)) (za (eC (.int 2)) ze))) (yq (za (eC (.int 1)) (za (eC (.int 3)) ze)))))
  (zO (yc (fLC (iOf (zh 2 ZC (za (zb 0) (za (zb 1) ze)))) b1 zN (yq (za (zb 3) (za (zh 2 Xn (za (eSl slD (zb 0) wW (x0 (zd xm (zd y3 (zb 1) (eC (.int 1))) (eC (.int 2))))) (za (zb 2) ze))) ze)))))))
def wS:=fnD 3 zdB
def zcl (T:Txt P w K mg base ad):T.Pr 47 8 2 wS:=by
 have:=yR T
 have:=XO T
 have:=Vm T
 have:=V1 T
 walk_at "p"
def zoq {j:Int}(a:0<=j)(b:j<=8):zqF (.int 1) (.int j)=some (.int (2^j.toNat)):=by
 have:j=0\/j=1\/j=2\/j=3\/j=4\/j=5\/j=6\/j=7\/j=8:=by omega
 rcases this with rfl | rfl | rfl | rfl | rfl | rfl | rfl | rfl | rfl <;> rfl
def Vi {a:zv}(h:a.length<64):YG [.lst (a.map zi)]=some ((Xb a).map zi):=by
 show(if (a.map zi).length<64 then _ else none)=_
 rw[u9 (by rw[u4];exact h),show VF (a.map zi)=some a from W6 a]
 rfl
def znw {n:Int}(a:0<=n)(b:n<=1000):xM (.lst [d]) (.int n)=some (.lst (List.replicate n.toNat d)):=by
 show(if -(2^63)<=n/\n<2^63/\lim (1*n.toNat)=true then _ else none)=_
 rw[u9 ⟨by omega,by omega,yN (by omega)⟩,u1T]
abbrev xO :=zy (yx false 9 (zd ixD (yc (fLC (iOf (zh 2 vZ (za (zb 0) (za (zb 4) ze)))) b1 (tOf (zd ltD (zd ixD (zb 3) (zb 0)) (zb 9))) (zb 0))) (eC (.int 0))))
  (Xe false 7 (yq (za (zb 4) (za (zb 9) (za (zd zqF (eC (.int 1)) (zd ixD (zb 5) (zb 4))) ze)))))
abbrev xW :=yx false 5 (yc (fLC (iOf (zb 3)) b1 zN (zd zfT (yc (fLC (iOf (zb 0)) b1 zN (zd y3 (zd ixD (zb 7) (zb 0)) (eC (.int 1))))) (eC (.int 0)))))
abbrev xP :=Xe false 3 (yc (fLC (iOf (zh 2 vZ (za (zb 0) (za (zb 4) ze)))) b1 (tOf (zd gtD (zd ixD (zb 3) (zb 0)) (zd ixD (zb 3) (zb 5)))) (zb 0)))
abbrev xy :=zy (yx false 2 (zh 2 ZI (za (zb 0) (za (zb 1) ze))))
  (zy (vH 3 (zS ze))
  (zy (xb xD (za (zd ixD (zb 0) (eC (.int 0))) ze) (z9 4) xP)
  (sFz 3 (zy (yx false 5 (zd xM (yc (zS (za (eC (.int 0)) ze))) (zd ixD (zb 0) (eC (.int 0)))))
  (zy (xb xD (za (zd ixD (zb 0) (eC (.int 0))) ze) (z9 6) xW)
  (zy (vH 7 (zS ze))
  (zy (Zd (iOf (eSl slD (yc (fFn YG (za (yc (fLC (vT xD (za (zd ixD (zb 0) (eC (.int 0))) ze)) b1 zN (yq (za (zd ixD (zb 3) (zb 0)) (za (zb 0) ze))))) ze))) (x0 (eC (.int 1))) wW)) (Wd 2 (xt (z9 8) (xt (z9 4) Wn))) xO)
  (sFz 7 (zO (zb 7))))))))))
def yr:=fnD 10 xy
def zcL {f:zv}{tl:zc}{L:zC}(T:zgY m f a p)(w:f.length<=28)(S:∀ x:Int,0<=x->x<m->EqA Fh m f a tl x)(W:(tl.length:Int)=m)(B:Brn m f a tl p L):yr [zm m f,.int p]=some (.lst ((L.map (wf m f a tl)).map yz)):=by
 have ok:=T.ok
 have V:=T.hp
 have a2:=ok.lo
 have a0:=ok.hi
 have P:L.length<=8:=by
  have:=B.pm.length_eq
  rw[k4,k8]at this
  omega
 have U:=znD ok w V
 rw[T.hks,WA]at U
 have E:∀ x:Nat,(x:Int)<m->L2.atI (a.map D.int) (x:Int)=some (.int (vAt a (x:Int))):=λx l=>zbG (ns:=a) ⟨by omega,l⟩ T.hkl
 refine YE (ρ:=[.v (zm m f),.v (.int p),.no,.no,.no,.no,.no,.no,.no,.no]) rfl ?_
 unfold xy
 refine zo (ρ':=[.v (zm m f),.v (.int p),.v (.lst (a.map .int)),.no,.no,.no,.no,.no,.no,.no]) (wh (ds:=[_,_]) rfl U) ?_
 refine zo (ρ':=[.v (zm m f),.v (.int p),.v (.lst (a.map .int)),.o (xC m f a 0),.no,.no,.no,.no,.no,.no]) rfl ?_
 refine yn (Ys (lo:=0) (c:=m.toNat) (λi ρ=>∃ j,ρ=[.v (zm m f),.v (.int p),.v (.lst (a.map .int)),.o (xC m f a i),j,.no,.no,.no,.no,.no]) (wN ok) ⟨_,rfl⟩ ?_ ?_)
 .rintro i ρ Z ⟨j,rfl⟩
  rw[u0r]
  have M:(i:Int)<m:=by omega
  refine⟨[.v (zm m f),.v (.int p),.v (.lst (a.map .int)),.o (xC m f a i),.v (.int (i:Int)),.no,.no,.no,.no,.no],rfl,?_⟩
  unfold xP
  refine w3 (Xj (m:=false) (i:=3) (d:=.lst ((yw m f a (i:Int)).map zM)) (ds:=xC m f a i) ?_ rfl (by unfold xC;rw[u4,k8];omega)) ⟨.v (.int (i:Int)),?_⟩
  .unfold vEv
   rw[t9 u6]
   refine xN ?_
   unfold fLC
   rw[WP (d:=.lst ((nbN m f (i:Int)).map zM)) (zL (ds:=[zm m f,.int (i:Int)]) rfl (zhq ok w)) rfl,j7,u9 (zfb (by rw[u4];exact zen ok))]
   unfold yw
   refine xg zM (λo:Nat=>decide (vAt a (i:Int)<vAt a (o:Int))) zM (nbN m f (i:Int)) λo q=>⟨[some (zM o)],rfl,?_,λ_=>rfl⟩
   have q:=Z5 q
   rw[xR]
   exact vR (zA (x:=.int (vAt a (o:Int))) (y:=.int (vAt a (i:Int))) (zA (x:=.lst (a.map .int)) (y:=.int (o:Int)) rfl rfl (E o q)) (zA (x:=.lst (a.map .int)) (y:=.int (i:Int)) rfl rfl (E i M)) rfl)
  .have e:xC m f a (i+1)=xC m f a i++[.lst ((yw m f a (i:Int)).map zM)]:=by
    unfold xC
    rw[u1b,o0]
    rfl
   rw[e]
   rfl
 rintro ρ ⟨j,rfl⟩
 refine zdW (ρ':=[.v (zm m f),.v (.int p),.v (.lst (a.map .int)),.v (.lst (xC m f a m.toNat)),j,.no,.no,.no,.no,.no]) rfl ?_
 refine zo (ρ':=[.v (zm m f),.v (.int p),.v (.lst (a.map .int)),.v (.lst (xC m f a m.toNat)),j,.v (.lst ((List.replicate m.toNat (0:Int)).map .int)),.no,.no,.no,.no]) (XB (zA (x:=.lst [.int 0]) (y:=.int m) rfl rfl ?_)) ?_
 .have e:xM (.lst [D.int 0]) (.int m)=some (.lst (List.replicate m.toNat (.int 0))):=znw (by omega) (by omega)
  rw[e,u06]
 refine yn (Ys (lo:=0) (c:=m.toNat) (λi ρ=>∃ (g:zc) (r:Sl),ρ=[.v (zm m f),.v (.int p),.v (.lst (a.map .int)),.v (.lst (xC m f a m.toNat)),j,.v (.lst (g.map .int)),r,.no,.no,.no]/\(g.length:Int)=m/\∀ x:Nat,(x:Int)<m->m-vAt a (x:Int)<=(i:Int)->vAt g (x:Int)=vAt tl (x:Int)) (wN ok) ⟨_,_,rfl,by rw[f8];omega,λx l h=>by have:=(T.hb (x:Int) (by omega) l).2;omega⟩ ?_ ?_)
 .rintro i ρ Z ⟨g,r,rfl,s,u⟩
  refine⟨[.v (zm m f),.v (.int p),.v (.lst (a.map .int)),.v (.lst (xC m f a m.toNat)),j,.v (.lst (g.map .int)),.v (.int (0+(i:Int))),.no,.no,.no],rfl,?_⟩
  unfold xW
  obtain⟨n,z⟩:∃ n:zc,(List.range m.toNat).map (λx:Nat=>Fh (x:Int) (X4 m f a g (x:Int)))=n:=⟨_,rfl⟩
  refine w3 (ρ':=[.v (zm m f),.v (.int p),.v (.lst (a.map .int)),.v (.lst (xC m f a m.toNat)),j,.v (.lst (n.map .int)),.v (.int (0+(i:Int))),.no,.no,.no]) (XB (xN ?_)) ⟨n,_,rfl,by rw[<-z,u4,k8];omega,λx l h=>?_⟩
  .unfold fLC
   rw[WP (d:=.lst (xC m f a m.toNat)) rfl rfl,j7,u9 (yN (by unfold xC;rw[u4,k8];omega)),<- z,r9]
   unfold xC
   refine xV (λx:Nat=>D.lst ((yw m f a (x:Int)).map zM)) _ (List.range m.toNat) λx l=>⟨[some (.lst ((yw m f a (x:Int)).map zM))],rfl,rfl,?_⟩
   refine zA (x:=.lst (((yw m f a (x:Int)).map λo:Nat=>vAt g (o:Int)+1).map .int)) (y:=.int 0) (xN ?_) rfl ?_
   .exact zo5 (k:=6) (d:=.lst (g.map .int)) (m:=m) (WP (d:=.lst ((yw m f a (x:Int)).map zM)) rfl rfl) rfl (λ_=>rfl) s (λo q=>yf q) (zbx ok)
   .rw[zaf]
    show _=some (D.int (Fh (x:Int) (X4 m f a g (x:Int))))
    unfold Fh X4
    rw[r9]
    rfl
  .have G:vAt n (x:Int)=Fh (x:Int) (X4 m f a g (x:Int)):=by
    rw[<-z]
    unfold vAt
    rw[j9,q0,show((x:Int)).toNat=x from rfl,u0y (by omega)]
    rfl
   have H:vAt tl (x:Int)=Fh (x:Int) (X4 m f a tl (x:Int)):=S (x:Int) (by omega) l
   have K:X4 m f a g (x:Int)=X4 m f a tl (x:Int):=by
    unfold X4
    refine o9 λo q=>?_
    have a1:=xB q
    exact u o (yf q) (by omega)
   rw[G,H,K]
 rintro ρ ⟨g,r,rfl,s,u⟩
 have A:∀ x:Nat,(x:Int)<m->L2.atI (g.map D.int) (x:Int)=some (.int (vAt tl (x:Int))):=λx l=>by
  rw[<-u x l (by have:=(T.hb (x:Int) (by omega) l).1;omega)]
  exact zbG (ns:=g) ⟨by omega,l⟩ s
 refine zo (ρ':=[.v (zm m f),.v (.int p),.v (.lst (a.map .int)),.v (.lst (xC m f a m.toNat)),j,.v (.lst (g.map .int)),r,.o (((L.take 0).map (wf m f a tl)).map yz),.no,.no]) rfl ?_
 have N:iOf (eSl slD (yc (fFn YG (za (yc (fLC (vT xD (za (zd ixD (zb 0) (eC (.int 0))) ze)) b1 zN (yq (za (zd ixD (zb 3) (zb 0)) (za (zb 0) ze))))) ze))) (x0 (eC (.int 1))) wW) (visF [.v (zm m f),.v (.int p),.v (.lst (a.map .int)),.v (.lst (xC m f a m.toNat)),j,.v (.lst (g.map .int)),r,.o (((L.take 0).map (wf m f a tl)).map yz),.no,.no])=some ((L.map λx:Nat=>((vAt a (x:Int),(x:Int)):Tie)).map zi):=by
  have G:fLC (vT xD (za (zd ixD (zb 0) (eC (.int 0))) ze)) b1 zN (yq (za (zd ixD (zb 3) (zb 0)) (za (zb 0) ze))) (visF [.v (zm m f),.v (.int p),.v (.lst (a.map .int)),.v (.lst (xC m f a m.toNat)),j,.v (.lst (g.map .int)),r,.o (((L.take 0).map (wf m f a tl)).map yz),.no,.no])=some (((List.range m.toNat).map λx:Nat=>((vAt a (x:Int),(x:Int)):Tie)).map zi):=by
   unfold fLC
   rw[show vT xD (za (zd ixD (zb 0) (eC (.int 0))) ze) (visF [.v (zm m f),.v (.int p),.v (.lst (a.map .int)),.v (.lst (xC m f a m.toNat)),j,.v (.lst (g.map .int)),r,.o (((L.take 0).map (wf m f a tl)).map yz),.no,.no])=some (X6 0 m.toNat)from wN ok,j7,u9 (yN (by rw[Yq];omega)),show((List.range m.toNat).map λx:Nat=>((vAt a (x:Int),(x:Int)):Tie)).map zi=(List.range m.toNat).map (zi∘λx:Nat=>((vAt a (x:Int),(x:Int)):Tie))from r9]
   show lcD b1 zN _ _ ((List.range m.toNat).map zM)=_
   refine xV (b:=b1) (t:=zN) zM (zi∘λx:Nat=>((vAt a (x:Int),(x:Int)):Tie)) (List.range m.toNat) λx l=>⟨[some (zM x)],rfl,rfl,?_⟩
   have l:=j6.mp l
   rw[xR]
   exact vJ (ds:=[.int (vAt a (x:Int)),.int (x:Int)]) (zr (zA (x:=.lst (a.map .int)) (y:=.int (x:Int)) rfl rfl (E x (by omega))) (zr rfl z0)) (by show 2<=1000;decide)
  have H:YG [.lst (((List.range m.toNat).map λx:Nat=>((vAt a (x:Int),(x:Int)):Tie)).map zi)]=some (((p.toNat::L).map λx:Nat=>((vAt a (x:Int),(x:Int)):Tie)).map zi):=by
   rw[Vi (by rw[u4,k8];omega)]
   congr 2
   symm
   refine XU (B.pm.map _) ?_
   rw[l7]
   refine B.srt.imp λ{x y} h=>?_
   unfold OwnSort.bltP
   refine j8 λO=>?_
   have O:vAt a (y:Int)<vAt a (x:Int)\/vAt a (y:Int)=vAt a (x:Int)/\(y:Int)<(x:Int):=O
   have h:vAt a (x:Int)<vAt a (y:Int)\/vAt a (x:Int)=vAt a (y:Int)/\x<y:=h
   omega
  have K:yc (fFn YG (za (yc (fLC (vT xD (za (zd ixD (zb 0) (eC (.int 0))) ze)) b1 zN (yq (za (zd ixD (zb 3) (zb 0)) (za (zb 0) ze))))) ze)) (visF [.v (zm m f),.v (.int p),.v (.lst (a.map .int)),.v (.lst (xC m f a m.toNat)),j,.v (.lst (g.map .int)),r,.o (((L.take 0).map (wf m f a tl)).map yz),.no,.no])=some (.lst (((p.toNat::L).map λx:Nat=>((vAt a (x:Int),(x:Int)):Tie)).map zi)):=xN (zlA (ds:=[_]) (zr (xN G) z0) H)
  have e4:zaQ (((p.toNat::L).map λx:Nat=>((vAt a (x:Int),(x:Int)):Tie)).map zi) (some 1) none=(L.map λx:Nat=>((vAt a (x:Int),(x:Int)):Tie)).map zi:=by
   have X:HT.sIx (((p.toNat::L).map λx:Nat=>((vAt a (x:Int),(x:Int)):Tie)).map zi).length 0 (some 1)=1:=by
    rw[show(1:Int)=((1:Nat):Int)from rfl,HT.sIx_nat,u4,u4,k4]
    exact u0Y (by omega)
   unfold zaQ
   rw[X,HT.sIx_none]
   show(((L.map λx:Nat=>((vAt a (x:Int),(x:Int)):Tie)).map zi).take _)=_
   rw[u1U]
   simp
  unfold iOf eSl
  rw[K]
  show some (zaQ (((p.toNat::L).map λx:Nat=>((vAt a (x:Int),(x:Int)):Tie)).map zi) (some 1) none)=_
  rw[e4]
 refine yn (ZN (ds:=(L.map λx:Nat=>((vAt a (x:Int),(x:Int)):Tie)).map zi) (λi ρ=>∃ j F C,ρ=[.v (zm m f),.v (.int p),.v (.lst (a.map .int)),.v (.lst (xC m f a m.toNat)),j,.v (.lst (g.map .int)),r,.o (((L.take i).map (wf m f a tl)).map yz),F,C]) N ⟨_,_,_,rfl⟩ ?_ ?_)
 .rintro i d ρ R ⟨j,F,C,rfl⟩
  rw[q0,q0]at R
  obtain⟨t,Y,rfl⟩:=u7.mp R
  obtain⟨x,l,rfl⟩:=u7.mp Y
  have J:=j4 l
  obtain⟨I,v⟩:=zcm T B J
  obtain⟨y,Q⟩:=zdh (x:=(x:Int)) ok T.tl V T.hks T.hkl ⟨by omega,v⟩ I
  have ey:zk5 m f a x=(y:Int):=by unfold zk5;rw[Q];rfl
  have h7:=zq4 T S (x:=(x:Int)) (by omega) v
  refine⟨[.v (zm m f),.v (.int p),.v (.lst (a.map .int)),.v (.lst (xC m f a m.toNat)),.v (.int (x:Int)),.v (.lst (g.map .int)),r,.o (((L.take i).map (wf m f a tl)).map yz),.v (.int (vAt a (x:Int))),C],rfl,?_⟩
  unfold xO
  refine zo (ρ':=[.v (zm m f),.v (.int p),.v (.lst (a.map .int)),.v (.lst (xC m f a m.toNat)),.v (.int (x:Int)),.v (.lst (g.map .int)),r,.o (((L.take i).map (wf m f a tl)).map yz),.v (.int (vAt a (x:Int))),.v (.int (y:Int))]) (XB (zA (x:=.lst ((inN m f a (x:Int)).map zM)) (y:=.int 0) (xN ?_) rfl ?_)) ?_
  .unfold fLC
   rw[WP (d:=.lst ((nbN m f (x:Int)).map zM)) (zL (ds:=[zm m f,.int (x:Int)]) rfl (zhq ok w)) rfl,j7,u9 (zfb (by rw[u4];exact zen ok))]
   unfold inN
   refine xg zM (λo:Nat=>decide (vAt a (o:Int)<vAt a (x:Int))) zM (nbN m f (x:Int)) λo q=>⟨[some (zM o)],rfl,?_,λ_=>rfl⟩
   have q:=Z5 q
   rw[xR]
   exact vR (zA (x:=.int (vAt a (o:Int))) (y:=.int (vAt a (x:Int))) (zA (x:=.lst (a.map .int)) (y:=.int (o:Int)) rfl rfl (E o q)) rfl rfl)
  .rw[Q]
   show L2.atI [zM y] 0=_
   rw[xR]
   exact XY (u0T _) rfl
  have es:=zoq h7.1 (by omega:vAt tl (x:Int)<=8)
  refine w3 (Xj (m:=false) (i:=7) (d:=yz (wf m f a tl x)) (ds:=((L.take i).map (wf m f a tl)).map yz) ?_ rfl (by rw[u4,u4,u0t];omega)) ⟨.v (.int (x:Int)),.v (.int (vAt a (x:Int))),.v (.int (y:Int)),?_⟩
  .unfold vEv
   rw[t9 u6]
   unfold yz wf
   rw[ey]
   exact vJ (ds:=[.int (x:Int),.int (y:Int),.int (P2 tl (x:Int))]) (zr rfl (zr rfl (zr (zA (x:=.int 1) (y:=.int (vAt tl (x:Int))) rfl (zA (x:=.lst (g.map .int)) (y:=.int (x:Int)) rfl rfl (A x v)) es) z0))) (by show 3<=1000;decide)
  .have e:((L.take (i+1)).map (wf m f a tl)).map yz=((L.take i).map (wf m f a tl)).map yz++[yz (wf m f a tl x)]:=by
    rw[u1f,l,o0,o0]
    rfl
   rw[e]
   rfl
 .rintro ρ ⟨j,F,C,rfl⟩
  rw[u4,u4,u0u]
  exact zdW (ρ':=[.v (zm m f),.v (.int p),.v (.lst (a.map .int)),.v (.lst (xC m f a m.toNat)),j,.v (.lst (g.map .int)),r,.v (.lst ((L.map (wf m f a tl)).map yz)),F,C]) rfl (wC rfl rfl)
def XJ (T:Txt P w K mg base ad):T.Pr 55 2 2 yr:=by
 letI:KK:=⟨K⟩
 have G__law_fars:=zbM T
 have G__law_near:=zb8 T
 refine zdH (N:=(Rw 55).N) (ps:=(Rw 55).ps) (T.d 55).fn (sc 55) (g:=xy) λd A outer s H E c=>?_
 unfold xy xP xW xO
 exact(yG (W2 (m:=false) (i:=2) (sc 55).nd rfl (Or.inr rfl) (wM G__law_fars c rfl (T.d 52) (zw (edv 0) (zw (edv 1) yb))))
  (yG (zg0 (i:=3) (sc 55).nd rfl (Or.inl rfl) (zb1 yb))
  (yG (zaS u2F rfl rfl (T.z "range" (by decide)) (zw (Yj (edv 0) (xH xq) (λ_ _=>rfl)) yb) (Vs (yA (i:=4) (sc 55).nd rfl (Or.inr rfl))) (wV (ziR (m:=false) (pv 3) (XC (zec (L:=["other"]) (M:=["web","root","far_ones","outer","place","tall","turn","found","far_here","inner"]) rfl (YD (by rfl) (by rfl) (by rfl) (by with_unfolding_all rfl) (by rfl) (by rfl) (by kernel_rfl) (all_cons rfl (all_cons rfl xz))) (X5 (wM G__law_near c rfl (T.d 53) (zw (edv 0) (zw (edv 4) yb)))) gs1 rb1 (λ_ _ _ _=>(yA (i:=0) zlX rfl (Or.inl rfl) (.inr rfl))) (λ_ _ _ _=>(Yx zoI Ym (zb9 _) (Yj (edv 3) (edv 0) (λ_ _=>rfl)) (Yj (edv 3) (edv 5) (λ_ _=>rfl)))) (λ_ _ _ _=>(edv 0)))) (λa b=>zdv i8 u1B u1C VB a b))))
  (zeN 3 (yG (W2 (m:=false) (i:=5) (sc 55).nd rfl (Or.inr rfl) (zlJ (XC (zb1 (zw (xH xq) yb))) (Yj (edv 0) (xH xq) (λ_ _=>rfl))))
  (yG (zaS u2F rfl rfl (T.z "range" (by decide)) (zw (Yj (edv 0) (xH xq) (λ_ _=>rfl)) yb) (Vs (yA (i:=6) (sc 55).nd rfl (Or.inl rfl))) (wV (W2 (m:=false) (i:=5) (sc 55).nd rfl (Or.inr rfl) (XC (zao (L:=["row"]) (M:=["web","root","far_ones","outer","place","tall","turn","found","far_here","inner"]) rfl (YD (by rfl) (by rfl) (by rfl) (by with_unfolding_all rfl) (by rfl) (by rfl) (by kernel_rfl) (all_cons rfl xz)) (X5 (edv 3)) gs1 rb1 (λ_ _ _ _=>(yA (i:=0) zoZ rfl (Or.inl rfl) (.inr rfl))) (λ_ _ _ _=>(zh9 rfl rfl (T.z "max" (by decide)) (XC (zao (L:=["other"]) (M:=["row","web","root","far_ones","outer","place","tall","turn","found","far_here","inner"]) rfl (YD (by rfl) (by rfl) (by rfl) (by with_unfolding_all rfl) (by rfl) (by rfl) (by kernel_rfl) (all_cons rfl xz)) (X5 (edv 0)) gs1 rb1 (λ_ _ _ _=>(yA (i:=0) zo9 rfl (Or.inl rfl) (.inr rfl))) (λ_ _ _ _=>(ze4 (Yj (edv 7) (edv 0) (λ_ _=>rfl)) (xH xq))))) (xH xq))))))))
  (yG (zg0 (i:=7) (sc 55).nd rfl (Or.inl rfl) (zb1 yb))
  (yG (zlG u2F rfl (X5 (zeY (XC (W4 rfl rfl (T.z "sorted" (by decide)) (zw (XC (zao (L:=["place"]) (M:=["web","root","far_ones","outer","·place","tall","turn","found","far_here","inner"]) rfl (YD (by rfl) (by rfl) (by rfl) (by with_unfolding_all rfl) (by rfl) (by rfl) (by kernel_rfl) (all_cons rfl xz)) (zcG rfl (T.z "range" (by decide)) (zw (Yj (edv 0) (xH xq) (λ_ _=>rfl)) yb)) gs1 rb1 (λ_ _ _ _=>(yA (i:=0) zoz rfl (Or.inl rfl) (.inr rfl))) (λ_ _ _ _=>(ZZ (zw (Yj (edv 3) (edv 0) (λ_ _=>rfl)) (zw (edv 0) yb)))))) yb))) (zi8 (xH xq)) zhY)) (zlB rfl (zbp (Vs (yA (i:=8) (sc 55).nd rfl (Or.inr rfl))) (zbp (Vs (yA (i:=4) (sc 55).nd rfl (Or.inr rfl))) zhP))) (yG (W2 (m:=false) (i:=9) (sc 55).nd rfl (Or.inl rfl) (Yj (XC (zec (L:=["other"]) (M:=["web","root","far_ones","outer","place","tall","turn","found","far_here","inner"]) rfl (YD (by rfl) (by rfl) (by rfl) (by with_unfolding_all rfl) (by rfl) (by rfl) (by kernel_rfl) (all_cons rfl (all_cons rfl xz))) (X5 (wM G__law_near c rfl (T.d 53) (zw (edv 0) (zw (edv 4) yb)))) gs1 rb1 (λ_ _ _ _=>(yA (i:=0) zlX rfl (Or.inl rfl) (.inr rfl))) (λ_ _ _ _=>(Yx zow Ym (zb9 _) (Yj (edv 3) (edv 0) (λ_ _=>rfl)) (edv 9))) (λ_ _ _ _=>(edv 0)))) (xH xq) (λ_ _=>rfl)))
  (wV (ziR (m:=false) (pv 7) (ZZ (zw (edv 4) (zw (edv 9) (zw (zlt (xH xq) (Yj (edv 5) (edv 4) (λ_ _=>rfl))) yb)))) (λa b=>zdv i8 u1B u1C VB a b)))))
  (zeN 7 (wV (zap (edv 7))))))))))))
abbrev Xg :=Xe false 4 (yq (za (zd wn (zd y3 (zb 1) (zd xM (zb 2) (zd y3 (zb 5) (eC (.int 1))))) (zb 0)) (za (zd wn (zd y3 (zb 1) (zd xM (zb 2) (zb 5))) (zb 0)) (za (zd zqF (eC (.int 1)) (zd wm (zd wm (zb 3) (eC (.int 1))) (zb 5))) ze))))
abbrev Wm :=zy (yx false 3 (zd y3 (zd xm (zb 0) (eC (.int 2))) (zd wn (zb 0) (eC (.int 2)))))
  (zy (vH 4 (zS ze))
  (zy (xb xD (za (zb 3) ze) (z9 5) Xg)
  (sFz 4 (zO (zb 4)))))
def zD:=fnD 6 Wm
def XF (T:Txt P w K mg base ad):T.Pr 56 1 3 zD:=by
 walk_at "p"
def zbr:bootBuiltins "ValueError"=some (.type "ValueError"):=by decide +kernel
def zjO {n:Nat}(h:n<=13):n<=sizeLine:=by rw[u1d];omega
def V4 (T:Txt P w K mg base ad):zh5 P w K mg base 1 (ad.f 54) (ad.e 54) (Rw 54).ps (ziE (clT ad) (λj=>j<13/\zez K (zpv ad) ad.x_StoneError (clT ad j) j)):=by
 letI:KK:=⟨K⟩
 have z:=T.z "isinstance" (by decide)
 refine zmz (N:=(Rw 54).N) (ps:=(Rw 54).ps) (T.d 54).fn (sc 54) (λf H Q E h=>by obtain⟨a,j,g,rfl,_⟩:=h;rfl) λd A outer s H f Q E r u c=>?_
 obtain⟨a,j,g,rfl,e,⟨k,b⟩,q⟩:=c
 refine⟨_,(wH (XV (i:=1) (sc 54).nd rfl (Or.inl rfl) (zbF (zu (yy yY rfl z zB (zu (pv 0) (zu (xA (v:=.ref ad.x_NoKind) rfl T.g_NoKind rfl) yJ))) (zu (yy yY rfl z zB (zu (pv 0) (zu (xA (v:=.ref ad.x_NoHeap) rfl T.g_NoHeap rfl) yJ))) (zu (yy yY rfl z zB (zu (pv 0) (zu (xA (v:=.ref ad.x_NoPlace) rfl T.g_NoPlace rfl) yJ))) (zu (yy yY rfl z zB (zu (pv 0) (zu (xA (v:=.ref ad.x_NoNumber) rfl T.g_NoNumber rfl) yJ))) yJ))))))
  (wH (XV (i:=1) (sc 54).nd rfl (Or.inl rfl) (zil zeD (pv 1) (zbF (zu (yy yY rfl z zB (zu (pv 0) (zu (xA (v:=.ref ad.x_NoTally) rfl T.g_NoTally rfl) yJ))) (zu (yy yY rfl z zB (zu (pv 0) (zu (xA (v:=.ref ad.x_NotTree) rfl T.g_NotTree rfl) yJ))) (zu (yy yY rfl z zB (zu (pv 0) (zu (xA (v:=.ref ad.x_NotJoined) rfl T.g_NotJoined rfl) yJ))) (zu (yy yY rfl z zB (zu (pv 0) (zu (xA (v:=.ref ad.x_NoWeights) rfl T.g_NoWeights rfl) yJ))) yJ)))))))
  (wH (XV (i:=1) (sc 54).nd rfl (Or.inl rfl) (zil zeD (pv 1) (zbF (zu (yy yY rfl z zB (zu (pv 0) (zu (xA (v:=.ref ad.x_NoRow) rfl T.g_NoRow rfl) yJ))) (zu (yy yY rfl z zB (zu (pv 0) (zu (xA (v:=.ref ad.x_NoWeb) rfl T.g_NoWeb rfl) yJ))) (zu (yy yY rfl z zB (zu (pv 0) (zu (xA (v:=.ref ad.x_NoSteps) rfl T.g_NoSteps rfl) yJ))) (zu (yy yY rfl z zB (zu (pv 0) (zu (xA (v:=.ref ad.x_NoText) rfl T.g_NoText rfl) yJ))) yJ)))))))
  (wH (XV (i:=1) (sc 54).nd rfl (Or.inl rfl) (zil zeD (pv 1) (zbF (zu (yy yY rfl z zB (zu (pv 0) (zu (xA (v:=.ref ad.x_TooGreat) rfl T.g_TooGreat rfl) yJ))) yJ))))
  (wH (zna (PW.pt (zol (zl1 (zlT (yy yY rfl z zB (zu (pv 0) (zu (XN (v:=.ty "ValueError") rfl (T.z "ValueError" (by decide)) zbr rfl) yJ))))) (zlW (zim zm6 (zdv i8 PySem.F.slot_list_count PySem.F.type_list_count zg5 (pv 1) (zu zml yJ)) xq (zb9 _))))) (XR (zcn (zqb zl8 xq))) zgs) (XR (zcn (zdv i8 PySem.F.slot_list_index PySem.F.type_list_index zgJ (pv 1) (zu zml yJ))))))))),?_⟩
 refine zhd (cs:=[ad.x_NoKind,ad.x_NoHeap,ad.x_NoPlace,ad.x_NoNumber]) (bs:=[0 == j,1 == j,2 == j,3 == j]) b.look (u0q (λl=>(l.drop 0).take 4) b.hot) (zjO (n:=4) (by decide)) rfl rfl e λp H1 S1=>?_
 refine zby (cs:=[ad.x_NoTally,ad.x_NotTree,ad.x_NotJoined,ad.x_NoWeights]) (bs:=[4 == j,5 == j,6 == j,7 == j]) b.look (u0q (λl=>(l.drop 4).take 4) b.hot) (by exact zjO (n:=8) (by decide)) S1 λt H2 S2=>?_
 refine zby (cs:=[ad.x_NoRow,ad.x_NoWeb,ad.x_NoSteps,ad.x_NoText]) (bs:=[8 == j,9 == j,10 == j,11 == j]) b.look (u0q (λl=>(l.drop 8).take 4) b.hot) (by exact zjO (n:=12) (by decide)) S2 λm H3 S3=>?_
 refine zby (cs:=[ad.x_TooGreat]) (bs:=[12 == j]) b.look (u0q (λl=>(l.drop 12).take 1) b.hot) (by exact zjO (n:=13) (by decide)) S3 λo H4 S4=>?_
 exact zmB b.val b.look k S4 (q _ S4.same)
abbrev Yo :=zy (zot (xEx (zjg 2 vm (za (zb 0) (za (eC (.int 0)) ze)))) (YH (zh 2 v5 (za (zb 0) (za (eC (.int 0)) ze)))) (znV [2,5] (fK [2,5])))
  (zO (eC .non))
def wb:=fnD 2 Yo
def ziT (h:vm [d,.int 0]=some 5):wb [d]=some (.int 5):=by
 refine YE (ρ:=[.v d,.no]) rfl ?_
 unfold Yo
 exact yn (wC (d:=.int 5) (zj0 (j:=5) h rfl) rfl)
def zcW (T:Txt P w K mg base ad):T.Pr 57 13 1 wb:=by
 letI:KK:=⟨K⟩
 have G_tree_show:=Wk T
 have X_tree_show:=zbn T
 have H_kinds:=V4 T
 have a:∀ j,j∈[2,5]->j<13/\zez K (zpv ad) ad.x_StoneError (clT ad j) j:=by
  intro j k
  simp only[t6,r8,u0D]at k
  rcases k with rfl | rfl
  .exact⟨by decide,.of T.y_NoPlace⟩
  .exact⟨by decide,.of T.y_NotTree⟩
 have b:∀ (h:Nat->Option D) j d,znV [2,5] h j=some d->PySem.W.exmOne K (.ref (clT ad j)) (.ref ad.x_StoneError)=some true:=λh j d e=>by rw[hclT ad j];exact(a _ (zmI e)).2.exm
 refine zdH (N:=(Rw 57).N) (ps:=(Rw 57).ps) (T.d 57).fn (sc 57) (g:=Yo) λl A outer s H E c=>?_
 unfold Yo
 exact(yG (zo3 (i:=1) rfl rfl rfl (sc 57).nd rfl rfl rfl T.g_StoneError (λf W E0 m=>(XT (zgU (zgG (X_tree_show.mono (by decide)) m c rfl (T.d 45).at_ (T.d 45).kp (T.d 45).bd (zw (edv 0) (zw (xH xq) yb)))))) (λf W=>(wV (zg6 (wM G_tree_show c rfl (T.d 45) (zw (edv 0) (zw (xH xq) yb)))))) (b _) (λok n=>(XR (zcn (zkr (E:=λ_ _ _=>False) H_kinds (c.mono (by decide)) rfl (T.d 54).at_ (T.d 54).kp (T.d 54).bd ok (zu (pv 1) yJ))))) (zpj (zoY (zjs (ok:=_) (hclT ad) a))))
  (wV (zap (zl7 zlH))))
abbrev zdP :=zy (vH 6 (zer 2 wY (za (zb 2) (za (zb 3) ze))))
  (zy (sIf (zZ (tOf (zh 2 zW (za (zb 6) (za (zb 4) ze))))) (zO (eC (.bl false))) zF)
  (Xe false 6 (eC .non)))
abbrev zaU :=zy (yx false 2 (zh 2 vA (za (zb 1) (za (eC (.int 8)) ze))))
  (zy (yx false 3 (zd wn (zh 2 yD (za (zb 1) (za (eC (.int 1)) ze))) (zd ixD (zb 2) (eC (.int 0)))))
  (zy (yx false 4 (yc (fSl slL (yc (zS (za (yq (za (yq (za (eC (.int 1)) (za (eC (.int 1)) ze))) (za (zh 2 yr (za (zb 2) (za (zb 3) ze))) ze))) ze))) wW (x0 (zd wm (zd ixD (zb 2) (eC (.int 0))) (eC (.int 1)))))))
  (zy (xb xD (za (eC (.int 2)) ze) (z9 5) zdP)
  (zy (sIf (zZ (tOf (zh 2 zW (za (zh 3 yM (za (zb 2) (za (zb 3) (za (zb 4) ze)))) (za (zd wm (zh 3 ZP (za (zb 2) (za (zb 3) (za (eC (.int 1)) ze)))) (eC (.int 1))) ze))))) (zO (eC (.bl false))) zF)
  (zy (yx false 7 (zd y3 (eC (.int 3)) (zd wn (zh 2 yD (za (zb 1) (za (eC (.int 2)) ze))) (eC (.int 6)))))
  (zy (yx false 8 (zd wn (zh 2 yD (za (zb 1) (za (eC (.int 3)) ze))) (zb 7)))
  (zy (yx false 9 (yq (za (eC (.int 1)) (za (zd y3 (eC (.int 2)) (zd wn (zb 7) (eC (.int 2)))) ze))))
  (zy (yx false 4 (yc (zS (za (yq (za (zb 9) (za (zh 3 zD (za (zb 7) (za (zb 8) (za (eC (.int 1)) ze)))) ze))) (za (yq (za (zb 9) (za (zh 3 zD (za (zb 7) (za (zb 8) (za (eUn Wg (eC (.int 1))) ze)))) ze))) ze)))))
  (zy (sIf (zZ (tOf (zh 2 zW (za (zh 2 wS (za (zb 7) (za (zb 8) ze))) (za (zb 4) ze))))) (zO (eC (.bl false))) zF)
  (zy (yx false 10 (yq (za (zb 7) (za (eFn yo (za (yc (fFn YG (za (zd y3 (yc (fLC (vT xD (za (zd wm (zb 7) (eC (.int 1))) ze)) b1 zN (yq (za (zb 0) (za (zd y3 (zb 0) (eC (.int 1))) ze))))) (yc (zS (za (yq (za (eC (.int 0)) (za (zd wm (zb 7) (eC (.int 1))) ze))) ze)))) ze))) ze)) ze))))
  (zy (sIf (zZ (tOf (zh 2 zW (za (zh 3 yM (za (zb 10) (za (zb 8) (za (zb 4) ze)))) (za (zd wm (zh 1 wU (za (zb 7) ze)) (eC (.int 1))) ze))))) (zO (eC (.bl false))) zF)
  (sIf (vI (tOf (zd neD (zh 1 wb (za (zb 10) ze)) (eC (.int 5)))) (wd (tOf (zd ltD (zd ixD (zb 2) (eC (.int 0))) (eC (.int 8)))) (tOf (zd neD (zh 1 wb (za (yq (za (zd y3 (zd ixD (zb 2) (eC (.int 0))) (eC (.int 1))) (za (zd ixD (zb 2) (eC (.int 1))) ze))) ze)) (eC (.int 5)))))) (zO (eC (.bl false))) zF))))))))))))
abbrev zla :=zy (Zd (iOf (zd y3 (yc (zS (za (zh 2 xv (za (zb 0) (za (eC (.int 0)) ze))) ze))) (eSl slD (zb 0) (x0 (eC (.int 1))) (x0 (eC (.int 8)))))) (z9 1) zaU)
  (zO (zd vC (zh 2 v5 (za (yq (za (eC (.int 1)) (za (yq ze) ze))) (za (eC (.int 0)) ze))) (yc (zS ze))))
def zp6:=fnD 11 zla
def zqI:Option D->Bool
 | some (.bl true)=>true
 | _=>false
def zgf (h:zqI o=true):o=some (.bl true):=by
 unfold zqI at h
 split at h
 .rfl
 .cases h
def wl (n:Nat):zv:=(0,1)::(0,(n:Int)-1)::(List.range (n-2)).map λk:Nat=>(((k:Int)+1,(k:Int)+2):Tie)
def zfP (n:Nat):zv:=((List.range (n-1)).map λk:Nat=>(((k:Int),(k:Int)+1):Tie))++[((0:Int),(n:Int)-1)]
def zns:∀ n:Nat,n∈[3,4,5,6,7,8]->Xb (zfP n)=wl n:=by
 intro n a
 simp only[t6,r8,u0D]at a
 rcases a with rfl | rfl | rfl | rfl | rfl | rfl <;> exact(XU (List.isPerm_iff.mp (by decide +kernel)) (by decide +kernel)).symm
def shD (n:Int):D:=.tup [.int 1,.int (2+n%2)]
def zqV (n p:Int):Option D:=(zD [.int n,.int p,.int 1]).bind λa=>(zD [.int n,.int p,.int (-1)]).map λb=>.lst [.tup [shD n,a],.tup [shD n,b]]
def zgX:List (Nat × Nat):=[3,4,5,6,7,8].flatMap λn=>(List.range n).map λp=>(n,p)
def zfa {n p:Int}(c:3<=n)(a:n<=8)(b:0<=p/\p<n):(n.toNat,p.toNat)∈zgX:=by
 unfold zgX
 refine u0f.mpr ⟨n.toNat,?_,p0.mpr ⟨p.toNat,j6.mpr (by omega),rfl⟩⟩
 have:n.toNat=3\/n.toNat=4\/n.toNat=5\/n.toNat=6\/n.toNat=7\/n.toNat=8:=by omega
 simp only[t6,r8,u0D]
 exact this
def zqA (n p:Int)(t:zv):Bool:=match zqV n p with
 | some d=>zqI ((wS [.int n,.int p]).bind λa=>zW [a,d])&&zqI ((yM [zm n t,.int p,d]).bind λa=>(wU [.int n]).bind λb=>(wm b (.int 1)).bind λc=>zW [a,c])
 | none=>false
def chkR (q:Nat × Nat):Bool:=zqA (q.1:Int) (q.2:Int) (wl q.1)
def zkI:zgX.all chkR=true:=by kernel_rfl
structure zpW (n p:Int) (t:zv) (b1 b2 a1 a2 a3 a4:D):Prop where
 h1:zD [.int n,.int p,.int 1]=some b1
 h2:zD [.int n,.int p,.int (-1)]=some b2
 h3:wS [.int n,.int p]=some a1
 h4:zW [a1,.lst [.tup [shD n,b1],.tup [shD n,b2]]]=some (.bl true)
 h5:yM [zm n t,.int p,.lst [.tup [shD n,b1],.tup [shD n,b2]]]=some a2
 h6:wU [.int n]=some a3
 h7:wm a3 (.int 1)=some a4
 h8:zW [a2,a4]=some (.bl true)
def zkb {t:zv}(h:zqA n p t=true):∃ b1 b2 f l d c,zpW n p t b1 b2 f l d c:=by
 unfold zqA at h
 cases e:zqV n p with
 | none =>
  rw[e]at h
  cases h
 | some q =>
  rw[e]at h
  unfold zqV at e
  obtain⟨b1,g,e⟩:=u0.mp e
  obtain⟨b2,b,e⟩:=u7.mp e
  rw[<-e]at h
  obtain⟨u,r⟩:=(r4 _ _).mp h
  obtain⟨f,a,v⟩:=u0.mp (zgf u)
  obtain⟨l,k,m⟩:=u0.mp (zgf r)
  obtain⟨d,i,s⟩:=u0.mp m
  obtain⟨c,j,o⟩:=u0.mp s
  exact⟨b1,b2,f,l,d,c,g,b,a,v,k,i,j,o⟩
def zfl {n p:Int}(a:3<=n)(b:n<=8)(e:0<=p/\p<n):∃ b1 b2 f g d c,zpW n p (wl n.toNat) b1 b2 f g d c:=by
 have h:zqA ((n.toNat:Nat):Int) ((p.toNat:Nat):Int) (wl n.toNat)=true:=f9.mp zkI _ (zfa a b e)
 rw[show((n.toNat:Nat):Int)=n by omega,show((p.toNat:Nat):Int)=p by omega]at h
 exact zkb h
def zn8:∀ n:Nat,n∈[3,4,5,6,7,8]->w6 (zm (n:Int) (wl n))=true/\(wl n).length=n:=by
 intro n a
 simp only[t6,r8,u0D]at a
 rcases a with rfl | rfl | rfl | rfl | rfl | rfl <;> exact⟨by kernel_rfl,by kernel_rfl⟩
def k38 {k:Int}(h:3<=k/\k<=8):k.toNat∈[3,4,5,6,7,8]:=by
 have:k.toNat=3\/k.toNat=4\/k.toNat=5\/k.toNat=6\/k.toNat=7\/k.toNat=8:=by omega
 simp only[t6,r8,u0D]
 exact this
def zfI {k:Int}(c:zb 7 ρ=some (.int k))(h:3<=k/\k<=8):yq (za (zb 7) (za (eFn yo (za (yc (fFn YG (za (zd y3 (yc (fLC (vT xD (za (zd wm (zb 7) (eC (.int 1))) ze)) b1 zN (yq (za (zb 0) (za (zd y3 (zb 0) (eC (.int 1))) ze))))) (yc (zS (za (yq (za (eC (.int 0)) (za (zd wm (zb 7) (eC (.int 1))) ze))) ze)))) ze))) ze)) ze)) ρ=some (zm k (wl k.toNat)):=by
 have g:((k.toNat:Nat):Int)=k:=by omega
 have l:vT xD (za (zd wm (zb 7) (eC (.int 1))) ze) ρ=some ((List.range (k.toNat-1)).map zM):=by
  obtain⟨j,m⟩:∃ j:Int,k-1=j:=⟨_,rfl⟩
  have a:za (zd wm (zb 7) (eC (.int 1))) ze ρ=some [.int j]:=zr (zA (x:=.int k) (y:=.int 1) c rfl (by rw[<-m];rfl)) z0
  have:=vQ (j:=j) (by omega) (by omega)
  rw[show j.toNat=k.toNat-1 by omega]at this
  unfold vT
  rw[a,j7]
  exact this
 have d:yc (fLC (vT xD (za (zd wm (zb 7) (eC (.int 1))) ze)) b1 zN (yq (za (zb 0) (za (zd y3 (zb 0) (eC (.int 1))) ze)))) ρ=some (.lst ((List.range (k.toNat-1)).map λi:Nat=>zi ((i:Int),(i:Int)+1))):=by
  refine xN ?_
  unfold fLC
  rw[l,j7,u9 (yN (by rw[u4,k8];omega))]
  refine xV (b:=b1) (t:=zN) zM (λi:Nat=>zi ((i:Int),(i:Int)+1)) (List.range (k.toNat-1)) λi n=>⟨[some (zM i)],rfl,rfl,?_⟩
  rw[xR]
  rfl
 have f:YG [.lst ((zfP k.toNat).map zi)]=some ((wl k.toNat).map zi):=by
  rw[Vi (by unfold zfP;rw[j5,u4,k8];show _+1<64;omega),zns k.toNat (k38 h)]
 have e:yc (zS (za (yq (za (eC (.int 0)) (za (zd wm (zb 7) (eC (.int 1))) ze))) ze)) ρ=some (.lst [zi (0,k-1)]):=xN (zdN (ds:=[zi (0,k-1)]) (zr (vJ (ds:=[.int 0,.int (k-1)]) (zr rfl (zr (zA (x:=.int k) (y:=.int 1) c rfl rfl) z0)) (by show 2<=1000;decide)) z0) (by show 1<=1000;decide))
 have a:zd y3 (yc (fLC (vT xD (za (zd wm (zb 7) (eC (.int 1))) ze)) b1 zN (yq (za (zb 0) (za (zd y3 (zb 0) (eC (.int 1))) ze))))) (yc (zS (za (yq (za (eC (.int 0)) (za (zd wm (zb 7) (eC (.int 1))) ze))) ze))) ρ=some (.lst ((zfP k.toNat).map zi)):=by
  refine zA d e ?_
  rw[ze0 (by rw[u4,k8];show _+1<=1000;omega)]
  unfold zfP
  rw[o0,r9,g]
  rfl
 exact vJ (ds:=[.int k,.tup ((wl k.toNat).map zi)]) (zr c (zr (VU (ds:=[.lst ((wl k.toNat).map zi)]) (zr (xN (zlA (ds:=[.lst ((zfP k.toNat).map zi)]) (zr a z0) f)) z0) rfl) z0)) (by show 2<=1000;decide)
def zcE:∀ {a b:zv},a.map zi=b.map zi->a=b:=by
 intro a
 induction a with
 | nil=>intro b h;cases b with | nil=>rfl | cons _ _=>cases h
 | cons x a d =>
  intro b h
  cases b with
  | nil=>cases h
  | cons y b =>
   obtain⟨e,c⟩:=u0e h
   rw[zcg e,d c]
def zfY {k:Int}(h:3<=k/\k<=8):zG k (wl k.toNat)/\(wl k.toNat).length=k.toNat:=by
 have a:=zn8 k.toNat (k38 h)
 rw[show((k.toNat:Nat):Int)=k by omega]at a
 refine⟨?_,a.2⟩
 generalize wl k.toNat=us at a ⊢
 obtain⟨f,d,b,c⟩:=(xj _).mp a.1
 unfold zm at b
 injection b with b
 injection b with eW1 eW2
 injection eW1 with eW1
 injection eW2 with eW2 _
 injection eW2 with eW2
 have e:=zcE eW2
 subst eW1 e
 exact c
def zhL (a:D)(z m:Int)(e:zv)(p:Int)(X:zk)(g f H B w d:Sl)(n b:vc)(r:D->Prop)(I:vc)(hI:∀ o2 o3 o4 g f H B w d,I [.v a,.v (.int z),o2,o3,o4,g,f,H,B,w,d])(ok:zG m e)(T:(e.length:Int)=m-1) :
 ((zy (yx false 7 (zd y3 (eC (.int 3)) (zd wn (zh 2 yD (za (zb 1) (za (eC (.int 2)) ze))) (eC (.int 6)))))
 (zy (yx false 8 (zd wn (zh 2 yD (za (zb 1) (za (eC (.int 3)) ze))) (zb 7)))
 (zy (yx false 9 (yq (za (eC (.int 1)) (za (zd y3 (eC (.int 2)) (zd wn (zb 7) (eC (.int 2)))) ze))))
 (zy (yx false 4 (yc (zS (za (yq (za (zb 9) (za (zh 3 zD (za (zb 7) (za (zb 8) (za (eC (.int 1)) ze)))) ze))) (za (yq (za (zb 9) (za (zh 3 zD (za (zb 7) (za (zb 8) (za (eUn Wg (eC (.int 1))) ze)))) ze))) ze)))))
 (zy (sIf (zZ (tOf (zh 2 zW (za (zh 2 wS (za (zb 7) (za (zb 8) ze))) (za (zb 4) ze))))) (zO (eC (.bl false))) zF)
 (zy (yx false 10 (yq (za (zb 7) (za (eFn yo (za (yc (fFn YG (za (zd y3 (yc (fLC (vT xD (za (zd wm (zb 7) (eC (.int 1))) ze)) b1 zN (yq (za (zb 0) (za (zd y3 (zb 0) (eC (.int 1))) ze))))) (yc (zS (za (yq (za (eC (.int 0)) (za (zd wm (zb 7) (eC (.int 1))) ze))) ze)))) ze))) ze)) ze))))
 (zy (sIf (zZ (tOf (zh 2 zW (za (zh 3 yM (za (zb 10) (za (zb 8) (za (zb 4) ze)))) (za (zd wm (zh 1 wU (za (zb 7) ze)) (eC (.int 1))) ze))))) (zO (eC (.bl false))) zF)
 (sIf (vI (tOf (zd neD (zh 1 wb (za (zb 10) ze)) (eC (.int 5)))) (wd (tOf (zd ltD (zd ixD (zb 2) (eC (.int 0))) (eC (.int 8)))) (tOf (zd neD (zh 1 wb (za (yq (za (zd y3 (zd ixD (zb 2) (eC (.int 0))) (eC (.int 1))) (za (zd ixD (zb 2) (eC (.int 1))) ze))) ze)) (eC (.int 5)))))) (zO (eC (.bl false))) zF)))))))) [.v a,.v (.int z),.v (zm m e),.v (.int p),.v (.lst X),g,f,H,B,w,d]).w I b n r:=by
 have a5:=ok.lo
 have a0:=ok.hi
 obtain⟨u,R⟩:∃ u:Int,zdf z 2%6=u:=⟨_,rfl⟩
 have S:=vu (by decide) R
 obtain⟨k,V⟩:∃ k:Int,3+u=k:=⟨_,rfl⟩
 have o:0<k:=by omega
 obtain⟨v,P⟩:∃ v:Int,zdf z 3%k=v:=⟨_,rfl⟩
 have G:=vu o P
 obtain⟨j,l,Z,a2,Y,a4,K,F,E,Q,A,O,L,r5⟩:=zfl (n:=k) (p:=v) (by omega) (by omega) G
 have q:=zfY (k:=k) ⟨by omega,by omega⟩
 have J:=q.1
 refine zo (ρ':=[.v a,.v (.int z),.v (zm m e),.v (.int p),.v (.lst X),g,f,.v (.int k),B,w,d]) (XB (zA (x:=.int 3) (y:=.int u) rfl (zA (x:=.int (zdf z 2)) (y:=.int 6) rfl rfl (by rw[wc (by decide),R])) (by rw[ym,V]))) ?_
 refine zo (ρ':=[.v a,.v (.int z),.v (zm m e),.v (.int p),.v (.lst X),g,f,.v (.int k),.v (.int v),w,d]) (XB (zA (x:=.int (zdf z 3)) (y:=.int k) rfl rfl (by rw[wc o,P]))) ?_
 refine zo (ρ':=[.v a,.v (.int z),.v (zm m e),.v (.int p),.v (.lst X),g,f,.v (.int k),.v (.int v),.v (shD k),d]) (XB (vJ (ds:=[.int 1,.int (2+k%2)]) (zr rfl (zr (zA (x:=.int 2) (y:=.int (k%2)) rfl (zA (x:=.int k) (y:=.int 2) rfl rfl (wc (by decide))) rfl) z0)) (by show 2<=1000;decide))) ?_
 obtain⟨i,s⟩:∃ i,D.lst [.tup [shD k,j],.tup [shD k,l]]=i:=⟨_,rfl⟩
 rw[s]at Q A
 have M:yc (zS (za (yq (za (zb 9) (za (zh 3 zD (za (zb 7) (za (zb 8) (za (eC (.int 1)) ze)))) ze))) (za (yq (za (zb 9) (za (zh 3 zD (za (zb 7) (za (zb 8) (za (eUn Wg (eC (.int 1))) ze)))) ze))) ze))) (visF [.v a,.v (.int z),.v (zm m e),.v (.int p),.v (.lst X),g,f,.v (.int k),.v (.int v),.v (shD k),d])=some i:=by
  rw[<-s]
  exact xN (zdN (ds:=[.tup [shD k,j],.tup [shD k,l]]) (zr (vJ (ds:=[shD k,j]) (zr rfl (zr (zL (ds:=[.int k,.int v,.int 1]) rfl K) z0)) (by show 2<=1000;decide)) (zr (vJ (ds:=[shD k,l]) (zr rfl (zr (zL (ds:=[.int k,.int v,.int (-1)]) rfl F) z0)) (by show 2<=1000;decide)) z0)) (by show 2<=1000;decide))
 refine zo (ρ':=[.v a,.v (.int z),.v (zm m e),.v (.int p),.v i,g,f,.v (.int k),.v (.int v),.v (shD k),d]) (XB M) ?_
 refine yn (ZB (c:=false) (zah (b:=true) (vR (zL (ds:=[Z,i]) (zr (zL (ds:=[.int k,.int v]) rfl E) (zr rfl z0)) Q))) (λz=>by cases z) (λ_=>w3 rfl ?_))
 refine zo (ρ':=[.v a,.v (.int z),.v (zm m e),.v (.int p),.v i,g,f,.v (.int k),.v (.int v),.v (shD k),.v (zm k (wl k.toNat))]) (XB (zfI rfl ⟨by omega,by omega⟩)) ?_
 refine yn (ZB (c:=false) (zah (b:=true) (vR (zL (ds:=[a2,a4]) (zr (zL (ds:=[zm k (wl k.toNat),.int v,i]) rfl A) (zr (zA (x:=Y) (y:=.int 1) (zL (ds:=[.int k]) rfl O) rfl L) z0)) r5))) (λz=>by cases z) (λ_=>w3 rfl ?_))
 have W:=ziT (zgi J (by rw[q.2];omega))
 have N:m<8->zG (m+1) e:=λh=>⟨by omega,by omega,λt U=>by have:=ok.rng t U;omega,ok.srt⟩
 refine ZB (c:=false) (zo1 (vR (zA (x:=.int 5) (y:=.int 5) (zL (ds:=[zm k (wl k.toNat)]) rfl W) rfl rfl)) ?_) (λz=>by cases z) (λ_=>w3 rfl (hI _ _ _ _ _ _ _ _ _))
 have C:tOf (zd ltD (zd ixD (zb 2) (eC (.int 0))) (eC (.int 8))) (visG [.v a,.v (.int z),.v (zm m e),.v (.int p),.v i,g,f,.v (.int k),.v (.int v),.v (shD k),.v (zm k (wl k.toNat))])=some (decide (m<8)):=vR (zA (x:=.int m) (y:=.int 8) rfl rfl rfl)
 by_cases c:m<8
 .rw[j0 c]at C
  have c2:=ziT (zgi (N c) (by omega))
  exact zmg C (vR (zA (x:=.int 5) (y:=.int 5) (zL (ds:=[zm (m+1) e]) rfl c2) rfl rfl))
 .rw[j8 c]at C
  exact zmh C
def zmF (f:D)(z:Int)(o2 S H l k o q s g:Sl)(n b:vc)(r:D->Prop)(I:vc)(hI:∀ o2 S H l k o q s g,I [.v f,.v (.int z),o2,S,H,l,k,o,q,s,g]):(zaU [.v f,.v (.int z),o2,S,H,l,k,o,q,s,g]).w I b n r:=by
 obtain⟨h,ew,ok,U,v⟩:=zfO (c:=z) (mo:=8) (by decide) (by decide)
 obtain⟨m,hm⟩:∃ m:Int,1+z%8=m:=⟨_,rfl⟩
 rw[hm]at ew ok U v
 have a6:=ok.lo
 have a8:=ok.hi
 have Z:h.length<=28:=by omega
 have K:0<m:=zgO a6
 obtain⟨p,N⟩:∃ p:Int,zdf z 1%m=p:=⟨_,rfl⟩
 have J:=vu K N
 obtain⟨F,A,G⟩:=zaE U J
 have R:=zlm ok J A G
 have T:zgY m h F p:=⟨ok,v,J,A,G,R⟩
 obtain⟨tl,et,E,P⟩:=Y6 ok J A G
 obtain⟨L,B,eS⟩:=XZ T U P et E
 have eR:=zcL T Z P E B
 have eB:=zij T P B
 have O:=zcv ok J A G R et E
 have pm:=zay (wq p (vO m h F tl) m.toNat)
 obtain⟨W,hW⟩:∃ W,zdA (zU p (rkN m h F tl) m.toNat)=W:=⟨_,rfl⟩
 rw[hW]at O pm
 have a0:∀ w∈W,zps m w:=λw hw=>by
  obtain⟨u,z,e,a,_,b⟩:=zgW R w (pm.mem_iff.mp hw)
  exact⟨u,z,e,a,b⟩
 obtain⟨V,Y⟩:∃ V,V=if W.isEmpty=true then [[p.toNat]]else W:=⟨_,rfl⟩
 have a5:∀ w∈V,zps m w:=λw hw=>by
  rw[Y]at hw
  split at hw
  .rw[q5.mp hw]
   exact⟨[],p.toNat,rfl,by omega,by show((0:Nat):Int)<m;omega⟩
  .exact a0 w hw
 have e1:=zaO ok U v J (t:=1) (by decide) (by decide) (za0 (t:=1) ok J O Y a5)
 obtain⟨C,C0,Cn,a4,sB⟩:=zf0 (t:=1) ok v J A G R P (by decide) hW Y
 have e3:=zc1 e1
 rw[sB]at e3
 obtain⟨X,Q⟩:∃ X:zk,(if L=[]then []else [.tup [zi (1,1),.lst ((L.map (wf m h F tl)).map yz)]])=X:=⟨_,rfl⟩
 rw[Q]at eS eB
 have M:(L.length:Int)=m-1:=by
  have:=B.pm.length_eq
  rw[k4,k8]at this
  omega
 have a3:zW [.lst X,.lst X]=some (.bl true):=zlL (by
  rw[<-Q]
  by_cases c:L=[]
  .rw[u9 c];rfl
  .rw[t9 c]
   show(okE 4 (.tup [zi (1,1),.lst ((L.map (wf m h F tl)).map yz)])&&true)=true
   show((true&&(((L.map (wf m h F tl)).map yz).all (okE 2)&&true))&&true)=true
   have:((L.map (wf m h F tl)).map yz).all (okE 2)=true:=by
    rw[u1w,f9]
    exact λ_ _=>rfl
   rw[this]
   rfl)
 have a7:X.length<=1:=by
  rw[<-Q]
  split
  .exact g9 _
  .exact t7 _
 unfold zaU
 refine zo (ρ':=[.v f,.v (.int z),.v (zm m h),S,H,l,k,o,q,s,g]) (yW ew) ?_
 refine zo (ρ':=[.v f,.v (.int z),.v (zm m h),.v (.int p),H,l,k,o,q,s,g]) (yW (show wn (.int (zdf z 1)) (.int m)=some (.int p) by rw[wc K,N])) ?_
 have ed:fSl slL (yc (zS (za (yq (za (yq (za (eC (.int 1)) (za (eC (.int 1)) ze))) (za (zh 2 yr (za (zb 2) (za (zb 3) ze))) ze))) ze))) wW (x0 (zd wm (zd ixD (zb 2) (eC (.int 0))) (eC (.int 1)))) (visF [.v f,.v (.int z),.v (zm m h),.v (.int p),H,l,k,o,q,s,g])=some X:=by
  have a1:zh 2 yr (za (zb 2) (za (zb 3) ze)) (visF [.v f,.v (.int z),.v (zm m h),.v (.int p),H,l,k,o,q,s,g])=some (.lst ((L.map (wf m h F tl)).map yz)):=zL (ds:=[_,_]) rfl eR
  have a2:yc (zS (za (yq (za (yq (za (eC (.int 1)) (za (eC (.int 1)) ze))) (za (zh 2 yr (za (zb 2) (za (zb 3) ze))) ze))) ze)) (visF [.v f,.v (.int z),.v (zm m h),.v (.int p),H,l,k,o,q,s,g])=some (.lst [.tup [zi (1,1),.lst ((L.map (wf m h F tl)).map yz)]]):=xN (zdN (zr (vJ (ds:=[zi (1,1),_]) (zr rfl (zr a1 z0)) (by show 2<=1000;decide)) z0) (by show 1<=1000;decide))
  unfold fSl
  rw[a2]
  show some (zaQ [D.tup [zi (1,1),.lst ((L.map (wf m h F tl)).map yz)]] none (some (m-1)))=_
  rw[<-Q]
  congr 1
  have hs:HT.sIx 1 0 none=0:=by rw[HT.sIx_none]
  have hn:(m-1)=(((m-1).toNat:Nat):Int):=by omega
  unfold zaQ
  show(([D.tup [zi (1,1),.lst ((L.map (wf m h F tl)).map yz)]]).drop (HT.sIx 1 0 none)).take (HT.sIx 1 1 (some (m-1))-HT.sIx 1 0 none)=_
  rw[hs,hn,HT.sIx_nat]
  by_cases c:L=[]
  .rw[u9 c]
   have:(m-1).toNat=0:=by rw[c]at M;simp at M;omega
   rw[this]
   rfl
  .rw[t9 c]
   have:1<=(m-1).toNat:=by
    have:0<L.length:=List.length_pos_iff.mpr c
    omega
   rw[Nat.min_eq_right this]
   rfl
 refine zo (ρ':=[.v f,.v (.int z),.v (zm m h),.v (.int p),.v (.lst X),l,k,o,q,s,g]) (XB (xN ed)) ?_
 refine yn (Ys (lo:=0) (c:=2) (λi ρ=>∃ l k,ρ=[.v f,.v (.int z),.v (zm m h),.v (.int p),.v (.lst X),l,k,o,q,s,g]) (vQ (j:=2) (by decide) (by decide)) ⟨_,_,rfl⟩ ?_ ?_)
 .rintro i ρ hi ⟨l,k,rfl⟩
  refine⟨[.v f,.v (.int z),.v (zm m h),.v (.int p),.v (.lst X),.v (.int (0+(i:Int))),k,o,q,s,g],rfl,?_⟩
  unfold zdP
  refine zo (ρ':=[.v f,.v (.int z),.v (zm m h),.v (.int p),.v (.lst X),.v (.int (0+(i:Int))),.o X,o,q,s,g]) (zaY (zkm (ds:=[_,_]) rfl eS)) ?_
  refine yn (ZB (c:=false) (zah (b:=true) (vR (zL (ds:=[.lst X,.lst X]) rfl a3))) (λz=>by cases z) (λ_=>w3 rfl ?_))
  exact w3 (Xj (d:=.non) (ds:=X) rfl rfl (by omega)) ⟨_,_,rfl⟩
 rintro ρ ⟨l,k,rfl⟩
 refine yn (ZB (c:=false) (zah (b:=true) (vR (zL (ds:=[.int (Bd m p tl 0),.int (Bd m p tl 0)]) (zr (zL (ds:=[zm m h,.int p,.lst X]) rfl eB) (zr (zA (x:=.int (Bd m p tl (1-1)+1)) (y:=.int 1) (zL (ds:=[zm m h,.int p,.int 1]) rfl e3) rfl ?_) z0)) (zlL rfl)))) (λz=>by cases z) (λ_=>w3 rfl ?_))
 .show some (D.int (Bd m p tl (1-1)+1-1))=_
  rw[show(1:Int)-1=0 by decide,Int.add_sub_cancel]
 exact zhL _ _ _ _ _ _ _ _ _ _ _ _ _ _ _ _ hI ok v
def zrz:zG 1 []:=⟨by decide,by decide,λt h=>(by cases h),List.Pairwise.nil⟩
def zhO:Zy 1 []:=λp v a b=>⟨0,by
 have e:p=v:=by omega
 subst e
 exact .zero⟩
def zm2:v5 [.tup [.int 1,.tup []],.int 0]=some (.lst []):=by
 obtain⟨i,b,a⟩:=zaE zhO (p:=0) ⟨by decide,by decide⟩
 have h:=zlm zrz (p:=0) ⟨by decide,by decide⟩ b a
 obtain⟨tl,f,c,g⟩:=Y6 zrz (p:=0) ⟨by decide,by decide⟩ b a
 obtain⟨L,B,d⟩:=XZ ⟨zrz,rfl,⟨by decide,by decide⟩,b,a,h⟩ zhO g f c
 have e:L=[]:=by
  have:=B.pm.length_eq
  rw[k4,k8]at this
  exact u0n.mp (by omega)
 rw[u9 e]at d
 show(wY [zm 1 [],.int 0]).map D.lst=_
 rw[d]
 rfl
def zj9:∀ b:zc,b.length<=63->zp6 [.scr b]=some (.bl true):=by
 intro b h
 refine YE (ρ:=[.v (.scr b),.no,.no,.no,.no,.no,.no,.no,.no,.no,.no]) rfl ?_
 unfold zla
 obtain⟨q,n⟩:=zkN (ρ:=[none,none,none,none,none,none,none,none,none,none]) b 8 h
 refine yn (ZN (ds:=q.map .int) (λi ρ=>∃ c l f m o g e j k a,ρ=[.v (.scr b),c,l,f,m,o,g,e,j,k,a]) n ⟨_,_,_,_,_,_,_,_,_,_,rfl⟩ ?_ ?_)
 .rintro i d ρ p ⟨c,l,f,m,o,g,e,j,k,a,rfl⟩
  rw[q0]at p
  obtain⟨z,r,rfl⟩:=u7.mp p
  exact⟨_,rfl,zmF _ _ _ _ _ _ _ _ _ _ _ _ _ _ _ λ_ _ _ _ _ _ _ _ _=>⟨_,_,_,_,_,_,_,_,_,_,rfl⟩⟩
 .rintro ρ ⟨c,l,f,m,o,g,e,j,k,a,rfl⟩
  exact wC (xc (zA (x:=.lst []) (y:=.lst []) (zL (ds:=[.tup [.int 1,.tup []],.int 0]) rfl zm2) rfl rfl)) rfl
def zqh (T:Txt P w K mg base ad):vU P w K mg base CX0 30 (ad.f 58) (ad.e 58) (Rw 58).ps (ziL K):=by
 letI:KK:=⟨K⟩
 have G_ring_need:=zbZ T
 have G_tree_need:=zcC T
 have G_show_bound:=zaK T
 have G_tree_show:=Wk T
 have O_tree_show:=Z9 T
 have G_ring_show:=zcl T
 have G__law_cell_at:=VA T
 have G__law_same:=zcr T
 have G__law_stir:=X7 T
 have G__law_tree_by:=WV T
 have G__law_tree_rows:=XJ T
 have G__law_ring_rows:=XF T
 have G__law_came:=zcW T
 refine(zph (p:=zp6) (zdH (N:=(Rw 58).N) (ps:=(Rw 58).ps) (T.d 58).fn (sc 58) (g:=zla) λa A outer s H E b=>?_) zj9).mono (j:=14) (by decide)
 unfold zla zaU zdP
 apply yG <;> walk_at "s"
 all_goals first | exact(znm (O_tree_show.mono (by decide)) b rfl (T.d 45).at_ (T.d 45).kp (T.d 45).bd (zw (edv 2) (zw (edv 3) yb)))
end
def all_mk {l:W.OpenLaw} {w:World} {K:zz} {h:Heap} {mg:w1} {fa:Addr} (X:K.In h) (G:h.Ns mainGlobals mg) (hfa:mg "law"=some (.ref fa)) {tk0:Tok}
 {sz0 ep0:Nat} {rr0_0 rr0_1 rr0_2 rr0_3 rr0_4:Addr} {hh0_0 hh0_1 hh0_2 hh0_3 hh0_4:Int} {tt0_0 tu0_0_0 tu0_0_1 tt0_1 tu0_1_0 tu0_1_1 tt0_2 tu0_2_0 tu0_2_1 tt0_3 tu0_3_0 tu0_3_1 tt0_4 tu0_4_0 tu0_4_1:Tok} {nn0_0 nn0_1 nn0_2 nn0_3 nn0_4:Nat} {oo0_0 oo0_1 oo0_2 oo0_3 oo0_4:x4} {ss0_0 ss0_1 ss0_2 ss0_3 ss0_4:Array (Option Value)}
 {cc0 pp0 cc1 pp1:Addr}
 (D:∀ r∈rows,Dx K mg ([("outwards",cc0),("ways_from",cc1)]:vD) r) (Z:∀ x∈zs,W.nsIn K mainGlobals x=some none)
 (gg0:W.nsIn K mainGlobals "MOST_PLACES"=some (some (.int 8 tk0)))
 (sa0:W.nsIn K mainGlobals "SIZES"=some (some (.ref sz0))) (sb0:K.lookup sz0=some { cls:=.type "dict",data:=.dict #[{ hash:=hh0_0,key:=.str "row" tt0_0,val:=.ref rr0_0 },{ hash:=hh0_1,key:=.str "ring" tt0_1,val:=.ref rr0_1 },{ hash:=hh0_2,key:=.str "cube" tt0_2,val:=.ref rr0_2 },{ hash:=hh0_3,key:=.str "full" tt0_3,val:=.ref rr0_3 },{ hash:=hh0_4,key:=.str "star" tt0_4,val:=.ref rr0_4 }] ep0 }) (sd0:(sz0 == sysModules)=false)
 (sc0_0:K.lookup rr0_0=some { cls:=.type "tuple",dict:=oo0_0,data:=.seq #[.int 1 tu0_0_0,.int 8 tu0_0_1] nn0_0,slots:=ss0_0 })
 (sc0_1:K.lookup rr0_1=some { cls:=.type "tuple",dict:=oo0_1,data:=.seq #[.int 3 tu0_1_0,.int 8 tu0_1_1] nn0_1,slots:=ss0_1 })
 (sc0_2:K.lookup rr0_2=some { cls:=.type "tuple",dict:=oo0_2,data:=.seq #[.int 0 tu0_2_0,.int 3 tu0_2_1] nn0_2,slots:=ss0_2 })
 (sc0_3:K.lookup rr0_3=some { cls:=.type "tuple",dict:=oo0_3,data:=.seq #[.int 1 tu0_3_0,.int 8 tu0_3_1] nn0_3,slots:=ss0_3 })
 (sc0_4:K.lookup rr0_4=some { cls:=.type "tuple",dict:=oo0_4,data:=.seq #[.int 1 tu0_4_0,.int 7 tu0_4_1] nn0_4,slots:=ss0_4 })
 {xx0 xx1 xx2 xx3 xx4 xx5 xx6 xx7 xx8 xx9 xx10 xx11 xx12 xx13:Addr}
 (xa0:W.nsIn K mainGlobals "NoKind"=some (some (.ref xx0)))
 (xa1:W.nsIn K mainGlobals "NoHeap"=some (some (.ref xx1)))
 (xa2:W.nsIn K mainGlobals "NoPlace"=some (some (.ref xx2)))
 (xa3:W.nsIn K mainGlobals "NoNumber"=some (some (.ref xx3)))
 (xa4:W.nsIn K mainGlobals "NoTally"=some (some (.ref xx4)))
 (xa5:W.nsIn K mainGlobals "NotTree"=some (some (.ref xx5)))
 (xa6:W.nsIn K mainGlobals "NotJoined"=some (some (.ref xx6)))
 (xa7:W.nsIn K mainGlobals "NoWeights"=some (some (.ref xx7)))
 (xa8:W.nsIn K mainGlobals "NoRow"=some (some (.ref xx8)))
 (xa9:W.nsIn K mainGlobals "NoWeb"=some (some (.ref xx9)))
 (xa10:W.nsIn K mainGlobals "NoSteps"=some (some (.ref xx10)))
 (xa11:W.nsIn K mainGlobals "NoText"=some (some (.ref xx11)))
 (xa12:W.nsIn K mainGlobals "TooGreat"=some (some (.ref xx12)))
 (xa13:W.nsIn K mainGlobals "StoneError"=some (some (.ref xx13)))
 (xc2:zax K [xx0,xx1,xx2,xx3,xx4,xx5,xx6,xx7,xx8,xx9,xx10,xx11,xx12] xx13 xx2 2=true)
 (xb2:W.excIn K xx2 bmV "ValueError.__new__"=true)
 (xc5:zax K [xx0,xx1,xx2,xx3,xx4,xx5,xx6,xx7,xx8,xx9,xx10,xx11,xx12] xx13 xx5 5=true)
 (xb5:W.excIn K xx5 bmV "ValueError.__new__"=true)
 : ∃ fd:FuncData,(∀ (s:zj) (v:Value),BindsTo s fd ⟨[v],[]⟩ [("script",v)])/\∀ base:Heap,K.In base->base.Ns mainGlobals mg->(∀ t∈([(cc0,pp0,"outwards.<locals>.<lambda>"),(cc1,pp1,"ways_from.<locals>.<lambda>")]:TL),Xk base mg t.1 t.2.1 t.2.2)->vU l.prog w K mg base CX0 30 fa fd ["script"] (ziL K):=by
 have D':∀ i,Dx K mg ([("outwards",cc0),("ways_from",cc1)]:vD) (Rw i):=zeC D (D _ (j4 (i:=58) rfl))
 have e:=hfa.symm.trans (D' 58).choose_spec.choose_spec.1.at_
 cases e
 have T:∀ base:Heap,(∀ t∈([(cc0,pp0,"outwards.<locals>.<lambda>"),(cc1,pp1,"ways_from.<locals>.<lambda>")]:TL),Xk base mg t.1 t.2.1 t.2.2)->Txt l.prog w K mg base ⟨λi=>(D' i).choose,λi=>(D' i).choose_spec.choose,tk0,sz0,xx0,xx1,xx2,xx3,xx4,xx5,xx6,xx7,xx8,xx9,xx10,xx11,xx12,xx13,cc0,pp0,cc1,pp1⟩:=λbase hL=>⟨λi=>(D' i).choose_spec.choose_spec.1,λx hx=>W.mg_none_of X G (Z x hx)
,
 p9 X G gg0,
 p9 X G sa0,
 λh hK=>⟨sd0,_,_,_,hK _ _ sb0,⟨rfl,rfl,rfl⟩,rfl,(.cons rfl ⟨_,_,rfl,⟨_,hK _ _ sc0_0,rfl,_,rfl⟩,(.cons (.int _ _) (.cons (.int _ _) .nil))⟩ (.cons rfl ⟨_,_,rfl,⟨_,hK _ _ sc0_1,rfl,_,rfl⟩,(.cons (.int _ _) (.cons (.int _ _) .nil))⟩ (.cons rfl ⟨_,_,rfl,⟨_,hK _ _ sc0_2,rfl,_,rfl⟩,(.cons (.int _ _) (.cons (.int _ _) .nil))⟩ (.cons rfl ⟨_,_,rfl,⟨_,hK _ _ sc0_3,rfl,_,rfl⟩,(.cons (.int _ _) (.cons (.int _ _) .nil))⟩ (.cons rfl ⟨_,_,rfl,⟨_,hK _ _ sc0_4,rfl,_,rfl⟩,(.cons (.int _ _) (.cons (.int _ _) .nil))⟩ .nil)))))⟩,
 p9 X G xa0,
 p9 X G xa1,
 p9 X G xa2,
 p9 X G xa3,
 p9 X G xa4,
 p9 X G xa5,
 p9 X G xa6,
 p9 X G xa7,
 p9 X G xa8,
 p9 X G xa9,
 p9 X G xa10,
 p9 X G xa11,
 p9 X G xa12,
 p9 X G xa13,
 xb2,
 xb5,
 xc2,
 xc5,
 (D' 30).choose_spec.choose_spec.2 _ rfl,
 hL _ (.head _),
 (D' 32).choose_spec.choose_spec.2 _ rfl,
 hL _ (.tail _ (.head _))⟩
 exact⟨_,λs v=>zgM (D' 58).choose_spec.choose_spec.1.fn λ_ _ _ _ _ _=>rfl,λbase _ _ hL=>zqh (T base hL)⟩
theorem walk {l:W.OpenLaw}{q:zH}{loose:zJ}{XP:w1->Heap->Prop}{YP:World->Heap->Prop}{d:DefRec}{K:Params->W.Frag}{cc0 pp0 cc1 pp1:Addr}{dd0 dd1:DefRec}(hn:l.most=some 63)(hdf:d.params.defaults=[])
 (hY:∀ (w:World) (h:Heap),YP w h->(K w.params).In h)
 (ht0:∀ w:World,W.tabIn (K w.params) "outwards"=some (cc0,pp0)) (hr0:(PyProof.Rows.recsOf q).find? (λe:DefRec=>e.name == ("outwards":Str))=some dd0)
 (ht1:∀ w:World,W.tabIn (K w.params) "ways_from"=some (cc1,pp1)) (hr1:(PyProof.Rows.recsOf q).find? (λe:DefRec=>e.name == ("ways_from":Str))=some dd1)
 (hq:([(cc0,pp0,"outwards.<locals>.<lambda>"),(cc1,pp1,"ways_from.<locals>.<lambda>")]:TL).all (λt=>(yX ([(cc0,pp0,"outwards.<locals>.<lambda>"),(cc1,pp1,"ways_from.<locals>.<lambda>")]:TL)).lookup t.2.1 == some t.2.2)=true) (hnK:∀ w:World,W.noTabs (K w.params)=true)
 (F:∀ (w:World) (mg:w1) (fa:Addr) (h:Heap),(K w.params).In h->h.Ns mainGlobals mg->mg d.name=some (.ref fa) ->
  ∃ fd:FuncData,(∀ (s:zj) (u:Value),BindsTo s fd ⟨[u],[]⟩ [("script",u)])/\∀ base:Heap,(K w.params).In base->base.Ns mainGlobals mg->(∀ t∈([(cc0,pp0,"outwards.<locals>.<lambda>"),(cc1,pp1,"ways_from.<locals>.<lambda>")]:TL),Xk base mg t.1 t.2.1 t.2.2)->vU l.prog w (K w.params) mg base CX0 30 fa fd ["script"] (ziL (K w.params))) :
 PySem.W.WalkO q loose XP YP l.row.toRowW d [] (λf vs=>PySem.call f vs) :=
 L2.walk_ofL (tl:=([(cc0,pp0,"outwards.<locals>.<lambda>"),(cc1,pp1,"ways_from.<locals>.<lambda>")]:TL)) (n:=63) (k:=30) (x:="script") (CX:=λ_=>CX0) (sp:=λw=>ziL (K w.params)) hn (by decide) hdf ⟨rfl,by decide,by decide⟩ hY hq hnK
  (λw _ mg mb h X T=>u1l.mpr ⟨W.tab_of T X hr0 (ht0 w),u1l.mpr ⟨W.tab_of T X hr1 (ht1 w),λ_ h=>nomatch h⟩⟩) F (λ_ _ a ns hl hS=>⟨a,ns,rfl,hS,hl,λ_=>rfl⟩) λ_ _ _ _ _ z=>z
end Mz
open PySem PySem.W PyProof.Rows
inductive PySem.W.Fast|tw4300081317426192424|tw835315105092611543|tw11277792545516754215|tw13695268074150855618|tw17985427601417386875|tw2394580141111709386|tw10497378700688766563|tw3331175004108225567|tw843262003823362781|tw2054021999603542578|tw10879251060387854822|tw8135273297223265657|tw13136255375939916689|tw11637097176549509648|tw8036073859280278419|tw15448901279073860236|tw3812362464527065084|tw8586674538112074959|tw3722407094705840371|tw10603246372204685723|tw16443086121335995164|tw15179235880294925599|tw6780653780684928724|tw18373992835353364607|tw11397183720057731786|tw9795232142298426879|tw17809417113308883316|tw15356071988792852050|tw16829040291582274415|tw14466342124020161593|tw14190599392418214073|tw3731899092403291300|tw2335815247449368712|tw9243072968742497296|tw2529505215294996818|tw10292332151818455755|tw903589933278252292|tw13424939201418192787|tw5166736031162623299|tw13360671720852280932|tw11058846816733612115|tw8252116715596132322|tw17405012927917565696|tw17981330942074326585|tw14318717300201832175|tw17736535310698667657|tw1924890645249475984|tw15117019374120961369|tw5386941405324353696|tw7659913943675228745|tw14279429572430926913|tw1204250075984916451|tw12318591681849417372|tw17749089819808409462|tw11767824519488675097|tw15955106800237263795|tw8629431222135553032|tw10021436646180998439|tw8953293482302289473|tw4804560482388183567|tw14533421726475143359|tw7233144765537571061|tw7655821762908481616|tw9811772284946989384|tw5399881614112281810|tw16873756113137524138|tw13676430195484280734|tw5788260985791111462|tw2279649845556582385|tw214127480732618971|tw48855378630605418|tw13295692463484522828|tw17478710833766913744|tw766464548789644089|tw9937591024332525259|tw4687357564488048786|tw7535825271993636553|tw3367297504847114755|tw12471601941155567488|tw14376599192680196203|tw3071892079129233025|tw14126358942777762923|tw591002406923030186|tw16003824737514664095|tw2937931272998209642|tw15797729521635002872|tw16417602924370692988|tw12403324585810465208|tw4674027245856145864|tw2342999026285656640|tw5526377629735890311|tw8319880282325816506|tw9259540510596029541|tw3540129705119389350|tw15354225330374977372|tw7454827146305833959|tw1632393597499747846|tw425361778935615451|tw12608224092345859117|tw643298531416447839|tw14358872469921783884|tw10035760499537414564|tw7010897781173328390|tw1470633376865609076|tw145055814832705048|tw18131538010135519790|tw11070618369562345962|tw2152556013744449959|tw6099328563486891325|tw11345732272612581538|tw12251697192865174906|tw18307996873682711822|tw10764508015777234049|tw885560285200374105|tw1509757159181903507|tw2561405184664335765|tw4915333050906455919|tw1282858050519245072|tw4831225398078504808|tw2520725511270323050|tw16813218583124537729|tw7497961914558576348
set_option maxRecDepth 100000 in
set_option maxHeartbeats 0 in
theorem PySem.Challenge.cw_twoforone_k74_whole_shows_of_trees_and_r_holds : PySem.Challenge.rw_twoforone_k74_whole_shows_of_trees_and_r.Holds := by
  w_on;o_law;k_head;(case hw=>w_witness2)
  k_fill
  refine Mz.walk (l:=PySem.Challenge.rw_twoforone_k74_whole_shows_of_trees_and_r) (cc0:=?cc0) (pp0:=?pp0) (dd0:=?dd0) (cc1:=?cc1) (pp1:=?pp1) (dd1:=?dd1) rfl rfl (fun w h Y=>PySem.W.km_in_of Y) ?ht0 ?hr0 ?ht1 ?hr1 ?hq ?hnK ?F
  case ht0 =>
    intro w
    refine' L2.tab_mk ?ta ?tl ?tk ?tc ?tv
    case ta | tl=>k_is
    case tk=>rfl
    case tc=>k_is
    case tv=>rfl
  case ht1 =>
    intro w
    refine' L2.tab_mk ?ta ?tl ?tk ?tc ?tv
    case ta | tl=>k_is
    case tk=>rfl
    case tc=>k_is
    case tv=>rfl
  case hr0=>rfl
  case hr1=>rfl
  case hq=>kernel_rfl
  case hnK =>
    intro w
    kernel_rfl
  case F =>
    intro w mg fa h KX G hmg
    refine' Mz.all_mk KX G hmg ?D ?Z ?gg0 ?sa0 ?sb0 ?sd0 ?sc0_0 ?sc0_1 ?sc0_2 ?sc0_3 ?sc0_4 ?xa0 ?xa1 ?xa2 ?xa3 ?xa4 ?xa5 ?xa6 ?xa7 ?xa8 ?xa9 ?xa10 ?xa11 ?xa12 ?xa13 ?xc2 ?xb2 ?xc5 ?xb5
    case D =>
      repeat
        refine' Dl.Dx_cons (Dl.mkX KX G ?_ ?_ ?_ ?_ ?_ ?_) ?_
        any_goals k_is
        · intro _ _ _ _ _ _ us hl
          repeat' first | rfl | (exfalso;revert hl;simp;done) | (rcases us with _ | ⟨_,us⟩)
        · first | exact .inl rfl | exact .inr ⟨_,rfl,rfl⟩
      exact fun _ h=>nomatch h
    case Z =>
      repeat
        refine' Dl.Z_cons ?_ ?_
        · k_is
      exact fun _ h=>nomatch h
    case gg0 | sa0 | sb0=>k_is
    case sd0=>decide
    case sc0_0 | sc0_1 | sc0_2 | sc0_3 | sc0_4 | xa0 | xa1 | xa2 | xa3 | xa4 | xa5 | xa6 | xa7 | xa8 | xa9 | xa10 | xa11 | xa12 | xa13=>k_is
    case xc2 | xb2 | xc5 | xb5=>kernel_rfl
